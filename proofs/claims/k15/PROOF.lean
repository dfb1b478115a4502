import PyProof.Rows.All
import KE.DataEq
import KE.KEqDict
import PyProof.NeKinds
import PyProof.AutoSeq1
import HandS.ForMost
import HandS.Evl
import HandS.IsInst
import HandS.Wide
import PyProof.ReprRoads
import KE.KeyNested
import KE.KDictWalk
import KE.KDictCopyH
import KE.KDictSum
import HandS.TupAny
import HandS.Deep
import HandS.Codes
import KE.KDictDisplayH
import HandS.More
import KE.SortData
import KE.SortCalls
import HandS.Style
import HandS.ListItems
import HandS.DictTup
import KE.KDictItemsList
import KE.KDictPairs
import KE.GoesMore
import KE.GoesEnum
import HandS.DictComp
import HandS.SetKeys
import HandS.TupSets
import HandS.SetBool
import PySem.Challenge.RW_answerskept_k15_terms_put_in
set_option Elab.async false
set_option linter.all false
set_option maxRecDepth 100000
set_option maxHeartbeats 4000000
/-! == of data with dicts in it against data without dicts. -/
namespace DL
open PySem PySem.Spec PyProof.Rows PySem.SeqAt PySem.MeetsSeq

theorem str_eq_declines_dict (b : Str) (u : Tok) (l : Addr) (c : Value) (es : Array DictEntry) (n : Nat) (dd : Option Addr) (sl : Array (Option Value)) :
    Meets (Builtin.«str.__eq__» ⟨[.str b u, .ref l], []⟩) (fun _ R s => s.heap.get? l = some { cls := c, dict := dd, data := .dict es n, slots := sl } ∧ R (.ok (.ret .notImplemented)) s) :=
  .of_wp fun prog w A R s h => by obtain ⟨hp, g, d, tk, os⟩ := s; obtain ⟨hl, h⟩ := h; wp_walk using AutoSeq1.wpAny_loadPart' hl, wpAny_load hl; exact ⟨_, rfl, h⟩
theorem tuple_eq_declines_dict (l b : Addr) (items : Array Value) (es : Array DictEntry) (n n2 : Nat) (dd dd2 : Option Addr) (sl sl2 : Array (Option Value)) :
    Meets (Builtin.«tuple.__eq__» ⟨[.ref l, .ref b], []⟩) (fun _ R s => s.heap.get? l = some { cls := .type "tuple", dict := dd, data := .seq items n, slots := sl } ∧ s.heap.get? b = some { cls := .type "dict", dict := dd2, data := .dict es n2, slots := sl2 } ∧ R (.ok (.ret .notImplemented)) s) :=
  .of_wp fun prog w A R s h => by obtain ⟨hp, g, d, tk, os⟩ := s; obtain ⟨hl, hb, h⟩ := h; have f1 := F.sub_dict_tuple; wp_walk using AutoSeq1.wpAny_loadPart' hl, AutoSeq1.wpAny_loadPart' hb; exact ⟨_, rfl, h⟩
theorem list_eq_declines_dict (l b : Addr) (items : Array Value) (es : Array DictEntry) (n n2 : Nat) (dd dd2 : Option Addr) (sl sl2 : Array (Option Value)) :
    Meets (Builtin.«list.__eq__» ⟨[.ref l, .ref b], []⟩) (fun _ R s => s.heap.get? l = some { cls := .type "list", dict := dd, data := .seq items n, slots := sl } ∧ s.heap.get? b = some { cls := .type "dict", dict := dd2, data := .dict es n2, slots := sl2 } ∧ R (.ok (.ret .notImplemented)) s) :=
  .of_wp fun prog w A R s h => by obtain ⟨hp, g, d, tk, os⟩ := s; obtain ⟨hl, hb, h⟩ := h; have f1 := F.sub_dict_list; wp_walk using AutoSeq1.wpAny_loadPart' hl, AutoSeq1.wpAny_loadPart' hb; exact ⟨_, rfl, h⟩

theorem str_ne_declines_dict (b : Str) (u : Tok) (l : Addr) (c : Value) (es : Array DictEntry) (n : Nat) (dd : Option Addr) (sl : Array (Option Value)) :
    Meets (Builtin.«str.__ne__» ⟨[.str b u, .ref l], []⟩) (fun _ R s => s.heap.get? l = some { cls := c, dict := dd, data := .dict es n, slots := sl } ∧ R (.ok (.ret .notImplemented)) s) :=
  .of_wp fun prog w A R s h => by obtain ⟨hp, g, d, tk, os⟩ := s; obtain ⟨hl, h⟩ := h; wp_walk using AutoSeq1.wpAny_loadPart' hl, wpAny_load hl; exact ⟨_, rfl, h⟩
theorem tuple_ne_declines_dict (l b : Addr) (items : Array Value) (es : Array DictEntry) (n n2 : Nat) (dd dd2 : Option Addr) (sl sl2 : Array (Option Value)) :
    Meets (Builtin.«tuple.__ne__» ⟨[.ref l, .ref b], []⟩) (fun _ R s => s.heap.get? l = some { cls := .type "tuple", dict := dd, data := .seq items n, slots := sl } ∧ s.heap.get? b = some { cls := .type "dict", dict := dd2, data := .dict es n2, slots := sl2 } ∧ R (.ok (.ret .notImplemented)) s) :=
  .of_wp fun prog w A R s h => by obtain ⟨hp, g, d, tk, os⟩ := s; obtain ⟨hl, hb, h⟩ := h; have f1 := F.sub_dict_tuple; wp_walk using AutoSeq1.wpAny_loadPart' hl, AutoSeq1.wpAny_loadPart' hb; exact ⟨_, rfl, h⟩
section
variable {A : Around} {s : Shared}
/-- a dict in the heap -/
def DictAt (h : Heap) (a : Addr) : Prop := ∃ o es n, h.get? a = some o ∧ o.cls = .type "dict" ∧ o.data = .dict es n
theorem DictAt.ty {l : Addr} (hl : DictAt s.heap l) : s.TypeIs (.ref l) "dict" := by
  obtain ⟨o, es, n, h1, h2, h3⟩ := hl
  exact ⟨o, h1, h2⟩
theorem dict_declines {prog : Program} {w : World} {E : Value → Shared → Prop} {l : Addr} {x : Value} {T : String} (hl : DictAt s.heap l) (ht : s.TypeIs x T) (hsub : isSubtype (.type T) (.type "dict") = pure false) :
    ∀ Q' : Value → Shared → Prop, Q' .notImplemented s → wpAny (model prog w) A (call (.builtin "dict.__eq__") [.ref l, x]) Q' E s := by
  intro Q' hq
  refine wpAny_call_entry F.slot_dict_eq hl.ty F.entry_dict_eq ?_ (F.args_dict_eq_2 _ _)
  show wpAny _ _ (Builtin.Dict.dictSlotArgs "__eq__" ⟨[.ref l, x], []⟩ >>= _) _ _ s
  refine wpAny_bind ?_
  unfold Builtin.Dict.dictSlotArgs
  refine wpAny_bind (wpAny_notOrdered_dict hl.ty ?_)
  show wpAny _ _ (pure (Value.ref l, x)) _ _ s
  refine wpAny_pure ?_
  refine wpAny_bind (wpAny_isInstance (T := T) ht hsub ?_)
  simp only [Bool.not_false, if_true]
  refine wpAny_bind (wpAny_rule ?_)
  exact wpAny_pure ⟨_, rfl, hq⟩
theorem RcAt.dict_x {l : Addr} {x : Value} {T idb : String} (hl : DictAt s.heap l) (hx : s.TypeIs x T) (hne : (Value.type "dict" != Value.type T) = true) (h1 : isSubtype (.type T) (.type "dict") = pure false)
    (hs : Slot T (cmpInfo .Eq).2.2 idb) (hd : ∀ (prog : Program) (w : World) (E : Value → Shared → Prop) (Q' : Value → Shared → Prop), Q' .notImplemented s → wpAny (model prog w) A (call (.builtin idb) [x, .ref l]) Q' E s)
    (hk : ∀ (prog : Program) (w : World) (E : Value → Shared → Prop) (Q' : Bool → Shared → Prop), Q' false s → wpAny (model prog w) A (isSame (.ref l) x) Q' E s) (hu : A.units < cLine) : RcAt A s (.ref l) x false := fun prog w E Q h =>
  rc_eq_decline_or (k := false) hl.ty hx hne h1 F.slot_dict_eq hs (dict_declines hl hx h1) (hd prog w E) (hk prog w E) (.inr hu) h
theorem RcAt.x_dict {l : Addr} {x : Value} {T ida : String} (hl : DictAt s.heap l) (hx : s.TypeIs x T) (hne : (Value.type T != Value.type "dict") = true) (h1 : isSubtype (.type T) (.type "dict") = pure false)
    (h2 : isSubtype (.type "dict") (.type T) = pure false)
    (hs : Slot T (cmpInfo .Eq).2.1 ida) (hd : ∀ (prog : Program) (w : World) (E : Value → Shared → Prop) (Q' : Value → Shared → Prop), Q' .notImplemented s → wpAny (model prog w) A (call (.builtin ida) [x, .ref l]) Q' E s)
    (hk : ∀ (prog : Program) (w : World) (E : Value → Shared → Prop) (Q' : Bool → Shared → Prop), Q' false s → wpAny (model prog w) A (isSame x (.ref l)) Q' E s) (hu : A.units < cLine) : RcAt A s x (.ref l) false := fun prog w E Q h =>
  rc_eq_decline_or (k := false) hx hl.ty hne h2 hs F.slot_dict_eq_refl (hd prog w E) (dict_declines hl hx h1) (hk prog w E) (.inr hu) h
theorem str_decl {prog : Program} {w : World} {E : Value → Shared → Prop} {l : Addr} (b : Str) (u : Tok) (hl : DictAt s.heap l) :
    ∀ Q' : Value → Shared → Prop, Q' .notImplemented s → wpAny (model prog w) A (call (.builtin "str.__eq__") [.str b u, .ref l]) Q' E s := by
  intro Q' hq
  obtain ⟨⟨cls, dd, data, sl⟩, es, n, ho, hc, hd⟩ := id hl
  simp only at hc hd
  subst hc hd
  exact call_meets F.slot_str_eq (typeIs_str s b u) F.entry_str_eq (F.args_str_eq_2 _ _) (str_eq_declines_dict b u l (.type "dict") es n dd sl) ⟨ho, hq⟩
theorem RcAt.dict_str {l : Addr} (b : Str) (u : Tok) (hl : DictAt s.heap l) (hu : A.units < cLine) : RcAt A s (.ref l) (.str b u) false :=
  RcAt.dict_x hl (typeIs_str s b u) (by decide) F.sub_str_dict F.slot_str_eq_refl (fun _ _ _ => str_decl b u hl)
    (fun _ _ _ _ hq => wpAny_of_eq (rfl : isSame (.ref l) (.str b u) = pure false) hq) hu
theorem RcAt.str_dict {l : Addr} (b : Str) (u : Tok) (hl : DictAt s.heap l) (hu : A.units < cLine) : RcAt A s (.str b u) (.ref l) false :=
  RcAt.x_dict hl (typeIs_str s b u) (by decide) F.sub_str_dict F.sub_dict_str F.slot_str_eq (fun _ _ _ => str_decl b u hl)
    (fun _ _ _ _ hq => wpAny_of_eq (rfl : isSame (.str b u) (.ref l) = pure false) hq) hu
theorem ne_dict_tuple {l b : Addr} {items : Array Value} (hl : DictAt s.heap l) (hb : s.heap.IsTuple b items) : l ≠ b := fun e => by
  subst e
  obtain ⟨o, es, n, ho, hc, _⟩ := hl
  obtain ⟨o2, ho2, hc2, _⟩ := hb
  rw [ho] at ho2
  cases ho2
  rw [hc] at hc2
  exact absurd hc2 (by simp)
theorem tup_decl {prog : Program} {w : World} {E : Value → Shared → Prop} {l b : Addr} {items : Array Value} (hl : DictAt s.heap l) (hb : s.heap.IsTuple b items) :
    ∀ Q' : Value → Shared → Prop, Q' .notImplemented s → wpAny (model prog w) A (call (.builtin "tuple.__eq__") [.ref b, .ref l]) Q' E s := by
  intro Q' hq
  obtain ⟨⟨cls, dd, data, sl⟩, es, n, ho, hc, hd⟩ := id hl
  obtain ⟨⟨cls2, dd2, data2, sl2⟩, ho2, hc2, n2, hd2⟩ := id hb
  simp only at hc hd hc2 hd2
  subst hc hd hc2 hd2
  exact call_meets F.slot_tuple_eq ⟨_, ho2, rfl⟩ F.entry_tuple_eq (F.args_tuple_eq_2 _ _) (tuple_eq_declines_dict b l items es n2 n dd2 dd sl2 sl) ⟨ho2, ho, hq⟩
theorem RcAt.dict_tuple {l b : Addr} {items : Array Value} (hl : DictAt s.heap l) (hb : s.heap.IsTuple b items) (hu : A.units < cLine) : RcAt A s (.ref l) (.ref b) false := by
  obtain ⟨o, es, n, ho, hc, hd⟩ := id hl
  obtain ⟨o2, ho2, hc2, n2, hd2⟩ := id hb
  exact RcAt.dict_x hl ⟨_, ho2, hc2⟩ (by decide) F.sub_tuple_dict F.slot_tuple_eq_refl (fun _ _ _ => tup_decl hl hb)
    (fun _ _ _ _ hq => wpAny_isSame_ref_other (ne_dict_tuple hl hb) ho ho2 (by rw [hc]; simp) hq) hu
theorem RcAt.tuple_dict {l b : Addr} {items : Array Value} (hl : DictAt s.heap l) (hb : s.heap.IsTuple b items) (hu : A.units < cLine) : RcAt A s (.ref b) (.ref l) false := by
  obtain ⟨o, es, n, ho, hc, hd⟩ := id hl
  obtain ⟨o2, ho2, hc2, n2, hd2⟩ := id hb
  exact RcAt.x_dict hl ⟨_, ho2, hc2⟩ (by decide) F.sub_tuple_dict F.sub_dict_tuple F.slot_tuple_eq (fun _ _ _ => tup_decl hl hb)
    (fun _ _ _ _ hq => wpAny_isSame_ref_other' (ne_dict_tuple hl hb).symm ho2 ho (by rw [hc]; simp) hq) hu
theorem RcAt.eqAt {x y : Value} {c : Bool} (hxy : (∃ l b u, x = .ref l ∧ y = .str b u) ∨ (∃ l b u, y = .ref l ∧ x = .str b u) ∨ ∃ l b, x = .ref l ∧ y = .ref b ∧ l ≠ b) (h : RcAt A s x y c) : EqAt A s x y c := by
  rcases hxy with ⟨l, b, u, rfl, rfl⟩ | ⟨l, b, u, rfl, rfl⟩ | ⟨l, b, rfl, rfl, ne⟩
  · intro prog w E Q hq
    unfold eqBool
    refine wpAny_holding ?_
    refine wpAny_ite_split (fun hab => absurd (eq_of_beq hab) nofun) (fun _ => ?_)
    exact wpAny_bind (h prog w E _ (wpAny_truthy_bool hq))
  · intro prog w E Q hq
    unfold eqBool
    refine wpAny_holding ?_
    refine wpAny_ite_split (fun hab => absurd (eq_of_beq hab) nofun) (fun _ => ?_)
    exact wpAny_bind (h prog w E _ (wpAny_truthy_bool hq))
  · exact .of_refs ne h
theorem dict_declinesN {prog : Program} {w : World} {E : Value → Shared → Prop} {l : Addr} {x : Value} {T : String} (hl : DictAt s.heap l) (ht : s.TypeIs x T) (hsub : isSubtype (.type T) (.type "dict") = pure false) :
    ∀ Q' : Value → Shared → Prop, Q' .notImplemented s → wpAny (model prog w) A (call (.builtin "dict.__ne__") [.ref l, x]) Q' E s := by
  intro Q' hq
  refine wpAny_call_entry F.slot_dict_ne hl.ty F.entry_dict_ne ?_ (F.args_dict_ne_2 _ _)
  show wpAny _ _ (Builtin.Dict.dictSlotArgs "__ne__" ⟨[.ref l, x], []⟩ >>= _) _ _ s
  refine wpAny_bind ?_
  unfold Builtin.Dict.dictSlotArgs
  refine wpAny_bind (wpAny_notOrdered_dict hl.ty ?_)
  show wpAny _ _ (pure (Value.ref l, x)) _ _ s
  refine wpAny_pure ?_
  refine wpAny_bind (wpAny_isInstance (T := T) ht hsub ?_)
  simp only [Bool.not_false, if_true]
  refine wpAny_bind (wpAny_rule ?_)
  exact wpAny_pure ⟨_, rfl, hq⟩
theorem RcNeAt.dict_x {l : Addr} {x : Value} {T idb : String} (hl : DictAt s.heap l) (hx : s.TypeIs x T) (hne : (Value.type "dict" != Value.type T) = true) (h1 : isSubtype (.type T) (.type "dict") = pure false)
    (hs : Slot T (cmpInfo .NotEq).2.2 idb) (hd : ∀ (prog : Program) (w : World) (E : Value → Shared → Prop) (Q' : Value → Shared → Prop), Q' .notImplemented s → wpAny (model prog w) A (call (.builtin idb) [x, .ref l]) Q' E s)
    (hk : ∀ (prog : Program) (w : World) (E : Value → Shared → Prop) (Q' : Bool → Shared → Prop), Q' false s → wpAny (model prog w) A (isSame (.ref l) x) Q' E s) (hu : A.units < cLine) : RcNeAt A s (.ref l) x true := fun prog w E Q h =>
  rc_ne_decline_or (k := false) hl.ty hx hne h1 F.slot_dict_ne hs (dict_declinesN hl hx h1) (hd prog w E) (hk prog w E) (.inr hu) h
theorem RcNeAt.x_dict {l : Addr} {x : Value} {T ida : String} (hl : DictAt s.heap l) (hx : s.TypeIs x T) (hne : (Value.type T != Value.type "dict") = true) (h1 : isSubtype (.type T) (.type "dict") = pure false)
    (h2 : isSubtype (.type "dict") (.type T) = pure false)
    (hs : Slot T (cmpInfo .NotEq).2.1 ida) (hd : ∀ (prog : Program) (w : World) (E : Value → Shared → Prop) (Q' : Value → Shared → Prop), Q' .notImplemented s → wpAny (model prog w) A (call (.builtin ida) [x, .ref l]) Q' E s)
    (hk : ∀ (prog : Program) (w : World) (E : Value → Shared → Prop) (Q' : Bool → Shared → Prop), Q' false s → wpAny (model prog w) A (isSame x (.ref l)) Q' E s) (hu : A.units < cLine) : RcNeAt A s x (.ref l) true := fun prog w E Q h =>
  rc_ne_decline_or (k := false) hx hl.ty hne h2 hs F.slot_dict_ne_refl (hd prog w E) (dict_declinesN hl hx h1) (hk prog w E) (.inr hu) h
theorem str_declN {prog : Program} {w : World} {E : Value → Shared → Prop} {l : Addr} (b : Str) (u : Tok) (hl : DictAt s.heap l) :
    ∀ Q' : Value → Shared → Prop, Q' .notImplemented s → wpAny (model prog w) A (call (.builtin "str.__ne__") [.str b u, .ref l]) Q' E s := by
  intro Q' hq
  obtain ⟨⟨cls, dd, data, sl⟩, es, n, ho, hc, hd⟩ := id hl
  simp only at hc hd
  subst hc hd
  exact call_meets F.slot_str_ne (typeIs_str s b u) F.entry_str_ne (F.args_str_ne_2 _ _) (str_ne_declines_dict b u l (.type "dict") es n dd sl) ⟨ho, hq⟩
theorem RcNeAt.dict_str {l : Addr} (b : Str) (u : Tok) (hl : DictAt s.heap l) (hu : A.units < cLine) : RcNeAt A s (.ref l) (.str b u) true :=
  RcNeAt.dict_x hl (typeIs_str s b u) (by decide) F.sub_str_dict F.slot_str_ne_refl (fun _ _ _ => str_declN b u hl)
    (fun _ _ _ _ hq => wpAny_of_eq (rfl : isSame (.ref l) (.str b u) = pure false) hq) hu
theorem RcNeAt.str_dict {l : Addr} (b : Str) (u : Tok) (hl : DictAt s.heap l) (hu : A.units < cLine) : RcNeAt A s (.str b u) (.ref l) true :=
  RcNeAt.x_dict hl (typeIs_str s b u) (by decide) F.sub_str_dict F.sub_dict_str F.slot_str_ne (fun _ _ _ => str_declN b u hl)
    (fun _ _ _ _ hq => wpAny_of_eq (rfl : isSame (.str b u) (.ref l) = pure false) hq) hu
theorem tup_declN {prog : Program} {w : World} {E : Value → Shared → Prop} {l b : Addr} {items : Array Value} (hl : DictAt s.heap l) (hb : s.heap.IsTuple b items) :
    ∀ Q' : Value → Shared → Prop, Q' .notImplemented s → wpAny (model prog w) A (call (.builtin "tuple.__ne__") [.ref b, .ref l]) Q' E s := by
  intro Q' hq
  obtain ⟨⟨cls, dd, data, sl⟩, es, n, ho, hc, hd⟩ := id hl
  obtain ⟨⟨cls2, dd2, data2, sl2⟩, ho2, hc2, n2, hd2⟩ := id hb
  simp only at hc hd hc2 hd2
  subst hc hd hc2 hd2
  exact call_meets F.slot_tuple_ne ⟨_, ho2, rfl⟩ F.entry_tuple_ne (F.args_tuple_ne_2 _ _) (tuple_ne_declines_dict b l items es n2 n dd2 dd sl2 sl) ⟨ho2, ho, hq⟩
theorem RcNeAt.dict_tuple {l b : Addr} {items : Array Value} (hl : DictAt s.heap l) (hb : s.heap.IsTuple b items) (hu : A.units < cLine) : RcNeAt A s (.ref l) (.ref b) true := by
  obtain ⟨o, es, n, ho, hc, hd⟩ := id hl
  obtain ⟨o2, ho2, hc2, n2, hd2⟩ := id hb
  exact RcNeAt.dict_x hl ⟨_, ho2, hc2⟩ (by decide) F.sub_tuple_dict F.slot_tuple_ne_refl (fun _ _ _ => tup_declN hl hb)
    (fun _ _ _ _ hq => wpAny_isSame_ref_other (ne_dict_tuple hl hb) ho ho2 (by rw [hc]; simp) hq) hu
theorem RcNeAt.tuple_dict {l b : Addr} {items : Array Value} (hl : DictAt s.heap l) (hb : s.heap.IsTuple b items) (hu : A.units < cLine) : RcNeAt A s (.ref b) (.ref l) true := by
  obtain ⟨o, es, n, ho, hc, hd⟩ := id hl
  obtain ⟨o2, ho2, hc2, n2, hd2⟩ := id hb
  exact RcNeAt.x_dict hl ⟨_, ho2, hc2⟩ (by decide) F.sub_tuple_dict F.sub_dict_tuple F.slot_tuple_ne (fun _ _ _ => tup_declN hl hb)
    (fun _ _ _ _ hq => wpAny_isSame_ref_other' (ne_dict_tuple hl hb).symm ho2 ho (by rw [hc]; simp) hq) hu
end
end DL

/-! == of any data against texts and tuples of texts. -/
namespace DL
open PySem PySem.Spec PyProof.Rows PySem.SeqAt PySem.MeetsSeq

mutual
/-- only texts, and tuples of such -/
def txt : PyData → Bool
  | .str _ => true
  | .tuple xs => txtAll xs
  | _ => false
def txtAll : List PyData → Bool
  | [] => true
  | x :: xs => txt x && txtAll xs
end
mutual
theorem txt_plain : ∀ d : PyData, txt d = true → d.plain = true
  | .none, h => nomatch h
  | .bool _, h => nomatch h
  | .int _, h => nomatch h
  | .list _, h => nomatch h
  | .dict _, h => nomatch h
  | .str _, _ => rfl
  | .tuple xs, h => txtAll_plain xs h
theorem txtAll_plain : ∀ xs : List PyData, txtAll xs = true → PyData.plainAll xs = true
  | [], _ => rfl
  | x :: xs, h => by
    have h' : txt x = true ∧ txtAll xs = true := by simpa [txtAll] using h
    simp only [PyData.plainAll, txt_plain x h'.1, txtAll_plain xs h'.2, Bool.and_self]
end
theorem dictAt_of {h : Heap} {a : Addr} {o : Obj} {es : Array DictEntry} {n : Nat} (h1 : h.get? a = some o) (h2 : o.cls = .type "dict") (h3 : o.data = .dict es n) : DictAt h a := ⟨o, es, n, h1, h2, h3⟩

mutual
theorem eqAt_r : ∀ (da db : PyData) (A : Around) (s : Shared) (a b : Value) (as bs : List Addr), Reads s.heap a da as → Reads s.heap b db bs → txt db = true →
    A.units + min da.depth db.depth < cLine → EqAt A s a b (PyData.eqv da db)
  | da, .none, _, _, _, _, _, _, _, _, h, _ => nomatch h
  | da, .bool _, _, _, _, _, _, _, _, _, h, _ => nomatch h
  | da, .int _, _, _, _, _, _, _, _, _, h, _ => nomatch h
  | da, .list _, _, _, _, _, _, _, _, _, h, _ => nomatch h
  | da, .dict _, _, _, _, _, _, _, _, _, h, _ => nomatch h
  | da, .str y, A, s, _, _, _, _, ra, rb, _, hu => by
    cases rb with
    | str _ u =>
      cases ra with
      | none => exact EqAt.none_str y u
      | bool x => exact EqAt.bool_str x y u
      | int x t => exact EqAt.int_str x t y u
      | str x t => exact EqAt.str_str x t y u
      | list k1 k2 k3 k4 => exact EqAt.list_str y u ⟨_, k1, k2, _, k3⟩ (room_here hu)
      | tuple k1 k2 k3 k4 => exact EqAt.tuple_str y u ⟨_, k1, k2, _, k3⟩ (room_here hu)
      | dict k1 k2 k3 k4 k5 => exact RcAt.eqAt (.inl ⟨_, _, _, rfl, rfl⟩) (RcAt.dict_str y u (dictAt_of k1 k2 k3) (room_here hu))
  | da, .tuple ys, A, s, _, _, _, _, ra, rb, ht, hu => by
    cases rb with
    | @tuple l' o' vs' n' _ bs₁ k1 k2 k3 k4 =>
      have hl' : s.heap.IsTuple l' vs' := ⟨_, k1, k2, _, k3⟩
      cases ra with
      | none => exact EqAt.none_tuple hl' (room_here hu)
      | bool x => exact EqAt.bool_tuple x hl' (room_here hu)
      | int x t => exact EqAt.int_tuple x t hl' (room_here hu)
      | str x t => exact EqAt.str_tuple x t hl' (room_here hu)
      | list h1 h2 h3 h4 => exact EqAt.list_tuple ⟨_, h1, h2, _, h3⟩ hl' (room_here hu)
      | dict h1 h2 h3 h4 h5 => exact RcAt.eqAt (.inr (.inr ⟨_, _, rfl, rfl, ne_dict_tuple (dictAt_of h1 h2 h3) hl'⟩)) (RcAt.dict_tuple (dictAt_of h1 h2 h3) hl' (room_here hu))
      | @tuple l o vs n xs as₁ h1 h2 h3 h4 =>
        have hl : s.heap.IsTuple l vs := ⟨_, h1, h2, _, h3⟩
        have n1 : vs.size = xs.length := by simpa using ReadsAll.length _ _ _ h4
        have n2 : vs'.size = ys.length := by simpa using ReadsAll.length _ _ _ k4
        show EqAt A s (.ref l) (.ref l') (PyData.eqvAll xs ys)
        by_cases hll : l = l'
        · subst hll
          have e : PyData.tuple ys = PyData.tuple xs := plain_unique (.tuple ys) (.tuple xs) _ _ _ (txt_plain _ ht) (.tuple k1 k2 k3 k4) (.tuple h1 h2 h3 h4)
          injection e with e
          subst e
          rw [eqvAll_refl_plain ys (txtAll_plain _ ht)]
          exact EqAt.same _
        · rw [← eqvAll_eq xs ys, ← n1, ← n2]
          refine EqAt.of_refs hll (RcAt.tuples hl hl' (room_here hu) fun j j1 j2 => ?_)
          have := eqAt_rAll xs ys A.in1 s vs.toList vs'.toList _ _ h4 k4 ht (room_in hu) j (by simpa using j1) (by simpa using j2)
          simpa using this
theorem eqAt_rAll : ∀ (xs ys : List PyData) (A : Around) (s : Shared) (vs ws : List Value) (as bs : List Addr), ReadsAll s.heap vs xs as → ReadsAll s.heap ws ys bs → txtAll ys = true →
    A.units + min (PyData.depthAll xs) (PyData.depthAll ys) < cLine → ∀ j (h1 : j < vs.length) (h2 : j < ws.length), EqAt A s vs[j] ws[j] (pairEq xs ys j)
  | [], _, _, _, _, _, _, _, ra, _, _, _, j, h1, _ => by cases ra; exact absurd h1 (Nat.not_lt_zero _)
  | _ :: _, [], _, _, _, _, _, _, _, rb, _, _, j, _, h2 => by cases rb; exact absurd h2 (Nat.not_lt_zero _)
  | x :: xs, y :: ys, A, s, _, _, _, _, ra, rb, hb, hu, j, h1, h2 => by
    have hb' : txt y = true ∧ txtAll ys = true := by simpa [txtAll] using hb
    cases ra with
    | cons r rs =>
      cases rb with
      | cons r' rs' =>
        cases j with
        | zero => exact eqAt_r x y A s _ _ _ _ r r' hb'.1 (room_head hu)
        | succ j => exact eqAt_rAll xs ys A s _ _ _ _ rs rs' hb'.2 (room_tail hu) j (Nat.lt_of_succ_lt_succ h1) (Nat.lt_of_succ_lt_succ h2)
end
mutual
theorem eqAt_l : ∀ (db da : PyData) (A : Around) (s : Shared) (b a : Value) (bs as : List Addr), Reads s.heap b db bs → Reads s.heap a da as → txt db = true →
    A.units + min db.depth da.depth < cLine → EqAt A s b a (PyData.eqv db da)
  | .none, _, _, _, _, _, _, _, _, _, h, _ => nomatch h
  | .bool _, _, _, _, _, _, _, _, _, _, h, _ => nomatch h
  | .int _, _, _, _, _, _, _, _, _, _, h, _ => nomatch h
  | .list _, _, _, _, _, _, _, _, _, _, h, _ => nomatch h
  | .dict _, _, _, _, _, _, _, _, _, _, h, _ => nomatch h
  | .str y, da, A, s, _, _, _, _, rb, ra, _, hu => by
    cases rb with
    | str _ u =>
      cases ra with
      | none => exact EqAt.str_none y u
      | bool x => exact EqAt.str_bool y u x
      | int x t => exact EqAt.str_int y u x t
      | str x t => exact EqAt.str_str y u x t
      | list k1 k2 k3 k4 => exact EqAt.str_list y u ⟨_, k1, k2, _, k3⟩ (room_here hu)
      | tuple k1 k2 k3 k4 => exact EqAt.str_tuple y u ⟨_, k1, k2, _, k3⟩ (room_here hu)
      | dict k1 k2 k3 k4 k5 => exact RcAt.eqAt (.inr (.inl ⟨_, _, _, rfl, rfl⟩)) (RcAt.str_dict y u (dictAt_of k1 k2 k3) (room_here hu))
  | .tuple ys, da, A, s, _, _, _, _, rb, ra, ht, hu => by
    cases rb with
    | @tuple l' o' vs' n' _ bs₁ k1 k2 k3 k4 =>
      have hl' : s.heap.IsTuple l' vs' := ⟨_, k1, k2, _, k3⟩
      cases ra with
      | none => exact EqAt.tuple_none hl' (room_here hu)
      | bool x => exact EqAt.tuple_bool x hl' (room_here hu)
      | int x t => exact EqAt.tuple_int x t hl' (room_here hu)
      | str x t => exact EqAt.tuple_str x t hl' (room_here hu)
      | list h1 h2 h3 h4 => exact EqAt.tuple_list hl' ⟨_, h1, h2, _, h3⟩ (room_here hu)
      | dict h1 h2 h3 h4 h5 => exact RcAt.eqAt (.inr (.inr ⟨_, _, rfl, rfl, (ne_dict_tuple (dictAt_of h1 h2 h3) hl').symm⟩)) (RcAt.tuple_dict (dictAt_of h1 h2 h3) hl' (room_here hu))
      | @tuple l o vs n xs as₁ h1 h2 h3 h4 =>
        have hl : s.heap.IsTuple l vs := ⟨_, h1, h2, _, h3⟩
        have n1 : vs.size = xs.length := by simpa using ReadsAll.length _ _ _ h4
        have n2 : vs'.size = ys.length := by simpa using ReadsAll.length _ _ _ k4
        show EqAt A s (.ref l') (.ref l) (PyData.eqvAll ys xs)
        by_cases hll : l' = l
        · subst hll
          have e : PyData.tuple ys = PyData.tuple xs := plain_unique (.tuple ys) (.tuple xs) _ _ _ (txt_plain _ ht) (.tuple k1 k2 k3 k4) (.tuple h1 h2 h3 h4)
          injection e with e
          subst e
          rw [eqvAll_refl_plain ys (txtAll_plain _ ht)]
          exact EqAt.same _
        · rw [← eqvAll_eq ys xs, ← n1, ← n2]
          refine EqAt.of_refs hll (RcAt.tuples hl' hl (room_here hu) fun j j1 j2 => ?_)
          have := eqAt_lAll ys xs A.in1 s vs'.toList vs.toList _ _ k4 h4 ht (room_in hu) j (by simpa using j1) (by simpa using j2)
          simpa using this
theorem eqAt_lAll : ∀ (ys xs : List PyData) (A : Around) (s : Shared) (ws vs : List Value) (bs as : List Addr), ReadsAll s.heap ws ys bs → ReadsAll s.heap vs xs as → txtAll ys = true →
    A.units + min (PyData.depthAll ys) (PyData.depthAll xs) < cLine → ∀ j (h1 : j < ws.length) (h2 : j < vs.length), EqAt A s ws[j] vs[j] (pairEq ys xs j)
  | [], _, _, _, _, _, _, _, ra, _, _, _, j, h1, _ => by cases ra; exact absurd h1 (Nat.not_lt_zero _)
  | _ :: _, [], _, _, _, _, _, _, _, rb, _, _, j, _, h2 => by cases rb; exact absurd h2 (Nat.not_lt_zero _)
  | y :: ys, x :: xs, A, s, _, _, _, _, rb, ra, hb, hu, j, h1, h2 => by
    have hb' : txt y = true ∧ txtAll ys = true := by simpa [txtAll] using hb
    cases ra with
    | cons r rs =>
      cases rb with
      | cons r' rs' =>
        cases j with
        | zero => exact eqAt_l y x A s _ _ _ _ r' r hb'.1 (room_head hu)
        | succ j => exact eqAt_lAll ys xs A s _ _ _ _ rs' rs hb'.2 (room_tail hu) j (Nat.lt_of_succ_lt_succ h1) (Nat.lt_of_succ_lt_succ h2)
end
/-- at the top -/
theorem rcAt_r {da db : PyData} {A : Around} {s : Shared} {a b : Value} {as bs : List Addr} (ra : Reads s.heap a da as) (rb : Reads s.heap b db bs) (ht : txt db = true)
    (hu : A.units + min da.depth db.depth < cLine) : RcAt A s a b (PyData.eqv da db) := by
  cases rb with
  | none => exact nomatch ht
  | bool _ => exact nomatch ht
  | int _ _ => exact nomatch ht
  | list _ _ _ _ => exact nomatch ht
  | dict _ _ _ _ _ => exact nomatch ht
  | str y u =>
    cases ra with
    | none => exact RcAt.none_str y u
    | bool x => exact RcAt.bool_str x y u
    | int x t => exact RcAt.int_str x t y u
    | str x t => exact RcAt.str_str x t y u
    | list k1 k2 k3 k4 => exact RcAt.list_str y u ⟨_, k1, k2, _, k3⟩ (room_here hu)
    | tuple k1 k2 k3 k4 => exact RcAt.tuple_str y u ⟨_, k1, k2, _, k3⟩ (room_here hu)
    | dict k1 k2 k3 k4 k5 => exact RcAt.dict_str y u (dictAt_of k1 k2 k3) (room_here hu)
  | @tuple l' o' vs' n' ys bs₁ k1 k2 k3 k4 =>
    have hl' : s.heap.IsTuple l' vs' := ⟨_, k1, k2, _, k3⟩
    cases ra with
    | none => exact RcAt.none_tuple hl' (room_here hu)
    | bool x => exact RcAt.bool_tuple x hl' (room_here hu)
    | int x t => exact RcAt.int_tuple x t hl' (room_here hu)
    | str x t => exact RcAt.str_tuple x t hl' (room_here hu)
    | list h1 h2 h3 h4 => exact RcAt.list_tuple ⟨_, h1, h2, _, h3⟩ hl' (room_here hu)
    | dict h1 h2 h3 h4 h5 => exact RcAt.dict_tuple (dictAt_of h1 h2 h3) hl' (room_here hu)
    | @tuple l o vs n xs as₁ h1 h2 h3 h4 =>
      have hl : s.heap.IsTuple l vs := ⟨_, h1, h2, _, h3⟩
      have n1 : vs.size = xs.length := by simpa using ReadsAll.length _ _ _ h4
      have n2 : vs'.size = ys.length := by simpa using ReadsAll.length _ _ _ k4
      have he : ∀ j (j1 : j < vs.size) (j2 : j < vs'.size), EqAt A.in1 s vs[j] vs'[j] (pairEq xs ys j) := fun j j1 j2 => by
        have := eqAt_rAll xs ys A.in1 s vs.toList vs'.toList _ _ h4 k4 ht (room_in hu) j (by simpa using j1) (by simpa using j2)
        simpa using this
      show RcAt A s (.ref l) (.ref l') (PyData.eqvAll xs ys)
      rw [← eqvAll_eq xs ys, ← n1, ← n2]
      exact RcAt.tuples hl hl' (room_here hu) he
theorem rcNeAt_r {da db : PyData} {A : Around} {s : Shared} {a b : Value} {as bs : List Addr} (ra : Reads s.heap a da as) (rb : Reads s.heap b db bs) (ht : txt db = true)
    (hu : A.units + min da.depth db.depth < cLine) : RcNeAt A s a b (!PyData.eqv da db) := by
  cases rb with
  | none => exact nomatch ht
  | bool _ => exact nomatch ht
  | int _ _ => exact nomatch ht
  | list _ _ _ _ => exact nomatch ht
  | dict _ _ _ _ _ => exact nomatch ht
  | str y u =>
    cases ra with
    | none => exact RcNeAt.none_str y u
    | bool x => exact RcNeAt.bool_str x y u
    | int x t => exact RcNeAt.int_str x t y u
    | str x t => exact RcNeAt.str_str x t y u
    | list k1 k2 k3 k4 => exact RcNeAt.list_str y u ⟨_, k1, k2, _, k3⟩ (room_here hu)
    | tuple k1 k2 k3 k4 => exact RcNeAt.tuple_str y u ⟨_, k1, k2, _, k3⟩ (room_here hu)
    | dict k1 k2 k3 k4 k5 => exact RcNeAt.dict_str y u (dictAt_of k1 k2 k3) (room_here hu)
  | @tuple l' o' vs' n' ys bs₁ k1 k2 k3 k4 =>
    have hl' : s.heap.IsTuple l' vs' := ⟨_, k1, k2, _, k3⟩
    cases ra with
    | none => exact RcNeAt.none_tuple hl' (room_here hu)
    | bool x => exact RcNeAt.bool_tuple x hl' (room_here hu)
    | int x t => exact RcNeAt.int_tuple x t hl' (room_here hu)
    | str x t => exact RcNeAt.str_tuple x t hl' (room_here hu)
    | list h1 h2 h3 h4 => exact RcNeAt.list_tuple ⟨_, h1, h2, _, h3⟩ hl' (room_here hu)
    | dict h1 h2 h3 h4 h5 => exact RcNeAt.dict_tuple (dictAt_of h1 h2 h3) hl' (room_here hu)
    | @tuple l o vs n xs as₁ h1 h2 h3 h4 =>
      have hl : s.heap.IsTuple l vs := ⟨_, h1, h2, _, h3⟩
      have n1 : vs.size = xs.length := by simpa using ReadsAll.length _ _ _ h4
      have n2 : vs'.size = ys.length := by simpa using ReadsAll.length _ _ _ k4
      have he : ∀ j (j1 : j < vs.size) (j2 : j < vs'.size), EqAt A.in1 s vs[j] vs'[j] (pairEq xs ys j) := fun j j1 j2 => by
        have := eqAt_rAll xs ys A.in1 s vs.toList vs'.toList _ _ h4 k4 ht (room_in hu) j (by simpa using j1) (by simpa using j2)
        simpa using this
      show RcNeAt A s (.ref l) (.ref l') (!PyData.eqvAll xs ys)
      rw [← eqvAll_eq xs ys, ← n1, ← n2]
      exact RcNeAt.tuples hl hl' (room_here hu) he
theorem depthAll_mem : ∀ {xs : List PyData} {d : PyData}, d ∈ xs → d.depth ≤ PyData.depthAll xs
  | x :: xs, d, h => by
    rw [PyData.depthAll]
    rcases List.mem_cons.mp h with e | e
    · subst e; exact Nat.le_max_left _ _
    · exact Nat.le_trans (depthAll_mem e) (Nat.le_max_right _ _)
theorem readsAll_mem_txt {h : Heap} : ∀ (xs : List PyData) (vs : List Value) (as : List Addr), txtAll xs = true → ReadsAll h vs xs as → ∀ y ∈ vs, ∃ d bs, Reads h y d bs ∧ txt d = true ∧ d.depth ≤ PyData.depthAll xs
  | [], _, _, _, r, y, hy => by cases r; cases hy
  | x :: xs, _, _, hc, r, y, hy => by
    have hc' : txt x = true ∧ txtAll xs = true := by simpa [txtAll] using hc
    cases r with
    | cons r1 r2 =>
      rcases List.mem_cons.mp hy with rfl | hy
      · exact ⟨x, _, r1, hc'.1, Nat.le_max_left _ _⟩
      · obtain ⟨d, bs, rd, hd, hle⟩ := readsAll_mem_txt xs _ _ hc'.2 r2 y hy
        exact ⟨d, bs, rd, hd, Nat.le_trans hle (Nat.le_max_right _ _)⟩
/-- what is looked through: things without dicts for one without; texts and tuples of such for any -/
def inMore (d : PyData) (ds : List PyData) : Bool := ((d.plain && PyData.plainAll ds) || txtAll ds) && decide (PyData.depthAll ds ≤ 60)
theorem inMore_plain {d : PyData} {ds : List PyData} (h : inMore d ds = true) : PyData.plainAll ds = true ∧ PyData.depthAll ds ≤ 60 := by
  unfold inMore at h
  simp only [Bool.and_eq_true, Bool.or_eq_true, decide_eq_true_eq] at h
  rcases h with ⟨h | h, h2⟩
  · exact ⟨h.2, h2⟩
  · exact ⟨txtAll_plain _ h, h2⟩
section
variable {prog : Program} {w : World} {A : Around} {E : Value → Shared → Prop} {s : Shared}
theorem items_more {vs : Array Value} {xs : List PyData} {as bs : List Addr} {x : Value} {d : PyData} (rs : ReadsAll s.heap vs.toList xs as) (rx : Reads s.heap x d bs) (h : inMore d xs = true)
    (hu : A.units + 64 < cLine) : ∀ y, y ∈ vs → EqAt A.in1 s y x (PyData.eqv (readOf s.heap y) d) := fun y hy => by
  have hp := inMore_plain h
  unfold inMore at h
  simp only [Bool.and_eq_true, Bool.or_eq_true, decide_eq_true_eq] at h
  rcases h with ⟨h | h, h2⟩
  · refine items_plain rs rx h.2 h.1 ?_ y hy
    have : min (PyData.depthAll xs) d.depth ≤ 60 := Nat.le_trans (Nat.min_le_left _ _) h2
    omega
  · obtain ⟨dy, cs, ry, hcy, hle⟩ := readsAll_mem_txt xs _ _ h rs y (by simpa using hy)
    rw [readOf_plain (txt_plain _ hcy) ry]
    refine eqAt_l dy d A.in1 s y x _ _ ry rx hcy ?_
    have h1 : min dy.depth d.depth ≤ 60 := Nat.le_trans (Nat.min_le_left _ _) (Nat.le_trans hle h2)
    show A.units + 1 + min dy.depth d.depth < cLine
    omega
theorem in_more {c x : Value} {xs : List PyData} {e d : PyData} {as bs : List Addr} {Q : Value → Shared → Prop} (hc : e = .list xs ∨ e = .tuple xs) (rc : Reads s.heap c e as) (rx : Reads s.heap x d bs) (h : inMore d xs = true)
    (hu : A.units + 64 < cLine) (hq : Q (.bool (xs.any fun y => PyData.eqv y d)) s) : wpAny (model prog w) A (compareOp .In x c) Q E s := by
  have hp := (inMore_plain h).1
  rcases hc with rfl | rfl
  · cases rc with
    | list h1 h2 h3 h4 => exact in_listAt _ ⟨_, h1, h2, _, h3⟩ (items_more h4 rx h hu) (by rw [any_plain h4 hp]; exact hq)
  · cases rc with
    | tuple h1 h2 h3 h4 => exact in_tupleAt _ ⟨_, h1, h2, _, h3⟩ (items_more h4 rx h hu) (by rw [any_plain h4 hp]; exact hq)
theorem notIn_more {c x : Value} {xs : List PyData} {e d : PyData} {as bs : List Addr} {Q : Value → Shared → Prop} (hc : e = .list xs ∨ e = .tuple xs) (rc : Reads s.heap c e as) (rx : Reads s.heap x d bs) (h : inMore d xs = true)
    (hu : A.units + 64 < cLine) (hq : Q (.bool (!xs.any fun y => PyData.eqv y d)) s) : wpAny (model prog w) A (compareOp .NotIn x c) Q E s := by
  have hp := (inMore_plain h).1
  rcases hc with rfl | rfl
  · cases rc with
    | list h1 h2 h3 h4 => exact notIn_listAt _ ⟨_, h1, h2, _, h3⟩ (items_more h4 rx h hu) (by rw [any_plain h4 hp]; exact hq)
  · cases rc with
    | tuple h1 h2 h3 h4 => exact notIn_tupleAt _ ⟨_, h1, h2, _, h3⟩ (items_more h4 rx h hu) (by rw [any_plain h4 hp]; exact hq)
/-- data without dicts on both sides, or texts and tuples of such on the right -/
def okP (d : PyData) : Bool := d.plain && decide (d.depth ≤ 60)
def nilL : PyData → PyData → Bool
  | .list _, .list [] => true
  | _, _ => false
theorem nilL_some {x y : PyData} (h : nilL x y = true) : ∃ xs, x = .list xs ∧ y = .list [] := by
  unfold nilL at h
  split at h
  · exact ⟨_, rfl, rfl⟩
  · cases h
def eqMore (x y : PyData) : Bool := ((okP x && okP y) || (txt y && decide (y.depth ≤ 60))) || nilL x y
theorem eq_more {a b : Value} {da db : PyData} {as bs : List Addr} {Q : Value → Shared → Prop} (ra : Reads s.heap a da as) (rb : Reads s.heap b db bs) (h : eqMore da db = true) (hu : A.units + 64 < cLine)
    (hq : Q (.bool (PyData.eqv da db)) s) : wpAny (model prog w) A (compareOp .Eq a b) Q E s := by
  unfold eqMore okP at h
  simp only [Bool.and_eq_true, Bool.or_eq_true, decide_eq_true_eq] at h
  rcases h with (⟨⟨h1, h2⟩, h3, h4⟩ | ⟨h1, h2⟩) | hn0
  · refine eq_plain ra rb h1 h3 ?_ hq
    have : min da.depth db.depth ≤ 60 := Nat.le_trans (Nat.min_le_left _ _) h2
    omega
  · refine rcAt_r ra rb h1 ?_ prog w E Q hq
    have : min da.depth db.depth ≤ 60 := Nat.le_trans (Nat.min_le_right _ _) h2
    omega
  · obtain ⟨xs, rfl, rfl⟩ := nilL_some hn0
    cases ra with
    | @list l o vs n _ as₁ h1 h2 h3 h4 =>
      cases rb with
      | @list l' o' vs' n' _ bs₁ k1 k2 k3 k4 =>
        have n1 : vs.size = xs.length := by simpa using ReadsAll.length _ _ _ h4
        have n2 : vs'.size = 0 := by simpa using ReadsAll.length _ _ _ k4
        by_cases hx : xs = []
        · subst hx
          exact eq_plain (.list h1 h2 h3 h4) (.list k1 k2 k3 k4) rfl rfl (by have : min (PyData.list []).depth (PyData.list []).depth ≤ 60 := by decide
                                                                             omega) hq
        · have hl : 0 < xs.length := List.length_pos_iff.mpr hx
          have he : PyData.eqv (.list xs) (.list []) = false := by
            show PyData.eqvAll xs [] = false
            exact eqvAll_other_length (by simp only [List.length_nil]; omega)
          rw [he] at hq
          exact RcAt.lists_lengths ⟨_, h1, h2, _, h3⟩ ⟨_, k1, k2, _, k3⟩ (by rw [n1, n2]; simp; omega) (by omega) prog w E Q hq
theorem ne_more {a b : Value} {da db : PyData} {as bs : List Addr} {Q : Value → Shared → Prop} (ra : Reads s.heap a da as) (rb : Reads s.heap b db bs) (h : eqMore da db = true) (hu : A.units + 64 < cLine)
    (hq : Q (.bool (!PyData.eqv da db)) s) : wpAny (model prog w) A (compareOp .NotEq a b) Q E s := by
  unfold eqMore okP at h
  simp only [Bool.and_eq_true, Bool.or_eq_true, decide_eq_true_eq] at h
  rcases h with (⟨⟨h1, h2⟩, h3, h4⟩ | ⟨h1, h2⟩) | hn0
  · refine ne_plain ra rb h1 h3 ?_ hq
    have : min da.depth db.depth ≤ 60 := Nat.le_trans (Nat.min_le_left _ _) h2
    omega
  · refine rcNeAt_r ra rb h1 ?_ prog w E Q hq
    have : min da.depth db.depth ≤ 60 := Nat.le_trans (Nat.min_le_right _ _) h2
    omega
  · obtain ⟨xs, rfl, rfl⟩ := nilL_some hn0
    cases ra with
    | @list l o vs n _ as₁ h1 h2 h3 h4 =>
      cases rb with
      | @list l' o' vs' n' _ bs₁ k1 k2 k3 k4 =>
        have n1 : vs.size = xs.length := by simpa using ReadsAll.length _ _ _ h4
        have n2 : vs'.size = 0 := by simpa using ReadsAll.length _ _ _ k4
        by_cases hx : xs = []
        · subst hx
          exact ne_plain (.list h1 h2 h3 h4) (.list k1 k2 k3 k4) rfl rfl (by have : min (PyData.list []).depth (PyData.list []).depth ≤ 60 := by decide
                                                                             omega) hq
        · have hl : 0 < xs.length := List.length_pos_iff.mpr hx
          have he : PyData.eqv (.list xs) (.list []) = false := by
            show PyData.eqvAll xs [] = false
            exact eqvAll_other_length (by simp only [List.length_nil]; omega)
          rw [he] at hq
          exact RcNeAt.lists_lengths ⟨_, h1, h2, _, h3⟩ ⟨_, k1, k2, _, k3⟩ (by rw [n1, n2]; simp; omega) (by omega) prog w E Q hq
end
end DL

/-! x.extend(t), t any tuple that stands in the heap. -/
namespace DL
open PySem PySem.Spec PySem.AutoSeq1
theorem list_extend_tuple (l : Addr) (items : Array Value) (n : Nat) (b : Addr) (items2 : Array Value) (n2 : Nat) (dd2 : Option Addr) (sl2 : Array (Option Value)) (hs0 : ¬(!items.isEmpty && Builtin.List.listTooLong (items.size + items2.size)) = true) (hs1 : items.size ≤ sizeLine) (hs2 : items.size + items2.size ≤ sizeLine + 1) :
    Meets (Builtin.«list.extend» ⟨[.ref l, .ref b], []⟩) (fun _ R s => s.heap.get? l = some { cls := .type "list", dict := none, data := .seq items n, slots := #[] } ∧ s.heap.get? b = some { cls := .type "tuple", dict := dd2, data := .seq items2 n2, slots := sl2 } ∧ R (.ok (.ret Value.none)) { s with heap := s.heap.update l (Obj.mapSeq fun x => x ++ items2), toks := s.toks }) :=
  .of_wp fun prog w A R s h => by
    obtain ⟨hp, g, d, tk, os⟩ := s; obtain ⟨hl, hb, h⟩ := h; have f1 := idx_int; have f2 := sub_tuple_tuple; have f3 := sub_list_list; have f4 := sub_tuple_list; have f5 := sub_list_tuple;
    have hz' : (items ++ items2).size ≤ sizeLine + 1 := by rw [Array.size_append]; exact hs2
    wp_walk using (wpAny_updateSeq hl rfl (hz := hs1) (_hz' := hz')), wpAny_loadPart' hl, wpAny_loadPart' hb; exact ⟨_, rfl, h⟩
end DL

/-! Calls of defs where it is also known that no repr is under way (the recursion guards are empty). -/
namespace DL
open PySem PySem.Spec PyProof.Rows L2

/-- room for calls, and no guard stands -/
structure RoomG (k : Nat) (A : Around) : Prop where
  r : Room k A
  g : A.guards = some []
theorem RoomG.mono {j k : Nat} {A : Around} (r : RoomG k A) (h : j ≤ k) : RoomG j A := ⟨r.r.mono h, r.g⟩

/-- what a def promises to whoever calls it where no guard stands -/
structure FnG (P : Program) (w : World) (K : PySem.W.Frag) (mg : Str → Option Value) (base : Heap) (CX : CXT)
    (k : Nat) (f : Addr) (fd : FuncData) (ps : List Str) (sp : Sp) : Prop where
  len : ∀ vs H Q E, sp vs H Q E → vs.length = ps.length
  run : ∀ (A : Around) (outer : List Env) (s : Shared) (H : Hp) (args : Args) (us : List Value) (vs : List V) (Q : VK) (E : XK),
    RoomG k A → Env0 P w K mg base A outer s H → BindsTo s fd args (ps.zip us) → Vals vs us → sp vs H Q E →
      codeAny (model P w) A (.call (.ref f) args) (CR CX outer P w H s Q E) s

section
variable {P : Program} {w : World} {K : PySem.W.Frag} {mg : Str → Option Value} {base : Heap} {CX : CXT} {k : Nat} {f : Addr} {fd : FuncData} {ps : List Str} {sp sp' : Sp}
theorem FnG.of (F : FnOk P w K mg base CX k f fd ps sp) : FnG P w K mg base CX k f fd ps sp :=
  ⟨F.len, fun A o s H args us vs Q E hr e b v h => F.run A o s H args us vs Q E hr.r e b v h⟩
theorem FnG.mono {j : Nat} (F : FnG P w K mg base CX j f fd ps sp) (h : j ≤ k) : FnG P w K mg base CX k f fd ps sp :=
  ⟨F.len, fun A o s H args us vs Q E hr => F.run A o s H args us vs Q E (hr.mono h)⟩
theorem FnG.imp (F : FnG P w K mg base CX k f fd ps sp) (h : ∀ vs H Q E, sp' vs H Q E → sp vs H Q E) :
    FnG P w K mg base CX k f fd ps sp' :=
  ⟨fun vs H Q E q => F.len vs H Q E (h _ _ _ _ q), fun A o s H args us vs Q E hr he hb hv hs =>
    F.run A o s H args us vs Q E hr he hb hv (h _ _ _ _ hs)⟩

/-- a def of the text by its body, run where no guard stands -/
theorem fn_ofG {name qual : Str} {params : Arguments} {body : List Stmt} {scope : Scope} {dV kV doc pm cdv ct oc : Value} {an od : Option Addr}
    {osl : Array (Option Value)} {N : List Str}
    (lk : K.lookup f = some ⟨oc, od, .func (PySem.W.fnOf name qual params body scope dV kV doc pm an cdv ct), osl⟩)
    (hcd : PySem.W.codeIn K cdv qual = true) (S : FnScope N ps scope) (len : ∀ vs H Q E, sp vs H Q E → vs.length = ps.length)
    (hbody : ∀ (A : Around) (outer : List Env) (s : Shared) (H : Hp) (vs : List V) (Q : VK) (E : XK),
      RoomG k (A.deeper (envOfC qual scope s.heap.objs.size f cdv)) → sp vs H Q E →
      ∃ t, PSs (cxOf CX P w K mg base N qual scope f cdv A outer s H E) body t ∧
        t { nx := fun _ H' => Q .non H', rt := Q } (start N vs) H) :
    FnG P w K mg base CX (k + 1) f (PySem.W.fnOf name qual params body scope dV kV doc pm an cdv ct) ps sp := by
  constructor
  · exact len
  intro A outer s H args us vs Q E hr e0 hb r hsp
  have lenVs := len _ _ _ _ hsp
  have inK : K.In s.heap := by
    apply e0.mod.kin.keeps
    intro b o e
    exact (e0.bs b o e).1
  have lim : s.heap.NoLimit := by
    apply e0.mod.nolimit.keeps
    intro b o e
    exact (e0.bs b o e).1
  have kinds : ∀ y ∈ ps.zip us, scope.names.lookup y.1 = some .local ∨
      (scope.names.lookup y.1 = some .cell ∧ ((cellsFrom (s.heap.objs.size + 1) scope.names []).lookup y.1).isSome = true) := by
    rintro ⟨n, v⟩ hy
    have q := S.par n (List.of_mem_zip hy).1
    cases q with
    | inl q => exact Or.inl q
    | inr q => exact Or.inr ⟨q, PySem.W.cellsFrom_some _ _ _ (Or.inl q)⟩
  refine codeAny_call_function hr.r.depth (inK _ _ lk) rfl S.co S.gen rfl (PySem.W.codeRec_of inK hcd) (hb _ _ _ _ ?_)
  refine wpAny_newFunctionEnv_cells S.kind kinds ?_
  intro env he s1 x
  subst he
  refine ⟨lim.keeps x.toInCall.keep, codeAny_func ?_⟩
  have g' : (A.deeper (envOfC qual scope s.heap.objs.size f cdv)).guards = some [] := hr.g
  obtain ⟨t, ht, hq⟩ := hbody A outer s H vs Q E ⟨hr.r.deeper _, g'⟩ hsp
  have I := inv_start (CX := CX) (E := E) S hr.r.hd e0 lenVs r x
  have fin : ∀ {σ' : L2.St} {H' : Hp} {v : V} {u : Value} {s' : Shared},
      Inv (cxOf CX P w K mg base N qual scope f cdv A outer s H E) [] σ' H' s' → RelV v u → Q v H' → CE outer P w H s Q u s' := by
    intro σ' H' v u s' J rv q
    exact ⟨v, H', J.os, J.bare, J.base, J.hok, rv, q⟩
  refine wpAny_mono (ht.run [] s1 (start N vs) H _ I hq) ?_ ?_
  · intro fl s' hs
    cases fl with
    | ret u =>
      obtain ⟨v, σ', H', J, rv, q⟩ := hs
      exact fin J rv q
    | next =>
      obtain ⟨σ', H', J, q⟩ := hs
      exact fin (v := V.non) (u := Value.none) J rfl q
    | brk =>
      obtain ⟨_, _, _, q⟩ := hs
      exact q.elim
    | cont =>
      obtain ⟨_, _, _, q⟩ := hs
      exact q.elim
  · intro e s' hs
    exact hs
end

section
variable {X : Cx} {CX : CXT} {k : Nat} {f : Addr} {fd : FuncData} {ps : List Str} {sp : Sp} {dvs : List V} {ds : List Value} {E : XK} {x : Str} {p pos : Pos} {e : Expr} {es : List Expr} {t : TA}
theorem run_g {pins : List (Addr × Obj)} {σ : L2.St} {H : Hp} {s : Shared} {Q : VK} {us : List Value} {vs : List V}
    (F : FnG X.prog X.w X.K X.mg X.base CX k f fd ps sp) (hr : RoomG k X.A) (hb : Binds X.K fd ps ds) (hd : Vals dvs ds)
    (hx : Passes CX X E) (I : Inv X pins σ H s) (r : Vals vs us) (h : sp (vs ++ dvs) H Q E) :
    wpAny (model X.prog X.w) X.A (call (.ref f) us) (EP X pins σ Q) X.xe s := by
  have rr := r.append hd
  have ll : (us ++ ds).length = ps.length := by
    rw [← rr.length]
    exact F.len _ _ _ _ h
  apply wpAny_call
  refine codeAny_mono (F.run X.A X.stack s H ⟨us, []⟩ (us ++ ds) (vs ++ dvs) Q E hr I.env0 (hb s us I.kIn ll) rr h) ?_
  intro r s' hq
  rcases r with e | fl
  · exact hx pins σ H s e s' I hq
  · cases fl with
    | ret u => exact I.after hq
    | next => exact hq.elim
    | brk => exact hq.elim
    | cont => exact hq.elim
/-- f(e, ..) by a promise that holds where no guard stands -/
theorem pe_g (F : FnG X.prog X.w X.K X.mg X.base CX k f fd ps sp) (hr : RoomG k X.A) (hg : Gl X x) (hm : X.mg x = some (.ref f))
    (hk : PySem.W.keepIn X.K (.ref f) = true) (hb : Binds X.K fd ps ds) (hd : Vals dvs ds) (hx : Passes CX X E)
    (ha : PA X (e :: es) t) (hdb : (x == ("__debug__" : Str)) = false := by decide)
    (he : starEach (e :: es) X.env = (false, eval e X.env) :: starEach es X.env := by rfl)
    (hpl : (backTo pos (starEach es X.env)).any (·.1) = false := by rfl) :
    PE X (.Call (.Name x p) (e :: es) [] pos) (tCall sp dvs E t) := by
  constructor
  intro pins s σ H Q I h
  apply wpAny_Call_Name_kw
  refine ld_glob I hg hm ?_ hdb
  refine PySem.W.callWith_K (h₀ := X.base) I.ok.mod.kin hk (thn (ha.run pos pins s σ H _ I h) ?_) he hpl
  rintro us s1 ⟨vs, H1, I1, r, q⟩
  exact ⟨I1.kIn, run_g F hr hb hd hx I1 r q⟩
end
end DL

/-! The end of a law whose promise holds where no guard stands. -/
namespace DL
open PySem PySem.Spec PyProof.Rows L2

theorem caller_g : callerA.guards = some [] := rfl

/-- the heap in which the script alone is told -/
def onlyAt (a : Addr) (ob : Obj) (xs : List V) : Hp := fun b => if b = a then some (.frz ob (.lst xs)) else none
theorem onlyAt_only (a : Addr) (ob : Obj) (xs : List V) : Only (onlyAt a ob xs) := by
  intro b
  unfold onlyAt
  by_cases hb : b = a
  · right; exact ⟨ob, xs, if_pos hb⟩
  · left; exact if_neg hb

theorem law_g {P : Program} {w : World} {K : PySem.W.Frag} {mg mb : Str → Option Value} {CX : CXT} {k : Nat} {fa a : Addr} {fd : FuncData} {x : Str} {sp : Sp} {s1 : Shared} {vs : List Value} {ns : List Int}
    (KX : K.In s1.heap) (hns : s1.heap.Ns mainGlobals mg) (hb : s1.heap.Ns builtinsNs mb)
    (hbb : ∀ x : Str, x ≠ "__name__" → mb x = bootBuiltins x) (hlim : s1.heap.NoLimit) (hg : s1.gens = #[])
    (ha : s1.heap.get? a = some { cls := .type "list", data := .seq vs.toArray }) (hi : IntsAre vs ns) (hl : ns.length ≤ sizeLine)
    (hr : Room k callerA)
    (F : ∀ base : Heap, K.In base → base.Ns mainGlobals mg → FnG P w K mg base CX k fa fd [x] sp)
    (hbind : ∀ (s : Shared) (u : Value), BindsTo s fd ⟨[u], []⟩ [(x, u)])
    (hsp : ∀ H : Hp, Only H → SqL K H a (ns.map V.int) → sp [.ref a] H (fun v _ => v = .bl true) fun _ _ _ => False)
    (hCX : ∀ H e s', CX [] H s1 (fun _ _ _ => False) e s' → False) :
    codeAny (model P w) callerA (.call (.ref fa) ⟨[.ref a], []⟩)
      (fun r s' => r = .ok (.ret (.bool true)) ∧ OldK s1.heap s'.heap ∧ s'.os = s1.os ∧ AllBare s'.gens) s1 := by
  have rv := vals_ints hi
  have core : ∀ H : Hp, Only H → SqL K H a (ns.map V.int) → HOk P w H s1.heap → (∀ b, H b ≠ none → b = a) → (H a ≠ none → K.lookup a = none) →
      codeAny (model P w) callerA (.call (.ref fa) ⟨[.ref a], []⟩)
        (fun r s' => r = .ok (.ret (.bool true)) ∧ OldK s1.heap s'.heap ∧ s'.os = s1.os ∧ AllBare s'.gens) s1 := by
    intro H hO hS hok hA hK
    have untr : ∀ {b : Addr} {o : Obj}, b ≠ a → s1.heap.get? b = some o → (hidT s1.heap H).get? b = some o := by
      intro b o hne e
      apply hidT_get e
      cases q : H b with
      | none => rfl
      | some u => exact absurd (hA b (by rw [q]; exact Option.some_ne_none _)) hne
    have dictNe : ∀ {b : Addr} {o : Obj} {es : Array DictEntry} {ep : Nat}, s1.heap.get? b = some o → o.data = .dict es ep → b ≠ a := by
      intro b o es ep e d z
      rw [z, ha] at e
      cases e
      exact absurd (show Data.seq vs.toArray _ = Data.dict es ep from d) (by intro z; cases z)
    have nsK : ∀ {b : Addr} {m : Str → Option Value}, s1.heap.Ns b m → (hidT s1.heap H).Ns b m := by
      rintro b m ⟨o, es, ep, e, d, r⟩
      exact ⟨o, es, ep, untr (dictNe e d) e, d, r⟩
    have hKb : K.In (hidT s1.heap H) := by
      intro b o e
      apply hidT_get (KX b o e)
      cases q : H b with
      | none => rfl
      | some u =>
        have hn : H b ≠ none := by rw [q]; exact Option.some_ne_none _
        have z := hA b hn
        rw [z] at hn e
        rw [hK hn] at e
        cases e
    have lim' : (hidT s1.heap H).NoLimit := by
      obtain ⟨mc, h1, h2⟩ := hlim
      exact ⟨mc, nsK h1, h2⟩
    have hM : Mod K mg (hidT s1.heap H) := ⟨hKb, nsK hns, ⟨mb, nsK hb, hbb⟩, lim'⟩
    have noFr : ∀ b : Addr, b ∉ frs ([] : List Env) := by intro b z; cases z
    have e0 : Env0 P w K mg (hidT s1.heap H) callerA [] s1 H :=
      ⟨rfl, hM, fun b o e => of_hidT e, Nat.le_of_eq (hidT_size _ _), trivial, fun b z => absurd z (noFr b), hok, .of_eq hg⟩
    have R := (F _ hKb (nsK hns)).run callerA [] s1 H ⟨[.ref a], []⟩ [.ref a] [.ref a] (fun v _ => v = .bl true) (fun _ _ _ => False)
      ⟨hr, caller_g⟩ e0 (hbind s1 (.ref a)) (.cons rfl .nil) (hsp H hO hS)
    refine codeAny_mono R ?_
    intro r s' h
    rcases r with e | fl
    · exact (hCX H e s' h).elim
    cases fl with
    | next => exact h.elim
    | brk => exact h.elim
    | cont => exact h.elim
    | ret u =>
      obtain ⟨v, H', os, bare, un, hok', r', q⟩ := h
      cases (show v = V.bl true from q)
      cases (show u = Value.bool true from r')
      refine ⟨rfl, OldK.of_keep ?_, os, bare⟩
      intro b o e
      cases q : H b with
      | none => exact un.keep b o e q (noFr b) (fun z => by cases z)
      | some u =>
        rcases hO b with z | ⟨ob, xs, z⟩
        · rw [q] at z; cases z
        · have e1 := (hok b _ z).1
          have e2 := (hok' b _ (un.frzs b ob _ z)).1
          rw [e] at e1
          cases e1
          exact e2
  have lenV := hi.length
  cases hk : K.lookup a with
  | some o =>
    have e := KX a o hk
    rw [ha] at e
    cases e
    have sq : SqL K (fun _ => none) a (ns.map V.int) := by
      refine .inr ⟨_, vs.toArray, _, hk, rfl, rfl, rfl, ?_, by simpa using rv⟩
      rw [List.size_toArray, lenV]
      exact hl
    refine core (fun _ => none) (fun _ => .inl rfl) sq ?_ (fun b z => absurd rfl z) (fun z => absurd rfl z)
    intro b u z
    exact absurd (show (none : Option HO) = some u from z) (by intro z; cases z)
  | none =>
    refine core (onlyAt a { cls := .type "list", data := .seq vs.toArray } (ns.map V.int)) (onlyAt_only _ _ _)
      (.inl (.inr ⟨{ cls := .type "list", data := .seq vs.toArray }, if_pos rfl⟩)) ?_ ?_ (fun _ => hk)
    · intro b u z
      by_cases hb : b = a
      · have z2 := (if_pos hb).symm.trans z
        cases z2
        rw [hb]
        refine ⟨ha, ?_, vs, _, rv, ha⟩
        rw [List.length_map]
        exact hl
      · have z2 := (if_neg hb).symm.trans z
        cases z2
    · intro b z
      by_cases hb : b = a
      · exact hb
      · exact absurd (if_neg hb) z

/-- the goal that k_head leaves -/
theorem walk_g {l : PySem.W.OpenLaw} {n k : Nat} {q : Program} {loose : List Str} {XP : (Str → Option Value) → Heap → Prop} {YP : World → Heap → Prop} {d : DefRec} {K : Params → PySem.W.Frag} {CX : World → CXT} {sp : World → Sp} {x : Str}
    (hn : l.most = some n) (hn2 : n ≤ sizeLine) (hdf : d.params.defaults = []) (hr : Room k callerA)
    (hY : ∀ (w : World) (h : Heap), YP w h → (K w.params).In h)
    (F : ∀ (w : World) (mg : Str → Option Value) (fa : Addr) (h : Heap), (K w.params).In h → h.Ns mainGlobals mg → mg d.name = some (.ref fa) →
      ∃ fd : FuncData, (∀ (s : Shared) (u : Value), BindsTo s fd ⟨[u], []⟩ [(x, u)]) ∧
        ∀ base : Heap, (K w.params).In base → base.Ns mainGlobals mg → FnG l.prog w (K w.params) mg base (CX w) k fa fd [x] (sp w))
    (hsp : ∀ (w : World) (H : Hp) (a : Addr) (ns : List Int), ns.length ≤ n → Only H → SqL (K w.params) H a (ns.map V.int) →
      sp w [.ref a] H (fun v _ => v = .bl true) fun _ _ _ => False)
    (hCX : ∀ (w : World) (H : Hp) (s : Shared) (e : Value) (s' : Shared), CX w [] H s (fun _ _ _ => False) e s' → False) :
    PySem.W.WalkO q loose XP YP l.row.toRowW d [] (fun f vs => PySem.call f vs) := by
  refine Att.attach_call hn hdf ?_
  intro w s0 s1 mg mb fa o pm cd doc a vs ns G Y ho hd hcd hmg hobj hints hlen hg
  obtain ⟨fd, hb, hF⟩ := F w mg fa _ (hY w _ Y) G.T.g hmg
  refine law_g (hY w _ Y) G.T.g G.T.b G.T.builtins G.T.nolimit hg hobj hints (Nat.le_trans hlen hn2) hr hF hb ?_ ?_
  · intro H hO hS
    exact hsp w H a ns hlen hO hS
  · intro H e s'
    exact hCX w H s1 e s'
end DL

/-! Data that stands in the heap, dicts within lists too: how it is read, and its repr. -/
namespace DL
open PySem PySem.Spec PyProof.Rows L2

mutual
/-- at v stands the data d (a dict is not the table of modules) -/
inductive RD (h : Heap) : Value → PyData → Prop
  | none : RD h .none .none
  | bool (b) : RD h (.bool b) (.bool b)
  | int (i t) : RD h (.int i t) (.int i)
  | str (x t) : RD h (.str x t) (.str x)
  | list {a o vs n xs} : h.get? a = some o → o.cls = .type "list" → o.data = .seq vs n → RDs h vs.toList xs → RD h (.ref a) (.list xs)
  | tuple {a o vs n xs} : h.get? a = some o → o.cls = .type "tuple" → o.data = .seq vs n → RDs h vs.toList xs → RD h (.ref a) (.tuple xs)
  | dict {a o es n kvs} : h.get? a = some o → o.cls = .type "dict" → o.data = .dict es n → (a == sysModules) = false →
      RDs h (es.toList.map (·.key)) (kvs.map (·.1)) → RDs h (es.toList.map (·.val)) (kvs.map (·.2)) → RD h (.ref a) (.dict kvs)
inductive RDs (h : Heap) : List Value → List PyData → Prop
  | nil : RDs h [] []
  | cons {v vs d ds} : RD h v d → RDs h vs ds → RDs h (v :: vs) (d :: ds)
end

mutual
theorem RD.reads {h : Heap} : ∀ {v : Value} {d : PyData}, RD h v d → ∃ as, Reads h v d as
  | _, _, .none => ⟨_, .none⟩
  | _, _, .bool b => ⟨_, .bool b⟩
  | _, _, .int i t => ⟨_, .int i t⟩
  | _, _, .str x t => ⟨_, .str x t⟩
  | _, _, .list h1 h2 h3 h4 => let ⟨as, r⟩ := RDs.reads h4; ⟨_, .list h1 h2 h3 r⟩
  | _, _, .tuple h1 h2 h3 h4 => let ⟨as, r⟩ := RDs.reads h4; ⟨_, .tuple h1 h2 h3 r⟩
  | _, _, .dict h1 h2 h3 _ h4 h5 => let ⟨as, r⟩ := RDs.reads h4; let ⟨bs, q⟩ := RDs.reads h5; ⟨_, .dict h1 h2 h3 r q⟩
theorem RDs.reads {h : Heap} : ∀ {vs : List Value} {ds : List PyData}, RDs h vs ds → ∃ as, ReadsAll h vs ds as
  | _, _, .nil => ⟨_, .nil⟩
  | _, _, .cons h1 h2 => let ⟨as, r⟩ := RD.reads h1; let ⟨bs, q⟩ := RDs.reads h2; ⟨_, .cons r q⟩
end

section
variable {prog : Program} {w : World} {h : Heap}
theorem deeper_not {a : Addr} {d : PyData} {n : Nat} {bs : List Addr} (r : RD h (.ref a) d) (hd : n < d.depth) (hb : ReadAtMost h n bs) : a ∉ bs := by
  obtain ⟨as, r'⟩ := r.reads
  exact not_mem_of_deeper r' hd hb
theorem atMost_cons {a : Addr} {d : PyData} {n : Nat} {bs : List Addr} (r : RD h (.ref a) d) (hn : n ≤ d.depth) (hb : ReadAtMost h n bs) : ReadAtMost h d.depth (a :: bs) := by
  obtain ⟨as, r'⟩ := r.reads
  exact ReadAtMost.cons r' hn hb
mutual
theorem RD.reprK : ∀ {v : Value} {d : PyData}, RD h v d → d.showable = true → d.shown.length ≤ sizeLine →
    ∃ bs, ReadAtMost h d.depth bs ∧ ReprK prog w bs h d.depth v d.shown
  | _, _, .none, _, _ => by
    refine ⟨[], (fun _ z => nomatch z), ?_⟩
    rw [PyData.shown]
    exact .of_is ReprIs.none _ _ _
  | _, _, .bool b, _, _ => by
    refine ⟨[], (fun _ z => nomatch z), ?_⟩
    rw [PyData.shown]
    exact .of_is (ReprIs.bool b) _ _ _
  | _, _, .int i t, hs, _ => by
    refine ⟨[], (fun _ z => nomatch z), ?_⟩
    rw [PyData.shown]
    exact .of_is (ReprIs.int t (by simpa [PyData.showable] using hs)) _ _ _
  | _, _, .str x t, _, hz => by
    rw [PyData.shown] at hz
    refine ⟨[], (fun _ z => nomatch z), ?_⟩
    rw [PyData.shown]
    exact .of_is (ReprIs.str x t hz) _ _ _
  | _, _, .list (a := a) (vs := vs) (xs := xs) h1 h2 h3 h4, hs, hz => by
    rw [PyData.shown] at hz
    rw [PyData.showable] at hs
    have R : RD h (.ref a) (.list xs) := .list h1 h2 h3 h4
    obtain ⟨bs, hb, hk⟩ := RDs.reprK h4 hs (fun t ht => Nat.le_trans (listText_mem_le ht) hz)
    have lt : PyData.depthAll xs < (PyData.list xs).depth := by rw [PyData.depth]; omega
    refine ⟨a :: bs, atMost_cons R (Nat.le_of_lt lt) hb, ?_⟩
    have hna := deeper_not R lt hb
    rw [PyData.depth, PyData.shown]
    rcases vs with ⟨l⟩
    cases l with
    | nil =>
      cases (show RDs h [] xs from h4)
      rw [PyData.shownAll, listText_nil]
      exact ReprK.listEmpty h1 h2 h3
    | cons x l => exact ReprK.list h1 h2 h3 hna (by simpa using hk.length_eq) (fun i y e => hk.item i y (by simpa using e))
  | _, _, .tuple (a := a) (vs := vs) (xs := xs) h1 h2 h3 h4, hs, hz => by
    rw [PyData.shown] at hz
    rw [PyData.showable] at hs
    have R : RD h (.ref a) (.tuple xs) := .tuple h1 h2 h3 h4
    obtain ⟨bs, hb, hk⟩ := RDs.reprK h4 hs (fun t ht => Nat.le_trans (tupleText_mem_le ht) hz)
    have lt : PyData.depthAll xs < (PyData.tuple xs).depth := by rw [PyData.depth]; omega
    refine ⟨a :: bs, atMost_cons R (Nat.le_of_lt lt) hb, ?_⟩
    rw [PyData.depth, PyData.shown]
    exact ReprK.tuple h1 h2 h3 (deeper_not R lt hb) hk
  | _, _, .dict (a := a) (es := es) (kvs := kvs) h1 h2 h3 hy h4 h5, hs, hz => by
    rw [PyData.shown] at hz
    rw [PyData.showable] at hs
    have R : RD h (.ref a) (.dict kvs) := .dict h1 h2 h3 hy h4 h5
    obtain ⟨hs1, hs2⟩ := PyData.showableKv_split kvs hs
    obtain ⟨b1, hb1, k1⟩ := RDs.reprK h4 hs1 (fun t ht => by
      obtain ⟨p, hp, hl⟩ := PyData.shownKv_key_le kvs t ht
      exact Nat.le_trans hl (Nat.le_trans (dictText_mem_le hp) hz))
    obtain ⟨b2, hb2, k2⟩ := RDs.reprK h5 hs2 (fun t ht => by
      obtain ⟨p, hp, hl⟩ := PyData.shownKv_val_le kvs t ht
      exact Nat.le_trans hl (Nat.le_trans (dictText_mem_le hp) hz))
    have lt : PyData.depthKv kvs < (PyData.dict kvs).depth := by rw [PyData.depth]; omega
    have hb : ReadAtMost h (PyData.depthKv kvs) (b1 ++ b2) :=
      (hb1.mono (PyData.depthAll_keys_le kvs)).append (hb2.mono (PyData.depthAll_vals_le kvs))
    refine ⟨a :: (b1 ++ b2), atMost_cons R (Nat.le_of_lt lt) hb, ?_⟩
    rw [PyData.depth, PyData.shown, PyData.shownKv_eq]
    exact ReprK.dict h1 h2 h3 hy (deeper_not R lt hb) (ReprEntriesK.of_two es.toList _ _
      (k1.more_le (fun b z => List.mem_append_left _ z) (PyData.depthAll_keys_le kvs))
      (k2.more_le (fun b z => List.mem_append_right _ z) (PyData.depthAll_vals_le kvs)))
theorem RDs.reprK : ∀ {vs : List Value} {ds : List PyData}, RDs h vs ds → PyData.showableAll ds = true → (∀ t ∈ PyData.shownAll ds, t.length ≤ sizeLine) →
    ∃ bs, ReadAtMost h (PyData.depthAll ds) bs ∧ ReprAllK prog w bs h (PyData.depthAll ds) vs (PyData.shownAll ds)
  | _, _, .nil, _, _ => ⟨[], (fun _ z => nomatch z), by rw [PyData.shownAll]; exact .nil⟩
  | _, _, .cons (d := d) (ds := ds) r rs, hs, hz => by
    rw [PyData.showableAll, Bool.and_eq_true] at hs
    rw [PyData.shownAll] at hz
    obtain ⟨b1, hb1, k1⟩ := RD.reprK r hs.1 (hz _ (List.mem_cons_self ..))
    obtain ⟨b2, hb2, k2⟩ := RDs.reprK rs hs.2 (fun t ht => hz t (List.mem_cons_of_mem _ ht))
    refine ⟨b1 ++ b2, ?_, ?_⟩
    · rw [PyData.depthAll]
      exact (hb1.mono (Nat.le_max_left _ _)).append (hb2.mono (Nat.le_max_right _ _))
    · rw [PyData.depthAll, PyData.shownAll]
      exact .cons ((k1.more fun b z => List.mem_append_left _ z).level_le (Nat.le_max_left _ _))
        (k2.more_le (fun b z => List.mem_append_right _ z) (Nat.le_max_right _ _))
end

/-- repr of data, where no repr is under way -/
theorem call_repr_rd {A : Around} {E : Value → Shared → Prop} {s : Shared} {Q : Value → Shared → Prop} {v : Value} {d : PyData}
    (R : RD s.heap v d) (hs : d.showable = true) (hg : A.guards = some []) (hu : A.units + (d.depth + 1) < cLine) (hz : d.shown.length ≤ sizeLine)
    (hQ : ∀ h' u tk, (∀ b o, s.heap.get? b = some o → h'.get? b = some o) → Q (.str d.shown u) { s with heap := h', toks := tk }) :
    wpAny (model prog w) A (call (.builtin "repr") [v]) Q E s := by
  have same : ∀ b o, s.heap.get? b = some o → s.heap.get? b = some o := fun _ _ e => e
  have guard1 : A.in1.guards = some [] := hg
  have units1 : A.in1.units + d.depth < cLine := by
    show A.units + 1 + d.depth < cLine
    omega
  cases R with
  | none =>
    rw [PyData.shown] at hQ
    exact P.repr_of_none (hQ s.heap _ _ same)
  | bool b =>
    rw [PyData.shown] at hQ
    exact P.repr_of_bool (hQ s.heap _ _ same)
  | int i t =>
    rw [PyData.shown] at hQ
    exact P.repr_of_int (by simpa [PyData.showable] using hs) (hQ s.heap _ _ same)
  | str x t =>
    rw [PyData.shown] at hQ hz
    exact P.repr_of_str (hQ s.heap _ _ same) hz
  | list h1 h2 h3 h4 =>
    rename_i a o vs n xs
    have R : RD s.heap (.ref a) (.list xs) := .list h1 h2 h3 h4
    rw [PyData.shown] at hQ hz
    rw [PyData.showable] at hs
    rw [PyData.depth] at units1
    obtain ⟨bs, hb, hk⟩ := RDs.reprK (prog := prog) (w := w) h4 hs (fun t ht => Nat.le_trans (listText_mem_le ht) hz)
    have hna := deeper_not R (by rw [PyData.depth]; omega) hb
    refine call_repr_slot (by omega) ⟨o, h1, h2⟩ F.slot_list_repr.toG ?_
    rcases vs with ⟨l⟩
    cases l with
    | nil =>
      cases (show RDs s.heap [] xs from h4)
      rw [PyData.shownAll, listText_nil] at hQ
      exact call_list_repr_empty ⟨o, h1, h2⟩ h1 h3 ⟨_, _, rfl, hQ s.heap _ _ same⟩
    | cons x l =>
      exact call_list_reprK h1 h2 h3 hna (by simpa using hk.length_eq) (fun i y e => hk.item i y (by simpa using e)) guard1
        (fun b _ => Clear.nil b) units1 same (fun h' u tk hk => ⟨_, _, rfl, hQ h' u tk hk⟩) hz
  | tuple h1 h2 h3 h4 =>
    rename_i a o vs n xs
    have R : RD s.heap (.ref a) (.tuple xs) := .tuple h1 h2 h3 h4
    rw [PyData.shown] at hQ hz
    rw [PyData.showable] at hs
    rw [PyData.depth] at units1
    obtain ⟨bs, hb, hk⟩ := RDs.reprK (prog := prog) (w := w) h4 hs (fun t ht => Nat.le_trans (tupleText_mem_le ht) hz)
    have hna := deeper_not R (by rw [PyData.depth]; omega) hb
    refine call_repr_slot (by omega) ⟨o, h1, h2⟩ F.slot_tuple_repr ?_
    exact call_tuple_reprK h1 h2 h3 hna hk guard1 (fun b _ => Clear.nil b) units1 same (fun h' u tk hk => ⟨_, _, rfl, hQ h' u tk hk⟩) hz
  | dict h1 h2 h3 hy h4 h5 =>
    rename_i a o es n kvs
    have R : RD s.heap (.ref a) (.dict kvs) := .dict h1 h2 h3 hy h4 h5
    rw [PyData.shown] at hQ hz
    rw [PyData.showable] at hs
    rw [PyData.depth] at units1
    obtain ⟨hs1, hs2⟩ := PyData.showableKv_split kvs hs
    obtain ⟨b1, hb1, k1⟩ := RDs.reprK (prog := prog) (w := w) h4 hs1 (fun t ht => by
      obtain ⟨p, hp, hl⟩ := PyData.shownKv_key_le kvs t ht
      exact Nat.le_trans hl (Nat.le_trans (dictText_mem_le hp) hz))
    obtain ⟨b2, hb2, k2⟩ := RDs.reprK (prog := prog) (w := w) h5 hs2 (fun t ht => by
      obtain ⟨p, hp, hl⟩ := PyData.shownKv_val_le kvs t ht
      exact Nat.le_trans hl (Nat.le_trans (dictText_mem_le hp) hz))
    have hb : ReadAtMost s.heap (PyData.depthKv kvs) (b1 ++ b2) :=
      (hb1.mono (PyData.depthAll_keys_le kvs)).append (hb2.mono (PyData.depthAll_vals_le kvs))
    have hna := deeper_not R (by rw [PyData.depth]; omega) hb
    rw [PyData.shownKv_eq] at hQ hz
    refine call_repr_slot (by omega) ⟨o, h1, h2⟩ F.slot_dict_repr ?_
    exact call_dict_reprK h1 h2 h3 hy hna (ReprEntriesK.of_two es.toList _ _
        (k1.more_le (fun b z => List.mem_append_left _ z) (PyData.depthAll_keys_le kvs))
        (k2.more_le (fun b z => List.mem_append_right _ z) (PyData.depthAll_vals_le kvs)))
      guard1 (fun b _ => Clear.nil b) units1 same (fun h' u tk hk => ⟨_, _, rfl, hQ h' u tk hk⟩) hz
end
end DL

/-! Dicts of one's own whose keys are tuples in one another. -/
namespace DL
open PySem PySem.Spec PyProof.Rows L2
open Evl (Ex ex_l ex_t)
/-- the world that all speaks of -/
class TheW where
  w : World
/-! data as keys -/
mutual
def nk : PyData → Option NestedKey
  | .none => some .none
  | .int i => some (.num i)
  | .str x => some (.text x)
  | .tuple xs => (nks xs).map .tup
  | _ => none
def nks : List PyData → Option (List NestedKey)
  | [] => some []
  | x :: xs => match nk x, nks xs with
    | some k, some ks => some (k :: ks)
    | _, _ => none
end
mutual
theorem nk_data : ∀ (d : PyData) (k : NestedKey), nk d = some k → k.data = d
  | .none, k, h => by cases h; rfl
  | .int i, k, h => by cases h; rfl
  | .str x, k, h => by cases h; rfl
  | .tuple xs, k, h => by
    have h : (nks xs).map .tup = some k := h
    obtain ⟨ks, h1, rfl⟩ := Option.map_eq_some_iff.mp h
    rw [NestedKey.data, nks_data xs ks h1]
  | .bool _, k, h => by cases h
  | .list _, k, h => by cases h
  | .dict _, k, h => by cases h
theorem nks_data : ∀ (ds : List PyData) (ks : List NestedKey), nks ds = some ks → NestedKey.datas ks = ds
  | [], ks, h => by cases h; rfl
  | x :: xs, ks, h => by
    rw [nks] at h
    split at h
    · rename_i k ks' h1 h2
      cases h
      rw [NestedKey.datas, nk_data x k h1, nks_data xs ks' h2]
    · cases h
end
theorem nk_inj {d e : PyData} {k : NestedKey} (h : nk d = some k) (h2 : nk e = some k) : d = e := (nk_data d k h).symm.trans (nk_data e k h2)
mutual
theorem RD.nested {h : Heap} : ∀ {v : Value} {d : PyData} {k : NestedKey}, RD h v d → nk d = some k → NestedIs h k v
  | _, _, _, .none, e => by cases e; exact .none
  | _, _, _, .bool b, e => by cases e
  | _, _, _, .int i t, e => by cases e; exact .int i t
  | _, _, _, .str x t, e => by cases e; exact .text x t
  | _, _, _, .list h1 h2 h3 h4, e => by cases e
  | _, _, k, .tuple (xs := xs) h1 h2 h3 h4, e => by
    have e : (nks xs).map .tup = some k := e
    obtain ⟨ks, e1, rfl⟩ := Option.map_eq_some_iff.mp e
    exact .tup h1 h2 h3 (RDs.nested h4 e1)
  | _, _, _, .dict h1 h2 h3 h4 h5 h6, e => by cases e
theorem RDs.nested {h : Heap} : ∀ {vs : List Value} {ds : List PyData} {ks : List NestedKey}, RDs h vs ds → nks ds = some ks → NestedAll h ks vs
  | _, _, ks, .nil, e => by cases e; exact .nil
  | _, _, ks, .cons (d := x) (ds := xs) r q, e => by
    rw [nks] at e
    split at e
    · rename_i k ks' h1 h2
      cases e
      exact .cons (RD.nested r h1) (RDs.nested q h2)
    · cases e
end
/-! the dict in the heap, by its entries -/
abbrev NRow := NestedKey × Addr × Value
def rowE (w : World) (x : NRow) : DictEntry := ⟨x.1.hash w, .ref x.2.1, x.2.2⟩
def NAt (w : World) (a : Addr) (xs : List NRow) (h : Heap) : Prop := (a == sysModules) = false ∧ (∃ es ep, h.DictRaw a es ep ∧ es.toList = xs.map (rowE w)) ∧ (xs.map (·.1)).Nodup ∧ xs.length ≤ sizeLine
def HN (w : World) (a : Addr) (xs : List NRow) : HO := .ext (NAt w a xs)
/-- such a dict, known to its object -/
def HP (w : World) (a : Addr) (xs : List NRow) (o : Obj) : HO := .ext fun h => NAt w a xs h ∧ h.get? a = some o
theorem NAt.obj {P : Program} {w : World} {H : Hp} {h : Heap} {a : Addr} {xs : List NRow} (n : NAt w a xs h) : ObjOk P w H h a (HN w a xs) := by
  obtain ⟨n1, ⟨es, ep, n2, n3⟩, n4, n5⟩ := id n
  obtain ⟨o, ho, hx⟩ := id n2
  refine ⟨n, ⟨o, ho⟩, ?_⟩
  rintro h1 h2 ⟨m1, ⟨es', ep', m2, m3⟩, m4, m5⟩ k
  exact ⟨m1, ⟨es', ep', m2.at k, m3⟩, m4, m5⟩
theorem NAt.objP {P : Program} {w : World} {H : Hp} {h : Heap} {a : Addr} {xs : List NRow} {o : Obj} (n : NAt w a xs h) (e : h.get? a = some o) : ObjOk P w H h a (HP w a xs o) := by
  refine ⟨⟨n, e⟩, ⟨o, e⟩, ?_⟩
  rintro h1 h2 ⟨⟨m1, ⟨es', ep', m2, m3⟩, m4, m5⟩, e1⟩ k
  exact ⟨⟨m1, ⟨es', ep', m2.at k, m3⟩, m4, m5⟩, k _ e1⟩
/-- the keys stand as they are told -/
def RowsOk (w : World) (h : Heap) (xs : List NRow) : Prop := ∀ x ∈ xs, NestedIs h x.1 (.ref x.2.1) ∧ x.1.depth ≤ 8
theorem NAt.ofH {P : Program} {w : World} {h : Heap} {a : Addr} {xs : List NRow} (n : NAt w a xs h) (r : RowsOk w h xs) : h.DictOfH (nestedKind P w) a xs := by
  obtain ⟨n1, ⟨es, ep, ⟨o, ho, hx, hd⟩, n3⟩, n4, n5⟩ := n
  exact ⟨o, es, ep, ho, hx, hd, n3, r, n4⟩
theorem NAt.to {P : Program} {w : World} {h : Heap} {a : Addr} {xs : List NRow} (ha : (a == sysModules) = false) (hz : xs.length ≤ sizeLine) (d : h.DictOfH (nestedKind P w) a xs) : NAt w a xs h := by
  obtain ⟨o, es, ep, ho, hx, hd, n3, r, n4⟩ := d
  exact ⟨ha, ⟨es, ep, ⟨o, ho, hx, hd⟩, n3⟩, n4, hz⟩
/-- an empty dict -/
theorem NAt.empty {P : Program} {w : World} {h : Heap} {a : Addr} {H : Hp} (ok : ObjOk P w H h a (.dK [])) : NAt w a [] h := by
  obtain ⟨hz, hy, vs, kv, o, es, ep, e1, e2, e3, _, e5, _⟩ := (show ObjOk P w H h a (.dK []) from ok)
  cases kv
  have : es.toList = [] := by
    cases hq : es.toList with
    | nil => rfl
    | cons x r => rw [hq] at e5; cases e5
  exact ⟨hy, ⟨es, ep, ⟨o, e1, e2, e3⟩, this⟩, List.nodup_nil, by rw [List.length_nil]; exact Nat.zero_le _⟩
end DL

/-! Values of the layer that stand for data, over what is known to stand still (S); steps that keep it. -/
namespace DL
open PySem PySem.Spec PyProof.Rows L2
open Evl (Ex ex_l ex_t)
variable [TheW]

def keyD : Key → PyData
  | .inl i => .int i
  | .inr x => .str x
def keyT (k : List Key) : PyData := .tuple (k.map keyD)

mutual
inductive Rep (K : PySem.W.Frag) (S : Hp) : V → PyData → Prop
  | non : Rep K S .non .none
  | bl (b) : Rep K S (.bl b) (.bool b)
  | int (i) : Rep K S (.int i) (.int i)
  | str (x) : Rep K S (.str x) (.str x)
  | lst {a xs ds} : S a = some (.lst xs) → Reps K S xs ds → Rep K S (.ref a) (.list ds)
  | tup {a xs ds} : SqT K S a xs → Reps K S xs ds → Rep K S (.ref a) (.tuple ds)
  | dK {a kvs ds} : S a = some (.dK kvs) → Reps K S (kvs.map Prod.snd) ds → Rep K S (.ref a) (.dict ((kvs.map fun p => keyD p.1).zip ds))
  | dN {a xs vs ks ds o} : S a = some (HP TheW.w a xs o) → ks.map nk = xs.map (fun x => some x.1) → (∀ x ∈ xs, x.1.depth ≤ 8) → Reps K S (xs.map fun x => V.ref x.2.1) ks → Reps K S vs ds → Vals vs (xs.map (·.2.2)) →
      Rep K S (.ref a) (.dict (ks.zip ds))
  | dF {a kvs ds o} : kvs ≠ [] → S a = some (.frz o (.dK kvs)) → Reps K S (kvs.map Prod.snd) ds → Rep K S (.ref a) (.dict ((kvs.map fun p => keyD p.1).zip ds))
inductive Reps (K : PySem.W.Frag) (S : Hp) : List V → List PyData → Prop
  | nil : Reps K S [] []
  | cons {v vs d ds} : Rep K S v d → Reps K S vs ds → Reps K S (v :: vs) (d :: ds)
end

section
variable {K : PySem.W.Frag} {S S' : Hp}
mutual
theorem Rep.mono (e : Ex S S') : ∀ {v : V} {d : PyData}, Rep K S v d → Rep K S' v d
  | _, _, .non => .non
  | _, _, .bl b => .bl b
  | _, _, .int i => .int i
  | _, _, .str x => .str x
  | _, _, .lst h r => .lst (e _ _ h) (Reps.mono e r)
  | _, _, .tup h r => .tup (ex_t e h) (Reps.mono e r)
  | _, _, .dK h r => .dK (e _ _ h) (Reps.mono e r)
  | _, _, .dN h e1 e2 r q v => .dN (e _ _ h) e1 e2 (Reps.mono e r) (Reps.mono e q) v
  | _, _, .dF n h r => .dF n (e _ _ h) (Reps.mono e r)
theorem Reps.mono (e : Ex S S') : ∀ {vs : List V} {ds : List PyData}, Reps K S vs ds → Reps K S' vs ds
  | _, _, .nil => .nil
  | _, _, .cons h r => .cons (Rep.mono e h) (Reps.mono e r)
end
theorem Reps.length : ∀ {vs : List V} {ds : List PyData}, Reps K S vs ds → vs.length = ds.length
  | _, _, .nil => rfl
  | _, _, .cons _ r => by rw [List.length_cons, List.length_cons, Reps.length r]
theorem Reps.get : ∀ {vs : List V} {ds : List PyData} {i : Nat} {d : PyData}, Reps K S vs ds → ds[i]? = some d → ∃ v, vs[i]? = some v ∧ Rep K S v d
  | _, _, i, d, .nil, h => by simp at h
  | _, _, 0, d, .cons q r, h => by simp at h; subst h; exact ⟨_, rfl, q⟩
  | _, _, i + 1, d, .cons q r, h => by
    obtain ⟨v, e, z⟩ := Reps.get (i := i) (d := d) r (by simpa using h)
    exact ⟨v, by simpa using e, z⟩
theorem Reps.getV : ∀ {vs : List V} {ds : List PyData} {i : Nat} {v : V}, Reps K S vs ds → vs[i]? = some v → ∃ d, ds[i]? = some d ∧ Rep K S v d
  | _, _, i, d, .nil, h => by simp at h
  | _, _, 0, d, .cons q r, h => by simp at h; subst h; exact ⟨_, rfl, q⟩
  | _, _, i + 1, d, .cons q r, h => by
    obtain ⟨v, e, z⟩ := Reps.getV (i := i) (v := d) r (by simpa using h)
    exact ⟨v, by simpa using e, z⟩
theorem Reps.append : ∀ {vs ws : List V} {ds es : List PyData}, Reps K S vs ds → Reps K S ws es → Reps K S (vs ++ ws) (ds ++ es)
  | _, _, _, _, .nil, q => q
  | _, _, _, _, .cons h r, q => .cons h (Reps.append r q)
theorem Reps.take : ∀ {vs : List V} {ds : List PyData} (n : Nat), Reps K S vs ds → Reps K S (vs.take n) (ds.take n)
  | _, _, 0, _ => by rw [List.take_zero, List.take_zero]; exact .nil
  | _, _, n + 1, .nil => .nil
  | _, _, n + 1, .cons h r => .cons h (Reps.take n r)
theorem Reps.drop : ∀ {vs : List V} {ds : List PyData} (n : Nat), Reps K S vs ds → Reps K S (vs.drop n) (ds.drop n)
  | _, _, 0, r => r
  | _, _, n + 1, .nil => .nil
  | _, _, n + 1, .cons h r => Reps.drop n r
theorem Reps.ints : ∀ {vs : List V} {ns : List Int}, Reps K S vs (ns.map .int) → vs = ns.map V.int
  | vs, [], h => by cases h; rfl
  | vs, n :: ns, h => by
    cases h with
    | cons h r => cases h; rw [Reps.ints r]; rfl
theorem Reps.of_ints : ∀ ns : List Int, Reps K S (ns.map V.int) (ns.map .int)
  | [] => .nil
  | n :: ns => .cons (.int n) (Reps.of_ints ns)
theorem Reps.of_strs : ∀ ns : List Str, Reps K S (ns.map V.str) (ns.map .str)
  | [] => .nil
  | n :: ns => .cons (.str n) (Reps.of_strs ns)
theorem Reps.strs : ∀ {vs : List V} {ns : List Str}, Reps K S vs (ns.map .str) → vs = ns.map V.str
  | vs, [], h => by cases h; rfl
  | vs, n :: ns, h => by
    cases h with
    | cons h r => cases h; rw [Reps.strs r]; rfl
theorem Reps.of_bools : ∀ ns : List Bool, Reps K S (ns.map V.bl) (ns.map .bool)
  | [] => .nil
  | n :: ns => .cons (.bl n) (Reps.of_bools ns)
end

/-! ### in the model's heap -/
section
variable {X : Cx} {pins : List (Addr × Obj)} {σ : L2.St} {H : Hp} {s : Shared}
theorem keyV_rd {h : Heap} {k : Key} {v : Value} (q : keyIs k v = true) : RD h v (keyD k) := by
  rcases keyIs_shape q with ⟨i, t, rfl, rfl⟩ | ⟨x, t, rfl, rfl⟩
  · exact .int i t
  · exact .str x t
theorem keyR_rd {h : Heap} {k : Key} {v : Value} (q : RelV (kV k) v) : RD h v (keyD k) := by
  cases k with
  | inl i => obtain ⟨t, rfl⟩ := (show ∃ t, v = Value.int i t from q); exact .int i t
  | inr x => obtain ⟨t, rfl⟩ := (show ∃ t, v = Value.str x t from q); exact .str x t
theorem keysR_rd {h : Heap} : ∀ {ks : List Key} {vs : List Value}, Vals (ks.map kV) vs → RDs h vs (ks.map keyD)
  | [], _, .nil => .nil
  | k :: ks, _, .cons q r => .cons (keyR_rd q) (keysR_rd r)
theorem pairs_keys {P : Program} {w : World} {h : Heap} : ∀ {es : List DictEntry} {kvs : List (Key × V)} {vs : List (Key × Value)}, KV kvs vs → Pairs (mixKind P w) es vs →
    RDs h (es.map (·.key)) (kvs.map fun p => keyD p.1)
  | _, _, _, .nil, .nil => .nil
  | _, _, _, .cons q r, .cons a b c => by
    refine .cons ?_ (pairs_keys r c)
    have z := keyV_rd (h := h) (show keyIs _ _ = true from a)
    rw [← q.1] at z
    exact z
theorem pairs_vals {P : Program} {w : World} : ∀ {es : List DictEntry} {kvs : List (Key × V)} {vs : List (Key × Value)}, KV kvs vs → Pairs (mixKind P w) es vs →
    Vals (kvs.map Prod.snd) (es.map (·.val))
  | _, _, _, .nil, .nil => .nil
  | _, _, _, .cons q r, .cons a b c => .cons (by have z := q.2; rw [← b] at z; exact z) (pairs_vals r c)

theorem zip_fst {α β : Type} : ∀ {as : List α} {bs : List β}, as.length = bs.length → (as.zip bs).map (·.1) = as
  | [], [], _ => rfl
  | a :: as, b :: bs, h => by
    show a :: (as.zip bs).map (·.1) = a :: as
    rw [zip_fst (Nat.succ.inj h)]
theorem zip_snd {α β : Type} : ∀ {as : List α} {bs : List β}, as.length = bs.length → (as.zip bs).map (·.2) = bs
  | [], [], _ => rfl
  | a :: as, b :: bs, h => by
    show b :: (as.zip bs).map (·.2) = b :: bs
    rw [zip_snd (Nat.succ.inj h)]

theorem keysT_rd {P : Program} {w : World} {H : Hp} {h : Heap} (ok : HOk P w H h) : ∀ {kvs : List (List Key × V)} {xs : List (List Key × Addr × Value)},
    Paired (fun (p : List Key × V) (q : List Key × Addr × Value) => p.1 = q.1 ∧ H q.2.1 = some (.tup (p.1.map kV)) ∧ RelV p.2 q.2.2) kvs xs →
    RDs h ((xs.map (entryOfKey (tupleKind (mixKind P w)))).map (·.key)) (kvs.map fun p => keyT p.1) ∧ Vals (kvs.map Prod.snd) ((xs.map (entryOfKey (tupleKind (mixKind P w)))).map (·.val))
  | _, _, .nil => ⟨.nil, .nil⟩
  | _, _, .cons q r => by
    obtain ⟨i1, i2⟩ := keysT_rd ok r
    obtain ⟨e1, e2, e3⟩ := q
    refine ⟨.cons ?_ i1, .cons e3 i2⟩
    obtain ⟨_, its, rv, o, g1, g2, n, g3⟩ := (show ObjOk P w H h _ (.tup _) from ok _ _ e2)
    exact .tuple g1 g2 g3 (by simpa using keysR_rd rv)

theorem refs_vals : ∀ xs : List NRow, Vals (xs.map fun x => V.ref x.2.1) (xs.map fun x => Value.ref x.2.1)
  | [] => .nil
  | x :: r => .cons rfl (refs_vals r)
mutual
theorem Rep.rd (I : Inv X pins σ H s) : ∀ {v : V} {d : PyData} {u : Value}, Rep X.K H v d → RelV v u → RD s.heap u d
  | _, _, u, .non, r => by cases (show u = Value.none from r); exact .none
  | _, _, u, .bl b, r => by cases (show u = Value.bool b from r); exact .bool b
  | _, _, u, .int i, r => by obtain ⟨t, rfl⟩ := (show ∃ t, u = Value.int i t from r); exact .int i t
  | _, _, u, .str x, r => by obtain ⟨t, rfl⟩ := (show ∃ t, u = Value.str x t from r); exact .str x t
  | _, _, u, .lst (a := a) h q, r => by
    cases (show u = Value.ref a from r)
    obtain ⟨its, rv, ⟨o, n, e1, e2, e3, e4⟩, hz⟩ := I.list (SqL.of h)
    exact .list e1 e2 e4 (by simpa using Reps.rd I q rv)
  | _, _, u, .tup (a := a) h q, r => by
    cases (show u = Value.ref a from r)
    obtain ⟨its, rv, ⟨o, e1, e2, n, e4⟩, hz⟩ := I.tuple h
    exact .tuple e1 e2 e4 (by simpa using Reps.rd I q rv)
  | _, _, u, .dK (a := a) (kvs := kvs) (ds := ds) h q, r => by
    cases (show u = Value.ref a from r)
    obtain ⟨hz, hy, vs, kv, o, es, ep, e1, e2, e3, _, e5, _⟩ := (show ObjOk X.prog X.w H s.heap a (.dK kvs) from I.hok a _ h)
    have ll : (kvs.map fun p => keyD p.1).length = ds.length := by rw [← q.length, List.length_map, List.length_map]
    refine .dict e1 e2.1 e3 hy ?_ ?_
    · rw [zip_fst ll]; exact pairs_keys kv e5
    · rw [zip_snd ll]; exact Reps.rd I q (pairs_vals kv e5)
  | _, _, u, .dN (a := a) (xs := xs) (vs := vs) (ks := ks) (ds := ds) (o := ob) h ek h8 q1 q2 vv, r => by
    cases (show u = Value.ref a from r)
    obtain ⟨n1, ⟨es, ep, ⟨o, ho, hx, hd⟩, n3⟩, n4, n5⟩ := (show ObjOk X.prog X.w H s.heap a (HP TheW.w a xs ob) from I.hok a _ h).1.1
    have l1 : ks.length = xs.length := by rw [← q1.length, List.length_map]
    have l2 : ks.length = ds.length := by
      rw [l1, ← q2.length, vv.length, List.length_map]
    refine .dict ho hx.1 hd n1 ?_ ?_
    · rw [zip_fst l2, n3, List.map_map]
      exact Reps.rd I q1 (refs_vals xs)
    · rw [zip_snd l2, n3, List.map_map]
      exact Reps.rd I q2 vv
  | _, _, u, .dF (a := a) (kvs := kvs) (ds := ds) n h q, r => by
    cases (show u = Value.ref a from r)
    obtain ⟨_, hz, hy, vs, kv, o, es, ep, e1, e2, e3, _, e5, _⟩ := I.hok a _ h
    have ll : (kvs.map fun p => keyD p.1).length = ds.length := by rw [← q.length, List.length_map, List.length_map]
    refine .dict e1 e2.1 e3 hy ?_ ?_
    · rw [zip_fst ll]; exact pairs_keys kv e5
    · rw [zip_snd ll]; exact Reps.rd I q (pairs_vals kv e5)
theorem Reps.rd (I : Inv X pins σ H s) : ∀ {vs : List V} {ds : List PyData} {us : List Value}, Reps X.K H vs ds → Vals vs us → RDs s.heap us ds
  | _, _, _, .nil, .nil => .nil
  | _, _, _, .cons h q, .cons r t => .cons (Rep.rd I h r) (Reps.rd I q t)
end

def KeyV (K : PySem.W.Frag) (H : Hp) (b : Addr) (k : NestedKey) : Prop := ∃ d, Rep K H (.ref b) d ∧ nk d = some k ∧ k.depth ≤ 8
theorem keyV_at {b : Addr} {k : NestedKey} (I : Inv X pins σ H s) (h : KeyV X.K H b k) : NestedIs s.heap k (.ref b) ∧ k.depth ≤ 8 := by
  obtain ⟨d, r, e, h8⟩ := h
  exact ⟨(r.rd I rfl).nested e, h8⟩
/-- repr of data -/
def rRepr (K : PySem.W.Frag) : List V → Hp → VK → Prop := fun xs H Q => ∃ v d, xs = [v] ∧ Rep K H v d ∧ d.showable = true ∧ d.depth ≤ 60 ∧ d.shown.length ≤ sizeLine ∧ Q (.str d.shown) H
theorem call_repr {k : Nat} (hr : RoomG k X.A) : CallR X (.builtin "repr") (rRepr X.K) := by
  intro pins s σ H xs us Q I r h
  obtain ⟨v, d, rfl, R, h1, h2, h3, q⟩ := h
  cases r with
  | cons r1 r2 =>
    cases r2
    refine call_repr_rd (R.rd I r1) h1 hr.g ?_ h3 ?_
    · have := hr.r.units
      omega
    · intro h' u tk hk
      exact ⟨.str d.shown, H, I.kept hk, ⟨_, rfl⟩, q⟩
end
end DL

/-! Readings over data: what a def does, told by data alone. A reading of the layer (TE, TS ..) is simulated by one over data (DE, DS ..). -/
namespace DL
open PySem PySem.Spec PyProof.Rows L2
open Evl (Ex ex_l ex_t)
variable [TheW]

/-- what a dict of one's own holds: by texts; by tuples in one another -/
inductive Cont where
  | dk (kvs : List (Str × PyData))
  | dn (w : World) (kvs : List (PyData × PyData))
  /-- by integers and texts -/
  | dG (kvs : List (Key × PyData))
def RowR (K : PySem.W.Frag) (S : Hp) (x : NRow) (kv : PyData × PyData) : Prop := (Rep K S (.ref x.2.1) kv.1 ∧ nk kv.1 = some x.1 ∧ x.1.depth ≤ 8) ∧ ∃ v, Rep K S v kv.2 ∧ RelV v x.2.2
def TxtR (K : PySem.W.Frag) (S : Hp) (v : Key × V) (q : Str × PyData) : Prop := v.1 = .inr q.1 ∧ Rep K S v.2 q.2
def KeyR (K : PySem.W.Frag) (S : Hp) (v : Key × V) (q : Key × PyData) : Prop := v.1 = q.1 ∧ Rep K S v.2 q.2
def CtOk (K : PySem.W.Frag) (S : Hp) (p : Addr) (o : HO) : Cont → Prop
  | .dk kvs => ∃ vs : List (Key × V), o = .dK vs ∧ Paired (TxtR K S) vs kvs
  | .dn w kvs => ∃ xs : List NRow, o = HN w p xs ∧ Paired (RowR K S) xs kvs
  | .dG kvs => ∃ vs : List (Key × V), o = .dK vs ∧ Paired (KeyR K S) vs kvs
theorem RowR.mono {K : PySem.W.Frag} {S S' : Hp} (e : Ex S S') {x : NRow} {kv : PyData × PyData} (h : RowR K S x kv) : RowR K S' x kv := by
  obtain ⟨⟨h1, h2⟩, v, h3, h4⟩ := h
  exact ⟨⟨h1.mono e, h2⟩, v, h3.mono e, h4⟩
theorem CtOk.mono {K : PySem.W.Frag} {S S' : Hp} {p : Addr} {o : HO} (e : Ex S S') {c : Cont} (h : CtOk K S p o c) : CtOk K S' p o c := by
  cases c with
  | dk kvs =>
    obtain ⟨vs, h1, h2⟩ := h
    exact ⟨vs, h1, Paired.mapP h2 fun _ _ z => ⟨z.1, z.2.mono e⟩⟩
  | dn w kvs =>
    obtain ⟨xs, h1, h2⟩ := h
    exact ⟨xs, h1, Paired.mapP h2 fun _ _ z => z.mono e⟩
  | dG kvs =>
    obtain ⟨vs, h1, h2⟩ := h
    exact ⟨vs, h1, Paired.mapP h2 fun _ _ z => ⟨z.1, z.2.mono e⟩⟩
theorem CtOk.noLst {K : PySem.W.Frag} {S : Hp} {p : Addr} {xs : List V} {c : Cont} (h : CtOk K S p (.lst xs) c) : False := by
  cases c with
  | dk kvs =>
    obtain ⟨vs, h1, _⟩ := h
    cases h1
  | dn w kvs =>
    obtain ⟨xs, h1, h2⟩ := h
    cases h1
  | dG kvs =>
    obtain ⟨vs, h1, _⟩ := h
    cases h1
/-- what a name holds: data; or a list of its own that nobody else knows -/
inductive DV where
  | dat (d : PyData)
  | own (ds : List PyData)
  | fn (a : Addr)
  | dct (c : Cont)
abbrev DEnv := List (Option DV)

/-- the bag of draws -/
abbrev Bg := Addr × Addr
structure Bag (b : Bg) (H : Hp) : Prop where
  ex : ∃ (r m k : Int) (ns : List Int), H b.1 = some (.lst [.int r, .int m, .int k, .ref b.2]) ∧ b.2 ≠ b.1 ∧ H b.2 = some (.lst (ns.map V.int)) ∧
    (∀ n ∈ ns, 0 ≤ n) ∧ 0 ≤ r ∧ 0 ≤ m ∧ ns.length ≤ 63
theorem Bag.tr {b : Bg} {H : Hp} (g : Bag b H) : H b.1 ≠ none := by
  obtain ⟨r, m, k, ns, e, _⟩ := g.ex
  rw [e]
  exact Option.some_ne_none _
theorem Bag.tr2 {b : Bg} {H : Hp} (g : Bag b H) : H b.2 ≠ none := by
  obtain ⟨r, m, k, ns, e, ne, f, _⟩ := g.ex
  rw [f]
  exact Option.some_ne_none _
theorem Bag.kept {b : Bg} {H H' : Hp} (g : Bag b H) (k : ∀ a o, (a = b.1 ∨ a = b.2) → H a = some o → H' a = some o) : Bag b H' := by
  obtain ⟨r, m, i, ns, e, ne, f, h⟩ := g.ex
  exact ⟨r, m, i, ns, k _ _ (.inl rfl) e, ne, k _ _ (.inr rfl) f, h⟩

/-- ib: the slot of the bag, if there is one; b: where it stands. S: what is known to stand still -/
structure Okk (ib : Option Nat) (b : Bg) (S H : Hp) : Prop where
  sub : Ex S H
  off : ib ≠ none → S b.1 = none
  bag : ib ≠ none → Bag b H
structure Go (ib : Option Nat) (b : Bg) (S H S' H' : Hp) : Prop where
  st : Ex S S'
  keep : ∀ a o, (ib ≠ none → a ≠ b.1) → H a = some o → H' a = some o
  new : ∀ a, H a ≠ none → S a = none → S' a = none
  ok : Okk ib b S' H'

section
variable {ib : Option Nat} {b : Bg} {S H S1 H1 S2 H2 : Hp}
theorem Go.refl (o : Okk ib b S H) : Go ib b S H S H := ⟨Ex.refl S, fun _ _ _ e => e, fun _ _ e => e, o⟩
theorem Go.stays (g : Go ib b S H S1 H1) (o : ib ≠ none → H b.1 ≠ none) {a : Addr} (h : H a ≠ none) : H1 a ≠ none := by
  by_cases c : ib ≠ none → a ≠ b.1
  · cases e : H a with
    | none => exact absurd e h
    | some u => rw [g.keep a u c e]; exact Option.some_ne_none _
  · have ⟨c1, c2⟩ := Classical.not_imp.mp c
    rw [Classical.not_not.mp c2]
    exact (g.ok.bag c1).tr
theorem Go.trans (o : Okk ib b S H) (g : Go ib b S H S1 H1) (g2 : Go ib b S1 H1 S2 H2) : Go ib b S H S2 H2 :=
  ⟨g.st.trans g2.st, fun a u c e => g2.keep a u c (g.keep a u c e),
    fun a h e => g2.new a (g.stays (fun z => (o.bag z).tr) h) (g.new a h e), g2.ok⟩
theorem Ex.none_of {S H : Hp} (e : Ex S H) {p : Addr} (h : H p = none) : S p = none := by
  cases q : S p with
  | none => rfl
  | some u => rw [e p u q] at h; cases h
theorem Ex.both {S H : Hp} {p : Addr} {o : HO} (e : Ex S H) : Ex (upd S p o) (upd H p o) := by
  intro a u q
  by_cases c : a = p
  · rw [c, upd_same] at q ⊢; exact q
  · rw [upd_ne c] at q ⊢; exact e a u q
/-- a new object -/
theorem Go.laid (o : Okk ib b S H) {p : Addr} {u : HO} (hp : H p = none) : Go ib b S H (upd S p u) (upd H p u) := by
  have nb : ib ≠ none → b.1 ≠ p := fun z e => (o.bag z).tr (e ▸ hp)
  have kp : ∀ a x, H a = some x → upd H p u a = some x := fun a x e => by rw [upd_ne (ne_of_none e hp)]; exact e
  exact ⟨Ex.new (Ex.none_of o.sub hp), fun a x _ e => kp a x e, fun a h e => by
      have : a ≠ p := fun z => h (z ▸ hp)
      rw [upd_ne this]; exact e,
    ⟨Ex.both o.sub, fun z => by rw [upd_ne (nb z)]; exact o.off z, fun z => (o.bag z).kept fun a x _ e => kp a x e⟩⟩
/-- a new object of one's own -/
theorem Go.laidOwn (o : Okk ib b S H) {p : Addr} {u : HO} (hp : H p = none) : Go ib b S H S (upd H p u) := by
  have kp : ∀ a x, H a = some x → upd H p u a = some x := fun a x e => by rw [upd_ne (ne_of_none e hp)]; exact e
  exact ⟨Ex.refl S, fun a x _ e => kp a x e, fun _ _ e => e,
    ⟨fun a x e => kp a x (o.sub a x e), o.off, fun z => (o.bag z).kept fun a x _ e => kp a x e⟩⟩
/-- the heap is larger, S as it was -/
theorem Go.more (o : Okk ib b S H) (k : Ex H H1) : Go ib b S H S H1 :=
  ⟨Ex.refl S, fun a x _ e => k a x e, fun _ _ e => e, ⟨o.sub.trans k, o.off, fun z => (o.bag z).kept fun a x _ e => k a x e⟩⟩
end

/-- the names and what they hold; H0: the heap at the def's entry -/
structure EnvOk (K : PySem.W.Frag) (ib : Option Nat) (b : Bg) (H0 S H : Hp) (σ : L2.St) (δ : DEnv) : Prop where
  len : σ.length = δ.length
  slot : ∀ (i : Nat), ib = some i → σ[i]? = some (some (V.ref b.1))
  dat : ∀ (i : Nat) (d : PyData), δ[i]? = some (some (DV.dat d)) → ∃ v, σ[i]? = some (some v) ∧ Rep K S v d
  own : ∀ (i : Nat) (ds : List PyData), δ[i]? = some (some (DV.own ds)) → ∃ p xs, σ[i]? = some (some (V.ref p)) ∧ H p = some (.lst xs) ∧ Reps K S xs ds ∧ S p = none ∧
    H0 p = none ∧ (ib ≠ none → p ≠ b.1) ∧ ∀ (j : Nat) (es : List PyData), δ[j]? = some (some (DV.own es)) → σ[j]? = some (some (V.ref p)) → j = i
  fn : ∀ (i : Nat) (a : Addr), δ[i]? = some (some (DV.fn a)) → σ[i]? = some (some (V.ref a))
  dct : ∀ (i : Nat) (c : Cont), δ[i]? = some (some (DV.dct c)) → ∃ p o, σ[i]? = some (some (V.ref p)) ∧ H p = some o ∧ CtOk K S p o c ∧ S p = none ∧ H0 p = none ∧ (ib ≠ none → p ≠ b.1) ∧
    ∀ (j : Nat) (c' : Cont), δ[j]? = some (some (DV.dct c')) → σ[j]? = some (some (V.ref p)) → j = i

section
variable {K : PySem.W.Frag} {ib : Option Nat} {b : Bg} {H0 S H S1 H1 : Hp} {σ : L2.St} {δ : DEnv}
theorem EnvOk.go (e : EnvOk K ib b H0 S H σ δ) (g : Go ib b S H S1 H1) : EnvOk K ib b H0 S1 H1 σ δ := by
  refine ⟨e.len, e.slot, fun i d h => ?_, fun i ds h => ?_, e.fn, fun i c h => ?_⟩
  · obtain ⟨v, h1, h2⟩ := e.dat i d h
    exact ⟨v, h1, h2.mono g.st⟩
  · obtain ⟨p, xs, h1, h2, h3, h4, h5, h6, h7⟩ := e.own i ds h
    exact ⟨p, xs, h1, g.keep p _ h6 h2, h3.mono g.st, g.new p (by rw [h2]; exact Option.some_ne_none _) h4, h5, h6, h7⟩
  · obtain ⟨p, o, h1, h2, h3, h4, h5, h6, h7⟩ := e.dct i c h
    exact ⟨p, o, h1, g.keep p _ h6 h2, h3.mono g.st, g.new p (by rw [h2]; exact Option.some_ne_none _) h4, h5, h6, h7⟩
theorem EnvOk.weak (e : EnvOk K ib b H0 S H σ δ) {σ' : L2.St} {δ' : DEnv} (hl : σ'.length = δ'.length)
    (hs : ∀ (i : Nat), ib = some i → σ'[i]? = some (some (V.ref b.1)))
    (h : ∀ (i : Nat) (x : DV), δ'[i]? = some (some x) → δ[i]? = some (some x) ∧ σ'[i]? = σ[i]?) : EnvOk K ib b H0 S H σ' δ' := by
  refine ⟨hl, hs, fun i d q => ?_, fun i ds q => ?_, fun i a q => (h i _ q).2.trans (e.fn i a (h i _ q).1), fun i c q => ?_⟩
  · obtain ⟨q1, q2⟩ := h i _ q
    obtain ⟨v, h1, h2⟩ := e.dat i d q1
    exact ⟨v, q2.trans h1, h2⟩
  · obtain ⟨q1, q2⟩ := h i _ q
    obtain ⟨p, xs, h1, h2, h3, h4, h5, h6, h7⟩ := e.own i ds q1
    refine ⟨p, xs, q2.trans h1, h2, h3, h4, h5, h6, fun j es a1 a2 => ?_⟩
    obtain ⟨b1, b2⟩ := h j _ a1
    exact h7 j es b1 (b2.symm.trans a2)
  · obtain ⟨q1, q2⟩ := h i _ q
    obtain ⟨p, o, h1, h2, h3, h4, h5, h6, h7⟩ := e.dct i c q1
    refine ⟨p, o, q2.trans h1, h2, h3, h4, h5, h6, fun j es a1 a2 => ?_⟩
    obtain ⟨b1, b2⟩ := h j _ a1
    exact h7 j es b1 (b2.symm.trans a2)
theorem EnvOk.set (e : EnvOk K ib b H0 S H σ δ) {i : Nat} {v : V} {d : PyData} (hi : ib ≠ some i) (r : Rep K S v d) :
    EnvOk K ib b H0 S H (σ.set i (some v)) (δ.set i (some (DV.dat d))) := by
  have look : ∀ (j : Nat) (x : DV), j ≠ i → (δ.set i (some (DV.dat d)))[j]? = some (some x) → δ[j]? = some (some x) := by
    intro j x hj q
    rw [List.getElem?_set_ne (Ne.symm hj)] at q
    exact q
  have lookσ : ∀ (j : Nat), j ≠ i → (σ.set i (some v))[j]? = σ[j]? := fun j hj => List.getElem?_set_ne (Ne.symm hj)
  have hfn : ∀ (j : Nat) (a : Addr), (δ.set i (some (DV.dat d)))[j]? = some (some (DV.fn a)) → (σ.set i (some v))[j]? = some (some (V.ref a)) := by
    intro j a q
    by_cases hj : j = i
    · subst hj
      have hlt : j < δ.length := by
        have := List.getElem?_eq_some_iff.mp q
        obtain ⟨w, _⟩ := this
        rw [List.length_set] at w
        exact w
      rw [List.getElem?_set_self hlt] at q
      cases q
    · rw [lookσ j hj]; exact e.fn j a (look j _ hj q)
  have hdct : ∀ (j : Nat) (c : Cont), (δ.set i (some (DV.dat d)))[j]? = some (some (DV.dct c)) → j ≠ i ∧ δ[j]? = some (some (DV.dct c)) := by
    intro j c q
    by_cases hj : j = i
    · subst hj
      have hlt : j < δ.length := by
        obtain ⟨w, _⟩ := List.getElem?_eq_some_iff.mp q
        rw [List.length_set] at w
        exact w
      rw [List.getElem?_set_self hlt] at q
      cases q
    · exact ⟨hj, look j _ hj q⟩
  refine ⟨by rw [List.length_set, List.length_set]; exact e.len, fun j hj => ?_, fun j x q => ?_, fun j ds q => ?_, hfn, fun j c q => by
    obtain ⟨hj, q⟩ := hdct j c q
    obtain ⟨p, o, h1, h2, h3, h4, h5, h6, h7⟩ := e.dct j c q
    refine ⟨p, o, (lookσ j hj).trans h1, h2, h3, h4, h5, h6, fun m c' a1 a2 => ?_⟩
    obtain ⟨hm, a1⟩ := hdct m c' a1
    exact h7 m c' a1 ((lookσ m hm).symm.trans a2)⟩
  · rw [lookσ j (fun z => hi (z ▸ hj))]
    exact e.slot j hj
  · by_cases hj : j = i
    · subst hj
      have hlt : j < δ.length := by
        have := List.getElem?_eq_some_iff.mp q
        obtain ⟨w, _⟩ := this
        rw [List.length_set] at w
        exact w
      rw [List.getElem?_set_self hlt] at q
      cases q
      exact ⟨v, by rw [List.getElem?_set_self (by rw [e.len]; exact hlt)], r⟩
    · obtain ⟨u, h1, h2⟩ := e.dat j x (look j _ hj q)
      exact ⟨u, (lookσ j hj).trans h1, h2⟩
  · by_cases hj : j = i
    · subst hj
      have hlt : j < δ.length := by
        obtain ⟨w, _⟩ := List.getElem?_eq_some_iff.mp q
        rw [List.length_set] at w
        exact w
      rw [List.getElem?_set_self hlt] at q
      cases q
    · obtain ⟨p, xs, h1, h2, h3, h4, h5, h6, h7⟩ := e.own j ds (look j _ hj q)
      refine ⟨p, xs, (lookσ j hj).trans h1, h2, h3, h4, h5, h6, fun m es a1 a2 => ?_⟩
      by_cases hm : m = i
      · subst hm
        have hlt : m < δ.length := by
          obtain ⟨w, _⟩ := List.getElem?_eq_some_iff.mp a1
          rw [List.length_set] at w
          exact w
        rw [List.getElem?_set_self hlt] at a1
        cases a1
      · exact h7 m es (look m _ hm a1) ((lookσ m hm).symm.trans a2)
/-- a name is given a new list of its own -/
theorem EnvOk.setOwn (e : EnvOk K ib b H0 S H σ δ) {i : Nat} {p : Addr} {xs : List V} {ds : List PyData} (hi : ib ≠ some i) (hp : H p = some (.lst xs)) (r : Reps K S xs ds)
    (hS : S p = none) (h0 : H0 p = none) (hb : ib ≠ none → p ≠ b.1) (hu : ∀ (j : Nat) (es : List PyData), j ≠ i → δ[j]? = some (some (DV.own es)) → σ[j]? ≠ some (some (V.ref p))) :
    EnvOk K ib b H0 S H (σ.set i (some (V.ref p))) (δ.set i (some (DV.own ds))) := by
  have look : ∀ (j : Nat) (x : DV), j ≠ i → (δ.set i (some (DV.own ds)))[j]? = some (some x) → δ[j]? = some (some x) := by
    intro j x hj q
    rw [List.getElem?_set_ne (Ne.symm hj)] at q
    exact q
  have lookσ : ∀ (j : Nat), j ≠ i → (σ.set i (some (V.ref p)))[j]? = σ[j]? := fun j hj => List.getElem?_set_ne (Ne.symm hj)
  have inb : ∀ {j : Nat} {x : DV}, (δ.set i (some (DV.own ds)))[j]? = some (some x) → j < δ.length := by
    intro j x q
    obtain ⟨w, _⟩ := List.getElem?_eq_some_iff.mp q
    rw [List.length_set] at w
    exact w
  have hfn : ∀ (j : Nat) (a : Addr), (δ.set i (some (DV.own ds)))[j]? = some (some (DV.fn a)) → (σ.set i (some (V.ref p)))[j]? = some (some (V.ref a)) := by
    intro j a q
    by_cases hj : j = i
    · subst hj
      rw [List.getElem?_set_self (inb q)] at q
      cases q
    · rw [lookσ j hj]; exact e.fn j a (look j _ hj q)
  have hdct : ∀ (j : Nat) (c : Cont), (δ.set i (some (DV.own ds)))[j]? = some (some (DV.dct c)) → j ≠ i ∧ δ[j]? = some (some (DV.dct c)) := by
    intro j c q
    by_cases hj : j = i
    · subst hj
      rw [List.getElem?_set_self (inb q)] at q
      cases q
    · exact ⟨hj, look j _ hj q⟩
  refine ⟨by rw [List.length_set, List.length_set]; exact e.len, fun j hj => ?_, fun j x q => ?_, fun j es q => ?_, hfn, fun j c q => by
    obtain ⟨hj, q⟩ := hdct j c q
    obtain ⟨p', o, h1, h2, h3, h4, h5, h6, h7⟩ := e.dct j c q
    refine ⟨p', o, (lookσ j hj).trans h1, h2, h3, h4, h5, h6, fun m c' a1 a2 => ?_⟩
    obtain ⟨hm, a1⟩ := hdct m c' a1
    exact h7 m c' a1 ((lookσ m hm).symm.trans a2)⟩
  · rw [lookσ j (fun z => hi (z ▸ hj))]
    exact e.slot j hj
  · by_cases hj : j = i
    · subst hj
      rw [List.getElem?_set_self (inb q)] at q
      cases q
    · obtain ⟨u, h1, h2⟩ := e.dat j x (look j _ hj q)
      exact ⟨u, (lookσ j hj).trans h1, h2⟩
  · by_cases hj : j = i
    · subst hj
      have hlt := inb q
      rw [List.getElem?_set_self hlt] at q
      cases q
      refine ⟨p, xs, by rw [List.getElem?_set_self (by rw [e.len]; exact hlt)], hp, r, hS, h0, hb, fun m es a1 a2 => ?_⟩
      by_cases hm : m = j
      · exact hm
      · exact absurd ((lookσ m hm).symm.trans a2) (hu m es hm (look m _ hm a1))
    · obtain ⟨p', xs', h1, h2, h3, h4, h5, h6, h7⟩ := e.own j es (look j _ hj q)
      refine ⟨p', xs', (lookσ j hj).trans h1, h2, h3, h4, h5, h6, fun m fs a1 a2 => ?_⟩
      by_cases hm : m = i
      · subst hm
        rw [List.getElem?_set_self (by rw [e.len]; exact inb a1)] at a2
        have : p = p' := V.ref.inj (Option.some.inj (Option.some.inj a2))
        subst this
        exact absurd h1 (hu j es hj (look j _ hj q))
      · exact h7 m fs (look m _ hm a1) ((lookσ m hm).symm.trans a2)
end

/-! ### readings over data -/
abbrev DE := DEnv → (PyData → Prop) → Prop
abbrev DA := DEnv → (List PyData → Prop) → Prop
abbrev DT := DEnv → (Bool → Prop) → Prop
abbrev DO := DEnv → (Option Int → Prop) → Prop
structure DEnds where
  nx : DEnv → Prop
  rt : PyData → Prop
  bk : DEnv → Prop := fun _ => False
  ct : DEnv → Prop := fun _ => False
  ro : List PyData → Prop := fun _ => False
abbrev DS := DEnds → DEnv → Prop
abbrev DG := PyData → DEnv → (DEnv → Prop) → Prop

section
variable (K : PySem.W.Frag) (ib : Option Nat) (b : Bg)
def SimE (te : TE) (de : DE) : Prop := ∀ (H0 S H : Hp) (σ : L2.St) (δ : DEnv) (R : PyData → Prop) (Q : VK), Okk ib b S H → EnvOk K ib b H0 S H σ δ → de δ R →
  (∀ S' H' v d, Go ib b S H S' H' → Rep K S' v d → R d → Q v H') → te σ H Q
def SimA (ta : TA) (da : DA) : Prop := ∀ (H0 S H : Hp) (σ : L2.St) (δ : DEnv) (R : List PyData → Prop) (Q : List V → Hp → Prop), Okk ib b S H → EnvOk K ib b H0 S H σ δ → da δ R →
  (∀ S' H' vs ds, Go ib b S H S' H' → Reps K S' vs ds → R ds → Q vs H') → ta σ H Q
def SimT (tt : TT) (dt : DT) : Prop := ∀ (H0 S H : Hp) (σ : L2.St) (δ : DEnv) (R : Bool → Prop) (Q : Bool → Hp → Prop), Okk ib b S H → EnvOk K ib b H0 S H σ δ → dt δ R →
  (∀ S' H' c, Go ib b S H S' H' → R c → Q c H') → tt σ H Q
def SimO (to : TO) (dO : DO) : Prop := ∀ (H0 S H : Hp) (σ : L2.St) (δ : DEnv) (R : Option Int → Prop) (Q : Option Int → Hp → Prop), Okk ib b S H → EnvOk K ib b H0 S H σ δ → dO δ R →
  (∀ S' H' c, Go ib b S H S' H' → R c → Q c H') → to σ H Q
def SimG (g : TG) (dg : DG) : Prop := ∀ (H0 S H : Hp) (σ : L2.St) (δ : DEnv) (v : V) (d : PyData) (R : DEnv → Prop) (Q : L2.St → Hp → Prop), Okk ib b S H → EnvOk K ib b H0 S H σ δ →
  Rep K S v d → dg d δ R → (∀ S' H' σ' δ', Go ib b S H S' H' → EnvOk K ib b H0 S' H' σ' δ' → R δ' → Q σ' H') → g v σ H Q
/-- a statement: from a state that the def has come to (S0, H0: its entry) -/
structure EndsOk (H0 S0 Sm : Hp) (D : Ends) (DD : DEnds) : Prop where
  nx : ∀ S H σ δ, Go ib b S0 H0 S H → Ex Sm S → EnvOk K ib b H0 S H σ δ → DD.nx δ → D.nx σ H
  rt : ∀ S H v d, Go ib b S0 H0 S H → Ex Sm S → Rep K S v d → DD.rt d → D.rt v H
  bk : ∀ S H σ δ, Go ib b S0 H0 S H → Ex Sm S → EnvOk K ib b H0 S H σ δ → DD.bk δ → D.bk σ H
  ct : ∀ S H σ δ, Go ib b S0 H0 S H → Ex Sm S → EnvOk K ib b H0 S H σ δ → DD.ct δ → D.ct σ H
  ro : ∀ S H p xs es, Go ib b S0 H0 S H → Ex Sm S → H p = some (.lst xs) → Reps K S xs es → S p = none → H0 p = none → DD.ro es → D.rt (.ref p) H
/-- Sm: what was known somewhere ahead, and stands still -/
def SimS (ts : TS) (ds : DS) : Prop := ∀ (S0 H0 Sm S H : Hp) (σ : L2.St) (δ : DEnv) (D : Ends) (DD : DEnds), Okk ib b S0 H0 → Ex Sm S → Go ib b S0 H0 S H → EnvOk K ib b H0 S H σ δ → ds DD δ →
  EndsOk K ib b H0 S0 Sm D DD → ts D σ H
/-- by values -/
def SimR2 (r : R2) (dr : PyData → PyData → (PyData → Prop) → Prop) : Prop := ∀ (S H : Hp) (x y : V) (dx dy : PyData) (R : PyData → Prop) (Q : VK), Okk ib b S H → Rep K S x dx → Rep K S y dy → dr dx dy R →
  (∀ S' H' v d, Go ib b S H S' H' → Rep K S' v d → R d → Q v H') → r x y H Q
def SimU (r : V → Hp → VK → Prop) (dr : PyData → (PyData → Prop) → Prop) : Prop := ∀ (S H : Hp) (x : V) (dx : PyData) (R : PyData → Prop) (Q : VK), Okk ib b S H → Rep K S x dx → dr dx R →
  (∀ S' H' v d, Go ib b S H S' H' → Rep K S' v d → R d → Q v H') → r x H Q
def SimC (r : List V → Hp → VK → Prop) (dr : List PyData → (PyData → Prop) → Prop) : Prop := ∀ (S H : Hp) (xs : List V) (ds : List PyData) (R : PyData → Prop) (Q : VK), Okk ib b S H → Reps K S xs ds → dr ds R →
  (∀ S' H' v d, Go ib b S H S' H' → Rep K S' v d → R d → Q v H') → r xs H Q
/-- what is walked: the items, in order; each turn may lay something new -/
def WalkD (S : Hp) (J : It) (ds : List PyData) : Prop := ∀ (S1 H : Hp), Ex S S1 → Okk ib b S1 H → (∀ i, i < ds.length → J.go i H) ∧ J.stop ds.length H ∧
  ∀ i x H', i < ds.length → J.yld i H x H' → ∃ S2 d, Go ib b S1 H S2 H' ∧ ds[i]? = some d ∧ Rep K S2 x d
def SimI (ti : TI) (di : DA) : Prop := ∀ (H0 S H : Hp) (σ : L2.St) (δ : DEnv) (R : List PyData → Prop) (Q : It → Hp → Prop), Okk ib b S H → EnvOk K ib b H0 S H σ δ → di δ R →
  (∀ S' H' J ds, Go ib b S H S' H' → WalkD K ib b S' J ds → R ds → Q J H') → ti σ H Q
end

/-! ### expressions -/
section
variable {K : PySem.W.Frag} {ib : Option Nat} {b : Bg}
def dVar (i : Nat) : DE := fun δ R => match δ[i]? with
  | some (some (DV.dat d)) => R d
  | _ => False
theorem sim_var {i : Nat} : SimE K ib b (tVar i) (dVar i) := by
  intro H0 S H σ δ R Q o e h k
  unfold dVar at h
  split at h
  · rename_i d q
    obtain ⟨v, h1, h2⟩ := e.dat i d q
    exact ⟨v, h1, k S H v d (Go.refl o) h2 h⟩
  · exact h.elim
def dC (d : PyData) : DE := fun _ R => R d
theorem sim_int {i : Int} : SimE K ib b (tC (.int i)) (dC (.int i)) := fun H0 S H σ δ R Q o e h k => k S H _ _ (Go.refl o) (.int i) h
theorem sim_str {i : Str} : SimE K ib b (tC (.str i)) (dC (.str i)) := fun H0 S H σ δ R Q o e h k => k S H _ _ (Go.refl o) (.str i) h
theorem sim_bl {i : Bool} : SimE K ib b (tC (.bl i)) (dC (.bool i)) := fun H0 S H σ δ R Q o e h k => k S H _ _ (Go.refl o) (.bl i) h
theorem sim_non : SimE K ib b (tC .non) (dC .none) := fun H0 S H σ δ R Q o e h k => k S H _ _ (Go.refl o) .non h
/-- a constant of the module -/
theorem sim_glob {a : Addr} {d : PyData} (h : Rep K (fun _ => none) (.ref a) d) : SimE K ib b (tC (.ref a)) (dC d) :=
  fun H0 S H σ δ R Q o e q k => k S H _ _ (Go.refl o) (h.mono fun _ _ z => by cases z) q

def dNil : DA := fun _ R => R []
def dCons (de : DE) (da : DA) : DA := fun δ R => de δ fun d => da δ fun ds => R (d :: ds)
theorem sim_nil : SimA K ib b tNil dNil := fun H0 S H σ δ R Q o e h k => k S H [] [] (Go.refl o) .nil h
variable {ta tb tc te : TE} {da db dc de : DE} {t : TA} {d : DA} {tt tu : TT} {dt du : DT}
theorem sim_cons (h1 : SimE K ib b te de) (h2 : SimA K ib b t d) : SimA K ib b (tCons te t) (dCons de d) := by
  intro H0 S H σ δ R Q o e h k
  refine h1 H0 S H σ δ _ _ o e h fun S1 H1 v dv g r q => ?_
  refine h2 H0 S1 H1 σ δ _ _ g.ok (e.go g) q fun S2 H2 vs ds g2 r2 q2 => ?_
  exact k S2 H2 (v :: vs) (dv :: ds) (g.trans o g2) (.cons (r.mono g2.st) r2) q2
def small (n : Nat) : Bool := decide (n ≤ 100000)
theorem small_ok {n : Nat} (h : small n = true) : n ≤ sizeLine := Evl.sz_of (of_decide_eq_true h)
theorem small_lt {n : Nat} (h : small (n + 1) = true) : n < sizeLine := Evl.sz_lt (by have := of_decide_eq_true h; omega)
def dTup (da : DA) : DE := fun δ R => da δ fun ds => small ds.length = true ∧ R (.tuple ds)
def dLst (da : DA) : DE := fun δ R => da δ fun ds => small ds.length = true ∧ R (.list ds)
theorem sim_tup (h : SimA K ib b t d) : SimE K ib b (tTup t) (dTup d) := by
  intro H0 S H σ δ R Q o e q k
  refine h H0 S H σ δ _ _ o e q fun S1 H1 vs ds g r q => ⟨by rw [r.length]; exact small_ok q.1, fun p hp => ?_⟩
  have g2 := Go.laid (u := .tup vs) g.ok hp
  exact k _ _ _ _ (g.trans o g2) (.tup (Evl.st_of upd_same) (r.mono g2.st)) q.2
theorem sim_lst (h : SimA K ib b t d) : SimE K ib b (tLst t) (dLst d) := by
  intro H0 S H σ δ R Q o e q k
  refine h H0 S H σ δ _ _ o e q fun S1 H1 vs ds g r q => ⟨by rw [r.length]; exact small_ok q.1, fun p hp => ?_⟩
  have g2 := Go.laid (u := .lst vs) g.ok hp
  exact k _ _ _ _ (g.trans o g2) (.lst upd_same (r.mono g2.st)) q.2
def dOp (dr : PyData → PyData → (PyData → Prop) → Prop) (da db : DE) : DE := fun δ R => da δ fun x => db δ fun y => dr x y R
theorem sim_op {r : R2} {dr : PyData → PyData → (PyData → Prop) → Prop} (hr : SimR2 K ib b r dr) (h1 : SimE K ib b ta da) (h2 : SimE K ib b tb db) : SimE K ib b (tOp r ta tb) (dOp dr da db) := by
  intro H0 S H σ δ R Q o e h k
  refine h1 H0 S H σ δ _ _ o e h fun S1 H1 v dv g r q => ?_
  refine h2 H0 S1 H1 σ δ _ _ g.ok (e.go g) q fun S2 H2 w dw g2 r2 q2 => ?_
  exact hr S2 H2 v w dv dw R Q g2.ok (r.mono g2.st) r2 q2 fun S3 H3 u du g3 r3 q3 => k S3 H3 u du ((g.trans o g2).trans o g3) r3 q3
def dUn (dr : PyData → (PyData → Prop) → Prop) (da : DE) : DE := fun δ R => da δ fun x => dr x R
theorem sim_un {r : V → Hp → VK → Prop} {dr : PyData → (PyData → Prop) → Prop} (hr : SimU K ib b r dr) (h1 : SimE K ib b ta da) : SimE K ib b (tUn r ta) (dUn dr da) := by
  intro H0 S H σ δ R Q o e h k
  refine h1 H0 S H σ δ _ _ o e h fun S1 H1 v dv g r q => ?_
  exact hr S1 H1 v dv R Q g.ok r q fun S3 H3 u du g3 r3 q3 => k S3 H3 u du (g.trans o g3) r3 q3
def dCB (dr : List PyData → (PyData → Prop) → Prop) (d : DA) : DE := fun δ R => d δ fun ds => dr ds R
theorem sim_cb {r : List V → Hp → VK → Prop} {dr : List PyData → (PyData → Prop) → Prop} (hr : SimC K ib b r dr) (h1 : SimA K ib b t d) : SimE K ib b (tCB r t) (dCB dr d) := by
  intro H0 S H σ δ R Q o e h k
  refine h1 H0 S H σ δ _ _ o e h fun S1 H1 v dv g r q => ?_
  exact hr S1 H1 v dv R Q g.ok r q fun S3 H3 u du g3 r3 q3 => k S3 H3 u du (g.trans o g3) r3 q3
def dIf (dt : DT) (da db : DE) : DE := fun δ R => dt δ fun c => if c = true then da δ R else db δ R
theorem sim_ifx (h0 : SimT K ib b tt dt) (h1 : SimE K ib b ta da) (h2 : SimE K ib b tb db) : SimE K ib b (tIf tt ta tb) (dIf dt da db) := by
  intro H0 S H σ δ R Q o e h k
  refine h0 H0 S H σ δ _ _ o e h fun S1 H1 c g q => ?_
  cases c with
  | true => exact h1 H0 S1 H1 σ δ R Q g.ok (e.go g) q fun S3 H3 u du g3 r3 q3 => k S3 H3 u du (g.trans o g3) r3 q3
  | false => exact h2 H0 S1 H1 σ δ R Q g.ok (e.go g) q fun S3 H3 u du g3 r3 q3 => k S3 H3 u du (g.trans o g3) r3 q3
def isB (d : PyData) (R : Bool → Prop) : Prop := match d with
  | .bool c => R c
  | _ => False
theorem isB_of {S : Hp} {v : V} {d : PyData} {R : Bool → Prop} (r : Rep K S v d) (h : isB d R) : ∃ c, v = .bl c ∧ R c := by
  cases r with
  | bl c => exact ⟨c, rfl, h⟩
  | _ => exact h.elim
def dTest (de : DE) : DT := fun δ R => de δ fun d => isB d R
theorem sim_test (h1 : SimE K ib b te de) : SimT K ib b (tTest te) (dTest de) := by
  intro H0 S H σ δ R Q o e h k
  refine h1 H0 S H σ δ _ _ o e h fun S1 H1 v dv g r q => ?_
  obtain ⟨c, rfl, q⟩ := isB_of r q
  exact ⟨c, rfl, k S1 H1 c g q⟩
theorem sim_tB (h1 : SimE K ib b te de) : SimT K ib b (tB te) (dTest de) := by
  intro H0 S H σ δ R Q o e h k
  refine h1 H0 S H σ δ _ _ o e h fun S1 H1 v dv g r q => ?_
  obtain ⟨c, rfl, q⟩ := isB_of r q
  exact ⟨c, rfl, k S1 H1 c g q⟩
def dAnd (t u : DT) : DT := fun δ R => t δ fun c => if c = true then u δ R else R false
def dOr (t u : DT) : DT := fun δ R => t δ fun c => if c = true then R true else u δ R
def dNot (t : DT) : DT := fun δ R => t δ fun c => R (!c)
theorem sim_and (h1 : SimT K ib b tt dt) (h2 : SimT K ib b tu du) : SimT K ib b (tAnd tt tu) (dAnd dt du) := by
  intro H0 S H σ δ R Q o e h k
  refine h1 H0 S H σ δ _ _ o e h fun S1 H1 c g q => ?_
  cases c with
  | true => exact h2 H0 S1 H1 σ δ R Q g.ok (e.go g) q fun S3 H3 u g3 q3 => k S3 H3 u (g.trans o g3) q3
  | false => exact k S1 H1 false g q
theorem sim_or (h1 : SimT K ib b tt dt) (h2 : SimT K ib b tu du) : SimT K ib b (tOr tt tu) (dOr dt du) := by
  intro H0 S H σ δ R Q o e h k
  refine h1 H0 S H σ δ _ _ o e h fun S1 H1 c g q => ?_
  cases c with
  | false => exact h2 H0 S1 H1 σ δ R Q g.ok (e.go g) q fun S3 H3 u g3 q3 => k S3 H3 u (g.trans o g3) q3
  | true => exact k S1 H1 true g q
theorem sim_not (h1 : SimT K ib b tt dt) : SimT K ib b (tNot tt) (dNot dt) := by
  intro H0 S H σ δ R Q o e h k
  exact h1 H0 S H σ δ _ _ o e h fun S1 H1 c g q => k S1 H1 (!c) g q
def dAndV (da db : DE) : DE := fun δ R => da δ fun d => isB d fun c => if c = true then db δ R else R (.bool false)
def dOrV (da db : DE) : DE := fun δ R => da δ fun d => isB d fun c => if c = true then R (.bool true) else db δ R
def dNotV (da : DE) : DE := fun δ R => da δ fun d => isB d fun c => R (.bool (!c))
theorem sim_andV (h1 : SimE K ib b ta da) (h2 : SimE K ib b tb db) : SimE K ib b (tAndV ta tb) (dAndV da db) := by
  intro H0 S H σ δ R Q o e h k
  refine h1 H0 S H σ δ _ _ o e h fun S1 H1 v dv g r q => ?_
  obtain ⟨c, rfl, q⟩ := isB_of r q
  refine ⟨c, rfl, ?_⟩
  cases c with
  | true => exact h2 H0 S1 H1 σ δ R Q g.ok (e.go g) q fun S3 H3 u du g3 r3 q3 => k S3 H3 u du (g.trans o g3) r3 q3
  | false => exact k S1 H1 _ _ g (.bl false) q
theorem sim_orV (h1 : SimE K ib b ta da) (h2 : SimE K ib b tb db) : SimE K ib b (tOrV ta tb) (dOrV da db) := by
  intro H0 S H σ δ R Q o e h k
  refine h1 H0 S H σ δ _ _ o e h fun S1 H1 v dv g r q => ?_
  obtain ⟨c, rfl, q⟩ := isB_of r q
  refine ⟨c, rfl, ?_⟩
  cases c with
  | false => exact h2 H0 S1 H1 σ δ R Q g.ok (e.go g) q fun S3 H3 u du g3 r3 q3 => k S3 H3 u du (g.trans o g3) r3 q3
  | true => exact k S1 H1 _ _ g (.bl true) q
theorem sim_notV (h1 : SimE K ib b ta da) : SimE K ib b (tNotV ta) (dNotV da) := by
  intro H0 S H σ δ R Q o e h k
  refine h1 H0 S H σ δ _ _ o e h fun S1 H1 v dv g r q => ?_
  obtain ⟨c, rfl, q⟩ := isB_of r q
  exact ⟨c, rfl, k S1 H1 _ _ g (.bl _) q⟩
def dChain (dr dr' : PyData → PyData → (PyData → Prop) → Prop) (da db dc : DE) : DE := fun δ R => da δ fun x => db δ fun y => dr x y fun z => isB z fun k =>
  if k = true then dc δ fun w => dr' y w R else R (.bool false)
theorem sim_chain {r r' : R2} {dr dr' : PyData → PyData → (PyData → Prop) → Prop} (hr : SimR2 K ib b r dr) (hr' : SimR2 K ib b r' dr') (h1 : SimE K ib b ta da) (h2 : SimE K ib b tb db) (h3 : SimE K ib b tc dc) :
    SimE K ib b (tChain r r' ta tb tc) (dChain dr dr' da db dc) := by
  intro H0 S H σ δ R Q o e h k
  refine h1 H0 S H σ δ _ _ o e h fun S1 H1 v dv g r q => ?_
  refine h2 H0 S1 H1 σ δ _ _ g.ok (e.go g) q fun S2 H2 w dw g2 r2 q2 => ?_
  have g12 := g.trans o g2
  refine hr S2 H2 v w dv dw _ _ g2.ok (r.mono g2.st) r2 q2 fun S3 H3 u du g3 r3 q3 => ?_
  obtain ⟨c, rfl, q3⟩ := isB_of r3 q3
  have g13 := g12.trans o g3
  refine ⟨c, rfl, ?_⟩
  cases c with
  | false => exact k S3 H3 _ _ g13 (.bl false) q3
  | true =>
    refine h3 H0 S3 H3 σ δ _ _ g3.ok (e.go g13) q3 fun S4 H4 x dx g4 r4 q4 => ?_
    exact hr' S4 H4 w x dw dx R Q g4.ok (r2.mono (g3.st.trans g4.st)) r4 q4 fun S5 H5 u du g5 r5 q5 => k S5 H5 u du ((g13.trans o g4).trans o g5) r5 q5
/-- slices -/
def dNoPart : DO := fun _ R => R none
def isI (d : PyData) (R : Int → Prop) : Prop := match d with
  | .int i => R i
  | _ => False
theorem isI_of {S : Hp} {v : V} {d : PyData} {R : Int → Prop} (r : Rep K S v d) (h : isI d R) : ∃ c, v = .int c ∧ d = .int c ∧ R c := by
  cases r with
  | int c => exact ⟨c, rfl, rfl, h⟩
  | _ => exact h.elim
def dPart (de : DE) : DO := fun δ R => de δ fun d => isI d fun i => R (some i)
theorem sim_noPart : SimO K ib b tNoPart dNoPart := fun H0 S H σ δ R Q o e h k => k S H none (Go.refl o) h
theorem sim_part (h1 : SimE K ib b te de) : SimO K ib b (tPart te) (dPart de) := by
  intro H0 S H σ δ R Q o e h k
  refine h1 H0 S H σ δ _ _ o e h fun S1 H1 v dv g r q => ?_
  obtain ⟨c, rfl, _, q⟩ := isI_of r q
  exact ⟨c, rfl, k S1 H1 _ g q⟩
def dSl (dr : PyData → Option Int → Option Int → (PyData → Prop) → Prop) (de : DE) (dl dh : DO) : DE := fun δ R => de δ fun x => dl δ fun l => dh δ fun u => dr x l u R
def SimSl (K : PySem.W.Frag) (ib : Option Nat) (b : Bg) (r : V → Option Int → Option Int → Hp → VK → Prop) (dr : PyData → Option Int → Option Int → (PyData → Prop) → Prop) : Prop :=
  ∀ (S H : Hp) (x : V) (dx : PyData) (l u : Option Int) (R : PyData → Prop) (Q : VK), Okk ib b S H → Rep K S x dx → dr dx l u R →
    (∀ S' H' v d, Go ib b S H S' H' → Rep K S' v d → R d → Q v H') → r x l u H Q
theorem sim_sl {r : V → Option Int → Option Int → Hp → VK → Prop} {dr : PyData → Option Int → Option Int → (PyData → Prop) → Prop} {tl th : TO} {dl dh : DO}
    (hr : SimSl K ib b r dr) (h1 : SimE K ib b te de) (h2 : SimO K ib b tl dl) (h3 : SimO K ib b th dh) : SimE K ib b (tSl r te tl th) (dSl dr de dl dh) := by
  intro H0 S H σ δ R Q o e h k
  refine h1 H0 S H σ δ _ _ o e h fun S1 H1 v dv g r q => ?_
  refine h2 H0 S1 H1 σ δ _ _ g.ok (e.go g) q fun S2 H2 l g2 q2 => ?_
  have g12 := g.trans o g2
  refine h3 H0 S2 H2 σ δ _ _ g2.ok (e.go g12) q2 fun S3 H3 u g3 q3 => ?_
  have g13 := g12.trans o g3
  exact hr S3 H3 v dv l u R Q g3.ok (r.mono (g2.st.trans g3.st)) q3 fun S4 H4 x dx g4 r4 q4 => k S4 H4 x dx (g13.trans o g4) r4 q4
end
end DL

/-! Statements, loops and comprehensions over data; promises of defs over data. -/
namespace DL
open PySem PySem.Spec PyProof.Rows L2
open Evl (Ex ex_l ex_t)
variable [TheW]
section
variable {K : PySem.W.Frag} {ib : Option Nat} {b : Bg}
variable {te : TE} {de : DE} {ts tu : TS} {ds du : DS} {tt : TT} {dt : DT} {g : TG} {dg : DG} {ti : TI} {di : DA} {t : TA} {d : DA}

theorem EndsOk.with {H0 S0 Sm : Hp} {D : Ends} {DD : DEnds} (e : EndsOk K ib b H0 S0 Sm D DD) {n : L2.St → Hp → Prop} {m : DEnv → Prop}
    (h : ∀ S H σ δ, Go ib b S0 H0 S H → Ex Sm S → EnvOk K ib b H0 S H σ δ → m δ → n σ H) : EndsOk K ib b H0 S0 Sm { D with nx := n } { DD with nx := m } :=
  ⟨h, e.rt, e.bk, e.ct, e.ro⟩
def dNext : DS := fun DD δ => DD.nx δ
def dSeq (s1 s2 : DS) : DS := fun DD δ => s1 { DD with nx := s2 DD } δ
theorem sim_next : SimS K ib b tNext dNext := fun S0 H0 Sm S H σ δ D DD o em g e h x => x.nx S H σ δ g em e h
theorem sim_seq (h1 : SimS K ib b ts ds) (h2 : SimS K ib b tu du) : SimS K ib b (tSeq ts tu) (dSeq ds du) := by
  intro S0 H0 Sm S H σ δ D DD o em g e h x
  exact h1 S0 H0 Sm S H σ δ _ _ o em g e h (x.with fun S' H' σ' δ' g' em' e' q => h2 S0 H0 Sm S' H' σ' δ' D DD o em' g' e' q x)
/-- a cut: what is known in the middle -/
def dCut (M : DEnv → Prop) (s1 s2 : DS) : DS := fun DD δ => s1 { DD with nx := M } δ ∧ ∀ δ', M δ' → s2 DD δ'
theorem sim_cut (M : DEnv → Prop) (h1 : SimS K ib b ts ds) (h2 : SimS K ib b tu du) : SimS K ib b (tSeq ts tu) (dCut M ds du) := by
  intro S0 H0 Sm S H σ δ D DD o em g e h x
  exact h1 S0 H0 Sm S H σ δ _ _ o em g e h.1 (x.with fun S' H' σ' δ' g' em' e' q => h2 S0 H0 Sm S' H' σ' δ' D DD o em' g' e' (h.2 δ' q) x)
def dBreak : DS := fun DD δ => DD.bk δ
def dCont : DS := fun DD δ => DD.ct δ
theorem sim_break : SimS K ib b tBreak dBreak := fun S0 H0 Sm S H σ δ D DD o em g e h x => x.bk S H σ δ g em e h
theorem sim_cont : SimS K ib b tCont dCont := fun S0 H0 Sm S H σ δ D DD o em g e h x => x.ct S H σ δ g em e h
def dRet (de : DE) : DS := fun DD δ => de δ DD.rt
theorem sim_ret (h1 : SimE K ib b te de) : SimS K ib b (tRet te) (dRet de) := by
  intro S0 H0 Sm S H σ δ D DD o em g e h x
  exact h1 H0 S H σ δ _ _ g.ok e h fun S1 H1 v dv g1 r q => x.rt S1 H1 v dv (g.trans o g1) (em.trans g1.st) r q
def dRetN : DS := fun DD δ => DD.rt .none
theorem sim_retN : SimS K ib b tRetN dRetN := fun S0 H0 Sm S H σ δ D DD o em g e h x => x.rt S H .non .none g em .non h
def dDrop (de : DE) : DS := fun DD δ => de δ fun _ => DD.nx δ
theorem sim_drop (h1 : SimE K ib b te de) : SimS K ib b (tDrop te) (dDrop de) := by
  intro S0 H0 Sm S H σ δ D DD o em g e h x
  exact h1 H0 S H σ δ _ _ g.ok e h fun S1 H1 v dv g1 r q => x.nx S1 H1 σ δ (g.trans o g1) (em.trans g1.st) (e.go g1) q
def dIfS (dt : DT) (s1 s2 : DS) : DS := fun DD δ => dt δ fun c => if c = true then s1 DD δ else s2 DD δ
theorem sim_if (h0 : SimT K ib b tt dt) (h1 : SimS K ib b ts ds) (h2 : SimS K ib b tu du) : SimS K ib b (tIfS tt ts tu) (dIfS dt ds du) := by
  intro S0 H0 Sm S H σ δ D DD o em g e h x
  refine h0 H0 S H σ δ _ _ g.ok e h fun S1 H1 c g1 q => ?_
  cases c with
  | true => exact h1 S0 H0 Sm S1 H1 σ δ D DD o (em.trans g1.st) (g.trans o g1) (e.go g1) q x
  | false => exact h2 S0 H0 Sm S1 H1 σ δ D DD o (em.trans g1.st) (g.trans o g1) (e.go g1) q x

/-! targets -/
def dgName (i : Nat) : DG := fun d δ R => R (δ.set i (some (.dat d)))
theorem simg_name {i : Nat} (hi : ib ≠ some i) : SimG K ib b (gName i) (dgName i) := fun H0 S H σ δ v d R Q o e r h k => k S H _ _ (Go.refl o) (e.set hi r) h
abbrev DGs := List PyData → DEnv → (DEnv → Prop) → Prop
def SimGs (K : PySem.W.Frag) (ib : Option Nat) (b : Bg) (g : TGs) (dg : DGs) : Prop := ∀ (H0 S H : Hp) (σ : L2.St) (δ : DEnv) (vs : List V) (dvs : List PyData) (R : DEnv → Prop) (Q : L2.St → Hp → Prop), Okk ib b S H → EnvOk K ib b H0 S H σ δ →
  Reps K S vs dvs → dg dvs δ R → (∀ S' H' σ' δ', Go ib b S H S' H' → EnvOk K ib b H0 S' H' σ' δ' → R δ' → Q σ' H') → g vs σ H Q
def dgNil : DGs := fun vs δ R => match vs with
  | [] => R δ
  | _ => False
def dgCons (g : DG) (u : DGs) : DGs := fun vs δ R => match vs with
  | d :: r => g d δ fun δ' => u r δ' R
  | _ => False
theorem simg_nil : SimGs K ib b gNil dgNil := by
  intro H0 S H σ δ vs dvs R Q o e r h k
  cases r with
  | nil => exact ⟨rfl, k S H σ δ (Go.refl o) e h⟩
  | cons _ _ => exact h.elim
theorem simg_cons {u : TGs} {dgs : DGs} (h1 : SimG K ib b g dg) (h2 : SimGs K ib b u dgs) : SimGs K ib b (gCons g u) (dgCons dg dgs) := by
  intro H0 S H σ δ vs dvs R Q o e r h k
  cases r with
  | nil => exact h.elim
  | cons r rs =>
    refine ⟨_, _, rfl, ?_⟩
    exact h1 H0 S H σ δ _ _ _ _ o e r h fun S1 H1 σ' δ' g1 e' q => h2 H0 S1 H1 σ' δ' _ _ R Q g1.ok e' (rs.mono g1.st) q fun S2 H2 σ2 δ2 g2 e2 q2 => k S2 H2 σ2 δ2 (g1.trans o g2) e2 q2
def dgTup (n : Nat) (u : DGs) : DG := fun d δ R => match d with
  | .tuple ds => ds.length = n ∧ u ds δ R
  | _ => False
theorem simg_tup {n : Nat} {u : TGs} {dgs : DGs} (h2 : SimGs K ib b u dgs) : SimG K ib b (gTup K n u) (dgTup n dgs) := by
  intro H0 S H σ δ v d R Q o e r h k
  cases r with
  | tup hq rs =>
    have ex : Ex S H := o.sub
    exact ⟨_, _, rfl, ex_t ex hq, by rw [rs.length]; exact h.1, h2 H0 S H σ δ _ _ R Q o e rs h.2 k⟩
  | _ => exact h.elim
def dAsg (de : DE) (dg : DG) : DS := fun DD δ => de δ fun d => dg d δ DD.nx
theorem sim_asg (h1 : SimE K ib b te de) (h2 : SimG K ib b g dg) : SimS K ib b (tAsg te g) (dAsg de dg) := by
  intro S0 H0 Sm S H σ δ D DD o em g0 e h x
  refine h1 H0 S H σ δ _ _ g0.ok e h fun S1 H1 v dv g1 r q => ?_
  refine h2 H0 S1 H1 σ δ v dv _ _ g1.ok (e.go g1) r q fun S2 H2 σ' δ' g2 e' q' => ?_
  have g12 := g1.trans g0.ok g2
  exact x.nx S2 H2 σ' δ' (g0.trans o g12) (em.trans g12.st) e' q'
def dPar (i j : Nat) (da : DA) : DS := fun DD δ => da δ fun vs => match vs with
  | [x, y] => DD.nx ((δ.set i (some (.dat x))).set j (some (.dat y)))
  | _ => False
theorem sim_par {i j : Nat} (hi : ib ≠ some i) (hj : ib ≠ some j) (h1 : SimA K ib b t d) : SimS K ib b (tPar i j t) (dPar i j d) := by
  intro S0 H0 Sm S H σ δ D DD o em g0 e h x
  refine h1 H0 S H σ δ _ _ g0.ok e h fun S1 H1 vs ds g1 r q => ?_
  match vs, ds, r with
  | [v, w], [dv, dw], .cons r1 (.cons r2 .nil) =>
    exact ⟨v, w, rfl, x.nx S1 H1 _ _ (g0.trans o g1) (em.trans g1.st) (((e.go g1).set hi r1).set hj r2) q⟩
  | [], [], _ => exact q.elim
  | [_], [_], _ => exact q.elim
  | _ :: _ :: _ :: _, _ :: _ :: _ :: _, _ => exact q.elim
def dAug (i : Nat) (de : DE) (dr : PyData → PyData → (PyData → Prop) → Prop) : DS := fun DD δ => match δ[i]? with
  | some (some (.dat x)) => de δ fun y => dr x y fun z => DD.nx (δ.set i (some (.dat z)))
  | _ => False
theorem sim_aug {i : Nat} {tip : TIp} {dr : PyData → PyData → (PyData → Prop) → Prop} (hi : ib ≠ some i) (h1 : SimE K ib b te de) (hr : SimR2 K ib b tip dr) : SimS K ib b (tAug i te tip) (dAug i de dr) := by
  intro S0 H0 Sm S H σ δ D DD o em g0 e h x
  unfold dAug at h
  split at h
  · rename_i dx q0
    obtain ⟨v, e1, r0⟩ := e.dat i dx q0
    refine ⟨v, e1, ?_⟩
    refine h1 H0 S H σ δ _ _ g0.ok e h fun S1 H1 w dw g1 r q => ?_
    refine hr S1 H1 v w dx dw _ _ g1.ok (r0.mono g1.st) r q fun S2 H2 z dz g2 r2 q2 => ?_
    have g12 := g1.trans g0.ok g2
    exact x.nx S2 H2 _ _ (g0.trans o g12) (em.trans g12.st) ((e.go g12).set hi r2) q2
  · exact h.elim

/-! a list of one's own -/
def dAsgOwn (d : DA) (i : Nat) : DS := fun DD δ => d δ fun ds => small ds.length = true ∧ DD.nx (δ.set i (some (.own ds)))
theorem sim_asgOwn {i : Nat} (hi : ib ≠ some i) (h1 : SimA K ib b t d) : SimS K ib b (tAsg (tLst t) (gName i)) (dAsgOwn d i) := by
  intro S0 H0 Sm S H σ δ D DD o em g0 e h x
  refine h1 H0 S H σ δ _ _ g0.ok e h fun S1 H1 vs dvs g1 r q => ⟨by rw [r.length]; exact small_ok q.1, fun p hp => ?_⟩
  have g2 := Go.laidOwn (u := .lst vs) g1.ok hp
  have g12 := g1.trans g0.ok g2
  have g02 := g0.trans o g12
  have h0 : H0 p = none := by
    cases z : H0 p with
    | none => rfl
    | some u =>
      have := (g0.trans o g1).stays (fun z => (o.bag z).tr) (a := p) (by rw [z]; exact Option.some_ne_none _)
      exact absurd hp this
  refine x.nx S1 _ _ _ g02 (em.trans g1.st) ((e.go g12).setOwn hi upd_same r (Ex.none_of g1.ok.sub hp) h0 (fun z w => ?_) (fun j es hj a1 a2 => ?_)) q.2
  · exact (g1.ok.bag z).tr (w ▸ hp)
  · obtain ⟨p', xs, b1, b2, _⟩ := (e.go g1).own j es a1
    rw [b1] at a2
    have : p' = p := V.ref.inj (Option.some.inj (Option.some.inj a2))
    rw [this, hp] at b2
    cases b2
/-- x.append(e) of such a list -/
def dAppend (i : Nat) (de : DE) : DS := fun DD δ => match δ[i]? with
  | some (some (.own ds)) => de δ fun y => small (ds.length + 1) = true ∧ DD.nx (δ.set i (some (.own (ds ++ [y]))))
  | _ => False
theorem setOwn_go {S0 H0 S H : Hp} {σ : L2.St} {δ : DEnv} {i : Nat} {ds es : List PyData} {p : Addr} {xs ys : List V} (hi : ib ≠ some i) (o : Okk ib b S0 H0) (g0 : Go ib b S0 H0 S H) (e : EnvOk K ib b H0 S H σ δ)
    (q0 : δ[i]? = some (some (DV.own ds))) (hσ : σ[i]? = some (some (V.ref p))) (hp : H p = some (.lst xs)) (hS : S p = none) (h0 : H0 p = none) (hb : ib ≠ none → p ≠ b.1)
    (hu : ∀ (j : Nat) (es : List PyData), δ[j]? = some (some (DV.own es)) → σ[j]? = some (some (V.ref p)) → j = i) (r : Reps K S ys es) :
    Go ib b S0 H0 S (upd H p (.lst ys)) ∧ EnvOk K ib b H0 S (upd H p (.lst ys)) σ (δ.set i (some (.own es))) := by
  have kp : ∀ a u, a ≠ p → H a = some u → upd H p (.lst ys) a = some u := fun a u n q => by rw [upd_ne n]; exact q
  have sub2 : Ex S (upd H p (.lst ys)) := fun a u q => kp a u (ne_of_none q hS) (g0.ok.sub a u q)
  have bag2 : ib ≠ none → Bag b (upd H p (.lst ys)) := fun z => (g0.ok.bag z).kept fun a u c q => kp a u (by
    rcases c with c | c
    · rw [c]; exact fun w => hb z w.symm
    · rw [c]; exact fun w => absurd h0 (w ▸ (o.bag z).tr2)) q
  refine ⟨⟨g0.st, fun a u c q => kp a u (ne_of_none q h0) (g0.keep a u c q), g0.new, ⟨sub2, g0.ok.off, bag2⟩⟩, ?_⟩
  have hlt : i < δ.length := (List.getElem?_eq_some_iff.mp q0).1
  have at_ : ∀ (j : Nat) (x : DV), j ≠ i → (δ.set i (some (DV.own es)))[j]? = some (some x) → δ[j]? = some (some x) := by
    intro j x hj q
    rw [List.getElem?_set_ne (Ne.symm hj)] at q
    exact q
  have hfn : ∀ (j : Nat) (a : Addr), (δ.set i (some (DV.own es)))[j]? = some (some (DV.fn a)) → σ[j]? = some (some (V.ref a)) := by
    intro j a q
    by_cases hj : j = i
    · subst hj
      rw [List.getElem?_set_self hlt] at q
      cases q
    · exact e.fn j a (at_ j _ hj q)
  have hdct : ∀ (j : Nat) (c : Cont), (δ.set i (some (DV.own es)))[j]? = some (some (DV.dct c)) → δ[j]? = some (some (DV.dct c)) := by
    intro j c q
    by_cases hj : j = i
    · subst hj
      rw [List.getElem?_set_self hlt] at q
      cases q
    · exact at_ j _ hj q
  refine ⟨by rw [List.length_set]; exact e.len, e.slot, fun j x q => ?_, fun j fs q => ?_, hfn, fun j c q => by
    obtain ⟨p', o', h1, h2, h3, h4, h5, h6, h7⟩ := e.dct j c (hdct j c q)
    have np : p' ≠ p := by
      intro w
      subst w
      rw [hp] at h2
      cases h2
      exact h3.noLst
    exact ⟨p', o', h1, kp _ _ np h2, h3, h4, h5, h6, fun m c' a1 a2 => h7 m c' (hdct m c' a1) a2⟩⟩
  · by_cases hj : j = i
    · subst hj
      rw [List.getElem?_set_self hlt] at q
      cases q
    · exact e.dat j x (at_ j _ hj q)
  · have uniq : ∀ (m : Nat) (gs : List PyData), (δ.set i (some (DV.own es)))[m]? = some (some (DV.own gs)) → ∃ gs', δ[m]? = some (some (DV.own gs')) := by
      intro m gs a
      by_cases hm : m = i
      · exact ⟨ds, by rw [hm]; exact q0⟩
      · exact ⟨gs, at_ m _ hm a⟩
    by_cases hj : j = i
    · subst hj
      rw [List.getElem?_set_self hlt] at q
      cases q
      refine ⟨p, ys, hσ, upd_same, r, hS, h0, hb, fun m gs a1 a2 => ?_⟩
      obtain ⟨gs', a1⟩ := uniq m gs a1
      exact hu m gs' a1 a2
    · obtain ⟨p', xs', h1, h2, h3, h4, h5, h6, h7⟩ := e.own j fs (at_ j _ hj q)
      have np : p' ≠ p := by
        intro w
        subst w
        exact hj (hu j fs (at_ j _ hj q) h1)
      refine ⟨p', xs', h1, kp _ _ np h2, h3, h4, h5, h6, fun m gs a1 a2 => ?_⟩
      obtain ⟨gs', a1⟩ := uniq m gs a1
      exact h7 m gs' a1 a2
theorem sim_append {i : Nat} (hi : ib ≠ some i) (h1 : SimE K ib b te de) : SimS K ib b (tDrop (tBM K "list" rAppend (tVar i) (tCons te tNil))) (dAppend i de) := by
  intro S0 H0 Sm S H σ δ D DD o em g0 e h x
  unfold dAppend at h
  split at h
  · rename_i ds q0
    obtain ⟨p, xs, hσ, hp, hr, hS, h0, hb, hu⟩ := e.own i ds q0
    refine ⟨_, hσ, .inl ⟨rfl, xs, .inl (.inl hp)⟩, ?_⟩
    refine h1 H0 S H σ δ _ _ g0.ok e h fun S1 H1 v dv g1 r q => ?_
    have hp1 := g1.keep p _ hb hp
    have hS1 := g1.new p (by rw [hp]; exact Option.some_ne_none _) hS
    refine ⟨p, xs, v, rfl, rfl, hp1, by rw [hr.length]; exact small_lt q.1, ?_⟩
    obtain ⟨ga, ea⟩ := setOwn_go (ys := xs ++ [v]) hi o (g0.trans o g1) (e.go g1) q0 hσ hp1 hS1 h0 hb hu ((hr.mono g1.st).append (.cons r .nil))
    exact x.nx S1 _ _ _ ga (em.trans g1.st) ea q.2
  · exact h.elim
/-- x.extend(e), e some data -/
def dExtend (i : Nat) (de : DE) : DS := fun DD δ => match δ[i]? with
  | some (some (.own ds)) => de δ fun y => match y with
    | .list es => small (ds.length + es.length) = true ∧ DD.nx (δ.set i (some (.own (ds ++ es))))
    | _ => False
  | _ => False

/-! loops -/
def dFor (di : DA) (dg : DG) (ds : DS) : DS := fun DD δ => di δ fun xs => ∃ I : Nat → DEnv → Prop, I 0 δ ∧
  (∀ i x δ', xs[i]? = some x → I i δ' → dg x δ' fun δ2 => ds { DD with nx := I (i + 1), ct := I (i + 1), bk := DD.nx } δ2) ∧ ∀ δ', I xs.length δ' → DD.nx δ'
theorem sim_for (h1 : SimI K ib b ti di) (h2 : SimG K ib b g dg) (h3 : SimS K ib b ts ds) : SimS K ib b (tFor ti g ts) (dFor di dg ds) := by
  intro S0 H0 Sm S H σ δ D DD o em g0 e h x
  refine h1 H0 S H σ δ _ _ g0.ok e h fun S1 H1 J xs g1 wk q => ?_
  obtain ⟨I, i0, turn, done⟩ := q
  refine ⟨fun i m σ' H' => m = xs.length - i ∧ i ≤ xs.length ∧ ∃ S' δ', Ex S1 S' ∧ Go ib b S0 H0 S' H' ∧ EnvOk K ib b H0 S' H' σ' δ' ∧ I i δ',
    ⟨xs.length, by omega, Nat.zero_le _, S1, δ, Ex.refl S1, g0.trans o g1, e.go g1, i0⟩, ?_⟩
  rintro i m σ' H' ⟨rfl, hi, S', δ', ex, g', e', hI⟩
  obtain ⟨w1, w2, w3⟩ := wk S' H' ex g'.ok
  by_cases hlt : i < xs.length
  · refine .inr ⟨w1 i hlt, fun σ2 H2 => ∃ S2 δ2, Ex S1 S2 ∧ Go ib b S0 H0 S2 H2 ∧ EnvOk K ib b H0 S2 H2 σ2 δ2 ∧ I (i + 1) δ2, ?_, ?_⟩
    · rintro σ2 H2 ⟨S2, δ2, a1, a2, a3, a4⟩
      exact ⟨xs.length - (i + 1), by omega, rfl, hlt, S2, δ2, a1, a2, a3, a4⟩
    · intro y H2 hy
      obtain ⟨S2, dy, g2, hy2, ry⟩ := w3 i y H2 hlt hy
      have ga := g'.trans o g2
      refine h2 H0 S2 H2 σ' δ' y dy _ _ ga.ok (e'.go g2) ry (turn i dy δ' hy2 hI) fun S3 H3 σ3 δ3 g3 e3 q3 => ?_
      have exx : Ex S1 S3 := ex.trans (g2.st.trans g3.st)
      refine h3 S0 H0 S1 S3 H3 σ3 δ3 _ _ o exx (ga.trans o g3) e3 q3 ⟨?_, ?_, ?_, ?_, ?_⟩
      · intro S4 H4 σ4 δ4 c1 c2 c3 c4
        exact ⟨S4, δ4, c2, c1, c3, c4⟩
      · intro S4 H4 v4 d4 c1 c2 c3 c4
        exact x.rt S4 H4 v4 d4 c1 (em.trans (g1.st.trans c2)) c3 c4
      · intro S4 H4 σ4 δ4 c1 c2 c3 c4
        exact x.nx S4 H4 σ4 δ4 c1 (em.trans (g1.st.trans c2)) c3 c4
      · intro S4 H4 σ4 δ4 c1 c2 c3 c4
        exact ⟨S4, δ4, c2, c1, c3, c4⟩
      · intro S4 H4 p4 xs4 es4 c1 c2 c3 c4 c5 c6 c7
        exact x.ro S4 H4 p4 xs4 es4 c1 (em.trans (g1.st.trans c2)) c3 c4 c5 c6 c7
  · have ei : i = xs.length := by omega
    subst ei
    exact .inl ⟨w2, x.nx S' H' σ' δ' g' (em.trans (g1.st.trans ex)) e' (done δ' hI)⟩

/-! the bag, whatever it holds -/
/-- xs[0], xs[1] of the bag: an int from 0 on; xs[2]: any int -/
def dBag : DE := fun _ R => ∀ n : Int, 0 ≤ n → R (.int n)
theorem at4 {x0 x1 x2 x3 : V} {i : Int} (h : i = 0 ∨ i = 1 ∨ i = 2 ∨ i = 3) : L2.atI [x0, x1, x2, x3] i = some (if i = 0 then x0 else if i = 1 then x1 else if i = 2 then x2 else x3) := by
  rcases h with h | h | h | h <;> subst h <;> rfl
theorem sim_bag {i : Nat} {j : Int} (hi : ib = some i) (hj : j = 0 ∨ j = 1) : SimE K ib b (tOp (rIx K) (tVar i) (tC (.int j))) dBag := by
  intro H0 S H σ δ R Q o e h k
  obtain ⟨r, m, n, ns, e1, ne, e2, e3, h1, h2, h3⟩ := (o.bag (by rw [hi]; simp)).ex
  refine ⟨_, e.slot i hi, .inl ⟨b.1, _, j, _, rfl, rfl, SqL.of e1, at4 (by omega), ?_⟩⟩
  rcases hj with hj | hj
  · subst hj
    exact k S H _ _ (Go.refl o) (.int r) (h r h1)
  · subst hj
    exact k S H _ _ (Go.refl o) (.int m) (h m h2)
def dBagAny : DE := fun _ R => ∀ n : Int, R (.int n)
theorem sim_bag2 {i : Nat} (hi : ib = some i) : SimE K ib b (tOp (rIx K) (tVar i) (tC (.int 2))) dBagAny := by
  intro H0 S H σ δ R Q o e h k
  obtain ⟨r, m, n, ns, e1, ne, e2, e3, h1, h2, h3⟩ := (o.bag (by rw [hi]; simp)).ex
  exact ⟨_, e.slot i hi, .inl ⟨b.1, _, 2, _, rfl, rfl, SqL.of e1, at4 (by omega), k S H _ _ (Go.refl o) (.int n) (h n)⟩⟩
/-- the cells from some place on -/
def dCells : DE := fun _ R => ∀ ns : List Int, (∀ n ∈ ns, 0 ≤ n) → ns.length ≤ 63 → R (.list (ns.map .int))
theorem bag_set {i : Nat} {H0 S H : Hp} {σ : L2.St} {δ : DEnv} (hi : ib = some i) (o : Okk ib b S H) (e : EnvOk K ib b H0 S H σ δ) {r m n : Int} (h1 : 0 ≤ r) (h2 : 0 ≤ m) :
    Go ib b S H S (upd H b.1 (.lst [.int r, .int m, .int n, .ref b.2])) := by
  have z : ib ≠ none := by rw [hi]; simp
  obtain ⟨r', m', n', ns, e1, ne, e2, e3, _, _, h3⟩ := (o.bag z).ex
  have kp : ∀ a u, a ≠ b.1 → H a = some u → upd H b.1 (.lst [.int r, .int m, .int n, .ref b.2]) a = some u := fun a u c q => by rw [upd_ne c]; exact q
  exact ⟨Ex.refl S, fun a u c q => kp a u (c z) q, fun _ _ q => q, ⟨fun a u q => kp a u (ne_of_none q (o.off z)) (o.sub a u q), o.off, fun _ => ⟨r, m, n, ns, upd_same, ne, kp _ _ ne e2, e3, h1, h2, h3⟩⟩⟩
/-- bag[0] = e, bag[1] = e -/
def dgBag : DG := fun d δ R => match d with
  | .int n => 0 ≤ n ∧ R δ
  | _ => False
theorem simg_bag {i : Nat} {j : Int} (hi : ib = some i) (hj : j = 0 ∨ j = 1) : SimG K ib b (gSub (tVar i) (tC (.int j)) rSetL) dgBag := by
  intro H0 S H σ δ v d R Q o e rv h k
  obtain ⟨r, m, n, ns, e1, ne, e2, e3, h1, h2, h3⟩ := (o.bag (by rw [hi]; simp)).ex
  cases rv with
  | int x =>
    have h : 0 ≤ x ∧ R δ := h
    rcases hj with hj | hj
    · subst hj
      have g := bag_set hi o e (r := x) (m := m) (n := n) h.1 h2
      exact ⟨_, e.slot i hi, b.1, _, 0, 0, rfl, rfl, e1, rfl, k S _ σ δ g (e.go g) h.2⟩
    · subst hj
      have g := bag_set hi o e (r := r) (m := x) (n := n) h1 h.1
      exact ⟨_, e.slot i hi, b.1, _, 1, 1, rfl, rfl, e1, rfl, k S _ σ δ g (e.go g) h.2⟩
  | _ => exact h.elim
end
end DL

namespace DL
open PySem PySem.Spec PyProof.Rows L2
open Evl (Ex ex_l ex_t)
variable [TheW]

/-! ### comprehensions -/
theorem wipe_get (σ : L2.St) : ∀ (vs : List Nat) (i : Nat), (wipe σ vs)[i]? = if i ∈ vs ∧ i < σ.length then some none else σ[i]?
  | [], i => by simp [wipe]
  | v :: vs, i => by
    show ((wipe σ vs).set v none)[i]? = _
    by_cases h : i = v
    · subst h
      by_cases hl : i < σ.length
      · rw [List.getElem?_set_self (by rw [wipe_length]; exact hl), if_pos ⟨List.mem_cons_self .., hl⟩]
      · rw [List.getElem?_eq_none (by rw [List.length_set, wipe_length]; omega), if_neg (fun z => hl z.2), List.getElem?_eq_none (by omega)]
    · rw [List.getElem?_set_ne (Ne.symm h), wipe_get σ vs i]
      have e : (i ∈ v :: vs ∧ i < σ.length) ↔ (i ∈ vs ∧ i < σ.length) := by simp [h]
      by_cases c : i ∈ vs ∧ i < σ.length
      · rw [if_pos c, if_pos (e.mpr c)]
      · rw [if_neg c, if_neg (fun z => c (e.mp z))]
theorem wipe_set (σ : L2.St) (vs : List Nat) (j : Nat) (x : Option V) (h : j ∈ vs) : wipe ((wipe σ vs).set j x) vs = wipe σ vs := by
  apply List.ext_getElem?
  intro i
  rw [wipe_get, wipe_get]
  have hl : ((wipe σ vs).set j x).length = σ.length := by rw [List.length_set, wipe_length]
  rw [hl]
  by_cases c : i ∈ vs ∧ i < σ.length
  · rw [if_pos c]
    rw [if_pos c]
  · rw [if_neg c, if_neg c]
    by_cases hi : i = j
    · subst hi
      have : ¬ i < σ.length := fun z => c ⟨h, z⟩
      rw [List.getElem?_eq_none (by rw [hl]; omega), List.getElem?_eq_none (by omega)]
    · rw [List.getElem?_set_ne (Ne.symm hi), wipe_get, if_neg c]
def wipeD (δ : DEnv) : List Nat → DEnv
  | [] => δ
  | v :: vs => (wipeD δ vs).set v none
theorem wipeD_length (δ : DEnv) : ∀ vs : List Nat, (wipeD δ vs).length = δ.length
  | [] => rfl
  | v :: vs => by unfold wipeD; rw [List.length_set, wipeD_length δ vs]
theorem wipeD_some {δ : DEnv} {i : Nat} {x : DV} : ∀ {vs : List Nat}, (wipeD δ vs)[i]? = some (some x) → δ[i]? = some (some x) ∧ i ∉ vs
  | [], h => ⟨h, by simp⟩
  | v :: vs, h => by
    unfold wipeD at h
    by_cases hv : i = v
    · subst hv
      by_cases hl : i < (wipeD δ vs).length
      · rw [List.getElem?_set_self hl] at h; cases h
      · rw [List.getElem?_eq_none (by rw [List.length_set]; omega)] at h; cases h
    · rw [List.getElem?_set_ne (Ne.symm hv)] at h
      obtain ⟨a, b⟩ := wipeD_some h
      exact ⟨a, by simp [hv, b]⟩
section
variable {K : PySem.W.Frag} {ib : Option Nat} {b : Bg}
theorem EnvOk.wipe {H0 S H : Hp} {σ : L2.St} {δ : DEnv} (e : EnvOk K ib b H0 S H σ δ) {vs : List Nat} (hv : ∀ i, ib = some i → i ∉ vs) : EnvOk K ib b H0 S H (L2.wipe σ vs) (wipeD δ vs) := by
  refine e.weak (by rw [wipe_length, wipeD_length]; exact e.len) (fun i hi => ?_) fun i x h => ?_
  · rw [wipe_get, if_neg (fun z => hv i hi z.1)]
    exact e.slot i hi
  · obtain ⟨h1, h2⟩ := wipeD_some h
    exact ⟨h1, by rw [wipe_get, if_neg (fun z => h2 z.1)]⟩
/-- an object of one's own (H did not know it) is changed -/
theorem Go.ownUpd {S H S1 H1 : Hp} {p : Addr} {u : HO} (o : Okk ib b S H) (g : Go ib b S H S1 H1) (hp : H p = none) (hS : S1 p = none) : Go ib b S H S1 (upd H1 p u) := by
  have kp : ∀ a x, a ≠ p → H1 a = some x → upd H1 p u a = some x := fun a x n e => by rw [upd_ne n]; exact e
  refine ⟨g.st, fun a x c e => kp a x (ne_of_none e hp) (g.keep a x c e), g.new, ⟨fun a x e => kp a x (ne_of_none e hS) (g.ok.sub a x e), g.ok.off, fun z => (g.ok.bag z).kept fun a x c e => kp a x ?_ e⟩⟩
  rcases c with c | c
  · rw [c]; exact fun w => (o.bag z).tr (w ▸ hp)
  · rw [c]; exact fun w => (o.bag z).tr2 (w ▸ hp)
/-- .. and then told to all -/
theorem Go.freeze {S H S1 H1 : Hp} {p : Addr} {u : HO} (o : Okk ib b S H) (g : Go ib b S H S1 H1) (hp : H p = none) (hS : S1 p = none) (hu : H1 p = some u) : Go ib b S H (upd S1 p u) H1 := by
  refine ⟨g.st.trans (Ex.new hS), g.keep, fun a h e => ?_, ⟨fun a x e => ?_, fun z => ?_, g.ok.bag⟩⟩
  · have : a ≠ p := fun w => h (w ▸ hp)
    rw [upd_ne this]
    exact g.new a h e
  · by_cases c : a = p
    · rw [c, upd_same] at e
      cases e
      rw [c]
      exact hu
    · rw [upd_ne c] at e
      exact g.ok.sub a x e
  · have : b.1 ≠ p := fun w => (o.bag z).tr (w ▸ hp)
    rw [upd_ne this]
    exact g.ok.off z
def dYes : DT := fun _ R => R true
theorem sim_yes : SimT K ib b tYes dYes := fun H0 S H σ δ R Q o e h k => k S H true (Go.refl o) h
variable {te : TE} {de : DE} {ts tu : TS} {ds du : DS} {tt : TT} {dt : DT} {g : TG} {dg : DG} {ti : TI} {di : DA} {t : TA} {d : DA}
def dLc (di : DA) (j : Nat) (dt : DT) (de : DE) (vs : List Nat) : DE := fun δ R => di δ fun xs => small xs.length = true ∧ ∃ I : Nat → List PyData → Prop, I 0 [] ∧
  (∀ i x acc, xs[i]? = some x → acc.length ≤ i → I i acc → dt ((wipeD δ vs).set j (some (.dat x))) fun c =>
    if c = true then de ((wipeD δ vs).set j (some (.dat x))) fun y => I (i + 1) (acc ++ [y]) else I (i + 1) acc) ∧ ∀ acc, acc.length ≤ xs.length → I xs.length acc → R (.list acc)
theorem sim_lc {j : Nat} {vs : List Nat} (hj : j ∈ vs) (hv : ∀ i, ib = some i → i ∉ vs) (h1 : SimI K ib b ti di) (h2 : SimT K ib b tt dt) (h3 : SimE K ib b te de) :
    SimE K ib b (tLc ti (gName j) tt te vs) (dLc di j dt de vs) := by
  intro H0 S H σ δ R Q o e h k
  refine h1 H0 S H σ δ _ _ o e h fun S1 H1 J xs g1 wk q D hD => ?_
  obtain ⟨hz, I, i0, turn, done⟩ := q
  have hij : ib ≠ some j := fun z => hv j z hj
  have oD := g1.ok
  have gD : Go ib b S1 H1 S1 (upd H1 D (.lst [])) := Go.laidOwn oD hD
  refine ⟨fun i m H' => m = xs.length - i ∧ i ≤ xs.length ∧ ∃ S' ys acc, Go ib b S1 H1 S' H' ∧ H' D = some (.lst ys) ∧ S' D = none ∧ Reps K S' ys acc ∧ acc.length ≤ i ∧ I i acc,
    ⟨xs.length, by omega, Nat.zero_le _, S1, [], [], gD, upd_same, Ex.none_of oD.sub hD, .nil, Nat.zero_le _, i0⟩, ?_⟩
  rintro i m H' ⟨rfl, hi, S', ys, acc, g', hys, hS', racc, hacc, hI⟩
  obtain ⟨w1, w2, w3⟩ := wk S' H' g'.st g'.ok
  by_cases hlt : i < xs.length
  · refine .inr ⟨w1 i hlt, fun H2 => ∃ S' ys acc, Go ib b S1 H1 S' H2 ∧ H2 D = some (.lst ys) ∧ S' D = none ∧ Reps K S' ys acc ∧ acc.length ≤ i + 1 ∧ I (i + 1) acc, ?_, ?_⟩
    · rintro H2 ⟨S2, ys2, acc2, a1, a2, a3, a4, a5, a6⟩
      exact ⟨xs.length - (i + 1), by omega, rfl, hlt, S2, ys2, acc2, a1, a2, a3, a4, a5, a6⟩
    · intro y H2 hy
      obtain ⟨S2, dy, g2, hy2, ry⟩ := w3 i y H2 hlt hy
      have nb : ib ≠ none → D ≠ b.1 := fun z w => (oD.bag z).tr (w ▸ hD)
      have gA := g'.trans oD g2
      have hys2 := g2.keep D _ nb hys
      have hS2 := g2.new D (by rw [hys]; exact Option.some_ne_none _) hS'
      have eA := (((e.go (g1.trans o gA)).wipe hv).set (i := j) hij ry)
      refine ⟨wipe_set σ vs j _ hj, ?_⟩
      refine h2 H0 S2 H2 _ _ _ _ gA.ok eA (turn i dy acc hy2 hacc hI) fun S3 H3 c g3 q3 => ?_
      have gB := gA.trans oD g3
      have hys3 := g3.keep D _ nb hys2
      have hS3 := g3.new D (by rw [hys2]; exact Option.some_ne_none _) hS2
      cases c with
      | true =>
        rw [if_pos rfl] at q3 ⊢
        refine h3 H0 S3 H3 _ _ _ _ gB.ok (eA.go g3) q3 fun S4 H4 v dv g4 r4 q4 => ?_
        have gC := gB.trans oD g4
        have hys4 := g4.keep D _ nb hys3
        have hS4 := g4.new D (by rw [hys3]; exact Option.some_ne_none _) hS3
        have rac4 := racc.mono ((g2.st.trans g3.st).trans g4.st)
        have hzz := of_decide_eq_true hz
        refine ⟨ys, hys4, by rw [rac4.length]; exact Evl.sz_lt (by omega), S4, ys ++ [v], acc ++ [dv], Go.ownUpd oD gC hD hS4, upd_same, hS4, rac4.append (.cons r4 .nil), ?_, q4⟩
        rw [List.length_append, List.length_singleton]
        omega
      | false =>
        rw [if_neg Bool.false_ne_true] at q3 ⊢
        exact ⟨S3, ys, acc, gB, hys3, hS3, racc.mono (g2.st.trans g3.st), by omega, q3⟩
  · have ei : i = xs.length := by omega
    subst ei
    refine .inl ⟨w2, ?_⟩
    have gF := Go.freeze oD g' hD hS' hys
    exact k _ H' _ (.list acc) (g1.trans o gF) (.lst upd_same (racc.mono (Ex.new hS'))) (done acc hacc hI)

/-! ### what is walked -/
def dItems (de : DE) : DA := fun δ R => de δ fun d => match d with
  | .list ds => R ds
  | _ => False
def dItemsT (de : DE) : DA := fun δ R => de δ fun d => match d with
  | .tuple ds => R ds
  | _ => False
theorem sim_iList (h1 : SimE K ib b te de) : SimI K ib b (iList K te) (dItems de) := by
  intro H0 S H σ δ R Q o e h k
  refine h1 H0 S H σ δ _ _ o e h fun S1 H1 v dv g r q => ?_
  cases r with
  | lst hq rs =>
    rename_i a xs ds
    refine ⟨a, rfl, ⟨xs, SqL.of (g.ok.sub _ _ hq)⟩, k S1 H1 _ ds g (fun S2 H2 ex o2 => ?_) q⟩
    have hL : SqL K H2 a xs := SqL.of (o2.sub _ _ (ex _ _ hq))
    have rl := rs.length
    refine ⟨fun i hi => ⟨xs, xs[i]'(by omega), hL, by simp⟩, ⟨xs, hL, by omega⟩, fun i x H' hi y => ?_⟩
    obtain ⟨rfl, y⟩ := y
    obtain ⟨d, hd, rd⟩ := rs.getV (y xs hL)
    exact ⟨S2, d, Go.refl o2, hd, rd.mono ex⟩
  | _ => exact q.elim
theorem sim_iTup (h1 : SimE K ib b te de) : SimI K ib b (iTup K te) (dItemsT de) := by
  intro H0 S H σ δ R Q o e h k
  refine h1 H0 S H σ δ _ _ o e h fun S1 H1 v dv g r q => ?_
  cases r with
  | tup hq rs =>
    rename_i a xs ds
    refine ⟨a, rfl, ⟨xs, ex_t g.ok.sub hq⟩, k S1 H1 _ ds g (fun S2 H2 ex o2 => ?_) q⟩
    have hL : SqT K H2 a xs := ex_t o2.sub (ex_t ex hq)
    have rl := rs.length
    refine ⟨fun i hi => ⟨xs, xs[i]'(by omega), hL, by simp⟩, ⟨xs, hL, by omega⟩, fun i x H' hi y => ?_⟩
    obtain ⟨rfl, y⟩ := y
    obtain ⟨d, hd, rd⟩ := rs.getV (y xs hL)
    exact ⟨S2, d, Go.refl o2, hd, rd.mono ex⟩
  | _ => exact q.elim
def intsD (lo : Int) (n : Nat) : List PyData := (List.range n).map fun i => .int (lo + (i : Nat))
theorem intsD_len (lo : Int) (n : Nat) : (intsD lo n).length = n := by unfold intsD; rw [List.length_map, List.length_range]
theorem intsD_get {lo : Int} {n i : Nat} (h : i < n) : (intsD lo n)[i]? = some (.int (lo + i)) := by
  unfold intsD
  rw [List.getElem?_map, List.getElem?_range h]
  rfl
theorem walk_itr {lo : Int} {n : Nat} {S : Hp} : WalkD K ib b S (Itr lo n) (intsD lo n) := by
  intro S1 H ex o
  rw [intsD_len]
  refine ⟨fun i hi => hi, Nat.le_refl _, fun i x H' hi y => ?_⟩
  obtain ⟨rfl, rfl⟩ := y
  exact ⟨S1, _, Go.refl o, intsD_get hi, .int _⟩
def dRng1 (d : DA) : DA := fun δ R => d δ fun ds => match ds with
  | [.int n] => -1000000 ≤ n ∧ n ≤ 1000000 ∧ R (intsD 0 n.toNat)
  | _ => False
theorem sim_rng1 (h1 : SimA K ib b t d) : SimI K ib b (iRng1 t) (dRng1 d) := by
  intro H0 S H σ δ R Q o e h k
  refine h1 H0 S H σ δ _ _ o e h fun S1 H1 vs dvs g r q => ?_
  split at q
  · cases r with
    | cons r1 r2 =>
      cases r2
      cases r1
      exact ⟨_, rfl, by omega, by omega, k S1 H1 _ _ g walk_itr q.2.2⟩
  · exact q.elim
def signs (x : Str) : List PyData := x.cps.toList.map fun c => .str ⟨#[c]⟩
def dSigns (de : DE) : DA := fun δ R => de δ fun d => match d with
  | .str x => R (signs x)
  | _ => False
theorem sim_iStr (h1 : SimE K ib b te de) : SimI K ib b (iStr te) (dSigns de) := by
  intro H0 S H σ δ R Q o e h k
  refine h1 H0 S H σ δ _ _ o e h fun S1 H1 v dv g r q => ?_
  cases r with
  | str x =>
    refine ⟨x, rfl, k S1 H1 _ _ g (fun S2 H2 ex o2 => ?_) q⟩
    have hl : (signs x).length = x.cps.size := by unfold signs; rw [List.length_map, Array.length_toList]
    rw [hl]
    refine ⟨fun i hi => hi, Nat.le_refl _, fun i y H' hi z => ?_⟩
    obtain ⟨rfl, c, hc, rfl⟩ := z
    refine ⟨S2, _, Go.refl o2, ?_, .str _⟩
    unfold signs
    rw [List.getElem?_map, Array.getElem?_toList, hc]
    rfl
  | _ => exact q.elim
end
end DL

/-! Operators and built-in calls over data; promises. -/
namespace DL
open PySem PySem.Spec PyProof.Rows L2
open Evl (Ex ex_l ex_t)
variable [TheW]

theorem OpR.or2 {X : Cx} {f : Value → Value → Sem Value} {r r' : R2} (h : OpR X f r) (h' : OpR X f r') : OpR X f (fun x y H Q => r x y H Q ∨ r' x y H Q) := by
  intro pins s σ H x y v u Q I rx ry q
  rcases q with q | q
  · exact h pins s σ H x y v u Q I rx ry q
  · exact h' pins s σ H x y v u Q I rx ry q
theorem CallR.or2 {X : Cx} {f : Value} {r r' : List V → Hp → VK → Prop} (h : CallR X f r) (h' : CallR X f r') : CallR X f (fun x H Q => r x H Q ∨ r' x H Q) := by
  intro pins s σ H x v Q I rx q
  rcases q with q | q
  · exact h pins s σ H x v Q I rx q
  · exact h' pins s σ H x v Q I rx q

def rStrCat : R2 := fun x y H Q => ∃ i j, x = .str i ∧ y = .str j ∧ i.length + j.length ≤ sizeLine ∧ Q (.str (i ++ j)) H
/-- + of ints, texts, lists, tuples -/
def rAddU (K : PySem.W.Frag) : R2 := fun x y H Q => ((rI0 (fun i j => .int (i + j)) x y H Q ∨ rStrCat x y H Q) ∨ rCat x y H Q) ∨ rCatA K x y H Q
theorem op_addU {X : Cx} : OpR X (binaryOp .Add) (rAddU X.K) := OpR.or2 (OpR.or2 (OpR.or2 op_add op_add_str) op_cat) op_catA
def rLtU (g : Int → Int → Bool) (s : Str → Str → Bool) : R2 := fun x y H Q => rI0 (fun i j => .bl (g i j)) x y H Q ∨ ∃ i j, x = .str i ∧ y = .str j ∧ Q (.bl (s i j)) H
def ltS (i j : Str) : Bool := decide (i.cps.toList < j.cps.toList)
theorem op_ltU {X : Cx} : OpR X (compareOp .Lt) (rLtU (fun i j => decide (i < j)) fun i j => ltS i j) := OpR.or2 op_lt op_lt_str
theorem op_leU {X : Cx} : OpR X (compareOp .LtE) (rLtU (fun i j => decide (i ≤ j)) fun i j => !ltS j i) := OpR.or2 op_le op_le_str
theorem op_gtU {X : Cx} : OpR X (compareOp .Gt) (rLtU (fun i j => decide (j < i)) fun i j => ltS j i) := OpR.or2 op_gt op_gt_str
theorem op_geU {X : Cx} : OpR X (compareOp .GtE) (rLtU (fun i j => decide (j ≤ i)) fun i j => !ltS i j) := OpR.or2 op_ge op_ge_str

section
variable {K : PySem.W.Frag} {ib : Option Nat} {b : Bg}
def dAdd : PyData → PyData → (PyData → Prop) → Prop := fun x y R => match x, y with
  | .int i, .int j => R (.int (i + j))
  | .str s, .str t => small (s.length + t.length) = true ∧ R (.str (s ++ t))
  | .list xs, .list ys => small (xs.length + ys.length) = true ∧ R (.list (xs ++ ys))
  | .tuple xs, .tuple ys => small (xs.length + ys.length) = true ∧ R (.tuple (xs ++ ys))
  | _, _ => False
theorem Rep.tupV {S : Hp} {v : V} {ds : List PyData} (r : Rep K S v (.tuple ds)) : ∃ a xs, v = .ref a ∧ SqT K S a xs ∧ Reps K S xs ds := by
  cases r with
  | tup h q => exact ⟨_, _, rfl, h, q⟩
theorem Rep.lstV {S : Hp} {v : V} {ds : List PyData} (r : Rep K S v (.list ds)) : ∃ a xs, v = .ref a ∧ S a = some (.lst xs) ∧ Reps K S xs ds := by
  cases r with
  | lst h q => exact ⟨_, _, rfl, h, q⟩
theorem Rep.intV {S : Hp} {v : V} {i : Int} (r : Rep K S v (.int i)) : v = .int i := by cases r; rfl
theorem Rep.strV {S : Hp} {v : V} {i : Str} (r : Rep K S v (.str i)) : v = .str i := by cases r; rfl
theorem Rep.blV {S : Hp} {v : V} {i : Bool} (r : Rep K S v (.bool i)) : v = .bl i := by cases r; rfl
theorem Rep.nonV {S : Hp} {v : V} (r : Rep K S v .none) : v = .non := by cases r; rfl
theorem Reps.nil_iff {S : Hp} {vs : List V} {ds : List PyData} (r : Reps K S vs ds) : vs = [] ↔ ds = [] := by
  cases r with
  | nil => simp
  | cons _ _ => simp
theorem sim_add : SimR2 K ib b (rAddU K) dAdd := by
  intro S H x y dx dy R Q o rx ry h k
  unfold dAdd at h
  split at h
  · rw [rx.intV, ry.intV]
    exact .inl (.inl (.inl ⟨_, _, rfl, rfl, k S H _ _ (Go.refl o) (.int _) h⟩))
  · rw [rx.strV, ry.strV]
    exact .inl (.inl (.inr ⟨_, _, rfl, rfl, small_ok h.1, k S H _ _ (Go.refl o) (.str _) h.2⟩))
  · obtain ⟨a, xs, rfl, hx, qx⟩ := rx.lstV
    obtain ⟨c, ys, rfl, hy, qy⟩ := ry.lstV
    refine .inl (.inr ⟨a, c, xs, ys, rfl, rfl, o.sub _ _ hx, o.sub _ _ hy, by rw [qx.length, qy.length]; exact small_ok h.1, fun p hp => ?_⟩)
    have g := Go.laid (u := .lst (xs ++ ys)) o hp
    exact k _ _ _ _ g (.lst upd_same ((qx.append qy).mono g.st)) h.2
  · obtain ⟨a, xs, rfl, hx, qx⟩ := rx.tupV
    obtain ⟨c, ys, rfl, hy, qy⟩ := ry.tupV
    refine .inr ⟨a, c, xs, ys, rfl, rfl, ex_t o.sub hx, ex_t o.sub hy, by rw [qx.length, qy.length]; exact small_ok h.1, fun e => ?_, fun e1 e2 => ?_, fun e1 e2 p hp => ?_⟩
    · have e' := (qx.nil_iff).mp e
      subst e'
      exact k S H _ _ (Go.refl o) (.tup hy qy) h.2
    · have e' := (qy.nil_iff).mp e2
      subst e'
      refine k S H _ _ (Go.refl o) (.tup hx qx) ?_
      have z := h.2
      rw [List.append_nil] at z
      exact z
    · have g := Go.laid (u := .tup (xs ++ ys)) o hp
      exact k _ _ _ _ g (.tup (Evl.st_of upd_same) ((qx.append qy).mono g.st)) h.2
  · exact h.elim
/-- ints to an int, to a truth; with a condition -/
def dII (f : Int → Int → Int) : PyData → PyData → (PyData → Prop) → Prop := fun x y R => match x, y with
  | .int i, .int j => R (.int (f i j))
  | _, _ => False
def dIC (C : Int → Int → Prop) (f : Int → Int → Int) : PyData → PyData → (PyData → Prop) → Prop := fun x y R => match x, y with
  | .int i, .int j => C i j ∧ R (.int (f i j))
  | _, _ => False
theorem simr_II {f : Int → Int → Int} : SimR2 K ib b (rI0 fun i j => .int (f i j)) (dII f) := by
  intro S H x y dx dy R Q o rx ry h k
  unfold dII at h
  split at h
  · rw [rx.intV, ry.intV]
    exact ⟨_, _, rfl, rfl, k S H _ _ (Go.refl o) (.int _) h⟩
  · exact h.elim
theorem simr_ip {f : Int → Int → Int} : SimR2 K ib b (ipI f) (dII f) := simr_II
theorem simr_IC {C : Int → Int → Prop} {f : Int → Int → Int} : SimR2 K ib b (rI C fun i j => .int (f i j)) (dIC C f) := by
  intro S H x y dx dy R Q o rx ry h k
  unfold dIC at h
  split at h
  · rw [rx.intV, ry.intV]
    exact ⟨_, _, rfl, rfl, h.1, k S H _ _ (Go.refl o) (.int _) h.2⟩
  · exact h.elim
def dLt (g : Int → Int → Bool) (s : Str → Str → Bool) : PyData → PyData → (PyData → Prop) → Prop := fun x y R => match x, y with
  | .int i, .int j => R (.bool (g i j))
  | .str i, .str j => R (.bool (s i j))
  | _, _ => False
theorem simr_lt {g : Int → Int → Bool} {s : Str → Str → Bool} : SimR2 K ib b (rLtU g s) (dLt g s) := by
  intro S H x y dx dy R Q o rx ry h k
  unfold dLt at h
  split at h
  · rw [rx.intV, ry.intV]
    exact .inl ⟨_, _, rfl, rfl, k S H _ _ (Go.refl o) (.bl _) h⟩
  · rw [rx.strV, ry.strV]
    exact .inr ⟨_, _, rfl, rfl, k S H _ _ (Go.refl o) (.bl _) h⟩
  · exact h.elim
def dNeg : PyData → (PyData → Prop) → Prop := fun x R => match x with
  | .int i => R (.int (-i))
  | _ => False
theorem simu_neg : SimU K ib b (rU fun i => .int (-i)) dNeg := by
  intro S H x dx R Q o rx h k
  unfold dNeg at h
  split at h
  · rw [rx.intV]
    exact ⟨_, rfl, k S H _ _ (Go.refl o) (.int _) h⟩
  · exact h.elim
/-! equality of data without dicts -/
mutual
theorem Rep.dp {S : Hp} : ∀ {v : V} {d : PyData}, Rep K S v d → d.canLay0 = true → Dp K S v d
  | _, _, .non, _ => .non
  | _, _, .bl c, _ => .bl c
  | _, _, .int i, _ => .int i
  | _, _, .str x, _ => .str x
  | _, _, .lst h q, c => .lst (SqL.of h) (Reps.dp q (by rw [PyData.canLay0] at c; exact c))
  | _, _, .tup h q, c => .tup h (Reps.dp q (by rw [PyData.canLay0] at c; exact c))
  | _, _, .dK h q, c => by rw [PyData.canLay0] at c; cases c
  | _, _, .dN _ _ _ _ _ _, c => by rw [PyData.canLay0] at c; cases c
  | _, _, .dF _ _ _, c => by rw [PyData.canLay0] at c; cases c
theorem Reps.dp {S : Hp} : ∀ {vs : List V} {ds : List PyData}, Reps K S vs ds → PyData.canLayAll0 ds = true → DpAll K S vs ds
  | _, _, .nil, _ => .nil
  | _, _, .cons h q, c => by
    rw [PyData.canLayAll0, Bool.and_eq_true] at c
    exact .cons (Rep.dp h c.1) (Reps.dp q c.2)
end
/-- plain values of one kind, or of kinds that are never equal -/
def scalD : PyData → PyData → Bool
  | .none, .none => true
  | .int _, .int _ => true
  | .bool _, .bool _ => true
  | .str _, .str _ => true
  | .none, .int _ => true
  | .int _, .none => true
  | .none, .str _ => true
  | .str _, .none => true
  | .int _, .str _ => true
  | .str _, .int _ => true
  | .bool _, .str _ => true
  | .str _, .bool _ => true
  | _, _ => false
def eqOk (x y : PyData) : Bool := (scalD x y || (SeqAt.shaped x && SeqAt.shaped y)) || eqMore x y
/-- by eqMore -/
def rEqM (K : PySem.W.Frag) : R2 := fun x y H Q => ∃ d e, Rep K H x d ∧ Rep K H y e ∧ eqMore d e = true ∧ Q (.bl (PyData.eqv d e)) H
def rNeM (K : PySem.W.Frag) : R2 := fun x y H Q => ∃ d e, Rep K H x d ∧ Rep K H y e ∧ eqMore d e = true ∧ Q (.bl (!PyData.eqv d e)) H
theorem op_eqM {X : Cx} (hu : X.A.units + 64 < cLine) : OpR X (compareOp .Eq) (rEqM X.K) := by
  intro pins s σ H x y v u Q I rx ry h
  obtain ⟨d, e, hd, he, hm, q⟩ := h
  obtain ⟨as, r1⟩ := (hd.rd I rx).reads
  obtain ⟨bs, r2⟩ := (he.rd I ry).reads
  exact eq_more r1 r2 hm hu ⟨.bl _, H, I, rfl, q⟩
theorem op_neM {X : Cx} (hu : X.A.units + 64 < cLine) : OpR X (compareOp .NotEq) (rNeM X.K) := by
  intro pins s σ H x y v u Q I rx ry h
  obtain ⟨d, e, hd, he, hm, q⟩ := h
  obtain ⟨as, r1⟩ := (hd.rd I rx).reads
  obtain ⟨bs, r2⟩ := (he.rd I ry).reads
  exact ne_more r1 r2 hm hu ⟨.bl _, H, I, rfl, q⟩
def rEqU (K : PySem.W.Frag) : R2 := fun x y H Q => (rEq x y H Q ∨ rEqD K x y H Q) ∨ rEqM K x y H Q
def rNeU (K : PySem.W.Frag) : R2 := fun x y H Q => (rNe x y H Q ∨ rNeD K x y H Q) ∨ rNeM K x y H Q
theorem op_eqU {X : Cx} (hu : X.A.units + 64 < cLine) : OpR X (compareOp .Eq) (rEqU X.K) := OpR.or2 (OpR.or2 op_eq (op_eqD hu)) (op_eqM hu)
theorem op_neU {X : Cx} (hu : X.A.units + 64 < cLine) : OpR X (compareOp .NotEq) (rNeU X.K) := OpR.or2 (OpR.or2 op_ne (op_neD hu)) (op_neM hu)
theorem scal_rep {S : Hp} {x y : V} {dx dy : PyData} (rx : Rep K S x dx) (ry : Rep K S y dy) (h : scalD dx dy = true) : scal x y = true ∧ decide (x = y) = PyData.eqv dx dy := by
  cases rx <;> first
    | (cases h; done)
    | (cases ry <;> first
        | (cases h; done)
        | (exact ⟨rfl, by rw [PyData.eqv]; exact (Bool.beq_eq_decide_eq _ _).symm⟩)
        | (exact ⟨rfl, by rw [PyData.eqv]; rfl⟩)
        | (exact ⟨rfl, by rw [PyData.eqv]; rw [Bool.eq_iff_iff]; simp⟩)
        | (exact ⟨rfl, by simp [PyData.eqv]⟩))
def dEq : PyData → PyData → (PyData → Prop) → Prop := fun x y R => eqOk x y = true ∧ R (.bool (PyData.eqv x y))
def dNe : PyData → PyData → (PyData → Prop) → Prop := fun x y R => eqOk x y = true ∧ R (.bool (!PyData.eqv x y))
theorem simr_eq : SimR2 K ib b (rEqU K) dEq := by
  intro S H x y dx dy R Q o rx ry h k
  rcases (Bool.or_eq_true _ _ ▸ h.1 : _ ∨ _) with h1 | h1
  rcases (Bool.or_eq_true _ _ ▸ h1 : _ ∨ _) with h1 | h1
  · obtain ⟨e1, e2⟩ := scal_rep rx ry h1
    refine .inl (.inl ⟨e1, ?_⟩)
    rw [e2]
    exact k S H _ _ (Go.refl o) (.bl _) h.2
  · have h1 := (Bool.and_eq_true _ _ ▸ h1 : _ ∧ _)
    exact .inl (.inr ⟨dx, dy, (rx.mono o.sub).dp (SeqAt.canLay_of_shaped h1.1), (ry.mono o.sub).dp (SeqAt.canLay_of_shaped h1.2), h1.1, h1.2, k S H _ _ (Go.refl o) (.bl _) h.2⟩)
  · exact .inr ⟨dx, dy, rx.mono o.sub, ry.mono o.sub, h1, k S H _ _ (Go.refl o) (.bl _) h.2⟩
theorem simr_ne : SimR2 K ib b (rNeU K) dNe := by
  intro S H x y dx dy R Q o rx ry h k
  rcases (Bool.or_eq_true _ _ ▸ h.1 : _ ∨ _) with h1 | h1
  rcases (Bool.or_eq_true _ _ ▸ h1 : _ ∨ _) with h1 | h1
  · obtain ⟨e1, e2⟩ := scal_rep rx ry h1
    refine .inl (.inl ⟨e1, ?_⟩)
    rw [e2]
    exact k S H _ _ (Go.refl o) (.bl _) h.2
  · have h1 := (Bool.and_eq_true _ _ ▸ h1 : _ ∧ _)
    exact .inl (.inr ⟨dx, dy, (rx.mono o.sub).dp (SeqAt.canLay_of_shaped h1.1), (ry.mono o.sub).dp (SeqAt.canLay_of_shaped h1.2), h1.1, h1.2, k S H _ _ (Go.refl o) (.bl _) h.2⟩)
  · exact .inr ⟨dx, dy, rx.mono o.sub, ry.mono o.sub, h1, k S H _ _ (Go.refl o) (.bl _) h.2⟩
/-! x in a list or a tuple of flat things -/
def flatD : PyData → Bool
  | .none => true
  | .bool _ => true
  | .int _ => true
  | .str _ => true
  | _ => false
theorem flat_rep {S : Hp} {v : V} {d : PyData} (r : Rep K S v d) (h : flatD d = true) : flatV v = true := by
  cases r <;> first | rfl | cases h
theorem eqV_rep {S : Hp} {v u : V} {d e : PyData} (r : Rep K S v d) (q : Rep K S u e) (h : flatD d = true) (h2 : flatD e = true) : eqV v u = PyData.eqv d e := by
  cases r <;> first | cases h; done | (cases q <;> first | cases h2; done | rfl)
theorem flats_rep {S : Hp} : ∀ {vs : List V} {ds : List PyData}, Reps K S vs ds → ds.all flatD = true → vs.all flatV = true
  | _, _, .nil, _ => rfl
  | _, _, .cons h q, c => by
    rw [List.all_cons, Bool.and_eq_true] at c ⊢
    exact ⟨flat_rep h c.1, flats_rep q c.2⟩
theorem inV_rep {S : Hp} {v : V} {d : PyData} (r : Rep K S v d) (hd : flatD d = true) : ∀ {vs : List V} {ds : List PyData}, Reps K S vs ds → ds.all flatD = true → inV v vs = ds.any fun e => PyData.eqv e d
  | _, _, .nil, _ => rfl
  | _, _, .cons h q, c => by
    rw [List.all_cons, Bool.and_eq_true] at c
    have i := inV_rep r hd q c.2
    unfold inV at i ⊢
    rw [List.any_cons, List.any_cons, i, eqV_rep h r c.1 hd]
def itemsOf : PyData → Option (List PyData)
  | .list ds => some ds
  | .tuple ds => some ds
  | _ => none
def inOk (x : PyData) (ds : List PyData) : Bool := (flatD x && ds.all flatD) || inMore x ds
def dIn (neg : Bool) : PyData → PyData → (PyData → Prop) → Prop := fun x y R => match itemsOf y with
  | some ds => inOk x ds = true ∧ R (.bool (if neg then !(ds.any fun e => PyData.eqv e x) else ds.any fun e => PyData.eqv e x))
  | none => False
theorem Rep.items {S : Hp} {v : V} {d : PyData} {ds : List PyData} (r : Rep K S v d) (h : itemsOf d = some ds) : ∃ a xs, v = .ref a ∧ (SqL K S a xs ∨ SqT K S a xs) ∧ Reps K S xs ds := by
  cases r with
  | lst e q => cases h; exact ⟨_, _, rfl, .inl (SqL.of e), q⟩
  | tup e q => cases h; exact ⟨_, _, rfl, .inr e, q⟩
  | _ => cases h
def rInM (K : PySem.W.Frag) (neg : Bool) : R2 := fun x y H Q => ∃ d e ds, Rep K H x d ∧ Rep K H y e ∧ itemsOf e = some ds ∧ inMore d ds = true ∧ Q (.bl (if neg then !(ds.any fun e => PyData.eqv e d) else ds.any fun e => PyData.eqv e d)) H
theorem itemsOf_some {e : PyData} {ds : List PyData} (h : itemsOf e = some ds) : e = .list ds ∨ e = .tuple ds := by
  cases e <;> first | (cases h; done) | (cases h; exact .inl rfl) | (cases h; exact .inr rfl)
theorem op_inM {X : Cx} (hu : X.A.units + 64 < cLine) : OpR X (compareOp .In) (rInM X.K false) := by
  intro pins s σ H x y v u Q I rx ry h
  obtain ⟨d, e, ds, hd, he, hi, hm, q⟩ := h
  obtain ⟨as, r1⟩ := (hd.rd I rx).reads
  obtain ⟨bs, r2⟩ := (he.rd I ry).reads
  exact in_more (itemsOf_some hi) r2 r1 hm hu ⟨.bl _, H, I, rfl, q⟩
theorem op_notInM {X : Cx} (hu : X.A.units + 64 < cLine) : OpR X (compareOp .NotIn) (rInM X.K true) := by
  intro pins s σ H x y v u Q I rx ry h
  obtain ⟨d, e, ds, hd, he, hi, hm, q⟩ := h
  obtain ⟨as, r1⟩ := (hd.rd I rx).reads
  obtain ⟨bs, r2⟩ := (he.rd I ry).reads
  exact notIn_more (itemsOf_some hi) r2 r1 hm hu ⟨.bl _, H, I, rfl, q⟩
def rInU (K : PySem.W.Frag) (neg : Bool) : R2 := fun x y H Q => rIn K neg x y H Q ∨ rInM K neg x y H Q
theorem op_inU {X : Cx} (hu : X.A.units + 64 < cLine) : OpR X (compareOp .In) (rInU X.K false) := OpR.or2 op_in_seq (op_inM hu)
theorem op_notInU {X : Cx} (hu : X.A.units + 64 < cLine) : OpR X (compareOp .NotIn) (rInU X.K true) := OpR.or2 op_notIn_seq (op_notInM hu)
theorem simr_in {neg : Bool} : SimR2 K ib b (rInU K neg) (dIn neg) := by
  intro S H x y dx dy R Q o rx ry h k
  unfold dIn at h
  split at h
  · rename_i ds e
    rcases (Bool.or_eq_true _ _ ▸ h.1 : _ ∨ _) with h1 | h1
    · left
      obtain ⟨a, xs, rfl, hq, qs⟩ := ry.items e
      have h1 := (Bool.and_eq_true _ _ ▸ h1 : _ ∧ _)
      refine ⟨a, xs, rfl, ?_, flat_rep rx h1.1, flats_rep qs h1.2, ?_⟩
      · rcases hq with hq | hq
        · exact .inl (ex_l o.sub hq)
        · exact .inr (ex_t o.sub hq)
      · rw [inV_rep rx h1.1 qs h1.2]
        exact k S H _ _ (Go.refl o) (.bl _) h.2
    · exact .inr ⟨dx, dy, ds, rx.mono o.sub, ry.mono o.sub, e, h1, k S H _ _ (Go.refl o) (.bl _) h.2⟩
  · exact h.elim
/-! items and slices -/
def atD : PyData → Int → Option PyData
  | .list ds, i => atI ds i
  | .tuple ds, i => atI ds i
  | .str x, i => if small x.length = true then (atI x.cps.toList i).map fun c => .str ⟨#[c]⟩ else none
  | _, _ => none
def dIx : PyData → PyData → (PyData → Prop) → Prop := fun x y R => isI y fun i => match atD x i with
  | some d => R d
  | none => False
theorem Reps.atI {S : Hp} {vs : List V} {ds : List PyData} {i : Int} {d : PyData} (r : Reps K S vs ds) (h : L2.atI ds i = some d) : ∃ v, L2.atI vs i = some v ∧ Rep K S v d := by
  unfold L2.atI at h ⊢
  rw [r.length]
  cases e : ixN ds.length i with
  | none => rw [e] at h; cases h
  | some j =>
    rw [e] at h
    exact r.get h
theorem simr_ix : SimR2 K ib b (rIx K) dIx := by
  intro S H x y dx dy R Q o rx ry h k
  obtain ⟨i, rfl, rfl, h⟩ := isI_of (R := fun i => match atD dx i with
    | some d => R d
    | none => False) ry h
  rename_i hh
  clear h
  have h := hh
  clear hh
  split at h
  · rename_i d e
    cases rx with
    | lst hq q =>
      obtain ⟨v, hv, rv⟩ := q.atI e
      exact .inl ⟨_, _, i, v, rfl, rfl, SqL.of (o.sub _ _ hq), hv, k S H _ _ (Go.refl o) rv h⟩
    | tup hq q =>
      obtain ⟨v, hv, rv⟩ := q.atI e
      exact .inr (.inl ⟨_, _, i, v, rfl, rfl, ex_t o.sub hq, hv, k S H _ _ (Go.refl o) rv h⟩)
    | str x =>
      have e2 : (if small x.length = true then (L2.atI x.cps.toList i).map fun c => PyData.str ⟨#[c]⟩ else none) = some d := e
      clear e
      have e := e2
      clear e2
      by_cases c : small x.length = true
      case neg => rw [if_neg c] at e; cases e
      rw [if_pos c] at e
      obtain ⟨w, hw, rfl⟩ := Option.map_eq_some_iff.mp e
      exact .inr (.inr ⟨x, i, w, rfl, rfl, small_ok c, hw, k S H _ _ (Go.refl o) (.str _) h⟩)
    | _ => cases e
  · exact h.elim
def cutD {α : Type} (xs : List α) (lo hi : Option Int) : List α := (xs.drop (HT.sIx xs.length 0 lo)).take (HT.sIx xs.length xs.length hi - HT.sIx xs.length 0 lo)
theorem Reps.cut {S : Hp} {vs : List V} {ds : List PyData} (r : Reps K S vs ds) (lo hi : Option Int) : Reps K S (cutV vs lo hi) (cutD ds lo hi) := by
  unfold cutV cutD
  rw [r.length]
  exact Reps.take _ (Reps.drop _ r)
def rSlU (K : PySem.W.Frag) : V → Option Int → Option Int → Hp → VK → Prop := fun x lo hi H Q => (rSlL K x lo hi H Q ∨ rSlA K x lo hi H Q) ∨ rSlS x lo hi H Q
theorem sl_U {X : Cx} : SlR X (rSlU X.K) := SlR.or (SlR.or sl_list sl_tupA) sl_str
def dSlice : PyData → Option Int → Option Int → (PyData → Prop) → Prop := fun x lo hi R => match x with
  | .list ds => R (.list (cutD ds lo hi))
  | .tuple ds => R (.tuple (cutD ds lo hi))
  | .str z => small z.length = true ∧ R (.str (cutS z lo hi))
  | _ => False
theorem cutD_whole {α : Type} {xs : List α} {lo hi : Option Int} (h : HT.sIx xs.length 0 lo = 0 ∧ HT.sIx xs.length xs.length hi = xs.length) : cutD xs lo hi = xs := by
  unfold cutD
  rw [h.1, h.2, List.drop_zero, Nat.sub_zero, List.take_length]
theorem sims_slice : SimSl K ib b (rSlU K) dSlice := by
  intro S H x dx lo hi R Q o rx h k
  unfold dSlice at h
  split at h
  · obtain ⟨a, xs, rfl, hq, q⟩ := rx.lstV
    refine .inl (.inl ⟨a, xs, rfl, SqL.of (o.sub _ _ hq), fun p hp => ?_⟩)
    have g := Go.laid (u := .lst (cutV xs lo hi)) o hp
    exact k _ _ _ _ g (.lst upd_same ((q.cut lo hi).mono g.st)) h
  · obtain ⟨a, xs, rfl, hq, q⟩ := rx.tupV
    refine .inl (.inr ⟨a, xs, rfl, ex_t o.sub hq, fun e => ?_, fun _ p hp => ?_⟩)
    · rw [q.length] at e
      rw [cutD_whole e] at h
      exact k S H _ _ (Go.refl o) (.tup hq q) h
    · have g := Go.laid (u := .tup (cutV xs lo hi)) o hp
      exact k _ _ _ _ g (.tup (Evl.st_of upd_same) ((q.cut lo hi).mono g.st)) h
  · rw [rx.strV]
    exact .inr ⟨_, rfl, small_ok h.1, k S H _ _ (Go.refl o) (.str _) h.2⟩
  · exact h.elim

/-! built-in calls -/
def rLenU (K : PySem.W.Frag) : List V → Hp → VK → Prop := fun xs H Q => ∃ x n, xs = [x] ∧ LenV K x H n ∧ Q (.int n) H
theorem call_lenU {X : Cx} : CallR X (.builtin "len") (rLenU X.K) := call_len
def dLen : List PyData → (PyData → Prop) → Prop := fun ds R => match ds with
  | [.list xs] => R (.int xs.length)
  | [.tuple xs] => R (.int xs.length)
  | [.str x] => small x.length = true ∧ R (.int x.length)
  | _ => False
theorem simc_len : SimC K ib b (rLenU K) dLen := by
  intro S H xs ds R Q o r h k
  unfold dLen at h
  split at h
  · cases r with
    | cons r1 r2 =>
      cases r2
      obtain ⟨a, xs, rfl, hq, q⟩ := r1.lstV
      refine ⟨_, _, rfl, .inl ⟨xs, SqL.of (o.sub _ _ hq), rfl⟩, ?_⟩
      rw [q.length]
      exact k S H _ _ (Go.refl o) (.int _) h
  · cases r with
    | cons r1 r2 =>
      cases r2
      obtain ⟨a, xs, rfl, hq, q⟩ := r1.tupV
      refine ⟨_, _, rfl, .inr ⟨xs, ex_t o.sub hq, rfl⟩, ?_⟩
      rw [q.length]
      exact k S H _ _ (Go.refl o) (.int _) h
  · cases r with
    | cons r1 r2 =>
      cases r2
      rw [r1.strV]
      exact ⟨_, _, rfl, ⟨small_ok h.1, rfl⟩, k S H _ _ (Go.refl o) (.int _) h.2⟩
  · exact h.elim
def showOk (d : PyData) : Bool := d.showable && decide (d.depth ≤ 60) && decide (d.shown.length ≤ sizeLine)
def dRepr : List PyData → (PyData → Prop) → Prop := fun ds R => match ds with
  | [d] => showOk d = true ∧ R (.str d.shown)
  | _ => False
theorem simc_repr : SimC K ib b (rRepr K) dRepr := by
  intro S H xs ds R Q o r h k
  unfold dRepr at h
  split at h
  · cases r with
    | cons r1 r2 =>
      cases r2
      have z := h.1
      unfold showOk at z
      simp only [Bool.and_eq_true, decide_eq_true_eq] at z
      exact ⟨_, _, rfl, r1.mono o.sub, z.1.1, z.1.2, z.2, k S H _ _ (Go.refl o) (.str _) h.2⟩
  · exact h.elim
def rInt1 : List V → Hp → VK → Prop := fun xs H Q => (∃ i, xs = [.int i] ∧ Q (.int i) H) ∨ ∃ k, xs = [.bl k] ∧ Q (.int (if k then 1 else 0)) H
theorem call_int1' {X : Cx} : CallR X (.type "int") rInt1 := call_int1
def dInt1 : List PyData → (PyData → Prop) → Prop := fun ds R => match ds with
  | [.int i] => R (.int i)
  | [.bool k] => R (.int (if k then 1 else 0))
  | _ => False
theorem simc_int1 : SimC K ib b rInt1 dInt1 := by
  intro S H xs ds R Q o r h k
  unfold dInt1 at h
  split at h
  · cases r with
    | cons r1 r2 =>
      cases r2
      rw [r1.intV]
      exact .inl ⟨_, rfl, k S H _ _ (Go.refl o) (.int _) h⟩
  · cases r with
    | cons r1 r2 =>
      cases r2
      rw [r1.blV]
      exact .inr ⟨_, rfl, k S H _ _ (Go.refl o) (.int _) h⟩
  · exact h.elim
def rAbs1 : List V → Hp → VK → Prop := fun xs H Q => ∃ i, xs = [.int i] ∧ Q (.int (if i < 0 then -i else i)) H
theorem call_abs' {X : Cx} : CallR X (.builtin "abs") rAbs1 := call_abs
def dAbs : List PyData → (PyData → Prop) → Prop := fun ds R => match ds with
  | [.int i] => R (.int (if i < 0 then -i else i))
  | _ => False
theorem simc_abs : SimC K ib b rAbs1 dAbs := by
  intro S H xs ds R Q o r h k
  unfold dAbs at h
  split at h
  · cases r with
    | cons r1 r2 =>
      cases r2
      rw [r1.intV]
      exact ⟨_, rfl, k S H _ _ (Go.refl o) (.int _) h⟩
  · exact h.elim
def rTupOf (K : PySem.W.Frag) : List V → Hp → VK → Prop := fun xs H Q => ∃ p ys, xs = [.ref p] ∧ ((SqL K H p ys ∧ ∀ l, H l = none → Q (.ref l) (upd H l (.tup ys))) ∨ (SqT K H p ys ∧ Q (.ref p) H))
theorem call_tupOf {X : Cx} : CallR X (.type "tuple") (rTupOf X.K) := call_tuple_of
def dTupOf : List PyData → (PyData → Prop) → Prop := fun ds R => match ds with
  | [.list xs] => R (.tuple xs)
  | [.tuple xs] => R (.tuple xs)
  | _ => False
theorem simc_tupOf : SimC K ib b (rTupOf K) dTupOf := by
  intro S H xs ds R Q o r h k
  unfold dTupOf at h
  split at h
  · cases r with
    | cons r1 r2 =>
      cases r2
      obtain ⟨a, xs, rfl, hq, q⟩ := r1.lstV
      refine ⟨a, xs, rfl, .inl ⟨SqL.of (o.sub _ _ hq), fun p hp => ?_⟩⟩
      have g := Go.laid (u := .tup xs) o hp
      exact k _ _ _ _ g (.tup (Evl.st_of upd_same) (q.mono g.st)) h
  · cases r with
    | cons r1 r2 =>
      cases r2
      obtain ⟨a, xs, rfl, hq, q⟩ := r1.tupV
      exact ⟨a, xs, rfl, .inr ⟨ex_t o.sub hq, k S H _ _ (Go.refl o) (.tup hq q) h⟩⟩
  · exact h.elim
def rListOf (K : PySem.W.Frag) : List V → Hp → VK → Prop := fun xs H Q => ∃ p ys, xs = [.ref p] ∧ (SqL K H p ys ∨ SqT K H p ys) ∧ ∀ l, H l = none → Q (.ref l) (upd H l (.lst ys))
theorem call_listOf {X : Cx} : CallR X (.type "list") (rListOf X.K) := call_list_of
def dListOf : List PyData → (PyData → Prop) → Prop := fun ds R => match ds with
  | [d] => match itemsOf d with
    | some xs => R (.list xs)
    | none => False
  | _ => False
theorem simc_listOf : SimC K ib b (rListOf K) dListOf := by
  intro S H xs ds R Q o r h k
  unfold dListOf at h
  split at h
  · cases r with
    | cons r1 r2 =>
      cases r2
      split at h
      · rename_i e
        obtain ⟨a, xs, rfl, hq, q⟩ := r1.items e
        refine ⟨a, xs, rfl, ?_, fun p hp => ?_⟩
        · rcases hq with hq | hq
          · exact .inl (ex_l o.sub hq)
          · exact .inr (ex_t o.sub hq)
        · have g := Go.laid (u := .lst xs) o hp
          exact k _ _ _ _ g (.lst upd_same (q.mono g.st)) h
      · exact h.elim
  · exact h.elim
def boolsOf : List PyData → Option (List Bool)
  | [] => some []
  | .bool c :: r => (boolsOf r).map (c :: ·)
  | _ => none
theorem bools_rep {S : Hp} : ∀ {vs : List V} {ds : List PyData} {bs : List Bool}, Reps K S vs ds → boolsOf ds = some bs → vs = bs.map V.bl
  | _, _, bs, .nil, h => by
    rw [boolsOf] at h
    cases h
    rfl
  | _, _, bs, .cons r q, h => by
    cases r with
    | bl c =>
      rw [boolsOf] at h
      obtain ⟨w, hw, rfl⟩ := Option.map_eq_some_iff.mp h
      rw [bools_rep q hw]
      rfl
    | _ => simp [boolsOf] at h
def dAll : List PyData → (PyData → Prop) → Prop := fun ds R => match ds with
  | [.list xs] => ∃ bs, boolsOf xs = some bs ∧ R (.bool (bs.all id))
  | _ => False
def dAny : List PyData → (PyData → Prop) → Prop := fun ds R => match ds with
  | [.list xs] => ∃ bs, boolsOf xs = some bs ∧ R (.bool (bs.any id))
  | _ => False
theorem simc_all : SimC K ib b (rAll K) dAll := by
  intro S H xs ds R Q o r h k
  unfold dAll at h
  split at h
  · cases r with
    | cons r1 r2 =>
      cases r2
      obtain ⟨a, xs, rfl, hq, q⟩ := r1.lstV
      obtain ⟨bs, hb, h⟩ := h
      have e := bools_rep q hb
      subst e
      exact ⟨a, bs, rfl, SqL.of (o.sub _ _ hq), k S H _ _ (Go.refl o) (.bl _) h⟩
  · exact h.elim
theorem simc_any : SimC K ib b (rAny K) dAny := by
  intro S H xs ds R Q o r h k
  unfold dAny at h
  split at h
  · cases r with
    | cons r1 r2 =>
      cases r2
      obtain ⟨a, xs, rfl, hq, q⟩ := r1.lstV
      obtain ⟨bs, hb, h⟩ := h
      have e := bools_rep q hb
      subst e
      exact ⟨a, bs, rfl, SqL.of (o.sub _ _ hq), k S H _ _ (Go.refl o) (.bl _) h⟩
  · exact h.elim
/-- isinstance(x, T) of a built-in class -/
def typD : PyData → String
  | .none => "NoneType"
  | .bool _ => "bool"
  | .int _ => "int"
  | .str _ => "str"
  | .list _ => "list"
  | .tuple _ => "tuple"
  | .dict _ => "dict"
def dIsi (T : String) (de : DE) : DE := fun δ R => de δ fun d => match kitB (typD d) T with
  | some c => R (.bool c)
  | none => False
def TyN (K : PySem.W.Frag) (H : Hp) (x : V) (t : Value) : Prop := TyX K H x t ∨ ∃ a xs o, x = .ref a ∧ H a = some (HP TheW.w a xs o) ∧ t = .type "dict"
theorem kitN_of {X : Cx} {pins : List (Addr × Obj)} {σ : L2.St} {H : Hp} {s : Shared} {x : V} {u t : Value} (I : Inv X pins σ H s) (rx : RelV x u) (ty : TyN X.K H x t) : ∃ P : Heap → Prop, PySem.W.KitX X.K u t P ∧ P s.heap ∧ u ≠ .builtin "__main__.__loader__#opaque" := by
  rcases ty with ty | ⟨a, xs, ob, rfl, h, rfl⟩
  · exact kit_of I rx ty
  · cases (show u = Value.ref a from rx)
    obtain ⟨n1, ⟨es, ep, ⟨o, ho, hx, hd⟩, n3⟩, n4, n5⟩ := (show ObjOk X.prog X.w H s.heap a (HP TheW.w a xs ob) from I.hok a _ h).1.1
    exact ⟨_, PySem.W.kitx_dict, ⟨o, ho, hx.1⟩, fun z => nomatch z⟩
def rIsiN (K : PySem.W.Frag) : List V → Hp → VK → Prop := fun xs H Q => ∃ (x c : V) (t u : Value) (b : Bool), xs = [x, c] ∧ ClsV c u ∧ TyN K H x t ∧ PySem.W.kitOne K t u = some b ∧ Q (.bl b) H
theorem call_isiN {X : Cx} : CallR X (.builtin "isinstance") (rIsiN X.K) := by
  intro pins s σ H xs us Q I r h
  obtain ⟨x, c, t, u, b, rfl, k, ty, e, q⟩ := h
  obtain ⟨u1, u2, rfl, r1, r2⟩ := vals2 r
  have e2 := k.eq r2
  subst e2
  obtain ⟨P, Z, p, hx⟩ := kitN_of I r1 ty
  exact PySem.W.kia_one Z I.kIn p e hx fun tk => ⟨.bl b, H, I.tok tk, rfl, q⟩
theorem Rep.ty {S H : Hp} (o : Okk ib b S H) {v : V} {d : PyData} (r : Rep K S v d) : TyN K H v (.type (typD d)) := by
  cases r with
  | non => exact .inl <| .base .non
  | bl c => exact .inl <| .base (.bl c)
  | int c => exact .inl <| .base (.int c)
  | str c => exact .inl <| .base (.str c)
  | lst h q => exact .inl <| .base (.lst (o.sub _ _ h))
  | tup h q =>
    rcases ex_t o.sub h with (h | ⟨ob, h⟩) | ⟨ob, its, n, h, hc, _⟩
    · exact .inl <| .base (.tup h)
    · exact .inl <| .fTuple h
    · exact .inl <| .kTuple h hc
  | dK h q => exact .inl <| .base (.dK (o.sub _ _ h))
  | dN h _ _ _ _ _ => exact .inr ⟨_, _, _, rfl, o.sub _ _ h, rfl⟩
  | dF _ h _ => exact .inl <| .fDict (o.sub _ _ h)
theorem sim_isi {te : TE} {de : DE} {T : String} (h1 : SimE K ib b te de) : SimE K ib b (tCB (rIsiN K) (tCons te (tCons (tC (.ty T)) tNil))) (dIsi T de) := by
  intro H0 S H σ δ R Q o e h k
  refine h1 H0 S H σ δ _ _ o e h fun S1 H1 v dv g r q => ?_
  split at q
  · rename_i c ec
    exact ⟨v, .ty T, _, _, c, rfl, .ty T, r.ty g.ok, kit_ty ec, k S1 H1 _ _ g (.bl c) q⟩
  · exact q.elim
end

/-! ### promises -/
section
variable {K : PySem.W.Frag} {ib : Option Nat} {b : Bg}
theorem Okk.pure {S H : Hp} (o : Okk ib b S H) : Okk none b S H := ⟨o.sub, fun z => absurd rfl z, fun z => absurd rfl z⟩
theorem Go.ofPure {S H S1 H1 : Hp} (o : Okk ib b S H) (g : Go none b S H S1 H1) : Go ib b S H S1 H1 :=
  ⟨g.st, fun a u _ e => g.keep a u (fun z => absurd rfl z) e, g.new, ⟨g.ok.sub, fun z => g.new _ (o.bag z).tr (o.off z), fun z => (o.bag z).kept fun a u _ e => g.keep a u (fun z => absurd rfl z) e⟩⟩
theorem Okk.as {i j : Nat} {S H : Hp} (o : Okk (some i) b S H) : Okk (some j) b S H := ⟨o.sub, fun _ => o.off (by simp), fun _ => o.bag (by simp)⟩
theorem Go.as {i j : Nat} {S H S1 H1 : Hp} (g : Go (some i) b S H S1 H1) : Go (some j) b S H S1 H1 := ⟨g.st, fun a u c e => g.keep a u (fun _ => c (by simp)) e, g.new, g.ok.as⟩
/-- a def that draws nothing: what it asks of its arguments, what it gives -/
def spP (K : PySem.W.Frag) (pre : List PyData → Prop) (post : List PyData → PyData → Prop) : Sp := fun vs H Q _ => ∃ (S : Hp) (b : Bg) (ds : List PyData), Okk none b S H ∧ Reps K S vs ds ∧ pre ds ∧
  ∀ S' H' v d, Go none b S H S' H' → Rep K S' v d → post ds d → Q v H'
/-- a def that draws: the bag is its first argument -/
def spG (K : PySem.W.Frag) (pre : List PyData → Prop) (post : List PyData → PyData → Prop) : Sp := fun vs H Q _ => ∃ (S : Hp) (b : Bg) (ws : List V) (ds : List PyData), vs = .ref b.1 :: ws ∧ Okk (some 0) b S H ∧ Reps K S ws ds ∧ pre ds ∧
  ∀ S' H' v d, Go (some 0) b S H S' H' → Rep K S' v d → post ds d → Q v H'
def dCall (pre : List PyData → Prop) (post : List PyData → PyData → Prop) (d : DA) : DE := fun δ R => d δ fun ds => pre ds ∧ ∀ r, post ds r → R r
theorem sim_callP {pre : List PyData → Prop} {post : List PyData → PyData → Prop} {E : XK} {t : TA} {d : DA} (h1 : SimA K ib b t d) : SimE K ib b (tCall (spP K pre post) [] E t) (dCall pre post d) := by
  intro H0 S H σ δ R Q o e h k
  refine h1 H0 S H σ δ _ _ o e h fun S1 H1 vs ds g r q => ?_
  rw [List.append_nil]
  refine ⟨S1, b, ds, g.ok.pure, r, q.1, fun S2 H2 v d g2 r2 q2 => ?_⟩
  exact k S2 H2 v d (g.trans o (Go.ofPure g.ok g2)) r2 (q.2 d q2)
theorem sim_callG {pre : List PyData → Prop} {post : List PyData → PyData → Prop} {E : XK} {t : TA} {d : DA} {i : Nat} (hi : ib = some i) (h1 : SimA K ib b t d) :
    SimE K ib b (tCall (spG K pre post) [] E (tCons (tVar i) t)) (dCall pre post d) := by
  intro H0 S H σ δ R Q o e h k
  refine ⟨_, e.slot i hi, ?_⟩
  refine h1 H0 S H σ δ _ _ o e h fun S1 H1 vs ds g r q => ?_
  show spG K pre post ((V.ref b.1 :: vs) ++ []) H1 Q E
  rw [List.append_nil]
  subst hi
  refine ⟨S1, b, vs, ds, rfl, g.ok.as, r, q.1, fun S2 H2 v d g2 r2 q2 => ?_⟩
  exact k S2 H2 v d (g.trans o g2.as) r2 (q.2 d q2)
/-- a def's entry -/
def startD (n : Nat) (ds : List (Option DV)) : DEnv := ds ++ List.replicate (n - ds.length) none
theorem start_get {N : List Str} {vs : List V} {i : Nat} {v : V} (h : vs[i]? = some v) : (L2.start N vs)[i]? = some (some v) := by
  unfold L2.start
  have hl : i < vs.length := (List.getElem?_eq_some_iff.mp h).1
  rw [List.getElem?_append_left (by simpa using hl), List.getElem?_map, h]
  rfl
theorem startD_get {n : Nat} {ds : List (Option DV)} {i : Nat} {x : DV} (h : (startD n ds)[i]? = some (some x)) : ds[i]? = some (some x) := by
  unfold startD at h
  by_cases hl : i < ds.length
  · rw [List.getElem?_append_left hl] at h
    exact h
  · rw [List.getElem?_append_right (by omega), List.getElem?_replicate] at h
    split at h <;> cases h
theorem env_start {N : List Str} {S H H0 : Hp} {vs : List V} {ds : List PyData} (r : Reps K S vs ds) : EnvOk K none b H0 S H (L2.start N vs) (startD N.length (ds.map fun d => some (.dat d))) := by
  refine ⟨?_, fun i z => by (cases z), fun i d h => ?_, fun i es h => ?_, fun i a h => ?_, fun i c h => ?_⟩
  · unfold L2.start startD
    rw [List.length_append, List.length_append, List.length_map, List.length_map, List.length_replicate, List.length_replicate, r.length]
  · have h := startD_get h
    rw [List.getElem?_map] at h
    cases e : ds[i]? with
    | none => rw [e] at h; cases h
    | some d' =>
      rw [e] at h
      cases h
      obtain ⟨v, hv, rv⟩ := r.get e
      exact ⟨v, start_get hv, rv⟩
  · have h := startD_get h
    rw [List.getElem?_map] at h
    cases e : ds[i]? with
    | none => rw [e] at h; cases h
    | some d' => rw [e] at h; cases h
  · have h := startD_get h
    rw [List.getElem?_map] at h
    cases e : ds[i]? with
    | none => rw [e] at h; cases h
    | some d' => rw [e] at h; cases h
  · have h := startD_get h
    rw [List.getElem?_map] at h
    cases e : ds[i]? with
    | none => rw [e] at h; cases h
    | some d' => rw [e] at h; cases h
theorem env_startG {N : List Str} {S H H0 : Hp} {vs : List V} {ds : List PyData} (r : Reps K S vs ds) :
    EnvOk K (some 0) b H0 S H (L2.start N (.ref b.1 :: vs)) (startD N.length (none :: ds.map fun d => some (.dat d))) := by
  refine ⟨?_, fun i z => ?_, fun i d h => ?_, fun i es h => ?_, fun i a h => ?_, fun i c h => ?_⟩
  · unfold L2.start startD
    simp only [List.length_append, List.length_map, List.length_replicate, List.length_cons, r.length]
  · cases z
    exact start_get rfl
  · have h := startD_get h
    cases i with
    | zero => cases h
    | succ i =>
      rw [List.getElem?_cons_succ, List.getElem?_map] at h
      cases e : ds[i]? with
      | none => rw [e] at h; cases h
      | some d' =>
        rw [e] at h
        cases h
        obtain ⟨v, hv, rv⟩ := r.get e
        exact ⟨v, start_get (by simpa using hv), rv⟩
  · have h := startD_get h
    cases i with
    | zero => cases h
    | succ i =>
      rw [List.getElem?_cons_succ, List.getElem?_map] at h
      cases e : ds[i]? with
      | none => rw [e] at h; cases h
      | some d' => rw [e] at h; cases h
  · have h := startD_get h
    cases i with
    | zero => cases h
    | succ i =>
      rw [List.getElem?_cons_succ, List.getElem?_map] at h
      cases e : ds[i]? with
      | none => rw [e] at h; cases h
      | some d' => rw [e] at h; cases h
  · have h := startD_get h
    cases i with
    | zero => cases h
    | succ i =>
      rw [List.getElem?_cons_succ, List.getElem?_map] at h
      cases e : ds[i]? with
      | none => rw [e] at h; cases h
      | some d' => rw [e] at h; cases h
/-- a def's body keeps its promise, if its reading over data does -/
theorem body_P {ts : TS} {dst : DS} {pre : List PyData → Prop} {post : List PyData → PyData → Prop} {N : List Str} (sim : ∀ b, SimS K none b ts dst)
    (h : ∀ ds, pre ds → dst { nx := fun _ => post ds .none, rt := post ds } (startD N.length (ds.map fun d => some (.dat d))))
    {vs : List V} {H : Hp} {Q : VK} {E : XK} (q : spP K pre post vs H Q E) : ts { nx := fun _ H' => Q .non H', rt := Q } (L2.start N vs) H := by
  obtain ⟨S, b, ds, o, r, hp, k⟩ := q
  refine sim b S H S S H _ _ _ _ o (Ex.refl S) (Go.refl o) (env_start r) (h ds hp) ⟨?_, ?_, ?_, ?_, ?_⟩
  · intro S' H' σ' δ' g _ _ z
    exact k S' H' .non .none g .non z
  · intro S' H' v d g _ rv z
    exact k S' H' v d g rv z
  · intro S' H' σ' δ' g _ _ z
    exact z
  · intro S' H' σ' δ' g _ _ z
    exact z
  · intro S' H' p xs es g _ _ _ _ _ z
    exact z.elim
theorem body_G {ts : TS} {dst : DS} {pre : List PyData → Prop} {post : List PyData → PyData → Prop} {N : List Str} (sim : ∀ b, SimS K (some 0) b ts dst)
    (h : ∀ ds, pre ds → dst { nx := fun _ => post ds .none, rt := post ds } (startD N.length (none :: ds.map fun d => some (.dat d))))
    {vs : List V} {H : Hp} {Q : VK} {E : XK} (q : spG K pre post vs H Q E) : ts { nx := fun _ H' => Q .non H', rt := Q } (L2.start N vs) H := by
  obtain ⟨S, b, ws, ds, rfl, o, r, hp, k⟩ := q
  refine sim b S H S S H _ _ _ _ o (Ex.refl S) (Go.refl o) (env_startG r) (h ds hp) ⟨?_, ?_, ?_, ?_, ?_⟩
  · intro S' H' σ' δ' g _ _ z
    exact k S' H' .non .none g .non z
  · intro S' H' v d g _ rv z
    exact k S' H' v d g rv z
  · intro S' H' σ' δ' g _ _ z
    exact z
  · intro S' H' σ' δ' g _ _ z
    exact z
  · intro S' H' p xs es g _ _ _ _ _ z
    exact z.elim
end
end DL

namespace DL
open PySem PySem.Spec PyProof.Rows L2
open Evl (Ex ex_l ex_t)
variable [TheW]

/-- a def of the text by its body, where no guard stands -/
theorem ok_G {P : Program} {w : World} {K : PySem.W.Frag} {mg : Str → Option Value} {base : Heap} {x qual : Str} {st : Stmt} {f : Addr} {fd : FuncData} {N ps : List Str} {k : Nat} {sp : Sp}
    (F : Fun K x qual st f fd) (S : FnScope N ps (defScope st)) (len : ∀ vs H Q E, sp vs H Q E → vs.length = ps.length)
    (hbody : ∀ (cdv : Value) (A : Around) (outer : List Env) (s : Shared) (H : Hp) (vs : List V) (Q : VK) (E : XK),
      RoomG k (A.deeper (envOfC qual (defScope st) s.heap.objs.size f cdv)) → sp vs H Q E →
      ∃ t, PSs (cxOf L2.CX0 P w K mg base N qual (defScope st) f cdv A outer s H E).nox (defBody st) t ∧
        t { nx := fun _ H' => Q .non H', rt := Q } (L2.start N vs) H) : FnG P w K mg base L2.CX0 (k + 1) f fd ps sp := by
  obtain ⟨oc, od, kV, doc, pm, an, cdv, ct, osl, rfl, lk, hcd⟩ := F.ex
  refine fn_ofG lk hcd S len ?_
  intro A outer s H vs Q E hr hsp
  obtain ⟨t, h, q⟩ := hbody cdv A outer s H vs Q E hr hsp
  exact ⟨t, h.nox, q⟩
theorem len_P {K : PySem.W.Frag} {pre : List PyData → Prop} {post : List PyData → PyData → Prop} {n : Nat} (h : ∀ ds, pre ds → ds.length = n) : ∀ vs H Q E, spP K pre post vs H Q E → vs.length = n := by
  rintro vs H Q E ⟨S, b, ds, o, r, p, k⟩
  rw [r.length]
  exact h ds p
theorem len_G {K : PySem.W.Frag} {pre : List PyData → Prop} {post : List PyData → PyData → Prop} {n : Nat} (h : ∀ ds, pre ds → ds.length = n) : ∀ vs H Q E, spG K pre post vs H Q E → vs.length = n + 1 := by
  rintro vs H Q E ⟨S, b, ws, ds, rfl, o, r, p, k⟩
  rw [List.length_cons, r.length, h ds p]

/-! ### a text turned round -/
def tRevS (te : TE) : TE := fun σ H Q => te σ H fun x H1 => ∃ z : Str, x = .str z ∧ z.length ≤ 100000 ∧
  ∀ y : Str, y.length ≤ z.length → (∀ c ∈ y.cps.toList, c ∈ z.cps.toList) → Q (.str y) H1
theorem pe_revS {X : Cx} {e : Expr} {te : TE} {k : Nat} {p1 p2 p3 pos : Pos} (he : PE X e te) :
    PE X (.Subscript e (.Slice none none (some (.UnaryOp .USub (.Constant (.int 1) k p1) p2)) p3) pos) (tRevS te) := by
  constructor
  intro pins s σ H Q I h
  apply Subscript_
  refine thn (he.run pins s σ H _ I h) ?_
  rintro v s1 ⟨x, H1, I1, r1, z, rfl, hz, q⟩
  obtain ⟨tz, rfl⟩ := (show ∃ t, v = Value.str z t from r1)
  have minus : PO X (some (.UnaryOp .USub (.Constant (.int 1) k p1) p2)) (tPart (tUn (rU fun i => .int (-i)) (tC (.int 1)))) := po_some (pe_un un_neg pe_int)
  apply wpAny_Slice
  refine thn (po_none.run pins s1 σ H1 (fun o H2 => o = none ∧ H2 = H1) I1 ⟨rfl, rfl⟩) ?_
  rintro vl s2 ⟨l, H2, I2, pl, rfl, rfl⟩
  refine thn (po_none.run pins s2 σ H2 (fun o H3 => o = none ∧ H3 = H2) I2 ⟨rfl, rfl⟩) ?_
  rintro vu s3 ⟨u, H3, I3, pu, rfl, rfl⟩
  refine thn (minus.run pins s3 σ H3 (fun o H4 => o = some (-1) ∧ H4 = H3) I3 ⟨1, rfl, -1, rfl, rfl, rfl⟩) ?_
  rintro vs s4 ⟨o, H4, I4, ps, rfl, rfl⟩
  have hl : vl = Value.none := by cases pl; rfl
  have hu : vu = Value.none := by cases pu; rfl
  obtain ⟨tk, hs⟩ : ∃ tk, vs = Value.int (-1) tk := by
    cases ps with
    | int i t => exact ⟨t, rfl⟩
  subst hl hu hs
  have I5 : Inv X pins σ H4 { s4 with heap := s4.heap.push { cls := .type "slice", data := .fields #[Value.none, Value.none, Value.int (-1) tk] } } :=
    I4.kept (t' := s4.toks) (fun b ob q => Heap.get?_push_of_some _ q)
  refine tail_any (ops := [.ref s4.heap.objs.size, .str z tz]) (typeIs_str _ _ _) (F.slot_str_getitem.lookup) ?_ (by with_unfolding_all rfl)
  refine wpAny_getItem_str_slice (l := none) (u := none) (st := some (-1, tk)) ⟨_, Heap.get?_push_size _ rfl, rfl, rfl⟩ rfl ?_
  have bound := Txt.sliceBy_le z none none (-1, tk) (show (-1 : Int) ≠ 0 by decide)
  have neg : (((some (-1, tk) : Option (Int × Tok)).map (·.1)).getD 1 == 1 && (slicePicked z none none (some (-1, tk))).length == z.length) = true → False := by
    intro c
    rw [Bool.and_eq_true] at c
    exact absurd (show ((-1 : Int) == 1) = true from c.1) (by decide)
  unfold Txt.sliceBy at bound
  rw [if_neg neg] at bound
  unfold sliceMade
  rw [if_neg neg]
  refine ⟨?_, .str _, H4, I5.tok _, ⟨_, rfl⟩, q _ bound ?_⟩
  · exact Nat.le_trans bound (Evl.sz_of hz)
  · intro c hc
    have hc' : c ∈ (slicePicked z none none (some (-1, tk))).filterMap (z.cps[·]?) := by simpa using hc
    obtain ⟨i, _, hi⟩ := List.mem_filterMap.mp hc'
    rw [← Array.getElem?_toList] at hi
    exact List.mem_of_getElem? hi
section
variable {K : PySem.W.Frag} {ib : Option Nat} {b : Bg} {te to : TE} {de dO' : DE}
def dRevS (de : DE) : DE := fun δ R => de δ fun d => match d with
  | .str z => small z.length = true ∧ ∀ y : Str, y.length ≤ z.length → (∀ c ∈ y.cps.toList, c ∈ z.cps.toList) → R (.str y)
  | _ => False
theorem sim_revS (h1 : SimE K ib b te de) : SimE K ib b (tRevS te) (dRevS de) := by
  intro H0 S H σ δ R Q o e h k
  refine h1 H0 S H σ δ _ _ o e h fun S1 H1 v dv g r q => ?_
  split at q
  · rw [r.strV]
    exact ⟨_, rfl, of_decide_eq_true q.1, fun y h1 h2 => k S1 H1 _ _ g (.str y) (q.2 y h1 h2)⟩
  · exact q.elim
/-- s.upper() -/
def rUpper : V → List V → Hp → VK → Prop := fun x xs H Q => ∃ a, x = .str a ∧ xs = [] ∧ a.length ≤ 5592405 ∧ Q (.str (Txt.upper a)) H
def dUpper (de : DE) : DE := fun δ R => de δ fun d => match d with
  | .str z => small z.length = true ∧ R (.str (Txt.upper z))
  | _ => False
theorem sim_upper (h1 : SimE K ib b te de) : SimE K ib b (tM0 rUpper te) (dUpper de) := by
  intro H0 S H σ δ R Q o e h k
  refine h1 H0 S H σ δ _ _ o e h fun S1 H1 v dv g r q => ?_
  split at q
  · rw [r.strV]
    have := of_decide_eq_true q.1
    exact ⟨⟨_, rfl⟩, _, rfl, rfl, by omega, k S1 H1 _ _ g (.str _) q.2⟩
  · exact q.elim
/-- s.join(xs) -/
def strsOf : List PyData → Option (List Str)
  | [] => some []
  | .str c :: r => (strsOf r).map (c :: ·)
  | _ => none
theorem strs_rep {S : Hp} : ∀ {vs : List V} {ds : List PyData} {bs : List Str}, Reps K S vs ds → strsOf ds = some bs → vs = bs.map V.str
  | _, _, bs, .nil, h => by
    rw [strsOf] at h
    cases h
    rfl
  | _, _, bs, .cons r q, h => by
    cases r with
    | str c =>
      rw [strsOf] at h
      obtain ⟨w, hw, rfl⟩ := Option.map_eq_some_iff.mp h
      rw [strs_rep q hw]
      rfl
    | _ => simp [strsOf] at h
def rJoin (K : PySem.W.Frag) : V → List V → Hp → VK → Prop := fun x xs H Q => ∃ a p, ∃ ys : List Str, x = .str a ∧ xs = [.ref p] ∧ (SqL K H p (ys.map V.str) ∨ SqT K H p (ys.map V.str)) ∧
  (ys.map (·.length)).sum + ys.length * a.length ≤ 16777216 ∧ Q (.str (Txt.join a ys)) H
def dJoin (ds de : DE) : DE := fun δ R => ds δ fun d => de δ fun y => match d, y with
  | .str a, .list xs => ∃ ys, strsOf xs = some ys ∧ (ys.map (·.length)).sum + ys.length * a.length ≤ 16777216 ∧ R (.str (Txt.join a ys))
  | _, _ => False
theorem sim_join {ts : TE} {ds : DE} (h0 : ∀ δ R, ds δ R → ds δ fun d => R d ∧ ∃ a, d = .str a) (h1 : SimE K ib b ts ds) (h2 : SimE K ib b te de) : SimE K ib b (tM1 (rJoin K) ts te) (dJoin ds de) := by
  intro H0 S H σ δ R Q o e h k
  refine h1 H0 S H σ δ _ _ o e (h0 δ _ h) fun S1 H1 v dv g r q => ?_
  obtain ⟨q, a, rfl⟩ := q
  rw [r.strV]
  refine ⟨⟨a, rfl⟩, ?_⟩
  refine h2 H0 S1 H1 σ δ _ _ g.ok (e.go g) q fun S2 H2 w dw g2 r2 q2 => ?_
  split at q2
  · rename_i a' xs e1
    cases e1
    obtain ⟨p, us, rfl, hq, qs⟩ := r2.lstV
    obtain ⟨ys, hy, hz, q2⟩ := q2
    have eu := strs_rep qs hy
    subst eu
    exact ⟨_, p, ys, rfl, rfl, .inl (SqL.of (g2.ok.sub _ _ hq)), hz, k S2 H2 _ _ (g.trans o g2) (.str _) q2⟩
  · exact q2.elim
end

/-! ### the bag and its draws, in the layer's own readings -/
section
variable {X : Cx}
/-- xs[k] as it is read ahead of xs[k] op= e -/
def rAt (K : PySem.W.Frag) : V → V → Hp → VK → Prop := fun x y H Q => ∃ p xs, ∃ j : Nat, ∃ v, x = .ref p ∧ y = .int (j : Int) ∧ SqL K H p xs ∧ xs[j]? = some v ∧ Q v H
theorem pget_list : PGet X (rAt X.K) := by
  intro pins s σ H o i ov iv Q I ro ri h
  obtain ⟨p, xs, j, v, rfl, rfl, hs, ha, q⟩ := h
  cases (show ov = Value.ref p from ro)
  obtain ⟨t, rfl⟩ := (show ∃ t, iv = Value.int (j : Int) t from ri)
  obtain ⟨its, r, pl, hz⟩ := I.list hs
  obtain ⟨u, hu, ru⟩ := r.get ha
  have hj : j < xs.length := (List.getElem?_eq_some_iff.mp ha).1
  have hs : sizeLine = 16777216 := sizeLine_eq
  exact wpAny_getItem_list pl.isList (by omega) (by omega) (by simpa using hu) ⟨v, H, I, ru, q⟩
end
end DL

/-! Dict displays of no, of one entry. -/
namespace DL
open PySem PySem.Spec PyProof.Rows L2
open Evl (Ex ex_l ex_t)
variable [TheW]

def tDispT (K : PySem.W.Frag) (tk tv : TE) : TE := fun σ H Q => ∀ p, H p = none → tPairs [(tk, tv)] σ (upd H p (HN TheW.w p [])) fun ps H2 => H2 p = some (HN TheW.w p []) ∧
  ∃ (k : NestedKey) (a : Addr) (y : V), ps = [(.ref a, y)] ∧ KeyV K H2 a k ∧ ∀ u ob, RelV y u → Q (.ref p) (upd H2 p (HP TheW.w p [(k, a, u)] ob))
theorem nat_empty {w : World} (h : Heap) (hb : sysModules < h.objs.size) : NAt w h.objs.size [] (h.push { cls := .type "dict", data := .dict #[] }) :=
  ⟨beq_eq_false_iff_ne.mpr (Ne.symm (Nat.ne_of_lt hb)), ⟨#[], 0, ⟨_, Heap.get?_push_size _ rfl, ⟨rfl, rfl, rfl⟩, rfl⟩, rfl⟩, List.nodup_nil, Nat.zero_le _⟩
theorem pe_dispT {X : Cx} {pos : Pos} {k v : Expr} {tk tv : TE} (hw : TheW.w = X.w) (hu : X.A.units + 64 < cLine) (hk : PE X k tk) (hv : PE X v tv) : PE X (.Dict [some k] [v] pos) (tDispT X.K tk tv) := by
  constructor
  intro pins s σ H Q I q
  have hn := I.hok.fresh (Nat.le_refl s.heap.objs.size)
  have I1 := I.laid (a := s.heap.objs.size) (o := HN TheW.w s.heap.objs.size []) (h' := s.heap.push { cls := .type "dict", data := .dict #[] }) (t' := s.toks)
    (fun _ _ q => Heap.get?_push_of_some _ q) (Nat.le_refl _) (nat_empty s.heap I.big).obj
  have one : PPs X pos [some k] [v] [(tk, tv)] := pps_cons hk hv pps_nil
  have shape := zip_pairTrees [some k] [v] X.env pos rfl rfl
  have len1 : (pairTrees [some k] [v] X.env pos).length = 1 := pairTrees_length [some k] [v] X.env pos rfl rfl
  rw [arm_eval_Dict, shape, dictDisplay_pairs _ (by intro z; rw [z] at len1; cases len1) (by rw [len1]; decide)]
  apply wpAny_bind
  apply wpAny_standAt
  apply wpAny_bind
  refine wpAny_subDictH (knd := nestedKind X.prog X.w) (Q := fun d s' => wpAny _ _ (pure (Value.ref d)) _ _ s') (show X.A.units + 8 < cLine by omega) (by rw [len1]; decide) ?_
  refine thn (one.run pins _ σ _ _ I1 (q _ hn)) ?_
  · rintro ws s2 ⟨ps, H2, I2, rel, e, ks, a, y, rfl, ea, q2⟩
    cases rel with
    | cons r1 r2 =>
      cases r2
      rename_i kv
      obtain ⟨u1, u2⟩ := kv
      obtain ⟨ra, rb⟩ := r1
      cases (show u1 = Value.ref a from ra)
      have kd := keyV_at I2 ea
      have n2 : NAt X.w s.heap.objs.size [] s2.heap := by
        rw [← hw]
        exact (show ObjOk X.prog X.w H2 s2.heap s.heap.objs.size (HN TheW.w s.heap.objs.size []) from I2.hok _ _ e).1
      have dd := n2.ofH (P := X.prog) fun x hx => (by cases hx)
      refine ⟨[(ks, a, u2)], ⟨rfl, rfl, kd, trivial⟩, dd, fun h' tk' dd' hs => ?_⟩
      apply wpAny_pure
      have he : ∃ q, h'.get? s.heap.objs.size = some q := let ⟨q, _, _, hq, _⟩ := dd'; ⟨q, hq⟩
      have n3 : NAt TheW.w s.heap.objs.size [(ks, a, u2)] h' := by
        rw [hw]
        exact NAt.to n2.1 (by decide : 1 ≤ sizeLine) dd'
      obtain ⟨ob, eb⟩ := id he
      have n4 : ObjOk X.prog X.w (upd H2 s.heap.objs.size (HP TheW.w s.heap.objs.size [(ks, a, u2)] ob)) h' s.heap.objs.size (HP TheW.w s.heap.objs.size [(ks, a, u2)] ob) := by
        rw [← hw]
        exact NAt.objP n3 eb
      exact ⟨.ref s.heap.objs.size, _, d_write (ob := HP TheW.w s.heap.objs.size [(ks, a, u2)] ob) I2 (by rw [e]; trivial) hs he n4, rfl, q2 u2 ob rb⟩
section
variable {K : PySem.W.Frag} {ib : Option Nat} {b : Bg} {tk tv : TE} {dk dv : DE}
def dDict0 : DE := fun _ R => R (.dict [])
theorem sim_dict0 : SimE K ib b tDNewK dDict0 := by
  intro H0 S H σ δ R Q o e h k p hp
  have g := Go.laid (u := .dK []) o hp
  exact k _ _ _ (.dict []) g (.dK (kvs := []) (ds := []) upd_same .nil) h
def keyOf : PyData → Option Key
  | .int i => some (.inl i)
  | .str x => some (.inr x)
  | _ => none
def keysOf : List PyData → Option (List Key)
  | [] => some []
  | d :: r => match keyOf d, keysOf r with
    | some k, some ks => some (k :: ks)
    | _, _ => none
theorem keyOf_rep {S : Hp} {v : V} {d : PyData} {k : Key} (r : Rep K S v d) (h : keyOf d = some k) : v = kV k ∧ d = keyD k := by
  cases r with
  | int i => cases h; exact ⟨rfl, rfl⟩
  | str x => cases h; exact ⟨rfl, rfl⟩
  | _ => cases h
theorem keysOf_rep {S : Hp} : ∀ {vs : List V} {ds : List PyData} {ks : List Key}, Reps K S vs ds → keysOf ds = some ks → vs = ks.map kV ∧ ds = ks.map keyD
  | _, _, ks, .nil, h => by
    rw [keysOf] at h
    cases h
    exact ⟨rfl, rfl⟩
  | _, _, ks, .cons (d := d) (ds := ds) r q, h => by
    rw [keysOf] at h
    cases e1 : keyOf d with
    | none => rw [e1] at h; cases h
    | some k =>
      cases e2 : keysOf ds with
      | none => rw [e1, e2] at h; cases h
      | some ks' =>
        rw [e1, e2] at h
        cases h
        obtain ⟨a1, a2⟩ := keyOf_rep r e1
        obtain ⟨b1, b2⟩ := keysOf_rep q e2
        rw [a1, a2, b1, b2]
        exact ⟨rfl, rfl⟩
def dDictK (dk dv : DE) : DE := fun δ R => dk δ fun x => dv δ fun y => (keyOf x).isSome = true ∧ R (.dict [(x, y)])
def dDictT (d : DA) (dv : DE) : DE := fun δ R => d δ fun xs => dv δ fun y => (small xs.length = true ∧ (keysOf xs).isSome = true) ∧ R (.dict [(.tuple xs, y)])
theorem sim_dictK (h1 : SimE K ib b tk dk) (h2 : SimE K ib b tv dv) : SimE K ib b (tDisp [(tk, tv)]) (dDictK dk dv) := by
  intro H0 S H σ δ R Q o e h k p hp
  have g0 := Go.laidOwn (u := .dK []) o hp
  have np : ib ≠ none → p ≠ b.1 := fun z w => (o.bag z).tr (w ▸ hp)
  have sp : S p = none := Ex.none_of o.sub hp
  refine h1 H0 S _ σ δ _ _ g0.ok (e.go g0) h fun S1 H1 x dx g1 r1 q1 => ?_
  have p1 := g1.keep p _ np upd_same
  have s1 := g1.new p (by rw [upd_same]; exact Option.some_ne_none _) sp
  have g01 := g0.trans o g1
  refine h2 H0 S1 H1 σ δ _ _ g1.ok (e.go g01) q1 fun S2 H2 y dy g2 r2 q2 => ?_
  have p2 := g2.keep p _ np p1
  have s2 := g2.new p (by rw [p1]; exact Option.some_ne_none _) s1
  have g02 := g01.trans o g2
  obtain ⟨c, hc⟩ := Option.isSome_iff_exists.mp q2.1
  obtain ⟨rfl, rfl⟩ := keyOf_rep (r1.mono g2.st) hc
  refine ⟨p2, [(c, y)], rfl, Nat.le_trans (Nat.le_of_eq rfl) (by decide : 1 ≤ 15), ?_⟩
  have g3 := Go.freeze (u := .dK (mergeK [] [(c, y)])) o (Go.ownUpd (u := .dK (mergeK [] [(c, y)])) o g02 hp s2) hp s2 upd_same
  exact k _ _ _ _ g3 (.dK (kvs := [(c, y)]) (ds := [dy]) upd_same (.cons (r2.mono (Ex.new s2)) .nil)) q2.2
theorem nks_keysOf : ∀ {ds : List PyData} {ks : List Key}, keysOf ds = some ks → ∃ e, nks ds = some e ∧ NestedKey.depthAll e ≤ 0
  | [], _, _ => ⟨[], rfl, by simp [NestedKey.depthAll]⟩
  | d :: r, ks, h => by
    rw [keysOf] at h
    cases e1 : keyOf d with
    | none => rw [e1] at h; cases h
    | some k =>
      cases e2 : keysOf r with
      | none => rw [e1, e2] at h; cases h
      | some ks' =>
        obtain ⟨e, h1, h2⟩ := nks_keysOf e2
        cases d with
        | int i => exact ⟨.num i :: e, by simp only [nks, nk, h1], by simp only [NestedKey.depthAll, NestedKey.depth]; omega⟩
        | str x => exact ⟨.text x :: e, by simp only [nks, nk, h1], by simp only [NestedKey.depthAll, NestedKey.depth]; omega⟩
        | _ => cases e1
theorem sim_dictT {t : TA} {d : DA} (hlen : ∀ δ R, d δ R → d δ fun xs => small xs.length = true ∧ R xs) (h1 : SimA K ib b t d) (h2 : SimE K ib b tv dv) : SimE K ib b (tDispT K (tTup t) tv) (dDictT d dv) := by
  intro H0 S H σ δ R Q o e h k p hp
  have g0 := Go.laidOwn (u := HN TheW.w p []) o hp
  have np : ib ≠ none → p ≠ b.1 := fun z w => (o.bag z).tr (w ▸ hp)
  have sp : S p = none := Ex.none_of o.sub hp
  refine h1 H0 S _ σ δ _ _ g0.ok (e.go g0) (hlen δ _ h) fun S1 H1 us xs g1 r1 q1 => ⟨by rw [r1.length]; exact small_ok q1.1, fun a ha => ?_⟩
  have p1 := g1.keep p _ np upd_same
  have s1 := g1.new p (by rw [upd_same]; exact Option.some_ne_none _) sp
  have g01 := g0.trans o g1
  have gt := Go.laid (u := .tup us) g1.ok ha
  have pt := gt.keep p _ np p1
  have st := gt.new p (by rw [p1]; exact Option.some_ne_none _) s1
  have g0t := g01.trans o gt
  have na : ib ≠ none → a ≠ b.1 := fun z w => (g1.ok.bag z).tr (w ▸ ha)
  have ra : Rep K (upd S1 a (.tup us)) (.ref a) (.tuple xs) := .tup (.inl (.inl upd_same)) (r1.mono gt.st)
  refine h2 H0 _ _ σ δ _ _ gt.ok (e.go g0t) q1.2 fun S2 H2 y dy g2 r2 q2 => ?_
  have p2 := g2.keep p _ np pt
  have s2 := g2.new p (by rw [pt]; exact Option.some_ne_none _) st
  have g02 := g0t.trans o g2
  obtain ⟨c, hc⟩ := Option.isSome_iff_exists.mp q2.1.2
  obtain ⟨en, hn, hd⟩ := nks_keysOf hc
  have hk : nk (.tuple xs) = some (.tup en) := by simp only [nk, hn, Option.map_some]
  have h8 : (NestedKey.tup en).depth ≤ 8 := by
    simp only [NestedKey.depth]
    omega
  have ra2 := ra.mono g2.st
  refine ⟨p2, .tup en, a, y, rfl, ⟨_, ra2.mono g2.ok.sub, hk, h8⟩, fun u ob ru => ?_⟩
  have g3 := Go.freeze (u := HP TheW.w p [(.tup en, a, u)] ob) o (Go.ownUpd (u := HP TheW.w p [(.tup en, a, u)] ob) o g02 hp s2) hp s2 upd_same
  refine k _ _ _ _ g3 (.dN (xs := [(.tup en, a, u)]) (ks := [.tuple xs]) (vs := [y]) (ds := [dy]) upd_same ?_ ?_ (.cons (ra2.mono (Ex.new s2)) .nil) (.cons (r2.mono (Ex.new s2)) .nil) (.cons ru .nil)) q2.2
  · simp only [List.map_cons, List.map_nil, hk]
  · intro x hx
    rw [List.mem_singleton.mp hx]
    exact h8
end
end DL

namespace DL
open PySem PySem.Spec PyProof.Rows L2
open Evl (Ex ex_l ex_t)
variable [TheW]
section
variable {K : PySem.W.Frag} {ib : Option Nat} {b : Bg} {te : TE} {de : DE}
theorem cut_mem {α : Type} {xs : List α} {lo hi : Option Int} {x : α} (h : x ∈ cutD xs lo hi) : x ∈ xs := List.mem_of_mem_drop (List.mem_of_mem_take h)
theorem cut_len {α : Type} (xs : List α) (lo hi : Option Int) : (cutD xs lo hi).length ≤ xs.length := by
  unfold cutD
  rw [List.length_take, List.length_drop]
  omega
theorem cut_map {α β : Type} (f : α → β) (xs : List α) (lo hi : Option Int) : cutD (xs.map f) lo hi = (cutD xs lo hi).map f := by
  unfold cutD
  rw [List.length_map, List.map_take, List.map_drop]
/-- bag[3][bag[2]:] -/
theorem sim_cells {i : Nat} (hi : ib = some i) : SimE K ib b (tSl (rSlU K) (tOp (rIx K) (tVar i) (tC (.int 3))) (tPart (tOp (rIx K) (tVar i) (tC (.int 2)))) tNoPart) dCells := by
  intro H0 S H σ δ R Q o e h k
  obtain ⟨r, m, n, ns, e1, ne, e2, e3, h1, h2, h3⟩ := (o.bag (by rw [hi]; simp)).ex
  refine ⟨_, e.slot i hi, .inl ⟨b.1, _, 3, _, rfl, rfl, SqL.of e1, at4 (by omega), ?_⟩⟩
  refine ⟨_, e.slot i hi, .inl ⟨b.1, _, 2, _, rfl, rfl, SqL.of e1, at4 (by omega), ?_⟩⟩
  refine ⟨n, rfl, ?_⟩
  refine .inl (.inl ⟨b.2, _, rfl, SqL.of e2, fun p hp => ?_⟩)
  have ec : cutV (ns.map V.int) (some n) none = (cutD ns (some n) none).map V.int := cut_map V.int ns (some n) none
  rw [ec]
  have g := Go.laid (u := .lst ((cutD ns (some n) none).map V.int)) o hp
  refine k _ _ _ _ g (.lst upd_same (Reps.of_ints _)) (h _ (fun x hx => e3 x (cut_mem hx)) (Nat.le_trans (cut_len _ _ _) h3))
/-- bag[2] += e -/
def dBagAug (de : DE) : DS := fun DD δ => de δ fun d => isI d fun _ => DD.nx δ
theorem sim_bagAug {i : Nat} (hi : ib = some i) (h1 : SimE K ib b te de) : SimS K ib b (tAugS (tVar i) (tC (.int 2)) te (rAt K) (ipI fun i j => i + j) rSetL) (dBagAug de) := by
  intro S0 H0 Sm S H σ δ D DD o em g0 e h x
  obtain ⟨r, m, n, ns, e1, ne, e2, e3, h2, h3, h4⟩ := (g0.ok.bag (by rw [hi]; simp)).ex
  refine ⟨_, e.slot i hi, b.1, _, 2, .int n, rfl, rfl, SqL.of e1, rfl, ?_⟩
  refine h1 H0 S H σ δ _ _ g0.ok e h fun S1 H1 v dv g1 rv q => ?_
  obtain ⟨c, rfl, _, q⟩ := isI_of rv q
  refine ⟨n, c, rfl, rfl, ?_⟩
  obtain ⟨r', m', n', ns', f1, fne, f2, f3, f4, f5, f6⟩ := (g1.ok.bag (by rw [hi]; simp)).ex
  have g2 := bag_set hi g1.ok (e.go g1) (r := r') (m := m') (n := n + c) f4 f5
  refine ⟨b.1, _, 2, 2, rfl, rfl, f1, rfl, ?_⟩
  have g12 := g1.trans g0.ok g2
  exact x.nx S1 _ σ δ (g0.trans o g12) (em.trans g1.st) (e.go g12) q
end
end DL

/-! The defs that all laws share: the draws, two found alike, one of some, any odd value, a name. -/
namespace DL
open PySem PySem.Spec PyProof.Rows L2
open Evl (Ex ex_l ex_t)
variable [TheW]
def pre_l_take : List PyData → Prop := fun ds => match ds with
  | [.int n] => 0 < n ∧ n.natAbs.log2 < 9000
  | _ => False
def post_l_take : List PyData → PyData → Prop := fun ds d => match ds with
  | [.int n] => ∃ i : Int, d = .int i ∧ 0 ≤ i ∧ i < n
  | _ => False
def sp_l_take (K : PySem.W.Frag) : Sp := spG K pre_l_take post_l_take
def pre_l_alike : List PyData → Prop := fun ds => match ds with
  | [x, y] => (eqOk x y && (showOk x && showOk y)) = true
  | _ => False
def post_l_alike : List PyData → PyData → Prop := fun ds d => match ds with
  | [x, y] => d = .bool (PyData.eqv x y && x.shown == y.shown)
  | _ => False
def sp_l_alike (K : PySem.W.Frag) : Sp := spP K pre_l_alike post_l_alike
def pre_l_one : List PyData → Prop := fun ds => match ds with
  | [.list xs] => xs ≠ [] ∧ small xs.length = true
  | [.tuple xs] => xs ≠ [] ∧ small xs.length = true
  | [.str x] => 0 < x.length ∧ small x.length = true
  | _ => False
def post_l_one : List PyData → PyData → Prop := fun ds d => match ds with
  | [.list xs] => d ∈ xs
  | [.tuple xs] => d ∈ xs
  | [.str x] => ∃ c, c ∈ x.cps.toList ∧ d = .str ⟨#[c]⟩
  | _ => False
def sp_l_one (K : PySem.W.Frag) : Sp := spG K pre_l_one post_l_one
def odds : List PyData :=
  let a : PyData := .str "a"
  [.none, .bool true, .bool false, .int 0, .int 1, .int 7, .int (-1), .int (10 ^ 39), .int (-(10 ^ 39)), .str "", a, .str "A", .str "if", .str "tell", .str "yes", .str "no", .str "a1", .str " "] ++
  [.str "a\n", .str "abcdefghi", .tuple [], .list [], .dict [], .tuple [a], .list [a], .tuple [.str "A"], .tuple [.str "if"], .tuple [a, .str "b"], .tuple [.tuple [a]], .tuple [a, .int 0]] ++
  [.tuple [a, .list [.str "b"]], .tuple [.str "tell"], .tuple [.str "yes", .str "no"], .list [.str "yes"], .tuple [.str "alike", .tuple [a]], .dict [(a, .int 1)], .dict [(.tuple [a], .int 1)], .tuple [.none]] ++
  [.list [.list []], .dict [(.int 1, .tuple [a])]]
def pre_l_odd : List PyData → Prop := fun ds => ds = []
def post_l_odd : List PyData → PyData → Prop := fun _ d => d ∈ odds
def sp_l_odd (K : PySem.W.Frag) : Sp := spG K pre_l_odd post_l_odd
/-- the words that are no names -/
def noNames : List Str := ["alike", "go", "if", "no", "tell", "unlike", "with", "yes"]
def lower (c : Nat) : Bool := decide (97 ≤ c) && decide (c ≤ 122)
def isNm (x : Str) : Bool := decide (1 ≤ x.length) && decide (x.length ≤ 8) && !(noNames.any (· == x)) && x.cps.toList.all lower
def pre_l_name : List PyData → Prop := fun ds => ds = []
def post_l_name : List PyData → PyData → Prop := fun _ d => ∃ x, d = .str x ∧ isNm x = true
def sp_l_name (K : PySem.W.Frag) : Sp := spG K pre_l_name post_l_name
theorem n_l_take : ∀ ds, pre_l_take ds → ds.length = 1 := by
  intro ds h
  unfold pre_l_take at h
  first | (split at h <;> first | rfl | exact h.elim) | (subst h; rfl)
theorem n_l_alike : ∀ ds, pre_l_alike ds → ds.length = 2 := by
  intro ds h
  unfold pre_l_alike at h
  first | (split at h <;> first | rfl | exact h.elim) | (subst h; rfl)
theorem n_l_one : ∀ ds, pre_l_one ds → ds.length = 1 := by
  intro ds h
  unfold pre_l_one at h
  first | (split at h <;> first | rfl | exact h.elim) | (subst h; rfl)
theorem n_l_odd : ∀ ds, pre_l_odd ds → ds.length = 0 := by
  intro ds h
  unfold pre_l_odd at h
  first | (split at h <;> first | rfl | exact h.elim) | (subst h; rfl)
theorem n_l_name : ∀ ds, pre_l_name ds → ds.length = 0 := by
  intro ds h
  unfold pre_l_name at h
  first | (split at h <;> first | rfl | exact h.elim) | (subst h; rfl)
def t_l_take (K : PySem.W.Frag) : TS := (tSeq (tIfS (tTest (tOp (rEqU K) (tOp (rIx K) (tVar 0) (tC (.int 0))) (tC (.int 0)))) (tSeq (tAsg (tOp (rIx K) (tOp (rAddU K) (tSl (rSlU K) (tOp (rIx K) (tVar 0) (tC (.int 3))) (tPart (tOp (rIx K) (tVar 0) (tC (.int 2)))) tNoPart) (tLst (tCons (tC (.int 0)) tNil))) (tC (.int 0))) (gName 2))
    (tSeq (tAugS (tVar 0) (tC (.int 2)) (tC (.int 1)) (rAt K) (ipI fun i j => i + j) rSetL)
    (tSeq (tAsg (tOp (rI CMul fun i j => .int (i * j)) (tVar 2) (tCB rInt1 (tCons (tOp (rLtU (fun i j => decide (j ≤ i)) fun i j => !ltS i j) (tVar 2) (tOp (rI CPow fun i j => .int (i ^ j.toNat)) (tC (.int 10)) (tC (.int 18)))) tNil))) (gSub (tVar 0) (tC (.int 0)) rSetL))
    (tSeq (tAsg (tOp (rAddU K) (tOp (rAddU K) (tOp (rI CMul fun i j => .int (i * j)) (tOp (rIx K) (tVar 0) (tC (.int 1))) (tC (.int 48271))) (tOp (rI (fun _ j => j ≠ 0) fun i j => .int (i.fmod j)) (tCB rInt1 (tCons (tVar 2) tNil)) (tC (.int 2147483647)))) (tOp (rI CMul fun i j => .int (i * j)) (tC (.int 7919)) (tOp (rIx K) (tVar 0) (tC (.int 2))))) (gName 3))
    (tAsg (tOp (rI (fun _ j => j ≠ 0) fun i j => .int (i.fmod j)) (tCB rInt1 (tCons (tVar 3) tNil)) (tC (.int 2147483647))) (gSub (tVar 0) (tC (.int 1)) rSetL)))))) tNext)
    (tSeq (tIfS (tTest (tOp (rLtU (fun i j => decide (j < i)) fun i j => ltS j i) (tOp (rIx K) (tVar 0) (tC (.int 0))) (tC (.int 0)))) (tSeq (tAsg (tTup (tCons (tOp (rI (fun _ j => j ≠ 0) fun i j => .int (i.fmod j)) (tCB rInt1 (tCons (tOp (rIx K) (tVar 0) (tC (.int 0))) tNil)) (tVar 1)) (tCons (tOp (rI CDivW fun i j => .int (i / j)) (tCB rInt1 (tCons (tOp (rIx K) (tVar 0) (tC (.int 0))) tNil)) (tVar 1)) tNil))) (gTup K 2 (gCons (gName 4) (gCons (gSub (tVar 0) (tC (.int 0)) rSetL) gNil))))
    (tRet (tVar 4))) tNext)
    (tSeq (tAsg (tOp (rI (fun _ j => j ≠ 0) fun i j => .int (i.fmod j)) (tCB rInt1 (tCons (tOp (rI CMul fun i j => .int (i * j)) (tOp (rAddU K) (tOp (rIx K) (tVar 0) (tC (.int 1))) (tC (.int 1))) (tC (.int 39373))) tNil)) (tC (.int 1000000007))) (gName 5))
    (tSeq (tAsg (tOp (rI (fun _ j => j ≠ 0) fun i j => .int (i.fmod j)) (tCB rInt1 (tCons (tOp (rI CMul fun i j => .int (i * j)) (tOp (rI (fun _ j => j ≠ 0) fun i j => .int (i.fmod j)) (tCB rInt1 (tCons (tOp (rI CMul fun i j => .int (i * j)) (tVar 5) (tVar 5)) tNil)) (tC (.int 998244353))) (tC (.int 30011))) tNil)) (tC (.int 998244353))) (gName 6))
    (tRet (tOp (rI (fun _ j => j ≠ 0) fun i j => .int (i.fmod j)) (tCB rInt1 (tCons (tOp (rI CDivW fun i j => .int (i / j)) (tVar 6) (tC (.int 7))) tNil)) (tVar 1)))))))
def d_l_take : DS := (dSeq (dIfS (dTest (dOp dEq dBag (dC (.int 0)))) (dSeq (dAsg (dOp dIx (dOp dAdd dCells (dLst (dCons (dC (.int 0)) dNil))) (dC (.int 0))) (dgName 2))
    (dSeq (dBagAug (dC (.int 1)))
    (dSeq (dAsg (dOp (dIC CMul fun i j => i * j) (dVar 2) (dCB dInt1 (dCons (dOp (dLt (fun i j => decide (j ≤ i)) fun i j => !ltS i j) (dVar 2) (dOp (dIC CPow fun i j => i ^ j.toNat) (dC (.int 10)) (dC (.int 18)))) dNil))) dgBag)
    (dSeq (dAsg (dOp dAdd (dOp dAdd (dOp (dIC CMul fun i j => i * j) dBag (dC (.int 48271))) (dOp (dIC (fun _ j => j ≠ 0) fun i j => i.fmod j) (dCB dInt1 (dCons (dVar 2) dNil)) (dC (.int 2147483647)))) (dOp (dIC CMul fun i j => i * j) (dC (.int 7919)) dBagAny)) (dgName 3))
    (dAsg (dOp (dIC (fun _ j => j ≠ 0) fun i j => i.fmod j) (dCB dInt1 (dCons (dVar 3) dNil)) (dC (.int 2147483647))) dgBag))))) dNext)
    (dSeq (dIfS (dTest (dOp (dLt (fun i j => decide (j < i)) fun i j => ltS j i) dBag (dC (.int 0)))) (dSeq (dAsg (dTup (dCons (dOp (dIC (fun _ j => j ≠ 0) fun i j => i.fmod j) (dCB dInt1 (dCons dBag dNil)) (dVar 1)) (dCons (dOp (dIC CDivW fun i j => i / j) (dCB dInt1 (dCons dBag dNil)) (dVar 1)) dNil))) (dgTup 2 (dgCons (dgName 4) (dgCons dgBag dgNil))))
    (dRet (dVar 4))) dNext)
    (dSeq (dAsg (dOp (dIC (fun _ j => j ≠ 0) fun i j => i.fmod j) (dCB dInt1 (dCons (dOp (dIC CMul fun i j => i * j) (dOp dAdd dBag (dC (.int 1))) (dC (.int 39373))) dNil)) (dC (.int 1000000007))) (dgName 5))
    (dSeq (dAsg (dOp (dIC (fun _ j => j ≠ 0) fun i j => i.fmod j) (dCB dInt1 (dCons (dOp (dIC CMul fun i j => i * j) (dOp (dIC (fun _ j => j ≠ 0) fun i j => i.fmod j) (dCB dInt1 (dCons (dOp (dIC CMul fun i j => i * j) (dVar 5) (dVar 5)) dNil)) (dC (.int 998244353))) (dC (.int 30011))) dNil)) (dC (.int 998244353))) (dgName 6))
    (dRet (dOp (dIC (fun _ j => j ≠ 0) fun i j => i.fmod j) (dCB dInt1 (dCons (dOp (dIC CDivW fun i j => i / j) (dVar 6) (dC (.int 7))) dNil)) (dVar 1)))))))
theorem m_l_take {K : PySem.W.Frag} {b : Bg} : SimS K (some 0) b (t_l_take K) (d_l_take) := (sim_seq (sim_if (sim_test (sim_op simr_eq (sim_bag rfl (.inl rfl)) sim_int)) (sim_seq (sim_asg (sim_op simr_ix (sim_op sim_add (sim_cells rfl) (sim_lst (sim_cons sim_int sim_nil))) sim_int) (simg_name (by decide)))
    (sim_seq (sim_bagAug rfl sim_int)
    (sim_seq (sim_asg (sim_op simr_IC sim_var (sim_cb simc_int1 (sim_cons (sim_op simr_lt sim_var (sim_op simr_IC sim_int sim_int)) sim_nil))) (simg_bag rfl (.inl rfl)))
    (sim_seq (sim_asg (sim_op sim_add (sim_op sim_add (sim_op simr_IC (sim_bag rfl (.inr rfl)) sim_int) (sim_op simr_IC (sim_cb simc_int1 (sim_cons sim_var sim_nil)) sim_int)) (sim_op simr_IC sim_int (sim_bag2 rfl))) (simg_name (by decide)))
    (sim_asg (sim_op simr_IC (sim_cb simc_int1 (sim_cons sim_var sim_nil)) sim_int) (simg_bag rfl (.inr rfl))))))) sim_next)
    (sim_seq (sim_if (sim_test (sim_op simr_lt (sim_bag rfl (.inl rfl)) sim_int)) (sim_seq (sim_asg (sim_tup (sim_cons (sim_op simr_IC (sim_cb simc_int1 (sim_cons (sim_bag rfl (.inl rfl)) sim_nil)) sim_var) (sim_cons (sim_op simr_IC (sim_cb simc_int1 (sim_cons (sim_bag rfl (.inl rfl)) sim_nil)) sim_var) sim_nil))) (simg_tup (simg_cons (simg_name (by decide)) (simg_cons (simg_bag rfl (.inl rfl)) simg_nil))))
    (sim_ret sim_var)) sim_next)
    (sim_seq (sim_asg (sim_op simr_IC (sim_cb simc_int1 (sim_cons (sim_op simr_IC (sim_op sim_add (sim_bag rfl (.inr rfl)) sim_int) sim_int) sim_nil)) sim_int) (simg_name (by decide)))
    (sim_seq (sim_asg (sim_op simr_IC (sim_cb simc_int1 (sim_cons (sim_op simr_IC (sim_op simr_IC (sim_cb simc_int1 (sim_cons (sim_op simr_IC sim_var sim_var) sim_nil)) sim_int) sim_int) sim_nil)) sim_int) (simg_name (by decide)))
    (sim_ret (sim_op simr_IC (sim_cb simc_int1 (sim_cons (sim_op simr_IC sim_var sim_int) sim_nil)) sim_var))))))

def t_l_alike (K : PySem.W.Frag) : TS := (tRet (tAndV (tOp (rEqU K) (tVar 0) (tVar 1)) (tOp (rEqU K) (tCB (rRepr K) (tCons (tVar 0) tNil)) (tCB (rRepr K) (tCons (tVar 1) tNil)))))
def d_l_alike : DS := (dRet (dAndV (dOp dEq (dVar 0) (dVar 1)) (dOp dEq (dCB dRepr (dCons (dVar 0) dNil)) (dCB dRepr (dCons (dVar 1) dNil)))))
theorem m_l_alike {K : PySem.W.Frag} {b : Bg} : SimS K none b (t_l_alike K) (d_l_alike) := (sim_ret (sim_andV (sim_op simr_eq sim_var sim_var) (sim_op simr_eq (sim_cb simc_repr (sim_cons sim_var sim_nil)) (sim_cb simc_repr (sim_cons sim_var sim_nil)))))

def t_l_one (K : PySem.W.Frag) : TS := (tRet (tOp (rIx K) (tVar 1) (tCall (sp_l_take K) [] E0 (tCons (tVar 0) (tCons (tCB (rLenU K) (tCons (tVar 1) tNil)) tNil)))))
def d_l_one : DS := (dRet (dOp dIx (dVar 1) (dCall pre_l_take post_l_take (dCons (dCB dLen (dCons (dVar 1) dNil)) dNil))))
theorem m_l_one {K : PySem.W.Frag} {b : Bg} : SimS K (some 0) b (t_l_one K) (d_l_one) := (sim_ret (sim_op simr_ix sim_var (sim_callG rfl (sim_cons (sim_cb simc_len (sim_cons sim_var sim_nil)) sim_nil))))

def t_l_odd (K : PySem.W.Frag) : TS := (tSeq (tAsg (tLst (tCons (tC .non) (tCons (tC (.bl true)) (tCons (tC (.bl false)) (tCons (tC (.int 0)) (tCons (tC (.int 1)) (tCons (tC (.int 7)) (tCons (tUn (rU fun i => .int (-i)) (tC (.int 1))) (tCons (tOp (rI CPow fun i j => .int (i ^ j.toNat)) (tC (.int 10)) (tC (.int 39))) (tCons (tUn (rU fun i => .int (-i)) (tOp (rI CPow fun i j => .int (i ^ j.toNat)) (tC (.int 10)) (tC (.int 39)))) (tCons (tC (.str "")) (tCons (tC (.str "a")) (tCons (tC (.str "A")) (tCons (tC (.str "if")) (tCons (tC (.str "tell")) (tCons (tC (.str "yes")) (tCons (tC (.str "no")) (tCons (tC (.str "a1")) (tCons (tC (.str " ")) tNil))))))))))))))))))) (gName 1))
    (tSeq (tAsg (tOp (rAddU K) (tVar 1) (tLst (tCons (tC (.str "a\n")) (tCons (tC (.str "abcdefghi")) (tCons (tTup tNil) (tCons (tLst tNil) (tCons tDNewK (tCons (tTup (tCons (tC (.str "a")) tNil)) (tCons (tLst (tCons (tC (.str "a")) tNil)) (tCons (tTup (tCons (tC (.str "A")) tNil)) (tCons (tTup (tCons (tC (.str "if")) tNil)) (tCons (tTup (tCons (tC (.str "a")) (tCons (tC (.str "b")) tNil))) (tCons (tTup (tCons (tTup (tCons (tC (.str "a")) tNil)) tNil)) (tCons (tTup (tCons (tC (.str "a")) (tCons (tC (.int 0)) tNil))) tNil)))))))))))))) (gName 1))
    (tSeq (tAsg (tOp (rAddU K) (tVar 1) (tLst (tCons (tTup (tCons (tC (.str "a")) (tCons (tLst (tCons (tC (.str "b")) tNil)) tNil))) (tCons (tTup (tCons (tC (.str "tell")) tNil)) (tCons (tTup (tCons (tC (.str "yes")) (tCons (tC (.str "no")) tNil))) (tCons (tLst (tCons (tC (.str "yes")) tNil)) (tCons (tTup (tCons (tC (.str "alike")) (tCons (tTup (tCons (tC (.str "a")) tNil)) tNil))) (tCons (tDisp [((tC (.str "a")), (tC (.int 1)))]) (tCons (tDispT K (tTup (tCons (tC (.str "a")) tNil)) (tC (.int 1))) (tCons (tTup (tCons (tC .non) tNil)) tNil)))))))))) (gName 1))
    (tSeq (tAsg (tOp (rAddU K) (tVar 1) (tLst (tCons (tLst (tCons (tLst tNil) tNil)) (tCons (tDisp [((tC (.int 1)), (tTup (tCons (tC (.str "a")) tNil)))]) tNil)))) (gName 1))
    (tRet (tCall (sp_l_one K) [] E0 (tCons (tVar 0) (tCons (tVar 1) tNil))))))))
def d_l_odd : DS := (dSeq (dAsg (dLst (dCons (dC .none) (dCons (dC (.bool true)) (dCons (dC (.bool false)) (dCons (dC (.int 0)) (dCons (dC (.int 1)) (dCons (dC (.int 7)) (dCons (dUn dNeg (dC (.int 1))) (dCons (dOp (dIC CPow fun i j => i ^ j.toNat) (dC (.int 10)) (dC (.int 39))) (dCons (dUn dNeg (dOp (dIC CPow fun i j => i ^ j.toNat) (dC (.int 10)) (dC (.int 39)))) (dCons (dC (.str "")) (dCons (dC (.str "a")) (dCons (dC (.str "A")) (dCons (dC (.str "if")) (dCons (dC (.str "tell")) (dCons (dC (.str "yes")) (dCons (dC (.str "no")) (dCons (dC (.str "a1")) (dCons (dC (.str " ")) dNil))))))))))))))))))) (dgName 1))
    (dSeq (dAsg (dOp dAdd (dVar 1) (dLst (dCons (dC (.str "a\n")) (dCons (dC (.str "abcdefghi")) (dCons (dTup dNil) (dCons (dLst dNil) (dCons dDict0 (dCons (dTup (dCons (dC (.str "a")) dNil)) (dCons (dLst (dCons (dC (.str "a")) dNil)) (dCons (dTup (dCons (dC (.str "A")) dNil)) (dCons (dTup (dCons (dC (.str "if")) dNil)) (dCons (dTup (dCons (dC (.str "a")) (dCons (dC (.str "b")) dNil))) (dCons (dTup (dCons (dTup (dCons (dC (.str "a")) dNil)) dNil)) (dCons (dTup (dCons (dC (.str "a")) (dCons (dC (.int 0)) dNil))) dNil)))))))))))))) (dgName 1))
    (dSeq (dAsg (dOp dAdd (dVar 1) (dLst (dCons (dTup (dCons (dC (.str "a")) (dCons (dLst (dCons (dC (.str "b")) dNil)) dNil))) (dCons (dTup (dCons (dC (.str "tell")) dNil)) (dCons (dTup (dCons (dC (.str "yes")) (dCons (dC (.str "no")) dNil))) (dCons (dLst (dCons (dC (.str "yes")) dNil)) (dCons (dTup (dCons (dC (.str "alike")) (dCons (dTup (dCons (dC (.str "a")) dNil)) dNil))) (dCons (dDictK (dC (.str "a")) (dC (.int 1))) (dCons (dDictT (dCons (dC (.str "a")) dNil) (dC (.int 1))) (dCons (dTup (dCons (dC .none) dNil)) dNil)))))))))) (dgName 1))
    (dSeq (dAsg (dOp dAdd (dVar 1) (dLst (dCons (dLst (dCons (dLst dNil) dNil)) (dCons (dDictK (dC (.int 1)) (dTup (dCons (dC (.str "a")) dNil))) dNil)))) (dgName 1))
    (dRet (dCall pre_l_one post_l_one (dCons (dVar 1) dNil)))))))
theorem m_l_odd {K : PySem.W.Frag} {b : Bg} : SimS K (some 0) b (t_l_odd K) (d_l_odd) := (sim_seq (sim_asg (sim_lst (sim_cons sim_non (sim_cons sim_bl (sim_cons sim_bl (sim_cons sim_int (sim_cons sim_int (sim_cons sim_int (sim_cons (sim_un simu_neg sim_int) (sim_cons (sim_op simr_IC sim_int sim_int) (sim_cons (sim_un simu_neg (sim_op simr_IC sim_int sim_int)) (sim_cons sim_str (sim_cons sim_str (sim_cons sim_str (sim_cons sim_str (sim_cons sim_str (sim_cons sim_str (sim_cons sim_str (sim_cons sim_str (sim_cons sim_str sim_nil))))))))))))))))))) (simg_name (by decide)))
    (sim_seq (sim_asg (sim_op sim_add sim_var (sim_lst (sim_cons sim_str (sim_cons sim_str (sim_cons (sim_tup sim_nil) (sim_cons (sim_lst sim_nil) (sim_cons sim_dict0 (sim_cons (sim_tup (sim_cons sim_str sim_nil)) (sim_cons (sim_lst (sim_cons sim_str sim_nil)) (sim_cons (sim_tup (sim_cons sim_str sim_nil)) (sim_cons (sim_tup (sim_cons sim_str sim_nil)) (sim_cons (sim_tup (sim_cons sim_str (sim_cons sim_str sim_nil))) (sim_cons (sim_tup (sim_cons (sim_tup (sim_cons sim_str sim_nil)) sim_nil)) (sim_cons (sim_tup (sim_cons sim_str (sim_cons sim_int sim_nil))) sim_nil)))))))))))))) (simg_name (by decide)))
    (sim_seq (sim_asg (sim_op sim_add sim_var (sim_lst (sim_cons (sim_tup (sim_cons sim_str (sim_cons (sim_lst (sim_cons sim_str sim_nil)) sim_nil))) (sim_cons (sim_tup (sim_cons sim_str sim_nil)) (sim_cons (sim_tup (sim_cons sim_str (sim_cons sim_str sim_nil))) (sim_cons (sim_lst (sim_cons sim_str sim_nil)) (sim_cons (sim_tup (sim_cons sim_str (sim_cons (sim_tup (sim_cons sim_str sim_nil)) sim_nil))) (sim_cons (sim_dictK sim_str sim_int) (sim_cons (sim_dictT (fun _ _ h => ⟨rfl, h⟩) (sim_cons sim_str sim_nil) sim_int) (sim_cons (sim_tup (sim_cons sim_non sim_nil)) sim_nil)))))))))) (simg_name (by decide)))
    (sim_seq (sim_asg (sim_op sim_add sim_var (sim_lst (sim_cons (sim_lst (sim_cons (sim_lst sim_nil) sim_nil)) (sim_cons (sim_dictK sim_int (sim_tup (sim_cons sim_str sim_nil))) sim_nil)))) (simg_name (by decide)))
    (sim_ret (sim_callG rfl (sim_cons sim_var sim_nil)))))))

def t_l_name (K : PySem.W.Frag) : TS := (tSeq (tAsg (tLst (tCons (tC (.str "a")) (tCons (tC (.str "b")) (tCons (tC (.str "c")) (tCons (tC (.str "f")) (tCons (tC (.str "g")) (tCons (tC (.str "x")) (tCons (tC (.str "z")) (tCons (tC (.str "ab")) (tCons (tC (.str "ans")) (tCons (tC (.str "iff")) (tCons (tC (.str "gone")) (tCons (tC (.str "tells")) (tCons (tC (.str "withs")) (tCons (tC (.str "abcdefgh")) (tCons (tC (.str "zzzzzzzz")) tNil)))))))))))))))) (gName 1))
    (tSeq (tIfS (tTest (tOp (rLtU (fun i j => decide (j < i)) fun i j => ltS j i) (tCall (sp_l_take K) [] E0 (tCons (tVar 0) (tCons (tC (.int 4)) tNil))) (tC (.int 0)))) (tRet (tCall (sp_l_one K) [] E0 (tCons (tVar 0) (tCons (tVar 1) tNil)))) tNext)
    (tRet (tOp (rAddU K) (tC (.str "k")) (tM1 (rJoin K) (tC (.str "")) (tLc (iRng1 (tCons (tCall (sp_l_take K) [] E0 (tCons (tVar 0) (tCons (tC (.int 8)) tNil))) tNil)) (gName 2) tYes (tCall (sp_l_one K) [] E0 (tCons (tVar 0) (tCons (tC (.str "abcdefghijklmnopqrstuvwxyz")) tNil))) [2]))))))
def d_l_name : DS := (dSeq (dAsg (dLst (dCons (dC (.str "a")) (dCons (dC (.str "b")) (dCons (dC (.str "c")) (dCons (dC (.str "f")) (dCons (dC (.str "g")) (dCons (dC (.str "x")) (dCons (dC (.str "z")) (dCons (dC (.str "ab")) (dCons (dC (.str "ans")) (dCons (dC (.str "iff")) (dCons (dC (.str "gone")) (dCons (dC (.str "tells")) (dCons (dC (.str "withs")) (dCons (dC (.str "abcdefgh")) (dCons (dC (.str "zzzzzzzz")) dNil)))))))))))))))) (dgName 1))
    (dSeq (dIfS (dTest (dOp (dLt (fun i j => decide (j < i)) fun i j => ltS j i) (dCall pre_l_take post_l_take (dCons (dC (.int 4)) dNil)) (dC (.int 0)))) (dRet (dCall pre_l_one post_l_one (dCons (dVar 1) dNil))) dNext)
    (dRet (dOp dAdd (dC (.str "k")) (dJoin (dC (.str "")) (dLc (dRng1 (dCons (dCall pre_l_take post_l_take (dCons (dC (.int 8)) dNil)) dNil)) 2 dYes (dCall pre_l_one post_l_one (dCons (dC (.str "abcdefghijklmnopqrstuvwxyz")) dNil)) [2]))))))
theorem m_l_name {K : PySem.W.Frag} {b : Bg} : SimS K (some 0) b (t_l_name K) (d_l_name) := (sim_seq (sim_asg (sim_lst (sim_cons sim_str (sim_cons sim_str (sim_cons sim_str (sim_cons sim_str (sim_cons sim_str (sim_cons sim_str (sim_cons sim_str (sim_cons sim_str (sim_cons sim_str (sim_cons sim_str (sim_cons sim_str (sim_cons sim_str (sim_cons sim_str (sim_cons sim_str (sim_cons sim_str sim_nil)))))))))))))))) (simg_name (by decide)))
    (sim_seq (sim_if (sim_test (sim_op simr_lt (sim_callG rfl (sim_cons sim_int sim_nil)) sim_int)) (sim_ret (sim_callG rfl (sim_cons sim_var sim_nil))) sim_next)
    (sim_ret (sim_op sim_add sim_str (sim_join (fun _ _ h => ⟨h, _, rfl⟩) sim_str (sim_lc (by decide) (by intro i hi; cases hi <;> decide) (sim_rng1 (sim_cons (sim_callG rfl (sim_cons sim_int sim_nil)) sim_nil)) sim_yes (sim_callG rfl (sim_cons sim_str sim_nil))))))))

end DL

namespace DL
open PySem PySem.Spec PyProof.Rows L2
variable [TheW]
theorem eqv_ii (i j : Int) : PyData.eqv (.int i) (.int j) = (i == j) := by rw [PyData.eqv]
theorem eqv_ss (i j : Str) : PyData.eqv (.str i) (.str j) = (i == j) := by rw [PyData.eqv]
theorem eqv_bb (i j : Bool) : PyData.eqv (.bool i) (.bool j) = (i == j) := by rw [PyData.eqv]
theorem eqOk_ii (i j : Int) : eqOk (.int i) (.int j) = true := rfl
theorem eqOk_ss (i j : Str) : eqOk (.str i) (.str j) = true := rfl
theorem eqOk_bb (i j : Bool) : eqOk (.bool i) (.bool j) = true := rfl
theorem small_le {n : Nat} (h : n ≤ 100000) : small n = true := decide_eq_true h
theorem at_cells (ns : List Int) (h : ∀ n ∈ ns, 0 ≤ n) : ∃ c : Int, 0 ≤ c ∧ atD (.list ((ns.map PyData.int).append [.int 0])) 0 = some (.int c) := by
  cases ns with
  | nil => exact ⟨0, by decide, rfl⟩
  | cons c cs => exact ⟨c, h c (List.mem_cons_self ..), by
      show L2.atI (PyData.int c :: ((cs.map PyData.int).append [.int 0])) 0 = _
      unfold L2.atI ixN
      rw [if_pos (by decide), if_pos (by simp; omega)]
      rfl⟩
theorem fmod_nn {i n : Int} (h : 0 < n) : 0 ≤ i.fmod n ∧ i.fmod n < n := ⟨Int.fmod_nonneg_of_pos i h, Int.fmod_lt_of_pos i h⟩
theorem cmulR {i j : Int} (h : 0 ≤ j ∧ j < 2 ^ 64) : CMul i j := .inr ⟨by omega, h.2⟩
theorem cmulL {i j : Int} (h : 0 ≤ i ∧ i < 2 ^ 64) : CMul i j := .inl ⟨by omega, h.2⟩
theorem dat_l_take : ∀ ds, pre_l_take ds → d_l_take { nx := fun _ => post_l_take ds .none, rt := post_l_take ds } (startD 7 (none :: ds.map fun d => some (.dat d))) := by
  intro ds h
  unfold pre_l_take at h
  split at h
  case h_2 => exact h.elim
  rename_i n
  obtain ⟨h0, h1⟩ := h
  show d_l_take _ [none, some (.dat (.int n)), none, none, none, none, none]
  dsimp only [d_l_take, dSeq, dIfS, dTest, dOp, dBag, dC, dEq, isB, startD, List.map, dNext, dAsg, dIx, dgName, dCells, dLst, dCons, dNil, dAdd, isI, dBagAug, dgBag, dCB, dInt1, dLt, dIC, dVar, dTup, dgTup, dgCons, dgNil, dRet, dBagAny, List.length, List.replicate, List.append, List.set, HAppend.hAppend, Append.append, List.getElem?_cons_succ, List.getElem?_cons_zero]
  intro c0 hc0
  refine ⟨rfl, ?_⟩
  rw [eqv_ii]
  split
  · intro ns hns hl
    refine ⟨rfl, small_le (by rw [List.length_map]; omega), ?_⟩
    obtain ⟨c, hc, e⟩ := at_cells ns hns
    rw [e]
    dsimp only
    refine ⟨⟨by decide, by decide, by decide⟩, cmulR (by split <;> decide), ?_, ?_⟩
    · split
      · omega
      · omega
    intro c2 hc2
    refine ⟨cmulR (by decide), by decide, fun c3 => ⟨cmulL (by decide), by decide, (fmod_nn (by decide)).1, ?_⟩⟩
    intro c4 hc4
    split
    · intro c5 hc5
      exact ⟨by omega, fun c6 hc6 => ⟨⟨h0, h1⟩, rfl, rfl, Int.ediv_nonneg hc6 (by omega), ⟨_, rfl, fmod_nn h0⟩⟩⟩
    · intro c5 hc5
      refine ⟨cmulR (by decide), by decide, cmulR ⟨(fmod_nn (by decide)).1, ?_⟩, by decide, cmulR (by decide), by decide, ⟨by decide, by decide⟩, by omega, ⟨_, rfl, fmod_nn h0⟩⟩
      have := (fmod_nn (i := (c5 + 1) * 39373) (n := 1000000007) (by decide)).2
      omega
  · intro c4 hc4
    split
    · intro c5 hc5
      exact ⟨by omega, fun c6 hc6 => ⟨⟨h0, h1⟩, rfl, rfl, Int.ediv_nonneg hc6 (by omega), ⟨_, rfl, fmod_nn h0⟩⟩⟩
    · intro c5 hc5
      refine ⟨cmulR (by decide), by decide, cmulR ⟨(fmod_nn (by decide)).1, ?_⟩, by decide, cmulR (by decide), by decide, ⟨by decide, by decide⟩, by omega, ⟨_, rfl, fmod_nn h0⟩⟩
      have := (fmod_nn (i := (c5 + 1) * 39373) (n := 1000000007) (by decide)).2
      omega

theorem dat_l_alike : ∀ ds, pre_l_alike ds → d_l_alike { nx := fun _ => post_l_alike ds .none, rt := post_l_alike ds } (startD 2 (ds.map fun d => some (.dat d))) := by
  intro ds h
  unfold pre_l_alike at h
  split at h
  case h_2 => exact h.elim
  rename_i x y
  simp only [Bool.and_eq_true] at h
  obtain ⟨h0, h1, h2⟩ := h
  show d_l_alike _ [some (.dat x), some (.dat y)]
  dsimp only [d_l_alike, dRet, dAndV, dOp, dEq, isB, dVar, dCB, dRepr, dCons, dNil, List.getElem?_cons_succ, List.getElem?_cons_zero]
  refine ⟨h0, ?_⟩
  cases e : PyData.eqv x y
  · rw [if_neg (by decide)]
    unfold post_l_alike
    simp [e]
  · rw [if_pos rfl]
    refine ⟨h1, h2, rfl, ?_⟩
    unfold post_l_alike
    simp [e, eqv_ss]
theorem atI_some {α : Type} {xs : List α} {i : Int} (h0 : 0 ≤ i) (h1 : i < xs.length) : ∃ x ∈ xs, L2.atI xs i = some x := by
  have h2 : i.toNat < xs.length := by omega
  refine ⟨xs[i.toNat], List.getElem_mem h2, ?_⟩
  unfold L2.atI ixN
  rw [if_pos h0, if_pos h1]
  show xs[i.toNat]? = _
  exact List.getElem?_eq_getElem h2
theorem log_small {n : Nat} (h : n ≤ 100000) : (n : Int).natAbs.log2 < 9000 := by
  rw [Int.natAbs_natCast]
  by_cases h0 : n = 0
  · subst h0; decide
  · have := Nat.log2_lt h0 (k := 20)
    omega
theorem cps_len (x : Str) : x.cps.toList.length = x.length := by simp [Str.length]
theorem dat_l_one : ∀ ds, pre_l_one ds → d_l_one { nx := fun _ => post_l_one ds .none, rt := post_l_one ds } (startD 2 (none :: ds.map fun d => some (.dat d))) := by
  intro ds h
  unfold pre_l_one at h
  split at h
  · rename_i xs
    obtain ⟨h0, h1⟩ := h
    have hp : 0 < xs.length := List.length_pos_iff.mpr h0
    show d_l_one _ [none, some (.dat (.list xs))]
    dsimp only [d_l_one, dRet, dOp, dVar, dCB, dLen, dCall, dIx, isI, atD, dCons, dNil, List.getElem?_cons_succ, List.getElem?_cons_zero]
    refine ⟨⟨by omega, log_small (of_decide_eq_true h1)⟩, ?_⟩
    rintro r ⟨i, rfl, hi, hj⟩
    obtain ⟨x, hx, e⟩ := atI_some hi hj
    dsimp only
    rw [e]
    exact hx
  · rename_i xs
    obtain ⟨h0, h1⟩ := h
    have hp : 0 < xs.length := List.length_pos_iff.mpr h0
    show d_l_one _ [none, some (.dat (.tuple xs))]
    dsimp only [d_l_one, dRet, dOp, dVar, dCB, dLen, dCall, dIx, isI, atD, dCons, dNil, List.getElem?_cons_succ, List.getElem?_cons_zero]
    refine ⟨⟨by omega, log_small (of_decide_eq_true h1)⟩, ?_⟩
    rintro r ⟨i, rfl, hi, hj⟩
    obtain ⟨x, hx, e⟩ := atI_some hi hj
    dsimp only
    rw [e]
    exact hx
  · rename_i x
    obtain ⟨h0, h1⟩ := h
    show d_l_one _ [none, some (.dat (.str x))]
    dsimp only [d_l_one, dRet, dOp, dVar, dCB, dLen, dCall, dIx, isI, atD, dCons, dNil, List.getElem?_cons_succ, List.getElem?_cons_zero]
    refine ⟨h1, ⟨by omega, log_small (of_decide_eq_true h1)⟩, ?_⟩
    rintro r ⟨i, rfl, hi, hj⟩
    rw [← cps_len] at hj
    obtain ⟨c, hc, e⟩ := atI_some hi hj
    dsimp only
    rw [if_pos h1, e]
    exact ⟨c, hc, rfl⟩
  · exact h.elim
theorem dat_l_odd : ∀ ds, pre_l_odd ds → d_l_odd { nx := fun _ => post_l_odd ds .none, rt := post_l_odd ds } (startD 2 (none :: ds.map fun d => some (.dat d))) := by
  intro ds h
  cases h
  show d_l_odd _ [none, none]
  dsimp only [d_l_odd, dSeq, dAsg, dLst, dRet, dTup, dUn, dNeg, dOp, dIC, dAdd, dVar, dC, dCB, dLen, dCall, dIx, isI, atD, dCons, dNil, dDict0, dDictK, dDictT, dgName, List.set, List.getElem?_cons_succ, List.getElem?_cons_zero]
  refine ⟨⟨by decide, by decide, by decide⟩, ⟨by decide, by decide, by decide⟩, ?_⟩
  repeat (refine ⟨by first | rfl | exact ⟨rfl, rfl⟩, ?_⟩)
  refine ⟨⟨by simp, rfl⟩, ?_⟩
  intro r hr
  exact hr
end DL

namespace DL
open PySem PySem.Spec PyProof.Rows L2
variable [TheW]
theorem str_app (x y : Str) : (x ++ y : Str) = ⟨x.cps ++ y.cps⟩ := rfl
theorem txt_join (sep : Str) (l : List Str) : Txt.join sep l = Str.join sep l := eq_of_beq (join_plain_closes sep l)
theorem sjoinE : ∀ cs : List Nat, Str.join "" (cs.map fun c => (⟨#[c]⟩ : Str)) = ⟨cs.toArray⟩
  | [] => rfl
  | [c] => rfl
  | c :: d :: r => by
    have e := sjoinE (d :: r)
    show (⟨#[c]⟩ : Str) ++ "" ++ Str.join "" ((d :: r).map fun c => (⟨#[c]⟩ : Str)) = _
    rw [e, str_app, str_app, show (Str.ofString "").cps = #[] from rfl]
    simp
theorem joinE (cs : List Nat) : Txt.join "" (cs.map fun c => (⟨#[c]⟩ : Str)) = ⟨cs.toArray⟩ := by rw [txt_join, sjoinE]
theorem strsOf_one : ∀ cs : List Nat, strsOf (cs.map fun c => PyData.str ⟨#[c]⟩) = some (cs.map fun c => (⟨#[c]⟩ : Str))
  | [] => rfl
  | c :: r => by
    rw [List.map_cons, strsOf, strsOf_one r]
    rfl
theorem sum_ones : ∀ cs : List Nat, ((cs.map fun c => (⟨#[c]⟩ : Str)).map (·.length)).sum = cs.length
  | [] => rfl
  | c :: r => by
    have := sum_ones r
    simp only [List.map_cons, List.sum_cons, List.length_cons] at this ⊢
    rw [this]
    show 1 + _ = _
    omega
theorem len_toArray (cs : List Nat) : (⟨cs.toArray⟩ : Str).length = cs.length := by simp [Str.length]
theorem kname {cs : List Nat} (hl : cs.length ≤ 7) (hc : ∀ c ∈ cs, lower c = true) : isNm ("k" ++ ⟨cs.toArray⟩) = true := by
  have e : (("k" : Str) ++ (⟨cs.toArray⟩ : Str)) = ⟨(107 :: cs).toArray⟩ := by
    rw [str_app, show (Str.ofString "k").cps = #[107] from rfl]
    simp
  rw [e]
  unfold isNm
  rw [len_toArray]
  simp only [Bool.and_eq_true, decide_eq_true_eq, List.length_cons, Bool.not_eq_true', List.all_eq_true]
  refine ⟨⟨⟨by omega, by omega⟩, ?_⟩, ?_⟩
  · unfold noNames
    rw [List.any_eq_false]
    intro w hw
    have : ∀ w ∈ noNames, w.cps.toList.head? ≠ some 107 := by decide
    intro z
    have z := eq_of_beq z
    refine this w hw ?_
    rw [z]
    simp
  · intro c hc'
    simp only [List.mem_cons] at hc'
    rcases hc' with rfl | h
    · rfl
    · exact hc _ h
theorem alpha_lower : ∀ c ∈ (Str.ofString "abcdefghijklmnopqrstuvwxyz").cps.toList, lower c = true := by decide
theorem ltI (i j : Int) (R : PyData → Prop) : dLt (fun i j => decide (j < i)) (fun i j => ltS j i) (.int i) (.int j) R = R (.bool (decide (j < i))) := rfl
theorem dat_l_name : ∀ ds, pre_l_name ds → d_l_name { nx := fun _ => post_l_name ds .none, rt := post_l_name ds } (startD 3 (none :: ds.map fun d => some (.dat d))) := by
  intro ds h
  cases h
  show d_l_name _ [none, none, none]
  dsimp only [d_l_name, dSeq, dAsg, dLst, dRet, dIfS, dTest, dOp, dLt, isB, dAdd, dVar, dC, dCB, dLen, dCall, dCons, dNil, dNext, dgName, List.set, List.getElem?_cons_succ, List.getElem?_cons_zero, dJoin, dLc, dRng1, dYes]
  refine ⟨rfl, ⟨by decide, by decide⟩, ?_⟩
  rintro r ⟨i, rfl, hi0, hi1⟩
  dsimp only
  split
  · refine ⟨⟨by simp, rfl⟩, ?_⟩
    intro r hr
    have hall : ∀ x ∈ [Str.ofString "a", "b", "c", "f", "g", "x", "z", "ab", "ans", "iff", "gone", "tells", "withs", "abcdefgh", "zzzzzzzz"], isNm x = true := by decide
    obtain ⟨x, hx, rfl⟩ := List.mem_map.mp (show r ∈ [Str.ofString "a", "b", "c", "f", "g", "x", "z", "ab", "ans", "iff", "gone", "tells", "withs", "abcdefgh", "zzzzzzzz"].map PyData.str from hr)
    exact ⟨x, rfl, hall x hx⟩
  · refine ⟨⟨by decide, by decide⟩, ?_⟩
    rintro r ⟨n, rfl, hn0, hn1⟩
    dsimp only
    refine ⟨by omega, by omega, by rw [intsD_len]; exact small_le (by omega), fun _ acc => ∃ cs : List Nat, acc = (cs.map fun c => PyData.str ⟨#[c]⟩) ∧ ∀ c ∈ cs, lower c = true, ⟨[], rfl, by simp⟩, ?_, ?_⟩
    · rintro i x acc - - ⟨cs, rfl, hc⟩
      rw [if_pos rfl]
      refine ⟨⟨by decide, rfl⟩, ?_⟩
      rintro r ⟨c, hm, rfl⟩
      refine ⟨cs ++ [c], by rw [List.map_append]; rfl, ?_⟩
      intro d hd
      rcases List.mem_append.mp hd with z | z
      · exact hc d z
      · rw [List.mem_singleton.mp z]
        exact alpha_lower c hm
    · rintro acc hl ⟨cs, rfl, hc⟩
      rw [intsD_len, List.length_map] at hl
      have hl : cs.length ≤ 7 := by omega
      have l0 : (Str.ofString "").length = 0 := rfl
      refine ⟨_, strsOf_one cs, ?_, ?_, ?_⟩
      · rw [sum_ones, l0]
        omega
      · rw [joinE]
        have e2 := len_toArray cs
        have e3 : (Str.ofString "k").length = 1 := rfl
        exact small_le (by omega)
      · rw [joinE]
        exact ⟨_, rfl, kname hl hc⟩
theorem eqOk_nil (xs : List PyData) : eqOk (.list xs) (.list []) = true := by
  unfold eqOk eqMore
  rw [show nilL (.list xs) (.list []) = true from rfl]
  simp
theorem eqOk_str (d : PyData) (x : Str) : eqOk d (.str x) = true := by
  unfold eqOk eqMore
  rw [show txt (.str x) = true from rfl, show (PyData.str x).depth = 0 from by simp only [PyData.depth]]
  simp
theorem eqOk_unit (d : PyData) : eqOk d (.tuple []) = true := by
  unfold eqOk eqMore
  rw [show txt (.tuple []) = true from rfl, show (PyData.tuple []).depth = 1 from by simp only [PyData.depth, PyData.depthAll]]
  simp
theorem eqv_nilL (xs : List PyData) : PyData.eqv (.list xs) (.list []) = xs.isEmpty := by
  cases xs <;> simp only [PyData.eqv, PyData.eqvAll, List.isEmpty]
theorem eqv_nilT (xs : List PyData) : PyData.eqv (.tuple xs) (.tuple []) = xs.isEmpty := by
  cases xs <;> simp only [PyData.eqv, PyData.eqvAll, List.isEmpty]
def isStrOf (x : Str) : PyData → Bool
  | .str y => y == x
  | _ => false
theorem eqv_str (d : PyData) (x : Str) : PyData.eqv d (.str x) = isStrOf x d := by
  cases d <;> simp [PyData.eqv, isStrOf]
def isTup : PyData → Bool
  | .tuple _ => true
  | _ => false
def isStr : PyData → Bool
  | .str _ => true
  | _ => false
theorem dIsi_tup {de : DE} : dIsi "tuple" de = fun δ R => de δ fun d => R (.bool (isTup d)) := by
  funext δ R
  unfold dIsi
  congr 1
  funext d
  cases d <;> rfl
theorem dIsi_str {de : DE} : dIsi "str" de = fun δ R => de δ fun d => R (.bool (isStr d)) := by
  funext δ R
  unfold dIsi
  congr 1
  funext d
  cases d <;> rfl
end DL

/-! The bag made of the script, and the body of a law behind it. -/
namespace DL
open PySem PySem.Spec PyProof.Rows L2
open Evl (Ex ex_l ex_t)
variable [TheW]
def sp_l_bag (K : PySem.W.Frag) : Sp := fun vs H Q _ => ∃ (a : Addr) (ns : List Int), vs = [.ref a] ∧ ns.length ≤ 63 ∧ SqL K H a (ns.map V.int) ∧ ∀ b H', Bag b H' → Q (.ref b.1) H'
def sp_law (K : PySem.W.Frag) : Sp := fun vs H Q _ => ∃ (a : Addr) (ns : List Int), vs = [.ref a] ∧ ns.length ≤ 63 ∧ SqL K H a (ns.map V.int) ∧ ∀ H', Q (.bl true) H'
section
variable {K : PySem.W.Frag}
theorem len_bag : ∀ vs H Q E, sp_l_bag K vs H Q E → vs.length = [("_law_script" : Str)].length := by
  rintro vs H Q E ⟨a, ns, rfl, _⟩
  rfl
theorem len_law : ∀ vs H Q E, sp_law K vs H Q E → vs.length = [("_law_script" : Str)].length := by
  rintro vs H Q E ⟨a, ns, rfl, _⟩
  rfl
theorem empty_ok {ib : Option Nat} {b : Bg} {H : Hp} (h : ib ≠ none → Bag b H) : Okk ib b (fun _ => none) H := ⟨fun a u z => (by cases z), fun _ => rfl, h⟩
theorem env_none {ib : Option Nat} {b : Bg} {H0 S H : Hp} {σ : L2.St} (h : ∀ i : Nat, ib = some i → σ[i]? = some (some (V.ref b.1))) : EnvOk K ib b H0 S H σ (List.replicate σ.length none) := by
  refine ⟨by rw [List.length_replicate], h, fun i d q => ?_, fun i d q => ?_, fun i a q => ?_, fun i c q => ?_⟩
  · rw [List.getElem?_replicate] at q
    split at q <;> cases q
  · rw [List.getElem?_replicate] at q
    split at q <;> cases q
  · rw [List.getElem?_replicate] at q
    split at q <;> cases q
  · rw [List.getElem?_replicate] at q
    split at q <;> cases q
/-- a law's body: first the bag, then the rest by data -/
theorem law_body {rest : TS} {dr : DS} {N : List Str} (hN : 2 ≤ N.length) (sim : ∀ b, SimS K (some 1) b rest dr)
    (h : dr { nx := fun _ => False, rt := fun d => d = .bool true } (List.replicate N.length none)) {vs : List V} {H : Hp} {Q : VK} {E : XK} (q : sp_law K vs H Q E) :
    tSeq (tAsg (tCall (sp_l_bag K) [] E0 (tCons (tVar 0) tNil)) (gName 1)) rest { nx := fun _ H' => Q .non H', rt := Q } (L2.start N vs) H := by
  obtain ⟨a, ns, rfl, hn, hs, k⟩ := q
  refine ⟨.ref a, start_get rfl, a, ns, rfl, hn, hs, fun b H' hb => ?_⟩
  have hl : (L2.start N [V.ref a]).length = N.length := by
    unfold L2.start
    rw [List.length_append, List.length_map, List.length_replicate]
    simp only [List.length_cons, List.length_nil]
    omega
  have o : Okk (some 1) b (fun _ => none) H' := empty_ok fun _ => hb
  refine sim b (fun _ => none) H' (fun _ => none) (fun _ => none) H' _ (List.replicate N.length none) _ _ o (Ex.refl _) (Go.refl o) ?_ h ⟨?_, ?_, ?_, ?_, ?_⟩
  · have e := env_none (K := K) (ib := some 1) (b := b) (H0 := H') (S := fun _ => none) (H := H') (σ := (L2.start N [V.ref a]).set 1 (some (.ref b.1))) (by
      intro i hi
      cases hi
      rw [List.getElem?_set_self (by omega)])
    rw [List.length_set, hl] at e
    exact e
  · intro _ _ _ _ _ _ _ z
    exact z.elim
  · intro S' H2 v d _ _ r z
    subst z
    rw [r.blV]
    exact k H2
  · intro _ _ _ _ _ _ _ z
    exact z.elim
  · intro _ _ _ _ _ _ _ z
    exact z.elim
  · intro _ _ _ _ _ _ _ _ _ _ _ z
    exact z.elim

/-- a new list of these whole numbers -/
def tInts (ns : List Int) : TE := fun _ H Q => ∀ p, H p = none → Q (.ref p) (upd H p (.lst (ns.map V.int)))
theorem reps_ints {S : Hp} : ∀ ns : List Int, Reps K S (ns.map V.int) (ns.map PyData.int)
  | [] => .nil
  | n :: r => .cons (.int n) (reps_ints r)
theorem sim_ints {ib : Option Nat} {b : Bg} (ns : List Int) : SimE K ib b (tInts ns) (fun _ R => R (.list (ns.map PyData.int))) := by
  intro H0 S H σ δ R Q o e h k p hp
  have g := Go.laid (u := .lst (ns.map V.int)) o hp
  exact k _ _ _ _ g (.lst upd_same (reps_ints ns)) h
theorem cut_ints {ns : List Int} (hn : ns.length ≤ 63) : cutV (ns.map V.int) none (some 63) = ns.map V.int := by
  show cutD (ns.map V.int) none (some 63) = _
  refine cutD_whole ⟨rfl, ?_⟩
  show min 63 (ns.map V.int).length = _
  rw [List.length_map]
  omega
theorem ints_rep {S : Hp} : ∀ (ms : List Int) {xs : List V}, Reps K S xs (ms.map PyData.int) → xs = ms.map V.int
  | [], _, .nil => rfl
  | m :: ms, _, .cons r1 r2 => by rw [r1.intV, ints_rep ms r2]; rfl
def q_l_bag (K : PySem.W.Frag) : TS := tRet (tLst (tCons (tC (.int 0)) (tCons (tC (.int 1234567891)) (tCons (tC (.int 0)) (tCons (tLc (iList K (tSl (rSlU K) (tVar 0) tNoPart (tPart (tC (.int 63))))) (gName 1) tYes (tCB rAbs1 (tCons (tVar 1) tNil)) [1]) tNil)))))
theorem bag_body {vs : List V} {H : Hp} {Q : VK} {E : XK} (q : sp_l_bag K vs H Q E) :
    q_l_bag K { nx := fun _ H' => Q .non H', rt := Q } (L2.start ["_law_script", "_law_cell"] vs) H := by
  obtain ⟨a, ns, rfl, hn, hs, k⟩ := q
  show tLc (iList K (tSl (rSlU K) (tVar 0) tNoPart (tPart (tC (.int 63))))) (gName 1) tYes (tCB rAbs1 (tCons (tVar 1) tNil)) [1] (L2.start ["_law_script", "_law_cell"] [V.ref a]) H
    (fun v H1 => 4 ≤ sizeLine ∧ ∀ p, H1 p = none → Q (.ref p) (upd H1 p (.lst [.int 0, .int 1234567891, .int 0, v])))
  have step : ∀ Q' : VK, tInts ns (L2.start ["_law_script", "_law_cell"] [V.ref a]) H Q' → tSl (rSlU K) (tVar 0) tNoPart (tPart (tC (.int 63))) (L2.start ["_law_script", "_law_cell"] [V.ref a]) H Q' := by
    intro Q' h
    refine ⟨_, start_get rfl, 63, rfl, .inl (.inl ⟨a, _, rfl, hs, ?_⟩)⟩
    rw [cut_ints hn]
    exact h
  have o : Okk none ((a, a) : Bg) (fun _ => none) H := empty_ok fun z => absurd rfl z
  have e := env_none (K := K) (ib := none) (b := (a, a)) (H0 := H) (S := fun _ => none) (H := H) (σ := L2.start ["_law_script", "_law_cell"] [V.ref a]) (fun i z => by cases z)
  have core := sim_lc (K := K) (ib := none) (b := (a, a)) (j := 1) (vs := [1]) (by decide) (by intro i hi; cases hi) (sim_iList (sim_ints ns)) sim_yes (sim_cb simc_abs (sim_cons (sim_var (i := 1)) sim_nil))
    H (fun _ => none) H _ _ (fun d => ∃ ms : List Int, d = .list (ms.map PyData.int) ∧ (∀ m ∈ ms, 0 ≤ m) ∧ ms.length ≤ 63)
    (fun v H1 => 4 ≤ sizeLine ∧ ∀ p, H1 p = none → Q (.ref p) (upd H1 p (.lst [.int 0, .int 1234567891, .int 0, v]))) o e ?_ ?_
  · exact step _ core
  · refine ⟨small_le (by rw [List.length_map]; omega), fun _ acc => ∃ ms : List Int, acc = ms.map PyData.int ∧ ∀ m ∈ ms, 0 ≤ m, ⟨[], rfl, by simp⟩, ?_, ?_⟩
    · rintro i x acc hx - ⟨ms, rfl, hm⟩
      rw [List.getElem?_map] at hx
      obtain ⟨n, hn', rfl⟩ := Option.map_eq_some_iff.mp hx
      show ∃ ms' : List Int, _
      refine ⟨ms ++ [if n < 0 then -n else n], by rw [List.map_append]; rfl, ?_⟩
      intro m hm'
      rcases List.mem_append.mp hm' with z | z
      · exact hm m z
      · rw [List.mem_singleton.mp z]
        split <;> omega
    · rintro acc hl ⟨ms, rfl, hm⟩
      rw [List.length_map, List.length_map] at hl
      exact ⟨ms, rfl, hm, by omega⟩
  · rintro S' H1 v d g r ⟨ms, rfl, hm, hl⟩
    obtain ⟨c, xs, rfl, hc, hr⟩ := r.lstV
    have hx : xs = ms.map V.int := by
      exact ints_rep ms hr
    subst hx
    have hc1 := g.ok.sub _ _ hc
    refine ⟨Evl.sz_of (by omega), fun p hp => k (p, c) _ ⟨0, 1234567891, 0, ms, upd_same, ?_, ?_, hm, by decide, by decide, hl⟩⟩
    · intro z
      have z : c = p := z
      rw [z, hp] at hc1
      cases hc1
    · show upd H1 p _ c = _
      rw [upd_ne]
      · exact hc1
      · intro z
        rw [z, hp] at hc1
        cases hc1
end
end DL

/-! What can be shown: a bound of the text's length. -/
namespace DL
open PySem PySem.Spec PyProof.Rows L2
variable [TheW]
mutual
def wt : PyData → Nat
  | .none => 4
  | .bool _ => 5
  | .int _ => 1921
  | .str x => 10 * x.length + 2
  | .list xs => wtAll xs + 2
  | .tuple xs => wtAll xs + 3
  | .dict kvs => wtKv kvs + 2
def wtAll : List PyData → Nat
  | [] => 0
  | x :: xs => wt x + 2 + wtAll xs
def wtKv : List (PyData × PyData) → Nat
  | [] => 0
  | (k, v) :: r => wt k + wt v + 4 + wtKv r
end
mutual
def fit : PyData → Bool
  | .none => true
  | .bool _ => true
  | .int i => decide (i.natAbs.log2 < 1920)
  | .str x => PyData.strOk x
  | .list xs => fitAll xs
  | .tuple xs => fitAll xs
  | .dict kvs => fitKv kvs
def fitAll : List PyData → Bool
  | [] => true
  | x :: xs => fit x && fitAll xs
def fitKv : List (PyData × PyData) → Bool
  | [] => true
  | (k, v) :: r => fit k && fit v && fitKv r
end
mutual
theorem fit_showable : ∀ d : PyData, fit d = true → d.showable = true
  | .none, _ => by simp only [PyData.showable]
  | .bool _, _ => by simp only [PyData.showable]
  | .str _, _ => by simp only [PyData.showable]
  | .int i, h => by simp only [PyData.showable]; exact h
  | .list xs, h => by simp only [PyData.showable]; exact fit_showableAll xs h
  | .tuple xs, h => by simp only [PyData.showable]; exact fit_showableAll xs h
  | .dict kvs, h => by simp only [PyData.showable]; exact fit_showableKv kvs h
theorem fit_showableAll : ∀ ds : List PyData, fitAll ds = true → PyData.showableAll ds = true
  | [], _ => by simp only [PyData.showableAll]
  | x :: xs, h => by
    simp only [fitAll, Bool.and_eq_true] at h
    simp only [PyData.showableAll, fit_showable x h.1, fit_showableAll xs h.2, Bool.and_self]
theorem fit_showableKv : ∀ ds : List (PyData × PyData), fitKv ds = true → PyData.showableKv ds = true
  | [], _ => by simp only [PyData.showableKv]
  | (k, v) :: r, h => by
    simp only [fitKv, Bool.and_eq_true] at h
    simp only [PyData.showableKv, fit_showable k h.1.1, fit_showable v h.1.2, fit_showableKv r h.2, Bool.and_self]
end
theorem join_len : ∀ ts : List Str, (Str.join ", " ts).length ≤ (ts.map (·.length + 2)).sum
  | [] => Nat.le_refl _
  | [x] => by
    show x.length ≤ _
    simp
  | x :: y :: r => by
    have e := join_len (y :: r)
    show (x ++ ", " ++ Str.join ", " (y :: r)).length ≤ _
    rw [Str.length_append, Str.length_append, show (Str.ofString ", ").length = 2 from rfl, List.map_cons, List.sum_cons]
    omega
mutual
theorem shown_wt : ∀ d : PyData, fit d = true → d.shown.length ≤ wt d
  | .none, _ => by rw [PyData.shown_none, wt]; decide
  | .bool b, _ => by rw [PyData.shown_bool, wt]; cases b <;> decide
  | .str x, h => by
    rw [PyData.shown_str, wt]
    refine StrLaws.reprText_len x fun c hc => ?_
    have h : PyData.strOk x = true := h
    unfold PyData.strOk at h
    rw [← Array.all_toList, List.all_eq_true] at h
    have := of_decide_eq_true (h c hc)
    omega
  | .int i, h => by
    rw [PyData.shown_int, wt]
    exact int_text_len_1921 (of_decide_eq_true h)
  | .list xs, h => by
    have e := shownAll_wt xs h
    rw [PyData.shown_list, wt, Str.length_append, Str.length_append, show (Str.ofString "[").length = 1 from rfl, show (Str.ofString "]").length = 1 from rfl]
    have := join_len (PyData.shownAll xs)
    omega
  | .tuple xs, h => by
    have e := shownAll_wt xs h
    rw [PyData.shown_tuple, wt, Str.length_append, Str.length_append, show (Str.ofString "(").length = 1 from rfl]
    have := join_len (PyData.shownAll xs)
    have z : (Str.ofString (if (xs.length == 1) = true then ",)" else ")")).length ≤ 2 := by split <;> decide
    omega
  | .dict kvs, h => by
    have e := shownKv_wt kvs h
    rw [PyData.shown_dict, wt, Str.length_append, Str.length_append, show (Str.ofString "{").length = 1 from rfl, show (Str.ofString "}").length = 1 from rfl]
    have := join_len (PyData.shownKv kvs)
    omega
theorem shownAll_wt : ∀ ds : List PyData, fitAll ds = true → ((PyData.shownAll ds).map (·.length + 2)).sum ≤ wtAll ds
  | [], _ => by rw [PyData.shownAll_nil, wtAll]; exact Nat.le_refl _
  | x :: xs, h => by
    simp only [fitAll, Bool.and_eq_true] at h
    have a := shown_wt x h.1
    have b := shownAll_wt xs h.2
    rw [PyData.shownAll_cons, wtAll, List.map_cons, List.sum_cons]
    omega
theorem shownKv_wt : ∀ ds : List (PyData × PyData), fitKv ds = true → ((PyData.shownKv ds).map (·.length + 2)).sum ≤ wtKv ds
  | [], _ => by rw [PyData.shownKv_nil, wtKv]; exact Nat.le_refl _
  | (k, v) :: r, h => by
    simp only [fitKv, Bool.and_eq_true] at h
    have a := shown_wt k h.1.1
    have b := shown_wt v h.1.2
    have c := shownKv_wt r h.2
    rw [PyData.shownKv_cons, wtKv, List.map_cons, List.sum_cons, Str.length_append, Str.length_append, show (Str.ofString ": ").length = 2 from rfl]
    omega
end
theorem showOk_of {d : PyData} (h : fit d = true) (hd : d.depth ≤ 60) (hw : wt d ≤ 16777216) : showOk d = true := by
  unfold showOk
  rw [fit_showable d h, decide_eq_true hd, decide_eq_true (show d.shown.length ≤ sizeLine from Nat.le_trans (shown_wt d h) hw)]
  rfl
end DL

/-! New lists: expressions that make a list of one's own, what is read of such a list while it stays one's own, what is done to it. -/
namespace DL
open PySem PySem.Spec PyProof.Rows L2
open Evl (Ex ex_l ex_t)
variable [TheW]

mutual
def tupOnly : PyData → Bool
  | .none => true
  | .bool _ => true
  | .int _ => true
  | .str _ => true
  | .list _ => false
  | .tuple xs => tupOnlyAll xs
  | .dict _ => false
def tupOnlyAll : List PyData → Bool
  | [] => true
  | x :: xs => tupOnly x && tupOnlyAll xs
end
def cutH (S : Hp) (p : Addr) : Hp := fun a => if a = p then none else S a
theorem cutH_same {S : Hp} {p : Addr} : cutH S p p = none := if_pos rfl
theorem cutH_ne {S : Hp} {p a : Addr} (h : a ≠ p) : cutH S p a = S a := if_neg h
section
variable {K : PySem.W.Frag} {S : Hp} {p : Addr} {ys : List V}
theorem SqT.dropT (hp : S p = some (.lst ys)) {a : Addr} {xs : List V} (h : SqT K S a xs) : SqT K (cutH S p) a xs := by
  rcases h with (h | ⟨ob, h⟩) | h
  · refine .inl (.inl ?_)
    rw [cutH_ne]
    · exact h
    · intro z
      rw [z, hp] at h
      cases h
  · refine .inl (.inr ⟨ob, ?_⟩)
    rw [cutH_ne]
    · exact h
    · intro z
      rw [z, hp] at h
      cases h
  · exact .inr h
mutual
theorem Rep.dropT (hp : S p = some (.lst ys)) : ∀ {v : V} {d : PyData}, Rep K S v d → tupOnly d = true → Rep K (cutH S p) v d
  | _, _, .non, _ => .non
  | _, _, .bl b, _ => .bl b
  | _, _, .int b, _ => .int b
  | _, _, .str b, _ => .str b
  | _, _, .tup h q, t => .tup (SqT.dropT hp h) (Reps.dropT hp q t)
  | _, _, .lst h q, t => absurd t Bool.false_ne_true
  | _, _, .dK h q, t => absurd t Bool.false_ne_true
  | _, _, .dN _ _ _ _ _ _, t => absurd t Bool.false_ne_true
  | _, _, .dF _ _ _, t => absurd t Bool.false_ne_true
theorem Reps.dropT (hp : S p = some (.lst ys)) : ∀ {vs : List V} {ds : List PyData}, Reps K S vs ds → tupOnlyAll ds = true → Reps K (cutH S p) vs ds
  | _, _, .nil, _ => .nil
  | _, _, .cons r q, t => by
    have t := (Bool.and_eq_true _ _ ▸ t : _ ∧ _)
    exact .cons (Rep.dropT hp r t.1) (Reps.dropT hp q t.2)
end
end
section
variable {K : PySem.W.Frag} {ib : Option Nat} {b : Bg} {te : TE} {de : DE} {tt : TT} {dt : DT}
/-- the own list of a name stands still for a while -/
theorem borrow_ok {H0 S H : Hp} {σ : L2.St} {δ : DEnv} {i : Nat} {ds : List PyData} {p : Addr} {xs : List V} (o : Okk ib b S H) (e : EnvOk K ib b H0 S H σ δ) (q0 : δ[i]? = some (some (DV.own ds)))
    (hσ : σ[i]? = some (some (V.ref p))) (hp : H p = some (.lst xs)) (hr : Reps K S xs ds) (hS : S p = none) (hb : ib ≠ none → p ≠ b.1)
    (hu : ∀ (j : Nat) (es : List PyData), δ[j]? = some (some (DV.own es)) → σ[j]? = some (some (V.ref p)) → j = i) :
    Okk ib b (upd S p (.lst xs)) H ∧ EnvOk K ib b H0 (upd S p (.lst xs)) H σ (δ.set i (some (.dat (.list ds)))) := by
  have ex : Ex S (upd S p (.lst xs)) := Ex.new hS
  have hlt : i < δ.length := (List.getElem?_eq_some_iff.mp q0).1
  refine ⟨⟨?_, fun z => by rw [upd_ne (Ne.symm (hb z))]; exact o.off z, o.bag⟩, ?_⟩
  · intro a u q
    by_cases c : a = p
    · rw [c, upd_same] at q
      rw [c, hp]
      exact q
    · rw [upd_ne c] at q
      exact o.sub a u q
  · have at_ : ∀ (j : Nat) (x : DV), j ≠ i → (δ.set i (some (DV.dat (.list ds))))[j]? = some (some x) → δ[j]? = some (some x) := by
      intro j x hj q
      rw [List.getElem?_set_ne (Ne.symm hj)] at q
      exact q
    have hfn : ∀ (j : Nat) (a : Addr), (δ.set i (some (DV.dat (.list ds))))[j]? = some (some (DV.fn a)) → σ[j]? = some (some (V.ref a)) := by
      intro j a q
      by_cases hj : j = i
      · subst hj
        rw [List.getElem?_set_self hlt] at q
        cases q
      · exact e.fn j a (at_ j _ hj q)
    have hdct : ∀ (j : Nat) (c : Cont), (δ.set i (some (DV.dat (.list ds))))[j]? = some (some (DV.dct c)) → δ[j]? = some (some (DV.dct c)) := by
      intro j c q
      by_cases hj : j = i
      · subst hj
        rw [List.getElem?_set_self hlt] at q
        cases q
      · exact at_ j _ hj q
    refine ⟨by rw [List.length_set]; exact e.len, e.slot, fun j x q => ?_, fun j fs q => ?_, hfn, fun j c q => by
      obtain ⟨p', o', h1, h2, h3, h4, h5, h6, h7⟩ := e.dct j c (hdct j c q)
      have np : p' ≠ p := by
        intro w
        subst w
        rw [hp] at h2
        cases h2
        exact h3.noLst
      exact ⟨p', o', h1, h2, h3.mono ex, by rw [upd_ne np]; exact h4, h5, h6, fun m c' a1 a2 => h7 m c' (hdct m c' a1) a2⟩⟩
    · by_cases hj : j = i
      · subst hj
        rw [List.getElem?_set_self hlt] at q
        cases q
        exact ⟨_, hσ, .lst upd_same (hr.mono ex)⟩
      · obtain ⟨v, h1, h2⟩ := e.dat j x (at_ j _ hj q)
        exact ⟨v, h1, h2.mono ex⟩
    · by_cases hj : j = i
      · subst hj
        rw [List.getElem?_set_self hlt] at q
        cases q
      · obtain ⟨p', xs', h1, h2, h3, h4, h5, h6, h7⟩ := e.own j fs (at_ j _ hj q)
        have np : p' ≠ p := fun w => hj (hu j fs (at_ j _ hj q) (w ▸ h1))
        refine ⟨p', xs', h1, h2, h3.mono ex, by rw [upd_ne np]; exact h4, h5, h6, fun m gs a1 a2 => ?_⟩
        by_cases hm : m = i
        · subst hm
          rw [List.getElem?_set_self hlt] at a1
          cases a1
        · exact h7 m gs (at_ m _ hm a1) a2
theorem borrow_back {S H S2 H2 : Hp} {p : Addr} {xs : List V} (o : Okk ib b S H) (hS : S p = none) (g : Go ib b (upd S p (.lst xs)) H S2 H2) : S2 p = some (.lst xs) ∧ Go ib b S H (cutH S2 p) H2 := by
  have e2 : S2 p = some (.lst xs) := g.st p _ upd_same
  refine ⟨e2, ?_, g.keep, ?_, ?_, ?_, g.ok.bag⟩
  · intro a u q
    have c : a ≠ p := ne_of_none q hS
    rw [cutH_ne c]
    exact g.st a u (by rw [upd_ne c]; exact q)
  · intro a h1 h2
    by_cases c : a = p
    · rw [c]; exact cutH_same
    · rw [cutH_ne c]
      exact g.new a h1 (by rw [upd_ne c]; exact h2)
  · intro a u q
    by_cases c : a = p
    · rw [c, cutH_same] at q
      cases q
    · rw [cutH_ne c] at q
      exact g.ok.sub a u q
  · intro z
    have := g.ok.off z
    by_cases c : b.1 = p
    · rw [c]; exact cutH_same
    · rw [cutH_ne c]; exact this
def dBorrow (i : Nat) (de : DE) : DE := fun δ R => match δ[i]? with
  | some (some (.own ds)) => de (δ.set i (some (.dat (.list ds)))) fun d => tupOnly d = true ∧ R d
  | _ => False
theorem sim_borrow {i : Nat} (h1 : SimE K ib b te de) : SimE K ib b te (dBorrow i de) := by
  intro H0 S H σ δ R Q o e h k
  unfold dBorrow at h
  split at h
  · rename_i ds q0
    obtain ⟨p, xs, hσ, hp, hr, hS, h0, hb, hu⟩ := e.own i ds q0
    obtain ⟨o1, e1⟩ := borrow_ok o e q0 hσ hp hr hS hb hu
    refine h1 H0 _ H σ _ _ _ o1 e1 h fun S2 H2 v d g r q => ?_
    obtain ⟨e2, g2⟩ := borrow_back o hS g
    exact k _ H2 v d g2 (r.dropT e2 q.1) q.2
  · exact h.elim
def dBorrowT (i : Nat) (dt : DT) : DT := fun δ R => match δ[i]? with
  | some (some (.own ds)) => dt (δ.set i (some (.dat (.list ds)))) R
  | _ => False
theorem sim_borrowT {i : Nat} (h1 : SimT K ib b tt dt) : SimT K ib b tt (dBorrowT i dt) := by
  intro H0 S H σ δ R Q o e h k
  unfold dBorrowT at h
  split at h
  · rename_i ds q0
    obtain ⟨p, xs, hσ, hp, hr, hS, h0, hb, hu⟩ := e.own i ds q0
    obtain ⟨o1, e1⟩ := borrow_ok o e q0 hσ hp hr hS hb hu
    refine h1 H0 _ H σ _ _ _ o1 e1 h fun S2 H2 c g q => ?_
    exact k _ H2 c (borrow_back o hS g).2 q
  · exact h.elim
end
end DL

/-! Expressions that make a new list; own lists set, handed back, changed; calls that hand such a list back. -/
namespace DL
open PySem PySem.Spec PyProof.Rows L2
open Evl (Ex ex_l ex_t)
variable [TheW]
section
variable (K : PySem.W.Frag) (ib : Option Nat) (b : Bg)
def SimN (te : TE) (dn : DA) : Prop := ∀ (H0 S H : Hp) (σ : L2.St) (δ : DEnv) (R : List PyData → Prop) (Q : VK), Okk ib b S H → EnvOk K ib b H0 S H σ δ → dn δ R →
  (∀ S' H' p xs es, Go ib b S H S' H' → H' p = some (.lst xs) → Reps K S' xs es → S' p = none → H p = none → R es → Q (.ref p) H') → te σ H Q
end
section
variable {K : PySem.W.Frag} {ib : Option Nat} {b : Bg} {te ta tb : TE} {de da db : DE} {tt : TT} {dt : DT} {t : TA} {d dn : DA} {ti : TI} {di : DA}
/-- a new list, told as data -/
theorem Go.tell {S H S' H' : Hp} {p : Addr} {xs : List V} (g : Go ib b S H S' H') (o : Okk ib b S H) (hp : H' p = some (.lst xs)) (hS : S' p = none) (hn : H p = none) : Go ib b S H (upd S' p (.lst xs)) H' := by
  have nb : ib ≠ none → p ≠ b.1 := fun z w => (o.bag z).tr (w ▸ hn)
  refine ⟨g.st.trans (Ex.new hS), g.keep, ?_, ?_, ?_, g.ok.bag⟩
  · intro a h1 h2
    have c : a ≠ p := fun w => h1 (w ▸ hn)
    rw [upd_ne c]
    exact g.new a h1 h2
  · intro a u q
    by_cases c : a = p
    · rw [c, upd_same] at q
      rw [c, hp]
      exact q
    · rw [upd_ne c] at q
      exact g.ok.sub a u q
  · intro z
    rw [upd_ne (Ne.symm (nb z))]
    exact g.ok.off z
def dOfN (dn : DA) : DE := fun δ R => dn δ fun es => R (.list es)
theorem sim_ofN (h1 : SimN K ib b te dn) : SimE K ib b te (dOfN dn) := by
  intro H0 S H σ δ R Q o e h k
  refine h1 H0 S H σ δ _ _ o e h fun S' H' p xs es g hp r hS hn q => ?_
  exact k _ H' _ _ (g.tell o hp hS hn) (.lst upd_same (r.mono (Ex.new hS))) q
def dnLst (d : DA) : DA := fun δ R => d δ fun ds => small ds.length = true ∧ R ds
theorem sim_nLst (h1 : SimA K ib b t d) : SimN K ib b (tLst t) (dnLst d) := by
  intro H0 S H σ δ R Q o e h k
  refine h1 H0 S H σ δ _ _ o e h fun S1 H1 vs ds g1 r q => ⟨by rw [r.length]; exact small_ok q.1, fun p hp => ?_⟩
  have hn : H p = none := by
    cases z : H p with
    | none => rfl
    | some u => exact absurd hp (g1.stays (fun z => (o.bag z).tr) (by rw [z]; exact Option.some_ne_none _))
  exact k S1 _ p vs ds (g1.trans o (Go.laidOwn g1.ok hp)) upd_same r (Ex.none_of g1.ok.sub hp) hn q.2
theorem Go.fresh {S H S1 H1 : Hp} {p : Addr} (g1 : Go ib b S H S1 H1) (o : Okk ib b S H) (hp : H1 p = none) : H p = none := by
  cases z : H p with
  | none => rfl
  | some u => exact absurd hp (g1.stays (fun z => (o.bag z).tr) (by rw [z]; exact Option.some_ne_none _))
/-- xs + ys of lists -/
def dnAdd (da db : DE) : DA := fun δ R => da δ fun x => db δ fun y => match x, y with
  | .list xs, .list ys => small (xs.length + ys.length) = true ∧ R (xs ++ ys)
  | _, _ => False
theorem sim_nAdd (h1 : SimE K ib b ta da) (h2 : SimE K ib b tb db) : SimN K ib b (tOp (rAddU K) ta tb) (dnAdd da db) := by
  intro H0 S H σ δ R Q o e h k
  refine h1 H0 S H σ δ _ _ o e h fun S1 H1 v1 d1 g1 r1 q1 => ?_
  refine h2 H0 S1 H1 σ δ _ _ g1.ok (e.go g1) q1 fun S2 H2 v2 d2 g2 r2 q2 => ?_
  have r1 := r1.mono g2.st
  have g12 := g1.trans o g2
  split at q2
  · obtain ⟨a, xs, rfl, hx, qx⟩ := r1.lstV
    obtain ⟨c, ys, rfl, hy, qy⟩ := r2.lstV
    refine .inl (.inr ⟨a, c, xs, ys, rfl, rfl, g2.ok.sub _ _ hx, g2.ok.sub _ _ hy, by rw [qx.length, qy.length]; exact small_ok q2.1, fun p hp => ?_⟩)
    exact k S2 _ p (xs ++ ys) _ (g12.trans o (Go.laidOwn g2.ok hp)) upd_same (qx.append qy) (Ex.none_of g2.ok.sub hp) (g12.fresh o hp) q2.2
  · exact q2.elim
/-- xs[lo:hi] of a list -/
def dnSl (de : DE) (dl dh : DO) : DA := fun δ R => de δ fun x => dl δ fun l => dh δ fun u => match x with
  | .list ds => R (cutD ds l u)
  | _ => False
theorem sim_nSl {tl th : TO} {dl dh : DO} (h1 : SimE K ib b te de) (h2 : SimO K ib b tl dl) (h3 : SimO K ib b th dh) : SimN K ib b (tSl (rSlU K) te tl th) (dnSl de dl dh) := by
  intro H0 S H σ δ R Q o e h k
  refine h1 H0 S H σ δ _ _ o e h fun S1 H1 v1 d1 g1 r1 q1 => ?_
  refine h2 H0 S1 H1 σ δ _ _ g1.ok (e.go g1) q1 fun S2 H2 l g2 q2 => ?_
  have g12 := g1.trans o g2
  refine h3 H0 S2 H2 σ δ _ _ g2.ok (e.go g12) q2 fun S3 H3 u g3 q3 => ?_
  have g13 := g12.trans o g3
  have r1 := (r1.mono g2.st).mono g3.st
  split at q3
  · obtain ⟨a, xs, rfl, hx, qx⟩ := r1.lstV
    refine .inl (.inl ⟨a, xs, rfl, SqL.of (g3.ok.sub _ _ hx), fun p hp => ?_⟩)
    exact k S3 _ p _ _ (g13.trans o (Go.laidOwn g3.ok hp)) upd_same (qx.cut l u) (Ex.none_of g3.ok.sub hp) (g13.fresh o hp) q3
  · exact q3.elim
/-! statements -/
/-- x = a new list -/
def dAsgN (dn : DA) (i : Nat) : DS := fun DD δ => dn δ fun ds => DD.nx (δ.set i (some (.own ds)))
theorem sim_asgN {i : Nat} (hi : ib ≠ some i) (h1 : SimN K ib b te dn) : SimS K ib b (tAsg te (gName i)) (dAsgN dn i) := by
  intro S0 H0 Sm S H σ δ D DD o em g0 e h x
  refine h1 H0 S H σ δ _ _ g0.ok e h fun S1 H1 p vs dvs g1 hp r hS hn q => ?_
  have g02 := g0.trans o g1
  have h0 : H0 p = none := g0.fresh o hn
  refine x.nx S1 _ _ _ g02 (em.trans g1.st) ((e.go g1).setOwn hi hp r hS h0 (fun z w => ?_) (fun j es hj a1 a2 => ?_)) q
  · exact (g0.ok.bag z).tr (w ▸ hn)
  · obtain ⟨p', xs, b1, b2, _⟩ := e.own j es a1
    rw [b1] at a2
    have : p' = p := V.ref.inj (Option.some.inj (Option.some.inj a2))
    rw [this, hn] at b2
    cases b2
/-- return a new list, as one's own -/
def dRetO (dn : DA) : DS := fun DD δ => dn δ DD.ro
theorem sim_retO (h1 : SimN K ib b te dn) : SimS K ib b (tRet te) (dRetO dn) := by
  intro S0 H0 Sm S H σ δ D DD o em g0 e h x
  refine h1 H0 S H σ δ _ _ g0.ok e h fun S1 H1 p vs dvs g1 hp r hS hn q => ?_
  exact x.ro S1 H1 p vs dvs (g0.trans o g1) (em.trans g1.st) hp r hS (g0.fresh o hn) q
/-- return x, x a list of one's own: as one's own; as data -/
def dRetOwn (i : Nat) : DS := fun DD δ => match δ[i]? with
  | some (some (.own ds)) => DD.ro ds
  | _ => False
theorem sim_retOwn {i : Nat} : SimS K ib b (tRet (tVar i)) (dRetOwn i) := by
  intro S0 H0 Sm S H σ δ D DD o em g0 e h x
  unfold dRetOwn at h
  split at h
  · rename_i ds q0
    obtain ⟨p, xs, hσ, hp, hr, hS, h0, hb, hu⟩ := e.own i ds q0
    exact ⟨_, hσ, x.ro S H p xs ds g0 em hp hr hS h0 h⟩
  · exact h.elim
/-! own lists changed -/
def rInsertL : V → List V → Hp → VK → Prop := fun x vs H Q => ∃ (l : Addr) (xs : List V) (i : Int) (y : V), x = .ref l ∧ vs = [.int i, y] ∧ H l = some (.lst xs) ∧ xs.length < sizeLine ∧ 0 ≤ i ∧ i < 2 ^ 63 ∧ Q .non (upd H l (.lst (xs.take i.toNat ++ [y] ++ xs.drop i.toNat)))
theorem mt_insertL {X : Cx} : MtR X "list.insert" rInsertL := mt_insert
def dInsert (i : Nat) (da db : DE) : DS := fun DD δ => match δ[i]? with
  | some (some (.own ds)) => da δ fun x => db δ fun y => isI x fun n => small (ds.length + 1) = true ∧ 0 ≤ n ∧ n < 2 ^ 63 ∧ DD.nx (δ.set i (some (.own (ds.take n.toNat ++ [y] ++ ds.drop n.toNat))))
  | _ => False
theorem sim_insert {i : Nat} (hi : ib ≠ some i) (h1 : SimE K ib b ta da) (h2 : SimE K ib b tb db) : SimS K ib b (tDrop (tBM K "list" rInsertL (tVar i) (tCons ta (tCons tb tNil)))) (dInsert i da db) := by
  intro S0 H0 Sm S H σ δ D DD o em g0 e h x
  unfold dInsert at h
  split at h
  · rename_i ds q0
    obtain ⟨p, xs, hσ, hp, hr, hS, h0, hb, hu⟩ := e.own i ds q0
    refine ⟨_, hσ, .inl ⟨rfl, xs, .inl (.inl hp)⟩, ?_⟩
    refine h1 H0 S H σ δ _ _ g0.ok e h fun S1 H1 v dv g1 r q => ?_
    refine h2 H0 S1 H1 σ δ _ _ g1.ok (e.go g1) q fun S2 H2 w dw g2 r2 q2 => ?_
    have g12 := g1.trans g0.ok g2
    have hp2 := g12.keep p _ hb hp
    have hS2 := g12.new p (by rw [hp]; exact Option.some_ne_none _) hS
    unfold isI at q2
    split at q2
    · rename_i n
      obtain ⟨z1, z2, z3, z4⟩ := q2
      refine ⟨p, xs, n, w, rfl, by rw [(r.mono g2.st).intV], hp2, by rw [hr.length]; exact small_lt z1, z2, z3, ?_⟩
      have hr2 := hr.mono g12.st
      obtain ⟨ga, ea⟩ := setOwn_go (ys := xs.take n.toNat ++ [w] ++ xs.drop n.toNat) hi o (g0.trans o g12) (e.go g12) q0 hσ hp2 hS2 h0 hb hu
        (((hr2.take n.toNat).append (.cons r2 .nil)).append (hr2.drop n.toNat))
      exact x.nx S2 _ _ _ ga (em.trans g12.st) ea z4
    · exact q2.elim
  · exact h.elim
theorem sim_extend {i : Nat} (hi : ib ≠ some i) (h1 : SimE K ib b te de) : SimS K ib b (tDrop (tBM K "list" rExtend (tVar i) (tCons te tNil))) (dExtend i de) := by
  intro S0 H0 Sm S H σ δ D DD o em g0 e h x
  unfold dExtend at h
  split at h
  · rename_i ds q0
    obtain ⟨p, xs, hσ, hp, hr, hS, h0, hb, hu⟩ := e.own i ds q0
    refine ⟨_, hσ, .inl ⟨rfl, xs, .inl (.inl hp)⟩, ?_⟩
    refine h1 H0 S H σ δ _ _ g0.ok e h fun S1 H1 v dv g1 r q => ?_
    have hp1 := g1.keep p _ hb hp
    have hS1 := g1.new p (by rw [hp]; exact Option.some_ne_none _) hS
    split at q
    · rename_i es
      obtain ⟨c, ys, rfl, hc, qy⟩ := r.lstV
      refine ⟨p, c, xs, ys, rfl, rfl, hp1, g1.ok.sub _ _ hc, by rw [hr.length, qy.length]; exact small_ok q.1, ?_⟩
      obtain ⟨ga, ea⟩ := setOwn_go (ys := xs ++ ys) hi o (g0.trans o g1) (e.go g1) q0 hσ hp1 hS1 h0 hb hu ((hr.mono g1.st).append qy)
      exact x.nx S1 _ _ _ ga (em.trans g1.st) ea q.2
    · exact q.elim
  · exact h.elim
end
end DL

/-! New lists by comprehension; promises that hand back a new list; pop; while; in with deep data; max, min, sum. -/
namespace DL
open PySem PySem.Spec PyProof.Rows L2
open Evl (Ex ex_l ex_t)
variable [TheW]
section
variable {K : PySem.W.Frag} {ib : Option Nat} {b : Bg} {te ta tb : TE} {de da db : DE} {tt : TT} {dt : DT} {t : TA} {d dn : DA} {ti : TI} {di : DA} {ts tu : TS} {ds du : DS}
def dnLc (di : DA) (j : Nat) (dt : DT) (de : DE) (vs : List Nat) : DA := fun δ R => di δ fun xs => small xs.length = true ∧ ∃ I : Nat → List PyData → Prop, I 0 [] ∧
  (∀ i x acc, xs[i]? = some x → acc.length ≤ i → I i acc → dt ((wipeD δ vs).set j (some (.dat x))) fun c =>
    if c = true then de ((wipeD δ vs).set j (some (.dat x))) fun y => I (i + 1) (acc ++ [y]) else I (i + 1) acc) ∧ ∀ acc, acc.length ≤ xs.length → I xs.length acc → R acc
theorem sim_nLc {j : Nat} {vs : List Nat} (hj : j ∈ vs) (hv : ∀ i, ib = some i → i ∉ vs) (h1 : SimI K ib b ti di) (h2 : SimT K ib b tt dt) (h3 : SimE K ib b te de) :
    SimN K ib b (tLc ti (gName j) tt te vs) (dnLc di j dt de vs) := by
  intro H0 S H σ δ R Q o e h k
  refine h1 H0 S H σ δ _ _ o e h fun S1 H1 J xs g1 wk q D hD => ?_
  obtain ⟨hz, I, i0, turn, done⟩ := q
  have hij : ib ≠ some j := fun z => hv j z hj
  have oD := g1.ok
  have gD : Go ib b S1 H1 S1 (upd H1 D (.lst [])) := Go.laidOwn oD hD
  refine ⟨fun i m H' => m = xs.length - i ∧ i ≤ xs.length ∧ ∃ S' ys acc, Go ib b S1 H1 S' H' ∧ H' D = some (.lst ys) ∧ S' D = none ∧ Reps K S' ys acc ∧ acc.length ≤ i ∧ I i acc,
    ⟨xs.length, by omega, Nat.zero_le _, S1, [], [], gD, upd_same, Ex.none_of oD.sub hD, .nil, Nat.zero_le _, i0⟩, ?_⟩
  rintro i m H' ⟨rfl, hi, S', ys, acc, g', hys, hS', racc, hacc, hI⟩
  obtain ⟨w1, w2, w3⟩ := wk S' H' g'.st g'.ok
  by_cases hlt : i < xs.length
  · refine .inr ⟨w1 i hlt, fun H2 => ∃ S' ys acc, Go ib b S1 H1 S' H2 ∧ H2 D = some (.lst ys) ∧ S' D = none ∧ Reps K S' ys acc ∧ acc.length ≤ i + 1 ∧ I (i + 1) acc, ?_, ?_⟩
    · rintro H2 ⟨S2, ys2, acc2, a1, a2, a3, a4, a5, a6⟩
      exact ⟨xs.length - (i + 1), by omega, rfl, hlt, S2, ys2, acc2, a1, a2, a3, a4, a5, a6⟩
    · intro y H2 hy
      obtain ⟨S2, dy, g2, hy2, ry⟩ := w3 i y H2 hlt hy
      have nb : ib ≠ none → D ≠ b.1 := fun z w => (oD.bag z).tr (w ▸ hD)
      have gA := g'.trans oD g2
      have hys2 := g2.keep D _ nb hys
      have hS2 := g2.new D (by rw [hys]; exact Option.some_ne_none _) hS'
      have eA := (((e.go (g1.trans o gA)).wipe hv).set (i := j) hij ry)
      refine ⟨wipe_set σ vs j _ hj, ?_⟩
      refine h2 H0 S2 H2 _ _ _ _ gA.ok eA (turn i dy acc hy2 hacc hI) fun S3 H3 c g3 q3 => ?_
      have gB := gA.trans oD g3
      have hys3 := g3.keep D _ nb hys2
      have hS3 := g3.new D (by rw [hys2]; exact Option.some_ne_none _) hS2
      cases c with
      | true =>
        rw [if_pos rfl] at q3 ⊢
        refine h3 H0 S3 H3 _ _ _ _ gB.ok (eA.go g3) q3 fun S4 H4 v dv g4 r4 q4 => ?_
        have gC := gB.trans oD g4
        have hys4 := g4.keep D _ nb hys3
        have hS4 := g4.new D (by rw [hys3]; exact Option.some_ne_none _) hS3
        have rac4 := racc.mono ((g2.st.trans g3.st).trans g4.st)
        have hzz := of_decide_eq_true hz
        refine ⟨ys, hys4, by rw [rac4.length]; exact Evl.sz_lt (by omega), S4, ys ++ [v], acc ++ [dv], Go.ownUpd oD gC hD hS4, upd_same, hS4, rac4.append (.cons r4 .nil), ?_, q4⟩
        rw [List.length_append, List.length_singleton]
        omega
      | false =>
        rw [if_neg Bool.false_ne_true] at q3 ⊢
        exact ⟨S3, ys, acc, gB, hys3, hS3, racc.mono (g2.st.trans g3.st), by omega, q3⟩
  · have ei : i = xs.length := by omega
    subst ei
    exact .inl ⟨w2, k S' H' D ys acc (g1.trans o g') hys racc hS' (g1.fresh o hD) (done acc hacc hI)⟩
/-! promises that hand back a new list -/
def spPO (K : PySem.W.Frag) (pre : List PyData → Prop) (post : List PyData → List PyData → Prop) : Sp := fun vs H Q _ => ∃ (S : Hp) (b : Bg) (ds : List PyData), Okk none b S H ∧ Reps K S vs ds ∧ pre ds ∧
  ∀ S' H' p xs es, Go none b S H S' H' → H' p = some (.lst xs) → Reps K S' xs es → S' p = none → H p = none → post ds es → Q (.ref p) H'
def spGO (K : PySem.W.Frag) (pre : List PyData → Prop) (post : List PyData → List PyData → Prop) : Sp := fun vs H Q _ => ∃ (S : Hp) (b : Bg) (ws : List V) (ds : List PyData), vs = .ref b.1 :: ws ∧ Okk (some 0) b S H ∧ Reps K S ws ds ∧ pre ds ∧
  ∀ S' H' p xs es, Go (some 0) b S H S' H' → H' p = some (.lst xs) → Reps K S' xs es → S' p = none → H p = none → post ds es → Q (.ref p) H'
def dnCall (pre : List PyData → Prop) (post : List PyData → List PyData → Prop) (d : DA) : DA := fun δ R => d δ fun ds => pre ds ∧ ∀ r, post ds r → R r
theorem sim_nCallP {pre : List PyData → Prop} {post : List PyData → List PyData → Prop} {E : XK} (h1 : SimA K ib b t d) : SimN K ib b (tCall (spPO K pre post) [] E t) (dnCall pre post d) := by
  intro H0 S H σ δ R Q o e h k
  refine h1 H0 S H σ δ _ _ o e h fun S1 H1 vs ds g r q => ?_
  rw [List.append_nil]
  refine ⟨S1, b, ds, g.ok.pure, r, q.1, fun S2 H2 p xs es g2 hp rx hS hn q2 => ?_⟩
  exact k S2 H2 p xs es (g.trans o (Go.ofPure g.ok g2)) hp rx hS (g.fresh o hn) (q.2 es q2)
theorem sim_nCallG {pre : List PyData → Prop} {post : List PyData → List PyData → Prop} {E : XK} {i : Nat} (hi : ib = some i) (h1 : SimA K ib b t d) :
    SimN K ib b (tCall (spGO K pre post) [] E (tCons (tVar i) t)) (dnCall pre post d) := by
  intro H0 S H σ δ R Q o e h k
  refine ⟨_, e.slot i hi, ?_⟩
  refine h1 H0 S H σ δ _ _ o e h fun S1 H1 vs ds g r q => ?_
  show spGO K pre post ((V.ref b.1 :: vs) ++ []) H1 Q E
  rw [List.append_nil]
  subst hi
  refine ⟨S1, b, vs, ds, rfl, g.ok.as, r, q.1, fun S2 H2 p xs es g2 hp rx hS hn q2 => ?_⟩
  exact k S2 H2 p xs es (g.trans o g2.as) hp rx hS (g.fresh o hn) (q.2 es q2)
theorem len_PO {pre : List PyData → Prop} {post : List PyData → List PyData → Prop} {n : Nat} (h : ∀ ds, pre ds → ds.length = n) : ∀ vs H Q E, spPO K pre post vs H Q E → vs.length = n := by
  rintro vs H Q E ⟨S, b, ds, o, r, p, k⟩
  rw [r.length]
  exact h ds p
theorem len_GO {pre : List PyData → Prop} {post : List PyData → List PyData → Prop} {n : Nat} (h : ∀ ds, pre ds → ds.length = n) : ∀ vs H Q E, spGO K pre post vs H Q E → vs.length = n + 1 := by
  rintro vs H Q E ⟨S, b, ws, ds, rfl, o, r, p, k⟩
  rw [List.length_cons, r.length, h ds p]
theorem body_PO {dst : DS} {pre : List PyData → Prop} {post : List PyData → List PyData → Prop} {N : List Str} (sim : ∀ b, SimS K none b ts dst)
    (h : ∀ ds, pre ds → dst { nx := fun _ => False, rt := fun _ => False, ro := post ds } (startD N.length (ds.map fun d => some (.dat d))))
    {vs : List V} {H : Hp} {Q : VK} {E : XK} (q : spPO K pre post vs H Q E) : ts { nx := fun _ H' => Q .non H', rt := Q } (L2.start N vs) H := by
  obtain ⟨S, b, ds, o, r, hp, k⟩ := q
  refine sim b S H S S H _ _ _ _ o (Ex.refl S) (Go.refl o) (env_start r) (h ds hp) ⟨?_, ?_, ?_, ?_, ?_⟩
  · intro S' H' σ' δ' g _ _ z
    exact z.elim
  · intro S' H' v d g _ rv z
    exact z.elim
  · intro S' H' σ' δ' g _ _ z
    exact z
  · intro S' H' σ' δ' g _ _ z
    exact z
  · intro S' H' p xs es g _ h1 h2 h3 h4 z
    exact k S' H' p xs es g h1 h2 h3 h4 z
theorem body_GO {dst : DS} {pre : List PyData → Prop} {post : List PyData → List PyData → Prop} {N : List Str} (sim : ∀ b, SimS K (some 0) b ts dst)
    (h : ∀ ds, pre ds → dst { nx := fun _ => False, rt := fun _ => False, ro := post ds } (startD N.length (none :: ds.map fun d => some (.dat d))))
    {vs : List V} {H : Hp} {Q : VK} {E : XK} (q : spGO K pre post vs H Q E) : ts { nx := fun _ H' => Q .non H', rt := Q } (L2.start N vs) H := by
  obtain ⟨S, b, ws, ds, rfl, o, r, hp, k⟩ := q
  refine sim b S H S S H _ _ _ _ o (Ex.refl S) (Go.refl o) (env_startG r) (h ds hp) ⟨?_, ?_, ?_, ?_, ?_⟩
  · intro S' H' σ' δ' g _ _ z
    exact z.elim
  · intro S' H' v d g _ rv z
    exact z.elim
  · intro S' H' σ' δ' g _ _ z
    exact z
  · intro S' H' σ' δ' g _ _ z
    exact z
  · intro S' H' p xs es g _ h1 h2 h3 h4 z
    exact k S' H' p xs es g h1 h2 h3 h4 z
/-- x = y.pop() -/
def dAsgPop (i j : Nat) : DS := fun DD δ => match δ[i]? with
  | some (some (.own ds)) => match ds.getLast? with
    | some y => DD.nx ((δ.set i (some (.own ds.dropLast))).set j (some (.dat y)))
    | none => False
  | _ => False
theorem Reps.dropLast {S : Hp} : ∀ {vs : List V} {ds : List PyData}, Reps K S vs ds → Reps K S vs.dropLast ds.dropLast
  | _, _, .nil => .nil
  | _, _, .cons r .nil => .nil
  | _, _, .cons r (.cons r2 q) => .cons r (Reps.dropLast (.cons r2 q))
theorem sim_asgPop {i j : Nat} (hi : ib ≠ some i) (hj : ib ≠ some j) : SimS K ib b (tAsg (tBM0 K "list" rPop (tVar i)) (gName j)) (dAsgPop i j) := by
  intro S0 H0 Sm S H σ δ D DD o em g0 e h x
  unfold dAsgPop at h
  split at h
  · rename_i ds q0
    obtain ⟨p, xs, hσ, hp, hr, hS, h0, hb, hu⟩ := e.own i ds q0
    split at h
    · rename_i y hy
      rw [List.getLast?_eq_getElem?] at hy
      obtain ⟨v, hv, rv⟩ := hr.get hy
      refine ⟨_, hσ, .inl ⟨rfl, xs, .inl (.inl hp)⟩, p, xs, v, rfl, rfl, hp, by rw [hr.length]; exact hv, ?_⟩
      obtain ⟨ga, ea⟩ := setOwn_go (ys := xs.dropLast) hi o g0 e q0 hσ hp hS h0 hb hu (Reps.dropLast hr)
      exact x.nx S _ _ _ ga em (ea.set hj rv) h
    · exact h.elim
  · exact h.elim
/-- while -/
def dWhile (dt : DT) (ds : DS) : DS := fun DD δ => ∃ I : Nat → DEnv → Prop, (∃ m, I m δ) ∧ ∀ m δ', I m δ' → dt δ' fun c =>
  if c = true then ds { DD with nx := fun δ2 => ∃ m', m' < m ∧ I m' δ2, ct := fun δ2 => ∃ m', m' < m ∧ I m' δ2, bk := DD.nx } δ' else DD.nx δ'
theorem sim_while (h1 : SimT K ib b tt dt) (h2 : SimS K ib b ts ds) : SimS K ib b (tWhile tt ts) (dWhile dt ds) := by
  intro S0 H0 Sm S H σ δ D DD o em g0 e h x
  obtain ⟨I, ⟨m0, i0⟩, turn⟩ := h
  refine ⟨fun m σ' H' => ∃ S' δ', Ex S S' ∧ Go ib b S0 H0 S' H' ∧ EnvOk K ib b H0 S' H' σ' δ' ∧ I m δ', ⟨m0, S, δ, Ex.refl S, g0, e, i0⟩, ?_⟩
  rintro m σ1 H1 ⟨S1, δ1, ex, g1, e1, hI⟩
  refine h1 H0 S1 H1 σ1 δ1 _ _ g1.ok e1 (turn m δ1 hI) fun S2 H2 c g2 q2 => ?_
  have gA := g1.trans o g2
  have eA := e1.go g2
  have exA := ex.trans g2.st
  cases c with
  | true =>
    rw [if_pos rfl] at q2 ⊢
    refine ⟨fun σ' H' => ∃ m', m' < m ∧ ∃ S' δ', Ex S S' ∧ Go ib b S0 H0 S' H' ∧ EnvOk K ib b H0 S' H' σ' δ' ∧ I m' δ', fun σ' H' z => z, ?_⟩
    refine h2 S0 H0 S S2 H2 σ1 δ1 _ _ o exA gA eA q2 ⟨?_, ?_, ?_, ?_, ?_⟩
    · rintro S4 H4 σ4 δ4 c1 c2 c3 ⟨m', hm, c4⟩
      exact ⟨m', hm, S4, δ4, c2, c1, c3, c4⟩
    · intro S4 H4 v4 d4 c1 c2 c3 c4
      exact x.rt S4 H4 v4 d4 c1 (em.trans c2) c3 c4
    · intro S4 H4 σ4 δ4 c1 c2 c3 c4
      exact x.nx S4 H4 σ4 δ4 c1 (em.trans c2) c3 c4
    · rintro S4 H4 σ4 δ4 c1 c2 c3 ⟨m', hm, c4⟩
      exact ⟨m', hm, S4, δ4, c2, c1, c3, c4⟩
    · intro S4 H4 p4 xs4 es4 c1 c2 c3 c4 c5 c6 c7
      exact x.ro S4 H4 p4 xs4 es4 c1 (em.trans c2) c3 c4 c5 c6 c7
  | false =>
    rw [if_neg Bool.false_ne_true] at q2 ⊢
    exact x.nx S2 H2 σ1 δ1 gA (em.trans exA) eA q2
/-- x in a list of data -/
def rInDb (K : PySem.W.Frag) (neg : Bool) : R2 := if neg then rNotInD K else rInD K
def dInD (neg : Bool) : PyData → PyData → (PyData → Prop) → Prop := fun x y R => match y with
  | .list ds => (SeqAt.shaped x && SeqAt.shaped (.list ds)) = true ∧ R (.bool (if neg then !(ds.any fun e => PyData.eqv e x) else ds.any fun e => PyData.eqv e x))
  | _ => False
theorem simr_inD : SimR2 K ib b (rInD K) (dInD false) := by
  intro S H x y dx dy R Q o rx ry h k
  unfold dInD at h
  split at h
  · rename_i ds
    have h1 := (Bool.and_eq_true _ _ ▸ h.1 : _ ∧ _)
    exact ⟨dx, ds, (rx.mono o.sub).dp (SeqAt.canLay_of_shaped h1.1), (ry.mono o.sub).dp (SeqAt.canLay_of_shaped h1.2), h1.1, h1.2, k S H _ _ (Go.refl o) (.bl _) h.2⟩
  · exact h.elim
theorem simr_notInD : SimR2 K ib b (rNotInD K) (dInD true) := by
  intro S H x y dx dy R Q o rx ry h k
  unfold dInD at h
  split at h
  · rename_i ds
    have h1 := (Bool.and_eq_true _ _ ▸ h.1 : _ ∧ _)
    exact ⟨dx, ds, (rx.mono o.sub).dp (SeqAt.canLay_of_shaped h1.1), (ry.mono o.sub).dp (SeqAt.canLay_of_shaped h1.2), h1.1, h1.2, k S H _ _ (Go.refl o) (.bl _) h.2⟩
  · exact h.elim
/-- max, min, sum of a list of ints -/
def intsOf : List PyData → Option (List Int)
  | [] => some []
  | .int c :: r => (intsOf r).map (c :: ·)
  | _ => none
theorem ints_of_rep {S : Hp} : ∀ {vs : List V} {ds : List PyData} {bs : List Int}, Reps K S vs ds → intsOf ds = some bs → vs = bs.map V.int
  | _, _, bs, .nil, h => by
    rw [intsOf] at h
    cases h
    rfl
  | _, _, bs, .cons r q, h => by
    cases r with
    | int c =>
      rw [intsOf] at h
      obtain ⟨w, hw, rfl⟩ := Option.map_eq_some_iff.mp h
      rw [ints_of_rep q hw]
      rfl
    | _ => simp [intsOf] at h
def dSum : List PyData → (PyData → Prop) → Prop := fun ds R => match ds with
  | [.list xs] => ∃ ns, intsOf xs = some ns ∧ R (.int ns.sum)
  | _ => False
theorem simc_sum : SimC K ib b (rSum K) dSum := by
  intro S H xs ds R Q o r h k
  unfold dSum at h
  split at h
  · cases r with
    | cons r1 r2 =>
      cases r2
      obtain ⟨a, xs, rfl, hq, q⟩ := r1.lstV
      obtain ⟨ns, hb, h⟩ := h
      have e := ints_of_rep q hb
      subst e
      exact ⟨a, ns, rfl, SqL.of (o.sub _ _ hq), k S H _ _ (Go.refl o) (.int _) h⟩
  · exact h.elim
def dMax : List PyData → (PyData → Prop) → Prop := fun ds R => match ds with
  | [.list xs] => ∃ ns, intsOf xs = some ns ∧ 0 < ns.length ∧ ∀ m, m ∈ ns → (∀ y, y ∈ ns → y ≤ m) → R (.int m)
  | _ => False
theorem simc_max : SimC K ib b (rMax K) dMax := by
  intro S H xs ds R Q o r h k
  unfold dMax at h
  split at h
  · cases r with
    | cons r1 r2 =>
      cases r2
      obtain ⟨a, xs, rfl, hq, q⟩ := r1.lstV
      obtain ⟨ns, hb, h0, h⟩ := h
      have e := ints_of_rep q hb
      subst e
      exact ⟨a, ns, rfl, SqL.of (o.sub _ _ hq), h0, fun m h1 h2 => k S H _ _ (Go.refl o) (.int _) (h m h1 h2)⟩
  · exact h.elim
/-- min(i, j) -/
def rMin2 : List V → Hp → VK → Prop := fun xs H Q => ∃ i j, xs = [.int i, .int j] ∧ Q (.int (if j < i then j else i)) H
theorem call_min2' {X : Cx} (hc : X.calm = true) : CallR X (.builtin "min") rMin2 := call_min2 hc
def dMin2 : List PyData → (PyData → Prop) → Prop := fun ds R => match ds with
  | [.int i, .int j] => R (.int (if j < i then j else i))
  | _ => False
theorem simc_min2 : SimC K ib b rMin2 dMin2 := by
  intro S H xs ds R Q o r h k
  unfold dMin2 at h
  split at h
  · cases r with
    | cons r1 r2 =>
      cases r2 with
      | cons r2 r3 =>
        cases r3
        rw [r1.intV, r2.intV]
        exact ⟨_, _, rfl, k S H _ _ (Go.refl o) (.int _) h⟩
  · exact h.elim
end
end DL

/-! Own lists handed back as data, read for new lists; comprehensions over pairs; defs that call themselves. -/
namespace DL
open PySem PySem.Spec PyProof.Rows L2
open Evl (Ex ex_l ex_t)
variable [TheW]
theorem units65 {k : Nat} {A : Around} (r : Room k A) : A.units + 65 < cLine := by have := r.un; omega
/-- a promise that nobody can ask for -/
theorem FnG.never {P : Program} {w : World} {K : PySem.W.Frag} {mg : Str → Option Value} {base : Heap} {CX : CXT} {k : Nat} {f : Addr} {fd : FuncData} {ps : List Str} {sp : Sp} (h : ∀ vs H Q E, ¬ sp vs H Q E) : FnG P w K mg base CX k f fd ps sp :=
  ⟨fun vs H Q E q => absurd q (h vs H Q E), fun A o s H args us vs Q E hr e b v q => absurd q (h vs H Q E)⟩
theorem never_P {K : PySem.W.Frag} {pre : List PyData → Prop} {post : List PyData → PyData → Prop} (h : ∀ ds, ¬ pre ds) : ∀ vs H Q E, ¬ spP K pre post vs H Q E := by
  rintro vs H Q E ⟨S, b, ds, o, r, p, k⟩
  exact h ds p
theorem never_G {K : PySem.W.Frag} {pre : List PyData → Prop} {post : List PyData → PyData → Prop} (h : ∀ ds, ¬ pre ds) : ∀ vs H Q E, ¬ spG K pre post vs H Q E := by
  rintro vs H Q E ⟨S, b, ws, ds, e, o, r, p, k⟩
  exact h ds p
theorem never_PO {K : PySem.W.Frag} {pre : List PyData → Prop} {post : List PyData → List PyData → Prop} (h : ∀ ds, ¬ pre ds) : ∀ vs H Q E, ¬ spPO K pre post vs H Q E := by
  rintro vs H Q E ⟨S, b, ds, o, r, p, k⟩
  exact h ds p
theorem never_GO {K : PySem.W.Frag} {pre : List PyData → Prop} {post : List PyData → List PyData → Prop} (h : ∀ ds, ¬ pre ds) : ∀ vs H Q E, ¬ spGO K pre post vs H Q E := by
  rintro vs H Q E ⟨S, b, ws, ds, e, o, r, p, k⟩
  exact h ds p
theorem Reps.tupOnly_all {ds : List PyData} (h : ∀ d ∈ ds, tupOnly d = true) : tupOnlyAll ds = true := by
  induction ds with
  | nil => rfl
  | cons d r ih =>
    show (tupOnly d && tupOnlyAll r) = true
    rw [h d (List.mem_cons_self ..), ih fun x hx => h x (List.mem_cons_of_mem _ hx)]
    rfl
section
variable {K : PySem.W.Frag} {ib : Option Nat} {b : Bg} {te ta tb : TE} {de da db : DE} {tt : TT} {dt : DT} {t : TA} {d dn : DA} {ti : TI} {di : DA} {ts tu : TS} {ds du : DS}
/-- return x, x a list of one's own: as data -/
def dRetOwnD (i : Nat) : DS := fun DD δ => match δ[i]? with
  | some (some (.own ds)) => DD.rt (.list ds)
  | _ => False
theorem sim_retOwnD {i : Nat} : SimS K ib b (tRet (tVar i)) (dRetOwnD i) := by
  intro S0 H0 Sm S H σ δ D DD o em g0 e h x
  unfold dRetOwnD at h
  split at h
  · rename_i ds q0
    obtain ⟨p, xs, hσ, hp, hr, hS, h0, hb, hu⟩ := e.own i ds q0
    exact ⟨_, hσ, x.rt _ H _ _ (g0.tell o hp hS h0) (em.trans (Ex.new hS)) (.lst upd_same (hr.mono (Ex.new hS))) h⟩
  · exact h.elim
/-- an own list read for a new list -/
def dBorrowN (i : Nat) (dn : DA) : DA := fun δ R => match δ[i]? with
  | some (some (.own ds)) => dn (δ.set i (some (.dat (.list ds)))) fun es => tupOnlyAll es = true ∧ R es
  | _ => False
theorem sim_borrowN {i : Nat} (h1 : SimN K ib b te dn) : SimN K ib b te (dBorrowN i dn) := by
  intro H0 S H σ δ R Q o e h k
  unfold dBorrowN at h
  split at h
  · rename_i ds q0
    obtain ⟨p, xs, hσ, hp, hr, hS, h0, hb, hu⟩ := e.own i ds q0
    obtain ⟨o1, e1⟩ := borrow_ok o e q0 hσ hp hr hS hb hu
    refine h1 H0 _ H σ _ _ _ o1 e1 h fun S2 H2 p2 xs2 es g hp2 r hS2 hn q => ?_
    obtain ⟨e2, g2⟩ := borrow_back o hS g
    refine k _ H2 p2 xs2 es g2 hp2 (Reps.dropT e2 r q.1) ?_ hn q.2
    by_cases c : p2 = p
    · rw [c]; exact cutH_same
    · rw [cutH_ne c]; exact hS2
  · exact h.elim
theorem wipe_put (σ : L2.St) (vs : List Nat) (j : Nat) (x : Option V) (h : j ∈ vs) : wipe (σ.set j x) vs = wipe σ vs := by
  apply List.ext_getElem?
  intro i
  rw [wipe_get, wipe_get, List.length_set]
  by_cases c : i ∈ vs ∧ i < σ.length
  · rw [if_pos c, if_pos c]
  · rw [if_neg c, if_neg c]
    by_cases hi : i = j
    · subst hi
      have : ¬ i < σ.length := fun z => c ⟨h, z⟩
      rw [List.getElem?_eq_none (by rw [List.length_set]; omega), List.getElem?_eq_none (by omega)]
    · rw [List.getElem?_set_ne (Ne.symm hi)]
theorem wipe_twice (σ : L2.St) (vs : List Nat) : wipe (wipe σ vs) vs = wipe σ vs := by
  apply List.ext_getElem?
  intro i
  rw [wipe_get, wipe_length]
  by_cases c : i ∈ vs ∧ i < σ.length
  · rw [if_pos c, wipe_get, if_pos c]
  · rw [if_neg c]
/-- [e for x, y in ..] -/
def dnLc2 (di : DA) (j l : Nat) (dt : DT) (de : DE) (vs : List Nat) : DA := fun δ R => di δ fun xs => small xs.length = true ∧ ∃ I : Nat → List PyData → Prop, I 0 [] ∧
  (∀ i x acc, xs[i]? = some x → acc.length ≤ i → I i acc → match x with
    | .tuple [x1, x2] => dt (((wipeD δ vs).set j (some (.dat x1))).set l (some (.dat x2))) fun c =>
      if c = true then de (((wipeD δ vs).set j (some (.dat x1))).set l (some (.dat x2))) fun y => I (i + 1) (acc ++ [y]) else I (i + 1) acc
    | _ => False) ∧ ∀ acc, acc.length ≤ xs.length → I xs.length acc → R acc
theorem sim_nLc2 {j l : Nat} {vs : List Nat} (hj : j ∈ vs) (hl : l ∈ vs) (hv : ∀ i, ib = some i → i ∉ vs) (h1 : SimI K ib b ti di) (h2 : SimT K ib b tt dt) (h3 : SimE K ib b te de) :
    SimN K ib b (tLc ti (gTup K 2 (gCons (gName j) (gCons (gName l) gNil))) tt te vs) (dnLc2 di j l dt de vs) := by
  intro H0 S H σ δ R Q o e h k
  refine h1 H0 S H σ δ _ _ o e h fun S1 H1 J xs g1 wk q D hD => ?_
  obtain ⟨hz, I, i0, turn, done⟩ := q
  have hij : ib ≠ some j := fun z => hv j z hj
  have hil : ib ≠ some l := fun z => hv l z hl
  have oD := g1.ok
  have gD : Go ib b S1 H1 S1 (upd H1 D (.lst [])) := Go.laidOwn oD hD
  refine ⟨fun i m H' => m = xs.length - i ∧ i ≤ xs.length ∧ ∃ S' ys acc, Go ib b S1 H1 S' H' ∧ H' D = some (.lst ys) ∧ S' D = none ∧ Reps K S' ys acc ∧ acc.length ≤ i ∧ I i acc,
    ⟨xs.length, by omega, Nat.zero_le _, S1, [], [], gD, upd_same, Ex.none_of oD.sub hD, .nil, Nat.zero_le _, i0⟩, ?_⟩
  rintro i m H' ⟨rfl, hi, S', ys, acc, g', hys, hS', racc, hacc, hI⟩
  obtain ⟨w1, w2, w3⟩ := wk S' H' g'.st g'.ok
  by_cases hlt : i < xs.length
  · refine .inr ⟨w1 i hlt, fun H2 => ∃ S' ys acc, Go ib b S1 H1 S' H2 ∧ H2 D = some (.lst ys) ∧ S' D = none ∧ Reps K S' ys acc ∧ acc.length ≤ i + 1 ∧ I (i + 1) acc, ?_, ?_⟩
    · rintro H2 ⟨S2, ys2, acc2, a1, a2, a3, a4, a5, a6⟩
      exact ⟨xs.length - (i + 1), by omega, rfl, hlt, S2, ys2, acc2, a1, a2, a3, a4, a5, a6⟩
    · intro y H2 hy
      obtain ⟨S2, dy, g2, hy2, ry⟩ := w3 i y H2 hlt hy
      have nb : ib ≠ none → D ≠ b.1 := fun z w => (oD.bag z).tr (w ▸ hD)
      have gA := g'.trans oD g2
      have hys2 := g2.keep D _ nb hys
      have hS2 := g2.new D (by rw [hys]; exact Option.some_ne_none _) hS'
      have tq := turn i dy acc hy2 hacc hI
      split at tq
      · rename_i x1 x2
        obtain ⟨a, zs, rfl, hq, rz⟩ := ry.tupV
        cases rz with
        | cons r1 rz =>
        cases rz with
        | cons r2 rz =>
        cases rz
        refine ⟨a, _, rfl, ex_t gA.ok.sub hq, rfl, _, _, rfl, _, _, rfl, rfl, ?_, ?_⟩
        · rw [wipe_put _ _ _ _ hl, wipe_put _ _ _ _ hj, wipe_twice]
        have eA := ((((e.go (g1.trans o gA)).wipe hv).set (i := j) hij r1).set (i := l) hil r2)
        refine h2 H0 S2 H2 _ _ _ _ gA.ok eA tq fun S3 H3 c g3 q3 => ?_
        have gB := gA.trans oD g3
        have hys3 := g3.keep D _ nb hys2
        have hS3 := g3.new D (by rw [hys2]; exact Option.some_ne_none _) hS2
        cases c with
        | true =>
          rw [if_pos rfl] at q3 ⊢
          refine h3 H0 S3 H3 _ _ _ _ gB.ok (eA.go g3) q3 fun S4 H4 v dv g4 r4 q4 => ?_
          have gC := gB.trans oD g4
          have hys4 := g4.keep D _ nb hys3
          have hS4 := g4.new D (by rw [hys3]; exact Option.some_ne_none _) hS3
          have rac4 := racc.mono ((g2.st.trans g3.st).trans g4.st)
          have hzz := of_decide_eq_true hz
          refine ⟨ys, hys4, by rw [rac4.length]; exact Evl.sz_lt (by omega), S4, ys ++ [v], acc ++ [dv], Go.ownUpd oD gC hD hS4, upd_same, hS4, rac4.append (.cons r4 .nil), ?_, q4⟩
          rw [List.length_append, List.length_singleton]
          omega
        | false =>
          rw [if_neg Bool.false_ne_true] at q3 ⊢
          exact ⟨S3, ys, acc, gB, hys3, hS3, racc.mono (g2.st.trans g3.st), by omega, q3⟩
      · exact tq.elim
  · have ei : i = xs.length := by omega
    subst ei
    exact .inl ⟨w2, k S' H' D ys acc (g1.trans o g') hys racc hS' (g1.fresh o hD) (done acc hacc hI)⟩
end
end DL

/-! sorted of data that are alike. -/
namespace DL
open PySem PySem.Spec PyProof.Rows L2
open Evl (Ex ex_l ex_t)
variable [TheW]
open PySem.W (EachIs AllAlike Sortable SortsAt sortVals sortLe keyToks dataKind)
/-- the data in order -/
noncomputable def sortD (ds : List PyData) : List PyData := ds.mergeSort (sortLe (listOrd itemOrd) false keyToks)
def rSortedD (K : PySem.W.Frag) : List V → Hp → VK → Prop := fun vs H Q => ∃ (a : Addr) (xs : List V) (ds : List PyData), vs = [.ref a] ∧ SqL K H a xs ∧ DpAll K H xs ds ∧ AllAlike ds ∧ Sortable ds ∧ (∀ d ∈ ds, d.depth ≤ 60) ∧
  ∀ (ys : List V) (p : Addr), EachIs (fun x d => (x, d) ∈ xs.zip ds) ys (sortD ds) → H p = none → Q (.ref p) (upd H p (.lst ys))
theorem each_pairs {R : V → Value → Prop} : ∀ {xs : List V} {us : List Value} {ds : List PyData}, Paired R xs us → xs.length = ds.length → EachIs (fun u d => ∃ x, R x u ∧ (x, d) ∈ xs.zip ds) us ds
  | [], _, [], .nil, _ => .nil
  | [], _, _ :: _, .nil, h => by cases h
  | x :: xs, _, [], _, h => by cases h
  | x :: xs, _, d :: ds, .cons r q, h => by
    refine .cons ⟨x, r, List.mem_cons_self ..⟩ ?_
    have ih := each_pairs q (by simpa using h)
    exact ih.mono fun u e ⟨y, h1, h2⟩ => ⟨y, h1, List.mem_cons_of_mem _ h2⟩
theorem back_pairs {R : V → Value → Prop} {T : V → PyData → Prop} : ∀ {us : List Value} {ds : List PyData}, EachIs (fun u d => ∃ x, R x u ∧ T x d) us ds → ∃ ys, Paired R ys us ∧ EachIs T ys ds
  | _, _, .nil => ⟨[], .nil, .nil⟩
  | _, _, .cons ⟨x, h1, h2⟩ t => by
    obtain ⟨ys, a, b⟩ := back_pairs t
    exact ⟨x :: ys, .cons h1 a, .cons h2 b⟩
theorem dpAll_len {K : PySem.W.Frag} {H : Hp} : ∀ {xs : List V} {ds : List PyData}, DpAll K H xs ds → xs.length = ds.length
  | _, _, .nil => rfl
  | _, _, .cons _ t => by simp only [List.length_cons, dpAll_len t]
theorem cr_sortedD {X : Cx} (hu : X.A.units + 70 < cLine) : CallR X (.builtin "sorted") (rSortedD X.K) := by
  intro pins s σ H vs us Q I r h
  obtain ⟨a, xs, ds, rfl, hs, hd, hal, hk, hdep, q⟩ := h
  obtain ⟨its, rv, hl, hz⟩ := I.list hs
  obtain ⟨u, rfl, ru⟩ := vals1 r
  obtain rfl : u = Value.ref a := ru
  obtain ⟨as, hr⟩ := Dp.readsAll I ds xs its hd rv
  have e0 : EachIs (fun v d => ∃ as, Reads s.heap v d as) its ds := PySem.W.readsAll_each id (by rw [List.map_id]; exact hr)
  have hlen := dpAll_len hd
  refine PySem.W.sorted_vals hl.isList (SortsAt.data (e0.mono fun v d ⟨as, h⟩ => ⟨as, Reads.keeps (fun b o e => PySem.W.sorting_copy_old e) h⟩) hal hk (fun d hm => ?_)) (by rw [← rv.length]; exact hz) ?_
  · have := hdep d hm
    show X.A.units + 1 + 1 + d.depth < cLine
    omega
  · have hkey : EachIs (fun v d => (dataKind (PySem.W.sortingHeap (PySem.W.copyHeap s.heap its) (s.heap.objs.size + 1) its) ds).keyOf v = some (keyToks d)) its ds := by
      have e1 : EachIs (fun v d => ∃ as, Reads (PySem.W.sortingHeap (PySem.W.copyHeap s.heap its) (s.heap.objs.size + 1) its) v d as) its ds := e0.mono fun v d ⟨as, h⟩ => ⟨as, Reads.keeps (fun b o e => PySem.W.sorting_copy_old e) h⟩
      exact (PySem.W.each_mem e1).mono fun v d ⟨⟨as, h⟩, hm⟩ => PySem.W.dataKind_some hal hm h
    have e2 := PySem.W.sortVals_each (κ := dataKind (PySem.W.sortingHeap (PySem.W.copyHeap s.heap its) (s.heap.objs.size + 1) its) ds) (rev := false) keyToks (each_pairs rv hlen) hkey
    obtain ⟨ys, ry, ey⟩ := back_pairs e2
    obtain ⟨n, hn⟩ := sortedAll_at s.heap its (sortVals (dataKind (PySem.W.sortingHeap (PySem.W.copyHeap s.heap its) (s.heap.objs.size + 1) its) ds) false its its).toArray
    have hd' : s.heap.objs.size ≤ s.heap.objs.size + 1 := Nat.le_succ _
    refine ⟨.ref _, upd H _ (.lst ys), I.laid (t' := s.toks) (fun b o e => sortedAll_old e) hd' ⟨?_, _, n, ry, hn⟩, rfl, q ys _ ey (I.hok.fresh hd')⟩
    have l1 := ey.length
    unfold sortD at l1
    rw [List.length_mergeSort, ← hlen] at l1
    omega
section
variable {K : PySem.W.Frag} {ib : Option Nat} {b : Bg} {te : TE} {de : DE}
theorem Reps.zip {S : Hp} : ∀ {vs : List V} {ds : List PyData}, Reps K S vs ds → ∀ {v : V} {d : PyData}, (v, d) ∈ vs.zip ds → Rep K S v d
  | _, _, .nil, _, _, h => by simp at h
  | _, _, .cons r q, v, d, h => by
    rw [List.zip_cons_cons] at h
    rcases List.mem_cons.mp h with e | h
    · cases e
      exact r
    · exact Reps.zip q h
theorem reps_of_each {S : Hp} {T : V → PyData → Prop} (hT : ∀ v d, T v d → Rep K S v d) : ∀ {vs : List V} {ds : List PyData}, EachIs T vs ds → Reps K S vs ds
  | _, _, .nil => .nil
  | _, _, .cons h t => .cons (hT _ _ h) (reps_of_each hT t)
/-- sorted(x), x a list of data that are alike: a new list -/
structure SortOk (ds : List PyData) : Prop where
  a : AllAlike ds
  k : Sortable ds
  d : ∀ d ∈ ds, d.depth ≤ 60
  l : PyData.canLayAll0 ds = true
noncomputable def dnSorted (de : DE) : DA := fun δ R => de δ fun x => match x with
  | .list ds => SortOk ds ∧ R (sortD ds)
  | _ => False
theorem sim_nSorted (h1 : SimE K ib b te de) : SimN K ib b (tCB (rSortedD K) (tCons te tNil)) (dnSorted de) := by
  intro H0 S H σ δ R Q o e h k
  refine h1 H0 S H σ δ _ _ o e h fun S1 H1 v d g r q => ?_
  split at q
  · rename_i ds
    obtain ⟨a, xs, rfl, hx, qx⟩ := r.lstV
    refine ⟨a, xs, ds, rfl, SqL.of (g.ok.sub _ _ hx), ?_, q.1.a, q.1.k, q.1.d, fun ys p hy hp => ?_⟩
    · exact Reps.dp (qx.mono g.ok.sub) q.1.l
    · exact k S1 _ p ys (sortD ds) (g.trans o (Go.laidOwn g.ok hp)) upd_same (reps_of_each (fun v d hm => qx.zip hm) hy) (Ex.none_of g.ok.sub hp) (g.fresh o hp) q.2
  · exact q.elim
end
end DL

/-! The truth of values; extend by a tuple; an own list told for good; defs handed over as values. -/
namespace DL
open PySem PySem.Spec PyProof.Rows L2
open Evl (Ex ex_l ex_t)
variable [TheW]
section
variable {X : Cx}
def rExtendT (K : PySem.W.Frag) : V → List V → Hp → VK → Prop := fun x vs H Q => ∃ l b xs zs, x = .ref l ∧ vs = [.ref b] ∧ H l = some (.lst xs) ∧ SqT K H b zs ∧ xs.length + zs.length ≤ sizeLine ∧ Q .non (upd H l (.lst (xs ++ zs)))
theorem mt_extendT : MtM X "list.extend" (rExtendT X.K) := by
  intro pins s σ H x vs v us Q I rx rv h
  obtain ⟨l, b, xs, zs, rfl, rfl, hH, hB, hz, q⟩ := h
  cases rx
  obtain ⟨u, rfl, ru⟩ := rv.one
  cases ru
  obtain ⟨z, its, n, r, hl, e⟩ := I.lstM hH
  obtain ⟨its2, r2, pl, hz2⟩ := I.tuple hB
  obtain ⟨⟨cls, dd, data, sl⟩, ho, hc, n2, hd⟩ := id pl
  simp only at hc hd
  subst hc hd
  have l2 := r2.length
  have hsz : its.toArray.size + its2.toArray.size ≤ sizeLine := by rw [List.size_toArray, List.size_toArray]; omega
  have hlong : ¬ (!its.toArray.isEmpty && Builtin.List.listTooLong (its.toArray.size + its2.toArray.size)) = true := by
    rw [notLongL hsz, Bool.and_false]
    exact Bool.false_ne_true
  refine call_meets F.slot_list_extend ⟨_, e, rfl⟩ F.entry_list_extend (F.args_list_extend_2 _ _)
    (list_extend_tuple l its.toArray n b its2.toArray n2 dd sl hlong (by rw [List.size_toArray]; omega) (by omega)) ⟨e, ho, ?_⟩
  refine ⟨.non, _, I.lset (its' := its ++ its2) hH e (by simp) (r.append r2) ?_, rfl, q⟩
  rw [List.length_append]
  omega
def tTr (K : PySem.W.Frag) (te : TE) : TT := fun σ H Q => te σ H fun x H' => ∃ k, TruV K x H' k ∧ Q k H'
/-- a local name that holds the def f, called -/
def tCallX (i : Nat) (f : Addr) (sp : Sp) (t : TA) : TE := fun σ H Q => σ[i]? = some (some (.ref f)) ∧ t σ H fun vs H1 => sp vs H1 Q E0
theorem pe_cx {i k : Nat} {f : Addr} {fd : FuncData} {ps : List Str} {sp : Sp} {x : Str} {p pos : Pos} {e : Expr} {es : List Expr} {t : TA} (F : FnG X.prog X.w X.K X.mg X.base L2.CX0 k f fd ps sp) (hr : RoomG k X.A)
    (hk : PySem.W.keepIn X.K (.ref f) = true) (hb : Binds X.K fd ps []) (hN : X.N[i]? = some x) (hv : Vis X.env.scope x) (ha : PA X (e :: es) t)
    (hd : (x == ("__debug__" : Str)) = false := by decide) (hcd : (x == ("__classdict__" : Str)) = false := by decide)
    (he : starEach (e :: es) X.env = (false, eval e X.env) :: starEach es X.env := by rfl) (hpl : (backTo pos (starEach es X.env)).any (·.1) = false := by rfl) :
    PE X (.Call (.Name x p) (e :: es) [] pos) (tCallX i f sp t) := by
  refine ⟨fun pins s σ H Q I h => ?_⟩
  obtain ⟨hs, ht⟩ := h
  refine wpAny_Call_Name_kw (thn ((pe_var (pos := p) hN hv hd hcd).run pins s σ H (fun v H1 => v = .ref f ∧ H1 = H) I ⟨.ref f, hs, rfl, rfl⟩) fun u s1 ⟨v, H1, I1, r1, q1⟩ => ?_)
  obtain ⟨rfl, rfl⟩ := q1
  cases r1
  refine PySem.W.callWith_K (h₀ := X.base) I.ok.mod.kin hk (thn (ha.run pos pins s1 σ _ _ I1 ht) fun us s2 ⟨vs, H2, I2, r, q⟩ => ⟨I2.kIn, ?_⟩) he hpl
  exact run_g F hr hb .nil pass0 I2 r (by rw [List.append_nil]; exact q)
end
section
variable {K : PySem.W.Frag} {ib : Option Nat} {b : Bg} {te ta tb : TE} {de da db : DE} {tt : TT} {dt : DT} {t : TA} {d dn : DA} {ts tu : TS} {ds du : DS}
def truD : PyData → Option Bool
  | .none => some false
  | .bool c => some c
  | .int i => some (i != 0)
  | .str x => if small x.length = true then some ((x.length : Int) != 0) else none
  | .list xs => some (!xs.isEmpty)
  | .tuple xs => some (!xs.isEmpty)
  | .dict _ => none
def dTr (de : DE) : DT := fun δ R => de δ fun d => match truD d with
  | some c => R c
  | none => False
theorem Reps.isEmpty {S : Hp} {vs : List V} {ds : List PyData} (r : Reps K S vs ds) : (!ds.isEmpty) = !vs.isEmpty := by
  cases r <;> rfl
theorem sim_tr (h1 : SimE K ib b te de) : SimT K ib b (tTr K te) (dTr de) := by
  intro H0 S H σ δ R Q o e h k
  refine h1 H0 S H σ δ _ _ o e h fun S1 H1 v dv g r q => ?_
  cases r with
  | non => exact ⟨false, rfl, k S1 H1 _ g q⟩
  | bl c => exact ⟨c, rfl, k S1 H1 _ g q⟩
  | int i => exact ⟨_, rfl, k S1 H1 _ g q⟩
  | str x =>
    unfold truD at q
    dsimp only at q
    by_cases c : small x.length = true
    · rw [if_pos c] at q
      exact ⟨_, ⟨small_ok c, rfl⟩, k S1 H1 _ g q⟩
    · rw [if_neg c] at q
      exact q.elim
  | lst hq rs => exact ⟨_, .inl ⟨_, SqL.of (g.ok.sub _ _ hq), rs.isEmpty⟩, k S1 H1 _ g q⟩
  | tup hq rs => exact ⟨_, .inr (.inl ⟨_, ex_t g.ok.sub hq, rs.isEmpty⟩), k S1 H1 _ g q⟩
  | dK _ _ => exact q.elim
  | dN _ _ _ _ _ _ => exact q.elim
  | dF _ _ _ => exact q.elim
def dExtendT (i : Nat) (de : DE) : DS := fun DD δ => match δ[i]? with
  | some (some (.own ds)) => de δ fun y => match y with
    | .tuple es => small (ds.length + es.length) = true ∧ DD.nx (δ.set i (some (.own (ds ++ es))))
    | _ => False
  | _ => False
theorem sim_extendT {i : Nat} (hi : ib ≠ some i) (h1 : SimE K ib b te de) : SimS K ib b (tDrop (tBM K "list" (rExtendT K) (tVar i) (tCons te tNil))) (dExtendT i de) := by
  intro S0 H0 Sm S H σ δ D DD o em g0 e h x
  unfold dExtendT at h
  split at h
  · rename_i ds q0
    obtain ⟨p, xs, hσ, hp, hr, hS, h0, hb, hu⟩ := e.own i ds q0
    refine ⟨_, hσ, .inl ⟨rfl, xs, .inl (.inl hp)⟩, ?_⟩
    refine h1 H0 S H σ δ _ _ g0.ok e h fun S1 H1 v dv g1 r q => ?_
    have hp1 := g1.keep p _ hb hp
    have hS1 := g1.new p (by rw [hp]; exact Option.some_ne_none _) hS
    split at q
    · rename_i es
      obtain ⟨c, ys, rfl, hc, qy⟩ := r.tupV
      refine ⟨p, c, xs, ys, rfl, rfl, hp1, ex_t g1.ok.sub hc, by rw [hr.length, qy.length]; exact small_ok q.1, ?_⟩
      obtain ⟨ga, ea⟩ := setOwn_go (ys := xs ++ ys) hi o (g0.trans o g1) (e.go g1) q0 hσ hp1 hS1 h0 hb hu ((hr.mono g1.st).append qy)
      exact x.nx S1 _ _ _ ga (em.trans g1.st) ea q.2
    · exact q.elim
  · exact h.elim
/-- from here on the own list of a name is data -/
def dFreeze (i : Nat) (ds : DS) : DS := fun DD δ => match δ[i]? with
  | some (some (.own es)) => ds DD (δ.set i (some (.dat (.list es))))
  | _ => False
theorem sim_freeze {i : Nat} (h1 : SimS K ib b ts ds) : SimS K ib b ts (dFreeze i ds) := by
  intro S0 H0 Sm S H σ δ D DD o em g e h x
  unfold dFreeze at h
  split at h
  · rename_i es q0
    obtain ⟨p, xs, hσ, hp, hr, hS, h0, hb, hu⟩ := e.own i es q0
    obtain ⟨o1, e1⟩ := borrow_ok g.ok e q0 hσ hp hr hS hb hu
    refine h1 S0 H0 Sm _ H σ _ D DD o (em.trans (Ex.new hS)) ⟨g.st.trans (Ex.new hS), g.keep, fun a h1 h2 => ?_, o1⟩ e1 h x
    have : a ≠ p := fun z => h1 (z ▸ h0)
    rw [upd_ne this]
    exact g.new a h1 h2
  · exact h.elim
/-- a list times an int -/
def dRep : PyData → PyData → (PyData → Prop) → Prop := fun x y R => match x, y with
  | .list xs, .int k => (0 ≤ k ∧ k < 2 ^ 63) ∧ small (xs.length * k.toNat) = true ∧ R (.list (List.replicate k.toNat xs).flatten)
  | _, _ => False
theorem Reps.rep {S : Hp} {vs : List V} {ds : List PyData} (r : Reps K S vs ds) : ∀ n : Nat, Reps K S (List.replicate n vs).flatten (List.replicate n ds).flatten
  | 0 => .nil
  | n + 1 => by
    rw [List.replicate_succ, List.replicate_succ, List.flatten_cons, List.flatten_cons]
    exact r.append (Reps.rep r n)
theorem simr_rep : SimR2 K ib b rRep dRep := by
  intro S H x y dx dy R Q o rx ry h k
  unfold dRep at h
  split at h
  · rename_i xs' n
    obtain ⟨a, xs, rfl, hx, qx⟩ := rx.lstV
    rw [ry.intV]
    obtain ⟨⟨h1, h2⟩, h3, h4⟩ := h
    refine ⟨a, _, xs, rfl, rfl, o.sub _ _ hx, by omega, h2, by rw [qx.length]; exact small_ok h3, fun p hp => ?_⟩
    have g := Go.laid (u := .lst (List.replicate n.toNat xs).flatten) o hp
    exact k _ _ _ _ g (.lst upd_same ((qx.rep _).mono g.st)) h4
  · exact h.elim
/-- a, b, c = x, y, z -/
def dPar3 (i j l : Nat) (da : DA) : DS := fun DD δ => da δ fun vs => match vs with
  | [x, y, z] => DD.nx (((δ.set i (some (.dat x))).set j (some (.dat y))).set l (some (.dat z)))
  | _ => False
theorem sim_par3 {i j l : Nat} (hi : ib ≠ some i) (hj : ib ≠ some j) (hl : ib ≠ some l) (h1 : SimA K ib b t d) : SimS K ib b (tPar3 i j l t) (dPar3 i j l d) := by
  intro S0 H0 Sm S H σ δ D DD o em g0 e h x
  refine h1 H0 S H σ δ _ _ g0.ok e h fun S1 H1 vs ds g1 r q => ?_
  match vs, ds, r with
  | [v, w, u], [dv, dw, du], .cons r1 (.cons r2 (.cons r3 .nil)) =>
    exact ⟨v, w, u, rfl, x.nx S1 H1 _ _ (g0.trans o g1) (em.trans g1.st) ((((e.go g1).set hi r1).set hj r2).set hl r3) q⟩
  | [], [], _ => exact q.elim
  | [_], [_], _ => exact q.elim
  | [_, _], [_, _], _ => exact q.elim
  | _ :: _ :: _ :: _ :: _, _ :: _ :: _ :: _ :: _, _ => exact q.elim
/-! defs as values -/
def dCallX (i : Nat) (f : Addr) (pre : List PyData → Prop) (post : List PyData → PyData → Prop) (d : DA) : DE := fun δ R => δ[i]? = some (some (.fn f)) ∧ d δ fun ds => pre ds ∧ ∀ r, post ds r → R r
theorem sim_callX {i : Nat} {f : Addr} {pre : List PyData → Prop} {post : List PyData → PyData → Prop} (h1 : SimA K ib b t d) : SimE K ib b (tCallX i f (spP K pre post) t) (dCallX i f pre post d) := by
  intro H0 S H σ δ R Q o e h k
  refine ⟨e.fn i f h.1, ?_⟩
  refine h1 H0 S H σ δ _ _ o e h.2 fun S1 H1 vs ds g r q => ?_
  refine ⟨S1, b, ds, g.ok.pure, r, q.1, fun S2 H2 v d g2 r2 q2 => ?_⟩
  exact k S2 H2 v d (g.trans o (Go.ofPure g.ok g2)) r2 (q.2 d q2)
/-- the last argument is the def f -/
def spF (K : PySem.W.Frag) (f : Addr) (pre : List PyData → Prop) (post : List PyData → PyData → Prop) : Sp := fun vs H Q E => ∃ ws, vs = ws ++ [.ref f] ∧ spP K pre post ws H Q E
theorem sim_callF1 {f : Addr} {pre : List PyData → Prop} {post : List PyData → PyData → Prop} {E : XK} (h1 : SimE K ib b te de) :
    SimE K ib b (tCall (spF K f pre post) [] E (tCons te (tCons (tC (.ref f)) tNil))) (dCall pre post (dCons de dNil)) := by
  intro H0 S H σ δ R Q o e h k
  refine h1 H0 S H σ δ _ _ o e h fun S1 H1 v dv g r q => ?_
  refine ⟨[v], rfl, S1, b, [dv], g.ok.pure, .cons r .nil, q.1, fun S2 H2 v d g2 r2 q2 => ?_⟩
  exact k S2 H2 v d (g.trans o (Go.ofPure g.ok g2)) r2 (q.2 d q2)
def dCallV (i : Nat) (f : Addr) (pre : List PyData → Prop) (post : List PyData → PyData → Prop) (d : DA) : DE := fun δ R => δ[i]? = some (some (.fn f)) ∧ dCall pre post d δ R
theorem sim_callV1 {i : Nat} {f : Addr} {pre : List PyData → Prop} {post : List PyData → PyData → Prop} {E : XK} (h1 : SimE K ib b te de) :
    SimE K ib b (tCall (spF K f pre post) [] E (tCons te (tCons (tVar i) tNil))) (dCallV i f pre post (dCons de dNil)) := by
  intro H0 S H σ δ R Q o e h k
  refine h1 H0 S H σ δ _ _ o e h.2 fun S1 H1 v dv g r q => ?_
  refine ⟨.ref f, e.fn i f h.1, ?_⟩
  refine ⟨[v], rfl, S1, b, [dv], g.ok.pure, .cons r .nil, q.1, fun S2 H2 v d g2 r2 q2 => ?_⟩
  exact k S2 H2 v d (g.trans o (Go.ofPure g.ok g2)) r2 (q.2 d q2)
theorem len_F {f : Addr} {pre : List PyData → Prop} {post : List PyData → PyData → Prop} {n : Nat} (h : ∀ ds, pre ds → ds.length = n) : ∀ vs H Q E, spF K f pre post vs H Q E → vs.length = n + 1 := by
  rintro vs H Q E ⟨ws, rfl, q⟩
  obtain ⟨S, b, ds, o, r, p, k⟩ := q
  rw [List.length_append, r.length, h ds p]
  rfl
theorem never_F {f : Addr} {pre : List PyData → Prop} {post : List PyData → PyData → Prop} (h : ∀ ds, ¬ pre ds) : ∀ vs H Q E, ¬ spF K f pre post vs H Q E := by
  rintro vs H Q E ⟨ws, rfl, S, b, ds, o, r, p, k⟩
  exact h ds p
theorem env_startF {N : List Str} {S H H0 : Hp} {ws : List V} {ds : List PyData} {f : Addr} (r : Reps K S ws ds) :
    EnvOk K none b H0 S H (L2.start N (ws ++ [.ref f])) (startD N.length ((ds.map fun d => some (.dat d)) ++ [some (.fn f)])) := by
  have cut : ∀ {i : Nat} {x : DV}, ((ds.map fun d => some (DV.dat d)) ++ [some (DV.fn f)])[i]? = some (some x) → (∃ d, ds[i]? = some d ∧ x = .dat d) ∨ (i = ds.length ∧ x = .fn f) := by
    intro i x h
    by_cases hi : i < ds.length
    · rw [List.getElem?_append_left (by rw [List.length_map]; exact hi), List.getElem?_map] at h
      cases e : ds[i]? with
      | none => rw [e] at h; cases h
      | some d => rw [e] at h; cases h; exact .inl ⟨d, rfl, rfl⟩
    · rw [List.getElem?_append_right (by rw [List.length_map]; omega), List.length_map] at h
      by_cases h0 : i - ds.length = 0
      · rw [h0] at h
        cases h
        exact .inr ⟨by omega, rfl⟩
      · rw [List.getElem?_eq_none (by rw [List.length_singleton]; omega)] at h
        cases h
  refine ⟨?_, fun i z => by (cases z), fun i d h => ?_, fun i es h => ?_, fun i a h => ?_, fun i c h => ?_⟩
  · unfold L2.start startD
    simp only [List.length_append, List.length_map, List.length_replicate, List.length_cons, List.length_nil, r.length]
  · rcases cut (startD_get h) with ⟨d', hd, e⟩ | ⟨_, e⟩
    · cases e
      obtain ⟨v, hv, rv⟩ := r.get hd
      have hl : i < ws.length := (List.getElem?_eq_some_iff.mp hv).1
      exact ⟨v, start_get (by rw [List.getElem?_append_left hl]; exact hv), rv⟩
    · cases e
  · rcases cut (startD_get h) with ⟨d', hd, e⟩ | ⟨_, e⟩ <;> cases e
  · rcases cut (startD_get h) with ⟨d', hd, e⟩ | ⟨hi, e⟩
    · cases e
    · cases e
      refine start_get ?_
      rw [hi, ← r.length, List.getElem?_append_right (Nat.le_refl _), Nat.sub_self]
      rfl
  · rcases cut (startD_get h) with ⟨d', hd, e⟩ | ⟨_, e⟩ <;> cases e
theorem body_F {f : Addr} {ts : TS} {dst : DS} {pre : List PyData → Prop} {post : List PyData → PyData → Prop} {N : List Str} (sim : ∀ b, SimS K none b ts dst)
    (h : ∀ ds, pre ds → dst { nx := fun _ => post ds .none, rt := post ds } (startD N.length ((ds.map fun d => some (.dat d)) ++ [some (.fn f)])))
    {vs : List V} {H : Hp} {Q : VK} {E : XK} (q : spF K f pre post vs H Q E) : ts { nx := fun _ H' => Q .non H', rt := Q } (L2.start N vs) H := by
  obtain ⟨ws, rfl, S, b, ds, o, r, hp, k⟩ := q
  refine sim b S H S S H _ _ _ _ o (Ex.refl S) (Go.refl o) (env_startF r) (h ds hp) ⟨?_, ?_, ?_, ?_, ?_⟩
  · intro S' H' σ' δ' g _ _ z
    exact k S' H' .non .none g .non z
  · intro S' H' v d g _ rv z
    exact k S' H' v d g rv z
  · intro S' H' σ' δ' g _ _ z
    exact z
  · intro S' H' σ' δ' g _ _ z
    exact z
  · intro S' H' p xs es g _ _ _ _ _ z
    exact z.elim
end
end DL

/-! Such dicts: a value put in, their keys in order. -/
namespace DL
open PySem PySem.Spec PyProof.Rows L2
open Evl (Ex ex_l ex_t)
variable [TheW]
open PySem.W (EachIs AllAlike Sortable SortsAt sortVals sortLe keyToks dataKind)
def NHas (w : World) (H : Hp) (a : Addr) (xs : List NRow) : Prop := H a = some (HN w a xs) ∨ (xs = [] ∧ H a = some (.dK [])) ∨ ∃ o, H a = some (HP w a xs o)
theorem length_storedH (xs : List NRow) (k : NestedKey) (b : Addr) (u : Value) : (storedH xs k b u).length ≤ xs.length + 1 := by
  unfold storedH
  split
  · rw [List.length_map]; omega
  · rw [List.length_append]; exact Nat.le_refl _
section
variable {X : Cx} {pins : List (Addr × Obj)} {σ : L2.St} {H : Hp} {s : Shared} {a b : Addr} {xs : List NRow} {k : NestedKey}
theorem nhas_at (I : Inv X pins σ H s) (h : NHas X.w H a xs) : NAt X.w a xs s.heap := by
  rcases h with h | ⟨rfl, h⟩ | ⟨ob, h⟩
  · exact (show ObjOk X.prog X.w H s.heap a (HN X.w a xs) from I.hok a _ h).1
  · exact NAt.empty (I.hok a _ h)
  · exact (show ObjOk X.prog X.w H s.heap a (HP X.w a xs ob) from I.hok a _ h).1.1
theorem NHas.mut {w : World} (h : NHas w H a xs) : Mut (H a) := by
  rcases h with h | ⟨_, h⟩ | ⟨_, h⟩
  · rw [h]; exact True.intro
  · rw [h]; exact True.intro
  · rw [h]; exact True.intro
theorem n_setItem {A : Around} {E : Value → Shared → Prop} {Q : Unit → Shared → Prop} {u : Value} (hu : A.units + 16 < cLine) (I : Inv X pins σ H s) (h : NHas X.w H a xs) (hr : ∀ r ∈ xs, KeyV X.K H r.2.1 r.1) (hk : KeyV X.K H b k)
    (hz : xs.length < sizeLine) (hq : ∀ s', Inv X pins σ (upd H a (HN X.w a (storedH xs k b u))) s' → Q () s') : wpAny (model X.prog X.w) A (setItem (.ref a) (.ref b) u) Q E s := by
  have n := nhas_at I h
  have rows : RowsOk X.w s.heap xs := fun r hr' => keyV_at I (hr r hr')
  have dd := n.ofH (P := X.prog) rows
  refine wpAny_setItem_heap (knd := nestedKind X.prog X.w) (hsz := n.2.2.2) ?_ (keyV_at I hk) dd fun h' dd' hs => hq _ ?_
  · show A.units + 1 + 8 < cLine
    omega
  · have hl := length_storedH xs k b u
    have n' : NAt X.w a (storedH xs k b u) h' := NAt.to n.1 (by omega) dd'
    obtain ⟨o, es, ep, ho, _⟩ := dd'
    exact d_write I h.mut hs ⟨o, ho⟩ n'.obj
def sNPut (K : PySem.W.Frag) (w : World) (td ty tv : TE) : TS := fun D σ H => tv σ H fun v H1 => td σ H1 fun x H2 => ty σ H2 fun y H3 => ∃ a b xs k, x = .ref a ∧ y = .ref b ∧ NHas w H3 a xs ∧ (∀ r ∈ xs, KeyV K H3 r.2.1 r.1) ∧ KeyV K H3 b k ∧ xs.length < sizeLine ∧
  ∀ u, RelV v u → D.nx σ (upd H3 a (HN w a (storedH xs k b u)))
theorem ps_nput {o i value : Expr} {td ty tv : TE} {pos pos' : Pos} (hu : X.A.units + 16 < cLine) (ho : PE X o td) (hi : PE X i ty) (hv : PE X value tv) (hs : swapsWith value (some (.Subscript o i pos')) pos.line X.env = pure false) :
    PS X (.Assign [.Subscript o i pos'] value pos) (sNPut X.K X.w td ty tv) := by
  refine ⟨fun pins s σ H D I h => ?_⟩
  refine wpAny_Assign_Subscript (thn (hv.run pins s σ H _ I h) fun r s1 ⟨v, H1, I1, rv, q1⟩ => thn (ho.run pins s1 σ H1 _ I1 q1) fun u s2 ⟨x, H2, I2, rx, q2⟩ => thn (hi.run pins s2 σ H2 _ I2 q2) fun iv s3 ⟨y, H3, I3, ry, a, b, xs, k, ex, ey, g1, g2, g3, g4, q3⟩ => ?_) hs
  subst ex ey
  obtain rfl : u = Value.ref a := rx
  obtain rfl : iv = Value.ref b := ry
  exact n_setItem hu I3 g1 g2 g3 g4 fun s4 I4 => ⟨σ, _, I4, q3 r rv⟩
/-- sorted(d): its keys in order -/
def rSortedN (K : PySem.W.Frag) (w : World) : List V → Hp → VK → Prop := fun vs H Q => ∃ (a : Addr) (xs : List NRow) (ds : List PyData) (T : V → PyData → Prop), vs = [.ref a] ∧ NHas w H a xs ∧ (∀ v d, T v d → Rep K H v d) ∧ EachIs (fun r d => T (.ref r) d) (xs.map (·.2.1)) ds ∧ AllAlike ds ∧ Sortable ds ∧ (∀ d ∈ ds, d.depth ≤ 50) ∧
  ∀ (ys : List V) (p : Addr), EachIs T ys (sortD ds) → H p = none → Q (.ref p) (upd H p (.lst ys))
theorem each_get {α : Type} {R : α → PyData → Prop} : ∀ {us : List α} {ds : List PyData}, us.length = ds.length → (∀ (j : Nat) (u : α) (d : PyData), us[j]? = some u → ds[j]? = some d → R u d) → EachIs R us ds
  | [], [], _, _ => .nil
  | u :: us, d :: ds, hl, h => .cons (h 0 u d rfl rfl) (each_get (by simpa using hl) fun j u' d' e1 e2 => h (j + 1) u' d' (by simpa using e1) (by simpa using e2))
  | [], _ :: _, hl, _ => by simp at hl
  | _ :: _, [], hl, _ => by simp at hl
theorem each_at {α : Type} {R : α → PyData → Prop} : ∀ {us : List α} {ds : List PyData}, EachIs R us ds → ∀ (j : Nat) (u : α) (d : PyData), us[j]? = some u → ds[j]? = some d → R u d
  | _, _, .nil, j, u, d, e, _ => by simp at e
  | _, _, .cons h t, 0, u, d, e1, e2 => by
    simp at e1 e2
    subst e1 e2
    exact h
  | _, _, .cons h t, j + 1, u, d, e1, e2 => each_at t j u d (by simpa using e1) (by simpa using e2)
theorem cr_sortedN (hcalm : X.calm = true) (hu : X.A.units + 64 < cLine) : CallR X (.builtin "sorted") (rSortedN X.K X.w) := by
  intro pins s σ H vs us Q I r h
  obtain ⟨a, xs, ds, T, rfl, hh, hT, he, hal, hk, hdep, q⟩ := h
  obtain ⟨u, rfl, ru⟩ := vals1 r
  obtain rfl : u = Value.ref a := ru
  obtain ⟨n1, ⟨es, ep, n2, n3⟩, n4, n5⟩ := nhas_at I hh
  have hes : es.size = xs.length := by
    have := congrArg List.length n3
    rw [List.length_map] at this
    simpa using this
  refine Calls.call_function_entry PyProof.Rows.kind_sorted PyProof.Rows.plain_sorted PyProof.Rows.entry_sorted (PyProof.Rows.args_sorted1 _) ?_
  unfold Builtin.«sorted»
  refine wpAny_bind (m := checkCount "sorted" 1 1 _) (wpAny_pure ?_)
  refine wpAny_bind (PySem.W.kdu_collect (A := X.A.in1) (PySem.KdlSrc.rawDict (es := es) (ep := ep) n1) (I.ok.hd hcalm) n2 (by rw [hes]; exact n5) fun h' tk acc hkp hacc => ?_)
  have eacc : acc.toList = xs.map fun x => Value.ref x.2.1 := by
    apply List.ext_getElem?
    intro j
    by_cases hj : j < es.size
    · have hja : j < acc.size := by rw [hacc.1]; exact hj
      obtain ⟨hi, e⟩ := hacc.2 j acc[j] (Array.getElem?_eq_getElem hja)
      have e2 : es.toList[j]? = (xs.map (rowE X.w))[j]? := by rw [n3]
      rw [Array.getElem?_toList, Array.getElem?_eq_getElem hi, List.getElem?_map] at e2
      have hjx : j < xs.length := by rw [← hes]; exact hj
      rw [List.getElem?_eq_getElem hjx, Option.map_some] at e2
      have e3 := Option.some.inj e2
      rw [Array.getElem?_toList, Array.getElem?_eq_getElem hja, e, e3, List.getElem?_map, List.getElem?_eq_getElem hjx]
      rfl
    · rw [Array.getElem?_toList, Array.getElem?_eq_none (by rw [hacc.1]; omega), List.getElem?_map, List.getElem?_eq_none (by rw [← hes]; omega)]
      rfl
  have hlen : acc.toList.length ≤ sizeLine := by rw [eacc, List.length_map]; exact n5
  have I1 : Inv X pins σ H { s with heap := h', toks := tk } := I.kept hkp
  have e0 : EachIs (fun u d => ∃ x, RelV x u ∧ T x d) acc.toList ds := by
    rw [eacc]
    have hl := he.length
    rw [List.length_map] at hl
    refine each_get (by rw [List.length_map]; exact hl) fun j u d e1 e2 => ?_
    rw [List.getElem?_map] at e1
    obtain ⟨x, hx, rfl⟩ := Option.map_eq_some_iff.mp e1
    exact ⟨.ref x.2.1, rfl, each_at he j _ d (by rw [List.getElem?_map, hx]; rfl) e2⟩
  refine wpAny_bind (wpAny_newList ?_ hlen)
  have hoL : (h'.push (seqObj "list" acc.toList.toArray 0)).get? h'.objs.size = some (seqObj "list" acc.toList.toArray 0) := Heap.get?_push_size _ rfl
  have eR : EachIs (fun v d => ∃ as, Reads (PySem.W.sortingHeap (h'.push (seqObj "list" acc.toList.toArray 0)) h'.objs.size acc.toList) v d as) acc.toList ds := e0.mono fun v d ⟨x, rx, r⟩ => by
    obtain ⟨as, rr⟩ := ((hT _ _ r).rd I1 rx).reads
    exact ⟨as, Reads.keeps (fun b o e => PySem.W.sortingHeap_old (Nat.ne_of_lt (Heap.lt_size e)) (Heap.get?_push_of_some _ e)) rr⟩
  show wpAny _ _ _ _ _ { s with heap := h'.push (seqObj "list" acc.toList.toArray 0), toks := tk }
  refine wpAny_bind (wpAny_holding (wpAny_call_entry PyProof.Rows.slot_list_sort ⟨_, hoL, rfl⟩ PyProof.Rows.entry_list_sort
    (PySem.W.list_sort_vals (s := { s with heap := h'.push (seqObj "list" acc.toList.toArray 0), toks := tk }) hoL (SortsAt.data eR hal hk fun d hm => ?_) hlen ⟨_, rfl, ?_⟩)
    (PyProof.Rows.args_list_sort _)))
  · have := hdep d hm
    show X.A.units + 1 + 1 + d.depth < cLine
    omega
  · have hkey : EachIs (fun v d => (dataKind (PySem.W.sortingHeap (h'.push (seqObj "list" acc.toList.toArray 0)) h'.objs.size acc.toList) ds).keyOf v = some (keyToks d)) acc.toList ds :=
      (PySem.W.each_mem eR).mono fun v d ⟨⟨as, h⟩, hm⟩ => PySem.W.dataKind_some hal hm h
    have e2 := PySem.W.sortVals_each (κ := dataKind (PySem.W.sortingHeap (h'.push (seqObj "list" acc.toList.toArray 0)) h'.objs.size acc.toList) ds) (rev := false) keyToks e0 hkey
    obtain ⟨ys, ry, ey⟩ := back_pairs e2
    obtain ⟨ep', he'⟩ := PyProof.Rows.sortedHeap_at (vs := acc.toList) (out := (sortVals (dataKind (PySem.W.sortingHeap (h'.push (seqObj "list" acc.toList.toArray 0)) h'.objs.size acc.toList) ds) false acc.toList acc.toList).toArray) hoL
    refine wpAny_pure ⟨_, rfl, .ref h'.objs.size, upd H h'.objs.size (.lst ys), I1.laid (t' := tk) (fun b u e => ?_) (Nat.le_refl _) (show ObjOk X.prog X.w _ _ _ (.lst ys) from ⟨?_, _, ep', ry, he'⟩), rfl, q ys _ ey (I1.hok.fresh (Nat.le_refl _))⟩
    · have hb : b < h'.objs.size := Heap.lt_size e
      rw [PyProof.Rows.sortedHeap_old (Nat.ne_of_lt hb) (by rw [size_push']; exact Nat.lt_succ_of_lt hb)]
      exact Heap.get?_push_of_some _ e
    · have l1 := ey.length
      unfold sortD at l1
      rw [List.length_mergeSort, ← e0.length] at l1
      omega
end
end DL

/-! Dicts of one's own over data: made, asked, changed, in order. -/
namespace DL
open PySem PySem.Spec PyProof.Rows L2
open Evl (Ex ex_l ex_t)
variable [TheW]
open PySem.W (EachIs AllAlike Sortable SortsAt sortVals sortLe keyToks dataKind)
section
variable {K : PySem.W.Frag} {ib : Option Nat} {b : Bg} {te ta tb : TE} {de da db : DE} {tt : TT} {dt : DT} {t : TA} {d dn : DA} {ts tu : TS} {ds du : DS} {H0 S H S1 H1 : Hp} {σ : L2.St} {δ : DEnv}
/-- a name is given a dict of its own -/
theorem EnvOk.setDct (e : EnvOk K ib b H0 S H σ δ) {i : Nat} {p : Addr} {o : HO} {c : Cont} (hi : ib ≠ some i) (hp : H p = some o) (r : CtOk K S p o c)
    (hS : S p = none) (h0 : H0 p = none) (hb : ib ≠ none → p ≠ b.1) (hu : ∀ (j : Nat) (c' : Cont), j ≠ i → δ[j]? = some (some (DV.dct c')) → σ[j]? ≠ some (some (V.ref p))) :
    EnvOk K ib b H0 S H (σ.set i (some (V.ref p))) (δ.set i (some (DV.dct c))) := by
  have look : ∀ (j : Nat) (x : DV), j ≠ i → (δ.set i (some (DV.dct c)))[j]? = some (some x) → δ[j]? = some (some x) := by
    intro j x hj q
    rw [List.getElem?_set_ne (Ne.symm hj)] at q
    exact q
  have lookσ : ∀ (j : Nat), j ≠ i → (σ.set i (some (V.ref p)))[j]? = σ[j]? := fun j hj => List.getElem?_set_ne (Ne.symm hj)
  have inb : ∀ {j : Nat} {x : DV}, (δ.set i (some (DV.dct c)))[j]? = some (some x) → j < δ.length := by
    intro j x q
    obtain ⟨w, _⟩ := List.getElem?_eq_some_iff.mp q
    rw [List.length_set] at w
    exact w
  have self : ∀ {j : Nat} {x : DV}, (δ.set i (some (DV.dct c)))[j]? = some (some x) → (∀ c', x ≠ .dct c') → j ≠ i ∧ δ[j]? = some (some x) := by
    intro j x q hx
    by_cases hj : j = i
    · subst hj
      rw [List.getElem?_set_self (inb q)] at q
      cases q
      exact absurd rfl (hx c)
    · exact ⟨hj, look j _ hj q⟩
  refine ⟨by rw [List.length_set, List.length_set]; exact e.len, fun j hj => ?_, fun j x q => ?_, fun j es q => ?_, fun j a q => ?_, fun j c' q => ?_⟩
  · rw [lookσ j (fun z => hi (z ▸ hj))]
    exact e.slot j hj
  · obtain ⟨hj, q⟩ := self q (by intro c' z; cases z)
    obtain ⟨u, h1, h2⟩ := e.dat j x q
    exact ⟨u, (lookσ j hj).trans h1, h2⟩
  · obtain ⟨hj, q⟩ := self q (by intro c' z; cases z)
    obtain ⟨p', xs', h1, h2, h3, h4, h5, h6, h7⟩ := e.own j es q
    refine ⟨p', xs', (lookσ j hj).trans h1, h2, h3, h4, h5, h6, fun m fs a1 a2 => ?_⟩
    obtain ⟨hm, a1⟩ := self a1 (by intro c' z; cases z)
    exact h7 m fs a1 ((lookσ m hm).symm.trans a2)
  · obtain ⟨hj, q⟩ := self q (by intro c' z; cases z)
    exact (lookσ j hj).trans (e.fn j a q)
  · by_cases hj : j = i
    · subst hj
      have hlt := inb q
      rw [List.getElem?_set_self hlt] at q
      cases q
      refine ⟨p, o, by rw [List.getElem?_set_self (by rw [e.len]; exact hlt)], hp, r, hS, h0, hb, fun m c' a1 a2 => ?_⟩
      by_cases hm : m = j
      · exact hm
      · exact absurd ((lookσ m hm).symm.trans a2) (hu m c' hm (look m _ hm a1))
    · obtain ⟨p', o', h1, h2, h3, h4, h5, h6, h7⟩ := e.dct j c' (look j _ hj q)
      refine ⟨p', o', (lookσ j hj).trans h1, h2, h3, h4, h5, h6, fun m c2 a1 a2 => ?_⟩
      by_cases hm : m = i
      · subst hm
        rw [List.getElem?_set_self (by rw [e.len]; exact inb a1)] at a2
        have : p = p' := V.ref.inj (Option.some.inj (Option.some.inj a2))
        subst this
        exact absurd h1 (hu j c' hj (look j _ hj q))
      · exact h7 m c2 (look m _ hm a1) ((lookσ m hm).symm.trans a2)
/-- such a dict is changed -/
theorem dct_go {S0 : Hp} {i : Nat} {c c2 : Cont} {p : Addr} {o o2 : HO} (o0 : Okk ib b S0 H0) (g0 : Go ib b S0 H0 S H) (e : EnvOk K ib b H0 S H σ δ)
    (q0 : δ[i]? = some (some (DV.dct c))) (hσ : σ[i]? = some (some (V.ref p))) (hp : H p = some o) (hc : CtOk K S p o c) (hS : S p = none) (h0 : H0 p = none) (hb : ib ≠ none → p ≠ b.1)
    (hu : ∀ (j : Nat) (c' : Cont), δ[j]? = some (some (DV.dct c')) → σ[j]? = some (some (V.ref p)) → j = i) (r : CtOk K S p o2 c2) :
    Go ib b S0 H0 S (upd H p o2) ∧ EnvOk K ib b H0 S (upd H p o2) σ (δ.set i (some (.dct c2))) := by
  have kp : ∀ a u, a ≠ p → H a = some u → upd H p o2 a = some u := fun a u n q => by rw [upd_ne n]; exact q
  have sub2 : Ex S (upd H p o2) := fun a u q => kp a u (ne_of_none q hS) (g0.ok.sub a u q)
  have bag2 : ib ≠ none → Bag b (upd H p o2) := fun z => (g0.ok.bag z).kept fun a u c q => kp a u (by
    rcases c with c | c
    · rw [c]; exact fun w => hb z w.symm
    · rw [c]; exact fun w => absurd h0 (w ▸ (o0.bag z).tr2)) q
  refine ⟨⟨g0.st, fun a u c q => kp a u (ne_of_none q h0) (g0.keep a u c q), g0.new, ⟨sub2, g0.ok.off, bag2⟩⟩, ?_⟩
  have hlt : i < δ.length := (List.getElem?_eq_some_iff.mp q0).1
  have at_ : ∀ (j : Nat) (x : DV), j ≠ i → (δ.set i (some (DV.dct c2)))[j]? = some (some x) → δ[j]? = some (some x) := by
    intro j x hj q
    rw [List.getElem?_set_ne (Ne.symm hj)] at q
    exact q
  have self : ∀ {j : Nat} {x : DV}, (δ.set i (some (DV.dct c2)))[j]? = some (some x) → (∀ c', x ≠ .dct c') → δ[j]? = some (some x) := by
    intro j x q hx
    by_cases hj : j = i
    · subst hj
      rw [List.getElem?_set_self hlt] at q
      cases q
      exact absurd rfl (hx c2)
    · exact at_ j _ hj q
  have uniq : ∀ (m : Nat) (c' : Cont), (δ.set i (some (DV.dct c2)))[m]? = some (some (DV.dct c')) → ∃ c3, δ[m]? = some (some (DV.dct c3)) := by
    intro m c' a
    by_cases hm : m = i
    · exact ⟨c, by rw [hm]; exact q0⟩
    · exact ⟨c', at_ m _ hm a⟩
  refine ⟨by rw [List.length_set]; exact e.len, e.slot, fun j x q => e.dat j x (self q (by intro c' z; cases z)), fun j fs q => ?_, fun j a q => e.fn j a (self q (by intro c' z; cases z)), fun j c' q => ?_⟩
  · obtain ⟨p', xs', h1, h2, h3, h4, h5, h6, h7⟩ := e.own j fs (self q (by intro c' z; cases z))
    have np : p' ≠ p := by
      intro w
      subst w
      rw [hp] at h2
      cases h2
      exact hc.noLst
    exact ⟨p', xs', h1, kp _ _ np h2, h3, h4, h5, h6, fun m gs a1 a2 => h7 m gs (self a1 (by intro c' z; cases z)) a2⟩
  · by_cases hj : j = i
    · subst hj
      rw [List.getElem?_set_self hlt] at q
      cases q
      refine ⟨p, o2, hσ, upd_same, r, hS, h0, hb, fun m c3 a1 a2 => ?_⟩
      obtain ⟨c4, a1⟩ := uniq m c3 a1
      exact hu m c4 a1 a2
    · obtain ⟨p', o', h1, h2, h3, h4, h5, h6, h7⟩ := e.dct j c' (at_ j _ hj q)
      have np : p' ≠ p := fun w => hj (hu j c' (at_ j _ hj q) (w ▸ h1))
      refine ⟨p', o', h1, kp _ _ np h2, h3, h4, h5, h6, fun m c3 a1 a2 => ?_⟩
      obtain ⟨c4, a1⟩ := uniq m c3 a1
      exact h7 m c4 a1 a2
/-- x = {}, by texts -/
def dAsgD (i : Nat) : DS := fun DD δ => DD.nx (δ.set i (some (.dct (.dk []))))
theorem sim_asgD {i : Nat} (hi : ib ≠ some i) : SimS K ib b (tAsg tDNewK (gName i)) (dAsgD i) := by
  intro S0 H0 Sm S H σ δ D DD o em g0 e h x p hp
  have g1 : Go ib b S H S (upd H p (.dK [])) := Go.laidOwn g0.ok hp
  have g02 := g0.trans o g1
  have h0 : H0 p = none := g0.fresh o hp
  refine x.nx S _ _ _ g02 em ((e.go g1).setDct hi upd_same (c := .dk []) (show CtOk K S p (.dK []) (.dk []) from ⟨[], rfl, .nil⟩) (Ex.none_of g0.ok.sub hp) h0 (fun z w => ?_) (fun j c' hj a1 a2 => ?_)) h
  · exact (g0.ok.bag z).tr (w ▸ hp)
  · obtain ⟨p', o', b1, b2, _⟩ := e.dct j c' a1
    rw [b1] at a2
    have : p' = p := V.ref.inj (Option.some.inj (Option.some.inj a2))
    rw [this, hp] at b2
    cases b2
/-- x = {}, by tuples in one another -/
def tDNewN (w : World) : TE := fun _ H Q => ∀ p, H p = none → Q (.ref p) (upd H p (HN w p []))
def dAsgDN (w : World) (i : Nat) : DS := fun DD δ => DD.nx (δ.set i (some (.dct (.dn w []))))
theorem sim_asgDN {w : World} {i : Nat} (hi : ib ≠ some i) : SimS K ib b (tAsg (tDNewN w) (gName i)) (dAsgDN w i) := by
  intro S0 H0 Sm S H σ δ D DD o em g0 e h x p hp
  have g1 : Go ib b S H S (upd H p (HN w p [])) := Go.laidOwn g0.ok hp
  have g02 := g0.trans o g1
  have h0 : H0 p = none := g0.fresh o hp
  refine x.nx S _ _ _ g02 em ((e.go g1).setDct hi upd_same (c := .dn w []) (show CtOk K S p (HN w p []) (.dn w []) from ⟨[], rfl, .nil⟩) (Ex.none_of g0.ok.sub hp) h0 (fun z w => ?_) (fun j c' hj a1 a2 => ?_)) h
  · exact (g0.ok.bag z).tr (w ▸ hp)
  · obtain ⟨p', o', b1, b2, _⟩ := e.dct j c' a1
    rw [b1] at a2
    have : p' = p := V.ref.inj (Option.some.inj (Option.some.inj a2))
    rw [this, hp] at b2
    cases b2
end
theorem pe_dnewN {X : Cx} {pos : Pos} : PE X (.Dict [] [] pos) (tDNewN X.w) := ⟨fun pins s σ H Q I h =>
  wpAny_Dict_empty ⟨.ref s.heap.objs.size, _, I.laid (a := s.heap.objs.size) (o := HN X.w s.heap.objs.size []) (t' := s.toks) (fun _ _ q => Heap.get?_push_of_some _ q) (Nat.le_refl _) (nat_empty s.heap I.big).obj, rfl, h _ (I.hok.fresh (Nat.le_refl _))⟩⟩
end DL

/-! Dicts of one's own: asked, put in, their keys in order. -/
namespace DL
open PySem PySem.Spec PyProof.Rows L2
open Evl (Ex ex_l ex_t)
variable [TheW]
open PySem.W (EachIs AllAlike Sortable SortsAt sortVals sortLe keyToks dataKind)
def getKs (kvs : List (Str × PyData)) (x : Str) : Option PyData := (kvs.find? fun p => decide (p.1 = x)).map (·.2)
def putKs (kvs : List (Str × PyData)) (x : Str) (d : PyData) : List (Str × PyData) := if (kvs.any fun p => decide (p.1 = x)) = true then kvs.map fun p => if p.1 = x then (p.1, d) else p else kvs ++ [(x, d)]
def putN (kvs : List (PyData × PyData)) (k v : PyData) : List (PyData × PyData) := if (kvs.any fun p => decide (nk p.1 = nk k)) = true then kvs.map fun p => if nk p.1 = nk k then (p.1, v) else p else kvs ++ [(k, v)]
section
variable {K : PySem.W.Frag} {S : Hp}
theorem txt_any {x : Str} : ∀ {vs : List (Key × V)} {kvs : List (Str × PyData)}, Paired (TxtR K S) vs kvs → (vs.any fun kv => decide (kv.1 = .inr x)) = kvs.any fun p => decide (p.1 = x)
  | _, _, .nil => rfl
  | _, _, .cons (a := v) (b := q) h t => by
    rw [List.any_cons, List.any_cons, txt_any t, h.1]
    congr 1
    rw [decide_eq_decide]
    exact ⟨fun z => Sum.inr.inj z, fun z => by rw [z]⟩
theorem txt_val {x : Str} : ∀ {vs : List (Key × V)} {kvs : List (Str × PyData)}, Paired (TxtR K S) vs kvs → ∀ {d : PyData}, getKs kvs x = some d → ∃ v, valV vs (.inr x) = some v ∧ Rep K S v d
  | _, _, .nil, d, e => by cases e
  | _, _, .cons (a := v) (b := q) h t, d, e => by
    by_cases c : q.1 = x
    · unfold getKs at e
      rw [List.find?_cons_of_pos (by simp [c])] at e
      cases e
      exact ⟨v.2, valV_pos (by rw [h.1, c]), h.2⟩
    · unfold getKs at e
      rw [List.find?_cons_of_neg (by simp [c])] at e
      obtain ⟨u, e1, e2⟩ := txt_val t e
      exact ⟨u, by rw [valV_neg (by rw [h.1]; exact fun z => c (Sum.inr.inj z))]; exact e1, e2⟩
theorem txt_some {x : Str} {vs : List (Key × V)} {kvs : List (Str × PyData)} (h : Paired (TxtR K S) vs kvs) : (valV vs (.inr x)).isSome = kvs.any fun p => decide (p.1 = x) := by
  rw [← valV_any, txt_any h]
theorem txt_map {x : Str} {v : V} {d : PyData} (r : Rep K S v d) : ∀ {vs : List (Key × V)} {kvs : List (Str × PyData)}, Paired (TxtR K S) vs kvs →
    Paired (TxtR K S) (vs.map fun kv => if kv.1 = .inr x then (kv.1, v) else kv) (kvs.map fun p => if p.1 = x then (p.1, d) else p)
  | _, _, .nil => .nil
  | _, _, .cons (b := q) h t => by
    refine .cons ?_ (txt_map r t)
    dsimp only
    by_cases c : q.1 = x
    · rw [if_pos c, if_pos (by rw [h.1, c])]
      exact ⟨h.1, r⟩
    · rw [if_neg c, if_neg (by rw [h.1]; exact fun z => c (Sum.inr.inj z))]
      exact h
theorem txt_put {x : Str} {v : V} {d : PyData} {vs : List (Key × V)} {kvs : List (Str × PyData)} (h : Paired (TxtR K S) vs kvs) (r : Rep K S v d) : Paired (TxtR K S) (putK vs (.inr x) v) (putKs kvs x d) := by
  unfold putK putKs
  rw [txt_any h]
  split
  · exact txt_map r h
  · exact Paired.snoc h ⟨rfl, r⟩
theorem row_any {k : NestedKey} {e : PyData} (he : nk e = some k) : ∀ {xs : List NRow} {kvs : List (PyData × PyData)}, Paired (RowR K S) xs kvs → (xs.any fun x => decide (x.1 = k)) = kvs.any fun p => decide (nk p.1 = nk e)
  | _, _, .nil => rfl
  | _, _, .cons (a := v) (b := q) h t => by
    rw [List.any_cons, List.any_cons, row_any he t, h.1.2.1, he]
    congr 1
    rw [decide_eq_decide]
    exact ⟨fun z => by rw [z], fun z => Option.some.inj z⟩
theorem atKey_any {xs : List NRow} {k : NestedKey} : (atKey xs k).isSome = xs.any fun x => decide (x.1 = k) := by
  unfold atKey
  rw [Option.isSome_map]
  induction xs with
  | nil => rfl
  | cons x r ih =>
    rw [List.any_cons]
    by_cases c : x.1 = k
    · rw [List.find?_cons_of_pos (by simp [c])]
      simp [c]
    · rw [List.find?_cons_of_neg (by simp [c]), ih]
      simp [c]
theorem row_map {k : NestedKey} {e : PyData} {u : Value} {v : V} {d : PyData} (he : nk e = some k) (rd : Rep K S v d) (ru : RelV v u) : ∀ {xs : List NRow} {kvs : List (PyData × PyData)}, Paired (RowR K S) xs kvs →
    Paired (RowR K S) (xs.map (putAt k u)) (kvs.map fun p => if nk p.1 = nk e then (p.1, d) else p)
  | _, _, .nil => .nil
  | _, _, .cons (a := a) (b := q) h t => by
    refine .cons ?_ (row_map he rd ru t)
    unfold putAt
    dsimp only
    by_cases c : a.1 = k
    · rw [if_pos c, if_pos (by rw [h.1.2.1, he, c])]
      exact ⟨h.1, v, rd, ru⟩
    · rw [if_neg c, if_neg (by rw [h.1.2.1, he]; exact fun z => c (Option.some.inj z))]
      exact h
theorem row_keys {H : Hp} (ex : Ex S H) : ∀ {xs : List NRow} {kvs : List (PyData × PyData)}, Paired (RowR K S) xs kvs → ∀ r ∈ xs, KeyV K H r.2.1 r.1
  | _, _, .nil, r, hr => by cases hr
  | _, _, .cons h t, r, hr => by
    rcases List.mem_cons.mp hr with rfl | hr
    · exact ⟨_, h.1.1.mono ex, h.1.2.1, h.1.2.2⟩
    · exact row_keys ex t r hr
theorem row_put {k : NestedKey} {e : PyData} {c : Addr} {u : Value} {v : V} {d : PyData} (he : nk e = some k) (h8 : k.depth ≤ 8) (re : Rep K S (.ref c) e) (rd : Rep K S v d) (ru : RelV v u) {xs : List NRow} {kvs : List (PyData × PyData)} (h : Paired (RowR K S) xs kvs) :
    Paired (RowR K S) (storedH xs k c u) (putN kvs e d) := by
  unfold storedH putN
  rw [atKey_any, row_any he h]
  split
  · exact row_map he rd ru h
  · exact Paired.snoc h ⟨⟨re, he, h8⟩, v, rd, ru⟩
end
section
variable {K : PySem.W.Frag} {ib : Option Nat} {b : Bg} {te ta tb tk tv : TE} {de da db dk dv : DE} {t : TA} {d dn : DA}
/-- x[k] = v, x by tuples -/
def dPutN (w : World) (i : Nat) (dk dv : DE) : DS := fun DD δ => dv δ fun v => match δ[i]? with
  | some (some (.dct (.dn w' kvs))) => w' = w ∧ dk δ fun k => (∃ e ds, nk k = some e ∧ e.depth ≤ 8 ∧ k = .tuple ds) ∧ small (kvs.length + 1) = true ∧ DD.nx (δ.set i (some (.dct (.dn w (putN kvs k v)))))
  | _ => False
theorem sim_putN {w : World} {i : Nat} (h1 : SimE K ib b tk dk) (h2 : SimE K ib b tv dv) : SimS K ib b (sNPut K w (tVar i) tk tv) (dPutN w i dk dv) := by
  intro S0 H0 Sm S H σ δ D DD o em g0 e h x
  refine h2 H0 S H σ δ _ _ g0.ok e h fun S1 H1 v dvv g1 rv q => ?_
  have e1 := e.go g1
  split at q
  · rename_i w' kvs q0
    obtain ⟨rfl, q⟩ := q
    obtain ⟨p, ob, hσ, hp, hc, hS, h0, hb, hu⟩ := e1.dct i _ q0
    refine ⟨_, hσ, ?_⟩
    refine h1 H0 S1 H1 σ δ _ _ g1.ok e1 q fun S2 H2 kv dkk g2 rk q2 => ?_
    have g12 := g1.trans g0.ok g2
    have e2 := e1.go g2
    have hp2 := g2.keep p _ hb hp
    have hS2 := g2.new p (by rw [hp]; exact Option.some_ne_none _) hS
    have hc2 := hc.mono g2.st
    obtain ⟨⟨ek, ds, hk, h8, rfl⟩, hz, q3⟩ := q2
    obtain ⟨c, xs', rfl, hcq, _⟩ := rk.tupV
    obtain ⟨xs, ho, hpr⟩ := id hc2
    have hl : xs.length = kvs.length := Paired.length hpr
    refine ⟨p, c, xs, ek, rfl, rfl, ?_, ?_, ⟨_, rk.mono g2.ok.sub, hk, h8⟩, by rw [hl]; exact small_lt hz, fun u ru => ?_⟩
    · subst ho
      exact .inl hp2
    · exact row_keys g2.ok.sub hpr
    · obtain ⟨ga, ea⟩ := dct_go (o2 := HN w' p (storedH xs ek c u)) (c2 := .dn w' (putN kvs (.tuple ds) dvv)) o (g0.trans o g12) e2 q0 hσ hp2 hc2 hS2 h0 hb hu ⟨_, rfl, row_put hk h8 rk (rv.mono g2.st) ru hpr⟩
      exact x.nx S2 _ _ _ ga (em.trans g12.st) ea q3
  · exact q.elim
/-- sorted(x), x by tuples -/
noncomputable def dnSortedN (w : World) (i : Nat) : DA := fun δ R => match δ[i]? with
  | some (some (.dct (.dn w' kvs))) => w' = w ∧ (AllAlike (kvs.map (·.1)) ∧ Sortable (kvs.map (·.1)) ∧ ∀ d ∈ kvs.map (·.1), d.depth ≤ 50) ∧ R (sortD (kvs.map (·.1)))
  | _ => False
theorem rows_each {S : Hp} : ∀ {xs : List NRow} {kvs : List (PyData × PyData)}, Paired (RowR K S) xs kvs → EachIs (fun r d => Rep K S (.ref r) d) (xs.map (·.2.1)) (kvs.map (·.1))
  | _, _, .nil => .nil
  | _, _, .cons h t => .cons h.1.1 (rows_each t)
theorem each_mem_of {α : Type} {R : α → PyData → Prop} : ∀ {us : List α} {ds : List PyData}, EachIs R us ds → ∀ u ∈ us, ∃ d ∈ ds, R u d
  | _, _, .nil, u, h => by cases h
  | _, _, .cons (b := e) h t, u, hu => by
    rcases List.mem_cons.mp hu with rfl | hu
    · exact ⟨e, List.mem_cons_self .., h⟩
    · obtain ⟨d, h1, h2⟩ := each_mem_of t u hu
      exact ⟨d, List.mem_cons_of_mem _ h1, h2⟩
theorem sim_nSortedN {w : World} {i : Nat} : SimN K ib b (tCB (rSortedN K w) (tCons (tVar i) tNil)) (dnSortedN w i) := by
  intro H0 S H σ δ R Q o e h k
  unfold dnSortedN at h
  split at h
  · rename_i w' kvs q0
    obtain ⟨rfl, ⟨h1, h2, h3⟩, q⟩ := h
    obtain ⟨p, ob, hσ, hp, ⟨xs, ho, hpr⟩, hS, h0, hb, hu⟩ := e.dct i _ q0
    refine ⟨_, hσ, p, xs, _, fun v d => Rep K S v d, rfl, ?_, fun v d r => r.mono o.sub, rows_each hpr, h1, h2, h3, fun ys p' hy hp' => ?_⟩
    · subst ho
      exact .inl hp
    · exact k S _ p' ys _ (Go.laidOwn o hp') upd_same (reps_of_each (fun v d r => r) hy) (Ex.none_of o.sub hp') hp' q
  · exact h.elim
/-! by texts -/
/-- k in x, k not in x -/
def dInK (neg : Bool) (i : Nat) (dk : DE) : DE := fun δ R => dk δ fun k => match k, δ[i]? with
  | .str x, some (some (.dct (.dk kvs))) => R (.bool (if neg then !(kvs.any fun p => decide (p.1 = x)) else kvs.any fun p => decide (p.1 = x)))
  | _, _ => False
theorem sim_inK {i : Nat} (h1 : SimE K ib b tk dk) : SimE K ib b (tDIn tk (tVar i)) (dInK false i dk) := by
  intro H0 S H σ δ R Q o e h k
  refine h1 H0 S H σ δ _ _ o e h fun S1 H1 v d g r q => ?_
  split at q
  · rename_i x kvs q0
    obtain ⟨p, ob, hσ, hp, ⟨vs, rfl, hpr⟩, _⟩ := (e.go g).dct i _ q0
    refine ⟨_, hσ, p, valV vs (.inr x), rfl, by rw [r.strV]; exact DGet.k (k := .inr x) hp, ?_⟩
    rw [txt_some hpr]
    exact k S1 H1 _ _ g (.bl _) q
  · exact q.elim
theorem sim_notInK {i : Nat} (h1 : SimE K ib b tk dk) : SimE K ib b (tDNotIn tk (tVar i)) (dInK true i dk) := by
  intro H0 S H σ δ R Q o e h k
  refine h1 H0 S H σ δ _ _ o e h fun S1 H1 v d g r q => ?_
  split at q
  · rename_i x kvs q0
    obtain ⟨p, ob, hσ, hp, ⟨vs, rfl, hpr⟩, _⟩ := (e.go g).dct i _ q0
    refine ⟨_, hσ, p, valV vs (.inr x), rfl, by rw [r.strV]; exact DGet.k (k := .inr x) hp, ?_⟩
    rw [txt_some hpr]
    exact k S1 H1 _ _ g (.bl _) q
  · exact q.elim
/-- x[k] -/
def dGetK (i : Nat) (dk : DE) : DE := fun δ R => match δ[i]? with
  | some (some (.dct (.dk kvs))) => dk δ fun k => match k with
    | .str x => ∃ d, getKs kvs x = some d ∧ R d
    | _ => False
  | _ => False
theorem sim_getK {i : Nat} (h1 : SimE K ib b tk dk) : SimE K ib b (tDGet (tVar i) tk) (dGetK i dk) := by
  intro H0 S H σ δ R Q o e h k
  unfold dGetK at h
  split at h
  · rename_i kvs q0
    obtain ⟨p, ob, hσ, hp, ⟨vs, rfl, hpr⟩, hS, h0, hb, hu⟩ := e.dct i _ q0
    refine ⟨_, hσ, ?_⟩
    refine h1 H0 S H σ δ _ _ o e h fun S1 H1 v d g r q => ?_
    split at q
    · rename_i x
      obtain ⟨d, hd, q⟩ := q
      obtain ⟨u, hu1, hu2⟩ := txt_val hpr hd
      have hp1 := g.keep p _ hb hp
      refine ⟨p, u, rfl, ?_, k S1 H1 _ _ g (hu2.mono g.st) q⟩
      rw [r.strV, ← hu1]
      exact DGet.k (k := .inr x) hp1
    · exact q.elim
  · exact h.elim
/-- x[k] = v -/
def dPutK (i : Nat) (dk dv : DE) : DS := fun DD δ => dv δ fun v => match δ[i]? with
  | some (some (.dct (.dk kvs))) => dk δ fun k => match k with
    | .str x => small (kvs.length + 1) = true ∧ DD.nx (δ.set i (some (.dct (.dk (putKs kvs x v)))))
    | _ => False
  | _ => False
theorem sim_putK {i : Nat} (h1 : SimE K ib b tk dk) (h2 : SimE K ib b tv dv) : SimS K ib b (sDPut (tVar i) tk tv) (dPutK i dk dv) := by
  intro S0 H0 Sm S H σ δ D DD o em g0 e h x
  refine h2 H0 S H σ δ _ _ g0.ok e h fun S1 H1 v dvv g1 rv q => ?_
  have e1 := e.go g1
  split at q
  · rename_i kvs q0
    obtain ⟨p, ob, hσ, hp, hc, hS, h0, hb, hu⟩ := e1.dct i _ q0
    refine ⟨_, hσ, ?_⟩
    refine h1 H0 S1 H1 σ δ _ _ g1.ok e1 q fun S2 H2 kv dkk g2 rk q2 => ?_
    have g12 := g1.trans g0.ok g2
    have e2 := e1.go g2
    have hp2 := g2.keep p _ hb hp
    have hS2 := g2.new p (by rw [hp]; exact Option.some_ne_none _) hS
    have hc2 := hc.mono g2.st
    split at q2
    · rename_i y
      obtain ⟨hz, q3⟩ := q2
      obtain ⟨vs, rfl, hpr⟩ := id hc2
      have hl : vs.length = kvs.length := Paired.length hpr
      refine ⟨p, _, rfl, by rw [rk.strV]; exact DPut.k (k := .inr y) hp2 (by rw [hl]; exact small_lt hz), ?_⟩
      obtain ⟨ga, ea⟩ := dct_go (o2 := .dK (putK vs (.inr y) v)) (c2 := .dk (putKs kvs y dvv)) o (g0.trans o g12) e2 q0 hσ hp2 hc2 hS2 h0 hb hu ⟨_, rfl, txt_put hpr (rv.mono g2.st)⟩
      exact x.nx S2 _ _ _ ga (em.trans g12.st) ea q3
    · exact q2.elim
  · exact q.elim
/-- sorted(x), x by texts, fewer than 64 -/
def rSortedK : List V → Hp → VK → Prop := fun xs H Q => ∃ (a : Addr) (kvs : List (Key × V)) (ks : List Str), xs = [.ref a] ∧ Rd H a (.dK kvs) ∧ kvs.map (·.1) = ks.map Sum.inr ∧ ks.length < 64 ∧
    ∀ ys p, ys.Perm ks → sortedS ys = true → H p = none → Q (.ref p) (upd H p (.lst (ys.map V.str)))
theorem cr_sortedK {X : Cx} (hcalm : X.calm = true) : CallR X (.builtin "sorted") rSortedK := call_sortedD hcalm
def dnSortedK (i : Nat) : DA := fun δ R => match δ[i]? with
  | some (some (.dct (.dk kvs))) => kvs.length < 64 ∧ ∀ ys : List Str, ys.Perm (kvs.map (·.1)) → sortedS ys = true → R (ys.map .str)
  | _ => False
theorem txt_keys {S : Hp} : ∀ {vs : List (Key × V)} {kvs : List (Str × PyData)}, Paired (TxtR K S) vs kvs → vs.map (·.1) = (kvs.map (·.1)).map Sum.inr
  | _, _, .nil => rfl
  | _, _, .cons h t => by rw [List.map_cons, List.map_cons, List.map_cons, h.1, txt_keys t]
theorem sim_nSortedK {i : Nat} : SimN K ib b (tCB rSortedK (tCons (tVar i) tNil)) (dnSortedK i) := by
  intro H0 S H σ δ R Q o e h k
  unfold dnSortedK at h
  split at h
  · rename_i kvs q0
    obtain ⟨hl, q⟩ := h
    obtain ⟨p, ob, hσ, hp, ⟨vs, rfl, hpr⟩, hS, h0, hb, hu⟩ := e.dct i _ q0
    refine ⟨_, hσ, p, vs, kvs.map (·.1), rfl, .inl hp, txt_keys hpr, by rw [List.length_map]; exact hl, fun ys p' h1 h2 hp' => ?_⟩
    exact k S _ p' _ _ (Go.laidOwn o hp') upd_same (Reps.of_strs ys) (Ex.none_of o.sub hp') hp' (q ys h1 h2)
  · exact h.elim
end
end DL

/-! list(x) as a new list; a, b = x, a new list; clear. -/
namespace DL
open PySem PySem.Spec PyProof.Rows L2
open Evl (Ex ex_l ex_t)
variable [TheW]
theorem u1 {A : Around} (h : A.units + 64 < cLine) : A.units + 1 < cLine := by omega
theorem u16 {A : Around} (h : A.units + 64 < cLine) : A.units + 16 < cLine := by omega
section
variable {K : PySem.W.Frag} {ib : Option Nat} {b : Bg} {te ta tb tk tv : TE} {de da db dk dv : DE} {t : TA} {d dn : DA}
def dnListOf (de : DE) : DA := fun δ R => de δ fun x => match itemsOf x with
  | some xs => R xs
  | none => False
theorem sim_nListOf (h1 : SimE K ib b te de) : SimN K ib b (tCB (rListOf K) (tCons te tNil)) (dnListOf de) := by
  intro H0 S H σ δ R Q o e h k
  refine h1 H0 S H σ δ _ _ o e h fun S1 H1 v d g r q => ?_
  split at q
  · rename_i xs ei
    obtain ⟨a, vs, rfl, hq, rs⟩ := r.items ei
    refine ⟨a, vs, rfl, ?_, fun p hp => ?_⟩
    · rcases hq with hq | hq
      · exact .inl (ex_l g.ok.sub hq)
      · exact .inr (ex_t g.ok.sub hq)
    · exact k S1 _ p vs xs (g.trans o (Go.laidOwn g.ok hp)) upd_same rs (Ex.none_of g.ok.sub hp) (g.fresh o hp) q
  · exact q.elim
/-- a, b = x, a new list -/
def dParN (i j : Nat) (da : DE) (dn : DA) : DS := fun DD δ => da δ fun x => dn δ fun ys => DD.nx ((δ.set i (some (.dat x))).set j (some (.own ys)))
theorem sim_parN {i j : Nat} (hi : ib ≠ some i) (hj : ib ≠ some j) (hij : i ≠ j) (h1 : SimE K ib b ta da) (h2 : SimN K ib b tb dn) : SimS K ib b (tPar i j (tCons ta (tCons tb tNil))) (dParN i j da dn) := by
  intro S0 H0 Sm S H σ δ D DD o em g0 e h x
  refine h1 H0 S H σ δ _ _ g0.ok e h fun S1 H1 v dv g1 r q => ?_
  have e1 := e.go g1
  refine h2 H0 S1 H1 σ δ _ _ g1.ok e1 q fun S2 H2 p xs es g2 hp rs hS hn q2 => ?_
  have g12 := g1.trans g0.ok g2
  have g02 := g0.trans o g12
  refine ⟨v, .ref p, rfl, ?_⟩
  have e2 := (e1.go g2).set hi (r.mono g2.st)
  refine x.nx S2 _ _ _ g02 (em.trans g12.st) (e2.setOwn hj hp rs hS (g0.fresh o (g1.fresh g0.ok hn)) (fun z w => ?_) (fun m fs hm a1 a2 => ?_)) q2
  · exact (g1.ok.bag z).tr (w ▸ hn)
  · by_cases hmi : m = i
    · subst hmi
      have hlt : m < δ.length := by
        obtain ⟨w, _⟩ := List.getElem?_eq_some_iff.mp a1
        rwa [List.length_set] at w
      rw [List.getElem?_set_self hlt] at a1
      cases a1
    · rw [List.getElem?_set_ne (Ne.symm hmi)] at a1 a2
      obtain ⟨p', xs', b1, b2, _⟩ := e1.own m fs a1
      rw [b1] at a2
      have : p' = p := V.ref.inj (Option.some.inj (Option.some.inj a2))
      rw [this, hn] at b2
      cases b2
/-- x.clear() -/
def dClear (i : Nat) : DS := fun DD δ => match δ[i]? with
  | some (some (.own _)) => DD.nx (δ.set i (some (.own [])))
  | _ => False
theorem sim_clear {i : Nat} (hi : ib ≠ some i) : SimS K ib b (tDrop (tBM0 K "list" rClear (tVar i))) (dClear i) := by
  intro S0 H0 Sm S H σ δ D DD o em g0 e h x
  unfold dClear at h
  split at h
  · rename_i ds q0
    obtain ⟨p, xs, hσ, hp, hr, hS, h0, hb, hu⟩ := e.own i ds q0
    obtain ⟨ga, ea⟩ := setOwn_go (ys := []) hi o g0 e q0 hσ hp hS h0 hb hu Reps.nil
    exact ⟨_, hσ, .inl ⟨rfl, xs, .inl (.inl hp)⟩, p, xs, rfl, rfl, hp, x.nx S _ _ _ ga em ea h⟩
  · exact h.elim
end
end DL

/-! Dicts by flat tuples as data: x.get(key, z). -/
namespace DL
open PySem PySem.Spec PyProof.Rows L2
open Evl (Ex ex_l ex_t)
variable [TheW]
section
variable {X : Cx} {pins : List (Addr × Obj)} {σ : L2.St} {H : Hp} {s : Shared} {a b : Addr} {xs : List NRow} {k : NestedKey} {d : V} {r : Value} {A : Around} {E : Value → Shared → Prop}
/-- a dict by tuples in one another that stands -/
def HasN (K : PySem.W.Frag) (H : Hp) (a : Addr) (xs : List NRow) : Prop := NHas TheW.w H a xs ∧ ∀ r ∈ xs, KeyV K H r.2.1 r.1
theorem hasN_at (hw : TheW.w = X.w) (I : Inv X pins σ H s) (h : HasN X.K H a xs) : (a == sysModules) = false ∧ s.heap.DictOfH (nestedKind X.prog X.w) a xs := by
  have n : NAt X.w a xs s.heap := nhas_at I (hw ▸ h.1)
  exact ⟨n.1, n.ofH (P := X.prog) fun r hr => keyV_at I (h.2 r hr)⟩
def ValN (xs : List NRow) (k : NestedKey) (z v : V) : Prop := match (atKey xs k).map (·.2) with
  | some u => RelV v u
  | none => v = z
theorem g_get2N {Q : Value → Shared → Prop} {z : V} (hw : TheW.w = X.w) (hu : A.units + 16 < cLine) (I : Inv X pins σ H s) (g : HasN X.K H a xs) (hk : KeyV X.K H b k) (rd : RelV z r) (hv : ValN xs k z d) (h : ∀ w' s', Inv X pins σ H s' → RelV d w' → Q w' s') :
    wpAny (model X.prog X.w) A (call (.builtin "dict.get") [.ref a, .ref b, r]) Q E s := by
  obtain ⟨hd, dd⟩ := hasN_at hw I g
  refine call_meetsIn PySem.F.slot_dict_get dd.typeIs PySem.F.entry_dict_get (PySem.F.args_dict_get_3 _ _ _) (meetsH_dict_get_default (nestedKind X.prog X.w) a b hd r) ⟨?_, k, xs, keyV_at I hk, dd, h _ _ (I.tok _) ?_⟩
  · show A.units + 1 + 8 < cLine
    omega
  · unfold ValN at hv
    cases e : (atKey xs k).map (·.2) with
    | some u => rw [e] at hv; exact hv
    | none => rw [e] at hv; rw [hv]; exact rd
theorem g_idxN {Q : Value → Shared → Prop} {u : Value} (hw : TheW.w = X.w) (hu : A.units + 16 < cLine) (I : Inv X pins σ H s) (g : HasN X.K H a xs) (hk : KeyV X.K H b k) (e : (atKey xs k).map (·.2) = some u) (hv : RelV d u) (h : ∀ w' s', Inv X pins σ H s' → RelV d w' → Q w' s') :
    wpAny (model X.prog X.w) A (getItem (.ref a) (.ref b)) Q E s := by
  obtain ⟨hd, dd⟩ := hasN_at hw I g
  obtain ⟨p, hp, hp2⟩ := Option.map_eq_some_iff.mp e
  refine wpAny_getItem_heap (knd := nestedKind X.prog X.w) ?_ (keyV_at I hk) dd hp ?_
  · show A.units + 1 + 8 < cLine
    omega
  · rw [hp2]
    exact h u _ (I.tok _) hv
theorem isDN_at (hw : TheW.w = X.w) (I : Inv X pins σ H s) (d : HasN X.K H a xs) :
    s.TypeIs (.ref a) "dict" ∧ (∀ b, Value.ref a = .ref b → ∃ ob, s.heap.get? b = some ob ∧ ob.dict = none) ∧ (a == sysModules) = false := by
  obtain ⟨n1, ⟨es, ep, ⟨o, ho, hx, hd⟩, n3⟩, n4, n5⟩ : NAt X.w a xs s.heap := nhas_at I (hw ▸ d.1)
  refine ⟨⟨o, ho, hx.1⟩, fun b q => ?_, n1⟩
  cases q
  exact ⟨o, ho, hx.2.1⟩
end
/-- x.get(y, z), x by tuples in one another -/
def tGet2 (K : PySem.W.Frag) (td ty tx : TE) : TE := fun σ H Q => td σ H fun x H1 => ∃ a, x = .ref a ∧ (∃ xs, HasN K H1 a xs) ∧ ty σ H1 fun y H2 => tx σ H2 fun z H3 =>
  ∃ xs k b v, y = .ref b ∧ KeyV K H3 b k ∧ HasN K H3 a xs ∧ ValN xs k z v ∧ Q v H3
theorem pe_get2 {X : Cx} {o e f : Expr} {apos cpos : Pos} {td ty tx : TE} (hw : TheW.w = X.w) (hu : X.A.units + 16 < cLine) (ho : PE X o td) (he : PE X e ty) (hf : PE X f tx) (m : M2 X o "get" apos e f cpos) :
    PE X (.Call (.Attribute o "get" apos) [e, f] [] cpos) (tGet2 X.K td ty tx) := by
  refine ⟨fun pins s σ H Q I h => ?_⟩
  refine wpAny_Call_method m.base m.few m.line PySem.F.plainAttrs_dict PySem.F.slot_dict_get PySem.F.type_dict_get (thn (ho.run pins s σ H _ I h) fun u s1 ⟨x, H1, I1, rx, a, ex, ⟨xs0, d⟩, q1⟩ => ?_)
  subst ex
  obtain rfl : u = Value.ref a := rx
  obtain ⟨t1, t2, _⟩ := isDN_at hw I1 d
  refine ⟨t1, t2, ?_⟩
  rw [m.trees]
  refine Calls.callWith_builtin rfl (Calls.evalArgs_plain (Calls.spliced_cons (thn (he.run pins s1 σ H1 _ I1 q1) fun iv s2 ⟨y, H2, I2, ry, q2⟩ =>
    Calls.spliced_cons (thn (hf.run pins s2 σ H2 _ I2 q2) fun fv s3 ⟨z, H3, I3, rz, q3⟩ => Calls.spliced_nil ?_))))
  obtain ⟨xs, k, b, v, ey, hk, g, hv, q3⟩ := q3
  subst ey
  obtain rfl : iv = Value.ref b := ry
  exact g_get2N hw hu I3 g hk rz hv fun w' s4 I4 rw' => ⟨_, H3, I4, rw', q3⟩
/-- x[y], x by tuples in one another -/
def tIdxN (K : PySem.W.Frag) (td ty : TE) : TE := fun σ H Q => td σ H fun x H1 => ty σ H1 fun y H2 => ∃ a xs k b u v, x = .ref a ∧ y = .ref b ∧ KeyV K H2 b k ∧ HasN K H2 a xs ∧ (atKey xs k).map (·.2) = some u ∧ RelV v u ∧ Q v H2
theorem pe_idxN {X : Cx} {o i : Expr} {pos : Pos} {td ty : TE} (hw : TheW.w = X.w) (hu : X.A.units + 16 < cLine) (ho : PE X o td) (hi : PE X i ty) (hs : NoSl i) : PE X (.Subscript o i pos) (tIdxN X.K td ty) := by
  refine ⟨fun pins s σ H Q I h => ?_⟩
  refine subD_of PySem.F.slot_dict_getitem.lookup hs (thn (ho.run pins s σ H _ I h) fun w1 s1 ⟨x, H1, I1, rx, q1⟩ => thn (hi.run pins s1 σ H1 _ I1 q1) fun iv s2 ⟨y, H2, I2, ry, a, xs, k, b, u, v, ex, ey, hk, g, e, ru, q2⟩ => ?_)
  subst ex ey
  obtain rfl : w1 = Value.ref a := rx
  obtain rfl : iv = Value.ref b := ry
  exact ⟨(isDN_at hw I2 g).1, g_idxN hw hu I2 g hk e ru fun w' s3 I3 rw' => ⟨v, H2, I3, rw', q2⟩⟩
/-! over data -/
/-- no key is a text or an integer -/
def tupKeys (kvs : List (PyData × PyData)) : Bool := kvs.all fun p => match p.1 with
  | .tuple _ => true
  | _ => false
def getT (kvs : List (PyData × PyData)) (k : PyData) : Option PyData := (kvs.find? fun p => decide (nk p.1 = nk k)).map (·.2)
def dGet2 (dd dk dz : DE) : DE := fun δ R => dd δ fun x => match x with
  | .dict kvs => tupKeys kvs = true ∧ dk δ fun k => dz δ fun z => match k with
    | .tuple ds => (∃ e, nk (.tuple ds) = some e ∧ e.depth ≤ 8) ∧ R ((getT kvs (.tuple ds)).getD z)
    | _ => False
  | _ => False
def dIdxN (dd dk : DE) : DE := fun δ R => dd δ fun x => match x with
  | .dict kvs => tupKeys kvs = true ∧ dk δ fun k => match k with
    | .tuple ds => (∃ e, nk (.tuple ds) = some e ∧ e.depth ≤ 8) ∧ ∃ v, getT kvs (.tuple ds) = some v ∧ R v
    | _ => False
  | _ => False
section
variable {K : PySem.W.Frag} {ib : Option Nat} {b : Bg} {td tk tz : TE} {dd dk dz : DE}
theorem get_repN {S : Hp} {e : NestedKey} {k : PyData} (he : nk k = some e) {z : V} {dzz : PyData} (rz : Rep K S z dzz) : ∀ {xs : List NRow} {ks ds : List PyData} {vs : List V}, ks.map nk = xs.map (fun x => some x.1) → Reps K S vs ds → Vals vs (xs.map (·.2.2)) →
    ∃ v, ValN xs e z v ∧ Rep K S v ((getT (ks.zip ds) k).getD dzz)
  | [], [], _, _, _, .nil, .nil => ⟨z, rfl, rz⟩
  | _ :: _, _ :: _, [], _, _, r, tv => by
    cases r
    cases tv
  | x :: xs, q :: ks, d :: ds, v :: vs, h, .cons r t, .cons rv tv => by
    rw [List.map_cons, List.map_cons, List.cons.injEq] at h
    unfold ValN getT atKey
    rw [List.zip_cons_cons]
    by_cases c : x.1 = e
    · refine ⟨v, ?_, ?_⟩
      · rw [List.find?_cons_of_pos (by simp [c])]
        exact rv
      · rw [List.find?_cons_of_pos (by simp [h.1, he, c])]
        exact r
    · obtain ⟨v', h1, h2⟩ := get_repN he rz h.2 t tv
      unfold ValN atKey at h1
      unfold getT at h2
      refine ⟨v', ?_, ?_⟩
      · rw [List.find?_cons_of_neg (by simp [c])]
        exact h1
      · rw [List.find?_cons_of_neg (by simp [h.1, he, c])]
        exact h2
theorem get_someN {S : Hp} {e : NestedKey} {k : PyData} (he : nk k = some e) : ∀ {xs : List NRow} {ks ds : List PyData} {vs : List V} {d : PyData}, getT (ks.zip ds) k = some d → ks.map nk = xs.map (fun x => some x.1) → Reps K S vs ds → Vals vs (xs.map (·.2.2)) →
    ∃ v u, (atKey xs e).map (·.2) = some u ∧ RelV v u ∧ Rep K S v d
  | [], [], _, _, _, g, _, .nil, .nil => by cases g
  | _ :: _, _ :: _, [], _, _, g, _, r, tv => by
    cases r
    cases tv
  | x :: xs, q :: ks, d :: ds, v :: vs, d', g, h, .cons r t, .cons rv tv => by
    rw [List.map_cons, List.map_cons, List.cons.injEq] at h
    unfold getT at g
    rw [List.zip_cons_cons] at g
    unfold atKey
    by_cases c : x.1 = e
    · rw [List.find?_cons_of_pos (by simp [h.1, he, c])] at g
      cases g
      exact ⟨v, x.2.2, by rw [List.find?_cons_of_pos (by simp [c])]; rfl, rv, r⟩
    · rw [List.find?_cons_of_neg (by simp [h.1, he, c])] at g
      obtain ⟨v', u, h1, h2, h3⟩ := get_someN he g h.2 t tv
      unfold atKey at h1
      exact ⟨v', u, by rw [List.find?_cons_of_neg (by simp [c])]; exact h1, h2, h3⟩
theorem rows_keyV {S H : Hp} (ex : Ex S H) : ∀ {xs : List NRow} {ks : List PyData}, ks.map nk = xs.map (fun x => some x.1) → (∀ x ∈ xs, x.1.depth ≤ 8) → Reps K S (xs.map fun x => V.ref x.2.1) ks → ∀ r ∈ xs, KeyV K H r.2.1 r.1
  | [], _, _, _, _, r, hr => by cases hr
  | x :: xs, q :: ks, h, h8, .cons rr t, r, hr => by
    rw [List.map_cons, List.map_cons, List.cons.injEq] at h
    rcases List.mem_cons.mp hr with rfl | hr
    · exact ⟨q, rr.mono ex, h.1, h8 _ (List.mem_cons_self ..)⟩
    · exact rows_keyV ex h.2 (fun y hy => h8 y (List.mem_cons_of_mem _ hy)) t r hr
/-- a dict with tuples as keys, as it stands -/
theorem dict_cases {S : Hp} {v : V} {kvs : List (PyData × PyData)} (r : Rep K S v (.dict kvs)) (ht : tupKeys kvs = true) :
    ∃ (a : Addr) (xs : List NRow) (vs : List V) (ks ds : List PyData), v = .ref a ∧ kvs = ks.zip ds ∧ NHas TheW.w S a xs ∧ ks.map nk = xs.map (fun x => some x.1) ∧ (∀ x ∈ xs, x.1.depth ≤ 8) ∧ Reps K S (xs.map fun x => V.ref x.2.1) ks ∧ Reps K S vs ds ∧ Vals vs (xs.map (·.2.2)) := by
  cases r with
  | dK hS rr =>
    rename_i kvs2 ds
    cases kvs2 with
    | nil =>
      cases rr
      exact ⟨_, [], [], [], [], rfl, rfl, .inr (.inl ⟨rfl, hS⟩), rfl, fun x hx => (by cases hx), .nil, .nil, .nil⟩
    | cons p r =>
      cases rr with
      | cons hh tt =>
        rw [List.map_cons, List.zip_cons_cons] at ht
        unfold tupKeys at ht
        rw [List.all_cons] at ht
        obtain ⟨p1, p2⟩ := p
        cases p1 <;> simp [keyD] at ht
  | dF nn hS rr =>
    rename_i kvs2 ds od
    cases kvs2 with
    | nil => exact absurd rfl nn
    | cons p r =>
      cases rr with
      | cons hh tt =>
        rw [List.map_cons, List.zip_cons_cons] at ht
        unfold tupKeys at ht
        rw [List.all_cons] at ht
        obtain ⟨p1, p2⟩ := p
        cases p1 <;> simp [keyD] at ht
  | dN hS ek h8 q1 q2 vv => exact ⟨_, _, _, _, _, rfl, rfl, .inr (.inr ⟨_, hS⟩), ek, h8, q1, q2, vv⟩
theorem NHas.mono {S H : Hp} (ex : Ex S H) {a : Addr} {xs : List NRow} (h : NHas TheW.w S a xs) : NHas TheW.w H a xs := h.imp (ex _ _) fun z => z.imp (fun z => ⟨z.1, ex _ _ z.2⟩) fun ⟨o, z⟩ => ⟨o, ex _ _ z⟩
theorem sim_get2 (h1 : SimE K ib b td dd) (h2 : SimE K ib b tk dk) (h3 : SimE K ib b tz dz) : SimE K ib b (tGet2 K td tk tz) (dGet2 dd dk dz) := by
  intro H0 S H σ δ R Q o e h kk
  refine h1 H0 S H σ δ _ _ o e h fun S1 H1 v d g1 r1 q => ?_
  split at q
  · rename_i kvs
    obtain ⟨fl, q⟩ := q
    have e1 := e.go g1
    obtain ⟨a, xs, vs, ks, ds, rfl, hz, hS, ek, h8, q1, qv, vv⟩ := dict_cases r1 fl
    refine ⟨a, rfl, ⟨xs, hS.mono g1.ok.sub, rows_keyV g1.ok.sub ek h8 q1⟩, ?_⟩
    refine h2 H0 S1 H1 σ δ _ _ g1.ok e1 q fun S2 H2 y dkk g2 r2 q2 => ?_
    refine h3 H0 S2 H2 σ δ _ _ g2.ok (e1.go g2) q2 fun S3 H3 z dzz g3 r3 q3 => ?_
    split at q3
    · rename_i ks'
      obtain ⟨⟨k, hk, k8⟩, q3⟩ := q3
      have rk := (r2.mono g3.st).mono g3.ok.sub
      obtain ⟨c, _, rfl, _, _⟩ := rk.tupV
      have gg := (g1.trans o g2).trans o g3
      have st13 : Ex S1 S3 := fun a u q => g3.st _ _ (g2.st _ _ q)
      have st1H : Ex S1 H3 := fun a u q => g3.ok.sub _ _ (st13 _ _ q)
      obtain ⟨v, hv, rv⟩ := get_repN hk r3 ek (qv.mono st13) vv
      refine ⟨xs, k, c, v, rfl, ⟨_, rk, hk, k8⟩, ⟨hS.mono st1H, rows_keyV st1H ek h8 q1⟩, hv, ?_⟩
      refine kk S3 H3 _ _ gg ?_ q3
      rw [hz]
      exact rv
    · exact q3.elim
  · exact q.elim
theorem sim_idxN (h1 : SimE K ib b td dd) (h2 : SimE K ib b tk dk) : SimE K ib b (tIdxN K td tk) (dIdxN dd dk) := by
  intro H0 S H σ δ R Q o e h kk
  refine h1 H0 S H σ δ _ _ o e h fun S1 H1 v d g1 r1 q => ?_
  split at q
  · rename_i kvs
    obtain ⟨fl, q⟩ := q
    have e1 := e.go g1
    obtain ⟨a, xs, vs, ks, ds, rfl, hz, hS, ek, h8, q1, qv, vv⟩ := dict_cases r1 fl
    refine h2 H0 S1 H1 σ δ _ _ g1.ok e1 q fun S2 H2 y dkk g2 r2 q2 => ?_
    split at q2
    · rename_i ks'
      obtain ⟨⟨k, hk, k8⟩, dv, hg, q3⟩ := q2
      have rk := r2.mono g2.ok.sub
      obtain ⟨c, _, rfl, _, _⟩ := rk.tupV
      have gg := g1.trans o g2
      have st1H : Ex S1 H2 := fun a u q => g2.ok.sub _ _ (g2.st _ _ q)
      obtain ⟨v, u, hv, ru, rv⟩ := get_someN hk (hz ▸ hg) ek (qv.mono g2.st) vv
      exact ⟨a, xs, k, c, u, v, rfl, rfl, ⟨_, rk, hk, k8⟩, ⟨hS.mono st1H, rows_keyV st1H ek h8 q1⟩, hv, ru, kk S2 H2 _ _ gg rv q3⟩
    · exact q2.elim
  · exact q.elim
end
end DL

/-! A dict of one's own (by tuples in one another) stands still: from now on, or for a while. -/
namespace DL
open PySem PySem.Spec PyProof.Rows L2
open Evl (Ex ex_l ex_t)
variable [TheW]
def NotTup (u : HO) : Prop := (∀ xs, u ≠ .tup xs) ∧ ∀ ob xs, u ≠ .frz ob (.tup xs)
section
variable {K : PySem.W.Frag} {S : Hp} {p : Addr} {u : HO}
theorem SqT.dropU (hp : S p = some u) (hu : NotTup u) {a : Addr} {xs : List V} (h : SqT K S a xs) : SqT K (cutH S p) a xs := by
  rcases h with (h | ⟨ob, h⟩) | h
  · refine .inl (.inl ?_)
    rw [cutH_ne]
    · exact h
    · intro z
      rw [z, hp] at h
      exact hu.1 _ (Option.some.inj h)
  · refine .inl (.inr ⟨ob, ?_⟩)
    rw [cutH_ne]
    · exact h
    · intro z
      rw [z, hp] at h
      exact hu.2 _ _ (Option.some.inj h)
  · exact .inr h
mutual
theorem Rep.dropU (hp : S p = some u) (hu : NotTup u) : ∀ {v : V} {d : PyData}, Rep K S v d → tupOnly d = true → Rep K (cutH S p) v d
  | _, _, .non, _ => .non
  | _, _, .bl b, _ => .bl b
  | _, _, .int b, _ => .int b
  | _, _, .str b, _ => .str b
  | _, _, .tup h q, t => .tup (SqT.dropU hp hu h) (Reps.dropU hp hu q t)
  | _, _, .lst h q, t => absurd t Bool.false_ne_true
  | _, _, .dK h q, t => absurd t Bool.false_ne_true
  | _, _, .dN _ _ _ _ _ _, t => absurd t Bool.false_ne_true
  | _, _, .dF _ _ _, t => absurd t Bool.false_ne_true
theorem Reps.dropU (hp : S p = some u) (hu : NotTup u) : ∀ {vs : List V} {ds : List PyData}, Reps K S vs ds → tupOnlyAll ds = true → Reps K (cutH S p) vs ds
  | _, _, .nil, _ => .nil
  | _, _, .cons r q, t => by
    have t := (Bool.and_eq_true _ _ ▸ t : _ ∧ _)
    exact .cons (Rep.dropU hp hu r t.1) (Reps.dropU hp hu q t.2)
end
theorem zip_self {α β : Type} : ∀ l : List (α × β), (l.map (·.1)).zip (l.map (·.2)) = l
  | [] => rfl
  | p :: r => by
    rw [List.map_cons, List.map_cons, List.zip_cons_cons, zip_self r]
/-- such a dict as data -/
theorem rows_reps : ∀ {xs : List NRow} {kvs : List (PyData × PyData)}, Paired (RowR K S) xs kvs →
    (kvs.map (·.1)).map nk = xs.map (fun x => some x.1) ∧ (∀ x ∈ xs, x.1.depth ≤ 8) ∧ Reps K S (xs.map fun x => V.ref x.2.1) (kvs.map (·.1)) ∧ ∃ vs, Reps K S vs (kvs.map (·.2)) ∧ Vals vs (xs.map (·.2.2))
  | _, _, .nil => ⟨rfl, fun x hx => (by cases hx), .nil, [], .nil, .nil⟩
  | _, _, .cons h t => by
    obtain ⟨⟨h1, h2, h3⟩, v, h4, h5⟩ := h
    obtain ⟨i1, i2, i3, vs, i4, i5⟩ := rows_reps t
    refine ⟨?_, ?_, .cons h1 i3, v :: vs, .cons h4 i4, .cons h5 i5⟩
    · simp only [List.map_cons, h2, i1]
    · intro x hx
      rcases List.mem_cons.mp hx with rfl | hx
      · exact h3
      · exact i2 x hx
end
/-! the dict is known to its object: from now on; or for a while -/
section
variable {X : Cx} {pins : List (Addr × Obj)} {σ : L2.St} {H : Hp} {s : Shared} {d : Addr} {w : World} {xs : List NRow}
theorem pinN (I : Inv X pins σ H s) (h : H d = some (HN w d xs)) : ∃ od, Inv X pins σ (upd H d (HP w d xs od)) s := by
  have n := (show ObjOk X.prog X.w H s.heap d (HN w d xs) from I.hok d _ h).1
  obtain ⟨n1, ⟨es, ep, ⟨o, ho, hx, hd⟩, n3⟩, n4, n5⟩ := id n
  have new : ObjOk X.prog X.w (upd H d (HP w d xs o)) s.heap d (HP w d xs o) := by
    refine ⟨⟨n, ho⟩, ⟨o, ho⟩, ?_⟩
    rintro h1 h2 ⟨⟨m1, ⟨es', ep', m2, m3⟩, m4, m5⟩, e1⟩ k
    exact ⟨⟨m1, ⟨es', ep', m2.at k, m3⟩, m4, m5⟩, k _ e1⟩
  exact ⟨o, I.write (x := d) (e := d) (t' := s.toks) (h' := s.heap) (by rw [h]; exact True.intro) (.inl rfl) (fun b v _ q => q) ⟨o, ho⟩ new⟩
theorem unpinN {od : Obj} (I : Inv X pins σ H s) (h : H d = some (HP w d xs od)) : Inv X pins σ (upd H d (HN w d xs)) s := by
  obtain ⟨n, ho⟩ := (show ObjOk X.prog X.w H s.heap d (HP w d xs od) from I.hok d _ h).1
  have new : ObjOk X.prog X.w (upd H d (HN w d xs)) s.heap d (HN w d xs) := by
    refine ⟨n, ⟨od, ho⟩, ?_⟩
    rintro h1 h2 ⟨m1, ⟨es', ep', m2, m3⟩, m4, m5⟩ k
    exact ⟨m1, ⟨es', ep', m2.at k, m3⟩, m4, m5⟩
  exact I.write (x := d) (e := d) (t' := s.toks) (h' := s.heap) (by rw [h]; exact True.intro) (.inl rfl) (fun b v _ q => q) ⟨od, ho⟩ new
end
def tPin (t : TS) : TS := fun D σ H => ∃ d w xs, H d = some (HN w d xs) ∧ ∀ od, t D σ (upd H d (HP w d xs od))
def tPinE (t : TE) : TE := fun σ H Q => ∃ d w xs, H d = some (HN w d xs) ∧ ∀ od, t σ (upd H d (HP w d xs od)) fun v H' => H' d = some (HP w d xs od) ∧ Q v (upd H' d (HN w d xs))
theorem ps_pin {X : Cx} {st : Stmt} {t : TS} (h : PS X st t) : PS X st (tPin t) := by
  refine ⟨fun pins s σ H D I hw => ?_⟩
  obtain ⟨d, w, xs, hd, hw⟩ := hw
  obtain ⟨od, I1⟩ := pinN I hd
  exact h.run pins s σ _ _ I1 (hw od)
theorem pe_pin {X : Cx} {e : Expr} {t : TE} (h : PE X e t) : PE X e (tPinE t) := by
  refine ⟨fun pins s σ H Q I hw => ?_⟩
  obtain ⟨d, w, xs, hd, hw⟩ := hw
  obtain ⟨od, I1⟩ := pinN I hd
  refine thn (h.run pins s σ _ _ I1 (hw od)) fun v s1 ⟨x, H1, I2, r, e2, q⟩ => ?_
  exact ⟨x, _, unpinN I2 e2, r, q⟩
section
variable {K : PySem.W.Frag} {ib : Option Nat} {b : Bg} {te : TE} {de : DE} {dn : DA} {tt : TT} {dt : DT} {ts : TS} {ds : DS}
theorem hp_notTup {w : World} {p : Addr} {xs : List NRow} {od : Obj} : NotTup (HP w p xs od) := ⟨fun _ z => (by cases z), fun _ _ z => (by cases z)⟩
theorem pin_ok {H0 S H : Hp} {σ : L2.St} {δ : DEnv} {i : Nat} {kvs : List (PyData × PyData)} {p : Addr} {xs : List NRow} (o : Okk ib b S H) (e : EnvOk K ib b H0 S H σ δ) (q0 : δ[i]? = some (some (DV.dct (.dn TheW.w kvs))))
    (hσ : σ[i]? = some (some (V.ref p))) (hp : H p = some (HN TheW.w p xs)) (hr : Paired (RowR K S) xs kvs) (hS : S p = none) (hb : ib ≠ none → p ≠ b.1)
    (hu : ∀ (j : Nat) (c : Cont), δ[j]? = some (some (DV.dct c)) → σ[j]? = some (some (V.ref p)) → j = i) (od : Obj) :
    Okk ib b (upd S p (HP TheW.w p xs od)) (upd H p (HP TheW.w p xs od)) ∧ EnvOk K ib b H0 (upd S p (HP TheW.w p xs od)) (upd H p (HP TheW.w p xs od)) σ (δ.set i (some (.dat (.dict kvs)))) := by
  have ex : Ex S (upd S p (HP TheW.w p xs od)) := Ex.new hS
  have hlt : i < δ.length := (List.getElem?_eq_some_iff.mp q0).1
  refine ⟨⟨?_, fun z => by rw [upd_ne (Ne.symm (hb z))]; exact o.off z, fun z => ?_⟩, ?_⟩
  · intro a x q
    by_cases c : a = p
    · rw [c, upd_same] at q
      rw [c, upd_same]
      exact q
    · rw [upd_ne c] at q ⊢
      exact o.sub a x q
  · obtain ⟨r, m, k, ns, e1, ne, e2, rest⟩ := (o.bag z).ex
    have n2 : b.2 ≠ p := by
      intro w
      rw [w, hp] at e2
      cases e2
    exact ⟨r, m, k, ns, by rw [upd_ne (Ne.symm (hb z))]; exact e1, ne, by rw [upd_ne n2]; exact e2, rest⟩
  · have at_ : ∀ (j : Nat) (x : DV), j ≠ i → (δ.set i (some (DV.dat (.dict kvs))))[j]? = some (some x) → δ[j]? = some (some x) := by
      intro j x hj q
      rw [List.getElem?_set_ne (Ne.symm hj)] at q
      exact q
    have self : ∀ {j : Nat} {x : DV}, (δ.set i (some (DV.dat (.dict kvs))))[j]? = some (some x) → (∀ d, x ≠ .dat d) → j ≠ i ∧ δ[j]? = some (some x) := by
      intro j x q hx
      by_cases hj : j = i
      · subst hj
        rw [List.getElem?_set_self hlt] at q
        cases q
        exact absurd rfl (hx _)
      · exact ⟨hj, at_ j x hj q⟩
    refine ⟨by rw [List.length_set]; exact e.len, e.slot, fun j x q => ?_, fun j fs q => ?_, fun j a q => ?_, fun j c q => ?_⟩
    · by_cases hj : j = i
      · subst hj
        rw [List.getElem?_set_self hlt] at q
        cases q
        obtain ⟨i1, i2, i3, vs, i4, i5⟩ := rows_reps (Paired.mapP hr fun _ _ z => z.mono ex)
        refine ⟨_, hσ, ?_⟩
        rw [← zip_self kvs]
        exact .dN upd_same i1 i2 i3 i4 i5
      · obtain ⟨v, h1, h2⟩ := e.dat j x (at_ j _ hj q)
        exact ⟨v, h1, h2.mono ex⟩
    · obtain ⟨_, q⟩ := self q (by intro d z; cases z)
      obtain ⟨p', xs', h1, h2, h3, h4, h5, h6, h7⟩ := e.own j fs q
      have np : p' ≠ p := by
        intro w
        subst w
        rw [hp] at h2
        cases h2
      exact ⟨p', xs', h1, by rw [upd_ne np]; exact h2, h3.mono ex, by rw [upd_ne np]; exact h4, h5, h6, fun m gs a1 a2 => h7 m gs (self a1 (by intro d z; cases z)).2 a2⟩
    · exact e.fn j a (self q (by intro d z; cases z)).2
    · obtain ⟨hj, q⟩ := self q (by intro d z; cases z)
      obtain ⟨p', o', h1, h2, h3, h4, h5, h6, h7⟩ := e.dct j c q
      have np : p' ≠ p := fun w => hj (hu j c q (w ▸ h1))
      exact ⟨p', o', h1, by rw [upd_ne np]; exact h2, h3.mono ex, by rw [upd_ne np]; exact h4, h5, h6, fun m c' a1 a2 => h7 m c' (self a1 (by intro d z; cases z)).2 a2⟩
theorem pin_back {S H S2 H2 : Hp} {p : Addr} {xs : List NRow} {od : Obj} (o : Okk ib b S H) (hp : H p = some (HN TheW.w p xs)) (hS : S p = none) (hb : ib ≠ none → p ≠ b.1)
    (g : Go ib b (upd S p (HP TheW.w p xs od)) (upd H p (HP TheW.w p xs od)) S2 H2) : S2 p = some (HP TheW.w p xs od) ∧ H2 p = some (HP TheW.w p xs od) ∧ Go ib b S H (cutH S2 p) (upd H2 p (HN TheW.w p xs)) := by
  have e2 : S2 p = some (HP TheW.w p xs od) := g.st p _ upd_same
  have h2 : H2 p = some (HP TheW.w p xs od) := g.keep p _ hb upd_same
  refine ⟨e2, h2, ?_, ?_, ?_, ?_, ?_, ?_⟩
  · intro a u q
    have c : a ≠ p := ne_of_none q hS
    rw [cutH_ne c]
    exact g.st a u (by rw [upd_ne c]; exact q)
  · intro a x n q
    by_cases c : a = p
    · rw [c, hp] at q
      rw [c, upd_same]
      exact q
    · rw [upd_ne c]
      exact g.keep a x n (by rw [upd_ne c]; exact q)
  · intro a h1 h3
    by_cases c : a = p
    · rw [c]; exact cutH_same
    · rw [cutH_ne c]
      exact g.new a (by rw [upd_ne c]; exact h1) (by rw [upd_ne c]; exact h3)
  · intro a u q
    by_cases c : a = p
    · rw [c, cutH_same] at q
      cases q
    · rw [cutH_ne c] at q
      rw [upd_ne c]
      exact g.ok.sub a u q
  · intro z
    have := g.ok.off z
    rw [cutH_ne (Ne.symm (hb z))]
    exact this
  · intro z
    obtain ⟨r, m, k, ns, e1, ne, e3, rest⟩ := (g.ok.bag z).ex
    have n2 : b.2 ≠ p := by
      intro w
      rw [w, h2] at e3
      cases e3
    exact ⟨r, m, k, ns, by rw [upd_ne (Ne.symm (hb z))]; exact e1, ne, by rw [upd_ne n2]; exact e3, rest⟩
/-- from now on -/
def dFreezeD (i : Nat) (ds : DS) : DS := fun DD δ => match δ[i]? with
  | some (some (.dct (.dn w kvs))) => w = TheW.w ∧ ds DD (δ.set i (some (.dat (.dict kvs))))
  | _ => False
theorem sim_freezeD {i : Nat} (h1 : SimS K ib b ts ds) : SimS K ib b (tPin ts) (dFreezeD i ds) := by
  intro S0 H0 Sm S H σ δ D DD o em g e h x
  unfold dFreezeD at h
  split at h
  · rename_i w kvs q0
    obtain ⟨rfl, h⟩ := h
    obtain ⟨p, u, hσ, hp, ⟨xs, rfl, hr⟩, hS, h0, hb, hu⟩ := e.dct i _ q0
    refine ⟨p, _, xs, hp, fun od => ?_⟩
    obtain ⟨o1, e1⟩ := pin_ok g.ok e q0 hσ hp hr hS hb hu od
    refine h1 S0 H0 Sm _ _ σ _ D DD o (em.trans (Ex.new hS)) ⟨g.st.trans (Ex.new hS), fun a x n q => ?_, fun a h1 h2 => ?_, o1⟩ e1 h x
    · have : a ≠ p := fun z => by rw [z, h0] at q; cases q
      rw [upd_ne this]
      exact g.keep a x n q
    · have : a ≠ p := fun z => h1 (z ▸ h0)
      rw [upd_ne this]
      exact g.new a h1 h2
  · exact h.elim
/-- for a while: what comes of it is plain -/
def dBorrowD (i : Nat) (de : DE) : DE := fun δ R => match δ[i]? with
  | some (some (.dct (.dn w kvs))) => w = TheW.w ∧ de (δ.set i (some (.dat (.dict kvs)))) fun d => tupOnly d = true ∧ R d
  | _ => False
theorem sim_borrowD {i : Nat} (h1 : SimE K ib b te de) : SimE K ib b (tPinE te) (dBorrowD i de) := by
  intro H0 S H σ δ R Q o e h k
  unfold dBorrowD at h
  split at h
  · rename_i w kvs q0
    obtain ⟨rfl, h⟩ := h
    obtain ⟨p, u, hσ, hp, ⟨xs, rfl, hr⟩, hS, h0, hb, hu⟩ := e.dct i _ q0
    refine ⟨p, _, xs, hp, fun od => ?_⟩
    obtain ⟨o1, e1⟩ := pin_ok o e q0 hσ hp hr hS hb hu od
    refine h1 H0 _ _ σ _ _ _ o1 e1 h fun S2 H2 v d g r q => ?_
    obtain ⟨e2, e3, g2⟩ := pin_back o hp hS hb g
    exact ⟨e3, k _ _ v d g2 (r.dropU e2 hp_notTup q.1) q.2⟩
  · exact h.elim
end
end DL

/-! A dict by tuples in one another that is known to its object: its keys, one by one. -/
namespace DL
open PySem PySem.Spec PyProof.Rows L2
open Evl (Ex ex_l ex_t)
variable [TheW]
def ItN (w : World) (d : Addr) (o : Obj) (xs : List NRow) : It :=
  ⟨fun i H => H d = some (HP w d xs o) ∧ i < xs.length, fun i H x H' => H' = H ∧ ∃ r, xs[i]? = some r ∧ x = .ref r.2.1, fun i H => H d = some (HP w d xs o) ∧ xs.length ≤ i⟩
section
variable {X : Cx} {pins : List (Addr × Obj)} {σ : L2.St} {H : Hp} {s : Shared} {d : Addr} {o : Obj} {w : World} {xs : List NRow}
theorem hp_at (I : Inv X pins σ H s) (h : H d = some (HP w d xs o)) :
    (d == sysModules) = false ∧ s.heap.get? d = some o ∧ o.ExactDict ∧ ∃ (es : Array DictEntry) (ep : Nat), o.data = .dict es ep ∧ es.size = xs.length ∧ ∀ (i : Nat) (r : NRow), xs[i]? = some r → ∃ en : DictEntry, es[i]? = some en ∧ en.key = .ref r.2.1 := by
  obtain ⟨⟨n1, ⟨es, ep, ⟨o', ho, hx, hd⟩, n3⟩, n4, n5⟩, e⟩ := (show ObjOk X.prog X.w H s.heap d (HP w d xs o) from I.hok d _ h).1
  rw [e] at ho
  cases ho
  refine ⟨n1, e, hx, es, ep, hd, ?_, fun i r hr => ?_⟩
  · have := congrArg List.length n3
    rw [List.length_map] at this
    simpa using this
  · have q : es.toList[i]? = some (rowE w r) := by rw [n3, List.getElem?_map, hr]; rfl
    exact ⟨rowE w r, by simpa using q, rfl⟩
end
section
variable {P : Program} {w : World} {K : PySem.W.Frag} {tg : Expr} {d : Addr} {o : Obj} {es : Array DictEntry} {ep : Nat} {w0 : World}
theorem turn_keysN {xs : List NRow} (it : Addr) (hod : o.data = .dict es ep) : Turn P w K tg (ItN w0 d o xs) [it] it (fun i h => h.IsKeyIter it d i xs.length ep) where
  mem := by simp
  obj := fun i h st b hb => by
    have e : b = it := by simpa using hb
    subst e
    obtain ⟨oi, e, c, dd⟩ := st
    exact ⟨oi, e, fun v z => by rw [dd] at z; cases z⟩
  keep := fun i h h' st k => st.at fun oi e => k it (by simp) oi e
  item := by
    intro X hP hw hK hc i pins s σ H E I hf st hg
    subst hP hw hK
    obtain ⟨hd, hi⟩ := hg
    obtain ⟨f0, f1, f2, f3, f4, f5⟩ := hf it (by simp)
    obtain ⟨hs, hgd, hx, es', ep', hdt, hsz, ent⟩ := hp_at I hd
    obtain ⟨rfl, rfl⟩ := dict_ep hod hdt
    obtain ⟨r, hr⟩ : ∃ p, xs[i]? = some p := ⟨xs[i], List.getElem?_eq_getElem hi⟩
    obtain ⟨en, hen, hkey⟩ := ent i r hr
    refine next_key_item st hgd hdt hsz hen fun h' st' sb => ?_
    have I1 : Inv X pins σ H { s with heap := h' } := I.turned (t' := s.toks) (fun b ob hb e => (sb.2 b hb).trans e) f0 f1 f3 f4 f5
    obtain ⟨oi, e, c, dd⟩ := id st'
    exact ⟨en.key, rfl, go_of (s := { s with heap := h' }) e c dd (by decide) ⟨.ref r.2.1, H, I1, hkey, ⟨rfl, r, hr, rfl⟩, st', fun b hb => (hf b hb).1⟩⟩
  done := by
    intro X hP hw hK hc i pins s σ H E I hf st hg
    subst hP hw hK
    obtain ⟨hd, hi⟩ := hg
    obtain ⟨f0, f1, f2, f3, f4, f5⟩ := hf it (by simp)
    obtain ⟨hs, hgd, hx, es', ep', hdt, hsz, ent⟩ := hp_at I hd
    obtain ⟨rfl, rfl⟩ := dict_ep hod hdt
    exact next_key_end (I.ok.hd hc) st hgd hdt hsz hi fun h' eb => ⟨rfl, I.turned (t' := s.toks) (fun b ob hb e => eb b ob hb e) f0 f1 f3 f4 f5⟩
  self := fun A i s Q E st h => by
    refine wpAny_pyIter_slot st.typeIs F.slot_dict_keyiterator_iter (wpAny_call_entry F.slot_dict_keyiterator_iter st.typeIs F.entry_dict_keyiterator_iter ?_ (F.args_dict_keyiterator_iter_1 _))
    show wpAny _ _ (ret (.ref it)) _ _ s
    exact wpAny_pure ⟨_, rfl, "dict_keyiterator", _, st.typeIs, F.slot_dict_keyiterator_next.lookup, h⟩
end
/-- for k in x -/
def iKeysN (td : TE) : TI := fun σ H R => td σ H fun x H1 => ∃ d o xs, x = .ref d ∧ H1 d = some (HP TheW.w d xs o) ∧ R (ItN TheW.w d o xs) H1
theorem pi_keysN {X : Cx} {tg e : Expr} {td : TE} (he : PE X e td) : PI X tg e (iKeysN td) := by
  refine ⟨fun pins s σ H R I h => ?_⟩
  refine thn (he.run pins s σ H _ I h) fun u s1 ⟨x, H1, I1, rx, d, o, xs, ex, hd, q⟩ => ?_
  subst ex
  obtain rfl : u = Value.ref d := rx
  obtain ⟨hs, hgd, hx, es, ep, hdt, hsz, ent⟩ := hp_at I1 hd
  refine iter_keys hs hgd hx hdt (pi_one (tk := s1.toks) I1 _ (turn_keysN _ hdt) ⟨_, Heap.get?_push_size _ rfl, rfl, ?_⟩ q)
  rw [hsz] <;> rfl
/-! over data -/
def dKeysN (de : DE) : DA := fun δ R => de δ fun x => match x with
  | .dict kvs => tupKeys kvs = true ∧ kvs ≠ [] ∧ R (kvs.map (·.1))
  | _ => False
section
variable {K : PySem.W.Frag} {ib : Option Nat} {b : Bg} {te : TE} {de : DE}
theorem sim_iKeysN (h1 : SimE K ib b te de) : SimI K ib b (iKeysN te) (dKeysN de) := by
  intro H0 S H σ δ R Q o e h k
  refine h1 H0 S H σ δ _ _ o e h fun S1 H1 v dv g r q => ?_
  split at q
  · rename_i kvs
    obtain ⟨fl, ne, q⟩ := q
    cases r with
    | dK hS rr =>
      rename_i a kvs2 ds
      cases kvs2 with
      | nil => exact absurd rfl ne
      | cons p r =>
        cases rr with
        | cons hh tt =>
          rw [List.map_cons, List.zip_cons_cons] at fl
          unfold tupKeys at fl
          rw [List.all_cons] at fl
          obtain ⟨p1, p2⟩ := p
          cases p1 <;> simp [keyD] at fl
    | dF nn hS rr =>
      rename_i a kvs2 ds od
      cases kvs2 with
      | nil => exact absurd rfl nn
      | cons p r =>
        cases rr with
        | cons hh tt =>
          rw [List.map_cons, List.zip_cons_cons] at fl
          unfold tupKeys at fl
          rw [List.all_cons] at fl
          obtain ⟨p1, p2⟩ := p
          cases p1 <;> simp [keyD] at fl
    | dN hS ek h8 q1 q2 vv =>
      rename_i a xs vs ks ds od
      have l1 : ks.length = xs.length := by rw [← q1.length, List.length_map]
      have l2 : ks.length = ds.length := by rw [l1, ← q2.length, vv.length, List.length_map]
      rw [zip_fst l2] at q
      refine ⟨a, od, xs, rfl, g.ok.sub _ _ hS, k S1 H1 _ ks g (fun S2 H2 ex o2 => ?_) q⟩
      have hL : H2 a = some (HP TheW.w a xs od) := o2.sub _ _ (ex _ _ hS)
      refine ⟨fun i hi => ⟨hL, by omega⟩, ⟨hL, by omega⟩, fun i x H' hi y => ?_⟩
      obtain ⟨rfl, r, hr, rfl⟩ := y
      obtain ⟨d, hd, rd⟩ := q1.getV (i := i) (v := .ref r.2.1) (by rw [List.getElem?_map, hr]; rfl)
      exact ⟨S2, d, Go.refl o2, hd, rd.mono ex⟩
  · exact q.elim
end
end DL

/-! sorted of a dict by tuples in one another, as data. -/
namespace DL
open PySem PySem.Spec PyProof.Rows L2
open Evl (Ex ex_l ex_t)
open PySem.W (EachIs AllAlike Sortable SortsAt sortVals sortLe keyToks dataKind)
variable [TheW]
section
variable {K : PySem.W.Frag} {ib : Option Nat} {b : Bg} {te : TE} {de : DE}
theorem reps_each {S : Hp} : ∀ {xs : List NRow} {ks : List PyData}, Reps K S (xs.map fun x => V.ref x.2.1) ks → EachIs (fun r d => Rep K S (.ref r) d) (xs.map (·.2.1)) ks
  | [], _, .nil => .nil
  | _ :: _, _, .cons h t => .cons h (reps_each t)
noncomputable def dnSortedND (de : DE) : DA := fun δ R => de δ fun x => match x with
  | .dict kvs => tupKeys kvs = true ∧ (AllAlike (kvs.map (·.1)) ∧ Sortable (kvs.map (·.1)) ∧ ∀ d ∈ kvs.map (·.1), d.depth ≤ 50) ∧ R (sortD (kvs.map (·.1)))
  | _ => False
theorem sim_nSortedND (h1 : SimE K ib b te de) : SimN K ib b (tCB (rSortedN K TheW.w) (tCons te tNil)) (dnSortedND de) := by
  intro H0 S H σ δ R Q o e h k
  refine h1 H0 S H σ δ _ _ o e h fun S1 H1 v dv g r q => ?_
  split at q
  · rename_i kvs
    obtain ⟨fl, ⟨c1, c2, c3⟩, q⟩ := q
    obtain ⟨a, xs, vs, ks, ds, rfl, hz, hS, ek, h8, q1, qv, vv⟩ := dict_cases r fl
    have l1 : ks.length = xs.length := by rw [← q1.length, List.length_map]
    have l2 : ks.length = ds.length := by rw [l1, ← qv.length, vv.length, List.length_map]
    have ez : kvs.map (·.1) = ks := by rw [hz]; exact zip_fst l2
    rw [ez] at c1 c2 c3 q
    refine ⟨a, xs, ks, fun v d => Rep K S1 v d, rfl, hS.mono g.ok.sub, fun v d r => r.mono g.ok.sub, reps_each q1, c1, c2, c3, fun ys p' hy hp' => ?_⟩
    exact k S1 _ p' ys _ (g.trans o (Go.laidOwn g.ok hp')) upd_same (reps_of_each (fun v d r => r) hy) (Ex.none_of g.ok.sub hp') (g.fresh o hp') q
  · exact q.elim
end
end DL

/-! Dicts of one's own lent to expressions that make lists without dicts; a, b = {}, e; max of two; an iterable that is a list or a dict; list(d.items()); dict(pairs). -/
namespace DL
open PySem PySem.Spec PyProof.Rows L2
open Evl (Ex ex_l ex_t)
variable [TheW]
mutual
/-- no dict anywhere -/
def noD : PyData → Bool
  | .none => true
  | .bool _ => true
  | .int _ => true
  | .str _ => true
  | .list xs => noDAll xs
  | .tuple xs => noDAll xs
  | .dict _ => false
def noDAll : List PyData → Bool
  | [] => true
  | x :: xs => noD x && noDAll xs
end
theorem noDAll_of {ds : List PyData} (h : ∀ d ∈ ds, noD d = true) : noDAll ds = true := by
  induction ds with
  | nil => rfl
  | cons d r ih =>
    show (noD d && noDAll r) = true
    rw [h d (List.mem_cons_self ..), ih fun x hx => h x (List.mem_cons_of_mem _ hx)]
    rfl
section
variable {K : PySem.W.Frag} {S : Hp} {p : Addr} {w : World} {xs0 : List NRow} {od : Obj}
mutual
theorem Rep.dropD (hp : S p = some (HP w p xs0 od)) : ∀ {v : V} {d : PyData}, Rep K S v d → noD d = true → Rep K (cutH S p) v d
  | _, _, .non, _ => .non
  | _, _, .bl b, _ => .bl b
  | _, _, .int b, _ => .int b
  | _, _, .str b, _ => .str b
  | _, _, .tup h q, t => .tup (SqT.dropU hp hp_notTup h) (Reps.dropD hp q t)
  | _, _, .lst h q, t => .lst (by
      rw [cutH_ne]
      · exact h
      · intro z
        rw [z, hp] at h
        cases h) (Reps.dropD hp q t)
  | _, _, .dK h q, t => absurd t Bool.false_ne_true
  | _, _, .dN _ _ _ _ _ _, t => absurd t Bool.false_ne_true
  | _, _, .dF _ _ _, t => absurd t Bool.false_ne_true
theorem Reps.dropD (hp : S p = some (HP w p xs0 od)) : ∀ {vs : List V} {ds : List PyData}, Reps K S vs ds → noDAll ds = true → Reps K (cutH S p) vs ds
  | _, _, .nil, _ => .nil
  | _, _, .cons r q, t => by
    have t := (Bool.and_eq_true _ _ ▸ t : _ ∧ _)
    exact .cons (Rep.dropD hp r t.1) (Reps.dropD hp q t.2)
end
end
section
variable {K : PySem.W.Frag} {ib : Option Nat} {b : Bg} {te ta tb : TE} {de da db : DE} {dn : DA} {tt : TT} {dt : DT} {ts : TS} {ds : DS} {t : TA} {d : DA}
/-- a dict of one's own stands still for a while; what comes of it has no dict in it -/
def dBorD (i : Nat) (de : DE) : DE := fun δ R => match δ[i]? with
  | some (some (.dct (.dn w kvs))) => w = TheW.w ∧ de (δ.set i (some (.dat (.dict kvs)))) fun d => noD d = true ∧ R d
  | _ => False
theorem sim_borD {i : Nat} (h1 : SimE K ib b te de) : SimE K ib b (tPinE te) (dBorD i de) := by
  intro H0 S H σ δ R Q o e h k
  unfold dBorD at h
  split at h
  · rename_i w kvs q0
    obtain ⟨rfl, h⟩ := h
    obtain ⟨p, u, hσ, hp, ⟨xs, rfl, hr⟩, hS, h0, hb, hu⟩ := e.dct i _ q0
    refine ⟨p, _, xs, hp, fun od => ?_⟩
    obtain ⟨o1, e1⟩ := pin_ok o e q0 hσ hp hr hS hb hu od
    refine h1 H0 _ _ σ _ _ _ o1 e1 h fun S2 H2 v d g r q => ?_
    obtain ⟨e2, e3, g2⟩ := pin_back o hp hS hb g
    exact ⟨e3, k _ _ v d g2 (r.dropD e2 q.1) q.2⟩
  · exact h.elim
/-- the same for a new list -/
def dBorDN (i : Nat) (dn : DA) : DA := fun δ R => match δ[i]? with
  | some (some (.dct (.dn w kvs))) => w = TheW.w ∧ dn (δ.set i (some (.dat (.dict kvs)))) fun ds => noDAll ds = true ∧ R ds
  | _ => False
theorem sim_borDN {i : Nat} (h1 : SimN K ib b te dn) : SimN K ib b (tPinE te) (dBorDN i dn) := by
  intro H0 S H σ δ R Q o e h k
  unfold dBorDN at h
  split at h
  · rename_i w kvs q0
    obtain ⟨rfl, h⟩ := h
    obtain ⟨p, u, hσ, hp, ⟨xs, rfl, hr⟩, hS, h0, hb, hu⟩ := e.dct i _ q0
    refine ⟨p, _, xs, hp, fun od => ?_⟩
    obtain ⟨o1, e1⟩ := pin_ok o e q0 hσ hp hr hS hb hu od
    refine h1 H0 _ _ σ _ _ _ o1 e1 h fun S2 H2 p2 xs2 es g hp2 r hS2 hn q => ?_
    obtain ⟨e2, e3, g2⟩ := pin_back o hp hS hb g
    have np : p2 ≠ p := by
      intro z
      rw [z, e2] at hS2
      cases hS2
    refine ⟨e3, k _ _ p2 xs2 es g2 (by rw [upd_ne np]; exact hp2) (Reps.dropD e2 r q.1) (by rw [cutH_ne np]; exact hS2) ?_ q.2⟩
    rw [upd_ne np] at hn
    exact hn
  · exact h.elim
def tPinT (t : TT) : TT := fun σ H Q => ∃ d w xs, H d = some (HN w d xs) ∧ ∀ od, t σ (upd H d (HP w d xs od)) fun v H' => H' d = some (HP w d xs od) ∧ Q v (upd H' d (HN w d xs))
theorem pt_pin {X : Cx} {e : Expr} {t : TT} (h : PT X e t) : PT X e (tPinT t) := by
  refine ⟨fun pins s σ H Q I hw => ?_⟩
  obtain ⟨d, w, xs, hd, hw⟩ := hw
  obtain ⟨od, I1⟩ := pinN I hd
  refine thn (h.run pins s σ _ _ I1 (hw od)) fun v s1 ⟨H1, I2, e2, q⟩ => ?_
  exact ⟨_, unpinN I2 e2, q⟩
def dBorDT (i : Nat) (dt : DT) : DT := fun δ R => match δ[i]? with
  | some (some (.dct (.dn w kvs))) => w = TheW.w ∧ dt (δ.set i (some (.dat (.dict kvs)))) R
  | _ => False
theorem sim_borDT {i : Nat} (h1 : SimT K ib b tt dt) : SimT K ib b (tPinT tt) (dBorDT i dt) := by
  intro H0 S H σ δ R Q o e h k
  unfold dBorDT at h
  split at h
  · rename_i w kvs q0
    obtain ⟨rfl, h⟩ := h
    obtain ⟨p, u, hσ, hp, ⟨xs, rfl, hr⟩, hS, h0, hb, hu⟩ := e.dct i _ q0
    refine ⟨p, _, xs, hp, fun od => ?_⟩
    obtain ⟨o1, e1⟩ := pin_ok o e q0 hσ hp hr hS hb hu od
    refine h1 H0 _ _ σ _ _ _ o1 e1 h fun S2 H2 c g q => ?_
    obtain ⟨e2, e3, g2⟩ := pin_back o hp hS hb g
    exact ⟨e3, k _ _ c g2 q⟩
  · exact h.elim
/-! a, b = {}, e -/
def dParDN (w : World) (i j : Nat) (db : DE) : DS := fun DD δ => db δ fun y => DD.nx ((δ.set i (some (.dct (.dn w [])))).set j (some (.dat y)))
theorem sim_parDN {w : World} {i j : Nat} (hi : ib ≠ some i) (hj : ib ≠ some j) (h1 : SimE K ib b tb db) : SimS K ib b (tPar i j (tCons (tDNewN w) (tCons tb tNil))) (dParDN w i j db) := by
  intro S0 H0 Sm S H σ δ D DD o em g0 e h x p hp
  have g1 : Go ib b S H S (upd H p (HN w p [])) := Go.laidOwn g0.ok hp
  have e1 := e.go g1
  have nb : ib ≠ none → p ≠ b.1 := fun z w => (g0.ok.bag z).tr (w ▸ hp)
  refine h1 H0 S _ σ δ _ _ g1.ok e1 h fun S2 H2 v dv g2 r q => ?_
  have g12 := g1.trans g0.ok g2
  have g02 := g0.trans o g12
  have hp2 : H2 p = some (HN w p []) := g2.keep p _ nb upd_same
  have hS2 : S2 p = none := g2.new p (by rw [upd_same]; exact Option.some_ne_none _) (Ex.none_of g0.ok.sub hp)
  refine ⟨.ref p, v, rfl, ?_⟩
  have e2 := e1.go g2
  refine x.nx S2 _ _ _ g02 (em.trans g12.st) (((e2.setDct hi hp2 (c := .dn w []) (show CtOk K S2 p (HN w p []) (.dn w []) from ⟨[], rfl, .nil⟩) hS2 (g0.fresh o hp) nb (fun m c' hm a1 a2 => ?_)).set hj r)) q
  obtain ⟨p', o', b1, b2, _⟩ := e.dct m c' a1
  rw [b1] at a2
  have : p' = p := V.ref.inj (Option.some.inj (Option.some.inj a2))
  rw [this, hp] at b2
  cases b2
/-! a, b = e, {} -/
def dParND (w : World) (i j : Nat) (da : DE) : DS := fun DD δ => da δ fun y => DD.nx ((δ.set i (some (.dat y))).set j (some (.dct (.dn w []))))
theorem sim_parND {w : World} {i j : Nat} (hi : ib ≠ some i) (hj : ib ≠ some j) (hij : i ≠ j) (h1 : SimE K ib b ta da) : SimS K ib b (tPar i j (tCons ta (tCons (tDNewN w) tNil))) (dParND w i j da) := by
  intro S0 H0 Sm S H σ δ D DD o em g0 e h x
  refine h1 H0 S H σ δ _ _ g0.ok e h fun S1 H1 v dv g1 r q => ?_
  intro p hp
  have g01 := g0.trans o g1
  have g2 : Go ib b S1 H1 S1 (upd H1 p (HN w p [])) := Go.laidOwn g1.ok hp
  have g02 := g01.trans o g2
  have e1 := e.go g1
  refine ⟨v, .ref p, rfl, ?_⟩
  refine x.nx S1 _ _ _ g02 (em.trans g1.st) (((e1.go g2).set hi r).setDct hj upd_same (c := .dn w []) (show CtOk K S1 p (HN w p []) (.dn w []) from ⟨[], rfl, .nil⟩) (Ex.none_of g1.ok.sub hp) (g01.fresh o hp) (fun z w => (g1.ok.bag z).tr (w ▸ hp)) (fun m c' hm a1 a2 => ?_)) q
  by_cases hmi : m = i
  · subst hmi
    have hlt : m < δ.length := by
      obtain ⟨w, _⟩ := List.getElem?_eq_some_iff.mp a1
      rwa [List.length_set] at w
    rw [List.getElem?_set_self hlt] at a1
    cases a1
  · rw [List.getElem?_set_ne (Ne.symm hmi)] at a1 a2
    obtain ⟨p', o', b1, b2, _⟩ := e1.dct m c' a1
    rw [b1] at a2
    have : p' = p := V.ref.inj (Option.some.inj (Option.some.inj a2))
    rw [this, hp] at b2
    cases b2
/-! max(i, j) -/
def rMax2 : List V → Hp → VK → Prop := fun xs H Q => ∃ i j, xs = [.int i, .int j] ∧ Q (.int (if j > i then j else i)) H
theorem call_max2' {X : Cx} (hc : X.calm = true) : CallR X (.builtin "max") rMax2 := call_max2 hc
def dMax2 : List PyData → (PyData → Prop) → Prop := fun ds R => match ds with
  | [.int i, .int j] => R (.int (if j > i then j else i))
  | _ => False
theorem simc_max2 : SimC K ib b rMax2 dMax2 := by
  intro S H xs ds R Q o r h k
  unfold dMax2 at h
  split at h
  · cases r with
    | cons r1 r2 =>
      cases r2 with
      | cons r2 r3 =>
        cases r3
        cases r1
        cases r2
        exact ⟨_, _, rfl, k S H _ _ (Go.refl o) (.int _) h⟩
  · exact h.elim
/-! an iterable that is a list, or a dict by tuples -/
def iAnyK (K : PySem.W.Frag) (td : TE) : TI := fun σ H R => td σ H fun x H1 => (∃ a, x = .ref a ∧ (∃ xs, SqL K H1 a xs) ∧ R (Itl K a) H1) ∨ ∃ d o xs, x = .ref d ∧ H1 d = some (HP TheW.w d xs o) ∧ R (ItN TheW.w d o xs) H1
theorem pi_anyK {X : Cx} {tg e : Expr} {td : TE} (he : PE X e td) : PI X tg e (iAnyK X.K td) := by
  refine ⟨fun pins s σ H R I h => ?_⟩
  refine thn (he.run pins s σ H _ I h) fun u s1 ⟨x, H1, I1, rx, q⟩ => ?_
  rcases q with ⟨a, ex, ⟨xs, hq⟩, q⟩ | ⟨d, o, xs, ex, hd, q⟩
  · subst ex
    cases rx
    obtain ⟨its, rv, p, hz⟩ := I1.list hq
    refine wpAny_pyIter_list p.isList ?_
    refine ⟨s1.heap.objs.size, [s1.heap.objs.size], _, _, H1, rfl, I1.kept (t' := s1.toks) fun b o e => Heap.get?_push_of_some _ e, turn_list a _, ⟨_, Heap.get?_push_size _ rfl, rfl, rfl⟩, fun b hb => ?_, q⟩
    have e : b = s1.heap.objs.size := by simpa using hb
    subst e
    exact I1.fpOk (Nat.le_refl _) (I1.hok.fresh (Nat.le_refl _))
  · subst ex
    obtain rfl : u = Value.ref d := rx
    obtain ⟨hs, hgd, hx, es, ep, hdt, hsz, ent⟩ := hp_at I1 hd
    refine iter_keys hs hgd hx hdt (pi_one (tk := s1.toks) I1 _ (turn_keysN _ hdt) ⟨_, Heap.get?_push_size _ rfl, rfl, ?_⟩ q)
    rw [hsz] <;> rfl
def dAnyK (de : DE) : DA := fun δ R => de δ fun x => match x with
  | .list xs => R xs
  | .dict kvs => tupKeys kvs = true ∧ kvs ≠ [] ∧ R (kvs.map (·.1))
  | _ => False
theorem sim_iAnyK (h1 : SimE K ib b te de) : SimI K ib b (iAnyK K te) (dAnyK de) := by
  intro H0 S H σ δ R Q o e h k
  refine h1 H0 S H σ δ _ _ o e h fun S1 H1 v dv g r q => ?_
  split at q
  · obtain ⟨a, xs, rfl, hq, rs⟩ := r.lstV
    refine .inl ⟨a, rfl, ⟨xs, SqL.of (g.ok.sub _ _ hq)⟩, k S1 H1 _ _ g (fun S2 H2 ex o2 => ?_) q⟩
    have hL : SqL K H2 a xs := SqL.of (o2.sub _ _ (ex _ _ hq))
    have rl := rs.length
    refine ⟨fun i hi => ⟨xs, xs[i]'(by omega), hL, by simp⟩, ⟨xs, hL, by omega⟩, fun i x H' hi y => ?_⟩
    obtain ⟨rfl, y⟩ := y
    obtain ⟨d, hd, rd⟩ := rs.getV (y xs hL)
    exact ⟨S2, d, Go.refl o2, hd, rd.mono ex⟩
  · rename_i kvs
    obtain ⟨fl, ne, q⟩ := q
    cases r with
    | dK hS rr =>
      rename_i a kvs2 ds
      cases kvs2 with
      | nil => exact absurd rfl ne
      | cons p r =>
        cases rr with
        | cons hh tt =>
          rw [List.map_cons, List.zip_cons_cons] at fl
          unfold tupKeys at fl
          rw [List.all_cons] at fl
          obtain ⟨p1, p2⟩ := p
          cases p1 <;> simp [keyD] at fl
    | dF nn hS rr =>
      rename_i a kvs2 ds od
      cases kvs2 with
      | nil => exact absurd rfl nn
      | cons p r =>
        cases rr with
        | cons hh tt =>
          rw [List.map_cons, List.zip_cons_cons] at fl
          unfold tupKeys at fl
          rw [List.all_cons] at fl
          obtain ⟨p1, p2⟩ := p
          cases p1 <;> simp [keyD] at fl
    | dN hS ek h8 q1 q2 vv =>
      rename_i a xs vs ks ds od
      have l1 : ks.length = xs.length := by rw [← q1.length, List.length_map]
      have l2 : ks.length = ds.length := by rw [l1, ← q2.length, vv.length, List.length_map]
      rw [zip_fst l2] at q
      refine .inr ⟨a, od, xs, rfl, g.ok.sub _ _ hS, k S1 H1 _ ks g (fun S2 H2 ex o2 => ?_) q⟩
      have hL : H2 a = some (HP TheW.w a xs od) := o2.sub _ _ (ex _ _ hS)
      refine ⟨fun i hi => ⟨hL, by omega⟩, ⟨hL, by omega⟩, fun i x H' hi y => ?_⟩
      obtain ⟨rfl, r, hr, rfl⟩ := y
      obtain ⟨d, hd, rd⟩ := q1.getV (i := i) (v := .ref r.2.1) (by rw [List.getElem?_map, hr]; rfl)
      exact ⟨S2, d, Go.refl o2, hd, rd.mono ex⟩
  · exact q.elim
end
/-! list(d.items()) -/
/-- the tuples tracked at their addresses -/
def putP : Hp → List Addr → List (V × V) → Hp
  | H, a :: as, p :: kvs => putP (upd H a (.tup [p.1, p.2])) as kvs
  | H, _, _ => H
theorem putP_off {b : Addr} : ∀ (as : List Addr) (kvs : List (V × V)) (H : Hp), b ∉ as → putP H as kvs b = H b
  | [], _, _, _ => rfl
  | _ :: _, [], _, _ => rfl
  | a :: as, p :: kvs, H, h => by
    show putP (upd H a (.tup [p.1, p.2])) as kvs b = H b
    rw [putP_off as kvs _ (fun z => h (List.mem_cons_of_mem _ z)), upd_ne (fun z => h (by rw [z]; exact List.mem_cons_self))]
theorem putP_at : ∀ (as : List Addr) (kvs : List (V × V)) (H : Hp), as.length = kvs.length → as.Nodup → Paired (fun (t : Addr) (p : V × V) => putP H as kvs t = some (.tup [p.1, p.2])) as kvs
  | [], [], _, _, _ => .nil
  | [], _ :: _, _, h, _ => by cases h
  | _ :: _, [], _, h, _ => by cases h
  | a :: as, p :: kvs, H, h, hn => by
    have hn' := List.nodup_cons.mp hn
    have ih := putP_at as kvs (upd H a (.tup [p.1, p.2])) (Nat.succ.inj h) hn'.2
    refine .cons ?_ ih
    show putP (upd H a (.tup [p.1, p.2])) as kvs a = some (.tup [p.1, p.2])
    rw [putP_off as kvs _ hn'.1, upd_same]
theorem items_laidN {X : Cx} {pins : List (Addr × Obj)} {σ : L2.St} {H : Hp} {s : Shared} {h' : Heap} {tk : Nat} {kvs : List (V × V)} {us : List (Value × Value)} {acc : Array Value} {c : Nat} {as : List Addr} (I : Inv X pins σ H s) (hz : kvs.length ≤ sizeLine)
    (kv : Paired (fun (p : V × V) (u : Value × Value) => RelV p.1 u.1 ∧ RelV p.2 u.2) kvs us)
    (hk : ∀ b o, s.heap.get? b = some o → h'.get? b = some o) (hS : h'.get? s.heap.objs.size = some { cls := .type "list", dict := none, data := .seq acc c, slots := #[] }) (hl : as.length = us.length)
    (rise : as.Pairwise (· < ·)) (above : ∀ a ∈ as, s.heap.objs.size < a) (pairs : ∀ (j : Nat) (a : Addr), as[j]? = some a → ∃ u, us[j]? = some u ∧ h'.get? a = some { cls := .type "tuple", data := .seq #[u.1, u.2] }) (hacc : acc.toList = as.map Value.ref) :
    ∃ H' : Hp, (∀ b o, H b = some o → H' b = some o) ∧ H s.heap.objs.size = none ∧ (∀ t ∈ as, H t = none) ∧ s.heap.objs.size ∉ as ∧ as.Nodup ∧ H' s.heap.objs.size = some (.lst (as.map V.ref)) ∧ Paired (fun (t : Addr) (q : V × V) => H' t = some (.tup [q.1, q.2])) as kvs ∧
      (∀ b, b ∉ as → b ≠ s.heap.objs.size → H' b = H b) ∧ Inv X pins σ H' { s with heap := h', toks := tk } := by
  have lk : kvs.length = us.length := Paired.length kv
  have hSn : s.heap.objs.size ∉ as := fun z => Nat.lt_irrefl _ (above _ z)
  have nd : as.Nodup := List.Pairwise.imp (fun {a b} (h : a < b) => Nat.ne_of_lt h) rise
  have new : ∀ t ∈ as, H t = none := fun t ht => I.hok.fresh (Nat.le_of_lt (above t ht))
  have newS : H s.heap.objs.size = none := I.hok.fresh (Nat.le_refl _)
  have atP := putP_at as kvs (upd H s.heap.objs.size (.lst (as.map V.ref))) (by omega) nd
  have off : ∀ b, b ∉ as → b ≠ s.heap.objs.size → putP (upd H s.heap.objs.size (.lst (as.map V.ref))) as kvs b = H b := fun b h1 h2 => by rw [putP_off as kvs _ h1, upd_ne h2]
  have low : ∀ b o, s.heap.get? b = some o → b ∉ as ∧ b ≠ s.heap.objs.size := fun b o e => ⟨fun z => absurd (Heap.lt_size e) (Nat.not_lt.mpr (Nat.le_of_lt (above b z))), Nat.ne_of_lt (Heap.lt_size e)⟩
  have kp : ∀ b u, H b = some u → (putP (upd H s.heap.objs.size (.lst (as.map V.ref))) as kvs) b = some u := fun b u e => by
    rw [off b (fun z => by rw [new b z] at e; cases e) (fun z => by rw [z, newS] at e; cases e)]
    exact e
  have eS : putP (upd H s.heap.objs.size (.lst (as.map V.ref))) as kvs s.heap.objs.size = some (.lst (as.map V.ref)) := by rw [putP_off as kvs _ hSn, upd_same]
  refine ⟨putP (upd H s.heap.objs.size (.lst (as.map V.ref))) as kvs, kp, newS, new, hSn, nd, eS, atP, off, ?_⟩
  refine I.call' (ch := []) rfl ⟨fun b o q _ _ _ => hk b o q, fun b o q _ _ _ => ⟨o.slots, hk b o q⟩, fun b o q n _ => ?_, fun b o q _ => ⟨o, hk b o q⟩, fun b xs q => kp b _ q, fun b o u q => kp b _ q, fun b ps q => ⟨#[], by rw [kp b _ q]; simp⟩⟩ (fun b u q => ?_) I.bare fun b z => by simp at z
  · obtain ⟨z1, z2⟩ := low b o q
    rw [off b z1 z2]
    exact n
  · by_cases hb : b ∈ as
    · obtain ⟨j, pk, e1, e2, e3⟩ := LiI.paired_ix atP hb
      rw [e3] at q
      cases q
      obtain ⟨u, f1, f3⟩ := pairs j b e1
      obtain ⟨qv, g1, g2, g3⟩ := LiI.paired_get kv e2
      rw [f1] at g1
      cases g1
      exact ⟨by show 2 ≤ sizeLine; decide, [u.1, u.2], .cons g2 (.cons g3 .nil), ⟨_, f3, rfl, _, rfl⟩⟩
    · by_cases hb2 : b = s.heap.objs.size
      · rw [hb2] at q ⊢
        rw [eS] at q
        cases q
        refine ⟨by rw [List.length_map]; omega, acc.toList, c, by rw [hacc]; exact LiI.vals_refs as, ?_⟩
        rw [Array.toArray_toList]
        exact hS
      · rw [off b hb hb2] at q
        exact (I.hok b u q).stay (fun d v _ y => hk d v y) (fun d y => kp d _ y) fun d xs y => kp d _ y
theorem Paired.mapM {α β : Type} {F G : α → β → Prop} : ∀ {xs : List α} {ys : List β}, Paired F xs ys → (∀ x y, x ∈ xs → F x y → G x y) → Paired G xs ys
  | _, _, .nil, _ => .nil
  | _, _, .cons h t, k => .cons (k _ _ (List.mem_cons_self ..) h) (Paired.mapM t fun x y m z => k x y (List.mem_cons_of_mem _ m) z)
def tItemsN (te : TE) : TE := fun σ H Q => te σ H fun x H1 => ∃ d xs vs, x = .ref d ∧ NHas TheW.w H1 d xs ∧ Vals vs (xs.map (·.2.2)) ∧
  ∀ (H' : Hp) (p : Addr) (ts : List Addr), (∀ b o, H1 b = some o → H' b = some o) → H1 p = none → (∀ t ∈ ts, H1 t = none) → p ∉ ts → ts.Nodup → H' p = some (.lst (ts.map V.ref)) →
    Paired (fun (t : Addr) (q : V × V) => H' t = some (.tup [q.1, q.2])) ts ((xs.map fun x => V.ref x.2.1).zip vs) → (∀ b, b ∉ ts → b ≠ p → H' b = H1 b) → Q (.ref p) H'
theorem rows_rel : ∀ {xs : List NRow} {vs : List V}, Vals vs (xs.map (·.2.2)) → Paired (fun (p : V × V) (u : Value × Value) => RelV p.1 u.1 ∧ RelV p.2 u.2) ((xs.map fun x => V.ref x.2.1).zip vs) (xs.map fun x => (Value.ref x.2.1, x.2.2))
  | [], [], .nil => .nil
  | x :: xs, v :: vs, .cons r t => .cons ⟨rfl, r⟩ (rows_rel t)
theorem pe_itemsN {X : Cx} {e : Expr} {te : TE} {p apos cpos pos : Pos} (hw : TheW.w = X.w) (hc : X.calm = true) (he : PE X e te) (hg : Gl X "list") (hm : X.mg "list" = none) (hv : bootBuiltins "list" = some (.type "list")) (hbase : attributeBase e "items" X.env (eval e X.env) = eval e X.env := by rfl) (hline : (apos.endLine == cpos.line) = true := by rfl)
    (hs : starEach [.Call (.Attribute e "items" apos) [] [] cpos] X.env = (false, eval (.Call (.Attribute e "items" apos) [] [] cpos) X.env) :: starEach [] X.env := by rfl) :
    PE X (.Call (.Name "list" p) [.Call (.Attribute e "items" apos) [] [] cpos] [] pos) (tItemsN te) := by
  refine ⟨fun pins s σ H Q I hq => ?_⟩
  refine wpAny_Call_Name_kw (ld_blt I hg hm hv ?_)
  refine PyProof.Rows.callWith_type1 ?_ hs rfl
  rw [hs]
  show wpAny _ _ (spliced ((false, eval (.Call (.Attribute e "items" apos) [] [] cpos) X.env) :: backTo pos (starEach [] X.env))) _ _ s
  refine Calls.spliced_cons ?_
  refine wpAny_Call_method (T := "dict") (id := "dict.items") hbase rfl hline F.plainAttrs_dict F.slot_dict_items F.type_dict_items (thn (he.run pins s σ H _ I hq) fun u s1 ⟨x, H1, I1, rx, d, xs, vs, ex, hd, hvs, q⟩ => ?_)
  subst ex
  obtain rfl : u = Value.ref d := rx
  obtain ⟨n1, ⟨es, ep, n2, n3⟩, n4, n5⟩ : NAt X.w d xs s1.heap := nhas_at I1 (hw ▸ hd)
  obtain ⟨o, ho, hx, hdt⟩ := id n2
  have hes : es.size = xs.length := by
    have := congrArg List.length n3
    rw [List.length_map] at this
    simpa using this
  have I2 : Inv X pins σ H1 { s1 with heap := s1.heap.push { cls := .type "dict_items", data := .fields #[.ref d] } } := I1.kept (t' := s1.toks) fun b ob q => Heap.get?_push_of_some _ q
  refine ⟨⟨o, ho, hx.1⟩, fun b q => (by cases q; exact ⟨o, ho, hx.2.1⟩), ?_⟩
  show wpAny _ _ (callWith cpos (.builtin "dict.items") [.ref d] [] []) _ X.xe s1
  refine method_meetsIn F.slot_dict_items F.entry_dict_items rfl (PySem.evalArgs_none ⟨rfl, ⟨o, ho, hx.1⟩, F.args_dict_items_1 _, _, _root_.DT.meetsItems (es := es) (ep := ep) n1, n2, ?_⟩)
  refine Calls.spliced_nil ?_
  refine PySem.W.dil_call (es := es) (ep := ep) (I1.ok.hd hc) ⟨_, Heap.get?_push_size _ rfl, rfl, rfl⟩ (n2.push _) (by rw [hes]; exact n5) fun h' tk acc c as hk hS hl hG hacc => ?_
  have hlx := hvs.length
  rw [List.length_map] at hlx
  have hpairs : ∀ (j : Nat) (a : Addr), as[j]? = some a → ∃ u, (xs.map fun x => (Value.ref x.2.1, x.2.2))[j]? = some u ∧ h'.get? a = some { cls := .type "tuple", data := .seq #[u.1, u.2] } := by
    intro j a hj
    obtain ⟨hj', e3⟩ := hG.pairs j a hj
    have hjx : j < xs.length := by omega
    have e2 : es.toList[j]? = (xs.map (rowE X.w))[j]? := by rw [n3]
    rw [Array.getElem?_toList, Array.getElem?_eq_getElem hj', List.getElem?_map, List.getElem?_eq_getElem hjx, Option.map_some] at e2
    have e4 := Option.some.inj e2
    refine ⟨_, by rw [List.getElem?_map, List.getElem?_eq_getElem hjx]; rfl, ?_⟩
    rw [e3, e4]
    rfl
  obtain ⟨H', k1, k2, k3, k4, k5, k6, k7, k8, J⟩ := items_laidN (tk := tk) (kvs := (xs.map fun x => V.ref x.2.1).zip vs) (us := xs.map fun x => (Value.ref x.2.1, x.2.2)) I2 (by rw [List.length_zip, List.length_map]; omega) (rows_rel hvs) hk hS (by rw [hl, hes, List.length_map]) hG.rise hG.above hpairs hacc
  exact ⟨.ref _, H', J, rfl, q H' _ as k1 k2 k3 k4 k5 k6 k7 k8⟩
/-! over data -/
def itemsD (kvs : List (PyData × PyData)) : List PyData := kvs.map fun p => .tuple [p.1, p.2]
section
variable {K : PySem.W.Frag} {ib : Option Nat} {b : Bg} {te ta tb : TE} {de da db : DE}
theorem Paired.zipR {S' : Hp} : ∀ {ts : List Addr} {vs1 vs2 : List V} {ks ds : List PyData}, Paired (fun (t : Addr) (q : V × V) => S' t = some (.tup [q.1, q.2])) ts (vs1.zip vs2) → Reps K S' vs1 ks → Reps K S' vs2 ds → vs1.length = vs2.length →
    Reps K S' (ts.map V.ref) (itemsD (ks.zip ds))
  | [], [], [], [], [], .nil, .nil, .nil, _ => .nil
  | t :: ts, v1 :: vs1, v2 :: vs2, k :: ks, d :: ds, .cons h r, .cons r1 t1, .cons r2 t2, hl => .cons (.tup (.inl (.inl h)) (.cons r1 (.cons r2 .nil))) (Paired.zipR r t1 t2 (by simpa using hl))
  | _, [], v2 :: vs2, _, _, _, .nil, .cons _ _, hl => by cases hl
  | _, v1 :: vs1, [], _, _, _, .cons _ _, .nil, hl => by cases hl
theorem laid_both {S1 H1 H' : Hp} {p : Addr} {ts : List Addr} {u : HO} (o : Okk ib b S1 H1) (hS : ∀ b u, H1 b = some u → H' b = some u) (hp : H1 p = none) (ht : ∀ t ∈ ts, H1 t = none) (hpt : p ∉ ts) (off : ∀ b, b ∉ ts → b ≠ p → H' b = H1 b) :
    ∃ S', Ex S1 S' ∧ (∀ t ∈ ts, S' t = H' t) ∧ S' p = none ∧ Go ib b S1 H1 S' H' := by
  refine ⟨fun a => if a ∈ ts then H' a else S1 a, ?_, ?_, ?_, ?_⟩
  · intro a u q
    show (if a ∈ ts then H' a else S1 a) = some u
    rw [if_neg]
    · exact q
    · intro z
      have := o.sub a u q
      rw [ht a z] at this
      cases this
  · intro t h
    show (if t ∈ ts then H' t else S1 t) = H' t
    rw [if_pos h]
  · show (if p ∈ ts then H' p else S1 p) = none
    rw [if_neg hpt]
    exact Ex.none_of o.sub hp
  · refine ⟨?_, fun a u _ q => hS a u q, ?_, ?_, ?_, ?_⟩
    · intro a u q
      show (if a ∈ ts then H' a else S1 a) = some u
      rw [if_neg]
      · exact q
      · intro z
        have := o.sub a u q
        rw [ht a z] at this
        cases this
    · intro a h1 h2
      show (if a ∈ ts then H' a else S1 a) = none
      rw [if_neg]
      · exact h2
      · intro z
        exact h1 (ht a z)
    · intro a u q
      by_cases c : a ∈ ts
      · have q' : (if a ∈ ts then H' a else S1 a) = some u := q
        rw [if_pos c] at q'
        exact q'
      · have q' : (if a ∈ ts then H' a else S1 a) = some u := q
        rw [if_neg c] at q'
        exact hS a u (o.sub a u q')
    · intro z
      show (if b.1 ∈ ts then H' b.1 else S1 b.1) = none
      rw [if_neg]
      · exact o.off z
      · intro w
        exact (o.bag z).tr (ht _ w)
    · intro z
      exact (o.bag z).kept fun a u _ q => hS a u q
/-- list(x.items()), x data -/
def dnItems (de : DE) : DA := fun δ R => de δ fun x => match x with
  | .dict kvs => tupKeys kvs = true ∧ R (itemsD kvs)
  | _ => False
theorem sim_nItems (h1 : SimE K ib b te de) : SimN K ib b (tItemsN te) (dnItems de) := by
  intro H0 S H σ δ R Q o e h k
  refine h1 H0 S H σ δ _ _ o e h fun S1 H1 v dv g r q => ?_
  split at q
  · rename_i kvs
    obtain ⟨fl, q⟩ := q
    obtain ⟨a, xs, vs, ks, ds, rfl, hz, hS, ek, h8, q1, qv, vv⟩ := dict_cases r fl
    refine ⟨a, xs, vs, rfl, hS.mono g.ok.sub, vv, fun H' p ts k1 k2 k3 k4 k5 k6 k7 k8 => ?_⟩
    obtain ⟨S', x1, x2, x3, x4⟩ := laid_both (u := .lst []) g.ok k1 k2 k3 k4 k8
    have l1 : vs.length = xs.length := by rw [vv.length, List.length_map]
    have pr : Paired (fun (t : Addr) (q : V × V) => S' t = some (.tup [q.1, q.2])) ts ((xs.map fun x => V.ref x.2.1).zip vs) := by
      refine Paired.mapM k7 fun t q ht z => ?_
      rw [x2 t ht]
      exact z
    have rr := Paired.zipR pr (q1.mono x1) (qv.mono x1) (by rw [List.length_map]; omega)
    rw [hz] at q
    exact k S' H' p _ _ (g.trans o x4) k6 rr x3 (g.fresh o k2) q
  · exact q.elim
end
end DL

/-! dict(pairs), the keys tuples in one another. -/
namespace DL
open PySem PySem.Spec PyProof.Rows L2
open Evl (Ex ex_l ex_t)
variable [TheW]
abbrev KRow := NestedKey × Addr × V
def krows (rows : List KRow) (us : List Value) : List NRow := (rows.zip us).map fun p => (p.1.1, p.1.2.1, p.2)
def PairIs (K : PySem.W.Frag) (H : Hp) (t : Addr) (r : KRow) : Prop := SqT K H t [.ref r.2.1, r.2.2] ∧ KeyV K H r.2.1 r.1
def rDictN (K : PySem.W.Frag) : List V → Hp → VK → Prop := fun vs H Q => ∃ (a : Addr) (ts : List Addr) (rows : List KRow), vs = [.ref a] ∧ SqL K H a (ts.map V.ref) ∧ Paired (PairIs K H) ts rows ∧
  ∀ (p : Addr) (od : Obj) (us : List Value), Vals (rows.map (·.2.2)) us → H p = none → Q (.ref p) (upd H p (HP TheW.w p (PySem.storedAllH [] (krows rows us)) od))
theorem Vals.refs : ∀ {ts : List Addr} {its : List Value}, Vals (ts.map V.ref) its → its = ts.map Value.ref
  | [], _, .nil => rfl
  | t :: ts, _, .cons r q => by
    rw [Vals.refs q, List.map_cons]
    obtain rfl := (show _ = Value.ref t from r)
    rfl
section
variable {X : Cx} {pins : List (Addr × Obj)} {σ : L2.St} {H : Hp} {s : Shared}
theorem pairs_at (I : Inv X pins σ H s) : ∀ {ts : List Addr} {rows : List KRow}, Paired (PairIs X.K H) ts rows → ∃ us, Vals (rows.map (·.2.2)) us ∧ us.length = rows.length ∧ ∀ (j : Nat) (r : KRow) (u : Value), rows[j]? = some r → us[j]? = some u → s.heap.IsTuple (ts.getD j 0) #[.ref r.2.1, u] ∧ NestedIs s.heap r.1 (.ref r.2.1) ∧ r.1.depth ≤ 8
  | [], [], .nil => ⟨[], .nil, rfl, fun j r u h => (by simp at h)⟩
  | t :: ts, r :: rows, .cons h q => by
    obtain ⟨us, v, hl, g⟩ := pairs_at I q
    obtain ⟨its, rv, ip, _⟩ := I.tuple h.1
    cases rv with
    | cons r1 rv =>
    cases rv with
    | cons r2 rv =>
    cases rv
    rename_i u1 u2
    obtain rfl := (show u1 = Value.ref r.2.1 from r1)
    refine ⟨u2 :: us, .cons r2 v, by rw [List.length_cons, List.length_cons, hl], fun j r' u' h1 h2 => ?_⟩
    cases j with
    | zero =>
      simp only [List.getElem?_cons_zero, Option.some.injEq] at h1 h2
      subst h1 h2
      exact ⟨ip, keyV_at I h.2⟩
    | succ j =>
      simp only [List.getElem?_cons_succ] at h1 h2
      exact g j r' u' h1 h2
theorem call_dictN (hw : TheW.w = X.w) (hcalm : X.calm = true) (hu : X.A.units + 64 < cLine) : CallR X (.type "dict") (rDictN X.K) := by
  intro pins s σ H vs us0 Q I r h
  obtain ⟨a, ts, rows, rfl, hq, hp, q⟩ := h
  obtain ⟨u, rfl, ru⟩ := vals1 r
  obtain rfl : u = Value.ref a := ru
  obtain ⟨its, rv, pl, hz⟩ := I.list hq
  obtain rfl := Vals.refs rv
  obtain ⟨us, hv, hl, hat⟩ := pairs_at I hp
  have hlt : ts.length = rows.length := Paired.length hp
  let ps : List (Value × Value) := (krows rows us).map fun x => (Value.ref x.2.1, x.2.2)
  have lk : (krows rows us).length = rows.length := by
    unfold krows
    rw [List.length_map, List.length_zip]
    omega
  have kat : ∀ (j : Nat) (x : NRow), (krows rows us)[j]? = some x → ∃ r u, rows[j]? = some r ∧ us[j]? = some u ∧ x = (r.1, r.2.1, u) := by
    intro j x hx
    unfold krows at hx
    rw [List.getElem?_map] at hx
    obtain ⟨⟨r, u⟩, e1, e2⟩ := Option.map_eq_some_iff.mp hx
    have e3 := List.getElem?_zip_eq_some.mp e1
    exact ⟨r, u, e3.1, e3.2, e2.symm⟩
  have P := PairArg.list (prog := X.prog) (w := X.w) a (ts.map Value.ref).toArray (fun j => ts.getD j 0) ps
  have hps : ps.length = rows.length := by rw [List.length_map, lk]
  refine call_dict_pairsH (knd := nestedKind X.prog X.w) (ps := krows rows us) P (I.ok.hd hcalm) ?_ ⟨?_, ?_, ?_⟩ ⟨by rw [lk, hps], ?_⟩ ?_ ?_ ?_
  · show X.A.units + 1 + 1 + 8 < cLine
    omega
  · obtain ⟨o, n, e1, e2, e3, e4⟩ := pl
    exact ⟨o, n, e1, e2, e3, e4⟩
  · rw [hps]
    simp [hlt]
  · intro j k v hj
    rw [List.getElem?_map] at hj
    obtain ⟨x, e1, e2⟩ := Option.map_eq_some_iff.mp hj
    obtain ⟨r, u, h1, h2, rfl⟩ := kat j x e1
    cases e2
    have hjl : j < ts.length := by
      have := (List.getElem?_eq_some_iff.mp h1).1
      omega
    refine ⟨?_, .inl (hat j r u h1 h2).1⟩
    simp [hjl]
  · intro i key v hr
    have hr : ps[i]? = some (key, v) := hr
    rw [List.getElem?_map] at hr
    obtain ⟨x, e1, e2⟩ := Option.map_eq_some_iff.mp hr
    cases e2
    exact ⟨x.1, x.2.1, e1, rfl⟩
  · intro h' hk x hx
    obtain ⟨j, hj⟩ := List.mem_iff_getElem?.mp hx
    obtain ⟨r, u, h1, h2, rfl⟩ := kat j x hj
    obtain ⟨_, n1, n2⟩ := hat j r u h1 h2
    exact ⟨NestedIs.at (fun b o vs n e _ => hk b o (Nat.ne_of_lt (Heap.lt_size e)) (by simp) e) _ _ n1, n2⟩
  · rw [hps]
    rw [List.length_map] at hz
    omega
  · intro h' tk dd hk
    have hsz : (PySem.storedAllH [] (krows rows us)).length ≤ sizeLine := by
      have := storedAllH_length (krows rows us) []
      rw [List.length_map] at hz
      simp only [List.length_nil] at this
      omega
    have n' : NAt X.w s.heap.objs.size (PySem.storedAllH [] (krows rows us)) h' := NAt.to (nat_empty (w := X.w) s.heap I.big).1 hsz dd
    obtain ⟨o, es, ep, ho, _⟩ := dd
    refine ⟨.ref s.heap.objs.size, _, I.laid (a := s.heap.objs.size) (o := HP X.w s.heap.objs.size (PySem.storedAllH [] (krows rows us)) o) (t' := tk) (fun b o e => hk b o (by simp) e) (Nat.le_refl _) (n'.objP ho), rfl, ?_⟩
    rw [← hw]
    exact q _ o us hv (I.hok.fresh (Nat.le_refl _))
end
/-! over data -/
def pairTup : PyData → Prop
  | .tuple [k, _] => (∃ ks, k = .tuple ks) ∧ ∃ e, nk k = some e ∧ e.depth ≤ 8
  | _ => False
def putP2 (acc : List (PyData × PyData)) : PyData → List (PyData × PyData)
  | .tuple [k, v] => putN acc k v
  | _ => acc
def dictOf (ps : List PyData) : List (PyData × PyData) := ps.foldl putP2 []
def dDictN : List PyData → (PyData → Prop) → Prop := fun ds R => match ds with
  | [.list ps] => (∀ p ∈ ps, pairTup p) ∧ R (.dict (dictOf ps))
  | _ => False
section
variable {K : PySem.W.Frag} {ib : Option Nat} {b : Bg}
theorem pairs_rows {S : Hp} : ∀ {vs : List V} {ps : List PyData}, Reps K S vs ps → (∀ p ∈ ps, pairTup p) → ∃ ts rows, vs = ts.map V.ref ∧ Paired (PairIs K S) ts rows ∧
    ∀ us, Vals (rows.map (·.2.2)) us → ∀ (xs : List NRow) (kvs : List (PyData × PyData)), Paired (RowR K S) xs kvs → Paired (RowR K S) (PySem.storedAllH xs (krows rows us)) (ps.foldl putP2 kvs)
  | _, _, .nil, _ => ⟨[], [], rfl, .nil, fun us h xs kvs p => p⟩
  | _, _, .cons (v := v) (d := d) r q, h => by
    obtain ⟨ts, rows, e1, e2, e3⟩ := pairs_rows q fun p hp => h p (List.mem_cons_of_mem _ hp)
    have hd := h _ (List.mem_cons_self ..)
    unfold pairTup at hd
    split at hd
    · rename_i k x
      obtain ⟨⟨ks, rfl⟩, ek, hk, h8⟩ := hd
      obtain ⟨t, ws, rfl, hq, rw'⟩ := r.tupV
      cases rw' with
      | cons r1 rw' =>
      cases rw' with
      | cons r2 rw' =>
      cases rw'
      rename_i v1 v2
      obtain ⟨c, _, rfl, _, _⟩ := id r1.tupV
      refine ⟨t :: ts, (ek, c, v2) :: rows, by rw [e1]; rfl, .cons ⟨hq, _, r1, hk, h8⟩ e2, fun us hv xs kvs p => ?_⟩
      cases hv with
      | cons h1 h2 =>
      rename_i u us
      exact e3 us h2 _ _ (row_put hk h8 r1 r2 h1 p)
    · exact hd.elim
theorem simc_dictN : SimC K ib b (rDictN K) dDictN := by
  intro S H xs ds R Q o r h k
  unfold dDictN at h
  split at h
  · rename_i ps
    obtain ⟨hp, h⟩ := h
    cases r with
    | cons r1 r2 =>
      cases r2
      obtain ⟨a, vs, rfl, hS, rs⟩ := r1.lstV
      obtain ⟨ts, rows, rfl, e2, e3⟩ := pairs_rows rs hp
      refine ⟨a, ts, rows, rfl, SqL.of (o.sub _ _ hS), Paired.mapP e2 fun t r z => ⟨ex_t o.sub z.1, by
        obtain ⟨d, z1, z2, z3⟩ := z.2
        exact ⟨d, z1.mono o.sub, z2, z3⟩⟩, fun p od us hv hn => ?_⟩
      have hSp := Ex.none_of o.sub hn
      have ex : Ex S (upd S p (HP TheW.w p (PySem.storedAllH [] (krows rows us)) od)) := Ex.new hSp
      refine k _ _ _ _ (Go.laid o hn) ?_ h
      have pr := Paired.mapP (e3 us hv [] [] .nil) fun _ _ z => RowR.mono ex z
      obtain ⟨i1, i2, i3, vs, i4, i5⟩ := rows_reps pr
      show Rep K _ (.ref p) (.dict (ps.foldl putP2 []))
      rw [← zip_self (ps.foldl putP2 [])]
      exact .dN upd_same i1 i2 i3 i4 i5
  · exact h.elim
end
end DL

/-! a, b = e, {} and a, b = {}, e by a tuple that is made. -/
namespace DL
open PySem PySem.Spec PyProof.Rows L2
open Evl (Ex ex_l ex_t)
variable [TheW]
theorem units70 {k : Nat} {A : Around} (r : Room k A) : A.units + 70 < cLine := by have := r.un; omega
section
variable {K : PySem.W.Frag} {ib : Option Nat} {b : Bg} {te ta tb : TE} {de da db : DE}
theorem sim_tupND {w : World} {i j : Nat} (hi : ib ≠ some i) (hj : ib ≠ some j) (hij : i ≠ j) (h1 : SimE K ib b ta da) :
    SimS K ib b (tAsg (tTup (tCons ta (tCons (tDNewN w) tNil))) (gTup K 2 (gCons (gName i) (gCons (gName j) gNil)))) (dParND w i j da) := by
  intro S0 H0 Sm S H σ δ D DD o em g0 e h x
  refine h1 H0 S H σ δ _ _ g0.ok e h fun S1 H1 v dv g1 r q => ?_
  intro p hp
  have g01 := g0.trans o g1
  have g2 : Go ib b S1 H1 S1 (upd H1 p (HN w p [])) := Go.laidOwn g1.ok hp
  have g02 := g01.trans o g2
  have e1 := e.go g1
  refine ⟨by show 2 ≤ sizeLine; decide, fun t ht => ?_⟩
  have g3 : Go ib b S1 (upd H1 p (HN w p [])) S1 (upd (upd H1 p (HN w p [])) t (.tup [v, .ref p])) := Go.laidOwn g2.ok ht
  have npt : p ≠ t := by
    intro z
    rw [← z, upd_same] at ht
    cases ht
  refine ⟨t, _, rfl, .inl (.inl upd_same), rfl, _, _, rfl, _, _, rfl, rfl, ?_⟩
  refine x.nx S1 _ _ _ (g02.trans o g3) (em.trans g1.st) (((e1.go (g2.trans g1.ok g3)).set hi r).setDct hj (by rw [upd_ne npt, upd_same]) (c := .dn w []) (show CtOk K S1 p (HN w p []) (.dn w []) from ⟨[], rfl, .nil⟩) (Ex.none_of g1.ok.sub hp) (g01.fresh o hp) (fun z w => (g1.ok.bag z).tr (w ▸ hp)) (fun m c' hm a1 a2 => ?_)) q
  by_cases hmi : m = i
  · subst hmi
    have hlt : m < δ.length := by
      obtain ⟨w, _⟩ := List.getElem?_eq_some_iff.mp a1
      rwa [List.length_set] at w
    rw [List.getElem?_set_self hlt] at a1
    cases a1
  · rw [List.getElem?_set_ne (Ne.symm hmi)] at a1 a2
    obtain ⟨p', o', b1, b2, _⟩ := e1.dct m c' a1
    rw [b1] at a2
    have : p' = p := V.ref.inj (Option.some.inj (Option.some.inj a2))
    rw [this, hp] at b2
    cases b2
theorem sim_tupDN {w : World} {i j : Nat} (hi : ib ≠ some i) (hj : ib ≠ some j) (h1 : SimE K ib b tb db) :
    SimS K ib b (tAsg (tTup (tCons (tDNewN w) (tCons tb tNil))) (gTup K 2 (gCons (gName i) (gCons (gName j) gNil)))) (dParDN w i j db) := by
  intro S0 H0 Sm S H σ δ D DD o em g0 e h x p hp
  have g1 : Go ib b S H S (upd H p (HN w p [])) := Go.laidOwn g0.ok hp
  have e1 := e.go g1
  have nb : ib ≠ none → p ≠ b.1 := fun z w => (g0.ok.bag z).tr (w ▸ hp)
  refine h1 H0 S _ σ δ _ _ g1.ok e1 h fun S2 H2 v dv g2 r q => ?_
  have g12 := g1.trans g0.ok g2
  have g02 := g0.trans o g12
  have hp2 : H2 p = some (HN w p []) := g2.keep p _ nb upd_same
  have hS2 : S2 p = none := g2.new p (by rw [upd_same]; exact Option.some_ne_none _) (Ex.none_of g0.ok.sub hp)
  refine ⟨by show 2 ≤ sizeLine; decide, fun t ht => ?_⟩
  have g3 : Go ib b S2 H2 S2 (upd H2 t (.tup [.ref p, v])) := Go.laidOwn g02.ok ht
  have npt : p ≠ t := by
    intro z
    rw [← z, hp2] at ht
    cases ht
  refine ⟨t, _, rfl, .inl (.inl upd_same), rfl, _, _, rfl, _, _, rfl, rfl, ?_⟩
  have e2 := e1.go (g2.trans g1.ok g3)
  refine x.nx S2 _ _ _ (g02.trans o g3) (em.trans g12.st) (((e2.setDct hi (by rw [upd_ne npt]; exact hp2) (c := .dn w []) (show CtOk K S2 p (HN w p []) (.dn w []) from ⟨[], rfl, .nil⟩) hS2 (g0.fresh o hp) nb (fun m c' hm a1 a2 => ?_)).set hj r)) q
  obtain ⟨p', o', b1, b2, _⟩ := e.dct m c' a1
  rw [b1] at a2
  have : p' = p := V.ref.inj (Option.some.inj (Option.some.inj a2))
  rw [this, hp] at b2
  cases b2
end
end DL

/-! enumerate of a tuple, of a list, as data. -/
namespace DL
open PySem PySem.Spec PyProof.Rows L2
open Evl (Ex ex_l ex_t)
variable [TheW]
theorem meets_enum1 {v : Value} {o : Obj} {G : Heap → Prop} (B : Begins v o G) :
    Meets (Builtin.«enumerate.__new__» ⟨[.type "enumerate", v], []⟩) (fun _ R s => G s.heap ∧
      R (.ok (.ret (.ref (s.heap.push o).objs.size))) { s with heap := (s.heap.push o).push { cls := .type "enumerate", data := .fields #[.none, .bool false, .ref s.heap.objs.size, rawInt 0, .none, .none] } }) :=
  .of_wp fun prog w A R s ⟨h1, h⟩ => by
    obtain ⟨hp, g, d, tk, os⟩ := s
    have hsub := sub_enumerate
    have q1 : ∀ {A' : Around} {E : Value → Shared → Prop} {Q : Value → Shared → Prop}, Q (.ref hp.objs.size) ⟨hp.push o, g, d, tk, os⟩ → wpAny (model prog w) A' (pyIter v) Q E ⟨hp, g, d, tk, os⟩ :=
      fun q => B.iter prog w _ _ ⟨hp, g, d, tk, os⟩ _ h1 q
    wp_walk using q1
    refine wpAny_stack_any fun st => wpAny_pure ?_
    split
    · rename_i c _ _ _ _ _
      by_cases z : (c == Value.type "enumerate") = true
      · simp only [z]
        wp_walk using q1
        exact ⟨_, rfl, h⟩
      · simp only [z]
        wp_walk using q1
        exact ⟨_, rfl, h⟩
    · wp_walk using q1
      exact ⟨_, rfl, h⟩
section
variable {P : Program} {w : World} {A : Around} {E : Value → Shared → Prop} {s : Shared}
theorem call_enumT {a : Addr} {items : Array Value} {Q : Value → Shared → Prop} (ht : s.heap.IsTuple a items)
    (q : ∀ h', IsEnum h' (s.heap.objs.size + 1) s.heap.objs.size 0 .none → h'.IsTupleIter s.heap.objs.size a 0 → (∀ b o, s.heap.get? b = some o → h'.get? b = some o) → Q (.ref (s.heap.objs.size + 1)) { s with heap := h' }) :
    wpAny (model P w) A (call (.type "enumerate") [.ref a]) Q E s := by
  refine callType_new F.called_enumerate (by decide) (F.typeCall_enumerate_1 _) (F.newCall_enumerate_1 _) (fun ob => F.args_object_init_2 ob _) F.entry_enumerate_new
    (meets_enum1 (begins_tuple a items)) ⟨ht, ?_⟩
  generalize ho : ({ cls := .type "tuple_iterator", data := .fields #[.ref a, .int 0 0] } : Obj) = o
  have fr : o.isFreed = false := by rw [← ho]; rfl
  have hz : (s.heap.push o).objs.size = s.heap.objs.size + 1 := Heap.size_push ..
  have he := Heap.get?_push_size (s.heap.push o) (o := { cls := .type "enumerate", data := .fields #[.none, .bool false, .ref s.heap.objs.size, rawInt 0, .none, .none] }) rfl
  have hit := Heap.get?_push_of_some { cls := .type "enumerate", data := .fields #[.none, .bool false, .ref s.heap.objs.size, rawInt 0, .none, .none] } (Heap.get?_push_size s.heap fr)
  rw [hz] at he
  refine ⟨⟨{ cls := .type "enumerate", data := .fields #[.none, .bool false, .ref s.heap.objs.size, rawInt 0, .none, .none] }, ?_, rfl⟩, ?_⟩
  · rw [hz]; exact he
  · rw [hz]
    exact q _ he ⟨o, hit, by rw [← ho], by rw [← ho]; rfl⟩ fun b o e => Heap.get?_push_of_some _ (Heap.get?_push_of_some _ e)
end
theorem apart {h : Heap} {e it a : Addr} {i : Int} {old : Value} {its : Array Value} (he : IsEnum h e it i old) (p : h.IsTuple a its) : e ≠ a := fun z => by
  obtain ⟨o, ho, hc, _⟩ := p
  rw [← z, show h.get? e = some _ from he] at ho
  cases ho
  exact absurd (show Value.type "enumerate" = Value.type "tuple" from hc) (by decide)
/-- the tuple xs at a, each item in a new pair -/
def IeT (K : PySem.W.Frag) (a : Addr) (xs : List V) : It :=
  ⟨fun i H => SqT K H a xs ∧ i < xs.length, fun i H v H' => ∃ T x, v = .ref T ∧ H T = none ∧ H' = upd H T (.tup [.int (i : Nat), x]) ∧ xs[i]? = some x, fun i H => SqT K H a xs ∧ i = xs.length⟩
section
variable {P : Program} {w : World} {K : PySem.W.Frag} {elts : List Expr} {kk : Nat} {tpos : Pos}
theorem turn_enumT (a e it : Addr) (xs : List V) (ha : a ≠ it) : Turn P w K (.Tuple elts kk tpos) (IeT K a xs) [e, it] e (fun i h => (∃ old, IsEnum h e it ((i : Nat) : Int) old) ∧ h.IsTupleIter it a i ∧ e ≠ it) where
  mem := by simp
  obj := fun i h ⟨⟨old, he⟩, ⟨o, ho, hc, hd⟩, _⟩ b hb => by
    rcases (show b = e ∨ b = it by simpa using hb) with z | z
    · rw [z]; exact ⟨_, he, fun v q => nomatch q⟩
    · rw [z]; exact ⟨o, ho, fun v q => by rw [hd] at q; cases q⟩
  keep := fun i h h' ⟨⟨old, he⟩, hi, hne⟩ k => ⟨⟨old, k e (by simp) _ he⟩, hi.at fun o q => k it (by simp) o q, hne⟩
  item := by
    intro X hP hw hK hc i pins s σ H E I hf ⟨⟨old, he⟩, hit, hne⟩ ⟨hq, hi⟩
    subst hP hw hK
    obtain ⟨its, rv, p, hz⟩ := I.tuple hq
    have hx : xs[i]? = some xs[i] := List.getElem?_eq_getElem hi
    obtain ⟨u, hu, ru⟩ := rv.get hx
    have ea : e ≠ a := apart he p
    refine wpAny_pyNext_enum_itemD (Draws.tuple (by simp [I.ok.hd hc]) it a ha its.toArray) he ⟨hit, p⟩ (by have := rv.length; simp; omega) hne (by simp [hne, ea]) fun x h' tk hx' ho st hT hsz hk => ?_
    obtain ⟨hit', p'⟩ := st
    obtain rfl : u = x := by
      have : its.toArray[i]? = some u := by simpa using hu
      rw [this] at hx'
      cases hx'
      rfl
    have hel : e < s.heap.objs.size := Heap.lt_size he
    have hil : it < s.heap.objs.size := by obtain ⟨_, q, _⟩ := hit; exact Heap.lt_size q
    refine ⟨_, rfl, wpAny_letOwnedTupleGo_enum (s := { s with heap := h', toks := tk + 1 }) ho fun h'' he' sb => ?_⟩
    have hT2 : h''.get? s.heap.objs.size = some { cls := .type "tuple", data := .seq #[.int i tk, u] } := (sb.2 _ (Nat.ne_of_gt hel)).trans hT
    have new : ObjOk X.prog X.w (upd H s.heap.objs.size (.tup [.int (i : Nat), xs[i]])) h'' s.heap.objs.size (.tup [.int (i : Nat), xs[i]]) :=
      ⟨by show 2 ≤ sizeLine; decide, [.int i tk, u], .cons ⟨_, rfl⟩ (.cons ru .nil), ⟨_, hT2, rfl, _, rfl⟩⟩
    have I1 : Inv X pins σ (upd H s.heap.objs.size (.tup [.int (i : Nat), xs[i]])) { s with heap := h'', toks := tk + 1 } :=
      I.turnedNew (ch := [e, it]) (fun b ob hb q => (sb.2 b (fun z => hb (by simp [z]))).trans (hk b ob (fun z => hb (by simp [z])) (fun z => hb (by simp [z])) q)) hf (Nat.le_refl _) new
    refine ⟨.ref s.heap.objs.size, _, I1, rfl, ⟨_, _, rfl, I.hok.fresh (Nat.le_refl _), rfl, hx⟩, ⟨⟨u, ?_⟩, hit'.at fun o q => (sb.2 it (Ne.symm hne)).trans q, hne⟩, fun b hb => ?_⟩
    · rw [show ((i + 1 : Nat) : Int) = (i : Int) + 1 by omega]
      exact he'
    · have hb' : b < s.heap.objs.size := by
        rcases (show b = e ∨ b = it by simpa using hb) with z | z
        · rw [z]; exact hel
        · rw [z]; exact hil
      rw [upd_ne (Nat.ne_of_lt hb')]
      exact (hf b hb).1
  done := by
    intro X hP hw hK hc i pins s σ H E I hf ⟨⟨old, he⟩, hit, hne⟩ ⟨hq, hi⟩
    subst hP hw hK
    obtain ⟨its, rv, p, hz⟩ := I.tuple hq
    obtain ⟨f0, f1, f2, f3, f4, f5⟩ := hf it (by simp)
    have hl : i = its.toArray.size := by rw [hi, rv.length]; simp
    subst hl
    exact wpAny_pyNext_enum_endD (Draws.tuple (by simp [I.ok.hd hc]) it a ha its.toArray) he ⟨hit, p⟩ fun h' eb => ⟨rfl, I.turned (t' := s.toks) (fun b o hb q => eb b o hb q) f0 f1 f3 f4 f5⟩
  self := fun A i s Q E ⟨⟨_, he⟩, _⟩ h => wpAny_pyIter_enum he h
def iEnT (K : PySem.W.Frag) (ta : TA) : TI := fun σ H R => ta σ H fun vs H1 => ∃ a xs, vs = [.ref a] ∧ SqT K H1 a xs ∧ R (IeT K a xs) H1
theorem pi_enumT {X : Cx} {e : Expr} {ta : TA} {p pos : Pos} (hg : Gl X "enumerate") (hm : X.mg "enumerate" = none) (ha : PA X [e] ta) (hs : starEach [e] X.env = [(false, eval e X.env)] := by rfl) :
    PI X (.Tuple elts kk tpos) (.Call (.Name "enumerate" p) [e] [] pos) (iEnT X.K ta) := by
  refine ⟨fun pins s σ H R I h => ?_⟩
  refine Call_ (ld_blt I hg hm boot_enumerate (PyProof.Rows.callWith_type1 (thn (ha.run pos pins s σ H _ I h) fun us s1 ⟨vs, H1, I1, r1, a, xs, ex, hq, q⟩ => ?_) hs rfl))
  subst ex
  obtain ⟨u, rfl, ru⟩ := vals1 r1
  obtain rfl : u = Value.ref a := ru
  obtain ⟨its, rv, p', hz⟩ := I1.tuple hq
  refine call_enumT p' fun h' he hit hk => wpAny_pyIter_enum he ?_
  have I2 : Inv X pins σ H1 { s1 with heap := h' } := I1.kept (t' := s1.toks) hk
  have la : a < s1.heap.objs.size := by obtain ⟨_, z, _⟩ := p'; exact Heap.lt_size z
  refine ⟨s1.heap.objs.size + 1, [s1.heap.objs.size + 1, s1.heap.objs.size], _, _, H1, rfl, I2, turn_enumT a (s1.heap.objs.size + 1) s1.heap.objs.size xs (Nat.ne_of_lt la), ⟨⟨.none, he⟩, hit, Nat.succ_ne_self _⟩, fun b hb => ?_, q⟩
  have hle : s1.heap.objs.size ≤ b := by
    rcases (show b = s1.heap.objs.size + 1 ∨ b = s1.heap.objs.size by simpa using hb) with z | z
    · rw [z]; exact Nat.le_succ _
    · rw [z]; exact Nat.le_refl _
  exact I1.fpOk hle (I1.hok.fresh hle)
end
/-! over data -/
def numsD (ds : List PyData) : List PyData := ds.zipIdx.map fun p => .tuple [.int (p.2 : Nat), p.1]
theorem nums_len (ds : List PyData) : (numsD ds).length = ds.length := by simp [numsD]
theorem nums_get {ds : List PyData} {i : Nat} {d : PyData} (h : ds[i]? = some d) : (numsD ds)[i]? = some (.tuple [.int (i : Nat), d]) := by
  simp [numsD, List.getElem?_map, List.getElem?_zipIdx, h]
def dEnum (de : DE) : DA := fun δ R => de δ fun x => match x with
  | .tuple ds => R (numsD ds)
  | _ => False
def dEnumL (de : DE) : DA := fun δ R => de δ fun x => match x with
  | .list ds => R (numsD ds)
  | _ => False
section
variable {K : PySem.W.Frag} {ib : Option Nat} {b : Bg} {te : TE} {de : DE}
theorem laid_pair {S H : Hp} {T : Addr} {x : V} {d : PyData} {i : Nat} (o : Okk ib b S H) (hT : H T = none) (r : Rep K S x d) :
    ∃ S2, Go ib b S H S2 (upd H T (.tup [.int (i : Nat), x])) ∧ Rep K S2 (.ref T) (.tuple [.int (i : Nat), d]) := by
  have g := Go.laid (u := .tup [.int (i : Nat), x]) o hT
  exact ⟨_, g, .tup (Evl.st_of upd_same) (.cons (.int _) (.cons (r.mono g.st) .nil))⟩
theorem sim_iEnum (h1 : SimE K ib b te de) : SimI K ib b (iEnT K (tCons te tNil)) (dEnum de) := by
  intro H0 S H σ δ R Q o e h k
  refine h1 H0 S H σ δ _ _ o e h fun S1 H1 v dv g r q => ?_
  cases r with
  | tup hq rs =>
    rename_i a xs ds
    refine ⟨a, xs, rfl, ex_t g.ok.sub hq, k S1 H1 _ _ g (fun S2 H2 ex o2 => ?_) q⟩
    have hL : SqT K H2 a xs := ex_t o2.sub (ex_t ex hq)
    have rl := rs.length
    have nl := nums_len ds
    refine ⟨fun i hi => ⟨hL, by omega⟩, ⟨hL, by omega⟩, fun i x H' hi y => ?_⟩
    obtain ⟨T, x0, rfl, hT, rfl, hx⟩ := y
    obtain ⟨d, hd, rd⟩ := rs.getV hx
    obtain ⟨S3, g3, r3⟩ := laid_pair (i := i) o2 hT (rd.mono ex)
    exact ⟨S3, _, g3, nums_get hd, r3⟩
  | _ => exact q.elim
theorem sim_iEnumL (h1 : SimE K ib b te de) : SimI K ib b (iEnum K (tCons te tNil)) (dEnumL de) := by
  intro H0 S H σ δ R Q o e h k
  refine h1 H0 S H σ δ _ _ o e h fun S1 H1 v dv g r q => ?_
  cases r with
  | lst hq rs =>
    rename_i a xs ds
    refine ⟨a, xs, rfl, SqL.of (g.ok.sub _ _ hq), k S1 H1 _ _ g (fun S2 H2 ex o2 => ?_) q⟩
    have hL : SqL K H2 a xs := SqL.of (o2.sub _ _ (ex _ _ hq))
    have rl := rs.length
    have nl := nums_len ds
    refine ⟨fun i hi => ⟨xs, xs[i]'(by omega), hL, by simp⟩, ⟨xs, hL, by omega⟩, fun i x H' hi y => ?_⟩
    obtain ⟨T, x0, rfl, hT, rfl, hx⟩ := y
    obtain ⟨d, hd, rd⟩ := rs.getV (hx xs hL)
    obtain ⟨S3, g3, r3⟩ := laid_pair (i := i) o2 hT (rd.mono ex)
    exact ⟨S3, _, g3, nums_get hd, r3⟩
  | _ => exact q.elim
end
end DL

/-! Comprehensions of two clauses. -/
namespace DL
open PySem PySem.Spec PyProof.Rows L2
open Evl (Ex ex_l ex_t)
variable [TheW]
/-- one turn of a clause: em where the tests hold, then nx -/
def oneTurn (tg : Expr) (ifs : List Expr) (p : Pos) (env : Env) (it : Value) (em : Sem Fin → Sem Fin) (nx : Sem Fin) : Sem Fin := do
  standAt p
  match ← pyNext it with
  | none => pure (.done .next)
  | some v =>
    letOwnedTupleGo tg it v
    assign tg env v
    let mut ok := true
    for c in ifs do
      if ok then ok ← isTrue c env (eval c env)
    if ok then em nx else nx
/-- k: v put into the dict at D -/
def emD (kx vx : Expr) (D : Addr) (env : Env) : Sem Unit := do
  let kv ← eval kx env
  let vv ← holding [kv] (eval vx env)
  standAt { kx.pos with endLine := vx.pos.endLine, endCol := vx.pos.endCol }
  holding [kv, vv] (dictSet D kv vv)
/-- x put to the list -/
def emL (elt : Expr) (acc : Value) (env : Env) : Sem Unit := do let _ ← call (.builtin "list.append") [acc, ← eval elt env]
/-- the next clause's loop -/
def emIn (e iter : Expr) (acc : Value) (env : Env) (nx : Sem Fin) : Sem Fin := do
  let x ← eval iter env
  standAt iter.pos
  let x ← foldedSetIterable iter env x
  let _ ← runOwn (.compStart e 1 (← holding [x] (pyIter x)) acc env) env
  nx
def emOut (em : Sem Unit) (nx : Sem Fin) : Sem Fin := em >>= fun _ => nx
section
variable {kx vx elt t0 i0 t1 i1 : Expr} {f0 f1 : List Expr} {scope : Scope} {pos : Pos} {it acc : Value} {D : Addr} {env : Env}
theorem turnD0 : compTurn (.DictComp kx vx [⟨t0, i0, f0, 0⟩, ⟨t1, i1, f1, 0⟩] scope pos) 0 it acc env =
    oneTurn t0 f0 i0.pos env it (emIn (.DictComp kx vx [⟨t0, i0, f0, 0⟩, ⟨t1, i1, f1, 0⟩] scope pos) i1 acc env) (again (.compLoop (.DictComp kx vx [⟨t0, i0, f0, 0⟩, ⟨t1, i1, f1, 0⟩] scope pos) 0 it acc env)) := by rfl
theorem turnD1 : compTurn (.DictComp kx vx [⟨t0, i0, f0, 0⟩, ⟨t1, i1, f1, 0⟩] scope pos) 1 it (.ref D) env =
    oneTurn t1 f1 i1.pos env it (emOut (emD kx vx D env)) (again (.compLoop (.DictComp kx vx [⟨t0, i0, f0, 0⟩, ⟨t1, i1, f1, 0⟩] scope pos) 1 it (.ref D) env)) := by rfl
theorem turnL0 : compTurn (.ListComp elt [⟨t0, i0, f0, 0⟩, ⟨t1, i1, f1, 0⟩] scope pos) 0 it acc env =
    oneTurn t0 f0 i0.pos env it (emIn (.ListComp elt [⟨t0, i0, f0, 0⟩, ⟨t1, i1, f1, 0⟩] scope pos) i1 acc env) (again (.compLoop (.ListComp elt [⟨t0, i0, f0, 0⟩, ⟨t1, i1, f1, 0⟩] scope pos) 0 it acc env)) := by rfl
theorem turnL1 : compTurn (.ListComp elt [⟨t0, i0, f0, 0⟩, ⟨t1, i1, f1, 0⟩] scope pos) 1 it acc env =
    oneTurn t1 f1 i1.pos env it (emOut (emL elt acc env)) (again (.compLoop (.ListComp elt [⟨t0, i0, f0, 0⟩, ⟨t1, i1, f1, 0⟩] scope pos) 1 it acc env)) := by rfl
end
section
variable {P : Program} {w : World} {A : Around} {R : Result → Shared → Prop} {s : Shared} {e tg : Expr} {ifs : List Expr} {p : Pos} {d : Nat} {it acc : Value} {env : Env} {em : Sem Fin → Sem Fin}
/-- what em does ends in Q; no raise -/
def Puts (P : Program) (w : World) (A : Around) (em : Sem Fin → Sem Fin) (Q : Shared → Prop) (s : Shared) : Prop := ∀ (nx : Sem Fin) (Q' : Fin → Shared → Prop) (E : Value → Shared → Prop), (∀ s', Q s' → wpAny (model P w) A nx Q' E s') → wpAny (model P w) A (em nx) Q' E s
theorem Puts.out {em : Sem Unit} {Q : Shared → Prop} (h : wpAny (model P w) A em (fun _ s' => Q s') (fun _ _ => False) s) : Puts P w A (emOut em) Q s := fun nx Q' E q => wpAny_bind (thnF h fun _ s' z => q s' z)
/-- a comprehension that is laid in place (no generator) -/
structure InPlace (P : Program) (w : World) (e : Expr) : Prop where
  q : ∀ d it acc env, (Code.compLoop e d it acc env).quiet = true
  u1 : ∀ (A : Around) d it acc env, A.under (.compLoop e d it acc env) = A
  d1 : ∀ d it acc env, (model P w).den (.compLoop e d it acc env) = ((compTurn e d it acc env).onRaise (fun x => do noteFrame x env; theTreesLotGoes x))
  u2 : ∀ (A : Around) d it acc env, A.under (.compStart e d it acc env) = A
  d2 : ∀ d it acc env, (model P w).den (.compStart e d it acc env) = ((compStart e d it acc env).onRaise (fun x => do noteFrame x env; standAt theWindowsPlace))
theorem inPlace_dict {kx vx : Expr} {gs : List Comprehension} {scope : Scope} {pos : Pos} : InPlace P w (.DictComp kx vx gs scope pos) := ⟨fun _ _ _ _ => rfl, fun _ _ _ _ _ => rfl, fun _ _ _ _ => rfl, fun _ _ _ _ _ => rfl, fun _ _ _ _ => rfl⟩
theorem inPlace_list {elt : Expr} {gs : List Comprehension} {scope : Scope} {pos : Pos} : InPlace P w (.ListComp elt gs scope pos) := ⟨fun _ _ _ _ => rfl, fun _ _ _ _ _ => rfl, fun _ _ _ _ => rfl, fun _ _ _ _ _ => rfl, fun _ _ _ _ => rfl⟩
/-- a clause's loop: no turn raises -/
theorem loopEm (ip : InPlace P w e) (ht : compTurn e d it acc env = oneTurn tg ifs p env it em (again (.compLoop e d it acc env))) (I : Nat → Shared → Prop)
    (turn : ∀ n s, I n s → wpAny (model P w) A (pyNext it) (fun r s₁ => match r with
      | none => R (.ok .next) s₁
      | some v => wpAny (model P w) A (letOwnedTupleGo tg it v) (fun _ s₂ => wpAny (model P w) A (assign tg env v) (fun _ s₃ =>
          wpAny (model P w) A (forIn ifs true fun c r => if r = true then do let ok ← isTrue c env (eval c env); pure (ForInStep.yield ok) else pure (ForInStep.yield r)) (fun ok s₄ =>
            if ok = true then Puts P w A em (fun s₅ => ∃ m, m < n ∧ I m s₅) s₄ else ∃ m, m < n ∧ I m s₄) (fun _ _ => False) s₃) (fun _ _ => False) s₂) (fun _ _ => False) s₁) (fun _ _ => False) s)
    (n : Nat) (h : I n s) : codeAny (model P w) A (.compLoop e d it acc env) R s := by
  refine codeAny_loop (ip.q ..) I (fun n s hI => ?_) n h
  rw [ip.u1, ip.d1]
  refine wpAny_noted ?_
  rw [ht]
  unfold oneTurn
  refine wpAny_bind (wpAny_standAt (wpAny_bind (thnF (turn n s hI) fun r s₁ h₁ => ?_)))
  cases r with
  | none => exact wpAny_pure h₁
  | some v =>
    refine wpAny_bind (thnF h₁ fun _ s₂ h₂ => ?_)
    refine wpAny_bind (thnF h₂ fun _ s₃ h₃ => wpAny_bind (thnF h₃ fun ok s₄ h₄ => ?_))
    cases ok with
    | false => exact wpAny_pure ⟨rfl, h₄⟩
    | true =>
      rw [if_pos rfl] at h₄
      exact h₄ _ _ _ fun s₅ h₅ => wpAny_pure ⟨rfl, h₅⟩
theorem startEm (ip : InPlace P w e) {g : Comprehension} (hg : (clausesOf e)[d]? = some g) (ha : g.is_async = 0) (h0 : codeAny (model P w) A (.compLoop e d it acc env) R s)
    (h : wpAny (model P w) A (pyIter it) (fun it' s' => codeAny (model P w) A (.compLoop e d it' acc env) R s') (fun _ _ => False) s) : codeAny (model P w) A (.compStart e d it acc env) R s := by
  refine codeAny_of_tree ?_
  rw [ip.u2, ip.d2]
  refine wpAny_notedAt ?_
  unfold compStart
  rw [hg]
  simp only [Option.elim, ha]
  show wpAny _ A (ask >>= _) _ _ s
  refine wpAny_bind (wpAny_askSetting (wpAny_ite ?_))
  split
  · first
      | exact wpAny_bind (wpAny_pure (wpAny_pure (And.intro rfl h0)))
      | exact wpAny_pure (And.intro rfl h0)
  · refine wpAny_bind (wpAny_rule ?_)
    show wpAny _ _ (standAt g.iter.pos >>= _) _ _ s
    exact wpAny_bind (wpAny_standAt (wpAny_bind (thnF h fun it' s' h' => wpAny_pure (And.intro rfl h'))))
end
end DL

/-! Comprehensions of two clauses: readings. -/
namespace DL
open PySem PySem.Spec PyProof.Rows L2
open Evl (Ex ex_l ex_t)
variable [TheW]
/-- what is put, read: to where it goes -/
abbrev TPut := L2.St → Hp → (Hp → Prop) → Prop
structure PM (Y : Cx) (em : Sem Fin → Sem Fin) (t : TPut) (vs : List Nat) : Prop where
  run : ∀ (pins : List (Addr × Obj)) (s : Shared) (σ : L2.St) (H : Hp) (N : Hp → Prop), Inv Y pins σ H s → t σ H N → Puts Y.prog Y.w Y.A em (fun s' => ∃ H', Inv Y pins (wipe σ vs) H' s' ∧ N H') s
def putD (tk tv : TE) (D : Addr) : TPut := fun σ H N => tk σ H fun y H1 => tv σ H1 fun z H2 => ∃ kvs k, y = kV k ∧ H2 D = some (.dK kvs) ∧ kvs.length < sizeLine ∧ N (upd H2 D (.dK (putK kvs k z)))
def putL (te : TE) (D : Addr) : TPut := fun σ H N => te σ H fun y H1 => ∃ acc, H1 D = some (.lst acc) ∧ acc.length < sizeLine ∧ N (upd H1 D (.lst (acc ++ [y])))
/-- one turn's reading, N behind it -/
def turnT (J : It) (g : TG) (tt : TT) (t : TPut) (vs : List Nat) (σ : L2.St) (i : Nat) (H : Hp) (N : Hp → Prop) : Prop := ∀ x H', J.yld i H x H' → g x (wipe σ vs) H' fun σ2 H2 => wipe σ2 vs = wipe σ vs ∧ tt σ2 H2 fun b H3 => if b = true then t σ2 H3 N else N H3
/-- all turns from H on, Q behind them -/
def walkT (J : It) (g : TG) (tt : TT) (t : TPut) (vs : List Nat) (σ : L2.St) (H1 : Hp) (Q : Hp → Prop) : Prop := ∃ W : Nat → Nat → Hp → Prop, (∃ m, W 0 m H1) ∧ ∀ i m H, W i m H →
  (J.stop i H ∧ Q H) ∨ (J.go i H ∧ ∃ N : Hp → Prop, (∀ H', N H' → ∃ m', m' < m ∧ W (i + 1) m' H') ∧ turnT J g tt t vs σ i H N)
def putIn2 (wi : TI) (g : TG) (tt : TT) (t : TPut) (vs : List Nat) : TPut := fun σ H N => wi σ H fun J H1 => walkT J g tt t vs σ H1 N
def tC2f (wi : TI) (g : TG) (tt : TT) (t : Addr → TPut) (u0 : Addr → HO) (vs : List Nat) : TE := fun σ H Q => wi σ H fun J H1 => ∀ D, H1 D = none → walkT J g tt (t D) vs σ (upd H1 D (u0 D)) (Q (.ref D))
def tC2 (wi : TI) (g : TG) (tt : TT) (t : Addr → TPut) (u0 : HO) (vs : List Nat) : TE := tC2f wi g tt t (fun _ => u0) vs
section
variable {Y : Cx}
theorem pm_D {kx vx : Expr} {tk tv : TE} {D : Addr} (hx : Y.xe = fun _ _ => False) (hk : PE Y kx tk) (hv : PE Y vx tv) : PM Y (emOut (emD kx vx D Y.env)) (putD tk tv D) [] := by
  refine ⟨fun pins s σ H N I h => Puts.out ?_⟩
  unfold emD
  have k1 := hk.run pins s σ H _ I h
  rw [hx] at k1
  refine wpAny_bind (thnF k1 fun u s1 ⟨y, H1, I1, r1, q1⟩ => ?_)
  have k2 := hv.run pins s1 σ H1 _ I1 q1
  rw [hx] at k2
  refine wpAny_bind (wpAny_holding (thnF k2 fun r s2 ⟨z, H2, I2, r2, kvs, k, ek, hD, hz, nx⟩ => ?_))
  subst ek
  refine wpAny_bind (wpAny_standAt (wpAny_holding ?_))
  exact d_dictSet I2 hD hz r1 r2 fun s3 I3 => ⟨_, I3, nx⟩
/-- the turns of a loop in place -/
theorem walkPM {e tg : Expr} {ifs : List Expr} {p : Pos} {d : Nat} {acc : Value} {em : Sem Fin → Sem Fin} {t : TPut} {vE vs : List Nat} {g : TG} {tt : TT} {J : It} {fp : List Addr} {it : Addr} {tn : Nat → Heap → Prop} {R : Result → Shared → Prop}
    (hx : Y.xe = fun _ _ => False) (hc : Y.calm = true) (ip : InPlace Y.prog Y.w e) (ht : compTurn e d (.ref it) acc Y.env = oneTurn tg ifs p Y.env (.ref it) em (again (.compLoop e d (.ref it) acc Y.env))) (pg : PG Y tg g) (pt : PTs Y ifs tt) (pm : PM Y em t vE) (hE : ∀ v ∈ vE, v ∈ vs)
    (T : Turn Y.prog Y.w Y.K tg J fp it tn) {pins : List (Addr × Obj)} {s : Shared} {σ : L2.St} {H : Hp} {Q : Hp → Prop} (I : Inv Y pins (wipe σ vs) H s) (st : tn 0 s.heap) (f : ∀ b ∈ fp, FpOk Y pins H b) (h : walkT J g tt t vs σ H Q)
    (q : ∀ s' H', Inv Y pins (wipe σ vs) H' s' → (∀ b ∈ fp, H' b = none) → Q H' → R (.ok .next) s') : codeAny (model Y.prog Y.w) Y.A (.compLoop e d (.ref it) acc Y.env) R s := by
  obtain ⟨W, ⟨m0, w0⟩, turn⟩ := h
  have stat : ∀ {H' : Hp}, (∀ b ∈ fp, H' b = none) → ∀ b ∈ fp, FpOk Y pins H' b := fun hn b hb => ⟨hn b hb, (f b hb).2⟩
  refine loopEm ip ht (fun n s' => ∃ i H', Inv Y pins (wipe σ vs) H' s' ∧ tn i s'.heap ∧ (∀ b ∈ fp, H' b = none) ∧ W i n H') ?_ m0 ⟨0, H, I, st, fun b hb => (f b hb).1, w0⟩
  rintro n s1 ⟨i, H1, I1, st1, n1, w1⟩
  rcases turn i n H1 w1 with ⟨stop, qq⟩ | ⟨go, N, hN, step⟩
  · refine thnF (T.done Y rfl rfl rfl hc i pins s1 _ H1 (fun _ _ => False) I1 (stat n1) st1 stop) fun r s2 ⟨hr, I2⟩ => ?_
    subst hr
    exact q s2 H1 I2 n1 qq
  · refine thnF (T.item Y rfl rfl rfl hc i pins s1 _ H1 (fun _ _ => False) I1 (stat n1) st1 go) fun r s2 ⟨u, hr, h2⟩ => ?_
    subst hr
    refine thnF h2 fun _ s3 ⟨x, H3, I3, r3, y3, st3, n3⟩ => ?_
    have I3' := I3.pinned (stat n3) (T.obj _ _ st3)
    have k1 := pg.run _ s3 _ H3 x u _ I3' r3 (step x H3 y3)
    rw [hx] at k1
    refine thnF k1 fun _ s4 ⟨σ4, H4, I4, e4, q4⟩ => ?_
    have k2 := pt.run _ s4 σ4 H4 _ I4 q4
    rw [hx] at k2
    refine thnF k2 fun b s5 ⟨H5, I5, q5⟩ => ?_
    have fin : ∀ {s' : Shared} {H' : Hp}, Inv Y (pins ++ pinsAt fp s3.heap) (wipe σ4 vE) H' s' → N H' → ∃ m, m < n ∧ ∃ i H', Inv Y pins (wipe σ vs) H' s' ∧ tn i s'.heap ∧ (∀ b ∈ fp, H' b = none) ∧ W i m H' := fun {s' H'} I' nx => by
      obtain ⟨m', hm, w'⟩ := hN H' nx
      have pin : ∀ b ∈ fp, ∀ o, s3.heap.get? b = some o → s'.heap.get? b = some o ∧ H' b = none := fun b hb o e =>
        let z := I'.pin (b, o) (List.mem_append_right _ (List.mem_append_right _ (mem_pinsAt hb e)))
        ⟨z.1, z.2.1⟩
      refine ⟨m', hm, i + 1, H', I'.unpinned.weak (by rw [← e4, wipe_length, wipe_length]) (fun j v e => ?_), T.keep _ _ _ st3 fun b hb o e => (pin b hb o e).1, fun b hb => ?_, w'⟩
      · rw [← e4, wipe_get] at e
        rw [wipe_get]
        split at e
        · cases e
        · rename_i c
          rw [if_neg fun z => c ⟨hE j z.1, z.2⟩]
          exact e
      · obtain ⟨o, e, _⟩ := T.obj _ _ st3 b hb
        exact (pin b hb o e).2
    cases b with
    | false =>
      simp only [Bool.false_eq_true, if_false] at q5 ⊢
      refine fin (I5.weak (wipe_length _ _) fun j v e => ?_) q5
      exact (wipe_some e).1
    | true =>
      simp only [if_true] at q5 ⊢
      intro nx Q' E qn
      exact pm.run _ s5 σ4 H5 N I5 q5 nx Q' E fun s6 ⟨H6, I6, n6⟩ => qn s6 (fin I6 n6)
theorem pm_in {e tg iter : Expr} {ifs : List Expr} {p : Pos} {acc : Value} {em : Sem Fin → Sem Fin} {t : TPut} {vE vs : List Nat} {wi : TI} {g : TG} {tt : TT} (hx : Y.xe = fun _ _ => False) (hc : Y.calm = true) (ip : InPlace Y.prog Y.w e)
    (hg : (clausesOf e)[1]? = some ⟨tg, iter, ifs, 0⟩) (ht : ∀ it, compTurn e 1 it acc Y.env = oneTurn tg ifs p Y.env it em (again (.compLoop e 1 it acc Y.env))) (hi : PI Y tg iter wi) (pg : PG Y tg g) (pt : PTs Y ifs tt) (pm : PM Y em t vE) (hE : ∀ v ∈ vE, v ∈ vs)
    (hs : ∀ x, foldedSetIterable iter Y.env x = pure x) : PM Y (emIn e iter acc Y.env) (putIn2 wi g tt t vs) vs := by
  refine ⟨fun pins s σ H N I h nx Q' E qn => ?_⟩
  unfold emIn
  have k1 := hi.run pins s σ H _ I h
  rw [hx] at k1
  refine wpAny_bind (thnF k1 fun v s1 h1 => wpAny_bind (wpAny_standAt ?_))
  rw [hs]
  refine wpAny_bind (wpAny_pure (wpAny_bind (wpAny_holding (thnF h1 fun itv s2 h2 => ?_))))
  obtain ⟨it, fp, tn, J, H2, e2, I2, T, st2, f2, q2⟩ := h2
  subst e2
  refine wpAny_bind (wpAny_runOwn ?_)
  have loop : codeAny (model Y.prog Y.w) Y.A (.compLoop e 1 (.ref it) acc Y.env) (fun r s' => match r with | .ok f => wpAny (model Y.prog Y.w) Y.A nx Q' E s' | .error x => cameBackBy (model Y.prog Y.w) Y.A Y.env E x s') s2 :=
    walkPM hx hc ip (ht _) pg pt pm hE T (I2.weak (wipe_length _ _) fun j v e => (wipe_some e).1) st2 f2 q2 fun s' H' I' n' z => qn s' ⟨H', I', z⟩
  exact startEm ip hg rfl loop (T.self _ 0 _ _ _ st2 loop)
end
end DL

/-! Comprehensions of two clauses: as values. -/
namespace DL
open PySem PySem.Spec PyProof.Rows L2
open Evl (Ex ex_l ex_t)
variable [TheW]
section
variable {X : Cx}
/-- in the block -/
def InBlk (X : Cx) (scope : Scope) (P : Cx → Prop) : Prop := ∀ (s : Shared) (H : Hp) (C : Addr) (cl : List (Str × Addr)) (fp : List Addr), P (X.blk s H scope (compEnvC scope cl C X.env) fp)
theorem core2 {e tg iter : Expr} {ifs : List Expr} {gs : List Comprehension} {p : Pos} {scope : Scope} {own : List (Str × Nat)} {pos' : Pos} {em : Addr → Env → Sem Fin → Sem Fin} {t : Addr → TPut} {vE : List Nat} {wi : TI} {g : TG} {tt : TT} {ob : Obj} {u0 : Addr → HO} {newAcc : Sem Value}
    {pins : List (Addr × Obj)} {s : Shared} {σ : L2.St} {H : Hp} {Q : VK} {use : Option (Value → Sem Unit)} {Qf : Value → Shared → Prop} (hc : X.calm = true) (hN : X.N.Nodup) (I : Inv X pins σ H s) (hi : PI X tg iter wi) (ok : BlkOk X.N X.env.scope scope own)
    (ip : InPlace X.prog X.w e) (hcl : clausesOf e = ⟨tg, iter, ifs, 0⟩ :: gs) (hnew : ∀ (E : Value → Shared → Prop) (s : Shared) (Q : Value → Shared → Prop), Q (.ref s.heap.objs.size) { s with heap := s.heap.push ob } → wpAny (model X.prog X.w) X.A newAcc Q E s)
    (fr : ob.isFreed = false) (hob : ∀ (s : Shared) (H : Hp) (σ : L2.St), Inv X pins σ H s → ObjOk X.prog X.w (upd H s.heap.objs.size (u0 s.heap.objs.size)) (s.heap.push ob) s.heap.objs.size (u0 s.heap.objs.size))
    (ht : ∀ it D env, compTurn e 0 it (.ref D) env = oneTurn tg ifs p env it (em D env) (again (.compLoop e 0 it (.ref D) env)))
    (hg : InBlk X scope fun Y => PG Y tg g) (htt : InBlk X scope fun Y => PTs Y ifs tt) (hm : ∀ D, InBlk X scope fun Y => PM Y (em D Y.env) (t D) vE) (hE : ∀ v ∈ vE, v ∈ own.map (·.2)) (hs : ∀ x, foldedSetIterable iter X.env x = pure x)
    (h : tC2f wi g tt t u0 (own.map (·.2)) σ H Q)
    (hRR : ∀ D C s' m H', Inv X pins σ H' s' → Q (.ref D) H' → s'.heap.Ns C m → FpOk X pins H' C → compPost (model X.prog X.w) X.A X.xe use Qf (.ref D) C (.ok .next) s') :
    wpAny (model X.prog X.w) X.A (comprehension e scope X.env pos' newAcc false (eval iter X.env) use) Qf X.xe s := by
  refine wpAny_comprehension_free (use := use) hcl hs (closure_ok fun y hy e => (ok.free y hy e).elim (fun k => I.ok.has _ (.inl k)) fun k => I.ok.has _ (.inr k)) ok.kind (fun y hy e => by rw [ok.uniq y hy, e])
    (thn (hi.run pins s σ H _ I h) fun xv s1 hx => thn hx fun itv s2 ⟨it, fp, tn, J, H2, e2, I2, T, st2, f2, q⟩ => ?_)
  subst e2
  refine hnew _ _ _ (newEnv_comp ?_)
  have hDn : H2 s2.heap.objs.size = none := I2.hok.fresh (Nat.le_refl _)
  have walk := q s2.heap.objs.size hDn
  have I3 : Inv X pins σ (upd H2 s2.heap.objs.size (u0 s2.heap.objs.size)) { s2 with heap := s2.heap.push ob } :=
    I2.laid (t' := s2.toks) (fun b o e => Heap.get?_push_of_some _ e) (Nat.le_refl _) (hob s2 H2 σ I2)
  have hs3 : ({ s2 with heap := s2.heap.push ob } : Shared).heap = s2.heap.push ob := rfl
  have low : ∀ b ∈ fp, b < s2.heap.objs.size := fun b hb => let ⟨o, e, _⟩ := T.obj _ _ st2 b hb; Heap.lt_size e
  have f3 : ∀ b ∈ fp, FpOk X pins (upd H2 s2.heap.objs.size (u0 s2.heap.objs.size)) b ∧ b < (s2.heap.push ob).objs.size := fun b hb =>
    ⟨⟨(upd_ne (Nat.ne_of_lt (low b hb))).trans (f2 b hb).1, (f2 b hb).2⟩, by rw [Heap.size_push]; exact Nat.lt_succ_of_lt (low b hb)⟩
  have st3 : tn 0 (s2.heap.push ob) := T.keep _ _ _ st2 fun b _ o e => Heap.get?_push_of_some _ e
  have I4 := block_start (fp := fp) I3 ok hN f3
  have f4 : ∀ {σ' : L2.St} {H' : Hp} {s' : Shared} {ce : Env} {s0 : Shared} {H0 : Hp}, Inv (X.blk s0 H0 scope ce fp) [] σ' H' s' → (∀ b ∈ fp, H' b = none) → ∀ b ∈ fp, FpOk (X.blk s0 H0 scope ce fp) [] H' b := fun {σ' H' s' ce s0 H0} I' hn b hb =>
    ⟨hn b hb, (I'.ok.exf b hb).1, I'.ok.exfs b hb, .inl hb, fun x c e => (I'.ok.exf b hb).2 x c e, fun p hp => absurd (show p ∈ ([] : List (Addr × Obj)) ++ [] from hp) (by simp)⟩
  have st4 : tn 0 (pushCells ((s2.heap.push ob).push { cls := .type "dict", data := .dict #[] }) scope.names) := T.keep _ _ _ st3 fun b _ o e => pushCells_keeps _ _ _ _ (Heap.get?_push_of_some _ e)
  have loop := walkPM (Y := X.blk { s2 with heap := s2.heap.push ob } (upd H2 s2.heap.objs.size (u0 s2.heap.objs.size)) scope (compEnvC scope (cellsFrom ((s2.heap.push ob).objs.size + 1) scope.names (cloFrom X.env.cells scope.names [])) (s2.heap.push ob).objs.size X.env) fp) (R := compPost (model X.prog X.w) X.A X.xe use Qf (.ref s2.heap.objs.size) (s2.heap.push ob).objs.size) rfl hc ip (ht (.ref it) s2.heap.objs.size _) (hg _ _ _ _ fp) (htt _ _ _ _ fp) (hm s2.heap.objs.size _ _ _ _ fp) hE T I4 st4 (f4 I4 fun b hb => (f3 b hb).1.1) walk fun s' H' I6 n6 z => ?_
  · exact startEm ip (by rw [hcl]; rfl) rfl loop (T.self X.A 0 _ _ _ st4 loop)
  · have I7 : Inv X pins σ H' s' := I3.call' (ch := fp) I6.os I6.base I6.hok I6.bare fun b hb => ⟨(f3 b hb).1.2.2.2.1, (f3 b hb).1.2.1, (f3 b hb).1.2.2.2.2.1, (f3 b hb).1.2.2.2.2.2⟩
    have nC : H' (s2.heap.push ob).objs.size = none := I6.free
    obtain ⟨m, hn, _⟩ := I6.loc
    exact hRR _ _ s' m H' I7 z hn (I3.fpOk (Nat.le_refl _) nC)
theorem post_of {D C : Addr} {s' : Shared} {m H' pins σ Q} (I' : Inv X pins σ H' s') (q : Q (.ref D) H') (hn : s'.heap.Ns C m) (f : FpOk X pins H' C) : compPost (model X.prog X.w) X.A X.xe none (EP X pins σ Q) (.ref D) C (.ok .next) s' :=
  ⟨m, hn, fun h'' sb => by
    obtain ⟨f0, f1, f2, f3, f4, f5⟩ := f
    exact ⟨.ref D, H', I'.turned (t' := s'.toks) (fun b o hb e => (sb.2 b hb).trans e) f0 f1 f3 f4 f5, rfl, q⟩⟩
/-- {k: v for t0 in i0 if .. for t1 in i1 if ..} -/
theorem pe_dc2 {kx vx t0 i0 t1 i1 : Expr} {f0 f1 : List Expr} {scope : Scope} {own : List (Str × Nat)} {pos : Pos} {wi wj : TI} {g k : TG} {tt tu : TT} {tk tv : TE} {vs : List Nat} (hc : X.calm = true) (hN : X.N.Nodup) (hi : PI X t0 i0 wi) (ok : BlkOk X.N X.env.scope scope own)
    (hg : InBlk X scope fun Y => PG Y t0 g) (ht : InBlk X scope fun Y => PTs Y f0 tt) (hj : InBlk X scope fun Y => PI Y t1 i1 wj) (hk : InBlk X scope fun Y => PG Y t1 k) (hu : InBlk X scope fun Y => PTs Y f1 tu)
    (hkx : InBlk X scope fun Y => PE Y kx tk) (hvx : InBlk X scope fun Y => PE Y vx tv) (hvs : ∀ v ∈ vs, v ∈ own.map (·.2)) (hs : ∀ x, foldedSetIterable i0 X.env x = pure x := by intro _; rfl)
    (hs1 : InBlk X scope fun Y => ∀ x, foldedSetIterable i1 Y.env x = pure x := by intro _ _ _ _ _ _; rfl) :
    PE X (.DictComp kx vx [⟨t0, i0, f0, 0⟩, ⟨t1, i1, f1, 0⟩] scope pos) (tC2 wi g tt (fun D => putIn2 wj k tu (putD tk tv D) vs) (.dK []) (own.map (·.2))) := by
  refine ⟨fun pins s σ H Q I h => ?_⟩
  rw [arm_eval_DictComp]
  exact core2 (u0 := fun _ => .dK []) (em := fun D env => emIn (.DictComp kx vx [⟨t0, i0, f0, 0⟩, ⟨t1, i1, f1, 0⟩] scope pos) i1 (.ref D) env) (ob := { cls := .type "dict", data := .dict #[] }) hc hN I hi ok inPlace_dict rfl (fun E s Q q => wpAny_newObj_type q) rfl (fun s H σ I => dk_empty s.heap I.big) (fun it D env => turnD0) hg ht
    (fun D s' H' C cl fp => pm_in rfl hc inPlace_dict rfl (fun it => turnD1) (hj _ _ _ _ fp) (hk _ _ _ _ fp) (hu _ _ _ _ fp) (pm_D rfl (hkx _ _ _ _ fp) (hvx _ _ _ _ fp)) (fun _ z => nomatch z) (hs1 _ _ _ _ fp)) hvs hs h fun D C s' m H' I' q hn f => post_of I' q hn f
end
end DL

/-! Comprehensions of two clauses, over data. -/
namespace DL
open PySem PySem.Spec PyProof.Rows L2
open Evl (Ex ex_l ex_t)
variable [TheW]
/-- the heap without what stands at D -/
def del (H : Hp) (D : Addr) : Hp := fun a => if a = D then none else H a
theorem del_ne {H : Hp} {D a : Addr} (h : a ≠ D) : del H D a = H a := if_neg h
theorem del_at {H : Hp} {D : Addr} : del H D D = none := if_pos rfl
theorem del_some {H : Hp} {D a : Addr} {o : HO} (h : del H D a = some o) : a ≠ D ∧ H a = some o := by
  by_cases c : a = D
  · rw [c, del_at] at h; cases h
  · rw [del_ne c] at h; exact ⟨c, h⟩
theorem del_upd {H : Hp} {D : Addr} {o : HO} : del (upd H D o) D = del H D := by
  funext a
  by_cases c : a = D
  · rw [c, del_at, del_at]
  · rw [del_ne c, del_ne c, upd_ne c]
def Keeps {α : Type} (Ac : Hp → HO → α → Prop) : Prop := ∀ (S S' : Hp) (o : HO) (acc : α), Ex S S' → Ac S o acc → Ac S' o acc
abbrev DPut (α : Type) := DEnv → α → (α → Prop) → Prop
/-- a target: to the names vs -/
def SimW (K : PySem.W.Frag) (ib : Option Nat) (b : Bg) (g : TG) (dg : DG) (vs : List Nat) : Prop := ∀ (H0 S H Hx : Hp) (σ : L2.St) (δ : DEnv) (v : V) (d : PyData) (R : DEnv → Prop) (Q : L2.St → Hp → Prop), Ex S H → EnvOk K ib b H0 S Hx σ δ → Rep K S v d → dg d δ R →
  (∀ σ' δ', EnvOk K ib b H0 S Hx σ' δ' → wipe σ' vs = wipe σ vs → R δ' → Q σ' H) → g v σ H Q
section
variable {K : PySem.W.Frag} {ib : Option Nat} {b : Bg}
theorem simw_name {j : Nat} {vs : List Nat} (hj : j ∈ vs) (hi : ib ≠ some j) : SimW K ib b (gName j) (dgName j) vs := by
  intro H0 S H Hx σ δ v d R Q ex e r h k
  exact k _ _ (e.set hi r) (wipe_put σ vs j _ hj) h
def dgPair (j l : Nat) : DG := fun d δ R => match d with
  | .tuple [x, y] => R ((δ.set j (some (.dat x))).set l (some (.dat y)))
  | _ => False
theorem simw_pair {j l : Nat} {vs : List Nat} (hj : j ∈ vs) (hl : l ∈ vs) (hi : ib ≠ some j) (hk : ib ≠ some l) : SimW K ib b (gTup K 2 (gCons (gName j) (gCons (gName l) gNil))) (dgPair j l) vs := by
  intro H0 S H Hx σ δ v d R Q ex e r h k
  unfold dgPair at h
  split at h
  · rename_i x y
    cases r with
    | tup hq rs =>
      rename_i a xs
      cases rs with
      | cons r1 rs =>
        cases rs with
        | cons r2 rs =>
          cases rs
          refine ⟨a, _, rfl, ex_t ex hq, rfl, _, _, rfl, _, _, rfl, rfl, ?_⟩
          exact k _ _ ((e.set hi r1).set hk r2) (by rw [wipe_put _ _ _ _ hl, wipe_put _ _ _ _ hj]) h
  · exact h.elim
variable {α : Type} {Ac : Hp → HO → α → Prop} {H0 S1 H1 S H S2 H2 : Hp} {D : Addr} {σ : L2.St} {δ : DEnv} {acc : α}
structure At (K : PySem.W.Frag) (ib : Option Nat) (b : Bg) (Ac : Hp → HO → α → Prop) (H0 S1 H1 : Hp) (D : Addr) (S H : Hp) (σ : L2.St) (δ : DEnv) (acc : α) : Prop where
  go : Go ib b S1 H1 S H
  env : EnvOk K ib b H0 S (del H D) σ δ
  ac : ∃ o, H D = some o ∧ Ac S o acc
  nS : S D = none
theorem go_del (o : Okk ib b S1 H1) (hD : H1 D = none) (g : Go ib b S H S2 H2) (hH : H D ≠ none) (hS : S D = none) : Go ib b S (del H D) S2 (del H2 D) := by
  have nS := g.new D hH hS
  refine ⟨g.st, fun a u c e => ?_, fun a h e => ?_, ⟨fun a u e => ?_, g.ok.off, fun z => ?_⟩⟩
  · obtain ⟨n, e⟩ := del_some e
    rw [del_ne n]
    exact g.keep a u c e
  · refine g.new a (fun z => h ?_) e
    by_cases n : a = D
    · rw [n, del_at]
    · rw [del_ne n]; exact z
  · have n : a ≠ D := fun z => by rw [z, nS] at e; cases e
    rw [del_ne n]
    exact g.ok.sub a u e
  · refine (g.ok.bag z).kept fun a u c e => ?_
    have n : a ≠ D := fun w => by
      rcases c with c | c
      · exact (o.bag z).tr (by rw [← c, w]; exact hD)
      · exact (o.bag z).tr2 (by rw [← c, w]; exact hD)
    rw [del_ne n]
    exact e
theorem go_up (o : Okk ib b S H) : Go ib b S (del H D) S H := ⟨Ex.refl S, fun a u _ e => (del_some e).2, fun _ _ e => e, o⟩
theorem At.full (A : At K ib b Ac H0 S1 H1 D S H σ δ acc) : EnvOk K ib b H0 S H σ δ := A.env.go (go_up A.go.ok)
theorem At.tr (A : At K ib b Ac H0 S1 H1 D S H σ δ acc) : H D ≠ none := let ⟨_, e, _⟩ := A.ac; by rw [e]; exact Option.some_ne_none _
theorem At.later (A : At K ib b Ac H0 S1 H1 D S H σ δ acc) (mo : Keeps Ac) (o : Okk ib b S1 H1) (hD : H1 D = none) (g : Go ib b S H S2 H2) : At K ib b Ac H0 S1 H1 D S2 H2 σ δ acc := by
  have nb : ib ≠ none → D ≠ b.1 := fun z w => (o.bag z).tr (w ▸ hD)
  obtain ⟨u, e, a⟩ := A.ac
  exact ⟨A.go.trans o g, A.env.go (go_del o hD g A.tr A.nS), ⟨u, g.keep D u nb e, mo _ _ _ _ g.st a⟩, g.new D A.tr A.nS⟩
/-- put at the end: what has come; at one place, at any -/
def SimPutAt (K : PySem.W.Frag) (ib : Option Nat) (b : Bg) (Ac : Hp → HO → α → Prop) (D : Addr) (t : TPut) (P : DPut α) : Prop := ∀ (H0 S1 H1 S H : Hp) (σ : L2.St) (δ : DEnv) (acc : α) (N : α → Prop) (M : Hp → Prop), Okk ib b S1 H1 → H1 D = none →
  At K ib b Ac H0 S1 H1 D S H σ δ acc → P δ acc N → (∀ S' H' acc', Go ib b S (del H D) S' (del H' D) → Go ib b S1 H1 S' H' → (∃ o, H' D = some o ∧ Ac S' o acc') → S' D = none → N acc' → M H') → t σ H M
def SimPut (K : PySem.W.Frag) (ib : Option Nat) (b : Bg) (Ac : Hp → HO → α → Prop) (t : Addr → TPut) (P : DPut α) : Prop := ∀ D, SimPutAt K ib b Ac D (t D) P
def dWalk (dg : DG) (dt : DT) (P : DPut α) (vs : List Nat) (δ : DEnv) (xs : List PyData) (acc : α) (N : α → Prop) : Prop := ∃ I : Nat → α → Prop, I 0 acc ∧
  (∀ i x acc, xs[i]? = some x → I i acc → dg x (wipeD δ vs) fun δ2 => dt δ2 fun c => if c = true then P δ2 acc (I (i + 1)) else I (i + 1) acc) ∧ ∀ acc, I xs.length acc → N acc
variable {t : Addr → TPut} {P : DPut α} {g : TG} {dg : DG} {tt : TT} {dt : DT} {ti : TI} {di : DA} {vs : List Nat}
theorem sim_walk (mo : Keeps Ac) (hv : ∀ i, ib = some i → i ∉ vs) (hg : SimW K ib b g dg vs) (ht : SimT K ib b tt dt) (hp : SimPutAt K ib b Ac D (t D) P) (o : Okk ib b S1 H1) (hD : H1 D = none) (A : At K ib b Ac H0 S1 H1 D S H σ δ acc)
    {J : It} {xs : List PyData} (wk : WalkD K ib b S J xs) {N : α → Prop} {M : Hp → Prop} (h : dWalk dg dt P vs δ xs acc N)
    (k : ∀ S' H' acc', Go ib b S (del H D) S' (del H' D) → Go ib b S1 H1 S' H' → (∃ o, H' D = some o ∧ Ac S' o acc') → S' D = none → N acc' → M H') : walkT J g tt (t D) vs σ H M := by
  obtain ⟨I, i0, turn, done⟩ := h
  have od : Okk ib b S (del H D) := (go_del o hD (Go.refl A.go.ok) A.tr A.nS).ok
  refine ⟨fun i m H' => m = xs.length - i ∧ i ≤ xs.length ∧ ∃ S' acc', Go ib b S (del H D) S' (del H' D) ∧ Go ib b S1 H1 S' H' ∧ (∃ o, H' D = some o ∧ Ac S' o acc') ∧ S' D = none ∧ I i acc',
    ⟨xs.length, by omega, Nat.zero_le _, S, acc, Go.refl od, A.go, A.ac, A.nS, i0⟩, ?_⟩
  rintro i m H' ⟨rfl, hi, S', acc', g1, g2, ac, nS, hI⟩
  obtain ⟨w1, w2, w3⟩ := wk S' H' g1.st g2.ok
  by_cases hlt : i < xs.length
  · refine .inr ⟨w1 i hlt, fun H2 => ∃ S' acc', Go ib b S (del H D) S' (del H2 D) ∧ Go ib b S1 H1 S' H2 ∧ (∃ o, H2 D = some o ∧ Ac S' o acc') ∧ S' D = none ∧ I (i + 1) acc', ?_, ?_⟩
    · rintro H2 ⟨S2, acc2, a1, a2, a3, a4, a5⟩
      exact ⟨xs.length - (i + 1), by omega, rfl, hlt, S2, acc2, a1, a2, a3, a4, a5⟩
    · intro y Hy hy
      obtain ⟨Sy, dy, gy, hx, ry⟩ := w3 i y Hy hlt hy
      have A0 : At K ib b Ac H0 S1 H1 D S' H' (wipe σ vs) (wipeD δ vs) acc' := ⟨g2, (A.env.go g1).wipe hv, ac, nS⟩
      have Ay := A0.later mo o hD gy
      have gYd := g1.trans od (go_del o hD gy A0.tr A0.nS)
      refine hg H0 Sy Hy (del Hy D) _ _ y dy _ _ Ay.go.ok.sub Ay.env ry (turn i dy acc' hx hI) fun σ2 δ2 e2 ew q2 => ?_
      refine ⟨by rw [ew, wipe_twice], ?_⟩
      have A2 : At K ib b Ac H0 S1 H1 D Sy Hy σ2 δ2 acc' := ⟨Ay.go, e2, Ay.ac, Ay.nS⟩
      refine ht H0 Sy Hy σ2 δ2 _ _ Ay.go.ok A2.full q2 fun S3 H3 c g3 q3 => ?_
      have A3 := A2.later mo o hD g3
      have g3d := gYd.trans od (go_del o hD g3 A2.tr A2.nS)
      cases c with
      | true =>
        rw [if_pos rfl] at q3 ⊢
        exact hp H0 S1 H1 S3 H3 σ2 δ2 acc' _ _ o hD A3 q3 fun S4 H4 acc4 a1 a2 a3 a4 a5 => ⟨S4, acc4, g3d.trans od a1, a2, a3, a4, a5⟩
      | false =>
        rw [if_neg Bool.false_ne_true] at q3 ⊢
        exact ⟨S3, acc', g3d, A3.go, A3.ac, A3.nS, q3⟩
  · have ei : i = xs.length := by omega
    subst ei
    exact .inl ⟨w2, k S' H' acc' g1 g2 ac nS (done acc' hI)⟩
def dPutIn (di : DA) (dg : DG) (dt : DT) (P : DPut α) (vs : List Nat) : DPut α := fun δ acc N => di δ fun xs => dWalk dg dt P vs δ xs acc N
theorem sim_putIn (mo : Keeps Ac) (hv : ∀ i, ib = some i → i ∉ vs) (hi : SimI K ib b ti di) (hg : SimW K ib b g dg vs) (ht : SimT K ib b tt dt) (hp : SimPut K ib b Ac t P) :
    SimPut K ib b Ac (fun D => putIn2 ti g tt (t D) vs) (dPutIn di dg dt P vs) := by
  intro D H0 S1 H1 S H σ δ acc N M o hD A h k
  refine hi H0 S H σ δ _ _ A.go.ok A.full h fun S2 H2 J xs g2 wk q => ?_
  have gd := go_del o hD g2 A.tr A.nS
  have od : Okk ib b S (del H D) := (go_del o hD (Go.refl A.go.ok) A.tr A.nS).ok
  exact sim_walk (t := t) mo hv hg ht (hp D) o hD (A.later mo o hD g2) wk q fun S' H' acc' a1 a2 a3 a4 a5 => k S' H' acc' (gd.trans od a1) a2 a3 a4 a5
/-- the dict so far -/
def AcD (K : PySem.W.Frag) (S : Hp) (o : HO) (kvs : List (Str × PyData)) : Prop := CtOk K S 0 o (.dk kvs)
theorem acD_mono : Keeps (AcD K) := fun _ _ _ _ e h => CtOk.mono e h
def dPutS (dk dv : DE) : DPut (List (Str × PyData)) := fun δ acc N => dk δ fun y => match y with
  | .str x => dv δ fun z => small (acc.length + 1) = true ∧ N (putKs acc x z)
  | _ => False
theorem sim_putS {tk tv : TE} {dk dv : DE} (h1 : SimE K ib b tk dk) (h2 : SimE K ib b tv dv) : SimPut K ib b (AcD K) (putD tk tv) (dPutS dk dv) := by
  intro D H0 S1 H1 S H σ δ acc N M o hD A h k
  refine h1 H0 S H σ δ _ _ A.go.ok A.full h fun S2 H2 y dy g2 ry q => ?_
  have A2 := A.later acD_mono o hD g2
  split at q
  · rename_i x
    refine h2 H0 S2 H2 σ δ _ _ A2.go.ok A2.full q fun S3 H3 z dz g3 rz q3 => ?_
    have A3 := A2.later acD_mono o hD g3
    obtain ⟨u, hu, vs, rfl, pr⟩ := A3.ac
    have hl : vs.length = acc.length := Paired.length pr
    have od : Okk ib b S (del H D) := (go_del o hD (Go.refl A.go.ok) A.tr A.nS).ok
    refine ⟨vs, .inr x, ry.strV, hu, by rw [hl]; exact small_lt q3.1, ?_⟩
    refine k S3 _ _ ?_ (Go.ownUpd o A3.go hD A3.nS) ⟨_, upd_same, _, rfl, txt_put pr rz⟩ A3.nS q3.2
    rw [del_upd]
    exact (go_del o hD g2 A.tr A.nS).trans od (go_del o hD g3 A2.tr A2.nS)
  · exact q.elim
/-- the dict as data -/
def txtD (kvs : List (Str × PyData)) : PyData := .dict (kvs.map fun p => (.str p.1, p.2))
theorem rep_txt {S : Hp} {a : Addr} : ∀ {vs : List (Key × V)} {kvs : List (Str × PyData)}, Paired (TxtR K S) vs kvs → ∃ ds, Reps K S (vs.map Prod.snd) ds ∧ (vs.map fun p => keyD p.1).zip ds = kvs.map fun p => (.str p.1, p.2)
  | _, _, .nil => ⟨[], .nil, rfl⟩
  | _, _, .cons (a := v) (b := q) h t => by
    obtain ⟨ds, r, e⟩ := rep_txt (a := a) t
    refine ⟨q.2 :: ds, .cons h.2 r, ?_⟩
    rw [List.map_cons, List.zip_cons_cons, e, List.map_cons, h.1]
    rfl
theorem Rep.txt {S : Hp} {a : Addr} {vs : List (Key × V)} {kvs : List (Str × PyData)} (h : S a = some (.dK vs)) (pr : Paired (TxtR K S) vs kvs) : Rep K S (.ref a) (txtD kvs) := by
  obtain ⟨ds, r, e⟩ := rep_txt (a := a) pr
  unfold txtD
  rw [← e]
  exact .dK h r
/-- {..: .. for ..} by texts: a dict that nobody changes -/
def dC2 (di : DA) (dg : DG) (dt : DT) (P : DPut (List (Str × PyData))) (vs : List Nat) : DE := fun δ R => di δ fun xs => dWalk dg dt P vs δ xs [] fun acc => R (txtD acc)
theorem sim_c2 (hv : ∀ i, ib = some i → i ∉ vs) (hi : SimI K ib b ti di) (hg : SimW K ib b g dg vs) (ht : SimT K ib b tt dt) {P : DPut (List (Str × PyData))} (hp : SimPut K ib b (AcD K) t P) : SimE K ib b (tC2 ti g tt t (.dK []) vs) (dC2 di dg dt P vs) := by
  intro H0 S H σ δ R Q o e h k
  refine hi H0 S H σ δ _ _ o e h fun S1 H1 J xs g1 wk q D hD => ?_
  have o1 := g1.ok
  have gD : Go ib b S1 H1 S1 (upd H1 D (.dK [])) := Go.laidOwn o1 hD
  have nS := Ex.none_of o1.sub hD
  have eD : del (upd H1 D (.dK [])) D = H1 := by
    funext a
    by_cases c : a = D
    · rw [c, del_at, hD]
    · rw [del_ne c, upd_ne c]
  have A : At K ib b (AcD K) H0 S1 H1 D S1 (upd H1 D (.dK [])) σ δ [] := ⟨gD, by rw [eD]; exact e.go g1, ⟨_, upd_same, [], rfl, .nil⟩, nS⟩
  refine sim_walk (t := t) acD_mono hv hg ht (hp D) o1 hD A wk q fun S' H' acc' a1 a2 ⟨u, hu, vs', eu, pr⟩ a4 a5 => ?_
  subst eu
  have gF := Go.freeze o1 a2 hD a4 hu
  exact k _ H' _ _ (g1.trans o gF) (.txt upd_same (Paired.mapM pr fun v q _ z => ⟨z.1, z.2.mono (Ex.new a4)⟩)) a5
end
end DL

/-! Things put together by a key: for .. in ..: d.setdefault(k, []).append(x). -/
namespace DL
open PySem PySem.Spec PyProof.Rows L2
open Evl (Ex ex_l ex_t)
variable [TheW]
def delL (H : Hp) (C : List Addr) : Hp := fun a => if a ∈ C then none else H a
theorem delL_ne {H : Hp} {C : List Addr} {a : Addr} (h : a ∉ C) : delL H C a = H a := if_neg h
theorem delL_at {H : Hp} {C : List Addr} {a : Addr} (h : a ∈ C) : delL H C a = none := if_pos h
theorem delL_some {H : Hp} {C : List Addr} {a : Addr} {o : HO} (h : delL H C a = some o) : a ∉ C ∧ H a = some o := by
  by_cases c : a ∈ C
  · rw [delL_at c] at h; cases h
  · rw [delL_ne c] at h; exact ⟨c, h⟩
theorem delL_upd {H : Hp} {C : List Addr} {c : Addr} {o : HO} (h : c ∈ C) : delL (upd H c o) C = delL H C := by
  funext a
  by_cases z : a ∈ C
  · rw [delL_at z, delL_at z]
  · rw [delL_ne z, delL_ne z, upd_ne (fun (e : a = c) => z (e ▸ h))]
theorem delL_more {H : Hp} {C C' : List Addr} {p : Addr} (hp : H p = none) (h : ∀ a, a ∈ C' ↔ a ∈ C ∨ a = p) : delL H C' = delL H C := by
  funext a
  by_cases z : a ∈ C
  · rw [delL_at z, delL_at ((h a).mpr (.inl z))]
  · rw [delL_ne z]
    by_cases e : a = p
    · rw [delL_at ((h a).mpr (.inr e)), e, hp]
    · rw [delL_ne fun w => ((h a).mp w).elim z e]
/-- one more to k's -/
def apG : List (Key × List PyData) → Key → PyData → List (Key × List PyData)
  | [], k, y => []
  | g :: r, k, y => if g.1 = k then (g.1, g.2 ++ [y]) :: r else g :: apG r k y
def addK (acc : List (Key × List PyData)) (k : Key) : List (Key × List PyData) := if (acc.any fun g => decide (g.1 = k)) = true then acc else acc ++ [(k, [])]
def putG (acc : List (Key × List PyData)) (k : Key) (y : PyData) : List (Key × List PyData) := apG (addK acc k) k y
def listsD (acc : List (Key × List PyData)) : List (Key × PyData) := acc.map fun g => (g.1, .list g.2)
def GRow (K : PySem.W.Frag) (S H : Hp) (v : Key × V) (g : Key × List PyData) : Prop := v.1 = g.1 ∧ ∃ q xs, v.2 = .ref q ∧ H q = some (.lst xs) ∧ Reps K S xs g.2
section
variable {K : PySem.W.Frag} {ib : Option Nat} {b : Bg} {S0 H0 S H S2 H2 : Hp} {D : Addr} {i : Nat} {σ : L2.St} {δ : DEnv} {vs : List (Key × V)} {acc : List (Key × List PyData)} {qs : List Addr}
structure Gr (K : PySem.W.Frag) (ib : Option Nat) (b : Bg) (S0 H0 : Hp) (D : Addr) (i : Nat) (S H : Hp) (σ : L2.St) (δ : DEnv) (vs : List (Key × V)) (acc : List (Key × List PyData)) (qs : List Addr) : Prop where
  go : Go ib b S0 H0 S H
  env : EnvOk K ib b H0 S (delL H (D :: qs)) σ δ
  slot : σ[i]? = some (some (V.ref D))
  nd : (D :: qs).Nodup
  out : ∀ c ∈ D :: qs, S c = none ∧ H0 c = none ∧ H c ≠ none ∧ (ib ≠ none → c ≠ b.1 ∧ c ≠ b.2)
  hD : H D = some (.dK vs)
  vq : vs.map (·.2) = qs.map V.ref
  rows : Paired (GRow K S H) vs acc
theorem go_delL {C : List Addr} (g : Go ib b S H S2 H2) (hC : ∀ c ∈ C, S c = none ∧ H c ≠ none ∧ (ib ≠ none → c ≠ b.1 ∧ c ≠ b.2)) : Go ib b S (delL H C) S2 (delL H2 C) := by
  refine ⟨g.st, fun a u c e => ?_, fun a h e => ?_, ⟨fun a u e => ?_, g.ok.off, fun z => ?_⟩⟩
  · obtain ⟨n, e⟩ := delL_some e
    rw [delL_ne n]
    exact g.keep a u c e
  · refine g.new a (fun z => h ?_) e
    by_cases n : a ∈ C
    · rw [delL_at n]
    · rw [delL_ne n]; exact z
  · have n : a ∉ C := fun z => by
      have := g.new a (hC a z).2.1 (hC a z).1
      rw [this] at e
      cases e
    rw [delL_ne n]
    exact g.ok.sub a u e
  · refine (g.ok.bag z).kept fun a u c e => ?_
    have n : a ∉ C := fun w => by
      have := (hC a w).2.2 z
      rcases c with c | c
      · exact this.1 c
      · exact this.2 c
    rw [delL_ne n]
    exact e
theorem Gr.full (G : Gr K ib b S0 H0 D i S H σ δ vs acc qs) : EnvOk K ib b H0 S H σ δ :=
  G.env.go ⟨Ex.refl S, fun a u _ e => (delL_some e).2, fun _ _ e => e, G.go.ok⟩
theorem Gr.later (G : Gr K ib b S0 H0 D i S H σ δ vs acc qs) (o : Okk ib b S0 H0) (g : Go ib b S H S2 H2) : Gr K ib b S0 H0 D i S2 H2 σ δ vs acc qs := by
  have keep : ∀ c ∈ D :: qs, ∀ u, H c = some u → H2 c = some u := fun c hc u e => g.keep c u (fun z => ((G.out c hc).2.2.2 z).1) e
  refine ⟨G.go.trans o g, G.env.go (go_delL g fun c hc => ⟨(G.out c hc).1, (G.out c hc).2.2⟩), G.slot, G.nd, fun c hc => ?_, keep D (List.mem_cons_self ..) _ G.hD, G.vq, ?_⟩
  · obtain ⟨h1, h2, h3, h4⟩ := G.out c hc
    refine ⟨g.new c h3 h1, h2, ?_, h4⟩
    cases e : H c with
    | none => exact absurd e h3
    | some u => rw [keep c hc u e]; exact Option.some_ne_none _
  · refine Paired.mapM G.rows fun v gg hm z => ?_
    obtain ⟨h1, q, xs, h2, h3, h4⟩ := z
    have hq : q ∈ D :: qs := by
      have : V.ref q ∈ qs.map V.ref := by rw [← G.vq, ← h2]; exact List.mem_map_of_mem hm
      obtain ⟨q', hq', e⟩ := List.mem_map.mp this
      cases e
      exact List.mem_cons_of_mem _ hq'
    exact ⟨h1, q, xs, h2, keep q hq _ h3, h4.mono g.st⟩
theorem rows_keys {H : Hp} : ∀ {vs : List (Key × V)} {acc : List (Key × List PyData)}, Paired (GRow K S H) vs acc → ∀ k, (acc.any fun g => decide (g.1 = k)) = (valV vs k).isSome
  | _, _, .nil, _ => rfl
  | _, _, .cons (a := v) (b := g) h t, k => by
    rw [List.any_cons, rows_keys t k]
    by_cases e : v.1 = k
    · rw [valV_pos e, ← h.1]; simp [e]
    · rw [valV_neg e, ← h.1]; simp [e]
theorem rows_app {k : Key} {y : V} {d : PyData} (r : Rep K S y d) : ∀ {vs : List (Key × V)} {acc : List (Key × List PyData)} {q : Addr}, Paired (GRow K S H) vs acc → (vs.map (·.2)).Nodup → valV vs k = some (.ref q) →
    ∃ xs, H q = some (.lst xs) ∧ Paired (GRow K S (upd H q (.lst (xs ++ [y])))) vs (apG acc k d) ∧ ∃ g ∈ acc, g.2.length = xs.length
  | _, _, _, .nil, _, h => by cases h
  | _, _, q, .cons (a := v) (b := g) (l₁ := vr) (l₂ := ar) h t, nd, hv => by
    rw [List.map_cons, List.nodup_cons] at nd
    obtain ⟨h1, q0, xs, h2, h3, h4⟩ := h
    unfold apG
    by_cases e : v.1 = k
    · rw [valV_pos e, h2] at hv
      cases hv
      rw [if_pos (h1 ▸ e)]
      refine ⟨xs, h3, .cons ⟨h1, _, _, h2, upd_same, h4.append (.cons r .nil)⟩ (Paired.mapM t fun v' g' hm z => ?_), g, List.mem_cons_self .., h4.length.symm⟩
      obtain ⟨a1, q1, ys, a2, a3, a4⟩ := z
      have ne : q1 ≠ q := fun w => nd.1 (by rw [h2, ← w, ← a2]; exact List.mem_map_of_mem hm)
      exact ⟨a1, q1, ys, a2, by rw [upd_ne ne]; exact a3, a4⟩
    · rw [valV_neg e] at hv
      obtain ⟨zs, b1, b2, g', b3, b4⟩ := rows_app r t nd.2 hv
      rw [if_neg (h1 ▸ e)]
      refine ⟨zs, b1, .cons ⟨h1, q0, xs, h2, ?_, h4⟩ b2, g', List.mem_cons_of_mem _ b3, b4⟩
      have ne : q0 ≠ q := fun w => nd.1 (by
        rw [h2, w]
        unfold valV at hv
        obtain ⟨p, hp, e2⟩ := Option.map_eq_some_iff.mp hv
        rw [← e2]
        exact List.mem_map_of_mem (List.mem_of_find?_eq_some hp))
      rw [upd_ne ne]
      exact h3
theorem paired_app {α β : Type} {F : α → β → Prop} {xs us : List α} {ys ws : List β} (h : Paired F xs ys) (t : Paired F us ws) : Paired F (xs ++ us) (ys ++ ws) := by
  induction h with
  | nil => exact t
  | cons h _ ih => exact .cons h ih
/-- a key that is new: its list, still empty -/
theorem Gr.new (G : Gr K ib b S0 H0 D i S H σ δ vs acc qs) (o : Okk ib b S0 H0) {p : Addr} {k : Key} (hp : H p = none) (hk : valV vs k = none) :
    Gr K ib b S0 H0 D i S (upd (upd H p (.lst [])) D (.dK (putK vs k (.ref p)))) σ δ (putK vs k (.ref p)) (acc ++ [(k, [])]) (qs ++ [p]) := by
  have oD := G.out D (List.mem_cons_self ..)
  have nS : S p = none := Ex.none_of G.go.ok.sub hp
  have h0 : H0 p = none := G.go.fresh o hp
  have np : p ∉ D :: qs := fun z => (G.out p z).2.2.1 hp
  have nb : ib ≠ none → p ≠ b.1 ∧ p ≠ b.2 := fun z => ⟨fun w => (G.go.ok.bag z).tr (w ▸ hp), fun w => (G.go.ok.bag z).tr2 (w ▸ hp)⟩
  have pD : p ≠ D := fun z => np (by rw [z]; exact List.mem_cons_self ..)
  have g1 : Go ib b S0 H0 S (upd H p (.lst [])) := Go.ownUpd o G.go h0 nS
  have g2 : Go ib b S0 H0 S (upd (upd H p (.lst [])) D (.dK (putK vs k (.ref p)))) := Go.ownUpd o g1 oD.2.1 oD.1
  have mem : ∀ a, a ∈ D :: (qs ++ [p]) ↔ a ∈ D :: qs ∨ a = p := fun a => by simp [or_assoc]
  refine ⟨g2, ?_, G.slot, ?_, fun c hc => ?_, upd_same, ?_, ?_⟩
  · rw [delL_upd (List.mem_cons_self ..), delL_upd ((mem p).mpr (.inr rfl)), delL_more hp mem]
    exact G.env
  · rw [← List.cons_append]
    exact List.nodup_append.mpr ⟨G.nd, List.nodup_cons.mpr ⟨by simp, List.nodup_nil⟩, fun a ha c hc => by rw [List.mem_singleton.mp hc]; exact fun z => np (z ▸ ha)⟩
  · rcases (mem c).mp hc with hc | rfl
    · obtain ⟨a1, a2, a3, a4⟩ := G.out c hc
      refine ⟨a1, a2, ?_, a4⟩
      by_cases z : c = D
      · rw [z, upd_same]; exact Option.some_ne_none _
      · rw [upd_ne z, upd_ne fun (w : c = p) => np (w ▸ hc)]; exact a3
    · refine ⟨nS, h0, ?_, nb⟩
      rw [upd_ne pD, upd_same]; exact Option.some_ne_none _
  · rw [putK_new _ hk, List.map_append, List.map_append, G.vq]; rfl
  · rw [putK_new _ hk]
    refine paired_app (Paired.mapM G.rows fun v g hm z => ?_) (.cons ⟨rfl, p, [], rfl, by rw [upd_ne pD]; exact upd_same, .nil⟩ .nil)
    obtain ⟨a1, q1, ys, a2, a3, a4⟩ := z
    have hq : q1 ∈ qs := by
      have : V.ref q1 ∈ qs.map V.ref := by rw [← G.vq, ← a2]; exact List.mem_map_of_mem hm
      obtain ⟨q', hq', e⟩ := List.mem_map.mp this
      cases e
      exact hq'
    refine ⟨a1, q1, ys, a2, ?_, a4⟩
    rw [upd_ne fun (w : q1 = D) => (List.nodup_cons.mp G.nd).1 (w ▸ hq), upd_ne fun (w : q1 = p) => np (w ▸ List.mem_cons_of_mem _ hq)]
    exact a3
/-- one more to a key's list -/
theorem Gr.app (G : Gr K ib b S0 H0 D i S H σ δ vs acc qs) (o : Okk ib b S0 H0) {k : Key} {q : Addr} {y : V} {d : PyData} (hk : valV vs k = some (.ref q)) (r : Rep K S y d) :
    ∃ xs, H q = some (.lst xs) ∧ Gr K ib b S0 H0 D i S (upd H q (.lst (xs ++ [y]))) σ δ vs (apG acc k d) qs ∧ ∃ g ∈ acc, g.2.length = xs.length := by
  have nq := (List.nodup_cons.mp G.nd)
  have ndv : (vs.map (·.2)).Nodup := by
    rw [G.vq]
    exact List.pairwise_map.mpr (List.Pairwise.imp (fun {a c} n z => n (by cases z; rfl)) nq.2)
  obtain ⟨xs, h1, h2, h3⟩ := rows_app r G.rows ndv hk
  have hq : q ∈ qs := by
    have hv : V.ref q ∈ vs.map (·.2) := by
      unfold valV at hk
      obtain ⟨p, hp, e2⟩ := Option.map_eq_some_iff.mp hk
      rw [← e2]
      exact List.mem_map_of_mem (List.mem_of_find?_eq_some hp)
    rw [G.vq] at hv
    obtain ⟨q', hq', e⟩ := List.mem_map.mp hv
    cases e
    exact hq'
  have hq2 : q ∈ D :: qs := List.mem_cons_of_mem _ hq
  have oq := G.out q hq2
  refine ⟨xs, h1, ⟨Go.ownUpd o G.go oq.2.1 oq.1, by rw [delL_upd hq2]; exact G.env, G.slot, G.nd, fun c hc => ?_, ?_, G.vq, h2⟩, h3⟩
  · obtain ⟨a1, a2, a3, a4⟩ := G.out c hc
    refine ⟨a1, a2, ?_, a4⟩
    by_cases z : c = q
    · rw [z, upd_same]; exact Option.some_ne_none _
    · rw [upd_ne z]; exact a3
  · rw [upd_ne fun (w : D = q) => nq.1 (w ▸ hq)]
    exact G.hD
end
end DL

/-! Things put together by a key, over data. -/
namespace DL
open PySem PySem.Spec PyProof.Rows L2
open Evl (Ex ex_l ex_t)
variable [TheW]
def keyK : PyData → Option Key
  | .int i => some (.inl i)
  | .str s => some (.inr s)
  | _ => none
theorem keyK_rep {K : PySem.W.Frag} {S : Hp} {v : V} {y : PyData} {k : Key} (r : Rep K S v y) (h : keyK y = some k) : v = kV k := by
  cases r with
  | int i => cases h; rfl
  | str s => cases h; rfl
  | _ => cases h
/-- for x in ..: d.setdefault(k, []).append(v), d empty ahead: the lists by their keys -/
def dGroup (i : Nat) (di : DA) (dg : DG) (dk dv : DE) : DS := fun DD δ => match δ[i]? with
  | some (some (.dct (.dk []))) => di δ fun xs => small xs.length = true ∧ ∃ I : Nat → List (Key × List PyData) → DEnv → Prop, I 0 [] (δ.set i none) ∧
    (∀ j x acc δ', xs[j]? = some x → I j acc δ' → dg x δ' fun δ2 => dk δ2 fun y => ∃ k, keyK y = some k ∧ dv δ2 fun v => I (j + 1) (putG acc k v) δ2) ∧
    ∀ acc δ', I xs.length acc δ' → DD.nx (δ'.set i (some (.dct (.dG (listsD acc)))))
  | _ => False
theorem apG_small {n : Nat} {k : Key} {y : PyData} : ∀ {acc : List (Key × List PyData)}, (∀ g ∈ acc, g.2.length ≤ n) → (apG acc k y).length = acc.length ∧ ∀ g ∈ apG acc k y, g.2.length ≤ n + 1
  | [], _ => ⟨rfl, fun _ z => nomatch z⟩
  | g :: r, h => by
    obtain ⟨h1, h2⟩ := apG_small (k := k) (y := y) (acc := r) fun g hg => h g (List.mem_cons_of_mem _ hg)
    unfold apG
    split
    · refine ⟨rfl, fun x hx => ?_⟩
      rcases List.mem_cons.mp hx with rfl | hx
      · have := h g (List.mem_cons_self ..)
        rw [List.length_append, List.length_singleton]; omega
      · have := h x (List.mem_cons_of_mem _ hx); omega
    · refine ⟨by rw [List.length_cons, List.length_cons, h1], fun x hx => ?_⟩
      rcases List.mem_cons.mp hx with rfl | hx
      · have := h x (List.mem_cons_self ..); omega
      · exact h2 x hx
theorem addK_small {n : Nat} {k : Key} {acc : List (Key × List PyData)} (h : ∀ g ∈ acc, g.2.length ≤ n) : (addK acc k).length ≤ acc.length + 1 ∧ ∀ g ∈ addK acc k, g.2.length ≤ n := by
  unfold addK
  split
  · exact ⟨Nat.le_succ _, h⟩
  · refine ⟨by rw [List.length_append, List.length_singleton]; exact Nat.le_refl _, fun g hg => ?_⟩
    rcases List.mem_append.mp hg with hg | hg
    · exact h g hg
    · rw [List.mem_singleton.mp hg]; exact Nat.zero_le _
section
variable {K : PySem.W.Frag} {ib : Option Nat} {b : Bg} {S0 H0 S H S2 H2 : Hp} {D : Addr} {i : Nat} {σ : L2.St} {δ : DEnv} {vs : List (Key × V)} {acc : List (Key × List PyData)} {qs : List Addr}
theorem Gr.data (G : Gr K ib b S0 H0 D i S H σ δ vs acc qs) (o : Okk ib b S0 H0) (hi : ib ≠ some i) : ∃ S', Go ib b S0 H0 S' H ∧ Ex S S' ∧ EnvOk K ib b H0 S' H σ (δ.set i (some (.dct (.dG (listsD acc))))) := by
  have nDq := (List.nodup_cons.mp G.nd).1
  have mq : ∀ a ∈ qs, a ∈ D :: qs := fun a h => List.mem_cons_of_mem _ h
  refine ⟨fun a => if a ∈ qs then H a else S a, ?_⟩
  generalize eS : (fun a => if a ∈ qs then H a else S a) = S'
  have inC : ∀ a ∈ qs, S' a = H a := fun a h => by rw [← eS]; exact if_pos h
  have noC : ∀ a, a ∉ qs → S' a = S a := fun a h => by rw [← eS]; exact if_neg h
  have oD := G.out D (List.mem_cons_self ..)
  have ex : Ex S S' := fun a u e => by
    rw [noC a fun z => by rw [(G.out a (mq a z)).1] at e; cases e]
    exact e
  have ok : Okk ib b S' H := ⟨fun a u e => by
      by_cases z : a ∈ qs
      · rw [inC a z] at e; exact e
      · rw [noC a z] at e; exact G.go.ok.sub a u e, fun z => by
      rw [noC _ fun w => ((G.out _ (mq _ w)).2.2.2 z).1 rfl]
      exact G.go.ok.off z, G.go.ok.bag⟩
  have hn : ∀ a ∈ qs, H0 a = none := fun a z => (G.out a (mq a z)).2.1
  have g0 : Go ib b S0 H0 S' H := ⟨G.go.st.trans ex, G.go.keep, fun a h e => by
    rw [noC a fun z => h (hn a z)]
    exact G.go.new a h e, ok⟩
  refine ⟨g0, ex, ?_⟩
  have ge : Go ib b S (delL H (D :: qs)) S' H := ⟨ex, fun a u _ e => (delL_some e).2, fun a h e => by
    rw [noC a fun z => h (delL_at (mq a z))]
    exact e, ok⟩
  have rows : ∀ {vs : List (Key × V)} {acc : List (Key × List PyData)}, Paired (GRow K S H) vs acc → (∀ v ∈ vs, ∃ q ∈ qs, v.2 = .ref q) → Paired (KeyR K S') vs (listsD acc) := by
    intro vs acc h
    induction h with
    | nil => exact fun _ => .nil
    | @cons v g _ _ h t ih =>
      intro hq
      obtain ⟨h1, q, xs, h2, h3, h4⟩ := h
      obtain ⟨q', hq', e⟩ := hq v (List.mem_cons_self ..)
      rw [h2] at e
      cases e
      exact .cons ⟨h1, by rw [h2]; exact .lst (by rw [inC q hq']; exact h3) (h4.mono ex)⟩ (ih fun v hv => hq v (List.mem_cons_of_mem _ hv))
  have pr := rows G.rows fun v hv => by
    have : v.2 ∈ qs.map V.ref := by rw [← G.vq]; exact List.mem_map_of_mem hv
    obtain ⟨q, hq, e⟩ := List.mem_map.mp this
    exact ⟨q, hq, e.symm⟩
  have e := (G.env.go ge).setDct hi G.hD (show CtOk K S' D (.dK vs) (.dG (listsD acc)) from ⟨vs, rfl, pr⟩) (by rw [noC D nDq]; exact oD.1) oD.2.1 (fun z => (oD.2.2.2 z).1) fun j c' _ q q2 => by
    obtain ⟨p, u, a1, a2, _⟩ := G.env.dct j c' q
    rw [a1] at q2
    cases q2
    exact (delL_some a2).1 (List.mem_cons_self ..)
  have es : σ.set i (some (.ref D)) = σ := by
    obtain ⟨h, e⟩ := List.getElem?_eq_some_iff.mp G.slot
    rw [← e, List.set_getElem_self]
  rw [es] at e
  exact e
variable {ti : TI} {di : DA} {g : TG} {dg : DG} {tk tv : TE} {dk dv : DE} {ws : List Nat}
theorem sim_group (hi : ib ≠ some i) (hw : i ∉ ws) (h1 : SimI K ib b ti di) (h2 : SimW K ib b g dg ws) (h3 : SimE K ib b tk dk) (h4 : SimE K ib b tv dv) :
    SimS K ib b (tFor ti g (tDrop (tBM K "list" rAppend (tDSetd (tVar i) tk (tLst tNil)) (tCons tv tNil)))) (dGroup i di dg dk dv) := by
  intro S0 H0 Sm S H σ δ D DD o em g0 e h x
  unfold dGroup at h
  split at h
  rotate_left
  · exact h.elim
  rename_i q0
  refine h1 H0 S H σ δ _ _ g0.ok e h fun S1 H1 J xs g1 wk q => ?_
  obtain ⟨hz, I, i0, turn, done⟩ := q
  have hzz := of_decide_eq_true hz
  have e1 := e.go g1
  obtain ⟨d, ob, hσ, hd, ⟨vs0, rfl, pr0⟩, hS, h0, hb, hu⟩ := e1.dct i _ q0
  cases pr0
  have g01 := g0.trans o g1
  have nb2 : ib ≠ none → d ≠ b.2 := fun z w => by
    obtain ⟨r, m, k, ns, e, ne, f, _⟩ := (g01.ok.bag z).ex
    rw [← w, hd] at f
    cases f
  have G0 : Gr K ib b S0 H0 d i S1 H1 σ (δ.set i none) [] [] [] := by
    have look : ∀ (j : Nat) (x : DV), (δ.set i none)[j]? = some (some x) → j ≠ i ∧ δ[j]? = some (some x) := fun j x z => by
      by_cases c : j = i
      · subst c
        have hl : j < δ.length := by
          obtain ⟨w, _⟩ := List.getElem?_eq_some_iff.mp z
          rw [List.length_set] at w
          exact w
        rw [List.getElem?_set_self hl] at z
        cases z
      · rw [List.getElem?_set_ne (Ne.symm c)] at z
        exact ⟨c, z⟩
    refine ⟨g01, ⟨by rw [List.length_set]; exact e1.len, e1.slot, fun j y z => e1.dat j y (look j _ z).2, fun j ds z => ?_, fun j a z => e1.fn j a (look j _ z).2, fun j c z => ?_⟩, hσ, List.nodup_cons.mpr ⟨by simp, List.nodup_nil⟩, fun c hc => ?_, hd, rfl, .nil⟩
    · obtain ⟨p, ys, a1, a2, a3, a4, a5, a6, a7⟩ := e1.own j ds (look j _ z).2
      have np : p ∉ [d] := fun w => by rw [List.mem_singleton.mp w, hd] at a2; cases a2
      exact ⟨p, ys, a1, by rw [delL_ne np]; exact a2, a3, a4, a5, a6, fun j' es b1 b2 => a7 j' es (look j' _ b1).2 b2⟩
    · obtain ⟨p, u, a1, a2, a3, a4, a5, a6, a7⟩ := e1.dct j c (look j _ z).2
      have np : p ∉ [d] := fun w => by
        rw [List.mem_singleton.mp w] at a1
        exact (look j _ z).1 (hu j c (look j _ z).2 a1)
      exact ⟨p, u, a1, by rw [delL_ne np]; exact a2, a3, a4, a5, a6, fun j' c' b1 b2 => a7 j' c' (look j' _ b1).2 b2⟩
    · rw [List.mem_singleton.mp hc]
      exact ⟨hS, h0, by rw [hd]; exact Option.some_ne_none _, fun z => ⟨hb z, nb2 z⟩⟩
  refine ⟨fun j m σ' H' => m = xs.length - j ∧ j ≤ xs.length ∧ ∃ S' δ' vs acc qs, Ex S1 S' ∧ Gr K ib b S0 H0 d i S' H' σ' δ' vs acc qs ∧ acc.length ≤ j ∧ (∀ g ∈ acc, g.2.length ≤ j) ∧ I j acc δ',
    ⟨xs.length, by omega, Nat.zero_le _, S1, _, [], [], [], Ex.refl S1, G0, Nat.le_refl _, (fun _ z => nomatch z), i0⟩, ?_⟩
  rintro j m σ' H' ⟨rfl, hj, S', δ', vs, acc, qs, ex, G, z1, z2, hI⟩
  obtain ⟨w1, w2, w3⟩ := wk S' H' ex G.go.ok
  by_cases hlt : j < xs.length
  · refine .inr ⟨w1 j hlt, fun σ2 H2 => ∃ S' δ' vs acc qs, Ex S1 S' ∧ Gr K ib b S0 H0 d i S' H2 σ2 δ' vs acc qs ∧ acc.length ≤ j + 1 ∧ (∀ g ∈ acc, g.2.length ≤ j + 1) ∧ I (j + 1) acc δ', ?_, ?_⟩
    · rintro σ2 H2 ⟨S2, δ2, vs2, acc2, qs2, a1, a2, a3, a4, a5⟩
      exact ⟨xs.length - (j + 1), by omega, rfl, hlt, S2, δ2, vs2, acc2, qs2, a1, a2, a3, a4, a5⟩
    · intro y Hy hy
      obtain ⟨Sy, dy, gy, hx, ry⟩ := w3 j y Hy hlt hy
      have Gy := G.later o gy
      refine h2 H0 Sy Hy (delL Hy (d :: qs)) σ' δ' y dy _ _ Gy.go.ok.sub Gy.env ry (turn j dy acc δ' hx hI) fun σ2 δ2 e2 ew q2 => ?_
      have sl : σ2[i]? = some (some (V.ref d)) := by
        have := congrArg (fun s => s[i]?) ew
        simp only [wipe_get] at this
        rw [if_neg fun z => hw z.1, if_neg fun z => hw z.1] at this
        rw [this]
        exact Gy.slot
      have Gb : Gr K ib b S0 H0 d i Sy Hy σ2 δ2 vs acc qs := ⟨Gy.go, e2, sl, Gy.nd, Gy.out, Gy.hD, Gy.vq, Gy.rows⟩
      refine ⟨_, sl, d, rfl, .inl ⟨vs, .inl Gb.hD⟩, ?_⟩
      refine h3 H0 Sy Hy σ2 δ2 _ _ Gb.go.ok Gb.full q2 fun S3 H3 kv dk' g3 rk q3 => ?_
      obtain ⟨k, hk, q3⟩ := q3
      have G3 := Gb.later o g3
      refine ⟨Nat.zero_le _, fun p hp => ?_⟩
      have lv : vs.length = acc.length := Paired.length G3.rows
      have pd : d ≠ p := fun w => (G3.out d (List.mem_cons_self ..)).2.2.1 (w ▸ hp)
      have ex3 : Ex S1 S3 := (ex.trans gy.st).trans g3.st
      -- the rest, where k has its list
      have tail : ∀ {Hs : Hp} {vs' : List (Key × V)} {acc' : List (Key × List PyData)} {qs' : List Addr} {q : Addr}, Gr K ib b S0 H0 d i S3 Hs σ2 δ2 vs' acc' qs' → valV vs' k = some (.ref q) → acc' = addK acc k →
          tyV K "list" (.ref q) Hs ∧ tCons tv tNil σ2 Hs fun us H4 => rAppend (.ref q) us H4 fun _ H5 => ∃ S' δ' vs acc qs, Ex S1 S' ∧ Gr K ib b S0 H0 d i S' H5 σ2 δ' vs acc qs ∧ acc.length ≤ j + 1 ∧ (∀ g ∈ acc, g.2.length ≤ j + 1) ∧ I (j + 1) acc δ' := by
        intro Hs vs' acc' qs' q Gs hq ea
        obtain ⟨ws0, hw0, _⟩ := Gs.app o (y := .non) hq .non
        refine ⟨.inl ⟨rfl, ws0, SqL.of hw0⟩, ?_⟩
        refine h4 H0 S3 Hs σ2 δ2 _ _ Gs.go.ok Gs.full q3 fun S4 H4 v dv' g4 rv q4 => ?_
        have G4 := Gs.later o g4
        obtain ⟨us, hus, G5, g', hg', hl⟩ := G4.app o hq rv
        obtain ⟨c1, c2⟩ := addK_small (k := k) z2
        obtain ⟨c3, c4⟩ := apG_small (k := k) (y := dv') c2
        have : g'.2.length ≤ j := c2 g' (ea ▸ hg')
        refine ⟨q, us, v, rfl, rfl, hus, Evl.sz_lt (by omega), S4, δ2, vs', apG acc' k dv', qs', ex3.trans g4.st, G5, ?_, ?_, ?_⟩
        · rw [ea, c3]; omega
        · rw [ea]; exact c4
        · rw [ea]; exact q4
      refine ⟨vs, k, by rw [upd_ne pd]; exact G3.hD, keyK_rep rk hk, Evl.sz_lt (by omega), fun v hv => ?_, fun hv => ?_⟩
      · obtain ⟨q, rfl⟩ : ∃ q, v = V.ref q := by
          have hm : v ∈ vs.map (·.2) := by
            unfold valV at hv
            obtain ⟨pp, hp2, e2⟩ := Option.map_eq_some_iff.mp hv
            rw [← e2]
            exact List.mem_map_of_mem (List.mem_of_find?_eq_some hp2)
          rw [G3.vq] at hm
          obtain ⟨q, _, e⟩ := List.mem_map.mp hm
          exact ⟨q, e.symm⟩
        refine tail (G3.later o (Go.laidOwn G3.go.ok hp)) hv ?_
        unfold addK
        rw [rows_keys G3.rows, hv]
        exact (if_pos rfl).symm
      · refine tail (G3.new o hp hv) (by rw [valV_put]; exact if_pos rfl) ?_
        unfold addK
        rw [rows_keys G3.rows, hv]
        exact (if_neg (by decide)).symm
  · have ei : j = xs.length := by omega
    subst ei
    obtain ⟨S'', b1, b2, b3⟩ := G.data o hi
    exact .inl ⟨w2, x.nx S'' H' σ' _ b1 (em.trans ((g1.st.trans ex).trans b2)) b3 (done acc δ' hI)⟩
end
end DL

/-! A dict of one's own by integers and texts: it stands still from now on, as data; its keys, values; x[k]. -/
namespace DL
open PySem PySem.Spec PyProof.Rows L2
open Evl (Ex ex_l ex_t)
variable [TheW]
def keysD (kvs : List (Key × PyData)) : List (PyData × PyData) := kvs.map fun p => (keyD p.1, p.2)
/-- x's value at k, an integer or a text -/
def getI (kvs : List (PyData × PyData)) (k : Key) : Option PyData := (kvs.find? fun p => decide (keyK p.1 = some k)).map (·.2)
def dIdxK (dd dk : DE) : DE := fun δ R => dd δ fun x => dk δ fun y => match x with
  | .dict kvs => ∃ k d, keyK y = some k ∧ getI kvs k = some d ∧ R d
  | _ => False
/-- no key is a tuple, there is one at least, and the object is known (a dict that was one's own) -/
def keyOnly (kvs : List (PyData × PyData)) : Bool := kvs.all fun p => (keyK p.1).isSome
section
variable {K : PySem.W.Frag} {ib : Option Nat} {b : Bg} {i : Nat} {td tk : TE} {dd dk : DE} {ts : TS} {ds : DS}
theorem keyK_keyD (k : Key) : keyK (keyD k) = some k := by cases k <;> rfl
theorem rep_keys {S : Hp} : ∀ {vs : List (Key × V)} {kvs : List (Key × PyData)}, Paired (KeyR K S) vs kvs → Reps K S (vs.map Prod.snd) (kvs.map (·.2)) ∧ (vs.map fun p => keyD p.1).zip (kvs.map (·.2)) = keysD kvs
  | _, _, .nil => ⟨.nil, rfl⟩
  | _, _, .cons (a := v) (b := q) h t => by
    obtain ⟨r, e⟩ := rep_keys t
    refine ⟨.cons h.2 r, ?_⟩
    unfold keysD at e ⊢
    rw [List.map_cons, List.map_cons, List.zip_cons_cons, e, List.map_cons, h.1]
def frzO (od : Obj) (vs : List (Key × V)) : HO := .frz od (.dK vs)
theorem lock_ok {H0 S H : Hp} {σ : L2.St} {δ : DEnv} {kvs : List (Key × PyData)} {p : Addr} {vs : List (Key × V)} (o : Okk ib b S H) (hi : ib ≠ some i) (e : EnvOk K ib b H0 S H σ δ) (hσ : σ[i]? = some (some (V.ref p))) (hp : H p = some (.dK vs)) (hr : Paired (KeyR K S) vs kvs) (ne : kvs ≠ [])
    (hS : S p = none) (nb : ib ≠ none → p ≠ b.1) (hu : ∀ (j : Nat) (c : Cont), δ[j]? = some (some (DV.dct c)) → σ[j]? = some (some (V.ref p)) → j = i) (od : Obj) :
    Okk ib b (upd S p (frzO od vs)) (upd H p (frzO od vs)) ∧ EnvOk K ib b H0 (upd S p (frzO od vs)) (upd H p (frzO od vs)) σ (δ.set i (some (.dat (.dict (keysD kvs))))) := by
  have vn : vs ≠ [] := fun z => by
    subst z
    cases hr
    exact ne rfl
  have nb2 : ib ≠ none → p ≠ b.2 := fun z w => by
    obtain ⟨r, m, k, ns, e, ne, f, _⟩ := (o.bag z).ex
    rw [← w, hp] at f
    cases f
  have e0 : EnvOk K ib b H0 S (del H p) σ (δ.set i none) := by
    have look : ∀ (j : Nat) (x : DV), (δ.set i none)[j]? = some (some x) → j ≠ i ∧ δ[j]? = some (some x) := fun j x z => by
      by_cases c : j = i
      · subst c
        have hl : j < δ.length := by
          obtain ⟨w, _⟩ := List.getElem?_eq_some_iff.mp z
          rw [List.length_set] at w
          exact w
        rw [List.getElem?_set_self hl] at z
        cases z
      · rw [List.getElem?_set_ne (Ne.symm c)] at z
        exact ⟨c, z⟩
    refine ⟨by rw [List.length_set]; exact e.len, e.slot, fun j y z => e.dat j y (look j _ z).2, fun j ds z => ?_, fun j a z => e.fn j a (look j _ z).2, fun j c z => ?_⟩
    · obtain ⟨q, ys, a1, a2, a3, a4, a5, a6, a7⟩ := e.own j ds (look j _ z).2
      have np : q ≠ p := fun w => by rw [w, hp] at a2; cases a2
      exact ⟨q, ys, a1, by rw [del_ne np]; exact a2, a3, a4, a5, a6, fun j' es b1 b2 => a7 j' es (look j' _ b1).2 b2⟩
    · obtain ⟨q, u, a1, a2, a3, a4, a5, a6, a7⟩ := e.dct j c (look j _ z).2
      have np : q ≠ p := fun w => by
        rw [w] at a1
        exact (look j _ z).1 (hu j c (look j _ z).2 a1)
      exact ⟨q, u, a1, by rw [del_ne np]; exact a2, a3, a4, a5, a6, fun j' c' b1 b2 => a7 j' c' (look j' _ b1).2 b2⟩
  have ok : Okk ib b (upd S p (frzO od vs)) (upd H p (frzO od vs)) := by
    refine ⟨fun a u q => ?_, fun z => by rw [upd_ne (Ne.symm (nb z))]; exact o.off z, fun z => (o.bag z).kept fun a u c q => ?_⟩
    · by_cases c : a = p
      · rw [c, upd_same] at q ⊢; exact q
      · rw [upd_ne c] at q ⊢; exact o.sub a u q
    · rw [upd_ne fun (w : a = p) => by
        rcases c with c | c
        · exact nb z (w.symm.trans c)
        · exact nb2 z (w.symm.trans c)]
      exact q
  refine ⟨ok, ?_⟩
  have ge : Go ib b S (del H p) (upd S p (frzO od vs)) (upd H p (frzO od vs)) := by
    refine ⟨Ex.new hS, fun a u _ q => ?_, fun a h1 h2 => ?_, ok⟩
    · obtain ⟨n, q⟩ := del_some q
      rw [upd_ne n]; exact q
    · rw [upd_ne fun (w : a = p) => h1 (by rw [w, del_at])]
      exact h2
  obtain ⟨r1, r2⟩ := rep_keys hr
  have rep : Rep K (upd S p (frzO od vs)) (.ref p) (.dict (keysD kvs)) := by
    rw [← r2]
    exact .dF vn upd_same (r1.mono (Ex.new hS))
  have e1 := (e0.go ge).set hi rep
  have es : σ.set i (some (.ref p)) = σ := by
    obtain ⟨h, e⟩ := List.getElem?_eq_some_iff.mp hσ
    rw [← e, List.set_getElem_self]
  rw [es, List.set_set] at e1
  exact e1
theorem lock_back {S H S2 H2 : Hp} {p : Addr} {vs : List (Key × V)} {od : Obj} (o : Okk ib b S H) (hp : H p = some (.dK vs)) (hS : S p = none) (nb : ib ≠ none → p ≠ b.1) (g : Go ib b (upd S p (frzO od vs)) (upd H p (frzO od vs)) S2 H2) :
    S2 p = some (frzO od vs) ∧ H2 p = some (frzO od vs) ∧ Go ib b S H (cutH S2 p) (upd H2 p (.dK vs)) := by
  have s2 : S2 p = some (frzO od vs) := g.st p _ upd_same
  have h2 : H2 p = some (frzO od vs) := g.keep p _ nb upd_same
  refine ⟨s2, h2, fun a u q => ?_, fun a x n q => ?_, fun a h1 h3 => ?_, fun a u q => ?_, fun z => ?_, fun z => (g.ok.bag z).kept fun a u c q => ?_⟩
  · have c : a ≠ p := ne_of_none q hS
    rw [cutH_ne c]
    exact g.st a u ((upd_ne c).trans q)
  · by_cases c : a = p
    · rw [c, hp] at q
      rw [c, upd_same]
      exact q
    · rw [upd_ne c]
      exact g.keep a x n ((upd_ne c).trans q)
  · by_cases c : a = p
    · rw [c]; exact cutH_same
    · rw [cutH_ne c]
      exact g.new a (by rw [upd_ne c]; exact h1) ((upd_ne c).trans h3)
  · by_cases c : a = p
    · rw [c, cutH_same] at q; cases q
    · rw [cutH_ne c] at q
      rw [upd_ne c]
      exact g.ok.sub a u q
  · rw [cutH_ne (Ne.symm (nb z))]
    exact g.ok.off z
  · rw [upd_ne fun (w : a = p) => by
      rcases c with c | c
      · exact nb z (w.symm.trans c)
      · rw [w, h2] at q
        obtain ⟨r, m, k, ns, e1, ne, e3, rest⟩ := (g.ok.bag z).ex
        rw [← c, w, h2] at e3
        cases e3]
    exact q
/-- the list so far -/
def AcL (K : PySem.W.Frag) (S : Hp) (o : HO) (ds : List PyData) : Prop := ∃ xs, o = .lst xs ∧ Reps K S xs ds
theorem acL_mono : Keeps (AcL K) := by
  intro S S' o acc e h
  obtain ⟨xs, h, r⟩ := h
  exact ⟨xs, h, r.mono e⟩
def dPutL (de : DE) : DPut (List PyData) := fun δ acc N => small (acc.length + 1) = true ∧ de δ fun y => N (acc ++ [y])
theorem sim_putL {te : TE} {de : DE} (h1 : SimE K ib b te de) : SimPut K ib b (AcL K) (putL te) (dPutL de) := by
  intro D H0 S1 H1 S H σ δ acc N M o hD A h k
  obtain ⟨hz, h⟩ := h
  refine h1 H0 S H σ δ _ _ A.go.ok A.full h fun S2 H2 y dy g2 ry q => ?_
  have A2 := A.later acL_mono o hD g2
  obtain ⟨u, hu, xs, rfl, pr⟩ := A2.ac
  refine ⟨xs, hu, by rw [pr.length]; exact small_lt hz, ?_⟩
  refine k S2 _ _ ?_ (Go.ownUpd o A2.go hD A2.nS) ⟨_, upd_same, _, rfl, pr.append (.cons ry .nil)⟩ A2.nS q
  rw [del_upd]
  exact go_del o hD g2 A.tr A.nS
/-- [x for .. in what a dict of one's own tells]: it stands still meanwhile; what comes is plain -/
def dLockLc (i : Nat) (f : List (Key × PyData) → List PyData) (dg : DG) (dt : DT) (de : DE) (ws : List Nat) : DE := fun δ R => match δ[i]? with
  | some (some (.dct (.dG kvs))) => kvs ≠ [] ∧ dWalk dg dt (dPutL de) ws (δ.set i (some (.dat (.dict (keysD kvs))))) (f kvs) [] fun acc => tupOnlyAll acc = true ∧ R (.list acc)
  | _ => False
theorem frzO_notTup {od : Obj} {vs : List (Key × V)} : NotTup (frzO od vs) := ⟨fun _ z => (by cases z), fun _ _ z => (by cases z)⟩
theorem sim_lockLc {ti : TI} {f : List (Key × PyData) → List PyData} {J : Addr → Obj → List (Key × V) → It} {g : TG} {dg : DG} {tt : TT} {dt : DT} {te : TE} {de : DE} {ws : List Nat} (hi : ib ≠ some i) (hv : ∀ i, ib = some i → i ∉ ws)
    (tk : ∀ (σ : L2.St) (H : Hp) p od vs (R : It → Hp → Prop), σ[i]? = some (some (V.ref p)) → H p = some (frzO od vs) → R (J p od vs) H → ti σ H R)
    (wk : ∀ (S : Hp) p od vs kvs, S p = some (frzO od vs) → Paired (KeyR K S) vs kvs → WalkD K ib b S (J p od vs) (f kvs)) (hg : SimW K ib b g dg ws) (ht : SimT K ib b tt dt) (he : SimE K ib b te de) :
    SimE K ib b (tLockE (tLc ti g tt te ws)) (dLockLc i f dg dt de ws) := by
  intro H0 S H σ δ R Q o e h k
  unfold dLockLc at h
  split at h
  · rename_i kvs q0
    obtain ⟨ne, h⟩ := h
    obtain ⟨p, u, hσ, hp, ⟨vs, rfl, hr⟩, hS, h0, hb, hu⟩ := e.dct i _ q0
    refine ⟨p, _, hp, True.intro, fun od => ?_⟩
    obtain ⟨o1, e1⟩ := lock_ok o hi e hσ hp hr ne hS hb hu od
    refine tk _ _ p od vs _ hσ upd_same fun D hD => ?_
    have np : D ≠ p := fun w => by rw [w, upd_same] at hD; cases hD
    have hD2 : H D = none := by rw [upd_ne np] at hD; exact hD
    have A : At K ib b (AcL K) H0 (upd S p (frzO od vs)) (upd H p (frzO od vs)) D (upd S p (frzO od vs)) (upd (upd H p (frzO od vs)) D (.lst [])) σ (δ.set i (some (.dat (.dict (keysD kvs))))) [] := by
      refine ⟨Go.laidOwn o1 hD, ?_, ⟨_, upd_same, [], rfl, .nil⟩, Ex.none_of o1.sub hD⟩
      have eD : del (upd (upd H p (frzO od vs)) D (.lst [])) D = upd H p (frzO od vs) := by
        funext a
        by_cases c : a = D
        · rw [c, del_at]; exact hD.symm
        · rw [del_ne c, upd_ne c]
      rw [eD]
      exact e1
    refine sim_walk (t := putL te) acL_mono hv hg ht (sim_putL he D) o1 hD A (wk _ p od vs kvs upd_same (Paired.mapM hr fun v q _ z => ⟨z.1, z.2.mono (Ex.new hS)⟩)) h fun S' H' acc' a1 a2 ⟨w, hw, ys, ew, pr⟩ a4 ⟨a5, a6⟩ => ?_
    subst ew
    obtain ⟨b1, b2, b3⟩ := lock_back o hp hS hb a2
    have c4 : cutH S' p D = none := by rw [cutH_ne np]; exact a4
    have hw2 : upd H' p (.dK vs) D = some (.lst ys) := by rw [upd_ne np]; exact hw
    refine ⟨b2, ?_⟩
    have gF := Go.freeze o b3 hD2 c4 hw2
    exact k _ _ _ (.list acc') gF (.lst upd_same ((Reps.dropU b1 frzO_notTup pr a5).mono (Ex.new c4))) a6
  · exact h.elim
theorem key_at {S : Hp} {vs : List (Key × V)} {kvs : List (Key × PyData)} (h : Paired (KeyR K S) vs kvs) {i : Nat} {v : Key × V} (e : vs[i]? = some v) : ∃ q, kvs[i]? = some q ∧ KeyR K S v q := paired_get h e
theorem rep_key {S : Hp} (k : Key) : Rep K S (kV k) (keyD k) := by
  cases k with
  | inl i => exact .int i
  | inr s => exact .str s
/-- for k in d -/
theorem sim_lockKeys {g : TG} {dg : DG} {tt : TT} {dt : DT} {te : TE} {de : DE} {ws : List Nat} (hi : ib ≠ some i) (hv : ∀ i, ib = some i → i ∉ ws) (hg : SimW K ib b g dg ws) (ht : SimT K ib b tt dt) (he : SimE K ib b te de) :
    SimE K ib b (tLockE (tLc (iKeys (tVar i)) g tt te ws)) (dLockLc i (fun kvs => kvs.map fun p => keyD p.1) dg dt de ws) := by
  refine sim_lockLc (J := Itk) hi hv (fun σ H p od vs R h1 h2 h3 => ⟨_, h1, p, od, rfl, .inl ⟨vs, h2, h3⟩⟩) (fun S p od vs kvs hS hr S2 H2 ex o2 => ?_) hg ht he
  have hl : vs.length = kvs.length := Paired.length hr
  have hp : H2 p = some (.frz od (.dK vs)) := o2.sub _ _ (ex _ _ hS)
  refine ⟨fun j hj => ⟨hp, by rw [List.length_map] at hj; omega⟩, ⟨hp, by rw [List.length_map]; omega⟩, fun j x H' hj y => ?_⟩
  obtain ⟨rfl, kk, v, hv, rfl⟩ := y
  obtain ⟨q, hq, hr1, hr2⟩ := key_at hr hv
  exact ⟨S2, keyD kk, Go.refl o2, by rw [List.getElem?_map, hq]; exact congrArg some (congrArg keyD hr1.symm), rep_key kk⟩
/-- for x in d.values() -/
theorem sim_lockVals {g : TG} {dg : DG} {tt : TT} {dt : DT} {te : TE} {de : DE} {ws : List Nat} (hi : ib ≠ some i) (hv : ∀ i, ib = some i → i ∉ ws) (hg : SimW K ib b g dg ws) (ht : SimT K ib b tt dt) (he : SimE K ib b te de) :
    SimE K ib b (tLockE (tLc (iVals (tVar i)) g tt te ws)) (dLockLc i (fun kvs => kvs.map (·.2)) dg dt de ws) := by
  refine sim_lockLc (J := Itd) hi hv (fun σ H p od vs R h1 h2 h3 => ⟨_, h1, p, od, vs, rfl, h2, h3⟩) (fun S p od vs kvs hS hr S2 H2 ex o2 => ?_) hg ht he
  have hl : vs.length = kvs.length := Paired.length hr
  have hp : H2 p = some (.frz od (.dK vs)) := o2.sub _ _ (ex _ _ hS)
  refine ⟨fun j hj => ⟨hp, by rw [List.length_map] at hj; omega⟩, ⟨hp, by rw [List.length_map]; omega⟩, fun j x H' hj y => ?_⟩
  obtain ⟨rfl, kk, hv⟩ := y
  obtain ⟨q, hq, hr1, hr2⟩ := key_at hr hv
  exact ⟨S2, q.2, Go.refl o2, by rw [List.getElem?_map, hq]; rfl, hr2.mono ex⟩
theorem zip_val {S : Hp} {k : Key} : ∀ {vs : List (Key × V)} {ds : List PyData}, Reps K S (vs.map Prod.snd) ds → ∀ {d : PyData}, getI ((vs.map fun p => keyD p.1).zip ds) k = some d → ∃ v, valV vs k = some v ∧ Rep K S v d
  | [], _, .nil, d, h => by cases h
  | v :: vs, _ :: _, .cons r t, d, e => by
    unfold getI at e
    rw [List.map_cons, List.zip_cons_cons] at e
    by_cases c : v.1 = k
    · rw [List.find?_cons_of_pos (by simp [keyK_keyD, c])] at e
      cases e
      exact ⟨v.2, valV_pos c, r⟩
    · rw [List.find?_cons_of_neg (by simp [keyK_keyD, c])] at e
      obtain ⟨u, h1, h2⟩ := zip_val t e
      exact ⟨u, by rw [valV_neg c]; exact h1, h2⟩
theorem no_tup {S : Hp} {k : Key} : ∀ {xs : List NRow} {ks ds : List PyData}, Reps K S (xs.map fun x => V.ref x.2.1) ks → getI (ks.zip ds) k = none
  | [], _, _, .nil => rfl
  | _ :: _, _ :: _, [], .cons _ _ => rfl
  | x :: xs, q :: ks, d :: ds, .cons r t => by
    unfold getI
    rw [List.zip_cons_cons, List.find?_cons_of_neg]
    · exact no_tup t
    · intro z
      cases r <;> simp [keyK] at z
theorem sim_idxK (h1 : SimE K ib b td dd) (h2 : SimE K ib b tk dk) : SimE K ib b (tDGet td tk) (dIdxK dd dk) := by
  intro H0 S H σ δ R Q o e h k
  refine h1 H0 S H σ δ _ _ o e h fun S1 H1 v x g1 r1 q => ?_
  refine h2 H0 S1 H1 σ δ _ _ g1.ok (e.go g1) q fun S2 H2 y dy g2 r2 q2 => ?_
  split at q2
  · rename_i kvs
    obtain ⟨kk, d, hk, hd, q2⟩ := q2
    have g12 := g1.trans o g2
    have r1 := r1.mono g2.st
    cases r1 with
    | dK hS rr =>
      obtain ⟨w, hw, rw'⟩ := zip_val rr hd
      refine ⟨_, w, rfl, ?_, k S2 H2 _ _ g12 rw' q2⟩
      rw [keyK_rep r2 hk, ← hw]
      exact .inl ⟨_, kk, .inl (g2.ok.sub _ _ hS), rfl, rfl⟩
    | dF nn hS rr =>
      obtain ⟨w, hw, rw'⟩ := zip_val rr hd
      refine ⟨_, w, rfl, ?_, k S2 H2 _ _ g12 rw' q2⟩
      rw [keyK_rep r2 hk, ← hw]
      exact .inl ⟨_, kk, .inr ⟨_, g2.ok.sub _ _ hS⟩, rfl, rfl⟩
    | dN hS ek h8 q1 q2 vv =>
      rw [no_tup q1] at hd
      cases hd
  · exact q2.elim
end
end DL

/-! Sets of tuples in one another: small questions; the search; a tuple put in. -/
namespace DL
open PySem PySem.Spec PyProof.Rows L2
open Evl (Ex ex_l ex_t)
/-- a tuple, by where it stands and what it is -/
abbrev El := Addr × NestedKey
def ElOk (h : Heap) (p : El) : Prop := NestedIs h p.2 (.ref p.1) ∧ p.2.depth ≤ 8
def hsh (w : World) (p : El) : Int := p.2.hash w
section
variable {P : Program} {w : World} {s : Shared}
/-- a tuple is of no class statement, n levels down -/
def NoCls (P : Program) (w : World) (n : Nat) (s : Shared) (v : Value) : Prop := ∀ (A : Around) (E : Value → Shared → Prop) (Q : Bool → Shared → Prop), Q false s → wpAny (model P w) A (ofAClassStatement n v) Q E s
/-- whether its hash is by value is told, n levels down -/
def ByVal (P : Program) (w : World) (n : Nat) (s : Shared) (v : Value) : Prop := ∀ (A : Around) (E : Value → Shared → Prop) (Q : Bool → Shared → Prop), (∀ b, Q b s) → wpAny (model P w) A (hashByValue n v) Q E s
theorem NoCls.plain {n : Nat} {v : Value} (h : ofAClassStatement n v = pure false) : NoCls P w n s v := fun A E Q q => by
  rw [h]
  exact wpAny_pure q
theorem ByVal.plain {n : Nat} {v : Value} {b : Bool} (h : hashByValue n v = pure b) : ByVal P w n s v := fun A E Q q => by
  rw [h]
  exact wpAny_pure (q b)
theorem NoCls.tuple {n : Nat} {a : Addr} {o : Obj} {vs : Array Value} {m : Nat} (ho : s.heap.get? a = some o) (hc : o.cls = .type "tuple") (hd : o.data = .seq vs m) (hv : ∀ v ∈ vs.toList, NoCls P w n s v) : NoCls P w (n + 1) s (.ref a) := by
  intro A E Q q
  have ty : s.TypeIs (.ref a) "tuple" := ⟨o, ho, hc⟩
  have e : (("tuple" : String) == "tuple") = true := by decide
  unfold ofAClassStatement
  refine wpAny_bind (wpAny_typeOf ty ?_)
  simp only [e, if_true, Bool.not_true, Bool.false_eq_true, if_false]
  show wpAny _ _ (seqItems? (.ref a) >>= _) _ _ s
  refine wpAny_bind (wpAny_seqItems ho hd ?_)
  refine wpAny_bind ?_
  show wpAny _ _ (forIn vs _ _) _ _ s
  rw [← Array.forIn_toList]
  refine wpAny_forIn_list _ (fun rest r s' => (r.1 = none ∧ s' = s) ∧ ∀ v ∈ rest, NoCls P w n s v) _ ?_ ?_ _ _ ⟨⟨rfl, rfl⟩, hv⟩
  · rintro v rest r s' ⟨⟨hr, rfl⟩, all⟩
    refine wpAny_bind (all v (List.mem_cons_self ..) _ _ _ ?_)
    simp only [Bool.false_eq_true, if_false]
    exact wpAny_pure ⟨⟨rfl, rfl⟩, fun u hu => all u (List.mem_cons_of_mem _ hu)⟩
  · rintro ⟨r1, r2⟩ s' ⟨⟨hr, rfl⟩, _⟩
    dsimp only at hr
    subst hr
    exact wpAny_pure q
theorem ByVal.tuple {n : Nat} {a : Addr} {o : Obj} {vs : Array Value} {m : Nat} (ho : s.heap.get? a = some o) (hc : o.cls = .type "tuple") (hd : o.data = .seq vs m) (hv : ∀ v ∈ vs.toList, ByVal P w n s v) : ByVal P w (n + 1) s (.ref a) := by
  intro A E Q q
  have ty : s.TypeIs (.ref a) "tuple" := ⟨o, ho, hc⟩
  unfold hashByValue
  refine wpAny_bind (wpAny_specialOf ty F.slot_tuple_hash.lookup ?_)
  show wpAny _ _ (seqItems? (.ref a) >>= _) _ _ s
  refine wpAny_bind (wpAny_seqItems ho hd ?_)
  refine wpAny_bind ?_
  show wpAny _ _ (forIn vs _ _) _ _ s
  rw [← Array.forIn_toList]
  refine wpAny_forIn_list _ (fun rest r s' => (r.1 = none ∧ s' = s) ∧ ∀ v ∈ rest, ByVal P w n s v) _ ?_ ?_ _ _ ⟨⟨rfl, rfl⟩, hv⟩
  · rintro v rest r s' ⟨⟨hr, rfl⟩, all⟩
    refine wpAny_bind (all v (List.mem_cons_self ..) _ _ _ fun b => ?_)
    cases b with
    | true =>
      simp only [Bool.not_true, Bool.false_eq_true, if_false]
      exact wpAny_pure ⟨⟨rfl, rfl⟩, fun u hu => all u (List.mem_cons_of_mem _ hu)⟩
    | false =>
      simp only [Bool.not_false, if_true]
      exact wpAny_pure (wpAny_pure (q false))
  · rintro ⟨r1, r2⟩ s' ⟨⟨hr, rfl⟩, _⟩
    dsimp only at hr
    subst hr
    exact wpAny_pure (q true)
mutual
theorem noCls_key : ∀ (k : NestedKey) (v : Value) (n : Nat), NestedIs s.heap k v → k.depth ≤ n → NoCls P w n s v ∧ ByVal P w n s v
  | .none, _, n, x, _ => by cases x; exact ⟨.plain (by cases n <;> rfl), .plain (b := true) (by cases n <;> rfl)⟩
  | .num i, _, n, x, _ => by cases x <;> exact ⟨.plain (by cases n <;> rfl), .plain (b := true) (by cases n <;> rfl)⟩
  | .text y, _, n, x, _ => by cases x; exact ⟨.plain (by cases n <;> rfl), .plain (b := false) (by cases n <;> rfl)⟩
  | .tup ks, _, n, x, hn => by
    cases x with
    | tup hg hc hd hk =>
      simp only [NestedKey.depth] at hn
      cases n with
      | zero => omega
      | succ n =>
        have z := noCls_keys ks _ n hk (by omega)
        exact ⟨.tuple hg hc hd fun v hv => (z v hv).1, .tuple hg hc hd fun v hv => (z v hv).2⟩
theorem noCls_keys : ∀ (ks : List NestedKey) (vs : List Value) (n : Nat), NestedAll s.heap ks vs → NestedKey.depthAll ks ≤ n → ∀ v ∈ vs, NoCls P w n s v ∧ ByVal P w n s v
  | [], _, n, x, _, v, hv => by cases x; cases hv
  | k :: ks, _, n, x, hn, v, hv => by
    cases x with
    | cons x1 x2 =>
      simp only [NestedKey.depthAll] at hn
      rcases List.mem_cons.mp hv with e | hv
      · rw [e]; exact noCls_key k _ n x1 (by omega)
      · exact noCls_keys ks _ n x2 (by omega) v hv
end
end
end DL

/-! Sets of tuples in one another: the search, a tuple put in. -/
namespace DL
open PySem PySem.Spec PyProof.Rows L2
open Evl (Ex ex_l ex_t)
def rws (w : World) (L : List El) : List (Int × Value) := L.map fun p => (hsh w p, Value.ref p.1)
/-- what stands at a: a set of the tuples L, in the table's order -/
structure NSet (w : World) (h : Heap) (a : Addr) (L : List El) (es : Array (Int × Value)) (ep : Nat) (t : SetTable) : Prop where
  ob : ∃ o, h.get? a = some o ∧ o.ExactSet ∧ o.data = .set es ep t
  es : es.toList = rws w L
  tab : TabOk t (L.map (hsh w))
  nd : (L.map (·.2)).Nodup
  el : ∀ p ∈ L, ElOk h p
  led : w.params.followText "set-order" = true ∨ t.led = true
  room : L.length * 5 < t.mask * 3
  few : L.length < 64
theorem ElOk.keep {h h' : Heap} {p : El} (x : ElOk h p) (k : ∀ c o vs n, h.get? c = some o → o.data = .seq vs n → h'.get? c = some o) : ElOk h' p := ⟨NestedIs.at k _ _ x.1, x.2⟩
theorem ElOk.same {h h' : Heap} {p : El} {a : Addr} {o : Obj} {es : Array (Int × Value)} {ep : Nat} {t : SetTable} (x : ElOk h p) (ho : h.get? a = some o) (hd : o.data = .set es ep t) (sb : Heap.SameBut a h h') : ElOk h' p :=
  x.keep fun c u vs n e ed => (sb.2 c fun z => by
    rw [z, ho] at e
    cases e
    rw [hd] at ed
    cases ed).trans e
section
variable {P : Program} {w : World} {A : Around} {E : Value → Shared → Prop} {s : Shared} {a : Addr} {L : List El} {es : Array (Int × Value)} {ep : Nat} {t : SetTable}
theorem rws_len {w : World} {L : List El} {es : Array (Int × Value)} (h : es.toList = rws w L) : es.size = L.length := by
  have := congrArg List.length h
  simpa [rws] using this
theorem NSet.fits (R : NSet w s.heap a L es ep t) : t.fits es.size = true := by
  have h1 := R.tab.sz
  have h2 := rws_len R.es
  have h3 := R.room
  rw [List.length_map] at h1
  simp only [SetTable.fits, SetTable.fill, R.tab.dm, Bool.and_eq_true, beq_iff_eq, decide_eq_true_eq]
  simp
  omega
theorem NSet.at (R : NSet w s.heap a L es ep t) {i : Nat} {p : El} (h : L[i]? = some p) : es[i]? = some (hsh w p, Value.ref p.1) := by
  have : es.toList[i]? = some (hsh w p, Value.ref p.1) := by rw [R.es, rws, List.getElem?_map, h]; rfl
  simpa using this
theorem NSet.sound (R : NSet w s.heap a L es ep t) : ¬ t.gaveWay = true := by
  simp [SetTable.gaveWay, mask_odd R.tab.mok]
/-- a search among tuples shows nothing -/
theorem unseen {x : El} (hx : ElOk s.heap x) {ys : List Value} (hy : ∀ y ∈ ys, ∃ p : El, y = Value.ref p.1 ∧ ElOk s.heap p) {Q : Bool → Shared → Prop} (q : Q false s) : wpAny (model P w) A (searchCouldBeSeen (.ref x.1) ys) Q E s := by
  unfold searchCouldBeSeen
  refine wpAny_bind ?_
  refine wpAny_forIn_list _ (fun rest r s' => (r.1 = none ∧ s' = s) ∧ ∀ y ∈ rest, ∃ p : El, y = Value.ref p.1 ∧ ElOk s.heap p) _ ?_ ?_ _ _ ⟨⟨rfl, rfl⟩, hy⟩
  · rintro v rest r s' ⟨⟨hr, rfl⟩, all⟩
    obtain ⟨p, rfl, hp⟩ := all v (List.mem_cons_self ..)
    have more : ∀ y ∈ rest, ∃ p : El, y = Value.ref p.1 ∧ ElOk s'.heap p := fun u hu => all u (List.mem_cons_of_mem _ hu)
    dsimp only
    split
    · exact wpAny_pure ⟨⟨rfl, rfl⟩, more⟩
    · refine wpAny_bind (quiet_key _ _ 8 _ hx.1 hx.2 _ _ _ ?_)
      simp only [Bool.not_true, Bool.false_eq_true, if_false]
      refine wpAny_bind (quiet_key _ _ 8 _ hp.1 hp.2 _ _ _ ?_)
      simp only [Bool.not_true, Bool.false_eq_true, if_false]
      refine wpAny_bind ((noCls_key _ _ 8 hx.1 hx.2).1 _ _ _ ?_)
      simp only [Bool.false_eq_true, if_false]
      refine wpAny_bind ((noCls_key _ _ 8 hp.1 hp.2).1 _ _ _ ?_)
      simp only [Bool.false_eq_true, if_false]
      exact wpAny_pure ⟨⟨rfl, rfl⟩, more⟩
  · rintro ⟨r1, r2⟩ s' ⟨⟨hr, rfl⟩, _⟩
    dsimp only at hr
    subst hr
    exact wpAny_pure q
/-- the probe at some step of the way -/
abbrev stp (t : SetTable) (h : Int) (c : Nat) : SetTable.Probe := nth t.mask (runAt t.mask (SetTable.bits h % (t.mask + 1)) (SetTable.bits h)) c
theorem stp_dummy (t : SetTable) (h : Int) (c : Nat) : (stp t h c).dummy = none := by
  have key : ∀ (n : Nat) (p : SetTable.Probe), p.dummy = none → (nth t.mask p n).dummy = none := by
    intro n
    induction n with
    | zero => exact fun p z => z
    | succ n ih =>
      intro p z
      refine ih _ ?_
      unfold adv
      split <;> exact z
  exact key c _ rfl
theorem stp_add (t : SetTable) (h : Int) (c q : Nat) : nth t.mask (stp t h c) q = stp t h (c + q) := (nth_add t.mask c _ q).symm
theorem seek (R : NSet w s.heap a L es ep t) {x : El} (hx : ElOk s.heap x) (hu : A.units + 8 < cLine) {K : Nat} (hf : K < 10 * SetTable.turns t.mask) (hK : way t.mask (hsh w x) K ∉ t.place.toList)
    (hb : ∀ c, c < K → way t.mask (hsh w x) c ∈ t.place.toList) {Q : SetFound → Shared → Prop} (yes : x.2 ∈ L.map (·.2) → Q (.there none) s) (no : x.2 ∉ L.map (·.2) → Q (.free (way t.mask (hsh w x) K) false) s) :
    ∀ (f c : Nat) (stand : Option SetTable.Probe), stand.getD (t.probeStart (hsh w x)) = stp t (hsh w x) c → c ≤ K → K - c < f →
      (∀ (i : Nat) p, L[i]? = some p → p.2 = x.2 → ∃ c', c ≤ c' ∧ c' < K ∧ t.place.toList[i]? = some (way t.mask (hsh w x) c')) → wpAny (model P w) A (setSearchFrom a (.ref x.1) (hsh w x) true f stand) Q E s
  | 0, c, _, _, _, z, _ => absurd z (Nat.not_lt_zero _)
  | f + 1, c, stand, e0, hc, hcf, ahead => by
    obtain ⟨o, ho, hex, hd⟩ := R.ob
    rw [setSearchFrom_succ]
    refine wpAny_bind (wpAny_setState_of ho hd R.fits ?_)
    dsimp only
    refine wp_if_neg R.sound ?_
    try refine wpAny_bind (wpAny_pure ?_)
    have wy : ∀ q, (nth t.mask (stp t (hsh w x) c) q).j = way t.mask (hsh w x) (c + q) := fun q => congrArg SetTable.Probe.j (stp_add t _ c q)
    have toK : way t.mask (hsh w x) (c + (K - c)) = way t.mask (hsh w x) K := by rw [show c + (K - c) = K from by omega]
    have hat : ∀ (i : Nat) p, L[i]? = some p → (fun i => (es[i]?.map (·.1)).getD 0) i = hsh w p := fun i p hp => by
      show (es[i]?.map (·.1)).getD 0 = _
      rw [R.at hp]
      rfl
    have told := go_spec t R.tab.ris R.tab.dm (fun i => (es[i]?.map (·.1)).getD 0) (hsh w x) (10 * SetTable.turns t.mask) (K - c) (stp t (hsh w x) c) (stp_dummy ..) (by omega)
      (fun q hq => by rw [wy]; exact hb _ (by omega)) (by rw [wy, toK]; exact hK)
    rcases told with ⟨q, i, hq, hi, hh, hno, hgo⟩ | ⟨hno, hgo⟩
    · have hpr : t.probe (fun i => (es[i]?.map (·.1)).getD 0) (hsh w x) (stand.getD (t.probeStart (hsh w x))) = some (.candidate (way t.mask (hsh w x) (c + q)) i (stp t (hsh w x) (c + (q + 1)))) := by
        rw [e0, ← wy, ← stp_add]
        exact hgo
      rw [hpr]
      dsimp only
      rw [wy] at hi
      have hil : i < L.length := by
        have h1 := (List.getElem?_eq_some_iff.mp hi).1
        have h2 := R.tab.sz
        simp only [List.length_map, Array.length_toList] at h1 h2
        omega
      obtain ⟨p, hp⟩ : ∃ p, L[i]? = some p := ⟨L[i], List.getElem?_eq_getElem hil⟩
      have hpm := List.mem_of_getElem? hp
      have hsl : t.slot (way t.mask (hsh w x) (c + q)) = .live i := slot_live R.tab.ris hi
      have rest : wpAny (model P w) A (searchRest a (.ref x.1) (hsh w x) true f es t (way t.mask (hsh w x) (c + q)) i (stp t (hsh w x) (c + (q + 1)))) Q E s := by
        unfold searchRest
        rw [R.at hp]
        dsimp only
        refine wpAny_bind (wpAny_holding ((nestedKind P w).eqBool hu (R.el p hpm) hx ?_))
        refine wpAny_bind (wpAny_setState_of ho hd R.fits ?_)
        dsimp only
        by_cases same : p.2 = x.2
        · refine wp_if_pos (by simp [same]) (wpAny_pure (yes ?_))
          exact List.mem_map.mpr ⟨p, hpm, same⟩
        · refine wp_if_neg (by simp [same]) ?_
          try refine wpAny_bind (wpAny_pure ?_)
          rw [sameMem]
          simp only [if_true, hsl, R.at hp]
          refine wpAny_bind (wpAny_isSame_ref_self (wpAny_bind (wpAny_pure ?_)))
          simp only [if_true]
          refine wp_if_neg (by simp [same]) ?_
          refine seek R hx hu hf hK hb yes no f (c + (q + 1)) _ rfl (by omega) (by omega) fun i0 p0 h0 hk0 => ?_
          obtain ⟨c', b1, b2, b3⟩ := ahead i0 p0 h0 hk0
          have hash0 : (fun i => (es[i]?.map (·.1)).getD 0) i0 = hsh w x := (hat i0 p0 h0).trans (by unfold hsh; rw [hk0])
          refine ⟨c', ?_, b2, b3⟩
          rcases Nat.lt_trichotomy c' (c + q) with z | z | z
          · exact absurd hash0 (hno (c' - c) i0 (by omega) (by rw [wy, show c + (c' - c) = c' from by omega]; exact b3))
          · exfalso
            rw [z] at b3
            have := (slot_live R.tab.ris b3).symm.trans hsl
            injection this with this
            rw [this, hp] at h0
            cases h0
            exact same hk0
          · omega
      by_cases hl : t.led = true
      · refine wp_if_neg (by simp [hl]) ?_
        try refine wpAny_bind (wpAny_pure ?_)
        exact rest
      · refine wp_if_pos (by simp [hl]) ?_
        refine wpAny_bind (unseen hx (fun y hy => ?_) ?_)
        · obtain ⟨e, he, ee⟩ := List.mem_map.mp hy
          have he1 : e ∈ es ∧ e.1 = hsh w x := by simpa using he
          have he2 : e ∈ es.toList := by simpa using he1.1
          rw [R.es] at he2
          obtain ⟨p2, hp2, rfl⟩ := List.mem_map.mp he2
          exact ⟨p2, ee.symm, R.el p2 hp2⟩
        · refine wp_if_neg (by decide) ?_
          try refine wpAny_bind (wpAny_pure ?_)
          exact rest
    · have hpr : t.probe (fun i => (es[i]?.map (·.1)).getD 0) (hsh w x) (stand.getD (t.probeStart (hsh w x))) = some (.empty (way t.mask (hsh w x) K) none) := by
        rw [e0, ← toK, ← wy]
        exact hgo
      rw [hpr]
      dsimp only
      refine wpAny_pure (no fun hm => ?_)
      obtain ⟨p0, h0, hk0⟩ := List.mem_map.mp hm
      obtain ⟨i0, hi0⟩ := List.mem_iff_getElem?.mp h0
      obtain ⟨c', b1, b2, b3⟩ := ahead i0 p0 hi0 hk0
      exact absurd ((hat i0 p0 hi0).trans (by unfold hsh; rw [hk0])) (hno (c' - c) i0 (by omega) (by rw [wy, show c + (c' - c) = c' from by omega]; exact b3))
/-- the search as putting in asks for it -/
theorem seek0 (R : NSet w s.heap a L es ep t) {x : El} (hx : ElOk s.heap x) (hu : A.units + 8 < cLine) {Q : SetFound → Shared → Prop} (yes : x.2 ∈ L.map (·.2) → Q (.there none) s)
    (no : ∀ K, x.2 ∉ L.map (·.2) → way t.mask (hsh w x) K ∉ t.place.toList → (∀ c, c < K → way t.mask (hsh w x) c ∈ t.place.toList) → Q (.free (way t.mask (hsh w x) K) false) s) :
    wpAny (model P w) A (setSearch a (.ref x.1) (hsh w x) true) Q E s := by
  have r := R.room
  obtain ⟨K, k1, k2, k3⟩ := R.tab.first (by rw [List.length_map]; omega) (hsh w x)
  have small : K < 100000 := by
    have : 10 * SetTable.turns t.mask ≤ 1420 := by
      unfold SetTable.turns
      rcases R.tab.mok with e | e | e <;> omega
    omega
  unfold setSearch
  refine seek R hx hu k1 k2 k3 yes (fun z => no K z k2 k3) 100000 0 none rfl (Nat.zero_le _) (by omega) fun i p hp hk => ?_
  have hi : (L.map (hsh w))[i]? = some (hsh w x) := by
    rw [List.getElem?_map, hp]
    show some (hsh w p) = _
    unfold hsh
    rw [hk]
  have hil : i < t.place.toList.length := by
    have h1 := (List.getElem?_eq_some_iff.mp hp).1
    have h2 := R.tab.sz
    rw [List.length_map] at h2
    rw [Array.length_toList]
    omega
  obtain ⟨c, hc, e⟩ := R.tab.before k2 hi (List.getElem?_eq_getElem hil)
  exact ⟨c, Nat.zero_le _, hc, by rw [List.getElem?_eq_getElem hil, e]⟩
end
end DL

/-! Sets of tuples in one another: a table laid anew, a tuple put in. -/
namespace DL
open PySem PySem.Spec PyProof.Rows L2
open Evl (Ex ex_l ex_t)
theorem pick_all {α : Type} (L : List α) : ∀ n, n ≤ L.length → (List.range n).filterMap (fun i => L[i]?) = L.take n
  | 0, _ => rfl
  | n + 1, h => by
    have e : L[n]? = some L[n] := List.getElem?_eq_getElem h
    rw [List.range_succ, List.filterMap_append, pick_all L n (by omega), List.take_add_one, e]
    simp [e]
section
variable {w : World} {L : List El} {es : Array (Int × Value)}
theorem reorder (he : es.toList = rws w L) : ∀ l : List Nat, (∀ i ∈ l, i < L.length) →
    l.filterMap (fun i => es[i]?) = rws w (l.filterMap fun i => L[i]?) ∧ (l.map fun i => (es.map (·.1)).getD i 0) = (l.filterMap fun i => L[i]?).map (hsh w)
  | [], _ => ⟨rfl, rfl⟩
  | i :: l, h => by
    obtain ⟨h1, h2⟩ := reorder he l fun j hj => h j (List.mem_cons_of_mem _ hj)
    have hi := h i (List.mem_cons_self ..)
    have e1 : L[i]? = some L[i] := List.getElem?_eq_getElem hi
    have e2 : es[i]? = some (hsh w L[i], Value.ref L[i].1) := by
      have : es.toList[i]? = some (hsh w L[i], Value.ref L[i].1) := by rw [he, rws, List.getElem?_map, e1]; rfl
      simpa using this
    have e3 : (es.map (·.1)).getD i 0 = hsh w L[i] := by
      have : (es.map (·.1))[i]? = some (hsh w L[i]) := by rw [Array.getElem?_map, e2]; rfl
      simp [Array.getD_eq_getD_getElem?, this]
    refine ⟨?_, ?_⟩
    · rw [List.filterMap_cons_some e2, List.filterMap_cons_some e1, h1]
      rfl
    · rw [List.map_cons, List.filterMap_cons_some e1, List.map_cons, e3, h2]
end
section
variable {P : Program} {w : World} {A : Around} {E : Value → Shared → Prop} {s : Shared} {a : Addr} {L : List El} {es : Array (Int × Value)} {ep : Nat} {t : SetTable}
theorem anew {o : Obj} (ho : s.heap.get? a = some o) (hex : o.ExactSet) (hd : o.data = .set es ep t) (he : es.toList = rws w L) (T : TabOk t (L.map (hsh w))) (hfl : L.length ≤ t.mask) (nd : (L.map (·.2)).Nodup)
    (el : ∀ p ∈ L, ElOk s.heap p) (ld : w.params.followText "set-order" = true ∨ t.led = true) (few : L.length < 64) {wanted M : Nat} (hw : SetTable.sizeAbove wanted - 1 = M) (hM : MaskOk M) (h128 : SetTable.sizeAbove wanted ≤ 128)
    (hn : L.length * 5 < M * 3) {Q : Unit → Shared → Prop} (q : ∀ h' L' es' ep' t', Heap.SameBut a s.heap h' → NSet w h' a L' es' ep' t' → L'.Perm L → Q () { s with heap := h' }) :
    wpAny (model P w) A (setRelay a wanted) Q E s := by
  have hsz := rws_len he
  have hts : t.place.size = es.size := by
    have := T.sz
    rw [List.length_map] at this
    omega
  have hfits : t.fits es.size = true := by
    simp only [SetTable.fits, SetTable.fill, T.dm, Bool.and_eq_true, beq_iff_eq, decide_eq_true_eq]
    simp
    omega
  obtain ⟨t', order, e, hp, T', em, el', ep', ed⟩ := relaid_ok t (hs := es.map (·.1)) (wanted := wanted) hw hM (by rw [Array.size_map, hsz]; omega)
  rw [Array.size_map, hsz] at hp
  have inr : ∀ i ∈ order.toList, i < L.length := fun i hi => List.mem_range.mp (hp.mem_iff.mp hi)
  obtain ⟨r1, r2⟩ := reorder he order.toList inr
  have pm : (order.toList.filterMap fun i => L[i]?).Perm L := by
    have := hp.filterMap fun i => L[i]?
    rw [pick_all L _ (Nat.le_refl _), List.take_length] at this
    exact this
  have r3 : (order.filterMap (es[·]?)).toList = rws w (order.toList.filterMap fun i => L[i]?) := by
    rw [← r1]
    simp
  generalize hL2 : (order.toList.filterMap fun i => L[i]?) = L2 at r1 r2 pm r3
  rw [r2] at T'
  have hs2 : (order.filterMap (es[·]?)).size = es.size := by rw [rws_len r3, pm.length_eq, hsz]
  rw [setRelay_eq]
  refine wpAny_bind (wpAny_setState_of ho hd hfits ?_)
  dsimp only
  refine wp_if_neg (by rw [sizeLine_eq]; omega) ?_
  try refine wpAny_bind (wpAny_pure ?_)
  rw [e]
  dsimp only
  refine wpAny_bind ?_
  refine wp_if_neg (by rw [hs2]; simp) ?_
  try refine wpAny_bind (wpAny_pure ?_)
  refine wpAny_pure ?_
  dsimp only
  refine wpAny_storeSet_of ho hd ?_ (by rw [hs2, hsz, sizeLine_eq]; omega)
  have sb : Heap.SameBut a s.heap (s.heap.update a (Obj.putSet (order.filterMap (es[·]?)) t')) := Heap.SameBut.update ..
  refine q _ L2 _ (ep + 1) t' sb ⟨⟨_, store_at ho hd, ⟨hex.1, hex.2.1, hex.2.2⟩, rfl⟩, r3, T', (pm.map (·.2)).nodup_iff.mpr nd, fun p hp => (el p (pm.mem_iff.mp hp)).same ho hd sb, by rw [el']; exact ld, ?_, by rw [pm.length_eq]; exact few⟩ pm
  rw [pm.length_eq, em]
  exact hn
theorem dull {t : SetTable} {hs : List Int} (T : TabOk t hs) (b : Bool) : TabOk (if b = true then t else { t with plain := false }) hs ∧ (if b = true then t else { t with plain := false }).mask = t.mask ∧
    (if b = true then t else { t with plain := false }).led = t.led ∧ (if b = true then t else { t with plain := false }).fill = t.fill := by
  cases b
  · exact ⟨⟨T.ris, T.dm, T.sz, T.mok, T.bd, T.reach⟩, rfl, rfl, rfl⟩
  · exact ⟨T, rfl, rfl, rfl⟩
/-- a tuple put in -/
theorem putIn (R : NSet w s.heap a L es ep t) {x : El} (hx : ElOk s.heap x) (hu : A.units + 8 < cLine) (room : x.2 ∉ L.map (·.2) → L.length + 1 < 64) {Q : Bool → Shared → Prop}
    (q : ∀ b h' L' es' ep' t', Heap.SameBut a s.heap h' → NSet w h' a L' es' ep' t' → (x.2 ∈ L.map (·.2) → L' = L) → (x.2 ∉ L.map (·.2) → L'.Perm (x :: L)) → Q b { s with heap := h' }) :
    wpAny (model P w) A (setAddHashed a (.ref x.1) (hsh w x)) Q E s := by
  obtain ⟨o, ho, hex, hd⟩ := R.ob
  have hsz := rws_len R.es
  have hroom := R.room
  unfold setAddHashed
  refine wpAny_holding ?_
  rw [show (100000 : Nat) = 99999 + 1 from rfl, setAddHashedIn_succ]
  refine wpAny_bind (wpAny_setState_of ho hd R.fits ?_)
  dsimp only
  refine wp_if_neg (by simp [byScan, Value.scannable]) ?_
  try refine wpAny_bind (wpAny_pure ?_)
  refine wpAny_bind (seek0 R hx hu (fun hm => wpAny_pure (q false s.heap L es ep t (Heap.SameBut.refl a s.heap) R (fun _ => rfl) fun z => absurd hm z)) fun K hm hK hb => ?_)
  have hfew := room hm
  dsimp only
  refine wpAny_bind (wpAny_setState_of ho hd R.fits ?_)
  dsimp only
  obtain ⟨b1, b2, T1, b4, b5, b6, _, _, b9⟩ := R.tab.put hK hb
  generalize hpt : t.put (way t.mask (hsh w x) K) = pt at b1 T1 b4 b5 b6 b9 ⊢
  obtain ⟨t1, n⟩ := pt
  dsimp only at b1 T1 b4 b5 b6 b9 ⊢
  subst b1
  generalize hn : SetTable.below t.place (way t.mask (hsh w x) K) = n at b2 T1 ⊢
  have pm : (L.take n ++ x :: L.drop n).Perm (x :: L) := by
    have := List.perm_middle (a := x) (l₁ := L.take n) (l₂ := L.drop n)
    rwa [List.take_append_drop] at this
  have hh : (L.take n ++ x :: L.drop n).map (hsh w) = (L.map (hsh w)).take n ++ hsh w x :: (L.map (hsh w)).drop n := by
    rw [List.map_append, List.map_cons, List.map_take, List.map_drop]
  rw [← hh] at T1
  have he1 : (SetTable.insertAt es n (hsh w x, Value.ref x.1)).toList = rws w (L.take n ++ x :: L.drop n) := by
    rw [SetTable.toList_insertAt, R.es, rws, rws, List.map_append, List.map_cons, List.map_take, List.map_drop]
  have nd1 : ((L.take n ++ x :: L.drop n).map (·.2)).Nodup := (pm.map (·.2)).nodup_iff.mpr (List.nodup_cons.mpr ⟨hm, R.nd⟩)
  have el1 : ∀ p ∈ L.take n ++ x :: L.drop n, ElOk s.heap p := fun p hp => by
    rcases List.mem_cons.mp (pm.mem_iff.mp hp) with e | hp
    · rw [e]; exact hx
    · exact R.el p hp
  have l1 : (L.take n ++ x :: L.drop n).length = L.length + 1 := pm.length_eq
  generalize SetTable.insertAt es n (hsh w x, Value.ref x.1) = es1 at he1 ⊢
  generalize L.take n ++ x :: L.drop n = L1 at pm T1 he1 nd1 el1 l1
  have hes1 : es1.size = L.length + 1 := by rw [rws_len he1, l1]
  -- what follows, whatever the table tells of hashes by value
  have go : ∀ b : Bool, wpAny (model P w) A (do
      storeSet a es1 (if b = true then t1 else { t1 with plain := false })
      if (!false && (if b = true then t1 else { t1 with plain := false }).tooFull) = true then setRelay a (SetTable.grown (es.size + 1))
      return true) Q E s := by
    intro b
    obtain ⟨T2, c1, c2, c3⟩ := dull T1 b
    generalize (if b = true then t1 else { t1 with plain := false }) = t2 at T2 c1 c2 c3 ⊢
    refine wpAny_bind (wpAny_storeSet_of ho hd ?_ (by rw [hes1, sizeLine_eq]; omega))
    have sb : Heap.SameBut a s.heap (s.heap.update a (Obj.putSet es1 t2)) := Heap.SameBut.update ..
    have ho1 := store_at (es' := es1) (t' := t2) ho hd
    generalize s.heap.update a (Obj.putSet es1 t2) = h1 at sb ho1 ⊢
    have ld2 : w.params.followText "set-order" = true ∨ t2.led = true := by rw [c2, b5]; exact R.led
    have fl2 : t2.fill = L.length + 1 := by rw [c3, b9, List.length_map]
    have el2 : ∀ p ∈ L1, ElOk h1 p := fun p hp => (el1 p hp).same ho hd sb
    by_cases hf : t2.tooFull = true
    · have full : (L.length + 1) * 5 ≥ t.mask * 3 := by
        have := hf
        unfold SetTable.tooFull at this
        rw [decide_eq_true_eq, fl2, c1, b4] at this
        exact this
      have lay : ∀ M, SetTable.sizeAbove (SetTable.grown (L.length + 1)) - 1 = M → MaskOk M → SetTable.sizeAbove (SetTable.grown (L.length + 1)) ≤ 128 → (L.length + 1) * 5 < M * 3 →
          wpAny (model P w) A (setRelay a (SetTable.grown (L.length + 1))) (fun _ s' => wpAny (model P w) A (pure true) Q E s') E { s with heap := h1 } := fun M m1 m2 m3 m4 => by
        refine anew (s := { s with heap := h1 }) ho1 ⟨hex.1, hex.2.1, hex.2.2⟩ rfl he1 T2 (by rw [l1, c1, b4]; omega) nd1 el2 ld2 (by omega) m1 m2 m3 (by rw [l1]; exact m4) fun h2 L2 es2 ep2 t3 sb2 R2 pm2 => ?_
        exact wpAny_pure (q true h2 L2 es2 ep2 t3 (sb.trans sb2) R2 (fun z => absurd z hm) fun _ => pm2.trans pm)
      have two : (t.mask = 7 ∧ L.length = 4) ∨ (t.mask = 31 ∧ L.length = 18) := by
        rcases R.tab.mok with e | e | e
        · exact .inl ⟨e, by rw [e] at full hroom; omega⟩
        · exact .inr ⟨e, by rw [e] at full hroom; omega⟩
        · rw [e] at full
          omega
      rw [hsz]
      simp only [hf, Bool.not_false, Bool.and_self, if_true]
      refine wpAny_bind ?_
      rcases two with ⟨_, e⟩ | ⟨_, e⟩
      · exact lay 31 (by rw [e, size_20]) (.inr (.inl rfl)) (by rw [e, size_20]; decide) (by omega)
      · exact lay 127 (by rw [e, size_76]) (.inr (.inr rfl)) (by rw [e, size_76]; decide) (by omega)
    · have hf : t2.tooFull = false := by simpa using hf
      simp only [hf, Bool.and_false, Bool.false_eq_true, if_false]
      try refine wpAny_bind (wpAny_pure ?_)
      refine wpAny_pure (q true h1 L1 es1 (ep + 1) t2 sb ⟨⟨_, ho1, ⟨hex.1, hex.2.1, hex.2.2⟩, rfl⟩, he1, T2, nd1, el2, ld2, ?_, by omega⟩ (fun z => absurd z hm) fun _ => pm)
      unfold SetTable.tooFull at hf
      rw [decide_eq_false_iff_not, fl2, c1, b4] at hf
      rw [l1, c1, b4]
      omega
  cases hpl : t1.plain with
  | true =>
    simp only [if_true]
    refine wpAny_bind ((noCls_key _ _ 8 hx.1 hx.2).2 _ _ _ fun b => ?_)
    exact go b
  | false =>
    simp only [Bool.false_eq_true, if_false]
    refine wpAny_bind (wpAny_pure ?_)
    exact go true
end
end DL

/-! Sets of tuples in one another: set(a list). -/
namespace DL
open PySem PySem.Spec PyProof.Rows L2
open Evl (Ex ex_l ex_t)
/-- the new, empty set -/
def set0 (w : World) : Obj := { cls := .type "set", dict := none, data := .set #[] 0 (.fresh 0 0 (!w.params.followText "set-order")) }
section
variable {P : Program} {w : World} {A : Around} {E : Value → Shared → Prop} {s : Shared}
/-- what has come of the first i tuples -/
structure Come (ks : List El) (i : Nat) (L : List El) : Prop where
  of : ∀ p ∈ L, p ∈ ks
  all : ∀ p ∈ ks.take i, p.2 ∈ L.map (·.2)
theorem NSet.keep {h h' : Heap} {a : Addr} {L : List El} {es : Array (Int × Value)} {ep : Nat} {t : SetTable} (R : NSet w h a L es ep t) (ha : ∀ o, h.get? a = some o → h'.get? a = some o) (el : ∀ p ∈ L, ElOk h' p) : NSet w h' a L es ep t := by
  obtain ⟨o, ho, r⟩ := R.ob
  exact ⟨⟨o, ha o ho, r⟩, R.es, R.tab, R.nd, el, R.led, R.room, R.few⟩
theorem NSet.new {h : Heap} {a : Addr} (ho : h.get? a = some (set0 w)) : NSet w h a [] #[] 0 (.fresh 0 0 (!w.params.followText "set-order")) := by
  refine ⟨⟨_, ho, ⟨rfl, rfl, rfl⟩, rfl⟩, rfl, ⟨List.Pairwise.nil, rfl, rfl, .inl rfl, by simp [SetTable.fresh], by simp⟩, List.nodup_nil, by simp, ?_, by show 0 * 5 < 7 * 3; decide, by decide⟩
  show _ ∨ (!w.params.followText "set-order") = true
  cases w.params.followText "set-order" <;> simp
/-- few enough keys -/
def Few (ks : List El) : Prop := ∃ D : List NestedKey, D.length < 63 ∧ ∀ p ∈ ks, p.2 ∈ D
theorem Few.room {ks L : List El} (f : Few ks) {x : El} (hx : x ∈ ks) (of : ∀ p ∈ L, p ∈ ks) (nd : (L.map (·.2)).Nodup) : x.2 ∉ L.map (·.2) → L.length + 1 < 64 := by
  obtain ⟨D, h1, h2⟩ := f
  intro hn
  have : ∀ (l D : List NestedKey), l.Nodup → (∀ y ∈ l, y ∈ D) → l.length ≤ D.length := by
    intro l
    induction l with
    | nil => intro D _ _; exact Nat.zero_le _
    | cons y l ih =>
      intro D nd h
      obtain ⟨u, v, rfl⟩ := List.append_of_mem (h y (List.mem_cons_self ..))
      have nd := List.nodup_cons.mp nd
      have := ih (u ++ v) nd.2 fun z hz => by
        rcases List.mem_append.mp (h z (List.mem_cons_of_mem _ hz)) with q | q
        · exact List.mem_append.mpr (.inl q)
        · rcases List.mem_cons.mp q with q | q
          · exact absurd (q ▸ hz) nd.1
          · exact List.mem_append.mpr (.inr q)
      rw [List.length_append] at this
      rw [List.length_append, List.length_cons, List.length_cons]
      omega
  have := this (x.2 :: L.map (·.2)) D (List.nodup_cons.mpr ⟨hn, nd⟩) fun y hy => by
    rcases List.mem_cons.mp hy with rfl | hy
    · exact h2 x hx
    · obtain ⟨p, hp, rfl⟩ := List.mem_map.mp hy
      exact h2 p (of p hp)
  rw [List.length_cons, List.length_map] at this
  omega
theorem fill {I S l : Addr} {items : Array Value} {fp wr : List Addr} {St : Nat → Heap → Prop} {R : Result → Shared → Prop} (W : Walks P w A.in1 I fp wr items.size (fun i v => items[i]? = some v) St) (hS : S ∉ fp) (hsub : ∀ b ∈ wr, b ∈ fp) (ks : List El)
    (hit : items.toList = ks.map fun p => Value.ref p.1) (f : Few ks) (h0 : Heap) (el : ∀ p ∈ ks, ElOk h0 p) (hS0 : h0.get? S = none) (hw0 : ∀ b ∈ wr, h0.get? b = none) (hu : A.in1.units + 8 < cLine) :
    ∀ (k i : Nat) (s : Shared), items.size - i = k → i ≤ items.size → St i s.heap → (∀ b o, h0.get? b = some o → s.heap.get? b = some o) → (∃ L es ep t, NSet w s.heap S L es ep t ∧ Come ks i L) →
      (∀ h' tk L es ep t, NSet w h' S L es ep t → Come ks items.size L → (∀ b o, h0.get? b = some o → h'.get? b = some o) → R (.ok (.ret .none)) { s with heap := h', toks := tk }) →
      codeAny (model P w) A (.builtin "set.update.loop" ⟨[.ref S, .ref I], []⟩) R s := by
  have nS : S ∉ wr := fun h => hS (hsub _ h)
  have seq : ∀ {h1 h2 : Heap}, (∀ b o, h1.get? b = some o → h2.get? b = some o) → ∀ {p : El}, ElOk h1 p → ElOk h2 p := fun k _ x => x.keep fun c o _ _ e _ => k c o e
  intro k
  induction k with
  | zero =>
    rintro i s hk hi st kp ⟨L, es, ep, t, R0, g⟩ q
    obtain rfl : i = items.size := by omega
    refine codeAny_builtin F.entry_set_update_loop ?_
    rw [Around.under_plainId F.plain_set_update_loop _]
    show wpAny _ A.in1 (pyNext (.ref I) >>= _) _ _ s
    refine wpAny_bind (W.done s _ _ st fun h' tk keep => ?_)
    have kp' : ∀ b o, h0.get? b = some o → h'.get? b = some o := fun b o e => keep b o (fun z => by rw [hw0 b z] at e; cases e) (kp b o e)
    exact wpAny_pure (q h' _ L es ep t (R0.keep (fun o e => keep S o nS e) fun p hp => seq kp' (el p (g.of p hp))) g kp')
  | succ k ih =>
    rintro i s hk hi st kp ⟨L, es, ep, t, R0, g⟩ q
    have lt : i < items.size := by omega
    refine codeAny_builtin F.entry_set_update_loop ?_
    rw [Around.under_plainId F.plain_set_update_loop _]
    show wpAny _ A.in1 (pyNext (.ref I) >>= _) _ _ s
    refine wpAny_bind (W.item i s _ _ lt st fun v h' tk hv st' keep => ?_)
    obtain ⟨p, hp, rfl⟩ : ∃ p, ks[i]? = some p ∧ v = .ref p.1 := by
      have z : items.toList[i]? = some v := by rw [Array.getElem?_toList]; exact hv
      rw [hit, List.getElem?_map] at z
      obtain ⟨p, e1, e2⟩ := Option.map_eq_some_iff.mp z
      exact ⟨p, e1, e2.symm⟩
    have hpm := List.mem_of_getElem? hp
    have kp' : ∀ b o, h0.get? b = some o → h'.get? b = some o := fun b o e => keep b o (fun z => by rw [hw0 b z] at e; cases e) (kp b o e)
    have R1 : NSet w h' S L es ep t := R0.keep (fun o e => keep S o nS e) fun p hp => seq kp' (el p (g.of p hp))
    have hx : ElOk h' p := seq kp' (el p hpm)
    refine wpAny_bind (wpAny_holding ?_)
    unfold setAdd
    refine wpAny_holding ?_
    refine wpAny_bind ((nestedKind P w).pyHash hu hx ?_)
    refine putIn (s := { s with heap := h', toks := _ }) R1 hx hu (f.room hpm g.of R1.nd) fun b h2 L2 es2 ep2 t2 sb R2 c1 c2 => ?_
    have g2 : Come ks (i + 1) L2 := by
      have tk : ks.take (i + 1) = ks.take i ++ [p] := by rw [List.take_add_one, hp]; rfl
      by_cases c : p.2 ∈ L.map (·.2)
      · rw [c1 c]
        refine ⟨g.of, fun z hz => ?_⟩
        rw [tk] at hz
        rcases List.mem_append.mp hz with hz | hz
        · exact g.all z hz
        · rw [List.mem_singleton.mp hz]; exact c
      · have pm := c2 c
        refine ⟨fun z hz => ?_, fun z hz => ?_⟩
        · rcases List.mem_cons.mp (pm.mem_iff.mp hz) with e | hz
          · rw [e]; exact hpm
          · exact g.of z hz
        · rw [(pm.map (·.2)).mem_iff, List.map_cons]
          rw [tk] at hz
          rcases List.mem_append.mp hz with hz | hz
          · exact List.mem_cons_of_mem _ (g.all z hz)
          · rw [List.mem_singleton.mp hz]; exact List.mem_cons_self ..
    have kp2 : ∀ b o, h0.get? b = some o → h2.get? b = some o := fun b o e => (sb.2 b (fun z => by rw [z, hS0] at e; cases e)).trans (kp' b o e)
    refine wpAny_pure ⟨plainId_quiet F.plain_set_update_loop _, ih (i + 1) _ (by omega) lt (W.frame _ h' _ st' fun b hb o e => ?_) kp2 ⟨L2, es2, ep2, t2, R2, g2⟩ fun h3 tk3 L3 es3 ep3 t3 R3 g3 kp3 => q h3 tk3 L3 es3 ep3 t3 R3 g3 kp3⟩
    exact (sb.2 b fun z => hS (z ▸ hb)).trans e
end
end DL

/-! set(a list of tuples in one another), sorted of it. -/
namespace DL
open PySem PySem.Spec PyProof.Rows L2
open Evl (Ex ex_l ex_t)
open PySem.W (EachIs AllAlike Sortable SortsAt sortVals sortLe keyToks dataKind)
section
variable {P : Program} {w : World} {A : Around} {E : Value → Shared → Prop} {s : Shared}
/-- set(v), down to what fills it -/
theorem set_by {v : Value} {Z : Shared → Prop} {Q : Value → Shared → Prop}
    (h : wpAny (model P w) A.in1.in1 (Builtin.Frozenset.updateFrom "set.__init__" s.heap.objs.size v) (fun _ s' => Z s') (fun e s' => E e s') { s with heap := s.heap.push (set0 w) })
    (hz : ∀ s', Z s' → Q (.ref s.heap.objs.size) s') : wpAny (model P w) A (call (.type "set") [v]) Q E s := by
  obtain ⟨c, tl, hmro⟩ := PySem.F.called_set.mro
  have made := PySem.F.called_set.made
  have sub := PySem.F.called_set.sub
  refine wpAny_call (codeAny_of_tree ?_)
  show wpAny _ _ (callAny (.type "set") _) _ _ _
  refine wpAny_pure ⟨Code.quiet_builtin _ (by decide +kernel), codeAny_builtin PySem.F.entry_type_call ?_⟩
  rw [Around.under_plain (weight_type_call_type "set" [v] []) rfl]
  have g1 := PySem.F.called_set.notType
  have g2 := PySem.F.called_set.canCreate
  have g3 := F.typeCall_set_1 v
  repeat (any_goals (first | assumption | wp_step))
  have new := code_set_led1 (P := P) (w := w) (A := A.in1) (s := s) v (E := E) (Q₁ := fun ob s₁ => ob = .ref s.heap.objs.size ∧ s₁ = { s with heap := s.heap.push (set0 w) }) ⟨rfl, rfl⟩
  refine codeAny_mono new fun r s₁ hr => ?_
  match r, hr with
  | .error e, hr => exact hr
  | .ok (.ret ob), hr =>
    obtain ⟨rfl, rfl⟩ := hr
    have ty : Shared.TypeIs { s with heap := s.heap.push (set0 w) } (.ref s.heap.objs.size) "set" := ⟨_, Heap.get?_push_size _ rfl, rfl⟩
    have i1 := PySem.F.called_set.init.lookup
    have i2 := PySem.F.called_set.init.bind (.ref s.heap.objs.size)
    repeat (any_goals (first | assumption | wp_step))
    refine codeAny_mono (codeAny_call_builtin (R := wants (fun r s₂ => r = .none ∧ Z s₂) E) PySem.F.called_set.init.plain PySem.F.entry_set_init (check_set_init_1 ty ?_)) fun r₂ s₂ hr₂ => ?_
    · have emp : Heap.get? (s.heap.push (set0 w)) s.heap.objs.size = some (set0 w) := Heap.get?_push_size _ rfl
      unfold set0 at emp h ⊢
      unfold Builtin.«set.__init__» noKeywords
      generalize hU : Builtin.Frozenset.updateFrom = U at h
      wp_walk
      exact wpAny_mono h (fun _ s' z => wpAny_pure ⟨rfl, z⟩) fun e s' z => z
    · match r₂, hr₂ with
      | .error e, hr₂ => exact hr₂
      | .ok (.ret r), hr₂ =>
        obtain ⟨rfl, z⟩ := hr₂
        repeat (any_goals (first | assumption | wp_step))
        exact hz _ z
/-- what stands at a, without the tuples themselves -/
def NSet0 (w : World) (a : Addr) (L : List El) (h : Heap) : Prop := ∃ (es : Array (Int × Value)) (ep : Nat) (t : SetTable), (∃ o, h.get? a = some o ∧ o.ExactSet ∧ o.data = .set es ep t) ∧ es.toList = rws w L ∧ TabOk t (L.map (hsh w)) ∧ (L.map (·.2)).Nodup ∧
  (w.params.followText "set-order" = true ∨ t.led = true) ∧ L.length * 5 < t.mask * 3 ∧ L.length < 64
def HSet (w : World) (a : Addr) (L : List El) : HO := .ext (NSet0 w a L)
theorem NSet.bare {h : Heap} {a : Addr} {L : List El} {es : Array (Int × Value)} {ep : Nat} {t : SetTable} (R : NSet w h a L es ep t) : NSet0 w a L h := ⟨es, ep, t, R.ob, R.es, R.tab, R.nd, R.led, R.room, R.few⟩
theorem NSet0.full {h : Heap} {a : Addr} {L : List El} (R : NSet0 w a L h) (el : ∀ p ∈ L, ElOk h p) : ∃ es ep t, NSet w h a L es ep t := by
  obtain ⟨es, ep, t, h1, h2, h3, h4, h5, h6, h7⟩ := R
  exact ⟨es, ep, t, h1, h2, h3, h4, el, h5, h6, h7⟩
theorem NSet0.obj {H : Hp} {h : Heap} {a : Addr} {L : List El} (R : NSet0 w a L h) : ObjOk P w H h a (HSet w a L) := by
  obtain ⟨es, ep, t, ⟨o, ho, r⟩, q⟩ := id R
  refine ⟨R, ⟨o, ho⟩, ?_⟩
  rintro h1 h2 ⟨es', ep', t', ⟨o', ho', r'⟩, q'⟩ k
  exact ⟨es', ep', t', ⟨o', k _ ho', r'⟩, q'⟩
/-- set(xs), xs a list of tuples -/
theorem call_setN {l : Addr} {items : Array Value} (ks : List El) (hh : A.handled = none) (hl : s.heap.IsList l items) (hit : items.toList = ks.map fun p => Value.ref p.1) (el : ∀ p ∈ ks, ElOk s.heap p) (f : Few ks) (hu : A.units + 12 < cLine) {Q : Value → Shared → Prop}
    (q : ∀ h' tk L es ep t, NSet w h' s.heap.objs.size L es ep t → (∀ p ∈ L, p ∈ ks) → (∀ p ∈ ks, p.2 ∈ L.map (·.2)) → (∀ b o, s.heap.get? b = some o → h'.get? b = some o) → Q (.ref s.heap.objs.size) { s with heap := h', toks := tk }) :
    wpAny (model P w) A (call (.type "set") [.ref l]) Q E s := by
  refine set_by (Z := fun s' => ∃ h' tk L es ep t, s' = { s with heap := h', toks := tk } ∧ NSet w h' s.heap.objs.size L es ep t ∧ (∀ p ∈ L, p ∈ ks) ∧ (∀ p ∈ ks, p.2 ∈ L.map (·.2)) ∧ ∀ b o, s.heap.get? b = some o → h'.get? b = some o) ?_
    fun s' ⟨h', tk, L, es, ep, t, e, R, c1, c2, kp⟩ => by rw [e]; exact q h' tk L es ep t R c1 c2 kp
  have lS : l < s.heap.objs.size := let ⟨_, e, _⟩ := hl; Heap.lt_size e
  have hl1 : (s.heap.push (set0 w)).IsList l items := hl.at fun o e => Heap.get?_push_of_some _ e
  obtain ⟨ol, hol, hcl, nl, hdl⟩ := id hl1
  have tl : Shared.TypeIs { s with heap := s.heap.push (set0 w) } (.ref l) "list" := ⟨ol, hol, hcl⟩
  have n1 := PySem.F.sub_list_set
  have n2 := PySem.F.sub_list_frozenset
  have n3 : (Value.type "list" == Value.type "dict") = false := by decide
  unfold Builtin.Frozenset.updateFrom
  generalize hPI : pyIter = PI
  wp_walk
  subst hPI
  have hneI : l ≠ (s.heap.push (set0 w)).objs.size := by rw [Heap.size_push]; exact Nat.ne_of_lt (Nat.lt_succ_of_lt lS)
  have none_of : ∀ b, s.heap.objs.size ≤ b → s.heap.get? b = none := fun b hb => by
    cases z : s.heap.get? b with
    | none => rfl
    | some o => exact absurd (Nat.lt_of_lt_of_le (Heap.lt_size z) hb) (Nat.lt_irrefl _)
  refine wpAny_pyIter_list hl1 ?_
  refine wpAny_bind (wpAny_runValue ?_)
  have hS : s.heap.objs.size ∉ [(s.heap.push (set0 w)).objs.size, l] := by
    rw [Heap.size_push]
    simp only [List.mem_cons, List.not_mem_nil, or_false, not_or]
    exact ⟨Nat.ne_of_lt (Nat.lt_succ_self _), Nat.ne_of_gt lS⟩
  have hh' : A.in1.in1.in1.handled = none := by simp [hh]
  refine fill (l := l) (Walks.list hh' _ l hneI items) hS (fun b hb => by simp at hb; simp [hb]) ks hit f s.heap el (none_of _ (Nat.le_refl _)) (fun b hb => none_of b ?_) (by simp; omega) (items.size - 0) 0 _ (by omega) (Nat.zero_le _)
    ⟨⟨_, Heap.get?_push_size _ rfl, rfl, rfl⟩, hl1.push _⟩ (fun b o e => Heap.get?_push_of_some _ (Heap.get?_push_of_some _ e)) ⟨[], #[], 0, _, NSet.new (Heap.get?_push_of_some _ (Heap.get?_push_size _ rfl)), ⟨fun p hp => (by cases hp), fun p hp => (by rw [List.take_zero] at hp; cases hp)⟩⟩ fun h' tk L es ep t R g kp => ?_
  · simp only [List.mem_singleton] at hb
    rw [hb, Heap.size_push]
    exact Nat.le_succ _
  · refine wpAny_pure ⟨h', tk, L, es, ep, t, rfl, R, g.of, fun p hp => g.all p ?_, kp⟩
    have e : ks.length = items.size := by
      have z := congrArg List.length hit
      rw [Array.length_toList, List.length_map] at z
      exact z.symm
    rw [← e, List.take_length]
    exact hp
end
end DL

/-! set(xs), sorted(set(xs)), xs a list of tuples in one another. -/
namespace DL
open PySem PySem.Spec PyProof.Rows L2
open Evl (Ex ex_l ex_t)
open PySem.W (EachIs AllAlike Sortable SortsAt sortVals sortLe keyToks dataKind)
variable [TheW]
theorem refs_vals2 : ∀ {ks : List El} {us : List Value}, Vals (ks.map fun p => V.ref p.1) us → us = ks.map fun p => Value.ref p.1
  | [], _, .nil => rfl
  | p :: ks, _, .cons r t => by
    cases r
    rw [refs_vals2 t] <;> rfl
section
variable {X : Cx} {pins : List (Addr × Obj)} {σ : L2.St} {H : Hp} {s : Shared}
def rSetN (K : PySem.W.Frag) (w : World) : List V → Hp → VK → Prop := fun xs H Q => ∃ (l : Addr) (ks : List El), xs = [V.ref l] ∧ SqL K H l (ks.map fun p => V.ref p.1) ∧ (∀ p ∈ ks, KeyV K H p.1 p.2) ∧ Few ks ∧
  ∀ a L, H a = none → (L.map (·.2)).Nodup → (∀ p ∈ L, p ∈ ks) → (∀ p ∈ ks, p.2 ∈ L.map (·.2)) → Q (.ref a) (upd H a (HSet w a L))
theorem cr_setN (hc : X.calm = true) (hu : X.A.units + 64 < cLine) : CallR X (.type "set") (rSetN X.K X.w) := by
  intro pins s σ H xs us Q I r h
  obtain ⟨l, ks, rfl, hl, hk, hf, q⟩ := h
  obtain ⟨u, rfl, ru⟩ := vals1 r
  obtain rfl : u = Value.ref l := ru
  obtain ⟨its, rv, pl, hz⟩ := I.list hl
  have hn : H s.heap.objs.size = none := I.hok.fresh (Nat.le_refl _)
  refine call_setN (P := X.prog) (w := X.w) ks (I.ok.hd hc) pl.isList (by simpa using refs_vals2 rv) (fun p hp => keyV_at I (hk p hp)) hf (by omega) fun h' tk L es ep t R g1 g2 k => ?_
  have R0 : NSet0 X.w s.heap.objs.size L h' := NSet.bare R
  exact ⟨.ref s.heap.objs.size, upd H s.heap.objs.size (HSet X.w s.heap.objs.size L), I.laid (t' := tk) k (Nat.le_refl _) R0.obj, rfl, q _ L hn R.nd g1 g2⟩
theorem each_perm {α : Type} {T : α → PyData → Prop} {us vs : List α} (pm : us.Perm vs) : ∀ {ds : List PyData}, EachIs T vs ds → ∃ es, es.Perm ds ∧ EachIs T us es := by
  induction pm with
  | nil => intro ds h; cases h; exact ⟨[], .nil, .nil⟩
  | cons x _ ih =>
    intro ds h
    cases h with
    | cons h t =>
      obtain ⟨es, p, e⟩ := ih t
      exact ⟨_, p.cons _, .cons h e⟩
  | swap x y l =>
    intro ds h
    cases h with
    | cons h1 t =>
      cases t with
      | cons h2 t => exact ⟨_, .swap _ _ _, .cons h2 (.cons h1 t)⟩
  | trans _ _ ih1 ih2 =>
    intro ds h
    obtain ⟨es, p, e⟩ := ih2 h
    obtain ⟨es', p', e'⟩ := ih1 e
    exact ⟨es', p'.trans p, e'⟩
/-- sorted of such a set -/
def rSortedNS (K : PySem.W.Frag) (w : World) : List V → Hp → VK → Prop := fun vs H Q => ∃ (a : Addr) (L : List El) (ds : List PyData) (T : V → PyData → Prop), vs = [.ref a] ∧ H a = some (HSet w a L) ∧ (∀ p ∈ L, KeyV K H p.1 p.2) ∧ (∀ v d, T v d → Rep K H v d) ∧
  EachIs (fun r d => T (.ref r) d) (L.map (·.1)) ds ∧ AllAlike ds ∧ Sortable ds ∧ (∀ d ∈ ds, d.depth ≤ 50) ∧ ∀ (ys : List V) (es : List PyData) (p : Addr), es.Perm ds → EachIs T ys (sortD es) → H p = none → Q (.ref p) (upd H p (.lst ys))
theorem cr_sortedNS (hcalm : X.calm = true) (hu : X.A.units + 64 < cLine) : CallR X (.builtin "sorted") (rSortedNS X.K X.w) := by
  intro pins s σ H vs us Q I r h
  obtain ⟨a, L, ds, T, rfl, hh, hk, hT, he, hal, hs, hdep, q⟩ := h
  obtain ⟨u, rfl, ru⟩ := vals1 r
  obtain rfl : u = Value.ref a := ru
  have R0 : NSet0 X.w a L s.heap := (show ObjOk X.prog X.w H s.heap a (HSet X.w a L) from I.hok a _ hh).1
  obtain ⟨es, ep, t, R⟩ := R0.full fun p hp => keyV_at I (hk p hp)
  obtain ⟨o, ho, hex, hd⟩ := R.ob
  have few := R.few
  have len := rws_len R.es
  refine Calls.call_function_entry PyProof.Rows.kind_sorted PyProof.Rows.plain_sorted PyProof.Rows.entry_sorted (PyProof.Rows.args_sorted1 _) ?_
  unfold Builtin.«sorted»
  refine wpAny_bind (m := checkCount "sorted" 1 1 _) (wpAny_pure ?_)
  refine wpAny_bind (collect_set (A := X.A.in1) (I.ok.hd hcalm) ⟨o, ho, hex.1, hd⟩ R.fits (by unfold scanBound; omega) R.tab.ris R.led fun s1 out hkp hz hg hos pm => ?_)
  have I1 : Inv X pins σ H s1 := I.call' (ch := []) hos (Un.kept hkp) (I.hok.kept hkp) (by rw [hg]; exact I.bare) (fun _ z => nomatch z)
  have eL : es.toList.map (·.2) = (L.map (·.1)).map fun b => Value.ref b := by rw [R.es, rws, List.map_map, List.map_map]; rfl
  rw [eL] at pm
  have e1 : EachIs (fun u d => ∃ x, RelV x u ∧ T x d) ((L.map (·.1)).map fun b => Value.ref b) ds := by
    have hl := he.length
    refine each_get (by rw [List.length_map]; exact hl) fun j u d e1 e2 => ?_
    rw [List.getElem?_map] at e1
    obtain ⟨b, hb, rfl⟩ := Option.map_eq_some_iff.mp e1
    exact ⟨.ref b, rfl, each_at he j b d hb e2⟩
  obtain ⟨es2, pe, e0⟩ := each_perm pm e1
  have hal2 : AllAlike es2 := fun d hd d' hd' => hal d (pe.mem_iff.mp hd) d' (pe.mem_iff.mp hd')
  have hs2 : Sortable es2 := by
    rcases hs with z | z
    · exact .inl fun d hd => z d (pe.mem_iff.mp hd)
    · exact .inr fun d hd => z d (pe.mem_iff.mp hd)
  have hlen : out.length ≤ sizeLine := by rw [pm.length_eq, List.length_map, List.length_map, sizeLine_eq]; omega
  refine wpAny_bind (wpAny_newList ?_ hlen)
  have hoL : (s1.heap.push (seqObj "list" out.toArray 0)).get? s1.heap.objs.size = some (seqObj "list" out.toArray 0) := Heap.get?_push_size _ rfl
  have eR : EachIs (fun v d => ∃ as, Reads (PySem.W.sortingHeap (s1.heap.push (seqObj "list" out.toArray 0)) s1.heap.objs.size out) v d as) out es2 := e0.mono fun v d ⟨x, rx, r⟩ => by
    obtain ⟨as, rr⟩ := ((hT _ _ r).rd I1 rx).reads
    exact ⟨as, Reads.keeps (fun b o e => PySem.W.sortingHeap_old (Nat.ne_of_lt (Heap.lt_size e)) (Heap.get?_push_of_some _ e)) rr⟩
  show wpAny _ _ _ _ _ { s1 with heap := s1.heap.push (seqObj "list" out.toArray 0) }
  refine wpAny_bind (wpAny_holding (wpAny_call_entry PyProof.Rows.slot_list_sort ⟨_, hoL, rfl⟩ PyProof.Rows.entry_list_sort
    (PySem.W.list_sort_vals (s := { s1 with heap := s1.heap.push (seqObj "list" out.toArray 0) }) hoL (SortsAt.data eR hal2 hs2 fun d hm => ?_) hlen ⟨_, rfl, ?_⟩)
    (PyProof.Rows.args_list_sort _)))
  · have := hdep d (pe.mem_iff.mp hm)
    show X.A.units + 1 + 1 + d.depth < cLine
    omega
  · have hkey : EachIs (fun v d => (dataKind (PySem.W.sortingHeap (s1.heap.push (seqObj "list" out.toArray 0)) s1.heap.objs.size out) es2).keyOf v = some (keyToks d)) out es2 :=
      (PySem.W.each_mem eR).mono fun v d ⟨⟨as, h⟩, hm⟩ => PySem.W.dataKind_some hal2 hm h
    have e2 := PySem.W.sortVals_each (κ := dataKind (PySem.W.sortingHeap (s1.heap.push (seqObj "list" out.toArray 0)) s1.heap.objs.size out) es2) (rev := false) keyToks e0 hkey
    obtain ⟨ys, ry, ey⟩ := back_pairs e2
    obtain ⟨ep', he'⟩ := PyProof.Rows.sortedHeap_at (vs := out) (out := (sortVals (dataKind (PySem.W.sortingHeap (s1.heap.push (seqObj "list" out.toArray 0)) s1.heap.objs.size out) es2) false out out).toArray) hoL
    refine wpAny_pure ⟨_, rfl, .ref s1.heap.objs.size, upd H s1.heap.objs.size (.lst ys), I1.laid (t' := s1.toks) (fun b u e => ?_) (Nat.le_refl _) (show ObjOk X.prog X.w _ _ _ (.lst ys) from ⟨?_, _, ep', ry, he'⟩), rfl, q ys es2 _ pe ey (I1.hok.fresh (Nat.le_refl _))⟩
    · have hb : b < s1.heap.objs.size := Heap.lt_size e
      rw [PyProof.Rows.sortedHeap_old (Nat.ne_of_lt hb) (by rw [size_push']; exact Nat.lt_succ_of_lt hb)]
      exact Heap.get?_push_of_some _ e
    · have l1 := ey.length
      unfold sortD at l1
      rw [List.length_mergeSort, ← e0.length] at l1
      omega
end
section
variable {K : PySem.W.Frag} {ib : Option Nat} {b : Bg} {te : TE} {de : DE}
/-- few keys -/
def FewD (ds : List PyData) : Prop := ∃ D : List PyData, D.length < 63 ∧ ∀ d ∈ ds, d ∈ D
structure SetOk (ds : List PyData) : Prop where
  k : ∀ d ∈ ds, ∃ ps k, d = .tuple ps ∧ nk d = some k ∧ k.depth ≤ 8
  f : FewD ds
  a : AllAlike ds
  s : Sortable ds
  d : ∀ d ∈ ds, d.depth ≤ 50
/-- sorted(set(x)), x a list of tuples -/
noncomputable def dnSortSet (de : DE) : DA := fun δ R => de δ fun x => match x with
  | .list ds => SetOk ds ∧ ∀ es : List PyData, es.Nodup → (∀ d, d ∈ es ↔ d ∈ ds) → R (sortD es)
  | _ => False
theorem els_of {S : Hp} : ∀ {xs : List V} {ds : List PyData}, Reps K S xs ds → (∀ d ∈ ds, ∃ ps k, d = .tuple ps ∧ nk d = some k ∧ k.depth ≤ 8) → ∃ ks : List El, xs = ks.map (fun p => V.ref p.1) ∧ EachIs (fun (p : El) d => Rep K S (.ref p.1) d ∧ nk d = some p.2 ∧ p.2.depth ≤ 8) ks ds
  | _, _, .nil, _ => ⟨[], rfl, .nil⟩
  | v :: _, d :: _, .cons r q, h => by
    obtain ⟨ps, k, rfl, hk, h8⟩ := h d (List.mem_cons_self ..)
    obtain ⟨ks, e1, e2⟩ := els_of q fun d hd => h d (List.mem_cons_of_mem _ hd)
    obtain ⟨a, rfl⟩ : ∃ a, v = V.ref a := by cases r; exact ⟨_, rfl⟩
    exact ⟨(a, k) :: ks, by rw [e1]; rfl, .cons ⟨r, hk, h8⟩ e2⟩
theorem each_mem_l {α : Type} {T : α → PyData → Prop} : ∀ {us : List α} {ds : List PyData}, EachIs T us ds → ∀ u ∈ us, ∃ d ∈ ds, T u d
  | _, _, .cons h t, u, hu => by
    rcases List.mem_cons.mp hu with e | hu
    · subst e; exact ⟨_, List.mem_cons_self .., h⟩
    · obtain ⟨d, hd, z⟩ := each_mem_l t u hu
      exact ⟨d, List.mem_cons_of_mem _ hd, z⟩
theorem each_mem_r {α : Type} {T : α → PyData → Prop} : ∀ {us : List α} {ds : List PyData}, EachIs T us ds → ∀ d ∈ ds, ∃ u ∈ us, T u d
  | _, _, .cons h t, d, hd => by
    rcases List.mem_cons.mp hd with e | hd
    · subst e; exact ⟨_, List.mem_cons_self .., h⟩
    · obtain ⟨u, hu, z⟩ := each_mem_r t d hd
      exact ⟨u, List.mem_cons_of_mem _ hu, z⟩
theorem each_pick {S : Hp} {ks : List El} : ∀ {L : List El}, (∀ p ∈ L, p ∈ ks) → (∀ p ∈ ks, ∃ d, Rep K S (.ref p.1) d ∧ nk d = some p.2) → (L.map (·.2)).Nodup → ∃ es : List PyData, EachIs (fun (p : El) d => Rep K S (.ref p.1) d ∧ nk d = some p.2) L es ∧ es.Nodup ∧ ∀ d ∈ es, ∃ p ∈ L, nk d = some p.2
  | [], _, _, _ => ⟨[], .nil, List.nodup_nil, fun _ z => nomatch z⟩
  | p :: L, h, g, nd => by
    rw [List.map_cons, List.nodup_cons] at nd
    obtain ⟨es, e1, e2, e3⟩ := each_pick (L := L) (fun p hp => h p (List.mem_cons_of_mem _ hp)) g nd.2
    obtain ⟨d, r, hd⟩ := g p (h p (List.mem_cons_self ..))
    refine ⟨d :: es, .cons ⟨r, hd⟩ e1, List.nodup_cons.mpr ⟨fun hm => ?_, e2⟩, fun x hx => ?_⟩
    · obtain ⟨p', hp', z⟩ := e3 d hm
      rw [hd] at z
      injection z with z
      exact nd.1 (z ▸ List.mem_map_of_mem hp')
    · rcases List.mem_cons.mp hx with e | hx
      · subst e; exact ⟨p, List.mem_cons_self .., hd⟩
      · obtain ⟨p', hp', z⟩ := e3 x hx
        exact ⟨p', List.mem_cons_of_mem _ hp', z⟩
theorem sim_nSortSet (h1 : SimE K ib b te de) : SimN K ib b (tCB (rSortedNS K TheW.w) (tCons (tCB (rSetN K TheW.w) (tCons te tNil)) tNil)) (dnSortSet de) := by
  intro H0 S H σ δ R Q o e h k
  refine h1 H0 S H σ δ _ _ o e h fun S1 H1 v dv g r q => ?_
  split at q
  · rename_i ds
    obtain ⟨ok, q⟩ := q
    obtain ⟨a, xs, rfl, hx, qx⟩ := r.lstV
    obtain ⟨ks, rfl, ek⟩ := els_of qx ok.k
    have kv : ∀ {H' : Hp}, Ex S1 H' → ∀ p ∈ ks, KeyV K H' p.1 p.2 := fun x p hp => by
      obtain ⟨d, hd, r, hn, h8⟩ := each_mem_l ek p hp
      exact ⟨d, r.mono x, hn, h8⟩
    refine ⟨a, ks, rfl, SqL.of (g.ok.sub _ _ hx), kv g.ok.sub, ?_, fun A L hA nd l1 l2 => ?_⟩
    · obtain ⟨D, d1, d2⟩ := ok.f
      refine ⟨D.filterMap nk, Nat.lt_of_le_of_lt (List.length_filterMap_le _ _) d1, fun p hp => ?_⟩
      obtain ⟨d, hd, r, hn, h8⟩ := each_mem_l ek p hp
      exact List.mem_filterMap.mpr ⟨d, d2 d hd, hn⟩
    · obtain ⟨es, e1, e2, e3⟩ := each_pick l1 (fun p hp => let ⟨d, _, r, hn, _⟩ := each_mem_l ek p hp; ⟨d, r, hn⟩) nd
      have mem : ∀ d, d ∈ es ↔ d ∈ ds := fun d => ⟨fun hd => by
        obtain ⟨p, hp, hn⟩ := e3 d hd
        obtain ⟨d', hd', r', hn', _⟩ := each_mem_l ek p (l1 p hp)
        rw [nk_inj hn hn']
        exact hd', fun hd => by
        obtain ⟨p, hp, r', hn', _⟩ := each_mem_r ek d hd
        obtain ⟨p2, hp2, e⟩ := List.mem_map.mp (l2 p hp)
        obtain ⟨d2, hd2, r2, hn2⟩ := each_mem_l e1 p2 hp2
        rw [e] at hn2
        rw [nk_inj hn' hn2]
        exact hd2⟩
      have g2 : Go ib b S1 H1 S1 (upd H1 A (HSet TheW.w A L)) := Go.laidOwn g.ok hA
      have sub2 := g2.ok.sub
      refine ⟨A, L, es, fun v d => Rep K S1 v d, rfl, upd_same, fun p hp => kv sub2 p (l1 p hp), fun v d r => r.mono sub2, ?_, ?_, ?_, ?_, fun ys es' p' pe hy hp' => ?_⟩
      · have : ∀ {L : List El} {es : List PyData}, EachIs (fun (p : El) d => Rep K S1 (.ref p.1) d ∧ nk d = some p.2) L es → EachIs (fun r d => Rep K S1 (.ref r) d) (L.map (·.1)) es := by
          intro L es h
          induction h with
          | nil => exact .nil
          | cons h _ ih => exact .cons h.1 ih
        exact this e1
      · exact fun d hd d' hd' => ok.a d ((mem d).mp hd) d' ((mem d').mp hd')
      · rcases ok.s with z | z
        · exact .inl fun d hd => z d ((mem d).mp hd)
        · exact .inr fun d hd => z d ((mem d).mp hd)
      · exact fun d hd => ok.d d ((mem d).mp hd)
      · have gg := g.trans o g2
        exact k S1 _ p' ys _ (gg.trans o (Go.laidOwn g2.ok hp')) upd_same (reps_of_each (fun v d r => r) hy) (Ex.none_of sub2 hp') (gg.fresh o hp') (q es' (pe.nodup_iff.mpr e2) fun d => by rw [pe.mem_iff]; exact mem d)
  · exact q.elim
end
end DL

/-! Sets of texts. -/
namespace DL
open PySem PySem.Spec PyProof.Rows L2
open Evl (Ex ex_l ex_t)
variable [TheW]
def txtOf (e : Int × Value) : Str := match e.2 with
  | .str x _ => x
  | _ => ⟨#[]⟩
def TxtEl (w : World) (e : Int × Value) : Prop := ∃ x tk, e.2 = Value.str x tk ∧ e.1 = hashStr w x
/-- the set of the texts L at a -/
def TSet (w : World) (a : Addr) (L : List Str) (h : Heap) : Prop := ∃ o es ep t, h.get? a = some o ∧ o.ExactSet ∧ o.data = .set es ep t ∧ (∀ e ∈ es.toList, TxtEl w e) ∧ (es.toList.map txtOf).Perm L ∧ L.Nodup ∧ L.length < 64 ∧
  t.fits es.size = true ∧ Ris t.place.toList ∧ (w.params.followText "set-order" = true ∨ t.led = true)
def HTxt (w : World) (a : Addr) (L : List Str) : HO := .ext (TSet w a L)
section
variable {P : Program} {w : World} {A : Around} {E : Value → Shared → Prop} {s : Shared} {a : Addr} {L : List Str}
theorem TxtEl.is {e : Int × Value} (g : TxtEl w e) (x : Str) : (PySem.strKind P w).is x e.2 = true ↔ txtOf e = x := by
  obtain ⟨y, tk, h1, _⟩ := g
  unfold txtOf
  rw [h1]
  show Value.isStrOf x (.str y tk) = true ↔ y = x
  simp [Value.isStrOf]
theorem txt_elems {l : List (Int × Value)} (g : ∀ e ∈ l, TxtEl w e) : ElemsOf (PySem.strKind P w) l := fun e he => by
  obtain ⟨x, tk, h1, h2⟩ := g e he
  refine ⟨⟨x, ?_, h2⟩, by rw [h1]; rfl⟩
  rw [h1]
  exact PySem.strKind_is P w x tk
theorem TSet.obj {H : Hp} {h : Heap} (R : TSet w a L h) : ObjOk P w H h a (HTxt w a L) := by
  obtain ⟨o, es, ep, t, ho, r⟩ := id R
  refine ⟨R, ⟨o, ho⟩, ?_⟩
  rintro h1 h2 ⟨o', es', ep', t', ho', r'⟩ k
  exact ⟨o', es', ep', t', k _ ho', r'⟩
theorem TSet.new {h : Heap} (w : World) : TSet w h.objs.size [] (h.push (set0 w)) := by
  refine ⟨_, #[], 0, _, Heap.get?_push_size _ rfl, ⟨rfl, rfl, rfl⟩, rfl, by simp, by simp, List.nodup_nil, by decide, rfl, List.Pairwise.nil, ?_⟩
  show _ ∨ (!w.params.followText "set-order") = true
  cases w.params.followText "set-order" <;> simp
open Classical in
noncomputable def addT (L : List Str) (x : Str) : List Str := if x ∈ L then L else x :: L
/-- what is stored, laid anew where it is too full -/
theorem tset_store {g : Bool → Sem Unit} (hg : ∀ (b : Bool) (s₁ : Shared) (Q' : Unit → Shared → Prop), Q' () s₁ → wpAny (model P w) A (g b) Q' E s₁) {o : Obj} {es es1 : Array (Int × Value)} {ep : Nat} {t t2 : SetTable}
    (ho : s.heap.get? a = some o) (hex : o.ExactSet) (hd : o.data = .set es ep t) (g1 : ∀ e ∈ es1.toList, TxtEl w e) (pm : (es1.toList.map txtOf).Perm L) (nd : L.Nodup) (l64 : L.length < 64) (hf : t2.fits es1.size = true) (hr : Ris t2.place.toList)
    (hl : w.params.followText "set-order" = true ∨ t2.led = true) {wd : Bool} {R : Option Bool → Shared → Prop} (k : ∀ h', Heap.SameBut a s.heap h' → TSet w a L h' → R (some true) { s with heap := h' }) :
    wpAny (model P w) A (do
        storeSet a es1 t2
        if (!wd && t2.tooFull) = true then do
            g (relayAll t2 es1 (SetTable.grown es1.size)).2.2
            storeSet a (relayAll t2 es1 (SetTable.grown es1.size)).1 (relayAll t2 es1 (SetTable.grown es1.size)).2.1
            pure (some true)
          else pure (some true)) R E s := by
  have sz1 : es1.size = L.length := by rw [← pm.length_eq, List.length_map, Array.length_toList]
  have small1 : es1.size < scanBound := by unfold scanBound; omega
  refine wpAny_bind (wpAny_storeSet_of ho hd ?_ (fits_of_scanBound small1))
  have ho1 := store_at (es' := es1) (t' := t2) ho hd
  have sb1 := Heap.SameBut.update s.heap a (Obj.putSet es1 t2)
  split
  · have q1 := relayAll_perm t2 es1 (SetTable.grown es1.size)
    have q2 := relayAll_fits t2 es1 (SetTable.grown es1.size)
    have q3 := relayAll_ris t2 es1 (SetTable.grown es1.size)
    have q4 := relayAll_led t2 es1 (SetTable.grown es1.size)
    generalize relayAll t2 es1 (SetTable.grown es1.size) = Z at q1 q2 q3 q4 ⊢
    obtain ⟨es2, t3, gave⟩ := Z
    dsimp only at q1 q2 q3 q4 ⊢
    have sz2 : es2.size = es1.size := by rw [← Array.length_toList, q1.length_eq, Array.length_toList]
    refine wpAny_bind (hg _ _ _ ?_)
    refine wpAny_bind (wpAny_storeSet_of ho1 rfl ?_ (fits_of_scanBound (by rw [sz2]; exact small1)))
    have ho2 := store_at (es' := es2) (t' := t3) ho1 rfl
    exact wpAny_pure (k _ (sb1.trans (Heap.SameBut.update _ a _)) ⟨_, es2, _, t3, ho2, hex, rfl, fun e he => g1 e (q1.mem_iff.mp he), (q1.map txtOf).trans pm, nd, l64, q2, q3, hl.imp id fun z => by rw [q4]; exact z⟩)
  · exact wpAny_pure (k _ sb1 ⟨_, es1, _, t2, ho1, hex, rfl, g1, pm, nd, l64, hf, hr, hl⟩)
theorem tset_add {x : Str} {tk : Tok} {Q : Bool → Shared → Prop} (R : TSet w a L s.heap) (room : L.length + 1 < 64) (q : ∀ b h', Heap.SameBut a s.heap h' → TSet w a (addT L x) h' → Q b { s with heap := h' }) :
    wpAny (model P w) A (setAddHashed a (.str x tk) (hashStr w x)) Q E s := by
  obtain ⟨o, es, ep, t, ho, hex, hd, g, pm, nd, l64, hf, hr, hl⟩ := R
  have sz : es.size = L.length := by rw [← pm.length_eq, List.length_map, Array.length_toList]
  have hb : es.size < scanBound := by unfold scanBound; omega
  have hsc : (Value.str x tk).scannable = true := rfl
  have hel : ElemsOf (PySem.strKind P w) es.toList := txt_elems g
  have hkey := PySem.strKind_is P w x tk
  unfold setAddHashed setAddHashedIn
  refine wpAny_holding (wpAny_bind (wpAny_setState_of ho hd hf ?_))
  dsimp only
  rw [byScan_of hsc hb hel]
  simp only [↓reduceIte]
  unfold setAddByScan
  refine wpAny_bind (wpAny_bind (wpAny_rule ?_))
  refine wpAny_bind (wpAny_setScan_of (knd := PySem.strKind P w) hkey ho hd hf hel ?_)
  have mem : x ∈ L ↔ ∃ e ∈ es.toList, (PySem.strKind P w).is x e.2 = true := by
    rw [← pm.mem_iff, List.mem_map]
    exact ⟨fun ⟨e, he, z⟩ => ⟨e, he, ((g e he).is x).mpr z⟩, fun ⟨e, he, z⟩ => ⟨e, he, ((g e he).is x).mp z⟩⟩
  cases hfi : List.findIdx? (fun e => (PySem.strKind P w).is x e.2) es.toList with
  | some j =>
    dsimp only
    obtain ⟨hj, pj, _⟩ := List.findIdx?_eq_some_iff_getElem.mp hfi
    have hx : x ∈ L := mem.mpr ⟨es.toList[j], List.getElem_mem hj, pj⟩
    refine wpAny_pure (wpAny_pure (q _ s.heap (Heap.SameBut.refl a s.heap) ?_))
    unfold addT
    rw [if_pos hx]
    exact ⟨o, es, ep, t, ho, hex, hd, g, pm, nd, l64, hf, hr, hl⟩
  | none =>
    dsimp only
    have hx : x ∉ L := fun z => by
      obtain ⟨e, he, w⟩ := mem.mp z
      have c := List.findIdx?_eq_none_iff.mp hfi e he
      rw [w] at c
      cases c
    have hgw : ∀ (b : Bool) {s₁ : Shared} {Q' : Unit → Shared → Prop}, Q' () s₁ → wpAny (model P w) A (match b with | true => rule "set.scan.the-table-gave-way" | false => pure ()) Q' E s₁ :=
      fun b s₁ Q' q => by cases b <;> first | exact wpAny_pure q | exact wpAny_rule q
    have p1 := layNew_perm t es (hashStr w x) (.str x tk)
    have p2 := layNew_fits t es (hashStr w x) (.str x tk)
    have p3 := layNew_ris t es (hashStr w x) (.str x tk) hr
    have p4 := layNew_led t es (hashStr w x) (.str x tk)
    generalize layNew t es (hashStr w x) (.str x tk) = Z at p1 p2 p3 p4 ⊢
    obtain ⟨es1, t1, wd, gave⟩ := Z
    dsimp only at p1 p2 p3 p4 ⊢
    rw [Array.toList_push] at p1
    have pc : es1.toList.Perm ((hashStr w x, Value.str x tk) :: es.toList) := p1.trans (List.perm_append_singleton _ _)
    have g1 : ∀ e ∈ es1.toList, TxtEl w e := fun e he => by
      rcases List.mem_cons.mp (pc.mem_iff.mp he) with z | z
      · rw [z]; exact ⟨x, tk, rfl, rfl⟩
      · exact g e z
    have pm1 : (es1.toList.map txtOf).Perm (x :: L) := (pc.map txtOf).trans (pm.cons _)
    have nd1 : (x :: L).Nodup := List.nodup_cons.mpr ⟨hx, nd⟩
    have hled : w.params.followText "set-order" = true ∨ t1.led = true := hl.imp id fun z => by rw [p4]; exact z
    have ea : addT L x = x :: L := by unfold addT; rw [if_neg hx]
    have fin : ∀ h', Heap.SameBut a s.heap h' → TSet w a (x :: L) h' → Q true { s with heap := h' } := fun h' sb r => q true h' sb (by rw [ea]; exact r)
    refine wpAny_bind (hgw _ ?_)
    split
    · refine wpAny_bind ?_
      rw [hashByValue_scannable 8 hsc]
      refine wpAny_pure ?_
      refine tset_store ?_ ho hex hd g1 pm1 nd1 (by rw [List.length_cons]; exact room) ?_ ?_ ?_ ?_
      · intro b s₁ Q' q; cases b <;> first | exact wpAny_pure q | exact wpAny_rule q
      · first | (split <;> first | exact p2 | exact SetTable.fits_plain_off p2) | exact p2
      · first | (split <;> exact p3) | exact p3
      · first | (split <;> exact hled) | exact hled
      · intro h' sb r; dsimp only; exact wpAny_pure (fin h' sb r)
    · refine wpAny_bind (wpAny_pure ?_)
      simp only [↓reduceIte]
      refine tset_store ?_ ho hex hd g1 pm1 nd1 (by rw [List.length_cons]; exact room) p2 p3 hled ?_
      · intro b s₁ Q' q; cases b <;> first | exact wpAny_pure q | exact wpAny_rule q
      · intro h' sb r; dsimp only; exact wpAny_pure (fin h' sb r)
end
end DL

/-! {x for .. in .. if ..} of texts, put in order. -/
namespace DL
open PySem PySem.Spec PyProof.Rows L2
open Evl (Ex ex_l ex_t)
open PySem.W (EachIs AllAlike Sortable SortsAt sortVals sortLe keyToks dataKind)
variable [TheW]
def emS (elt : Expr) (acc : Value) (env : Env) : Sem Unit := do
  let v ← eval elt env
  standAt elt.pos
  let _ ← call (.builtin "set.add") [acc, v]
theorem turnS0 {elt t0 i0 : Expr} {f0 : List Expr} {scope : Scope} {pos : Pos} {it acc : Value} {env : Env} : compTurn (.SetComp elt [⟨t0, i0, f0, 0⟩] scope pos) 0 it acc env =
    oneTurn t0 f0 i0.pos env it (emOut (emS elt acc env)) (again (.compLoop (.SetComp elt [⟨t0, i0, f0, 0⟩] scope pos) 0 it acc env)) := by rfl
theorem inPlace_set {P : Program} {w : World} {elt : Expr} {gs : List Comprehension} {scope : Scope} {pos : Pos} : InPlace P w (.SetComp elt gs scope pos) := ⟨fun _ _ _ _ => rfl, fun _ _ _ _ _ => rfl, fun _ _ _ _ => rfl, fun _ _ _ _ _ => rfl, fun _ _ _ _ => rfl⟩
/-- x put to the set -/
def putTx (w : World) (te : TE) (D : Addr) : TPut := fun σ H N => te σ H fun y H1 => ∃ x L, y = .str x ∧ H1 D = some (HTxt w D L) ∧ L.length + 1 < 64 ∧ N (upd H1 D (HTxt w D (addT L x)))
section
variable {X : Cx} {pins : List (Addr × Obj)} {σ : L2.St} {H : Hp} {s : Shared}
theorem call_addT {D : Addr} {L : List Str} {x : Str} {u : Value} {E : Value → Shared → Prop} {Q : Value → Shared → Prop} (I : Inv X pins σ H s) (hD : H D = some (HTxt X.w D L)) (room : L.length + 1 < 64) (r : RelV (.str x) u)
    (q : ∀ s', Inv X pins σ (upd H D (HTxt X.w D (addT L x))) s' → Q .none s') : wpAny (model X.prog X.w) X.A (call (.builtin "set.add") [.ref D, u]) Q E s := by
  have R : TSet X.w D L s.heap := (show ObjOk X.prog X.w H s.heap D (HTxt X.w D L) from I.hok D _ hD).1
  obtain ⟨tk, rfl⟩ := r
  have ty : s.TypeIs (.ref D) "set" := by
    obtain ⟨o, es, ep, t, ho, hex, _⟩ := R
    exact ⟨o, ho, hex.1⟩
  refine wpAny_call_entry F.slot_set_add ty F.entry_set_add ?_ (F.args_set_add_2 _ _)
  unfold Builtin.«set.add» Builtin.Frozenset.oneOther
  simp only [List.isEmpty_nil, bind_assoc]
  unfold Builtin.Frozenset.addrOf setAdd
  refine wpAny_bind (wpAny_pure ?_)
  try dsimp only
  refine wpAny_bind (wpAny_pure ?_)
  try dsimp only
  refine wpAny_bind (wpAny_holding ?_)
  refine wpAny_bind ((PySem.strKind X.prog X.w).pyHash (PySem.strKind_is X.prog X.w x tk) ?_)
  refine tset_add (s := { s with toks := s.toks + 1 }) R room fun b h' sb r => ?_
  show wpAny _ _ (ret Value.none) _ _ _
  have he : ∃ o, h'.get? D = some o := let ⟨o, _, _, _, ho, _⟩ := r; ⟨o, ho⟩
  exact wpAny_pure ⟨_, rfl, q _ (I.write (e := D) (t' := s.toks + 1) (by rw [hD]; exact True.intro) (.inl rfl) (fun b u hb hu => (sb.2 b hb).trans hu) he r.obj)⟩
theorem pm_T {Y : Cx} {elt : Expr} {te : TE} {D : Addr} (hx : Y.xe = fun _ _ => False) (h1 : PE Y elt te) : PM Y (emOut (emS elt (.ref D) Y.env)) (putTx Y.w te D) [] := by
  refine ⟨fun pins s σ H N I h => Puts.out ?_⟩
  unfold emS
  have k1 := h1.run pins s σ H _ I h
  rw [hx] at k1
  refine wpAny_bind (thnF k1 fun u s1 ⟨y, H1, I1, r1, x, L, ey, hD, room, nx⟩ => ?_)
  subst ey
  refine wpAny_bind (wpAny_standAt (wpAny_bind ?_))
  exact call_addT I1 hD room r1 fun s2 I2 => wpAny_pure ⟨_, I2, nx⟩
theorem pe_scT {elt t0 i0 : Expr} {f0 : List Expr} {scope : Scope} {own : List (Str × Nat)} {pos : Pos} {wi : TI} {g : TG} {tt : TT} {te : TE} (hc : X.calm = true) (hN : X.N.Nodup) (hi : PI X t0 i0 wi) (ok : BlkOk X.N X.env.scope scope own)
    (hg : InBlk X scope fun Y => PG Y t0 g) (ht : InBlk X scope fun Y => PTs Y f0 tt) (he : InBlk X scope fun Y => PE Y elt te) (hs : ∀ x, foldedSetIterable i0 X.env x = pure x := by intro _; rfl) :
    PE X (.SetComp elt [⟨t0, i0, f0, 0⟩] scope pos) (tC2f wi g tt (putTx X.w te) (fun D => HTxt X.w D []) (own.map (·.2))) := by
  refine ⟨fun pins s σ H Q I h => ?_⟩
  show wpAny _ _ (comprehension (.SetComp elt [⟨t0, i0, f0, 0⟩] scope pos) scope X.env _ (newSet (.type "set")) false (eval i0 X.env)) _ _ _
  exact core2 (u0 := fun D => HTxt X.w D []) (em := fun D env => emOut (emS elt (.ref D) env)) (ob := set0 X.w) hc hN I hi ok inPlace_set rfl (fun E s Q q => PpSet.newSet_ok q) rfl (fun s H σ I => (TSet.new X.w).obj) (fun it D env => turnS0) hg ht
    (fun D s' H' C cl fp => pm_T rfl (he _ _ _ _ fp)) (vE := []) (fun _ z => nomatch z) hs h fun D C s' m H' I' q hn f => post_of I' q hn f
/-- sorted of a set of texts -/
def rSortedT (w : World) : List V → Hp → VK → Prop := fun vs H Q => ∃ (a : Addr) (L : List Str), vs = [.ref a] ∧ H a = some (HTxt w a L) ∧ ∀ (ys : List V) (L' : List Str) (p : Addr), L'.Perm L → EachIs (fun v d => ∃ x, v = V.str x ∧ d = PyData.str x) ys (sortD (L'.map .str)) → H p = none → Q (.ref p) (upd H p (.lst ys))
/-- a text and itself -/
def TxtIs (v : V) (d : PyData) : Prop := ∃ x, v = V.str x ∧ d = PyData.str x
theorem txts_of : ∀ {vs : List V} {ds : List PyData}, EachIs TxtIs vs ds → ∃ L : List Str, ds = L.map .str ∧ vs = L.map .str
  | _, _, .nil => ⟨[], rfl, rfl⟩
  | _, _, .cons ⟨x, h1, h2⟩ t => by
    obtain ⟨L, e1, e2⟩ := txts_of t
    exact ⟨x :: L, by rw [h2, e1]; rfl, by rw [h1, e2]; rfl⟩
theorem strs_perm {L : List Str} : ∀ {es : List PyData}, es.Perm (L.map PyData.str) → ∃ L' : List Str, es = L'.map PyData.str ∧ L'.Perm L := by
  intro es pm
  let un : PyData → Str := fun d => match d with | .str x => x | _ => ⟨#[]⟩
  have e : ∀ d ∈ es, d = .str (un d) := fun d hd => by
    obtain ⟨x, _, rfl⟩ := List.mem_map.mp (pm.mem_iff.mp hd)
    rfl
  refine ⟨es.map un, ?_, ?_⟩
  · rw [List.map_map]
    exact (List.map_id _).symm.trans (List.map_congr_left fun d hd => e d hd)
  · have := pm.map un
    rw [List.map_map] at this
    exact this.trans (by rw [show L.map (un ∘ PyData.str) = L from (List.map_congr_left fun _ _ => rfl).trans (List.map_id _)])
theorem cr_sortedT (hcalm : X.calm = true) (hu : X.A.units + 64 < cLine) : CallR X (.builtin "sorted") (rSortedT X.w) := by
  intro pins s σ H vs us Q I r h
  obtain ⟨a, L, rfl, hh, q⟩ := h
  obtain ⟨u, rfl, ru⟩ := vals1 r
  obtain rfl : u = Value.ref a := ru
  have R : TSet X.w a L s.heap := (show ObjOk X.prog X.w H s.heap a (HTxt X.w a L) from I.hok a _ hh).1
  obtain ⟨o, es, ep, t, ho, hex, hd, g, pmL, nd, l64, hf, hr, hl⟩ := R
  have len : es.size = L.length := by rw [← pmL.length_eq, List.length_map, Array.length_toList]
  refine Calls.call_function_entry PyProof.Rows.kind_sorted PyProof.Rows.plain_sorted PyProof.Rows.entry_sorted (PyProof.Rows.args_sorted1 _) ?_
  unfold Builtin.«sorted»
  refine wpAny_bind (m := checkCount "sorted" 1 1 _) (wpAny_pure ?_)
  refine wpAny_bind (collect_set (A := X.A.in1) (I.ok.hd hcalm) ⟨o, ho, hex.1, hd⟩ hf (by unfold scanBound; omega) hr hl fun s1 out hkp hz hg hos pm => ?_)
  have I1 : Inv X pins σ H s1 := I.call' (ch := []) hos (Un.kept hkp) (I.hok.kept hkp) (by rw [hg]; exact I.bare) (fun _ z => nomatch z)
  have e1 : ∀ {l : List (Int × Value)}, (∀ e ∈ l, TxtEl X.w e) → EachIs (fun u d => ∃ x, RelV x u ∧ TxtIs x d) (l.map (·.2)) ((l.map txtOf).map .str) := by
    intro l
    induction l with
    | nil => exact fun _ => .nil
    | cons e l ih =>
      intro h
      obtain ⟨x, tk, h1, _⟩ := h e (List.mem_cons_self ..)
      refine .cons ⟨.str x, ?_, x, rfl, ?_⟩ (ih fun e he => h e (List.mem_cons_of_mem _ he))
      · show RelV (.str x) e.2
        rw [h1]; exact ⟨tk, rfl⟩
      · show PyData.str (txtOf e) = _
        unfold txtOf; rw [h1]
  obtain ⟨es2, pe, e0⟩ := each_perm pm (e1 g)
  obtain ⟨L', rfl, pl⟩ := strs_perm pe
  have pl := pl.trans pmL
  have at_ : ∀ d ∈ L'.map PyData.str, ∃ x, d = .str x := fun d hd => let ⟨x, _, e⟩ := List.mem_map.mp hd; ⟨x, e.symm⟩
  have hal2 : AllAlike (L'.map PyData.str) := fun d hd d' hd' => by
    obtain ⟨x, rfl⟩ := at_ d hd
    obtain ⟨y, rfl⟩ := at_ d' hd'
    rfl
  have hs2 : Sortable (L'.map PyData.str) := .inr fun d hd => by
    obtain ⟨x, rfl⟩ := at_ d hd
    exact ⟨fun z => (by cases z), fun xs z => (by cases z)⟩
  have hlen : out.length ≤ sizeLine := by rw [pm.length_eq, List.length_map, Array.length_toList, sizeLine_eq]; omega
  refine wpAny_bind (wpAny_newList ?_ hlen)
  have hoL : (s1.heap.push (seqObj "list" out.toArray 0)).get? s1.heap.objs.size = some (seqObj "list" out.toArray 0) := Heap.get?_push_size _ rfl
  have eR : EachIs (fun v d => ∃ as, Reads (PySem.W.sortingHeap (s1.heap.push (seqObj "list" out.toArray 0)) s1.heap.objs.size out) v d as) out (L'.map .str) := e0.mono fun v d ⟨x, rx, y, ex, ed⟩ => by
    subst ex ed
    obtain ⟨as, rr⟩ := ((Rep.str (K := X.K) (S := H) y).rd I1 rx).reads
    exact ⟨as, Reads.keeps (fun b o e => PySem.W.sortingHeap_old (Nat.ne_of_lt (Heap.lt_size e)) (Heap.get?_push_of_some _ e)) rr⟩
  show wpAny _ _ _ _ _ { s1 with heap := s1.heap.push (seqObj "list" out.toArray 0) }
  refine wpAny_bind (wpAny_holding (wpAny_call_entry PyProof.Rows.slot_list_sort ⟨_, hoL, rfl⟩ PyProof.Rows.entry_list_sort
    (PySem.W.list_sort_vals (s := { s1 with heap := s1.heap.push (seqObj "list" out.toArray 0) }) hoL (SortsAt.data eR hal2 hs2 fun d hm => ?_) hlen ⟨_, rfl, ?_⟩)
    (PyProof.Rows.args_list_sort _)))
  · obtain ⟨x, rfl⟩ := at_ d hm
    show X.A.units + 1 + 1 + (PyData.str x).depth < cLine
    simp only [PyData.depth]
    omega
  · have hkey : EachIs (fun v d => (dataKind (PySem.W.sortingHeap (s1.heap.push (seqObj "list" out.toArray 0)) s1.heap.objs.size out) (L'.map .str)).keyOf v = some (keyToks d)) out (L'.map .str) :=
      (PySem.W.each_mem eR).mono fun v d ⟨⟨as, h⟩, hm⟩ => PySem.W.dataKind_some hal2 hm h
    have e2 := PySem.W.sortVals_each (κ := dataKind (PySem.W.sortingHeap (s1.heap.push (seqObj "list" out.toArray 0)) s1.heap.objs.size out) (L'.map .str)) (rev := false) keyToks e0 hkey
    obtain ⟨ys, ry, ey⟩ := back_pairs e2
    obtain ⟨ep', he'⟩ := PyProof.Rows.sortedHeap_at (vs := out) (out := (sortVals (dataKind (PySem.W.sortingHeap (s1.heap.push (seqObj "list" out.toArray 0)) s1.heap.objs.size out) (L'.map .str)) false out out).toArray) hoL
    refine wpAny_pure ⟨_, rfl, .ref s1.heap.objs.size, upd H s1.heap.objs.size (.lst ys), I1.laid (t' := s1.toks) (fun b u e => ?_) (Nat.le_refl _) (show ObjOk X.prog X.w _ _ _ (.lst ys) from ⟨?_, _, ep', ry, he'⟩), rfl, q ys L' _ pl ey (I1.hok.fresh (Nat.le_refl _))⟩
    · have hb : b < s1.heap.objs.size := Heap.lt_size e
      rw [PyProof.Rows.sortedHeap_old (Nat.ne_of_lt hb) (by rw [size_push']; exact Nat.lt_succ_of_lt hb)]
      exact Heap.get?_push_of_some _ e
    · have l1 := ey.length
      unfold sortD at l1
      rw [List.length_mergeSort, ← e0.length] at l1
      omega
end
/-! over data -/
section
variable {K : PySem.W.Frag} {ib : Option Nat} {b : Bg} {ti : TI} {di : DA} {g : TG} {dg : DG} {tt : TT} {dt : DT} {te : TE} {de : DE} {vs : List Nat}
/-- the set so far -/
def AcT (D : Addr) (S : Hp) (o : HO) (L : List Str) : Prop := o = HTxt TheW.w D L ∧ L.Nodup
theorem acT_keeps (D : Addr) : Keeps (AcT D) := fun _ _ _ _ _ h => h
noncomputable def dPutT (de : DE) : DPut (List Str) := fun δ acc N => acc.length + 1 < 64 ∧ de δ fun y => match y with
  | .str x => N (addT acc x)
  | _ => False
theorem addT_nd {L : List Str} (h : L.Nodup) (x : Str) : (addT L x).Nodup := by
  unfold addT
  split
  · exact h
  · rename_i c
    exact List.nodup_cons.mpr ⟨c, h⟩
theorem sim_putT (D : Addr) (h1 : SimE K ib b te de) : SimPutAt K ib b (AcT D) D (putTx TheW.w te D) (dPutT de) := by
  intro H0 S1 H1 S H σ δ acc N M o hD A h k
  obtain ⟨hz, h⟩ := h
  refine h1 H0 S H σ δ _ _ A.go.ok A.full h fun S2 H2 y dy g2 ry q => ?_
  have A2 := A.later (acT_keeps D) o hD g2
  obtain ⟨u, hu, rfl, nd⟩ := A2.ac
  split at q
  · rename_i x
    refine ⟨x, acc, ry.strV, hu, hz, k S2 _ _ ?_ (Go.ownUpd o A2.go hD A2.nS) ⟨_, upd_same, rfl, addT_nd nd x⟩ A2.nS q⟩
    rw [del_upd]
    exact go_del o hD g2 A.tr A.nS
  · exact q.elim
/-- sorted({x for .. in .. if ..}), texts -/
noncomputable def dnSetT (di : DA) (dg : DG) (dt : DT) (de : DE) (vs : List Nat) : DA := fun δ R => di δ fun xs => dWalk dg dt (dPutT de) vs δ xs [] fun L => ∀ L' : List Str, L'.Perm L → L'.Nodup → R (sortD (L'.map .str))
theorem sim_nSetT (hv : ∀ i, ib = some i → i ∉ vs) (hi : SimI K ib b ti di) (hg : SimW K ib b g dg vs) (ht : SimT K ib b tt dt) (he : SimE K ib b te de) :
    SimN K ib b (tCB (rSortedT TheW.w) (tCons (tC2f ti g tt (putTx TheW.w te) (fun D => HTxt TheW.w D []) vs) tNil)) (dnSetT di dg dt de vs) := by
  intro H0 S H σ δ R Q o e h k
  refine hi H0 S H σ δ _ _ o e h fun S1 H1 J xs g1 wk q D hD => ?_
  have o1 := g1.ok
  have gD : Go ib b S1 H1 S1 (upd H1 D (HTxt TheW.w D [])) := Go.laidOwn o1 hD
  have eD : del (upd H1 D (HTxt TheW.w D [])) D = H1 := by
    funext a
    by_cases c : a = D
    · rw [c, del_at]; exact hD.symm
    · rw [del_ne c, upd_ne c]
  have A : At K ib b (AcT D) H0 S1 H1 D S1 (upd H1 D (HTxt TheW.w D [])) σ δ [] := ⟨gD, by rw [eD]; exact e.go g1, ⟨_, upd_same, rfl, List.nodup_nil⟩, Ex.none_of o1.sub hD⟩
  refine sim_walk (t := putTx TheW.w te) (acT_keeps D) hv hg ht (sim_putT D he) o1 hD A wk q fun S' H' L a1 a2 ⟨u, hu, eu, nd⟩ a4 a5 => ?_
  subst eu
  refine ⟨D, L, rfl, hu, fun ys L' p pm hy hp => ?_⟩
  have gg := g1.trans o a2
  refine k S' _ p ys _ (gg.trans o (Go.laidOwn a2.ok hp)) upd_same (reps_of_each (fun v d ⟨x, h1, h2⟩ => by subst h1 h2; exact .str x) hy) (Ex.none_of a2.ok.sub hp) (gg.fresh o hp) (a5 L' pm (pm.nodup_iff.mpr nd))
end
end DL

/-! Dict comprehensions of one clause, lists of two; zip; get of data by texts; a dict by texts handed back. -/
namespace DL
open PySem PySem.Spec PyProof.Rows L2
open Evl (Ex ex_l ex_t)
variable [TheW]
theorem turnD00 {kx vx t0 i0 : Expr} {f0 : List Expr} {scope : Scope} {pos : Pos} {it : Value} {D : Addr} {env : Env} : compTurn (.DictComp kx vx [⟨t0, i0, f0, 0⟩] scope pos) 0 it (.ref D) env =
    oneTurn t0 f0 i0.pos env it (emOut (emD kx vx D env)) (again (.compLoop (.DictComp kx vx [⟨t0, i0, f0, 0⟩] scope pos) 0 it (.ref D) env)) := by rfl
section
variable {X : Cx}
/-- {k: v for t0 in i0 if ..} -/
theorem pe_dc1 {kx vx t0 i0 : Expr} {f0 : List Expr} {scope : Scope} {own : List (Str × Nat)} {pos : Pos} {wi : TI} {g : TG} {tt : TT} {tk tv : TE} (hc : X.calm = true) (hN : X.N.Nodup) (hi : PI X t0 i0 wi) (ok : BlkOk X.N X.env.scope scope own)
    (hg : InBlk X scope fun Y => PG Y t0 g) (ht : InBlk X scope fun Y => PTs Y f0 tt) (hkx : InBlk X scope fun Y => PE Y kx tk) (hvx : InBlk X scope fun Y => PE Y vx tv) (hs : ∀ x, foldedSetIterable i0 X.env x = pure x := by intro _; rfl) :
    PE X (.DictComp kx vx [⟨t0, i0, f0, 0⟩] scope pos) (tC2 wi g tt (putD tk tv) (.dK []) (own.map (·.2))) := by
  refine ⟨fun pins s σ H Q I h => ?_⟩
  rw [arm_eval_DictComp]
  exact core2 (u0 := fun _ => .dK []) (em := fun D env => emOut (emD kx vx D env)) (ob := { cls := .type "dict", data := .dict #[] }) hc hN I hi ok inPlace_dict rfl (fun E s Q q => wpAny_newObj_type q) rfl (fun s H σ I => dk_empty s.heap I.big) (fun it D env => turnD00) hg ht
    (fun D s' H' C cl fp => pm_D rfl (hkx _ _ _ _ fp) (hvx _ _ _ _ fp)) (vE := []) (fun _ z => nomatch z) hs h fun D C s' m H' I' q hn f => post_of I' q hn f
theorem pm_L {Y : Cx} {elt : Expr} {te : TE} {D : Addr} (hx : Y.xe = fun _ _ => False) (h1 : PE Y elt te) : PM Y (emOut (emL elt (.ref D) Y.env)) (putL te D) [] := by
  refine ⟨fun pins s σ H N I h => Puts.out ?_⟩
  unfold emL
  have k1 := h1.run pins s σ H _ I h
  rw [hx] at k1
  refine wpAny_bind (thnF k1 fun u s1 ⟨y, H1, I1, r1, acc, hD, hz, nx⟩ => ?_)
  have k2 := mt_append (X := Y) pins s1 σ H1 (.ref D) [y] (.ref D) [u] (fun v H' => v = .non ∧ N H') I1 rfl (.cons r1 .nil) ⟨D, acc, y, rfl, rfl, hD, hz, rfl, nx⟩
  rw [hx] at k2
  exact wpAny_bind (thnF k2 fun r s2 ⟨z, H2, I2, _, _, n2⟩ => wpAny_pure ⟨H2, I2, n2⟩)
/-- [x for t0 in i0 if .. for t1 in i1 if ..] -/
theorem pe_lc2 {elt t0 i0 t1 i1 : Expr} {f0 f1 : List Expr} {scope : Scope} {own : List (Str × Nat)} {pos : Pos} {wi wj : TI} {g k : TG} {tt tu : TT} {te : TE} {vs : List Nat} (hc : X.calm = true) (hN : X.N.Nodup) (hi : PI X t0 i0 wi) (ok : BlkOk X.N X.env.scope scope own)
    (hg : InBlk X scope fun Y => PG Y t0 g) (ht : InBlk X scope fun Y => PTs Y f0 tt) (hj : InBlk X scope fun Y => PI Y t1 i1 wj) (hk : InBlk X scope fun Y => PG Y t1 k) (hu : InBlk X scope fun Y => PTs Y f1 tu)
    (he : InBlk X scope fun Y => PE Y elt te) (hvs : ∀ v ∈ vs, v ∈ own.map (·.2)) (hs : ∀ x, foldedSetIterable i0 X.env x = pure x := by intro _; rfl)
    (hs1 : InBlk X scope fun Y => ∀ x, foldedSetIterable i1 Y.env x = pure x := by intro _ _ _ _ _ _; rfl) :
    PE X (.ListComp elt [⟨t0, i0, f0, 0⟩, ⟨t1, i1, f1, 0⟩] scope pos) (tC2 wi g tt (fun D => putIn2 wj k tu (putL te D) vs) (.lst []) (own.map (·.2))) := by
  refine ⟨fun pins s σ H Q I h => ?_⟩
  rw [arm_eval_ListComp]
  refine core2 (u0 := fun _ => .lst []) (em := fun D env => emIn (.ListComp elt [⟨t0, i0, f0, 0⟩, ⟨t1, i1, f1, 0⟩] scope pos) i1 (.ref D) env) (ob := seqObj "list" #[] 0) hc hN I hi ok inPlace_list rfl (fun E s Q q => ?_) rfl (fun s H σ I => ?_) (fun it D env => turnL0) hg ht
    (fun D s' H' C cl fp => pm_in rfl hc inPlace_list rfl (fun it => turnL1) (hj _ _ _ _ fp) (hk _ _ _ _ fp) (hu _ _ _ _ fp) (pm_L rfl (he _ _ _ _ fp)) (fun _ z => nomatch z) (hs1 _ _ _ _ fp)) hvs hs h fun D C s' m H' I' q hn f => post_of I' q hn f
  · exact wpAny_newList q (Nat.zero_le _)
  · exact (show ObjOk X.prog X.w _ _ _ (.lst []) from ⟨Nat.zero_le _, [], 0, .nil, Heap.get?_push_size _ rfl⟩)
end
section
variable {K : PySem.W.Frag} {ib : Option Nat} {b : Bg} {te ta tb td tk tz : TE} {de da db dd dk dz : DE}
/-- zip(x, y), x and y lists of one length -/
def pairsD (xs ys : List PyData) : List PyData := (xs.zip ys).map fun p => .tuple [p.1, p.2]
def dZip (da db : DE) : DA := fun δ R => da δ fun x => db δ fun y => match x, y with
  | .list xs, .list ys => xs.length = ys.length ∧ R (pairsD xs ys)
  | _, _ => False
theorem sim_iZip (h1 : SimE K ib b ta da) (h2 : SimE K ib b tb db) : SimI K ib b (iZip K (tCons ta (tCons tb tNil))) (dZip da db) := by
  intro H0 S H σ δ R Q o e h k
  refine h1 H0 S H σ δ _ _ o e h fun S1 H1 v dv g1 r1 q => ?_
  refine h2 H0 S1 H1 σ δ _ _ g1.ok (e.go g1) q fun S2 H2 w dw g2 r2 q => ?_
  split at q
  · rename_i xs ys _
    obtain ⟨l, q⟩ := q
    obtain ⟨p, us, rfl, hp, rx⟩ := (r1.mono g2.st).lstV
    obtain ⟨p', vs, rfl, hp', ry⟩ := r2.lstV
    refine ⟨p, p', us, vs, rfl, SqL.of (g2.ok.sub _ _ hp), SqL.of (g2.ok.sub _ _ hp'), k S2 H2 _ _ (g1.trans o g2) (fun S3 H3 ex o3 => ?_) q⟩
    have a1 : SqL K H3 p us := SqL.of (o3.sub _ _ (ex _ _ hp))
    have a2 : SqL K H3 p' vs := SqL.of (o3.sub _ _ (ex _ _ hp'))
    have lx := rx.length
    have ly := ry.length
    have lp : (pairsD xs ys).length = xs.length := by simp [pairsD, l]
    refine ⟨fun i hi => ⟨us, vs, us[i]'(by omega), vs[i]'(by omega), a1, a2, by simp, by simp⟩, ⟨us, vs, a1, a2, .inl (by omega)⟩, fun i x H' hi y => ?_⟩
    obtain ⟨T, x0, y0, rfl, hT, rfl, hx, hy⟩ := y
    obtain ⟨d1, e1, q1⟩ := rx.getV (hx us a1)
    obtain ⟨d2, e2, q2⟩ := ry.getV (hy vs a2)
    have g := Go.laid (u := .tup [x0, y0]) o3 hT
    refine ⟨_, .tuple [d1, d2], g, ?_, .tup (Evl.st_of upd_same) (.cons ((q1.mono ex).mono g.st) (.cons ((q2.mono ex).mono g.st) .nil))⟩
    unfold pairsD
    rw [List.getElem?_map, List.getElem?_zip_eq_some (z := (d1, d2)) |>.mpr ⟨e1, e2⟩]
    rfl
  · exact q.elim
/-- a dict by texts of one's own, handed back -/
def dRetK (i : Nat) : DS := fun DD δ => match δ[i]? with
  | some (some (.dct (.dk kvs))) => DD.rt (txtD kvs)
  | _ => False
theorem sim_retK {i : Nat} : SimS K ib b (tRet (tVar i)) (dRetK i) := by
  intro S0 H0 Sm S H σ δ D DD o em g e h x
  unfold dRetK at h
  split at h
  · rename_i kvs q0
    obtain ⟨p, u, hσ, hp, ⟨vs, rfl, hr⟩, hS, h0, hb, hu⟩ := e.dct i _ q0
    refine ⟨_, hσ, ?_⟩
    have gF := Go.freeze o g h0 hS hp
    exact x.rt _ H _ _ gF (em.trans (Ex.new hS)) (.txt upd_same (Paired.mapM hr fun v q _ z => ⟨z.1, z.2.mono (Ex.new hS)⟩)) h
  · exact h.elim
variable {t : Addr → TPut} {g : TG} {dg : DG} {tt : TT} {dt : DT} {ti : TI} {di : DA} {vs : List Nat}
/-- [x for .. for ..]: a list that nobody changes -/
def dL2 (di : DA) (dg : DG) (dt : DT) (P : DPut (List PyData)) (vs : List Nat) : DE := fun δ R => di δ fun xs => dWalk dg dt P vs δ xs [] fun acc => R (.list acc)
theorem sim_l2 (hv : ∀ i, ib = some i → i ∉ vs) (hi : SimI K ib b ti di) (hg : SimW K ib b g dg vs) (ht : SimT K ib b tt dt) {P : DPut (List PyData)} (hp : SimPut K ib b (AcL K) t P) : SimE K ib b (tC2 ti g tt t (.lst []) vs) (dL2 di dg dt P vs) := by
  intro H0 S H σ δ R Q o e h k
  refine hi H0 S H σ δ _ _ o e h fun S1 H1 J xs g1 wk q D hD => ?_
  have o1 := g1.ok
  have eD : del (upd H1 D (.lst [])) D = H1 := by
    funext a
    by_cases c : a = D
    · rw [c, del_at, hD]
    · rw [del_ne c, upd_ne c]
  have A : At K ib b (AcL K) H0 S1 H1 D S1 (upd H1 D (.lst [])) σ δ [] := ⟨Go.laidOwn o1 hD, by rw [eD]; exact e.go g1, ⟨_, upd_same, [], rfl, .nil⟩, Ex.none_of o1.sub hD⟩
  refine sim_walk (t := t) acL_mono hv hg ht (hp D) o1 hD A wk q fun S' H' acc' a1 a2 ⟨u, hu, ys, eu, pr⟩ a4 a5 => ?_
  subst eu
  exact k _ H' _ _ (g1.trans o (Go.freeze o1 a2 hD a4 hu)) (.lst upd_same (pr.mono (Ex.new a4))) a5
end
end DL

/-! Several names at once, the first a new list. -/
namespace DL
open PySem PySem.Spec PyProof.Rows L2
open Evl (Ex ex_l ex_t)
variable [TheW]
section
variable {K : PySem.W.Frag} {ib : Option Nat} {b : Bg} {ta tb tc : TE} {db dc : DE} {dn : DA} {H0 S H S1 H1 : Hp} {σ : L2.St} {δ : DEnv}
/-- a new list that is not yet named goes on -/
structure Fresh (K : PySem.W.Frag) (ib : Option Nat) (b : Bg) (H0 : Hp) (S H : Hp) (σ : L2.St) (δ : DEnv) (p : Addr) (es : List PyData) : Prop where
  at_ : ∃ xs, H p = some (.lst xs) ∧ Reps K S xs es
  nS : S p = none
  h0 : H0 p = none
  nb : ib ≠ none → p ≠ b.1
  un : ∀ (j : Nat) (fs : List PyData), δ[j]? = some (some (DV.own fs)) → σ[j]? ≠ some (some (V.ref p))
theorem Fresh.go {p : Addr} {es : List PyData} (f : Fresh K ib b H0 S H σ δ p es) (g : Go ib b S H S1 H1) : Fresh K ib b H0 S1 H1 σ δ p es := by
  obtain ⟨xs, h1, h2⟩ := f.at_
  exact ⟨⟨xs, g.keep p _ f.nb h1, h2.mono g.st⟩, g.new p (by rw [h1]; exact Option.some_ne_none _) f.nS, f.h0, f.nb, f.un⟩
theorem fresh_of {p : Addr} {xs : List V} {es : List PyData} (o : Okk ib b S H) (e : EnvOk K ib b H0 S H σ δ) (g : Go ib b S H S1 H1) (hp : H1 p = some (.lst xs)) (r : Reps K S1 xs es) (hS : S1 p = none) (hn : H p = none) (h0 : H0 p = none) : Fresh K ib b H0 S1 H1 σ δ p es := by
  refine ⟨⟨xs, hp, r⟩, hS, h0, fun z w => (o.bag z).tr (w ▸ hn), fun j fs a1 a2 => ?_⟩
  obtain ⟨p', xs', b1, b2, _⟩ := e.own j fs a1
  rw [b1] at a2
  rw [V.ref.inj (Option.some.inj (Option.some.inj a2)), hn] at b2
  cases b2
theorem Fresh.name {p : Addr} {es : List PyData} {i : Nat} (f : Fresh K ib b H0 S H σ δ p es) (e : EnvOk K ib b H0 S H σ δ) (hi : ib ≠ some i) : EnvOk K ib b H0 S H (σ.set i (some (V.ref p))) (δ.set i (some (.own es))) := by
  obtain ⟨xs, h1, h2⟩ := f.at_
  exact e.setOwn hi h1 h2 f.nS f.h0 f.nb fun j fs _ a1 a2 => f.un j fs a1 a2
/-- a, b = a new list, y -/
def dParO (i j : Nat) (dn : DA) (db : DE) : DS := fun DD δ => dn δ fun es => db δ fun y => DD.nx ((δ.set i (some (.own es))).set j (some (.dat y)))
theorem sim_parO {i j : Nat} (hi : ib ≠ some i) (hj : ib ≠ some j) (h1 : SimN K ib b ta dn) (h2 : SimE K ib b tb db) : SimS K ib b (tPar i j (tCons ta (tCons tb tNil))) (dParO i j dn db) := by
  intro S0 H0 Sm S H σ δ D DD o em g0 e h x
  refine h1 H0 S H σ δ _ _ g0.ok e h fun S1 H1 p xs es g1 hp rs hS hn q => ?_
  have f1 := fresh_of g0.ok e g1 hp rs hS hn (g0.fresh o hn)
  refine h2 H0 S1 H1 σ δ _ _ g1.ok (e.go g1) q fun S2 H2 v dv g2 r q2 => ?_
  have g12 := g1.trans g0.ok g2
  exact ⟨.ref p, v, rfl, x.nx S2 _ _ _ (g0.trans o g12) (em.trans g12.st) (((f1.go g2).name (e.go g12) hi).set hj r) q2⟩
/-- a, b, c = a new list, y, z -/
def dPar3O (i j l : Nat) (dn : DA) (db dc : DE) : DS := fun DD δ => dn δ fun es => db δ fun y => dc δ fun z => DD.nx (((δ.set i (some (.own es))).set j (some (.dat y))).set l (some (.dat z)))
theorem sim_par3O {i j l : Nat} (hi : ib ≠ some i) (hj : ib ≠ some j) (hl : ib ≠ some l) (h1 : SimN K ib b ta dn) (h2 : SimE K ib b tb db) (h3 : SimE K ib b tc dc) : SimS K ib b (tPar3 i j l (tCons ta (tCons tb (tCons tc tNil)))) (dPar3O i j l dn db dc) := by
  intro S0 H0 Sm S H σ δ D DD o em g0 e h x
  refine h1 H0 S H σ δ _ _ g0.ok e h fun S1 H1 p xs es g1 hp rs hS hn q => ?_
  have f1 := fresh_of g0.ok e g1 hp rs hS hn (g0.fresh o hn)
  refine h2 H0 S1 H1 σ δ _ _ g1.ok (e.go g1) q fun S2 H2 v dv g2 r q => ?_
  have g12 := g1.trans g0.ok g2
  refine h3 H0 S2 H2 σ δ _ _ g2.ok (e.go g12) q fun S3 H3 w dw g3 r3 q3 => ?_
  have g13 := g12.trans g0.ok g3
  exact ⟨.ref p, v, w, rfl, x.nx S3 _ _ _ (g0.trans o g13) (em.trans g13.st) (((((f1.go g2).go g3).name (e.go g13) hi).set hj (r.mono g3.st)).set hl r3) q3⟩
theorem sim_tup3O {i j l : Nat} (hi : ib ≠ some i) (hj : ib ≠ some j) (hl : ib ≠ some l) (h1 : SimN K ib b ta dn) (h2 : SimE K ib b tb db) (h3 : SimE K ib b tc dc) :
    SimS K ib b (tAsg (tTup (tCons ta (tCons tb (tCons tc tNil)))) (gTup K 3 (gCons (gName i) (gCons (gName j) (gCons (gName l) gNil))))) (dPar3O i j l dn db dc) := by
  intro S0 H0 Sm S H σ δ D DD o em g0 e h x
  refine h1 H0 S H σ δ _ _ g0.ok e h fun S1 H1 p xs es g1 hp rs hS hn q => ?_
  have f1 := fresh_of g0.ok e g1 hp rs hS hn (g0.fresh o hn)
  refine h2 H0 S1 H1 σ δ _ _ g1.ok (e.go g1) q fun S2 H2 v dv g2 r q2 => ?_
  have g12 := g1.trans g0.ok g2
  refine h3 H0 S2 H2 σ δ _ _ g2.ok (e.go g12) q2 fun S3 H3 w dw g3 r3 q3 => ?_
  have g13 := g12.trans g0.ok g3
  refine ⟨by show 3 ≤ sizeLine; decide, fun pt hpt => ?_⟩
  have g4 : Go ib b S3 H3 S3 (upd H3 pt (.tup [.ref p, v, w])) := Go.laidOwn g3.ok hpt
  refine ⟨pt, _, rfl, .inl (.inl upd_same), rfl, _, _, rfl, _, _, rfl, _, _, rfl, rfl, ?_⟩
  have g14 := g13.trans g0.ok g4
  exact x.nx S3 _ _ _ (g0.trans o g14) (em.trans g13.st) (((((f1.go g2).go g3).go g4).name (e.go g14) hi |>.set hj (r.mono g3.st)).set hl r3) q3
theorem sim_tupO {i j : Nat} (hi : ib ≠ some i) (hj : ib ≠ some j) (h1 : SimN K ib b ta dn) (h2 : SimE K ib b tb db) :
    SimS K ib b (tAsg (tTup (tCons ta (tCons tb tNil))) (gTup K 2 (gCons (gName i) (gCons (gName j) gNil)))) (dParO i j dn db) := by
  intro S0 H0 Sm S H σ δ D DD o em g0 e h x
  refine h1 H0 S H σ δ _ _ g0.ok e h fun S1 H1 p xs es g1 hp rs hS hn q => ?_
  have f1 := fresh_of g0.ok e g1 hp rs hS hn (g0.fresh o hn)
  refine h2 H0 S1 H1 σ δ _ _ g1.ok (e.go g1) q fun S2 H2 v dv g2 r q2 => ?_
  have g12 := g1.trans g0.ok g2
  refine ⟨by show 2 ≤ sizeLine; decide, fun pt hpt => ?_⟩
  have g4 : Go ib b S2 H2 S2 (upd H2 pt (.tup [.ref p, v])) := Go.laidOwn g2.ok hpt
  refine ⟨pt, _, rfl, .inl (.inl upd_same), rfl, _, _, rfl, _, _, rfl, rfl, ?_⟩
  have g14 := g12.trans g0.ok g4
  exact x.nx S2 _ _ _ (g0.trans o g14) (em.trans g12.st) (((f1.go g2).go g4).name (e.go g14) hi |>.set hj r) q2
end
end DL

/-! Two new lists in a list, looked at, then changed. -/
namespace DL
open PySem PySem.Spec PyProof.Rows L2
open Evl (Ex ex_l ex_t)
variable [TheW]
def tTwo (K : PySem.W.Frag) (i j : Nat) (t1 t2 te : TE) (tt : TT) (tr : TE) (w0 w1 : V) : TS := tSeq (tAsg (tLst (tCons t1 (tCons t2 tNil))) (gName i)) (tSeq (tAsg te (gName j)) (tSeq (tIfS tt (tRet tr) tNext)
  (tSeq (tDrop (tBM K "list" rAppend (tOp (rIx K) (tVar i) (tC (.int 0))) (tCons (tC w0) tNil))) (tDrop (tBM K "list" rAppend (tOp (rIx K) (tVar i) (tC (.int 1))) (tCons (tC w1) tNil))))))
/-- x = [f(..), g(..)]; y = e; if t: return r; x[0].append(..); x[1].append(..): x and y are not looked at again -/
def dTwo (i j : Nat) (d1 d2 : DA) (de : DE) (dt : DT) (dr : DE) : DS := fun DD δ => d1 δ fun xs => d2 δ fun ys => small (xs.length + 1) = true ∧ small (ys.length + 1) = true ∧ i < δ.length ∧
  de (δ.set i (some (.dat (.list [.list xs, .list ys])))) fun y => dt ((δ.set i (some (.dat (.list [.list xs, .list ys])))).set j (some (.dat y))) fun c =>
    if c = true then dr ((δ.set i (some (.dat (.list [.list xs, .list ys])))).set j (some (.dat y))) DD.rt else DD.nx ((δ.set i none).set j none)
section
variable {K : PySem.W.Frag} {ib : Option Nat} {b : Bg} {t1 t2 te tr : TE} {d1 d2 : DA} {de dr : DE} {tt : TT} {dt : DT} {w0 w1 : V}
theorem sim_two {i j : Nat} (hi : ib ≠ some i) (hj : ib ≠ some j) (hij : i ≠ j) (h1 : SimN K ib b t1 d1) (h2 : SimN K ib b t2 d2) (h3 : SimE K ib b te de) (h4 : SimT K ib b tt dt) (h5 : SimE K ib b tr dr) : SimS K ib b (tTwo K i j t1 t2 te tt tr w0 w1) (dTwo i j d1 d2 de dt dr) := by
  intro S0 H0 Sm S H σ δ D DD o em g0 e h x
  have oS := g0.ok
  refine h1 H0 S H σ δ _ _ oS e h fun S1 H1 q0 xs0 es0 g1 hq0 r0 nS0 n0 h => ?_
  refine h2 H0 S1 H1 σ δ _ _ g1.ok (e.go g1) h fun S2 H2 q1 xs1 es1 g2 hq1 r1 nS1 n1 h => ?_
  obtain ⟨z0, z1, zi, h⟩ := h
  have nb0 : ib ≠ none → q0 ≠ b.1 := fun z w => (oS.bag z).tr (w ▸ n0)
  have hq0' : H2 q0 = some (.lst xs0) := g2.keep q0 _ nb0 hq0
  have nS0' : S2 q0 = none := g2.new q0 (by rw [hq0]; exact Option.some_ne_none _) nS0
  have q01 : q0 ≠ q1 := fun w => by rw [← w, hq0] at n1; cases n1
  have g12 := g1.trans oS g2
  have n1' : H q1 = none := g1.fresh oS n1
  refine ⟨by show 2 ≤ sizeLine; decide, fun p hp => ?_⟩
  have pq0 : p ≠ q0 := fun w => by rw [w, hq0'] at hp; cases hp
  have pq1 : p ≠ q1 := fun w => by rw [w, hq1] at hp; cases hp
  have nSp : S2 p = none := Ex.none_of g2.ok.sub hp
  -- all three stand still
  have gp : Go ib b S2 H2 S2 (upd H2 p (.lst [.ref q0, .ref q1])) := Go.laidOwn g2.ok hp
  have gs : Go ib b S H S2 (upd H2 p (.lst [.ref q0, .ref q1])) := g12.trans oS gp
  have np : H p = none := g12.fresh oS hp
  have f1 := Go.freeze oS gs n0 nS0' (u := .lst xs0) (by rw [upd_ne (Ne.symm pq0)]; exact hq0')
  have f2 := Go.freeze oS f1 n1' (u := .lst xs1) (by rw [upd_ne (Ne.symm q01)]; exact nS1) (by rw [upd_ne (Ne.symm pq1)]; exact hq1)
  have f3 := Go.freeze oS f2 np (u := .lst [.ref q0, .ref q1]) (by rw [upd_ne pq1, upd_ne pq0]; exact nSp) upd_same
  have ex3 : Ex S2 (upd (upd (upd S2 q0 (.lst xs0)) q1 (.lst xs1)) p (.lst [.ref q0, .ref q1])) :=
    (Ex.new nS0').trans ((Ex.new (by rw [upd_ne (Ne.symm q01)]; exact nS1)).trans (Ex.new (by rw [upd_ne pq1, upd_ne pq0]; exact nSp)))
  have a0 : (upd (upd (upd S2 q0 (.lst xs0)) q1 (.lst xs1)) p (.lst [.ref q0, .ref q1])) q0 = some (.lst xs0) := by rw [upd_ne (Ne.symm pq0), upd_ne q01]; exact upd_same
  have a1 : (upd (upd (upd S2 q0 (.lst xs0)) q1 (.lst xs1)) p (.lst [.ref q0, .ref q1])) q1 = some (.lst xs1) := by rw [upd_ne (Ne.symm pq1)]; exact upd_same
  have ap : (upd (upd (upd S2 q0 (.lst xs0)) q1 (.lst xs1)) p (.lst [.ref q0, .ref q1])) p = some (.lst [.ref q0, .ref q1]) := upd_same
  have off3 : ∀ a, a ≠ q0 → a ≠ q1 → a ≠ p → (upd (upd (upd S2 q0 (.lst xs0)) q1 (.lst xs1)) p (.lst [.ref q0, .ref q1])) a = S2 a := fun a n1 n2 n3 => by rw [upd_ne n3, upd_ne n2, upd_ne n1]
  generalize upd (upd (upd S2 q0 (.lst xs0)) q1 (.lst xs1)) p (.lst [.ref q0, .ref q1]) = S3 at f3 ex3 a0 a1 ap off3
  have o3 := f3.ok
  have rp : Rep K S3 (.ref p) (.list [.list es0, .list es1]) := .lst ap (.cons (.lst a0 ((r0.mono g2.st).mono ex3)) (.cons (.lst a1 (r1.mono ex3)) .nil))
  have e3 : EnvOk K ib b H0 S3 (upd H2 p (.lst [.ref q0, .ref q1])) (σ.set i (some (.ref p))) (δ.set i (some (.dat (.list [.list es0, .list es1])))) := (e.go f3).set hi rp
  refine h3 H0 S3 _ _ _ _ _ o3 e3 h fun S4 H4 v dv g4 rv h => ?_
  have e4 := (e3.go g4).set hj rv
  refine h4 H0 S4 H4 _ _ _ _ g4.ok e4 h fun S5 H5 c g5 h => ?_
  have g45 := g4.trans o3 g5
  have gS5 := f3.trans oS g45
  cases c with
  | true =>
    rw [if_pos rfl] at h ⊢
    exact h5 H0 S5 H5 _ _ _ _ g5.ok (e4.go g5) h fun S6 H6 u du g6 ru k => x.rt S6 H6 u du (g0.trans o (gS5.trans oS g6)) (em.trans (gS5.st.trans g6.st)) ru k
  | false =>
    rw [if_neg Bool.false_ne_true] at h ⊢
    have m0 : H5 q0 = some (.lst xs0) := g5.ok.sub _ _ (g45.st _ _ a0)
    have m1 : H5 q1 = some (.lst xs1) := g5.ok.sub _ _ (g45.st _ _ a1)
    have mp : H5 p = some (.lst [.ref q0, .ref q1]) := g5.ok.sub _ _ (g45.st _ _ ap)
    have li : i < σ.length := by rw [e.len]; exact zi
    have si : ((σ.set i (some (V.ref p))).set j (some v))[i]? = some (some (V.ref p)) := by
      rw [List.getElem?_set_ne (Ne.symm hij), List.getElem?_set_self li]
    have l0 := r0.length
    have l1 := r1.length
    refine ⟨_, si, .inl ⟨p, _, 0, .ref q0, rfl, rfl, SqL.of mp, rfl, .inl ⟨rfl, xs0, SqL.of m0⟩, q0, xs0, w0, rfl, rfl, m0, by rw [l0]; exact small_lt z0, ?_⟩⟩
    refine ⟨_, si, .inl ⟨p, _, 1, .ref q1, rfl, rfl, SqL.of (by rw [upd_ne pq0]; exact mp), rfl, .inl ⟨rfl, xs1, SqL.of (by rw [upd_ne (Ne.symm q01)]; exact m1)⟩, q1, xs1, w1, rfl, rfl, by rw [upd_ne (Ne.symm q01)]; exact m1, by rw [l1]; exact small_lt z1, ?_⟩⟩
    have bq : ∀ z : ib ≠ none, ∀ a, (a = b.1 ∨ a = b.2) → a ≠ q0 ∧ a ≠ q1 := fun z a c => by
      have : H a ≠ none := by
        rcases c with rfl | rfl
        · exact (oS.bag z).tr
        · exact (oS.bag z).tr2
      exact ⟨fun w => this (w ▸ n0), fun w => this (w ▸ n1')⟩
    have gd : Go ib b S H S2 (delL H2 [q0, q1]) := by
      refine ⟨g12.st, fun a u c q => ?_, g12.new, fun a u q => ?_, g2.ok.off, fun z => (g2.ok.bag z).kept fun a u c q => ?_⟩
      · have hn : a ∉ [q0, q1] := fun w => by
          simp only [List.mem_cons, List.not_mem_nil, or_false] at w
          rcases w with rfl | rfl
          · rw [n0] at q; cases q
          · rw [n1'] at q; cases q
        rw [delL_ne hn]
        exact g12.keep a u c q
      · have hn : a ∉ [q0, q1] := fun w => by
          simp only [List.mem_cons, List.not_mem_nil, or_false] at w
          rcases w with rfl | rfl
          · rw [nS0'] at q; cases q
          · rw [nS1] at q; cases q
        rw [delL_ne hn]
        exact g2.ok.sub a u q
      · obtain ⟨c0, c1⟩ := bq z a c
        rw [delL_ne (by simp [c0, c1])]
        exact q
    have in6 : ∀ a, a ≠ q0 → a ≠ q1 → upd (upd H5 q0 (.lst (xs0 ++ [w0]))) q1 (.lst (xs1 ++ [w1])) a = H5 a := fun a c0 c1 => by rw [upd_ne c1, upd_ne c0]
    have g6 : Go ib b S2 (delL H2 [q0, q1]) (fun a => if a = q0 ∨ a = q1 ∨ a = p then none else S5 a) (upd (upd H5 q0 (.lst (xs0 ++ [w0]))) q1 (.lst (xs1 ++ [w1]))) := by
      refine ⟨fun a u q => ?_, fun a u c q => ?_, fun a hh q => ?_, fun a u q => ?_, fun z => ?_, fun z => (g5.ok.bag z).kept fun a u c q => ?_⟩
      · have hn : ¬ (a = q0 ∨ a = q1 ∨ a = p) := by
          rintro (rfl | rfl | rfl)
          · rw [nS0'] at q; cases q
          · rw [nS1] at q; cases q
          · rw [nSp] at q; cases q
        show (if a = q0 ∨ a = q1 ∨ a = p then none else S5 a) = some u
        rw [if_neg hn]
        exact g45.st a u (ex3 a u q)
      · obtain ⟨hn, q⟩ := delL_some q
        simp only [List.mem_cons, List.not_mem_nil, or_false, not_or] at hn
        have c2 : a ≠ p := fun w => by rw [w, hp] at q; cases q
        rw [in6 a hn.1 hn.2]
        exact g45.keep a u c (by rw [upd_ne c2]; exact q)
      · show (if a = q0 ∨ a = q1 ∨ a = p then none else S5 a) = none
        split
        · rfl
        · rename_i hn
          simp only [not_or] at hn
          refine g45.new a ?_ (by rw [off3 a hn.1 hn.2.1 hn.2.2]; exact q)
          rw [upd_ne hn.2.2]
          intro w
          refine hh ?_
          rw [delL_ne (by simp [hn.1, hn.2.1])]
          exact w
      · have q : (if a = q0 ∨ a = q1 ∨ a = p then none else S5 a) = some u := q
        split at q
        · cases q
        · rename_i hn
          simp only [not_or] at hn
          rw [in6 a hn.1 hn.2.1]
          exact g5.ok.sub a u q
      · show (if b.1 = q0 ∨ b.1 = q1 ∨ b.1 = p then none else S5 b.1) = none
        split
        · rfl
        · exact g5.ok.off z
      · obtain ⟨c0, c1⟩ := bq z a c
        rw [in6 a c0 c1]
        exact q
    have gg := gd.trans oS g6
    refine x.nx _ _ _ _ (g0.trans o gg) (em.trans gg.st) ((e.go gg).weak ?_ (fun k hk => ?_) fun k y hy => ?_) h
    · rw [List.length_set, List.length_set, List.length_set, List.length_set]; exact e.len
    · have ki : k ≠ i := fun w => hi (w ▸ hk)
      have kj : k ≠ j := fun w => hj (w ▸ hk)
      rw [List.getElem?_set_ne (Ne.symm kj), List.getElem?_set_ne (Ne.symm ki)]
      exact e.slot k hk
    · have get : ∀ {l : DEnv} {m : Nat}, (l.set m none)[k]? = some (some y) → k ≠ m ∧ l[k]? = some (some y) := fun {l m} q => by
        by_cases c : k = m
        · subst c
          have hl : k < l.length := by
            obtain ⟨w, _⟩ := List.getElem?_eq_some_iff.mp q
            rw [List.length_set] at w
            exact w
          rw [List.getElem?_set_self hl] at q
          cases q
        · rw [List.getElem?_set_ne (Ne.symm c)] at q
          exact ⟨c, q⟩
      obtain ⟨kj, hy⟩ := get hy
      obtain ⟨ki, hy⟩ := get hy
      exact ⟨hy, by rw [List.getElem?_set_ne (Ne.symm kj), List.getElem?_set_ne (Ne.symm ki)]⟩
end
end DL

/-! A list turned round. -/
namespace DL
open PySem PySem.Spec PyProof.Rows L2
open Evl (Ex ex_l ex_t)
variable [TheW]
theorem Reps.turned {K : PySem.W.Frag} {S : Hp} : ∀ {vs : List V} {ds : List PyData}, Reps K S vs ds → Reps K S vs.reverse ds.reverse
  | _, _, .nil => .nil
  | v :: vs, d :: ds, .cons r q => by
    rw [List.reverse_cons, List.reverse_cons]
    exact (Reps.turned q).append (.cons r .nil)
section
variable {K : PySem.W.Frag} {ib : Option Nat} {b : Bg} {te : TE} {de : DE}
/-- x[::-1], x a list -/
def dRevL (de : DE) : DE := fun δ R => de δ fun x => match x with
  | .list ds => R (.list ds.reverse)
  | _ => False
theorem sim_revL (h1 : SimE K ib b te de) : SimE K ib b (tRevL K te) (dRevL de) := by
  intro H0 S H σ δ R Q o e h k
  refine h1 H0 S H σ δ _ _ o e h fun S1 H1 v1 d1 g1 r1 q1 => ?_
  split at q1
  · obtain ⟨a, xs, rfl, hq, q⟩ := r1.lstV
    refine ⟨a, xs, rfl, SqL.of (g1.ok.sub _ _ hq), fun p hp => ?_⟩
    have g := Go.laid (u := .lst xs.reverse) g1.ok hp
    exact k _ _ _ _ (g1.trans o g) (.lst upd_same ((Reps.turned q).mono g.st)) q1
  · exact q1.elim
end
end DL

/-! x.get(k, z) of data by texts; dict(pairs) by texts; a dict display of two; `a, b = e, {}`. -/
namespace DL
open PySem PySem.Spec PyProof.Rows L2
open Evl (Ex ex_l ex_t)
variable [TheW]
/-- a dict by integers and texts, as it stands; or an empty one of any kind -/
def KHas (w : World) (H : Hp) (a : Addr) (kvs : List (Key × V)) : Prop := Rd H a (.dK kvs) ∨ kvs = [] ∧ ∃ o, H a = some (HP w a [] o)
theorem nat_mix {P : Program} {w : World} {h : Heap} {a : Addr} (n : NAt w a [] h) : (a == sysModules) = false ∧ h.DictOf (mixKind P w) a [] := by
  obtain ⟨n1, ⟨es, ep, ⟨o, ho, hx, hd⟩, n3⟩, n4, n5⟩ := n
  have n3 : es.toList = [] := n3
  have e : es = #[] := Array.toList_eq_nil_iff.mp n3
  subst e
  exact ⟨n1, o, #[], ep, ho, hx, hd, fun x hx => by simp at hx, .nil, List.nodup_nil⟩
section
variable {X : Cx} {pins : List (Addr × Obj)} {σ : L2.St} {H : Hp} {s : Shared} {a : Addr} {kvs : List (Key × V)}
theorem khas_at (hw : TheW.w = X.w) (I : Inv X pins σ H s) (h : KHas TheW.w H a kvs) : (a == sysModules) = false ∧ ∃ vs, KV kvs vs ∧ s.heap.DictOf (mixKind X.prog X.w) a vs := by
  rcases h with h | ⟨rfl, o, h⟩
  · obtain ⟨_, hd, vs, rel, dd⟩ := dk_rd I.hok h
    exact ⟨hd, vs, rel, dd⟩
  · have n : NAt X.w a [] s.heap := nhas_at I (hw ▸ .inr (.inr ⟨o, h⟩))
    obtain ⟨h1, h2⟩ := nat_mix (P := X.prog) n
    exact ⟨h1, [], .nil, h2⟩
def tGetKZ (w : World) (td ty tx : TE) : TE := fun σ H Q => td σ H fun x H1 => ∃ a, x = .ref a ∧ (∃ kvs, KHas w H1 a kvs) ∧ ty σ H1 fun y H2 => tx σ H2 fun z H3 => ∃ kvs k, KHas w H3 a kvs ∧ y = kV k ∧ Q ((valV kvs k).getD z) H3
theorem pe_getKZ {o e f : Expr} {apos cpos : Pos} {td ty tx : TE} (hw : TheW.w = X.w) (ho : PE X o td) (he : PE X e ty) (hf : PE X f tx) (m : M2 X o "get" apos e f cpos) : PE X (.Call (.Attribute o "get" apos) [e, f] [] cpos) (tGetKZ TheW.w td ty tx) := by
  refine ⟨fun pins s σ H Q I h => ?_⟩
  refine wpAny_Call_method m.base m.few m.line PySem.F.plainAttrs_dict PySem.F.slot_dict_get PySem.F.type_dict_get (thn (ho.run pins s σ H _ I h) fun u s1 ⟨x, H1, I1, rx, a, ex, ⟨kvs0, d⟩, q1⟩ => ?_)
  subst ex
  obtain rfl : u = Value.ref a := rx
  obtain ⟨hd, vs, _, dd⟩ := khas_at hw I1 d
  refine ⟨dd.typeIs, fun b q => ?_, ?_⟩
  · cases q
    obtain ⟨ob, _, _, h1, h2, _⟩ := dd
    exact ⟨ob, h1, h2.2.1⟩
  rw [m.trees]
  refine Calls.callWith_builtin rfl (Calls.evalArgs_plain (Calls.spliced_cons (thn (he.run pins s1 σ H1 _ I1 q1) fun iv s2 ⟨y, H2, I2, ry, q2⟩ =>
    Calls.spliced_cons (thn (hf.run pins s2 σ H2 _ I2 q2) fun fv s3 ⟨z, H3, I3, rz, kvs, k, hk, ey, q3⟩ => Calls.spliced_nil ?_))))
  subst ey
  obtain ⟨hd, vs, rel, dd⟩ := khas_at hw I3 hk
  refine call_meetsIn PySem.F.slot_dict_get dd.typeIs PySem.F.entry_dict_get (PySem.F.args_dict_get_3 _ _ _) (meets_dict_get_default (mixKind X.prog X.w) a (kV_is ry) hd fv) ⟨_, dd.mapOf, ?_⟩
  exact ⟨_, H3, I3.tok _, (rel.val k).getD rz, q3⟩
/-- dict(pairs) by texts and integers -/
def rDictK (K : PySem.W.Frag) : List V → Hp → VK → Prop := fun xs H Q => ∃ (a : Addr) (ps : List Addr) (kvs : List (Key × V)), xs = [.ref a] ∧ SqL K H a (ps.map V.ref) ∧ Paired (fun p kv => SqT K H p [kV kv.1, kv.2]) ps kvs ∧
    ∀ p, H p = none → Q (.ref p) (upd H p (.dK (mergeK [] kvs)))
theorem call_dictK (hc : X.calm = true) : CallR X (.type "dict") (rDictK X.K) := call_dictP hc
end
/-! over data -/
def txtKeys (kvs : List (PyData × PyData)) : Bool := kvs.all fun p => match p.1 with
  | .str _ => true
  | _ => false
def dGetKZ (dd dk dz : DE) : DE := fun δ R => dd δ fun x => match x with
  | .dict kvs => txtKeys kvs = true ∧ dk δ fun k => dz δ fun z => match k with
    | .str s => R ((getI kvs (.inr s)).getD z)
    | _ => False
  | _ => False
def pairTxt : PyData → Prop
  | .tuple [.str _, _] => True
  | _ => False
def putT2 (acc : List (Str × PyData)) : PyData → List (Str × PyData)
  | .tuple [.str x, v] => putKs acc x v
  | _ => acc
def dictTx (ps : List PyData) : List (Str × PyData) := ps.foldl putT2 []
def dDictPK : List PyData → (PyData → Prop) → Prop := fun ds R => match ds with
  | [.list ps] => (∀ p ∈ ps, pairTxt p) ∧ R (txtD (dictTx ps))
  | _ => False
def dDictK2 (dk dv dk' dv' : DE) : DE := fun δ R => dk δ fun x => dv δ fun y => dk' δ fun x' => dv' δ fun y' => match x, x' with
  | .str s, .str s' => s ≠ s' ∧ R (.dict [(.str s, y), (.str s', y')])
  | _, _ => False
def dParKD (i j : Nat) (da : DE) : DS := fun DD δ => da δ fun y => DD.nx ((δ.set i (some (.dat y))).set j (some (.dct (.dk []))))
section
variable {K : PySem.W.Frag} {ib : Option Nat} {b : Bg} {td tk tz ta tv tk' tv' : TE} {dd dk dz da dv dk' dv' : DE}
/-- a dict with texts as keys, as it stands -/
theorem dictK_cases {S : Hp} {v : V} {kvs : List (PyData × PyData)} (r : Rep K S v (.dict kvs)) (ht : txtKeys kvs = true) :
    ∃ (a : Addr) (vs : List (Key × V)) (ds : List PyData), v = .ref a ∧ kvs = (vs.map fun p => keyD p.1).zip ds ∧ KHas TheW.w S a vs ∧ Reps K S (vs.map Prod.snd) ds := by
  cases r with
  | dK hS rr => exact ⟨_, _, _, rfl, rfl, .inl (.inl hS), rr⟩
  | dF nn hS rr => exact ⟨_, _, _, rfl, rfl, .inl (.inr ⟨_, hS⟩), rr⟩
  | dN hS ek h8 q1 q2 vv =>
    rename_i xs vs ks ds od
    cases q1' : xs with
    | nil =>
      subst q1'
      cases q1
      exact ⟨_, [], [], rfl, by simp, .inr ⟨rfl, _, hS⟩, .nil⟩
    | cons x r =>
      subst q1'
      cases q1 with
      | cons r1 q1 =>
      cases ds with
      | nil =>
        cases q2
        cases vv
      | cons d ds =>
        rw [List.zip_cons_cons] at ht
        unfold txtKeys at ht
        rw [List.all_cons] at ht
        cases r1 <;> simp at ht
theorem KHas.mono {S H : Hp} (ex : Ex S H) {a : Addr} {kvs : List (Key × V)} (h : KHas TheW.w S a kvs) : KHas TheW.w H a kvs := by
  rcases h with (h | ⟨o, h⟩) | ⟨h0, o, h⟩
  · exact .inl (.inl (ex _ _ h))
  · exact .inl (.inr ⟨o, ex _ _ h⟩)
  · exact .inr ⟨h0, o, ex _ _ h⟩
theorem zip_valO {S : Hp} {k : Key} : ∀ {vs : List (Key × V)} {ds : List PyData}, Reps K S (vs.map Prod.snd) ds → ∀ {z : V} {dz : PyData}, Rep K S z dz → Rep K S ((valV vs k).getD z) ((getI ((vs.map fun p => keyD p.1).zip ds) k).getD dz)
  | [], _, .nil, z, dz, rz => rz
  | v :: vs, _ :: _, .cons r t, z, dz, rz => by
    unfold getI
    rw [List.map_cons, List.zip_cons_cons]
    by_cases c : v.1 = k
    · rw [List.find?_cons_of_pos (by simp [keyK_keyD, c]), valV_pos c]
      exact r
    · rw [List.find?_cons_of_neg (by simp [keyK_keyD, c]), valV_neg c]
      exact zip_valO t rz
theorem sim_getKZ (h1 : SimE K ib b td dd) (h2 : SimE K ib b tk dk) (h3 : SimE K ib b tz dz) : SimE K ib b (tGetKZ TheW.w td tk tz) (dGetKZ dd dk dz) := by
  intro H0 S H σ δ R Q o e h kk
  refine h1 H0 S H σ δ _ _ o e h fun S1 H1 v d g1 r1 q => ?_
  split at q
  · rename_i kvs
    obtain ⟨fl, q⟩ := q
    have e1 := e.go g1
    obtain ⟨a, vs, ds, rfl, hz, hS, qv⟩ := dictK_cases r1 fl
    refine ⟨a, rfl, ⟨vs, hS.mono g1.ok.sub⟩, ?_⟩
    refine h2 H0 S1 H1 σ δ _ _ g1.ok e1 q fun S2 H2 y dkk g2 r2 q2 => ?_
    refine h3 H0 S2 H2 σ δ _ _ g2.ok (e1.go g2) q2 fun S3 H3 z dzz g3 r3 q3 => ?_
    split at q3
    · rename_i s
      have gg := (g1.trans o g2).trans o g3
      have st13 : Ex S1 S3 := fun a u q => g3.st _ _ (g2.st _ _ q)
      have st1H : Ex S1 H3 := fun a u q => g3.ok.sub _ _ (st13 _ _ q)
      refine ⟨vs, .inr s, hS.mono st1H, r2.strV, kk S3 H3 _ _ gg ?_ q3⟩
      rw [hz]
      exact zip_valO (qv.mono st13) r3
    · exact q3.elim
  · exact q.elim
theorem pairs_txt {S : Hp} : ∀ {vs : List V} {ps : List PyData}, Reps K S vs ps → (∀ p ∈ ps, pairTxt p) → ∃ (ts : List Addr) (kvs : List (Key × V)), vs = ts.map V.ref ∧ Paired (fun p kv => SqT K S p [kV kv.1, kv.2]) ts kvs ∧
    ∀ (xs : List (Key × V)) (ys : List (Str × PyData)), Paired (TxtR K S) xs ys → Paired (TxtR K S) (mergeK xs kvs) (ps.foldl putT2 ys)
  | _, _, .nil, _ => ⟨[], [], rfl, .nil, fun xs ys p => p⟩
  | _, _, .cons (v := v) (d := d) r q, h => by
    obtain ⟨ts, kvs, e1, e2, e3⟩ := pairs_txt q fun p hp => h p (List.mem_cons_of_mem _ hp)
    have hd := h _ (List.mem_cons_self ..)
    unfold pairTxt at hd
    split at hd
    · rename_i x y
      obtain ⟨t, ws, rfl, hq, rw'⟩ := r.tupV
      cases rw' with
      | cons r1 rw' =>
      cases rw' with
      | cons r2 rw' =>
      cases rw'
      rename_i v1 v2
      have ev := r1.strV
      subst ev
      refine ⟨t :: ts, (.inr x, v2) :: kvs, by rw [e1]; rfl, .cons hq e2, fun xs ys p => ?_⟩
      exact e3 _ _ (txt_put p r2)
    · exact hd.elim
theorem simc_dictPK : SimC K ib b (rDictK K) dDictPK := by
  intro S H xs ds R Q o r h k
  unfold dDictPK at h
  split at h
  · rename_i ps
    obtain ⟨hp, h⟩ := h
    cases r with
    | cons r1 r2 =>
      cases r2
      obtain ⟨a, vs, rfl, hS, rs⟩ := r1.lstV
      obtain ⟨ts, kvs, rfl, e2, e3⟩ := pairs_txt rs hp
      refine ⟨a, ts, kvs, rfl, SqL.of (o.sub _ _ hS), Paired.mapP e2 fun t r z => ex_t o.sub z, fun p hn => ?_⟩
      have hSp := Ex.none_of o.sub hn
      refine k _ _ _ _ (Go.laid o hn) (.txt upd_same (Paired.mapM (e3 [] [] .nil) fun v q _ z => ⟨z.1, z.2.mono (Ex.new hSp)⟩)) h
  · exact h.elim
theorem sim_dictK2 (h1 : SimE K ib b tk dk) (h2 : SimE K ib b tv dv) (h3 : SimE K ib b tk' dk') (h4 : SimE K ib b tv' dv') : SimE K ib b (tDisp [(tk, tv), (tk', tv')]) (dDictK2 dk dv dk' dv') := by
  intro H0 S H σ δ R Q o e h k p hp
  have g0 := Go.laidOwn (u := .dK []) o hp
  have np : ib ≠ none → p ≠ b.1 := fun z w => (o.bag z).tr (w ▸ hp)
  have sp : S p = none := Ex.none_of o.sub hp
  refine h1 H0 S _ σ δ _ _ g0.ok (e.go g0) h fun S1 H1 x dx g1 r1 q1 => ?_
  have p1 := g1.keep p _ np upd_same
  have s1 := g1.new p (by rw [upd_same]; exact Option.some_ne_none _) sp
  have g01 := g0.trans o g1
  refine h2 H0 S1 H1 σ δ _ _ g1.ok (e.go g01) q1 fun S2 H2 y dy g2 r2 q2 => ?_
  have p2 := g2.keep p _ np p1
  have s2 := g2.new p (by rw [p1]; exact Option.some_ne_none _) s1
  have g02 := g01.trans o g2
  refine h3 H0 S2 H2 σ δ _ _ g2.ok (e.go g02) q2 fun S3 H3 x' dx' g3 r3 q3 => ?_
  have p3 := g3.keep p _ np p2
  have s3 := g3.new p (by rw [p2]; exact Option.some_ne_none _) s2
  have g03 := g02.trans o g3
  refine h4 H0 S3 H3 σ δ _ _ g3.ok (e.go g03) q3 fun S4 H4 y' dy' g4 r4 q4 => ?_
  have p4 := g4.keep p _ np p3
  have s4 := g4.new p (by rw [p3]; exact Option.some_ne_none _) s3
  have g04 := g03.trans o g4
  split at q4
  · rename_i a a2
    obtain ⟨ne, q4⟩ := q4
    obtain rfl := r1.strV
    obtain rfl := r3.strV
    have em : mergeK [] [((.inr a : Key), y), (.inr a2, y')] = [((.inr a : Key), y), ((.inr a2 : Key), y')] := by
      show putK (putK [] (.inr a : Key) y) (.inr a2 : Key) y' = _
      have e1 : putK [] (.inr a : Key) y = [((.inr a : Key), y)] := rfl
      rw [e1]
      unfold putK
      rw [if_neg]
      · rfl
      · simp [ne]
    refine ⟨p4, [(.inr a, y), (.inr a2, y')], rfl, Nat.le_trans (Nat.le_of_eq rfl) (by decide : 2 ≤ 15), ?_⟩
    rw [em]
    have gF := Go.freeze (u := .dK [((.inr a : Key), y), (.inr a2, y')]) o (Go.ownUpd (u := .dK [((.inr a : Key), y), (.inr a2, y')]) o g04 hp s4) hp s4 upd_same
    have st24 : Ex S2 S4 := fun a u q => g4.st _ _ (g3.st _ _ q)
    exact k _ _ _ _ gF (.dK (kvs := [(.inr a, y), (.inr a2, y')]) (ds := [dy, dy']) upd_same (.cons ((r2.mono st24).mono (Ex.new s4)) (.cons (r4.mono (Ex.new s4)) .nil))) q4
  · exact q4.elim
theorem sim_parKD {i j : Nat} (hi : ib ≠ some i) (hj : ib ≠ some j) (hij : i ≠ j) (h1 : SimE K ib b ta da) : SimS K ib b (tPar i j (tCons ta (tCons tDNewK tNil))) (dParKD i j da) := by
  intro S0 H0 Sm S H σ δ D DD o em g0 e h x
  refine h1 H0 S H σ δ _ _ g0.ok e h fun S1 H1 v dv g1 r q => ?_
  intro p hp
  have g01 := g0.trans o g1
  have g2 : Go ib b S1 H1 S1 (upd H1 p (.dK [])) := Go.laidOwn g1.ok hp
  have g02 := g01.trans o g2
  have e1 := e.go g1
  refine ⟨v, .ref p, rfl, ?_⟩
  refine x.nx S1 _ _ _ g02 (em.trans g1.st) (((e1.go g2).set hi r).setDct hj upd_same (c := .dk []) (show CtOk K S1 p (.dK []) (.dk []) from ⟨[], rfl, .nil⟩) (Ex.none_of g1.ok.sub hp) (g01.fresh o hp) (fun z w => (g1.ok.bag z).tr (w ▸ hp)) (fun m c' hm a1 a2 => ?_)) q
  by_cases hmi : m = i
  · subst hmi
    have hlt : m < δ.length := by
      obtain ⟨w, _⟩ := List.getElem?_eq_some_iff.mp a1
      rwa [List.length_set] at w
    rw [List.getElem?_set_self hlt] at a1
    cases a1
  · rw [List.getElem?_set_ne (Ne.symm hmi)] at a1 a2
    obtain ⟨p', o', b1, b2, _⟩ := e1.dct m c' a1
    rw [b1] at a2
    have : p' = p := V.ref.inj (Option.some.inj (Option.some.inj a2))
    rw [this, hp] at b2
    cases b2
end
end DL

/-! set(xs), sorted(set(xs)), xs a list of texts. -/
namespace DL
open PySem PySem.Spec PyProof.Rows L2
open Evl (Ex ex_l ex_t)
open PySem.W (EachIs AllAlike Sortable SortsAt sortVals sortLe keyToks dataKind)
variable [TheW]
section
variable {P : Program} {w : World} {A : Around} {E : Value → Shared → Prop} {s : Shared}
theorem TSet.keep {h h' : Heap} {a : Addr} {L : List Str} (R : TSet w a L h) (k : ∀ o, h.get? a = some o → h'.get? a = some o) : TSet w a L h' := by
  obtain ⟨o, es, ep, t, ho, r⟩ := R
  exact ⟨o, es, ep, t, k _ ho, r⟩
theorem addT_mem {L : List Str} {x y : Str} : y ∈ addT L x ↔ y = x ∨ y ∈ L := by
  unfold addT
  split
  · rename_i h
    exact ⟨.inr, fun z => z.elim (fun e => e ▸ h) id⟩
  · exact List.mem_cons
theorem addT_len {L : List Str} {x : Str} : (addT L x).length ≤ L.length + 1 := by
  unfold addT
  split
  · omega
  · rw [List.length_cons]
    exact Nat.le_refl _
/-- what has come of the first i texts -/
structure ComeT (ks : List Str) (i : Nat) (L : List Str) : Prop where
  mem : ∀ x, x ∈ L ↔ x ∈ ks.take i
  nd : L.Nodup
  len : L.length ≤ i
theorem fillT {I S l : Addr} {items : Array Value} {fp wr : List Addr} {St : Nat → Heap → Prop} {R : Result → Shared → Prop} (W : Walks P w A.in1 I fp wr items.size (fun i v => items[i]? = some v) St) (hS : S ∉ fp) (hsub : ∀ b ∈ wr, b ∈ fp) (ks : List Str)
    (hit : Vals (ks.map V.str) items.toList) (few : ks.length < 63) (h0 : Heap) (hS0 : h0.get? S = none) (hw0 : ∀ b ∈ wr, h0.get? b = none) :
    ∀ (k i : Nat) (s : Shared), items.size - i = k → i ≤ items.size → St i s.heap → (∀ b o, h0.get? b = some o → s.heap.get? b = some o) → (∃ L, TSet w S L s.heap ∧ ComeT ks i L) →
      (∀ h' tk L, TSet w S L h' → ComeT ks items.size L → (∀ b o, h0.get? b = some o → h'.get? b = some o) → R (.ok (.ret .none)) { s with heap := h', toks := tk }) →
      codeAny (model P w) A (.builtin "set.update.loop" ⟨[.ref S, .ref I], []⟩) R s := by
  have nS : S ∉ wr := fun h => hS (hsub _ h)
  have sz : ks.length = items.size := by
    have := hit.length
    rw [List.length_map] at this
    simpa using this
  intro k
  induction k with
  | zero =>
    rintro i s hk hi st kp ⟨L, R0, g⟩ q
    obtain rfl : i = items.size := by omega
    refine codeAny_builtin F.entry_set_update_loop ?_
    rw [Around.under_plainId F.plain_set_update_loop _]
    show wpAny _ A.in1 (pyNext (.ref I) >>= _) _ _ s
    refine wpAny_bind (W.done s _ _ st fun h' tk keep => ?_)
    have kp' : ∀ b o, h0.get? b = some o → h'.get? b = some o := fun b o e => keep b o (fun z => by rw [hw0 b z] at e; cases e) (kp b o e)
    exact wpAny_pure (q h' _ L (R0.keep fun o e => keep S o nS e) g kp')
  | succ k ih =>
    rintro i s hk hi st kp ⟨L, R0, g⟩ q
    have lt : i < items.size := by omega
    refine codeAny_builtin F.entry_set_update_loop ?_
    rw [Around.under_plainId F.plain_set_update_loop _]
    show wpAny _ A.in1 (pyNext (.ref I) >>= _) _ _ s
    refine wpAny_bind (W.item i s _ _ lt st fun v h' tk hv st' keep => ?_)
    have hlt : i < ks.length := by omega
    obtain ⟨u, hu, ru⟩ := hit.get (i := i) (x := V.str ks[i]) (by rw [List.getElem?_map, List.getElem?_eq_getElem hlt]; rfl)
    have euv : u = v := by
      rw [Array.getElem?_toList, hv] at hu
      exact (Option.some.inj hu).symm
    subst euv
    obtain ⟨tkx, rfl⟩ := (show ∃ t, u = Value.str ks[i] t from ru)
    have kp' : ∀ b o, h0.get? b = some o → h'.get? b = some o := fun b o e => keep b o (fun z => by rw [hw0 b z] at e; cases e) (kp b o e)
    have R1 : TSet w S L h' := R0.keep fun o e => keep S o nS e
    refine wpAny_bind (wpAny_holding ?_)
    unfold setAdd
    refine wpAny_holding ?_
    refine wpAny_bind ((PySem.strKind P w).pyHash (PySem.strKind_is P w ks[i] tkx) ?_)
    refine tset_add R1 (by have := g.len; omega) fun b h2 sb R2 => ?_
    have g2 : ComeT ks (i + 1) (addT L ks[i]) := by
      refine ⟨fun x => ?_, addT_nd g.nd _, Nat.le_trans addT_len (Nat.succ_le_succ g.len)⟩
      rw [addT_mem, g.mem x, List.take_add_one, List.getElem?_eq_getElem hlt, List.mem_append]
      simp only [Option.toList_some, List.mem_singleton]
      exact or_comm
    have kp2 : ∀ b o, h0.get? b = some o → h2.get? b = some o := fun b o e => (sb.2 b (fun z => by rw [z, hS0] at e; cases e)).trans (kp' b o e)
    refine wpAny_pure ⟨plainId_quiet F.plain_set_update_loop _, ih (i + 1) _ (by omega) lt (W.frame _ h' _ st' fun b hb o e => ?_) kp2 ⟨_, R2, g2⟩ fun h3 tk3 L3 R3 g3 kp3 => q h3 tk3 L3 R3 g3 kp3⟩
    exact (sb.2 b fun z => hS (z ▸ hb)).trans e
/-- set(xs), xs a list of texts -/
theorem call_setT {l : Addr} {items : Array Value} (ks : List Str) (hh : A.handled = none) (hl : s.heap.IsList l items) (hit : Vals (ks.map V.str) items.toList) (few : ks.length < 63) {Q : Value → Shared → Prop}
    (q : ∀ h' tk L, TSet w s.heap.objs.size L h' → L.Nodup → (∀ x, x ∈ L ↔ x ∈ ks) → (∀ b o, s.heap.get? b = some o → h'.get? b = some o) → Q (.ref s.heap.objs.size) { s with heap := h', toks := tk }) :
    wpAny (model P w) A (call (.type "set") [.ref l]) Q E s := by
  refine set_by (Z := fun s' => ∃ h' tk L, s' = { s with heap := h', toks := tk } ∧ TSet w s.heap.objs.size L h' ∧ L.Nodup ∧ (∀ x, x ∈ L ↔ x ∈ ks) ∧ ∀ b o, s.heap.get? b = some o → h'.get? b = some o) ?_
    fun s' ⟨h', tk, L, e, R, c1, c2, kp⟩ => by rw [e]; exact q h' tk L R c1 c2 kp
  have lS : l < s.heap.objs.size := let ⟨_, e, _⟩ := hl; Heap.lt_size e
  have hl1 : (s.heap.push (set0 w)).IsList l items := hl.at fun o e => Heap.get?_push_of_some _ e
  obtain ⟨ol, hol, hcl, nl, hdl⟩ := id hl1
  have tl : Shared.TypeIs { s with heap := s.heap.push (set0 w) } (.ref l) "list" := ⟨ol, hol, hcl⟩
  have n1 := PySem.F.sub_list_set
  have n2 := PySem.F.sub_list_frozenset
  have n3 : (Value.type "list" == Value.type "dict") = false := by decide
  unfold Builtin.Frozenset.updateFrom
  generalize hPI : pyIter = PI
  wp_walk
  subst hPI
  have hneI : l ≠ (s.heap.push (set0 w)).objs.size := by rw [Heap.size_push]; exact Nat.ne_of_lt (Nat.lt_succ_of_lt lS)
  have none_of : ∀ b, s.heap.objs.size ≤ b → s.heap.get? b = none := fun b hb => by
    cases z : s.heap.get? b with
    | none => rfl
    | some o => exact absurd (Nat.lt_of_lt_of_le (Heap.lt_size z) hb) (Nat.lt_irrefl _)
  refine wpAny_pyIter_list hl1 ?_
  refine wpAny_bind (wpAny_runValue ?_)
  have hS : s.heap.objs.size ∉ [(s.heap.push (set0 w)).objs.size, l] := by
    rw [Heap.size_push]
    simp only [List.mem_cons, List.not_mem_nil, or_false, not_or]
    exact ⟨Nat.ne_of_lt (Nat.lt_succ_self _), Nat.ne_of_gt lS⟩
  have hh' : A.in1.in1.in1.handled = none := by simp [hh]
  have szl : ks.length = items.size := by
    have := hit.length
    rw [List.length_map] at this
    simpa using this
  refine fillT (l := l) (Walks.list hh' _ l hneI items) hS (fun b hb => by simp at hb; simp [hb]) ks hit few s.heap (none_of _ (Nat.le_refl _)) (fun b hb => none_of b ?_) (items.size - 0) 0 _ (by omega) (Nat.zero_le _)
    ⟨⟨_, Heap.get?_push_size _ rfl, rfl, rfl⟩, hl1.push _⟩ (fun b o e => Heap.get?_push_of_some _ (Heap.get?_push_of_some _ e)) ⟨[], (TSet.new w).keep (fun o e => Heap.get?_push_of_some _ e), ⟨fun x => (by rw [List.take_zero]), List.nodup_nil, Nat.le_refl _⟩⟩ fun h' tk L R g kp => ?_
  · simp only [List.mem_singleton] at hb
    rw [hb, Heap.size_push]
    exact Nat.le_succ _
  · refine wpAny_pure ⟨h', tk, L, rfl, R, g.nd, fun x => ?_, kp⟩
    rw [g.mem x, ← szl, List.take_length]
end
section
variable {X : Cx} {pins : List (Addr × Obj)} {σ : L2.St} {H : Hp} {s : Shared}
def rSetT (K : PySem.W.Frag) (w : World) : List V → Hp → VK → Prop := fun xs H Q => ∃ (l : Addr) (ks : List Str), xs = [V.ref l] ∧ SqL K H l (ks.map V.str) ∧ ks.length < 63 ∧
  ∀ a L, H a = none → L.Nodup → (∀ x, x ∈ L ↔ x ∈ ks) → Q (.ref a) (upd H a (HTxt w a L))
theorem cr_setT (hc : X.calm = true) (hu : X.A.units + 64 < cLine) : CallR X (.type "set") (rSetT X.K X.w) := by
  intro pins s σ H xs us Q I r h
  obtain ⟨l, ks, rfl, hl, few, q⟩ := h
  obtain ⟨u, rfl, ru⟩ := vals1 r
  obtain rfl : u = Value.ref l := ru
  obtain ⟨its, rv, pl, hz⟩ := I.list hl
  have hn : H s.heap.objs.size = none := I.hok.fresh (Nat.le_refl _)
  refine call_setT (P := X.prog) (w := X.w) ks (I.ok.hd hc) pl.isList (by simpa using rv) few fun h' tk L R g1 g2 k => ?_
  exact ⟨.ref s.heap.objs.size, upd H s.heap.objs.size (HTxt X.w s.heap.objs.size L), I.laid (t' := tk) k (Nat.le_refl _) R.obj, rfl, q _ L hn g1 g2⟩
end
section
variable {K : PySem.W.Frag} {ib : Option Nat} {b : Bg} {te : TE} {de : DE}
/-- sorted(set(x)), x a list of texts -/
noncomputable def dnSortSetT (de : DE) : DA := fun δ R => de δ fun x => match x with
  | .list ds => ∃ ks : List Str, ds = ks.map .str ∧ ks.length < 63 ∧ ∀ L : List Str, L.Nodup → (∀ x, x ∈ L ↔ x ∈ ks) → R (sortD (L.map .str))
  | _ => False
theorem sim_nSortSetT (h1 : SimE K ib b te de) : SimN K ib b (tCB (rSortedT TheW.w) (tCons (tCB (rSetT K TheW.w) (tCons te tNil)) tNil)) (dnSortSetT de) := by
  intro H0 S H σ δ R Q o e h k
  refine h1 H0 S H σ δ _ _ o e h fun S1 H1 v dv g r q => ?_
  split at q
  · rename_i ds
    obtain ⟨ks, rfl, few, q⟩ := q
    obtain ⟨a, xs, rfl, hx, qx⟩ := r.lstV
    obtain rfl := qx.strs
    refine ⟨a, ks, rfl, SqL.of (g.ok.sub _ _ hx), few, fun A L hA nd l1 => ?_⟩
    have g2 : Go ib b S1 H1 S1 (upd H1 A (HTxt TheW.w A L)) := Go.laidOwn g.ok hA
    refine ⟨A, L, rfl, upd_same, fun ys L' p' pe hy hp' => ?_⟩
    have gg := g.trans o g2
    exact k S1 _ p' ys _ (gg.trans o (Go.laidOwn g2.ok hp')) upd_same (reps_of_each (fun v d ⟨x, h1, h2⟩ => by subst h1 h2; exact .str x) hy) (Ex.none_of g2.ok.sub hp') (gg.fresh o hp') (q L' (pe.nodup_iff.mpr nd) fun x => by rw [pe.mem_iff]; exact l1 x)
  · exact q.elim
end
end DL

namespace DL
open PySem PySem.Spec PyProof.Rows L2
open Evl (Ex ex_l ex_t)
variable [TheW]
open PySem.W (EachIs AllAlike Sortable SortsAt sortVals sortLe keyToks keyToksAll dataKind alike alikeAll)
mutual
def pureS : PyData → Bool
  | .none => false
  | .bool _ => false
  | .int _ => false
  | .str _ => true
  | .list _ => false
  | .tuple xs => pureSAll xs
  | .dict _ => false
def pureSAll : List PyData → Bool
  | [] => true
  | x :: xs => pureS x && pureSAll xs
end
mutual
theorem eqv_pure : ∀ x y : PyData, pureS x = true → pureS y = true → PyData.eqv x y = true → x = y
  | .str a, .str c, _, _, h => by
    rw [eqv_ss] at h
    rw [eq_of_beq h]
  | .tuple xs, .tuple ys, h1, h2, h => by
    simp only [PyData.eqv] at h
    rw [eqv_pureAll xs ys h1 h2 h]
  | .str a, .tuple ys, _, _, h => by simp [PyData.eqv] at h
  | .tuple xs, .str a, _, _, h => by simp [PyData.eqv] at h
  | .none, _, h, _, _ => absurd h Bool.false_ne_true
  | .bool _, _, h, _, _ => absurd h Bool.false_ne_true
  | .int _, _, h, _, _ => absurd h Bool.false_ne_true
  | .list _, _, h, _, _ => absurd h Bool.false_ne_true
  | .dict _, _, h, _, _ => absurd h Bool.false_ne_true
  | .str _, .none, _, h, _ => absurd h Bool.false_ne_true
  | .str _, .bool _, _, h, _ => absurd h Bool.false_ne_true
  | .str _, .int _, _, h, _ => absurd h Bool.false_ne_true
  | .str _, .list _, _, h, _ => absurd h Bool.false_ne_true
  | .str _, .dict _, _, h, _ => absurd h Bool.false_ne_true
  | .tuple _, .none, _, h, _ => absurd h Bool.false_ne_true
  | .tuple _, .bool _, _, h, _ => absurd h Bool.false_ne_true
  | .tuple _, .int _, _, h, _ => absurd h Bool.false_ne_true
  | .tuple _, .list _, _, h, _ => absurd h Bool.false_ne_true
  | .tuple _, .dict _, _, h, _ => absurd h Bool.false_ne_true
theorem eqv_pureAll : ∀ xs ys : List PyData, pureSAll xs = true → pureSAll ys = true → PyData.eqvAll xs ys = true → xs = ys
  | [], [], _, _, _ => rfl
  | x :: xs, y :: ys, h1, h2, h => by
    simp only [pureSAll, Bool.and_eq_true] at h1 h2
    simp only [PyData.eqvAll, Bool.and_eq_true] at h
    rw [eqv_pure x y h1.1 h2.1 h.1, eqv_pureAll xs ys h1.2 h2.2 h.2]
  | [], _ :: _, _, _, h => by simp [PyData.eqvAll] at h
  | _ :: _, [], _, _, h => by simp [PyData.eqvAll] at h
end
/-- what stands once in l, and all in ts, is no more than ts -/
theorem nodup_le {α : Type} : ∀ (l ts : List α), l.Nodup → (∀ x ∈ l, x ∈ ts) → l.length ≤ ts.length
  | [], _, _, _ => Nat.zero_le _
  | x :: l, ts, nd, h => by
    obtain ⟨s, t, rfl⟩ := List.append_of_mem (h x (List.mem_cons_self ..))
    have nd := List.nodup_cons.mp nd
    have := nodup_le l (s ++ t) nd.2 fun y hy => by
      have := h y (List.mem_cons_of_mem _ hy)
      rcases List.mem_append.mp this with z | z
      · exact List.mem_append.mpr (.inl z)
      · rcases List.mem_cons.mp z with z | z
        · exact absurd (z ▸ hy) nd.1
        · exact List.mem_append.mpr (.inr z)
    rw [List.length_append] at this
    rw [List.length_append, List.length_cons, List.length_cons]
    omega

/-- one of the names -/
def isN3 : PyData → Bool
  | .str n => decide (isNm n = true)
  | _ => false
def nmL3 : PyData → List Nat
  | .str n => n.cps.toList
  | _ => []
mutual
/-- a term -/
def tm : PyData → Bool
  | .none => false
  | .bool _ => false
  | .int _ => false
  | .str _ => false
  | .list _ => false
  | .tuple xs => tmH xs
  | .dict _ => false
def tmH : List PyData → Bool
  | [] => false
  | x :: xs => isN3 x && tmAll xs
def tmAll : List PyData → Bool
  | [] => true
  | x :: xs => tm x && tmAll xs
end
mutual
/-- its text -/
def mkD : PyData → List Nat
  | .none => []
  | .bool _ => []
  | .int _ => []
  | .str _ => []
  | .list _ => []
  | .tuple xs => mkH xs
  | .dict _ => []
def mkH : List PyData → List Nat
  | [] => []
  | x :: xs => nmL3 x ++ 40 :: mkAll xs
def mkAll : List PyData → List Nat
  | [] => [41]
  | x :: xs => mkD x ++ mkAll xs
end
theorem nm_ok : ∀ n : Str, isNm n = true → n.cps.toList ≠ [] ∧ ∀ c ∈ n.cps.toList, 41 < c := by
  intro n h
  unfold isNm at h
  simp only [Bool.and_eq_true, decide_eq_true_eq, List.all_eq_true] at h
  refine ⟨fun e => ?_, fun c hc => ?_⟩
  · have h1 := h.1.1.1
    rw [show n.length = n.cps.toList.length by simp [Str.length], e] at h1
    exact absurd h1 (by decide)
  · have := h.2 c hc
    unfold lower at this
    simp only [Bool.and_eq_true, decide_eq_true_eq] at this
    omega
theorem pre_lt {u v : List Nat} : ∀ (p q : List Nat), (∀ c ∈ p, 41 < c) → (∀ c ∈ q, 41 < c) → p ≠ q → ((p ++ 40 :: u < q ++ 40 :: v) ↔ p < q)
  | [], [], _, _, h => absurd rfl h
  | [], c :: q, _, hq, _ => by
    have := hq c (List.mem_cons_self ..)
    simp only [List.nil_append, List.cons_append, List.cons_lt_cons_iff, List.nil_lt_cons]
    simp
    omega
  | c :: p, [], hp, _, _ => by
    have := hp c (List.mem_cons_self ..)
    simp only [List.nil_append, List.cons_append, List.cons_lt_cons_iff, List.not_lt_nil]
    simp
    omega
  | c :: p, d :: q, hp, hq, h => by
    have ih := pre_lt (u := u) (v := v) p q (fun x hx => hp x (List.mem_cons_of_mem _ hx)) (fun x hx => hq x (List.mem_cons_of_mem _ hx))
    simp only [List.cons_append, List.cons_lt_cons_iff]
    by_cases e : c = d
    · subst e
      have ne : p ≠ q := fun z => h (by rw [z])
      rw [ih ne]
    · simp [e]
theorem lt_pre {a b : List Nat} : ∀ p : List Nat, (p ++ a < p ++ b) ↔ a < b
  | [] => Iff.rfl
  | c :: p => by
    rw [List.cons_append, List.cons_append, List.cons_lt_cons_iff, lt_pre p]
    simp
theorem hd_tm : ∀ y : PyData, tm y = true → ∃ c r, mkD y = c :: r ∧ 41 < c
  | .tuple [], h => by simp [tm, tmH] at h
  | .tuple (x :: xs), h => by
    simp only [tm, tmH, Bool.and_eq_true] at h
    cases x with
    | str n =>
      have hn := nm_ok n (of_decide_eq_true h.1)
      simp only [mkD, mkH, nmL3]
      match e : n.cps.toList, hn with
      | [], hn => exact absurd rfl hn.1
      | c :: r, hn => exact ⟨c, _, rfl, hn.2 c (List.mem_cons_self ..)⟩
    | _ => exact absurd h.1 Bool.false_ne_true
  | .none, h => absurd h Bool.false_ne_true
  | .bool _, h => absurd h Bool.false_ne_true
  | .int _, h => absurd h Bool.false_ne_true
  | .str _, h => absurd h Bool.false_ne_true
  | .list _, h => absurd h Bool.false_ne_true
  | .dict _, h => absurd h Bool.false_ne_true
theorem nm_str {x : PyData} (h : isN3 x = true) : ∃ n, x = .str n ∧ isNm n = true := by
  cases x with
  | str n => exact ⟨n, rfl, of_decide_eq_true h⟩
  | _ => exact absurd h Bool.false_ne_true
theorem tm_tup {x : PyData} (h : tm x = true) : ∃ n ps, x = .tuple (.str n :: ps) ∧ isNm n = true ∧ tmAll ps = true := by
  cases x with
  | tuple xs =>
    cases xs with
    | nil => exact absurd h Bool.false_ne_true
    | cons y ys =>
      simp only [tm, tmH, Bool.and_eq_true] at h
      obtain ⟨n, rfl, hn⟩ := nm_str h.1
      exact ⟨n, ys, rfl, hn, h.2⟩
  | _ => exact absurd h Bool.false_ne_true
abbrev ltT (a b : List (Int ⊕ List Nat)) : Bool := PyProof.Rows.lexLt itemOrd a b
theorem lt_head {x y : Int ⊕ List Nat} {r t : List (Int ⊕ List Nat)} (h : x ≠ y) : ltT (x :: r) (y :: t) = itemOrd.blt x y := PyProof.Rows.lex_diff (O := itemOrd) h
theorem lt_same {x : Int ⊕ List Nat} {r t : List (Int ⊕ List Nat)} : ltT (x :: r) (x :: t) = ltT r t := PyProof.Rows.lex_self (O := itemOrd) x r t
mutual
theorem ord : ∀ (x y : PyData), tm x = true → tm y = true → ∀ A B a b, (ltT A B = true ↔ a < b) → (ltT (keyToks x ++ A) (keyToks y ++ B) = true ↔ mkD x ++ a < mkD y ++ b)
  | .tuple (.str n :: ps), y, hx, hy, A, B, a, b, h => by
    obtain ⟨m, qs, rfl, hm, hq⟩ := tm_tup hy
    simp only [tm, tmH, Bool.and_eq_true] at hx
    have hn := nm_ok n (of_decide_eq_true hx.1)
    have hm' := nm_ok m hm
    have ih := ordAll ps qs hx.2 hq A B a b h
    simp only [keyToks, keyToksAll, mkD, mkH, nmL3, List.cons_append, List.append_assoc, List.singleton_append, List.nil_append]
    rw [lt_same]
    by_cases e : n.cps.toList = m.cps.toList
    · rw [e, lt_same, ih, lt_pre, List.cons_lt_cons_iff]
      simp
    · rw [lt_head (fun z => e (Sum.inr.inj z)), pre_lt _ _ hn.2 hm'.2 e]
      show decide _ = true ↔ _
      rw [decide_eq_true_eq]
  | .tuple [], _, hx, _, _, _, _, _, _ => absurd hx Bool.false_ne_true
  | .tuple (.none :: _), _, hx, _, _, _, _, _, _ => absurd hx Bool.false_ne_true
  | .tuple (.bool _ :: _), _, hx, _, _, _, _, _, _ => absurd hx Bool.false_ne_true
  | .tuple (.int _ :: _), _, hx, _, _, _, _, _, _ => absurd hx Bool.false_ne_true
  | .tuple (.list _ :: _), _, hx, _, _, _, _, _, _ => absurd hx Bool.false_ne_true
  | .tuple (.tuple _ :: _), _, hx, _, _, _, _, _, _ => absurd hx Bool.false_ne_true
  | .tuple (.dict _ :: _), _, hx, _, _, _, _, _, _ => absurd hx Bool.false_ne_true
  | .none, _, hx, _, _, _, _, _, _ => absurd hx Bool.false_ne_true
  | .bool _, _, hx, _, _, _, _, _, _ => absurd hx Bool.false_ne_true
  | .int _, _, hx, _, _, _, _, _, _ => absurd hx Bool.false_ne_true
  | .str _, _, hx, _, _, _, _, _, _ => absurd hx Bool.false_ne_true
  | .list _, _, hx, _, _, _, _, _, _ => absurd hx Bool.false_ne_true
  | .dict _, _, hx, _, _, _, _, _, _ => absurd hx Bool.false_ne_true
theorem ordAll : ∀ (xs ys : List PyData), tmAll xs = true → tmAll ys = true → ∀ A B a b, (ltT A B = true ↔ a < b) → (ltT (keyToksAll xs ++ A) (keyToksAll ys ++ B) = true ↔ mkAll xs ++ a < mkAll ys ++ b)
  | [], [], _, _, A, B, a, b, h => by
    simp only [keyToksAll, mkAll, List.cons_append, List.nil_append]
    rw [lt_same, h, List.cons_lt_cons_iff]
    simp
  | [], y :: ys, _, hy, A, B, a, b, h => by
    simp only [tmAll, Bool.and_eq_true] at hy
    obtain ⟨c, r, e, hc⟩ := hd_tm y hy.1
    simp only [keyToksAll, mkAll, e, List.cons_append, List.nil_append]
    rw [lt_head (by decide)]
    have : (41 :: a < c :: (r ++ mkAll ys ++ b)) := by
      rw [List.cons_lt_cons_iff]
      exact .inl hc
    exact ⟨fun _ => this, fun _ => by decide⟩
  | x :: xs, [], hx, _, A, B, a, b, h => by
    simp only [tmAll, Bool.and_eq_true] at hx
    obtain ⟨c, r, e, hc⟩ := hd_tm x hx.1
    simp only [keyToksAll, mkAll, e, List.cons_append, List.nil_append]
    rw [lt_head (by decide)]
    have : ¬ (c :: (r ++ mkAll xs ++ a) < 41 :: b) := by
      rw [List.cons_lt_cons_iff]
      omega
    exact ⟨fun z => absurd z (by decide), fun z => absurd z this⟩
  | x :: xs, y :: ys, hx, hy, A, B, a, b, h => by
    simp only [tmAll, Bool.and_eq_true] at hx hy
    simp only [keyToksAll, mkAll, List.cons_append, List.append_assoc]
    rw [lt_same]
    exact ord x y hx.1 hy.1 _ _ _ _ (ordAll xs ys hx.2 hy.2 A B a b h)
end
theorem ord0 {x y : PyData} (hx : tm x = true) (hy : tm y = true) : ltT (keyToks x) (keyToks y) = decide (mkD x < mkD y) := by
  have := ord x y hx hy [] [] [] [] (by decide)
  rw [List.append_nil, List.append_nil, List.append_nil, List.append_nil] at this
  by_cases c : mkD x < mkD y
  · rw [decide_eq_true c, this.mpr c]
  · rw [decide_eq_false c]
    cases e : ltT (keyToks x) (keyToks y) with
    | true => exact absurd (this.mp e) c
    | false => rfl
mutual
theorem alike_tm : ∀ (x y : PyData), tm x = true → tm y = true → alike x y = true
  | .tuple (.str n :: ps), y, hx, hy => by
    obtain ⟨m, qs, rfl, hm, hq⟩ := tm_tup hy
    simp only [tm, tmH, Bool.and_eq_true] at hx
    simp only [alike, alikeAll, alike_tmAll ps qs hx.2 hq, Bool.and_self]
  | .tuple [], _, hx, _ => absurd hx Bool.false_ne_true
  | .tuple (.none :: _), _, hx, _ => absurd hx Bool.false_ne_true
  | .tuple (.bool _ :: _), _, hx, _ => absurd hx Bool.false_ne_true
  | .tuple (.int _ :: _), _, hx, _ => absurd hx Bool.false_ne_true
  | .tuple (.list _ :: _), _, hx, _ => absurd hx Bool.false_ne_true
  | .tuple (.tuple _ :: _), _, hx, _ => absurd hx Bool.false_ne_true
  | .tuple (.dict _ :: _), _, hx, _ => absurd hx Bool.false_ne_true
  | .none, _, hx, _ => absurd hx Bool.false_ne_true
  | .bool _, _, hx, _ => absurd hx Bool.false_ne_true
  | .int _, _, hx, _ => absurd hx Bool.false_ne_true
  | .str _, _, hx, _ => absurd hx Bool.false_ne_true
  | .list _, _, hx, _ => absurd hx Bool.false_ne_true
  | .dict _, _, hx, _ => absurd hx Bool.false_ne_true
theorem alike_tmAll : ∀ (xs ys : List PyData), tmAll xs = true → tmAll ys = true → alikeAll xs ys = true
  | [], _, _, _ => by simp only [alikeAll]
  | _ :: _, [], _, _ => by simp only [alikeAll]
  | x :: xs, y :: ys, hx, hy => by
    simp only [tmAll, Bool.and_eq_true] at hx hy
    simp only [alikeAll, alike_tm x y hx.1 hy.1, alike_tmAll xs ys hx.2 hy.2, Bool.and_self]
end
mutual
theorem pure_tm : ∀ x : PyData, tm x = true → pureS x = true
  | .tuple (.str n :: ps), hx => by
    simp only [tm, tmH, Bool.and_eq_true] at hx
    simp only [pureS, pureSAll, pure_tmAll ps hx.2, Bool.and_self]
  | .tuple [], hx => absurd hx Bool.false_ne_true
  | .tuple (.none :: _), hx => absurd hx Bool.false_ne_true
  | .tuple (.bool _ :: _), hx => absurd hx Bool.false_ne_true
  | .tuple (.int _ :: _), hx => absurd hx Bool.false_ne_true
  | .tuple (.list _ :: _), hx => absurd hx Bool.false_ne_true
  | .tuple (.tuple _ :: _), hx => absurd hx Bool.false_ne_true
  | .tuple (.dict _ :: _), hx => absurd hx Bool.false_ne_true
  | .none, hx => absurd hx Bool.false_ne_true
  | .bool _, hx => absurd hx Bool.false_ne_true
  | .int _, hx => absurd hx Bool.false_ne_true
  | .str _, hx => absurd hx Bool.false_ne_true
  | .list _, hx => absurd hx Bool.false_ne_true
  | .dict _, hx => absurd hx Bool.false_ne_true
theorem pure_tmAll : ∀ xs : List PyData, tmAll xs = true → pureSAll xs = true
  | [], _ => rfl
  | x :: xs, hx => by
    simp only [tmAll, Bool.and_eq_true] at hx
    simp only [pureSAll, pure_tm x hx.1, pure_tmAll xs hx.2, Bool.and_self]
end
/-- two texts that are neither way less are of one term -/
theorem tri {x y : PyData} (hx : tm x = true) (hy : tm y = true) (h1 : ¬ mkD x < mkD y) (h2 : ¬ mkD y < mkD x) : x = y := by
  have e1 := ord0 hx hy
  have e2 := ord0 hy hx
  rw [decide_eq_false h1] at e1
  rw [decide_eq_false h2] at e2
  have et : keyToks x = keyToks y := PyProof.Rows.lex_total (O := itemOrd) _ _ e1 e2
  have ha := alike_tm x y hx hy
  cases ee : PyData.eqv x y with
  | true => exact eqv_pure x y (pure_tm x hx) (pure_tm y hy) ee
  | false =>
    have := (PySem.W.toks_eqv x y ha).2 ee [] [.inl 0]
    rw [et, PySem.W.lex_pre] at this
    exact absurd this (by
      have i := PyProof.Rows.lex_irrefl (O := itemOrd) (keyToks y)
      rw [i]
      decide)
theorem mk_inj {x y : PyData} (hx : tm x = true) (hy : tm y = true) (h : mkD x = mkD y) : x = y := tri hx hy (by rw [h]; exact List.lt_irrefl _) (by rw [h]; exact List.lt_irrefl _)
/-- the order of terms -/
def LT (a b : PyData) : Prop := mkD a < mkD b
theorem uniq : ∀ xs ys : List PyData, xs.Pairwise LT → ys.Pairwise LT → (∀ t, t ∈ xs ↔ t ∈ ys) → xs = ys
  | [], [], _, _, _ => rfl
  | [], y :: _, _, _, h => absurd ((h y).mpr (List.mem_cons_self ..)) (by simp)
  | x :: _, [], _, _, h => absurd ((h x).mp (List.mem_cons_self ..)) (by simp)
  | x :: xs, y :: ys, p, q, h => by
    have p' := List.pairwise_cons.mp p
    have q' := List.pairwise_cons.mp q
    have e : x = y := by
      rcases List.mem_cons.mp ((h x).mp (List.mem_cons_self ..)) with e | hx
      · exact e
      rcases List.mem_cons.mp ((h y).mpr (List.mem_cons_self ..)) with e | hy
      · exact e.symm
      exact absurd (q'.1 x hx) (List.lt_asymm (p'.1 y hy))
    subst e
    rw [uniq xs ys p'.2 q'.2 fun t => ⟨fun ht => ?_, fun ht => ?_⟩]
    · rcases List.mem_cons.mp ((h t).mp (List.mem_cons_of_mem _ ht)) with e | h2
      · subst e
        exact absurd (p'.1 t ht) (List.lt_irrefl _)
      · exact h2
    · rcases List.mem_cons.mp ((h t).mpr (List.mem_cons_of_mem _ ht)) with e | h2
      · subst e
        exact absurd (q'.1 t ht) (List.lt_irrefl _)
      · exact h2
theorem strict : ∀ {xs : List PyData}, xs.Pairwise (fun a b => ¬ mkD b < mkD a) → xs.Nodup → (∀ t ∈ xs, tm t = true) → xs.Pairwise LT
  | [], _, _, _ => List.Pairwise.nil
  | x :: xs, p, nd, h => by
    have p' := List.pairwise_cons.mp p
    have nd' := List.nodup_cons.mp nd
    refine List.pairwise_cons.mpr ⟨fun y hy => ?_, strict p'.2 nd'.2 fun t ht => h t (List.mem_cons_of_mem _ ht)⟩
    by_cases c : mkD x < mkD y
    · exact c
    · have := tri (h x (List.mem_cons_self ..)) (h y (List.mem_cons_of_mem _ hy)) c (p'.1 y hy)
      subst this
      exact absurd hy nd'.1
/-- what sorted tells of terms -/
theorem sortD_lt {ds : List PyData} (h : ∀ t ∈ ds, tm t = true) (nd : ds.Nodup) : (sortD ds).Pairwise LT ∧ ∀ t, t ∈ sortD ds ↔ t ∈ ds := by
  have pm : (sortD ds).Perm ds := List.mergeSort_perm ..
  refine ⟨strict ?_ (pm.nodup_iff.mpr nd) fun t ht => h t (pm.mem_iff.mp ht), fun t => pm.mem_iff⟩
  have pw := PySem.W.sort_pairwise (PySem.W.sortLe_total (listOrd itemOrd) false keyToks) ds
  have pw : (sortD ds).Pairwise fun a b => sortLe (listOrd itemOrd) false keyToks a b = true := pw
  refine List.Pairwise.imp_of_mem (fun {a b} ha hb hab => ?_) pw
  have hab : (!ltT (keyToks b) (keyToks a)) = true := hab
  rw [ord0 (h b (pm.mem_iff.mp hb)) (h a (pm.mem_iff.mp ha))] at hab
  intro z
  rw [decide_eq_true z] at hab
  exact absurd hab (by decide)
theorem rising_pw : ∀ (r : List Str) (p : Str), risingS p r = true → (p :: r).Pairwise fun a b => ¬ b.cps.toList < a.cps.toList
  | [], p, _ => List.pairwise_singleton _ _
  | x :: r, p, h => by
    simp only [risingS, Bool.and_eq_true] at h
    have ih := rising_pw r x h.2
    have h1 : ¬ x.cps.toList < p.cps.toList := by
      have := h.1
      rw [ltCps_eq] at this
      intro z
      rw [decide_eq_true z] at this
      exact absurd this (by decide)
    refine List.pairwise_cons.mpr ⟨fun y hy => ?_, ih⟩
    rcases List.mem_cons.mp hy with rfl | hy
    · exact h1
    · have h2 := (List.pairwise_cons.mp ih).1 y hy
      have a : p.cps.toList ≤ x.cps.toList := h1
      have b : x.cps.toList ≤ y.cps.toList := h2
      exact List.le_trans a b
theorem sortedS_pw {l : List Str} (h : sortedS l = true) : l.Pairwise fun a b => ¬ b.cps.toList < a.cps.toList := by
  cases l with
  | nil => exact List.Pairwise.nil
  | cons p r => exact rising_pw r p h

end DL

namespace DL
open PySem PySem.Spec PyProof.Rows L2
open Evl (Ex ex_l ex_t)
variable [TheW]
abbrev pre_l_takeB := pre_l_take
abbrev post_l_takeB := post_l_take
abbrev sp_l_takeB := sp_l_take
abbrev n_l_takeB := n_l_take
mutual
/-- how many tuples -/
def nd : PyData → Nat
  | .none => 0
  | .bool _ => 0
  | .int _ => 0
  | .str _ => 0
  | .list _ => 0
  | .tuple xs => ndAll xs + 1
  | .dict _ => 0
def ndAll : List PyData → Nat
  | [] => 0
  | x :: xs => nd x + ndAll xs
end
/-- a term, as far as it matters here -/
structure okT (x : PyData) : Prop where
  t : tupOnly x = true
  f : fit x = true
  d : x.depth ≤ 8
  w : wt x ≤ 10000
  m : tm x = true
  n : nd x ≤ 60
def parts : PyData → List PyData
  | .tuple (_ :: ps) => ps
  | _ => []
/-- t is u, or a part of it, of a part of it .. -/
inductive Sub : PyData → PyData → Prop
  | refl (t : PyData) : Sub t t
  | part {t u p : PyData} (h : p ∈ parts u) (s : Sub t p) : Sub t u
structure PoolL (ts : List PyData) : Prop where
  ne : ts ≠ []
  l : ts.length ≤ 7
  t : ∀ t ∈ ts, okT t
  cl : ∀ t ∈ ts, ∀ p ∈ parts t, p ∈ ts
theorem tm_depth {t : PyData} (h : tm t = true) : 1 ≤ t.depth := by
  obtain ⟨n, ps, rfl, _⟩ := tm_tup h
  simp only [PyData.depth]
  omega
/-- the list, in some order -/
def pre_l_mixed : List PyData → Prop := fun ds => ∃ xs, ds = [.list xs] ∧ xs.length ≤ 1000
def post_l_mixed : List PyData → List PyData → Prop := fun ds es => ∃ xs, ds = [.list xs] ∧ es.Perm xs
def sp_l_mixed (K : PySem.W.Frag) : Sp := spGO K pre_l_mixed post_l_mixed
theorem n_l_mixed : ∀ ds, pre_l_mixed ds → ds.length = 1 := by
  rintro ds ⟨xs, rfl, _⟩
  rfl
def pre_l_subs (n : Nat) : List PyData → Prop := fun ds => ∃ t, ds = [t] ∧ tm t = true ∧ t.depth ≤ n ∧ n ≤ 12 ∧ t.depth ≤ 8 ∧ nd t ≤ 60
def post_l_subs : List PyData → List PyData → Prop := fun ds es => ∃ t, ds = [t] ∧ es.length ≤ nd t ∧ es.Pairwise LT ∧ ∀ x, x ∈ es ↔ Sub x t
def sp_l_subs (K : PySem.W.Frag) (n : Nat) : Sp := spPO K (pre_l_subs n) post_l_subs
theorem n_l_subs (n : Nat) : ∀ ds, pre_l_subs n ds → ds.length = 1 := by
  rintro ds ⟨c, rfl, _⟩
  rfl
theorem no_l_subs : ∀ ds, ¬ pre_l_subs 0 ds := by
  rintro ds ⟨t, _, h, h2, _⟩
  have := tm_depth h
  omega
def pre_l_size (n : Nat) : List PyData → Prop := fun ds => ∃ t, ds = [t] ∧ tm t = true ∧ t.depth ≤ n ∧ n ≤ 12 ∧ nd t ≤ 5000
def post_l_size : List PyData → PyData → Prop := fun ds d => ∃ t, ds = [t] ∧ d = .int (nd t : Nat)
def sp_l_size (K : PySem.W.Frag) (n : Nat) : Sp := spP K (pre_l_size n) post_l_size
theorem n_l_size (n : Nat) : ∀ ds, pre_l_size n ds → ds.length = 1 := by
  rintro ds ⟨c, rfl, _⟩
  rfl
theorem no_l_size : ∀ ds, ¬ pre_l_size 0 ds := by
  rintro ds ⟨t, _, h, h2, _⟩
  have := tm_depth h
  omega
def pre_l_terms : List PyData → Prop := fun ds => ds = [.int 7]
def post_l_terms : List PyData → List PyData → Prop := fun _ es => PoolL es
def sp_l_terms (K : PySem.W.Frag) : Sp := spGO K pre_l_terms post_l_terms
theorem n_l_terms : ∀ ds, pre_l_terms ds → ds.length = 1 := by
  rintro ds rfl
  rfl
def pre_l_deep_term : List PyData → Prop := fun ds => ∃ m : Nat, ds = [.int m] ∧ m ≤ 6
/-- one thing in another: one part each -/
inductive Deep : Nat → PyData → Prop
  | one {n : Str} (h : isNm n = true) : Deep 1 (.tuple [.str n])
  | more {n : Str} {k : Nat} {t : PyData} (h : isNm n = true) (d : Deep k t) : Deep (k + 1) (.tuple [.str n, t])
def post_l_deep_term : List PyData → PyData → Prop := fun _ d => ∃ k, Deep k d ∧ k ≤ 7
def sp_l_deep_term (K : PySem.W.Frag) : Sp := spG K pre_l_deep_term post_l_deep_term
theorem n_l_deep_term : ∀ ds, pre_l_deep_term ds → ds.length = 1 := by
  rintro ds ⟨m, rfl, _⟩
  rfl

def leafV (kvs : List (PyData × PyData)) : PyData → PyData
  | .str n => (getI kvs (.inr n)).getD (.tuple [.str n])
  | x => .tuple [x]
mutual
/-- the term with all things exchanged -/
def putV (kvs : List (PyData × PyData)) : PyData → PyData
  | .none => .none
  | .bool b => .bool b
  | .int i => .int i
  | .str s => .str s
  | .list xs => .list xs
  | .tuple xs => putH kvs xs
  | .dict k => .dict k
def putH (kvs : List (PyData × PyData)) : List PyData → PyData
  | [] => .tuple []
  | x :: ps => bif ps.isEmpty then leafV kvs x else .tuple (x :: putAll kvs ps)
def putAll (kvs : List (PyData × PyData)) : List PyData → List PyData
  | [] => []
  | x :: xs => putV kvs x :: putAll kvs xs
end
/-- names and terms -/
structure NmOk (kvs : List (PyData × PyData)) : Prop where
  k : ∀ p ∈ kvs, ∃ n : Str, p.1 = .str n ∧ isNm n = true
  v : ∀ p ∈ kvs, okT p.2
  l : kvs.length ≤ 20
def pre_put_in (n : Nat) : List PyData → Prop := fun ds => ∃ t kvs, ds = [t, .dict kvs] ∧ NmOk kvs ∧ tm t = true ∧ t.depth ≤ n ∧ n ≤ 12 ∧ nd t ≤ 60
def post_put_in : List PyData → PyData → Prop := fun ds d => ∃ t kvs, ds = [t, .dict kvs] ∧ d = putV kvs t
def sp_put_in (K : PySem.W.Frag) (n : Nat) : Sp := spP K (pre_put_in n) post_put_in
theorem n_put_in (n : Nat) : ∀ ds, pre_put_in n ds → ds.length = 2 := by
  rintro ds ⟨c, _, rfl, _⟩
  rfl
theorem no_put_in : ∀ ds, ¬ pre_put_in 0 ds := by
  rintro ds ⟨t, _, _, _, h, h2, _⟩
  have := tm_depth h
  omega
abbrev pre_l_put := pre_put_in
abbrev post_l_put := post_put_in
def sp_l_put (K : PySem.W.Frag) (n : Nat) : Sp := spP K (pre_l_put n) post_l_put
abbrev n_l_put := n_put_in
abbrev no_l_put := no_put_in
def pre_l_names : List PyData → Prop := fun ds => ∃ ts, ds = [.list ts] ∧ PoolL ts
def post_l_names : List PyData → PyData → Prop := fun _ d => ∃ kvs, d = .dict kvs ∧ NmOk kvs
def sp_l_names (K : PySem.W.Frag) : Sp := spG K pre_l_names post_l_names
theorem n_l_names : ∀ ds, pre_l_names ds → ds.length = 1 := by
  rintro ds ⟨ts, rfl, _⟩
  rfl
def t_put_in (K : PySem.W.Frag) (n : Nat) : TS := (tSeq (tIfS (tTest (tOp (rEqU K) (tCB (rLenU K) (tCons (tVar 0) tNil)) (tC (.int 1)))) (tRet (tGetKZ TheW.w (tVar 1) (tOp (rIx K) (tVar 0) (tC (.int 0))) (tVar 0))) tNext)
    (tSeq (tAsg (tSl (rSlU K) (tVar 0) tNoPart (tPart (tC (.int 1)))) (gName 2))
    (tSeq (tFor (iTup K (tSl (rSlU K) (tVar 0) (tPart (tC (.int 1))) tNoPart)) (gName 3) (tAsg (tOp (rAddU K) (tVar 2) (tTup (tCons (tCall (sp_put_in K n) [] E0 (tCons (tVar 3) (tCons (tVar 1) tNil))) tNil))) (gName 2)))
    (tRet (tVar 2)))))
def d_put_in (n : Nat) : DS := (dSeq (dIfS (dTest (dOp dEq (dCB dLen (dCons (dVar 0) dNil)) (dC (.int 1)))) (dRet (dGetKZ (dVar 1) (dOp dIx (dVar 0) (dC (.int 0))) (dVar 0))) dNext)
    (dSeq (dAsg (dSl dSlice (dVar 0) dNoPart (dPart (dC (.int 1)))) (dgName 2))
    (dSeq (dFor (dItemsT (dSl dSlice (dVar 0) (dPart (dC (.int 1))) dNoPart)) (dgName 3) (dAsg (dOp dAdd (dVar 2) (dTup (dCons (dCall (pre_put_in n) post_put_in (dCons (dVar 3) (dCons (dVar 1) dNil))) dNil))) (dgName 2)))
    (dRet (dVar 2)))))
theorem m_put_in {K : PySem.W.Frag} {b : Bg} {n : Nat} : SimS K none b (t_put_in K n) (d_put_in n) := (sim_seq (sim_if (sim_test (sim_op simr_eq (sim_cb simc_len (sim_cons sim_var sim_nil)) sim_int)) (sim_ret (sim_getKZ sim_var (sim_op simr_ix sim_var sim_int) sim_var)) sim_next)
    (sim_seq (sim_asg (sim_sl sims_slice sim_var sim_noPart (sim_part sim_int)) (simg_name (by decide)))
    (sim_seq (sim_for (sim_iTup (sim_sl sims_slice sim_var (sim_part sim_int) sim_noPart)) (simg_name (by decide)) (sim_asg (sim_op sim_add sim_var (sim_tup (sim_cons (sim_callP (sim_cons sim_var (sim_cons sim_var sim_nil))) sim_nil))) (simg_name (by decide))))
    (sim_ret sim_var))))

def t_l_takeB (K : PySem.W.Frag) : TS := (tSeq (tIfS (tTest (tOp (rEqU K) (tOp (rIx K) (tVar 0) (tC (.int 0))) (tC (.int 0)))) (tSeq (tAsg (tOp (rIx K) (tOp (rAddU K) (tSl (rSlU K) (tOp (rIx K) (tVar 0) (tC (.int 3))) (tPart (tOp (rIx K) (tVar 0) (tC (.int 2)))) tNoPart) (tLst (tCons (tC (.int 0)) tNil))) (tC (.int 0))) (gName 2))
    (tSeq (tAugS (tVar 0) (tC (.int 2)) (tC (.int 1)) (rAt K) (ipI fun i j => i + j) rSetL)
    (tSeq (tAsg (tOp (rI CMul fun i j => .int (i * j)) (tVar 2) (tCB rInt1 (tCons (tOp (rLtU (fun i j => decide (j ≤ i)) fun i j => !ltS i j) (tVar 2) (tOp (rI CPow fun i j => .int (i ^ j.toNat)) (tC (.int 10)) (tC (.int 18)))) tNil))) (gSub (tVar 0) (tC (.int 0)) rSetL))
    (tSeq (tAsg (tOp (rAddU K) (tOp (rAddU K) (tOp (rI CMul fun i j => .int (i * j)) (tOp (rIx K) (tVar 0) (tC (.int 1))) (tC (.int 48271))) (tOp (rI (fun _ j => j ≠ 0) fun i j => .int (i.fmod j)) (tCB rInt1 (tCons (tVar 2) tNil)) (tC (.int 2147483647)))) (tOp (rI CMul fun i j => .int (i * j)) (tC (.int 7919)) (tOp (rIx K) (tVar 0) (tC (.int 2))))) (gName 3))
    (tAsg (tOp (rI (fun _ j => j ≠ 0) fun i j => .int (i.fmod j)) (tCB rInt1 (tCons (tVar 3) tNil)) (tC (.int 2147483647))) (gSub (tVar 0) (tC (.int 1)) rSetL)))))) tNext)
    (tSeq (tIfS (tTest (tOp (rLtU (fun i j => decide (j < i)) fun i j => ltS j i) (tOp (rIx K) (tVar 0) (tC (.int 0))) (tC (.int 0)))) (tSeq (tAsg (tTup (tCons (tOp (rI (fun _ j => j ≠ 0) fun i j => .int (i.fmod j)) (tCB rInt1 (tCons (tOp (rIx K) (tVar 0) (tC (.int 0))) tNil)) (tVar 1)) (tCons (tOp (rI CDivW fun i j => .int (i / j)) (tCB rInt1 (tCons (tOp (rIx K) (tVar 0) (tC (.int 0))) tNil)) (tVar 1)) tNil))) (gTup K 2 (gCons (gName 4) (gCons (gSub (tVar 0) (tC (.int 0)) rSetL) gNil))))
    (tRet (tVar 4))) tNext)
    (tSeq (tAsg (tOp (rI (fun _ j => j ≠ 0) fun i j => .int (i.fmod j)) (tCB rInt1 (tCons (tOp (rI CMul fun i j => .int (i * j)) (tOp (rAddU K) (tOp (rIx K) (tVar 0) (tC (.int 1))) (tC (.int 1))) (tC (.int 39373))) tNil)) (tC (.int 1000000007))) (gName 5))
    (tSeq (tAsg (tOp (rI (fun _ j => j ≠ 0) fun i j => .int (i.fmod j)) (tCB rInt1 (tCons (tOp (rI CMul fun i j => .int (i * j)) (tOp (rI (fun _ j => j ≠ 0) fun i j => .int (i.fmod j)) (tCB rInt1 (tCons (tOp (rI CMul fun i j => .int (i * j)) (tVar 5) (tVar 5)) tNil)) (tC (.int 998244353))) (tC (.int 30011))) tNil)) (tC (.int 998244353))) (gName 6))
    (tRet (tOp (rI (fun _ j => j ≠ 0) fun i j => .int (i.fmod j)) (tCB rInt1 (tCons (tOp (rI CDivW fun i j => .int (i / j)) (tVar 6) (tC (.int 7))) tNil)) (tVar 1)))))))
def d_l_takeB : DS := (dSeq (dIfS (dTest (dOp dEq dBag (dC (.int 0)))) (dSeq (dAsg (dOp dIx (dOp dAdd dCells (dLst (dCons (dC (.int 0)) dNil))) (dC (.int 0))) (dgName 2))
    (dSeq (dBagAug (dC (.int 1)))
    (dSeq (dAsg (dOp (dIC CMul fun i j => i * j) (dVar 2) (dCB dInt1 (dCons (dOp (dLt (fun i j => decide (j ≤ i)) fun i j => !ltS i j) (dVar 2) (dOp (dIC CPow fun i j => i ^ j.toNat) (dC (.int 10)) (dC (.int 18)))) dNil))) dgBag)
    (dSeq (dAsg (dOp dAdd (dOp dAdd (dOp (dIC CMul fun i j => i * j) dBag (dC (.int 48271))) (dOp (dIC (fun _ j => j ≠ 0) fun i j => i.fmod j) (dCB dInt1 (dCons (dVar 2) dNil)) (dC (.int 2147483647)))) (dOp (dIC CMul fun i j => i * j) (dC (.int 7919)) dBagAny)) (dgName 3))
    (dAsg (dOp (dIC (fun _ j => j ≠ 0) fun i j => i.fmod j) (dCB dInt1 (dCons (dVar 3) dNil)) (dC (.int 2147483647))) dgBag))))) dNext)
    (dSeq (dIfS (dTest (dOp (dLt (fun i j => decide (j < i)) fun i j => ltS j i) dBag (dC (.int 0)))) (dSeq (dAsg (dTup (dCons (dOp (dIC (fun _ j => j ≠ 0) fun i j => i.fmod j) (dCB dInt1 (dCons dBag dNil)) (dVar 1)) (dCons (dOp (dIC CDivW fun i j => i / j) (dCB dInt1 (dCons dBag dNil)) (dVar 1)) dNil))) (dgTup 2 (dgCons (dgName 4) (dgCons dgBag dgNil))))
    (dRet (dVar 4))) dNext)
    (dSeq (dAsg (dOp (dIC (fun _ j => j ≠ 0) fun i j => i.fmod j) (dCB dInt1 (dCons (dOp (dIC CMul fun i j => i * j) (dOp dAdd dBag (dC (.int 1))) (dC (.int 39373))) dNil)) (dC (.int 1000000007))) (dgName 5))
    (dSeq (dAsg (dOp (dIC (fun _ j => j ≠ 0) fun i j => i.fmod j) (dCB dInt1 (dCons (dOp (dIC CMul fun i j => i * j) (dOp (dIC (fun _ j => j ≠ 0) fun i j => i.fmod j) (dCB dInt1 (dCons (dOp (dIC CMul fun i j => i * j) (dVar 5) (dVar 5)) dNil)) (dC (.int 998244353))) (dC (.int 30011))) dNil)) (dC (.int 998244353))) (dgName 6))
    (dRet (dOp (dIC (fun _ j => j ≠ 0) fun i j => i.fmod j) (dCB dInt1 (dCons (dOp (dIC CDivW fun i j => i / j) (dVar 6) (dC (.int 7))) dNil)) (dVar 1)))))))
theorem m_l_takeB {K : PySem.W.Frag} {b : Bg} : SimS K (some 0) b (t_l_takeB K) (d_l_takeB) := (sim_seq (sim_if (sim_test (sim_op simr_eq (sim_bag rfl (.inl rfl)) sim_int)) (sim_seq (sim_asg (sim_op simr_ix (sim_op sim_add (sim_cells rfl) (sim_lst (sim_cons sim_int sim_nil))) sim_int) (simg_name (by decide)))
    (sim_seq (sim_bagAug rfl sim_int)
    (sim_seq (sim_asg (sim_op simr_IC sim_var (sim_cb simc_int1 (sim_cons (sim_op simr_lt sim_var (sim_op simr_IC sim_int sim_int)) sim_nil))) (simg_bag rfl (.inl rfl)))
    (sim_seq (sim_asg (sim_op sim_add (sim_op sim_add (sim_op simr_IC (sim_bag rfl (.inr rfl)) sim_int) (sim_op simr_IC (sim_cb simc_int1 (sim_cons sim_var sim_nil)) sim_int)) (sim_op simr_IC sim_int (sim_bag2 rfl))) (simg_name (by decide)))
    (sim_asg (sim_op simr_IC (sim_cb simc_int1 (sim_cons sim_var sim_nil)) sim_int) (simg_bag rfl (.inr rfl))))))) sim_next)
    (sim_seq (sim_if (sim_test (sim_op simr_lt (sim_bag rfl (.inl rfl)) sim_int)) (sim_seq (sim_asg (sim_tup (sim_cons (sim_op simr_IC (sim_cb simc_int1 (sim_cons (sim_bag rfl (.inl rfl)) sim_nil)) sim_var) (sim_cons (sim_op simr_IC (sim_cb simc_int1 (sim_cons (sim_bag rfl (.inl rfl)) sim_nil)) sim_var) sim_nil))) (simg_tup (simg_cons (simg_name (by decide)) (simg_cons (simg_bag rfl (.inl rfl)) simg_nil))))
    (sim_ret sim_var)) sim_next)
    (sim_seq (sim_asg (sim_op simr_IC (sim_cb simc_int1 (sim_cons (sim_op simr_IC (sim_op sim_add (sim_bag rfl (.inr rfl)) sim_int) sim_int) sim_nil)) sim_int) (simg_name (by decide)))
    (sim_seq (sim_asg (sim_op simr_IC (sim_cb simc_int1 (sim_cons (sim_op simr_IC (sim_op simr_IC (sim_cb simc_int1 (sim_cons (sim_op simr_IC sim_var sim_var) sim_nil)) sim_int) sim_int) sim_nil)) sim_int) (simg_name (by decide)))
    (sim_ret (sim_op simr_IC (sim_cb simc_int1 (sim_cons (sim_op simr_IC sim_var sim_int) sim_nil)) sim_var))))))

def t_l_mixed (K : PySem.W.Frag) : TS := (tSeq (tAsg (tLst tNil) (gName 2))
    (tSeq (tFor (iList K (tVar 1)) (gName 3) (tDrop (tBM K "list" rInsertL (tVar 2) (tCons (tCall (sp_l_takeB K) [] E0 (tCons (tVar 0) (tCons (tOp (rAddU K) (tCB (rLenU K) (tCons (tVar 2) tNil)) (tC (.int 1))) tNil))) (tCons (tVar 3) tNil)))))
    (tRet (tVar 2))))
def d_l_mixed : DS := (dSeq (dAsgN (dnLst dNil) 2)
    (dSeq (dFor (dItems (dVar 1)) (dgName 3) (dInsert 2 (dBorrow  2 (dCall pre_l_takeB post_l_takeB (dCons (dOp dAdd (dCB dLen (dCons (dVar 2) dNil)) (dC (.int 1))) dNil))) (dVar 3)))
    (dRetOwn 2)))
theorem m_l_mixed {K : PySem.W.Frag} {b : Bg} : SimS K (some 0) b (t_l_mixed K) (d_l_mixed) := (sim_seq (sim_asgN (by decide) (sim_nLst sim_nil))
    (sim_seq (sim_for (sim_iList sim_var) (simg_name (by decide)) (sim_insert (by decide) (sim_borrow  (sim_callG rfl (sim_cons (sim_op sim_add (sim_cb simc_len (sim_cons sim_var sim_nil)) sim_int) sim_nil))) sim_var))
    sim_retOwn))

def t_l_size (K : PySem.W.Frag) (n : Nat) : TS := (tRet (tOp (rAddU K) (tC (.int 1)) (tCB (rSum K) (tCons (tLc (iTup K (tSl (rSlU K) (tVar 0) (tPart (tC (.int 1))) tNoPart)) (gName 1) tYes (tCall (sp_l_size K n) [] E0 (tCons (tVar 1) tNil)) [1]) tNil))))
def d_l_size (n : Nat) : DS := (dRet (dOp dAdd (dC (.int 1)) (dCB dSum (dCons (dLc (dItemsT (dSl dSlice (dVar 0) (dPart (dC (.int 1))) dNoPart)) 1 dYes (dCall (pre_l_size n) post_l_size (dCons (dVar 1) dNil)) [1]) dNil))))
theorem m_l_size {K : PySem.W.Frag} {b : Bg} {n : Nat} : SimS K none b (t_l_size K n) (d_l_size n) := (sim_ret (sim_op sim_add sim_int (sim_cb simc_sum (sim_cons (sim_lc (by decide) (by intro i hi; cases hi <;> decide) (sim_iTup (sim_sl sims_slice sim_var (sim_part sim_int) sim_noPart)) sim_yes (sim_callP (sim_cons sim_var sim_nil))) sim_nil))))

def t_l_terms (K : PySem.W.Frag) : TS := (tSeq (tAsg (tCall (sp_l_mixed K) [] E0 (tCons (tVar 0) (tCons (tLst (tCons (tC (.str "a")) (tCons (tC (.str "b")) (tCons (tC (.str "c")) (tCons (tC (.str "d")) (tCons (tC (.str "f")) (tCons (tC (.str "ab")) (tCons (tC (.str "zzzzzzzz")) tNil)))))))) tNil))) (gName 2))
    (tSeq (tAsg (tLst (tCons (tLst (tCons (tTup (tCons (tC (.str "f")) (tCons (tC (.int 1)) tNil))) tNil)) (tCons (tLst (tCons (tTup (tCons (tC (.str "f")) (tCons (tC (.int 1)) tNil))) tNil)) (tCons (tLst (tCons (tTup (tCons (tC (.str "f")) (tCons (tC (.int 1)) tNil))) (tCons (tTup (tCons (tC (.str "g")) (tCons (tC (.int 2)) tNil))) tNil))) (tCons (tLst (tCons (tTup (tCons (tC (.str "f")) (tCons (tC (.int 2)) tNil))) tNil)) (tCons (tLst (tCons (tTup (tCons (tC (.str "f")) (tCons (tC (.int 1)) tNil))) (tCons (tTup (tCons (tC (.str "f")) (tCons (tC (.int 2)) tNil))) tNil))) (tCons (tLst (tCons (tTup (tCons (tC (.str "a")) (tCons (tC (.int 1)) tNil))) tNil)) (tCons (tLst (tCons (tTup (tCons (tC (.str "g")) (tCons (tC (.int 3)) tNil))) tNil)) tNil)))))))) (gName 3))
    (tSeq (tAsg (tCall (sp_l_one K) [] E0 (tCons (tVar 0) (tCons (tOp (rAddU K) (tVar 3) (tLst (tCons (tLst (tCons (tTup (tCons (tC (.str "f")) (tCons (tC (.int 1)) tNil))) (tCons (tTup (tCons (tC (.str "g")) (tCons (tC (.int 1)) tNil))) (tCons (tTup (tCons (tC (.str "h")) (tCons (tC (.int 2)) tNil))) tNil)))) (tCons (tLst (tCons (tTup (tCons (tC (.str "f")) (tCons (tC (.int 4)) tNil))) tNil)) (tCons (tLst (tCons (tTup (tCons (tC (.str "f")) (tCons (tC (.int 1)) tNil))) (tCons (tTup (tCons (tC (.str "h")) (tCons (tC (.int 5)) tNil))) tNil))) tNil))))) tNil))) (gName 4))
    (tSeq (tAsg (tTup (tCons (tLst (tCons (tTup (tCons (tOp (rIx K) (tVar 2) (tC (.int 0))) tNil)) tNil)) (tCons (tC (.int 1)) (tCons (tCall (sp_l_one K) [] E0 (tCons (tVar 0) (tCons (tLst (tCons (tC (.int 4)) (tCons (tC (.int 4)) (tCons (tC (.int 4)) (tCons (tC (.int 6)) tNil))))) tNil))) tNil)))) (gTup K 3 (gCons (gName 5) (gCons (gName 6) (gCons (gName 7) gNil)))))
    (tSeq (tAsg (tOp (rI0 fun i j => .int (i - j)) (tVar 1) (tCall (sp_l_one K) [] E0 (tCons (tVar 0) (tCons (tLst (tCons (tC (.int 0)) (tCons (tC (.int 0)) (tCons (tC (.int 0)) (tCons (tC (.int 0)) (tCons (tC (.int 1)) (tCons (tC (.int 2)) (tCons (tCall (sp_l_takeB K) [] E0 (tCons (tVar 0) (tCons (tVar 1) tNil))) tNil)))))))) tNil)))) (gName 8))
    (tSeq (tFor (iRng1 (tCons (tOp (rI CMul fun i j => .int (i * j)) (tOp (rI CMul fun i j => .int (i * j)) (tC (.int 3)) (tVar 1)) (tCB rInt1 (tCons (tOp (rLtU (fun i j => decide (j < i)) fun i j => ltS j i) (tVar 8) (tC (.int 1))) tNil))) tNil)) (gName 9) (tSeq (tIfS (tTest (tOp (rLtU (fun i j => decide (j ≤ i)) fun i j => !ltS i j) (tCB (rLenU K) (tCons (tVar 5) tNil)) (tVar 8))) tBreak tNext)
    (tSeq (tIfS (tAnd (tTest (tOp (rLtU (fun i j => decide (i < j)) fun i j => ltS i j) (tCall (sp_l_takeB K) [] E0 (tCons (tVar 0) (tCons (tC (.int 5)) tNil))) (tC (.int 2)))) (tTest (tOp (rLtU (fun i j => decide (i < j)) fun i j => ltS i j) (tVar 6) (tVar 7)))) (tPar 10 6 (tCons (tTup (tCons (tOp (rIx K) (tVar 2) (tVar 6)) tNil)) (tCons (tOp (rAddU K) (tVar 6) (tC (.int 1))) tNil))) (tSeq (tAsg (tCall (sp_l_one K) [] E0 (tCons (tVar 0) (tCons (tVar 4) tNil))) (gTup K 2 (gCons (gName 11) (gCons (gName 12) gNil))))
    (tAsg (tOp (rAddU K) (tTup (tCons (tVar 11) tNil)) (tCB (rTupOf K) (tCons (tLc (iRng1 (tCons (tVar 12) tNil)) (gName 13) tYes (tCall (sp_l_one K) [] E0 (tCons (tVar 0) (tCons (tVar 5) tNil))) [13]) tNil))) (gName 10))))
    (tIfS (tAnd (tTest (tOp (rNotInD K) (tVar 10) (tVar 5))) (tTest (tOp (rLtU (fun i j => decide (i < j)) fun i j => ltS i j) (tCall (sp_l_size K 12) [] E0 (tCons (tVar 10) tNil)) (tC (.int 25))))) (tDrop (tBM K "list" rAppend (tVar 5) (tCons (tVar 10) tNil))) tNext))))
    (tRet (tCB (rSortedD K) (tCons (tVar 5) tNil)))))))))
def d_l_terms : DS := (dSeq (dAsg (dOfN (dnCall pre_l_mixed post_l_mixed (dCons (dLst (dCons (dC (.str "a")) (dCons (dC (.str "b")) (dCons (dC (.str "c")) (dCons (dC (.str "d")) (dCons (dC (.str "f")) (dCons (dC (.str "ab")) (dCons (dC (.str "zzzzzzzz")) dNil)))))))) dNil))) (dgName 2))
    (dSeq (dAsg (dLst (dCons (dLst (dCons (dTup (dCons (dC (.str "f")) (dCons (dC (.int 1)) dNil))) dNil)) (dCons (dLst (dCons (dTup (dCons (dC (.str "f")) (dCons (dC (.int 1)) dNil))) dNil)) (dCons (dLst (dCons (dTup (dCons (dC (.str "f")) (dCons (dC (.int 1)) dNil))) (dCons (dTup (dCons (dC (.str "g")) (dCons (dC (.int 2)) dNil))) dNil))) (dCons (dLst (dCons (dTup (dCons (dC (.str "f")) (dCons (dC (.int 2)) dNil))) dNil)) (dCons (dLst (dCons (dTup (dCons (dC (.str "f")) (dCons (dC (.int 1)) dNil))) (dCons (dTup (dCons (dC (.str "f")) (dCons (dC (.int 2)) dNil))) dNil))) (dCons (dLst (dCons (dTup (dCons (dC (.str "a")) (dCons (dC (.int 1)) dNil))) dNil)) (dCons (dLst (dCons (dTup (dCons (dC (.str "g")) (dCons (dC (.int 3)) dNil))) dNil)) dNil)))))))) (dgName 3))
    (dSeq (dAsg (dCall pre_l_one post_l_one (dCons (dOp dAdd (dVar 3) (dLst (dCons (dLst (dCons (dTup (dCons (dC (.str "f")) (dCons (dC (.int 1)) dNil))) (dCons (dTup (dCons (dC (.str "g")) (dCons (dC (.int 1)) dNil))) (dCons (dTup (dCons (dC (.str "h")) (dCons (dC (.int 2)) dNil))) dNil)))) (dCons (dLst (dCons (dTup (dCons (dC (.str "f")) (dCons (dC (.int 4)) dNil))) dNil)) (dCons (dLst (dCons (dTup (dCons (dC (.str "f")) (dCons (dC (.int 1)) dNil))) (dCons (dTup (dCons (dC (.str "h")) (dCons (dC (.int 5)) dNil))) dNil))) dNil))))) dNil)) (dgName 4))
    (dSeq (dPar3O 5 6 7 (dnLst (dCons (dTup (dCons (dOp dIx (dVar 2) (dC (.int 0))) dNil)) dNil)) (dC (.int 1)) (dCall pre_l_one post_l_one (dCons (dLst (dCons (dC (.int 4)) (dCons (dC (.int 4)) (dCons (dC (.int 4)) (dCons (dC (.int 6)) dNil))))) dNil)))
    (dSeq (dAsg (dOp (dII fun i j => i - j) (dVar 1) (dCall pre_l_one post_l_one (dCons (dLst (dCons (dC (.int 0)) (dCons (dC (.int 0)) (dCons (dC (.int 0)) (dCons (dC (.int 0)) (dCons (dC (.int 1)) (dCons (dC (.int 2)) (dCons (dCall pre_l_takeB post_l_takeB (dCons (dVar 1) dNil)) dNil)))))))) dNil))) (dgName 8))
    (dSeq (dFor (dRng1 (dCons (dOp (dIC CMul fun i j => i * j) (dOp (dIC CMul fun i j => i * j) (dC (.int 3)) (dVar 1)) (dCB dInt1 (dCons (dOp (dLt (fun i j => decide (j < i)) fun i j => ltS j i) (dVar 8) (dC (.int 1))) dNil))) dNil)) (dgName 9) (dSeq (dIfS (dBorrowT 5 (dTest (dOp (dLt (fun i j => decide (j ≤ i)) fun i j => !ltS i j) (dCB dLen (dCons (dVar 5) dNil)) (dVar 8)))) dBreak dNext)
    (dSeq (dIfS (dAnd (dTest (dOp (dLt (fun i j => decide (i < j)) fun i j => ltS i j) (dCall pre_l_takeB post_l_takeB (dCons (dC (.int 5)) dNil)) (dC (.int 2)))) (dTest (dOp (dLt (fun i j => decide (i < j)) fun i j => ltS i j) (dVar 6) (dVar 7)))) (dPar 10 6 (dCons (dTup (dCons (dOp dIx (dVar 2) (dVar 6)) dNil)) (dCons (dOp dAdd (dVar 6) (dC (.int 1))) dNil))) (dSeq (dAsg (dCall pre_l_one post_l_one (dCons (dVar 4) dNil)) (dgTup 2 (dgCons (dgName 11) (dgCons (dgName 12) dgNil))))
    (dAsg (dBorrow  5 (dOp dAdd (dTup (dCons (dVar 11) dNil)) (dCB dTupOf (dCons (dLc (dRng1 (dCons (dVar 12) dNil)) 13 dYes (dCall pre_l_one post_l_one (dCons (dVar 5) dNil)) [13]) dNil)))) (dgName 10))))
    (dIfS (dBorrowT 5 (dAnd (dTest (dOp (dInD true) (dVar 10) (dVar 5))) (dTest (dOp (dLt (fun i j => decide (i < j)) fun i j => ltS i j) (dCall (pre_l_size 12) post_l_size (dCons (dVar 10) dNil)) (dC (.int 25)))))) (dAppend 5 (dVar 10)) dNext))))
    (dRetO (dBorrowN 5 (dnSorted (dVar 5))))))))))
theorem m_l_terms {K : PySem.W.Frag} {b : Bg} : SimS K (some 0) b (t_l_terms K) (d_l_terms) := (sim_seq (sim_asg (sim_ofN (sim_nCallG rfl (sim_cons (sim_lst (sim_cons sim_str (sim_cons sim_str (sim_cons sim_str (sim_cons sim_str (sim_cons sim_str (sim_cons sim_str (sim_cons sim_str sim_nil)))))))) sim_nil))) (simg_name (by decide)))
    (sim_seq (sim_asg (sim_lst (sim_cons (sim_lst (sim_cons (sim_tup (sim_cons sim_str (sim_cons sim_int sim_nil))) sim_nil)) (sim_cons (sim_lst (sim_cons (sim_tup (sim_cons sim_str (sim_cons sim_int sim_nil))) sim_nil)) (sim_cons (sim_lst (sim_cons (sim_tup (sim_cons sim_str (sim_cons sim_int sim_nil))) (sim_cons (sim_tup (sim_cons sim_str (sim_cons sim_int sim_nil))) sim_nil))) (sim_cons (sim_lst (sim_cons (sim_tup (sim_cons sim_str (sim_cons sim_int sim_nil))) sim_nil)) (sim_cons (sim_lst (sim_cons (sim_tup (sim_cons sim_str (sim_cons sim_int sim_nil))) (sim_cons (sim_tup (sim_cons sim_str (sim_cons sim_int sim_nil))) sim_nil))) (sim_cons (sim_lst (sim_cons (sim_tup (sim_cons sim_str (sim_cons sim_int sim_nil))) sim_nil)) (sim_cons (sim_lst (sim_cons (sim_tup (sim_cons sim_str (sim_cons sim_int sim_nil))) sim_nil)) sim_nil)))))))) (simg_name (by decide)))
    (sim_seq (sim_asg (sim_callG rfl (sim_cons (sim_op sim_add sim_var (sim_lst (sim_cons (sim_lst (sim_cons (sim_tup (sim_cons sim_str (sim_cons sim_int sim_nil))) (sim_cons (sim_tup (sim_cons sim_str (sim_cons sim_int sim_nil))) (sim_cons (sim_tup (sim_cons sim_str (sim_cons sim_int sim_nil))) sim_nil)))) (sim_cons (sim_lst (sim_cons (sim_tup (sim_cons sim_str (sim_cons sim_int sim_nil))) sim_nil)) (sim_cons (sim_lst (sim_cons (sim_tup (sim_cons sim_str (sim_cons sim_int sim_nil))) (sim_cons (sim_tup (sim_cons sim_str (sim_cons sim_int sim_nil))) sim_nil))) sim_nil))))) sim_nil)) (simg_name (by decide)))
    (sim_seq (sim_tup3O (by decide) (by decide) (by decide) (sim_nLst (sim_cons (sim_tup (sim_cons (sim_op simr_ix sim_var sim_int) sim_nil)) sim_nil)) sim_int (sim_callG rfl (sim_cons (sim_lst (sim_cons sim_int (sim_cons sim_int (sim_cons sim_int (sim_cons sim_int sim_nil))))) sim_nil)))
    (sim_seq (sim_asg (sim_op simr_II sim_var (sim_callG rfl (sim_cons (sim_lst (sim_cons sim_int (sim_cons sim_int (sim_cons sim_int (sim_cons sim_int (sim_cons sim_int (sim_cons sim_int (sim_cons (sim_callG rfl (sim_cons sim_var sim_nil)) sim_nil)))))))) sim_nil))) (simg_name (by decide)))
    (sim_seq (sim_for (sim_rng1 (sim_cons (sim_op simr_IC (sim_op simr_IC sim_int sim_var) (sim_cb simc_int1 (sim_cons (sim_op simr_lt sim_var sim_int) sim_nil))) sim_nil)) (simg_name (by decide)) (sim_seq (sim_if (sim_borrowT (sim_test (sim_op simr_lt (sim_cb simc_len (sim_cons sim_var sim_nil)) sim_var))) sim_break sim_next)
    (sim_seq (sim_if (sim_and (sim_test (sim_op simr_lt (sim_callG rfl (sim_cons sim_int sim_nil)) sim_int)) (sim_test (sim_op simr_lt sim_var sim_var))) (sim_par (by decide) (by decide) (sim_cons (sim_tup (sim_cons (sim_op simr_ix sim_var sim_var) sim_nil)) (sim_cons (sim_op sim_add sim_var sim_int) sim_nil))) (sim_seq (sim_asg (sim_callG rfl (sim_cons sim_var sim_nil)) (simg_tup (simg_cons (simg_name (by decide)) (simg_cons (simg_name (by decide)) simg_nil))))
    (sim_asg (sim_borrow  (sim_op sim_add (sim_tup (sim_cons sim_var sim_nil)) (sim_cb simc_tupOf (sim_cons (sim_lc (by decide) (by intro i hi; cases hi <;> decide) (sim_rng1 (sim_cons sim_var sim_nil)) sim_yes (sim_callG rfl (sim_cons sim_var sim_nil))) sim_nil)))) (simg_name (by decide)))))
    (sim_if (sim_borrowT (sim_and (sim_test (sim_op simr_notInD sim_var sim_var)) (sim_test (sim_op simr_lt (sim_callP (sim_cons sim_var sim_nil)) sim_int)))) (sim_append (by decide) sim_var) sim_next))))
    (sim_retO (sim_borrowN (sim_nSorted sim_var)))))))))

def t_l_subs (K : PySem.W.Frag) (n : Nat) : TS := (tSeq (tAsg (tLst (tCons (tVar 0) tNil)) (gName 1))
    (tSeq (tFor (iTup K (tSl (rSlU K) (tVar 0) (tPart (tC (.int 1))) tNoPart)) (gName 2) (tDrop (tBM K "list" rExtend (tVar 1) (tCons (tCall (sp_l_subs K n) [] E0 (tCons (tVar 2) tNil)) tNil))))
    (tRet (tCB (rSortedNS K TheW.w) (tCons (tCB (rSetN K TheW.w) (tCons (tVar 1) tNil)) tNil)))))
def d_l_subs (n : Nat) : DS := (dSeq (dAsgN (dnLst (dCons (dVar 0) dNil)) 1)
    (dSeq (dFor (dItemsT (dSl dSlice (dVar 0) (dPart (dC (.int 1))) dNoPart)) (dgName 2) (dExtend 1 (dOfN (dnCall (pre_l_subs n) post_l_subs (dCons (dVar 2) dNil)))))
    (dRetO (dBorrowN 1 (dnSortSet (dVar 1))))))
theorem m_l_subs {K : PySem.W.Frag} {b : Bg} {n : Nat} : SimS K none b (t_l_subs K n) (d_l_subs n) := (sim_seq (sim_asgN (by decide) (sim_nLst (sim_cons sim_var sim_nil)))
    (sim_seq (sim_for (sim_iTup (sim_sl sims_slice sim_var (sim_part sim_int) sim_noPart)) (simg_name (by decide)) (sim_extend (by decide) (sim_ofN (sim_nCallP (sim_cons sim_var sim_nil)))))
    (sim_retO (sim_borrowN (sim_nSortSet sim_var)))))

def t_l_put (K : PySem.W.Frag) (n : Nat) : TS := (tSeq (tIfS (tTest (tOp (rEqU K) (tCB (rLenU K) (tCons (tVar 0) tNil)) (tC (.int 1)))) (tRet (tGetKZ TheW.w (tVar 1) (tOp (rIx K) (tVar 0) (tC (.int 0))) (tVar 0))) tNext)
    (tRet (tOp (rAddU K) (tSl (rSlU K) (tVar 0) tNoPart (tPart (tC (.int 1)))) (tCB (rTupOf K) (tCons (tLc (iTup K (tSl (rSlU K) (tVar 0) (tPart (tC (.int 1))) tNoPart)) (gName 2) tYes (tCall (sp_l_put K n) [] E0 (tCons (tVar 2) (tCons (tVar 1) tNil))) [2]) tNil)))))
def d_l_put (n : Nat) : DS := (dSeq (dIfS (dTest (dOp dEq (dCB dLen (dCons (dVar 0) dNil)) (dC (.int 1)))) (dRet (dGetKZ (dVar 1) (dOp dIx (dVar 0) (dC (.int 0))) (dVar 0))) dNext)
    (dRet (dOp dAdd (dSl dSlice (dVar 0) dNoPart (dPart (dC (.int 1)))) (dCB dTupOf (dCons (dLc (dItemsT (dSl dSlice (dVar 0) (dPart (dC (.int 1))) dNoPart)) 2 dYes (dCall (pre_l_put n) post_l_put (dCons (dVar 2) (dCons (dVar 1) dNil))) [2]) dNil)))))
theorem m_l_put {K : PySem.W.Frag} {b : Bg} {n : Nat} : SimS K none b (t_l_put K n) (d_l_put n) := (sim_seq (sim_if (sim_test (sim_op simr_eq (sim_cb simc_len (sim_cons sim_var sim_nil)) sim_int)) (sim_ret (sim_getKZ sim_var (sim_op simr_ix sim_var sim_int) sim_var)) sim_next)
    (sim_ret (sim_op sim_add (sim_sl sims_slice sim_var sim_noPart (sim_part sim_int)) (sim_cb simc_tupOf (sim_cons (sim_lc (by decide) (by intro i hi; cases hi <;> decide) (sim_iTup (sim_sl sims_slice sim_var (sim_part sim_int) sim_noPart)) sim_yes (sim_callP (sim_cons sim_var (sim_cons sim_var sim_nil)))) sim_nil)))))

def t_l_deep_term (K : PySem.W.Frag) : TS := (tSeq (tAsg (tTup (tCons (tCall (sp_l_name K) [] E0 (tCons (tVar 0) tNil)) tNil)) (gName 2))
    (tSeq (tFor (iRng1 (tCons (tVar 1) tNil)) (gName 3) (tAsg (tTup (tCons (tCall (sp_l_name K) [] E0 (tCons (tVar 0) tNil)) (tCons (tVar 2) tNil))) (gName 2)))
    (tRet (tVar 2))))
def d_l_deep_term : DS := (dSeq (dAsg (dTup (dCons (dCall pre_l_name post_l_name dNil) dNil)) (dgName 2))
    (dSeq (dFor (dRng1 (dCons (dVar 1) dNil)) (dgName 3) (dAsg (dTup (dCons (dCall pre_l_name post_l_name dNil) (dCons (dVar 2) dNil))) (dgName 2)))
    (dRet (dVar 2))))
theorem m_l_deep_term {K : PySem.W.Frag} {b : Bg} : SimS K (some 0) b (t_l_deep_term K) (d_l_deep_term) := (sim_seq (sim_asg (sim_tup (sim_cons (sim_callG rfl sim_nil) sim_nil)) (simg_name (by decide)))
    (sim_seq (sim_for (sim_rng1 (sim_cons sim_var sim_nil)) (simg_name (by decide)) (sim_asg (sim_tup (sim_cons (sim_callG rfl sim_nil) (sim_cons sim_var sim_nil))) (simg_name (by decide))))
    (sim_ret sim_var)))

def t_l_names (K : PySem.W.Frag) : TS := (tSeq (tAsg (tCB (rSortedT TheW.w) (tCons (tCB (rSetT K TheW.w) (tCons (tOp (rAddU K) (tLc (iList K (tVar 1)) (gName 8) tYes (tOp (rIx K) (tVar 8) (tC (.int 0))) [8]) (tLst (tCons (tC (.str "q")) (tCons (tC (.str "a")) (tCons (tC (.str "b")) tNil))))) tNil)) tNil)) (gName 2))
    (tSeq (tPar 3 4 (tCons (tSl (rSlU K) (tCall (sp_l_mixed K) [] E0 (tCons (tVar 0) (tCons (tVar 2) tNil))) tNoPart (tPart (tCall (sp_l_takeB K) [] E0 (tCons (tVar 0) (tCons (tC (.int 7)) tNil))))) (tCons tDNewK tNil)))
    (tSeq (tAsg (tLc (iList K (tVar 1)) (gName 5) (tTest (tOp (rEqU K) (tCB (rLenU K) (tCons (tVar 5) tNil)) (tC (.int 1)))) (tVar 5) [5]) (gName 6))
    (tSeq (tIfS (tTest (tOp (rEqU K) (tCall (sp_l_takeB K) [] E0 (tCons (tVar 0) (tCons (tC (.int 3)) tNil))) (tC (.int 0)))) (tSeq (tFor (iEnum K (tCons (tVar 6) tNil)) (gTup K 2 (gCons (gName 7) (gCons (gName 5) gNil))) (sDPut (tVar 4) (tOp (rIx K) (tVar 5) (tC (.int 0))) (tOp (rIx K) (tVar 6) (tOp (rI0 fun i j => .int (i - j)) (tVar 7) (tC (.int 1))))))
    (tRet (tVar 4))) tNext)
    (tRet (tCB (rDictK K) (tCons (tLc (iList K (tVar 3)) (gName 9) tYes (tTup (tCons (tVar 9) (tCons (tCall (sp_l_one K) [] E0 (tCons (tVar 0) (tCons (tVar 1) tNil))) tNil))) [9]) tNil)))))))
def d_l_names : DS := (dSeq (dAsg (dOfN (dnSortSetT (dOp dAdd (dLc (dItems (dVar 1)) 8 dYes (dOp dIx (dVar 8) (dC (.int 0))) [8]) (dLst (dCons (dC (.str "q")) (dCons (dC (.str "a")) (dCons (dC (.str "b")) dNil))))))) (dgName 2))
    (dSeq (dParKD 3 4 (dSl dSlice (dOfN (dnCall pre_l_mixed post_l_mixed (dCons (dVar 2) dNil))) dNoPart (dPart (dCall pre_l_takeB post_l_takeB (dCons (dC (.int 7)) dNil)))))
    (dSeq (dAsg (dLc (dItems (dVar 1)) 5 (dTest (dOp dEq (dCB dLen (dCons (dVar 5) dNil)) (dC (.int 1)))) (dVar 5) [5]) (dgName 6))
    (dSeq (dIfS (dTest (dOp dEq (dCall pre_l_takeB post_l_takeB (dCons (dC (.int 3)) dNil)) (dC (.int 0)))) (dSeq (dFor (dEnumL (dVar 6)) (dgTup 2 (dgCons (dgName 7) (dgCons (dgName 5) dgNil))) (dPutK 4 (dOp dIx (dVar 5) (dC (.int 0))) (dOp dIx (dVar 6) (dOp (dII fun i j => i - j) (dVar 7) (dC (.int 1))))))
    (dRetK 4)) dNext)
    (dRet (dCB dDictPK (dCons (dLc (dItems (dVar 3)) 9 dYes (dTup (dCons (dVar 9) (dCons (dCall pre_l_one post_l_one (dCons (dVar 1) dNil)) dNil))) [9]) dNil)))))))
theorem m_l_names {K : PySem.W.Frag} {b : Bg} : SimS K (some 0) b (t_l_names K) (d_l_names) := (sim_seq (sim_asg (sim_ofN (sim_nSortSetT (sim_op sim_add (sim_lc (by decide) (by intro i hi; cases hi <;> decide) (sim_iList sim_var) sim_yes (sim_op simr_ix sim_var sim_int)) (sim_lst (sim_cons sim_str (sim_cons sim_str (sim_cons sim_str sim_nil))))))) (simg_name (by decide)))
    (sim_seq (sim_parKD (by decide) (by decide) (by decide) (sim_sl sims_slice (sim_ofN (sim_nCallG rfl (sim_cons sim_var sim_nil))) sim_noPart (sim_part (sim_callG rfl (sim_cons sim_int sim_nil)))))
    (sim_seq (sim_asg (sim_lc (by decide) (by intro i hi; cases hi <;> decide) (sim_iList sim_var) (sim_test (sim_op simr_eq (sim_cb simc_len (sim_cons sim_var sim_nil)) sim_int)) sim_var) (simg_name (by decide)))
    (sim_seq (sim_if (sim_test (sim_op simr_eq (sim_callG rfl (sim_cons sim_int sim_nil)) sim_int)) (sim_seq (sim_for (sim_iEnumL sim_var) (simg_tup (simg_cons (simg_name (by decide)) (simg_cons (simg_name (by decide)) simg_nil))) (sim_putK (sim_op simr_ix sim_var sim_int) (sim_op simr_ix sim_var (sim_op simr_II sim_var sim_int))))
    sim_retK) sim_next)
    (sim_ret (sim_cb simc_dictPK (sim_cons (sim_lc (by decide) (by intro i hi; cases hi <;> decide) (sim_iList sim_var) sim_yes (sim_tup (sim_cons sim_var (sim_cons (sim_callG rfl (sim_cons sim_var sim_nil)) sim_nil)))) sim_nil)))))))

def t_law (K : PySem.W.Frag) : TS := (tSeq (tFor (iRng1 (tCons (tC (.int 6)) tNil)) (gName 2) (tSeq (tAsg (tCall (sp_l_terms K) [] E0 (tCons (tVar 1) (tCons (tC (.int 7)) tNil))) (gName 3))
    (tSeq (tIfS (tTest (tOp (rEqU K) (tCall (sp_l_takeB K) [] E0 (tCons (tVar 1) (tCons (tC (.int 4)) tNil))) (tC (.int 0)))) (tAsg (tCall (sp_l_subs K 12) [] E0 (tCons (tCall (sp_l_deep_term K) [] E0 (tCons (tVar 1) (tCons (tCall (sp_l_takeB K) [] E0 (tCons (tVar 1) (tCons (tC (.int 7)) tNil))) tNil))) tNil)) (gName 3)) tNext)
    (tSeq (tFor (iRng1 (tCons (tC (.int 3)) tNil)) (gName 4) (tSeq (tPar 5 6 (tCons (tCall (sp_l_one K) [] E0 (tCons (tVar 1) (tCons (tOp (rAddU K) (tSl (rSlU K) (tVar 3) (tPart (tUn (rU fun i => .int (-i)) (tC (.int 2)))) tNoPart) (tVar 3)) tNil))) (tCons (tCall (sp_l_names K) [] E0 (tCons (tVar 1) (tCons (tVar 3) tNil))) tNil)))
    (tSeq (tPar 7 8 (tCons (tCB (rRepr K) (tCons (tLst (tCons (tVar 5) (tCons (tVar 6) tNil))) tNil)) (tCons (tCall (sp_l_put K 12) [] E0 (tCons (tVar 5) (tCons (tVar 6) tNil))) tNil)))
    (tFor (iRng1 (tCons (tC (.int 2)) tNil)) (gName 9) (tIfS (tOr (tNot (tB (tCall (sp_l_alike K) [] E0 (tCons (tCall (sp_put_in K 12) [] E0 (tCons (tVar 5) (tCons (tVar 6) tNil))) (tCons (tVar 8) tNil))))) (tTest (tOp (rNeU K) (tCB (rRepr K) (tCons (tLst (tCons (tVar 5) (tCons (tVar 6) tNil))) tNil)) (tVar 7)))) (tRet (tC (.bl false))) tNext)))))
    (tIfS (tNot (tB (tCall (sp_l_alike K) [] E0 (tCons (tCall (sp_put_in K 12) [] E0 (tCons (tOp (rIx K) (tVar 3) (tUn (rU fun i => .int (-i)) (tC (.int 1)))) (tCons tDNewK tNil))) (tCons (tOp (rIx K) (tVar 3) (tUn (rU fun i => .int (-i)) (tC (.int 1)))) tNil))))) (tRet (tC (.bl false))) tNext)))))
    (tRet (tCall (sp_l_alike K) [] E0 (tCons (tCall (sp_put_in K 12) [] E0 (tCons (tTup (tCons (tC (.str "a")) (tCons (tTup (tCons (tC (.str "a")) tNil)) (tCons (tTup (tCons (tC (.str "b")) tNil)) tNil)))) (tCons (tDisp [((tC (.str "a")), (tTup (tCons (tC (.str "b")) tNil))), ((tC (.str "b")), (tTup (tCons (tC (.str "a")) tNil)))]) tNil))) (tCons (tTup (tCons (tC (.str "a")) (tCons (tTup (tCons (tC (.str "b")) tNil)) (tCons (tTup (tCons (tC (.str "a")) tNil)) tNil)))) tNil)))))
def d_law : DS := (dSeq (dFor (dRng1 (dCons (dC (.int 6)) dNil)) (dgName 2) (dSeq (dAsg (dOfN (dnCall pre_l_terms post_l_terms (dCons (dC (.int 7)) dNil))) (dgName 3))
    (dSeq (dIfS (dTest (dOp dEq (dCall pre_l_takeB post_l_takeB (dCons (dC (.int 4)) dNil)) (dC (.int 0)))) (dAsg (dOfN (dnCall (pre_l_subs 12) post_l_subs (dCons (dCall pre_l_deep_term post_l_deep_term (dCons (dCall pre_l_takeB post_l_takeB (dCons (dC (.int 7)) dNil)) dNil)) dNil))) (dgName 3)) dNext)
    (dSeq (dFor (dRng1 (dCons (dC (.int 3)) dNil)) (dgName 4) (dSeq (dPar 5 6 (dCons (dCall pre_l_one post_l_one (dCons (dOp dAdd (dSl dSlice (dVar 3) (dPart (dUn dNeg (dC (.int 2)))) dNoPart) (dVar 3)) dNil)) (dCons (dCall pre_l_names post_l_names (dCons (dVar 3) dNil)) dNil)))
    (dSeq (dPar 7 8 (dCons (dCB dRepr (dCons (dLst (dCons (dVar 5) (dCons (dVar 6) dNil))) dNil)) (dCons (dCall (pre_l_put 12) post_l_put (dCons (dVar 5) (dCons (dVar 6) dNil))) dNil)))
    (dFor (dRng1 (dCons (dC (.int 2)) dNil)) (dgName 9) (dIfS (dOr (dNot (dTest (dCall pre_l_alike post_l_alike (dCons (dCall (pre_put_in 12) post_put_in (dCons (dVar 5) (dCons (dVar 6) dNil))) (dCons (dVar 8) dNil))))) (dTest (dOp dNe (dCB dRepr (dCons (dLst (dCons (dVar 5) (dCons (dVar 6) dNil))) dNil)) (dVar 7)))) (dRet (dC (.bool false))) dNext)))))
    (dIfS (dNot (dTest (dCall pre_l_alike post_l_alike (dCons (dCall (pre_put_in 12) post_put_in (dCons (dOp dIx (dVar 3) (dUn dNeg (dC (.int 1)))) (dCons dDict0 dNil))) (dCons (dOp dIx (dVar 3) (dUn dNeg (dC (.int 1)))) dNil))))) (dRet (dC (.bool false))) dNext)))))
    (dRet (dCall pre_l_alike post_l_alike (dCons (dCall (pre_put_in 12) post_put_in (dCons (dTup (dCons (dC (.str "a")) (dCons (dTup (dCons (dC (.str "a")) dNil)) (dCons (dTup (dCons (dC (.str "b")) dNil)) dNil)))) (dCons (dDictK2 (dC (.str "a")) (dTup (dCons (dC (.str "b")) dNil)) (dC (.str "b")) (dTup (dCons (dC (.str "a")) dNil))) dNil))) (dCons (dTup (dCons (dC (.str "a")) (dCons (dTup (dCons (dC (.str "b")) dNil)) (dCons (dTup (dCons (dC (.str "a")) dNil)) dNil)))) dNil)))))
theorem m_law {K : PySem.W.Frag} {b : Bg} : SimS K (some 1) b (t_law K) (d_law) := (sim_seq (sim_for (sim_rng1 (sim_cons sim_int sim_nil)) (simg_name (by decide)) (sim_seq (sim_asg (sim_ofN (sim_nCallG rfl (sim_cons sim_int sim_nil))) (simg_name (by decide)))
    (sim_seq (sim_if (sim_test (sim_op simr_eq (sim_callG rfl (sim_cons sim_int sim_nil)) sim_int)) (sim_asg (sim_ofN (sim_nCallP (sim_cons (sim_callG rfl (sim_cons (sim_callG rfl (sim_cons sim_int sim_nil)) sim_nil)) sim_nil))) (simg_name (by decide))) sim_next)
    (sim_seq (sim_for (sim_rng1 (sim_cons sim_int sim_nil)) (simg_name (by decide)) (sim_seq (sim_par (by decide) (by decide) (sim_cons (sim_callG rfl (sim_cons (sim_op sim_add (sim_sl sims_slice sim_var (sim_part (sim_un simu_neg sim_int)) sim_noPart) sim_var) sim_nil)) (sim_cons (sim_callG rfl (sim_cons sim_var sim_nil)) sim_nil)))
    (sim_seq (sim_par (by decide) (by decide) (sim_cons (sim_cb simc_repr (sim_cons (sim_lst (sim_cons sim_var (sim_cons sim_var sim_nil))) sim_nil)) (sim_cons (sim_callP (sim_cons sim_var (sim_cons sim_var sim_nil))) sim_nil)))
    (sim_for (sim_rng1 (sim_cons sim_int sim_nil)) (simg_name (by decide)) (sim_if (sim_or (sim_not (sim_tB (sim_callP (sim_cons (sim_callP (sim_cons sim_var (sim_cons sim_var sim_nil))) (sim_cons sim_var sim_nil))))) (sim_test (sim_op simr_ne (sim_cb simc_repr (sim_cons (sim_lst (sim_cons sim_var (sim_cons sim_var sim_nil))) sim_nil)) sim_var))) (sim_ret sim_bl) sim_next)))))
    (sim_if (sim_not (sim_tB (sim_callP (sim_cons (sim_callP (sim_cons (sim_op simr_ix sim_var (sim_un simu_neg sim_int)) (sim_cons sim_dict0 sim_nil))) (sim_cons (sim_op simr_ix sim_var (sim_un simu_neg sim_int)) sim_nil))))) (sim_ret sim_bl) sim_next)))))
    (sim_ret (sim_callP (sim_cons (sim_callP (sim_cons (sim_tup (sim_cons sim_str (sim_cons (sim_tup (sim_cons sim_str sim_nil)) (sim_cons (sim_tup (sim_cons sim_str sim_nil)) sim_nil)))) (sim_cons (sim_dictK2 sim_str (sim_tup (sim_cons sim_str sim_nil)) sim_str (sim_tup (sim_cons sim_str sim_nil))) sim_nil))) (sim_cons (sim_tup (sim_cons sim_str (sim_cons (sim_tup (sim_cons sim_str sim_nil)) (sim_cons (sim_tup (sim_cons sim_str sim_nil)) sim_nil)))) sim_nil)))))

end DL

namespace DL
open PySem PySem.Spec PyProof.Rows L2
open Evl (Ex ex_l ex_t)
variable [TheW]
open PySem.W (EachIs AllAlike Sortable SortsAt sortVals sortLe keyToks keyToksAll dataKind alike alikeAll)
theorem tmAll_mem : ∀ {ps : List PyData}, tmAll ps = true → ∀ p ∈ ps, tm p = true
  | [], _, p, h => by cases h
  | x :: xs, h, p, hp => by
    simp only [tmAll, Bool.and_eq_true] at h
    rcases List.mem_cons.mp hp with rfl | hp
    · exact h.1
    · exact tmAll_mem h.2 p hp
theorem depth_mem : ∀ {ps : List PyData} {p : PyData}, p ∈ ps → p.depth ≤ PyData.depthAll ps
  | x :: xs, p, hp => by
    simp only [PyData.depthAll]
    rcases List.mem_cons.mp hp with rfl | hp
    · omega
    · have := depth_mem hp
      omega
theorem wt_mem : ∀ {ps : List PyData} {p : PyData}, p ∈ ps → wt p ≤ wtAll ps
  | x :: xs, p, hp => by
    simp only [wtAll]
    rcases List.mem_cons.mp hp with rfl | hp
    · omega
    · have := wt_mem hp
      omega
theorem nd_mem : ∀ {ps : List PyData} {p : PyData}, p ∈ ps → nd p ≤ ndAll ps
  | x :: xs, p, hp => by
    simp only [ndAll]
    rcases List.mem_cons.mp hp with rfl | hp
    · omega
    · have := nd_mem hp
      omega
theorem ndAll_app : ∀ (xs ys : List PyData), ndAll (xs ++ ys) = ndAll xs + ndAll ys
  | [], ys => by simp [ndAll]
  | x :: xs, ys => by simp only [List.cons_append, ndAll, ndAll_app xs ys]; omega
theorem nd_term {n : Str} {ps : List PyData} : nd (.tuple (.str n :: ps)) = ndAll ps + 1 := by simp only [nd, ndAll]; omega
theorem mkAll_eq : ∀ ps : List PyData, mkAll ps = ps.flatMap mkD ++ [41]
  | [] => rfl
  | x :: xs => by simp only [mkAll, List.flatMap_cons, mkAll_eq xs, List.append_assoc]
theorem mk_tup {n : Str} {ps : List PyData} : mkD (.tuple (.str n :: ps)) = n.cps.toList ++ 40 :: (ps.flatMap mkD ++ [41]) := by simp only [mkD, mkH, nmL3, mkAll_eq]
mutual
theorem mk_len : ∀ x : PyData, tm x = true → (mkD x).length ≤ wt x
  | .tuple (.str n :: ps), h => by
    simp only [tm, tmH, Bool.and_eq_true] at h
    have := mkAll_len ps h.2
    simp only [mkD, mkH, nmL3, wt, wtAll, List.length_append, List.length_cons]
    have e : n.cps.toList.length = n.length := by simp [Str.length]
    omega
  | .tuple [], hx => absurd hx Bool.false_ne_true
  | .tuple (.none :: _), hx => absurd hx Bool.false_ne_true
  | .tuple (.bool _ :: _), hx => absurd hx Bool.false_ne_true
  | .tuple (.int _ :: _), hx => absurd hx Bool.false_ne_true
  | .tuple (.list _ :: _), hx => absurd hx Bool.false_ne_true
  | .tuple (.tuple _ :: _), hx => absurd hx Bool.false_ne_true
  | .tuple (.dict _ :: _), hx => absurd hx Bool.false_ne_true
  | .none, hx => absurd hx Bool.false_ne_true
  | .bool _, hx => absurd hx Bool.false_ne_true
  | .int _, hx => absurd hx Bool.false_ne_true
  | .str _, hx => absurd hx Bool.false_ne_true
  | .list _, hx => absurd hx Bool.false_ne_true
  | .dict _, hx => absurd hx Bool.false_ne_true
theorem mkAll_len : ∀ xs : List PyData, tmAll xs = true → (mkAll xs).length ≤ wtAll xs + 1
  | [], _ => by simp [mkAll]
  | x :: xs, h => by
    simp only [tmAll, Bool.and_eq_true] at h
    have h1 := mk_len x h.1
    have h2 := mkAll_len xs h.2
    simp only [mkAll, wtAll, List.length_append]
    omega
end
theorem str_len (s : Str) : s.length = s.cps.toList.length := by simp [Str.length]
theorem cps_app (s t : Str) : (s ++ t).cps.toList = s.cps.toList ++ t.cps.toList := by simp [Str.cps_append]
theorem atI0 (x : PyData) (xs : List PyData) : atD (.tuple (x :: xs)) 0 = some x := by
  show L2.atI (x :: xs) 0 = some x
  unfold L2.atI ixN
  rw [if_pos (by decide), if_pos (by simp)]
  rfl
theorem cut_one (x : PyData) (xs : List PyData) : cutD (x :: xs) (some 1) none = xs := by
  unfold cutD
  rw [HT.sIx_none, show (some (1 : Int)) = some ((1 : Nat) : Int) from rfl, HT.sIx_nat]
  cases xs with
  | nil => rfl
  | cons y ys =>
    simp only [List.length_cons]
    rw [show min 1 (ys.length + 1 + 1) = 1 from by omega]
    simp
theorem take_flat {ps : List PyData} {i : Nat} {x : PyData} (h : ps[i]? = some x) : (ps.take (i + 1)).flatMap mkD = (ps.take i).flatMap mkD ++ mkD x := by
  rw [List.take_add_one, h, List.flatMap_append]
  simp
theorem sub_tup {x : PyData} {n : Str} {ps : List PyData} : Sub x (.tuple (.str n :: ps)) ↔ x = .tuple (.str n :: ps) ∨ ∃ p ∈ ps, Sub x p := by
  constructor
  · intro h
    cases h with
    | refl => exact .inl rfl
    | part h s => exact .inr ⟨_, h, s⟩
  · rintro (rfl | ⟨p, hp, s⟩)
    · exact .refl _
    · exact .part (show p ∈ parts (.tuple (.str n :: ps)) from hp) s
theorem last_app {α : Type} {xs : List α} (h : xs ≠ []) : ∃ ys y, xs = ys ++ [y] := ⟨xs.dropLast, xs.getLast h, (List.dropLast_concat_getLast h).symm⟩
theorem getLast_app {α : Type} (xs : List α) (y : α) : (xs ++ [y]).getLast? = some y := by simp
theorem dropLast_app {α : Type} (xs : List α) (y : α) : (xs ++ [y]).dropLast = xs := by simp
theorem nd_pos {t : PyData} (h : tm t = true) : 1 ≤ nd t := by
  obtain ⟨n, ps, rfl, _⟩ := tm_tup h
  rw [nd_term]
  omega
theorem len_nd : ∀ {us : List PyData}, (∀ u ∈ us, tm u = true) → us.length ≤ ndAll us
  | [], _ => Nat.zero_le _
  | x :: xs, h => by
    have h1 := nd_pos (h x (List.mem_cons_self ..))
    have h2 := len_nd (us := xs) fun u hu => h u (List.mem_cons_of_mem _ hu)
    simp only [List.length_cons, ndAll]
    omega
theorem key_same {s s' : Str} (h : s.cps.toList = s'.cps.toList) : s = s' := PySem.W.str_of_cps h
theorem parts_nd {y : PyData} (h : tm y = true) : nd y = ndAll (parts y) + 1 := by
  obtain ⟨n, ps, rfl, _⟩ := tm_tup h
  rw [nd_term]
  rfl
theorem cut_parts {y : PyData} (h : tm y = true) : ∃ n ps, y = .tuple (.str n :: ps) ∧ parts y = ps := by
  obtain ⟨n, ps, rfl, _⟩ := tm_tup h
  exact ⟨n, ps, rfl, rfl⟩
theorem sub_mem {ts : List PyData} (hp : PoolL ts) {x u : PyData} (s : Sub x u) : u ∈ ts → x ∈ ts := by
  induction s with
  | refl => exact id
  | part h _ ih => exact fun hu => ih (hp.cl _ hu _ h)
mutual
theorem nk_depth : ∀ t : PyData, tm t = true → ∃ e, nk t = some e ∧ e.depth ≤ t.depth
  | .tuple (.str n :: ps), h => by
    simp only [tm, tmH, Bool.and_eq_true] at h
    obtain ⟨es, h1, h2⟩ := nks_depth ps h.2
    refine ⟨.tup (.text n :: es), ?_, ?_⟩
    · simp only [nk, nks, h1, Option.map_some]
    · simp only [NestedKey.depth, NestedKey.depthAll, PyData.depth, PyData.depthAll]
      omega
  | .tuple [], hx => absurd hx Bool.false_ne_true
  | .tuple (.none :: _), hx => absurd hx Bool.false_ne_true
  | .tuple (.bool _ :: _), hx => absurd hx Bool.false_ne_true
  | .tuple (.int _ :: _), hx => absurd hx Bool.false_ne_true
  | .tuple (.list _ :: _), hx => absurd hx Bool.false_ne_true
  | .tuple (.tuple _ :: _), hx => absurd hx Bool.false_ne_true
  | .tuple (.dict _ :: _), hx => absurd hx Bool.false_ne_true
  | .none, hx => absurd hx Bool.false_ne_true
  | .bool _, hx => absurd hx Bool.false_ne_true
  | .int _, hx => absurd hx Bool.false_ne_true
  | .str _, hx => absurd hx Bool.false_ne_true
  | .list _, hx => absurd hx Bool.false_ne_true
  | .dict _, hx => absurd hx Bool.false_ne_true
theorem nks_depth : ∀ xs : List PyData, tmAll xs = true → ∃ es, nks xs = some es ∧ NestedKey.depthAll es ≤ PyData.depthAll xs
  | [], _ => ⟨[], rfl, by simp only [NestedKey.depthAll]; exact Nat.zero_le _⟩
  | x :: xs, h => by
    simp only [tmAll, Bool.and_eq_true] at h
    obtain ⟨e, h1, h2⟩ := nk_depth x h.1
    obtain ⟨es, h3, h4⟩ := nks_depth xs h.2
    refine ⟨e :: es, by simp only [nks, h1, h3], ?_⟩
    simp only [NestedKey.depthAll, PyData.depthAll]
    omega
end
theorem nk_same {x y : PyData} (hx : tm x = true) (h : nk x = nk y) : x = y := by
  obtain ⟨e, h1, _⟩ := nk_depth x hx
  rw [h1] at h
  rw [← nk_data x e h1, nk_data y e h.symm]
end DL

namespace DL
open PySem PySem.Spec PyProof.Rows L2
open Evl (Ex ex_l ex_t)
variable [TheW]
open PySem.W (EachIs AllAlike Sortable SortsAt sortVals sortLe keyToks keyToksAll dataKind alike alikeAll)
def asc (n : Nat) (x : Str) : Prop := x.length ≤ n ∧ ∀ c ∈ x.cps.toList, c < 128
theorem asc.mono {m n : Nat} {x : Str} (h : asc m x) (l : m ≤ n) : asc n x := ⟨Nat.le_trans h.1 l, h.2⟩
theorem asc.app {m n : Nat} {x y : Str} (h : asc m x) (k : asc n y) : asc (m + n) (x ++ y) := by
  refine ⟨by rw [Str.length_append]; exact Nat.add_le_add h.1 k.1, fun c hc => ?_⟩
  rw [str_app] at hc
  rcases List.mem_append.mp (by simpa using hc : c ∈ x.cps.toList ++ y.cps.toList) with z | z
  · exact h.2 c z
  · exact k.2 c z
theorem asc.cut {n : Nat} {x : Str} (h : asc n x) (lo hi : Option Int) : asc n (cutS x lo hi) := by
  refine ⟨Nat.le_trans (cutS_length x lo hi) h.1, fun c hc => h.2 c ?_⟩
  unfold cutS at hc
  simp only [] at hc
  exact List.mem_of_mem_drop (List.mem_of_mem_take hc)
theorem asc.one {c : Nat} (h : c < 128) : asc 1 ⟨#[c]⟩ := ⟨Nat.le_refl _, fun d hd => by
  have : d = c := by simpa using hd
  omega⟩
theorem asc.up {n : Nat} {x : Str} (h : asc n x) : asc n (Txt.upper x) := by
  rw [upper_ascii h.2]
  refine ⟨by rw [show (⟨x.cps.map up1⟩ : Str).length = x.length from by simp [Str.length]]; exact h.1, fun c hc => ?_⟩
  simp only [Array.toList_map, List.mem_map] at hc
  obtain ⟨d, hd, rfl⟩ := hc
  have := h.2 d hd
  unfold up1
  split <;> omega
theorem asc.rev {n : Nat} {x y : Str} (h : asc n x) (l : y.length ≤ x.length) (k : ∀ c ∈ y.cps.toList, c ∈ x.cps.toList) : asc n y := ⟨Nat.le_trans l h.1, fun c hc => h.2 c (k c hc)⟩
theorem asc.name {x : Str} (h : isNm x = true) : asc 8 x := by
  unfold isNm at h
  simp only [Bool.and_eq_true, decide_eq_true_eq, List.all_eq_true] at h
  refine ⟨h.1.1.2, fun c hc => ?_⟩
  have := h.2 c hc
  unfold lower at this
  simp only [Bool.and_eq_true, decide_eq_true_eq] at this
  omega
theorem strOk_asc {n : Nat} {x : Str} (h : asc n x) : PyData.strOk x = true := by
  unfold PyData.strOk
  rw [← Array.all_toList, List.all_eq_true]
  intro c hc
  have := h.2 c hc
  simp only [decide_eq_true_eq]
  omega
mutual
theorem lay_tup : ∀ d : PyData, tupOnly d = true → fit d = true → d.canLay0 = true
  | .none, _, _ => by simp only [PyData.canLay0]
  | .bool _, _, _ => by simp only [PyData.canLay0]
  | .int _, _, _ => by simp only [PyData.canLay0]
  | .str x, _, h => by simp only [PyData.canLay0]; exact h
  | .tuple xs, t, h => by simp only [PyData.canLay0]; exact lay_tupAll xs t h
  | .list _, t, _ => absurd t Bool.false_ne_true
  | .dict _, t, _ => absurd t Bool.false_ne_true
theorem lay_tupAll : ∀ ds : List PyData, tupOnlyAll ds = true → fitAll ds = true → PyData.canLayAll0 ds = true
  | [], _, _ => by simp only [PyData.canLayAll0]
  | x :: xs, t, h => by
    simp only [tupOnlyAll, Bool.and_eq_true] at t
    simp only [fitAll, Bool.and_eq_true] at h
    simp only [PyData.canLayAll0, lay_tup x t.1 h.1, lay_tupAll xs t.2 h.2, Bool.and_self]
end
mutual
theorem eqv_refl : ∀ d : PyData, tupOnly d = true → PyData.eqv d d = true
  | .none, _ => by simp only [PyData.eqv]
  | .bool _, _ => by simp only [PyData.eqv, beq_self_eq_true]
  | .int _, _ => by simp only [PyData.eqv, beq_self_eq_true]
  | .str x, _ => by simp only [PyData.eqv, beq_self_eq_true]
  | .tuple xs, t => by simp only [PyData.eqv]; exact eqv_reflAll xs t
  | .list _, t => absurd t Bool.false_ne_true
  | .dict _, t => absurd t Bool.false_ne_true
theorem eqv_reflAll : ∀ ds : List PyData, tupOnlyAll ds = true → PyData.eqvAll ds ds = true
  | [], _ => by simp only [PyData.eqvAll]
  | x :: xs, t => by
    simp only [tupOnlyAll, Bool.and_eq_true] at t
    simp only [PyData.eqvAll, eqv_refl x t.1, eqv_reflAll xs t.2, Bool.and_self]
end
theorem tupAll_of {ds : List PyData} (h : ∀ d ∈ ds, tupOnly d = true) : tupOnlyAll ds = true := Reps.tupOnly_all h
theorem fitAll_of {ds : List PyData} (h : ∀ d ∈ ds, fit d = true) : fitAll ds = true := by
  induction ds with
  | nil => rfl
  | cons d r ih =>
    show (fit d && fitAll r) = true
    rw [h d (List.mem_cons_self ..), ih fun x hx => h x (List.mem_cons_of_mem _ hx)]
    rfl
theorem wtAll_le {ds : List PyData} {W : Nat} (h : ∀ d ∈ ds, wt d ≤ W) : wtAll ds ≤ ds.length * (W + 2) := by
  induction ds with
  | nil => exact Nat.zero_le _
  | cons d r ih =>
    have h1 := h d (List.mem_cons_self ..)
    have h2 := ih fun x hx => h x (List.mem_cons_of_mem _ hx)
    simp only [wtAll, List.length_cons, Nat.succ_mul]
    omega
theorem depthAll_le {ds : List PyData} {W : Nat} (h : ∀ d ∈ ds, d.depth ≤ W) : PyData.depthAll ds ≤ W := by
  induction ds with
  | nil => simp only [PyData.depthAll]; exact Nat.zero_le _
  | cons d r ih =>
    have h1 := h d (List.mem_cons_self ..)
    have h2 := ih fun x hx => h x (List.mem_cons_of_mem _ hx)
    simp only [PyData.depthAll]
    omega
/-- bounded data: tuples only, its depth, its weight -/
structure Bd (D W : Nat) (x : PyData) : Prop where
  t : tupOnly x = true
  f : fit x = true
  d : x.depth ≤ D
  w : wt x ≤ W
theorem Bd.tup {D W : Nat} {ds : List PyData} (h : ∀ d ∈ ds, Bd D W d) : Bd (D + 1) (ds.length * (W + 2) + 3) (.tuple ds) :=
  ⟨tupAll_of fun d hd => (h d hd).t, fitAll_of fun d hd => (h d hd).f, by simp only [PyData.depth]; have := depthAll_le fun d hd => (h d hd).d; omega,
    by simp only [wt]; have := wtAll_le fun d hd => (h d hd).w; omega⟩
theorem Bd.mono {D W D' W' : Nat} {d : PyData} (h : Bd D W d) (h1 : D ≤ D') (h2 : W ≤ W') : Bd D' W' d := ⟨h.t, h.f, Nat.le_trans h.d h1, Nat.le_trans h.w h2⟩
/-- a list of bounded data can be shown, compared, and is like itself -/
theorem Bd.list {D W : Nat} {ds : List PyData} (h : ∀ d ∈ ds, Bd D W d) (hD : D ≤ 50) (hW : ds.length * (W + 2) + 2 ≤ 16777216) :
    showOk (.list ds) = true ∧ SeqAt.shaped (.list ds) = true ∧ PyData.eqv (.list ds) (.list ds) = true := by
  have hd : PyData.depth (.list ds) ≤ D + 1 := by simp only [PyData.depth]; have := depthAll_le fun d hd => (h d hd).d; omega
  refine ⟨showOk_of (fitAll_of fun d hd => (h d hd).f) (by omega) ?_, ?_, ?_⟩
  · simp only [wt]
    have := wtAll_le fun d hd => (h d hd).w
    omega
  · unfold SeqAt.shaped
    rw [Bool.and_eq_true, decide_eq_true_eq]
    refine ⟨?_, by omega⟩
    simp only [PyData.canLay0]
    exact lay_tupAll ds (tupAll_of fun d hd => (h d hd).t) (fitAll_of fun d hd => (h d hd).f)
  · simp only [PyData.eqv]
    exact eqv_reflAll ds (tupAll_of fun d hd => (h d hd).t)
theorem Bd.show {D W : Nat} {d : PyData} (h : Bd D W d) (hD : D ≤ 60) (hW : W ≤ 16777216) : showOk d = true := showOk_of h.f (Nat.le_trans h.d hD) (Nat.le_trans h.w hW)
/-- two like lists are found alike -/
theorem alike_list {D W : Nat} {ds : List PyData} (h : ∀ d ∈ ds, Bd D W d) (hD : D ≤ 50) (hW : ds.length * (W + 2) + 2 ≤ 16777216) {R : PyData → Prop} (k : R (.bool true)) :
    pre_l_alike [.list ds, .list ds] ∧ ∀ r, post_l_alike [.list ds, .list ds] r → R r := by
  obtain ⟨h1, h2, h3⟩ := Bd.list h hD hW
  refine ⟨?_, ?_⟩
  · show (_ && _) = true
    unfold eqOk
    rw [h2, h1]
    simp
  · rintro r hr
    have hr : r = .bool (PyData.eqv (.list ds) (.list ds) && _ == _) := hr
    rw [hr, h3, beq_self_eq_true]
    exact k
theorem okT.bd {d : PyData} (h : okT d) : Bd 12 10000 d := ⟨h.t, h.f, Nat.le_trans h.d (by decide), h.w⟩
theorem bd_str {x : Str} (h : asc 8 x) : Bd 0 82 (.str x) := ⟨rfl, strOk_asc h, by simp only [PyData.depth]; exact Nat.le_refl _, by have := h.1; simp only [wt]; omega⟩
theorem bd_bool (c : Bool) : Bd 0 5 (.bool c) := ⟨rfl, rfl, by simp only [PyData.depth]; exact Nat.le_refl _, by simp only [wt]; exact Nat.le_refl _⟩
theorem log_succ {n : Nat} (h : n ≤ 10000) : ((n : Int) + 1).natAbs.log2 < 9000 := log_small (n := n + 1) (by omega)
theorem take_put {α β : Type} {ws : List α} {i : Nat} {z : α} (f : α → β) (h : ws[i]? = some z) : (ws.take i).map f ++ [f z] = (ws.take (i + 1)).map f := by
  rw [List.take_add_one, h, List.map_append]
  rfl
theorem ints_some : ∀ ns : List Int, intsOf (ns.map PyData.int) = some ns
  | [] => rfl
  | n :: r => by rw [List.map_cons, intsOf, ints_some r]; rfl
theorem perm_put {α : Type} (es : List α) (n : Nat) (x : α) : (es.take n ++ [x] ++ es.drop n).Perm (es ++ [x]) := by
  have h : (es.take n ++ [x] ++ es.drop n).Perm (es.take n ++ (es.drop n ++ [x])) := by
    rw [List.append_assoc]
    exact List.Perm.append_left _ List.perm_append_comm
  rw [← List.append_assoc, List.take_append_drop] at h
  exact h
theorem dat_l_mixed : ∀ ds, pre_l_mixed ds → d_l_mixed { nx := fun _ => False, rt := fun _ => False, ro := post_l_mixed ds } (startD 4 (none :: ds.map fun d => some (.dat d))) := by
  rintro ds ⟨xs, rfl, hl⟩
  show d_l_mixed _ [none, some (.dat (.list xs)), none, none]
  dsimp only [d_l_mixed, dSeq, dAsgN, dnLst, dFor, dItems, dgName, dInsert, dBorrow, dRetOwn, dOp, dAdd, dVar, dC, dCall, dCB, dLen, dCons, dNil, List.set, List.getElem?_cons_succ, List.getElem?_cons_zero]
  refine ⟨rfl, fun i δ => ∃ (es : List PyData) (q : Option DV), δ = [none, some (.dat (.list xs)), some (.own es), q] ∧ es.Perm (xs.take i), ⟨[], none, rfl, by simp⟩, ?_, ?_⟩
  · rintro i x δ hx ⟨es, q, rfl, hp⟩
    have hle : es.length ≤ 1000 := by
      rw [hp.length_eq, List.length_take]
      omega
    dsimp only [List.set, List.getElem?_cons_succ, List.getElem?_cons_zero]
    refine ⟨⟨by omega, log_succ (by omega)⟩, ?_⟩
    rintro r ⟨j, rfl, j0, j1⟩
    refine ⟨rfl, small_le (by omega), j0, by omega, _, _, rfl, (perm_put es j.toNat x).trans ?_⟩
    rw [List.take_add_one, hx]
    exact List.Perm.append_right _ hp
  · rintro δ ⟨es, q, rfl, hp⟩
    dsimp only [List.set, List.getElem?_cons_succ, List.getElem?_cons_zero]
    rw [List.take_length] at hp
    exact ⟨xs, rfl, hp⟩
theorem pool_one {ts : List PyData} (h : PoolL ts) {R : PyData → Prop} (k : ∀ t ∈ ts, R t) : pre_l_one [.list ts] ∧ ∀ r, post_l_one [.list ts] r → R r :=
  ⟨⟨h.ne, small_le (by have := h.l; omega)⟩, fun r hr => k r hr⟩
theorem dat_l_takeB : ∀ ds, pre_l_takeB ds → d_l_takeB { nx := fun _ => post_l_takeB ds .none, rt := post_l_takeB ds } (startD 7 (none :: ds.map fun d => some (.dat d))) := by
  intro ds h
  unfold pre_l_takeB pre_l_take at h
  split at h
  case h_2 => exact h.elim
  rename_i n
  obtain ⟨h0, h1⟩ := h
  show d_l_takeB _ [none, some (.dat (.int n)), none, none, none, none, none]
  dsimp only [d_l_takeB, dSeq, dIfS, dTest, dOp, dBag, dC, dEq, isB, startD, List.map, dNext, dAsg, dIx, dgName, dCells, dLst, dCons, dNil, dAdd, isI, dBagAug, dgBag, dCB, dInt1, dLt, dIC, dVar, dTup, dgTup, dgCons, dgNil, dRet, dBagAny, List.length, List.replicate, List.append, List.set, HAppend.hAppend, Append.append, List.getElem?_cons_succ, List.getElem?_cons_zero]
  intro c0 hc0
  refine ⟨rfl, ?_⟩
  rw [eqv_ii]
  split
  · intro ns hns hl
    refine ⟨rfl, small_le (by rw [List.length_map]; omega), ?_⟩
    obtain ⟨c, hc, e⟩ := at_cells ns hns
    rw [e]
    dsimp only
    refine ⟨⟨by decide, by decide, by decide⟩, cmulR (by split <;> decide), ?_, ?_⟩
    · split
      · omega
      · omega
    intro c2 hc2
    refine ⟨cmulR (by decide), by decide, fun c3 => ⟨cmulL (by decide), by decide, (fmod_nn (by decide)).1, ?_⟩⟩
    intro c4 hc4
    split
    · intro c5 hc5
      exact ⟨by omega, fun c6 hc6 => ⟨⟨h0, h1⟩, rfl, rfl, Int.ediv_nonneg hc6 (by omega), ⟨_, rfl, fmod_nn h0⟩⟩⟩
    · intro c5 hc5
      refine ⟨cmulR (by decide), by decide, cmulR ⟨(fmod_nn (by decide)).1, ?_⟩, by decide, cmulR (by decide), by decide, ⟨by decide, by decide⟩, by omega, ⟨_, rfl, fmod_nn h0⟩⟩
      have := (fmod_nn (i := (c5 + 1) * 39373) (n := 1000000007) (by decide)).2
      omega
  · intro c4 hc4
    split
    · intro c5 hc5
      exact ⟨by omega, fun c6 hc6 => ⟨⟨h0, h1⟩, rfl, rfl, Int.ediv_nonneg hc6 (by omega), ⟨_, rfl, fmod_nn h0⟩⟩⟩
    · intro c5 hc5
      refine ⟨cmulR (by decide), by decide, cmulR ⟨(fmod_nn (by decide)).1, ?_⟩, by decide, cmulR (by decide), by decide, ⟨by decide, by decide⟩, by omega, ⟨_, rfl, fmod_nn h0⟩⟩
      have := (fmod_nn (i := (c5 + 1) * 39373) (n := 1000000007) (by decide)).2
      omega
theorem mem_cut {α : Type} {xs : List α} {lo hi : Option Int} {x : α} (h : x ∈ cutD xs lo hi) : x ∈ xs := List.mem_of_mem_drop (List.mem_of_mem_take h)
theorem cut_take {α : Type} (xs : List α) (k : Nat) : cutD xs none (some (k : Int)) = xs.take (min k xs.length) := by
  unfold cutD
  rw [HT.sIx_nat, HT.sIx_none, List.drop_zero, Nat.sub_zero]
theorem and_if {c : Bool} {pre : Prop} {post q : PyData → Prop} {d : PyData → Prop} [i : ∀ r, Decidable (d r)] {X Y : Prop} (h0 : pre) (h1 : ∀ r, post r → q r) (hx : c = true → X) (hy : Y) :
    if c = true then (pre ∧ ∀ r, post r → q r ∧ if d r then X else Y) else if false = true then X else Y := by
  split
  · rename_i hc
    refine ⟨h0, fun r h => ⟨h1 r h, ?_⟩⟩
    split
    · exact hx hc
    · exact hy
  · exact hy
end DL

namespace DL
open PySem PySem.Spec PyProof.Rows L2
open Evl (Ex ex_l ex_t)
variable [TheW]
open PySem.W (EachIs AllAlike Sortable SortsAt sortVals sortLe keyToks keyToksAll dataKind alike alikeAll)
mutual
theorem tm_bd : ∀ x : PyData, tm x = true → tupOnly x = true ∧ fit x = true ∧ wt x + 2 ≤ 90 * nd x
  | .tuple (.str n :: ps), hx => by
    simp only [tm, tmH, Bool.and_eq_true] at hx
    obtain ⟨h1, h2, h3⟩ := tm_bdAll ps hx.2
    have hn := asc.name (of_decide_eq_true hx.1)
    have l := hn.1
    refine ⟨?_, ?_, ?_⟩
    · simp only [tupOnly, tupOnlyAll, h1, Bool.and_self]
    · simp only [fit, fitAll, h2, strOk_asc hn, Bool.and_self]
    · simp only [wt, wtAll, nd, ndAll]
      omega
  | .tuple [], hx => absurd hx Bool.false_ne_true
  | .tuple (.none :: _), hx => absurd hx Bool.false_ne_true
  | .tuple (.bool _ :: _), hx => absurd hx Bool.false_ne_true
  | .tuple (.int _ :: _), hx => absurd hx Bool.false_ne_true
  | .tuple (.list _ :: _), hx => absurd hx Bool.false_ne_true
  | .tuple (.tuple _ :: _), hx => absurd hx Bool.false_ne_true
  | .tuple (.dict _ :: _), hx => absurd hx Bool.false_ne_true
  | .none, hx => absurd hx Bool.false_ne_true
  | .bool _, hx => absurd hx Bool.false_ne_true
  | .int _, hx => absurd hx Bool.false_ne_true
  | .str _, hx => absurd hx Bool.false_ne_true
  | .list _, hx => absurd hx Bool.false_ne_true
  | .dict _, hx => absurd hx Bool.false_ne_true
theorem tm_bdAll : ∀ xs : List PyData, tmAll xs = true → tupOnlyAll xs = true ∧ fitAll xs = true ∧ wtAll xs ≤ 90 * ndAll xs
  | [], _ => ⟨rfl, rfl, Nat.zero_le _⟩
  | x :: xs, hx => by
    simp only [tmAll, Bool.and_eq_true] at hx
    obtain ⟨h1, h2, h3⟩ := tm_bdAll xs hx.2
    obtain ⟨h4, h5, h6⟩ := tm_bd x hx.1
    refine ⟨?_, ?_, ?_⟩
    · simp only [tupOnlyAll, h1, h4, Bool.and_self]
    · simp only [fitAll, h2, h5, Bool.and_self]
    · simp only [wtAll, ndAll]
      omega
end
theorem okT_of {x : PyData} (h : tm x = true) (d : x.depth ≤ 8) (n : nd x ≤ 60) : okT x := by
  obtain ⟨h1, h2, h3⟩ := tm_bd x h
  exact ⟨h1, h2, d, by omega, h, n⟩
theorem tupAll_tm {ds : List PyData} (h : ∀ t ∈ ds, tm t = true) : tupOnlyAll ds = true := tupAll_of fun d hd => (tm_bd d (h d hd)).1
theorem part_ok {t p : PyData} (h : tm t = true) (hp : p ∈ parts t) : tm p = true ∧ p.depth ≤ t.depth := by
  obtain ⟨n, ps, rfl, _, hps⟩ := tm_tup h
  have hp : p ∈ ps := hp
  refine ⟨tmAll_mem hps p hp, ?_⟩
  have := depth_mem hp
  simp only [PyData.depth, PyData.depthAll]
  omega
theorem sub_ok {x t : PyData} (s : Sub x t) : tm t = true → tm x = true ∧ x.depth ≤ t.depth := by
  induction s with
  | refl => exact fun h => ⟨h, Nat.le_refl _⟩
  | part h _ ih =>
    intro ht
    obtain ⟨h1, h2⟩ := part_ok ht h
    obtain ⟨h3, h4⟩ := ih h1
    exact ⟨h3, Nat.le_trans h4 h2⟩
theorem setOk_tm {ds : List PyData} (h : ∀ d ∈ ds, tm d = true ∧ d.depth ≤ 8) (f : FewD ds) : SetOk ds := by
  refine ⟨fun d hd => ?_, f, fun a ha b hb => alike_tm a b (h a ha).1 (h b hb).1, .inl fun a ha => ?_, fun a ha => Nat.le_trans (h a ha).2 (by decide)⟩
  · obtain ⟨e, h1, h2⟩ := nk_depth d (h d hd).1
    obtain ⟨n, ps, rfl, _⟩ := tm_tup (h d hd).1
    exact ⟨_, e, rfl, h1, Nat.le_trans h2 (h _ hd).2⟩
  · obtain ⟨n, ps, e, _⟩ := tm_tup (h a ha).1
    exact ⟨_, _, e⟩
theorem sortD_len (es : List PyData) : (sortD es).length = es.length := (List.mergeSort_perm ..).length_eq

theorem dat_l_subs : ∀ n, ∀ ds, pre_l_subs (n + 1) ds → d_l_subs n { nx := fun _ => False, rt := fun _ => False, ro := post_l_subs ds } (startD 3 (ds.map fun d => some (.dat d))) := by
  rintro n ds ⟨t, rfl, ht, hd, hn, h8, hk⟩
  obtain ⟨nm, ps, rfl, hnm, hps⟩ := tm_tup ht
  show d_l_subs n _ [some (.dat (.tuple (.str nm :: ps))), none, none]
  dsimp only [d_l_subs, dnSortSet, dBorrowN, dGetKZ, dDictPK, dDictK2, dParKD, dnSortSetT, dZip, dEnumL, dEnum, dRetK, dSeq, dAsg, dAsgN, dAsgPop, dAppend, dExtend, dExtendT, dInsert, dPar, dPar3, dAug, dIfS, dFor, dRet, dRetO, dRetOwn, dRetOwnD, dRetN, dDrop, dNext, dBreak, dCont, dFreeze, dFreezeD, dGet2, dIdxN, dBorD, dBorDN, dBorDT, dParDN, dParND, dMax2, dAnyK, dnItems, dDictN, dKeysN, dnSortedND, dPutN, dAsgDN, dParN, dDict0, dBorrow, dBorrowT, dTr, dTest, dAnd, dOr, dNot, dAndV, dOrV, dNotV, dIf, dOp, dUn, dCB, dCall, dnCall, dCallX, dCallV, dTup, dLst, dnLst, dnLc, dLc, dOfN, dnAdd, dnSl, dSl, dSlice, dNoPart, dPart, dIx, isI, isB, dVar, dC, dCons, dNil, dLen, dRepr, dListOf, dTupOf, dItems, dItemsT, itemsOf, dSigns, dRng1, dgName, dgTup, dgCons, dgNil, dEq, dNe, dLt, dIn, dII, dIC, dNeg, dAdd, dRep, dUpper, dJoin, dYes, truD, dAll, dAny, dInt1, dAbs, dChain, List.set, List.getElem?_cons_succ, List.getElem?_cons_zero]
  rw [cut_one]
  have hk0 := hk
  rw [nd_term] at hk
  have pd : ∀ p ∈ ps, p.depth ≤ n ∧ p.depth ≤ 8 ∧ nd p ≤ 60 := by
    intro p hp
    have h1 := depth_mem hp
    have h2 := nd_mem hp
    simp only [PyData.depth, PyData.depthAll] at hd h8
    omega
  refine ⟨rfl, fun i δ => ∃ (es : List PyData) (q : Option DV), δ = [some (.dat (.tuple (.str nm :: ps))), some (.own es), q] ∧ es.length ≤ ndAll (ps.take i) + 1 ∧
    ∀ x, x ∈ es ↔ x = .tuple (.str nm :: ps) ∨ ∃ p ∈ ps.take i, Sub x p, ⟨_, _, rfl, Nat.le_add_left .., by simp⟩, ?_, ?_⟩
  · rintro i x δ hx ⟨es, q, rfl, hl, hs⟩
    dsimp only [List.set, List.getElem?_cons_succ, List.getElem?_cons_zero]
    have hxm := List.mem_of_getElem? hx
    refine ⟨⟨x, rfl, tmAll_mem hps x hxm, (pd x hxm).1, by omega, (pd x hxm).2⟩, ?_⟩
    rintro r ⟨_, e, l2, -, h2⟩
    cases e
    have et : ps.take (i + 1) = ps.take i ++ [x] := by
      rw [List.take_add_one, hx]
      rfl
    have a : ndAll (ps.take (i + 1)) = ndAll (ps.take i) + nd x := by
      rw [et, ndAll_app]
      simp [ndAll]
    have b : ndAll (ps.take (i + 1)) ≤ ndAll ps := by
      conv => rhs; rw [← List.take_append_drop (i + 1) ps, ndAll_app]
      omega
    refine ⟨small_le (by omega), _, _, rfl, by rw [List.length_append]; omega, ?_⟩
    intro y
    rw [List.mem_append, hs, h2, et]
    constructor
    · rintro ((h | ⟨p, hp, s⟩) | h)
      · exact .inl h
      · exact .inr ⟨p, List.mem_append.mpr (.inl hp), s⟩
      · exact .inr ⟨x, List.mem_append.mpr (.inr (List.mem_singleton.mpr rfl)), h⟩
    · rintro (h | ⟨p, hp, s⟩)
      · exact .inl (.inl h)
      · rcases List.mem_append.mp hp with hp | hp
        · exact .inl (.inr ⟨p, hp, s⟩)
        · rw [List.mem_singleton.mp hp] at s
          exact .inr s
  · rintro δ ⟨es, q, rfl, hl, hs⟩
    rw [List.take_length] at hs hl
    dsimp only [List.set, List.getElem?_cons_succ, List.getElem?_cons_zero]
    have hs : ∀ x, x ∈ es ↔ Sub x (.tuple (.str nm :: ps)) := fun x => by rw [hs, sub_tup]
    have ok : ∀ d ∈ es, tm d = true ∧ d.depth ≤ 8 := fun d h => by
      obtain ⟨h1, h2⟩ := sub_ok ((hs d).mp h) ht
      exact ⟨h1, Nat.le_trans h2 h8⟩
    refine ⟨setOk_tm ok ⟨es, by omega, fun d h => h⟩, fun es' nd' mem' => ?_⟩
    obtain ⟨s1, s2⟩ := sortD_lt (fun t ht => (ok t ((mem' t).mp ht)).1) nd'
    refine ⟨tupAll_tm fun t h => (ok t ((mem' t).mp ((s2 t).mp h))).1, _, rfl, ?_, s1, fun x => by rw [s2, mem', hs]⟩
    rw [sortD_len, nd_term]
    exact Nat.le_trans (nodup_le es' es nd' fun d h => (mem' d).mp h) hl
theorem sum_nd : ∀ ps : List PyData, (ps.map fun p => ((nd p : Nat) : Int)).sum = ((ndAll ps : Nat) : Int)
  | [] => rfl
  | p :: ps => by
    simp only [List.map_cons, List.sum_cons, ndAll, sum_nd ps]
    omega
theorem dat_l_size : ∀ n, ∀ ds, pre_l_size (n + 1) ds → d_l_size n { nx := fun _ => post_l_size ds .none, rt := post_l_size ds } (startD 2 (ds.map fun d => some (.dat d))) := by
  rintro n ds ⟨t, rfl, ht, hd, hn, hk⟩
  obtain ⟨nm, ps, rfl, hnm, hps⟩ := tm_tup ht
  show d_l_size n _ [some (.dat (.tuple (.str nm :: ps))), none]
  dsimp only [d_l_size, dSum, wipeD, dGetKZ, dDictPK, dDictK2, dParKD, dnSortSetT, dZip, dEnumL, dEnum, dRetK, dSeq, dAsg, dAsgN, dAsgPop, dAppend, dExtend, dExtendT, dInsert, dPar, dPar3, dAug, dIfS, dFor, dRet, dRetO, dRetOwn, dRetOwnD, dRetN, dDrop, dNext, dBreak, dCont, dFreeze, dFreezeD, dGet2, dIdxN, dBorD, dBorDN, dBorDT, dParDN, dParND, dMax2, dAnyK, dnItems, dDictN, dKeysN, dnSortedND, dPutN, dAsgDN, dParN, dDict0, dBorrow, dBorrowT, dTr, dTest, dAnd, dOr, dNot, dAndV, dOrV, dNotV, dIf, dOp, dUn, dCB, dCall, dnCall, dCallX, dCallV, dTup, dLst, dnLst, dnLc, dLc, dOfN, dnAdd, dnSl, dSl, dSlice, dNoPart, dPart, dIx, isI, isB, dVar, dC, dCons, dNil, dLen, dRepr, dListOf, dTupOf, dItems, dItemsT, itemsOf, dSigns, dRng1, dgName, dgTup, dgCons, dgNil, dEq, dNe, dLt, dIn, dII, dIC, dNeg, dAdd, dRep, dUpper, dJoin, dYes, truD, dAll, dAny, dInt1, dAbs, dChain, List.set, List.getElem?_cons_succ, List.getElem?_cons_zero]
  rw [cut_one]
  have hk0 := hk
  rw [nd_term] at hk
  have lp : ps.length ≤ ndAll ps := len_nd fun u h => tmAll_mem hps u h
  refine ⟨small_le (by omega), fun i acc => acc = ((ps.take i).map fun p => ((nd p : Nat) : Int)).map PyData.int, rfl, ?_, ?_⟩
  · rintro i x acc hx - rfl
    rw [if_pos rfl]
    have hxm := List.mem_of_getElem? hx
    have h1 := depth_mem hxm
    have h2 := nd_mem hxm
    simp only [PyData.depth, PyData.depthAll] at hd
    refine ⟨⟨x, rfl, tmAll_mem hps x hxm, by omega, by omega, by omega⟩, ?_⟩
    rintro r ⟨_, e, rfl⟩
    cases e
    rw [List.take_add_one, hx, List.map_append, List.map_append]
    rfl
  · rintro acc - rfl
    rw [List.take_length]
    refine ⟨_, ints_some _, ?_⟩
    rw [sum_nd]
    refine ⟨_, rfl, ?_⟩
    rw [nd_term]
    congr 1
    omega
theorem dat_l_deep_term : ∀ ds, pre_l_deep_term ds → d_l_deep_term { nx := fun _ => post_l_deep_term ds .none, rt := post_l_deep_term ds } (startD 4 (none :: ds.map fun d => some (.dat d))) := by
  rintro ds ⟨m, rfl, hm⟩
  show d_l_deep_term _ [none, some (.dat (.int m)), none, none]
  dsimp only [d_l_deep_term, dGetKZ, dDictPK, dDictK2, dParKD, dnSortSetT, dZip, dEnumL, dEnum, dRetK, dSeq, dAsg, dAsgN, dAsgPop, dAppend, dExtend, dExtendT, dInsert, dPar, dPar3, dAug, dIfS, dFor, dRet, dRetO, dRetOwn, dRetOwnD, dRetN, dDrop, dNext, dBreak, dCont, dFreeze, dFreezeD, dGet2, dIdxN, dBorD, dBorDN, dBorDT, dParDN, dParND, dMax2, dAnyK, dnItems, dDictN, dKeysN, dnSortedND, dPutN, dAsgDN, dParN, dDict0, dBorrow, dBorrowT, dTr, dTest, dAnd, dOr, dNot, dAndV, dOrV, dNotV, dIf, dOp, dUn, dCB, dCall, dnCall, dCallX, dCallV, dTup, dLst, dnLst, dnLc, dLc, dOfN, dnAdd, dnSl, dSl, dSlice, dNoPart, dPart, dIx, isI, isB, dVar, dC, dCons, dNil, dLen, dRepr, dListOf, dTupOf, dItems, dItemsT, itemsOf, dSigns, dRng1, dgName, dgTup, dgCons, dgNil, dEq, dNe, dLt, dIn, dII, dIC, dNeg, dAdd, dRep, dUpper, dJoin, dYes, truD, dAll, dAny, dInt1, dAbs, dChain, List.set, List.getElem?_cons_succ, List.getElem?_cons_zero]
  refine ⟨rfl, ?_⟩
  rintro r ⟨x, rfl, hx⟩
  refine ⟨rfl, by omega, by omega, fun i δ => ∃ (t : PyData) (q : Option DV), δ = [none, some (.dat (.int m)), some (.dat t), q] ∧ Deep (i + 1) t, ⟨_, _, rfl, .one hx⟩, ?_, ?_⟩
  · rintro i y δ hy ⟨t, q, rfl, h⟩
    dsimp only [List.set, List.getElem?_cons_succ, List.getElem?_cons_zero]
    refine ⟨rfl, ?_⟩
    rintro r ⟨x, rfl, hx⟩
    exact ⟨rfl, _, _, rfl, .more hx h⟩
  · rintro δ ⟨t, q, rfl, h⟩
    dsimp only [List.set, List.getElem?_cons_succ, List.getElem?_cons_zero]
    refine ⟨_, h, ?_⟩
    rw [intsD_len]
    omega

def oneD (d : PyData) : PyData := .tuple [d]
theorem tm_one {n : Str} (h : isNm n = true) : tm (.tuple [.str n]) = true := by
  simp only [tm, tmH, tmAll, isN3, h, decide_true, Bool.and_self]
theorem sort_strs {L : List Str} (h : ∀ n ∈ L, isNm n = true) (nd : L.Nodup) : ((sortD (L.map .str)).map oneD).Pairwise LT ∧ ∀ d, d ∈ sortD (L.map .str) ↔ ∃ n ∈ L, d = .str n := by
  have pm : (sortD (L.map PyData.str)).Perm (L.map .str) := List.mergeSort_perm ..
  have mem : ∀ d, d ∈ sortD (L.map .str) ↔ ∃ n ∈ L, d = .str n := fun d => by
    rw [pm.mem_iff, List.mem_map]
    exact ⟨fun ⟨n, h1, h2⟩ => ⟨n, h1, h2.symm⟩, fun ⟨n, h1, h2⟩ => ⟨n, h1, h2.symm⟩⟩
  refine ⟨strict ?_ ?_ ?_, mem⟩
  · have pw := PySem.W.sort_pairwise (PySem.W.sortLe_total (listOrd itemOrd) false keyToks) (L.map PyData.str)
    have pw : (sortD (L.map .str)).Pairwise fun a b => sortLe (listOrd itemOrd) false keyToks a b = true := pw
    refine List.pairwise_map.mpr (List.Pairwise.imp_of_mem (fun {a b} ha hb hab => ?_) pw)
    obtain ⟨x, hx, rfl⟩ := (mem a).mp ha
    obtain ⟨y, hy, rfl⟩ := (mem b).mp hb
    have hab : (!ltT (keyToks (.str y)) (keyToks (.str x))) = true := hab
    have e1 : mkD (oneD (.str y)) = y.cps.toList ++ 40 :: [41] := rfl
    have e2 : mkD (oneD (.str x)) = x.cps.toList ++ 40 :: [41] := rfl
    rw [e1, e2]
    by_cases e : y.cps.toList = x.cps.toList
    · rw [e]
      exact List.lt_irrefl _
    · rw [pre_lt _ _ (nm_ok y (h y hy)).2 (nm_ok x (h x hx)).2 e]
      intro z
      have : ltT (keyToks (.str y)) (keyToks (.str x)) = true := by
        simp only [keyToks]
        rw [lt_head (fun z => e (Sum.inr.inj z))]
        show decide _ = true
        exact decide_eq_true z
      rw [this] at hab
      exact absurd hab (by decide)
  · have n0 : (L.map PyData.str).Nodup := List.pairwise_map.mpr (List.Pairwise.imp (fun hab z => hab (PyData.str.inj z)) nd)
    refine List.pairwise_map.mpr (List.Pairwise.imp (fun hab z => hab ?_) (pm.nodup_iff.mpr n0))
    unfold oneD at z
    simpa using z
  · intro t ht
    obtain ⟨d, hd, rfl⟩ := List.mem_map.mp ht
    obtain ⟨n, hn, rfl⟩ := (mem d).mp hd
    exact tm_one (h n hn)
theorem lt_nodup {es : List PyData} (h : es.Pairwise LT) : es.Nodup := h.imp fun hab z => by
  rw [z] at hab
  exact absurd hab (List.lt_irrefl _)
theorem one_len {x : PyData} (h : tm x = true) : ∃ n ps, x = .tuple (.str n :: ps) ∧ isNm n = true ∧ (PyData.eqv (.int (((PyData.str n :: ps).length : Nat) : Int)) (.int 1) = true ↔ ps = []) := by
  obtain ⟨n, ps, rfl, hn, _⟩ := tm_tup h
  refine ⟨n, ps, rfl, hn, ?_⟩
  rw [eqv_ii]
  cases ps with
  | nil => simp
  | cons p ps =>
    simp only [List.length_cons, reduceCtorEq, iff_false]
    intro z
    have z := eq_of_beq z
    omega
end DL

namespace DL
open PySem PySem.Spec PyProof.Rows L2
open Evl (Ex ex_l ex_t)
variable [TheW]
open PySem.W (EachIs AllAlike Sortable SortsAt sortVals sortLe keyToks keyToksAll dataKind alike alikeAll)
def names7 : List Str := ["a", "b", "c", "d", "f", "ab", "zzzzzzzz"]
theorem perm_strs {L : List Str} {es : List PyData} (h : es.Perm (L.map PyData.str)) : ∃ ns : List Str, ns.Perm L ∧ es = ns.map PyData.str := by
  have all : ∀ e ∈ es, ∃ n ∈ L, e = .str n := fun e he => by
    obtain ⟨n, h1, h2⟩ := List.mem_map.mp (h.mem_iff.mp he)
    exact ⟨n, h1, h2.symm⟩
  have inv : ∀ l : List Str, (l.map PyData.str).map (fun d => match d with | .str s => s | _ => ("" : Str)) = l := fun l => by
    rw [List.map_map]
    exact List.map_id l
  refine ⟨es.map fun d => match d with | .str s => s | _ => ("" : Str), ?_, ?_⟩
  · have := h.map fun d => match d with | .str s => s | _ => ("" : Str)
    rw [inv] at this
    exact this
  · rw [List.map_map]
    refine (List.map_id es).symm.trans (List.map_congr_left fun e he => ?_)
    obtain ⟨n, _, rfl⟩ := all e he
    rfl
/-- what the law finds: k of them -/
structure Te (k : Nat) (t : PyData) : Prop where
  m : tm t = true
  d : t.depth ≤ k
  n : nd t ≤ 24
theorem Te.mono {k l : Nat} {t : PyData} (h : Te k t) (z : k ≤ l) : Te l t := ⟨h.m, Nat.le_trans h.d z, h.n⟩
theorem shaped_tm {t : PyData} (h : tm t = true) (d : t.depth ≤ 50) : SeqAt.shaped t = true := by
  obtain ⟨h1, h2, _⟩ := tm_bd t h
  unfold SeqAt.shaped
  rw [Bool.and_eq_true, decide_eq_true_eq]
  exact ⟨lay_tup t h1 h2, by omega⟩
theorem layAll_tm {ts : List PyData} (h : ∀ t ∈ ts, tm t = true) : PyData.canLayAll0 ts = true :=
  lay_tupAll ts (tupAll_of fun d hd => (tm_bd d (h d hd)).1) (fitAll_of fun d hd => (tm_bd d (h d hd)).2.1)
theorem shaped_list {ts : List PyData} (h : ∀ t ∈ ts, tm t = true ∧ t.depth ≤ 50) : SeqAt.shaped (.list ts) = true := by
  unfold SeqAt.shaped
  rw [Bool.and_eq_true, decide_eq_true_eq]
  refine ⟨?_, ?_⟩
  · simp only [PyData.canLay0]
    exact layAll_tm fun t ht => (h t ht).1
  · have := depthAll_le fun d hd => (h d hd).2
    simp only [PyData.depth]
    omega
def worksD : List PyData := [.list [.tuple [.str "f", .int 1]], .list [.tuple [.str "f", .int 1]], .list [.tuple [.str "f", .int 1], .tuple [.str "g", .int 2]], .list [.tuple [.str "f", .int 2]],
  .list [.tuple [.str "f", .int 1], .tuple [.str "f", .int 2]], .list [.tuple [.str "a", .int 1]], .list [.tuple [.str "g", .int 3]],
  .list [.tuple [.str "f", .int 1], .tuple [.str "g", .int 1], .tuple [.str "h", .int 2]], .list [.tuple [.str "f", .int 4]], .list [.tuple [.str "f", .int 1], .tuple [.str "h", .int 5]]]
def WorkOk (ws : List PyData) : Prop := ws ≠ [] ∧ ws.length ≤ 3 ∧ ∀ w ∈ ws, ∃ (n : Str) (k : Nat), w = .tuple [.str n, .int k] ∧ isNm n = true ∧ 1 ≤ k ∧ k ≤ 5
theorem works_ok : ∀ r ∈ worksD, ∃ ws, r = .list ws ∧ WorkOk ws := by
  have mk : ∀ {n : Str} {k : Nat}, isNm n = true → 1 ≤ k → k ≤ 5 → ∃ (m : Str) (j : Nat), PyData.tuple [.str n, .int k] = .tuple [.str m, .int j] ∧ isNm m = true ∧ 1 ≤ j ∧ j ≤ 5 := fun h a b => ⟨_, _, rfl, h, a, b⟩
  intro r hr
  simp only [worksD, List.mem_cons, List.not_mem_nil, or_false] at hr
  rcases hr with rfl | rfl | rfl | rfl | rfl | rfl | rfl | rfl | rfl | rfl <;>
  · refine ⟨_, rfl, by simp, by simp, ?_⟩
    intro w hw
    simp only [List.mem_cons, List.not_mem_nil, or_false] at hw
    first
      | (rcases hw with rfl | rfl | rfl <;> exact mk (by decide) (by decide) (by decide))
      | (rcases hw with rfl | rfl <;> exact mk (by decide) (by decide) (by decide))
      | (subst hw; exact mk (by decide) (by decide) (by decide))
def Cl (ts : List PyData) : Prop := ∀ t ∈ ts, ∀ p ∈ parts t, p ∈ ts
theorem if_cases {p : Prop} [Decidable p] {A B : Prop} (ha : p → A) (hb : ¬ p → B) : if p then A else B := by
  split
  · exact ha ‹_›
  · exact hb ‹_›
theorem if_and {p q : Prop} [Decidable p] [Decidable q] {A B : Prop} (ha : p ∧ q → A) (hb : B) : if p then (if q then A else B) else B := by
  split
  · split
    · exact ha ⟨‹_›, ‹_›⟩
    · exact hb
  · exact hb
theorem if_both {p q : Prop} [Decidable p] [Decidable q] {A B : Prop} (h : ¬ (p ∧ q)) (hB : B) : if p then (if q then A else B) else B := by
  split
  · split
    · rename_i a b
      exact absurd ⟨a, b⟩ h
    · exact hB
  · exact hB
theorem pool_sorted {ts : List PyData} (h0 : ts ≠ []) (h7 : ts.length ≤ 7) (ht : ∀ t ∈ ts, Te ts.length t) (hc : Cl ts) : SortOk ts ∧ tupOnlyAll (sortD ts) = true ∧ PoolL (sortD ts) := by
  have pm : (sortD ts).Perm ts := List.mergeSort_perm ..
  have ok : ∀ t ∈ ts, okT t := fun t h => okT_of (ht t h).m (Nat.le_trans (ht t h).d (by omega)) (Nat.le_trans (ht t h).n (by decide))
  refine ⟨⟨fun a ha b hb => alike_tm a b (ht a ha).m (ht b hb).m, .inl fun a ha => ?_, fun a ha => Nat.le_trans (ok a ha).d (by decide), layAll_tm fun t h => (ht t h).m⟩, tupAll_tm fun t h => (ht t (pm.mem_iff.mp h)).m, ?_, ?_, ?_, ?_⟩
  · obtain ⟨n, ps, e, _⟩ := tm_tup (ht a ha).m
    exact ⟨_, _, e⟩
  · intro z
    rw [z] at pm
    exact h0 pm.nil_eq.symm
  · rw [pm.length_eq]
    exact h7
  · exact fun t h => ok t (pm.mem_iff.mp h)
  · exact fun t h p hp => pm.mem_iff.mpr (hc t (pm.mem_iff.mp h) p hp)
theorem te_add {ts : List PyData} {t : PyData} (hts : ∀ t ∈ ts, Te ts.length t) (hc : Cl ts) (h : tm t = true) (d : t.depth ≤ ts.length + 1) (n : nd t ≤ 24) (hp : ∀ p ∈ parts t, p ∈ ts) : (∀ u ∈ ts ++ [t], Te (ts ++ [t]).length u) ∧ Cl (ts ++ [t]) := by
  have l : (ts ++ [t]).length = ts.length + 1 := by rw [List.length_append]; rfl
  refine ⟨fun u hu => ?_, fun u hu p hpu => List.mem_append.mpr (.inl ?_)⟩
  · rw [l]
    rcases List.mem_append.mp hu with hu | hu
    · exact (hts u hu).mono (by omega)
    · rw [List.mem_singleton.mp hu]
      exact ⟨h, d, n⟩
  · rcases List.mem_append.mp hu with hu | hu
    · exact hc u hu p hpu
    · rw [List.mem_singleton.mp hu] at hpu
      exact hp p hpu
theorem tm_mk {n : Str} {ps : List PyData} (h : isNm n = true) (hp : ∀ p ∈ ps, tm p = true) : tm (.tuple (.str n :: ps)) = true := by
  have all : ∀ ps : List PyData, (∀ p ∈ ps, tm p = true) → tmAll ps = true := by
    intro ps
    induction ps with
    | nil => intro _; rfl
    | cons x xs ih => intro h; simp only [tmAll, h x (List.mem_cons_self ..), ih fun p hp => h p (List.mem_cons_of_mem _ hp), Bool.and_self]
  simp only [tm, tmH, isN3, h, all ps hp, decide_true, Bool.and_self]
theorem ndAll_24 : ∀ {ps : List PyData}, (∀ p ∈ ps, nd p ≤ 24) → ndAll ps ≤ ps.length * 24
  | [], _ => Nat.le_refl _
  | x :: xs, h => by
    have h1 := h x (List.mem_cons_self ..)
    have h2 := ndAll_24 (ps := xs) fun p hp => h p (List.mem_cons_of_mem _ hp)
    simp only [ndAll, List.length_cons]
    omega
theorem dat_l_terms : ∀ ds, pre_l_terms ds → d_l_terms { nx := fun _ => False, rt := fun _ => False, ro := post_l_terms ds } (startD 14 (none :: ds.map fun d => some (.dat d))) := by
  rintro ds rfl
  show d_l_terms _ [none, some (.dat (.int 7)), none, none, none, none, none, none, none, none, none, none, none, none]
  dsimp only [d_l_terms, dPar3O, dnSorted, dBorrowN, wipeD, dInD, dGetKZ, dDictPK, dDictK2, dParKD, dnSortSetT, dZip, dEnumL, dEnum, dRetK, dSeq, dAsg, dAsgN, dAsgPop, dAppend, dExtend, dExtendT, dInsert, dPar, dPar3, dAug, dIfS, dFor, dRet, dRetO, dRetOwn, dRetOwnD, dRetN, dDrop, dNext, dBreak, dCont, dFreeze, dFreezeD, dGet2, dIdxN, dBorD, dBorDN, dBorDT, dParDN, dParND, dMax2, dAnyK, dnItems, dDictN, dKeysN, dnSortedND, dPutN, dAsgDN, dParN, dDict0, dBorrow, dBorrowT, dTr, dTest, dAnd, dOr, dNot, dAndV, dOrV, dNotV, dIf, dOp, dUn, dCB, dCall, dnCall, dCallX, dCallV, dTup, dLst, dnLst, dnLc, dLc, dOfN, dnAdd, dnSl, dSl, dSlice, dNoPart, dPart, dIx, isI, isB, dVar, dC, dCons, dNil, dLen, dRepr, dListOf, dTupOf, dItems, dItemsT, itemsOf, dSigns, dRng1, dgName, dgTup, dgCons, dgNil, dEq, dNe, dLt, dIn, dII, dIC, dNeg, dAdd, dRep, dUpper, dJoin, dYes, truD, dAll, dAny, dInt1, dAbs, dChain, List.set, List.getElem?_cons_succ, List.getElem?_cons_zero]
  refine ⟨rfl, ⟨_, rfl, by decide⟩, ?_⟩
  rintro r ⟨_, e, pm⟩
  cases e
  obtain ⟨ns, pn, rfl⟩ := perm_strs (L := names7) pm
  clear pm
  repeat refine ⟨rfl, ?_⟩
  refine ⟨⟨by simp, rfl⟩, ?_⟩
  intro r hr
  obtain ⟨ws, rfl, hws⟩ := works_ok r hr
  clear hr
  have nm7 : ∀ n ∈ names7, isNm n = true := by decide
  have an : ∀ i : Int, 0 ≤ i → i < 7 → ∃ n, atD (.list (ns.map PyData.str)) i = some (.str n) ∧ isNm n = true := by
    intro i h0 h1
    have l : (ns.map PyData.str).length = 7 := by rw [List.length_map, pn.length_eq]; rfl
    obtain ⟨x, hx, e⟩ := atI_some (xs := ns.map PyData.str) h0 (by rw [l]; exact h1)
    obtain ⟨n, hn, rfl⟩ := List.mem_map.mp hx
    exact ⟨n, e, nm7 n (pn.mem_iff.mp hn)⟩
  obtain ⟨n0, e0, hn0⟩ := an 0 (by decide) (by decide)
  rw [e0]
  dsimp only
  refine ⟨rfl, rfl, rfl, ⟨by simp, rfl⟩, ?_⟩
  intro mo hmo
  obtain ⟨mo, rfl, mo6⟩ : ∃ m : Int, mo = .int m ∧ m ≤ 6 := by
    have hmo : mo ∈ [PyData.int 4, .int 4, .int 4, .int 6] := hmo
    simp only [List.mem_cons, List.not_mem_nil, or_false] at hmo
    rcases hmo with rfl | rfl | rfl | rfl <;> exact ⟨_, rfl, by decide⟩
  refine ⟨⟨by decide, by decide⟩, ?_⟩
  rintro _ ⟨j, rfl, j0, j7⟩
  refine ⟨rfl, ⟨by simp, rfl⟩, ?_⟩
  intro sb hsb
  obtain ⟨s, rfl, s0⟩ : ∃ m : Int, sb = .int m ∧ 0 ≤ m := by
    have hsb : sb ∈ [PyData.int 0, .int 0, .int 0, .int 0, .int 1, .int 2, .int j] := hsb
    simp only [List.mem_cons, List.not_mem_nil, or_false] at hsb
    rcases hsb with rfl | rfl | rfl | rfl | rfl | rfl | rfl
    all_goals first | exact ⟨_, rfl, by decide⟩ | exact ⟨_, rfl, j0⟩
  dsimp only
  have g7 : (7 : Int) - s ≤ 7 := by omega
  generalize (7 : Int) - s = g at g7 ⊢
  generalize (PyData.list [PyData.list [PyData.tuple [PyData.str (Str.ofString "f"), PyData.int 1]], _, _, _, _, _, _]) = p3
  refine ⟨cmulR (by decide), cmulL (by decide), by split <;> omega, by split <;> omega, fun _ δ => ∃ (ts : List PyData) (pl : Int) (p9 p10 p11 p12 p13 : Option DV),
    δ = [none, some (.dat (.int 7)), some (.dat (.list (ns.map .str))), some (.dat p3), some (.dat (.list ws)), some (.own ts), some (.dat (.int pl)), some (.dat (.int mo)), some (.dat (.int g)), p9, p10, p11, p12, p13] ∧
      ts ≠ [] ∧ ts.length ≤ 7 ∧ (∀ t ∈ ts, Te ts.length t) ∧ Cl ts ∧ 0 ≤ pl, ?_, ?_, ?_⟩
  · refine ⟨[.tuple [.str n0]], 1, _, _, _, _, _, rfl, by simp, by show 1 ≤ 7; decide, ?_, ?_, by decide⟩
    · intro t ht
      rw [List.mem_singleton.mp ht]
      exact ⟨tm_one hn0, by simp [PyData.depth, PyData.depthAll], by simp [nd, ndAll]⟩
    · intro t ht p hp
      rw [List.mem_singleton.mp ht] at hp
      cases hp
  · rintro i x δ hx ⟨ts, pl, p9, p10, p11, p12, p13, rfl, t0, t7, hts, hcl, l0⟩
    dsimp only [List.set, List.getElem?_cons_succ, List.getElem?_cons_zero]
    refine if_cases (fun cg => ?_) fun cg => ?_
    · exact pool_sorted t0 t7 hts hcl
    · have t6 : ts.length ≤ 6 := by
        by_cases z : g ≤ (ts.length : Int)
        · exact absurd (decide_eq_true z) cg
        · omega
      have shs : SeqAt.shaped (.list ts) = true := shaped_list fun t h => ⟨(hts t h).m, Nat.le_trans (hts t h).d (by omega)⟩
      refine ⟨⟨by decide, by decide⟩, ?_⟩
      rintro _ ⟨j5, rfl, _, _⟩
      dsimp only
      refine if_and (fun c5 => ?_) ?_
      · obtain ⟨n, e, hn⟩ := an pl l0 (by have := of_decide_eq_true c5.2; omega)
        rw [e]
        dsimp only
        have ht := tm_one hn
        have hd : (PyData.tuple [.str n]).depth ≤ 1 := by simp [PyData.depth, PyData.depthAll]
        have hn1 : nd (PyData.tuple [.str n]) = 1 := by simp [nd, ndAll]
        obtain ⟨a1, a2⟩ := te_add hts hcl ht (by omega) (by omega) (fun p hp => by cases hp)
        refine ⟨rfl, by rw [shaped_tm ht (by omega), shs]; rfl, ?_⟩
        refine if_cases (fun _ => ⟨⟨_, rfl, ht, by omega, by decide, by omega⟩, ?_⟩) fun _ => ?_
        · rintro _ ⟨_, e, rfl⟩
          cases e
          dsimp only
          refine if_cases (fun c => ⟨small_le (by omega), _, _, _, _, _, _, _, rfl, by simp, by rw [List.length_append]; simp only [List.length_cons, List.length_nil]; omega, a1, a2, by omega⟩) fun _ => ⟨ts, _, _, _, _, _, _, rfl, t0, t7, hts, hcl, by omega⟩
        · rw [if_neg Bool.false_ne_true]
          exact ⟨ts, _, _, _, _, _, _, rfl, t0, t7, hts, hcl, by omega⟩
      · refine ⟨⟨hws.1, small_le (by have := hws.2.1; omega)⟩, ?_⟩
        intro w hw
        obtain ⟨n, k, rfl, hn, k1, k5⟩ := hws.2.2 w hw
        dsimp only
        refine ⟨rfl, rfl, by omega, by omega, small_le (by rw [intsD_len]; omega), fun _ acc => ∀ d ∈ acc, d ∈ ts, by simp, ?_, ?_⟩
        · intro i3 x3 acc hx3 _ hacc
          rw [if_pos rfl]
          refine ⟨⟨t0, small_le (by omega)⟩, ?_⟩
          intro y hy d hd
          rcases List.mem_append.mp hd with hd | hd
          · exact hacc d hd
          · rw [List.mem_singleton.mp hd]
            exact hy
        · intro ps hl hps
          rw [intsD_len] at hl
          have hl : ps.length ≤ 5 := by omega
          have ht : tm (.tuple ([.str n] ++ ps)) = true := tm_mk hn fun p hp => (hts p (hps p hp)).m
          have hd : (PyData.tuple ([.str n] ++ ps)).depth ≤ ts.length + 1 := by
            have := depthAll_le fun d hd => (hts d (hps d hd)).d
            simp only [List.singleton_append, PyData.depth, PyData.depthAll]
            omega
          have hn1 : nd (PyData.tuple ([.str n] ++ ps)) ≤ 121 := by
            have := ndAll_24 fun p hp => (hts p (hps p hp)).n
            rw [List.singleton_append, nd_term]
            omega
          refine ⟨small_le (by simp only [List.length_cons, List.length_nil]; omega), (tm_bd _ ht).1, by rw [shaped_tm ht (by omega), shs]; rfl, ?_⟩
          refine if_cases (fun _ => ⟨⟨_, rfl, ht, by omega, by decide, by omega⟩, ?_⟩) fun _ => ?_
          · rintro _ ⟨_, e, rfl⟩
            cases e
            dsimp only
            refine if_cases (fun c => ?_) fun _ => ⟨ts, _, _, _, _, _, _, rfl, t0, t7, hts, hcl, l0⟩
            have c := of_decide_eq_true c
            obtain ⟨a1, a2⟩ := te_add hts hcl ht hd (by omega) (fun p hp => hps p hp)
            exact ⟨small_le (by omega), _, _, _, _, _, _, _, rfl, by simp, by rw [List.length_append]; simp only [List.length_cons, List.length_nil]; omega, a1, a2, l0⟩
          · rw [if_neg Bool.false_ne_true]
            exact ⟨ts, _, _, _, _, _, _, rfl, t0, t7, hts, hcl, l0⟩
  · rintro δ ⟨ts, pl, p9, p10, p11, p12, p13, rfl, t0, t7, hts, hcl, l0⟩
    dsimp only [List.set, List.getElem?_cons_succ, List.getElem?_cons_zero]
    exact pool_sorted t0 t7 hts hcl

theorem deep_tm {k : Nat} {t : PyData} (h : Deep k t) : tm t = true ∧ t.depth = k ∧ nd t = k := by
  induction h with
  | one hn => exact ⟨tm_one hn, by simp [PyData.depth, PyData.depthAll], by simp [nd, ndAll]⟩
  | more hn _ ih =>
    obtain ⟨h1, h2, h3⟩ := ih
    refine ⟨tm_mk hn fun p hp => List.mem_singleton.mp hp ▸ h1, ?_, ?_⟩
    · simp only [PyData.depth, PyData.depthAll]
      omega
    · simp only [nd, ndAll]
      omega
theorem sub_nd {x t : PyData} (s : Sub x t) : tm t = true → nd x ≤ nd t := by
  induction s with
  | refl => exact fun _ => Nat.le_refl _
  | part h _ ih =>
    intro ht
    have h1 := ih (part_ok ht h).1
    have h2 := parts_nd ht
    have h3 := nd_mem h
    omega
theorem sub_part {x t p : PyData} (s : Sub x t) : p ∈ parts x → Sub p t := by
  induction s with
  | refl => exact fun hp => .part hp (.refl _)
  | part h _ ih => exact fun hp => .part h (ih hp)
theorem deep_pool {k : Nat} {t : PyData} {es : List PyData} (h : Deep k t) (k7 : k ≤ 7) (l : es.length ≤ nd t) (m : ∀ x, x ∈ es ↔ Sub x t) : PoolL es := by
  obtain ⟨h1, h2, h3⟩ := deep_tm h
  refine ⟨fun z => ?_, by omega, fun x hx => ?_, fun x hx p hp => (m p).mpr (sub_part ((m x).mp hx) hp)⟩
  · have := (m t).mpr (.refl t)
    rw [z] at this
    cases this
  · have s := (m x).mp hx
    obtain ⟨a, b⟩ := sub_ok s h1
    have := sub_nd s h1
    exact okT_of a (by omega) (by omega)
theorem sub_trans {x y t : PyData} (s : Sub y t) : Sub x y → Sub x t := by
  induction s with
  | refl => exact id
  | part h _ ih => exact fun k => .part h (ih k)
theorem if_pool {c : Prop} {i : Decidable c} {Y : Prop} {X : List PyData → Prop} {ts : List PyData} (hp : PoolL ts) (hX : ∀ ts, PoolL ts → X ts) (hY : (∀ es, PoolL es → X es) → Y) : @ite _ c i Y (X ts) := by
  split
  · exact hY hX
  · exact hX ts hp
end DL

namespace DL
open PySem PySem.Spec PyProof.Rows L2
open Evl (Ex ex_l ex_t)
variable [TheW]
open PySem.W (EachIs AllAlike Sortable SortsAt sortVals sortLe keyToks keyToksAll dataKind alike alikeAll)
theorem putAll_eq {kvs : List (PyData × PyData)} : ∀ ps : List PyData, putAll kvs ps = ps.map (putV kvs)
  | [] => rfl
  | x :: xs => by rw [putAll, putAll_eq xs, List.map_cons]
theorem put_one {kvs : List (PyData × PyData)} {n : Str} : putV kvs (.tuple [.str n]) = (getI kvs (.inr n)).getD (.tuple [.str n]) := by
  simp only [putV, putH, List.isEmpty_nil, cond_true, leafV]
theorem put_more {kvs : List (PyData × PyData)} {n : Str} {ps : List PyData} (h : ps ≠ []) : putV kvs (.tuple (.str n :: ps)) = .tuple (.str n :: ps.map (putV kvs)) := by
  cases ps with
  | nil => exact absurd rfl h
  | cons p ps => simp only [putV, putH, List.isEmpty_cons, cond_false, putAll_eq]
theorem get_mem {kvs : List (PyData × PyData)} {k : Key} {d : PyData} (h : getI kvs k = some d) : ∃ p ∈ kvs, d = p.2 := by
  unfold getI at h
  obtain ⟨p, h1, h2⟩ := Option.map_eq_some_iff.mp h
  exact ⟨p, List.mem_of_find?_eq_some h1, h2.symm⟩
mutual
theorem put_tm {kvs : List (PyData × PyData)} (ok : NmOk kvs) : ∀ t : PyData, tm t = true → tm (putV kvs t) = true ∧ (putV kvs t).depth ≤ t.depth + 7 ∧ nd (putV kvs t) ≤ 60 * nd t
  | .tuple (.str n :: []), hx => by
    rw [put_one]
    have d1 : (PyData.tuple [.str n]).depth = 1 := by simp [PyData.depth, PyData.depthAll]
    have n1 : nd (.tuple [.str n]) = 1 := by simp [nd, ndAll]
    cases e : getI kvs (.inr n) with
    | none => exact ⟨hx, by show (PyData.tuple [.str n]).depth ≤ _; omega, by show nd (.tuple [.str n]) ≤ _; omega⟩
    | some d =>
      obtain ⟨p, hp, rfl⟩ := get_mem e
      have o := ok.v p hp
      have := o.d
      have := o.n
      exact ⟨o.m, by show p.2.depth ≤ _; omega, by show nd p.2 ≤ _; omega⟩
  | .tuple (.str n :: p :: ps), hx => by
    simp only [tm, tmH, Bool.and_eq_true] at hx
    obtain ⟨h1, h2, h3⟩ := put_tmAll ok (p :: ps) hx.2
    simp only [putV, putH, List.isEmpty_cons, cond_false]
    refine ⟨?_, ?_, ?_⟩
    · simp only [tm, tmH, hx.1, h1, Bool.and_self]
    · simp only [PyData.depth, PyData.depthAll] at h2 ⊢
      omega
    · rw [nd_term, nd_term]
      omega
  | .tuple [], hx => absurd hx Bool.false_ne_true
  | .tuple (.none :: _), hx => absurd hx Bool.false_ne_true
  | .tuple (.bool _ :: _), hx => absurd hx Bool.false_ne_true
  | .tuple (.int _ :: _), hx => absurd hx Bool.false_ne_true
  | .tuple (.list _ :: _), hx => absurd hx Bool.false_ne_true
  | .tuple (.tuple _ :: _), hx => absurd hx Bool.false_ne_true
  | .tuple (.dict _ :: _), hx => absurd hx Bool.false_ne_true
  | .none, hx => absurd hx Bool.false_ne_true
  | .bool _, hx => absurd hx Bool.false_ne_true
  | .int _, hx => absurd hx Bool.false_ne_true
  | .str _, hx => absurd hx Bool.false_ne_true
  | .list _, hx => absurd hx Bool.false_ne_true
  | .dict _, hx => absurd hx Bool.false_ne_true
theorem put_tmAll {kvs : List (PyData × PyData)} (ok : NmOk kvs) : ∀ xs : List PyData, tmAll xs = true → tmAll (putAll kvs xs) = true ∧ PyData.depthAll (putAll kvs xs) ≤ PyData.depthAll xs + 7 ∧ ndAll (putAll kvs xs) ≤ 60 * ndAll xs
  | [], _ => ⟨rfl, by simp [putAll, PyData.depthAll], by simp [putAll, ndAll]⟩
  | x :: xs, hx => by
    simp only [tmAll, Bool.and_eq_true] at hx
    obtain ⟨h1, h2, h3⟩ := put_tmAll ok xs hx.2
    obtain ⟨h4, h5, h6⟩ := put_tm ok x hx.1
    refine ⟨?_, ?_, ?_⟩
    · simp only [putAll, tmAll, h1, h4, Bool.and_self]
    · simp only [putAll, PyData.depthAll] at h2 ⊢
      omega
    · simp only [putAll, ndAll]
      omega
end
theorem txt_of {kvs : List (PyData × PyData)} (ok : NmOk kvs) : txtKeys kvs = true := by
  unfold txtKeys
  rw [List.all_eq_true]
  intro p hp
  obtain ⟨n, e, _⟩ := ok.k p hp
  rw [e]
theorem cut_head (x : PyData) (xs : List PyData) : cutD (x :: xs) none (some 1) = [x] := by
  have := cut_take (x :: xs) 1
  rw [show ((1 : Nat) : Int) = 1 from rfl] at this
  rw [this]
  simp
theorem dat_put_in : ∀ n, ∀ ds, pre_put_in (n + 1) ds → d_put_in n { nx := fun _ => post_put_in ds .none, rt := post_put_in ds } (startD 4 (ds.map fun d => some (.dat d))) := by
  rintro n ds ⟨t, kvs, rfl, ok, ht, hd, hn, hk⟩
  obtain ⟨nm, ps, rfl, hnm, h1⟩ := one_len ht
  have hps : tmAll ps = true := by
    simp only [tm, tmH, Bool.and_eq_true] at ht
    exact ht.2
  show d_put_in n _ [some (.dat (.tuple (.str nm :: ps))), some (.dat (.dict kvs)), none, none]
  dsimp only [d_put_in, dGetKZ, dDictPK, dDictK2, dParKD, dnSortSetT, dZip, dEnumL, dEnum, dRetK, dSeq, dAsg, dAsgN, dAsgPop, dAppend, dExtend, dExtendT, dInsert, dPar, dPar3, dAug, dIfS, dFor, dRet, dRetO, dRetOwn, dRetOwnD, dRetN, dDrop, dNext, dBreak, dCont, dFreeze, dFreezeD, dGet2, dIdxN, dBorD, dBorDN, dBorDT, dParDN, dParND, dMax2, dAnyK, dnItems, dDictN, dKeysN, dnSortedND, dPutN, dAsgDN, dParN, dDict0, dBorrow, dBorrowT, dTr, dTest, dAnd, dOr, dNot, dAndV, dOrV, dNotV, dIf, dOp, dUn, dCB, dCall, dnCall, dCallX, dCallV, dTup, dLst, dnLst, dnLc, dLc, dOfN, dnAdd, dnSl, dSl, dSlice, dNoPart, dPart, dIx, isI, isB, dVar, dC, dCons, dNil, dLen, dRepr, dListOf, dTupOf, dItems, dItemsT, itemsOf, dSigns, dRng1, dgName, dgTup, dgCons, dgNil, dEq, dNe, dLt, dIn, dII, dIC, dNeg, dAdd, dRep, dUpper, dJoin, dYes, truD, dAll, dAny, dInt1, dAbs, dChain, List.set, List.getElem?_cons_succ, List.getElem?_cons_zero]
  rw [cut_one, cut_head]
  refine ⟨rfl, ?_⟩
  refine if_cases (fun c => ?_) fun c => ?_
  · rw [h1] at c
    subst c
    refine ⟨txt_of ok, ?_⟩
    rw [atI0]
    dsimp only
    exact ⟨_, kvs, rfl, put_one.symm⟩
  · have hps0 : ps ≠ [] := fun z => c (h1.mpr z)
    have lp : ps.length ≤ ndAll ps := len_nd fun u h => tmAll_mem hps u h
    have hk0 := hk
    rw [nd_term] at hk
    refine ⟨fun i δ => ∃ q : Option DV, δ = [some (.dat (.tuple (.str nm :: ps))), some (.dat (.dict kvs)), some (.dat (.tuple (.str nm :: (ps.take i).map (putV kvs)))), q], ⟨_, rfl⟩, ?_, ?_⟩
    · rintro i x δ hx ⟨q, rfl⟩
      dsimp only [List.set, List.getElem?_cons_succ, List.getElem?_cons_zero]
      have hxm := List.mem_of_getElem? hx
      have a1 := depth_mem hxm
      have a2 := nd_mem hxm
      simp only [PyData.depth, PyData.depthAll] at hd
      refine ⟨⟨x, kvs, rfl, ok, tmAll_mem hps x hxm, by omega, by omega, by omega⟩, ?_⟩
      rintro r ⟨_, _, e, rfl⟩
      cases e
      have hi : i < ps.length := (List.getElem?_eq_some_iff.mp hx).1
      refine ⟨rfl, ?_⟩
      have et : ps.take (i + 1) = ps.take i ++ [x] := by
        rw [List.take_add_one, hx]
        rfl
      refine ⟨small_le ?_, some (.dat x), ?_⟩
      · simp only [List.length_append, List.length_cons, List.length_map, List.length_take, List.length_nil]
        omega
      · rw [et, List.map_append, List.map_singleton]
        rfl
    · rintro δ ⟨q, rfl⟩
      rw [List.take_length]
      dsimp only [List.set, List.getElem?_cons_succ, List.getElem?_cons_zero]
      exact ⟨_, kvs, rfl, (put_more hps0).symm⟩
theorem dat_l_put : ∀ n, ∀ ds, pre_l_put (n + 1) ds → d_l_put n { nx := fun _ => post_l_put ds .none, rt := post_l_put ds } (startD 3 (ds.map fun d => some (.dat d))) := by
  rintro n ds ⟨t, kvs, rfl, ok, ht, hd, hn, hk⟩
  obtain ⟨nm, ps, rfl, hnm, h1⟩ := one_len ht
  have hps : tmAll ps = true := by
    simp only [tm, tmH, Bool.and_eq_true] at ht
    exact ht.2
  show d_l_put n _ [some (.dat (.tuple (.str nm :: ps))), some (.dat (.dict kvs)), none]
  dsimp only [d_l_put, wipeD, dGetKZ, dDictPK, dDictK2, dParKD, dnSortSetT, dZip, dEnumL, dEnum, dRetK, dSeq, dAsg, dAsgN, dAsgPop, dAppend, dExtend, dExtendT, dInsert, dPar, dPar3, dAug, dIfS, dFor, dRet, dRetO, dRetOwn, dRetOwnD, dRetN, dDrop, dNext, dBreak, dCont, dFreeze, dFreezeD, dGet2, dIdxN, dBorD, dBorDN, dBorDT, dParDN, dParND, dMax2, dAnyK, dnItems, dDictN, dKeysN, dnSortedND, dPutN, dAsgDN, dParN, dDict0, dBorrow, dBorrowT, dTr, dTest, dAnd, dOr, dNot, dAndV, dOrV, dNotV, dIf, dOp, dUn, dCB, dCall, dnCall, dCallX, dCallV, dTup, dLst, dnLst, dnLc, dLc, dOfN, dnAdd, dnSl, dSl, dSlice, dNoPart, dPart, dIx, isI, isB, dVar, dC, dCons, dNil, dLen, dRepr, dListOf, dTupOf, dItems, dItemsT, itemsOf, dSigns, dRng1, dgName, dgTup, dgCons, dgNil, dEq, dNe, dLt, dIn, dII, dIC, dNeg, dAdd, dRep, dUpper, dJoin, dYes, truD, dAll, dAny, dInt1, dAbs, dChain, List.set, List.getElem?_cons_succ, List.getElem?_cons_zero]
  rw [cut_one, cut_head]
  refine ⟨rfl, ?_⟩
  refine if_cases (fun c => ?_) fun c => ?_
  · rw [h1] at c
    subst c
    refine ⟨txt_of ok, ?_⟩
    rw [atI0]
    dsimp only
    exact ⟨_, kvs, rfl, put_one.symm⟩
  · have hps0 : ps ≠ [] := fun z => c (h1.mpr z)
    have lp : ps.length ≤ ndAll ps := len_nd fun u h => tmAll_mem hps u h
    have hk0 := hk
    rw [nd_term] at hk
    refine ⟨small_le (by omega), fun i acc => acc = (ps.take i).map (putV kvs), rfl, ?_, ?_⟩
    · rintro i x acc hx - rfl
      rw [if_pos rfl]
      have hxm := List.mem_of_getElem? hx
      have a1 := depth_mem hxm
      have a2 := nd_mem hxm
      simp only [PyData.depth, PyData.depthAll] at hd
      refine ⟨⟨x, kvs, rfl, ok, tmAll_mem hps x hxm, by omega, by omega, by omega⟩, ?_⟩
      rintro r ⟨_, _, e, rfl⟩
      cases e
      rw [List.take_add_one, hx, List.map_append]
      rfl
    · rintro acc hl rfl
      rw [List.take_length]
      refine ⟨?_, ?_⟩
      · refine small_le ?_
        simp only [List.length_append, List.length_cons, List.length_map, List.length_nil]
        omega
      · exact ⟨_, kvs, rfl, (put_more hps0).symm⟩
end DL

namespace DL
open PySem PySem.Spec PyProof.Rows L2
open Evl (Ex ex_l ex_t)
variable [TheW]
open PySem.W (EachIs AllAlike Sortable SortsAt sortVals sortLe keyToks keyToksAll dataKind alike alikeAll)
def NmKs (kvs : List (Str × PyData)) : Prop := ∀ p ∈ kvs, isNm p.1 = true ∧ okT p.2
theorem nmk_put {kvs : List (Str × PyData)} (h : NmKs kvs) {x : Str} {v : PyData} (hx : isNm x = true) (hv : okT v) : NmKs (putKs kvs x v) := by
  unfold putKs
  split
  · intro p hp
    obtain ⟨q, hq, rfl⟩ := List.mem_map.mp hp
    split
    · exact ⟨(h q hq).1, hv⟩
    · exact h q hq
  · intro p hp
    rcases List.mem_append.mp hp with hp | hp
    · exact h p hp
    · rw [List.mem_singleton.mp hp]
      exact ⟨hx, hv⟩
theorem putKs_len (kvs : List (Str × PyData)) (x : Str) (v : PyData) : (putKs kvs x v).length ≤ kvs.length + 1 := by
  unfold putKs
  split
  · rw [List.length_map]; omega
  · rw [List.length_append]; exact Nat.le_refl _
theorem nmOk_of {kvs : List (Str × PyData)} (h : NmKs kvs) (l : kvs.length ≤ 20) : ∃ k, txtD kvs = .dict k ∧ NmOk k := by
  refine ⟨_, rfl, ?_, ?_, by rw [List.length_map]; exact l⟩
  · intro p hp
    obtain ⟨q, hq, rfl⟩ := List.mem_map.mp hp
    exact ⟨_, rfl, (h q hq).1⟩
  · intro p hp
    obtain ⟨q, hq, rfl⟩ := List.mem_map.mp hp
    exact (h q hq).2
theorem dictTx_ok : ∀ (ps : List PyData) (acc : List (Str × PyData)), NmKs acc → (∀ p ∈ ps, ∃ (n : Str) (v : PyData), p = .tuple [.str n, v] ∧ isNm n = true ∧ okT v) → NmKs (ps.foldl putT2 acc) ∧ (ps.foldl putT2 acc).length ≤ acc.length + ps.length
  | [], acc, h, _ => ⟨h, Nat.le_refl _⟩
  | p :: ps, acc, h, hp => by
    obtain ⟨n, v, rfl, hn, hv⟩ := hp p (List.mem_cons_self ..)
    obtain ⟨a, b⟩ := dictTx_ok ps (putKs acc n v) (nmk_put h hn hv) fun q hq => hp q (List.mem_cons_of_mem _ hq)
    have := putKs_len acc n v
    refine ⟨a, Nat.le_trans b ?_⟩
    rw [List.length_cons]
    omega
theorem atI_back {α : Type} {xs : List α} {i : Int} (h0 : -1 ≤ i) (h1 : i < xs.length) (hne : xs ≠ []) : ∃ x ∈ xs, L2.atI xs i = some x := by
  by_cases h : 0 ≤ i
  · exact atI_some h h1
  · have e : i = -1 := by omega
    subst e
    have l : 0 < xs.length := List.length_pos_iff.mpr hne
    have h2 : xs.length - 1 < xs.length := by omega
    refine ⟨xs[xs.length - 1], List.getElem_mem h2, ?_⟩
    unfold L2.atI ixN
    rw [if_neg (by decide), if_pos (by omega)]
    show xs[((xs.length : Int) + -1).toNat]? = _
    rw [show ((xs.length : Int) + -1).toNat = xs.length - 1 by omega]
    exact List.getElem?_eq_getElem h2
theorem strs_of : ∀ {ds : List PyData}, (∀ d ∈ ds, ∃ n : Str, d = .str n ∧ isNm n = true) → ∃ ns : List Str, ds = ns.map .str ∧ ns.length = ds.length ∧ ∀ n ∈ ns, isNm n = true
  | [], _ => ⟨[], rfl, rfl, by simp⟩
  | d :: ds, h => by
    obtain ⟨n, rfl, hn⟩ := h d (List.mem_cons_self ..)
    obtain ⟨ns, e, l, a⟩ := strs_of fun d hd => h d (List.mem_cons_of_mem _ hd)
    refine ⟨n :: ns, by rw [e]; rfl, by rw [List.length_cons, List.length_cons, l], fun m hm => ?_⟩
    rcases List.mem_cons.mp hm with rfl | hm
    · exact hn
    · exact a m hm
theorem dat_l_names : ∀ ds, pre_l_names ds → d_l_names { nx := fun _ => post_l_names ds .none, rt := post_l_names ds } (startD 10 (none :: ds.map fun d => some (.dat d))) := by
  rintro ds ⟨ts, rfl, hp⟩
  show d_l_names _ [none, some (.dat (.list ts)), none, none, none, none, none, none, none, none]
  dsimp only [d_l_names, wipeD, dPutK, dGetKZ, dDictPK, dDictK2, dParKD, dnSortSetT, dZip, dEnumL, dEnum, dRetK, dSeq, dAsg, dAsgN, dAsgPop, dAppend, dExtend, dExtendT, dInsert, dPar, dPar3, dAug, dIfS, dFor, dRet, dRetO, dRetOwn, dRetOwnD, dRetN, dDrop, dNext, dBreak, dCont, dFreeze, dFreezeD, dGet2, dIdxN, dBorD, dBorDN, dBorDT, dParDN, dParND, dMax2, dAnyK, dnItems, dDictN, dKeysN, dnSortedND, dPutN, dAsgDN, dParN, dDict0, dBorrow, dBorrowT, dTr, dTest, dAnd, dOr, dNot, dAndV, dOrV, dNotV, dIf, dOp, dUn, dCB, dCall, dnCall, dCallX, dCallV, dTup, dLst, dnLst, dnLc, dLc, dOfN, dnAdd, dnSl, dSl, dSlice, dNoPart, dPart, dIx, isI, isB, dVar, dC, dCons, dNil, dLen, dRepr, dListOf, dTupOf, dItems, dItemsT, itemsOf, dSigns, dRng1, dgName, dgTup, dgCons, dgNil, dEq, dNe, dLt, dIn, dII, dIC, dNeg, dAdd, dRep, dUpper, dJoin, dYes, truD, dAll, dAny, dInt1, dAbs, dChain, List.set, List.getElem?_cons_succ, List.getElem?_cons_zero]
  have l7 := hp.l
  refine ⟨small_le (by omega), fun i acc => ∀ d ∈ acc, ∃ n : Str, d = .str n ∧ isNm n = true, by simp, ?_, ?_⟩
  · intro i x acc hx _ ha
    rw [if_pos rfl]
    obtain ⟨n, ps, rfl, hn, _⟩ := tm_tup (hp.t x (List.mem_of_getElem? hx)).m
    rw [atI0]
    intro d hd
    rcases List.mem_append.mp hd with hd | hd
    · exact ha d hd
    · rw [List.mem_singleton.mp hd]
      exact ⟨n, rfl, hn⟩
  · intro acc hl ha
    obtain ⟨ns, rfl, ln, hns⟩ := strs_of ha
    rw [List.length_map] at hl
    have l3 : ([PyData.str (Str.ofString "q"), PyData.str (Str.ofString "a"), PyData.str (Str.ofString "b")] : List PyData).length = 3 := rfl
    refine ⟨rfl, small_le (by rw [List.length_map, l3]; omega), ns ++ (["q", "a", "b"] : List Str), by rw [List.map_append]; rfl, by rw [List.length_append]; show ns.length + 3 < 63; omega, fun L ndL mL => ?_⟩
    have nmL : ∀ n ∈ L, isNm n = true := fun n hn => by
      rcases List.mem_append.mp ((mL n).mp hn) with h | h
      · exact hns n h
      · exact (by decide : ∀ n ∈ (["q", "a", "b"] : List Str), isNm n = true) n h
    have lL : L.length ≤ 10 := by
      have := nodup_le L _ ndL fun x hx => (mL x).mp hx
      rw [List.length_append] at this
      have e3 : (["q", "a", "b"] : List Str).length = 3 := rfl
      omega
    have pmL : (sortD (L.map PyData.str)).Perm (L.map .str) := List.mergeSort_perm ..
    refine ⟨⟨_, rfl, by rw [pmL.length_eq, List.length_map]; omega⟩, ?_⟩
    rintro es ⟨_, e, pe⟩
    cases e
    obtain ⟨ks, pk, rfl⟩ := perm_strs (pe.trans pmL)
    refine ⟨⟨by decide, by decide⟩, ?_⟩
    rintro _ ⟨j, rfl, j0, j7⟩
    dsimp only
    refine ⟨small_le (by omega), fun i acc => ∀ d ∈ acc, d ∈ ts ∧ ∃ n : Str, d = .tuple [.str n] ∧ isNm n = true, by simp, ?_, ?_⟩
    · intro i x acc hx _ ha
      have hxm := List.mem_of_getElem? hx
      obtain ⟨n, ps, rfl, hn, h4⟩ := one_len (hp.t x hxm).m
      refine ⟨rfl, ?_⟩
      refine if_cases (fun c => ?_) fun _ => ha
      rw [h4] at c
      subst c
      intro d hd
      rcases List.mem_append.mp hd with hd | hd
      · exact ha d hd
      · rw [List.mem_singleton.mp hd]
        exact ⟨hxm, n, rfl, hn⟩
    · intro pl hpl hpm
      refine ⟨⟨by decide, by decide⟩, ?_⟩
      rintro _ ⟨c3, rfl, _, _⟩
      refine ⟨rfl, ?_⟩
      refine if_cases (fun _ => ?_) fun _ => ?_
      · refine ⟨fun i δ => ∃ (kvs : List (Str × PyData)) (q5 q7 : Option DV), δ = [none, some (.dat (.list ts)), some (.dat (.list (sortD (L.map .str)))), some (.dat (.list (cutD (ks.map .str) none (some j)))), some (.dct (.dk kvs)), q5, some (.dat (.list pl)), q7, none, none] ∧ NmKs kvs ∧ kvs.length ≤ i,
          ⟨[], _, _, rfl, (fun _ z => nomatch z), Nat.le_refl _⟩, ?_, ?_⟩
        · rintro i x δ hx ⟨kvs, q5, q7, rfl, hk, lk⟩
          have hi : i < pl.length := by
            have := (List.getElem?_eq_some_iff.mp hx).1
            rwa [nums_len] at this
          have hg := nums_get (List.getElem?_eq_getElem hi)
          rw [hg] at hx
          cases hx
          obtain ⟨hm, n, e, hn⟩ := hpm _ (List.getElem_mem hi)
          rw [e]
          dsimp only [List.set, List.getElem?_cons_succ, List.getElem?_cons_zero]
          have hpos : pl ≠ [] := fun z => by rw [z] at hi; cases hi
          obtain ⟨y, hy, ey⟩ := atI_back (xs := pl) (i := (i : Int) - 1) (by omega) (by omega) hpos
          have ey : atD (.list pl) ((i : Int) - 1) = some y := ey
          refine ⟨rfl, ?_⟩
          rw [ey, atI0]
          dsimp only
          refine ⟨small_le (by omega), _, _, _, rfl, nmk_put hk hn (hp.t y (hpm y hy).1), ?_⟩
          have := putKs_len kvs n y
          omega
        · rintro δ ⟨kvs, q5, q7, rfl, hk, lk⟩
          dsimp only [List.set, List.getElem?_cons_succ, List.getElem?_cons_zero]
          rw [nums_len] at lk
          exact nmOk_of hk (by omega)
      · have lc : (cutD (ks.map PyData.str) none (some j)).length ≤ 10 := by
          unfold cutD
          have := pk.length_eq
          simp only [List.length_take, List.length_drop, List.length_map]
          omega
        refine ⟨small_le (by omega), fun i acc => ∀ d ∈ acc, ∃ (n : Str) (v : PyData), d = .tuple [.str n, v] ∧ isNm n = true ∧ okT v, by simp, ?_, ?_⟩
        · intro i x acc hx _ ha
          rw [if_pos rfl]
          obtain ⟨n, hn, rfl⟩ := List.mem_map.mp (mem_cut (List.mem_of_getElem? hx))
          refine ⟨⟨hp.ne, small_le (by omega)⟩, ?_⟩
          intro r hr
          refine ⟨rfl, ?_⟩
          intro d hd
          rcases List.mem_append.mp hd with hd | hd
          · exact ha d hd
          · rw [List.mem_singleton.mp hd]
            exact ⟨n, r, rfl, nmL n (pk.mem_iff.mp hn), hp.t r hr⟩
        · intro ps hl hps
          obtain ⟨a, b⟩ := dictTx_ok ps [] (fun _ z => nomatch z) hps
          refine ⟨fun p hp => ?_, nmOk_of a ?_⟩
          · obtain ⟨n, v, rfl, _⟩ := hps p hp
            exact True.intro
          · rw [List.length_nil] at b
            show (ps.foldl putT2 []).length ≤ 20
            omega
end DL

namespace DL
open PySem PySem.Spec PyProof.Rows L2
open Evl (Ex ex_l ex_t)
variable [TheW]
open PySem.W (EachIs AllAlike Sortable SortsAt sortVals sortLe keyToks keyToksAll dataKind alike alikeAll)
theorem kv_bd : ∀ {kvs : List (PyData × PyData)}, (∀ p ∈ kvs, ∃ n : Str, p.1 = .str n ∧ isNm n = true) → (∀ p ∈ kvs, okT p.2) → fitKv kvs = true ∧ PyData.depthKv kvs ≤ 8 ∧ wtKv kvs ≤ kvs.length * 10100
  | [], _, _ => ⟨rfl, by simp [PyData.depthKv], Nat.le_refl _⟩
  | (k, v) :: r, hk, hv => by
    obtain ⟨a, b, c⟩ := kv_bd (kvs := r) (fun p hp => hk p (List.mem_cons_of_mem _ hp)) fun p hp => hv p (List.mem_cons_of_mem _ hp)
    obtain ⟨n, e, hn⟩ := hk _ (List.mem_cons_self ..)
    have o := hv _ (List.mem_cons_self ..)
    dsimp only at e o
    subst e
    have bs := bd_str (asc.name hn)
    have e1 := bs.d
    have e2 := bs.w
    have e3 := o.d
    have e4 := o.w
    refine ⟨?_, ?_, ?_⟩
    · simp only [fitKv, bs.f, o.f, a, Bool.and_self]
    · simp only [PyData.depthKv]
      omega
    · simp only [wtKv, List.length_cons]
      omega
theorem show_names {t : PyData} {kvs : List (PyData × PyData)} (h : okT t) (ok : NmOk kvs) : showOk (.list [t, .dict kvs]) = true := by
  obtain ⟨a, b, c⟩ := kv_bd ok.k ok.v
  have l := ok.l
  have e3 := h.d
  have e4 := h.w
  refine showOk_of ?_ ?_ ?_
  · simp only [fit, fitAll, h.f, a, Bool.and_self]
  · simp only [PyData.depth, PyData.depthAll]
    omega
  · simp only [wt, wtAll]
    omega
/-- a term is like itself -/
theorem alike_one {t : PyData} (ht : tm t = true) (hd : t.depth ≤ 50) (hn : nd t ≤ 5000) {R : PyData → Prop} (k : R (.bool true)) : pre_l_alike [t, t] ∧ ∀ r, post_l_alike [t, t] r → R r := by
  obtain ⟨h1, h2, h3⟩ := tm_bd t ht
  have hs := shaped_tm ht hd
  have hw := showOk_of h2 (by omega) (by omega)
  refine ⟨?_, ?_⟩
  · show (_ && _) = true
    unfold eqOk
    rw [hs, hw]
    simp
  · rintro r hr
    have hr : r = .bool (PyData.eqv t t && _ == _) := hr
    rw [hr, eqv_refl t h1, beq_self_eq_true]
    exact k
theorem nm_empty : NmOk [] := ⟨(fun _ z => nomatch z), (fun _ z => nomatch z), by decide⟩
mutual
theorem put_none : ∀ t : PyData, tm t = true → putV [] t = t
  | .tuple (.str n :: []), hx => by rw [put_one]; rfl
  | .tuple (.str n :: p :: ps), hx => by
    simp only [tm, tmH, Bool.and_eq_true] at hx
    have h1 := put_noneAll (p :: ps) hx.2
    simp only [putV, putH, List.isEmpty_cons, cond_false, h1]
  | .tuple [], hx => absurd hx Bool.false_ne_true
  | .tuple (.none :: _), hx => absurd hx Bool.false_ne_true
  | .tuple (.bool _ :: _), hx => absurd hx Bool.false_ne_true
  | .tuple (.int _ :: _), hx => absurd hx Bool.false_ne_true
  | .tuple (.list _ :: _), hx => absurd hx Bool.false_ne_true
  | .tuple (.tuple _ :: _), hx => absurd hx Bool.false_ne_true
  | .tuple (.dict _ :: _), hx => absurd hx Bool.false_ne_true
  | .none, hx => absurd hx Bool.false_ne_true
  | .bool _, hx => absurd hx Bool.false_ne_true
  | .int _, hx => absurd hx Bool.false_ne_true
  | .str _, hx => absurd hx Bool.false_ne_true
  | .list _, hx => absurd hx Bool.false_ne_true
  | .dict _, hx => absurd hx Bool.false_ne_true
theorem put_noneAll : ∀ xs : List PyData, tmAll xs = true → putAll [] xs = xs
  | [], _ => rfl
  | x :: xs, hx => by
    simp only [tmAll, Bool.and_eq_true] at hx
    rw [putAll, put_none x hx.1, put_noneAll xs hx.2]
end
theorem ok_a : okT (.tuple [.str "a"]) := okT_of (tm_one (by decide)) (by simp [PyData.depth, PyData.depthAll]) (by simp [nd, ndAll])
theorem ok_b : okT (.tuple [.str "b"]) := okT_of (tm_one (by decide)) (by simp [PyData.depth, PyData.depthAll]) (by simp [nd, ndAll])
def exD : List (PyData × PyData) := [(.str "a", .tuple [.str "b"]), (.str "b", .tuple [.str "a"])]
def exT : PyData := .tuple [.str "a", .tuple [.str "a"], .tuple [.str "b"]]
def exR : PyData := .tuple [.str "a", .tuple [.str "b"], .tuple [.str "a"]]
theorem ex_ok : NmOk exD := by
  refine ⟨fun p hp => ?_, fun p hp => ?_, by decide⟩
  · simp only [exD, List.mem_cons, List.not_mem_nil, or_false] at hp
    rcases hp with rfl | rfl <;> exact ⟨_, rfl, by decide⟩
  · simp only [exD, List.mem_cons, List.not_mem_nil, or_false] at hp
    rcases hp with rfl | rfl
    · exact ok_b
    · exact ok_a
theorem ex_put : putV exD exT = exR := by
  show putV exD (.tuple [.str "a", .tuple [.str "a"], .tuple [.str "b"]]) = exR
  rw [put_more (by simp), List.map_cons, List.map_cons, List.map_nil, put_one, put_one]
  rfl
theorem dat_law : d_law { nx := fun _ => False, rt := fun d => d = .bool true } (List.replicate 10 none) := by
  show d_law _ [none, none, none, none, none, none, none, none, none, none]
  dsimp only [d_law, wipeD, dGetKZ, dDictPK, dDictK2, dParKD, dnSortSetT, dZip, dEnumL, dEnum, dRetK, dSeq, dAsg, dAsgN, dAsgPop, dAppend, dExtend, dExtendT, dInsert, dPar, dPar3, dAug, dIfS, dFor, dRet, dRetO, dRetOwn, dRetOwnD, dRetN, dDrop, dNext, dBreak, dCont, dFreeze, dFreezeD, dGet2, dIdxN, dBorD, dBorDN, dBorDT, dParDN, dParND, dMax2, dAnyK, dnItems, dDictN, dKeysN, dnSortedND, dPutN, dAsgDN, dParN, dDict0, dBorrow, dBorrowT, dTr, dTest, dAnd, dOr, dNot, dAndV, dOrV, dNotV, dIf, dOp, dUn, dCB, dCall, dnCall, dCallX, dCallV, dTup, dLst, dnLst, dnLc, dLc, dOfN, dnAdd, dnSl, dSl, dSlice, dNoPart, dPart, dIx, isI, isB, dVar, dC, dCons, dNil, dLen, dRepr, dListOf, dTupOf, dItems, dItemsT, itemsOf, dSigns, dRng1, dgName, dgTup, dgCons, dgNil, dEq, dNe, dLt, dIn, dII, dIC, dNeg, dAdd, dRep, dUpper, dJoin, dYes, truD, dAll, dAny, dInt1, dAbs, dChain, List.set, List.getElem?_cons_succ, List.getElem?_cons_zero]
  refine ⟨by omega, by omega, fun _ δ => ∃ p2 p3 p4 p5 p6 p7 p8 p9 : Option DV, δ = [none, none, p2, p3, p4, p5, p6, p7, p8, p9], ⟨_, _, _, _, _, _, _, _, rfl⟩, ?_, ?_⟩
  · rintro i x δ hx ⟨p2, p3, p4, p5, p6, p7, p8, p9, rfl⟩
    dsimp only [List.set, List.getElem?_cons_succ, List.getElem?_cons_zero]
    refine ⟨rfl, ?_⟩
    intro ts hp
    have hp : PoolL ts := hp
    refine ⟨⟨by decide, by decide⟩, ?_⟩
    rintro _ ⟨j4, rfl, _, _⟩
    refine ⟨rfl, ?_⟩
    refine if_cases (fun _ => ?ga) fun _ => ?gb
    case' ga =>
      refine ⟨⟨by decide, by decide⟩, ?_⟩
      rintro _ ⟨j7, rfl, a7, b7⟩
      refine ⟨⟨j7.toNat, by rw [Int.toNat_of_nonneg a7], by omega⟩, ?_⟩
      rintro t ⟨k, hk, k7⟩
      obtain ⟨d1, d2, d3⟩ := deep_tm hk
      refine ⟨⟨t, rfl, d1, by omega, by decide, by omega, by omega⟩, ?_⟩
      rintro ts ⟨_, e, q1, q2, q3⟩
      cases e
      have hp : PoolL ts := deep_pool hk k7 q1 q3
      clear q1 q2 q3 d1 d2 d3 hk k7
    all_goals
      have l7 := hp.l
      refine ⟨by omega, by omega, fun _ δ => ∃ q4 q5 q6 q7 q8 q9 : Option DV, δ = [none, none, some (.dat x), some (.dat (.list ts)), q4, q5, q6, q7, q8, q9], ⟨_, _, _, _, _, _, rfl⟩, ?_, ?_⟩
      · rintro i4 x4 δ hx4 ⟨q4, q5, q6, q7, q8, q9, rfl⟩
        dsimp only [List.set, List.getElem?_cons_succ, List.getElem?_cons_zero]
        have hc : ∀ d ∈ cutD ts (some (-2)) none ++ ts, d ∈ ts := fun d hd => (List.mem_append.mp hd).elim mem_cut id
        have lc : (cutD ts (some (-2)) none).length ≤ ts.length := by
          unfold cutD
          simp only [List.length_take, List.length_drop]
          omega
        refine ⟨small_le (by omega), ⟨fun z => hp.ne (List.append_eq_nil_iff.mp z).2, small_le (by rw [List.length_append]; omega)⟩, ?_⟩
        intro t ht
        have ht := hc t ht
        have ot := hp.t t ht
        refine ⟨⟨ts, rfl, hp⟩, ?_⟩
        rintro _ ⟨kvs, rfl, ok⟩
        have pp : pre_put_in 12 [t, .dict kvs] := ⟨t, kvs, rfl, ok, ot.m, Nat.le_trans ot.d (by decide), by decide, ot.n⟩
        refine ⟨rfl, show_names ot ok, pp, ?_⟩
        rintro _ ⟨_, _, e, rfl⟩
        cases e
        refine ⟨by omega, by omega, fun _ δ => ∃ q9 : Option DV, δ = [none, none, some (.dat x), some (.dat (.list ts)), some (.dat x4), some (.dat t), some (.dat (.dict kvs)), some (.dat (.str (PyData.list [t, .dict kvs]).shown)), some (.dat (putV kvs t)), q9], ⟨_, rfl⟩, ?_, ?_⟩
        · rintro i9 x9 δ hx9 ⟨q9, rfl⟩
          dsimp only [List.set, List.getElem?_cons_succ, List.getElem?_cons_zero]
          refine ⟨pp, ?_⟩
          rintro _ ⟨_, _, e, rfl⟩
          cases e
          obtain ⟨h1, h2, h3⟩ := put_tm ok t ot.m
          have e1 := ot.d
          have e2 := ot.n
          refine alike_one h1 (by omega) (by omega) ?_
          dsimp only
          rw [if_neg (by decide)]
          refine ⟨rfl, show_names ot ok, rfl, ?_⟩
          rw [eqv_ss, beq_self_eq_true, if_neg (by decide)]
          exact ⟨_, rfl⟩
        · rintro δ ⟨q9, rfl⟩
          exact ⟨_, _, _, _, _, _, rfl⟩
      · rintro δ ⟨q4, q5, q6, q7, q8, q9, rfl⟩
        dsimp only [List.set, List.getElem?_cons_succ, List.getElem?_cons_zero]
        have hpos := List.length_pos_iff.mpr hp.ne
        obtain ⟨t, ht, ey⟩ := atI_back (xs := ts) (i := -1) (by omega) (by omega) hp.ne
        have ey : atD (.list ts) (-1) = some t := ey
        rw [ey]
        dsimp only
        have ot := hp.t t ht
        refine ⟨⟨t, [], rfl, nm_empty, ot.m, Nat.le_trans ot.d (by decide), by decide, ot.n⟩, ?_⟩
        rintro _ ⟨_, _, e, rfl⟩
        cases e
        rw [put_none t ot.m]
        have e1 := ot.d
        have e2 := ot.n
        refine alike_one ot.m (by omega) (by omega) ?_
        dsimp only
        rw [if_neg (by decide)]
        exact ⟨_, _, _, _, _, _, _, _, rfl⟩
  · rintro δ ⟨p2, p3, p4, p5, p6, p7, p8, p9, rfl⟩
    have tT : tm exT = true := tm_mk (by decide) fun p hp => by
      simp only [List.mem_cons, List.not_mem_nil, or_false] at hp
      rcases hp with rfl | rfl
      · exact ok_a.m
      · exact ok_b.m
    have tR : tm exR = true := tm_mk (by decide) fun p hp => by
      simp only [List.mem_cons, List.not_mem_nil, or_false] at hp
      rcases hp with rfl | rfl
      · exact ok_b.m
      · exact ok_a.m
    refine ⟨rfl, rfl, rfl, rfl, rfl, by decide, ⟨exT, exD, rfl, ex_ok, tT, by simp [exT, PyData.depth, PyData.depthAll], by decide, by simp [exT, nd, ndAll]⟩, ?_⟩
    rintro r ⟨t, k, e, hr⟩
    have e := List.cons.inj e
    have e1 : exT = t := e.1
    have e2 : PyData.dict exD = .dict k := (List.cons.inj e.2).1
    cases e2
    rw [← e1, ex_put] at hr
    subst hr
    refine ⟨rfl, rfl, rfl, ?_⟩
    exact alike_one (t := exR) tR (by simp [exR, PyData.depth, PyData.depthAll]) (by simp [exR, nd, ndAll]) rfl
end DL

namespace DL
open PySem PySem.Spec PyProof.Rows L2
open Evl (Ex ex_l ex_t)
variable [TheW]
def topS (i : Nat) : Stmt := PySem.Challenge.pw_answerskept_k15_terms_put_in.main.body.getD i (.Pass ⟨0, 0, 0, 0⟩)
abbrev s_put_in : Stmt := topS 1
abbrev N_put_in : List Str := ["term", "names", "whole", "part"]
theorem sc_put_in : FnScope N_put_in ["term", "names"] (defScope s_put_in) := ⟨rfl, rfl, rfl, by decide +kernel, rfl, by decide +kernel, by decide +kernel⟩
abbrev s_l_bag : Stmt := topS 3
abbrev N_l_bag : List Str := ["_law_script", "_law_cell"]
theorem sc_l_bag : FnScope N_l_bag ["_law_script"] (defScope s_l_bag) := ⟨rfl, rfl, rfl, by decide +kernel, rfl, by decide +kernel, by decide +kernel⟩
abbrev s_l_takeB : Stmt := topS 4
abbrev N_l_takeB : List Str := ["_law_bag_here", "_law_many", "_law_cell", "_law_mixed_here", "_law_drawn", "_law_early", "_law_second"]
theorem sc_l_takeB : FnScope N_l_takeB ["_law_bag_here", "_law_many"] (defScope s_l_takeB) := ⟨rfl, rfl, rfl, by decide +kernel, rfl, by decide +kernel, by decide +kernel⟩
abbrev s_l_alike : Stmt := topS 5
abbrev N_l_alike : List Str := ["_law_found", "_law_due"]
theorem sc_l_alike : FnScope N_l_alike ["_law_found", "_law_due"] (defScope s_l_alike) := ⟨rfl, rfl, rfl, by decide +kernel, rfl, by decide +kernel, by decide +kernel⟩
abbrev s_l_one : Stmt := topS 6
abbrev N_l_one : List Str := ["_law_bag_here", "_law_some"]
theorem sc_l_one : FnScope N_l_one ["_law_bag_here", "_law_some"] (defScope s_l_one) := ⟨rfl, rfl, rfl, by decide +kernel, rfl, by decide +kernel, by decide +kernel⟩
abbrev s_l_mixed : Stmt := topS 7
abbrev N_l_mixed : List Str := ["_law_bag_here", "_law_some", "_law_found", "_law_one_here"]
theorem sc_l_mixed : FnScope N_l_mixed ["_law_bag_here", "_law_some"] (defScope s_l_mixed) := ⟨rfl, rfl, rfl, by decide +kernel, rfl, by decide +kernel, by decide +kernel⟩
abbrev s_l_name : Stmt := topS 8
abbrev N_l_name : List Str := ["_law_bag_here", "_law_some", "_law_k"]
theorem sc_l_name : FnScope N_l_name ["_law_bag_here"] (defScope s_l_name) := ⟨rfl, rfl, rfl, by decide +kernel, rfl, by decide +kernel, by decide +kernel⟩
abbrev s_l_size : Stmt := topS 9
abbrev N_l_size : List Str := ["_law_term", "_law_part"]
theorem sc_l_size : FnScope N_l_size ["_law_term"] (defScope s_l_size) := ⟨rfl, rfl, rfl, by decide +kernel, rfl, by decide +kernel, by decide +kernel⟩
abbrev s_l_terms : Stmt := topS 10
abbrev N_l_terms : List Str := ["_law_bag_here", "_law_many", "_law_names_here", "_law_some", "_law_works", "_law_found", "_law_plain", "_law_most", "_law_goal", "_law_k", "_law_term", "_law_name_here", "_law_parts", "_law_part"]
theorem sc_l_terms : FnScope N_l_terms ["_law_bag_here", "_law_many"] (defScope s_l_terms) := ⟨rfl, rfl, rfl, by decide +kernel, rfl, by decide +kernel, by decide +kernel⟩
abbrev s_l_subs : Stmt := topS 11
abbrev N_l_subs : List Str := ["_law_term", "_law_found", "_law_part"]
theorem sc_l_subs : FnScope N_l_subs ["_law_term"] (defScope s_l_subs) := ⟨rfl, rfl, rfl, by decide +kernel, rfl, by decide +kernel, by decide +kernel⟩
abbrev s_l_put : Stmt := topS 12
abbrev N_l_put : List Str := ["_law_term", "_law_names_here", "_law_part"]
theorem sc_l_put : FnScope N_l_put ["_law_term", "_law_names_here"] (defScope s_l_put) := ⟨rfl, rfl, rfl, by decide +kernel, rfl, by decide +kernel, by decide +kernel⟩
abbrev s_l_deep_term : Stmt := topS 13
abbrev N_l_deep_term : List Str := ["_law_bag_here", "_law_deep", "_law_found", "_law_k"]
theorem sc_l_deep_term : FnScope N_l_deep_term ["_law_bag_here", "_law_deep"] (defScope s_l_deep_term) := ⟨rfl, rfl, rfl, by decide +kernel, rfl, by decide +kernel, by decide +kernel⟩
abbrev s_l_names : Stmt := topS 14
abbrev N_l_names : List Str := ["_law_bag_here", "_law_terms_here", "_law_some", "_law_keys", "_law_found", "_law_term", "_law_plain", "_law_at", "_law_one_here", "_law_key"]
theorem sc_l_names : FnScope N_l_names ["_law_bag_here", "_law_terms_here"] (defScope s_l_names) := ⟨rfl, rfl, rfl, by decide +kernel, rfl, by decide +kernel, by decide +kernel⟩
abbrev s_law : Stmt := topS 15
abbrev N_law : List Str := ["_law_script", "_law_bag_here", "_law_turn", "_law_terms_here", "_law_k", "_law_term", "_law_names_here", "_law_kept", "_law_due", "_law_again"]
theorem sc_law : FnScope N_law ["_law_script"] (defScope s_law) := ⟨rfl, rfl, rfl, by decide +kernel, rfl, by decide +kernel, by decide +kernel⟩
structure Tab where
  f_put_in : Addr
  fd_put_in : FuncData
  f_l_bag : Addr
  fd_l_bag : FuncData
  f_l_takeB : Addr
  fd_l_takeB : FuncData
  f_l_alike : Addr
  fd_l_alike : FuncData
  f_l_one : Addr
  fd_l_one : FuncData
  f_l_mixed : Addr
  fd_l_mixed : FuncData
  f_l_name : Addr
  fd_l_name : FuncData
  f_l_size : Addr
  fd_l_size : FuncData
  f_l_terms : Addr
  fd_l_terms : FuncData
  f_l_subs : Addr
  fd_l_subs : FuncData
  f_l_put : Addr
  fd_l_put : FuncData
  f_l_deep_term : Addr
  fd_l_deep_term : FuncData
  f_l_names : Addr
  fd_l_names : FuncData
  f_law : Addr
  fd_law : FuncData
structure Tx (K : PySem.W.Frag) (mg : Str → Option Value) (t : Tab) : Prop where
  F_put_in : Fun K "put_in" "put_in" s_put_in t.f_put_in t.fd_put_in
  b_put_in : Binds K t.fd_put_in ["term", "names"] []
  g_put_in : mg "put_in" = some (.ref t.f_put_in)
  F_l_bag : Fun K "_law_bag" "_law_bag" s_l_bag t.f_l_bag t.fd_l_bag
  b_l_bag : Binds K t.fd_l_bag ["_law_script"] []
  g_l_bag : mg "_law_bag" = some (.ref t.f_l_bag)
  F_l_takeB : Fun K "_law_take" "_law_take" s_l_takeB t.f_l_takeB t.fd_l_takeB
  b_l_takeB : Binds K t.fd_l_takeB ["_law_bag_here", "_law_many"] []
  g_l_takeB : mg "_law_take" = some (.ref t.f_l_takeB)
  F_l_alike : Fun K "_law_alike" "_law_alike" s_l_alike t.f_l_alike t.fd_l_alike
  b_l_alike : Binds K t.fd_l_alike ["_law_found", "_law_due"] []
  g_l_alike : mg "_law_alike" = some (.ref t.f_l_alike)
  F_l_one : Fun K "_law_one" "_law_one" s_l_one t.f_l_one t.fd_l_one
  b_l_one : Binds K t.fd_l_one ["_law_bag_here", "_law_some"] []
  g_l_one : mg "_law_one" = some (.ref t.f_l_one)
  F_l_mixed : Fun K "_law_mixed" "_law_mixed" s_l_mixed t.f_l_mixed t.fd_l_mixed
  b_l_mixed : Binds K t.fd_l_mixed ["_law_bag_here", "_law_some"] []
  g_l_mixed : mg "_law_mixed" = some (.ref t.f_l_mixed)
  F_l_name : Fun K "_law_name" "_law_name" s_l_name t.f_l_name t.fd_l_name
  b_l_name : Binds K t.fd_l_name ["_law_bag_here"] []
  g_l_name : mg "_law_name" = some (.ref t.f_l_name)
  F_l_size : Fun K "_law_size" "_law_size" s_l_size t.f_l_size t.fd_l_size
  b_l_size : Binds K t.fd_l_size ["_law_term"] []
  g_l_size : mg "_law_size" = some (.ref t.f_l_size)
  F_l_terms : Fun K "_law_terms" "_law_terms" s_l_terms t.f_l_terms t.fd_l_terms
  b_l_terms : Binds K t.fd_l_terms ["_law_bag_here", "_law_many"] []
  g_l_terms : mg "_law_terms" = some (.ref t.f_l_terms)
  F_l_subs : Fun K "_law_subs" "_law_subs" s_l_subs t.f_l_subs t.fd_l_subs
  b_l_subs : Binds K t.fd_l_subs ["_law_term"] []
  g_l_subs : mg "_law_subs" = some (.ref t.f_l_subs)
  F_l_put : Fun K "_law_put" "_law_put" s_l_put t.f_l_put t.fd_l_put
  b_l_put : Binds K t.fd_l_put ["_law_term", "_law_names_here"] []
  g_l_put : mg "_law_put" = some (.ref t.f_l_put)
  F_l_deep_term : Fun K "_law_deep_term" "_law_deep_term" s_l_deep_term t.f_l_deep_term t.fd_l_deep_term
  b_l_deep_term : Binds K t.fd_l_deep_term ["_law_bag_here", "_law_deep"] []
  g_l_deep_term : mg "_law_deep_term" = some (.ref t.f_l_deep_term)
  F_l_names : Fun K "_law_names" "_law_names" s_l_names t.f_l_names t.fd_l_names
  b_l_names : Binds K t.fd_l_names ["_law_bag_here", "_law_terms_here"] []
  g_l_names : mg "_law_names" = some (.ref t.f_l_names)
  F_law : Fun K "law" "law" s_law t.f_law t.fd_law
  b_law : Binds K t.fd_law ["_law_script"] []
  g_law : mg "law" = some (.ref t.f_law)
  z_abs : mg "abs" = none
  z_dict : mg "dict" = none
  z_enumerate : mg "enumerate" = none
  z_int : mg "int" = none
  z_len : mg "len" = none
  z_range : mg "range" = none
  z_repr : mg "repr" = none
  z_set : mg "set" = none
  z_sorted : mg "sorted" = none
  z_sum : mg "sum" = none
  z_tuple : mg "tuple" = none
section
variable [TheW] {P : Program} {K : PySem.W.Frag} {mg : Str → Option Value} {base : Heap} {t : Tab}
theorem ok_l_bag (T : Tx K mg t) : FnG P TheW.w K mg base L2.CX0 1 t.f_l_bag t.fd_l_bag ["_law_script"] (sp_l_bag K) := by
  refine ok_G T.F_l_bag sc_l_bag len_bag (fun cdv A outer s H vs Q E hr h => ⟨q_l_bag K, ?_, bag_body h⟩)
  · show PSs _ _ ((tRet (tLst (tCons (tC (.int 0)) (tCons (tC (.int 1234567891)) (tCons (tC (.int 0)) (tCons (tLc (iList K (tSl (rSlU K) (tVar 0) tNoPart (tPart (tC (.int 63))))) (gName 1) tYes (tCB rAbs1 (tCons (tVar 1) tNil)) [1]) tNil)))))))
    exact (pss_one (ps_ret (pe_lst (pa_cons pe_int (pa_cons pe_int (pa_cons pe_int (pa_cons (pe_lc (own := [("_law_cell", 1)]) (g := (gName 1)) rfl sc_l_bag.nd (pi_list (pe_slice sl_U (pv 0) po_none (po_some pe_int))) (blkOk_by (own := [("_law_cell", 1)]) (N := N_l_bag) (sc := defScope s_l_bag) (by decide +kernel)) (fun _ _ _ _ _ => (pg_name (i := 1) sc_l_bag.nd rfl (Or.inl rfl))) (fun _ _ _ _ _ => pts_nil) (fun _ _ _ _ _ => (pe_callB call_abs' (by rfl) T.z_abs (by decide +kernel) (pa_cons (pv 1) pa_nil)))) pa_nil)))))))
theorem ok_l_takeB (T : Tx K mg t) : FnG P TheW.w K mg base L2.CX0 1 t.f_l_takeB t.fd_l_takeB ["_law_bag_here", "_law_many"] (sp_l_takeB K) := by
  refine ok_G T.F_l_takeB sc_l_takeB (len_G (n := 1) n_l_takeB) (fun cdv A outer s H vs Q E hr h => ⟨t_l_takeB K, ?_, body_G (N := N_l_takeB) (fun b => m_l_takeB) (dat_l_takeB) h⟩)
  · show PSs _ _ ((tSeq (tIfS (tTest (tOp (rEqU K) (tOp (rIx K) (tVar 0) (tC (.int 0))) (tC (.int 0)))) (tSeq (tAsg (tOp (rIx K) (tOp (rAddU K) (tSl (rSlU K) (tOp (rIx K) (tVar 0) (tC (.int 3))) (tPart (tOp (rIx K) (tVar 0) (tC (.int 2)))) tNoPart) (tLst (tCons (tC (.int 0)) tNil))) (tC (.int 0))) (gName 2))
    (tSeq (tAugS (tVar 0) (tC (.int 2)) (tC (.int 1)) (rAt K) (ipI fun i j => i + j) rSetL)
    (tSeq (tAsg (tOp (rI CMul fun i j => .int (i * j)) (tVar 2) (tCB rInt1 (tCons (tOp (rLtU (fun i j => decide (j ≤ i)) fun i j => !ltS i j) (tVar 2) (tOp (rI CPow fun i j => .int (i ^ j.toNat)) (tC (.int 10)) (tC (.int 18)))) tNil))) (gSub (tVar 0) (tC (.int 0)) rSetL))
    (tSeq (tAsg (tOp (rAddU K) (tOp (rAddU K) (tOp (rI CMul fun i j => .int (i * j)) (tOp (rIx K) (tVar 0) (tC (.int 1))) (tC (.int 48271))) (tOp (rI (fun _ j => j ≠ 0) fun i j => .int (i.fmod j)) (tCB rInt1 (tCons (tVar 2) tNil)) (tC (.int 2147483647)))) (tOp (rI CMul fun i j => .int (i * j)) (tC (.int 7919)) (tOp (rIx K) (tVar 0) (tC (.int 2))))) (gName 3))
    (tAsg (tOp (rI (fun _ j => j ≠ 0) fun i j => .int (i.fmod j)) (tCB rInt1 (tCons (tVar 3) tNil)) (tC (.int 2147483647))) (gSub (tVar 0) (tC (.int 1)) rSetL)))))) tNext)
    (tSeq (tIfS (tTest (tOp (rLtU (fun i j => decide (j < i)) fun i j => ltS j i) (tOp (rIx K) (tVar 0) (tC (.int 0))) (tC (.int 0)))) (tSeq (tAsg (tTup (tCons (tOp (rI (fun _ j => j ≠ 0) fun i j => .int (i.fmod j)) (tCB rInt1 (tCons (tOp (rIx K) (tVar 0) (tC (.int 0))) tNil)) (tVar 1)) (tCons (tOp (rI CDivW fun i j => .int (i / j)) (tCB rInt1 (tCons (tOp (rIx K) (tVar 0) (tC (.int 0))) tNil)) (tVar 1)) tNil))) (gTup K 2 (gCons (gName 4) (gCons (gSub (tVar 0) (tC (.int 0)) rSetL) gNil))))
    (tRet (tVar 4))) tNext)
    (tSeq (tAsg (tOp (rI (fun _ j => j ≠ 0) fun i j => .int (i.fmod j)) (tCB rInt1 (tCons (tOp (rI CMul fun i j => .int (i * j)) (tOp (rAddU K) (tOp (rIx K) (tVar 0) (tC (.int 1))) (tC (.int 1))) (tC (.int 39373))) tNil)) (tC (.int 1000000007))) (gName 5))
    (tSeq (tAsg (tOp (rI (fun _ j => j ≠ 0) fun i j => .int (i.fmod j)) (tCB rInt1 (tCons (tOp (rI CMul fun i j => .int (i * j)) (tOp (rI (fun _ j => j ≠ 0) fun i j => .int (i.fmod j)) (tCB rInt1 (tCons (tOp (rI CMul fun i j => .int (i * j)) (tVar 5) (tVar 5)) tNil)) (tC (.int 998244353))) (tC (.int 30011))) tNil)) (tC (.int 998244353))) (gName 6))
    (tRet (tOp (rI (fun _ j => j ≠ 0) fun i j => .int (i.fmod j)) (tCB rInt1 (tCons (tOp (rI CDivW fun i j => .int (i / j)) (tVar 6) (tC (.int 7))) tNil)) (tVar 1))))))))
    exact (pss_cons (ps_if (pt_cmpR (op_eqU hr.r.units)  (pe_ix ix_seq (pv 0) pe_int (fun _ _ => rfl)) pe_int (nomark _)) (pss_cons (ps_set (i := 2) sc_l_takeB.nd rfl (Or.inl rfl) (pe_ix ix_seq (pe_op op_addU (pe_slice sl_U (pe_ix ix_seq (pv 0) pe_int (fun _ _ => rfl)) (po_some (pe_ix ix_seq (pv 0) pe_int (fun _ _ => rfl))) po_none) (pe_lst (pa_cons pe_int pa_nil))) pe_int (fun _ _ => rfl)))
    (pss_cons (ps_augS (pv 0) pe_int pget_list pe_int ip_add set_list)
    (pss_cons (ps_asg (pe_op op_mul (pv 2) (pe_callTy call_int1' (by rfl) T.z_int (by decide +kernel) (pa_cons (pe_cmpR op_geU  (pv 2) (pe_op op_pow pe_int pe_int) (nomark _)) pa_nil))) (pg_sub (pv 0) pe_int set_list))
    (pss_cons (ps_set (i := 3) sc_l_takeB.nd rfl (Or.inl rfl) (pe_op op_addU (pe_op op_addU (pe_op op_mul (pe_ix ix_seq (pv 0) pe_int (fun _ _ => rfl)) pe_int) (pe_op op_modN (pe_callTy call_int1' (by rfl) T.z_int (by decide +kernel) (pa_cons (pv 2) pa_nil)) pe_int)) (pe_op op_mul pe_int (pe_ix ix_seq (pv 0) pe_int (fun _ _ => rfl)))))
    (pss_one (ps_asg (pe_op op_modN (pe_callTy call_int1' (by rfl) T.z_int (by decide +kernel) (pa_cons (pv 3) pa_nil)) pe_int) (pg_sub (pv 0) pe_int set_list))))))) pss_nil)
    (pss_cons (ps_if (pt_cmpR op_gtU  (pe_ix ix_seq (pv 0) pe_int (fun _ _ => rfl)) pe_int (nomark _)) (pss_cons (ps_asg (pe_tup (pa_cons (pe_op op_modN (pe_callTy call_int1' (by rfl) T.z_int (by decide +kernel) (pa_cons (pe_ix ix_seq (pv 0) pe_int (fun _ _ => rfl)) pa_nil)) (pv 1)) (pa_cons (pe_op op_fdivW (pe_callTy call_int1' (by rfl) T.z_int (by decide +kernel) (pa_cons (pe_ix ix_seq (pv 0) pe_int (fun _ _ => rfl)) pa_nil)) (pv 1)) pa_nil))) (pg_tup rfl (pgs_cons (pg_name (i := 4) sc_l_takeB.nd rfl (Or.inl rfl)) (pgs_cons (pg_sub (pv 0) pe_int set_list) pgs_nil))))
    (pss_one (ps_ret (pv 4)))) pss_nil)
    (pss_cons (ps_set (i := 5) sc_l_takeB.nd rfl (Or.inl rfl) (pe_op op_modN (pe_callTy call_int1' (by rfl) T.z_int (by decide +kernel) (pa_cons (pe_op op_mul (pe_op op_addU (pe_ix ix_seq (pv 0) pe_int (fun _ _ => rfl)) pe_int) pe_int) pa_nil)) pe_int))
    (pss_cons (ps_set (i := 6) sc_l_takeB.nd rfl (Or.inl rfl) (pe_op op_modN (pe_callTy call_int1' (by rfl) T.z_int (by decide +kernel) (pa_cons (pe_op op_mul (pe_op op_modN (pe_callTy call_int1' (by rfl) T.z_int (by decide +kernel) (pa_cons (pe_op op_mul (pv 5) (pv 5)) pa_nil)) pe_int) pe_int) pa_nil)) pe_int))
    (pss_one (ps_ret (pe_op op_modN (pe_callTy call_int1' (by rfl) T.z_int (by decide +kernel) (pa_cons (pe_op op_fdivW (pv 6) pe_int) pa_nil)) (pv 1))))))))
theorem ok_l_alike (T : Tx K mg t) : FnG P TheW.w K mg base L2.CX0 1 t.f_l_alike t.fd_l_alike ["_law_found", "_law_due"] (sp_l_alike K) := by
  refine ok_G T.F_l_alike sc_l_alike (len_P (n := 2) n_l_alike) (fun cdv A outer s H vs Q E hr h => ⟨t_l_alike K, ?_, body_P (N := N_l_alike) (fun b => m_l_alike) (dat_l_alike) h⟩)
  · show PSs _ _ ((tRet (tAndV (tOp (rEqU K) (tVar 0) (tVar 1)) (tOp (rEqU K) (tCB (rRepr K) (tCons (tVar 0) tNil)) (tCB (rRepr K) (tCons (tVar 1) tNil))))))
    exact (pss_one (ps_ret (pe_and (pe_cmpR (op_eqU hr.r.units)  (pv 0) (pv 1) (nomark _)) (pe_one (pe_cmpR (op_eqU hr.r.units)  (pe_callB (call_repr hr) (by rfl) T.z_repr (by decide +kernel) (pa_cons (pv 0) pa_nil)) (pe_callB (call_repr hr) (by rfl) T.z_repr (by decide +kernel) (pa_cons (pv 1) pa_nil)) (nomark _))))))
theorem ok_l_one (T : Tx K mg t) : FnG P TheW.w K mg base L2.CX0 2 t.f_l_one t.fd_l_one ["_law_bag_here", "_law_some"] (sp_l_one K) := by
  refine ok_G T.F_l_one sc_l_one (len_G (n := 1) n_l_one) (fun cdv A outer s H vs Q E hr h => ⟨t_l_one K, ?_, body_G (N := N_l_one) (fun b => m_l_one) (dat_l_one) h⟩)
  · show PSs _ _ ((tRet (tOp (rIx K) (tVar 1) (tCall (sp_l_takeB K) [] E0 (tCons (tVar 0) (tCons (tCB (rLenU K) (tCons (tVar 1) tNil)) tNil))))))
    have G_l_takeB : FnG P TheW.w K mg base L2.CX0 1 t.f_l_takeB t.fd_l_takeB ["_law_bag_here", "_law_many"] (sp_l_takeB K) := ok_l_takeB T
    exact (pss_one (ps_ret (pe_ix ix_seq (pv 1) (pe_g G_l_takeB (hr.mono (by decide)) (by rfl) T.g_l_takeB T.F_l_takeB.kp T.b_l_takeB .nil pass0 (pa_cons (pv 0) (pa_cons (pe_callB call_lenU (by rfl) T.z_len (by decide +kernel) (pa_cons (pv 1) pa_nil)) pa_nil))) (fun _ _ => rfl))))
theorem ok_l_mixed (T : Tx K mg t) : FnG P TheW.w K mg base L2.CX0 2 t.f_l_mixed t.fd_l_mixed ["_law_bag_here", "_law_some"] (sp_l_mixed K) := by
  refine ok_G T.F_l_mixed sc_l_mixed (len_GO (n := 1) n_l_mixed) (fun cdv A outer s H vs Q E hr h => ⟨t_l_mixed K, ?_, body_GO (N := N_l_mixed) (fun b => m_l_mixed) (dat_l_mixed) h⟩)
  · show PSs _ _ ((tSeq (tAsg (tLst tNil) (gName 2))
    (tSeq (tFor (iList K (tVar 1)) (gName 3) (tDrop (tBM K "list" rInsertL (tVar 2) (tCons (tCall (sp_l_takeB K) [] E0 (tCons (tVar 0) (tCons (tOp (rAddU K) (tCB (rLenU K) (tCons (tVar 2) tNil)) (tC (.int 1))) tNil))) (tCons (tVar 3) tNil)))))
    (tRet (tVar 2)))))
    have G_l_takeB : FnG P TheW.w K mg base L2.CX0 1 t.f_l_takeB t.fd_l_takeB ["_law_bag_here", "_law_many"] (sp_l_takeB K) := ok_l_takeB T
    exact (pss_cons (ps_set (i := 2) sc_l_mixed.nd rfl (Or.inl rfl) (pe_lst pa_nil))
    (pss_cons (ps_for PassesOwn.never rfl (pi_list (pv 1)) (pg_name (i := 3) sc_l_mixed.nd rfl (Or.inl rfl)) (pss_one (ps_expr (pe_bm PySem.F.plainAttrs_list PySem.F.slot_list_insert PySem.F.type_list_insert mt_insertL (pv 2) (pa_cons (pe_g G_l_takeB (hr.mono (by decide)) (by rfl) T.g_l_takeB T.F_l_takeB.kp T.b_l_takeB .nil pass0 (pa_cons (pv 0) (pa_cons (pe_op op_addU (pe_callB call_lenU (by rfl) T.z_len (by decide +kernel) (pa_cons (pv 2) pa_nil)) pe_int) pa_nil))) (pa_cons (pv 3) pa_nil))))))
    (pss_one (ps_ret (pv 2)))))
theorem ok_l_name (T : Tx K mg t) : FnG P TheW.w K mg base L2.CX0 3 t.f_l_name t.fd_l_name ["_law_bag_here"] (sp_l_name K) := by
  refine ok_G T.F_l_name sc_l_name (len_G (n := 0) n_l_name) (fun cdv A outer s H vs Q E hr h => ⟨t_l_name K, ?_, body_G (N := N_l_name) (fun b => m_l_name) (dat_l_name) h⟩)
  · show PSs _ _ ((tSeq (tAsg (tLst (tCons (tC (.str "a")) (tCons (tC (.str "b")) (tCons (tC (.str "c")) (tCons (tC (.str "f")) (tCons (tC (.str "g")) (tCons (tC (.str "x")) (tCons (tC (.str "z")) (tCons (tC (.str "ab")) (tCons (tC (.str "ans")) (tCons (tC (.str "iff")) (tCons (tC (.str "gone")) (tCons (tC (.str "tells")) (tCons (tC (.str "withs")) (tCons (tC (.str "abcdefgh")) (tCons (tC (.str "zzzzzzzz")) tNil)))))))))))))))) (gName 1))
    (tSeq (tIfS (tTest (tOp (rLtU (fun i j => decide (j < i)) fun i j => ltS j i) (tCall (sp_l_takeB K) [] E0 (tCons (tVar 0) (tCons (tC (.int 4)) tNil))) (tC (.int 0)))) (tRet (tCall (sp_l_one K) [] E0 (tCons (tVar 0) (tCons (tVar 1) tNil)))) tNext)
    (tRet (tOp (rAddU K) (tC (.str "k")) (tM1 (rJoin K) (tC (.str "")) (tLc (iRng1 (tCons (tCall (sp_l_takeB K) [] E0 (tCons (tVar 0) (tCons (tC (.int 8)) tNil))) tNil)) (gName 2) tYes (tCall (sp_l_one K) [] E0 (tCons (tVar 0) (tCons (tC (.str "abcdefghijklmnopqrstuvwxyz")) tNil))) [2])))))))
    have G_l_one : FnG P TheW.w K mg base L2.CX0 2 t.f_l_one t.fd_l_one ["_law_bag_here", "_law_some"] (sp_l_one K) := ok_l_one T
    have G_l_takeB : FnG P TheW.w K mg base L2.CX0 1 t.f_l_takeB t.fd_l_takeB ["_law_bag_here", "_law_many"] (sp_l_takeB K) := ok_l_takeB T
    exact (pss_cons (ps_set (i := 1) sc_l_name.nd rfl (Or.inl rfl) (pe_lst (pa_cons pe_str (pa_cons pe_str (pa_cons pe_str (pa_cons pe_str (pa_cons pe_str (pa_cons pe_str (pa_cons pe_str (pa_cons pe_str (pa_cons pe_str (pa_cons pe_str (pa_cons pe_str (pa_cons pe_str (pa_cons pe_str (pa_cons pe_str (pa_cons pe_str pa_nil)))))))))))))))))
    (pss_cons (ps_if (pt_cmpR op_gtU  (pe_g G_l_takeB (hr.mono (by decide)) (by rfl) T.g_l_takeB T.F_l_takeB.kp T.b_l_takeB .nil pass0 (pa_cons (pv 0) (pa_cons pe_int pa_nil))) pe_int (nomark _)) (pss_one (ps_ret (pe_g G_l_one (hr.mono (by decide)) (by rfl) T.g_l_one T.F_l_one.kp T.b_l_one .nil pass0 (pa_cons (pv 0) (pa_cons (pv 1) pa_nil))))) pss_nil)
    (pss_one (ps_ret (pe_op op_addU pe_str (pe_join pe_str (pe_lc (own := [("_law_k", 2)]) (g := (gName 2)) rfl sc_l_name.nd (pi_range1 (by rfl) T.z_range (pa_cons (pe_g G_l_takeB (hr.mono (by decide)) (by rfl) T.g_l_takeB T.F_l_takeB.kp T.b_l_takeB .nil pass0 (pa_cons (pv 0) (pa_cons pe_int pa_nil))) pa_nil)) (blkOk_by (own := [("_law_k", 2)]) (N := N_l_name) (sc := defScope s_l_name) (by decide +kernel)) (fun _ _ _ _ _ => (pg_name (i := 2) sc_l_name.nd rfl (Or.inl rfl))) (fun _ _ _ _ _ => pts_nil) (fun _ _ _ _ _ => (pe_g G_l_one (hr.mono (by decide)) (by rfl) T.g_l_one T.F_l_one.kp T.b_l_one .nil pass0 (pa_cons (pv 0) (pa_cons pe_str pa_nil)))))))))))
theorem ok_l_names (T : Tx K mg t) : FnG P TheW.w K mg base L2.CX0 3 t.f_l_names t.fd_l_names ["_law_bag_here", "_law_terms_here"] (sp_l_names K) := by
  refine ok_G T.F_l_names sc_l_names (len_G (n := 1) n_l_names) (fun cdv A outer s H vs Q E hr h => ⟨t_l_names K, ?_, body_G (N := N_l_names) (fun b => m_l_names) (dat_l_names) h⟩)
  · show PSs _ _ ((tSeq (tAsg (tCB (rSortedT TheW.w) (tCons (tCB (rSetT K TheW.w) (tCons (tOp (rAddU K) (tLc (iList K (tVar 1)) (gName 8) tYes (tOp (rIx K) (tVar 8) (tC (.int 0))) [8]) (tLst (tCons (tC (.str "q")) (tCons (tC (.str "a")) (tCons (tC (.str "b")) tNil))))) tNil)) tNil)) (gName 2))
    (tSeq (tPar 3 4 (tCons (tSl (rSlU K) (tCall (sp_l_mixed K) [] E0 (tCons (tVar 0) (tCons (tVar 2) tNil))) tNoPart (tPart (tCall (sp_l_takeB K) [] E0 (tCons (tVar 0) (tCons (tC (.int 7)) tNil))))) (tCons tDNewK tNil)))
    (tSeq (tAsg (tLc (iList K (tVar 1)) (gName 5) (tTest (tOp (rEqU K) (tCB (rLenU K) (tCons (tVar 5) tNil)) (tC (.int 1)))) (tVar 5) [5]) (gName 6))
    (tSeq (tIfS (tTest (tOp (rEqU K) (tCall (sp_l_takeB K) [] E0 (tCons (tVar 0) (tCons (tC (.int 3)) tNil))) (tC (.int 0)))) (tSeq (tFor (iEnum K (tCons (tVar 6) tNil)) (gTup K 2 (gCons (gName 7) (gCons (gName 5) gNil))) (sDPut (tVar 4) (tOp (rIx K) (tVar 5) (tC (.int 0))) (tOp (rIx K) (tVar 6) (tOp (rI0 fun i j => .int (i - j)) (tVar 7) (tC (.int 1))))))
    (tRet (tVar 4))) tNext)
    (tRet (tCB (rDictK K) (tCons (tLc (iList K (tVar 3)) (gName 9) tYes (tTup (tCons (tVar 9) (tCons (tCall (sp_l_one K) [] E0 (tCons (tVar 0) (tCons (tVar 1) tNil))) tNil))) [9]) tNil))))))))
    have G_l_mixed : FnG P TheW.w K mg base L2.CX0 2 t.f_l_mixed t.fd_l_mixed ["_law_bag_here", "_law_some"] (sp_l_mixed K) := ok_l_mixed T
    have G_l_one : FnG P TheW.w K mg base L2.CX0 2 t.f_l_one t.fd_l_one ["_law_bag_here", "_law_some"] (sp_l_one K) := ok_l_one T
    have G_l_takeB : FnG P TheW.w K mg base L2.CX0 1 t.f_l_takeB t.fd_l_takeB ["_law_bag_here", "_law_many"] (sp_l_takeB K) := ok_l_takeB T
    exact (pss_cons (ps_set (i := 2) sc_l_names.nd rfl (Or.inl rfl) (pe_callB (cr_sortedT rfl hr.r.units) (by rfl) T.z_sorted (by decide +kernel) (pa_cons (pe_callTy (cr_setT rfl hr.r.units) (by rfl) T.z_set (by decide +kernel) (pa_cons (pe_op op_addU (pe_lc (own := [("_law_one_here", 8)]) (g := (gName 8)) rfl sc_l_names.nd (pi_list (pv 1)) (blkOk_by (own := [("_law_one_here", 8)]) (N := N_l_names) (sc := defScope s_l_names) (by decide +kernel)) (fun _ _ _ _ _ => (pg_name (i := 8) sc_l_names.nd rfl (Or.inl rfl))) (fun _ _ _ _ _ => pts_nil) (fun _ _ _ _ _ => (pe_ix ix_seq (pv 8) pe_int (fun _ _ => rfl)))) (pe_lst (pa_cons pe_str (pa_cons pe_str (pa_cons pe_str pa_nil))))) pa_nil)) pa_nil)))
    (pss_cons (ps_par rfl sc_l_names.nd rfl rfl (by decide) rfl rfl (pa_cons (pe_slice sl_U (pe_g G_l_mixed (hr.mono (by decide)) (by rfl) T.g_l_mixed T.F_l_mixed.kp T.b_l_mixed .nil pass0 (pa_cons (pv 0) (pa_cons (pv 2) pa_nil))) po_none (po_some (pe_g G_l_takeB (hr.mono (by decide)) (by rfl) T.g_l_takeB T.F_l_takeB.kp T.b_l_takeB .nil pass0 (pa_cons (pv 0) (pa_cons pe_int pa_nil))))) (pa_cons pe_dnewK pa_nil)) (by rfl))
    (pss_cons (ps_setLc (i := 6) (own := [("_law_term", 5)]) (g := (gName 5)) rfl sc_l_names.nd rfl rfl (sw_true rfl rfl rfl (by decide +kernel)) (pi_list (pv 1)) (blkOk_by (own := [("_law_term", 5)]) (N := N_l_names) (sc := defScope s_l_names) (by decide +kernel)) (fun _ _ _ _ _ => (pg_name (i := 5) sc_l_names.nd rfl (Or.inl rfl))) (fun _ _ _ _ _ => pts_one (pt_cmpR (op_eqU hr.r.units)  (pe_callB call_lenU (by rfl) T.z_len (by decide +kernel) (pa_cons (pv 5) pa_nil)) pe_int (nomark _))) (fun _ _ _ _ _ => (pv 5)))
    (pss_cons (ps_if (pt_cmpR (op_eqU hr.r.units)  (pe_g G_l_takeB (hr.mono (by decide)) (by rfl) T.g_l_takeB T.F_l_takeB.kp T.b_l_takeB .nil pass0 (pa_cons (pv 0) (pa_cons pe_int pa_nil))) pe_int (nomark _)) (pss_cons (ps_for PassesOwn.never rfl (pi_enum (by rfl) T.z_enumerate (pa_cons (pv 6) pa_nil)) (pg_tup rfl (pgs_cons (pg_name (i := 7) sc_l_names.nd rfl (Or.inl rfl)) (pgs_cons (pg_name (i := 5) sc_l_names.nd rfl (Or.inl rfl)) pgs_nil))) (pss_one (ps_dput (u1 hr.r.units) (pv 4) (pe_ix ix_seq (pv 5) pe_int (fun _ _ => rfl)) (pe_ix ix_seq (pv 6) (pe_op op_sub (pv 7) pe_int) (fun _ _ => rfl)) (by rfl))))
    (pss_one (ps_ret (pv 4)))) pss_nil)
    (pss_one (ps_ret (pe_callTy (call_dictK rfl) (by rfl) T.z_dict (by decide +kernel) (pa_cons (pe_lc (own := [("_law_key", 9)]) (g := (gName 9)) rfl sc_l_names.nd (pi_list (pv 3)) (blkOk_by (own := [("_law_key", 9)]) (N := N_l_names) (sc := defScope s_l_names) (by decide +kernel)) (fun _ _ _ _ _ => (pg_name (i := 9) sc_l_names.nd rfl (Or.inl rfl))) (fun _ _ _ _ _ => pts_nil) (fun _ _ _ _ _ => (pe_tup (pa_cons (pv 9) (pa_cons (pe_g G_l_one (hr.mono (by decide)) (by rfl) T.g_l_one T.F_l_one.kp T.b_l_one .nil pass0 (pa_cons (pv 0) (pa_cons (pv 1) pa_nil))) pa_nil))))) pa_nil))))))))
theorem ok_l_deep_term (T : Tx K mg t) : FnG P TheW.w K mg base L2.CX0 4 t.f_l_deep_term t.fd_l_deep_term ["_law_bag_here", "_law_deep"] (sp_l_deep_term K) := by
  refine ok_G T.F_l_deep_term sc_l_deep_term (len_G (n := 1) n_l_deep_term) (fun cdv A outer s H vs Q E hr h => ⟨t_l_deep_term K, ?_, body_G (N := N_l_deep_term) (fun b => m_l_deep_term) (dat_l_deep_term) h⟩)
  · show PSs _ _ ((tSeq (tAsg (tTup (tCons (tCall (sp_l_name K) [] E0 (tCons (tVar 0) tNil)) tNil)) (gName 2))
    (tSeq (tFor (iRng1 (tCons (tVar 1) tNil)) (gName 3) (tAsg (tTup (tCons (tCall (sp_l_name K) [] E0 (tCons (tVar 0) tNil)) (tCons (tVar 2) tNil))) (gName 2)))
    (tRet (tVar 2)))))
    have G_l_name : FnG P TheW.w K mg base L2.CX0 3 t.f_l_name t.fd_l_name ["_law_bag_here"] (sp_l_name K) := ok_l_name T
    exact (pss_cons (ps_set (i := 2) sc_l_deep_term.nd rfl (Or.inl rfl) (pe_tup (pa_cons (pe_g G_l_name (hr.mono (by decide)) (by rfl) T.g_l_name T.F_l_name.kp T.b_l_name .nil pass0 (pa_cons (pv 0) pa_nil)) pa_nil)))
    (pss_cons (ps_for PassesOwn.never rfl (pi_range1 (by rfl) T.z_range (pa_cons (pv 1) pa_nil)) (pg_name (i := 3) sc_l_deep_term.nd rfl (Or.inl rfl)) (pss_one (ps_set (i := 2) sc_l_deep_term.nd rfl (Or.inl rfl) (pe_tup (pa_cons (pe_g G_l_name (hr.mono (by decide)) (by rfl) T.g_l_name T.F_l_name.kp T.b_l_name .nil pass0 (pa_cons (pv 0) pa_nil)) (pa_cons (pv 2) pa_nil))))))
    (pss_one (ps_ret (pv 2)))))
theorem st_put_in (T : Tx K mg t) (n : Nat) {k : Nat} (G_put_in : FnG P TheW.w K mg base L2.CX0 k t.f_put_in t.fd_put_in ["term", "names"] (sp_put_in K n)) : FnG P TheW.w K mg base L2.CX0 (k + 1) t.f_put_in t.fd_put_in ["term", "names"] (sp_put_in K (n + 1)) := by
  refine ok_G T.F_put_in sc_put_in (len_P (n := 2) (n_put_in _)) (fun cdv A outer s H vs Q E hr h => ⟨t_put_in K n, ?_, body_P (N := N_put_in) (fun b => m_put_in) (dat_put_in n) h⟩)
  · show PSs _ _ ((tSeq (tIfS (tTest (tOp (rEqU K) (tCB (rLenU K) (tCons (tVar 0) tNil)) (tC (.int 1)))) (tRet (tGetKZ TheW.w (tVar 1) (tOp (rIx K) (tVar 0) (tC (.int 0))) (tVar 0))) tNext)
    (tSeq (tAsg (tSl (rSlU K) (tVar 0) tNoPart (tPart (tC (.int 1)))) (gName 2))
    (tSeq (tFor (iTup K (tSl (rSlU K) (tVar 0) (tPart (tC (.int 1))) tNoPart)) (gName 3) (tAsg (tOp (rAddU K) (tVar 2) (tTup (tCons (tCall (sp_put_in K n) [] E0 (tCons (tVar 3) (tCons (tVar 1) tNil))) tNil))) (gName 2)))
    (tRet (tVar 2))))))
    exact (pss_cons (ps_if (pt_cmpR (op_eqU hr.r.units)  (pe_callB call_lenU (by rfl) T.z_len (by decide +kernel) (pa_cons (pv 0) pa_nil)) pe_int (nomark _)) (pss_one (ps_ret (pe_getKZ rfl (pv 1) (pe_ix ix_seq (pv 0) pe_int (fun _ _ => rfl)) (pv 0) ⟨rfl, rfl, rfl, rfl⟩))) pss_nil)
    (pss_cons (ps_set (i := 2) sc_put_in.nd rfl (Or.inl rfl) (pe_slice sl_U (pv 0) po_none (po_some pe_int)))
    (pss_cons (ps_for PassesOwn.never rfl (pi_tup (pe_slice sl_U (pv 0) (po_some pe_int) po_none)) (pg_name (i := 3) sc_put_in.nd rfl (Or.inl rfl)) (pss_one (ps_set (i := 2) sc_put_in.nd rfl (Or.inl rfl) (pe_op op_addU (pv 2) (pe_tup (pa_cons (pe_g G_put_in (hr.mono (Nat.le_refl _)) (by rfl) T.g_put_in T.F_put_in.kp T.b_put_in .nil pass0 (pa_cons (pv 3) (pa_cons (pv 1) pa_nil))) pa_nil))))))
    (pss_one (ps_ret (pv 2))))))
theorem ok_put_in (T : Tx K mg t) : ∀ n : Nat, FnG P TheW.w K mg base L2.CX0 (0 + n) t.f_put_in t.fd_put_in ["term", "names"] (sp_put_in K n)
  | 0 => FnG.never (never_P (no_put_in))
  | n + 1 => st_put_in T n (ok_put_in T n)
theorem st_l_size (T : Tx K mg t) (n : Nat) {k : Nat} (G_l_size : FnG P TheW.w K mg base L2.CX0 k t.f_l_size t.fd_l_size ["_law_term"] (sp_l_size K n)) : FnG P TheW.w K mg base L2.CX0 (k + 1) t.f_l_size t.fd_l_size ["_law_term"] (sp_l_size K (n + 1)) := by
  refine ok_G T.F_l_size sc_l_size (len_P (n := 1) (n_l_size _)) (fun cdv A outer s H vs Q E hr h => ⟨t_l_size K n, ?_, body_P (N := N_l_size) (fun b => m_l_size) (dat_l_size n) h⟩)
  · show PSs _ _ ((tRet (tOp (rAddU K) (tC (.int 1)) (tCB (rSum K) (tCons (tLc (iTup K (tSl (rSlU K) (tVar 0) (tPart (tC (.int 1))) tNoPart)) (gName 1) tYes (tCall (sp_l_size K n) [] E0 (tCons (tVar 1) tNil)) [1]) tNil)))))
    exact (pss_one (ps_ret (pe_op op_addU pe_int (pe_callB (cr_sum (by rfl)) (by rfl) T.z_sum (by decide +kernel) (pa_cons (pe_lc (own := [("_law_part", 1)]) (g := (gName 1)) rfl sc_l_size.nd (pi_tup (pe_slice sl_U (pv 0) (po_some pe_int) po_none)) (blkOk_by (own := [("_law_part", 1)]) (N := N_l_size) (sc := defScope s_l_size) (by decide +kernel)) (fun _ _ _ _ _ => (pg_name (i := 1) sc_l_size.nd rfl (Or.inl rfl))) (fun _ _ _ _ _ => pts_nil) (fun _ _ _ _ _ => (pe_g G_l_size (hr.mono (Nat.le_refl _)) (by rfl) T.g_l_size T.F_l_size.kp T.b_l_size .nil pass0 (pa_cons (pv 1) pa_nil)))) pa_nil)))))
theorem ok_l_size (T : Tx K mg t) : ∀ n : Nat, FnG P TheW.w K mg base L2.CX0 (0 + n) t.f_l_size t.fd_l_size ["_law_term"] (sp_l_size K n)
  | 0 => FnG.never (never_P (no_l_size))
  | n + 1 => st_l_size T n (ok_l_size T n)
theorem st_l_subs (T : Tx K mg t) (n : Nat) {k : Nat} (G_l_subs : FnG P TheW.w K mg base L2.CX0 k t.f_l_subs t.fd_l_subs ["_law_term"] (sp_l_subs K n)) : FnG P TheW.w K mg base L2.CX0 (k + 1) t.f_l_subs t.fd_l_subs ["_law_term"] (sp_l_subs K (n + 1)) := by
  refine ok_G T.F_l_subs sc_l_subs (len_PO (n := 1) (n_l_subs _)) (fun cdv A outer s H vs Q E hr h => ⟨t_l_subs K n, ?_, body_PO (N := N_l_subs) (fun b => m_l_subs) (dat_l_subs n) h⟩)
  · show PSs _ _ ((tSeq (tAsg (tLst (tCons (tVar 0) tNil)) (gName 1))
    (tSeq (tFor (iTup K (tSl (rSlU K) (tVar 0) (tPart (tC (.int 1))) tNoPart)) (gName 2) (tDrop (tBM K "list" rExtend (tVar 1) (tCons (tCall (sp_l_subs K n) [] E0 (tCons (tVar 2) tNil)) tNil))))
    (tRet (tCB (rSortedNS K TheW.w) (tCons (tCB (rSetN K TheW.w) (tCons (tVar 1) tNil)) tNil))))))
    exact (pss_cons (ps_set (i := 1) sc_l_subs.nd rfl (Or.inl rfl) (pe_lst (pa_cons (pv 0) pa_nil)))
    (pss_cons (ps_for PassesOwn.never rfl (pi_tup (pe_slice sl_U (pv 0) (po_some pe_int) po_none)) (pg_name (i := 2) sc_l_subs.nd rfl (Or.inl rfl)) (pss_one (ps_expr (pe_bm PySem.F.plainAttrs_list PySem.F.slot_list_extend PySem.F.type_list_extend mt_extend (pv 1) (pa_cons (pe_g G_l_subs (hr.mono (Nat.le_refl _)) (by rfl) T.g_l_subs T.F_l_subs.kp T.b_l_subs .nil pass0 (pa_cons (pv 2) pa_nil)) pa_nil)))))
    (pss_one (ps_ret (pe_callB (cr_sortedNS rfl hr.r.units) (by rfl) T.z_sorted (by decide +kernel) (pa_cons (pe_callTy (cr_setN rfl hr.r.units) (by rfl) T.z_set (by decide +kernel) (pa_cons (pv 1) pa_nil)) pa_nil))))))
theorem ok_l_subs (T : Tx K mg t) : ∀ n : Nat, FnG P TheW.w K mg base L2.CX0 (0 + n) t.f_l_subs t.fd_l_subs ["_law_term"] (sp_l_subs K n)
  | 0 => FnG.never (never_PO (no_l_subs))
  | n + 1 => st_l_subs T n (ok_l_subs T n)
theorem st_l_put (T : Tx K mg t) (n : Nat) {k : Nat} (G_l_put : FnG P TheW.w K mg base L2.CX0 k t.f_l_put t.fd_l_put ["_law_term", "_law_names_here"] (sp_l_put K n)) : FnG P TheW.w K mg base L2.CX0 (k + 1) t.f_l_put t.fd_l_put ["_law_term", "_law_names_here"] (sp_l_put K (n + 1)) := by
  refine ok_G T.F_l_put sc_l_put (len_P (n := 2) (n_l_put _)) (fun cdv A outer s H vs Q E hr h => ⟨t_l_put K n, ?_, body_P (N := N_l_put) (fun b => m_l_put) (dat_l_put n) h⟩)
  · show PSs _ _ ((tSeq (tIfS (tTest (tOp (rEqU K) (tCB (rLenU K) (tCons (tVar 0) tNil)) (tC (.int 1)))) (tRet (tGetKZ TheW.w (tVar 1) (tOp (rIx K) (tVar 0) (tC (.int 0))) (tVar 0))) tNext)
    (tRet (tOp (rAddU K) (tSl (rSlU K) (tVar 0) tNoPart (tPart (tC (.int 1)))) (tCB (rTupOf K) (tCons (tLc (iTup K (tSl (rSlU K) (tVar 0) (tPart (tC (.int 1))) tNoPart)) (gName 2) tYes (tCall (sp_l_put K n) [] E0 (tCons (tVar 2) (tCons (tVar 1) tNil))) [2]) tNil))))))
    exact (pss_cons (ps_if (pt_cmpR (op_eqU hr.r.units)  (pe_callB call_lenU (by rfl) T.z_len (by decide +kernel) (pa_cons (pv 0) pa_nil)) pe_int (nomark _)) (pss_one (ps_ret (pe_getKZ rfl (pv 1) (pe_ix ix_seq (pv 0) pe_int (fun _ _ => rfl)) (pv 0) ⟨rfl, rfl, rfl, rfl⟩))) pss_nil)
    (pss_one (ps_ret (pe_op op_addU (pe_slice sl_U (pv 0) po_none (po_some pe_int)) (pe_callTy call_tupOf (by rfl) T.z_tuple (by decide +kernel) (pa_cons (pe_lc (own := [("_law_part", 2)]) (g := (gName 2)) rfl sc_l_put.nd (pi_tup (pe_slice sl_U (pv 0) (po_some pe_int) po_none)) (blkOk_by (own := [("_law_part", 2)]) (N := N_l_put) (sc := defScope s_l_put) (by decide +kernel)) (fun _ _ _ _ _ => (pg_name (i := 2) sc_l_put.nd rfl (Or.inl rfl))) (fun _ _ _ _ _ => pts_nil) (fun _ _ _ _ _ => (pe_g G_l_put (hr.mono (Nat.le_refl _)) (by rfl) T.g_l_put T.F_l_put.kp T.b_l_put .nil pass0 (pa_cons (pv 2) (pa_cons (pv 1) pa_nil))))) pa_nil))))))
theorem ok_l_put (T : Tx K mg t) : ∀ n : Nat, FnG P TheW.w K mg base L2.CX0 (0 + n) t.f_l_put t.fd_l_put ["_law_term", "_law_names_here"] (sp_l_put K n)
  | 0 => FnG.never (never_P (no_l_put))
  | n + 1 => st_l_put T n (ok_l_put T n)
theorem ok_l_terms (T : Tx K mg t) : FnG P TheW.w K mg base L2.CX0 13 t.f_l_terms t.fd_l_terms ["_law_bag_here", "_law_many"] (sp_l_terms K) := by
  refine ok_G T.F_l_terms sc_l_terms (len_GO (n := 1) n_l_terms) (fun cdv A outer s H vs Q E hr h => ⟨t_l_terms K, ?_, body_GO (N := N_l_terms) (fun b => m_l_terms) (dat_l_terms) h⟩)
  · show PSs _ _ ((tSeq (tAsg (tCall (sp_l_mixed K) [] E0 (tCons (tVar 0) (tCons (tLst (tCons (tC (.str "a")) (tCons (tC (.str "b")) (tCons (tC (.str "c")) (tCons (tC (.str "d")) (tCons (tC (.str "f")) (tCons (tC (.str "ab")) (tCons (tC (.str "zzzzzzzz")) tNil)))))))) tNil))) (gName 2))
    (tSeq (tAsg (tLst (tCons (tLst (tCons (tTup (tCons (tC (.str "f")) (tCons (tC (.int 1)) tNil))) tNil)) (tCons (tLst (tCons (tTup (tCons (tC (.str "f")) (tCons (tC (.int 1)) tNil))) tNil)) (tCons (tLst (tCons (tTup (tCons (tC (.str "f")) (tCons (tC (.int 1)) tNil))) (tCons (tTup (tCons (tC (.str "g")) (tCons (tC (.int 2)) tNil))) tNil))) (tCons (tLst (tCons (tTup (tCons (tC (.str "f")) (tCons (tC (.int 2)) tNil))) tNil)) (tCons (tLst (tCons (tTup (tCons (tC (.str "f")) (tCons (tC (.int 1)) tNil))) (tCons (tTup (tCons (tC (.str "f")) (tCons (tC (.int 2)) tNil))) tNil))) (tCons (tLst (tCons (tTup (tCons (tC (.str "a")) (tCons (tC (.int 1)) tNil))) tNil)) (tCons (tLst (tCons (tTup (tCons (tC (.str "g")) (tCons (tC (.int 3)) tNil))) tNil)) tNil)))))))) (gName 3))
    (tSeq (tAsg (tCall (sp_l_one K) [] E0 (tCons (tVar 0) (tCons (tOp (rAddU K) (tVar 3) (tLst (tCons (tLst (tCons (tTup (tCons (tC (.str "f")) (tCons (tC (.int 1)) tNil))) (tCons (tTup (tCons (tC (.str "g")) (tCons (tC (.int 1)) tNil))) (tCons (tTup (tCons (tC (.str "h")) (tCons (tC (.int 2)) tNil))) tNil)))) (tCons (tLst (tCons (tTup (tCons (tC (.str "f")) (tCons (tC (.int 4)) tNil))) tNil)) (tCons (tLst (tCons (tTup (tCons (tC (.str "f")) (tCons (tC (.int 1)) tNil))) (tCons (tTup (tCons (tC (.str "h")) (tCons (tC (.int 5)) tNil))) tNil))) tNil))))) tNil))) (gName 4))
    (tSeq (tAsg (tTup (tCons (tLst (tCons (tTup (tCons (tOp (rIx K) (tVar 2) (tC (.int 0))) tNil)) tNil)) (tCons (tC (.int 1)) (tCons (tCall (sp_l_one K) [] E0 (tCons (tVar 0) (tCons (tLst (tCons (tC (.int 4)) (tCons (tC (.int 4)) (tCons (tC (.int 4)) (tCons (tC (.int 6)) tNil))))) tNil))) tNil)))) (gTup K 3 (gCons (gName 5) (gCons (gName 6) (gCons (gName 7) gNil)))))
    (tSeq (tAsg (tOp (rI0 fun i j => .int (i - j)) (tVar 1) (tCall (sp_l_one K) [] E0 (tCons (tVar 0) (tCons (tLst (tCons (tC (.int 0)) (tCons (tC (.int 0)) (tCons (tC (.int 0)) (tCons (tC (.int 0)) (tCons (tC (.int 1)) (tCons (tC (.int 2)) (tCons (tCall (sp_l_takeB K) [] E0 (tCons (tVar 0) (tCons (tVar 1) tNil))) tNil)))))))) tNil)))) (gName 8))
    (tSeq (tFor (iRng1 (tCons (tOp (rI CMul fun i j => .int (i * j)) (tOp (rI CMul fun i j => .int (i * j)) (tC (.int 3)) (tVar 1)) (tCB rInt1 (tCons (tOp (rLtU (fun i j => decide (j < i)) fun i j => ltS j i) (tVar 8) (tC (.int 1))) tNil))) tNil)) (gName 9) (tSeq (tIfS (tTest (tOp (rLtU (fun i j => decide (j ≤ i)) fun i j => !ltS i j) (tCB (rLenU K) (tCons (tVar 5) tNil)) (tVar 8))) tBreak tNext)
    (tSeq (tIfS (tAnd (tTest (tOp (rLtU (fun i j => decide (i < j)) fun i j => ltS i j) (tCall (sp_l_takeB K) [] E0 (tCons (tVar 0) (tCons (tC (.int 5)) tNil))) (tC (.int 2)))) (tTest (tOp (rLtU (fun i j => decide (i < j)) fun i j => ltS i j) (tVar 6) (tVar 7)))) (tPar 10 6 (tCons (tTup (tCons (tOp (rIx K) (tVar 2) (tVar 6)) tNil)) (tCons (tOp (rAddU K) (tVar 6) (tC (.int 1))) tNil))) (tSeq (tAsg (tCall (sp_l_one K) [] E0 (tCons (tVar 0) (tCons (tVar 4) tNil))) (gTup K 2 (gCons (gName 11) (gCons (gName 12) gNil))))
    (tAsg (tOp (rAddU K) (tTup (tCons (tVar 11) tNil)) (tCB (rTupOf K) (tCons (tLc (iRng1 (tCons (tVar 12) tNil)) (gName 13) tYes (tCall (sp_l_one K) [] E0 (tCons (tVar 0) (tCons (tVar 5) tNil))) [13]) tNil))) (gName 10))))
    (tIfS (tAnd (tTest (tOp (rNotInD K) (tVar 10) (tVar 5))) (tTest (tOp (rLtU (fun i j => decide (i < j)) fun i j => ltS i j) (tCall (sp_l_size K 12) [] E0 (tCons (tVar 10) tNil)) (tC (.int 25))))) (tDrop (tBM K "list" rAppend (tVar 5) (tCons (tVar 10) tNil))) tNext))))
    (tRet (tCB (rSortedD K) (tCons (tVar 5) tNil))))))))))
    have G_l_mixed : FnG P TheW.w K mg base L2.CX0 2 t.f_l_mixed t.fd_l_mixed ["_law_bag_here", "_law_some"] (sp_l_mixed K) := ok_l_mixed T
    have G_l_one : FnG P TheW.w K mg base L2.CX0 2 t.f_l_one t.fd_l_one ["_law_bag_here", "_law_some"] (sp_l_one K) := ok_l_one T
    have G_l_size : FnG P TheW.w K mg base L2.CX0 12 t.f_l_size t.fd_l_size ["_law_term"] (sp_l_size K 12) := ok_l_size T 12
    have G_l_takeB : FnG P TheW.w K mg base L2.CX0 1 t.f_l_takeB t.fd_l_takeB ["_law_bag_here", "_law_many"] (sp_l_takeB K) := ok_l_takeB T
    exact (pss_cons (ps_set (i := 2) sc_l_terms.nd rfl (Or.inl rfl) (pe_g G_l_mixed (hr.mono (by decide)) (by rfl) T.g_l_mixed T.F_l_mixed.kp T.b_l_mixed .nil pass0 (pa_cons (pv 0) (pa_cons (pe_lst (pa_cons pe_str (pa_cons pe_str (pa_cons pe_str (pa_cons pe_str (pa_cons pe_str (pa_cons pe_str (pa_cons pe_str pa_nil)))))))) pa_nil))))
    (pss_cons (ps_set (i := 3) sc_l_terms.nd rfl (Or.inl rfl) (pe_lst (pa_cons (pe_lst (pa_cons (pe_tup (pa_cons pe_str (pa_cons pe_int pa_nil))) pa_nil)) (pa_cons (pe_lst (pa_cons (pe_tup (pa_cons pe_str (pa_cons pe_int pa_nil))) pa_nil)) (pa_cons (pe_lst (pa_cons (pe_tup (pa_cons pe_str (pa_cons pe_int pa_nil))) (pa_cons (pe_tup (pa_cons pe_str (pa_cons pe_int pa_nil))) pa_nil))) (pa_cons (pe_lst (pa_cons (pe_tup (pa_cons pe_str (pa_cons pe_int pa_nil))) pa_nil)) (pa_cons (pe_lst (pa_cons (pe_tup (pa_cons pe_str (pa_cons pe_int pa_nil))) (pa_cons (pe_tup (pa_cons pe_str (pa_cons pe_int pa_nil))) pa_nil))) (pa_cons (pe_lst (pa_cons (pe_tup (pa_cons pe_str (pa_cons pe_int pa_nil))) pa_nil)) (pa_cons (pe_lst (pa_cons (pe_tup (pa_cons pe_str (pa_cons pe_int pa_nil))) pa_nil)) pa_nil)))))))))
    (pss_cons (ps_set (i := 4) sc_l_terms.nd rfl (Or.inl rfl) (pe_g G_l_one (hr.mono (by decide)) (by rfl) T.g_l_one T.F_l_one.kp T.b_l_one .nil pass0 (pa_cons (pv 0) (pa_cons (pe_op op_addU (pv 3) (pe_lst (pa_cons (pe_lst (pa_cons (pe_tup (pa_cons pe_str (pa_cons pe_int pa_nil))) (pa_cons (pe_tup (pa_cons pe_str (pa_cons pe_int pa_nil))) (pa_cons (pe_tup (pa_cons pe_str (pa_cons pe_int pa_nil))) pa_nil)))) (pa_cons (pe_lst (pa_cons (pe_tup (pa_cons pe_str (pa_cons pe_int pa_nil))) pa_nil)) (pa_cons (pe_lst (pa_cons (pe_tup (pa_cons pe_str (pa_cons pe_int pa_nil))) (pa_cons (pe_tup (pa_cons pe_str (pa_cons pe_int pa_nil))) pa_nil))) pa_nil))))) pa_nil))))
    (pss_cons (ps_asg (pe_tup (pa_cons (pe_lst (pa_cons (pe_tup (pa_cons (pe_ix ix_seq (pv 2) pe_int (fun _ _ => rfl)) pa_nil)) pa_nil)) (pa_cons pe_int (pa_cons (pe_g G_l_one (hr.mono (by decide)) (by rfl) T.g_l_one T.F_l_one.kp T.b_l_one .nil pass0 (pa_cons (pv 0) (pa_cons (pe_lst (pa_cons pe_int (pa_cons pe_int (pa_cons pe_int (pa_cons pe_int pa_nil))))) pa_nil))) pa_nil)))) (pg_tup rfl (pgs_cons (pg_name (i := 5) sc_l_terms.nd rfl (Or.inr rfl)) (pgs_cons (pg_name (i := 6) sc_l_terms.nd rfl (Or.inl rfl)) (pgs_cons (pg_name (i := 7) sc_l_terms.nd rfl (Or.inl rfl)) pgs_nil)))))
    (pss_cons (ps_set (i := 8) sc_l_terms.nd rfl (Or.inl rfl) (pe_op op_sub (pv 1) (pe_g G_l_one (hr.mono (by decide)) (by rfl) T.g_l_one T.F_l_one.kp T.b_l_one .nil pass0 (pa_cons (pv 0) (pa_cons (pe_lst (pa_cons pe_int (pa_cons pe_int (pa_cons pe_int (pa_cons pe_int (pa_cons pe_int (pa_cons pe_int (pa_cons (pe_g G_l_takeB (hr.mono (by decide)) (by rfl) T.g_l_takeB T.F_l_takeB.kp T.b_l_takeB .nil pass0 (pa_cons (pv 0) (pa_cons (pv 1) pa_nil))) pa_nil)))))))) pa_nil)))))
    (pss_cons (ps_for PassesOwn.never rfl (pi_range1 (by rfl) T.z_range (pa_cons (pe_op op_mul (pe_op op_mul pe_int (pv 1)) (pe_callTy call_int1' (by rfl) T.z_int (by decide +kernel) (pa_cons (pe_cmpR op_gtU  (pv 8) pe_int (nomark _)) pa_nil))) pa_nil)) (pg_name (i := 9) sc_l_terms.nd rfl (Or.inl rfl)) (pss_cons (ps_if (pt_cmpR op_geU  (pe_callB call_lenU (by rfl) T.z_len (by decide +kernel) (pa_cons (pv 5) pa_nil)) (pv 8) (nomark _)) (pss_one ps_break) pss_nil)
    (pss_cons (ps_if (PW.pt (pw_and (pt_cmpR op_ltU  (pe_g G_l_takeB (hr.mono (by decide)) (by rfl) T.g_l_takeB T.F_l_takeB.kp T.b_l_takeB .nil pass0 (pa_cons (pv 0) (pa_cons pe_int pa_nil))) pe_int (nomark _)) (pw_and1 (pt_cmpR op_ltU  (pv 6) (pv 7) (nomark _))))) (pss_one (ps_par rfl sc_l_terms.nd rfl rfl (by decide) rfl rfl (pa_cons (pe_tup (pa_cons (pe_ix ix_seq (pv 2) (pv 6) (fun _ _ => rfl)) pa_nil)) (pa_cons (pe_op op_addU (pv 6) pe_int) pa_nil)) (by rfl))) (pss_cons (ps_asg (pe_g G_l_one (hr.mono (by decide)) (by rfl) T.g_l_one T.F_l_one.kp T.b_l_one .nil pass0 (pa_cons (pv 0) (pa_cons (pv 4) pa_nil))) (pg_tup rfl (pgs_cons (pg_name (i := 11) sc_l_terms.nd rfl (Or.inl rfl)) (pgs_cons (pg_name (i := 12) sc_l_terms.nd rfl (Or.inl rfl)) pgs_nil))))
    (pss_one (ps_set (i := 10) sc_l_terms.nd rfl (Or.inl rfl) (pe_op op_addU (pe_tup (pa_cons (pv 11) pa_nil)) (pe_callTy call_tupOf (by rfl) T.z_tuple (by decide +kernel) (pa_cons (pe_lc (own := [("_law_part", 13)]) (g := (gName 13)) rfl sc_l_terms.nd (pi_range1 (by rfl) T.z_range (pa_cons (pv 12) pa_nil)) (blkOk_by (own := [("_law_part", 13)]) (N := N_l_terms) (sc := defScope s_l_terms) (by decide +kernel)) (fun _ _ _ _ _ => (pg_name (i := 13) sc_l_terms.nd rfl (Or.inl rfl))) (fun _ _ _ _ _ => pts_nil) (fun _ _ _ _ _ => (pe_g G_l_one (hr.mono (by decide)) (by rfl) T.g_l_one T.F_l_one.kp T.b_l_one .nil pass0 (pa_cons (pv 0) (pa_cons (pv 5) pa_nil))))) pa_nil)))))))
    (pss_one (ps_if (PW.pt (pw_and (pt_cmpR (op_notInD (units65 hr.r))  (pv 10) (pv 5) (by first | exact nomark _ | rfl)) (pw_and1 (pt_cmpR op_ltU  (pe_g G_l_size (hr.mono (by decide)) (by rfl) T.g_l_size T.F_l_size.kp T.b_l_size .nil pass0 (pa_cons (pv 10) pa_nil)) pe_int (nomark _))))) (pss_one (ps_expr (pe_bm PySem.F.plainAttrs_list PySem.F.slot_list_append PySem.F.type_list_append mt_append (pv 5) (pa_cons (pv 10) pa_nil)))) pss_nil)))))
    (pss_one (ps_ret (pe_callB (cr_sortedD (units70 hr.r)) (by rfl) T.z_sorted (by decide +kernel) (pa_cons (pv 5) pa_nil))))))))))
theorem ok_law (T : Tx K mg t) : FnG P TheW.w K mg base L2.CX0 14 t.f_law t.fd_law ["_law_script"] (sp_law K) := by
  refine ok_G T.F_law sc_law len_law (fun cdv A outer s H vs Q E hr h => ⟨tSeq (tAsg (tCall (sp_l_bag K) [] E0 (tCons (tVar 0) tNil)) (gName 1)) (t_law K), ?_, law_body (N := N_law) (by decide) (fun b => m_law) dat_law h⟩)
  · show PSs _ _ (tSeq (tAsg (tCall (sp_l_bag K) [] E0 (tCons (tVar 0) tNil)) (gName 1)) (tSeq (tFor (iRng1 (tCons (tC (.int 6)) tNil)) (gName 2) (tSeq (tAsg (tCall (sp_l_terms K) [] E0 (tCons (tVar 1) (tCons (tC (.int 7)) tNil))) (gName 3))
    (tSeq (tIfS (tTest (tOp (rEqU K) (tCall (sp_l_takeB K) [] E0 (tCons (tVar 1) (tCons (tC (.int 4)) tNil))) (tC (.int 0)))) (tAsg (tCall (sp_l_subs K 12) [] E0 (tCons (tCall (sp_l_deep_term K) [] E0 (tCons (tVar 1) (tCons (tCall (sp_l_takeB K) [] E0 (tCons (tVar 1) (tCons (tC (.int 7)) tNil))) tNil))) tNil)) (gName 3)) tNext)
    (tSeq (tFor (iRng1 (tCons (tC (.int 3)) tNil)) (gName 4) (tSeq (tPar 5 6 (tCons (tCall (sp_l_one K) [] E0 (tCons (tVar 1) (tCons (tOp (rAddU K) (tSl (rSlU K) (tVar 3) (tPart (tUn (rU fun i => .int (-i)) (tC (.int 2)))) tNoPart) (tVar 3)) tNil))) (tCons (tCall (sp_l_names K) [] E0 (tCons (tVar 1) (tCons (tVar 3) tNil))) tNil)))
    (tSeq (tPar 7 8 (tCons (tCB (rRepr K) (tCons (tLst (tCons (tVar 5) (tCons (tVar 6) tNil))) tNil)) (tCons (tCall (sp_l_put K 12) [] E0 (tCons (tVar 5) (tCons (tVar 6) tNil))) tNil)))
    (tFor (iRng1 (tCons (tC (.int 2)) tNil)) (gName 9) (tIfS (tOr (tNot (tB (tCall (sp_l_alike K) [] E0 (tCons (tCall (sp_put_in K 12) [] E0 (tCons (tVar 5) (tCons (tVar 6) tNil))) (tCons (tVar 8) tNil))))) (tTest (tOp (rNeU K) (tCB (rRepr K) (tCons (tLst (tCons (tVar 5) (tCons (tVar 6) tNil))) tNil)) (tVar 7)))) (tRet (tC (.bl false))) tNext)))))
    (tIfS (tNot (tB (tCall (sp_l_alike K) [] E0 (tCons (tCall (sp_put_in K 12) [] E0 (tCons (tOp (rIx K) (tVar 3) (tUn (rU fun i => .int (-i)) (tC (.int 1)))) (tCons tDNewK tNil))) (tCons (tOp (rIx K) (tVar 3) (tUn (rU fun i => .int (-i)) (tC (.int 1)))) tNil))))) (tRet (tC (.bl false))) tNext)))))
    (tRet (tCall (sp_l_alike K) [] E0 (tCons (tCall (sp_put_in K 12) [] E0 (tCons (tTup (tCons (tC (.str "a")) (tCons (tTup (tCons (tC (.str "a")) tNil)) (tCons (tTup (tCons (tC (.str "b")) tNil)) tNil)))) (tCons (tDisp [((tC (.str "a")), (tTup (tCons (tC (.str "b")) tNil))), ((tC (.str "b")), (tTup (tCons (tC (.str "a")) tNil)))]) tNil))) (tCons (tTup (tCons (tC (.str "a")) (tCons (tTup (tCons (tC (.str "b")) tNil)) (tCons (tTup (tCons (tC (.str "a")) tNil)) tNil)))) tNil))))))
    have G_l_alike : FnG P TheW.w K mg base L2.CX0 1 t.f_l_alike t.fd_l_alike ["_law_found", "_law_due"] (sp_l_alike K) := ok_l_alike T
    have G_l_bag : FnG P TheW.w K mg base L2.CX0 1 t.f_l_bag t.fd_l_bag ["_law_script"] (sp_l_bag K) := ok_l_bag T
    have G_l_deep_term : FnG P TheW.w K mg base L2.CX0 4 t.f_l_deep_term t.fd_l_deep_term ["_law_bag_here", "_law_deep"] (sp_l_deep_term K) := ok_l_deep_term T
    have G_l_names : FnG P TheW.w K mg base L2.CX0 3 t.f_l_names t.fd_l_names ["_law_bag_here", "_law_terms_here"] (sp_l_names K) := ok_l_names T
    have G_l_one : FnG P TheW.w K mg base L2.CX0 2 t.f_l_one t.fd_l_one ["_law_bag_here", "_law_some"] (sp_l_one K) := ok_l_one T
    have G_l_put : FnG P TheW.w K mg base L2.CX0 12 t.f_l_put t.fd_l_put ["_law_term", "_law_names_here"] (sp_l_put K 12) := ok_l_put T 12
    have G_l_subs : FnG P TheW.w K mg base L2.CX0 12 t.f_l_subs t.fd_l_subs ["_law_term"] (sp_l_subs K 12) := ok_l_subs T 12
    have G_l_takeB : FnG P TheW.w K mg base L2.CX0 1 t.f_l_takeB t.fd_l_takeB ["_law_bag_here", "_law_many"] (sp_l_takeB K) := ok_l_takeB T
    have G_l_terms : FnG P TheW.w K mg base L2.CX0 13 t.f_l_terms t.fd_l_terms ["_law_bag_here", "_law_many"] (sp_l_terms K) := ok_l_terms T
    have G_put_in : FnG P TheW.w K mg base L2.CX0 12 t.f_put_in t.fd_put_in ["term", "names"] (sp_put_in K 12) := ok_put_in T 12
    exact (pss_cons (ps_set (i := 1) sc_law.nd rfl (Or.inl rfl) (pe_g G_l_bag (hr.mono (by decide)) (by rfl) T.g_l_bag T.F_l_bag.kp T.b_l_bag .nil pass0 (pa_cons (pv 0) pa_nil))) (pss_cons (ps_for PassesOwn.never rfl (pi_range1 (by rfl) T.z_range (pa_cons pe_int pa_nil)) (pg_name (i := 2) sc_law.nd rfl (Or.inl rfl)) (pss_cons (ps_set (i := 3) sc_law.nd rfl (Or.inl rfl) (pe_g G_l_terms (hr.mono (by decide)) (by rfl) T.g_l_terms T.F_l_terms.kp T.b_l_terms .nil pass0 (pa_cons (pv 1) (pa_cons pe_int pa_nil))))
    (pss_cons (ps_if (pt_cmpR (op_eqU hr.r.units)  (pe_g G_l_takeB (hr.mono (by decide)) (by rfl) T.g_l_takeB T.F_l_takeB.kp T.b_l_takeB .nil pass0 (pa_cons (pv 1) (pa_cons pe_int pa_nil))) pe_int (nomark _)) (pss_one (ps_set (i := 3) sc_law.nd rfl (Or.inl rfl) (pe_g G_l_subs (hr.mono (by decide)) (by rfl) T.g_l_subs T.F_l_subs.kp T.b_l_subs .nil pass0 (pa_cons (pe_g G_l_deep_term (hr.mono (by decide)) (by rfl) T.g_l_deep_term T.F_l_deep_term.kp T.b_l_deep_term .nil pass0 (pa_cons (pv 1) (pa_cons (pe_g G_l_takeB (hr.mono (by decide)) (by rfl) T.g_l_takeB T.F_l_takeB.kp T.b_l_takeB .nil pass0 (pa_cons (pv 1) (pa_cons pe_int pa_nil))) pa_nil))) pa_nil)))) pss_nil)
    (pss_cons (ps_for PassesOwn.never rfl (pi_range1 (by rfl) T.z_range (pa_cons pe_int pa_nil)) (pg_name (i := 4) sc_law.nd rfl (Or.inl rfl)) (pss_cons (ps_par rfl sc_law.nd rfl rfl (by decide) rfl rfl (pa_cons (pe_g G_l_one (hr.mono (by decide)) (by rfl) T.g_l_one T.F_l_one.kp T.b_l_one .nil pass0 (pa_cons (pv 1) (pa_cons (pe_op op_addU (pe_slice sl_U (pv 3) (po_some (pe_un un_neg pe_int)) po_none) (pv 3)) pa_nil))) (pa_cons (pe_g G_l_names (hr.mono (by decide)) (by rfl) T.g_l_names T.F_l_names.kp T.b_l_names .nil pass0 (pa_cons (pv 1) (pa_cons (pv 3) pa_nil))) pa_nil)) (by rfl))
    (pss_cons (ps_par rfl sc_law.nd rfl rfl (by decide) rfl rfl (pa_cons (pe_callB (call_repr hr) (by rfl) T.z_repr (by decide +kernel) (pa_cons (pe_lst (pa_cons (pv 5) (pa_cons (pv 6) pa_nil))) pa_nil)) (pa_cons (pe_g G_l_put (hr.mono (by decide)) (by rfl) T.g_l_put T.F_l_put.kp T.b_l_put .nil pass0 (pa_cons (pv 5) (pa_cons (pv 6) pa_nil))) pa_nil)) (by rfl))
    (pss_one (ps_for PassesOwn.never rfl (pi_range1 (by rfl) T.z_range (pa_cons pe_int pa_nil)) (pg_name (i := 9) sc_law.nd rfl (Or.inl rfl)) (pss_one (ps_if (PW.pt (pw_or (pt_not (pt_val (pe_g G_l_alike (hr.mono (by decide)) (by rfl) T.g_l_alike T.F_l_alike.kp T.b_l_alike .nil pass0 (pa_cons (pe_g G_put_in (hr.mono (by decide)) (by rfl) T.g_put_in T.F_put_in.kp T.b_put_in .nil pass0 (pa_cons (pv 5) (pa_cons (pv 6) pa_nil))) (pa_cons (pv 8) pa_nil))))) (pw_or1 (pt_cmpR (op_neU hr.r.units)  (pe_callB (call_repr hr) (by rfl) T.z_repr (by decide +kernel) (pa_cons (pe_lst (pa_cons (pv 5) (pa_cons (pv 6) pa_nil))) pa_nil)) (pv 7) (nomark _))))) (pss_one (ps_ret pe_bl)) pss_nil)))))))
    (pss_one (ps_if (pt_not (pt_val (pe_g G_l_alike (hr.mono (by decide)) (by rfl) T.g_l_alike T.F_l_alike.kp T.b_l_alike .nil pass0 (pa_cons (pe_g G_put_in (hr.mono (by decide)) (by rfl) T.g_put_in T.F_put_in.kp T.b_put_in .nil pass0 (pa_cons (pe_ix ix_seq (pv 3) (pe_un un_neg pe_int) (fun _ _ => rfl)) (pa_cons pe_dnewK pa_nil))) (pa_cons (pe_ix ix_seq (pv 3) (pe_un un_neg pe_int) (fun _ _ => rfl)) pa_nil))))) (pss_one (ps_ret pe_bl)) pss_nil))))))
    (pss_one (ps_ret (pe_g G_l_alike (hr.mono (by decide)) (by rfl) T.g_l_alike T.F_l_alike.kp T.b_l_alike .nil pass0 (pa_cons (pe_g G_put_in (hr.mono (by decide)) (by rfl) T.g_put_in T.F_put_in.kp T.b_put_in .nil pass0 (pa_cons (pe_tup (pa_cons pe_str (pa_cons (pe_tup (pa_cons pe_str pa_nil)) (pa_cons (pe_tup (pa_cons pe_str pa_nil)) pa_nil)))) (pa_cons (pe_disp (pps_cons pe_str (pe_tup (pa_cons pe_str pa_nil)) (pps_cons pe_str (pe_tup (pa_cons pe_str pa_nil)) pps_nil)) (by rfl) (by rfl) (fun z => by cases z) (by decide)) pa_nil))) (pa_cons (pe_tup (pa_cons pe_str (pa_cons (pe_tup (pa_cons pe_str pa_nil)) (pa_cons (pe_tup (pa_cons pe_str pa_nil)) pa_nil)))) pa_nil)))))))
end
theorem all_mk {l : PySem.W.OpenLaw} [TheW] {K : PySem.W.Frag} {h : Heap} {mg : Str → Option Value} {fa : Addr} (X : K.In h) (G : h.Ns mainGlobals mg) (hfa : mg "law" = some (.ref fa))
    {f0 : Addr} {od0 an0 : Option Addr} {sl0 : Array (Option Value)} {oc0 kV0 dc0 pm0 cd0 ct0 : Value}
    {f1 : Addr} {od1 an1 : Option Addr} {sl1 : Array (Option Value)} {oc1 kV1 dc1 pm1 cd1 ct1 : Value}
    {f2 : Addr} {od2 an2 : Option Addr} {sl2 : Array (Option Value)} {oc2 kV2 dc2 pm2 cd2 ct2 : Value}
    {f3 : Addr} {od3 an3 : Option Addr} {sl3 : Array (Option Value)} {oc3 kV3 dc3 pm3 cd3 ct3 : Value}
    {f4 : Addr} {od4 an4 : Option Addr} {sl4 : Array (Option Value)} {oc4 kV4 dc4 pm4 cd4 ct4 : Value}
    {f5 : Addr} {od5 an5 : Option Addr} {sl5 : Array (Option Value)} {oc5 kV5 dc5 pm5 cd5 ct5 : Value}
    {f6 : Addr} {od6 an6 : Option Addr} {sl6 : Array (Option Value)} {oc6 kV6 dc6 pm6 cd6 ct6 : Value}
    {f7 : Addr} {od7 an7 : Option Addr} {sl7 : Array (Option Value)} {oc7 kV7 dc7 pm7 cd7 ct7 : Value}
    {f8 : Addr} {od8 an8 : Option Addr} {sl8 : Array (Option Value)} {oc8 kV8 dc8 pm8 cd8 ct8 : Value}
    {f9 : Addr} {od9 an9 : Option Addr} {sl9 : Array (Option Value)} {oc9 kV9 dc9 pm9 cd9 ct9 : Value}
    {f10 : Addr} {od10 an10 : Option Addr} {sl10 : Array (Option Value)} {oc10 kV10 dc10 pm10 cd10 ct10 : Value}
    {f11 : Addr} {od11 an11 : Option Addr} {sl11 : Array (Option Value)} {oc11 kV11 dc11 pm11 cd11 ct11 : Value}
    {f12 : Addr} {od12 an12 : Option Addr} {sl12 : Array (Option Value)} {oc12 kV12 dc12 pm12 cd12 ct12 : Value}
    {f13 : Addr} {od13 an13 : Option Addr} {sl13 : Array (Option Value)} {oc13 kV13 dc13 pm13 cd13 ct13 : Value}
    (a0 : PySem.W.nsIn K mainGlobals "put_in" = some (some (.ref f0))) (l0 : K.lookup f0 = some ⟨oc0, od0, .func (PySem.W.fnOf "put_in" "put_in" (defArgs s_put_in) (defBody s_put_in) (defScope s_put_in) .none kV0 dc0 pm0 an0 cd0 ct0), sl0⟩) (c0 : PySem.W.codeIn K cd0 "put_in" = true) (k0 : PySem.W.keepIn K (.ref f0) = true)
    (a1 : PySem.W.nsIn K mainGlobals "_law_bag" = some (some (.ref f1))) (l1 : K.lookup f1 = some ⟨oc1, od1, .func (PySem.W.fnOf "_law_bag" "_law_bag" (defArgs s_l_bag) (defBody s_l_bag) (defScope s_l_bag) .none kV1 dc1 pm1 an1 cd1 ct1), sl1⟩) (c1 : PySem.W.codeIn K cd1 "_law_bag" = true) (k1 : PySem.W.keepIn K (.ref f1) = true)
    (a2 : PySem.W.nsIn K mainGlobals "_law_take" = some (some (.ref f2))) (l2 : K.lookup f2 = some ⟨oc2, od2, .func (PySem.W.fnOf "_law_take" "_law_take" (defArgs s_l_takeB) (defBody s_l_takeB) (defScope s_l_takeB) .none kV2 dc2 pm2 an2 cd2 ct2), sl2⟩) (c2 : PySem.W.codeIn K cd2 "_law_take" = true) (k2 : PySem.W.keepIn K (.ref f2) = true)
    (a3 : PySem.W.nsIn K mainGlobals "_law_alike" = some (some (.ref f3))) (l3 : K.lookup f3 = some ⟨oc3, od3, .func (PySem.W.fnOf "_law_alike" "_law_alike" (defArgs s_l_alike) (defBody s_l_alike) (defScope s_l_alike) .none kV3 dc3 pm3 an3 cd3 ct3), sl3⟩) (c3 : PySem.W.codeIn K cd3 "_law_alike" = true) (k3 : PySem.W.keepIn K (.ref f3) = true)
    (a4 : PySem.W.nsIn K mainGlobals "_law_one" = some (some (.ref f4))) (l4 : K.lookup f4 = some ⟨oc4, od4, .func (PySem.W.fnOf "_law_one" "_law_one" (defArgs s_l_one) (defBody s_l_one) (defScope s_l_one) .none kV4 dc4 pm4 an4 cd4 ct4), sl4⟩) (c4 : PySem.W.codeIn K cd4 "_law_one" = true) (k4 : PySem.W.keepIn K (.ref f4) = true)
    (a5 : PySem.W.nsIn K mainGlobals "_law_mixed" = some (some (.ref f5))) (l5 : K.lookup f5 = some ⟨oc5, od5, .func (PySem.W.fnOf "_law_mixed" "_law_mixed" (defArgs s_l_mixed) (defBody s_l_mixed) (defScope s_l_mixed) .none kV5 dc5 pm5 an5 cd5 ct5), sl5⟩) (c5 : PySem.W.codeIn K cd5 "_law_mixed" = true) (k5 : PySem.W.keepIn K (.ref f5) = true)
    (a6 : PySem.W.nsIn K mainGlobals "_law_name" = some (some (.ref f6))) (l6 : K.lookup f6 = some ⟨oc6, od6, .func (PySem.W.fnOf "_law_name" "_law_name" (defArgs s_l_name) (defBody s_l_name) (defScope s_l_name) .none kV6 dc6 pm6 an6 cd6 ct6), sl6⟩) (c6 : PySem.W.codeIn K cd6 "_law_name" = true) (k6 : PySem.W.keepIn K (.ref f6) = true)
    (a7 : PySem.W.nsIn K mainGlobals "_law_size" = some (some (.ref f7))) (l7 : K.lookup f7 = some ⟨oc7, od7, .func (PySem.W.fnOf "_law_size" "_law_size" (defArgs s_l_size) (defBody s_l_size) (defScope s_l_size) .none kV7 dc7 pm7 an7 cd7 ct7), sl7⟩) (c7 : PySem.W.codeIn K cd7 "_law_size" = true) (k7 : PySem.W.keepIn K (.ref f7) = true)
    (a8 : PySem.W.nsIn K mainGlobals "_law_terms" = some (some (.ref f8))) (l8 : K.lookup f8 = some ⟨oc8, od8, .func (PySem.W.fnOf "_law_terms" "_law_terms" (defArgs s_l_terms) (defBody s_l_terms) (defScope s_l_terms) .none kV8 dc8 pm8 an8 cd8 ct8), sl8⟩) (c8 : PySem.W.codeIn K cd8 "_law_terms" = true) (k8 : PySem.W.keepIn K (.ref f8) = true)
    (a9 : PySem.W.nsIn K mainGlobals "_law_subs" = some (some (.ref f9))) (l9 : K.lookup f9 = some ⟨oc9, od9, .func (PySem.W.fnOf "_law_subs" "_law_subs" (defArgs s_l_subs) (defBody s_l_subs) (defScope s_l_subs) .none kV9 dc9 pm9 an9 cd9 ct9), sl9⟩) (c9 : PySem.W.codeIn K cd9 "_law_subs" = true) (k9 : PySem.W.keepIn K (.ref f9) = true)
    (a10 : PySem.W.nsIn K mainGlobals "_law_put" = some (some (.ref f10))) (l10 : K.lookup f10 = some ⟨oc10, od10, .func (PySem.W.fnOf "_law_put" "_law_put" (defArgs s_l_put) (defBody s_l_put) (defScope s_l_put) .none kV10 dc10 pm10 an10 cd10 ct10), sl10⟩) (c10 : PySem.W.codeIn K cd10 "_law_put" = true) (k10 : PySem.W.keepIn K (.ref f10) = true)
    (a11 : PySem.W.nsIn K mainGlobals "_law_deep_term" = some (some (.ref f11))) (l11 : K.lookup f11 = some ⟨oc11, od11, .func (PySem.W.fnOf "_law_deep_term" "_law_deep_term" (defArgs s_l_deep_term) (defBody s_l_deep_term) (defScope s_l_deep_term) .none kV11 dc11 pm11 an11 cd11 ct11), sl11⟩) (c11 : PySem.W.codeIn K cd11 "_law_deep_term" = true) (k11 : PySem.W.keepIn K (.ref f11) = true)
    (a12 : PySem.W.nsIn K mainGlobals "_law_names" = some (some (.ref f12))) (l12 : K.lookup f12 = some ⟨oc12, od12, .func (PySem.W.fnOf "_law_names" "_law_names" (defArgs s_l_names) (defBody s_l_names) (defScope s_l_names) .none kV12 dc12 pm12 an12 cd12 ct12), sl12⟩) (c12 : PySem.W.codeIn K cd12 "_law_names" = true) (k12 : PySem.W.keepIn K (.ref f12) = true)
    (a13 : PySem.W.nsIn K mainGlobals "law" = some (some (.ref f13))) (l13 : K.lookup f13 = some ⟨oc13, od13, .func (PySem.W.fnOf "law" "law" (defArgs s_law) (defBody s_law) (defScope s_law) .none kV13 dc13 pm13 an13 cd13 ct13), sl13⟩) (c13 : PySem.W.codeIn K cd13 "law" = true) (k13 : PySem.W.keepIn K (.ref f13) = true)
    (z0 : PySem.W.nsIn K mainGlobals "abs" = some none)
    (z1 : PySem.W.nsIn K mainGlobals "dict" = some none)
    (z2 : PySem.W.nsIn K mainGlobals "enumerate" = some none)
    (z3 : PySem.W.nsIn K mainGlobals "int" = some none)
    (z4 : PySem.W.nsIn K mainGlobals "len" = some none)
    (z5 : PySem.W.nsIn K mainGlobals "range" = some none)
    (z6 : PySem.W.nsIn K mainGlobals "repr" = some none)
    (z7 : PySem.W.nsIn K mainGlobals "set" = some none)
    (z8 : PySem.W.nsIn K mainGlobals "sorted" = some none)
    (z9 : PySem.W.nsIn K mainGlobals "sum" = some none)
    (z10 : PySem.W.nsIn K mainGlobals "tuple" = some none) :
    ∃ fd : FuncData, (∀ (s : Shared) (v : Value), BindsTo s fd ⟨[v], []⟩ [("_law_script", v)]) ∧ ∀ base : Heap, K.In base → base.Ns mainGlobals mg → FnG l.prog TheW.w K mg base L2.CX0 14 fa fd ["_law_script"] (sp_law K) := by
  have e := hfa.symm.trans (PySem.W.mg_of X G a13)
  cases e
  let t : Tab := ⟨f0,
    PySem.W.fnOf "put_in" "put_in" (defArgs s_put_in) (defBody s_put_in) (defScope s_put_in) .none kV0 dc0 pm0 an0 cd0 ct0,
    f1,
    PySem.W.fnOf "_law_bag" "_law_bag" (defArgs s_l_bag) (defBody s_l_bag) (defScope s_l_bag) .none kV1 dc1 pm1 an1 cd1 ct1,
    f2,
    PySem.W.fnOf "_law_take" "_law_take" (defArgs s_l_takeB) (defBody s_l_takeB) (defScope s_l_takeB) .none kV2 dc2 pm2 an2 cd2 ct2,
    f3,
    PySem.W.fnOf "_law_alike" "_law_alike" (defArgs s_l_alike) (defBody s_l_alike) (defScope s_l_alike) .none kV3 dc3 pm3 an3 cd3 ct3,
    f4,
    PySem.W.fnOf "_law_one" "_law_one" (defArgs s_l_one) (defBody s_l_one) (defScope s_l_one) .none kV4 dc4 pm4 an4 cd4 ct4,
    f5,
    PySem.W.fnOf "_law_mixed" "_law_mixed" (defArgs s_l_mixed) (defBody s_l_mixed) (defScope s_l_mixed) .none kV5 dc5 pm5 an5 cd5 ct5,
    f6,
    PySem.W.fnOf "_law_name" "_law_name" (defArgs s_l_name) (defBody s_l_name) (defScope s_l_name) .none kV6 dc6 pm6 an6 cd6 ct6,
    f7,
    PySem.W.fnOf "_law_size" "_law_size" (defArgs s_l_size) (defBody s_l_size) (defScope s_l_size) .none kV7 dc7 pm7 an7 cd7 ct7,
    f8,
    PySem.W.fnOf "_law_terms" "_law_terms" (defArgs s_l_terms) (defBody s_l_terms) (defScope s_l_terms) .none kV8 dc8 pm8 an8 cd8 ct8,
    f9,
    PySem.W.fnOf "_law_subs" "_law_subs" (defArgs s_l_subs) (defBody s_l_subs) (defScope s_l_subs) .none kV9 dc9 pm9 an9 cd9 ct9,
    f10,
    PySem.W.fnOf "_law_put" "_law_put" (defArgs s_l_put) (defBody s_l_put) (defScope s_l_put) .none kV10 dc10 pm10 an10 cd10 ct10,
    f11,
    PySem.W.fnOf "_law_deep_term" "_law_deep_term" (defArgs s_l_deep_term) (defBody s_l_deep_term) (defScope s_l_deep_term) .none kV11 dc11 pm11 an11 cd11 ct11,
    f12,
    PySem.W.fnOf "_law_names" "_law_names" (defArgs s_l_names) (defBody s_l_names) (defScope s_l_names) .none kV12 dc12 pm12 an12 cd12 ct12,
    fa,
    PySem.W.fnOf "law" "law" (defArgs s_law) (defBody s_law) (defScope s_law) .none kV13 dc13 pm13 an13 cd13 ct13⟩
  have T : Tx K mg t := ⟨fun_mk (st := s_put_in) l0 c0 k0,
    (fun_mk (st := s_put_in) l0 c0 k0).binds (ps := ["term", "names"]) fun _ _ _ _ _ _ us hl => match us, hl with | [_, _], _ => rfl,
    PySem.W.mg_of X G a0,
    fun_mk (st := s_l_bag) l1 c1 k1,
    (fun_mk (st := s_l_bag) l1 c1 k1).binds (ps := ["_law_script"]) fun _ _ _ _ _ _ us hl => match us, hl with | [_], _ => rfl,
    PySem.W.mg_of X G a1,
    fun_mk (st := s_l_takeB) l2 c2 k2,
    (fun_mk (st := s_l_takeB) l2 c2 k2).binds (ps := ["_law_bag_here", "_law_many"]) fun _ _ _ _ _ _ us hl => match us, hl with | [_, _], _ => rfl,
    PySem.W.mg_of X G a2,
    fun_mk (st := s_l_alike) l3 c3 k3,
    (fun_mk (st := s_l_alike) l3 c3 k3).binds (ps := ["_law_found", "_law_due"]) fun _ _ _ _ _ _ us hl => match us, hl with | [_, _], _ => rfl,
    PySem.W.mg_of X G a3,
    fun_mk (st := s_l_one) l4 c4 k4,
    (fun_mk (st := s_l_one) l4 c4 k4).binds (ps := ["_law_bag_here", "_law_some"]) fun _ _ _ _ _ _ us hl => match us, hl with | [_, _], _ => rfl,
    PySem.W.mg_of X G a4,
    fun_mk (st := s_l_mixed) l5 c5 k5,
    (fun_mk (st := s_l_mixed) l5 c5 k5).binds (ps := ["_law_bag_here", "_law_some"]) fun _ _ _ _ _ _ us hl => match us, hl with | [_, _], _ => rfl,
    PySem.W.mg_of X G a5,
    fun_mk (st := s_l_name) l6 c6 k6,
    (fun_mk (st := s_l_name) l6 c6 k6).binds (ps := ["_law_bag_here"]) fun _ _ _ _ _ _ us hl => match us, hl with | [_], _ => rfl,
    PySem.W.mg_of X G a6,
    fun_mk (st := s_l_size) l7 c7 k7,
    (fun_mk (st := s_l_size) l7 c7 k7).binds (ps := ["_law_term"]) fun _ _ _ _ _ _ us hl => match us, hl with | [_], _ => rfl,
    PySem.W.mg_of X G a7,
    fun_mk (st := s_l_terms) l8 c8 k8,
    (fun_mk (st := s_l_terms) l8 c8 k8).binds (ps := ["_law_bag_here", "_law_many"]) fun _ _ _ _ _ _ us hl => match us, hl with | [_, _], _ => rfl,
    PySem.W.mg_of X G a8,
    fun_mk (st := s_l_subs) l9 c9 k9,
    (fun_mk (st := s_l_subs) l9 c9 k9).binds (ps := ["_law_term"]) fun _ _ _ _ _ _ us hl => match us, hl with | [_], _ => rfl,
    PySem.W.mg_of X G a9,
    fun_mk (st := s_l_put) l10 c10 k10,
    (fun_mk (st := s_l_put) l10 c10 k10).binds (ps := ["_law_term", "_law_names_here"]) fun _ _ _ _ _ _ us hl => match us, hl with | [_, _], _ => rfl,
    PySem.W.mg_of X G a10,
    fun_mk (st := s_l_deep_term) l11 c11 k11,
    (fun_mk (st := s_l_deep_term) l11 c11 k11).binds (ps := ["_law_bag_here", "_law_deep"]) fun _ _ _ _ _ _ us hl => match us, hl with | [_, _], _ => rfl,
    PySem.W.mg_of X G a11,
    fun_mk (st := s_l_names) l12 c12 k12,
    (fun_mk (st := s_l_names) l12 c12 k12).binds (ps := ["_law_bag_here", "_law_terms_here"]) fun _ _ _ _ _ _ us hl => match us, hl with | [_, _], _ => rfl,
    PySem.W.mg_of X G a12,
    fun_mk (st := s_law) l13 c13 k13,
    (fun_mk (st := s_law) l13 c13 k13).binds (ps := ["_law_script"]) fun _ _ _ _ _ _ us hl => match us, hl with | [_], _ => rfl,
    PySem.W.mg_of X G a13,
    PySem.W.mg_none_of X G z0,
    PySem.W.mg_none_of X G z1,
    PySem.W.mg_none_of X G z2,
    PySem.W.mg_none_of X G z3,
    PySem.W.mg_none_of X G z4,
    PySem.W.mg_none_of X G z5,
    PySem.W.mg_none_of X G z6,
    PySem.W.mg_none_of X G z7,
    PySem.W.mg_none_of X G z8,
    PySem.W.mg_none_of X G z9,
    PySem.W.mg_none_of X G z10⟩
  exact ⟨t.fd_law, fun s v => .of_eq rfl, fun base _ _ => ok_law T⟩
end DL
open PySem PySem.W PyProof.Rows
set_option maxHeartbeats 0 in
theorem PySem.Challenge.cw_answerskept_k15_terms_put_in_holds : PySem.Challenge.rw_answerskept_k15_terms_put_in.Holds := by
  w_on; o_law; k_head; (case hw => w_witness2)
  k_fill
  refine DL.walk_g (l := PySem.Challenge.rw_answerskept_k15_terms_put_in) (n := 63) (k := 14) (x := "_law_script") (CX := fun _ => L2.CX0) (sp := fun w => DL.sp_law _) rfl (by decide) rfl ⟨rfl, by decide, by decide⟩ (fun w h Y => PySem.W.kIn_of Y) ?F (fun _ _ a ns hl _ hS => ⟨a, ns, rfl, hl, hS, fun _ => rfl⟩) (fun _ _ _ _ _ h => h)
  case F =>
    intro w mg fa h KX G hmg
    letI : DL.TheW := ⟨w⟩
    refine' DL.all_mk KX G hmg ?a0 ?l0 ?c0 ?k0 ?a1 ?l1 ?c1 ?k1 ?a2 ?l2 ?c2 ?k2 ?a3 ?l3 ?c3 ?k3 ?a4 ?l4 ?c4 ?k4 ?a5 ?l5 ?c5 ?k5 ?a6 ?l6 ?c6 ?k6 ?a7 ?l7 ?c7 ?k7 ?a8 ?l8 ?c8 ?k8 ?a9 ?l9 ?c9 ?k9 ?a10 ?l10 ?c10 ?k10 ?a11 ?l11 ?c11 ?k11 ?a12 ?l12 ?c12 ?k12 ?a13 ?l13 ?c13 ?k13 ?z0 ?z1 ?z2 ?z3 ?z4 ?z5 ?z6 ?z7 ?z8 ?z9 ?z10
    (case a0 => k_is); (case l0 => k_is); (case c0 => k_is); (case k0 => k_is); (case a1 => k_is); (case l1 => k_is); (case c1 => k_is); (case k1 => k_is); (case a2 => k_is); (case l2 => k_is); (case c2 => k_is); (case k2 => k_is); (case a3 => k_is); (case l3 => k_is); (case c3 => k_is); (case k3 => k_is); (case a4 => k_is); (case l4 => k_is); (case c4 => k_is); (case k4 => k_is); (case a5 => k_is); (case l5 => k_is); (case c5 => k_is); (case k5 => k_is); (case a6 => k_is); (case l6 => k_is); (case c6 => k_is); (case k6 => k_is); (case a7 => k_is); (case l7 => k_is); (case c7 => k_is); (case k7 => k_is); (case a8 => k_is); (case l8 => k_is); (case c8 => k_is); (case k8 => k_is); (case a9 => k_is); (case l9 => k_is); (case c9 => k_is); (case k9 => k_is); (case a10 => k_is); (case l10 => k_is); (case c10 => k_is); (case k10 => k_is); (case a11 => k_is); (case l11 => k_is); (case c11 => k_is); (case k11 => k_is); (case a12 => k_is); (case l12 => k_is); (case c12 => k_is); (case k12 => k_is); (case a13 => k_is); (case l13 => k_is); (case c13 => k_is); (case k13 => k_is); (case z0 => k_is); (case z1 => k_is); (case z2 => k_is); (case z3 => k_is); (case z4 => k_is); (case z5 => k_is); (case z6 => k_is); (case z7 => k_is); (case z8 => k_is); (case z9 => k_is); (case z10 => k_is)

