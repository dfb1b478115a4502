import PyProof.Rows.All
import KE.DataEq
import KE.KEqDict
import PyProof.NeKinds
import PyProof.AutoSeq1
import HandS.ForMost
import HandS.Evl
import HandS.IsInst
import HandS.Wide
import PyProof.ReprRoads
import KE.KeyNested
import KE.KDictWalk
import KE.KDictCopyH
import KE.KDictSum
import HandS.TupAny
import HandS.Deep
import HandS.Codes
import KE.KDictDisplayH
import HandS.More
import KE.SortData
import KE.SortCalls
import HandS.Style
import HandS.ListItems
import HandS.DictTup
import KE.KDictItemsList
import KE.KDictPairs
import KE.GoesMore
import KE.GoesEnum
import HandS.DictComp
import HandS.SetKeys
import PySem.Challenge.RW_answerskept_k33_told_by_shapes
set_option Elab.async false
set_option linter.all false
set_option maxRecDepth 100000
set_option maxHeartbeats 4000000
/-! == of data with dicts in it against data without dicts. -/
namespace DL
open PySem PySem.Spec PyProof.Rows PySem.SeqAt PySem.MeetsSeq

theorem str_eq_declines_dict (b : Str) (u : Tok) (l : Addr) (c : Value) (es : Array DictEntry) (n : Nat) (dd : Option Addr) (sl : Array (Option Value)) :
    Meets (Builtin.«str.__eq__» ⟨[.str b u, .ref l], []⟩) (fun _ R s => s.heap.get? l = some { cls := c, dict := dd, data := .dict es n, slots := sl } ∧ R (.ok (.ret .notImplemented)) s) :=
  .of_wp fun prog w A R s h => by obtain ⟨hp, g, d, tk, os⟩ := s; obtain ⟨hl, h⟩ := h; wp_walk using AutoSeq1.wpAny_loadPart' hl, wpAny_load hl; exact ⟨_, rfl, h⟩
theorem tuple_eq_declines_dict (l b : Addr) (items : Array Value) (es : Array DictEntry) (n n2 : Nat) (dd dd2 : Option Addr) (sl sl2 : Array (Option Value)) :
    Meets (Builtin.«tuple.__eq__» ⟨[.ref l, .ref b], []⟩) (fun _ R s => s.heap.get? l = some { cls := .type "tuple", dict := dd, data := .seq items n, slots := sl } ∧ s.heap.get? b = some { cls := .type "dict", dict := dd2, data := .dict es n2, slots := sl2 } ∧ R (.ok (.ret .notImplemented)) s) :=
  .of_wp fun prog w A R s h => by obtain ⟨hp, g, d, tk, os⟩ := s; obtain ⟨hl, hb, h⟩ := h; have f1 := F.sub_dict_tuple; wp_walk using AutoSeq1.wpAny_loadPart' hl, AutoSeq1.wpAny_loadPart' hb; exact ⟨_, rfl, h⟩
theorem list_eq_declines_dict (l b : Addr) (items : Array Value) (es : Array DictEntry) (n n2 : Nat) (dd dd2 : Option Addr) (sl sl2 : Array (Option Value)) :
    Meets (Builtin.«list.__eq__» ⟨[.ref l, .ref b], []⟩) (fun _ R s => s.heap.get? l = some { cls := .type "list", dict := dd, data := .seq items n, slots := sl } ∧ s.heap.get? b = some { cls := .type "dict", dict := dd2, data := .dict es n2, slots := sl2 } ∧ R (.ok (.ret .notImplemented)) s) :=
  .of_wp fun prog w A R s h => by obtain ⟨hp, g, d, tk, os⟩ := s; obtain ⟨hl, hb, h⟩ := h; have f1 := F.sub_dict_list; wp_walk using AutoSeq1.wpAny_loadPart' hl, AutoSeq1.wpAny_loadPart' hb; exact ⟨_, rfl, h⟩

theorem str_ne_declines_dict (b : Str) (u : Tok) (l : Addr) (c : Value) (es : Array DictEntry) (n : Nat) (dd : Option Addr) (sl : Array (Option Value)) :
    Meets (Builtin.«str.__ne__» ⟨[.str b u, .ref l], []⟩) (fun _ R s => s.heap.get? l = some { cls := c, dict := dd, data := .dict es n, slots := sl } ∧ R (.ok (.ret .notImplemented)) s) :=
  .of_wp fun prog w A R s h => by obtain ⟨hp, g, d, tk, os⟩ := s; obtain ⟨hl, h⟩ := h; wp_walk using AutoSeq1.wpAny_loadPart' hl, wpAny_load hl; exact ⟨_, rfl, h⟩
theorem tuple_ne_declines_dict (l b : Addr) (items : Array Value) (es : Array DictEntry) (n n2 : Nat) (dd dd2 : Option Addr) (sl sl2 : Array (Option Value)) :
    Meets (Builtin.«tuple.__ne__» ⟨[.ref l, .ref b], []⟩) (fun _ R s => s.heap.get? l = some { cls := .type "tuple", dict := dd, data := .seq items n, slots := sl } ∧ s.heap.get? b = some { cls := .type "dict", dict := dd2, data := .dict es n2, slots := sl2 } ∧ R (.ok (.ret .notImplemented)) s) :=
  .of_wp fun prog w A R s h => by obtain ⟨hp, g, d, tk, os⟩ := s; obtain ⟨hl, hb, h⟩ := h; have f1 := F.sub_dict_tuple; wp_walk using AutoSeq1.wpAny_loadPart' hl, AutoSeq1.wpAny_loadPart' hb; exact ⟨_, rfl, h⟩
section
variable {A : Around} {s : Shared}
/-- a dict in the heap -/
def DictAt (h : Heap) (a : Addr) : Prop := ∃ o es n, h.get? a = some o ∧ o.cls = .type "dict" ∧ o.data = .dict es n
theorem DictAt.ty {l : Addr} (hl : DictAt s.heap l) : s.TypeIs (.ref l) "dict" := by
  obtain ⟨o, es, n, h1, h2, h3⟩ := hl
  exact ⟨o, h1, h2⟩
theorem dict_declines {prog : Program} {w : World} {E : Value → Shared → Prop} {l : Addr} {x : Value} {T : String} (hl : DictAt s.heap l) (ht : s.TypeIs x T) (hsub : isSubtype (.type T) (.type "dict") = pure false) :
    ∀ Q' : Value → Shared → Prop, Q' .notImplemented s → wpAny (model prog w) A (call (.builtin "dict.__eq__") [.ref l, x]) Q' E s := by
  intro Q' hq
  refine wpAny_call_entry F.slot_dict_eq hl.ty F.entry_dict_eq ?_ (F.args_dict_eq_2 _ _)
  show wpAny _ _ (Builtin.Dict.dictSlotArgs "__eq__" ⟨[.ref l, x], []⟩ >>= _) _ _ s
  refine wpAny_bind ?_
  unfold Builtin.Dict.dictSlotArgs
  refine wpAny_bind (wpAny_notOrdered_dict hl.ty ?_)
  show wpAny _ _ (pure (Value.ref l, x)) _ _ s
  refine wpAny_pure ?_
  refine wpAny_bind (wpAny_isInstance (T := T) ht hsub ?_)
  simp only [Bool.not_false, if_true]
  refine wpAny_bind (wpAny_rule ?_)
  exact wpAny_pure ⟨_, rfl, hq⟩
theorem RcAt.dict_x {l : Addr} {x : Value} {T idb : String} (hl : DictAt s.heap l) (hx : s.TypeIs x T) (hne : (Value.type "dict" != Value.type T) = true) (h1 : isSubtype (.type T) (.type "dict") = pure false)
    (hs : Slot T (cmpInfo .Eq).2.2 idb) (hd : ∀ (prog : Program) (w : World) (E : Value → Shared → Prop) (Q' : Value → Shared → Prop), Q' .notImplemented s → wpAny (model prog w) A (call (.builtin idb) [x, .ref l]) Q' E s)
    (hk : ∀ (prog : Program) (w : World) (E : Value → Shared → Prop) (Q' : Bool → Shared → Prop), Q' false s → wpAny (model prog w) A (isSame (.ref l) x) Q' E s) (hu : A.units < cLine) : RcAt A s (.ref l) x false := fun prog w E Q h =>
  rc_eq_decline_or (k := false) hl.ty hx hne h1 F.slot_dict_eq hs (dict_declines hl hx h1) (hd prog w E) (hk prog w E) (.inr hu) h
theorem RcAt.x_dict {l : Addr} {x : Value} {T ida : String} (hl : DictAt s.heap l) (hx : s.TypeIs x T) (hne : (Value.type T != Value.type "dict") = true) (h1 : isSubtype (.type T) (.type "dict") = pure false)
    (h2 : isSubtype (.type "dict") (.type T) = pure false)
    (hs : Slot T (cmpInfo .Eq).2.1 ida) (hd : ∀ (prog : Program) (w : World) (E : Value → Shared → Prop) (Q' : Value → Shared → Prop), Q' .notImplemented s → wpAny (model prog w) A (call (.builtin ida) [x, .ref l]) Q' E s)
    (hk : ∀ (prog : Program) (w : World) (E : Value → Shared → Prop) (Q' : Bool → Shared → Prop), Q' false s → wpAny (model prog w) A (isSame x (.ref l)) Q' E s) (hu : A.units < cLine) : RcAt A s x (.ref l) false := fun prog w E Q h =>
  rc_eq_decline_or (k := false) hx hl.ty hne h2 hs F.slot_dict_eq_refl (hd prog w E) (dict_declines hl hx h1) (hk prog w E) (.inr hu) h
theorem str_decl {prog : Program} {w : World} {E : Value → Shared → Prop} {l : Addr} (b : Str) (u : Tok) (hl : DictAt s.heap l) :
    ∀ Q' : Value → Shared → Prop, Q' .notImplemented s → wpAny (model prog w) A (call (.builtin "str.__eq__") [.str b u, .ref l]) Q' E s := by
  intro Q' hq
  obtain ⟨⟨cls, dd, data, sl⟩, es, n, ho, hc, hd⟩ := id hl
  simp only at hc hd
  subst hc hd
  exact call_meets F.slot_str_eq (typeIs_str s b u) F.entry_str_eq (F.args_str_eq_2 _ _) (str_eq_declines_dict b u l (.type "dict") es n dd sl) ⟨ho, hq⟩
theorem RcAt.dict_str {l : Addr} (b : Str) (u : Tok) (hl : DictAt s.heap l) (hu : A.units < cLine) : RcAt A s (.ref l) (.str b u) false :=
  RcAt.dict_x hl (typeIs_str s b u) (by decide) F.sub_str_dict F.slot_str_eq_refl (fun _ _ _ => str_decl b u hl)
    (fun _ _ _ _ hq => wpAny_of_eq (rfl : isSame (.ref l) (.str b u) = pure false) hq) hu
theorem RcAt.str_dict {l : Addr} (b : Str) (u : Tok) (hl : DictAt s.heap l) (hu : A.units < cLine) : RcAt A s (.str b u) (.ref l) false :=
  RcAt.x_dict hl (typeIs_str s b u) (by decide) F.sub_str_dict F.sub_dict_str F.slot_str_eq (fun _ _ _ => str_decl b u hl)
    (fun _ _ _ _ hq => wpAny_of_eq (rfl : isSame (.str b u) (.ref l) = pure false) hq) hu
theorem ne_dict_tuple {l b : Addr} {items : Array Value} (hl : DictAt s.heap l) (hb : s.heap.IsTuple b items) : l ≠ b := fun e => by
  subst e
  obtain ⟨o, es, n, ho, hc, _⟩ := hl
  obtain ⟨o2, ho2, hc2, _⟩ := hb
  rw [ho] at ho2
  cases ho2
  rw [hc] at hc2
  exact absurd hc2 (by simp)
theorem tup_decl {prog : Program} {w : World} {E : Value → Shared → Prop} {l b : Addr} {items : Array Value} (hl : DictAt s.heap l) (hb : s.heap.IsTuple b items) :
    ∀ Q' : Value → Shared → Prop, Q' .notImplemented s → wpAny (model prog w) A (call (.builtin "tuple.__eq__") [.ref b, .ref l]) Q' E s := by
  intro Q' hq
  obtain ⟨⟨cls, dd, data, sl⟩, es, n, ho, hc, hd⟩ := id hl
  obtain ⟨⟨cls2, dd2, data2, sl2⟩, ho2, hc2, n2, hd2⟩ := id hb
  simp only at hc hd hc2 hd2
  subst hc hd hc2 hd2
  exact call_meets F.slot_tuple_eq ⟨_, ho2, rfl⟩ F.entry_tuple_eq (F.args_tuple_eq_2 _ _) (tuple_eq_declines_dict b l items es n2 n dd2 dd sl2 sl) ⟨ho2, ho, hq⟩
theorem RcAt.dict_tuple {l b : Addr} {items : Array Value} (hl : DictAt s.heap l) (hb : s.heap.IsTuple b items) (hu : A.units < cLine) : RcAt A s (.ref l) (.ref b) false := by
  obtain ⟨o, es, n, ho, hc, hd⟩ := id hl
  obtain ⟨o2, ho2, hc2, n2, hd2⟩ := id hb
  exact RcAt.dict_x hl ⟨_, ho2, hc2⟩ (by decide) F.sub_tuple_dict F.slot_tuple_eq_refl (fun _ _ _ => tup_decl hl hb)
    (fun _ _ _ _ hq => wpAny_isSame_ref_other (ne_dict_tuple hl hb) ho ho2 (by rw [hc]; simp) hq) hu
theorem RcAt.tuple_dict {l b : Addr} {items : Array Value} (hl : DictAt s.heap l) (hb : s.heap.IsTuple b items) (hu : A.units < cLine) : RcAt A s (.ref b) (.ref l) false := by
  obtain ⟨o, es, n, ho, hc, hd⟩ := id hl
  obtain ⟨o2, ho2, hc2, n2, hd2⟩ := id hb
  exact RcAt.x_dict hl ⟨_, ho2, hc2⟩ (by decide) F.sub_tuple_dict F.sub_dict_tuple F.slot_tuple_eq (fun _ _ _ => tup_decl hl hb)
    (fun _ _ _ _ hq => wpAny_isSame_ref_other' (ne_dict_tuple hl hb).symm ho2 ho (by rw [hc]; simp) hq) hu
theorem RcAt.eqAt {x y : Value} {c : Bool} (hxy : (∃ l b u, x = .ref l ∧ y = .str b u) ∨ (∃ l b u, y = .ref l ∧ x = .str b u) ∨ ∃ l b, x = .ref l ∧ y = .ref b ∧ l ≠ b) (h : RcAt A s x y c) : EqAt A s x y c := by
  rcases hxy with ⟨l, b, u, rfl, rfl⟩ | ⟨l, b, u, rfl, rfl⟩ | ⟨l, b, rfl, rfl, ne⟩
  · intro prog w E Q hq
    unfold eqBool
    refine wpAny_holding ?_
    refine wpAny_ite_split (fun hab => absurd (eq_of_beq hab) nofun) (fun _ => ?_)
    exact wpAny_bind (h prog w E _ (wpAny_truthy_bool hq))
  · intro prog w E Q hq
    unfold eqBool
    refine wpAny_holding ?_
    refine wpAny_ite_split (fun hab => absurd (eq_of_beq hab) nofun) (fun _ => ?_)
    exact wpAny_bind (h prog w E _ (wpAny_truthy_bool hq))
  · exact .of_refs ne h
theorem dict_declinesN {prog : Program} {w : World} {E : Value → Shared → Prop} {l : Addr} {x : Value} {T : String} (hl : DictAt s.heap l) (ht : s.TypeIs x T) (hsub : isSubtype (.type T) (.type "dict") = pure false) :
    ∀ Q' : Value → Shared → Prop, Q' .notImplemented s → wpAny (model prog w) A (call (.builtin "dict.__ne__") [.ref l, x]) Q' E s := by
  intro Q' hq
  refine wpAny_call_entry F.slot_dict_ne hl.ty F.entry_dict_ne ?_ (F.args_dict_ne_2 _ _)
  show wpAny _ _ (Builtin.Dict.dictSlotArgs "__ne__" ⟨[.ref l, x], []⟩ >>= _) _ _ s
  refine wpAny_bind ?_
  unfold Builtin.Dict.dictSlotArgs
  refine wpAny_bind (wpAny_notOrdered_dict hl.ty ?_)
  show wpAny _ _ (pure (Value.ref l, x)) _ _ s
  refine wpAny_pure ?_
  refine wpAny_bind (wpAny_isInstance (T := T) ht hsub ?_)
  simp only [Bool.not_false, if_true]
  refine wpAny_bind (wpAny_rule ?_)
  exact wpAny_pure ⟨_, rfl, hq⟩
theorem RcNeAt.dict_x {l : Addr} {x : Value} {T idb : String} (hl : DictAt s.heap l) (hx : s.TypeIs x T) (hne : (Value.type "dict" != Value.type T) = true) (h1 : isSubtype (.type T) (.type "dict") = pure false)
    (hs : Slot T (cmpInfo .NotEq).2.2 idb) (hd : ∀ (prog : Program) (w : World) (E : Value → Shared → Prop) (Q' : Value → Shared → Prop), Q' .notImplemented s → wpAny (model prog w) A (call (.builtin idb) [x, .ref l]) Q' E s)
    (hk : ∀ (prog : Program) (w : World) (E : Value → Shared → Prop) (Q' : Bool → Shared → Prop), Q' false s → wpAny (model prog w) A (isSame (.ref l) x) Q' E s) (hu : A.units < cLine) : RcNeAt A s (.ref l) x true := fun prog w E Q h =>
  rc_ne_decline_or (k := false) hl.ty hx hne h1 F.slot_dict_ne hs (dict_declinesN hl hx h1) (hd prog w E) (hk prog w E) (.inr hu) h
theorem RcNeAt.x_dict {l : Addr} {x : Value} {T ida : String} (hl : DictAt s.heap l) (hx : s.TypeIs x T) (hne : (Value.type T != Value.type "dict") = true) (h1 : isSubtype (.type T) (.type "dict") = pure false)
    (h2 : isSubtype (.type "dict") (.type T) = pure false)
    (hs : Slot T (cmpInfo .NotEq).2.1 ida) (hd : ∀ (prog : Program) (w : World) (E : Value → Shared → Prop) (Q' : Value → Shared → Prop), Q' .notImplemented s → wpAny (model prog w) A (call (.builtin ida) [x, .ref l]) Q' E s)
    (hk : ∀ (prog : Program) (w : World) (E : Value → Shared → Prop) (Q' : Bool → Shared → Prop), Q' false s → wpAny (model prog w) A (isSame x (.ref l)) Q' E s) (hu : A.units < cLine) : RcNeAt A s x (.ref l) true := fun prog w E Q h =>
  rc_ne_decline_or (k := false) hx hl.ty hne h2 hs F.slot_dict_ne_refl (hd prog w E) (dict_declinesN hl hx h1) (hk prog w E) (.inr hu) h
theorem str_declN {prog : Program} {w : World} {E : Value → Shared → Prop} {l : Addr} (b : Str) (u : Tok) (hl : DictAt s.heap l) :
    ∀ Q' : Value → Shared → Prop, Q' .notImplemented s → wpAny (model prog w) A (call (.builtin "str.__ne__") [.str b u, .ref l]) Q' E s := by
  intro Q' hq
  obtain ⟨⟨cls, dd, data, sl⟩, es, n, ho, hc, hd⟩ := id hl
  simp only at hc hd
  subst hc hd
  exact call_meets F.slot_str_ne (typeIs_str s b u) F.entry_str_ne (F.args_str_ne_2 _ _) (str_ne_declines_dict b u l (.type "dict") es n dd sl) ⟨ho, hq⟩
theorem RcNeAt.dict_str {l : Addr} (b : Str) (u : Tok) (hl : DictAt s.heap l) (hu : A.units < cLine) : RcNeAt A s (.ref l) (.str b u) true :=
  RcNeAt.dict_x hl (typeIs_str s b u) (by decide) F.sub_str_dict F.slot_str_ne_refl (fun _ _ _ => str_declN b u hl)
    (fun _ _ _ _ hq => wpAny_of_eq (rfl : isSame (.ref l) (.str b u) = pure false) hq) hu
theorem RcNeAt.str_dict {l : Addr} (b : Str) (u : Tok) (hl : DictAt s.heap l) (hu : A.units < cLine) : RcNeAt A s (.str b u) (.ref l) true :=
  RcNeAt.x_dict hl (typeIs_str s b u) (by decide) F.sub_str_dict F.sub_dict_str F.slot_str_ne (fun _ _ _ => str_declN b u hl)
    (fun _ _ _ _ hq => wpAny_of_eq (rfl : isSame (.str b u) (.ref l) = pure false) hq) hu
theorem tup_declN {prog : Program} {w : World} {E : Value → Shared → Prop} {l b : Addr} {items : Array Value} (hl : DictAt s.heap l) (hb : s.heap.IsTuple b items) :
    ∀ Q' : Value → Shared → Prop, Q' .notImplemented s → wpAny (model prog w) A (call (.builtin "tuple.__ne__") [.ref b, .ref l]) Q' E s := by
  intro Q' hq
  obtain ⟨⟨cls, dd, data, sl⟩, es, n, ho, hc, hd⟩ := id hl
  obtain ⟨⟨cls2, dd2, data2, sl2⟩, ho2, hc2, n2, hd2⟩ := id hb
  simp only at hc hd hc2 hd2
  subst hc hd hc2 hd2
  exact call_meets F.slot_tuple_ne ⟨_, ho2, rfl⟩ F.entry_tuple_ne (F.args_tuple_ne_2 _ _) (tuple_ne_declines_dict b l items es n2 n dd2 dd sl2 sl) ⟨ho2, ho, hq⟩
theorem RcNeAt.dict_tuple {l b : Addr} {items : Array Value} (hl : DictAt s.heap l) (hb : s.heap.IsTuple b items) (hu : A.units < cLine) : RcNeAt A s (.ref l) (.ref b) true := by
  obtain ⟨o, es, n, ho, hc, hd⟩ := id hl
  obtain ⟨o2, ho2, hc2, n2, hd2⟩ := id hb
  exact RcNeAt.dict_x hl ⟨_, ho2, hc2⟩ (by decide) F.sub_tuple_dict F.slot_tuple_ne_refl (fun _ _ _ => tup_declN hl hb)
    (fun _ _ _ _ hq => wpAny_isSame_ref_other (ne_dict_tuple hl hb) ho ho2 (by rw [hc]; simp) hq) hu
theorem RcNeAt.tuple_dict {l b : Addr} {items : Array Value} (hl : DictAt s.heap l) (hb : s.heap.IsTuple b items) (hu : A.units < cLine) : RcNeAt A s (.ref b) (.ref l) true := by
  obtain ⟨o, es, n, ho, hc, hd⟩ := id hl
  obtain ⟨o2, ho2, hc2, n2, hd2⟩ := id hb
  exact RcNeAt.x_dict hl ⟨_, ho2, hc2⟩ (by decide) F.sub_tuple_dict F.sub_dict_tuple F.slot_tuple_ne (fun _ _ _ => tup_declN hl hb)
    (fun _ _ _ _ hq => wpAny_isSame_ref_other' (ne_dict_tuple hl hb).symm ho2 ho (by rw [hc]; simp) hq) hu
end
end DL

/-! == of any data against texts and tuples of texts. -/
namespace DL
open PySem PySem.Spec PyProof.Rows PySem.SeqAt PySem.MeetsSeq

mutual
/-- only texts, and tuples of such -/
def txt : PyData → Bool
  | .str _ => true
  | .tuple xs => txtAll xs
  | _ => false
def txtAll : List PyData → Bool
  | [] => true
  | x :: xs => txt x && txtAll xs
end
mutual
theorem txt_plain : ∀ d : PyData, txt d = true → d.plain = true
  | .none, h => nomatch h
  | .bool _, h => nomatch h
  | .int _, h => nomatch h
  | .list _, h => nomatch h
  | .dict _, h => nomatch h
  | .str _, _ => rfl
  | .tuple xs, h => txtAll_plain xs h
theorem txtAll_plain : ∀ xs : List PyData, txtAll xs = true → PyData.plainAll xs = true
  | [], _ => rfl
  | x :: xs, h => by
    have h' : txt x = true ∧ txtAll xs = true := by simpa [txtAll] using h
    simp only [PyData.plainAll, txt_plain x h'.1, txtAll_plain xs h'.2, Bool.and_self]
end
theorem dictAt_of {h : Heap} {a : Addr} {o : Obj} {es : Array DictEntry} {n : Nat} (h1 : h.get? a = some o) (h2 : o.cls = .type "dict") (h3 : o.data = .dict es n) : DictAt h a := ⟨o, es, n, h1, h2, h3⟩

mutual
theorem eqAt_r : ∀ (da db : PyData) (A : Around) (s : Shared) (a b : Value) (as bs : List Addr), Reads s.heap a da as → Reads s.heap b db bs → txt db = true →
    A.units + min da.depth db.depth < cLine → EqAt A s a b (PyData.eqv da db)
  | da, .none, _, _, _, _, _, _, _, _, h, _ => nomatch h
  | da, .bool _, _, _, _, _, _, _, _, _, h, _ => nomatch h
  | da, .int _, _, _, _, _, _, _, _, _, h, _ => nomatch h
  | da, .list _, _, _, _, _, _, _, _, _, h, _ => nomatch h
  | da, .dict _, _, _, _, _, _, _, _, _, h, _ => nomatch h
  | da, .str y, A, s, _, _, _, _, ra, rb, _, hu => by
    cases rb with
    | str _ u =>
      cases ra with
      | none => exact EqAt.none_str y u
      | bool x => exact EqAt.bool_str x y u
      | int x t => exact EqAt.int_str x t y u
      | str x t => exact EqAt.str_str x t y u
      | list k1 k2 k3 k4 => exact EqAt.list_str y u ⟨_, k1, k2, _, k3⟩ (room_here hu)
      | tuple k1 k2 k3 k4 => exact EqAt.tuple_str y u ⟨_, k1, k2, _, k3⟩ (room_here hu)
      | dict k1 k2 k3 k4 k5 => exact RcAt.eqAt (.inl ⟨_, _, _, rfl, rfl⟩) (RcAt.dict_str y u (dictAt_of k1 k2 k3) (room_here hu))
  | da, .tuple ys, A, s, _, _, _, _, ra, rb, ht, hu => by
    cases rb with
    | @tuple l' o' vs' n' _ bs₁ k1 k2 k3 k4 =>
      have hl' : s.heap.IsTuple l' vs' := ⟨_, k1, k2, _, k3⟩
      cases ra with
      | none => exact EqAt.none_tuple hl' (room_here hu)
      | bool x => exact EqAt.bool_tuple x hl' (room_here hu)
      | int x t => exact EqAt.int_tuple x t hl' (room_here hu)
      | str x t => exact EqAt.str_tuple x t hl' (room_here hu)
      | list h1 h2 h3 h4 => exact EqAt.list_tuple ⟨_, h1, h2, _, h3⟩ hl' (room_here hu)
      | dict h1 h2 h3 h4 h5 => exact RcAt.eqAt (.inr (.inr ⟨_, _, rfl, rfl, ne_dict_tuple (dictAt_of h1 h2 h3) hl'⟩)) (RcAt.dict_tuple (dictAt_of h1 h2 h3) hl' (room_here hu))
      | @tuple l o vs n xs as₁ h1 h2 h3 h4 =>
        have hl : s.heap.IsTuple l vs := ⟨_, h1, h2, _, h3⟩
        have n1 : vs.size = xs.length := by simpa using ReadsAll.length _ _ _ h4
        have n2 : vs'.size = ys.length := by simpa using ReadsAll.length _ _ _ k4
        show EqAt A s (.ref l) (.ref l') (PyData.eqvAll xs ys)
        by_cases hll : l = l'
        · subst hll
          have e : PyData.tuple ys = PyData.tuple xs := plain_unique (.tuple ys) (.tuple xs) _ _ _ (txt_plain _ ht) (.tuple k1 k2 k3 k4) (.tuple h1 h2 h3 h4)
          injection e with e
          subst e
          rw [eqvAll_refl_plain ys (txtAll_plain _ ht)]
          exact EqAt.same _
        · rw [← eqvAll_eq xs ys, ← n1, ← n2]
          refine EqAt.of_refs hll (RcAt.tuples hl hl' (room_here hu) fun j j1 j2 => ?_)
          have := eqAt_rAll xs ys A.in1 s vs.toList vs'.toList _ _ h4 k4 ht (room_in hu) j (by simpa using j1) (by simpa using j2)
          simpa using this
theorem eqAt_rAll : ∀ (xs ys : List PyData) (A : Around) (s : Shared) (vs ws : List Value) (as bs : List Addr), ReadsAll s.heap vs xs as → ReadsAll s.heap ws ys bs → txtAll ys = true →
    A.units + min (PyData.depthAll xs) (PyData.depthAll ys) < cLine → ∀ j (h1 : j < vs.length) (h2 : j < ws.length), EqAt A s vs[j] ws[j] (pairEq xs ys j)
  | [], _, _, _, _, _, _, _, ra, _, _, _, j, h1, _ => by cases ra; exact absurd h1 (Nat.not_lt_zero _)
  | _ :: _, [], _, _, _, _, _, _, _, rb, _, _, j, _, h2 => by cases rb; exact absurd h2 (Nat.not_lt_zero _)
  | x :: xs, y :: ys, A, s, _, _, _, _, ra, rb, hb, hu, j, h1, h2 => by
    have hb' : txt y = true ∧ txtAll ys = true := by simpa [txtAll] using hb
    cases ra with
    | cons r rs =>
      cases rb with
      | cons r' rs' =>
        cases j with
        | zero => exact eqAt_r x y A s _ _ _ _ r r' hb'.1 (room_head hu)
        | succ j => exact eqAt_rAll xs ys A s _ _ _ _ rs rs' hb'.2 (room_tail hu) j (Nat.lt_of_succ_lt_succ h1) (Nat.lt_of_succ_lt_succ h2)
end
mutual
theorem eqAt_l : ∀ (db da : PyData) (A : Around) (s : Shared) (b a : Value) (bs as : List Addr), Reads s.heap b db bs → Reads s.heap a da as → txt db = true →
    A.units + min db.depth da.depth < cLine → EqAt A s b a (PyData.eqv db da)
  | .none, _, _, _, _, _, _, _, _, _, h, _ => nomatch h
  | .bool _, _, _, _, _, _, _, _, _, _, h, _ => nomatch h
  | .int _, _, _, _, _, _, _, _, _, _, h, _ => nomatch h
  | .list _, _, _, _, _, _, _, _, _, _, h, _ => nomatch h
  | .dict _, _, _, _, _, _, _, _, _, _, h, _ => nomatch h
  | .str y, da, A, s, _, _, _, _, rb, ra, _, hu => by
    cases rb with
    | str _ u =>
      cases ra with
      | none => exact EqAt.str_none y u
      | bool x => exact EqAt.str_bool y u x
      | int x t => exact EqAt.str_int y u x t
      | str x t => exact EqAt.str_str y u x t
      | list k1 k2 k3 k4 => exact EqAt.str_list y u ⟨_, k1, k2, _, k3⟩ (room_here hu)
      | tuple k1 k2 k3 k4 => exact EqAt.str_tuple y u ⟨_, k1, k2, _, k3⟩ (room_here hu)
      | dict k1 k2 k3 k4 k5 => exact RcAt.eqAt (.inr (.inl ⟨_, _, _, rfl, rfl⟩)) (RcAt.str_dict y u (dictAt_of k1 k2 k3) (room_here hu))
  | .tuple ys, da, A, s, _, _, _, _, rb, ra, ht, hu => by
    cases rb with
    | @tuple l' o' vs' n' _ bs₁ k1 k2 k3 k4 =>
      have hl' : s.heap.IsTuple l' vs' := ⟨_, k1, k2, _, k3⟩
      cases ra with
      | none => exact EqAt.tuple_none hl' (room_here hu)
      | bool x => exact EqAt.tuple_bool x hl' (room_here hu)
      | int x t => exact EqAt.tuple_int x t hl' (room_here hu)
      | str x t => exact EqAt.tuple_str x t hl' (room_here hu)
      | list h1 h2 h3 h4 => exact EqAt.tuple_list hl' ⟨_, h1, h2, _, h3⟩ (room_here hu)
      | dict h1 h2 h3 h4 h5 => exact RcAt.eqAt (.inr (.inr ⟨_, _, rfl, rfl, (ne_dict_tuple (dictAt_of h1 h2 h3) hl').symm⟩)) (RcAt.tuple_dict (dictAt_of h1 h2 h3) hl' (room_here hu))
      | @tuple l o vs n xs as₁ h1 h2 h3 h4 =>
        have hl : s.heap.IsTuple l vs := ⟨_, h1, h2, _, h3⟩
        have n1 : vs.size = xs.length := by simpa using ReadsAll.length _ _ _ h4
        have n2 : vs'.size = ys.length := by simpa using ReadsAll.length _ _ _ k4
        show EqAt A s (.ref l') (.ref l) (PyData.eqvAll ys xs)
        by_cases hll : l' = l
        · subst hll
          have e : PyData.tuple ys = PyData.tuple xs := plain_unique (.tuple ys) (.tuple xs) _ _ _ (txt_plain _ ht) (.tuple k1 k2 k3 k4) (.tuple h1 h2 h3 h4)
          injection e with e
          subst e
          rw [eqvAll_refl_plain ys (txtAll_plain _ ht)]
          exact EqAt.same _
        · rw [← eqvAll_eq ys xs, ← n1, ← n2]
          refine EqAt.of_refs hll (RcAt.tuples hl' hl (room_here hu) fun j j1 j2 => ?_)
          have := eqAt_lAll ys xs A.in1 s vs'.toList vs.toList _ _ k4 h4 ht (room_in hu) j (by simpa using j1) (by simpa using j2)
          simpa using this
theorem eqAt_lAll : ∀ (ys xs : List PyData) (A : Around) (s : Shared) (ws vs : List Value) (bs as : List Addr), ReadsAll s.heap ws ys bs → ReadsAll s.heap vs xs as → txtAll ys = true →
    A.units + min (PyData.depthAll ys) (PyData.depthAll xs) < cLine → ∀ j (h1 : j < ws.length) (h2 : j < vs.length), EqAt A s ws[j] vs[j] (pairEq ys xs j)
  | [], _, _, _, _, _, _, _, ra, _, _, _, j, h1, _ => by cases ra; exact absurd h1 (Nat.not_lt_zero _)
  | _ :: _, [], _, _, _, _, _, _, _, rb, _, _, j, _, h2 => by cases rb; exact absurd h2 (Nat.not_lt_zero _)
  | y :: ys, x :: xs, A, s, _, _, _, _, rb, ra, hb, hu, j, h1, h2 => by
    have hb' : txt y = true ∧ txtAll ys = true := by simpa [txtAll] using hb
    cases ra with
    | cons r rs =>
      cases rb with
      | cons r' rs' =>
        cases j with
        | zero => exact eqAt_l y x A s _ _ _ _ r' r hb'.1 (room_head hu)
        | succ j => exact eqAt_lAll ys xs A s _ _ _ _ rs' rs hb'.2 (room_tail hu) j (Nat.lt_of_succ_lt_succ h1) (Nat.lt_of_succ_lt_succ h2)
end
/-- at the top -/
theorem rcAt_r {da db : PyData} {A : Around} {s : Shared} {a b : Value} {as bs : List Addr} (ra : Reads s.heap a da as) (rb : Reads s.heap b db bs) (ht : txt db = true)
    (hu : A.units + min da.depth db.depth < cLine) : RcAt A s a b (PyData.eqv da db) := by
  cases rb with
  | none => exact nomatch ht
  | bool _ => exact nomatch ht
  | int _ _ => exact nomatch ht
  | list _ _ _ _ => exact nomatch ht
  | dict _ _ _ _ _ => exact nomatch ht
  | str y u =>
    cases ra with
    | none => exact RcAt.none_str y u
    | bool x => exact RcAt.bool_str x y u
    | int x t => exact RcAt.int_str x t y u
    | str x t => exact RcAt.str_str x t y u
    | list k1 k2 k3 k4 => exact RcAt.list_str y u ⟨_, k1, k2, _, k3⟩ (room_here hu)
    | tuple k1 k2 k3 k4 => exact RcAt.tuple_str y u ⟨_, k1, k2, _, k3⟩ (room_here hu)
    | dict k1 k2 k3 k4 k5 => exact RcAt.dict_str y u (dictAt_of k1 k2 k3) (room_here hu)
  | @tuple l' o' vs' n' ys bs₁ k1 k2 k3 k4 =>
    have hl' : s.heap.IsTuple l' vs' := ⟨_, k1, k2, _, k3⟩
    cases ra with
    | none => exact RcAt.none_tuple hl' (room_here hu)
    | bool x => exact RcAt.bool_tuple x hl' (room_here hu)
    | int x t => exact RcAt.int_tuple x t hl' (room_here hu)
    | str x t => exact RcAt.str_tuple x t hl' (room_here hu)
    | list h1 h2 h3 h4 => exact RcAt.list_tuple ⟨_, h1, h2, _, h3⟩ hl' (room_here hu)
    | dict h1 h2 h3 h4 h5 => exact RcAt.dict_tuple (dictAt_of h1 h2 h3) hl' (room_here hu)
    | @tuple l o vs n xs as₁ h1 h2 h3 h4 =>
      have hl : s.heap.IsTuple l vs := ⟨_, h1, h2, _, h3⟩
      have n1 : vs.size = xs.length := by simpa using ReadsAll.length _ _ _ h4
      have n2 : vs'.size = ys.length := by simpa using ReadsAll.length _ _ _ k4
      have he : ∀ j (j1 : j < vs.size) (j2 : j < vs'.size), EqAt A.in1 s vs[j] vs'[j] (pairEq xs ys j) := fun j j1 j2 => by
        have := eqAt_rAll xs ys A.in1 s vs.toList vs'.toList _ _ h4 k4 ht (room_in hu) j (by simpa using j1) (by simpa using j2)
        simpa using this
      show RcAt A s (.ref l) (.ref l') (PyData.eqvAll xs ys)
      rw [← eqvAll_eq xs ys, ← n1, ← n2]
      exact RcAt.tuples hl hl' (room_here hu) he
theorem rcNeAt_r {da db : PyData} {A : Around} {s : Shared} {a b : Value} {as bs : List Addr} (ra : Reads s.heap a da as) (rb : Reads s.heap b db bs) (ht : txt db = true)
    (hu : A.units + min da.depth db.depth < cLine) : RcNeAt A s a b (!PyData.eqv da db) := by
  cases rb with
  | none => exact nomatch ht
  | bool _ => exact nomatch ht
  | int _ _ => exact nomatch ht
  | list _ _ _ _ => exact nomatch ht
  | dict _ _ _ _ _ => exact nomatch ht
  | str y u =>
    cases ra with
    | none => exact RcNeAt.none_str y u
    | bool x => exact RcNeAt.bool_str x y u
    | int x t => exact RcNeAt.int_str x t y u
    | str x t => exact RcNeAt.str_str x t y u
    | list k1 k2 k3 k4 => exact RcNeAt.list_str y u ⟨_, k1, k2, _, k3⟩ (room_here hu)
    | tuple k1 k2 k3 k4 => exact RcNeAt.tuple_str y u ⟨_, k1, k2, _, k3⟩ (room_here hu)
    | dict k1 k2 k3 k4 k5 => exact RcNeAt.dict_str y u (dictAt_of k1 k2 k3) (room_here hu)
  | @tuple l' o' vs' n' ys bs₁ k1 k2 k3 k4 =>
    have hl' : s.heap.IsTuple l' vs' := ⟨_, k1, k2, _, k3⟩
    cases ra with
    | none => exact RcNeAt.none_tuple hl' (room_here hu)
    | bool x => exact RcNeAt.bool_tuple x hl' (room_here hu)
    | int x t => exact RcNeAt.int_tuple x t hl' (room_here hu)
    | str x t => exact RcNeAt.str_tuple x t hl' (room_here hu)
    | list h1 h2 h3 h4 => exact RcNeAt.list_tuple ⟨_, h1, h2, _, h3⟩ hl' (room_here hu)
    | dict h1 h2 h3 h4 h5 => exact RcNeAt.dict_tuple (dictAt_of h1 h2 h3) hl' (room_here hu)
    | @tuple l o vs n xs as₁ h1 h2 h3 h4 =>
      have hl : s.heap.IsTuple l vs := ⟨_, h1, h2, _, h3⟩
      have n1 : vs.size = xs.length := by simpa using ReadsAll.length _ _ _ h4
      have n2 : vs'.size = ys.length := by simpa using ReadsAll.length _ _ _ k4
      have he : ∀ j (j1 : j < vs.size) (j2 : j < vs'.size), EqAt A.in1 s vs[j] vs'[j] (pairEq xs ys j) := fun j j1 j2 => by
        have := eqAt_rAll xs ys A.in1 s vs.toList vs'.toList _ _ h4 k4 ht (room_in hu) j (by simpa using j1) (by simpa using j2)
        simpa using this
      show RcNeAt A s (.ref l) (.ref l') (!PyData.eqvAll xs ys)
      rw [← eqvAll_eq xs ys, ← n1, ← n2]
      exact RcNeAt.tuples hl hl' (room_here hu) he
theorem depthAll_mem : ∀ {xs : List PyData} {d : PyData}, d ∈ xs → d.depth ≤ PyData.depthAll xs
  | x :: xs, d, h => by
    rw [PyData.depthAll]
    rcases List.mem_cons.mp h with e | e
    · subst e; exact Nat.le_max_left _ _
    · exact Nat.le_trans (depthAll_mem e) (Nat.le_max_right _ _)
theorem readsAll_mem_txt {h : Heap} : ∀ (xs : List PyData) (vs : List Value) (as : List Addr), txtAll xs = true → ReadsAll h vs xs as → ∀ y ∈ vs, ∃ d bs, Reads h y d bs ∧ txt d = true ∧ d.depth ≤ PyData.depthAll xs
  | [], _, _, _, r, y, hy => by cases r; cases hy
  | x :: xs, _, _, hc, r, y, hy => by
    have hc' : txt x = true ∧ txtAll xs = true := by simpa [txtAll] using hc
    cases r with
    | cons r1 r2 =>
      rcases List.mem_cons.mp hy with rfl | hy
      · exact ⟨x, _, r1, hc'.1, Nat.le_max_left _ _⟩
      · obtain ⟨d, bs, rd, hd, hle⟩ := readsAll_mem_txt xs _ _ hc'.2 r2 y hy
        exact ⟨d, bs, rd, hd, Nat.le_trans hle (Nat.le_max_right _ _)⟩
/-- what is looked through: things without dicts for one without; texts and tuples of such for any -/
def inMore (d : PyData) (ds : List PyData) : Bool := ((d.plain && PyData.plainAll ds) || txtAll ds) && decide (PyData.depthAll ds ≤ 60)
theorem inMore_plain {d : PyData} {ds : List PyData} (h : inMore d ds = true) : PyData.plainAll ds = true ∧ PyData.depthAll ds ≤ 60 := by
  unfold inMore at h
  simp only [Bool.and_eq_true, Bool.or_eq_true, decide_eq_true_eq] at h
  rcases h with ⟨h | h, h2⟩
  · exact ⟨h.2, h2⟩
  · exact ⟨txtAll_plain _ h, h2⟩
section
variable {prog : Program} {w : World} {A : Around} {E : Value → Shared → Prop} {s : Shared}
theorem items_more {vs : Array Value} {xs : List PyData} {as bs : List Addr} {x : Value} {d : PyData} (rs : ReadsAll s.heap vs.toList xs as) (rx : Reads s.heap x d bs) (h : inMore d xs = true)
    (hu : A.units + 64 < cLine) : ∀ y, y ∈ vs → EqAt A.in1 s y x (PyData.eqv (readOf s.heap y) d) := fun y hy => by
  have hp := inMore_plain h
  unfold inMore at h
  simp only [Bool.and_eq_true, Bool.or_eq_true, decide_eq_true_eq] at h
  rcases h with ⟨h | h, h2⟩
  · refine items_plain rs rx h.2 h.1 ?_ y hy
    have : min (PyData.depthAll xs) d.depth ≤ 60 := Nat.le_trans (Nat.min_le_left _ _) h2
    omega
  · obtain ⟨dy, cs, ry, hcy, hle⟩ := readsAll_mem_txt xs _ _ h rs y (by simpa using hy)
    rw [readOf_plain (txt_plain _ hcy) ry]
    refine eqAt_l dy d A.in1 s y x _ _ ry rx hcy ?_
    have h1 : min dy.depth d.depth ≤ 60 := Nat.le_trans (Nat.min_le_left _ _) (Nat.le_trans hle h2)
    show A.units + 1 + min dy.depth d.depth < cLine
    omega
theorem in_more {c x : Value} {xs : List PyData} {e d : PyData} {as bs : List Addr} {Q : Value → Shared → Prop} (hc : e = .list xs ∨ e = .tuple xs) (rc : Reads s.heap c e as) (rx : Reads s.heap x d bs) (h : inMore d xs = true)
    (hu : A.units + 64 < cLine) (hq : Q (.bool (xs.any fun y => PyData.eqv y d)) s) : wpAny (model prog w) A (compareOp .In x c) Q E s := by
  have hp := (inMore_plain h).1
  rcases hc with rfl | rfl
  · cases rc with
    | list h1 h2 h3 h4 => exact in_listAt _ ⟨_, h1, h2, _, h3⟩ (items_more h4 rx h hu) (by rw [any_plain h4 hp]; exact hq)
  · cases rc with
    | tuple h1 h2 h3 h4 => exact in_tupleAt _ ⟨_, h1, h2, _, h3⟩ (items_more h4 rx h hu) (by rw [any_plain h4 hp]; exact hq)
theorem notIn_more {c x : Value} {xs : List PyData} {e d : PyData} {as bs : List Addr} {Q : Value → Shared → Prop} (hc : e = .list xs ∨ e = .tuple xs) (rc : Reads s.heap c e as) (rx : Reads s.heap x d bs) (h : inMore d xs = true)
    (hu : A.units + 64 < cLine) (hq : Q (.bool (!xs.any fun y => PyData.eqv y d)) s) : wpAny (model prog w) A (compareOp .NotIn x c) Q E s := by
  have hp := (inMore_plain h).1
  rcases hc with rfl | rfl
  · cases rc with
    | list h1 h2 h3 h4 => exact notIn_listAt _ ⟨_, h1, h2, _, h3⟩ (items_more h4 rx h hu) (by rw [any_plain h4 hp]; exact hq)
  · cases rc with
    | tuple h1 h2 h3 h4 => exact notIn_tupleAt _ ⟨_, h1, h2, _, h3⟩ (items_more h4 rx h hu) (by rw [any_plain h4 hp]; exact hq)
/-- data without dicts on both sides, or texts and tuples of such on the right -/
def okP (d : PyData) : Bool := d.plain && decide (d.depth ≤ 60)
def nilL : PyData → PyData → Bool
  | .list _, .list [] => true
  | _, _ => false
theorem nilL_some {x y : PyData} (h : nilL x y = true) : ∃ xs, x = .list xs ∧ y = .list [] := by
  unfold nilL at h
  split at h
  · exact ⟨_, rfl, rfl⟩
  · cases h
def eqMore (x y : PyData) : Bool := ((okP x && okP y) || (txt y && decide (y.depth ≤ 60))) || nilL x y
theorem eq_more {a b : Value} {da db : PyData} {as bs : List Addr} {Q : Value → Shared → Prop} (ra : Reads s.heap a da as) (rb : Reads s.heap b db bs) (h : eqMore da db = true) (hu : A.units + 64 < cLine)
    (hq : Q (.bool (PyData.eqv da db)) s) : wpAny (model prog w) A (compareOp .Eq a b) Q E s := by
  unfold eqMore okP at h
  simp only [Bool.and_eq_true, Bool.or_eq_true, decide_eq_true_eq] at h
  rcases h with (⟨⟨h1, h2⟩, h3, h4⟩ | ⟨h1, h2⟩) | hn0
  · refine eq_plain ra rb h1 h3 ?_ hq
    have : min da.depth db.depth ≤ 60 := Nat.le_trans (Nat.min_le_left _ _) h2
    omega
  · refine rcAt_r ra rb h1 ?_ prog w E Q hq
    have : min da.depth db.depth ≤ 60 := Nat.le_trans (Nat.min_le_right _ _) h2
    omega
  · obtain ⟨xs, rfl, rfl⟩ := nilL_some hn0
    cases ra with
    | @list l o vs n _ as₁ h1 h2 h3 h4 =>
      cases rb with
      | @list l' o' vs' n' _ bs₁ k1 k2 k3 k4 =>
        have n1 : vs.size = xs.length := by simpa using ReadsAll.length _ _ _ h4
        have n2 : vs'.size = 0 := by simpa using ReadsAll.length _ _ _ k4
        by_cases hx : xs = []
        · subst hx
          exact eq_plain (.list h1 h2 h3 h4) (.list k1 k2 k3 k4) rfl rfl (by have : min (PyData.list []).depth (PyData.list []).depth ≤ 60 := by decide
                                                                             omega) hq
        · have hl : 0 < xs.length := List.length_pos_iff.mpr hx
          have he : PyData.eqv (.list xs) (.list []) = false := by
            show PyData.eqvAll xs [] = false
            exact eqvAll_other_length (by simp only [List.length_nil]; omega)
          rw [he] at hq
          exact RcAt.lists_lengths ⟨_, h1, h2, _, h3⟩ ⟨_, k1, k2, _, k3⟩ (by rw [n1, n2]; simp; omega) (by omega) prog w E Q hq
theorem ne_more {a b : Value} {da db : PyData} {as bs : List Addr} {Q : Value → Shared → Prop} (ra : Reads s.heap a da as) (rb : Reads s.heap b db bs) (h : eqMore da db = true) (hu : A.units + 64 < cLine)
    (hq : Q (.bool (!PyData.eqv da db)) s) : wpAny (model prog w) A (compareOp .NotEq a b) Q E s := by
  unfold eqMore okP at h
  simp only [Bool.and_eq_true, Bool.or_eq_true, decide_eq_true_eq] at h
  rcases h with (⟨⟨h1, h2⟩, h3, h4⟩ | ⟨h1, h2⟩) | hn0
  · refine ne_plain ra rb h1 h3 ?_ hq
    have : min da.depth db.depth ≤ 60 := Nat.le_trans (Nat.min_le_left _ _) h2
    omega
  · refine rcNeAt_r ra rb h1 ?_ prog w E Q hq
    have : min da.depth db.depth ≤ 60 := Nat.le_trans (Nat.min_le_right _ _) h2
    omega
  · obtain ⟨xs, rfl, rfl⟩ := nilL_some hn0
    cases ra with
    | @list l o vs n _ as₁ h1 h2 h3 h4 =>
      cases rb with
      | @list l' o' vs' n' _ bs₁ k1 k2 k3 k4 =>
        have n1 : vs.size = xs.length := by simpa using ReadsAll.length _ _ _ h4
        have n2 : vs'.size = 0 := by simpa using ReadsAll.length _ _ _ k4
        by_cases hx : xs = []
        · subst hx
          exact ne_plain (.list h1 h2 h3 h4) (.list k1 k2 k3 k4) rfl rfl (by have : min (PyData.list []).depth (PyData.list []).depth ≤ 60 := by decide
                                                                             omega) hq
        · have hl : 0 < xs.length := List.length_pos_iff.mpr hx
          have he : PyData.eqv (.list xs) (.list []) = false := by
            show PyData.eqvAll xs [] = false
            exact eqvAll_other_length (by simp only [List.length_nil]; omega)
          rw [he] at hq
          exact RcNeAt.lists_lengths ⟨_, h1, h2, _, h3⟩ ⟨_, k1, k2, _, k3⟩ (by rw [n1, n2]; simp; omega) (by omega) prog w E Q hq
end
end DL

/-! x.extend(t), t any tuple that stands in the heap. -/
namespace DL
open PySem PySem.Spec PySem.AutoSeq1
theorem list_extend_tuple (l : Addr) (items : Array Value) (n : Nat) (b : Addr) (items2 : Array Value) (n2 : Nat) (dd2 : Option Addr) (sl2 : Array (Option Value)) (hs0 : ¬(!items.isEmpty && Builtin.List.listTooLong (items.size + items2.size)) = true) (hs1 : items.size ≤ sizeLine) (hs2 : items.size + items2.size ≤ sizeLine + 1) :
    Meets (Builtin.«list.extend» ⟨[.ref l, .ref b], []⟩) (fun _ R s => s.heap.get? l = some { cls := .type "list", dict := none, data := .seq items n, slots := #[] } ∧ s.heap.get? b = some { cls := .type "tuple", dict := dd2, data := .seq items2 n2, slots := sl2 } ∧ R (.ok (.ret Value.none)) { s with heap := s.heap.update l (Obj.mapSeq fun x => x ++ items2), toks := s.toks }) :=
  .of_wp fun prog w A R s h => by
    obtain ⟨hp, g, d, tk, os⟩ := s; obtain ⟨hl, hb, h⟩ := h; have f1 := idx_int; have f2 := sub_tuple_tuple; have f3 := sub_list_list; have f4 := sub_tuple_list; have f5 := sub_list_tuple;
    have hz' : (items ++ items2).size ≤ sizeLine + 1 := by rw [Array.size_append]; exact hs2
    wp_walk using (wpAny_updateSeq hl rfl (hz := hs1) (_hz' := hz')), wpAny_loadPart' hl, wpAny_loadPart' hb; exact ⟨_, rfl, h⟩
end DL

/-! Calls of defs where it is also known that no repr is under way (the recursion guards are empty). -/
namespace DL
open PySem PySem.Spec PyProof.Rows L2

/-- room for calls, and no guard stands -/
structure RoomG (k : Nat) (A : Around) : Prop where
  r : Room k A
  g : A.guards = some []
theorem RoomG.mono {j k : Nat} {A : Around} (r : RoomG k A) (h : j ≤ k) : RoomG j A := ⟨r.r.mono h, r.g⟩

/-- what a def promises to whoever calls it where no guard stands -/
structure FnG (P : Program) (w : World) (K : PySem.W.Frag) (mg : Str → Option Value) (base : Heap) (CX : CXT)
    (k : Nat) (f : Addr) (fd : FuncData) (ps : List Str) (sp : Sp) : Prop where
  len : ∀ vs H Q E, sp vs H Q E → vs.length = ps.length
  run : ∀ (A : Around) (outer : List Env) (s : Shared) (H : Hp) (args : Args) (us : List Value) (vs : List V) (Q : VK) (E : XK),
    RoomG k A → Env0 P w K mg base A outer s H → BindsTo s fd args (ps.zip us) → Vals vs us → sp vs H Q E →
      codeAny (model P w) A (.call (.ref f) args) (CR CX outer P w H s Q E) s

section
variable {P : Program} {w : World} {K : PySem.W.Frag} {mg : Str → Option Value} {base : Heap} {CX : CXT} {k : Nat} {f : Addr} {fd : FuncData} {ps : List Str} {sp sp' : Sp}
theorem FnG.of (F : FnOk P w K mg base CX k f fd ps sp) : FnG P w K mg base CX k f fd ps sp :=
  ⟨F.len, fun A o s H args us vs Q E hr e b v h => F.run A o s H args us vs Q E hr.r e b v h⟩
theorem FnG.mono {j : Nat} (F : FnG P w K mg base CX j f fd ps sp) (h : j ≤ k) : FnG P w K mg base CX k f fd ps sp :=
  ⟨F.len, fun A o s H args us vs Q E hr => F.run A o s H args us vs Q E (hr.mono h)⟩
theorem FnG.imp (F : FnG P w K mg base CX k f fd ps sp) (h : ∀ vs H Q E, sp' vs H Q E → sp vs H Q E) :
    FnG P w K mg base CX k f fd ps sp' :=
  ⟨fun vs H Q E q => F.len vs H Q E (h _ _ _ _ q), fun A o s H args us vs Q E hr he hb hv hs =>
    F.run A o s H args us vs Q E hr he hb hv (h _ _ _ _ hs)⟩

/-- a def of the text by its body, run where no guard stands -/
theorem fn_ofG {name qual : Str} {params : Arguments} {body : List Stmt} {scope : Scope} {dV kV doc pm cdv ct oc : Value} {an od : Option Addr}
    {osl : Array (Option Value)} {N : List Str}
    (lk : K.lookup f = some ⟨oc, od, .func (PySem.W.fnOf name qual params body scope dV kV doc pm an cdv ct), osl⟩)
    (hcd : PySem.W.codeIn K cdv qual = true) (S : FnScope N ps scope) (len : ∀ vs H Q E, sp vs H Q E → vs.length = ps.length)
    (hbody : ∀ (A : Around) (outer : List Env) (s : Shared) (H : Hp) (vs : List V) (Q : VK) (E : XK),
      RoomG k (A.deeper (envOfC qual scope s.heap.objs.size f cdv)) → sp vs H Q E →
      ∃ t, PSs (cxOf CX P w K mg base N qual scope f cdv A outer s H E) body t ∧
        t { nx := fun _ H' => Q .non H', rt := Q } (start N vs) H) :
    FnG P w K mg base CX (k + 1) f (PySem.W.fnOf name qual params body scope dV kV doc pm an cdv ct) ps sp := by
  constructor
  · exact len
  intro A outer s H args us vs Q E hr e0 hb r hsp
  have lenVs := len _ _ _ _ hsp
  have inK : K.In s.heap := by
    apply e0.mod.kin.keeps
    intro b o e
    exact (e0.bs b o e).1
  have lim : s.heap.NoLimit := by
    apply e0.mod.nolimit.keeps
    intro b o e
    exact (e0.bs b o e).1
  have kinds : ∀ y ∈ ps.zip us, scope.names.lookup y.1 = some .local ∨
      (scope.names.lookup y.1 = some .cell ∧ ((cellsFrom (s.heap.objs.size + 1) scope.names []).lookup y.1).isSome = true) := by
    rintro ⟨n, v⟩ hy
    have q := S.par n (List.of_mem_zip hy).1
    cases q with
    | inl q => exact Or.inl q
    | inr q => exact Or.inr ⟨q, PySem.W.cellsFrom_some _ _ _ (Or.inl q)⟩
  refine codeAny_call_function hr.r.depth (inK _ _ lk) rfl S.co S.gen rfl (PySem.W.codeRec_of inK hcd) (hb _ _ _ _ ?_)
  refine wpAny_newFunctionEnv_cells S.kind kinds ?_
  intro env he s1 x
  subst he
  refine ⟨lim.keeps x.toInCall.keep, codeAny_func ?_⟩
  have g' : (A.deeper (envOfC qual scope s.heap.objs.size f cdv)).guards = some [] := hr.g
  obtain ⟨t, ht, hq⟩ := hbody A outer s H vs Q E ⟨hr.r.deeper _, g'⟩ hsp
  have I := inv_start (CX := CX) (E := E) S hr.r.hd e0 lenVs r x
  have fin : ∀ {σ' : L2.St} {H' : Hp} {v : V} {u : Value} {s' : Shared},
      Inv (cxOf CX P w K mg base N qual scope f cdv A outer s H E) [] σ' H' s' → RelV v u → Q v H' → CE outer P w H s Q u s' := by
    intro σ' H' v u s' J rv q
    exact ⟨v, H', J.os, J.bare, J.base, J.hok, rv, q⟩
  refine wpAny_mono (ht.run [] s1 (start N vs) H _ I hq) ?_ ?_
  · intro fl s' hs
    cases fl with
    | ret u =>
      obtain ⟨v, σ', H', J, rv, q⟩ := hs
      exact fin J rv q
    | next =>
      obtain ⟨σ', H', J, q⟩ := hs
      exact fin (v := V.non) (u := Value.none) J rfl q
    | brk =>
      obtain ⟨_, _, _, q⟩ := hs
      exact q.elim
    | cont =>
      obtain ⟨_, _, _, q⟩ := hs
      exact q.elim
  · intro e s' hs
    exact hs
end

section
variable {X : Cx} {CX : CXT} {k : Nat} {f : Addr} {fd : FuncData} {ps : List Str} {sp : Sp} {dvs : List V} {ds : List Value} {E : XK} {x : Str} {p pos : Pos} {e : Expr} {es : List Expr} {t : TA}
theorem run_g {pins : List (Addr × Obj)} {σ : L2.St} {H : Hp} {s : Shared} {Q : VK} {us : List Value} {vs : List V}
    (F : FnG X.prog X.w X.K X.mg X.base CX k f fd ps sp) (hr : RoomG k X.A) (hb : Binds X.K fd ps ds) (hd : Vals dvs ds)
    (hx : Passes CX X E) (I : Inv X pins σ H s) (r : Vals vs us) (h : sp (vs ++ dvs) H Q E) :
    wpAny (model X.prog X.w) X.A (call (.ref f) us) (EP X pins σ Q) X.xe s := by
  have rr := r.append hd
  have ll : (us ++ ds).length = ps.length := by
    rw [← rr.length]
    exact F.len _ _ _ _ h
  apply wpAny_call
  refine codeAny_mono (F.run X.A X.stack s H ⟨us, []⟩ (us ++ ds) (vs ++ dvs) Q E hr I.env0 (hb s us I.kIn ll) rr h) ?_
  intro r s' hq
  rcases r with e | fl
  · exact hx pins σ H s e s' I hq
  · cases fl with
    | ret u => exact I.after hq
    | next => exact hq.elim
    | brk => exact hq.elim
    | cont => exact hq.elim
/-- f(e, ..) by a promise that holds where no guard stands -/
theorem pe_g (F : FnG X.prog X.w X.K X.mg X.base CX k f fd ps sp) (hr : RoomG k X.A) (hg : Gl X x) (hm : X.mg x = some (.ref f))
    (hk : PySem.W.keepIn X.K (.ref f) = true) (hb : Binds X.K fd ps ds) (hd : Vals dvs ds) (hx : Passes CX X E)
    (ha : PA X (e :: es) t) (hdb : (x == ("__debug__" : Str)) = false := by decide)
    (he : starEach (e :: es) X.env = (false, eval e X.env) :: starEach es X.env := by rfl)
    (hpl : (backTo pos (starEach es X.env)).any (·.1) = false := by rfl) :
    PE X (.Call (.Name x p) (e :: es) [] pos) (tCall sp dvs E t) := by
  constructor
  intro pins s σ H Q I h
  apply wpAny_Call_Name_kw
  refine ld_glob I hg hm ?_ hdb
  refine PySem.W.callWith_K (h₀ := X.base) I.ok.mod.kin hk (thn (ha.run pos pins s σ H _ I h) ?_) he hpl
  rintro us s1 ⟨vs, H1, I1, r, q⟩
  exact ⟨I1.kIn, run_g F hr hb hd hx I1 r q⟩
end
end DL

/-! The end of a law whose promise holds where no guard stands. -/
namespace DL
open PySem PySem.Spec PyProof.Rows L2

theorem caller_g : callerA.guards = some [] := rfl

/-- the heap in which the script alone is told -/
def onlyAt (a : Addr) (ob : Obj) (xs : List V) : Hp := fun b => if b = a then some (.frz ob (.lst xs)) else none
theorem onlyAt_only (a : Addr) (ob : Obj) (xs : List V) : Only (onlyAt a ob xs) := by
  intro b
  unfold onlyAt
  by_cases hb : b = a
  · right; exact ⟨ob, xs, if_pos hb⟩
  · left; exact if_neg hb

theorem law_g {P : Program} {w : World} {K : PySem.W.Frag} {mg mb : Str → Option Value} {CX : CXT} {k : Nat} {fa a : Addr} {fd : FuncData} {x : Str} {sp : Sp} {s1 : Shared} {vs : List Value} {ns : List Int}
    (KX : K.In s1.heap) (hns : s1.heap.Ns mainGlobals mg) (hb : s1.heap.Ns builtinsNs mb)
    (hbb : ∀ x : Str, x ≠ "__name__" → mb x = bootBuiltins x) (hlim : s1.heap.NoLimit) (hg : s1.gens = #[])
    (ha : s1.heap.get? a = some { cls := .type "list", data := .seq vs.toArray }) (hi : IntsAre vs ns) (hl : ns.length ≤ sizeLine)
    (hr : Room k callerA)
    (F : ∀ base : Heap, K.In base → base.Ns mainGlobals mg → FnG P w K mg base CX k fa fd [x] sp)
    (hbind : ∀ (s : Shared) (u : Value), BindsTo s fd ⟨[u], []⟩ [(x, u)])
    (hsp : ∀ H : Hp, Only H → SqL K H a (ns.map V.int) → sp [.ref a] H (fun v _ => v = .bl true) fun _ _ _ => False)
    (hCX : ∀ H e s', CX [] H s1 (fun _ _ _ => False) e s' → False) :
    codeAny (model P w) callerA (.call (.ref fa) ⟨[.ref a], []⟩)
      (fun r s' => r = .ok (.ret (.bool true)) ∧ OldK s1.heap s'.heap ∧ s'.os = s1.os ∧ AllBare s'.gens) s1 := by
  have rv := vals_ints hi
  have core : ∀ H : Hp, Only H → SqL K H a (ns.map V.int) → HOk P w H s1.heap → (∀ b, H b ≠ none → b = a) → (H a ≠ none → K.lookup a = none) →
      codeAny (model P w) callerA (.call (.ref fa) ⟨[.ref a], []⟩)
        (fun r s' => r = .ok (.ret (.bool true)) ∧ OldK s1.heap s'.heap ∧ s'.os = s1.os ∧ AllBare s'.gens) s1 := by
    intro H hO hS hok hA hK
    have untr : ∀ {b : Addr} {o : Obj}, b ≠ a → s1.heap.get? b = some o → (hidT s1.heap H).get? b = some o := by
      intro b o hne e
      apply hidT_get e
      cases q : H b with
      | none => rfl
      | some u => exact absurd (hA b (by rw [q]; exact Option.some_ne_none _)) hne
    have dictNe : ∀ {b : Addr} {o : Obj} {es : Array DictEntry} {ep : Nat}, s1.heap.get? b = some o → o.data = .dict es ep → b ≠ a := by
      intro b o es ep e d z
      rw [z, ha] at e
      cases e
      exact absurd (show Data.seq vs.toArray _ = Data.dict es ep from d) (by intro z; cases z)
    have nsK : ∀ {b : Addr} {m : Str → Option Value}, s1.heap.Ns b m → (hidT s1.heap H).Ns b m := by
      rintro b m ⟨o, es, ep, e, d, r⟩
      exact ⟨o, es, ep, untr (dictNe e d) e, d, r⟩
    have hKb : K.In (hidT s1.heap H) := by
      intro b o e
      apply hidT_get (KX b o e)
      cases q : H b with
      | none => rfl
      | some u =>
        have hn : H b ≠ none := by rw [q]; exact Option.some_ne_none _
        have z := hA b hn
        rw [z] at hn e
        rw [hK hn] at e
        cases e
    have lim' : (hidT s1.heap H).NoLimit := by
      obtain ⟨mc, h1, h2⟩ := hlim
      exact ⟨mc, nsK h1, h2⟩
    have hM : Mod K mg (hidT s1.heap H) := ⟨hKb, nsK hns, ⟨mb, nsK hb, hbb⟩, lim'⟩
    have noFr : ∀ b : Addr, b ∉ frs ([] : List Env) := by intro b z; cases z
    have e0 : Env0 P w K mg (hidT s1.heap H) callerA [] s1 H :=
      ⟨rfl, hM, fun b o e => of_hidT e, Nat.le_of_eq (hidT_size _ _), trivial, fun b z => absurd z (noFr b), hok, .of_eq hg⟩
    have R := (F _ hKb (nsK hns)).run callerA [] s1 H ⟨[.ref a], []⟩ [.ref a] [.ref a] (fun v _ => v = .bl true) (fun _ _ _ => False)
      ⟨hr, caller_g⟩ e0 (hbind s1 (.ref a)) (.cons rfl .nil) (hsp H hO hS)
    refine codeAny_mono R ?_
    intro r s' h
    rcases r with e | fl
    · exact (hCX H e s' h).elim
    cases fl with
    | next => exact h.elim
    | brk => exact h.elim
    | cont => exact h.elim
    | ret u =>
      obtain ⟨v, H', os, bare, un, hok', r', q⟩ := h
      cases (show v = V.bl true from q)
      cases (show u = Value.bool true from r')
      refine ⟨rfl, OldK.of_keep ?_, os, bare⟩
      intro b o e
      cases q : H b with
      | none => exact un.keep b o e q (noFr b) (fun z => by cases z)
      | some u =>
        rcases hO b with z | ⟨ob, xs, z⟩
        · rw [q] at z; cases z
        · have e1 := (hok b _ z).1
          have e2 := (hok' b _ (un.frzs b ob _ z)).1
          rw [e] at e1
          cases e1
          exact e2
  have lenV := hi.length
  cases hk : K.lookup a with
  | some o =>
    have e := KX a o hk
    rw [ha] at e
    cases e
    have sq : SqL K (fun _ => none) a (ns.map V.int) := by
      refine .inr ⟨_, vs.toArray, _, hk, rfl, rfl, rfl, ?_, by simpa using rv⟩
      rw [List.size_toArray, lenV]
      exact hl
    refine core (fun _ => none) (fun _ => .inl rfl) sq ?_ (fun b z => absurd rfl z) (fun z => absurd rfl z)
    intro b u z
    exact absurd (show (none : Option HO) = some u from z) (by intro z; cases z)
  | none =>
    refine core (onlyAt a { cls := .type "list", data := .seq vs.toArray } (ns.map V.int)) (onlyAt_only _ _ _)
      (.inl (.inr ⟨{ cls := .type "list", data := .seq vs.toArray }, if_pos rfl⟩)) ?_ ?_ (fun _ => hk)
    · intro b u z
      by_cases hb : b = a
      · have z2 := (if_pos hb).symm.trans z
        cases z2
        rw [hb]
        refine ⟨ha, ?_, vs, _, rv, ha⟩
        rw [List.length_map]
        exact hl
      · have z2 := (if_neg hb).symm.trans z
        cases z2
    · intro b z
      by_cases hb : b = a
      · exact hb
      · exact absurd (if_neg hb) z

/-- the goal that k_head leaves -/
theorem walk_g {l : PySem.W.OpenLaw} {n k : Nat} {q : Program} {loose : List Str} {XP : (Str → Option Value) → Heap → Prop} {YP : World → Heap → Prop} {d : DefRec} {K : Params → PySem.W.Frag} {CX : World → CXT} {sp : World → Sp} {x : Str}
    (hn : l.most = some n) (hn2 : n ≤ sizeLine) (hdf : d.params.defaults = []) (hr : Room k callerA)
    (hY : ∀ (w : World) (h : Heap), YP w h → (K w.params).In h)
    (F : ∀ (w : World) (mg : Str → Option Value) (fa : Addr) (h : Heap), (K w.params).In h → h.Ns mainGlobals mg → mg d.name = some (.ref fa) →
      ∃ fd : FuncData, (∀ (s : Shared) (u : Value), BindsTo s fd ⟨[u], []⟩ [(x, u)]) ∧
        ∀ base : Heap, (K w.params).In base → base.Ns mainGlobals mg → FnG l.prog w (K w.params) mg base (CX w) k fa fd [x] (sp w))
    (hsp : ∀ (w : World) (H : Hp) (a : Addr) (ns : List Int), ns.length ≤ n → Only H → SqL (K w.params) H a (ns.map V.int) →
      sp w [.ref a] H (fun v _ => v = .bl true) fun _ _ _ => False)
    (hCX : ∀ (w : World) (H : Hp) (s : Shared) (e : Value) (s' : Shared), CX w [] H s (fun _ _ _ => False) e s' → False) :
    PySem.W.WalkO q loose XP YP l.row.toRowW d [] (fun f vs => PySem.call f vs) := by
  refine Att.attach_call hn hdf ?_
  intro w s0 s1 mg mb fa o pm cd doc a vs ns G Y ho hd hcd hmg hobj hints hlen hg
  obtain ⟨fd, hb, hF⟩ := F w mg fa _ (hY w _ Y) G.T.g hmg
  refine law_g (hY w _ Y) G.T.g G.T.b G.T.builtins G.T.nolimit hg hobj hints (Nat.le_trans hlen hn2) hr hF hb ?_ ?_
  · intro H hO hS
    exact hsp w H a ns hlen hO hS
  · intro H e s'
    exact hCX w H s1 e s'
end DL

/-! Data that stands in the heap, dicts within lists too: how it is read, and its repr. -/
namespace DL
open PySem PySem.Spec PyProof.Rows L2

mutual
/-- at v stands the data d (a dict is not the table of modules) -/
inductive RD (h : Heap) : Value → PyData → Prop
  | none : RD h .none .none
  | bool (b) : RD h (.bool b) (.bool b)
  | int (i t) : RD h (.int i t) (.int i)
  | str (x t) : RD h (.str x t) (.str x)
  | list {a o vs n xs} : h.get? a = some o → o.cls = .type "list" → o.data = .seq vs n → RDs h vs.toList xs → RD h (.ref a) (.list xs)
  | tuple {a o vs n xs} : h.get? a = some o → o.cls = .type "tuple" → o.data = .seq vs n → RDs h vs.toList xs → RD h (.ref a) (.tuple xs)
  | dict {a o es n kvs} : h.get? a = some o → o.cls = .type "dict" → o.data = .dict es n → (a == sysModules) = false →
      RDs h (es.toList.map (·.key)) (kvs.map (·.1)) → RDs h (es.toList.map (·.val)) (kvs.map (·.2)) → RD h (.ref a) (.dict kvs)
inductive RDs (h : Heap) : List Value → List PyData → Prop
  | nil : RDs h [] []
  | cons {v vs d ds} : RD h v d → RDs h vs ds → RDs h (v :: vs) (d :: ds)
end

mutual
theorem RD.reads {h : Heap} : ∀ {v : Value} {d : PyData}, RD h v d → ∃ as, Reads h v d as
  | _, _, .none => ⟨_, .none⟩
  | _, _, .bool b => ⟨_, .bool b⟩
  | _, _, .int i t => ⟨_, .int i t⟩
  | _, _, .str x t => ⟨_, .str x t⟩
  | _, _, .list h1 h2 h3 h4 => let ⟨as, r⟩ := RDs.reads h4; ⟨_, .list h1 h2 h3 r⟩
  | _, _, .tuple h1 h2 h3 h4 => let ⟨as, r⟩ := RDs.reads h4; ⟨_, .tuple h1 h2 h3 r⟩
  | _, _, .dict h1 h2 h3 _ h4 h5 => let ⟨as, r⟩ := RDs.reads h4; let ⟨bs, q⟩ := RDs.reads h5; ⟨_, .dict h1 h2 h3 r q⟩
theorem RDs.reads {h : Heap} : ∀ {vs : List Value} {ds : List PyData}, RDs h vs ds → ∃ as, ReadsAll h vs ds as
  | _, _, .nil => ⟨_, .nil⟩
  | _, _, .cons h1 h2 => let ⟨as, r⟩ := RD.reads h1; let ⟨bs, q⟩ := RDs.reads h2; ⟨_, .cons r q⟩
end

section
variable {prog : Program} {w : World} {h : Heap}
theorem deeper_not {a : Addr} {d : PyData} {n : Nat} {bs : List Addr} (r : RD h (.ref a) d) (hd : n < d.depth) (hb : ReadAtMost h n bs) : a ∉ bs := by
  obtain ⟨as, r'⟩ := r.reads
  exact not_mem_of_deeper r' hd hb
theorem atMost_cons {a : Addr} {d : PyData} {n : Nat} {bs : List Addr} (r : RD h (.ref a) d) (hn : n ≤ d.depth) (hb : ReadAtMost h n bs) : ReadAtMost h d.depth (a :: bs) := by
  obtain ⟨as, r'⟩ := r.reads
  exact ReadAtMost.cons r' hn hb
mutual
theorem RD.reprK : ∀ {v : Value} {d : PyData}, RD h v d → d.showable = true → d.shown.length ≤ sizeLine →
    ∃ bs, ReadAtMost h d.depth bs ∧ ReprK prog w bs h d.depth v d.shown
  | _, _, .none, _, _ => by
    refine ⟨[], (fun _ z => nomatch z), ?_⟩
    rw [PyData.shown]
    exact .of_is ReprIs.none _ _ _
  | _, _, .bool b, _, _ => by
    refine ⟨[], (fun _ z => nomatch z), ?_⟩
    rw [PyData.shown]
    exact .of_is (ReprIs.bool b) _ _ _
  | _, _, .int i t, hs, _ => by
    refine ⟨[], (fun _ z => nomatch z), ?_⟩
    rw [PyData.shown]
    exact .of_is (ReprIs.int t (by simpa [PyData.showable] using hs)) _ _ _
  | _, _, .str x t, _, hz => by
    rw [PyData.shown] at hz
    refine ⟨[], (fun _ z => nomatch z), ?_⟩
    rw [PyData.shown]
    exact .of_is (ReprIs.str x t hz) _ _ _
  | _, _, .list (a := a) (vs := vs) (xs := xs) h1 h2 h3 h4, hs, hz => by
    rw [PyData.shown] at hz
    rw [PyData.showable] at hs
    have R : RD h (.ref a) (.list xs) := .list h1 h2 h3 h4
    obtain ⟨bs, hb, hk⟩ := RDs.reprK h4 hs (fun t ht => Nat.le_trans (listText_mem_le ht) hz)
    have lt : PyData.depthAll xs < (PyData.list xs).depth := by rw [PyData.depth]; omega
    refine ⟨a :: bs, atMost_cons R (Nat.le_of_lt lt) hb, ?_⟩
    have hna := deeper_not R lt hb
    rw [PyData.depth, PyData.shown]
    rcases vs with ⟨l⟩
    cases l with
    | nil =>
      cases (show RDs h [] xs from h4)
      rw [PyData.shownAll, listText_nil]
      exact ReprK.listEmpty h1 h2 h3
    | cons x l => exact ReprK.list h1 h2 h3 hna (by simpa using hk.length_eq) (fun i y e => hk.item i y (by simpa using e))
  | _, _, .tuple (a := a) (vs := vs) (xs := xs) h1 h2 h3 h4, hs, hz => by
    rw [PyData.shown] at hz
    rw [PyData.showable] at hs
    have R : RD h (.ref a) (.tuple xs) := .tuple h1 h2 h3 h4
    obtain ⟨bs, hb, hk⟩ := RDs.reprK h4 hs (fun t ht => Nat.le_trans (tupleText_mem_le ht) hz)
    have lt : PyData.depthAll xs < (PyData.tuple xs).depth := by rw [PyData.depth]; omega
    refine ⟨a :: bs, atMost_cons R (Nat.le_of_lt lt) hb, ?_⟩
    rw [PyData.depth, PyData.shown]
    exact ReprK.tuple h1 h2 h3 (deeper_not R lt hb) hk
  | _, _, .dict (a := a) (es := es) (kvs := kvs) h1 h2 h3 hy h4 h5, hs, hz => by
    rw [PyData.shown] at hz
    rw [PyData.showable] at hs
    have R : RD h (.ref a) (.dict kvs) := .dict h1 h2 h3 hy h4 h5
    obtain ⟨hs1, hs2⟩ := PyData.showableKv_split kvs hs
    obtain ⟨b1, hb1, k1⟩ := RDs.reprK h4 hs1 (fun t ht => by
      obtain ⟨p, hp, hl⟩ := PyData.shownKv_key_le kvs t ht
      exact Nat.le_trans hl (Nat.le_trans (dictText_mem_le hp) hz))
    obtain ⟨b2, hb2, k2⟩ := RDs.reprK h5 hs2 (fun t ht => by
      obtain ⟨p, hp, hl⟩ := PyData.shownKv_val_le kvs t ht
      exact Nat.le_trans hl (Nat.le_trans (dictText_mem_le hp) hz))
    have lt : PyData.depthKv kvs < (PyData.dict kvs).depth := by rw [PyData.depth]; omega
    have hb : ReadAtMost h (PyData.depthKv kvs) (b1 ++ b2) :=
      (hb1.mono (PyData.depthAll_keys_le kvs)).append (hb2.mono (PyData.depthAll_vals_le kvs))
    refine ⟨a :: (b1 ++ b2), atMost_cons R (Nat.le_of_lt lt) hb, ?_⟩
    rw [PyData.depth, PyData.shown, PyData.shownKv_eq]
    exact ReprK.dict h1 h2 h3 hy (deeper_not R lt hb) (ReprEntriesK.of_two es.toList _ _
      (k1.more_le (fun b z => List.mem_append_left _ z) (PyData.depthAll_keys_le kvs))
      (k2.more_le (fun b z => List.mem_append_right _ z) (PyData.depthAll_vals_le kvs)))
theorem RDs.reprK : ∀ {vs : List Value} {ds : List PyData}, RDs h vs ds → PyData.showableAll ds = true → (∀ t ∈ PyData.shownAll ds, t.length ≤ sizeLine) →
    ∃ bs, ReadAtMost h (PyData.depthAll ds) bs ∧ ReprAllK prog w bs h (PyData.depthAll ds) vs (PyData.shownAll ds)
  | _, _, .nil, _, _ => ⟨[], (fun _ z => nomatch z), by rw [PyData.shownAll]; exact .nil⟩
  | _, _, .cons (d := d) (ds := ds) r rs, hs, hz => by
    rw [PyData.showableAll, Bool.and_eq_true] at hs
    rw [PyData.shownAll] at hz
    obtain ⟨b1, hb1, k1⟩ := RD.reprK r hs.1 (hz _ (List.mem_cons_self ..))
    obtain ⟨b2, hb2, k2⟩ := RDs.reprK rs hs.2 (fun t ht => hz t (List.mem_cons_of_mem _ ht))
    refine ⟨b1 ++ b2, ?_, ?_⟩
    · rw [PyData.depthAll]
      exact (hb1.mono (Nat.le_max_left _ _)).append (hb2.mono (Nat.le_max_right _ _))
    · rw [PyData.depthAll, PyData.shownAll]
      exact .cons ((k1.more fun b z => List.mem_append_left _ z).level_le (Nat.le_max_left _ _))
        (k2.more_le (fun b z => List.mem_append_right _ z) (Nat.le_max_right _ _))
end

/-- repr of data, where no repr is under way -/
theorem call_repr_rd {A : Around} {E : Value → Shared → Prop} {s : Shared} {Q : Value → Shared → Prop} {v : Value} {d : PyData}
    (R : RD s.heap v d) (hs : d.showable = true) (hg : A.guards = some []) (hu : A.units + (d.depth + 1) < cLine) (hz : d.shown.length ≤ sizeLine)
    (hQ : ∀ h' u tk, (∀ b o, s.heap.get? b = some o → h'.get? b = some o) → Q (.str d.shown u) { s with heap := h', toks := tk }) :
    wpAny (model prog w) A (call (.builtin "repr") [v]) Q E s := by
  have same : ∀ b o, s.heap.get? b = some o → s.heap.get? b = some o := fun _ _ e => e
  have guard1 : A.in1.guards = some [] := hg
  have units1 : A.in1.units + d.depth < cLine := by
    show A.units + 1 + d.depth < cLine
    omega
  cases R with
  | none =>
    rw [PyData.shown] at hQ
    exact P.repr_of_none (hQ s.heap _ _ same)
  | bool b =>
    rw [PyData.shown] at hQ
    exact P.repr_of_bool (hQ s.heap _ _ same)
  | int i t =>
    rw [PyData.shown] at hQ
    exact P.repr_of_int (by simpa [PyData.showable] using hs) (hQ s.heap _ _ same)
  | str x t =>
    rw [PyData.shown] at hQ hz
    exact P.repr_of_str (hQ s.heap _ _ same) hz
  | list h1 h2 h3 h4 =>
    rename_i a o vs n xs
    have R : RD s.heap (.ref a) (.list xs) := .list h1 h2 h3 h4
    rw [PyData.shown] at hQ hz
    rw [PyData.showable] at hs
    rw [PyData.depth] at units1
    obtain ⟨bs, hb, hk⟩ := RDs.reprK (prog := prog) (w := w) h4 hs (fun t ht => Nat.le_trans (listText_mem_le ht) hz)
    have hna := deeper_not R (by rw [PyData.depth]; omega) hb
    refine call_repr_slot (by omega) ⟨o, h1, h2⟩ F.slot_list_repr.toG ?_
    rcases vs with ⟨l⟩
    cases l with
    | nil =>
      cases (show RDs s.heap [] xs from h4)
      rw [PyData.shownAll, listText_nil] at hQ
      exact call_list_repr_empty ⟨o, h1, h2⟩ h1 h3 ⟨_, _, rfl, hQ s.heap _ _ same⟩
    | cons x l =>
      exact call_list_reprK h1 h2 h3 hna (by simpa using hk.length_eq) (fun i y e => hk.item i y (by simpa using e)) guard1
        (fun b _ => Clear.nil b) units1 same (fun h' u tk hk => ⟨_, _, rfl, hQ h' u tk hk⟩) hz
  | tuple h1 h2 h3 h4 =>
    rename_i a o vs n xs
    have R : RD s.heap (.ref a) (.tuple xs) := .tuple h1 h2 h3 h4
    rw [PyData.shown] at hQ hz
    rw [PyData.showable] at hs
    rw [PyData.depth] at units1
    obtain ⟨bs, hb, hk⟩ := RDs.reprK (prog := prog) (w := w) h4 hs (fun t ht => Nat.le_trans (tupleText_mem_le ht) hz)
    have hna := deeper_not R (by rw [PyData.depth]; omega) hb
    refine call_repr_slot (by omega) ⟨o, h1, h2⟩ F.slot_tuple_repr ?_
    exact call_tuple_reprK h1 h2 h3 hna hk guard1 (fun b _ => Clear.nil b) units1 same (fun h' u tk hk => ⟨_, _, rfl, hQ h' u tk hk⟩) hz
  | dict h1 h2 h3 hy h4 h5 =>
    rename_i a o es n kvs
    have R : RD s.heap (.ref a) (.dict kvs) := .dict h1 h2 h3 hy h4 h5
    rw [PyData.shown] at hQ hz
    rw [PyData.showable] at hs
    rw [PyData.depth] at units1
    obtain ⟨hs1, hs2⟩ := PyData.showableKv_split kvs hs
    obtain ⟨b1, hb1, k1⟩ := RDs.reprK (prog := prog) (w := w) h4 hs1 (fun t ht => by
      obtain ⟨p, hp, hl⟩ := PyData.shownKv_key_le kvs t ht
      exact Nat.le_trans hl (Nat.le_trans (dictText_mem_le hp) hz))
    obtain ⟨b2, hb2, k2⟩ := RDs.reprK (prog := prog) (w := w) h5 hs2 (fun t ht => by
      obtain ⟨p, hp, hl⟩ := PyData.shownKv_val_le kvs t ht
      exact Nat.le_trans hl (Nat.le_trans (dictText_mem_le hp) hz))
    have hb : ReadAtMost s.heap (PyData.depthKv kvs) (b1 ++ b2) :=
      (hb1.mono (PyData.depthAll_keys_le kvs)).append (hb2.mono (PyData.depthAll_vals_le kvs))
    have hna := deeper_not R (by rw [PyData.depth]; omega) hb
    rw [PyData.shownKv_eq] at hQ hz
    refine call_repr_slot (by omega) ⟨o, h1, h2⟩ F.slot_dict_repr ?_
    exact call_dict_reprK h1 h2 h3 hy hna (ReprEntriesK.of_two es.toList _ _
        (k1.more_le (fun b z => List.mem_append_left _ z) (PyData.depthAll_keys_le kvs))
        (k2.more_le (fun b z => List.mem_append_right _ z) (PyData.depthAll_vals_le kvs)))
      guard1 (fun b _ => Clear.nil b) units1 same (fun h' u tk hk => ⟨_, _, rfl, hQ h' u tk hk⟩) hz
end
end DL

/-! Dicts of one's own whose keys are tuples in one another. -/
namespace DL
open PySem PySem.Spec PyProof.Rows L2
open Evl (Ex ex_l ex_t)
/-- the world that all speaks of -/
class TheW where
  w : World
/-! data as keys -/
mutual
def nk : PyData → Option NestedKey
  | .none => some .none
  | .int i => some (.num i)
  | .str x => some (.text x)
  | .tuple xs => (nks xs).map .tup
  | _ => none
def nks : List PyData → Option (List NestedKey)
  | [] => some []
  | x :: xs => match nk x, nks xs with
    | some k, some ks => some (k :: ks)
    | _, _ => none
end
mutual
theorem nk_data : ∀ (d : PyData) (k : NestedKey), nk d = some k → k.data = d
  | .none, k, h => by cases h; rfl
  | .int i, k, h => by cases h; rfl
  | .str x, k, h => by cases h; rfl
  | .tuple xs, k, h => by
    have h : (nks xs).map .tup = some k := h
    obtain ⟨ks, h1, rfl⟩ := Option.map_eq_some_iff.mp h
    rw [NestedKey.data, nks_data xs ks h1]
  | .bool _, k, h => by cases h
  | .list _, k, h => by cases h
  | .dict _, k, h => by cases h
theorem nks_data : ∀ (ds : List PyData) (ks : List NestedKey), nks ds = some ks → NestedKey.datas ks = ds
  | [], ks, h => by cases h; rfl
  | x :: xs, ks, h => by
    rw [nks] at h
    split at h
    · rename_i k ks' h1 h2
      cases h
      rw [NestedKey.datas, nk_data x k h1, nks_data xs ks' h2]
    · cases h
end
theorem nk_inj {d e : PyData} {k : NestedKey} (h : nk d = some k) (h2 : nk e = some k) : d = e := (nk_data d k h).symm.trans (nk_data e k h2)
mutual
theorem RD.nested {h : Heap} : ∀ {v : Value} {d : PyData} {k : NestedKey}, RD h v d → nk d = some k → NestedIs h k v
  | _, _, _, .none, e => by cases e; exact .none
  | _, _, _, .bool b, e => by cases e
  | _, _, _, .int i t, e => by cases e; exact .int i t
  | _, _, _, .str x t, e => by cases e; exact .text x t
  | _, _, _, .list h1 h2 h3 h4, e => by cases e
  | _, _, k, .tuple (xs := xs) h1 h2 h3 h4, e => by
    have e : (nks xs).map .tup = some k := e
    obtain ⟨ks, e1, rfl⟩ := Option.map_eq_some_iff.mp e
    exact .tup h1 h2 h3 (RDs.nested h4 e1)
  | _, _, _, .dict h1 h2 h3 h4 h5 h6, e => by cases e
theorem RDs.nested {h : Heap} : ∀ {vs : List Value} {ds : List PyData} {ks : List NestedKey}, RDs h vs ds → nks ds = some ks → NestedAll h ks vs
  | _, _, ks, .nil, e => by cases e; exact .nil
  | _, _, ks, .cons (d := x) (ds := xs) r q, e => by
    rw [nks] at e
    split at e
    · rename_i k ks' h1 h2
      cases e
      exact .cons (RD.nested r h1) (RDs.nested q h2)
    · cases e
end
/-! the dict in the heap, by its entries -/
abbrev NRow := NestedKey × Addr × Value
def rowE (w : World) (x : NRow) : DictEntry := ⟨x.1.hash w, .ref x.2.1, x.2.2⟩
def NAt (w : World) (a : Addr) (xs : List NRow) (h : Heap) : Prop := (a == sysModules) = false ∧ (∃ es ep, h.DictRaw a es ep ∧ es.toList = xs.map (rowE w)) ∧ (xs.map (·.1)).Nodup ∧ xs.length ≤ sizeLine
def HN (w : World) (a : Addr) (xs : List NRow) : HO := .ext (NAt w a xs)
/-- such a dict, known to its object -/
def HP (w : World) (a : Addr) (xs : List NRow) (o : Obj) : HO := .ext fun h => NAt w a xs h ∧ h.get? a = some o
theorem NAt.obj {P : Program} {w : World} {H : Hp} {h : Heap} {a : Addr} {xs : List NRow} (n : NAt w a xs h) : ObjOk P w H h a (HN w a xs) := by
  obtain ⟨n1, ⟨es, ep, n2, n3⟩, n4, n5⟩ := id n
  obtain ⟨o, ho, hx⟩ := id n2
  refine ⟨n, ⟨o, ho⟩, ?_⟩
  rintro h1 h2 ⟨m1, ⟨es', ep', m2, m3⟩, m4, m5⟩ k
  exact ⟨m1, ⟨es', ep', m2.at k, m3⟩, m4, m5⟩
theorem NAt.objP {P : Program} {w : World} {H : Hp} {h : Heap} {a : Addr} {xs : List NRow} {o : Obj} (n : NAt w a xs h) (e : h.get? a = some o) : ObjOk P w H h a (HP w a xs o) := by
  refine ⟨⟨n, e⟩, ⟨o, e⟩, ?_⟩
  rintro h1 h2 ⟨⟨m1, ⟨es', ep', m2, m3⟩, m4, m5⟩, e1⟩ k
  exact ⟨⟨m1, ⟨es', ep', m2.at k, m3⟩, m4, m5⟩, k _ e1⟩
/-- the keys stand as they are told -/
def RowsOk (w : World) (h : Heap) (xs : List NRow) : Prop := ∀ x ∈ xs, NestedIs h x.1 (.ref x.2.1) ∧ x.1.depth ≤ 8
theorem NAt.ofH {P : Program} {w : World} {h : Heap} {a : Addr} {xs : List NRow} (n : NAt w a xs h) (r : RowsOk w h xs) : h.DictOfH (nestedKind P w) a xs := by
  obtain ⟨n1, ⟨es, ep, ⟨o, ho, hx, hd⟩, n3⟩, n4, n5⟩ := n
  exact ⟨o, es, ep, ho, hx, hd, n3, r, n4⟩
theorem NAt.to {P : Program} {w : World} {h : Heap} {a : Addr} {xs : List NRow} (ha : (a == sysModules) = false) (hz : xs.length ≤ sizeLine) (d : h.DictOfH (nestedKind P w) a xs) : NAt w a xs h := by
  obtain ⟨o, es, ep, ho, hx, hd, n3, r, n4⟩ := d
  exact ⟨ha, ⟨es, ep, ⟨o, ho, hx, hd⟩, n3⟩, n4, hz⟩
/-- an empty dict -/
theorem NAt.empty {P : Program} {w : World} {h : Heap} {a : Addr} {H : Hp} (ok : ObjOk P w H h a (.dK [])) : NAt w a [] h := by
  obtain ⟨hz, hy, vs, kv, o, es, ep, e1, e2, e3, _, e5, _⟩ := (show ObjOk P w H h a (.dK []) from ok)
  cases kv
  have : es.toList = [] := by
    cases hq : es.toList with
    | nil => rfl
    | cons x r => rw [hq] at e5; cases e5
  exact ⟨hy, ⟨es, ep, ⟨o, e1, e2, e3⟩, this⟩, List.nodup_nil, by rw [List.length_nil]; exact Nat.zero_le _⟩
end DL

/-! Values of the layer that stand for data, over what is known to stand still (S); steps that keep it. -/
namespace DL
open PySem PySem.Spec PyProof.Rows L2
open Evl (Ex ex_l ex_t)
variable [TheW]

def keyD : Key → PyData
  | .inl i => .int i
  | .inr x => .str x
def keyT (k : List Key) : PyData := .tuple (k.map keyD)

mutual
inductive Rep (K : PySem.W.Frag) (S : Hp) : V → PyData → Prop
  | non : Rep K S .non .none
  | bl (b) : Rep K S (.bl b) (.bool b)
  | int (i) : Rep K S (.int i) (.int i)
  | str (x) : Rep K S (.str x) (.str x)
  | lst {a xs ds} : S a = some (.lst xs) → Reps K S xs ds → Rep K S (.ref a) (.list ds)
  | tup {a xs ds} : SqT K S a xs → Reps K S xs ds → Rep K S (.ref a) (.tuple ds)
  | dK {a kvs ds} : S a = some (.dK kvs) → Reps K S (kvs.map Prod.snd) ds → Rep K S (.ref a) (.dict ((kvs.map fun p => keyD p.1).zip ds))
  | dN {a xs vs ks ds o} : S a = some (HP TheW.w a xs o) → ks.map nk = xs.map (fun x => some x.1) → (∀ x ∈ xs, x.1.depth ≤ 8) → Reps K S (xs.map fun x => V.ref x.2.1) ks → Reps K S vs ds → Vals vs (xs.map (·.2.2)) →
      Rep K S (.ref a) (.dict (ks.zip ds))
  | dF {a kvs ds o} : kvs ≠ [] → S a = some (.frz o (.dK kvs)) → Reps K S (kvs.map Prod.snd) ds → Rep K S (.ref a) (.dict ((kvs.map fun p => keyD p.1).zip ds))
inductive Reps (K : PySem.W.Frag) (S : Hp) : List V → List PyData → Prop
  | nil : Reps K S [] []
  | cons {v vs d ds} : Rep K S v d → Reps K S vs ds → Reps K S (v :: vs) (d :: ds)
end

section
variable {K : PySem.W.Frag} {S S' : Hp}
mutual
theorem Rep.mono (e : Ex S S') : ∀ {v : V} {d : PyData}, Rep K S v d → Rep K S' v d
  | _, _, .non => .non
  | _, _, .bl b => .bl b
  | _, _, .int i => .int i
  | _, _, .str x => .str x
  | _, _, .lst h r => .lst (e _ _ h) (Reps.mono e r)
  | _, _, .tup h r => .tup (ex_t e h) (Reps.mono e r)
  | _, _, .dK h r => .dK (e _ _ h) (Reps.mono e r)
  | _, _, .dN h e1 e2 r q v => .dN (e _ _ h) e1 e2 (Reps.mono e r) (Reps.mono e q) v
  | _, _, .dF n h r => .dF n (e _ _ h) (Reps.mono e r)
theorem Reps.mono (e : Ex S S') : ∀ {vs : List V} {ds : List PyData}, Reps K S vs ds → Reps K S' vs ds
  | _, _, .nil => .nil
  | _, _, .cons h r => .cons (Rep.mono e h) (Reps.mono e r)
end
theorem Reps.length : ∀ {vs : List V} {ds : List PyData}, Reps K S vs ds → vs.length = ds.length
  | _, _, .nil => rfl
  | _, _, .cons _ r => by rw [List.length_cons, List.length_cons, Reps.length r]
theorem Reps.get : ∀ {vs : List V} {ds : List PyData} {i : Nat} {d : PyData}, Reps K S vs ds → ds[i]? = some d → ∃ v, vs[i]? = some v ∧ Rep K S v d
  | _, _, i, d, .nil, h => by simp at h
  | _, _, 0, d, .cons q r, h => by simp at h; subst h; exact ⟨_, rfl, q⟩
  | _, _, i + 1, d, .cons q r, h => by
    obtain ⟨v, e, z⟩ := Reps.get (i := i) (d := d) r (by simpa using h)
    exact ⟨v, by simpa using e, z⟩
theorem Reps.getV : ∀ {vs : List V} {ds : List PyData} {i : Nat} {v : V}, Reps K S vs ds → vs[i]? = some v → ∃ d, ds[i]? = some d ∧ Rep K S v d
  | _, _, i, d, .nil, h => by simp at h
  | _, _, 0, d, .cons q r, h => by simp at h; subst h; exact ⟨_, rfl, q⟩
  | _, _, i + 1, d, .cons q r, h => by
    obtain ⟨v, e, z⟩ := Reps.getV (i := i) (v := d) r (by simpa using h)
    exact ⟨v, by simpa using e, z⟩
theorem Reps.append : ∀ {vs ws : List V} {ds es : List PyData}, Reps K S vs ds → Reps K S ws es → Reps K S (vs ++ ws) (ds ++ es)
  | _, _, _, _, .nil, q => q
  | _, _, _, _, .cons h r, q => .cons h (Reps.append r q)
theorem Reps.take : ∀ {vs : List V} {ds : List PyData} (n : Nat), Reps K S vs ds → Reps K S (vs.take n) (ds.take n)
  | _, _, 0, _ => by rw [List.take_zero, List.take_zero]; exact .nil
  | _, _, n + 1, .nil => .nil
  | _, _, n + 1, .cons h r => .cons h (Reps.take n r)
theorem Reps.drop : ∀ {vs : List V} {ds : List PyData} (n : Nat), Reps K S vs ds → Reps K S (vs.drop n) (ds.drop n)
  | _, _, 0, r => r
  | _, _, n + 1, .nil => .nil
  | _, _, n + 1, .cons h r => Reps.drop n r
theorem Reps.ints : ∀ {vs : List V} {ns : List Int}, Reps K S vs (ns.map .int) → vs = ns.map V.int
  | vs, [], h => by cases h; rfl
  | vs, n :: ns, h => by
    cases h with
    | cons h r => cases h; rw [Reps.ints r]; rfl
theorem Reps.of_ints : ∀ ns : List Int, Reps K S (ns.map V.int) (ns.map .int)
  | [] => .nil
  | n :: ns => .cons (.int n) (Reps.of_ints ns)
theorem Reps.of_strs : ∀ ns : List Str, Reps K S (ns.map V.str) (ns.map .str)
  | [] => .nil
  | n :: ns => .cons (.str n) (Reps.of_strs ns)
theorem Reps.strs : ∀ {vs : List V} {ns : List Str}, Reps K S vs (ns.map .str) → vs = ns.map V.str
  | vs, [], h => by cases h; rfl
  | vs, n :: ns, h => by
    cases h with
    | cons h r => cases h; rw [Reps.strs r]; rfl
theorem Reps.of_bools : ∀ ns : List Bool, Reps K S (ns.map V.bl) (ns.map .bool)
  | [] => .nil
  | n :: ns => .cons (.bl n) (Reps.of_bools ns)
end

/-! ### in the model's heap -/
section
variable {X : Cx} {pins : List (Addr × Obj)} {σ : L2.St} {H : Hp} {s : Shared}
theorem keyV_rd {h : Heap} {k : Key} {v : Value} (q : keyIs k v = true) : RD h v (keyD k) := by
  rcases keyIs_shape q with ⟨i, t, rfl, rfl⟩ | ⟨x, t, rfl, rfl⟩
  · exact .int i t
  · exact .str x t
theorem keyR_rd {h : Heap} {k : Key} {v : Value} (q : RelV (kV k) v) : RD h v (keyD k) := by
  cases k with
  | inl i => obtain ⟨t, rfl⟩ := (show ∃ t, v = Value.int i t from q); exact .int i t
  | inr x => obtain ⟨t, rfl⟩ := (show ∃ t, v = Value.str x t from q); exact .str x t
theorem keysR_rd {h : Heap} : ∀ {ks : List Key} {vs : List Value}, Vals (ks.map kV) vs → RDs h vs (ks.map keyD)
  | [], _, .nil => .nil
  | k :: ks, _, .cons q r => .cons (keyR_rd q) (keysR_rd r)
theorem pairs_keys {P : Program} {w : World} {h : Heap} : ∀ {es : List DictEntry} {kvs : List (Key × V)} {vs : List (Key × Value)}, KV kvs vs → Pairs (mixKind P w) es vs →
    RDs h (es.map (·.key)) (kvs.map fun p => keyD p.1)
  | _, _, _, .nil, .nil => .nil
  | _, _, _, .cons q r, .cons a b c => by
    refine .cons ?_ (pairs_keys r c)
    have z := keyV_rd (h := h) (show keyIs _ _ = true from a)
    rw [← q.1] at z
    exact z
theorem pairs_vals {P : Program} {w : World} : ∀ {es : List DictEntry} {kvs : List (Key × V)} {vs : List (Key × Value)}, KV kvs vs → Pairs (mixKind P w) es vs →
    Vals (kvs.map Prod.snd) (es.map (·.val))
  | _, _, _, .nil, .nil => .nil
  | _, _, _, .cons q r, .cons a b c => .cons (by have z := q.2; rw [← b] at z; exact z) (pairs_vals r c)

theorem zip_fst {α β : Type} : ∀ {as : List α} {bs : List β}, as.length = bs.length → (as.zip bs).map (·.1) = as
  | [], [], _ => rfl
  | a :: as, b :: bs, h => by
    show a :: (as.zip bs).map (·.1) = a :: as
    rw [zip_fst (Nat.succ.inj h)]
theorem zip_snd {α β : Type} : ∀ {as : List α} {bs : List β}, as.length = bs.length → (as.zip bs).map (·.2) = bs
  | [], [], _ => rfl
  | a :: as, b :: bs, h => by
    show b :: (as.zip bs).map (·.2) = b :: bs
    rw [zip_snd (Nat.succ.inj h)]

theorem keysT_rd {P : Program} {w : World} {H : Hp} {h : Heap} (ok : HOk P w H h) : ∀ {kvs : List (List Key × V)} {xs : List (List Key × Addr × Value)},
    Paired (fun (p : List Key × V) (q : List Key × Addr × Value) => p.1 = q.1 ∧ H q.2.1 = some (.tup (p.1.map kV)) ∧ RelV p.2 q.2.2) kvs xs →
    RDs h ((xs.map (entryOfKey (tupleKind (mixKind P w)))).map (·.key)) (kvs.map fun p => keyT p.1) ∧ Vals (kvs.map Prod.snd) ((xs.map (entryOfKey (tupleKind (mixKind P w)))).map (·.val))
  | _, _, .nil => ⟨.nil, .nil⟩
  | _, _, .cons q r => by
    obtain ⟨i1, i2⟩ := keysT_rd ok r
    obtain ⟨e1, e2, e3⟩ := q
    refine ⟨.cons ?_ i1, .cons e3 i2⟩
    obtain ⟨_, its, rv, o, g1, g2, n, g3⟩ := (show ObjOk P w H h _ (.tup _) from ok _ _ e2)
    exact .tuple g1 g2 g3 (by simpa using keysR_rd rv)

theorem refs_vals : ∀ xs : List NRow, Vals (xs.map fun x => V.ref x.2.1) (xs.map fun x => Value.ref x.2.1)
  | [] => .nil
  | x :: r => .cons rfl (refs_vals r)
mutual
theorem Rep.rd (I : Inv X pins σ H s) : ∀ {v : V} {d : PyData} {u : Value}, Rep X.K H v d → RelV v u → RD s.heap u d
  | _, _, u, .non, r => by cases (show u = Value.none from r); exact .none
  | _, _, u, .bl b, r => by cases (show u = Value.bool b from r); exact .bool b
  | _, _, u, .int i, r => by obtain ⟨t, rfl⟩ := (show ∃ t, u = Value.int i t from r); exact .int i t
  | _, _, u, .str x, r => by obtain ⟨t, rfl⟩ := (show ∃ t, u = Value.str x t from r); exact .str x t
  | _, _, u, .lst (a := a) h q, r => by
    cases (show u = Value.ref a from r)
    obtain ⟨its, rv, ⟨o, n, e1, e2, e3, e4⟩, hz⟩ := I.list (SqL.of h)
    exact .list e1 e2 e4 (by simpa using Reps.rd I q rv)
  | _, _, u, .tup (a := a) h q, r => by
    cases (show u = Value.ref a from r)
    obtain ⟨its, rv, ⟨o, e1, e2, n, e4⟩, hz⟩ := I.tuple h
    exact .tuple e1 e2 e4 (by simpa using Reps.rd I q rv)
  | _, _, u, .dK (a := a) (kvs := kvs) (ds := ds) h q, r => by
    cases (show u = Value.ref a from r)
    obtain ⟨hz, hy, vs, kv, o, es, ep, e1, e2, e3, _, e5, _⟩ := (show ObjOk X.prog X.w H s.heap a (.dK kvs) from I.hok a _ h)
    have ll : (kvs.map fun p => keyD p.1).length = ds.length := by rw [← q.length, List.length_map, List.length_map]
    refine .dict e1 e2.1 e3 hy ?_ ?_
    · rw [zip_fst ll]; exact pairs_keys kv e5
    · rw [zip_snd ll]; exact Reps.rd I q (pairs_vals kv e5)
  | _, _, u, .dN (a := a) (xs := xs) (vs := vs) (ks := ks) (ds := ds) (o := ob) h ek h8 q1 q2 vv, r => by
    cases (show u = Value.ref a from r)
    obtain ⟨n1, ⟨es, ep, ⟨o, ho, hx, hd⟩, n3⟩, n4, n5⟩ := (show ObjOk X.prog X.w H s.heap a (HP TheW.w a xs ob) from I.hok a _ h).1.1
    have l1 : ks.length = xs.length := by rw [← q1.length, List.length_map]
    have l2 : ks.length = ds.length := by
      rw [l1, ← q2.length, vv.length, List.length_map]
    refine .dict ho hx.1 hd n1 ?_ ?_
    · rw [zip_fst l2, n3, List.map_map]
      exact Reps.rd I q1 (refs_vals xs)
    · rw [zip_snd l2, n3, List.map_map]
      exact Reps.rd I q2 vv
  | _, _, u, .dF (a := a) (kvs := kvs) (ds := ds) n h q, r => by
    cases (show u = Value.ref a from r)
    obtain ⟨_, hz, hy, vs, kv, o, es, ep, e1, e2, e3, _, e5, _⟩ := I.hok a _ h
    have ll : (kvs.map fun p => keyD p.1).length = ds.length := by rw [← q.length, List.length_map, List.length_map]
    refine .dict e1 e2.1 e3 hy ?_ ?_
    · rw [zip_fst ll]; exact pairs_keys kv e5
    · rw [zip_snd ll]; exact Reps.rd I q (pairs_vals kv e5)
theorem Reps.rd (I : Inv X pins σ H s) : ∀ {vs : List V} {ds : List PyData} {us : List Value}, Reps X.K H vs ds → Vals vs us → RDs s.heap us ds
  | _, _, _, .nil, .nil => .nil
  | _, _, _, .cons h q, .cons r t => .cons (Rep.rd I h r) (Reps.rd I q t)
end

def KeyV (K : PySem.W.Frag) (H : Hp) (b : Addr) (k : NestedKey) : Prop := ∃ d, Rep K H (.ref b) d ∧ nk d = some k ∧ k.depth ≤ 8
theorem keyV_at {b : Addr} {k : NestedKey} (I : Inv X pins σ H s) (h : KeyV X.K H b k) : NestedIs s.heap k (.ref b) ∧ k.depth ≤ 8 := by
  obtain ⟨d, r, e, h8⟩ := h
  exact ⟨(r.rd I rfl).nested e, h8⟩
/-- repr of data -/
def rRepr (K : PySem.W.Frag) : List V → Hp → VK → Prop := fun xs H Q => ∃ v d, xs = [v] ∧ Rep K H v d ∧ d.showable = true ∧ d.depth ≤ 60 ∧ d.shown.length ≤ sizeLine ∧ Q (.str d.shown) H
theorem call_repr {k : Nat} (hr : RoomG k X.A) : CallR X (.builtin "repr") (rRepr X.K) := by
  intro pins s σ H xs us Q I r h
  obtain ⟨v, d, rfl, R, h1, h2, h3, q⟩ := h
  cases r with
  | cons r1 r2 =>
    cases r2
    refine call_repr_rd (R.rd I r1) h1 hr.g ?_ h3 ?_
    · have := hr.r.units
      omega
    · intro h' u tk hk
      exact ⟨.str d.shown, H, I.kept hk, ⟨_, rfl⟩, q⟩
end
end DL

/-! Readings over data: what a def does, told by data alone. A reading of the layer (TE, TS ..) is simulated by one over data (DE, DS ..). -/
namespace DL
open PySem PySem.Spec PyProof.Rows L2
open Evl (Ex ex_l ex_t)
variable [TheW]

/-- what a dict of one's own holds: by texts; by tuples in one another -/
inductive Cont where
  | dk (kvs : List (Str × PyData))
  | dn (w : World) (kvs : List (PyData × PyData))
  /-- by integers and texts -/
  | dG (kvs : List (Key × PyData))
def RowR (K : PySem.W.Frag) (S : Hp) (x : NRow) (kv : PyData × PyData) : Prop := (Rep K S (.ref x.2.1) kv.1 ∧ nk kv.1 = some x.1 ∧ x.1.depth ≤ 8) ∧ ∃ v, Rep K S v kv.2 ∧ RelV v x.2.2
def TxtR (K : PySem.W.Frag) (S : Hp) (v : Key × V) (q : Str × PyData) : Prop := v.1 = .inr q.1 ∧ Rep K S v.2 q.2
def KeyR (K : PySem.W.Frag) (S : Hp) (v : Key × V) (q : Key × PyData) : Prop := v.1 = q.1 ∧ Rep K S v.2 q.2
def CtOk (K : PySem.W.Frag) (S : Hp) (p : Addr) (o : HO) : Cont → Prop
  | .dk kvs => ∃ vs : List (Key × V), o = .dK vs ∧ Paired (TxtR K S) vs kvs
  | .dn w kvs => ∃ xs : List NRow, o = HN w p xs ∧ Paired (RowR K S) xs kvs
  | .dG kvs => ∃ vs : List (Key × V), o = .dK vs ∧ Paired (KeyR K S) vs kvs
theorem RowR.mono {K : PySem.W.Frag} {S S' : Hp} (e : Ex S S') {x : NRow} {kv : PyData × PyData} (h : RowR K S x kv) : RowR K S' x kv := by
  obtain ⟨⟨h1, h2⟩, v, h3, h4⟩ := h
  exact ⟨⟨h1.mono e, h2⟩, v, h3.mono e, h4⟩
theorem CtOk.mono {K : PySem.W.Frag} {S S' : Hp} {p : Addr} {o : HO} (e : Ex S S') {c : Cont} (h : CtOk K S p o c) : CtOk K S' p o c := by
  cases c with
  | dk kvs =>
    obtain ⟨vs, h1, h2⟩ := h
    exact ⟨vs, h1, Paired.mapP h2 fun _ _ z => ⟨z.1, z.2.mono e⟩⟩
  | dn w kvs =>
    obtain ⟨xs, h1, h2⟩ := h
    exact ⟨xs, h1, Paired.mapP h2 fun _ _ z => z.mono e⟩
  | dG kvs =>
    obtain ⟨vs, h1, h2⟩ := h
    exact ⟨vs, h1, Paired.mapP h2 fun _ _ z => ⟨z.1, z.2.mono e⟩⟩
theorem CtOk.noLst {K : PySem.W.Frag} {S : Hp} {p : Addr} {xs : List V} {c : Cont} (h : CtOk K S p (.lst xs) c) : False := by
  cases c with
  | dk kvs =>
    obtain ⟨vs, h1, _⟩ := h
    cases h1
  | dn w kvs =>
    obtain ⟨xs, h1, h2⟩ := h
    cases h1
  | dG kvs =>
    obtain ⟨vs, h1, _⟩ := h
    cases h1
/-- what a name holds: data; or a list of its own that nobody else knows -/
inductive DV where
  | dat (d : PyData)
  | own (ds : List PyData)
  | fn (a : Addr)
  | dct (c : Cont)
abbrev DEnv := List (Option DV)

/-- the bag of draws -/
abbrev Bg := Addr × Addr
structure Bag (b : Bg) (H : Hp) : Prop where
  ex : ∃ (r m k : Int) (ns : List Int), H b.1 = some (.lst [.int r, .int m, .int k, .ref b.2]) ∧ b.2 ≠ b.1 ∧ H b.2 = some (.lst (ns.map V.int)) ∧
    (∀ n ∈ ns, 0 ≤ n) ∧ 0 ≤ r ∧ 0 ≤ m ∧ ns.length ≤ 63
theorem Bag.tr {b : Bg} {H : Hp} (g : Bag b H) : H b.1 ≠ none := by
  obtain ⟨r, m, k, ns, e, _⟩ := g.ex
  rw [e]
  exact Option.some_ne_none _
theorem Bag.tr2 {b : Bg} {H : Hp} (g : Bag b H) : H b.2 ≠ none := by
  obtain ⟨r, m, k, ns, e, ne, f, _⟩ := g.ex
  rw [f]
  exact Option.some_ne_none _
theorem Bag.kept {b : Bg} {H H' : Hp} (g : Bag b H) (k : ∀ a o, (a = b.1 ∨ a = b.2) → H a = some o → H' a = some o) : Bag b H' := by
  obtain ⟨r, m, i, ns, e, ne, f, h⟩ := g.ex
  exact ⟨r, m, i, ns, k _ _ (.inl rfl) e, ne, k _ _ (.inr rfl) f, h⟩

/-- ib: the slot of the bag, if there is one; b: where it stands. S: what is known to stand still -/
structure Okk (ib : Option Nat) (b : Bg) (S H : Hp) : Prop where
  sub : Ex S H
  off : ib ≠ none → S b.1 = none
  bag : ib ≠ none → Bag b H
structure Go (ib : Option Nat) (b : Bg) (S H S' H' : Hp) : Prop where
  st : Ex S S'
  keep : ∀ a o, (ib ≠ none → a ≠ b.1) → H a = some o → H' a = some o
  new : ∀ a, H a ≠ none → S a = none → S' a = none
  ok : Okk ib b S' H'

section
variable {ib : Option Nat} {b : Bg} {S H S1 H1 S2 H2 : Hp}
theorem Go.refl (o : Okk ib b S H) : Go ib b S H S H := ⟨Ex.refl S, fun _ _ _ e => e, fun _ _ e => e, o⟩
theorem Go.stays (g : Go ib b S H S1 H1) (o : ib ≠ none → H b.1 ≠ none) {a : Addr} (h : H a ≠ none) : H1 a ≠ none := by
  by_cases c : ib ≠ none → a ≠ b.1
  · cases e : H a with
    | none => exact absurd e h
    | some u => rw [g.keep a u c e]; exact Option.some_ne_none _
  · have ⟨c1, c2⟩ := Classical.not_imp.mp c
    rw [Classical.not_not.mp c2]
    exact (g.ok.bag c1).tr
theorem Go.trans (o : Okk ib b S H) (g : Go ib b S H S1 H1) (g2 : Go ib b S1 H1 S2 H2) : Go ib b S H S2 H2 :=
  ⟨g.st.trans g2.st, fun a u c e => g2.keep a u c (g.keep a u c e),
    fun a h e => g2.new a (g.stays (fun z => (o.bag z).tr) h) (g.new a h e), g2.ok⟩
theorem Ex.none_of {S H : Hp} (e : Ex S H) {p : Addr} (h : H p = none) : S p = none := by
  cases q : S p with
  | none => rfl
  | some u => rw [e p u q] at h; cases h
theorem Ex.both {S H : Hp} {p : Addr} {o : HO} (e : Ex S H) : Ex (upd S p o) (upd H p o) := by
  intro a u q
  by_cases c : a = p
  · rw [c, upd_same] at q ⊢; exact q
  · rw [upd_ne c] at q ⊢; exact e a u q
/-- a new object -/
theorem Go.laid (o : Okk ib b S H) {p : Addr} {u : HO} (hp : H p = none) : Go ib b S H (upd S p u) (upd H p u) := by
  have nb : ib ≠ none → b.1 ≠ p := fun z e => (o.bag z).tr (e ▸ hp)
  have kp : ∀ a x, H a = some x → upd H p u a = some x := fun a x e => by rw [upd_ne (ne_of_none e hp)]; exact e
  exact ⟨Ex.new (Ex.none_of o.sub hp), fun a x _ e => kp a x e, fun a h e => by
      have : a ≠ p := fun z => h (z ▸ hp)
      rw [upd_ne this]; exact e,
    ⟨Ex.both o.sub, fun z => by rw [upd_ne (nb z)]; exact o.off z, fun z => (o.bag z).kept fun a x _ e => kp a x e⟩⟩
/-- a new object of one's own -/
theorem Go.laidOwn (o : Okk ib b S H) {p : Addr} {u : HO} (hp : H p = none) : Go ib b S H S (upd H p u) := by
  have kp : ∀ a x, H a = some x → upd H p u a = some x := fun a x e => by rw [upd_ne (ne_of_none e hp)]; exact e
  exact ⟨Ex.refl S, fun a x _ e => kp a x e, fun _ _ e => e,
    ⟨fun a x e => kp a x (o.sub a x e), o.off, fun z => (o.bag z).kept fun a x _ e => kp a x e⟩⟩
/-- the heap is larger, S as it was -/
theorem Go.more (o : Okk ib b S H) (k : Ex H H1) : Go ib b S H S H1 :=
  ⟨Ex.refl S, fun a x _ e => k a x e, fun _ _ e => e, ⟨o.sub.trans k, o.off, fun z => (o.bag z).kept fun a x _ e => k a x e⟩⟩
end

/-- the names and what they hold; H0: the heap at the def's entry -/
structure EnvOk (K : PySem.W.Frag) (ib : Option Nat) (b : Bg) (H0 S H : Hp) (σ : L2.St) (δ : DEnv) : Prop where
  len : σ.length = δ.length
  slot : ∀ (i : Nat), ib = some i → σ[i]? = some (some (V.ref b.1))
  dat : ∀ (i : Nat) (d : PyData), δ[i]? = some (some (DV.dat d)) → ∃ v, σ[i]? = some (some v) ∧ Rep K S v d
  own : ∀ (i : Nat) (ds : List PyData), δ[i]? = some (some (DV.own ds)) → ∃ p xs, σ[i]? = some (some (V.ref p)) ∧ H p = some (.lst xs) ∧ Reps K S xs ds ∧ S p = none ∧
    H0 p = none ∧ (ib ≠ none → p ≠ b.1) ∧ ∀ (j : Nat) (es : List PyData), δ[j]? = some (some (DV.own es)) → σ[j]? = some (some (V.ref p)) → j = i
  fn : ∀ (i : Nat) (a : Addr), δ[i]? = some (some (DV.fn a)) → σ[i]? = some (some (V.ref a))
  dct : ∀ (i : Nat) (c : Cont), δ[i]? = some (some (DV.dct c)) → ∃ p o, σ[i]? = some (some (V.ref p)) ∧ H p = some o ∧ CtOk K S p o c ∧ S p = none ∧ H0 p = none ∧ (ib ≠ none → p ≠ b.1) ∧
    ∀ (j : Nat) (c' : Cont), δ[j]? = some (some (DV.dct c')) → σ[j]? = some (some (V.ref p)) → j = i

section
variable {K : PySem.W.Frag} {ib : Option Nat} {b : Bg} {H0 S H S1 H1 : Hp} {σ : L2.St} {δ : DEnv}
theorem EnvOk.go (e : EnvOk K ib b H0 S H σ δ) (g : Go ib b S H S1 H1) : EnvOk K ib b H0 S1 H1 σ δ := by
  refine ⟨e.len, e.slot, fun i d h => ?_, fun i ds h => ?_, e.fn, fun i c h => ?_⟩
  · obtain ⟨v, h1, h2⟩ := e.dat i d h
    exact ⟨v, h1, h2.mono g.st⟩
  · obtain ⟨p, xs, h1, h2, h3, h4, h5, h6, h7⟩ := e.own i ds h
    exact ⟨p, xs, h1, g.keep p _ h6 h2, h3.mono g.st, g.new p (by rw [h2]; exact Option.some_ne_none _) h4, h5, h6, h7⟩
  · obtain ⟨p, o, h1, h2, h3, h4, h5, h6, h7⟩ := e.dct i c h
    exact ⟨p, o, h1, g.keep p _ h6 h2, h3.mono g.st, g.new p (by rw [h2]; exact Option.some_ne_none _) h4, h5, h6, h7⟩
theorem EnvOk.weak (e : EnvOk K ib b H0 S H σ δ) {σ' : L2.St} {δ' : DEnv} (hl : σ'.length = δ'.length)
    (hs : ∀ (i : Nat), ib = some i → σ'[i]? = some (some (V.ref b.1)))
    (h : ∀ (i : Nat) (x : DV), δ'[i]? = some (some x) → δ[i]? = some (some x) ∧ σ'[i]? = σ[i]?) : EnvOk K ib b H0 S H σ' δ' := by
  refine ⟨hl, hs, fun i d q => ?_, fun i ds q => ?_, fun i a q => (h i _ q).2.trans (e.fn i a (h i _ q).1), fun i c q => ?_⟩
  · obtain ⟨q1, q2⟩ := h i _ q
    obtain ⟨v, h1, h2⟩ := e.dat i d q1
    exact ⟨v, q2.trans h1, h2⟩
  · obtain ⟨q1, q2⟩ := h i _ q
    obtain ⟨p, xs, h1, h2, h3, h4, h5, h6, h7⟩ := e.own i ds q1
    refine ⟨p, xs, q2.trans h1, h2, h3, h4, h5, h6, fun j es a1 a2 => ?_⟩
    obtain ⟨b1, b2⟩ := h j _ a1
    exact h7 j es b1 (b2.symm.trans a2)
  · obtain ⟨q1, q2⟩ := h i _ q
    obtain ⟨p, o, h1, h2, h3, h4, h5, h6, h7⟩ := e.dct i c q1
    refine ⟨p, o, q2.trans h1, h2, h3, h4, h5, h6, fun j es a1 a2 => ?_⟩
    obtain ⟨b1, b2⟩ := h j _ a1
    exact h7 j es b1 (b2.symm.trans a2)
theorem EnvOk.set (e : EnvOk K ib b H0 S H σ δ) {i : Nat} {v : V} {d : PyData} (hi : ib ≠ some i) (r : Rep K S v d) :
    EnvOk K ib b H0 S H (σ.set i (some v)) (δ.set i (some (DV.dat d))) := by
  have look : ∀ (j : Nat) (x : DV), j ≠ i → (δ.set i (some (DV.dat d)))[j]? = some (some x) → δ[j]? = some (some x) := by
    intro j x hj q
    rw [List.getElem?_set_ne (Ne.symm hj)] at q
    exact q
  have lookσ : ∀ (j : Nat), j ≠ i → (σ.set i (some v))[j]? = σ[j]? := fun j hj => List.getElem?_set_ne (Ne.symm hj)
  have hfn : ∀ (j : Nat) (a : Addr), (δ.set i (some (DV.dat d)))[j]? = some (some (DV.fn a)) → (σ.set i (some v))[j]? = some (some (V.ref a)) := by
    intro j a q
    by_cases hj : j = i
    · subst hj
      have hlt : j < δ.length := by
        have := List.getElem?_eq_some_iff.mp q
        obtain ⟨w, _⟩ := this
        rw [List.length_set] at w
        exact w
      rw [List.getElem?_set_self hlt] at q
      cases q
    · rw [lookσ j hj]; exact e.fn j a (look j _ hj q)
  have hdct : ∀ (j : Nat) (c : Cont), (δ.set i (some (DV.dat d)))[j]? = some (some (DV.dct c)) → j ≠ i ∧ δ[j]? = some (some (DV.dct c)) := by
    intro j c q
    by_cases hj : j = i
    · subst hj
      have hlt : j < δ.length := by
        obtain ⟨w, _⟩ := List.getElem?_eq_some_iff.mp q
        rw [List.length_set] at w
        exact w
      rw [List.getElem?_set_self hlt] at q
      cases q
    · exact ⟨hj, look j _ hj q⟩
  refine ⟨by rw [List.length_set, List.length_set]; exact e.len, fun j hj => ?_, fun j x q => ?_, fun j ds q => ?_, hfn, fun j c q => by
    obtain ⟨hj, q⟩ := hdct j c q
    obtain ⟨p, o, h1, h2, h3, h4, h5, h6, h7⟩ := e.dct j c q
    refine ⟨p, o, (lookσ j hj).trans h1, h2, h3, h4, h5, h6, fun m c' a1 a2 => ?_⟩
    obtain ⟨hm, a1⟩ := hdct m c' a1
    exact h7 m c' a1 ((lookσ m hm).symm.trans a2)⟩
  · rw [lookσ j (fun z => hi (z ▸ hj))]
    exact e.slot j hj
  · by_cases hj : j = i
    · subst hj
      have hlt : j < δ.length := by
        have := List.getElem?_eq_some_iff.mp q
        obtain ⟨w, _⟩ := this
        rw [List.length_set] at w
        exact w
      rw [List.getElem?_set_self hlt] at q
      cases q
      exact ⟨v, by rw [List.getElem?_set_self (by rw [e.len]; exact hlt)], r⟩
    · obtain ⟨u, h1, h2⟩ := e.dat j x (look j _ hj q)
      exact ⟨u, (lookσ j hj).trans h1, h2⟩
  · by_cases hj : j = i
    · subst hj
      have hlt : j < δ.length := by
        obtain ⟨w, _⟩ := List.getElem?_eq_some_iff.mp q
        rw [List.length_set] at w
        exact w
      rw [List.getElem?_set_self hlt] at q
      cases q
    · obtain ⟨p, xs, h1, h2, h3, h4, h5, h6, h7⟩ := e.own j ds (look j _ hj q)
      refine ⟨p, xs, (lookσ j hj).trans h1, h2, h3, h4, h5, h6, fun m es a1 a2 => ?_⟩
      by_cases hm : m = i
      · subst hm
        have hlt : m < δ.length := by
          obtain ⟨w, _⟩ := List.getElem?_eq_some_iff.mp a1
          rw [List.length_set] at w
          exact w
        rw [List.getElem?_set_self hlt] at a1
        cases a1
      · exact h7 m es (look m _ hm a1) ((lookσ m hm).symm.trans a2)
/-- a name is given a new list of its own -/
theorem EnvOk.setOwn (e : EnvOk K ib b H0 S H σ δ) {i : Nat} {p : Addr} {xs : List V} {ds : List PyData} (hi : ib ≠ some i) (hp : H p = some (.lst xs)) (r : Reps K S xs ds)
    (hS : S p = none) (h0 : H0 p = none) (hb : ib ≠ none → p ≠ b.1) (hu : ∀ (j : Nat) (es : List PyData), j ≠ i → δ[j]? = some (some (DV.own es)) → σ[j]? ≠ some (some (V.ref p))) :
    EnvOk K ib b H0 S H (σ.set i (some (V.ref p))) (δ.set i (some (DV.own ds))) := by
  have look : ∀ (j : Nat) (x : DV), j ≠ i → (δ.set i (some (DV.own ds)))[j]? = some (some x) → δ[j]? = some (some x) := by
    intro j x hj q
    rw [List.getElem?_set_ne (Ne.symm hj)] at q
    exact q
  have lookσ : ∀ (j : Nat), j ≠ i → (σ.set i (some (V.ref p)))[j]? = σ[j]? := fun j hj => List.getElem?_set_ne (Ne.symm hj)
  have inb : ∀ {j : Nat} {x : DV}, (δ.set i (some (DV.own ds)))[j]? = some (some x) → j < δ.length := by
    intro j x q
    obtain ⟨w, _⟩ := List.getElem?_eq_some_iff.mp q
    rw [List.length_set] at w
    exact w
  have hfn : ∀ (j : Nat) (a : Addr), (δ.set i (some (DV.own ds)))[j]? = some (some (DV.fn a)) → (σ.set i (some (V.ref p)))[j]? = some (some (V.ref a)) := by
    intro j a q
    by_cases hj : j = i
    · subst hj
      rw [List.getElem?_set_self (inb q)] at q
      cases q
    · rw [lookσ j hj]; exact e.fn j a (look j _ hj q)
  have hdct : ∀ (j : Nat) (c : Cont), (δ.set i (some (DV.own ds)))[j]? = some (some (DV.dct c)) → j ≠ i ∧ δ[j]? = some (some (DV.dct c)) := by
    intro j c q
    by_cases hj : j = i
    · subst hj
      rw [List.getElem?_set_self (inb q)] at q
      cases q
    · exact ⟨hj, look j _ hj q⟩
  refine ⟨by rw [List.length_set, List.length_set]; exact e.len, fun j hj => ?_, fun j x q => ?_, fun j es q => ?_, hfn, fun j c q => by
    obtain ⟨hj, q⟩ := hdct j c q
    obtain ⟨p', o, h1, h2, h3, h4, h5, h6, h7⟩ := e.dct j c q
    refine ⟨p', o, (lookσ j hj).trans h1, h2, h3, h4, h5, h6, fun m c' a1 a2 => ?_⟩
    obtain ⟨hm, a1⟩ := hdct m c' a1
    exact h7 m c' a1 ((lookσ m hm).symm.trans a2)⟩
  · rw [lookσ j (fun z => hi (z ▸ hj))]
    exact e.slot j hj
  · by_cases hj : j = i
    · subst hj
      rw [List.getElem?_set_self (inb q)] at q
      cases q
    · obtain ⟨u, h1, h2⟩ := e.dat j x (look j _ hj q)
      exact ⟨u, (lookσ j hj).trans h1, h2⟩
  · by_cases hj : j = i
    · subst hj
      have hlt := inb q
      rw [List.getElem?_set_self hlt] at q
      cases q
      refine ⟨p, xs, by rw [List.getElem?_set_self (by rw [e.len]; exact hlt)], hp, r, hS, h0, hb, fun m es a1 a2 => ?_⟩
      by_cases hm : m = j
      · exact hm
      · exact absurd ((lookσ m hm).symm.trans a2) (hu m es hm (look m _ hm a1))
    · obtain ⟨p', xs', h1, h2, h3, h4, h5, h6, h7⟩ := e.own j es (look j _ hj q)
      refine ⟨p', xs', (lookσ j hj).trans h1, h2, h3, h4, h5, h6, fun m fs a1 a2 => ?_⟩
      by_cases hm : m = i
      · subst hm
        rw [List.getElem?_set_self (by rw [e.len]; exact inb a1)] at a2
        have : p = p' := V.ref.inj (Option.some.inj (Option.some.inj a2))
        subst this
        exact absurd h1 (hu j es hj (look j _ hj q))
      · exact h7 m fs (look m _ hm a1) ((lookσ m hm).symm.trans a2)
end

/-! ### readings over data -/
abbrev DE := DEnv → (PyData → Prop) → Prop
abbrev DA := DEnv → (List PyData → Prop) → Prop
abbrev DT := DEnv → (Bool → Prop) → Prop
abbrev DO := DEnv → (Option Int → Prop) → Prop
structure DEnds where
  nx : DEnv → Prop
  rt : PyData → Prop
  bk : DEnv → Prop := fun _ => False
  ct : DEnv → Prop := fun _ => False
  ro : List PyData → Prop := fun _ => False
abbrev DS := DEnds → DEnv → Prop
abbrev DG := PyData → DEnv → (DEnv → Prop) → Prop

section
variable (K : PySem.W.Frag) (ib : Option Nat) (b : Bg)
def SimE (te : TE) (de : DE) : Prop := ∀ (H0 S H : Hp) (σ : L2.St) (δ : DEnv) (R : PyData → Prop) (Q : VK), Okk ib b S H → EnvOk K ib b H0 S H σ δ → de δ R →
  (∀ S' H' v d, Go ib b S H S' H' → Rep K S' v d → R d → Q v H') → te σ H Q
def SimA (ta : TA) (da : DA) : Prop := ∀ (H0 S H : Hp) (σ : L2.St) (δ : DEnv) (R : List PyData → Prop) (Q : List V → Hp → Prop), Okk ib b S H → EnvOk K ib b H0 S H σ δ → da δ R →
  (∀ S' H' vs ds, Go ib b S H S' H' → Reps K S' vs ds → R ds → Q vs H') → ta σ H Q
def SimT (tt : TT) (dt : DT) : Prop := ∀ (H0 S H : Hp) (σ : L2.St) (δ : DEnv) (R : Bool → Prop) (Q : Bool → Hp → Prop), Okk ib b S H → EnvOk K ib b H0 S H σ δ → dt δ R →
  (∀ S' H' c, Go ib b S H S' H' → R c → Q c H') → tt σ H Q
def SimO (to : TO) (dO : DO) : Prop := ∀ (H0 S H : Hp) (σ : L2.St) (δ : DEnv) (R : Option Int → Prop) (Q : Option Int → Hp → Prop), Okk ib b S H → EnvOk K ib b H0 S H σ δ → dO δ R →
  (∀ S' H' c, Go ib b S H S' H' → R c → Q c H') → to σ H Q
def SimG (g : TG) (dg : DG) : Prop := ∀ (H0 S H : Hp) (σ : L2.St) (δ : DEnv) (v : V) (d : PyData) (R : DEnv → Prop) (Q : L2.St → Hp → Prop), Okk ib b S H → EnvOk K ib b H0 S H σ δ →
  Rep K S v d → dg d δ R → (∀ S' H' σ' δ', Go ib b S H S' H' → EnvOk K ib b H0 S' H' σ' δ' → R δ' → Q σ' H') → g v σ H Q
/-- a statement: from a state that the def has come to (S0, H0: its entry) -/
structure EndsOk (H0 S0 Sm : Hp) (D : Ends) (DD : DEnds) : Prop where
  nx : ∀ S H σ δ, Go ib b S0 H0 S H → Ex Sm S → EnvOk K ib b H0 S H σ δ → DD.nx δ → D.nx σ H
  rt : ∀ S H v d, Go ib b S0 H0 S H → Ex Sm S → Rep K S v d → DD.rt d → D.rt v H
  bk : ∀ S H σ δ, Go ib b S0 H0 S H → Ex Sm S → EnvOk K ib b H0 S H σ δ → DD.bk δ → D.bk σ H
  ct : ∀ S H σ δ, Go ib b S0 H0 S H → Ex Sm S → EnvOk K ib b H0 S H σ δ → DD.ct δ → D.ct σ H
  ro : ∀ S H p xs es, Go ib b S0 H0 S H → Ex Sm S → H p = some (.lst xs) → Reps K S xs es → S p = none → H0 p = none → DD.ro es → D.rt (.ref p) H
/-- Sm: what was known somewhere ahead, and stands still -/
def SimS (ts : TS) (ds : DS) : Prop := ∀ (S0 H0 Sm S H : Hp) (σ : L2.St) (δ : DEnv) (D : Ends) (DD : DEnds), Okk ib b S0 H0 → Ex Sm S → Go ib b S0 H0 S H → EnvOk K ib b H0 S H σ δ → ds DD δ →
  EndsOk K ib b H0 S0 Sm D DD → ts D σ H
/-- by values -/
def SimR2 (r : R2) (dr : PyData → PyData → (PyData → Prop) → Prop) : Prop := ∀ (S H : Hp) (x y : V) (dx dy : PyData) (R : PyData → Prop) (Q : VK), Okk ib b S H → Rep K S x dx → Rep K S y dy → dr dx dy R →
  (∀ S' H' v d, Go ib b S H S' H' → Rep K S' v d → R d → Q v H') → r x y H Q
def SimU (r : V → Hp → VK → Prop) (dr : PyData → (PyData → Prop) → Prop) : Prop := ∀ (S H : Hp) (x : V) (dx : PyData) (R : PyData → Prop) (Q : VK), Okk ib b S H → Rep K S x dx → dr dx R →
  (∀ S' H' v d, Go ib b S H S' H' → Rep K S' v d → R d → Q v H') → r x H Q
def SimC (r : List V → Hp → VK → Prop) (dr : List PyData → (PyData → Prop) → Prop) : Prop := ∀ (S H : Hp) (xs : List V) (ds : List PyData) (R : PyData → Prop) (Q : VK), Okk ib b S H → Reps K S xs ds → dr ds R →
  (∀ S' H' v d, Go ib b S H S' H' → Rep K S' v d → R d → Q v H') → r xs H Q
/-- what is walked: the items, in order; each turn may lay something new -/
def WalkD (S : Hp) (J : It) (ds : List PyData) : Prop := ∀ (S1 H : Hp), Ex S S1 → Okk ib b S1 H → (∀ i, i < ds.length → J.go i H) ∧ J.stop ds.length H ∧
  ∀ i x H', i < ds.length → J.yld i H x H' → ∃ S2 d, Go ib b S1 H S2 H' ∧ ds[i]? = some d ∧ Rep K S2 x d
def SimI (ti : TI) (di : DA) : Prop := ∀ (H0 S H : Hp) (σ : L2.St) (δ : DEnv) (R : List PyData → Prop) (Q : It → Hp → Prop), Okk ib b S H → EnvOk K ib b H0 S H σ δ → di δ R →
  (∀ S' H' J ds, Go ib b S H S' H' → WalkD K ib b S' J ds → R ds → Q J H') → ti σ H Q
end

/-! ### expressions -/
section
variable {K : PySem.W.Frag} {ib : Option Nat} {b : Bg}
def dVar (i : Nat) : DE := fun δ R => match δ[i]? with
  | some (some (DV.dat d)) => R d
  | _ => False
theorem sim_var {i : Nat} : SimE K ib b (tVar i) (dVar i) := by
  intro H0 S H σ δ R Q o e h k
  unfold dVar at h
  split at h
  · rename_i d q
    obtain ⟨v, h1, h2⟩ := e.dat i d q
    exact ⟨v, h1, k S H v d (Go.refl o) h2 h⟩
  · exact h.elim
def dC (d : PyData) : DE := fun _ R => R d
theorem sim_int {i : Int} : SimE K ib b (tC (.int i)) (dC (.int i)) := fun H0 S H σ δ R Q o e h k => k S H _ _ (Go.refl o) (.int i) h
theorem sim_str {i : Str} : SimE K ib b (tC (.str i)) (dC (.str i)) := fun H0 S H σ δ R Q o e h k => k S H _ _ (Go.refl o) (.str i) h
theorem sim_bl {i : Bool} : SimE K ib b (tC (.bl i)) (dC (.bool i)) := fun H0 S H σ δ R Q o e h k => k S H _ _ (Go.refl o) (.bl i) h
theorem sim_non : SimE K ib b (tC .non) (dC .none) := fun H0 S H σ δ R Q o e h k => k S H _ _ (Go.refl o) .non h
/-- a constant of the module -/
theorem sim_glob {a : Addr} {d : PyData} (h : Rep K (fun _ => none) (.ref a) d) : SimE K ib b (tC (.ref a)) (dC d) :=
  fun H0 S H σ δ R Q o e q k => k S H _ _ (Go.refl o) (h.mono fun _ _ z => by cases z) q

def dNil : DA := fun _ R => R []
def dCons (de : DE) (da : DA) : DA := fun δ R => de δ fun d => da δ fun ds => R (d :: ds)
theorem sim_nil : SimA K ib b tNil dNil := fun H0 S H σ δ R Q o e h k => k S H [] [] (Go.refl o) .nil h
variable {ta tb tc te : TE} {da db dc de : DE} {t : TA} {d : DA} {tt tu : TT} {dt du : DT}
theorem sim_cons (h1 : SimE K ib b te de) (h2 : SimA K ib b t d) : SimA K ib b (tCons te t) (dCons de d) := by
  intro H0 S H σ δ R Q o e h k
  refine h1 H0 S H σ δ _ _ o e h fun S1 H1 v dv g r q => ?_
  refine h2 H0 S1 H1 σ δ _ _ g.ok (e.go g) q fun S2 H2 vs ds g2 r2 q2 => ?_
  exact k S2 H2 (v :: vs) (dv :: ds) (g.trans o g2) (.cons (r.mono g2.st) r2) q2
def small (n : Nat) : Bool := decide (n ≤ 100000)
theorem small_ok {n : Nat} (h : small n = true) : n ≤ sizeLine := Evl.sz_of (of_decide_eq_true h)
theorem small_lt {n : Nat} (h : small (n + 1) = true) : n < sizeLine := Evl.sz_lt (by have := of_decide_eq_true h; omega)
def dTup (da : DA) : DE := fun δ R => da δ fun ds => small ds.length = true ∧ R (.tuple ds)
def dLst (da : DA) : DE := fun δ R => da δ fun ds => small ds.length = true ∧ R (.list ds)
theorem sim_tup (h : SimA K ib b t d) : SimE K ib b (tTup t) (dTup d) := by
  intro H0 S H σ δ R Q o e q k
  refine h H0 S H σ δ _ _ o e q fun S1 H1 vs ds g r q => ⟨by rw [r.length]; exact small_ok q.1, fun p hp => ?_⟩
  have g2 := Go.laid (u := .tup vs) g.ok hp
  exact k _ _ _ _ (g.trans o g2) (.tup (Evl.st_of upd_same) (r.mono g2.st)) q.2
theorem sim_lst (h : SimA K ib b t d) : SimE K ib b (tLst t) (dLst d) := by
  intro H0 S H σ δ R Q o e q k
  refine h H0 S H σ δ _ _ o e q fun S1 H1 vs ds g r q => ⟨by rw [r.length]; exact small_ok q.1, fun p hp => ?_⟩
  have g2 := Go.laid (u := .lst vs) g.ok hp
  exact k _ _ _ _ (g.trans o g2) (.lst upd_same (r.mono g2.st)) q.2
def dOp (dr : PyData → PyData → (PyData → Prop) → Prop) (da db : DE) : DE := fun δ R => da δ fun x => db δ fun y => dr x y R
theorem sim_op {r : R2} {dr : PyData → PyData → (PyData → Prop) → Prop} (hr : SimR2 K ib b r dr) (h1 : SimE K ib b ta da) (h2 : SimE K ib b tb db) : SimE K ib b (tOp r ta tb) (dOp dr da db) := by
  intro H0 S H σ δ R Q o e h k
  refine h1 H0 S H σ δ _ _ o e h fun S1 H1 v dv g r q => ?_
  refine h2 H0 S1 H1 σ δ _ _ g.ok (e.go g) q fun S2 H2 w dw g2 r2 q2 => ?_
  exact hr S2 H2 v w dv dw R Q g2.ok (r.mono g2.st) r2 q2 fun S3 H3 u du g3 r3 q3 => k S3 H3 u du ((g.trans o g2).trans o g3) r3 q3
def dUn (dr : PyData → (PyData → Prop) → Prop) (da : DE) : DE := fun δ R => da δ fun x => dr x R
theorem sim_un {r : V → Hp → VK → Prop} {dr : PyData → (PyData → Prop) → Prop} (hr : SimU K ib b r dr) (h1 : SimE K ib b ta da) : SimE K ib b (tUn r ta) (dUn dr da) := by
  intro H0 S H σ δ R Q o e h k
  refine h1 H0 S H σ δ _ _ o e h fun S1 H1 v dv g r q => ?_
  exact hr S1 H1 v dv R Q g.ok r q fun S3 H3 u du g3 r3 q3 => k S3 H3 u du (g.trans o g3) r3 q3
def dCB (dr : List PyData → (PyData → Prop) → Prop) (d : DA) : DE := fun δ R => d δ fun ds => dr ds R
theorem sim_cb {r : List V → Hp → VK → Prop} {dr : List PyData → (PyData → Prop) → Prop} (hr : SimC K ib b r dr) (h1 : SimA K ib b t d) : SimE K ib b (tCB r t) (dCB dr d) := by
  intro H0 S H σ δ R Q o e h k
  refine h1 H0 S H σ δ _ _ o e h fun S1 H1 v dv g r q => ?_
  exact hr S1 H1 v dv R Q g.ok r q fun S3 H3 u du g3 r3 q3 => k S3 H3 u du (g.trans o g3) r3 q3
def dIf (dt : DT) (da db : DE) : DE := fun δ R => dt δ fun c => if c = true then da δ R else db δ R
theorem sim_ifx (h0 : SimT K ib b tt dt) (h1 : SimE K ib b ta da) (h2 : SimE K ib b tb db) : SimE K ib b (tIf tt ta tb) (dIf dt da db) := by
  intro H0 S H σ δ R Q o e h k
  refine h0 H0 S H σ δ _ _ o e h fun S1 H1 c g q => ?_
  cases c with
  | true => exact h1 H0 S1 H1 σ δ R Q g.ok (e.go g) q fun S3 H3 u du g3 r3 q3 => k S3 H3 u du (g.trans o g3) r3 q3
  | false => exact h2 H0 S1 H1 σ δ R Q g.ok (e.go g) q fun S3 H3 u du g3 r3 q3 => k S3 H3 u du (g.trans o g3) r3 q3
def isB (d : PyData) (R : Bool → Prop) : Prop := match d with
  | .bool c => R c
  | _ => False
theorem isB_of {S : Hp} {v : V} {d : PyData} {R : Bool → Prop} (r : Rep K S v d) (h : isB d R) : ∃ c, v = .bl c ∧ R c := by
  cases r with
  | bl c => exact ⟨c, rfl, h⟩
  | _ => exact h.elim
def dTest (de : DE) : DT := fun δ R => de δ fun d => isB d R
theorem sim_test (h1 : SimE K ib b te de) : SimT K ib b (tTest te) (dTest de) := by
  intro H0 S H σ δ R Q o e h k
  refine h1 H0 S H σ δ _ _ o e h fun S1 H1 v dv g r q => ?_
  obtain ⟨c, rfl, q⟩ := isB_of r q
  exact ⟨c, rfl, k S1 H1 c g q⟩
theorem sim_tB (h1 : SimE K ib b te de) : SimT K ib b (tB te) (dTest de) := by
  intro H0 S H σ δ R Q o e h k
  refine h1 H0 S H σ δ _ _ o e h fun S1 H1 v dv g r q => ?_
  obtain ⟨c, rfl, q⟩ := isB_of r q
  exact ⟨c, rfl, k S1 H1 c g q⟩
def dAnd (t u : DT) : DT := fun δ R => t δ fun c => if c = true then u δ R else R false
def dOr (t u : DT) : DT := fun δ R => t δ fun c => if c = true then R true else u δ R
def dNot (t : DT) : DT := fun δ R => t δ fun c => R (!c)
theorem sim_and (h1 : SimT K ib b tt dt) (h2 : SimT K ib b tu du) : SimT K ib b (tAnd tt tu) (dAnd dt du) := by
  intro H0 S H σ δ R Q o e h k
  refine h1 H0 S H σ δ _ _ o e h fun S1 H1 c g q => ?_
  cases c with
  | true => exact h2 H0 S1 H1 σ δ R Q g.ok (e.go g) q fun S3 H3 u g3 q3 => k S3 H3 u (g.trans o g3) q3
  | false => exact k S1 H1 false g q
theorem sim_or (h1 : SimT K ib b tt dt) (h2 : SimT K ib b tu du) : SimT K ib b (tOr tt tu) (dOr dt du) := by
  intro H0 S H σ δ R Q o e h k
  refine h1 H0 S H σ δ _ _ o e h fun S1 H1 c g q => ?_
  cases c with
  | false => exact h2 H0 S1 H1 σ δ R Q g.ok (e.go g) q fun S3 H3 u g3 q3 => k S3 H3 u (g.trans o g3) q3
  | true => exact k S1 H1 true g q
theorem sim_not (h1 : SimT K ib b tt dt) : SimT K ib b (tNot tt) (dNot dt) := by
  intro H0 S H σ δ R Q o e h k
  exact h1 H0 S H σ δ _ _ o e h fun S1 H1 c g q => k S1 H1 (!c) g q
def dAndV (da db : DE) : DE := fun δ R => da δ fun d => isB d fun c => if c = true then db δ R else R (.bool false)
def dOrV (da db : DE) : DE := fun δ R => da δ fun d => isB d fun c => if c = true then R (.bool true) else db δ R
def dNotV (da : DE) : DE := fun δ R => da δ fun d => isB d fun c => R (.bool (!c))
theorem sim_andV (h1 : SimE K ib b ta da) (h2 : SimE K ib b tb db) : SimE K ib b (tAndV ta tb) (dAndV da db) := by
  intro H0 S H σ δ R Q o e h k
  refine h1 H0 S H σ δ _ _ o e h fun S1 H1 v dv g r q => ?_
  obtain ⟨c, rfl, q⟩ := isB_of r q
  refine ⟨c, rfl, ?_⟩
  cases c with
  | true => exact h2 H0 S1 H1 σ δ R Q g.ok (e.go g) q fun S3 H3 u du g3 r3 q3 => k S3 H3 u du (g.trans o g3) r3 q3
  | false => exact k S1 H1 _ _ g (.bl false) q
theorem sim_orV (h1 : SimE K ib b ta da) (h2 : SimE K ib b tb db) : SimE K ib b (tOrV ta tb) (dOrV da db) := by
  intro H0 S H σ δ R Q o e h k
  refine h1 H0 S H σ δ _ _ o e h fun S1 H1 v dv g r q => ?_
  obtain ⟨c, rfl, q⟩ := isB_of r q
  refine ⟨c, rfl, ?_⟩
  cases c with
  | false => exact h2 H0 S1 H1 σ δ R Q g.ok (e.go g) q fun S3 H3 u du g3 r3 q3 => k S3 H3 u du (g.trans o g3) r3 q3
  | true => exact k S1 H1 _ _ g (.bl true) q
theorem sim_notV (h1 : SimE K ib b ta da) : SimE K ib b (tNotV ta) (dNotV da) := by
  intro H0 S H σ δ R Q o e h k
  refine h1 H0 S H σ δ _ _ o e h fun S1 H1 v dv g r q => ?_
  obtain ⟨c, rfl, q⟩ := isB_of r q
  exact ⟨c, rfl, k S1 H1 _ _ g (.bl _) q⟩
def dChain (dr dr' : PyData → PyData → (PyData → Prop) → Prop) (da db dc : DE) : DE := fun δ R => da δ fun x => db δ fun y => dr x y fun z => isB z fun k =>
  if k = true then dc δ fun w => dr' y w R else R (.bool false)
theorem sim_chain {r r' : R2} {dr dr' : PyData → PyData → (PyData → Prop) → Prop} (hr : SimR2 K ib b r dr) (hr' : SimR2 K ib b r' dr') (h1 : SimE K ib b ta da) (h2 : SimE K ib b tb db) (h3 : SimE K ib b tc dc) :
    SimE K ib b (tChain r r' ta tb tc) (dChain dr dr' da db dc) := by
  intro H0 S H σ δ R Q o e h k
  refine h1 H0 S H σ δ _ _ o e h fun S1 H1 v dv g r q => ?_
  refine h2 H0 S1 H1 σ δ _ _ g.ok (e.go g) q fun S2 H2 w dw g2 r2 q2 => ?_
  have g12 := g.trans o g2
  refine hr S2 H2 v w dv dw _ _ g2.ok (r.mono g2.st) r2 q2 fun S3 H3 u du g3 r3 q3 => ?_
  obtain ⟨c, rfl, q3⟩ := isB_of r3 q3
  have g13 := g12.trans o g3
  refine ⟨c, rfl, ?_⟩
  cases c with
  | false => exact k S3 H3 _ _ g13 (.bl false) q3
  | true =>
    refine h3 H0 S3 H3 σ δ _ _ g3.ok (e.go g13) q3 fun S4 H4 x dx g4 r4 q4 => ?_
    exact hr' S4 H4 w x dw dx R Q g4.ok (r2.mono (g3.st.trans g4.st)) r4 q4 fun S5 H5 u du g5 r5 q5 => k S5 H5 u du ((g13.trans o g4).trans o g5) r5 q5
/-- slices -/
def dNoPart : DO := fun _ R => R none
def isI (d : PyData) (R : Int → Prop) : Prop := match d with
  | .int i => R i
  | _ => False
theorem isI_of {S : Hp} {v : V} {d : PyData} {R : Int → Prop} (r : Rep K S v d) (h : isI d R) : ∃ c, v = .int c ∧ d = .int c ∧ R c := by
  cases r with
  | int c => exact ⟨c, rfl, rfl, h⟩
  | _ => exact h.elim
def dPart (de : DE) : DO := fun δ R => de δ fun d => isI d fun i => R (some i)
theorem sim_noPart : SimO K ib b tNoPart dNoPart := fun H0 S H σ δ R Q o e h k => k S H none (Go.refl o) h
theorem sim_part (h1 : SimE K ib b te de) : SimO K ib b (tPart te) (dPart de) := by
  intro H0 S H σ δ R Q o e h k
  refine h1 H0 S H σ δ _ _ o e h fun S1 H1 v dv g r q => ?_
  obtain ⟨c, rfl, _, q⟩ := isI_of r q
  exact ⟨c, rfl, k S1 H1 _ g q⟩
def dSl (dr : PyData → Option Int → Option Int → (PyData → Prop) → Prop) (de : DE) (dl dh : DO) : DE := fun δ R => de δ fun x => dl δ fun l => dh δ fun u => dr x l u R
def SimSl (K : PySem.W.Frag) (ib : Option Nat) (b : Bg) (r : V → Option Int → Option Int → Hp → VK → Prop) (dr : PyData → Option Int → Option Int → (PyData → Prop) → Prop) : Prop :=
  ∀ (S H : Hp) (x : V) (dx : PyData) (l u : Option Int) (R : PyData → Prop) (Q : VK), Okk ib b S H → Rep K S x dx → dr dx l u R →
    (∀ S' H' v d, Go ib b S H S' H' → Rep K S' v d → R d → Q v H') → r x l u H Q
theorem sim_sl {r : V → Option Int → Option Int → Hp → VK → Prop} {dr : PyData → Option Int → Option Int → (PyData → Prop) → Prop} {tl th : TO} {dl dh : DO}
    (hr : SimSl K ib b r dr) (h1 : SimE K ib b te de) (h2 : SimO K ib b tl dl) (h3 : SimO K ib b th dh) : SimE K ib b (tSl r te tl th) (dSl dr de dl dh) := by
  intro H0 S H σ δ R Q o e h k
  refine h1 H0 S H σ δ _ _ o e h fun S1 H1 v dv g r q => ?_
  refine h2 H0 S1 H1 σ δ _ _ g.ok (e.go g) q fun S2 H2 l g2 q2 => ?_
  have g12 := g.trans o g2
  refine h3 H0 S2 H2 σ δ _ _ g2.ok (e.go g12) q2 fun S3 H3 u g3 q3 => ?_
  have g13 := g12.trans o g3
  exact hr S3 H3 v dv l u R Q g3.ok (r.mono (g2.st.trans g3.st)) q3 fun S4 H4 x dx g4 r4 q4 => k S4 H4 x dx (g13.trans o g4) r4 q4
end
end DL

/-! Statements, loops and comprehensions over data; promises of defs over data. -/
namespace DL
open PySem PySem.Spec PyProof.Rows L2
open Evl (Ex ex_l ex_t)
variable [TheW]
section
variable {K : PySem.W.Frag} {ib : Option Nat} {b : Bg}
variable {te : TE} {de : DE} {ts tu : TS} {ds du : DS} {tt : TT} {dt : DT} {g : TG} {dg : DG} {ti : TI} {di : DA} {t : TA} {d : DA}

theorem EndsOk.with {H0 S0 Sm : Hp} {D : Ends} {DD : DEnds} (e : EndsOk K ib b H0 S0 Sm D DD) {n : L2.St → Hp → Prop} {m : DEnv → Prop}
    (h : ∀ S H σ δ, Go ib b S0 H0 S H → Ex Sm S → EnvOk K ib b H0 S H σ δ → m δ → n σ H) : EndsOk K ib b H0 S0 Sm { D with nx := n } { DD with nx := m } :=
  ⟨h, e.rt, e.bk, e.ct, e.ro⟩
def dNext : DS := fun DD δ => DD.nx δ
def dSeq (s1 s2 : DS) : DS := fun DD δ => s1 { DD with nx := s2 DD } δ
theorem sim_next : SimS K ib b tNext dNext := fun S0 H0 Sm S H σ δ D DD o em g e h x => x.nx S H σ δ g em e h
theorem sim_seq (h1 : SimS K ib b ts ds) (h2 : SimS K ib b tu du) : SimS K ib b (tSeq ts tu) (dSeq ds du) := by
  intro S0 H0 Sm S H σ δ D DD o em g e h x
  exact h1 S0 H0 Sm S H σ δ _ _ o em g e h (x.with fun S' H' σ' δ' g' em' e' q => h2 S0 H0 Sm S' H' σ' δ' D DD o em' g' e' q x)
/-- a cut: what is known in the middle -/
def dCut (M : DEnv → Prop) (s1 s2 : DS) : DS := fun DD δ => s1 { DD with nx := M } δ ∧ ∀ δ', M δ' → s2 DD δ'
theorem sim_cut (M : DEnv → Prop) (h1 : SimS K ib b ts ds) (h2 : SimS K ib b tu du) : SimS K ib b (tSeq ts tu) (dCut M ds du) := by
  intro S0 H0 Sm S H σ δ D DD o em g e h x
  exact h1 S0 H0 Sm S H σ δ _ _ o em g e h.1 (x.with fun S' H' σ' δ' g' em' e' q => h2 S0 H0 Sm S' H' σ' δ' D DD o em' g' e' (h.2 δ' q) x)
def dBreak : DS := fun DD δ => DD.bk δ
def dCont : DS := fun DD δ => DD.ct δ
theorem sim_break : SimS K ib b tBreak dBreak := fun S0 H0 Sm S H σ δ D DD o em g e h x => x.bk S H σ δ g em e h
theorem sim_cont : SimS K ib b tCont dCont := fun S0 H0 Sm S H σ δ D DD o em g e h x => x.ct S H σ δ g em e h
def dRet (de : DE) : DS := fun DD δ => de δ DD.rt
theorem sim_ret (h1 : SimE K ib b te de) : SimS K ib b (tRet te) (dRet de) := by
  intro S0 H0 Sm S H σ δ D DD o em g e h x
  exact h1 H0 S H σ δ _ _ g.ok e h fun S1 H1 v dv g1 r q => x.rt S1 H1 v dv (g.trans o g1) (em.trans g1.st) r q
def dRetN : DS := fun DD δ => DD.rt .none
theorem sim_retN : SimS K ib b tRetN dRetN := fun S0 H0 Sm S H σ δ D DD o em g e h x => x.rt S H .non .none g em .non h
def dDrop (de : DE) : DS := fun DD δ => de δ fun _ => DD.nx δ
theorem sim_drop (h1 : SimE K ib b te de) : SimS K ib b (tDrop te) (dDrop de) := by
  intro S0 H0 Sm S H σ δ D DD o em g e h x
  exact h1 H0 S H σ δ _ _ g.ok e h fun S1 H1 v dv g1 r q => x.nx S1 H1 σ δ (g.trans o g1) (em.trans g1.st) (e.go g1) q
def dIfS (dt : DT) (s1 s2 : DS) : DS := fun DD δ => dt δ fun c => if c = true then s1 DD δ else s2 DD δ
theorem sim_if (h0 : SimT K ib b tt dt) (h1 : SimS K ib b ts ds) (h2 : SimS K ib b tu du) : SimS K ib b (tIfS tt ts tu) (dIfS dt ds du) := by
  intro S0 H0 Sm S H σ δ D DD o em g e h x
  refine h0 H0 S H σ δ _ _ g.ok e h fun S1 H1 c g1 q => ?_
  cases c with
  | true => exact h1 S0 H0 Sm S1 H1 σ δ D DD o (em.trans g1.st) (g.trans o g1) (e.go g1) q x
  | false => exact h2 S0 H0 Sm S1 H1 σ δ D DD o (em.trans g1.st) (g.trans o g1) (e.go g1) q x

/-! targets -/
def dgName (i : Nat) : DG := fun d δ R => R (δ.set i (some (.dat d)))
theorem simg_name {i : Nat} (hi : ib ≠ some i) : SimG K ib b (gName i) (dgName i) := fun H0 S H σ δ v d R Q o e r h k => k S H _ _ (Go.refl o) (e.set hi r) h
abbrev DGs := List PyData → DEnv → (DEnv → Prop) → Prop
def SimGs (K : PySem.W.Frag) (ib : Option Nat) (b : Bg) (g : TGs) (dg : DGs) : Prop := ∀ (H0 S H : Hp) (σ : L2.St) (δ : DEnv) (vs : List V) (dvs : List PyData) (R : DEnv → Prop) (Q : L2.St → Hp → Prop), Okk ib b S H → EnvOk K ib b H0 S H σ δ →
  Reps K S vs dvs → dg dvs δ R → (∀ S' H' σ' δ', Go ib b S H S' H' → EnvOk K ib b H0 S' H' σ' δ' → R δ' → Q σ' H') → g vs σ H Q
def dgNil : DGs := fun vs δ R => match vs with
  | [] => R δ
  | _ => False
def dgCons (g : DG) (u : DGs) : DGs := fun vs δ R => match vs with
  | d :: r => g d δ fun δ' => u r δ' R
  | _ => False
theorem simg_nil : SimGs K ib b gNil dgNil := by
  intro H0 S H σ δ vs dvs R Q o e r h k
  cases r with
  | nil => exact ⟨rfl, k S H σ δ (Go.refl o) e h⟩
  | cons _ _ => exact h.elim
theorem simg_cons {u : TGs} {dgs : DGs} (h1 : SimG K ib b g dg) (h2 : SimGs K ib b u dgs) : SimGs K ib b (gCons g u) (dgCons dg dgs) := by
  intro H0 S H σ δ vs dvs R Q o e r h k
  cases r with
  | nil => exact h.elim
  | cons r rs =>
    refine ⟨_, _, rfl, ?_⟩
    exact h1 H0 S H σ δ _ _ _ _ o e r h fun S1 H1 σ' δ' g1 e' q => h2 H0 S1 H1 σ' δ' _ _ R Q g1.ok e' (rs.mono g1.st) q fun S2 H2 σ2 δ2 g2 e2 q2 => k S2 H2 σ2 δ2 (g1.trans o g2) e2 q2
def dgTup (n : Nat) (u : DGs) : DG := fun d δ R => match d with
  | .tuple ds => ds.length = n ∧ u ds δ R
  | _ => False
theorem simg_tup {n : Nat} {u : TGs} {dgs : DGs} (h2 : SimGs K ib b u dgs) : SimG K ib b (gTup K n u) (dgTup n dgs) := by
  intro H0 S H σ δ v d R Q o e r h k
  cases r with
  | tup hq rs =>
    have ex : Ex S H := o.sub
    exact ⟨_, _, rfl, ex_t ex hq, by rw [rs.length]; exact h.1, h2 H0 S H σ δ _ _ R Q o e rs h.2 k⟩
  | _ => exact h.elim
def dAsg (de : DE) (dg : DG) : DS := fun DD δ => de δ fun d => dg d δ DD.nx
theorem sim_asg (h1 : SimE K ib b te de) (h2 : SimG K ib b g dg) : SimS K ib b (tAsg te g) (dAsg de dg) := by
  intro S0 H0 Sm S H σ δ D DD o em g0 e h x
  refine h1 H0 S H σ δ _ _ g0.ok e h fun S1 H1 v dv g1 r q => ?_
  refine h2 H0 S1 H1 σ δ v dv _ _ g1.ok (e.go g1) r q fun S2 H2 σ' δ' g2 e' q' => ?_
  have g12 := g1.trans g0.ok g2
  exact x.nx S2 H2 σ' δ' (g0.trans o g12) (em.trans g12.st) e' q'
def dPar (i j : Nat) (da : DA) : DS := fun DD δ => da δ fun vs => match vs with
  | [x, y] => DD.nx ((δ.set i (some (.dat x))).set j (some (.dat y)))
  | _ => False
theorem sim_par {i j : Nat} (hi : ib ≠ some i) (hj : ib ≠ some j) (h1 : SimA K ib b t d) : SimS K ib b (tPar i j t) (dPar i j d) := by
  intro S0 H0 Sm S H σ δ D DD o em g0 e h x
  refine h1 H0 S H σ δ _ _ g0.ok e h fun S1 H1 vs ds g1 r q => ?_
  match vs, ds, r with
  | [v, w], [dv, dw], .cons r1 (.cons r2 .nil) =>
    exact ⟨v, w, rfl, x.nx S1 H1 _ _ (g0.trans o g1) (em.trans g1.st) (((e.go g1).set hi r1).set hj r2) q⟩
  | [], [], _ => exact q.elim
  | [_], [_], _ => exact q.elim
  | _ :: _ :: _ :: _, _ :: _ :: _ :: _, _ => exact q.elim
def dAug (i : Nat) (de : DE) (dr : PyData → PyData → (PyData → Prop) → Prop) : DS := fun DD δ => match δ[i]? with
  | some (some (.dat x)) => de δ fun y => dr x y fun z => DD.nx (δ.set i (some (.dat z)))
  | _ => False
theorem sim_aug {i : Nat} {tip : TIp} {dr : PyData → PyData → (PyData → Prop) → Prop} (hi : ib ≠ some i) (h1 : SimE K ib b te de) (hr : SimR2 K ib b tip dr) : SimS K ib b (tAug i te tip) (dAug i de dr) := by
  intro S0 H0 Sm S H σ δ D DD o em g0 e h x
  unfold dAug at h
  split at h
  · rename_i dx q0
    obtain ⟨v, e1, r0⟩ := e.dat i dx q0
    refine ⟨v, e1, ?_⟩
    refine h1 H0 S H σ δ _ _ g0.ok e h fun S1 H1 w dw g1 r q => ?_
    refine hr S1 H1 v w dx dw _ _ g1.ok (r0.mono g1.st) r q fun S2 H2 z dz g2 r2 q2 => ?_
    have g12 := g1.trans g0.ok g2
    exact x.nx S2 H2 _ _ (g0.trans o g12) (em.trans g12.st) ((e.go g12).set hi r2) q2
  · exact h.elim

/-! a list of one's own -/
def dAsgOwn (d : DA) (i : Nat) : DS := fun DD δ => d δ fun ds => small ds.length = true ∧ DD.nx (δ.set i (some (.own ds)))
theorem sim_asgOwn {i : Nat} (hi : ib ≠ some i) (h1 : SimA K ib b t d) : SimS K ib b (tAsg (tLst t) (gName i)) (dAsgOwn d i) := by
  intro S0 H0 Sm S H σ δ D DD o em g0 e h x
  refine h1 H0 S H σ δ _ _ g0.ok e h fun S1 H1 vs dvs g1 r q => ⟨by rw [r.length]; exact small_ok q.1, fun p hp => ?_⟩
  have g2 := Go.laidOwn (u := .lst vs) g1.ok hp
  have g12 := g1.trans g0.ok g2
  have g02 := g0.trans o g12
  have h0 : H0 p = none := by
    cases z : H0 p with
    | none => rfl
    | some u =>
      have := (g0.trans o g1).stays (fun z => (o.bag z).tr) (a := p) (by rw [z]; exact Option.some_ne_none _)
      exact absurd hp this
  refine x.nx S1 _ _ _ g02 (em.trans g1.st) ((e.go g12).setOwn hi upd_same r (Ex.none_of g1.ok.sub hp) h0 (fun z w => ?_) (fun j es hj a1 a2 => ?_)) q.2
  · exact (g1.ok.bag z).tr (w ▸ hp)
  · obtain ⟨p', xs, b1, b2, _⟩ := (e.go g1).own j es a1
    rw [b1] at a2
    have : p' = p := V.ref.inj (Option.some.inj (Option.some.inj a2))
    rw [this, hp] at b2
    cases b2
/-- x.append(e) of such a list -/
def dAppend (i : Nat) (de : DE) : DS := fun DD δ => match δ[i]? with
  | some (some (.own ds)) => de δ fun y => small (ds.length + 1) = true ∧ DD.nx (δ.set i (some (.own (ds ++ [y]))))
  | _ => False
theorem setOwn_go {S0 H0 S H : Hp} {σ : L2.St} {δ : DEnv} {i : Nat} {ds es : List PyData} {p : Addr} {xs ys : List V} (hi : ib ≠ some i) (o : Okk ib b S0 H0) (g0 : Go ib b S0 H0 S H) (e : EnvOk K ib b H0 S H σ δ)
    (q0 : δ[i]? = some (some (DV.own ds))) (hσ : σ[i]? = some (some (V.ref p))) (hp : H p = some (.lst xs)) (hS : S p = none) (h0 : H0 p = none) (hb : ib ≠ none → p ≠ b.1)
    (hu : ∀ (j : Nat) (es : List PyData), δ[j]? = some (some (DV.own es)) → σ[j]? = some (some (V.ref p)) → j = i) (r : Reps K S ys es) :
    Go ib b S0 H0 S (upd H p (.lst ys)) ∧ EnvOk K ib b H0 S (upd H p (.lst ys)) σ (δ.set i (some (.own es))) := by
  have kp : ∀ a u, a ≠ p → H a = some u → upd H p (.lst ys) a = some u := fun a u n q => by rw [upd_ne n]; exact q
  have sub2 : Ex S (upd H p (.lst ys)) := fun a u q => kp a u (ne_of_none q hS) (g0.ok.sub a u q)
  have bag2 : ib ≠ none → Bag b (upd H p (.lst ys)) := fun z => (g0.ok.bag z).kept fun a u c q => kp a u (by
    rcases c with c | c
    · rw [c]; exact fun w => hb z w.symm
    · rw [c]; exact fun w => absurd h0 (w ▸ (o.bag z).tr2)) q
  refine ⟨⟨g0.st, fun a u c q => kp a u (ne_of_none q h0) (g0.keep a u c q), g0.new, ⟨sub2, g0.ok.off, bag2⟩⟩, ?_⟩
  have hlt : i < δ.length := (List.getElem?_eq_some_iff.mp q0).1
  have at_ : ∀ (j : Nat) (x : DV), j ≠ i → (δ.set i (some (DV.own es)))[j]? = some (some x) → δ[j]? = some (some x) := by
    intro j x hj q
    rw [List.getElem?_set_ne (Ne.symm hj)] at q
    exact q
  have hfn : ∀ (j : Nat) (a : Addr), (δ.set i (some (DV.own es)))[j]? = some (some (DV.fn a)) → σ[j]? = some (some (V.ref a)) := by
    intro j a q
    by_cases hj : j = i
    · subst hj
      rw [List.getElem?_set_self hlt] at q
      cases q
    · exact e.fn j a (at_ j _ hj q)
  have hdct : ∀ (j : Nat) (c : Cont), (δ.set i (some (DV.own es)))[j]? = some (some (DV.dct c)) → δ[j]? = some (some (DV.dct c)) := by
    intro j c q
    by_cases hj : j = i
    · subst hj
      rw [List.getElem?_set_self hlt] at q
      cases q
    · exact at_ j _ hj q
  refine ⟨by rw [List.length_set]; exact e.len, e.slot, fun j x q => ?_, fun j fs q => ?_, hfn, fun j c q => by
    obtain ⟨p', o', h1, h2, h3, h4, h5, h6, h7⟩ := e.dct j c (hdct j c q)
    have np : p' ≠ p := by
      intro w
      subst w
      rw [hp] at h2
      cases h2
      exact h3.noLst
    exact ⟨p', o', h1, kp _ _ np h2, h3, h4, h5, h6, fun m c' a1 a2 => h7 m c' (hdct m c' a1) a2⟩⟩
  · by_cases hj : j = i
    · subst hj
      rw [List.getElem?_set_self hlt] at q
      cases q
    · exact e.dat j x (at_ j _ hj q)
  · have uniq : ∀ (m : Nat) (gs : List PyData), (δ.set i (some (DV.own es)))[m]? = some (some (DV.own gs)) → ∃ gs', δ[m]? = some (some (DV.own gs')) := by
      intro m gs a
      by_cases hm : m = i
      · exact ⟨ds, by rw [hm]; exact q0⟩
      · exact ⟨gs, at_ m _ hm a⟩
    by_cases hj : j = i
    · subst hj
      rw [List.getElem?_set_self hlt] at q
      cases q
      refine ⟨p, ys, hσ, upd_same, r, hS, h0, hb, fun m gs a1 a2 => ?_⟩
      obtain ⟨gs', a1⟩ := uniq m gs a1
      exact hu m gs' a1 a2
    · obtain ⟨p', xs', h1, h2, h3, h4, h5, h6, h7⟩ := e.own j fs (at_ j _ hj q)
      have np : p' ≠ p := by
        intro w
        subst w
        exact hj (hu j fs (at_ j _ hj q) h1)
      refine ⟨p', xs', h1, kp _ _ np h2, h3, h4, h5, h6, fun m gs a1 a2 => ?_⟩
      obtain ⟨gs', a1⟩ := uniq m gs a1
      exact h7 m gs' a1 a2
theorem sim_append {i : Nat} (hi : ib ≠ some i) (h1 : SimE K ib b te de) : SimS K ib b (tDrop (tBM K "list" rAppend (tVar i) (tCons te tNil))) (dAppend i de) := by
  intro S0 H0 Sm S H σ δ D DD o em g0 e h x
  unfold dAppend at h
  split at h
  · rename_i ds q0
    obtain ⟨p, xs, hσ, hp, hr, hS, h0, hb, hu⟩ := e.own i ds q0
    refine ⟨_, hσ, .inl ⟨rfl, xs, .inl (.inl hp)⟩, ?_⟩
    refine h1 H0 S H σ δ _ _ g0.ok e h fun S1 H1 v dv g1 r q => ?_
    have hp1 := g1.keep p _ hb hp
    have hS1 := g1.new p (by rw [hp]; exact Option.some_ne_none _) hS
    refine ⟨p, xs, v, rfl, rfl, hp1, by rw [hr.length]; exact small_lt q.1, ?_⟩
    obtain ⟨ga, ea⟩ := setOwn_go (ys := xs ++ [v]) hi o (g0.trans o g1) (e.go g1) q0 hσ hp1 hS1 h0 hb hu ((hr.mono g1.st).append (.cons r .nil))
    exact x.nx S1 _ _ _ ga (em.trans g1.st) ea q.2
  · exact h.elim
/-- x.extend(e), e some data -/
def dExtend (i : Nat) (de : DE) : DS := fun DD δ => match δ[i]? with
  | some (some (.own ds)) => de δ fun y => match y with
    | .list es => small (ds.length + es.length) = true ∧ DD.nx (δ.set i (some (.own (ds ++ es))))
    | _ => False
  | _ => False

/-! loops -/
def dFor (di : DA) (dg : DG) (ds : DS) : DS := fun DD δ => di δ fun xs => ∃ I : Nat → DEnv → Prop, I 0 δ ∧
  (∀ i x δ', xs[i]? = some x → I i δ' → dg x δ' fun δ2 => ds { DD with nx := I (i + 1), ct := I (i + 1), bk := DD.nx } δ2) ∧ ∀ δ', I xs.length δ' → DD.nx δ'
theorem sim_for (h1 : SimI K ib b ti di) (h2 : SimG K ib b g dg) (h3 : SimS K ib b ts ds) : SimS K ib b (tFor ti g ts) (dFor di dg ds) := by
  intro S0 H0 Sm S H σ δ D DD o em g0 e h x
  refine h1 H0 S H σ δ _ _ g0.ok e h fun S1 H1 J xs g1 wk q => ?_
  obtain ⟨I, i0, turn, done⟩ := q
  refine ⟨fun i m σ' H' => m = xs.length - i ∧ i ≤ xs.length ∧ ∃ S' δ', Ex S1 S' ∧ Go ib b S0 H0 S' H' ∧ EnvOk K ib b H0 S' H' σ' δ' ∧ I i δ',
    ⟨xs.length, by omega, Nat.zero_le _, S1, δ, Ex.refl S1, g0.trans o g1, e.go g1, i0⟩, ?_⟩
  rintro i m σ' H' ⟨rfl, hi, S', δ', ex, g', e', hI⟩
  obtain ⟨w1, w2, w3⟩ := wk S' H' ex g'.ok
  by_cases hlt : i < xs.length
  · refine .inr ⟨w1 i hlt, fun σ2 H2 => ∃ S2 δ2, Ex S1 S2 ∧ Go ib b S0 H0 S2 H2 ∧ EnvOk K ib b H0 S2 H2 σ2 δ2 ∧ I (i + 1) δ2, ?_, ?_⟩
    · rintro σ2 H2 ⟨S2, δ2, a1, a2, a3, a4⟩
      exact ⟨xs.length - (i + 1), by omega, rfl, hlt, S2, δ2, a1, a2, a3, a4⟩
    · intro y H2 hy
      obtain ⟨S2, dy, g2, hy2, ry⟩ := w3 i y H2 hlt hy
      have ga := g'.trans o g2
      refine h2 H0 S2 H2 σ' δ' y dy _ _ ga.ok (e'.go g2) ry (turn i dy δ' hy2 hI) fun S3 H3 σ3 δ3 g3 e3 q3 => ?_
      have exx : Ex S1 S3 := ex.trans (g2.st.trans g3.st)
      refine h3 S0 H0 S1 S3 H3 σ3 δ3 _ _ o exx (ga.trans o g3) e3 q3 ⟨?_, ?_, ?_, ?_, ?_⟩
      · intro S4 H4 σ4 δ4 c1 c2 c3 c4
        exact ⟨S4, δ4, c2, c1, c3, c4⟩
      · intro S4 H4 v4 d4 c1 c2 c3 c4
        exact x.rt S4 H4 v4 d4 c1 (em.trans (g1.st.trans c2)) c3 c4
      · intro S4 H4 σ4 δ4 c1 c2 c3 c4
        exact x.nx S4 H4 σ4 δ4 c1 (em.trans (g1.st.trans c2)) c3 c4
      · intro S4 H4 σ4 δ4 c1 c2 c3 c4
        exact ⟨S4, δ4, c2, c1, c3, c4⟩
      · intro S4 H4 p4 xs4 es4 c1 c2 c3 c4 c5 c6 c7
        exact x.ro S4 H4 p4 xs4 es4 c1 (em.trans (g1.st.trans c2)) c3 c4 c5 c6 c7
  · have ei : i = xs.length := by omega
    subst ei
    exact .inl ⟨w2, x.nx S' H' σ' δ' g' (em.trans (g1.st.trans ex)) e' (done δ' hI)⟩

/-! the bag, whatever it holds -/
/-- xs[0], xs[1] of the bag: an int from 0 on; xs[2]: any int -/
def dBag : DE := fun _ R => ∀ n : Int, 0 ≤ n → R (.int n)
theorem at4 {x0 x1 x2 x3 : V} {i : Int} (h : i = 0 ∨ i = 1 ∨ i = 2 ∨ i = 3) : L2.atI [x0, x1, x2, x3] i = some (if i = 0 then x0 else if i = 1 then x1 else if i = 2 then x2 else x3) := by
  rcases h with h | h | h | h <;> subst h <;> rfl
theorem sim_bag {i : Nat} {j : Int} (hi : ib = some i) (hj : j = 0 ∨ j = 1) : SimE K ib b (tOp (rIx K) (tVar i) (tC (.int j))) dBag := by
  intro H0 S H σ δ R Q o e h k
  obtain ⟨r, m, n, ns, e1, ne, e2, e3, h1, h2, h3⟩ := (o.bag (by rw [hi]; simp)).ex
  refine ⟨_, e.slot i hi, .inl ⟨b.1, _, j, _, rfl, rfl, SqL.of e1, at4 (by omega), ?_⟩⟩
  rcases hj with hj | hj
  · subst hj
    exact k S H _ _ (Go.refl o) (.int r) (h r h1)
  · subst hj
    exact k S H _ _ (Go.refl o) (.int m) (h m h2)
def dBagAny : DE := fun _ R => ∀ n : Int, R (.int n)
theorem sim_bag2 {i : Nat} (hi : ib = some i) : SimE K ib b (tOp (rIx K) (tVar i) (tC (.int 2))) dBagAny := by
  intro H0 S H σ δ R Q o e h k
  obtain ⟨r, m, n, ns, e1, ne, e2, e3, h1, h2, h3⟩ := (o.bag (by rw [hi]; simp)).ex
  exact ⟨_, e.slot i hi, .inl ⟨b.1, _, 2, _, rfl, rfl, SqL.of e1, at4 (by omega), k S H _ _ (Go.refl o) (.int n) (h n)⟩⟩
/-- the cells from some place on -/
def dCells : DE := fun _ R => ∀ ns : List Int, (∀ n ∈ ns, 0 ≤ n) → ns.length ≤ 63 → R (.list (ns.map .int))
theorem bag_set {i : Nat} {H0 S H : Hp} {σ : L2.St} {δ : DEnv} (hi : ib = some i) (o : Okk ib b S H) (e : EnvOk K ib b H0 S H σ δ) {r m n : Int} (h1 : 0 ≤ r) (h2 : 0 ≤ m) :
    Go ib b S H S (upd H b.1 (.lst [.int r, .int m, .int n, .ref b.2])) := by
  have z : ib ≠ none := by rw [hi]; simp
  obtain ⟨r', m', n', ns, e1, ne, e2, e3, _, _, h3⟩ := (o.bag z).ex
  have kp : ∀ a u, a ≠ b.1 → H a = some u → upd H b.1 (.lst [.int r, .int m, .int n, .ref b.2]) a = some u := fun a u c q => by rw [upd_ne c]; exact q
  exact ⟨Ex.refl S, fun a u c q => kp a u (c z) q, fun _ _ q => q, ⟨fun a u q => kp a u (ne_of_none q (o.off z)) (o.sub a u q), o.off, fun _ => ⟨r, m, n, ns, upd_same, ne, kp _ _ ne e2, e3, h1, h2, h3⟩⟩⟩
/-- bag[0] = e, bag[1] = e -/
def dgBag : DG := fun d δ R => match d with
  | .int n => 0 ≤ n ∧ R δ
  | _ => False
theorem simg_bag {i : Nat} {j : Int} (hi : ib = some i) (hj : j = 0 ∨ j = 1) : SimG K ib b (gSub (tVar i) (tC (.int j)) rSetL) dgBag := by
  intro H0 S H σ δ v d R Q o e rv h k
  obtain ⟨r, m, n, ns, e1, ne, e2, e3, h1, h2, h3⟩ := (o.bag (by rw [hi]; simp)).ex
  cases rv with
  | int x =>
    have h : 0 ≤ x ∧ R δ := h
    rcases hj with hj | hj
    · subst hj
      have g := bag_set hi o e (r := x) (m := m) (n := n) h.1 h2
      exact ⟨_, e.slot i hi, b.1, _, 0, 0, rfl, rfl, e1, rfl, k S _ σ δ g (e.go g) h.2⟩
    · subst hj
      have g := bag_set hi o e (r := r) (m := x) (n := n) h1 h.1
      exact ⟨_, e.slot i hi, b.1, _, 1, 1, rfl, rfl, e1, rfl, k S _ σ δ g (e.go g) h.2⟩
  | _ => exact h.elim
end
end DL

namespace DL
open PySem PySem.Spec PyProof.Rows L2
open Evl (Ex ex_l ex_t)
variable [TheW]

/-! ### comprehensions -/
theorem wipe_get (σ : L2.St) : ∀ (vs : List Nat) (i : Nat), (wipe σ vs)[i]? = if i ∈ vs ∧ i < σ.length then some none else σ[i]?
  | [], i => by simp [wipe]
  | v :: vs, i => by
    show ((wipe σ vs).set v none)[i]? = _
    by_cases h : i = v
    · subst h
      by_cases hl : i < σ.length
      · rw [List.getElem?_set_self (by rw [wipe_length]; exact hl), if_pos ⟨List.mem_cons_self .., hl⟩]
      · rw [List.getElem?_eq_none (by rw [List.length_set, wipe_length]; omega), if_neg (fun z => hl z.2), List.getElem?_eq_none (by omega)]
    · rw [List.getElem?_set_ne (Ne.symm h), wipe_get σ vs i]
      have e : (i ∈ v :: vs ∧ i < σ.length) ↔ (i ∈ vs ∧ i < σ.length) := by simp [h]
      by_cases c : i ∈ vs ∧ i < σ.length
      · rw [if_pos c, if_pos (e.mpr c)]
      · rw [if_neg c, if_neg (fun z => c (e.mp z))]
theorem wipe_set (σ : L2.St) (vs : List Nat) (j : Nat) (x : Option V) (h : j ∈ vs) : wipe ((wipe σ vs).set j x) vs = wipe σ vs := by
  apply List.ext_getElem?
  intro i
  rw [wipe_get, wipe_get]
  have hl : ((wipe σ vs).set j x).length = σ.length := by rw [List.length_set, wipe_length]
  rw [hl]
  by_cases c : i ∈ vs ∧ i < σ.length
  · rw [if_pos c]
    rw [if_pos c]
  · rw [if_neg c, if_neg c]
    by_cases hi : i = j
    · subst hi
      have : ¬ i < σ.length := fun z => c ⟨h, z⟩
      rw [List.getElem?_eq_none (by rw [hl]; omega), List.getElem?_eq_none (by omega)]
    · rw [List.getElem?_set_ne (Ne.symm hi), wipe_get, if_neg c]
def wipeD (δ : DEnv) : List Nat → DEnv
  | [] => δ
  | v :: vs => (wipeD δ vs).set v none
theorem wipeD_length (δ : DEnv) : ∀ vs : List Nat, (wipeD δ vs).length = δ.length
  | [] => rfl
  | v :: vs => by unfold wipeD; rw [List.length_set, wipeD_length δ vs]
theorem wipeD_some {δ : DEnv} {i : Nat} {x : DV} : ∀ {vs : List Nat}, (wipeD δ vs)[i]? = some (some x) → δ[i]? = some (some x) ∧ i ∉ vs
  | [], h => ⟨h, by simp⟩
  | v :: vs, h => by
    unfold wipeD at h
    by_cases hv : i = v
    · subst hv
      by_cases hl : i < (wipeD δ vs).length
      · rw [List.getElem?_set_self hl] at h; cases h
      · rw [List.getElem?_eq_none (by rw [List.length_set]; omega)] at h; cases h
    · rw [List.getElem?_set_ne (Ne.symm hv)] at h
      obtain ⟨a, b⟩ := wipeD_some h
      exact ⟨a, by simp [hv, b]⟩
section
variable {K : PySem.W.Frag} {ib : Option Nat} {b : Bg}
theorem EnvOk.wipe {H0 S H : Hp} {σ : L2.St} {δ : DEnv} (e : EnvOk K ib b H0 S H σ δ) {vs : List Nat} (hv : ∀ i, ib = some i → i ∉ vs) : EnvOk K ib b H0 S H (L2.wipe σ vs) (wipeD δ vs) := by
  refine e.weak (by rw [wipe_length, wipeD_length]; exact e.len) (fun i hi => ?_) fun i x h => ?_
  · rw [wipe_get, if_neg (fun z => hv i hi z.1)]
    exact e.slot i hi
  · obtain ⟨h1, h2⟩ := wipeD_some h
    exact ⟨h1, by rw [wipe_get, if_neg (fun z => h2 z.1)]⟩
/-- an object of one's own (H did not know it) is changed -/
theorem Go.ownUpd {S H S1 H1 : Hp} {p : Addr} {u : HO} (o : Okk ib b S H) (g : Go ib b S H S1 H1) (hp : H p = none) (hS : S1 p = none) : Go ib b S H S1 (upd H1 p u) := by
  have kp : ∀ a x, a ≠ p → H1 a = some x → upd H1 p u a = some x := fun a x n e => by rw [upd_ne n]; exact e
  refine ⟨g.st, fun a x c e => kp a x (ne_of_none e hp) (g.keep a x c e), g.new, ⟨fun a x e => kp a x (ne_of_none e hS) (g.ok.sub a x e), g.ok.off, fun z => (g.ok.bag z).kept fun a x c e => kp a x ?_ e⟩⟩
  rcases c with c | c
  · rw [c]; exact fun w => (o.bag z).tr (w ▸ hp)
  · rw [c]; exact fun w => (o.bag z).tr2 (w ▸ hp)
/-- .. and then told to all -/
theorem Go.freeze {S H S1 H1 : Hp} {p : Addr} {u : HO} (o : Okk ib b S H) (g : Go ib b S H S1 H1) (hp : H p = none) (hS : S1 p = none) (hu : H1 p = some u) : Go ib b S H (upd S1 p u) H1 := by
  refine ⟨g.st.trans (Ex.new hS), g.keep, fun a h e => ?_, ⟨fun a x e => ?_, fun z => ?_, g.ok.bag⟩⟩
  · have : a ≠ p := fun w => h (w ▸ hp)
    rw [upd_ne this]
    exact g.new a h e
  · by_cases c : a = p
    · rw [c, upd_same] at e
      cases e
      rw [c]
      exact hu
    · rw [upd_ne c] at e
      exact g.ok.sub a x e
  · have : b.1 ≠ p := fun w => (o.bag z).tr (w ▸ hp)
    rw [upd_ne this]
    exact g.ok.off z
def dYes : DT := fun _ R => R true
theorem sim_yes : SimT K ib b tYes dYes := fun H0 S H σ δ R Q o e h k => k S H true (Go.refl o) h
variable {te : TE} {de : DE} {ts tu : TS} {ds du : DS} {tt : TT} {dt : DT} {g : TG} {dg : DG} {ti : TI} {di : DA} {t : TA} {d : DA}
def dLc (di : DA) (j : Nat) (dt : DT) (de : DE) (vs : List Nat) : DE := fun δ R => di δ fun xs => small xs.length = true ∧ ∃ I : Nat → List PyData → Prop, I 0 [] ∧
  (∀ i x acc, xs[i]? = some x → acc.length ≤ i → I i acc → dt ((wipeD δ vs).set j (some (.dat x))) fun c =>
    if c = true then de ((wipeD δ vs).set j (some (.dat x))) fun y => I (i + 1) (acc ++ [y]) else I (i + 1) acc) ∧ ∀ acc, acc.length ≤ xs.length → I xs.length acc → R (.list acc)
theorem sim_lc {j : Nat} {vs : List Nat} (hj : j ∈ vs) (hv : ∀ i, ib = some i → i ∉ vs) (h1 : SimI K ib b ti di) (h2 : SimT K ib b tt dt) (h3 : SimE K ib b te de) :
    SimE K ib b (tLc ti (gName j) tt te vs) (dLc di j dt de vs) := by
  intro H0 S H σ δ R Q o e h k
  refine h1 H0 S H σ δ _ _ o e h fun S1 H1 J xs g1 wk q D hD => ?_
  obtain ⟨hz, I, i0, turn, done⟩ := q
  have hij : ib ≠ some j := fun z => hv j z hj
  have oD := g1.ok
  have gD : Go ib b S1 H1 S1 (upd H1 D (.lst [])) := Go.laidOwn oD hD
  refine ⟨fun i m H' => m = xs.length - i ∧ i ≤ xs.length ∧ ∃ S' ys acc, Go ib b S1 H1 S' H' ∧ H' D = some (.lst ys) ∧ S' D = none ∧ Reps K S' ys acc ∧ acc.length ≤ i ∧ I i acc,
    ⟨xs.length, by omega, Nat.zero_le _, S1, [], [], gD, upd_same, Ex.none_of oD.sub hD, .nil, Nat.zero_le _, i0⟩, ?_⟩
  rintro i m H' ⟨rfl, hi, S', ys, acc, g', hys, hS', racc, hacc, hI⟩
  obtain ⟨w1, w2, w3⟩ := wk S' H' g'.st g'.ok
  by_cases hlt : i < xs.length
  · refine .inr ⟨w1 i hlt, fun H2 => ∃ S' ys acc, Go ib b S1 H1 S' H2 ∧ H2 D = some (.lst ys) ∧ S' D = none ∧ Reps K S' ys acc ∧ acc.length ≤ i + 1 ∧ I (i + 1) acc, ?_, ?_⟩
    · rintro H2 ⟨S2, ys2, acc2, a1, a2, a3, a4, a5, a6⟩
      exact ⟨xs.length - (i + 1), by omega, rfl, hlt, S2, ys2, acc2, a1, a2, a3, a4, a5, a6⟩
    · intro y H2 hy
      obtain ⟨S2, dy, g2, hy2, ry⟩ := w3 i y H2 hlt hy
      have nb : ib ≠ none → D ≠ b.1 := fun z w => (oD.bag z).tr (w ▸ hD)
      have gA := g'.trans oD g2
      have hys2 := g2.keep D _ nb hys
      have hS2 := g2.new D (by rw [hys]; exact Option.some_ne_none _) hS'
      have eA := (((e.go (g1.trans o gA)).wipe hv).set (i := j) hij ry)
      refine ⟨wipe_set σ vs j _ hj, ?_⟩
      refine h2 H0 S2 H2 _ _ _ _ gA.ok eA (turn i dy acc hy2 hacc hI) fun S3 H3 c g3 q3 => ?_
      have gB := gA.trans oD g3
      have hys3 := g3.keep D _ nb hys2
      have hS3 := g3.new D (by rw [hys2]; exact Option.some_ne_none _) hS2
      cases c with
      | true =>
        rw [if_pos rfl] at q3 ⊢
        refine h3 H0 S3 H3 _ _ _ _ gB.ok (eA.go g3) q3 fun S4 H4 v dv g4 r4 q4 => ?_
        have gC := gB.trans oD g4
        have hys4 := g4.keep D _ nb hys3
        have hS4 := g4.new D (by rw [hys3]; exact Option.some_ne_none _) hS3
        have rac4 := racc.mono ((g2.st.trans g3.st).trans g4.st)
        have hzz := of_decide_eq_true hz
        refine ⟨ys, hys4, by rw [rac4.length]; exact Evl.sz_lt (by omega), S4, ys ++ [v], acc ++ [dv], Go.ownUpd oD gC hD hS4, upd_same, hS4, rac4.append (.cons r4 .nil), ?_, q4⟩
        rw [List.length_append, List.length_singleton]
        omega
      | false =>
        rw [if_neg Bool.false_ne_true] at q3 ⊢
        exact ⟨S3, ys, acc, gB, hys3, hS3, racc.mono (g2.st.trans g3.st), by omega, q3⟩
  · have ei : i = xs.length := by omega
    subst ei
    refine .inl ⟨w2, ?_⟩
    have gF := Go.freeze oD g' hD hS' hys
    exact k _ H' _ (.list acc) (g1.trans o gF) (.lst upd_same (racc.mono (Ex.new hS'))) (done acc hacc hI)

/-! ### what is walked -/
def dItems (de : DE) : DA := fun δ R => de δ fun d => match d with
  | .list ds => R ds
  | _ => False
def dItemsT (de : DE) : DA := fun δ R => de δ fun d => match d with
  | .tuple ds => R ds
  | _ => False
theorem sim_iList (h1 : SimE K ib b te de) : SimI K ib b (iList K te) (dItems de) := by
  intro H0 S H σ δ R Q o e h k
  refine h1 H0 S H σ δ _ _ o e h fun S1 H1 v dv g r q => ?_
  cases r with
  | lst hq rs =>
    rename_i a xs ds
    refine ⟨a, rfl, ⟨xs, SqL.of (g.ok.sub _ _ hq)⟩, k S1 H1 _ ds g (fun S2 H2 ex o2 => ?_) q⟩
    have hL : SqL K H2 a xs := SqL.of (o2.sub _ _ (ex _ _ hq))
    have rl := rs.length
    refine ⟨fun i hi => ⟨xs, xs[i]'(by omega), hL, by simp⟩, ⟨xs, hL, by omega⟩, fun i x H' hi y => ?_⟩
    obtain ⟨rfl, y⟩ := y
    obtain ⟨d, hd, rd⟩ := rs.getV (y xs hL)
    exact ⟨S2, d, Go.refl o2, hd, rd.mono ex⟩
  | _ => exact q.elim
theorem sim_iTup (h1 : SimE K ib b te de) : SimI K ib b (iTup K te) (dItemsT de) := by
  intro H0 S H σ δ R Q o e h k
  refine h1 H0 S H σ δ _ _ o e h fun S1 H1 v dv g r q => ?_
  cases r with
  | tup hq rs =>
    rename_i a xs ds
    refine ⟨a, rfl, ⟨xs, ex_t g.ok.sub hq⟩, k S1 H1 _ ds g (fun S2 H2 ex o2 => ?_) q⟩
    have hL : SqT K H2 a xs := ex_t o2.sub (ex_t ex hq)
    have rl := rs.length
    refine ⟨fun i hi => ⟨xs, xs[i]'(by omega), hL, by simp⟩, ⟨xs, hL, by omega⟩, fun i x H' hi y => ?_⟩
    obtain ⟨rfl, y⟩ := y
    obtain ⟨d, hd, rd⟩ := rs.getV (y xs hL)
    exact ⟨S2, d, Go.refl o2, hd, rd.mono ex⟩
  | _ => exact q.elim
def intsD (lo : Int) (n : Nat) : List PyData := (List.range n).map fun i => .int (lo + (i : Nat))
theorem intsD_len (lo : Int) (n : Nat) : (intsD lo n).length = n := by unfold intsD; rw [List.length_map, List.length_range]
theorem intsD_get {lo : Int} {n i : Nat} (h : i < n) : (intsD lo n)[i]? = some (.int (lo + i)) := by
  unfold intsD
  rw [List.getElem?_map, List.getElem?_range h]
  rfl
theorem walk_itr {lo : Int} {n : Nat} {S : Hp} : WalkD K ib b S (Itr lo n) (intsD lo n) := by
  intro S1 H ex o
  rw [intsD_len]
  refine ⟨fun i hi => hi, Nat.le_refl _, fun i x H' hi y => ?_⟩
  obtain ⟨rfl, rfl⟩ := y
  exact ⟨S1, _, Go.refl o, intsD_get hi, .int _⟩
def dRng1 (d : DA) : DA := fun δ R => d δ fun ds => match ds with
  | [.int n] => -1000000 ≤ n ∧ n ≤ 1000000 ∧ R (intsD 0 n.toNat)
  | _ => False
theorem sim_rng1 (h1 : SimA K ib b t d) : SimI K ib b (iRng1 t) (dRng1 d) := by
  intro H0 S H σ δ R Q o e h k
  refine h1 H0 S H σ δ _ _ o e h fun S1 H1 vs dvs g r q => ?_
  split at q
  · cases r with
    | cons r1 r2 =>
      cases r2
      cases r1
      exact ⟨_, rfl, by omega, by omega, k S1 H1 _ _ g walk_itr q.2.2⟩
  · exact q.elim
def signs (x : Str) : List PyData := x.cps.toList.map fun c => .str ⟨#[c]⟩
def dSigns (de : DE) : DA := fun δ R => de δ fun d => match d with
  | .str x => R (signs x)
  | _ => False
theorem sim_iStr (h1 : SimE K ib b te de) : SimI K ib b (iStr te) (dSigns de) := by
  intro H0 S H σ δ R Q o e h k
  refine h1 H0 S H σ δ _ _ o e h fun S1 H1 v dv g r q => ?_
  cases r with
  | str x =>
    refine ⟨x, rfl, k S1 H1 _ _ g (fun S2 H2 ex o2 => ?_) q⟩
    have hl : (signs x).length = x.cps.size := by unfold signs; rw [List.length_map, Array.length_toList]
    rw [hl]
    refine ⟨fun i hi => hi, Nat.le_refl _, fun i y H' hi z => ?_⟩
    obtain ⟨rfl, c, hc, rfl⟩ := z
    refine ⟨S2, _, Go.refl o2, ?_, .str _⟩
    unfold signs
    rw [List.getElem?_map, Array.getElem?_toList, hc]
    rfl
  | _ => exact q.elim
end
end DL

/-! Operators and built-in calls over data; promises. -/
namespace DL
open PySem PySem.Spec PyProof.Rows L2
open Evl (Ex ex_l ex_t)
variable [TheW]

theorem OpR.or2 {X : Cx} {f : Value → Value → Sem Value} {r r' : R2} (h : OpR X f r) (h' : OpR X f r') : OpR X f (fun x y H Q => r x y H Q ∨ r' x y H Q) := by
  intro pins s σ H x y v u Q I rx ry q
  rcases q with q | q
  · exact h pins s σ H x y v u Q I rx ry q
  · exact h' pins s σ H x y v u Q I rx ry q
theorem CallR.or2 {X : Cx} {f : Value} {r r' : List V → Hp → VK → Prop} (h : CallR X f r) (h' : CallR X f r') : CallR X f (fun x H Q => r x H Q ∨ r' x H Q) := by
  intro pins s σ H x v Q I rx q
  rcases q with q | q
  · exact h pins s σ H x v Q I rx q
  · exact h' pins s σ H x v Q I rx q

def rStrCat : R2 := fun x y H Q => ∃ i j, x = .str i ∧ y = .str j ∧ i.length + j.length ≤ sizeLine ∧ Q (.str (i ++ j)) H
/-- + of ints, texts, lists, tuples -/
def rAddU (K : PySem.W.Frag) : R2 := fun x y H Q => ((rI0 (fun i j => .int (i + j)) x y H Q ∨ rStrCat x y H Q) ∨ rCat x y H Q) ∨ rCatA K x y H Q
theorem op_addU {X : Cx} : OpR X (binaryOp .Add) (rAddU X.K) := OpR.or2 (OpR.or2 (OpR.or2 op_add op_add_str) op_cat) op_catA
def rLtU (g : Int → Int → Bool) (s : Str → Str → Bool) : R2 := fun x y H Q => rI0 (fun i j => .bl (g i j)) x y H Q ∨ ∃ i j, x = .str i ∧ y = .str j ∧ Q (.bl (s i j)) H
def ltS (i j : Str) : Bool := decide (i.cps.toList < j.cps.toList)
theorem op_ltU {X : Cx} : OpR X (compareOp .Lt) (rLtU (fun i j => decide (i < j)) fun i j => ltS i j) := OpR.or2 op_lt op_lt_str
theorem op_leU {X : Cx} : OpR X (compareOp .LtE) (rLtU (fun i j => decide (i ≤ j)) fun i j => !ltS j i) := OpR.or2 op_le op_le_str
theorem op_gtU {X : Cx} : OpR X (compareOp .Gt) (rLtU (fun i j => decide (j < i)) fun i j => ltS j i) := OpR.or2 op_gt op_gt_str
theorem op_geU {X : Cx} : OpR X (compareOp .GtE) (rLtU (fun i j => decide (j ≤ i)) fun i j => !ltS i j) := OpR.or2 op_ge op_ge_str

section
variable {K : PySem.W.Frag} {ib : Option Nat} {b : Bg}
def dAdd : PyData → PyData → (PyData → Prop) → Prop := fun x y R => match x, y with
  | .int i, .int j => R (.int (i + j))
  | .str s, .str t => small (s.length + t.length) = true ∧ R (.str (s ++ t))
  | .list xs, .list ys => small (xs.length + ys.length) = true ∧ R (.list (xs ++ ys))
  | .tuple xs, .tuple ys => small (xs.length + ys.length) = true ∧ R (.tuple (xs ++ ys))
  | _, _ => False
theorem Rep.tupV {S : Hp} {v : V} {ds : List PyData} (r : Rep K S v (.tuple ds)) : ∃ a xs, v = .ref a ∧ SqT K S a xs ∧ Reps K S xs ds := by
  cases r with
  | tup h q => exact ⟨_, _, rfl, h, q⟩
theorem Rep.lstV {S : Hp} {v : V} {ds : List PyData} (r : Rep K S v (.list ds)) : ∃ a xs, v = .ref a ∧ S a = some (.lst xs) ∧ Reps K S xs ds := by
  cases r with
  | lst h q => exact ⟨_, _, rfl, h, q⟩
theorem Rep.intV {S : Hp} {v : V} {i : Int} (r : Rep K S v (.int i)) : v = .int i := by cases r; rfl
theorem Rep.strV {S : Hp} {v : V} {i : Str} (r : Rep K S v (.str i)) : v = .str i := by cases r; rfl
theorem Rep.blV {S : Hp} {v : V} {i : Bool} (r : Rep K S v (.bool i)) : v = .bl i := by cases r; rfl
theorem Rep.nonV {S : Hp} {v : V} (r : Rep K S v .none) : v = .non := by cases r; rfl
theorem Reps.nil_iff {S : Hp} {vs : List V} {ds : List PyData} (r : Reps K S vs ds) : vs = [] ↔ ds = [] := by
  cases r with
  | nil => simp
  | cons _ _ => simp
theorem sim_add : SimR2 K ib b (rAddU K) dAdd := by
  intro S H x y dx dy R Q o rx ry h k
  unfold dAdd at h
  split at h
  · rw [rx.intV, ry.intV]
    exact .inl (.inl (.inl ⟨_, _, rfl, rfl, k S H _ _ (Go.refl o) (.int _) h⟩))
  · rw [rx.strV, ry.strV]
    exact .inl (.inl (.inr ⟨_, _, rfl, rfl, small_ok h.1, k S H _ _ (Go.refl o) (.str _) h.2⟩))
  · obtain ⟨a, xs, rfl, hx, qx⟩ := rx.lstV
    obtain ⟨c, ys, rfl, hy, qy⟩ := ry.lstV
    refine .inl (.inr ⟨a, c, xs, ys, rfl, rfl, o.sub _ _ hx, o.sub _ _ hy, by rw [qx.length, qy.length]; exact small_ok h.1, fun p hp => ?_⟩)
    have g := Go.laid (u := .lst (xs ++ ys)) o hp
    exact k _ _ _ _ g (.lst upd_same ((qx.append qy).mono g.st)) h.2
  · obtain ⟨a, xs, rfl, hx, qx⟩ := rx.tupV
    obtain ⟨c, ys, rfl, hy, qy⟩ := ry.tupV
    refine .inr ⟨a, c, xs, ys, rfl, rfl, ex_t o.sub hx, ex_t o.sub hy, by rw [qx.length, qy.length]; exact small_ok h.1, fun e => ?_, fun e1 e2 => ?_, fun e1 e2 p hp => ?_⟩
    · have e' := (qx.nil_iff).mp e
      subst e'
      exact k S H _ _ (Go.refl o) (.tup hy qy) h.2
    · have e' := (qy.nil_iff).mp e2
      subst e'
      refine k S H _ _ (Go.refl o) (.tup hx qx) ?_
      have z := h.2
      rw [List.append_nil] at z
      exact z
    · have g := Go.laid (u := .tup (xs ++ ys)) o hp
      exact k _ _ _ _ g (.tup (Evl.st_of upd_same) ((qx.append qy).mono g.st)) h.2
  · exact h.elim
/-- ints to an int, to a truth; with a condition -/
def dII (f : Int → Int → Int) : PyData → PyData → (PyData → Prop) → Prop := fun x y R => match x, y with
  | .int i, .int j => R (.int (f i j))
  | _, _ => False
def dIC (C : Int → Int → Prop) (f : Int → Int → Int) : PyData → PyData → (PyData → Prop) → Prop := fun x y R => match x, y with
  | .int i, .int j => C i j ∧ R (.int (f i j))
  | _, _ => False
theorem simr_II {f : Int → Int → Int} : SimR2 K ib b (rI0 fun i j => .int (f i j)) (dII f) := by
  intro S H x y dx dy R Q o rx ry h k
  unfold dII at h
  split at h
  · rw [rx.intV, ry.intV]
    exact ⟨_, _, rfl, rfl, k S H _ _ (Go.refl o) (.int _) h⟩
  · exact h.elim
theorem simr_ip {f : Int → Int → Int} : SimR2 K ib b (ipI f) (dII f) := simr_II
theorem simr_IC {C : Int → Int → Prop} {f : Int → Int → Int} : SimR2 K ib b (rI C fun i j => .int (f i j)) (dIC C f) := by
  intro S H x y dx dy R Q o rx ry h k
  unfold dIC at h
  split at h
  · rw [rx.intV, ry.intV]
    exact ⟨_, _, rfl, rfl, h.1, k S H _ _ (Go.refl o) (.int _) h.2⟩
  · exact h.elim
def dLt (g : Int → Int → Bool) (s : Str → Str → Bool) : PyData → PyData → (PyData → Prop) → Prop := fun x y R => match x, y with
  | .int i, .int j => R (.bool (g i j))
  | .str i, .str j => R (.bool (s i j))
  | _, _ => False
theorem simr_lt {g : Int → Int → Bool} {s : Str → Str → Bool} : SimR2 K ib b (rLtU g s) (dLt g s) := by
  intro S H x y dx dy R Q o rx ry h k
  unfold dLt at h
  split at h
  · rw [rx.intV, ry.intV]
    exact .inl ⟨_, _, rfl, rfl, k S H _ _ (Go.refl o) (.bl _) h⟩
  · rw [rx.strV, ry.strV]
    exact .inr ⟨_, _, rfl, rfl, k S H _ _ (Go.refl o) (.bl _) h⟩
  · exact h.elim
def dNeg : PyData → (PyData → Prop) → Prop := fun x R => match x with
  | .int i => R (.int (-i))
  | _ => False
theorem simu_neg : SimU K ib b (rU fun i => .int (-i)) dNeg := by
  intro S H x dx R Q o rx h k
  unfold dNeg at h
  split at h
  · rw [rx.intV]
    exact ⟨_, rfl, k S H _ _ (Go.refl o) (.int _) h⟩
  · exact h.elim
/-! equality of data without dicts -/
mutual
theorem Rep.dp {S : Hp} : ∀ {v : V} {d : PyData}, Rep K S v d → d.canLay0 = true → Dp K S v d
  | _, _, .non, _ => .non
  | _, _, .bl c, _ => .bl c
  | _, _, .int i, _ => .int i
  | _, _, .str x, _ => .str x
  | _, _, .lst h q, c => .lst (SqL.of h) (Reps.dp q (by rw [PyData.canLay0] at c; exact c))
  | _, _, .tup h q, c => .tup h (Reps.dp q (by rw [PyData.canLay0] at c; exact c))
  | _, _, .dK h q, c => by rw [PyData.canLay0] at c; cases c
  | _, _, .dN _ _ _ _ _ _, c => by rw [PyData.canLay0] at c; cases c
  | _, _, .dF _ _ _, c => by rw [PyData.canLay0] at c; cases c
theorem Reps.dp {S : Hp} : ∀ {vs : List V} {ds : List PyData}, Reps K S vs ds → PyData.canLayAll0 ds = true → DpAll K S vs ds
  | _, _, .nil, _ => .nil
  | _, _, .cons h q, c => by
    rw [PyData.canLayAll0, Bool.and_eq_true] at c
    exact .cons (Rep.dp h c.1) (Reps.dp q c.2)
end
/-- plain values of one kind, or of kinds that are never equal -/
def scalD : PyData → PyData → Bool
  | .none, .none => true
  | .int _, .int _ => true
  | .bool _, .bool _ => true
  | .str _, .str _ => true
  | .none, .int _ => true
  | .int _, .none => true
  | .none, .str _ => true
  | .str _, .none => true
  | .int _, .str _ => true
  | .str _, .int _ => true
  | .bool _, .str _ => true
  | .str _, .bool _ => true
  | _, _ => false
def eqOk (x y : PyData) : Bool := (scalD x y || (SeqAt.shaped x && SeqAt.shaped y)) || eqMore x y
/-- by eqMore -/
def rEqM (K : PySem.W.Frag) : R2 := fun x y H Q => ∃ d e, Rep K H x d ∧ Rep K H y e ∧ eqMore d e = true ∧ Q (.bl (PyData.eqv d e)) H
def rNeM (K : PySem.W.Frag) : R2 := fun x y H Q => ∃ d e, Rep K H x d ∧ Rep K H y e ∧ eqMore d e = true ∧ Q (.bl (!PyData.eqv d e)) H
theorem op_eqM {X : Cx} (hu : X.A.units + 64 < cLine) : OpR X (compareOp .Eq) (rEqM X.K) := by
  intro pins s σ H x y v u Q I rx ry h
  obtain ⟨d, e, hd, he, hm, q⟩ := h
  obtain ⟨as, r1⟩ := (hd.rd I rx).reads
  obtain ⟨bs, r2⟩ := (he.rd I ry).reads
  exact eq_more r1 r2 hm hu ⟨.bl _, H, I, rfl, q⟩
theorem op_neM {X : Cx} (hu : X.A.units + 64 < cLine) : OpR X (compareOp .NotEq) (rNeM X.K) := by
  intro pins s σ H x y v u Q I rx ry h
  obtain ⟨d, e, hd, he, hm, q⟩ := h
  obtain ⟨as, r1⟩ := (hd.rd I rx).reads
  obtain ⟨bs, r2⟩ := (he.rd I ry).reads
  exact ne_more r1 r2 hm hu ⟨.bl _, H, I, rfl, q⟩
def rEqU (K : PySem.W.Frag) : R2 := fun x y H Q => (rEq x y H Q ∨ rEqD K x y H Q) ∨ rEqM K x y H Q
def rNeU (K : PySem.W.Frag) : R2 := fun x y H Q => (rNe x y H Q ∨ rNeD K x y H Q) ∨ rNeM K x y H Q
theorem op_eqU {X : Cx} (hu : X.A.units + 64 < cLine) : OpR X (compareOp .Eq) (rEqU X.K) := OpR.or2 (OpR.or2 op_eq (op_eqD hu)) (op_eqM hu)
theorem op_neU {X : Cx} (hu : X.A.units + 64 < cLine) : OpR X (compareOp .NotEq) (rNeU X.K) := OpR.or2 (OpR.or2 op_ne (op_neD hu)) (op_neM hu)
theorem scal_rep {S : Hp} {x y : V} {dx dy : PyData} (rx : Rep K S x dx) (ry : Rep K S y dy) (h : scalD dx dy = true) : scal x y = true ∧ decide (x = y) = PyData.eqv dx dy := by
  cases rx <;> first
    | (cases h; done)
    | (cases ry <;> first
        | (cases h; done)
        | (exact ⟨rfl, by rw [PyData.eqv]; exact (Bool.beq_eq_decide_eq _ _).symm⟩)
        | (exact ⟨rfl, by rw [PyData.eqv]; rfl⟩)
        | (exact ⟨rfl, by rw [PyData.eqv]; rw [Bool.eq_iff_iff]; simp⟩)
        | (exact ⟨rfl, by simp [PyData.eqv]⟩))
def dEq : PyData → PyData → (PyData → Prop) → Prop := fun x y R => eqOk x y = true ∧ R (.bool (PyData.eqv x y))
def dNe : PyData → PyData → (PyData → Prop) → Prop := fun x y R => eqOk x y = true ∧ R (.bool (!PyData.eqv x y))
theorem simr_eq : SimR2 K ib b (rEqU K) dEq := by
  intro S H x y dx dy R Q o rx ry h k
  rcases (Bool.or_eq_true _ _ ▸ h.1 : _ ∨ _) with h1 | h1
  rcases (Bool.or_eq_true _ _ ▸ h1 : _ ∨ _) with h1 | h1
  · obtain ⟨e1, e2⟩ := scal_rep rx ry h1
    refine .inl (.inl ⟨e1, ?_⟩)
    rw [e2]
    exact k S H _ _ (Go.refl o) (.bl _) h.2
  · have h1 := (Bool.and_eq_true _ _ ▸ h1 : _ ∧ _)
    exact .inl (.inr ⟨dx, dy, (rx.mono o.sub).dp (SeqAt.canLay_of_shaped h1.1), (ry.mono o.sub).dp (SeqAt.canLay_of_shaped h1.2), h1.1, h1.2, k S H _ _ (Go.refl o) (.bl _) h.2⟩)
  · exact .inr ⟨dx, dy, rx.mono o.sub, ry.mono o.sub, h1, k S H _ _ (Go.refl o) (.bl _) h.2⟩
theorem simr_ne : SimR2 K ib b (rNeU K) dNe := by
  intro S H x y dx dy R Q o rx ry h k
  rcases (Bool.or_eq_true _ _ ▸ h.1 : _ ∨ _) with h1 | h1
  rcases (Bool.or_eq_true _ _ ▸ h1 : _ ∨ _) with h1 | h1
  · obtain ⟨e1, e2⟩ := scal_rep rx ry h1
    refine .inl (.inl ⟨e1, ?_⟩)
    rw [e2]
    exact k S H _ _ (Go.refl o) (.bl _) h.2
  · have h1 := (Bool.and_eq_true _ _ ▸ h1 : _ ∧ _)
    exact .inl (.inr ⟨dx, dy, (rx.mono o.sub).dp (SeqAt.canLay_of_shaped h1.1), (ry.mono o.sub).dp (SeqAt.canLay_of_shaped h1.2), h1.1, h1.2, k S H _ _ (Go.refl o) (.bl _) h.2⟩)
  · exact .inr ⟨dx, dy, rx.mono o.sub, ry.mono o.sub, h1, k S H _ _ (Go.refl o) (.bl _) h.2⟩
/-! x in a list or a tuple of flat things -/
def flatD : PyData → Bool
  | .none => true
  | .bool _ => true
  | .int _ => true
  | .str _ => true
  | _ => false
theorem flat_rep {S : Hp} {v : V} {d : PyData} (r : Rep K S v d) (h : flatD d = true) : flatV v = true := by
  cases r <;> first | rfl | cases h
theorem eqV_rep {S : Hp} {v u : V} {d e : PyData} (r : Rep K S v d) (q : Rep K S u e) (h : flatD d = true) (h2 : flatD e = true) : eqV v u = PyData.eqv d e := by
  cases r <;> first | cases h; done | (cases q <;> first | cases h2; done | rfl)
theorem flats_rep {S : Hp} : ∀ {vs : List V} {ds : List PyData}, Reps K S vs ds → ds.all flatD = true → vs.all flatV = true
  | _, _, .nil, _ => rfl
  | _, _, .cons h q, c => by
    rw [List.all_cons, Bool.and_eq_true] at c ⊢
    exact ⟨flat_rep h c.1, flats_rep q c.2⟩
theorem inV_rep {S : Hp} {v : V} {d : PyData} (r : Rep K S v d) (hd : flatD d = true) : ∀ {vs : List V} {ds : List PyData}, Reps K S vs ds → ds.all flatD = true → inV v vs = ds.any fun e => PyData.eqv e d
  | _, _, .nil, _ => rfl
  | _, _, .cons h q, c => by
    rw [List.all_cons, Bool.and_eq_true] at c
    have i := inV_rep r hd q c.2
    unfold inV at i ⊢
    rw [List.any_cons, List.any_cons, i, eqV_rep h r c.1 hd]
def itemsOf : PyData → Option (List PyData)
  | .list ds => some ds
  | .tuple ds => some ds
  | _ => none
def inOk (x : PyData) (ds : List PyData) : Bool := (flatD x && ds.all flatD) || inMore x ds
def dIn (neg : Bool) : PyData → PyData → (PyData → Prop) → Prop := fun x y R => match itemsOf y with
  | some ds => inOk x ds = true ∧ R (.bool (if neg then !(ds.any fun e => PyData.eqv e x) else ds.any fun e => PyData.eqv e x))
  | none => False
theorem Rep.items {S : Hp} {v : V} {d : PyData} {ds : List PyData} (r : Rep K S v d) (h : itemsOf d = some ds) : ∃ a xs, v = .ref a ∧ (SqL K S a xs ∨ SqT K S a xs) ∧ Reps K S xs ds := by
  cases r with
  | lst e q => cases h; exact ⟨_, _, rfl, .inl (SqL.of e), q⟩
  | tup e q => cases h; exact ⟨_, _, rfl, .inr e, q⟩
  | _ => cases h
def rInM (K : PySem.W.Frag) (neg : Bool) : R2 := fun x y H Q => ∃ d e ds, Rep K H x d ∧ Rep K H y e ∧ itemsOf e = some ds ∧ inMore d ds = true ∧ Q (.bl (if neg then !(ds.any fun e => PyData.eqv e d) else ds.any fun e => PyData.eqv e d)) H
theorem itemsOf_some {e : PyData} {ds : List PyData} (h : itemsOf e = some ds) : e = .list ds ∨ e = .tuple ds := by
  cases e <;> first | (cases h; done) | (cases h; exact .inl rfl) | (cases h; exact .inr rfl)
theorem op_inM {X : Cx} (hu : X.A.units + 64 < cLine) : OpR X (compareOp .In) (rInM X.K false) := by
  intro pins s σ H x y v u Q I rx ry h
  obtain ⟨d, e, ds, hd, he, hi, hm, q⟩ := h
  obtain ⟨as, r1⟩ := (hd.rd I rx).reads
  obtain ⟨bs, r2⟩ := (he.rd I ry).reads
  exact in_more (itemsOf_some hi) r2 r1 hm hu ⟨.bl _, H, I, rfl, q⟩
theorem op_notInM {X : Cx} (hu : X.A.units + 64 < cLine) : OpR X (compareOp .NotIn) (rInM X.K true) := by
  intro pins s σ H x y v u Q I rx ry h
  obtain ⟨d, e, ds, hd, he, hi, hm, q⟩ := h
  obtain ⟨as, r1⟩ := (hd.rd I rx).reads
  obtain ⟨bs, r2⟩ := (he.rd I ry).reads
  exact notIn_more (itemsOf_some hi) r2 r1 hm hu ⟨.bl _, H, I, rfl, q⟩
def rInU (K : PySem.W.Frag) (neg : Bool) : R2 := fun x y H Q => rIn K neg x y H Q ∨ rInM K neg x y H Q
theorem op_inU {X : Cx} (hu : X.A.units + 64 < cLine) : OpR X (compareOp .In) (rInU X.K false) := OpR.or2 op_in_seq (op_inM hu)
theorem op_notInU {X : Cx} (hu : X.A.units + 64 < cLine) : OpR X (compareOp .NotIn) (rInU X.K true) := OpR.or2 op_notIn_seq (op_notInM hu)
theorem simr_in {neg : Bool} : SimR2 K ib b (rInU K neg) (dIn neg) := by
  intro S H x y dx dy R Q o rx ry h k
  unfold dIn at h
  split at h
  · rename_i ds e
    rcases (Bool.or_eq_true _ _ ▸ h.1 : _ ∨ _) with h1 | h1
    · left
      obtain ⟨a, xs, rfl, hq, qs⟩ := ry.items e
      have h1 := (Bool.and_eq_true _ _ ▸ h1 : _ ∧ _)
      refine ⟨a, xs, rfl, ?_, flat_rep rx h1.1, flats_rep qs h1.2, ?_⟩
      · rcases hq with hq | hq
        · exact .inl (ex_l o.sub hq)
        · exact .inr (ex_t o.sub hq)
      · rw [inV_rep rx h1.1 qs h1.2]
        exact k S H _ _ (Go.refl o) (.bl _) h.2
    · exact .inr ⟨dx, dy, ds, rx.mono o.sub, ry.mono o.sub, e, h1, k S H _ _ (Go.refl o) (.bl _) h.2⟩
  · exact h.elim
/-! items and slices -/
def atD : PyData → Int → Option PyData
  | .list ds, i => atI ds i
  | .tuple ds, i => atI ds i
  | .str x, i => if small x.length = true then (atI x.cps.toList i).map fun c => .str ⟨#[c]⟩ else none
  | _, _ => none
def dIx : PyData → PyData → (PyData → Prop) → Prop := fun x y R => isI y fun i => match atD x i with
  | some d => R d
  | none => False
theorem Reps.atI {S : Hp} {vs : List V} {ds : List PyData} {i : Int} {d : PyData} (r : Reps K S vs ds) (h : L2.atI ds i = some d) : ∃ v, L2.atI vs i = some v ∧ Rep K S v d := by
  unfold L2.atI at h ⊢
  rw [r.length]
  cases e : ixN ds.length i with
  | none => rw [e] at h; cases h
  | some j =>
    rw [e] at h
    exact r.get h
theorem simr_ix : SimR2 K ib b (rIx K) dIx := by
  intro S H x y dx dy R Q o rx ry h k
  obtain ⟨i, rfl, rfl, h⟩ := isI_of (R := fun i => match atD dx i with
    | some d => R d
    | none => False) ry h
  rename_i hh
  clear h
  have h := hh
  clear hh
  split at h
  · rename_i d e
    cases rx with
    | lst hq q =>
      obtain ⟨v, hv, rv⟩ := q.atI e
      exact .inl ⟨_, _, i, v, rfl, rfl, SqL.of (o.sub _ _ hq), hv, k S H _ _ (Go.refl o) rv h⟩
    | tup hq q =>
      obtain ⟨v, hv, rv⟩ := q.atI e
      exact .inr (.inl ⟨_, _, i, v, rfl, rfl, ex_t o.sub hq, hv, k S H _ _ (Go.refl o) rv h⟩)
    | str x =>
      have e2 : (if small x.length = true then (L2.atI x.cps.toList i).map fun c => PyData.str ⟨#[c]⟩ else none) = some d := e
      clear e
      have e := e2
      clear e2
      by_cases c : small x.length = true
      case neg => rw [if_neg c] at e; cases e
      rw [if_pos c] at e
      obtain ⟨w, hw, rfl⟩ := Option.map_eq_some_iff.mp e
      exact .inr (.inr ⟨x, i, w, rfl, rfl, small_ok c, hw, k S H _ _ (Go.refl o) (.str _) h⟩)
    | _ => cases e
  · exact h.elim
def cutD {α : Type} (xs : List α) (lo hi : Option Int) : List α := (xs.drop (HT.sIx xs.length 0 lo)).take (HT.sIx xs.length xs.length hi - HT.sIx xs.length 0 lo)
theorem Reps.cut {S : Hp} {vs : List V} {ds : List PyData} (r : Reps K S vs ds) (lo hi : Option Int) : Reps K S (cutV vs lo hi) (cutD ds lo hi) := by
  unfold cutV cutD
  rw [r.length]
  exact Reps.take _ (Reps.drop _ r)
def rSlU (K : PySem.W.Frag) : V → Option Int → Option Int → Hp → VK → Prop := fun x lo hi H Q => (rSlL K x lo hi H Q ∨ rSlA K x lo hi H Q) ∨ rSlS x lo hi H Q
theorem sl_U {X : Cx} : SlR X (rSlU X.K) := SlR.or (SlR.or sl_list sl_tupA) sl_str
def dSlice : PyData → Option Int → Option Int → (PyData → Prop) → Prop := fun x lo hi R => match x with
  | .list ds => R (.list (cutD ds lo hi))
  | .tuple ds => R (.tuple (cutD ds lo hi))
  | .str z => small z.length = true ∧ R (.str (cutS z lo hi))
  | _ => False
theorem cutD_whole {α : Type} {xs : List α} {lo hi : Option Int} (h : HT.sIx xs.length 0 lo = 0 ∧ HT.sIx xs.length xs.length hi = xs.length) : cutD xs lo hi = xs := by
  unfold cutD
  rw [h.1, h.2, List.drop_zero, Nat.sub_zero, List.take_length]
theorem sims_slice : SimSl K ib b (rSlU K) dSlice := by
  intro S H x dx lo hi R Q o rx h k
  unfold dSlice at h
  split at h
  · obtain ⟨a, xs, rfl, hq, q⟩ := rx.lstV
    refine .inl (.inl ⟨a, xs, rfl, SqL.of (o.sub _ _ hq), fun p hp => ?_⟩)
    have g := Go.laid (u := .lst (cutV xs lo hi)) o hp
    exact k _ _ _ _ g (.lst upd_same ((q.cut lo hi).mono g.st)) h
  · obtain ⟨a, xs, rfl, hq, q⟩ := rx.tupV
    refine .inl (.inr ⟨a, xs, rfl, ex_t o.sub hq, fun e => ?_, fun _ p hp => ?_⟩)
    · rw [q.length] at e
      rw [cutD_whole e] at h
      exact k S H _ _ (Go.refl o) (.tup hq q) h
    · have g := Go.laid (u := .tup (cutV xs lo hi)) o hp
      exact k _ _ _ _ g (.tup (Evl.st_of upd_same) ((q.cut lo hi).mono g.st)) h
  · rw [rx.strV]
    exact .inr ⟨_, rfl, small_ok h.1, k S H _ _ (Go.refl o) (.str _) h.2⟩
  · exact h.elim

/-! built-in calls -/
def rLenU (K : PySem.W.Frag) : List V → Hp → VK → Prop := fun xs H Q => ∃ x n, xs = [x] ∧ LenV K x H n ∧ Q (.int n) H
theorem call_lenU {X : Cx} : CallR X (.builtin "len") (rLenU X.K) := call_len
def dLen : List PyData → (PyData → Prop) → Prop := fun ds R => match ds with
  | [.list xs] => R (.int xs.length)
  | [.tuple xs] => R (.int xs.length)
  | [.str x] => small x.length = true ∧ R (.int x.length)
  | _ => False
theorem simc_len : SimC K ib b (rLenU K) dLen := by
  intro S H xs ds R Q o r h k
  unfold dLen at h
  split at h
  · cases r with
    | cons r1 r2 =>
      cases r2
      obtain ⟨a, xs, rfl, hq, q⟩ := r1.lstV
      refine ⟨_, _, rfl, .inl ⟨xs, SqL.of (o.sub _ _ hq), rfl⟩, ?_⟩
      rw [q.length]
      exact k S H _ _ (Go.refl o) (.int _) h
  · cases r with
    | cons r1 r2 =>
      cases r2
      obtain ⟨a, xs, rfl, hq, q⟩ := r1.tupV
      refine ⟨_, _, rfl, .inr ⟨xs, ex_t o.sub hq, rfl⟩, ?_⟩
      rw [q.length]
      exact k S H _ _ (Go.refl o) (.int _) h
  · cases r with
    | cons r1 r2 =>
      cases r2
      rw [r1.strV]
      exact ⟨_, _, rfl, ⟨small_ok h.1, rfl⟩, k S H _ _ (Go.refl o) (.int _) h.2⟩
  · exact h.elim
def showOk (d : PyData) : Bool := d.showable && decide (d.depth ≤ 60) && decide (d.shown.length ≤ sizeLine)
def dRepr : List PyData → (PyData → Prop) → Prop := fun ds R => match ds with
  | [d] => showOk d = true ∧ R (.str d.shown)
  | _ => False
theorem simc_repr : SimC K ib b (rRepr K) dRepr := by
  intro S H xs ds R Q o r h k
  unfold dRepr at h
  split at h
  · cases r with
    | cons r1 r2 =>
      cases r2
      have z := h.1
      unfold showOk at z
      simp only [Bool.and_eq_true, decide_eq_true_eq] at z
      exact ⟨_, _, rfl, r1.mono o.sub, z.1.1, z.1.2, z.2, k S H _ _ (Go.refl o) (.str _) h.2⟩
  · exact h.elim
def rInt1 : List V → Hp → VK → Prop := fun xs H Q => (∃ i, xs = [.int i] ∧ Q (.int i) H) ∨ ∃ k, xs = [.bl k] ∧ Q (.int (if k then 1 else 0)) H
theorem call_int1' {X : Cx} : CallR X (.type "int") rInt1 := call_int1
def dInt1 : List PyData → (PyData → Prop) → Prop := fun ds R => match ds with
  | [.int i] => R (.int i)
  | [.bool k] => R (.int (if k then 1 else 0))
  | _ => False
theorem simc_int1 : SimC K ib b rInt1 dInt1 := by
  intro S H xs ds R Q o r h k
  unfold dInt1 at h
  split at h
  · cases r with
    | cons r1 r2 =>
      cases r2
      rw [r1.intV]
      exact .inl ⟨_, rfl, k S H _ _ (Go.refl o) (.int _) h⟩
  · cases r with
    | cons r1 r2 =>
      cases r2
      rw [r1.blV]
      exact .inr ⟨_, rfl, k S H _ _ (Go.refl o) (.int _) h⟩
  · exact h.elim
def rAbs1 : List V → Hp → VK → Prop := fun xs H Q => ∃ i, xs = [.int i] ∧ Q (.int (if i < 0 then -i else i)) H
theorem call_abs' {X : Cx} : CallR X (.builtin "abs") rAbs1 := call_abs
def dAbs : List PyData → (PyData → Prop) → Prop := fun ds R => match ds with
  | [.int i] => R (.int (if i < 0 then -i else i))
  | _ => False
theorem simc_abs : SimC K ib b rAbs1 dAbs := by
  intro S H xs ds R Q o r h k
  unfold dAbs at h
  split at h
  · cases r with
    | cons r1 r2 =>
      cases r2
      rw [r1.intV]
      exact ⟨_, rfl, k S H _ _ (Go.refl o) (.int _) h⟩
  · exact h.elim
def rTupOf (K : PySem.W.Frag) : List V → Hp → VK → Prop := fun xs H Q => ∃ p ys, xs = [.ref p] ∧ ((SqL K H p ys ∧ ∀ l, H l = none → Q (.ref l) (upd H l (.tup ys))) ∨ (SqT K H p ys ∧ Q (.ref p) H))
theorem call_tupOf {X : Cx} : CallR X (.type "tuple") (rTupOf X.K) := call_tuple_of
def dTupOf : List PyData → (PyData → Prop) → Prop := fun ds R => match ds with
  | [.list xs] => R (.tuple xs)
  | [.tuple xs] => R (.tuple xs)
  | _ => False
theorem simc_tupOf : SimC K ib b (rTupOf K) dTupOf := by
  intro S H xs ds R Q o r h k
  unfold dTupOf at h
  split at h
  · cases r with
    | cons r1 r2 =>
      cases r2
      obtain ⟨a, xs, rfl, hq, q⟩ := r1.lstV
      refine ⟨a, xs, rfl, .inl ⟨SqL.of (o.sub _ _ hq), fun p hp => ?_⟩⟩
      have g := Go.laid (u := .tup xs) o hp
      exact k _ _ _ _ g (.tup (Evl.st_of upd_same) (q.mono g.st)) h
  · cases r with
    | cons r1 r2 =>
      cases r2
      obtain ⟨a, xs, rfl, hq, q⟩ := r1.tupV
      exact ⟨a, xs, rfl, .inr ⟨ex_t o.sub hq, k S H _ _ (Go.refl o) (.tup hq q) h⟩⟩
  · exact h.elim
def rListOf (K : PySem.W.Frag) : List V → Hp → VK → Prop := fun xs H Q => ∃ p ys, xs = [.ref p] ∧ (SqL K H p ys ∨ SqT K H p ys) ∧ ∀ l, H l = none → Q (.ref l) (upd H l (.lst ys))
theorem call_listOf {X : Cx} : CallR X (.type "list") (rListOf X.K) := call_list_of
def dListOf : List PyData → (PyData → Prop) → Prop := fun ds R => match ds with
  | [d] => match itemsOf d with
    | some xs => R (.list xs)
    | none => False
  | _ => False
theorem simc_listOf : SimC K ib b (rListOf K) dListOf := by
  intro S H xs ds R Q o r h k
  unfold dListOf at h
  split at h
  · cases r with
    | cons r1 r2 =>
      cases r2
      split at h
      · rename_i e
        obtain ⟨a, xs, rfl, hq, q⟩ := r1.items e
        refine ⟨a, xs, rfl, ?_, fun p hp => ?_⟩
        · rcases hq with hq | hq
          · exact .inl (ex_l o.sub hq)
          · exact .inr (ex_t o.sub hq)
        · have g := Go.laid (u := .lst xs) o hp
          exact k _ _ _ _ g (.lst upd_same (q.mono g.st)) h
      · exact h.elim
  · exact h.elim
def boolsOf : List PyData → Option (List Bool)
  | [] => some []
  | .bool c :: r => (boolsOf r).map (c :: ·)
  | _ => none
theorem bools_rep {S : Hp} : ∀ {vs : List V} {ds : List PyData} {bs : List Bool}, Reps K S vs ds → boolsOf ds = some bs → vs = bs.map V.bl
  | _, _, bs, .nil, h => by
    rw [boolsOf] at h
    cases h
    rfl
  | _, _, bs, .cons r q, h => by
    cases r with
    | bl c =>
      rw [boolsOf] at h
      obtain ⟨w, hw, rfl⟩ := Option.map_eq_some_iff.mp h
      rw [bools_rep q hw]
      rfl
    | _ => simp [boolsOf] at h
def dAll : List PyData → (PyData → Prop) → Prop := fun ds R => match ds with
  | [.list xs] => ∃ bs, boolsOf xs = some bs ∧ R (.bool (bs.all id))
  | _ => False
def dAny : List PyData → (PyData → Prop) → Prop := fun ds R => match ds with
  | [.list xs] => ∃ bs, boolsOf xs = some bs ∧ R (.bool (bs.any id))
  | _ => False
theorem simc_all : SimC K ib b (rAll K) dAll := by
  intro S H xs ds R Q o r h k
  unfold dAll at h
  split at h
  · cases r with
    | cons r1 r2 =>
      cases r2
      obtain ⟨a, xs, rfl, hq, q⟩ := r1.lstV
      obtain ⟨bs, hb, h⟩ := h
      have e := bools_rep q hb
      subst e
      exact ⟨a, bs, rfl, SqL.of (o.sub _ _ hq), k S H _ _ (Go.refl o) (.bl _) h⟩
  · exact h.elim
theorem simc_any : SimC K ib b (rAny K) dAny := by
  intro S H xs ds R Q o r h k
  unfold dAny at h
  split at h
  · cases r with
    | cons r1 r2 =>
      cases r2
      obtain ⟨a, xs, rfl, hq, q⟩ := r1.lstV
      obtain ⟨bs, hb, h⟩ := h
      have e := bools_rep q hb
      subst e
      exact ⟨a, bs, rfl, SqL.of (o.sub _ _ hq), k S H _ _ (Go.refl o) (.bl _) h⟩
  · exact h.elim
/-- isinstance(x, T) of a built-in class -/
def typD : PyData → String
  | .none => "NoneType"
  | .bool _ => "bool"
  | .int _ => "int"
  | .str _ => "str"
  | .list _ => "list"
  | .tuple _ => "tuple"
  | .dict _ => "dict"
def dIsi (T : String) (de : DE) : DE := fun δ R => de δ fun d => match kitB (typD d) T with
  | some c => R (.bool c)
  | none => False
def TyN (K : PySem.W.Frag) (H : Hp) (x : V) (t : Value) : Prop := TyX K H x t ∨ ∃ a xs o, x = .ref a ∧ H a = some (HP TheW.w a xs o) ∧ t = .type "dict"
theorem kitN_of {X : Cx} {pins : List (Addr × Obj)} {σ : L2.St} {H : Hp} {s : Shared} {x : V} {u t : Value} (I : Inv X pins σ H s) (rx : RelV x u) (ty : TyN X.K H x t) : ∃ P : Heap → Prop, PySem.W.KitX X.K u t P ∧ P s.heap ∧ u ≠ .builtin "__main__.__loader__#opaque" := by
  rcases ty with ty | ⟨a, xs, ob, rfl, h, rfl⟩
  · exact kit_of I rx ty
  · cases (show u = Value.ref a from rx)
    obtain ⟨n1, ⟨es, ep, ⟨o, ho, hx, hd⟩, n3⟩, n4, n5⟩ := (show ObjOk X.prog X.w H s.heap a (HP TheW.w a xs ob) from I.hok a _ h).1.1
    exact ⟨_, PySem.W.kitx_dict, ⟨o, ho, hx.1⟩, fun z => nomatch z⟩
def rIsiN (K : PySem.W.Frag) : List V → Hp → VK → Prop := fun xs H Q => ∃ (x c : V) (t u : Value) (b : Bool), xs = [x, c] ∧ ClsV c u ∧ TyN K H x t ∧ PySem.W.kitOne K t u = some b ∧ Q (.bl b) H
theorem call_isiN {X : Cx} : CallR X (.builtin "isinstance") (rIsiN X.K) := by
  intro pins s σ H xs us Q I r h
  obtain ⟨x, c, t, u, b, rfl, k, ty, e, q⟩ := h
  obtain ⟨u1, u2, rfl, r1, r2⟩ := vals2 r
  have e2 := k.eq r2
  subst e2
  obtain ⟨P, Z, p, hx⟩ := kitN_of I r1 ty
  exact PySem.W.kia_one Z I.kIn p e hx fun tk => ⟨.bl b, H, I.tok tk, rfl, q⟩
theorem Rep.ty {S H : Hp} (o : Okk ib b S H) {v : V} {d : PyData} (r : Rep K S v d) : TyN K H v (.type (typD d)) := by
  cases r with
  | non => exact .inl <| .base .non
  | bl c => exact .inl <| .base (.bl c)
  | int c => exact .inl <| .base (.int c)
  | str c => exact .inl <| .base (.str c)
  | lst h q => exact .inl <| .base (.lst (o.sub _ _ h))
  | tup h q =>
    rcases ex_t o.sub h with (h | ⟨ob, h⟩) | ⟨ob, its, n, h, hc, _⟩
    · exact .inl <| .base (.tup h)
    · exact .inl <| .fTuple h
    · exact .inl <| .kTuple h hc
  | dK h q => exact .inl <| .base (.dK (o.sub _ _ h))
  | dN h _ _ _ _ _ => exact .inr ⟨_, _, _, rfl, o.sub _ _ h, rfl⟩
  | dF _ h _ => exact .inl <| .fDict (o.sub _ _ h)
theorem sim_isi {te : TE} {de : DE} {T : String} (h1 : SimE K ib b te de) : SimE K ib b (tCB (rIsiN K) (tCons te (tCons (tC (.ty T)) tNil))) (dIsi T de) := by
  intro H0 S H σ δ R Q o e h k
  refine h1 H0 S H σ δ _ _ o e h fun S1 H1 v dv g r q => ?_
  split at q
  · rename_i c ec
    exact ⟨v, .ty T, _, _, c, rfl, .ty T, r.ty g.ok, kit_ty ec, k S1 H1 _ _ g (.bl c) q⟩
  · exact q.elim
end

/-! ### promises -/
section
variable {K : PySem.W.Frag} {ib : Option Nat} {b : Bg}
theorem Okk.pure {S H : Hp} (o : Okk ib b S H) : Okk none b S H := ⟨o.sub, fun z => absurd rfl z, fun z => absurd rfl z⟩
theorem Go.ofPure {S H S1 H1 : Hp} (o : Okk ib b S H) (g : Go none b S H S1 H1) : Go ib b S H S1 H1 :=
  ⟨g.st, fun a u _ e => g.keep a u (fun z => absurd rfl z) e, g.new, ⟨g.ok.sub, fun z => g.new _ (o.bag z).tr (o.off z), fun z => (o.bag z).kept fun a u _ e => g.keep a u (fun z => absurd rfl z) e⟩⟩
theorem Okk.as {i j : Nat} {S H : Hp} (o : Okk (some i) b S H) : Okk (some j) b S H := ⟨o.sub, fun _ => o.off (by simp), fun _ => o.bag (by simp)⟩
theorem Go.as {i j : Nat} {S H S1 H1 : Hp} (g : Go (some i) b S H S1 H1) : Go (some j) b S H S1 H1 := ⟨g.st, fun a u c e => g.keep a u (fun _ => c (by simp)) e, g.new, g.ok.as⟩
/-- a def that draws nothing: what it asks of its arguments, what it gives -/
def spP (K : PySem.W.Frag) (pre : List PyData → Prop) (post : List PyData → PyData → Prop) : Sp := fun vs H Q _ => ∃ (S : Hp) (b : Bg) (ds : List PyData), Okk none b S H ∧ Reps K S vs ds ∧ pre ds ∧
  ∀ S' H' v d, Go none b S H S' H' → Rep K S' v d → post ds d → Q v H'
/-- a def that draws: the bag is its first argument -/
def spG (K : PySem.W.Frag) (pre : List PyData → Prop) (post : List PyData → PyData → Prop) : Sp := fun vs H Q _ => ∃ (S : Hp) (b : Bg) (ws : List V) (ds : List PyData), vs = .ref b.1 :: ws ∧ Okk (some 0) b S H ∧ Reps K S ws ds ∧ pre ds ∧
  ∀ S' H' v d, Go (some 0) b S H S' H' → Rep K S' v d → post ds d → Q v H'
def dCall (pre : List PyData → Prop) (post : List PyData → PyData → Prop) (d : DA) : DE := fun δ R => d δ fun ds => pre ds ∧ ∀ r, post ds r → R r
theorem sim_callP {pre : List PyData → Prop} {post : List PyData → PyData → Prop} {E : XK} {t : TA} {d : DA} (h1 : SimA K ib b t d) : SimE K ib b (tCall (spP K pre post) [] E t) (dCall pre post d) := by
  intro H0 S H σ δ R Q o e h k
  refine h1 H0 S H σ δ _ _ o e h fun S1 H1 vs ds g r q => ?_
  rw [List.append_nil]
  refine ⟨S1, b, ds, g.ok.pure, r, q.1, fun S2 H2 v d g2 r2 q2 => ?_⟩
  exact k S2 H2 v d (g.trans o (Go.ofPure g.ok g2)) r2 (q.2 d q2)
theorem sim_callG {pre : List PyData → Prop} {post : List PyData → PyData → Prop} {E : XK} {t : TA} {d : DA} {i : Nat} (hi : ib = some i) (h1 : SimA K ib b t d) :
    SimE K ib b (tCall (spG K pre post) [] E (tCons (tVar i) t)) (dCall pre post d) := by
  intro H0 S H σ δ R Q o e h k
  refine ⟨_, e.slot i hi, ?_⟩
  refine h1 H0 S H σ δ _ _ o e h fun S1 H1 vs ds g r q => ?_
  show spG K pre post ((V.ref b.1 :: vs) ++ []) H1 Q E
  rw [List.append_nil]
  subst hi
  refine ⟨S1, b, vs, ds, rfl, g.ok.as, r, q.1, fun S2 H2 v d g2 r2 q2 => ?_⟩
  exact k S2 H2 v d (g.trans o g2.as) r2 (q.2 d q2)
/-- a def's entry -/
def startD (n : Nat) (ds : List (Option DV)) : DEnv := ds ++ List.replicate (n - ds.length) none
theorem start_get {N : List Str} {vs : List V} {i : Nat} {v : V} (h : vs[i]? = some v) : (L2.start N vs)[i]? = some (some v) := by
  unfold L2.start
  have hl : i < vs.length := (List.getElem?_eq_some_iff.mp h).1
  rw [List.getElem?_append_left (by simpa using hl), List.getElem?_map, h]
  rfl
theorem startD_get {n : Nat} {ds : List (Option DV)} {i : Nat} {x : DV} (h : (startD n ds)[i]? = some (some x)) : ds[i]? = some (some x) := by
  unfold startD at h
  by_cases hl : i < ds.length
  · rw [List.getElem?_append_left hl] at h
    exact h
  · rw [List.getElem?_append_right (by omega), List.getElem?_replicate] at h
    split at h <;> cases h
theorem env_start {N : List Str} {S H H0 : Hp} {vs : List V} {ds : List PyData} (r : Reps K S vs ds) : EnvOk K none b H0 S H (L2.start N vs) (startD N.length (ds.map fun d => some (.dat d))) := by
  refine ⟨?_, fun i z => by (cases z), fun i d h => ?_, fun i es h => ?_, fun i a h => ?_, fun i c h => ?_⟩
  · unfold L2.start startD
    rw [List.length_append, List.length_append, List.length_map, List.length_map, List.length_replicate, List.length_replicate, r.length]
  · have h := startD_get h
    rw [List.getElem?_map] at h
    cases e : ds[i]? with
    | none => rw [e] at h; cases h
    | some d' =>
      rw [e] at h
      cases h
      obtain ⟨v, hv, rv⟩ := r.get e
      exact ⟨v, start_get hv, rv⟩
  · have h := startD_get h
    rw [List.getElem?_map] at h
    cases e : ds[i]? with
    | none => rw [e] at h; cases h
    | some d' => rw [e] at h; cases h
  · have h := startD_get h
    rw [List.getElem?_map] at h
    cases e : ds[i]? with
    | none => rw [e] at h; cases h
    | some d' => rw [e] at h; cases h
  · have h := startD_get h
    rw [List.getElem?_map] at h
    cases e : ds[i]? with
    | none => rw [e] at h; cases h
    | some d' => rw [e] at h; cases h
theorem env_startG {N : List Str} {S H H0 : Hp} {vs : List V} {ds : List PyData} (r : Reps K S vs ds) :
    EnvOk K (some 0) b H0 S H (L2.start N (.ref b.1 :: vs)) (startD N.length (none :: ds.map fun d => some (.dat d))) := by
  refine ⟨?_, fun i z => ?_, fun i d h => ?_, fun i es h => ?_, fun i a h => ?_, fun i c h => ?_⟩
  · unfold L2.start startD
    simp only [List.length_append, List.length_map, List.length_replicate, List.length_cons, r.length]
  · cases z
    exact start_get rfl
  · have h := startD_get h
    cases i with
    | zero => cases h
    | succ i =>
      rw [List.getElem?_cons_succ, List.getElem?_map] at h
      cases e : ds[i]? with
      | none => rw [e] at h; cases h
      | some d' =>
        rw [e] at h
        cases h
        obtain ⟨v, hv, rv⟩ := r.get e
        exact ⟨v, start_get (by simpa using hv), rv⟩
  · have h := startD_get h
    cases i with
    | zero => cases h
    | succ i =>
      rw [List.getElem?_cons_succ, List.getElem?_map] at h
      cases e : ds[i]? with
      | none => rw [e] at h; cases h
      | some d' => rw [e] at h; cases h
  · have h := startD_get h
    cases i with
    | zero => cases h
    | succ i =>
      rw [List.getElem?_cons_succ, List.getElem?_map] at h
      cases e : ds[i]? with
      | none => rw [e] at h; cases h
      | some d' => rw [e] at h; cases h
  · have h := startD_get h
    cases i with
    | zero => cases h
    | succ i =>
      rw [List.getElem?_cons_succ, List.getElem?_map] at h
      cases e : ds[i]? with
      | none => rw [e] at h; cases h
      | some d' => rw [e] at h; cases h
/-- a def's body keeps its promise, if its reading over data does -/
theorem body_P {ts : TS} {dst : DS} {pre : List PyData → Prop} {post : List PyData → PyData → Prop} {N : List Str} (sim : ∀ b, SimS K none b ts dst)
    (h : ∀ ds, pre ds → dst { nx := fun _ => post ds .none, rt := post ds } (startD N.length (ds.map fun d => some (.dat d))))
    {vs : List V} {H : Hp} {Q : VK} {E : XK} (q : spP K pre post vs H Q E) : ts { nx := fun _ H' => Q .non H', rt := Q } (L2.start N vs) H := by
  obtain ⟨S, b, ds, o, r, hp, k⟩ := q
  refine sim b S H S S H _ _ _ _ o (Ex.refl S) (Go.refl o) (env_start r) (h ds hp) ⟨?_, ?_, ?_, ?_, ?_⟩
  · intro S' H' σ' δ' g _ _ z
    exact k S' H' .non .none g .non z
  · intro S' H' v d g _ rv z
    exact k S' H' v d g rv z
  · intro S' H' σ' δ' g _ _ z
    exact z
  · intro S' H' σ' δ' g _ _ z
    exact z
  · intro S' H' p xs es g _ _ _ _ _ z
    exact z.elim
theorem body_G {ts : TS} {dst : DS} {pre : List PyData → Prop} {post : List PyData → PyData → Prop} {N : List Str} (sim : ∀ b, SimS K (some 0) b ts dst)
    (h : ∀ ds, pre ds → dst { nx := fun _ => post ds .none, rt := post ds } (startD N.length (none :: ds.map fun d => some (.dat d))))
    {vs : List V} {H : Hp} {Q : VK} {E : XK} (q : spG K pre post vs H Q E) : ts { nx := fun _ H' => Q .non H', rt := Q } (L2.start N vs) H := by
  obtain ⟨S, b, ws, ds, rfl, o, r, hp, k⟩ := q
  refine sim b S H S S H _ _ _ _ o (Ex.refl S) (Go.refl o) (env_startG r) (h ds hp) ⟨?_, ?_, ?_, ?_, ?_⟩
  · intro S' H' σ' δ' g _ _ z
    exact k S' H' .non .none g .non z
  · intro S' H' v d g _ rv z
    exact k S' H' v d g rv z
  · intro S' H' σ' δ' g _ _ z
    exact z
  · intro S' H' σ' δ' g _ _ z
    exact z
  · intro S' H' p xs es g _ _ _ _ _ z
    exact z.elim
end
end DL

namespace DL
open PySem PySem.Spec PyProof.Rows L2
open Evl (Ex ex_l ex_t)
variable [TheW]

/-- a def of the text by its body, where no guard stands -/
theorem ok_G {P : Program} {w : World} {K : PySem.W.Frag} {mg : Str → Option Value} {base : Heap} {x qual : Str} {st : Stmt} {f : Addr} {fd : FuncData} {N ps : List Str} {k : Nat} {sp : Sp}
    (F : Fun K x qual st f fd) (S : FnScope N ps (defScope st)) (len : ∀ vs H Q E, sp vs H Q E → vs.length = ps.length)
    (hbody : ∀ (cdv : Value) (A : Around) (outer : List Env) (s : Shared) (H : Hp) (vs : List V) (Q : VK) (E : XK),
      RoomG k (A.deeper (envOfC qual (defScope st) s.heap.objs.size f cdv)) → sp vs H Q E →
      ∃ t, PSs (cxOf L2.CX0 P w K mg base N qual (defScope st) f cdv A outer s H E).nox (defBody st) t ∧
        t { nx := fun _ H' => Q .non H', rt := Q } (L2.start N vs) H) : FnG P w K mg base L2.CX0 (k + 1) f fd ps sp := by
  obtain ⟨oc, od, kV, doc, pm, an, cdv, ct, osl, rfl, lk, hcd⟩ := F.ex
  refine fn_ofG lk hcd S len ?_
  intro A outer s H vs Q E hr hsp
  obtain ⟨t, h, q⟩ := hbody cdv A outer s H vs Q E hr hsp
  exact ⟨t, h.nox, q⟩
theorem len_P {K : PySem.W.Frag} {pre : List PyData → Prop} {post : List PyData → PyData → Prop} {n : Nat} (h : ∀ ds, pre ds → ds.length = n) : ∀ vs H Q E, spP K pre post vs H Q E → vs.length = n := by
  rintro vs H Q E ⟨S, b, ds, o, r, p, k⟩
  rw [r.length]
  exact h ds p
theorem len_G {K : PySem.W.Frag} {pre : List PyData → Prop} {post : List PyData → PyData → Prop} {n : Nat} (h : ∀ ds, pre ds → ds.length = n) : ∀ vs H Q E, spG K pre post vs H Q E → vs.length = n + 1 := by
  rintro vs H Q E ⟨S, b, ws, ds, rfl, o, r, p, k⟩
  rw [List.length_cons, r.length, h ds p]

/-! ### a text turned round -/
def tRevS (te : TE) : TE := fun σ H Q => te σ H fun x H1 => ∃ z : Str, x = .str z ∧ z.length ≤ 100000 ∧
  ∀ y : Str, y.length ≤ z.length → (∀ c ∈ y.cps.toList, c ∈ z.cps.toList) → Q (.str y) H1
theorem pe_revS {X : Cx} {e : Expr} {te : TE} {k : Nat} {p1 p2 p3 pos : Pos} (he : PE X e te) :
    PE X (.Subscript e (.Slice none none (some (.UnaryOp .USub (.Constant (.int 1) k p1) p2)) p3) pos) (tRevS te) := by
  constructor
  intro pins s σ H Q I h
  apply Subscript_
  refine thn (he.run pins s σ H _ I h) ?_
  rintro v s1 ⟨x, H1, I1, r1, z, rfl, hz, q⟩
  obtain ⟨tz, rfl⟩ := (show ∃ t, v = Value.str z t from r1)
  have minus : PO X (some (.UnaryOp .USub (.Constant (.int 1) k p1) p2)) (tPart (tUn (rU fun i => .int (-i)) (tC (.int 1)))) := po_some (pe_un un_neg pe_int)
  apply wpAny_Slice
  refine thn (po_none.run pins s1 σ H1 (fun o H2 => o = none ∧ H2 = H1) I1 ⟨rfl, rfl⟩) ?_
  rintro vl s2 ⟨l, H2, I2, pl, rfl, rfl⟩
  refine thn (po_none.run pins s2 σ H2 (fun o H3 => o = none ∧ H3 = H2) I2 ⟨rfl, rfl⟩) ?_
  rintro vu s3 ⟨u, H3, I3, pu, rfl, rfl⟩
  refine thn (minus.run pins s3 σ H3 (fun o H4 => o = some (-1) ∧ H4 = H3) I3 ⟨1, rfl, -1, rfl, rfl, rfl⟩) ?_
  rintro vs s4 ⟨o, H4, I4, ps, rfl, rfl⟩
  have hl : vl = Value.none := by cases pl; rfl
  have hu : vu = Value.none := by cases pu; rfl
  obtain ⟨tk, hs⟩ : ∃ tk, vs = Value.int (-1) tk := by
    cases ps with
    | int i t => exact ⟨t, rfl⟩
  subst hl hu hs
  have I5 : Inv X pins σ H4 { s4 with heap := s4.heap.push { cls := .type "slice", data := .fields #[Value.none, Value.none, Value.int (-1) tk] } } :=
    I4.kept (t' := s4.toks) (fun b ob q => Heap.get?_push_of_some _ q)
  refine tail_any (ops := [.ref s4.heap.objs.size, .str z tz]) (typeIs_str _ _ _) (F.slot_str_getitem.lookup) ?_ (by with_unfolding_all rfl)
  refine wpAny_getItem_str_slice (l := none) (u := none) (st := some (-1, tk)) ⟨_, Heap.get?_push_size _ rfl, rfl, rfl⟩ rfl ?_
  have bound := Txt.sliceBy_le z none none (-1, tk) (show (-1 : Int) ≠ 0 by decide)
  have neg : (((some (-1, tk) : Option (Int × Tok)).map (·.1)).getD 1 == 1 && (slicePicked z none none (some (-1, tk))).length == z.length) = true → False := by
    intro c
    rw [Bool.and_eq_true] at c
    exact absurd (show ((-1 : Int) == 1) = true from c.1) (by decide)
  unfold Txt.sliceBy at bound
  rw [if_neg neg] at bound
  unfold sliceMade
  rw [if_neg neg]
  refine ⟨?_, .str _, H4, I5.tok _, ⟨_, rfl⟩, q _ bound ?_⟩
  · exact Nat.le_trans bound (Evl.sz_of hz)
  · intro c hc
    have hc' : c ∈ (slicePicked z none none (some (-1, tk))).filterMap (z.cps[·]?) := by simpa using hc
    obtain ⟨i, _, hi⟩ := List.mem_filterMap.mp hc'
    rw [← Array.getElem?_toList] at hi
    exact List.mem_of_getElem? hi
section
variable {K : PySem.W.Frag} {ib : Option Nat} {b : Bg} {te to : TE} {de dO' : DE}
def dRevS (de : DE) : DE := fun δ R => de δ fun d => match d with
  | .str z => small z.length = true ∧ ∀ y : Str, y.length ≤ z.length → (∀ c ∈ y.cps.toList, c ∈ z.cps.toList) → R (.str y)
  | _ => False
theorem sim_revS (h1 : SimE K ib b te de) : SimE K ib b (tRevS te) (dRevS de) := by
  intro H0 S H σ δ R Q o e h k
  refine h1 H0 S H σ δ _ _ o e h fun S1 H1 v dv g r q => ?_
  split at q
  · rw [r.strV]
    exact ⟨_, rfl, of_decide_eq_true q.1, fun y h1 h2 => k S1 H1 _ _ g (.str y) (q.2 y h1 h2)⟩
  · exact q.elim
/-- s.upper() -/
def rUpper : V → List V → Hp → VK → Prop := fun x xs H Q => ∃ a, x = .str a ∧ xs = [] ∧ a.length ≤ 5592405 ∧ Q (.str (Txt.upper a)) H
def dUpper (de : DE) : DE := fun δ R => de δ fun d => match d with
  | .str z => small z.length = true ∧ R (.str (Txt.upper z))
  | _ => False
theorem sim_upper (h1 : SimE K ib b te de) : SimE K ib b (tM0 rUpper te) (dUpper de) := by
  intro H0 S H σ δ R Q o e h k
  refine h1 H0 S H σ δ _ _ o e h fun S1 H1 v dv g r q => ?_
  split at q
  · rw [r.strV]
    have := of_decide_eq_true q.1
    exact ⟨⟨_, rfl⟩, _, rfl, rfl, by omega, k S1 H1 _ _ g (.str _) q.2⟩
  · exact q.elim
/-- s.join(xs) -/
def strsOf : List PyData → Option (List Str)
  | [] => some []
  | .str c :: r => (strsOf r).map (c :: ·)
  | _ => none
theorem strs_rep {S : Hp} : ∀ {vs : List V} {ds : List PyData} {bs : List Str}, Reps K S vs ds → strsOf ds = some bs → vs = bs.map V.str
  | _, _, bs, .nil, h => by
    rw [strsOf] at h
    cases h
    rfl
  | _, _, bs, .cons r q, h => by
    cases r with
    | str c =>
      rw [strsOf] at h
      obtain ⟨w, hw, rfl⟩ := Option.map_eq_some_iff.mp h
      rw [strs_rep q hw]
      rfl
    | _ => simp [strsOf] at h
def rJoin (K : PySem.W.Frag) : V → List V → Hp → VK → Prop := fun x xs H Q => ∃ a p, ∃ ys : List Str, x = .str a ∧ xs = [.ref p] ∧ (SqL K H p (ys.map V.str) ∨ SqT K H p (ys.map V.str)) ∧
  (ys.map (·.length)).sum + ys.length * a.length ≤ 16777216 ∧ Q (.str (Txt.join a ys)) H
def dJoin (ds de : DE) : DE := fun δ R => ds δ fun d => de δ fun y => match d, y with
  | .str a, .list xs => ∃ ys, strsOf xs = some ys ∧ (ys.map (·.length)).sum + ys.length * a.length ≤ 16777216 ∧ R (.str (Txt.join a ys))
  | _, _ => False
theorem sim_join {ts : TE} {ds : DE} (h0 : ∀ δ R, ds δ R → ds δ fun d => R d ∧ ∃ a, d = .str a) (h1 : SimE K ib b ts ds) (h2 : SimE K ib b te de) : SimE K ib b (tM1 (rJoin K) ts te) (dJoin ds de) := by
  intro H0 S H σ δ R Q o e h k
  refine h1 H0 S H σ δ _ _ o e (h0 δ _ h) fun S1 H1 v dv g r q => ?_
  obtain ⟨q, a, rfl⟩ := q
  rw [r.strV]
  refine ⟨⟨a, rfl⟩, ?_⟩
  refine h2 H0 S1 H1 σ δ _ _ g.ok (e.go g) q fun S2 H2 w dw g2 r2 q2 => ?_
  split at q2
  · rename_i a' xs e1
    cases e1
    obtain ⟨p, us, rfl, hq, qs⟩ := r2.lstV
    obtain ⟨ys, hy, hz, q2⟩ := q2
    have eu := strs_rep qs hy
    subst eu
    exact ⟨_, p, ys, rfl, rfl, .inl (SqL.of (g2.ok.sub _ _ hq)), hz, k S2 H2 _ _ (g.trans o g2) (.str _) q2⟩
  · exact q2.elim
end

/-! ### the bag and its draws, in the layer's own readings -/
section
variable {X : Cx}
/-- xs[k] as it is read ahead of xs[k] op= e -/
def rAt (K : PySem.W.Frag) : V → V → Hp → VK → Prop := fun x y H Q => ∃ p xs, ∃ j : Nat, ∃ v, x = .ref p ∧ y = .int (j : Int) ∧ SqL K H p xs ∧ xs[j]? = some v ∧ Q v H
theorem pget_list : PGet X (rAt X.K) := by
  intro pins s σ H o i ov iv Q I ro ri h
  obtain ⟨p, xs, j, v, rfl, rfl, hs, ha, q⟩ := h
  cases (show ov = Value.ref p from ro)
  obtain ⟨t, rfl⟩ := (show ∃ t, iv = Value.int (j : Int) t from ri)
  obtain ⟨its, r, pl, hz⟩ := I.list hs
  obtain ⟨u, hu, ru⟩ := r.get ha
  have hj : j < xs.length := (List.getElem?_eq_some_iff.mp ha).1
  have hs : sizeLine = 16777216 := sizeLine_eq
  exact wpAny_getItem_list pl.isList (by omega) (by omega) (by simpa using hu) ⟨v, H, I, ru, q⟩
end
end DL

/-! Dict displays of no, of one entry. -/
namespace DL
open PySem PySem.Spec PyProof.Rows L2
open Evl (Ex ex_l ex_t)
variable [TheW]

def tDispT (K : PySem.W.Frag) (tk tv : TE) : TE := fun σ H Q => ∀ p, H p = none → tPairs [(tk, tv)] σ (upd H p (HN TheW.w p [])) fun ps H2 => H2 p = some (HN TheW.w p []) ∧
  ∃ (k : NestedKey) (a : Addr) (y : V), ps = [(.ref a, y)] ∧ KeyV K H2 a k ∧ ∀ u ob, RelV y u → Q (.ref p) (upd H2 p (HP TheW.w p [(k, a, u)] ob))
theorem nat_empty {w : World} (h : Heap) (hb : sysModules < h.objs.size) : NAt w h.objs.size [] (h.push { cls := .type "dict", data := .dict #[] }) :=
  ⟨beq_eq_false_iff_ne.mpr (Ne.symm (Nat.ne_of_lt hb)), ⟨#[], 0, ⟨_, Heap.get?_push_size _ rfl, ⟨rfl, rfl, rfl⟩, rfl⟩, rfl⟩, List.nodup_nil, Nat.zero_le _⟩
theorem pe_dispT {X : Cx} {pos : Pos} {k v : Expr} {tk tv : TE} (hw : TheW.w = X.w) (hu : X.A.units + 64 < cLine) (hk : PE X k tk) (hv : PE X v tv) : PE X (.Dict [some k] [v] pos) (tDispT X.K tk tv) := by
  constructor
  intro pins s σ H Q I q
  have hn := I.hok.fresh (Nat.le_refl s.heap.objs.size)
  have I1 := I.laid (a := s.heap.objs.size) (o := HN TheW.w s.heap.objs.size []) (h' := s.heap.push { cls := .type "dict", data := .dict #[] }) (t' := s.toks)
    (fun _ _ q => Heap.get?_push_of_some _ q) (Nat.le_refl _) (nat_empty s.heap I.big).obj
  have one : PPs X pos [some k] [v] [(tk, tv)] := pps_cons hk hv pps_nil
  have shape := zip_pairTrees [some k] [v] X.env pos rfl rfl
  have len1 : (pairTrees [some k] [v] X.env pos).length = 1 := pairTrees_length [some k] [v] X.env pos rfl rfl
  rw [arm_eval_Dict, shape, dictDisplay_pairs _ (by intro z; rw [z] at len1; cases len1) (by rw [len1]; decide)]
  apply wpAny_bind
  apply wpAny_standAt
  apply wpAny_bind
  refine wpAny_subDictH (knd := nestedKind X.prog X.w) (Q := fun d s' => wpAny _ _ (pure (Value.ref d)) _ _ s') (show X.A.units + 8 < cLine by omega) (by rw [len1]; decide) ?_
  refine thn (one.run pins _ σ _ _ I1 (q _ hn)) ?_
  · rintro ws s2 ⟨ps, H2, I2, rel, e, ks, a, y, rfl, ea, q2⟩
    cases rel with
    | cons r1 r2 =>
      cases r2
      rename_i kv
      obtain ⟨u1, u2⟩ := kv
      obtain ⟨ra, rb⟩ := r1
      cases (show u1 = Value.ref a from ra)
      have kd := keyV_at I2 ea
      have n2 : NAt X.w s.heap.objs.size [] s2.heap := by
        rw [← hw]
        exact (show ObjOk X.prog X.w H2 s2.heap s.heap.objs.size (HN TheW.w s.heap.objs.size []) from I2.hok _ _ e).1
      have dd := n2.ofH (P := X.prog) fun x hx => (by cases hx)
      refine ⟨[(ks, a, u2)], ⟨rfl, rfl, kd, trivial⟩, dd, fun h' tk' dd' hs => ?_⟩
      apply wpAny_pure
      have he : ∃ q, h'.get? s.heap.objs.size = some q := let ⟨q, _, _, hq, _⟩ := dd'; ⟨q, hq⟩
      have n3 : NAt TheW.w s.heap.objs.size [(ks, a, u2)] h' := by
        rw [hw]
        exact NAt.to n2.1 (by decide : 1 ≤ sizeLine) dd'
      obtain ⟨ob, eb⟩ := id he
      have n4 : ObjOk X.prog X.w (upd H2 s.heap.objs.size (HP TheW.w s.heap.objs.size [(ks, a, u2)] ob)) h' s.heap.objs.size (HP TheW.w s.heap.objs.size [(ks, a, u2)] ob) := by
        rw [← hw]
        exact NAt.objP n3 eb
      exact ⟨.ref s.heap.objs.size, _, d_write (ob := HP TheW.w s.heap.objs.size [(ks, a, u2)] ob) I2 (by rw [e]; trivial) hs he n4, rfl, q2 u2 ob rb⟩
section
variable {K : PySem.W.Frag} {ib : Option Nat} {b : Bg} {tk tv : TE} {dk dv : DE}
def dDict0 : DE := fun _ R => R (.dict [])
theorem sim_dict0 : SimE K ib b tDNewK dDict0 := by
  intro H0 S H σ δ R Q o e h k p hp
  have g := Go.laid (u := .dK []) o hp
  exact k _ _ _ (.dict []) g (.dK (kvs := []) (ds := []) upd_same .nil) h
def keyOf : PyData → Option Key
  | .int i => some (.inl i)
  | .str x => some (.inr x)
  | _ => none
def keysOf : List PyData → Option (List Key)
  | [] => some []
  | d :: r => match keyOf d, keysOf r with
    | some k, some ks => some (k :: ks)
    | _, _ => none
theorem keyOf_rep {S : Hp} {v : V} {d : PyData} {k : Key} (r : Rep K S v d) (h : keyOf d = some k) : v = kV k ∧ d = keyD k := by
  cases r with
  | int i => cases h; exact ⟨rfl, rfl⟩
  | str x => cases h; exact ⟨rfl, rfl⟩
  | _ => cases h
theorem keysOf_rep {S : Hp} : ∀ {vs : List V} {ds : List PyData} {ks : List Key}, Reps K S vs ds → keysOf ds = some ks → vs = ks.map kV ∧ ds = ks.map keyD
  | _, _, ks, .nil, h => by
    rw [keysOf] at h
    cases h
    exact ⟨rfl, rfl⟩
  | _, _, ks, .cons (d := d) (ds := ds) r q, h => by
    rw [keysOf] at h
    cases e1 : keyOf d with
    | none => rw [e1] at h; cases h
    | some k =>
      cases e2 : keysOf ds with
      | none => rw [e1, e2] at h; cases h
      | some ks' =>
        rw [e1, e2] at h
        cases h
        obtain ⟨a1, a2⟩ := keyOf_rep r e1
        obtain ⟨b1, b2⟩ := keysOf_rep q e2
        rw [a1, a2, b1, b2]
        exact ⟨rfl, rfl⟩
def dDictK (dk dv : DE) : DE := fun δ R => dk δ fun x => dv δ fun y => (keyOf x).isSome = true ∧ R (.dict [(x, y)])
def dDictT (d : DA) (dv : DE) : DE := fun δ R => d δ fun xs => dv δ fun y => (small xs.length = true ∧ (keysOf xs).isSome = true) ∧ R (.dict [(.tuple xs, y)])
theorem sim_dictK (h1 : SimE K ib b tk dk) (h2 : SimE K ib b tv dv) : SimE K ib b (tDisp [(tk, tv)]) (dDictK dk dv) := by
  intro H0 S H σ δ R Q o e h k p hp
  have g0 := Go.laidOwn (u := .dK []) o hp
  have np : ib ≠ none → p ≠ b.1 := fun z w => (o.bag z).tr (w ▸ hp)
  have sp : S p = none := Ex.none_of o.sub hp
  refine h1 H0 S _ σ δ _ _ g0.ok (e.go g0) h fun S1 H1 x dx g1 r1 q1 => ?_
  have p1 := g1.keep p _ np upd_same
  have s1 := g1.new p (by rw [upd_same]; exact Option.some_ne_none _) sp
  have g01 := g0.trans o g1
  refine h2 H0 S1 H1 σ δ _ _ g1.ok (e.go g01) q1 fun S2 H2 y dy g2 r2 q2 => ?_
  have p2 := g2.keep p _ np p1
  have s2 := g2.new p (by rw [p1]; exact Option.some_ne_none _) s1
  have g02 := g01.trans o g2
  obtain ⟨c, hc⟩ := Option.isSome_iff_exists.mp q2.1
  obtain ⟨rfl, rfl⟩ := keyOf_rep (r1.mono g2.st) hc
  refine ⟨p2, [(c, y)], rfl, Nat.le_trans (Nat.le_of_eq rfl) (by decide : 1 ≤ 15), ?_⟩
  have g3 := Go.freeze (u := .dK (mergeK [] [(c, y)])) o (Go.ownUpd (u := .dK (mergeK [] [(c, y)])) o g02 hp s2) hp s2 upd_same
  exact k _ _ _ _ g3 (.dK (kvs := [(c, y)]) (ds := [dy]) upd_same (.cons (r2.mono (Ex.new s2)) .nil)) q2.2
theorem nks_keysOf : ∀ {ds : List PyData} {ks : List Key}, keysOf ds = some ks → ∃ e, nks ds = some e ∧ NestedKey.depthAll e ≤ 0
  | [], _, _ => ⟨[], rfl, by simp [NestedKey.depthAll]⟩
  | d :: r, ks, h => by
    rw [keysOf] at h
    cases e1 : keyOf d with
    | none => rw [e1] at h; cases h
    | some k =>
      cases e2 : keysOf r with
      | none => rw [e1, e2] at h; cases h
      | some ks' =>
        obtain ⟨e, h1, h2⟩ := nks_keysOf e2
        cases d with
        | int i => exact ⟨.num i :: e, by simp only [nks, nk, h1], by simp only [NestedKey.depthAll, NestedKey.depth]; omega⟩
        | str x => exact ⟨.text x :: e, by simp only [nks, nk, h1], by simp only [NestedKey.depthAll, NestedKey.depth]; omega⟩
        | _ => cases e1
theorem sim_dictT {t : TA} {d : DA} (hlen : ∀ δ R, d δ R → d δ fun xs => small xs.length = true ∧ R xs) (h1 : SimA K ib b t d) (h2 : SimE K ib b tv dv) : SimE K ib b (tDispT K (tTup t) tv) (dDictT d dv) := by
  intro H0 S H σ δ R Q o e h k p hp
  have g0 := Go.laidOwn (u := HN TheW.w p []) o hp
  have np : ib ≠ none → p ≠ b.1 := fun z w => (o.bag z).tr (w ▸ hp)
  have sp : S p = none := Ex.none_of o.sub hp
  refine h1 H0 S _ σ δ _ _ g0.ok (e.go g0) (hlen δ _ h) fun S1 H1 us xs g1 r1 q1 => ⟨by rw [r1.length]; exact small_ok q1.1, fun a ha => ?_⟩
  have p1 := g1.keep p _ np upd_same
  have s1 := g1.new p (by rw [upd_same]; exact Option.some_ne_none _) sp
  have g01 := g0.trans o g1
  have gt := Go.laid (u := .tup us) g1.ok ha
  have pt := gt.keep p _ np p1
  have st := gt.new p (by rw [p1]; exact Option.some_ne_none _) s1
  have g0t := g01.trans o gt
  have na : ib ≠ none → a ≠ b.1 := fun z w => (g1.ok.bag z).tr (w ▸ ha)
  have ra : Rep K (upd S1 a (.tup us)) (.ref a) (.tuple xs) := .tup (.inl (.inl upd_same)) (r1.mono gt.st)
  refine h2 H0 _ _ σ δ _ _ gt.ok (e.go g0t) q1.2 fun S2 H2 y dy g2 r2 q2 => ?_
  have p2 := g2.keep p _ np pt
  have s2 := g2.new p (by rw [pt]; exact Option.some_ne_none _) st
  have g02 := g0t.trans o g2
  obtain ⟨c, hc⟩ := Option.isSome_iff_exists.mp q2.1.2
  obtain ⟨en, hn, hd⟩ := nks_keysOf hc
  have hk : nk (.tuple xs) = some (.tup en) := by simp only [nk, hn, Option.map_some]
  have h8 : (NestedKey.tup en).depth ≤ 8 := by
    simp only [NestedKey.depth]
    omega
  have ra2 := ra.mono g2.st
  refine ⟨p2, .tup en, a, y, rfl, ⟨_, ra2.mono g2.ok.sub, hk, h8⟩, fun u ob ru => ?_⟩
  have g3 := Go.freeze (u := HP TheW.w p [(.tup en, a, u)] ob) o (Go.ownUpd (u := HP TheW.w p [(.tup en, a, u)] ob) o g02 hp s2) hp s2 upd_same
  refine k _ _ _ _ g3 (.dN (xs := [(.tup en, a, u)]) (ks := [.tuple xs]) (vs := [y]) (ds := [dy]) upd_same ?_ ?_ (.cons (ra2.mono (Ex.new s2)) .nil) (.cons (r2.mono (Ex.new s2)) .nil) (.cons ru .nil)) q2.2
  · simp only [List.map_cons, List.map_nil, hk]
  · intro x hx
    rw [List.mem_singleton.mp hx]
    exact h8
end
end DL

namespace DL
open PySem PySem.Spec PyProof.Rows L2
open Evl (Ex ex_l ex_t)
variable [TheW]
section
variable {K : PySem.W.Frag} {ib : Option Nat} {b : Bg} {te : TE} {de : DE}
theorem cut_mem {α : Type} {xs : List α} {lo hi : Option Int} {x : α} (h : x ∈ cutD xs lo hi) : x ∈ xs := List.mem_of_mem_drop (List.mem_of_mem_take h)
theorem cut_len {α : Type} (xs : List α) (lo hi : Option Int) : (cutD xs lo hi).length ≤ xs.length := by
  unfold cutD
  rw [List.length_take, List.length_drop]
  omega
theorem cut_map {α β : Type} (f : α → β) (xs : List α) (lo hi : Option Int) : cutD (xs.map f) lo hi = (cutD xs lo hi).map f := by
  unfold cutD
  rw [List.length_map, List.map_take, List.map_drop]
/-- bag[3][bag[2]:] -/
theorem sim_cells {i : Nat} (hi : ib = some i) : SimE K ib b (tSl (rSlU K) (tOp (rIx K) (tVar i) (tC (.int 3))) (tPart (tOp (rIx K) (tVar i) (tC (.int 2)))) tNoPart) dCells := by
  intro H0 S H σ δ R Q o e h k
  obtain ⟨r, m, n, ns, e1, ne, e2, e3, h1, h2, h3⟩ := (o.bag (by rw [hi]; simp)).ex
  refine ⟨_, e.slot i hi, .inl ⟨b.1, _, 3, _, rfl, rfl, SqL.of e1, at4 (by omega), ?_⟩⟩
  refine ⟨_, e.slot i hi, .inl ⟨b.1, _, 2, _, rfl, rfl, SqL.of e1, at4 (by omega), ?_⟩⟩
  refine ⟨n, rfl, ?_⟩
  refine .inl (.inl ⟨b.2, _, rfl, SqL.of e2, fun p hp => ?_⟩)
  have ec : cutV (ns.map V.int) (some n) none = (cutD ns (some n) none).map V.int := cut_map V.int ns (some n) none
  rw [ec]
  have g := Go.laid (u := .lst ((cutD ns (some n) none).map V.int)) o hp
  refine k _ _ _ _ g (.lst upd_same (Reps.of_ints _)) (h _ (fun x hx => e3 x (cut_mem hx)) (Nat.le_trans (cut_len _ _ _) h3))
/-- bag[2] += e -/
def dBagAug (de : DE) : DS := fun DD δ => de δ fun d => isI d fun _ => DD.nx δ
theorem sim_bagAug {i : Nat} (hi : ib = some i) (h1 : SimE K ib b te de) : SimS K ib b (tAugS (tVar i) (tC (.int 2)) te (rAt K) (ipI fun i j => i + j) rSetL) (dBagAug de) := by
  intro S0 H0 Sm S H σ δ D DD o em g0 e h x
  obtain ⟨r, m, n, ns, e1, ne, e2, e3, h2, h3, h4⟩ := (g0.ok.bag (by rw [hi]; simp)).ex
  refine ⟨_, e.slot i hi, b.1, _, 2, .int n, rfl, rfl, SqL.of e1, rfl, ?_⟩
  refine h1 H0 S H σ δ _ _ g0.ok e h fun S1 H1 v dv g1 rv q => ?_
  obtain ⟨c, rfl, _, q⟩ := isI_of rv q
  refine ⟨n, c, rfl, rfl, ?_⟩
  obtain ⟨r', m', n', ns', f1, fne, f2, f3, f4, f5, f6⟩ := (g1.ok.bag (by rw [hi]; simp)).ex
  have g2 := bag_set hi g1.ok (e.go g1) (r := r') (m := m') (n := n + c) f4 f5
  refine ⟨b.1, _, 2, 2, rfl, rfl, f1, rfl, ?_⟩
  have g12 := g1.trans g0.ok g2
  exact x.nx S1 _ σ δ (g0.trans o g12) (em.trans g1.st) (e.go g12) q
end
end DL

/-! The defs that all laws share: the draws, two found alike, one of some, any odd value, a name. -/
namespace DL
open PySem PySem.Spec PyProof.Rows L2
open Evl (Ex ex_l ex_t)
variable [TheW]
def pre_l_take : List PyData → Prop := fun ds => match ds with
  | [.int n] => 0 < n ∧ n.natAbs.log2 < 9000
  | _ => False
def post_l_take : List PyData → PyData → Prop := fun ds d => match ds with
  | [.int n] => ∃ i : Int, d = .int i ∧ 0 ≤ i ∧ i < n
  | _ => False
def sp_l_take (K : PySem.W.Frag) : Sp := spG K pre_l_take post_l_take
def pre_l_alike : List PyData → Prop := fun ds => match ds with
  | [x, y] => (eqOk x y && (showOk x && showOk y)) = true
  | _ => False
def post_l_alike : List PyData → PyData → Prop := fun ds d => match ds with
  | [x, y] => d = .bool (PyData.eqv x y && x.shown == y.shown)
  | _ => False
def sp_l_alike (K : PySem.W.Frag) : Sp := spP K pre_l_alike post_l_alike
def pre_l_one : List PyData → Prop := fun ds => match ds with
  | [.list xs] => xs ≠ [] ∧ small xs.length = true
  | [.tuple xs] => xs ≠ [] ∧ small xs.length = true
  | [.str x] => 0 < x.length ∧ small x.length = true
  | _ => False
def post_l_one : List PyData → PyData → Prop := fun ds d => match ds with
  | [.list xs] => d ∈ xs
  | [.tuple xs] => d ∈ xs
  | [.str x] => ∃ c, c ∈ x.cps.toList ∧ d = .str ⟨#[c]⟩
  | _ => False
def sp_l_one (K : PySem.W.Frag) : Sp := spG K pre_l_one post_l_one
def odds : List PyData :=
  let a : PyData := .str "a"
  [.none, .bool true, .bool false, .int 0, .int 1, .int 7, .int (-1), .int (10 ^ 39), .int (-(10 ^ 39)), .str "", a, .str "A", .str "if", .str "tell", .str "yes", .str "no", .str "a1", .str " "] ++
  [.str "a\n", .str "abcdefghi", .tuple [], .list [], .dict [], .tuple [a], .list [a], .tuple [.str "A"], .tuple [.str "if"], .tuple [a, .str "b"], .tuple [.tuple [a]], .tuple [a, .int 0]] ++
  [.tuple [a, .list [.str "b"]], .tuple [.str "tell"], .tuple [.str "yes", .str "no"], .list [.str "yes"], .tuple [.str "alike", .tuple [a]], .dict [(a, .int 1)], .dict [(.tuple [a], .int 1)], .tuple [.none]] ++
  [.list [.list []], .dict [(.int 1, .tuple [a])]]
def pre_l_odd : List PyData → Prop := fun ds => ds = []
def post_l_odd : List PyData → PyData → Prop := fun _ d => d ∈ odds
def sp_l_odd (K : PySem.W.Frag) : Sp := spG K pre_l_odd post_l_odd
/-- the words that are no names -/
def noNames : List Str := ["alike", "go", "if", "no", "tell", "unlike", "with", "yes"]
def lower (c : Nat) : Bool := decide (97 ≤ c) && decide (c ≤ 122)
def isNm (x : Str) : Bool := decide (1 ≤ x.length) && decide (x.length ≤ 8) && !(noNames.any (· == x)) && x.cps.toList.all lower
def pre_l_name : List PyData → Prop := fun ds => ds = []
def post_l_name : List PyData → PyData → Prop := fun _ d => ∃ x, d = .str x ∧ isNm x = true
def sp_l_name (K : PySem.W.Frag) : Sp := spG K pre_l_name post_l_name
theorem n_l_take : ∀ ds, pre_l_take ds → ds.length = 1 := by
  intro ds h
  unfold pre_l_take at h
  first | (split at h <;> first | rfl | exact h.elim) | (subst h; rfl)
theorem n_l_alike : ∀ ds, pre_l_alike ds → ds.length = 2 := by
  intro ds h
  unfold pre_l_alike at h
  first | (split at h <;> first | rfl | exact h.elim) | (subst h; rfl)
theorem n_l_one : ∀ ds, pre_l_one ds → ds.length = 1 := by
  intro ds h
  unfold pre_l_one at h
  first | (split at h <;> first | rfl | exact h.elim) | (subst h; rfl)
theorem n_l_odd : ∀ ds, pre_l_odd ds → ds.length = 0 := by
  intro ds h
  unfold pre_l_odd at h
  first | (split at h <;> first | rfl | exact h.elim) | (subst h; rfl)
theorem n_l_name : ∀ ds, pre_l_name ds → ds.length = 0 := by
  intro ds h
  unfold pre_l_name at h
  first | (split at h <;> first | rfl | exact h.elim) | (subst h; rfl)
def t_l_take (K : PySem.W.Frag) : TS := (tSeq (tIfS (tTest (tOp (rEqU K) (tOp (rIx K) (tVar 0) (tC (.int 0))) (tC (.int 0)))) (tSeq (tAsg (tOp (rIx K) (tOp (rAddU K) (tSl (rSlU K) (tOp (rIx K) (tVar 0) (tC (.int 3))) (tPart (tOp (rIx K) (tVar 0) (tC (.int 2)))) tNoPart) (tLst (tCons (tC (.int 0)) tNil))) (tC (.int 0))) (gName 2))
    (tSeq (tAugS (tVar 0) (tC (.int 2)) (tC (.int 1)) (rAt K) (ipI fun i j => i + j) rSetL)
    (tSeq (tAsg (tOp (rI CMul fun i j => .int (i * j)) (tVar 2) (tCB rInt1 (tCons (tOp (rLtU (fun i j => decide (j ≤ i)) fun i j => !ltS i j) (tVar 2) (tOp (rI CPow fun i j => .int (i ^ j.toNat)) (tC (.int 10)) (tC (.int 18)))) tNil))) (gSub (tVar 0) (tC (.int 0)) rSetL))
    (tSeq (tAsg (tOp (rAddU K) (tOp (rAddU K) (tOp (rI CMul fun i j => .int (i * j)) (tOp (rIx K) (tVar 0) (tC (.int 1))) (tC (.int 48271))) (tOp (rI (fun _ j => j ≠ 0) fun i j => .int (i.fmod j)) (tCB rInt1 (tCons (tVar 2) tNil)) (tC (.int 2147483647)))) (tOp (rI CMul fun i j => .int (i * j)) (tC (.int 7919)) (tOp (rIx K) (tVar 0) (tC (.int 2))))) (gName 3))
    (tAsg (tOp (rI (fun _ j => j ≠ 0) fun i j => .int (i.fmod j)) (tCB rInt1 (tCons (tVar 3) tNil)) (tC (.int 2147483647))) (gSub (tVar 0) (tC (.int 1)) rSetL)))))) tNext)
    (tSeq (tIfS (tTest (tOp (rLtU (fun i j => decide (j < i)) fun i j => ltS j i) (tOp (rIx K) (tVar 0) (tC (.int 0))) (tC (.int 0)))) (tSeq (tAsg (tTup (tCons (tOp (rI (fun _ j => j ≠ 0) fun i j => .int (i.fmod j)) (tCB rInt1 (tCons (tOp (rIx K) (tVar 0) (tC (.int 0))) tNil)) (tVar 1)) (tCons (tOp (rI CDivW fun i j => .int (i / j)) (tCB rInt1 (tCons (tOp (rIx K) (tVar 0) (tC (.int 0))) tNil)) (tVar 1)) tNil))) (gTup K 2 (gCons (gName 4) (gCons (gSub (tVar 0) (tC (.int 0)) rSetL) gNil))))
    (tRet (tVar 4))) tNext)
    (tSeq (tAsg (tOp (rI (fun _ j => j ≠ 0) fun i j => .int (i.fmod j)) (tCB rInt1 (tCons (tOp (rI CMul fun i j => .int (i * j)) (tOp (rAddU K) (tOp (rIx K) (tVar 0) (tC (.int 1))) (tC (.int 1))) (tC (.int 39373))) tNil)) (tC (.int 1000000007))) (gName 5))
    (tSeq (tAsg (tOp (rI (fun _ j => j ≠ 0) fun i j => .int (i.fmod j)) (tCB rInt1 (tCons (tOp (rI CMul fun i j => .int (i * j)) (tOp (rI (fun _ j => j ≠ 0) fun i j => .int (i.fmod j)) (tCB rInt1 (tCons (tOp (rI CMul fun i j => .int (i * j)) (tVar 5) (tVar 5)) tNil)) (tC (.int 998244353))) (tC (.int 30011))) tNil)) (tC (.int 998244353))) (gName 6))
    (tRet (tOp (rI (fun _ j => j ≠ 0) fun i j => .int (i.fmod j)) (tCB rInt1 (tCons (tOp (rI CDivW fun i j => .int (i / j)) (tVar 6) (tC (.int 7))) tNil)) (tVar 1)))))))
def d_l_take : DS := (dSeq (dIfS (dTest (dOp dEq dBag (dC (.int 0)))) (dSeq (dAsg (dOp dIx (dOp dAdd dCells (dLst (dCons (dC (.int 0)) dNil))) (dC (.int 0))) (dgName 2))
    (dSeq (dBagAug (dC (.int 1)))
    (dSeq (dAsg (dOp (dIC CMul fun i j => i * j) (dVar 2) (dCB dInt1 (dCons (dOp (dLt (fun i j => decide (j ≤ i)) fun i j => !ltS i j) (dVar 2) (dOp (dIC CPow fun i j => i ^ j.toNat) (dC (.int 10)) (dC (.int 18)))) dNil))) dgBag)
    (dSeq (dAsg (dOp dAdd (dOp dAdd (dOp (dIC CMul fun i j => i * j) dBag (dC (.int 48271))) (dOp (dIC (fun _ j => j ≠ 0) fun i j => i.fmod j) (dCB dInt1 (dCons (dVar 2) dNil)) (dC (.int 2147483647)))) (dOp (dIC CMul fun i j => i * j) (dC (.int 7919)) dBagAny)) (dgName 3))
    (dAsg (dOp (dIC (fun _ j => j ≠ 0) fun i j => i.fmod j) (dCB dInt1 (dCons (dVar 3) dNil)) (dC (.int 2147483647))) dgBag))))) dNext)
    (dSeq (dIfS (dTest (dOp (dLt (fun i j => decide (j < i)) fun i j => ltS j i) dBag (dC (.int 0)))) (dSeq (dAsg (dTup (dCons (dOp (dIC (fun _ j => j ≠ 0) fun i j => i.fmod j) (dCB dInt1 (dCons dBag dNil)) (dVar 1)) (dCons (dOp (dIC CDivW fun i j => i / j) (dCB dInt1 (dCons dBag dNil)) (dVar 1)) dNil))) (dgTup 2 (dgCons (dgName 4) (dgCons dgBag dgNil))))
    (dRet (dVar 4))) dNext)
    (dSeq (dAsg (dOp (dIC (fun _ j => j ≠ 0) fun i j => i.fmod j) (dCB dInt1 (dCons (dOp (dIC CMul fun i j => i * j) (dOp dAdd dBag (dC (.int 1))) (dC (.int 39373))) dNil)) (dC (.int 1000000007))) (dgName 5))
    (dSeq (dAsg (dOp (dIC (fun _ j => j ≠ 0) fun i j => i.fmod j) (dCB dInt1 (dCons (dOp (dIC CMul fun i j => i * j) (dOp (dIC (fun _ j => j ≠ 0) fun i j => i.fmod j) (dCB dInt1 (dCons (dOp (dIC CMul fun i j => i * j) (dVar 5) (dVar 5)) dNil)) (dC (.int 998244353))) (dC (.int 30011))) dNil)) (dC (.int 998244353))) (dgName 6))
    (dRet (dOp (dIC (fun _ j => j ≠ 0) fun i j => i.fmod j) (dCB dInt1 (dCons (dOp (dIC CDivW fun i j => i / j) (dVar 6) (dC (.int 7))) dNil)) (dVar 1)))))))
theorem m_l_take {K : PySem.W.Frag} {b : Bg} : SimS K (some 0) b (t_l_take K) (d_l_take) := (sim_seq (sim_if (sim_test (sim_op simr_eq (sim_bag rfl (.inl rfl)) sim_int)) (sim_seq (sim_asg (sim_op simr_ix (sim_op sim_add (sim_cells rfl) (sim_lst (sim_cons sim_int sim_nil))) sim_int) (simg_name (by decide)))
    (sim_seq (sim_bagAug rfl sim_int)
    (sim_seq (sim_asg (sim_op simr_IC sim_var (sim_cb simc_int1 (sim_cons (sim_op simr_lt sim_var (sim_op simr_IC sim_int sim_int)) sim_nil))) (simg_bag rfl (.inl rfl)))
    (sim_seq (sim_asg (sim_op sim_add (sim_op sim_add (sim_op simr_IC (sim_bag rfl (.inr rfl)) sim_int) (sim_op simr_IC (sim_cb simc_int1 (sim_cons sim_var sim_nil)) sim_int)) (sim_op simr_IC sim_int (sim_bag2 rfl))) (simg_name (by decide)))
    (sim_asg (sim_op simr_IC (sim_cb simc_int1 (sim_cons sim_var sim_nil)) sim_int) (simg_bag rfl (.inr rfl))))))) sim_next)
    (sim_seq (sim_if (sim_test (sim_op simr_lt (sim_bag rfl (.inl rfl)) sim_int)) (sim_seq (sim_asg (sim_tup (sim_cons (sim_op simr_IC (sim_cb simc_int1 (sim_cons (sim_bag rfl (.inl rfl)) sim_nil)) sim_var) (sim_cons (sim_op simr_IC (sim_cb simc_int1 (sim_cons (sim_bag rfl (.inl rfl)) sim_nil)) sim_var) sim_nil))) (simg_tup (simg_cons (simg_name (by decide)) (simg_cons (simg_bag rfl (.inl rfl)) simg_nil))))
    (sim_ret sim_var)) sim_next)
    (sim_seq (sim_asg (sim_op simr_IC (sim_cb simc_int1 (sim_cons (sim_op simr_IC (sim_op sim_add (sim_bag rfl (.inr rfl)) sim_int) sim_int) sim_nil)) sim_int) (simg_name (by decide)))
    (sim_seq (sim_asg (sim_op simr_IC (sim_cb simc_int1 (sim_cons (sim_op simr_IC (sim_op simr_IC (sim_cb simc_int1 (sim_cons (sim_op simr_IC sim_var sim_var) sim_nil)) sim_int) sim_int) sim_nil)) sim_int) (simg_name (by decide)))
    (sim_ret (sim_op simr_IC (sim_cb simc_int1 (sim_cons (sim_op simr_IC sim_var sim_int) sim_nil)) sim_var))))))

def t_l_alike (K : PySem.W.Frag) : TS := (tRet (tAndV (tOp (rEqU K) (tVar 0) (tVar 1)) (tOp (rEqU K) (tCB (rRepr K) (tCons (tVar 0) tNil)) (tCB (rRepr K) (tCons (tVar 1) tNil)))))
def d_l_alike : DS := (dRet (dAndV (dOp dEq (dVar 0) (dVar 1)) (dOp dEq (dCB dRepr (dCons (dVar 0) dNil)) (dCB dRepr (dCons (dVar 1) dNil)))))
theorem m_l_alike {K : PySem.W.Frag} {b : Bg} : SimS K none b (t_l_alike K) (d_l_alike) := (sim_ret (sim_andV (sim_op simr_eq sim_var sim_var) (sim_op simr_eq (sim_cb simc_repr (sim_cons sim_var sim_nil)) (sim_cb simc_repr (sim_cons sim_var sim_nil)))))

def t_l_one (K : PySem.W.Frag) : TS := (tRet (tOp (rIx K) (tVar 1) (tCall (sp_l_take K) [] E0 (tCons (tVar 0) (tCons (tCB (rLenU K) (tCons (tVar 1) tNil)) tNil)))))
def d_l_one : DS := (dRet (dOp dIx (dVar 1) (dCall pre_l_take post_l_take (dCons (dCB dLen (dCons (dVar 1) dNil)) dNil))))
theorem m_l_one {K : PySem.W.Frag} {b : Bg} : SimS K (some 0) b (t_l_one K) (d_l_one) := (sim_ret (sim_op simr_ix sim_var (sim_callG rfl (sim_cons (sim_cb simc_len (sim_cons sim_var sim_nil)) sim_nil))))

def t_l_odd (K : PySem.W.Frag) : TS := (tSeq (tAsg (tLst (tCons (tC .non) (tCons (tC (.bl true)) (tCons (tC (.bl false)) (tCons (tC (.int 0)) (tCons (tC (.int 1)) (tCons (tC (.int 7)) (tCons (tUn (rU fun i => .int (-i)) (tC (.int 1))) (tCons (tOp (rI CPow fun i j => .int (i ^ j.toNat)) (tC (.int 10)) (tC (.int 39))) (tCons (tUn (rU fun i => .int (-i)) (tOp (rI CPow fun i j => .int (i ^ j.toNat)) (tC (.int 10)) (tC (.int 39)))) (tCons (tC (.str "")) (tCons (tC (.str "a")) (tCons (tC (.str "A")) (tCons (tC (.str "if")) (tCons (tC (.str "tell")) (tCons (tC (.str "yes")) (tCons (tC (.str "no")) (tCons (tC (.str "a1")) (tCons (tC (.str " ")) tNil))))))))))))))))))) (gName 1))
    (tSeq (tAsg (tOp (rAddU K) (tVar 1) (tLst (tCons (tC (.str "a\n")) (tCons (tC (.str "abcdefghi")) (tCons (tTup tNil) (tCons (tLst tNil) (tCons tDNewK (tCons (tTup (tCons (tC (.str "a")) tNil)) (tCons (tLst (tCons (tC (.str "a")) tNil)) (tCons (tTup (tCons (tC (.str "A")) tNil)) (tCons (tTup (tCons (tC (.str "if")) tNil)) (tCons (tTup (tCons (tC (.str "a")) (tCons (tC (.str "b")) tNil))) (tCons (tTup (tCons (tTup (tCons (tC (.str "a")) tNil)) tNil)) (tCons (tTup (tCons (tC (.str "a")) (tCons (tC (.int 0)) tNil))) tNil)))))))))))))) (gName 1))
    (tSeq (tAsg (tOp (rAddU K) (tVar 1) (tLst (tCons (tTup (tCons (tC (.str "a")) (tCons (tLst (tCons (tC (.str "b")) tNil)) tNil))) (tCons (tTup (tCons (tC (.str "tell")) tNil)) (tCons (tTup (tCons (tC (.str "yes")) (tCons (tC (.str "no")) tNil))) (tCons (tLst (tCons (tC (.str "yes")) tNil)) (tCons (tTup (tCons (tC (.str "alike")) (tCons (tTup (tCons (tC (.str "a")) tNil)) tNil))) (tCons (tDisp [((tC (.str "a")), (tC (.int 1)))]) (tCons (tDispT K (tTup (tCons (tC (.str "a")) tNil)) (tC (.int 1))) (tCons (tTup (tCons (tC .non) tNil)) tNil)))))))))) (gName 1))
    (tSeq (tAsg (tOp (rAddU K) (tVar 1) (tLst (tCons (tLst (tCons (tLst tNil) tNil)) (tCons (tDisp [((tC (.int 1)), (tTup (tCons (tC (.str "a")) tNil)))]) tNil)))) (gName 1))
    (tRet (tCall (sp_l_one K) [] E0 (tCons (tVar 0) (tCons (tVar 1) tNil))))))))
def d_l_odd : DS := (dSeq (dAsg (dLst (dCons (dC .none) (dCons (dC (.bool true)) (dCons (dC (.bool false)) (dCons (dC (.int 0)) (dCons (dC (.int 1)) (dCons (dC (.int 7)) (dCons (dUn dNeg (dC (.int 1))) (dCons (dOp (dIC CPow fun i j => i ^ j.toNat) (dC (.int 10)) (dC (.int 39))) (dCons (dUn dNeg (dOp (dIC CPow fun i j => i ^ j.toNat) (dC (.int 10)) (dC (.int 39)))) (dCons (dC (.str "")) (dCons (dC (.str "a")) (dCons (dC (.str "A")) (dCons (dC (.str "if")) (dCons (dC (.str "tell")) (dCons (dC (.str "yes")) (dCons (dC (.str "no")) (dCons (dC (.str "a1")) (dCons (dC (.str " ")) dNil))))))))))))))))))) (dgName 1))
    (dSeq (dAsg (dOp dAdd (dVar 1) (dLst (dCons (dC (.str "a\n")) (dCons (dC (.str "abcdefghi")) (dCons (dTup dNil) (dCons (dLst dNil) (dCons dDict0 (dCons (dTup (dCons (dC (.str "a")) dNil)) (dCons (dLst (dCons (dC (.str "a")) dNil)) (dCons (dTup (dCons (dC (.str "A")) dNil)) (dCons (dTup (dCons (dC (.str "if")) dNil)) (dCons (dTup (dCons (dC (.str "a")) (dCons (dC (.str "b")) dNil))) (dCons (dTup (dCons (dTup (dCons (dC (.str "a")) dNil)) dNil)) (dCons (dTup (dCons (dC (.str "a")) (dCons (dC (.int 0)) dNil))) dNil)))))))))))))) (dgName 1))
    (dSeq (dAsg (dOp dAdd (dVar 1) (dLst (dCons (dTup (dCons (dC (.str "a")) (dCons (dLst (dCons (dC (.str "b")) dNil)) dNil))) (dCons (dTup (dCons (dC (.str "tell")) dNil)) (dCons (dTup (dCons (dC (.str "yes")) (dCons (dC (.str "no")) dNil))) (dCons (dLst (dCons (dC (.str "yes")) dNil)) (dCons (dTup (dCons (dC (.str "alike")) (dCons (dTup (dCons (dC (.str "a")) dNil)) dNil))) (dCons (dDictK (dC (.str "a")) (dC (.int 1))) (dCons (dDictT (dCons (dC (.str "a")) dNil) (dC (.int 1))) (dCons (dTup (dCons (dC .none) dNil)) dNil)))))))))) (dgName 1))
    (dSeq (dAsg (dOp dAdd (dVar 1) (dLst (dCons (dLst (dCons (dLst dNil) dNil)) (dCons (dDictK (dC (.int 1)) (dTup (dCons (dC (.str "a")) dNil))) dNil)))) (dgName 1))
    (dRet (dCall pre_l_one post_l_one (dCons (dVar 1) dNil)))))))
theorem m_l_odd {K : PySem.W.Frag} {b : Bg} : SimS K (some 0) b (t_l_odd K) (d_l_odd) := (sim_seq (sim_asg (sim_lst (sim_cons sim_non (sim_cons sim_bl (sim_cons sim_bl (sim_cons sim_int (sim_cons sim_int (sim_cons sim_int (sim_cons (sim_un simu_neg sim_int) (sim_cons (sim_op simr_IC sim_int sim_int) (sim_cons (sim_un simu_neg (sim_op simr_IC sim_int sim_int)) (sim_cons sim_str (sim_cons sim_str (sim_cons sim_str (sim_cons sim_str (sim_cons sim_str (sim_cons sim_str (sim_cons sim_str (sim_cons sim_str (sim_cons sim_str sim_nil))))))))))))))))))) (simg_name (by decide)))
    (sim_seq (sim_asg (sim_op sim_add sim_var (sim_lst (sim_cons sim_str (sim_cons sim_str (sim_cons (sim_tup sim_nil) (sim_cons (sim_lst sim_nil) (sim_cons sim_dict0 (sim_cons (sim_tup (sim_cons sim_str sim_nil)) (sim_cons (sim_lst (sim_cons sim_str sim_nil)) (sim_cons (sim_tup (sim_cons sim_str sim_nil)) (sim_cons (sim_tup (sim_cons sim_str sim_nil)) (sim_cons (sim_tup (sim_cons sim_str (sim_cons sim_str sim_nil))) (sim_cons (sim_tup (sim_cons (sim_tup (sim_cons sim_str sim_nil)) sim_nil)) (sim_cons (sim_tup (sim_cons sim_str (sim_cons sim_int sim_nil))) sim_nil)))))))))))))) (simg_name (by decide)))
    (sim_seq (sim_asg (sim_op sim_add sim_var (sim_lst (sim_cons (sim_tup (sim_cons sim_str (sim_cons (sim_lst (sim_cons sim_str sim_nil)) sim_nil))) (sim_cons (sim_tup (sim_cons sim_str sim_nil)) (sim_cons (sim_tup (sim_cons sim_str (sim_cons sim_str sim_nil))) (sim_cons (sim_lst (sim_cons sim_str sim_nil)) (sim_cons (sim_tup (sim_cons sim_str (sim_cons (sim_tup (sim_cons sim_str sim_nil)) sim_nil))) (sim_cons (sim_dictK sim_str sim_int) (sim_cons (sim_dictT (fun _ _ h => ⟨rfl, h⟩) (sim_cons sim_str sim_nil) sim_int) (sim_cons (sim_tup (sim_cons sim_non sim_nil)) sim_nil)))))))))) (simg_name (by decide)))
    (sim_seq (sim_asg (sim_op sim_add sim_var (sim_lst (sim_cons (sim_lst (sim_cons (sim_lst sim_nil) sim_nil)) (sim_cons (sim_dictK sim_int (sim_tup (sim_cons sim_str sim_nil))) sim_nil)))) (simg_name (by decide)))
    (sim_ret (sim_callG rfl (sim_cons sim_var sim_nil)))))))

def t_l_name (K : PySem.W.Frag) : TS := (tSeq (tAsg (tLst (tCons (tC (.str "a")) (tCons (tC (.str "b")) (tCons (tC (.str "c")) (tCons (tC (.str "f")) (tCons (tC (.str "g")) (tCons (tC (.str "x")) (tCons (tC (.str "z")) (tCons (tC (.str "ab")) (tCons (tC (.str "ans")) (tCons (tC (.str "iff")) (tCons (tC (.str "gone")) (tCons (tC (.str "tells")) (tCons (tC (.str "withs")) (tCons (tC (.str "abcdefgh")) (tCons (tC (.str "zzzzzzzz")) tNil)))))))))))))))) (gName 1))
    (tSeq (tIfS (tTest (tOp (rLtU (fun i j => decide (j < i)) fun i j => ltS j i) (tCall (sp_l_take K) [] E0 (tCons (tVar 0) (tCons (tC (.int 4)) tNil))) (tC (.int 0)))) (tRet (tCall (sp_l_one K) [] E0 (tCons (tVar 0) (tCons (tVar 1) tNil)))) tNext)
    (tRet (tOp (rAddU K) (tC (.str "k")) (tM1 (rJoin K) (tC (.str "")) (tLc (iRng1 (tCons (tCall (sp_l_take K) [] E0 (tCons (tVar 0) (tCons (tC (.int 8)) tNil))) tNil)) (gName 2) tYes (tCall (sp_l_one K) [] E0 (tCons (tVar 0) (tCons (tC (.str "abcdefghijklmnopqrstuvwxyz")) tNil))) [2]))))))
def d_l_name : DS := (dSeq (dAsg (dLst (dCons (dC (.str "a")) (dCons (dC (.str "b")) (dCons (dC (.str "c")) (dCons (dC (.str "f")) (dCons (dC (.str "g")) (dCons (dC (.str "x")) (dCons (dC (.str "z")) (dCons (dC (.str "ab")) (dCons (dC (.str "ans")) (dCons (dC (.str "iff")) (dCons (dC (.str "gone")) (dCons (dC (.str "tells")) (dCons (dC (.str "withs")) (dCons (dC (.str "abcdefgh")) (dCons (dC (.str "zzzzzzzz")) dNil)))))))))))))))) (dgName 1))
    (dSeq (dIfS (dTest (dOp (dLt (fun i j => decide (j < i)) fun i j => ltS j i) (dCall pre_l_take post_l_take (dCons (dC (.int 4)) dNil)) (dC (.int 0)))) (dRet (dCall pre_l_one post_l_one (dCons (dVar 1) dNil))) dNext)
    (dRet (dOp dAdd (dC (.str "k")) (dJoin (dC (.str "")) (dLc (dRng1 (dCons (dCall pre_l_take post_l_take (dCons (dC (.int 8)) dNil)) dNil)) 2 dYes (dCall pre_l_one post_l_one (dCons (dC (.str "abcdefghijklmnopqrstuvwxyz")) dNil)) [2]))))))
theorem m_l_name {K : PySem.W.Frag} {b : Bg} : SimS K (some 0) b (t_l_name K) (d_l_name) := (sim_seq (sim_asg (sim_lst (sim_cons sim_str (sim_cons sim_str (sim_cons sim_str (sim_cons sim_str (sim_cons sim_str (sim_cons sim_str (sim_cons sim_str (sim_cons sim_str (sim_cons sim_str (sim_cons sim_str (sim_cons sim_str (sim_cons sim_str (sim_cons sim_str (sim_cons sim_str (sim_cons sim_str sim_nil)))))))))))))))) (simg_name (by decide)))
    (sim_seq (sim_if (sim_test (sim_op simr_lt (sim_callG rfl (sim_cons sim_int sim_nil)) sim_int)) (sim_ret (sim_callG rfl (sim_cons sim_var sim_nil))) sim_next)
    (sim_ret (sim_op sim_add sim_str (sim_join (fun _ _ h => ⟨h, _, rfl⟩) sim_str (sim_lc (by decide) (by intro i hi; cases hi <;> decide) (sim_rng1 (sim_cons (sim_callG rfl (sim_cons sim_int sim_nil)) sim_nil)) sim_yes (sim_callG rfl (sim_cons sim_str sim_nil))))))))

end DL

namespace DL
open PySem PySem.Spec PyProof.Rows L2
variable [TheW]
theorem eqv_ii (i j : Int) : PyData.eqv (.int i) (.int j) = (i == j) := by rw [PyData.eqv]
theorem eqv_ss (i j : Str) : PyData.eqv (.str i) (.str j) = (i == j) := by rw [PyData.eqv]
theorem eqv_bb (i j : Bool) : PyData.eqv (.bool i) (.bool j) = (i == j) := by rw [PyData.eqv]
theorem eqOk_ii (i j : Int) : eqOk (.int i) (.int j) = true := rfl
theorem eqOk_ss (i j : Str) : eqOk (.str i) (.str j) = true := rfl
theorem eqOk_bb (i j : Bool) : eqOk (.bool i) (.bool j) = true := rfl
theorem small_le {n : Nat} (h : n ≤ 100000) : small n = true := decide_eq_true h
theorem at_cells (ns : List Int) (h : ∀ n ∈ ns, 0 ≤ n) : ∃ c : Int, 0 ≤ c ∧ atD (.list ((ns.map PyData.int).append [.int 0])) 0 = some (.int c) := by
  cases ns with
  | nil => exact ⟨0, by decide, rfl⟩
  | cons c cs => exact ⟨c, h c (List.mem_cons_self ..), by
      show L2.atI (PyData.int c :: ((cs.map PyData.int).append [.int 0])) 0 = _
      unfold L2.atI ixN
      rw [if_pos (by decide), if_pos (by simp; omega)]
      rfl⟩
theorem fmod_nn {i n : Int} (h : 0 < n) : 0 ≤ i.fmod n ∧ i.fmod n < n := ⟨Int.fmod_nonneg_of_pos i h, Int.fmod_lt_of_pos i h⟩
theorem cmulR {i j : Int} (h : 0 ≤ j ∧ j < 2 ^ 64) : CMul i j := .inr ⟨by omega, h.2⟩
theorem cmulL {i j : Int} (h : 0 ≤ i ∧ i < 2 ^ 64) : CMul i j := .inl ⟨by omega, h.2⟩
theorem dat_l_take : ∀ ds, pre_l_take ds → d_l_take { nx := fun _ => post_l_take ds .none, rt := post_l_take ds } (startD 7 (none :: ds.map fun d => some (.dat d))) := by
  intro ds h
  unfold pre_l_take at h
  split at h
  case h_2 => exact h.elim
  rename_i n
  obtain ⟨h0, h1⟩ := h
  show d_l_take _ [none, some (.dat (.int n)), none, none, none, none, none]
  dsimp only [d_l_take, dSeq, dIfS, dTest, dOp, dBag, dC, dEq, isB, startD, List.map, dNext, dAsg, dIx, dgName, dCells, dLst, dCons, dNil, dAdd, isI, dBagAug, dgBag, dCB, dInt1, dLt, dIC, dVar, dTup, dgTup, dgCons, dgNil, dRet, dBagAny, List.length, List.replicate, List.append, List.set, HAppend.hAppend, Append.append, List.getElem?_cons_succ, List.getElem?_cons_zero]
  intro c0 hc0
  refine ⟨rfl, ?_⟩
  rw [eqv_ii]
  split
  · intro ns hns hl
    refine ⟨rfl, small_le (by rw [List.length_map]; omega), ?_⟩
    obtain ⟨c, hc, e⟩ := at_cells ns hns
    rw [e]
    dsimp only
    refine ⟨⟨by decide, by decide, by decide⟩, cmulR (by split <;> decide), ?_, ?_⟩
    · split
      · omega
      · omega
    intro c2 hc2
    refine ⟨cmulR (by decide), by decide, fun c3 => ⟨cmulL (by decide), by decide, (fmod_nn (by decide)).1, ?_⟩⟩
    intro c4 hc4
    split
    · intro c5 hc5
      exact ⟨by omega, fun c6 hc6 => ⟨⟨h0, h1⟩, rfl, rfl, Int.ediv_nonneg hc6 (by omega), ⟨_, rfl, fmod_nn h0⟩⟩⟩
    · intro c5 hc5
      refine ⟨cmulR (by decide), by decide, cmulR ⟨(fmod_nn (by decide)).1, ?_⟩, by decide, cmulR (by decide), by decide, ⟨by decide, by decide⟩, by omega, ⟨_, rfl, fmod_nn h0⟩⟩
      have := (fmod_nn (i := (c5 + 1) * 39373) (n := 1000000007) (by decide)).2
      omega
  · intro c4 hc4
    split
    · intro c5 hc5
      exact ⟨by omega, fun c6 hc6 => ⟨⟨h0, h1⟩, rfl, rfl, Int.ediv_nonneg hc6 (by omega), ⟨_, rfl, fmod_nn h0⟩⟩⟩
    · intro c5 hc5
      refine ⟨cmulR (by decide), by decide, cmulR ⟨(fmod_nn (by decide)).1, ?_⟩, by decide, cmulR (by decide), by decide, ⟨by decide, by decide⟩, by omega, ⟨_, rfl, fmod_nn h0⟩⟩
      have := (fmod_nn (i := (c5 + 1) * 39373) (n := 1000000007) (by decide)).2
      omega

theorem dat_l_alike : ∀ ds, pre_l_alike ds → d_l_alike { nx := fun _ => post_l_alike ds .none, rt := post_l_alike ds } (startD 2 (ds.map fun d => some (.dat d))) := by
  intro ds h
  unfold pre_l_alike at h
  split at h
  case h_2 => exact h.elim
  rename_i x y
  simp only [Bool.and_eq_true] at h
  obtain ⟨h0, h1, h2⟩ := h
  show d_l_alike _ [some (.dat x), some (.dat y)]
  dsimp only [d_l_alike, dRet, dAndV, dOp, dEq, isB, dVar, dCB, dRepr, dCons, dNil, List.getElem?_cons_succ, List.getElem?_cons_zero]
  refine ⟨h0, ?_⟩
  cases e : PyData.eqv x y
  · rw [if_neg (by decide)]
    unfold post_l_alike
    simp [e]
  · rw [if_pos rfl]
    refine ⟨h1, h2, rfl, ?_⟩
    unfold post_l_alike
    simp [e, eqv_ss]
theorem atI_some {α : Type} {xs : List α} {i : Int} (h0 : 0 ≤ i) (h1 : i < xs.length) : ∃ x ∈ xs, L2.atI xs i = some x := by
  have h2 : i.toNat < xs.length := by omega
  refine ⟨xs[i.toNat], List.getElem_mem h2, ?_⟩
  unfold L2.atI ixN
  rw [if_pos h0, if_pos h1]
  show xs[i.toNat]? = _
  exact List.getElem?_eq_getElem h2
theorem log_small {n : Nat} (h : n ≤ 100000) : (n : Int).natAbs.log2 < 9000 := by
  rw [Int.natAbs_natCast]
  by_cases h0 : n = 0
  · subst h0; decide
  · have := Nat.log2_lt h0 (k := 20)
    omega
theorem cps_len (x : Str) : x.cps.toList.length = x.length := by simp [Str.length]
theorem dat_l_one : ∀ ds, pre_l_one ds → d_l_one { nx := fun _ => post_l_one ds .none, rt := post_l_one ds } (startD 2 (none :: ds.map fun d => some (.dat d))) := by
  intro ds h
  unfold pre_l_one at h
  split at h
  · rename_i xs
    obtain ⟨h0, h1⟩ := h
    have hp : 0 < xs.length := List.length_pos_iff.mpr h0
    show d_l_one _ [none, some (.dat (.list xs))]
    dsimp only [d_l_one, dRet, dOp, dVar, dCB, dLen, dCall, dIx, isI, atD, dCons, dNil, List.getElem?_cons_succ, List.getElem?_cons_zero]
    refine ⟨⟨by omega, log_small (of_decide_eq_true h1)⟩, ?_⟩
    rintro r ⟨i, rfl, hi, hj⟩
    obtain ⟨x, hx, e⟩ := atI_some hi hj
    dsimp only
    rw [e]
    exact hx
  · rename_i xs
    obtain ⟨h0, h1⟩ := h
    have hp : 0 < xs.length := List.length_pos_iff.mpr h0
    show d_l_one _ [none, some (.dat (.tuple xs))]
    dsimp only [d_l_one, dRet, dOp, dVar, dCB, dLen, dCall, dIx, isI, atD, dCons, dNil, List.getElem?_cons_succ, List.getElem?_cons_zero]
    refine ⟨⟨by omega, log_small (of_decide_eq_true h1)⟩, ?_⟩
    rintro r ⟨i, rfl, hi, hj⟩
    obtain ⟨x, hx, e⟩ := atI_some hi hj
    dsimp only
    rw [e]
    exact hx
  · rename_i x
    obtain ⟨h0, h1⟩ := h
    show d_l_one _ [none, some (.dat (.str x))]
    dsimp only [d_l_one, dRet, dOp, dVar, dCB, dLen, dCall, dIx, isI, atD, dCons, dNil, List.getElem?_cons_succ, List.getElem?_cons_zero]
    refine ⟨h1, ⟨by omega, log_small (of_decide_eq_true h1)⟩, ?_⟩
    rintro r ⟨i, rfl, hi, hj⟩
    rw [← cps_len] at hj
    obtain ⟨c, hc, e⟩ := atI_some hi hj
    dsimp only
    rw [if_pos h1, e]
    exact ⟨c, hc, rfl⟩
  · exact h.elim
theorem dat_l_odd : ∀ ds, pre_l_odd ds → d_l_odd { nx := fun _ => post_l_odd ds .none, rt := post_l_odd ds } (startD 2 (none :: ds.map fun d => some (.dat d))) := by
  intro ds h
  cases h
  show d_l_odd _ [none, none]
  dsimp only [d_l_odd, dSeq, dAsg, dLst, dRet, dTup, dUn, dNeg, dOp, dIC, dAdd, dVar, dC, dCB, dLen, dCall, dIx, isI, atD, dCons, dNil, dDict0, dDictK, dDictT, dgName, List.set, List.getElem?_cons_succ, List.getElem?_cons_zero]
  refine ⟨⟨by decide, by decide, by decide⟩, ⟨by decide, by decide, by decide⟩, ?_⟩
  repeat (refine ⟨by first | rfl | exact ⟨rfl, rfl⟩, ?_⟩)
  refine ⟨⟨by simp, rfl⟩, ?_⟩
  intro r hr
  exact hr
end DL

namespace DL
open PySem PySem.Spec PyProof.Rows L2
variable [TheW]
theorem str_app (x y : Str) : (x ++ y : Str) = ⟨x.cps ++ y.cps⟩ := rfl
theorem txt_join (sep : Str) (l : List Str) : Txt.join sep l = Str.join sep l := eq_of_beq (join_plain_closes sep l)
theorem sjoinE : ∀ cs : List Nat, Str.join "" (cs.map fun c => (⟨#[c]⟩ : Str)) = ⟨cs.toArray⟩
  | [] => rfl
  | [c] => rfl
  | c :: d :: r => by
    have e := sjoinE (d :: r)
    show (⟨#[c]⟩ : Str) ++ "" ++ Str.join "" ((d :: r).map fun c => (⟨#[c]⟩ : Str)) = _
    rw [e, str_app, str_app, show (Str.ofString "").cps = #[] from rfl]
    simp
theorem joinE (cs : List Nat) : Txt.join "" (cs.map fun c => (⟨#[c]⟩ : Str)) = ⟨cs.toArray⟩ := by rw [txt_join, sjoinE]
theorem strsOf_one : ∀ cs : List Nat, strsOf (cs.map fun c => PyData.str ⟨#[c]⟩) = some (cs.map fun c => (⟨#[c]⟩ : Str))
  | [] => rfl
  | c :: r => by
    rw [List.map_cons, strsOf, strsOf_one r]
    rfl
theorem sum_ones : ∀ cs : List Nat, ((cs.map fun c => (⟨#[c]⟩ : Str)).map (·.length)).sum = cs.length
  | [] => rfl
  | c :: r => by
    have := sum_ones r
    simp only [List.map_cons, List.sum_cons, List.length_cons] at this ⊢
    rw [this]
    show 1 + _ = _
    omega
theorem len_toArray (cs : List Nat) : (⟨cs.toArray⟩ : Str).length = cs.length := by simp [Str.length]
theorem kname {cs : List Nat} (hl : cs.length ≤ 7) (hc : ∀ c ∈ cs, lower c = true) : isNm ("k" ++ ⟨cs.toArray⟩) = true := by
  have e : (("k" : Str) ++ (⟨cs.toArray⟩ : Str)) = ⟨(107 :: cs).toArray⟩ := by
    rw [str_app, show (Str.ofString "k").cps = #[107] from rfl]
    simp
  rw [e]
  unfold isNm
  rw [len_toArray]
  simp only [Bool.and_eq_true, decide_eq_true_eq, List.length_cons, Bool.not_eq_true', List.all_eq_true]
  refine ⟨⟨⟨by omega, by omega⟩, ?_⟩, ?_⟩
  · unfold noNames
    rw [List.any_eq_false]
    intro w hw
    have : ∀ w ∈ noNames, w.cps.toList.head? ≠ some 107 := by decide
    intro z
    have z := eq_of_beq z
    refine this w hw ?_
    rw [z]
    simp
  · intro c hc'
    simp only [List.mem_cons] at hc'
    rcases hc' with rfl | h
    · rfl
    · exact hc _ h
theorem alpha_lower : ∀ c ∈ (Str.ofString "abcdefghijklmnopqrstuvwxyz").cps.toList, lower c = true := by decide
theorem ltI (i j : Int) (R : PyData → Prop) : dLt (fun i j => decide (j < i)) (fun i j => ltS j i) (.int i) (.int j) R = R (.bool (decide (j < i))) := rfl
theorem dat_l_name : ∀ ds, pre_l_name ds → d_l_name { nx := fun _ => post_l_name ds .none, rt := post_l_name ds } (startD 3 (none :: ds.map fun d => some (.dat d))) := by
  intro ds h
  cases h
  show d_l_name _ [none, none, none]
  dsimp only [d_l_name, dSeq, dAsg, dLst, dRet, dIfS, dTest, dOp, dLt, isB, dAdd, dVar, dC, dCB, dLen, dCall, dCons, dNil, dNext, dgName, List.set, List.getElem?_cons_succ, List.getElem?_cons_zero, dJoin, dLc, dRng1, dYes]
  refine ⟨rfl, ⟨by decide, by decide⟩, ?_⟩
  rintro r ⟨i, rfl, hi0, hi1⟩
  dsimp only
  split
  · refine ⟨⟨by simp, rfl⟩, ?_⟩
    intro r hr
    have hall : ∀ x ∈ [Str.ofString "a", "b", "c", "f", "g", "x", "z", "ab", "ans", "iff", "gone", "tells", "withs", "abcdefgh", "zzzzzzzz"], isNm x = true := by decide
    obtain ⟨x, hx, rfl⟩ := List.mem_map.mp (show r ∈ [Str.ofString "a", "b", "c", "f", "g", "x", "z", "ab", "ans", "iff", "gone", "tells", "withs", "abcdefgh", "zzzzzzzz"].map PyData.str from hr)
    exact ⟨x, rfl, hall x hx⟩
  · refine ⟨⟨by decide, by decide⟩, ?_⟩
    rintro r ⟨n, rfl, hn0, hn1⟩
    dsimp only
    refine ⟨by omega, by omega, by rw [intsD_len]; exact small_le (by omega), fun _ acc => ∃ cs : List Nat, acc = (cs.map fun c => PyData.str ⟨#[c]⟩) ∧ ∀ c ∈ cs, lower c = true, ⟨[], rfl, by simp⟩, ?_, ?_⟩
    · rintro i x acc - - ⟨cs, rfl, hc⟩
      rw [if_pos rfl]
      refine ⟨⟨by decide, rfl⟩, ?_⟩
      rintro r ⟨c, hm, rfl⟩
      refine ⟨cs ++ [c], by rw [List.map_append]; rfl, ?_⟩
      intro d hd
      rcases List.mem_append.mp hd with z | z
      · exact hc d z
      · rw [List.mem_singleton.mp z]
        exact alpha_lower c hm
    · rintro acc hl ⟨cs, rfl, hc⟩
      rw [intsD_len, List.length_map] at hl
      have hl : cs.length ≤ 7 := by omega
      have l0 : (Str.ofString "").length = 0 := rfl
      refine ⟨_, strsOf_one cs, ?_, ?_, ?_⟩
      · rw [sum_ones, l0]
        omega
      · rw [joinE]
        have e2 := len_toArray cs
        have e3 : (Str.ofString "k").length = 1 := rfl
        exact small_le (by omega)
      · rw [joinE]
        exact ⟨_, rfl, kname hl hc⟩
theorem eqOk_nil (xs : List PyData) : eqOk (.list xs) (.list []) = true := by
  unfold eqOk eqMore
  rw [show nilL (.list xs) (.list []) = true from rfl]
  simp
theorem eqOk_str (d : PyData) (x : Str) : eqOk d (.str x) = true := by
  unfold eqOk eqMore
  rw [show txt (.str x) = true from rfl, show (PyData.str x).depth = 0 from by simp only [PyData.depth]]
  simp
theorem eqOk_unit (d : PyData) : eqOk d (.tuple []) = true := by
  unfold eqOk eqMore
  rw [show txt (.tuple []) = true from rfl, show (PyData.tuple []).depth = 1 from by simp only [PyData.depth, PyData.depthAll]]
  simp
theorem eqv_nilL (xs : List PyData) : PyData.eqv (.list xs) (.list []) = xs.isEmpty := by
  cases xs <;> simp only [PyData.eqv, PyData.eqvAll, List.isEmpty]
theorem eqv_nilT (xs : List PyData) : PyData.eqv (.tuple xs) (.tuple []) = xs.isEmpty := by
  cases xs <;> simp only [PyData.eqv, PyData.eqvAll, List.isEmpty]
def isStrOf (x : Str) : PyData → Bool
  | .str y => y == x
  | _ => false
theorem eqv_str (d : PyData) (x : Str) : PyData.eqv d (.str x) = isStrOf x d := by
  cases d <;> simp [PyData.eqv, isStrOf]
def isTup : PyData → Bool
  | .tuple _ => true
  | _ => false
def isStr : PyData → Bool
  | .str _ => true
  | _ => false
theorem dIsi_tup {de : DE} : dIsi "tuple" de = fun δ R => de δ fun d => R (.bool (isTup d)) := by
  funext δ R
  unfold dIsi
  congr 1
  funext d
  cases d <;> rfl
theorem dIsi_str {de : DE} : dIsi "str" de = fun δ R => de δ fun d => R (.bool (isStr d)) := by
  funext δ R
  unfold dIsi
  congr 1
  funext d
  cases d <;> rfl
end DL

/-! The bag made of the script, and the body of a law behind it. -/
namespace DL
open PySem PySem.Spec PyProof.Rows L2
open Evl (Ex ex_l ex_t)
variable [TheW]
def sp_l_bag (K : PySem.W.Frag) : Sp := fun vs H Q _ => ∃ (a : Addr) (ns : List Int), vs = [.ref a] ∧ ns.length ≤ 63 ∧ SqL K H a (ns.map V.int) ∧ ∀ b H', Bag b H' → Q (.ref b.1) H'
def sp_law (K : PySem.W.Frag) : Sp := fun vs H Q _ => ∃ (a : Addr) (ns : List Int), vs = [.ref a] ∧ ns.length ≤ 63 ∧ SqL K H a (ns.map V.int) ∧ ∀ H', Q (.bl true) H'
section
variable {K : PySem.W.Frag}
theorem len_bag : ∀ vs H Q E, sp_l_bag K vs H Q E → vs.length = [("_law_script" : Str)].length := by
  rintro vs H Q E ⟨a, ns, rfl, _⟩
  rfl
theorem len_law : ∀ vs H Q E, sp_law K vs H Q E → vs.length = [("_law_script" : Str)].length := by
  rintro vs H Q E ⟨a, ns, rfl, _⟩
  rfl
theorem empty_ok {ib : Option Nat} {b : Bg} {H : Hp} (h : ib ≠ none → Bag b H) : Okk ib b (fun _ => none) H := ⟨fun a u z => (by cases z), fun _ => rfl, h⟩
theorem env_none {ib : Option Nat} {b : Bg} {H0 S H : Hp} {σ : L2.St} (h : ∀ i : Nat, ib = some i → σ[i]? = some (some (V.ref b.1))) : EnvOk K ib b H0 S H σ (List.replicate σ.length none) := by
  refine ⟨by rw [List.length_replicate], h, fun i d q => ?_, fun i d q => ?_, fun i a q => ?_, fun i c q => ?_⟩
  · rw [List.getElem?_replicate] at q
    split at q <;> cases q
  · rw [List.getElem?_replicate] at q
    split at q <;> cases q
  · rw [List.getElem?_replicate] at q
    split at q <;> cases q
  · rw [List.getElem?_replicate] at q
    split at q <;> cases q
/-- a law's body: first the bag, then the rest by data -/
theorem law_body {rest : TS} {dr : DS} {N : List Str} (hN : 2 ≤ N.length) (sim : ∀ b, SimS K (some 1) b rest dr)
    (h : dr { nx := fun _ => False, rt := fun d => d = .bool true } (List.replicate N.length none)) {vs : List V} {H : Hp} {Q : VK} {E : XK} (q : sp_law K vs H Q E) :
    tSeq (tAsg (tCall (sp_l_bag K) [] E0 (tCons (tVar 0) tNil)) (gName 1)) rest { nx := fun _ H' => Q .non H', rt := Q } (L2.start N vs) H := by
  obtain ⟨a, ns, rfl, hn, hs, k⟩ := q
  refine ⟨.ref a, start_get rfl, a, ns, rfl, hn, hs, fun b H' hb => ?_⟩
  have hl : (L2.start N [V.ref a]).length = N.length := by
    unfold L2.start
    rw [List.length_append, List.length_map, List.length_replicate]
    simp only [List.length_cons, List.length_nil]
    omega
  have o : Okk (some 1) b (fun _ => none) H' := empty_ok fun _ => hb
  refine sim b (fun _ => none) H' (fun _ => none) (fun _ => none) H' _ (List.replicate N.length none) _ _ o (Ex.refl _) (Go.refl o) ?_ h ⟨?_, ?_, ?_, ?_, ?_⟩
  · have e := env_none (K := K) (ib := some 1) (b := b) (H0 := H') (S := fun _ => none) (H := H') (σ := (L2.start N [V.ref a]).set 1 (some (.ref b.1))) (by
      intro i hi
      cases hi
      rw [List.getElem?_set_self (by omega)])
    rw [List.length_set, hl] at e
    exact e
  · intro _ _ _ _ _ _ _ z
    exact z.elim
  · intro S' H2 v d _ _ r z
    subst z
    rw [r.blV]
    exact k H2
  · intro _ _ _ _ _ _ _ z
    exact z.elim
  · intro _ _ _ _ _ _ _ z
    exact z.elim
  · intro _ _ _ _ _ _ _ _ _ _ _ z
    exact z.elim

/-- a new list of these whole numbers -/
def tInts (ns : List Int) : TE := fun _ H Q => ∀ p, H p = none → Q (.ref p) (upd H p (.lst (ns.map V.int)))
theorem reps_ints {S : Hp} : ∀ ns : List Int, Reps K S (ns.map V.int) (ns.map PyData.int)
  | [] => .nil
  | n :: r => .cons (.int n) (reps_ints r)
theorem sim_ints {ib : Option Nat} {b : Bg} (ns : List Int) : SimE K ib b (tInts ns) (fun _ R => R (.list (ns.map PyData.int))) := by
  intro H0 S H σ δ R Q o e h k p hp
  have g := Go.laid (u := .lst (ns.map V.int)) o hp
  exact k _ _ _ _ g (.lst upd_same (reps_ints ns)) h
theorem cut_ints {ns : List Int} (hn : ns.length ≤ 63) : cutV (ns.map V.int) none (some 63) = ns.map V.int := by
  show cutD (ns.map V.int) none (some 63) = _
  refine cutD_whole ⟨rfl, ?_⟩
  show min 63 (ns.map V.int).length = _
  rw [List.length_map]
  omega
theorem ints_rep {S : Hp} : ∀ (ms : List Int) {xs : List V}, Reps K S xs (ms.map PyData.int) → xs = ms.map V.int
  | [], _, .nil => rfl
  | m :: ms, _, .cons r1 r2 => by rw [r1.intV, ints_rep ms r2]; rfl
def q_l_bag (K : PySem.W.Frag) : TS := tRet (tLst (tCons (tC (.int 0)) (tCons (tC (.int 1234567891)) (tCons (tC (.int 0)) (tCons (tLc (iList K (tSl (rSlU K) (tVar 0) tNoPart (tPart (tC (.int 63))))) (gName 1) tYes (tCB rAbs1 (tCons (tVar 1) tNil)) [1]) tNil)))))
theorem bag_body {vs : List V} {H : Hp} {Q : VK} {E : XK} (q : sp_l_bag K vs H Q E) :
    q_l_bag K { nx := fun _ H' => Q .non H', rt := Q } (L2.start ["_law_script", "_law_cell"] vs) H := by
  obtain ⟨a, ns, rfl, hn, hs, k⟩ := q
  show tLc (iList K (tSl (rSlU K) (tVar 0) tNoPart (tPart (tC (.int 63))))) (gName 1) tYes (tCB rAbs1 (tCons (tVar 1) tNil)) [1] (L2.start ["_law_script", "_law_cell"] [V.ref a]) H
    (fun v H1 => 4 ≤ sizeLine ∧ ∀ p, H1 p = none → Q (.ref p) (upd H1 p (.lst [.int 0, .int 1234567891, .int 0, v])))
  have step : ∀ Q' : VK, tInts ns (L2.start ["_law_script", "_law_cell"] [V.ref a]) H Q' → tSl (rSlU K) (tVar 0) tNoPart (tPart (tC (.int 63))) (L2.start ["_law_script", "_law_cell"] [V.ref a]) H Q' := by
    intro Q' h
    refine ⟨_, start_get rfl, 63, rfl, .inl (.inl ⟨a, _, rfl, hs, ?_⟩)⟩
    rw [cut_ints hn]
    exact h
  have o : Okk none ((a, a) : Bg) (fun _ => none) H := empty_ok fun z => absurd rfl z
  have e := env_none (K := K) (ib := none) (b := (a, a)) (H0 := H) (S := fun _ => none) (H := H) (σ := L2.start ["_law_script", "_law_cell"] [V.ref a]) (fun i z => by cases z)
  have core := sim_lc (K := K) (ib := none) (b := (a, a)) (j := 1) (vs := [1]) (by decide) (by intro i hi; cases hi) (sim_iList (sim_ints ns)) sim_yes (sim_cb simc_abs (sim_cons (sim_var (i := 1)) sim_nil))
    H (fun _ => none) H _ _ (fun d => ∃ ms : List Int, d = .list (ms.map PyData.int) ∧ (∀ m ∈ ms, 0 ≤ m) ∧ ms.length ≤ 63)
    (fun v H1 => 4 ≤ sizeLine ∧ ∀ p, H1 p = none → Q (.ref p) (upd H1 p (.lst [.int 0, .int 1234567891, .int 0, v]))) o e ?_ ?_
  · exact step _ core
  · refine ⟨small_le (by rw [List.length_map]; omega), fun _ acc => ∃ ms : List Int, acc = ms.map PyData.int ∧ ∀ m ∈ ms, 0 ≤ m, ⟨[], rfl, by simp⟩, ?_, ?_⟩
    · rintro i x acc hx - ⟨ms, rfl, hm⟩
      rw [List.getElem?_map] at hx
      obtain ⟨n, hn', rfl⟩ := Option.map_eq_some_iff.mp hx
      show ∃ ms' : List Int, _
      refine ⟨ms ++ [if n < 0 then -n else n], by rw [List.map_append]; rfl, ?_⟩
      intro m hm'
      rcases List.mem_append.mp hm' with z | z
      · exact hm m z
      · rw [List.mem_singleton.mp z]
        split <;> omega
    · rintro acc hl ⟨ms, rfl, hm⟩
      rw [List.length_map, List.length_map] at hl
      exact ⟨ms, rfl, hm, by omega⟩
  · rintro S' H1 v d g r ⟨ms, rfl, hm, hl⟩
    obtain ⟨c, xs, rfl, hc, hr⟩ := r.lstV
    have hx : xs = ms.map V.int := by
      exact ints_rep ms hr
    subst hx
    have hc1 := g.ok.sub _ _ hc
    refine ⟨Evl.sz_of (by omega), fun p hp => k (p, c) _ ⟨0, 1234567891, 0, ms, upd_same, ?_, ?_, hm, by decide, by decide, hl⟩⟩
    · intro z
      have z : c = p := z
      rw [z, hp] at hc1
      cases hc1
    · show upd H1 p _ c = _
      rw [upd_ne]
      · exact hc1
      · intro z
        rw [z, hp] at hc1
        cases hc1
end
end DL

/-! What can be shown: a bound of the text's length. -/
namespace DL
open PySem PySem.Spec PyProof.Rows L2
variable [TheW]
mutual
def wt : PyData → Nat
  | .none => 4
  | .bool _ => 5
  | .int _ => 1921
  | .str x => 10 * x.length + 2
  | .list xs => wtAll xs + 2
  | .tuple xs => wtAll xs + 3
  | .dict kvs => wtKv kvs + 2
def wtAll : List PyData → Nat
  | [] => 0
  | x :: xs => wt x + 2 + wtAll xs
def wtKv : List (PyData × PyData) → Nat
  | [] => 0
  | (k, v) :: r => wt k + wt v + 4 + wtKv r
end
mutual
def fit : PyData → Bool
  | .none => true
  | .bool _ => true
  | .int i => decide (i.natAbs.log2 < 1920)
  | .str x => PyData.strOk x
  | .list xs => fitAll xs
  | .tuple xs => fitAll xs
  | .dict kvs => fitKv kvs
def fitAll : List PyData → Bool
  | [] => true
  | x :: xs => fit x && fitAll xs
def fitKv : List (PyData × PyData) → Bool
  | [] => true
  | (k, v) :: r => fit k && fit v && fitKv r
end
mutual
theorem fit_showable : ∀ d : PyData, fit d = true → d.showable = true
  | .none, _ => by simp only [PyData.showable]
  | .bool _, _ => by simp only [PyData.showable]
  | .str _, _ => by simp only [PyData.showable]
  | .int i, h => by simp only [PyData.showable]; exact h
  | .list xs, h => by simp only [PyData.showable]; exact fit_showableAll xs h
  | .tuple xs, h => by simp only [PyData.showable]; exact fit_showableAll xs h
  | .dict kvs, h => by simp only [PyData.showable]; exact fit_showableKv kvs h
theorem fit_showableAll : ∀ ds : List PyData, fitAll ds = true → PyData.showableAll ds = true
  | [], _ => by simp only [PyData.showableAll]
  | x :: xs, h => by
    simp only [fitAll, Bool.and_eq_true] at h
    simp only [PyData.showableAll, fit_showable x h.1, fit_showableAll xs h.2, Bool.and_self]
theorem fit_showableKv : ∀ ds : List (PyData × PyData), fitKv ds = true → PyData.showableKv ds = true
  | [], _ => by simp only [PyData.showableKv]
  | (k, v) :: r, h => by
    simp only [fitKv, Bool.and_eq_true] at h
    simp only [PyData.showableKv, fit_showable k h.1.1, fit_showable v h.1.2, fit_showableKv r h.2, Bool.and_self]
end
theorem join_len : ∀ ts : List Str, (Str.join ", " ts).length ≤ (ts.map (·.length + 2)).sum
  | [] => Nat.le_refl _
  | [x] => by
    show x.length ≤ _
    simp
  | x :: y :: r => by
    have e := join_len (y :: r)
    show (x ++ ", " ++ Str.join ", " (y :: r)).length ≤ _
    rw [Str.length_append, Str.length_append, show (Str.ofString ", ").length = 2 from rfl, List.map_cons, List.sum_cons]
    omega
mutual
theorem shown_wt : ∀ d : PyData, fit d = true → d.shown.length ≤ wt d
  | .none, _ => by rw [PyData.shown_none, wt]; decide
  | .bool b, _ => by rw [PyData.shown_bool, wt]; cases b <;> decide
  | .str x, h => by
    rw [PyData.shown_str, wt]
    refine StrLaws.reprText_len x fun c hc => ?_
    have h : PyData.strOk x = true := h
    unfold PyData.strOk at h
    rw [← Array.all_toList, List.all_eq_true] at h
    have := of_decide_eq_true (h c hc)
    omega
  | .int i, h => by
    rw [PyData.shown_int, wt]
    exact int_text_len_1921 (of_decide_eq_true h)
  | .list xs, h => by
    have e := shownAll_wt xs h
    rw [PyData.shown_list, wt, Str.length_append, Str.length_append, show (Str.ofString "[").length = 1 from rfl, show (Str.ofString "]").length = 1 from rfl]
    have := join_len (PyData.shownAll xs)
    omega
  | .tuple xs, h => by
    have e := shownAll_wt xs h
    rw [PyData.shown_tuple, wt, Str.length_append, Str.length_append, show (Str.ofString "(").length = 1 from rfl]
    have := join_len (PyData.shownAll xs)
    have z : (Str.ofString (if (xs.length == 1) = true then ",)" else ")")).length ≤ 2 := by split <;> decide
    omega
  | .dict kvs, h => by
    have e := shownKv_wt kvs h
    rw [PyData.shown_dict, wt, Str.length_append, Str.length_append, show (Str.ofString "{").length = 1 from rfl, show (Str.ofString "}").length = 1 from rfl]
    have := join_len (PyData.shownKv kvs)
    omega
theorem shownAll_wt : ∀ ds : List PyData, fitAll ds = true → ((PyData.shownAll ds).map (·.length + 2)).sum ≤ wtAll ds
  | [], _ => by rw [PyData.shownAll_nil, wtAll]; exact Nat.le_refl _
  | x :: xs, h => by
    simp only [fitAll, Bool.and_eq_true] at h
    have a := shown_wt x h.1
    have b := shownAll_wt xs h.2
    rw [PyData.shownAll_cons, wtAll, List.map_cons, List.sum_cons]
    omega
theorem shownKv_wt : ∀ ds : List (PyData × PyData), fitKv ds = true → ((PyData.shownKv ds).map (·.length + 2)).sum ≤ wtKv ds
  | [], _ => by rw [PyData.shownKv_nil, wtKv]; exact Nat.le_refl _
  | (k, v) :: r, h => by
    simp only [fitKv, Bool.and_eq_true] at h
    have a := shown_wt k h.1.1
    have b := shown_wt v h.1.2
    have c := shownKv_wt r h.2
    rw [PyData.shownKv_cons, wtKv, List.map_cons, List.sum_cons, Str.length_append, Str.length_append, show (Str.ofString ": ").length = 2 from rfl]
    omega
end
theorem showOk_of {d : PyData} (h : fit d = true) (hd : d.depth ≤ 60) (hw : wt d ≤ 16777216) : showOk d = true := by
  unfold showOk
  rw [fit_showable d h, decide_eq_true hd, decide_eq_true (show d.shown.length ≤ sizeLine from Nat.le_trans (shown_wt d h) hw)]
  rfl
end DL

/-! New lists: expressions that make a list of one's own, what is read of such a list while it stays one's own, what is done to it. -/
namespace DL
open PySem PySem.Spec PyProof.Rows L2
open Evl (Ex ex_l ex_t)
variable [TheW]

mutual
def tupOnly : PyData → Bool
  | .none => true
  | .bool _ => true
  | .int _ => true
  | .str _ => true
  | .list _ => false
  | .tuple xs => tupOnlyAll xs
  | .dict _ => false
def tupOnlyAll : List PyData → Bool
  | [] => true
  | x :: xs => tupOnly x && tupOnlyAll xs
end
def cutH (S : Hp) (p : Addr) : Hp := fun a => if a = p then none else S a
theorem cutH_same {S : Hp} {p : Addr} : cutH S p p = none := if_pos rfl
theorem cutH_ne {S : Hp} {p a : Addr} (h : a ≠ p) : cutH S p a = S a := if_neg h
section
variable {K : PySem.W.Frag} {S : Hp} {p : Addr} {ys : List V}
theorem SqT.dropT (hp : S p = some (.lst ys)) {a : Addr} {xs : List V} (h : SqT K S a xs) : SqT K (cutH S p) a xs := by
  rcases h with (h | ⟨ob, h⟩) | h
  · refine .inl (.inl ?_)
    rw [cutH_ne]
    · exact h
    · intro z
      rw [z, hp] at h
      cases h
  · refine .inl (.inr ⟨ob, ?_⟩)
    rw [cutH_ne]
    · exact h
    · intro z
      rw [z, hp] at h
      cases h
  · exact .inr h
mutual
theorem Rep.dropT (hp : S p = some (.lst ys)) : ∀ {v : V} {d : PyData}, Rep K S v d → tupOnly d = true → Rep K (cutH S p) v d
  | _, _, .non, _ => .non
  | _, _, .bl b, _ => .bl b
  | _, _, .int b, _ => .int b
  | _, _, .str b, _ => .str b
  | _, _, .tup h q, t => .tup (SqT.dropT hp h) (Reps.dropT hp q t)
  | _, _, .lst h q, t => absurd t Bool.false_ne_true
  | _, _, .dK h q, t => absurd t Bool.false_ne_true
  | _, _, .dN _ _ _ _ _ _, t => absurd t Bool.false_ne_true
  | _, _, .dF _ _ _, t => absurd t Bool.false_ne_true
theorem Reps.dropT (hp : S p = some (.lst ys)) : ∀ {vs : List V} {ds : List PyData}, Reps K S vs ds → tupOnlyAll ds = true → Reps K (cutH S p) vs ds
  | _, _, .nil, _ => .nil
  | _, _, .cons r q, t => by
    have t := (Bool.and_eq_true _ _ ▸ t : _ ∧ _)
    exact .cons (Rep.dropT hp r t.1) (Reps.dropT hp q t.2)
end
end
section
variable {K : PySem.W.Frag} {ib : Option Nat} {b : Bg} {te : TE} {de : DE} {tt : TT} {dt : DT}
/-- the own list of a name stands still for a while -/
theorem borrow_ok {H0 S H : Hp} {σ : L2.St} {δ : DEnv} {i : Nat} {ds : List PyData} {p : Addr} {xs : List V} (o : Okk ib b S H) (e : EnvOk K ib b H0 S H σ δ) (q0 : δ[i]? = some (some (DV.own ds)))
    (hσ : σ[i]? = some (some (V.ref p))) (hp : H p = some (.lst xs)) (hr : Reps K S xs ds) (hS : S p = none) (hb : ib ≠ none → p ≠ b.1)
    (hu : ∀ (j : Nat) (es : List PyData), δ[j]? = some (some (DV.own es)) → σ[j]? = some (some (V.ref p)) → j = i) :
    Okk ib b (upd S p (.lst xs)) H ∧ EnvOk K ib b H0 (upd S p (.lst xs)) H σ (δ.set i (some (.dat (.list ds)))) := by
  have ex : Ex S (upd S p (.lst xs)) := Ex.new hS
  have hlt : i < δ.length := (List.getElem?_eq_some_iff.mp q0).1
  refine ⟨⟨?_, fun z => by rw [upd_ne (Ne.symm (hb z))]; exact o.off z, o.bag⟩, ?_⟩
  · intro a u q
    by_cases c : a = p
    · rw [c, upd_same] at q
      rw [c, hp]
      exact q
    · rw [upd_ne c] at q
      exact o.sub a u q
  · have at_ : ∀ (j : Nat) (x : DV), j ≠ i → (δ.set i (some (DV.dat (.list ds))))[j]? = some (some x) → δ[j]? = some (some x) := by
      intro j x hj q
      rw [List.getElem?_set_ne (Ne.symm hj)] at q
      exact q
    have hfn : ∀ (j : Nat) (a : Addr), (δ.set i (some (DV.dat (.list ds))))[j]? = some (some (DV.fn a)) → σ[j]? = some (some (V.ref a)) := by
      intro j a q
      by_cases hj : j = i
      · subst hj
        rw [List.getElem?_set_self hlt] at q
        cases q
      · exact e.fn j a (at_ j _ hj q)
    have hdct : ∀ (j : Nat) (c : Cont), (δ.set i (some (DV.dat (.list ds))))[j]? = some (some (DV.dct c)) → δ[j]? = some (some (DV.dct c)) := by
      intro j c q
      by_cases hj : j = i
      · subst hj
        rw [List.getElem?_set_self hlt] at q
        cases q
      · exact at_ j _ hj q
    refine ⟨by rw [List.length_set]; exact e.len, e.slot, fun j x q => ?_, fun j fs q => ?_, hfn, fun j c q => by
      obtain ⟨p', o', h1, h2, h3, h4, h5, h6, h7⟩ := e.dct j c (hdct j c q)
      have np : p' ≠ p := by
        intro w
        subst w
        rw [hp] at h2
        cases h2
        exact h3.noLst
      exact ⟨p', o', h1, h2, h3.mono ex, by rw [upd_ne np]; exact h4, h5, h6, fun m c' a1 a2 => h7 m c' (hdct m c' a1) a2⟩⟩
    · by_cases hj : j = i
      · subst hj
        rw [List.getElem?_set_self hlt] at q
        cases q
        exact ⟨_, hσ, .lst upd_same (hr.mono ex)⟩
      · obtain ⟨v, h1, h2⟩ := e.dat j x (at_ j _ hj q)
        exact ⟨v, h1, h2.mono ex⟩
    · by_cases hj : j = i
      · subst hj
        rw [List.getElem?_set_self hlt] at q
        cases q
      · obtain ⟨p', xs', h1, h2, h3, h4, h5, h6, h7⟩ := e.own j fs (at_ j _ hj q)
        have np : p' ≠ p := fun w => hj (hu j fs (at_ j _ hj q) (w ▸ h1))
        refine ⟨p', xs', h1, h2, h3.mono ex, by rw [upd_ne np]; exact h4, h5, h6, fun m gs a1 a2 => ?_⟩
        by_cases hm : m = i
        · subst hm
          rw [List.getElem?_set_self hlt] at a1
          cases a1
        · exact h7 m gs (at_ m _ hm a1) a2
theorem borrow_back {S H S2 H2 : Hp} {p : Addr} {xs : List V} (o : Okk ib b S H) (hS : S p = none) (g : Go ib b (upd S p (.lst xs)) H S2 H2) : S2 p = some (.lst xs) ∧ Go ib b S H (cutH S2 p) H2 := by
  have e2 : S2 p = some (.lst xs) := g.st p _ upd_same
  refine ⟨e2, ?_, g.keep, ?_, ?_, ?_, g.ok.bag⟩
  · intro a u q
    have c : a ≠ p := ne_of_none q hS
    rw [cutH_ne c]
    exact g.st a u (by rw [upd_ne c]; exact q)
  · intro a h1 h2
    by_cases c : a = p
    · rw [c]; exact cutH_same
    · rw [cutH_ne c]
      exact g.new a h1 (by rw [upd_ne c]; exact h2)
  · intro a u q
    by_cases c : a = p
    · rw [c, cutH_same] at q
      cases q
    · rw [cutH_ne c] at q
      exact g.ok.sub a u q
  · intro z
    have := g.ok.off z
    by_cases c : b.1 = p
    · rw [c]; exact cutH_same
    · rw [cutH_ne c]; exact this
def dBorrow (i : Nat) (de : DE) : DE := fun δ R => match δ[i]? with
  | some (some (.own ds)) => de (δ.set i (some (.dat (.list ds)))) fun d => tupOnly d = true ∧ R d
  | _ => False
theorem sim_borrow {i : Nat} (h1 : SimE K ib b te de) : SimE K ib b te (dBorrow i de) := by
  intro H0 S H σ δ R Q o e h k
  unfold dBorrow at h
  split at h
  · rename_i ds q0
    obtain ⟨p, xs, hσ, hp, hr, hS, h0, hb, hu⟩ := e.own i ds q0
    obtain ⟨o1, e1⟩ := borrow_ok o e q0 hσ hp hr hS hb hu
    refine h1 H0 _ H σ _ _ _ o1 e1 h fun S2 H2 v d g r q => ?_
    obtain ⟨e2, g2⟩ := borrow_back o hS g
    exact k _ H2 v d g2 (r.dropT e2 q.1) q.2
  · exact h.elim
def dBorrowT (i : Nat) (dt : DT) : DT := fun δ R => match δ[i]? with
  | some (some (.own ds)) => dt (δ.set i (some (.dat (.list ds)))) R
  | _ => False
theorem sim_borrowT {i : Nat} (h1 : SimT K ib b tt dt) : SimT K ib b tt (dBorrowT i dt) := by
  intro H0 S H σ δ R Q o e h k
  unfold dBorrowT at h
  split at h
  · rename_i ds q0
    obtain ⟨p, xs, hσ, hp, hr, hS, h0, hb, hu⟩ := e.own i ds q0
    obtain ⟨o1, e1⟩ := borrow_ok o e q0 hσ hp hr hS hb hu
    refine h1 H0 _ H σ _ _ _ o1 e1 h fun S2 H2 c g q => ?_
    exact k _ H2 c (borrow_back o hS g).2 q
  · exact h.elim
end
end DL

/-! Expressions that make a new list; own lists set, handed back, changed; calls that hand such a list back. -/
namespace DL
open PySem PySem.Spec PyProof.Rows L2
open Evl (Ex ex_l ex_t)
variable [TheW]
section
variable (K : PySem.W.Frag) (ib : Option Nat) (b : Bg)
def SimN (te : TE) (dn : DA) : Prop := ∀ (H0 S H : Hp) (σ : L2.St) (δ : DEnv) (R : List PyData → Prop) (Q : VK), Okk ib b S H → EnvOk K ib b H0 S H σ δ → dn δ R →
  (∀ S' H' p xs es, Go ib b S H S' H' → H' p = some (.lst xs) → Reps K S' xs es → S' p = none → H p = none → R es → Q (.ref p) H') → te σ H Q
end
section
variable {K : PySem.W.Frag} {ib : Option Nat} {b : Bg} {te ta tb : TE} {de da db : DE} {tt : TT} {dt : DT} {t : TA} {d dn : DA} {ti : TI} {di : DA}
/-- a new list, told as data -/
theorem Go.tell {S H S' H' : Hp} {p : Addr} {xs : List V} (g : Go ib b S H S' H') (o : Okk ib b S H) (hp : H' p = some (.lst xs)) (hS : S' p = none) (hn : H p = none) : Go ib b S H (upd S' p (.lst xs)) H' := by
  have nb : ib ≠ none → p ≠ b.1 := fun z w => (o.bag z).tr (w ▸ hn)
  refine ⟨g.st.trans (Ex.new hS), g.keep, ?_, ?_, ?_, g.ok.bag⟩
  · intro a h1 h2
    have c : a ≠ p := fun w => h1 (w ▸ hn)
    rw [upd_ne c]
    exact g.new a h1 h2
  · intro a u q
    by_cases c : a = p
    · rw [c, upd_same] at q
      rw [c, hp]
      exact q
    · rw [upd_ne c] at q
      exact g.ok.sub a u q
  · intro z
    rw [upd_ne (Ne.symm (nb z))]
    exact g.ok.off z
def dOfN (dn : DA) : DE := fun δ R => dn δ fun es => R (.list es)
theorem sim_ofN (h1 : SimN K ib b te dn) : SimE K ib b te (dOfN dn) := by
  intro H0 S H σ δ R Q o e h k
  refine h1 H0 S H σ δ _ _ o e h fun S' H' p xs es g hp r hS hn q => ?_
  exact k _ H' _ _ (g.tell o hp hS hn) (.lst upd_same (r.mono (Ex.new hS))) q
def dnLst (d : DA) : DA := fun δ R => d δ fun ds => small ds.length = true ∧ R ds
theorem sim_nLst (h1 : SimA K ib b t d) : SimN K ib b (tLst t) (dnLst d) := by
  intro H0 S H σ δ R Q o e h k
  refine h1 H0 S H σ δ _ _ o e h fun S1 H1 vs ds g1 r q => ⟨by rw [r.length]; exact small_ok q.1, fun p hp => ?_⟩
  have hn : H p = none := by
    cases z : H p with
    | none => rfl
    | some u => exact absurd hp (g1.stays (fun z => (o.bag z).tr) (by rw [z]; exact Option.some_ne_none _))
  exact k S1 _ p vs ds (g1.trans o (Go.laidOwn g1.ok hp)) upd_same r (Ex.none_of g1.ok.sub hp) hn q.2
theorem Go.fresh {S H S1 H1 : Hp} {p : Addr} (g1 : Go ib b S H S1 H1) (o : Okk ib b S H) (hp : H1 p = none) : H p = none := by
  cases z : H p with
  | none => rfl
  | some u => exact absurd hp (g1.stays (fun z => (o.bag z).tr) (by rw [z]; exact Option.some_ne_none _))
/-- xs + ys of lists -/
def dnAdd (da db : DE) : DA := fun δ R => da δ fun x => db δ fun y => match x, y with
  | .list xs, .list ys => small (xs.length + ys.length) = true ∧ R (xs ++ ys)
  | _, _ => False
theorem sim_nAdd (h1 : SimE K ib b ta da) (h2 : SimE K ib b tb db) : SimN K ib b (tOp (rAddU K) ta tb) (dnAdd da db) := by
  intro H0 S H σ δ R Q o e h k
  refine h1 H0 S H σ δ _ _ o e h fun S1 H1 v1 d1 g1 r1 q1 => ?_
  refine h2 H0 S1 H1 σ δ _ _ g1.ok (e.go g1) q1 fun S2 H2 v2 d2 g2 r2 q2 => ?_
  have r1 := r1.mono g2.st
  have g12 := g1.trans o g2
  split at q2
  · obtain ⟨a, xs, rfl, hx, qx⟩ := r1.lstV
    obtain ⟨c, ys, rfl, hy, qy⟩ := r2.lstV
    refine .inl (.inr ⟨a, c, xs, ys, rfl, rfl, g2.ok.sub _ _ hx, g2.ok.sub _ _ hy, by rw [qx.length, qy.length]; exact small_ok q2.1, fun p hp => ?_⟩)
    exact k S2 _ p (xs ++ ys) _ (g12.trans o (Go.laidOwn g2.ok hp)) upd_same (qx.append qy) (Ex.none_of g2.ok.sub hp) (g12.fresh o hp) q2.2
  · exact q2.elim
/-- xs[lo:hi] of a list -/
def dnSl (de : DE) (dl dh : DO) : DA := fun δ R => de δ fun x => dl δ fun l => dh δ fun u => match x with
  | .list ds => R (cutD ds l u)
  | _ => False
theorem sim_nSl {tl th : TO} {dl dh : DO} (h1 : SimE K ib b te de) (h2 : SimO K ib b tl dl) (h3 : SimO K ib b th dh) : SimN K ib b (tSl (rSlU K) te tl th) (dnSl de dl dh) := by
  intro H0 S H σ δ R Q o e h k
  refine h1 H0 S H σ δ _ _ o e h fun S1 H1 v1 d1 g1 r1 q1 => ?_
  refine h2 H0 S1 H1 σ δ _ _ g1.ok (e.go g1) q1 fun S2 H2 l g2 q2 => ?_
  have g12 := g1.trans o g2
  refine h3 H0 S2 H2 σ δ _ _ g2.ok (e.go g12) q2 fun S3 H3 u g3 q3 => ?_
  have g13 := g12.trans o g3
  have r1 := (r1.mono g2.st).mono g3.st
  split at q3
  · obtain ⟨a, xs, rfl, hx, qx⟩ := r1.lstV
    refine .inl (.inl ⟨a, xs, rfl, SqL.of (g3.ok.sub _ _ hx), fun p hp => ?_⟩)
    exact k S3 _ p _ _ (g13.trans o (Go.laidOwn g3.ok hp)) upd_same (qx.cut l u) (Ex.none_of g3.ok.sub hp) (g13.fresh o hp) q3
  · exact q3.elim
/-! statements -/
/-- x = a new list -/
def dAsgN (dn : DA) (i : Nat) : DS := fun DD δ => dn δ fun ds => DD.nx (δ.set i (some (.own ds)))
theorem sim_asgN {i : Nat} (hi : ib ≠ some i) (h1 : SimN K ib b te dn) : SimS K ib b (tAsg te (gName i)) (dAsgN dn i) := by
  intro S0 H0 Sm S H σ δ D DD o em g0 e h x
  refine h1 H0 S H σ δ _ _ g0.ok e h fun S1 H1 p vs dvs g1 hp r hS hn q => ?_
  have g02 := g0.trans o g1
  have h0 : H0 p = none := g0.fresh o hn
  refine x.nx S1 _ _ _ g02 (em.trans g1.st) ((e.go g1).setOwn hi hp r hS h0 (fun z w => ?_) (fun j es hj a1 a2 => ?_)) q
  · exact (g0.ok.bag z).tr (w ▸ hn)
  · obtain ⟨p', xs, b1, b2, _⟩ := e.own j es a1
    rw [b1] at a2
    have : p' = p := V.ref.inj (Option.some.inj (Option.some.inj a2))
    rw [this, hn] at b2
    cases b2
/-- return a new list, as one's own -/
def dRetO (dn : DA) : DS := fun DD δ => dn δ DD.ro
theorem sim_retO (h1 : SimN K ib b te dn) : SimS K ib b (tRet te) (dRetO dn) := by
  intro S0 H0 Sm S H σ δ D DD o em g0 e h x
  refine h1 H0 S H σ δ _ _ g0.ok e h fun S1 H1 p vs dvs g1 hp r hS hn q => ?_
  exact x.ro S1 H1 p vs dvs (g0.trans o g1) (em.trans g1.st) hp r hS (g0.fresh o hn) q
/-- return x, x a list of one's own: as one's own; as data -/
def dRetOwn (i : Nat) : DS := fun DD δ => match δ[i]? with
  | some (some (.own ds)) => DD.ro ds
  | _ => False
theorem sim_retOwn {i : Nat} : SimS K ib b (tRet (tVar i)) (dRetOwn i) := by
  intro S0 H0 Sm S H σ δ D DD o em g0 e h x
  unfold dRetOwn at h
  split at h
  · rename_i ds q0
    obtain ⟨p, xs, hσ, hp, hr, hS, h0, hb, hu⟩ := e.own i ds q0
    exact ⟨_, hσ, x.ro S H p xs ds g0 em hp hr hS h0 h⟩
  · exact h.elim
/-! own lists changed -/
def rInsertL : V → List V → Hp → VK → Prop := fun x vs H Q => ∃ (l : Addr) (xs : List V) (i : Int) (y : V), x = .ref l ∧ vs = [.int i, y] ∧ H l = some (.lst xs) ∧ xs.length < sizeLine ∧ 0 ≤ i ∧ i < 2 ^ 63 ∧ Q .non (upd H l (.lst (xs.take i.toNat ++ [y] ++ xs.drop i.toNat)))
theorem mt_insertL {X : Cx} : MtR X "list.insert" rInsertL := mt_insert
def dInsert (i : Nat) (da db : DE) : DS := fun DD δ => match δ[i]? with
  | some (some (.own ds)) => da δ fun x => db δ fun y => isI x fun n => small (ds.length + 1) = true ∧ 0 ≤ n ∧ n < 2 ^ 63 ∧ DD.nx (δ.set i (some (.own (ds.take n.toNat ++ [y] ++ ds.drop n.toNat))))
  | _ => False
theorem sim_insert {i : Nat} (hi : ib ≠ some i) (h1 : SimE K ib b ta da) (h2 : SimE K ib b tb db) : SimS K ib b (tDrop (tBM K "list" rInsertL (tVar i) (tCons ta (tCons tb tNil)))) (dInsert i da db) := by
  intro S0 H0 Sm S H σ δ D DD o em g0 e h x
  unfold dInsert at h
  split at h
  · rename_i ds q0
    obtain ⟨p, xs, hσ, hp, hr, hS, h0, hb, hu⟩ := e.own i ds q0
    refine ⟨_, hσ, .inl ⟨rfl, xs, .inl (.inl hp)⟩, ?_⟩
    refine h1 H0 S H σ δ _ _ g0.ok e h fun S1 H1 v dv g1 r q => ?_
    refine h2 H0 S1 H1 σ δ _ _ g1.ok (e.go g1) q fun S2 H2 w dw g2 r2 q2 => ?_
    have g12 := g1.trans g0.ok g2
    have hp2 := g12.keep p _ hb hp
    have hS2 := g12.new p (by rw [hp]; exact Option.some_ne_none _) hS
    unfold isI at q2
    split at q2
    · rename_i n
      obtain ⟨z1, z2, z3, z4⟩ := q2
      refine ⟨p, xs, n, w, rfl, by rw [(r.mono g2.st).intV], hp2, by rw [hr.length]; exact small_lt z1, z2, z3, ?_⟩
      have hr2 := hr.mono g12.st
      obtain ⟨ga, ea⟩ := setOwn_go (ys := xs.take n.toNat ++ [w] ++ xs.drop n.toNat) hi o (g0.trans o g12) (e.go g12) q0 hσ hp2 hS2 h0 hb hu
        (((hr2.take n.toNat).append (.cons r2 .nil)).append (hr2.drop n.toNat))
      exact x.nx S2 _ _ _ ga (em.trans g12.st) ea z4
    · exact q2.elim
  · exact h.elim
theorem sim_extend {i : Nat} (hi : ib ≠ some i) (h1 : SimE K ib b te de) : SimS K ib b (tDrop (tBM K "list" rExtend (tVar i) (tCons te tNil))) (dExtend i de) := by
  intro S0 H0 Sm S H σ δ D DD o em g0 e h x
  unfold dExtend at h
  split at h
  · rename_i ds q0
    obtain ⟨p, xs, hσ, hp, hr, hS, h0, hb, hu⟩ := e.own i ds q0
    refine ⟨_, hσ, .inl ⟨rfl, xs, .inl (.inl hp)⟩, ?_⟩
    refine h1 H0 S H σ δ _ _ g0.ok e h fun S1 H1 v dv g1 r q => ?_
    have hp1 := g1.keep p _ hb hp
    have hS1 := g1.new p (by rw [hp]; exact Option.some_ne_none _) hS
    split at q
    · rename_i es
      obtain ⟨c, ys, rfl, hc, qy⟩ := r.lstV
      refine ⟨p, c, xs, ys, rfl, rfl, hp1, g1.ok.sub _ _ hc, by rw [hr.length, qy.length]; exact small_ok q.1, ?_⟩
      obtain ⟨ga, ea⟩ := setOwn_go (ys := xs ++ ys) hi o (g0.trans o g1) (e.go g1) q0 hσ hp1 hS1 h0 hb hu ((hr.mono g1.st).append qy)
      exact x.nx S1 _ _ _ ga (em.trans g1.st) ea q.2
    · exact q.elim
  · exact h.elim
end
end DL

/-! New lists by comprehension; promises that hand back a new list; pop; while; in with deep data; max, min, sum. -/
namespace DL
open PySem PySem.Spec PyProof.Rows L2
open Evl (Ex ex_l ex_t)
variable [TheW]
section
variable {K : PySem.W.Frag} {ib : Option Nat} {b : Bg} {te ta tb : TE} {de da db : DE} {tt : TT} {dt : DT} {t : TA} {d dn : DA} {ti : TI} {di : DA} {ts tu : TS} {ds du : DS}
def dnLc (di : DA) (j : Nat) (dt : DT) (de : DE) (vs : List Nat) : DA := fun δ R => di δ fun xs => small xs.length = true ∧ ∃ I : Nat → List PyData → Prop, I 0 [] ∧
  (∀ i x acc, xs[i]? = some x → acc.length ≤ i → I i acc → dt ((wipeD δ vs).set j (some (.dat x))) fun c =>
    if c = true then de ((wipeD δ vs).set j (some (.dat x))) fun y => I (i + 1) (acc ++ [y]) else I (i + 1) acc) ∧ ∀ acc, acc.length ≤ xs.length → I xs.length acc → R acc
theorem sim_nLc {j : Nat} {vs : List Nat} (hj : j ∈ vs) (hv : ∀ i, ib = some i → i ∉ vs) (h1 : SimI K ib b ti di) (h2 : SimT K ib b tt dt) (h3 : SimE K ib b te de) :
    SimN K ib b (tLc ti (gName j) tt te vs) (dnLc di j dt de vs) := by
  intro H0 S H σ δ R Q o e h k
  refine h1 H0 S H σ δ _ _ o e h fun S1 H1 J xs g1 wk q D hD => ?_
  obtain ⟨hz, I, i0, turn, done⟩ := q
  have hij : ib ≠ some j := fun z => hv j z hj
  have oD := g1.ok
  have gD : Go ib b S1 H1 S1 (upd H1 D (.lst [])) := Go.laidOwn oD hD
  refine ⟨fun i m H' => m = xs.length - i ∧ i ≤ xs.length ∧ ∃ S' ys acc, Go ib b S1 H1 S' H' ∧ H' D = some (.lst ys) ∧ S' D = none ∧ Reps K S' ys acc ∧ acc.length ≤ i ∧ I i acc,
    ⟨xs.length, by omega, Nat.zero_le _, S1, [], [], gD, upd_same, Ex.none_of oD.sub hD, .nil, Nat.zero_le _, i0⟩, ?_⟩
  rintro i m H' ⟨rfl, hi, S', ys, acc, g', hys, hS', racc, hacc, hI⟩
  obtain ⟨w1, w2, w3⟩ := wk S' H' g'.st g'.ok
  by_cases hlt : i < xs.length
  · refine .inr ⟨w1 i hlt, fun H2 => ∃ S' ys acc, Go ib b S1 H1 S' H2 ∧ H2 D = some (.lst ys) ∧ S' D = none ∧ Reps K S' ys acc ∧ acc.length ≤ i + 1 ∧ I (i + 1) acc, ?_, ?_⟩
    · rintro H2 ⟨S2, ys2, acc2, a1, a2, a3, a4, a5, a6⟩
      exact ⟨xs.length - (i + 1), by omega, rfl, hlt, S2, ys2, acc2, a1, a2, a3, a4, a5, a6⟩
    · intro y H2 hy
      obtain ⟨S2, dy, g2, hy2, ry⟩ := w3 i y H2 hlt hy
      have nb : ib ≠ none → D ≠ b.1 := fun z w => (oD.bag z).tr (w ▸ hD)
      have gA := g'.trans oD g2
      have hys2 := g2.keep D _ nb hys
      have hS2 := g2.new D (by rw [hys]; exact Option.some_ne_none _) hS'
      have eA := (((e.go (g1.trans o gA)).wipe hv).set (i := j) hij ry)
      refine ⟨wipe_set σ vs j _ hj, ?_⟩
      refine h2 H0 S2 H2 _ _ _ _ gA.ok eA (turn i dy acc hy2 hacc hI) fun S3 H3 c g3 q3 => ?_
      have gB := gA.trans oD g3
      have hys3 := g3.keep D _ nb hys2
      have hS3 := g3.new D (by rw [hys2]; exact Option.some_ne_none _) hS2
      cases c with
      | true =>
        rw [if_pos rfl] at q3 ⊢
        refine h3 H0 S3 H3 _ _ _ _ gB.ok (eA.go g3) q3 fun S4 H4 v dv g4 r4 q4 => ?_
        have gC := gB.trans oD g4
        have hys4 := g4.keep D _ nb hys3
        have hS4 := g4.new D (by rw [hys3]; exact Option.some_ne_none _) hS3
        have rac4 := racc.mono ((g2.st.trans g3.st).trans g4.st)
        have hzz := of_decide_eq_true hz
        refine ⟨ys, hys4, by rw [rac4.length]; exact Evl.sz_lt (by omega), S4, ys ++ [v], acc ++ [dv], Go.ownUpd oD gC hD hS4, upd_same, hS4, rac4.append (.cons r4 .nil), ?_, q4⟩
        rw [List.length_append, List.length_singleton]
        omega
      | false =>
        rw [if_neg Bool.false_ne_true] at q3 ⊢
        exact ⟨S3, ys, acc, gB, hys3, hS3, racc.mono (g2.st.trans g3.st), by omega, q3⟩
  · have ei : i = xs.length := by omega
    subst ei
    exact .inl ⟨w2, k S' H' D ys acc (g1.trans o g') hys racc hS' (g1.fresh o hD) (done acc hacc hI)⟩
/-! promises that hand back a new list -/
def spPO (K : PySem.W.Frag) (pre : List PyData → Prop) (post : List PyData → List PyData → Prop) : Sp := fun vs H Q _ => ∃ (S : Hp) (b : Bg) (ds : List PyData), Okk none b S H ∧ Reps K S vs ds ∧ pre ds ∧
  ∀ S' H' p xs es, Go none b S H S' H' → H' p = some (.lst xs) → Reps K S' xs es → S' p = none → H p = none → post ds es → Q (.ref p) H'
def spGO (K : PySem.W.Frag) (pre : List PyData → Prop) (post : List PyData → List PyData → Prop) : Sp := fun vs H Q _ => ∃ (S : Hp) (b : Bg) (ws : List V) (ds : List PyData), vs = .ref b.1 :: ws ∧ Okk (some 0) b S H ∧ Reps K S ws ds ∧ pre ds ∧
  ∀ S' H' p xs es, Go (some 0) b S H S' H' → H' p = some (.lst xs) → Reps K S' xs es → S' p = none → H p = none → post ds es → Q (.ref p) H'
def dnCall (pre : List PyData → Prop) (post : List PyData → List PyData → Prop) (d : DA) : DA := fun δ R => d δ fun ds => pre ds ∧ ∀ r, post ds r → R r
theorem sim_nCallP {pre : List PyData → Prop} {post : List PyData → List PyData → Prop} {E : XK} (h1 : SimA K ib b t d) : SimN K ib b (tCall (spPO K pre post) [] E t) (dnCall pre post d) := by
  intro H0 S H σ δ R Q o e h k
  refine h1 H0 S H σ δ _ _ o e h fun S1 H1 vs ds g r q => ?_
  rw [List.append_nil]
  refine ⟨S1, b, ds, g.ok.pure, r, q.1, fun S2 H2 p xs es g2 hp rx hS hn q2 => ?_⟩
  exact k S2 H2 p xs es (g.trans o (Go.ofPure g.ok g2)) hp rx hS (g.fresh o hn) (q.2 es q2)
theorem sim_nCallG {pre : List PyData → Prop} {post : List PyData → List PyData → Prop} {E : XK} {i : Nat} (hi : ib = some i) (h1 : SimA K ib b t d) :
    SimN K ib b (tCall (spGO K pre post) [] E (tCons (tVar i) t)) (dnCall pre post d) := by
  intro H0 S H σ δ R Q o e h k
  refine ⟨_, e.slot i hi, ?_⟩
  refine h1 H0 S H σ δ _ _ o e h fun S1 H1 vs ds g r q => ?_
  show spGO K pre post ((V.ref b.1 :: vs) ++ []) H1 Q E
  rw [List.append_nil]
  subst hi
  refine ⟨S1, b, vs, ds, rfl, g.ok.as, r, q.1, fun S2 H2 p xs es g2 hp rx hS hn q2 => ?_⟩
  exact k S2 H2 p xs es (g.trans o g2.as) hp rx hS (g.fresh o hn) (q.2 es q2)
theorem len_PO {pre : List PyData → Prop} {post : List PyData → List PyData → Prop} {n : Nat} (h : ∀ ds, pre ds → ds.length = n) : ∀ vs H Q E, spPO K pre post vs H Q E → vs.length = n := by
  rintro vs H Q E ⟨S, b, ds, o, r, p, k⟩
  rw [r.length]
  exact h ds p
theorem len_GO {pre : List PyData → Prop} {post : List PyData → List PyData → Prop} {n : Nat} (h : ∀ ds, pre ds → ds.length = n) : ∀ vs H Q E, spGO K pre post vs H Q E → vs.length = n + 1 := by
  rintro vs H Q E ⟨S, b, ws, ds, rfl, o, r, p, k⟩
  rw [List.length_cons, r.length, h ds p]
theorem body_PO {dst : DS} {pre : List PyData → Prop} {post : List PyData → List PyData → Prop} {N : List Str} (sim : ∀ b, SimS K none b ts dst)
    (h : ∀ ds, pre ds → dst { nx := fun _ => False, rt := fun _ => False, ro := post ds } (startD N.length (ds.map fun d => some (.dat d))))
    {vs : List V} {H : Hp} {Q : VK} {E : XK} (q : spPO K pre post vs H Q E) : ts { nx := fun _ H' => Q .non H', rt := Q } (L2.start N vs) H := by
  obtain ⟨S, b, ds, o, r, hp, k⟩ := q
  refine sim b S H S S H _ _ _ _ o (Ex.refl S) (Go.refl o) (env_start r) (h ds hp) ⟨?_, ?_, ?_, ?_, ?_⟩
  · intro S' H' σ' δ' g _ _ z
    exact z.elim
  · intro S' H' v d g _ rv z
    exact z.elim
  · intro S' H' σ' δ' g _ _ z
    exact z
  · intro S' H' σ' δ' g _ _ z
    exact z
  · intro S' H' p xs es g _ h1 h2 h3 h4 z
    exact k S' H' p xs es g h1 h2 h3 h4 z
theorem body_GO {dst : DS} {pre : List PyData → Prop} {post : List PyData → List PyData → Prop} {N : List Str} (sim : ∀ b, SimS K (some 0) b ts dst)
    (h : ∀ ds, pre ds → dst { nx := fun _ => False, rt := fun _ => False, ro := post ds } (startD N.length (none :: ds.map fun d => some (.dat d))))
    {vs : List V} {H : Hp} {Q : VK} {E : XK} (q : spGO K pre post vs H Q E) : ts { nx := fun _ H' => Q .non H', rt := Q } (L2.start N vs) H := by
  obtain ⟨S, b, ws, ds, rfl, o, r, hp, k⟩ := q
  refine sim b S H S S H _ _ _ _ o (Ex.refl S) (Go.refl o) (env_startG r) (h ds hp) ⟨?_, ?_, ?_, ?_, ?_⟩
  · intro S' H' σ' δ' g _ _ z
    exact z.elim
  · intro S' H' v d g _ rv z
    exact z.elim
  · intro S' H' σ' δ' g _ _ z
    exact z
  · intro S' H' σ' δ' g _ _ z
    exact z
  · intro S' H' p xs es g _ h1 h2 h3 h4 z
    exact k S' H' p xs es g h1 h2 h3 h4 z
/-- x = y.pop() -/
def dAsgPop (i j : Nat) : DS := fun DD δ => match δ[i]? with
  | some (some (.own ds)) => match ds.getLast? with
    | some y => DD.nx ((δ.set i (some (.own ds.dropLast))).set j (some (.dat y)))
    | none => False
  | _ => False
theorem Reps.dropLast {S : Hp} : ∀ {vs : List V} {ds : List PyData}, Reps K S vs ds → Reps K S vs.dropLast ds.dropLast
  | _, _, .nil => .nil
  | _, _, .cons r .nil => .nil
  | _, _, .cons r (.cons r2 q) => .cons r (Reps.dropLast (.cons r2 q))
theorem sim_asgPop {i j : Nat} (hi : ib ≠ some i) (hj : ib ≠ some j) : SimS K ib b (tAsg (tBM0 K "list" rPop (tVar i)) (gName j)) (dAsgPop i j) := by
  intro S0 H0 Sm S H σ δ D DD o em g0 e h x
  unfold dAsgPop at h
  split at h
  · rename_i ds q0
    obtain ⟨p, xs, hσ, hp, hr, hS, h0, hb, hu⟩ := e.own i ds q0
    split at h
    · rename_i y hy
      rw [List.getLast?_eq_getElem?] at hy
      obtain ⟨v, hv, rv⟩ := hr.get hy
      refine ⟨_, hσ, .inl ⟨rfl, xs, .inl (.inl hp)⟩, p, xs, v, rfl, rfl, hp, by rw [hr.length]; exact hv, ?_⟩
      obtain ⟨ga, ea⟩ := setOwn_go (ys := xs.dropLast) hi o g0 e q0 hσ hp hS h0 hb hu (Reps.dropLast hr)
      exact x.nx S _ _ _ ga em (ea.set hj rv) h
    · exact h.elim
  · exact h.elim
/-- while -/
def dWhile (dt : DT) (ds : DS) : DS := fun DD δ => ∃ I : Nat → DEnv → Prop, (∃ m, I m δ) ∧ ∀ m δ', I m δ' → dt δ' fun c =>
  if c = true then ds { DD with nx := fun δ2 => ∃ m', m' < m ∧ I m' δ2, ct := fun δ2 => ∃ m', m' < m ∧ I m' δ2, bk := DD.nx } δ' else DD.nx δ'
theorem sim_while (h1 : SimT K ib b tt dt) (h2 : SimS K ib b ts ds) : SimS K ib b (tWhile tt ts) (dWhile dt ds) := by
  intro S0 H0 Sm S H σ δ D DD o em g0 e h x
  obtain ⟨I, ⟨m0, i0⟩, turn⟩ := h
  refine ⟨fun m σ' H' => ∃ S' δ', Ex S S' ∧ Go ib b S0 H0 S' H' ∧ EnvOk K ib b H0 S' H' σ' δ' ∧ I m δ', ⟨m0, S, δ, Ex.refl S, g0, e, i0⟩, ?_⟩
  rintro m σ1 H1 ⟨S1, δ1, ex, g1, e1, hI⟩
  refine h1 H0 S1 H1 σ1 δ1 _ _ g1.ok e1 (turn m δ1 hI) fun S2 H2 c g2 q2 => ?_
  have gA := g1.trans o g2
  have eA := e1.go g2
  have exA := ex.trans g2.st
  cases c with
  | true =>
    rw [if_pos rfl] at q2 ⊢
    refine ⟨fun σ' H' => ∃ m', m' < m ∧ ∃ S' δ', Ex S S' ∧ Go ib b S0 H0 S' H' ∧ EnvOk K ib b H0 S' H' σ' δ' ∧ I m' δ', fun σ' H' z => z, ?_⟩
    refine h2 S0 H0 S S2 H2 σ1 δ1 _ _ o exA gA eA q2 ⟨?_, ?_, ?_, ?_, ?_⟩
    · rintro S4 H4 σ4 δ4 c1 c2 c3 ⟨m', hm, c4⟩
      exact ⟨m', hm, S4, δ4, c2, c1, c3, c4⟩
    · intro S4 H4 v4 d4 c1 c2 c3 c4
      exact x.rt S4 H4 v4 d4 c1 (em.trans c2) c3 c4
    · intro S4 H4 σ4 δ4 c1 c2 c3 c4
      exact x.nx S4 H4 σ4 δ4 c1 (em.trans c2) c3 c4
    · rintro S4 H4 σ4 δ4 c1 c2 c3 ⟨m', hm, c4⟩
      exact ⟨m', hm, S4, δ4, c2, c1, c3, c4⟩
    · intro S4 H4 p4 xs4 es4 c1 c2 c3 c4 c5 c6 c7
      exact x.ro S4 H4 p4 xs4 es4 c1 (em.trans c2) c3 c4 c5 c6 c7
  | false =>
    rw [if_neg Bool.false_ne_true] at q2 ⊢
    exact x.nx S2 H2 σ1 δ1 gA (em.trans exA) eA q2
/-- x in a list of data -/
def rInDb (K : PySem.W.Frag) (neg : Bool) : R2 := if neg then rNotInD K else rInD K
def dInD (neg : Bool) : PyData → PyData → (PyData → Prop) → Prop := fun x y R => match y with
  | .list ds => (SeqAt.shaped x && SeqAt.shaped (.list ds)) = true ∧ R (.bool (if neg then !(ds.any fun e => PyData.eqv e x) else ds.any fun e => PyData.eqv e x))
  | _ => False
theorem simr_inD : SimR2 K ib b (rInD K) (dInD false) := by
  intro S H x y dx dy R Q o rx ry h k
  unfold dInD at h
  split at h
  · rename_i ds
    have h1 := (Bool.and_eq_true _ _ ▸ h.1 : _ ∧ _)
    exact ⟨dx, ds, (rx.mono o.sub).dp (SeqAt.canLay_of_shaped h1.1), (ry.mono o.sub).dp (SeqAt.canLay_of_shaped h1.2), h1.1, h1.2, k S H _ _ (Go.refl o) (.bl _) h.2⟩
  · exact h.elim
theorem simr_notInD : SimR2 K ib b (rNotInD K) (dInD true) := by
  intro S H x y dx dy R Q o rx ry h k
  unfold dInD at h
  split at h
  · rename_i ds
    have h1 := (Bool.and_eq_true _ _ ▸ h.1 : _ ∧ _)
    exact ⟨dx, ds, (rx.mono o.sub).dp (SeqAt.canLay_of_shaped h1.1), (ry.mono o.sub).dp (SeqAt.canLay_of_shaped h1.2), h1.1, h1.2, k S H _ _ (Go.refl o) (.bl _) h.2⟩
  · exact h.elim
/-- max, min, sum of a list of ints -/
def intsOf : List PyData → Option (List Int)
  | [] => some []
  | .int c :: r => (intsOf r).map (c :: ·)
  | _ => none
theorem ints_of_rep {S : Hp} : ∀ {vs : List V} {ds : List PyData} {bs : List Int}, Reps K S vs ds → intsOf ds = some bs → vs = bs.map V.int
  | _, _, bs, .nil, h => by
    rw [intsOf] at h
    cases h
    rfl
  | _, _, bs, .cons r q, h => by
    cases r with
    | int c =>
      rw [intsOf] at h
      obtain ⟨w, hw, rfl⟩ := Option.map_eq_some_iff.mp h
      rw [ints_of_rep q hw]
      rfl
    | _ => simp [intsOf] at h
def dSum : List PyData → (PyData → Prop) → Prop := fun ds R => match ds with
  | [.list xs] => ∃ ns, intsOf xs = some ns ∧ R (.int ns.sum)
  | _ => False
theorem simc_sum : SimC K ib b (rSum K) dSum := by
  intro S H xs ds R Q o r h k
  unfold dSum at h
  split at h
  · cases r with
    | cons r1 r2 =>
      cases r2
      obtain ⟨a, xs, rfl, hq, q⟩ := r1.lstV
      obtain ⟨ns, hb, h⟩ := h
      have e := ints_of_rep q hb
      subst e
      exact ⟨a, ns, rfl, SqL.of (o.sub _ _ hq), k S H _ _ (Go.refl o) (.int _) h⟩
  · exact h.elim
def dMax : List PyData → (PyData → Prop) → Prop := fun ds R => match ds with
  | [.list xs] => ∃ ns, intsOf xs = some ns ∧ 0 < ns.length ∧ ∀ m, m ∈ ns → (∀ y, y ∈ ns → y ≤ m) → R (.int m)
  | _ => False
theorem simc_max : SimC K ib b (rMax K) dMax := by
  intro S H xs ds R Q o r h k
  unfold dMax at h
  split at h
  · cases r with
    | cons r1 r2 =>
      cases r2
      obtain ⟨a, xs, rfl, hq, q⟩ := r1.lstV
      obtain ⟨ns, hb, h0, h⟩ := h
      have e := ints_of_rep q hb
      subst e
      exact ⟨a, ns, rfl, SqL.of (o.sub _ _ hq), h0, fun m h1 h2 => k S H _ _ (Go.refl o) (.int _) (h m h1 h2)⟩
  · exact h.elim
/-- min(i, j) -/
def rMin2 : List V → Hp → VK → Prop := fun xs H Q => ∃ i j, xs = [.int i, .int j] ∧ Q (.int (if j < i then j else i)) H
theorem call_min2' {X : Cx} (hc : X.calm = true) : CallR X (.builtin "min") rMin2 := call_min2 hc
def dMin2 : List PyData → (PyData → Prop) → Prop := fun ds R => match ds with
  | [.int i, .int j] => R (.int (if j < i then j else i))
  | _ => False
theorem simc_min2 : SimC K ib b rMin2 dMin2 := by
  intro S H xs ds R Q o r h k
  unfold dMin2 at h
  split at h
  · cases r with
    | cons r1 r2 =>
      cases r2 with
      | cons r2 r3 =>
        cases r3
        rw [r1.intV, r2.intV]
        exact ⟨_, _, rfl, k S H _ _ (Go.refl o) (.int _) h⟩
  · exact h.elim
end
end DL

/-! Own lists handed back as data, read for new lists; comprehensions over pairs; defs that call themselves. -/
namespace DL
open PySem PySem.Spec PyProof.Rows L2
open Evl (Ex ex_l ex_t)
variable [TheW]
theorem units65 {k : Nat} {A : Around} (r : Room k A) : A.units + 65 < cLine := by have := r.un; omega
/-- a promise that nobody can ask for -/
theorem FnG.never {P : Program} {w : World} {K : PySem.W.Frag} {mg : Str → Option Value} {base : Heap} {CX : CXT} {k : Nat} {f : Addr} {fd : FuncData} {ps : List Str} {sp : Sp} (h : ∀ vs H Q E, ¬ sp vs H Q E) : FnG P w K mg base CX k f fd ps sp :=
  ⟨fun vs H Q E q => absurd q (h vs H Q E), fun A o s H args us vs Q E hr e b v q => absurd q (h vs H Q E)⟩
theorem never_P {K : PySem.W.Frag} {pre : List PyData → Prop} {post : List PyData → PyData → Prop} (h : ∀ ds, ¬ pre ds) : ∀ vs H Q E, ¬ spP K pre post vs H Q E := by
  rintro vs H Q E ⟨S, b, ds, o, r, p, k⟩
  exact h ds p
theorem never_G {K : PySem.W.Frag} {pre : List PyData → Prop} {post : List PyData → PyData → Prop} (h : ∀ ds, ¬ pre ds) : ∀ vs H Q E, ¬ spG K pre post vs H Q E := by
  rintro vs H Q E ⟨S, b, ws, ds, e, o, r, p, k⟩
  exact h ds p
theorem never_PO {K : PySem.W.Frag} {pre : List PyData → Prop} {post : List PyData → List PyData → Prop} (h : ∀ ds, ¬ pre ds) : ∀ vs H Q E, ¬ spPO K pre post vs H Q E := by
  rintro vs H Q E ⟨S, b, ds, o, r, p, k⟩
  exact h ds p
theorem never_GO {K : PySem.W.Frag} {pre : List PyData → Prop} {post : List PyData → List PyData → Prop} (h : ∀ ds, ¬ pre ds) : ∀ vs H Q E, ¬ spGO K pre post vs H Q E := by
  rintro vs H Q E ⟨S, b, ws, ds, e, o, r, p, k⟩
  exact h ds p
theorem Reps.tupOnly_all {ds : List PyData} (h : ∀ d ∈ ds, tupOnly d = true) : tupOnlyAll ds = true := by
  induction ds with
  | nil => rfl
  | cons d r ih =>
    show (tupOnly d && tupOnlyAll r) = true
    rw [h d (List.mem_cons_self ..), ih fun x hx => h x (List.mem_cons_of_mem _ hx)]
    rfl
section
variable {K : PySem.W.Frag} {ib : Option Nat} {b : Bg} {te ta tb : TE} {de da db : DE} {tt : TT} {dt : DT} {t : TA} {d dn : DA} {ti : TI} {di : DA} {ts tu : TS} {ds du : DS}
/-- return x, x a list of one's own: as data -/
def dRetOwnD (i : Nat) : DS := fun DD δ => match δ[i]? with
  | some (some (.own ds)) => DD.rt (.list ds)
  | _ => False
theorem sim_retOwnD {i : Nat} : SimS K ib b (tRet (tVar i)) (dRetOwnD i) := by
  intro S0 H0 Sm S H σ δ D DD o em g0 e h x
  unfold dRetOwnD at h
  split at h
  · rename_i ds q0
    obtain ⟨p, xs, hσ, hp, hr, hS, h0, hb, hu⟩ := e.own i ds q0
    exact ⟨_, hσ, x.rt _ H _ _ (g0.tell o hp hS h0) (em.trans (Ex.new hS)) (.lst upd_same (hr.mono (Ex.new hS))) h⟩
  · exact h.elim
/-- an own list read for a new list -/
def dBorrowN (i : Nat) (dn : DA) : DA := fun δ R => match δ[i]? with
  | some (some (.own ds)) => dn (δ.set i (some (.dat (.list ds)))) fun es => tupOnlyAll es = true ∧ R es
  | _ => False
theorem sim_borrowN {i : Nat} (h1 : SimN K ib b te dn) : SimN K ib b te (dBorrowN i dn) := by
  intro H0 S H σ δ R Q o e h k
  unfold dBorrowN at h
  split at h
  · rename_i ds q0
    obtain ⟨p, xs, hσ, hp, hr, hS, h0, hb, hu⟩ := e.own i ds q0
    obtain ⟨o1, e1⟩ := borrow_ok o e q0 hσ hp hr hS hb hu
    refine h1 H0 _ H σ _ _ _ o1 e1 h fun S2 H2 p2 xs2 es g hp2 r hS2 hn q => ?_
    obtain ⟨e2, g2⟩ := borrow_back o hS g
    refine k _ H2 p2 xs2 es g2 hp2 (Reps.dropT e2 r q.1) ?_ hn q.2
    by_cases c : p2 = p
    · rw [c]; exact cutH_same
    · rw [cutH_ne c]; exact hS2
  · exact h.elim
theorem wipe_put (σ : L2.St) (vs : List Nat) (j : Nat) (x : Option V) (h : j ∈ vs) : wipe (σ.set j x) vs = wipe σ vs := by
  apply List.ext_getElem?
  intro i
  rw [wipe_get, wipe_get, List.length_set]
  by_cases c : i ∈ vs ∧ i < σ.length
  · rw [if_pos c, if_pos c]
  · rw [if_neg c, if_neg c]
    by_cases hi : i = j
    · subst hi
      have : ¬ i < σ.length := fun z => c ⟨h, z⟩
      rw [List.getElem?_eq_none (by rw [List.length_set]; omega), List.getElem?_eq_none (by omega)]
    · rw [List.getElem?_set_ne (Ne.symm hi)]
theorem wipe_twice (σ : L2.St) (vs : List Nat) : wipe (wipe σ vs) vs = wipe σ vs := by
  apply List.ext_getElem?
  intro i
  rw [wipe_get, wipe_length]
  by_cases c : i ∈ vs ∧ i < σ.length
  · rw [if_pos c, wipe_get, if_pos c]
  · rw [if_neg c]
/-- [e for x, y in ..] -/
def dnLc2 (di : DA) (j l : Nat) (dt : DT) (de : DE) (vs : List Nat) : DA := fun δ R => di δ fun xs => small xs.length = true ∧ ∃ I : Nat → List PyData → Prop, I 0 [] ∧
  (∀ i x acc, xs[i]? = some x → acc.length ≤ i → I i acc → match x with
    | .tuple [x1, x2] => dt (((wipeD δ vs).set j (some (.dat x1))).set l (some (.dat x2))) fun c =>
      if c = true then de (((wipeD δ vs).set j (some (.dat x1))).set l (some (.dat x2))) fun y => I (i + 1) (acc ++ [y]) else I (i + 1) acc
    | _ => False) ∧ ∀ acc, acc.length ≤ xs.length → I xs.length acc → R acc
theorem sim_nLc2 {j l : Nat} {vs : List Nat} (hj : j ∈ vs) (hl : l ∈ vs) (hv : ∀ i, ib = some i → i ∉ vs) (h1 : SimI K ib b ti di) (h2 : SimT K ib b tt dt) (h3 : SimE K ib b te de) :
    SimN K ib b (tLc ti (gTup K 2 (gCons (gName j) (gCons (gName l) gNil))) tt te vs) (dnLc2 di j l dt de vs) := by
  intro H0 S H σ δ R Q o e h k
  refine h1 H0 S H σ δ _ _ o e h fun S1 H1 J xs g1 wk q D hD => ?_
  obtain ⟨hz, I, i0, turn, done⟩ := q
  have hij : ib ≠ some j := fun z => hv j z hj
  have hil : ib ≠ some l := fun z => hv l z hl
  have oD := g1.ok
  have gD : Go ib b S1 H1 S1 (upd H1 D (.lst [])) := Go.laidOwn oD hD
  refine ⟨fun i m H' => m = xs.length - i ∧ i ≤ xs.length ∧ ∃ S' ys acc, Go ib b S1 H1 S' H' ∧ H' D = some (.lst ys) ∧ S' D = none ∧ Reps K S' ys acc ∧ acc.length ≤ i ∧ I i acc,
    ⟨xs.length, by omega, Nat.zero_le _, S1, [], [], gD, upd_same, Ex.none_of oD.sub hD, .nil, Nat.zero_le _, i0⟩, ?_⟩
  rintro i m H' ⟨rfl, hi, S', ys, acc, g', hys, hS', racc, hacc, hI⟩
  obtain ⟨w1, w2, w3⟩ := wk S' H' g'.st g'.ok
  by_cases hlt : i < xs.length
  · refine .inr ⟨w1 i hlt, fun H2 => ∃ S' ys acc, Go ib b S1 H1 S' H2 ∧ H2 D = some (.lst ys) ∧ S' D = none ∧ Reps K S' ys acc ∧ acc.length ≤ i + 1 ∧ I (i + 1) acc, ?_, ?_⟩
    · rintro H2 ⟨S2, ys2, acc2, a1, a2, a3, a4, a5, a6⟩
      exact ⟨xs.length - (i + 1), by omega, rfl, hlt, S2, ys2, acc2, a1, a2, a3, a4, a5, a6⟩
    · intro y H2 hy
      obtain ⟨S2, dy, g2, hy2, ry⟩ := w3 i y H2 hlt hy
      have nb : ib ≠ none → D ≠ b.1 := fun z w => (oD.bag z).tr (w ▸ hD)
      have gA := g'.trans oD g2
      have hys2 := g2.keep D _ nb hys
      have hS2 := g2.new D (by rw [hys]; exact Option.some_ne_none _) hS'
      have tq := turn i dy acc hy2 hacc hI
      split at tq
      · rename_i x1 x2
        obtain ⟨a, zs, rfl, hq, rz⟩ := ry.tupV
        cases rz with
        | cons r1 rz =>
        cases rz with
        | cons r2 rz =>
        cases rz
        refine ⟨a, _, rfl, ex_t gA.ok.sub hq, rfl, _, _, rfl, _, _, rfl, rfl, ?_, ?_⟩
        · rw [wipe_put _ _ _ _ hl, wipe_put _ _ _ _ hj, wipe_twice]
        have eA := ((((e.go (g1.trans o gA)).wipe hv).set (i := j) hij r1).set (i := l) hil r2)
        refine h2 H0 S2 H2 _ _ _ _ gA.ok eA tq fun S3 H3 c g3 q3 => ?_
        have gB := gA.trans oD g3
        have hys3 := g3.keep D _ nb hys2
        have hS3 := g3.new D (by rw [hys2]; exact Option.some_ne_none _) hS2
        cases c with
        | true =>
          rw [if_pos rfl] at q3 ⊢
          refine h3 H0 S3 H3 _ _ _ _ gB.ok (eA.go g3) q3 fun S4 H4 v dv g4 r4 q4 => ?_
          have gC := gB.trans oD g4
          have hys4 := g4.keep D _ nb hys3
          have hS4 := g4.new D (by rw [hys3]; exact Option.some_ne_none _) hS3
          have rac4 := racc.mono ((g2.st.trans g3.st).trans g4.st)
          have hzz := of_decide_eq_true hz
          refine ⟨ys, hys4, by rw [rac4.length]; exact Evl.sz_lt (by omega), S4, ys ++ [v], acc ++ [dv], Go.ownUpd oD gC hD hS4, upd_same, hS4, rac4.append (.cons r4 .nil), ?_, q4⟩
          rw [List.length_append, List.length_singleton]
          omega
        | false =>
          rw [if_neg Bool.false_ne_true] at q3 ⊢
          exact ⟨S3, ys, acc, gB, hys3, hS3, racc.mono (g2.st.trans g3.st), by omega, q3⟩
      · exact tq.elim
  · have ei : i = xs.length := by omega
    subst ei
    exact .inl ⟨w2, k S' H' D ys acc (g1.trans o g') hys racc hS' (g1.fresh o hD) (done acc hacc hI)⟩
end
end DL

/-! sorted of data that are alike. -/
namespace DL
open PySem PySem.Spec PyProof.Rows L2
open Evl (Ex ex_l ex_t)
variable [TheW]
open PySem.W (EachIs AllAlike Sortable SortsAt sortVals sortLe keyToks dataKind)
/-- the data in order -/
noncomputable def sortD (ds : List PyData) : List PyData := ds.mergeSort (sortLe (listOrd itemOrd) false keyToks)
def rSortedD (K : PySem.W.Frag) : List V → Hp → VK → Prop := fun vs H Q => ∃ (a : Addr) (xs : List V) (ds : List PyData), vs = [.ref a] ∧ SqL K H a xs ∧ DpAll K H xs ds ∧ AllAlike ds ∧ Sortable ds ∧ (∀ d ∈ ds, d.depth ≤ 60) ∧
  ∀ (ys : List V) (p : Addr), EachIs (fun x d => (x, d) ∈ xs.zip ds) ys (sortD ds) → H p = none → Q (.ref p) (upd H p (.lst ys))
theorem each_pairs {R : V → Value → Prop} : ∀ {xs : List V} {us : List Value} {ds : List PyData}, Paired R xs us → xs.length = ds.length → EachIs (fun u d => ∃ x, R x u ∧ (x, d) ∈ xs.zip ds) us ds
  | [], _, [], .nil, _ => .nil
  | [], _, _ :: _, .nil, h => by cases h
  | x :: xs, _, [], _, h => by cases h
  | x :: xs, _, d :: ds, .cons r q, h => by
    refine .cons ⟨x, r, List.mem_cons_self ..⟩ ?_
    have ih := each_pairs q (by simpa using h)
    exact ih.mono fun u e ⟨y, h1, h2⟩ => ⟨y, h1, List.mem_cons_of_mem _ h2⟩
theorem back_pairs {R : V → Value → Prop} {T : V → PyData → Prop} : ∀ {us : List Value} {ds : List PyData}, EachIs (fun u d => ∃ x, R x u ∧ T x d) us ds → ∃ ys, Paired R ys us ∧ EachIs T ys ds
  | _, _, .nil => ⟨[], .nil, .nil⟩
  | _, _, .cons ⟨x, h1, h2⟩ t => by
    obtain ⟨ys, a, b⟩ := back_pairs t
    exact ⟨x :: ys, .cons h1 a, .cons h2 b⟩
theorem dpAll_len {K : PySem.W.Frag} {H : Hp} : ∀ {xs : List V} {ds : List PyData}, DpAll K H xs ds → xs.length = ds.length
  | _, _, .nil => rfl
  | _, _, .cons _ t => by simp only [List.length_cons, dpAll_len t]
theorem cr_sortedD {X : Cx} (hu : X.A.units + 70 < cLine) : CallR X (.builtin "sorted") (rSortedD X.K) := by
  intro pins s σ H vs us Q I r h
  obtain ⟨a, xs, ds, rfl, hs, hd, hal, hk, hdep, q⟩ := h
  obtain ⟨its, rv, hl, hz⟩ := I.list hs
  obtain ⟨u, rfl, ru⟩ := vals1 r
  obtain rfl : u = Value.ref a := ru
  obtain ⟨as, hr⟩ := Dp.readsAll I ds xs its hd rv
  have e0 : EachIs (fun v d => ∃ as, Reads s.heap v d as) its ds := PySem.W.readsAll_each id (by rw [List.map_id]; exact hr)
  have hlen := dpAll_len hd
  refine PySem.W.sorted_vals hl.isList (SortsAt.data (e0.mono fun v d ⟨as, h⟩ => ⟨as, Reads.keeps (fun b o e => PySem.W.sorting_copy_old e) h⟩) hal hk (fun d hm => ?_)) (by rw [← rv.length]; exact hz) ?_
  · have := hdep d hm
    show X.A.units + 1 + 1 + d.depth < cLine
    omega
  · have hkey : EachIs (fun v d => (dataKind (PySem.W.sortingHeap (PySem.W.copyHeap s.heap its) (s.heap.objs.size + 1) its) ds).keyOf v = some (keyToks d)) its ds := by
      have e1 : EachIs (fun v d => ∃ as, Reads (PySem.W.sortingHeap (PySem.W.copyHeap s.heap its) (s.heap.objs.size + 1) its) v d as) its ds := e0.mono fun v d ⟨as, h⟩ => ⟨as, Reads.keeps (fun b o e => PySem.W.sorting_copy_old e) h⟩
      exact (PySem.W.each_mem e1).mono fun v d ⟨⟨as, h⟩, hm⟩ => PySem.W.dataKind_some hal hm h
    have e2 := PySem.W.sortVals_each (κ := dataKind (PySem.W.sortingHeap (PySem.W.copyHeap s.heap its) (s.heap.objs.size + 1) its) ds) (rev := false) keyToks (each_pairs rv hlen) hkey
    obtain ⟨ys, ry, ey⟩ := back_pairs e2
    obtain ⟨n, hn⟩ := sortedAll_at s.heap its (sortVals (dataKind (PySem.W.sortingHeap (PySem.W.copyHeap s.heap its) (s.heap.objs.size + 1) its) ds) false its its).toArray
    have hd' : s.heap.objs.size ≤ s.heap.objs.size + 1 := Nat.le_succ _
    refine ⟨.ref _, upd H _ (.lst ys), I.laid (t' := s.toks) (fun b o e => sortedAll_old e) hd' ⟨?_, _, n, ry, hn⟩, rfl, q ys _ ey (I.hok.fresh hd')⟩
    have l1 := ey.length
    unfold sortD at l1
    rw [List.length_mergeSort, ← hlen] at l1
    omega
section
variable {K : PySem.W.Frag} {ib : Option Nat} {b : Bg} {te : TE} {de : DE}
theorem Reps.zip {S : Hp} : ∀ {vs : List V} {ds : List PyData}, Reps K S vs ds → ∀ {v : V} {d : PyData}, (v, d) ∈ vs.zip ds → Rep K S v d
  | _, _, .nil, _, _, h => by simp at h
  | _, _, .cons r q, v, d, h => by
    rw [List.zip_cons_cons] at h
    rcases List.mem_cons.mp h with e | h
    · cases e
      exact r
    · exact Reps.zip q h
theorem reps_of_each {S : Hp} {T : V → PyData → Prop} (hT : ∀ v d, T v d → Rep K S v d) : ∀ {vs : List V} {ds : List PyData}, EachIs T vs ds → Reps K S vs ds
  | _, _, .nil => .nil
  | _, _, .cons h t => .cons (hT _ _ h) (reps_of_each hT t)
/-- sorted(x), x a list of data that are alike: a new list -/
structure SortOk (ds : List PyData) : Prop where
  a : AllAlike ds
  k : Sortable ds
  d : ∀ d ∈ ds, d.depth ≤ 60
  l : PyData.canLayAll0 ds = true
noncomputable def dnSorted (de : DE) : DA := fun δ R => de δ fun x => match x with
  | .list ds => SortOk ds ∧ R (sortD ds)
  | _ => False
theorem sim_nSorted (h1 : SimE K ib b te de) : SimN K ib b (tCB (rSortedD K) (tCons te tNil)) (dnSorted de) := by
  intro H0 S H σ δ R Q o e h k
  refine h1 H0 S H σ δ _ _ o e h fun S1 H1 v d g r q => ?_
  split at q
  · rename_i ds
    obtain ⟨a, xs, rfl, hx, qx⟩ := r.lstV
    refine ⟨a, xs, ds, rfl, SqL.of (g.ok.sub _ _ hx), ?_, q.1.a, q.1.k, q.1.d, fun ys p hy hp => ?_⟩
    · exact Reps.dp (qx.mono g.ok.sub) q.1.l
    · exact k S1 _ p ys (sortD ds) (g.trans o (Go.laidOwn g.ok hp)) upd_same (reps_of_each (fun v d hm => qx.zip hm) hy) (Ex.none_of g.ok.sub hp) (g.fresh o hp) q.2
  · exact q.elim
end
end DL

/-! The truth of values; extend by a tuple; an own list told for good; defs handed over as values. -/
namespace DL
open PySem PySem.Spec PyProof.Rows L2
open Evl (Ex ex_l ex_t)
variable [TheW]
section
variable {X : Cx}
def rExtendT (K : PySem.W.Frag) : V → List V → Hp → VK → Prop := fun x vs H Q => ∃ l b xs zs, x = .ref l ∧ vs = [.ref b] ∧ H l = some (.lst xs) ∧ SqT K H b zs ∧ xs.length + zs.length ≤ sizeLine ∧ Q .non (upd H l (.lst (xs ++ zs)))
theorem mt_extendT : MtM X "list.extend" (rExtendT X.K) := by
  intro pins s σ H x vs v us Q I rx rv h
  obtain ⟨l, b, xs, zs, rfl, rfl, hH, hB, hz, q⟩ := h
  cases rx
  obtain ⟨u, rfl, ru⟩ := rv.one
  cases ru
  obtain ⟨z, its, n, r, hl, e⟩ := I.lstM hH
  obtain ⟨its2, r2, pl, hz2⟩ := I.tuple hB
  obtain ⟨⟨cls, dd, data, sl⟩, ho, hc, n2, hd⟩ := id pl
  simp only at hc hd
  subst hc hd
  have l2 := r2.length
  have hsz : its.toArray.size + its2.toArray.size ≤ sizeLine := by rw [List.size_toArray, List.size_toArray]; omega
  have hlong : ¬ (!its.toArray.isEmpty && Builtin.List.listTooLong (its.toArray.size + its2.toArray.size)) = true := by
    rw [notLongL hsz, Bool.and_false]
    exact Bool.false_ne_true
  refine call_meets F.slot_list_extend ⟨_, e, rfl⟩ F.entry_list_extend (F.args_list_extend_2 _ _)
    (list_extend_tuple l its.toArray n b its2.toArray n2 dd sl hlong (by rw [List.size_toArray]; omega) (by omega)) ⟨e, ho, ?_⟩
  refine ⟨.non, _, I.lset (its' := its ++ its2) hH e (by simp) (r.append r2) ?_, rfl, q⟩
  rw [List.length_append]
  omega
def tTr (K : PySem.W.Frag) (te : TE) : TT := fun σ H Q => te σ H fun x H' => ∃ k, TruV K x H' k ∧ Q k H'
/-- a local name that holds the def f, called -/
def tCallX (i : Nat) (f : Addr) (sp : Sp) (t : TA) : TE := fun σ H Q => σ[i]? = some (some (.ref f)) ∧ t σ H fun vs H1 => sp vs H1 Q E0
theorem pe_cx {i k : Nat} {f : Addr} {fd : FuncData} {ps : List Str} {sp : Sp} {x : Str} {p pos : Pos} {e : Expr} {es : List Expr} {t : TA} (F : FnG X.prog X.w X.K X.mg X.base L2.CX0 k f fd ps sp) (hr : RoomG k X.A)
    (hk : PySem.W.keepIn X.K (.ref f) = true) (hb : Binds X.K fd ps []) (hN : X.N[i]? = some x) (hv : Vis X.env.scope x) (ha : PA X (e :: es) t)
    (hd : (x == ("__debug__" : Str)) = false := by decide) (hcd : (x == ("__classdict__" : Str)) = false := by decide)
    (he : starEach (e :: es) X.env = (false, eval e X.env) :: starEach es X.env := by rfl) (hpl : (backTo pos (starEach es X.env)).any (·.1) = false := by rfl) :
    PE X (.Call (.Name x p) (e :: es) [] pos) (tCallX i f sp t) := by
  refine ⟨fun pins s σ H Q I h => ?_⟩
  obtain ⟨hs, ht⟩ := h
  refine wpAny_Call_Name_kw (thn ((pe_var (pos := p) hN hv hd hcd).run pins s σ H (fun v H1 => v = .ref f ∧ H1 = H) I ⟨.ref f, hs, rfl, rfl⟩) fun u s1 ⟨v, H1, I1, r1, q1⟩ => ?_)
  obtain ⟨rfl, rfl⟩ := q1
  cases r1
  refine PySem.W.callWith_K (h₀ := X.base) I.ok.mod.kin hk (thn (ha.run pos pins s1 σ _ _ I1 ht) fun us s2 ⟨vs, H2, I2, r, q⟩ => ⟨I2.kIn, ?_⟩) he hpl
  exact run_g F hr hb .nil pass0 I2 r (by rw [List.append_nil]; exact q)
end
section
variable {K : PySem.W.Frag} {ib : Option Nat} {b : Bg} {te ta tb : TE} {de da db : DE} {tt : TT} {dt : DT} {t : TA} {d dn : DA} {ts tu : TS} {ds du : DS}
def truD : PyData → Option Bool
  | .none => some false
  | .bool c => some c
  | .int i => some (i != 0)
  | .str x => if small x.length = true then some ((x.length : Int) != 0) else none
  | .list xs => some (!xs.isEmpty)
  | .tuple xs => some (!xs.isEmpty)
  | .dict _ => none
def dTr (de : DE) : DT := fun δ R => de δ fun d => match truD d with
  | some c => R c
  | none => False
theorem Reps.isEmpty {S : Hp} {vs : List V} {ds : List PyData} (r : Reps K S vs ds) : (!ds.isEmpty) = !vs.isEmpty := by
  cases r <;> rfl
theorem sim_tr (h1 : SimE K ib b te de) : SimT K ib b (tTr K te) (dTr de) := by
  intro H0 S H σ δ R Q o e h k
  refine h1 H0 S H σ δ _ _ o e h fun S1 H1 v dv g r q => ?_
  cases r with
  | non => exact ⟨false, rfl, k S1 H1 _ g q⟩
  | bl c => exact ⟨c, rfl, k S1 H1 _ g q⟩
  | int i => exact ⟨_, rfl, k S1 H1 _ g q⟩
  | str x =>
    unfold truD at q
    dsimp only at q
    by_cases c : small x.length = true
    · rw [if_pos c] at q
      exact ⟨_, ⟨small_ok c, rfl⟩, k S1 H1 _ g q⟩
    · rw [if_neg c] at q
      exact q.elim
  | lst hq rs => exact ⟨_, .inl ⟨_, SqL.of (g.ok.sub _ _ hq), rs.isEmpty⟩, k S1 H1 _ g q⟩
  | tup hq rs => exact ⟨_, .inr (.inl ⟨_, ex_t g.ok.sub hq, rs.isEmpty⟩), k S1 H1 _ g q⟩
  | dK _ _ => exact q.elim
  | dN _ _ _ _ _ _ => exact q.elim
  | dF _ _ _ => exact q.elim
def dExtendT (i : Nat) (de : DE) : DS := fun DD δ => match δ[i]? with
  | some (some (.own ds)) => de δ fun y => match y with
    | .tuple es => small (ds.length + es.length) = true ∧ DD.nx (δ.set i (some (.own (ds ++ es))))
    | _ => False
  | _ => False
theorem sim_extendT {i : Nat} (hi : ib ≠ some i) (h1 : SimE K ib b te de) : SimS K ib b (tDrop (tBM K "list" (rExtendT K) (tVar i) (tCons te tNil))) (dExtendT i de) := by
  intro S0 H0 Sm S H σ δ D DD o em g0 e h x
  unfold dExtendT at h
  split at h
  · rename_i ds q0
    obtain ⟨p, xs, hσ, hp, hr, hS, h0, hb, hu⟩ := e.own i ds q0
    refine ⟨_, hσ, .inl ⟨rfl, xs, .inl (.inl hp)⟩, ?_⟩
    refine h1 H0 S H σ δ _ _ g0.ok e h fun S1 H1 v dv g1 r q => ?_
    have hp1 := g1.keep p _ hb hp
    have hS1 := g1.new p (by rw [hp]; exact Option.some_ne_none _) hS
    split at q
    · rename_i es
      obtain ⟨c, ys, rfl, hc, qy⟩ := r.tupV
      refine ⟨p, c, xs, ys, rfl, rfl, hp1, ex_t g1.ok.sub hc, by rw [hr.length, qy.length]; exact small_ok q.1, ?_⟩
      obtain ⟨ga, ea⟩ := setOwn_go (ys := xs ++ ys) hi o (g0.trans o g1) (e.go g1) q0 hσ hp1 hS1 h0 hb hu ((hr.mono g1.st).append qy)
      exact x.nx S1 _ _ _ ga (em.trans g1.st) ea q.2
    · exact q.elim
  · exact h.elim
/-- from here on the own list of a name is data -/
def dFreeze (i : Nat) (ds : DS) : DS := fun DD δ => match δ[i]? with
  | some (some (.own es)) => ds DD (δ.set i (some (.dat (.list es))))
  | _ => False
theorem sim_freeze {i : Nat} (h1 : SimS K ib b ts ds) : SimS K ib b ts (dFreeze i ds) := by
  intro S0 H0 Sm S H σ δ D DD o em g e h x
  unfold dFreeze at h
  split at h
  · rename_i es q0
    obtain ⟨p, xs, hσ, hp, hr, hS, h0, hb, hu⟩ := e.own i es q0
    obtain ⟨o1, e1⟩ := borrow_ok g.ok e q0 hσ hp hr hS hb hu
    refine h1 S0 H0 Sm _ H σ _ D DD o (em.trans (Ex.new hS)) ⟨g.st.trans (Ex.new hS), g.keep, fun a h1 h2 => ?_, o1⟩ e1 h x
    have : a ≠ p := fun z => h1 (z ▸ h0)
    rw [upd_ne this]
    exact g.new a h1 h2
  · exact h.elim
/-- a list times an int -/
def dRep : PyData → PyData → (PyData → Prop) → Prop := fun x y R => match x, y with
  | .list xs, .int k => (0 ≤ k ∧ k < 2 ^ 63) ∧ small (xs.length * k.toNat) = true ∧ R (.list (List.replicate k.toNat xs).flatten)
  | _, _ => False
theorem Reps.rep {S : Hp} {vs : List V} {ds : List PyData} (r : Reps K S vs ds) : ∀ n : Nat, Reps K S (List.replicate n vs).flatten (List.replicate n ds).flatten
  | 0 => .nil
  | n + 1 => by
    rw [List.replicate_succ, List.replicate_succ, List.flatten_cons, List.flatten_cons]
    exact r.append (Reps.rep r n)
theorem simr_rep : SimR2 K ib b rRep dRep := by
  intro S H x y dx dy R Q o rx ry h k
  unfold dRep at h
  split at h
  · rename_i xs' n
    obtain ⟨a, xs, rfl, hx, qx⟩ := rx.lstV
    rw [ry.intV]
    obtain ⟨⟨h1, h2⟩, h3, h4⟩ := h
    refine ⟨a, _, xs, rfl, rfl, o.sub _ _ hx, by omega, h2, by rw [qx.length]; exact small_ok h3, fun p hp => ?_⟩
    have g := Go.laid (u := .lst (List.replicate n.toNat xs).flatten) o hp
    exact k _ _ _ _ g (.lst upd_same ((qx.rep _).mono g.st)) h4
  · exact h.elim
/-- a, b, c = x, y, z -/
def dPar3 (i j l : Nat) (da : DA) : DS := fun DD δ => da δ fun vs => match vs with
  | [x, y, z] => DD.nx (((δ.set i (some (.dat x))).set j (some (.dat y))).set l (some (.dat z)))
  | _ => False
theorem sim_par3 {i j l : Nat} (hi : ib ≠ some i) (hj : ib ≠ some j) (hl : ib ≠ some l) (h1 : SimA K ib b t d) : SimS K ib b (tPar3 i j l t) (dPar3 i j l d) := by
  intro S0 H0 Sm S H σ δ D DD o em g0 e h x
  refine h1 H0 S H σ δ _ _ g0.ok e h fun S1 H1 vs ds g1 r q => ?_
  match vs, ds, r with
  | [v, w, u], [dv, dw, du], .cons r1 (.cons r2 (.cons r3 .nil)) =>
    exact ⟨v, w, u, rfl, x.nx S1 H1 _ _ (g0.trans o g1) (em.trans g1.st) ((((e.go g1).set hi r1).set hj r2).set hl r3) q⟩
  | [], [], _ => exact q.elim
  | [_], [_], _ => exact q.elim
  | [_, _], [_, _], _ => exact q.elim
  | _ :: _ :: _ :: _ :: _, _ :: _ :: _ :: _ :: _, _ => exact q.elim
/-! defs as values -/
def dCallX (i : Nat) (f : Addr) (pre : List PyData → Prop) (post : List PyData → PyData → Prop) (d : DA) : DE := fun δ R => δ[i]? = some (some (.fn f)) ∧ d δ fun ds => pre ds ∧ ∀ r, post ds r → R r
theorem sim_callX {i : Nat} {f : Addr} {pre : List PyData → Prop} {post : List PyData → PyData → Prop} (h1 : SimA K ib b t d) : SimE K ib b (tCallX i f (spP K pre post) t) (dCallX i f pre post d) := by
  intro H0 S H σ δ R Q o e h k
  refine ⟨e.fn i f h.1, ?_⟩
  refine h1 H0 S H σ δ _ _ o e h.2 fun S1 H1 vs ds g r q => ?_
  refine ⟨S1, b, ds, g.ok.pure, r, q.1, fun S2 H2 v d g2 r2 q2 => ?_⟩
  exact k S2 H2 v d (g.trans o (Go.ofPure g.ok g2)) r2 (q.2 d q2)
/-- the last argument is the def f -/
def spF (K : PySem.W.Frag) (f : Addr) (pre : List PyData → Prop) (post : List PyData → PyData → Prop) : Sp := fun vs H Q E => ∃ ws, vs = ws ++ [.ref f] ∧ spP K pre post ws H Q E
theorem sim_callF1 {f : Addr} {pre : List PyData → Prop} {post : List PyData → PyData → Prop} {E : XK} (h1 : SimE K ib b te de) :
    SimE K ib b (tCall (spF K f pre post) [] E (tCons te (tCons (tC (.ref f)) tNil))) (dCall pre post (dCons de dNil)) := by
  intro H0 S H σ δ R Q o e h k
  refine h1 H0 S H σ δ _ _ o e h fun S1 H1 v dv g r q => ?_
  refine ⟨[v], rfl, S1, b, [dv], g.ok.pure, .cons r .nil, q.1, fun S2 H2 v d g2 r2 q2 => ?_⟩
  exact k S2 H2 v d (g.trans o (Go.ofPure g.ok g2)) r2 (q.2 d q2)
def dCallV (i : Nat) (f : Addr) (pre : List PyData → Prop) (post : List PyData → PyData → Prop) (d : DA) : DE := fun δ R => δ[i]? = some (some (.fn f)) ∧ dCall pre post d δ R
theorem sim_callV1 {i : Nat} {f : Addr} {pre : List PyData → Prop} {post : List PyData → PyData → Prop} {E : XK} (h1 : SimE K ib b te de) :
    SimE K ib b (tCall (spF K f pre post) [] E (tCons te (tCons (tVar i) tNil))) (dCallV i f pre post (dCons de dNil)) := by
  intro H0 S H σ δ R Q o e h k
  refine h1 H0 S H σ δ _ _ o e h.2 fun S1 H1 v dv g r q => ?_
  refine ⟨.ref f, e.fn i f h.1, ?_⟩
  refine ⟨[v], rfl, S1, b, [dv], g.ok.pure, .cons r .nil, q.1, fun S2 H2 v d g2 r2 q2 => ?_⟩
  exact k S2 H2 v d (g.trans o (Go.ofPure g.ok g2)) r2 (q.2 d q2)
theorem len_F {f : Addr} {pre : List PyData → Prop} {post : List PyData → PyData → Prop} {n : Nat} (h : ∀ ds, pre ds → ds.length = n) : ∀ vs H Q E, spF K f pre post vs H Q E → vs.length = n + 1 := by
  rintro vs H Q E ⟨ws, rfl, q⟩
  obtain ⟨S, b, ds, o, r, p, k⟩ := q
  rw [List.length_append, r.length, h ds p]
  rfl
theorem never_F {f : Addr} {pre : List PyData → Prop} {post : List PyData → PyData → Prop} (h : ∀ ds, ¬ pre ds) : ∀ vs H Q E, ¬ spF K f pre post vs H Q E := by
  rintro vs H Q E ⟨ws, rfl, S, b, ds, o, r, p, k⟩
  exact h ds p
theorem env_startF {N : List Str} {S H H0 : Hp} {ws : List V} {ds : List PyData} {f : Addr} (r : Reps K S ws ds) :
    EnvOk K none b H0 S H (L2.start N (ws ++ [.ref f])) (startD N.length ((ds.map fun d => some (.dat d)) ++ [some (.fn f)])) := by
  have cut : ∀ {i : Nat} {x : DV}, ((ds.map fun d => some (DV.dat d)) ++ [some (DV.fn f)])[i]? = some (some x) → (∃ d, ds[i]? = some d ∧ x = .dat d) ∨ (i = ds.length ∧ x = .fn f) := by
    intro i x h
    by_cases hi : i < ds.length
    · rw [List.getElem?_append_left (by rw [List.length_map]; exact hi), List.getElem?_map] at h
      cases e : ds[i]? with
      | none => rw [e] at h; cases h
      | some d => rw [e] at h; cases h; exact .inl ⟨d, rfl, rfl⟩
    · rw [List.getElem?_append_right (by rw [List.length_map]; omega), List.length_map] at h
      by_cases h0 : i - ds.length = 0
      · rw [h0] at h
        cases h
        exact .inr ⟨by omega, rfl⟩
      · rw [List.getElem?_eq_none (by rw [List.length_singleton]; omega)] at h
        cases h
  refine ⟨?_, fun i z => by (cases z), fun i d h => ?_, fun i es h => ?_, fun i a h => ?_, fun i c h => ?_⟩
  · unfold L2.start startD
    simp only [List.length_append, List.length_map, List.length_replicate, List.length_cons, List.length_nil, r.length]
  · rcases cut (startD_get h) with ⟨d', hd, e⟩ | ⟨_, e⟩
    · cases e
      obtain ⟨v, hv, rv⟩ := r.get hd
      have hl : i < ws.length := (List.getElem?_eq_some_iff.mp hv).1
      exact ⟨v, start_get (by rw [List.getElem?_append_left hl]; exact hv), rv⟩
    · cases e
  · rcases cut (startD_get h) with ⟨d', hd, e⟩ | ⟨_, e⟩ <;> cases e
  · rcases cut (startD_get h) with ⟨d', hd, e⟩ | ⟨hi, e⟩
    · cases e
    · cases e
      refine start_get ?_
      rw [hi, ← r.length, List.getElem?_append_right (Nat.le_refl _), Nat.sub_self]
      rfl
  · rcases cut (startD_get h) with ⟨d', hd, e⟩ | ⟨_, e⟩ <;> cases e
theorem body_F {f : Addr} {ts : TS} {dst : DS} {pre : List PyData → Prop} {post : List PyData → PyData → Prop} {N : List Str} (sim : ∀ b, SimS K none b ts dst)
    (h : ∀ ds, pre ds → dst { nx := fun _ => post ds .none, rt := post ds } (startD N.length ((ds.map fun d => some (.dat d)) ++ [some (.fn f)])))
    {vs : List V} {H : Hp} {Q : VK} {E : XK} (q : spF K f pre post vs H Q E) : ts { nx := fun _ H' => Q .non H', rt := Q } (L2.start N vs) H := by
  obtain ⟨ws, rfl, S, b, ds, o, r, hp, k⟩ := q
  refine sim b S H S S H _ _ _ _ o (Ex.refl S) (Go.refl o) (env_startF r) (h ds hp) ⟨?_, ?_, ?_, ?_, ?_⟩
  · intro S' H' σ' δ' g _ _ z
    exact k S' H' .non .none g .non z
  · intro S' H' v d g _ rv z
    exact k S' H' v d g rv z
  · intro S' H' σ' δ' g _ _ z
    exact z
  · intro S' H' σ' δ' g _ _ z
    exact z
  · intro S' H' p xs es g _ _ _ _ _ z
    exact z.elim
end
end DL

/-! Such dicts: a value put in, their keys in order. -/
namespace DL
open PySem PySem.Spec PyProof.Rows L2
open Evl (Ex ex_l ex_t)
variable [TheW]
open PySem.W (EachIs AllAlike Sortable SortsAt sortVals sortLe keyToks dataKind)
def NHas (w : World) (H : Hp) (a : Addr) (xs : List NRow) : Prop := H a = some (HN w a xs) ∨ (xs = [] ∧ H a = some (.dK [])) ∨ ∃ o, H a = some (HP w a xs o)
theorem length_storedH (xs : List NRow) (k : NestedKey) (b : Addr) (u : Value) : (storedH xs k b u).length ≤ xs.length + 1 := by
  unfold storedH
  split
  · rw [List.length_map]; omega
  · rw [List.length_append]; exact Nat.le_refl _
section
variable {X : Cx} {pins : List (Addr × Obj)} {σ : L2.St} {H : Hp} {s : Shared} {a b : Addr} {xs : List NRow} {k : NestedKey}
theorem nhas_at (I : Inv X pins σ H s) (h : NHas X.w H a xs) : NAt X.w a xs s.heap := by
  rcases h with h | ⟨rfl, h⟩ | ⟨ob, h⟩
  · exact (show ObjOk X.prog X.w H s.heap a (HN X.w a xs) from I.hok a _ h).1
  · exact NAt.empty (I.hok a _ h)
  · exact (show ObjOk X.prog X.w H s.heap a (HP X.w a xs ob) from I.hok a _ h).1.1
theorem NHas.mut {w : World} (h : NHas w H a xs) : Mut (H a) := by
  rcases h with h | ⟨_, h⟩ | ⟨_, h⟩
  · rw [h]; exact True.intro
  · rw [h]; exact True.intro
  · rw [h]; exact True.intro
theorem n_setItem {A : Around} {E : Value → Shared → Prop} {Q : Unit → Shared → Prop} {u : Value} (hu : A.units + 16 < cLine) (I : Inv X pins σ H s) (h : NHas X.w H a xs) (hr : ∀ r ∈ xs, KeyV X.K H r.2.1 r.1) (hk : KeyV X.K H b k)
    (hz : xs.length < sizeLine) (hq : ∀ s', Inv X pins σ (upd H a (HN X.w a (storedH xs k b u))) s' → Q () s') : wpAny (model X.prog X.w) A (setItem (.ref a) (.ref b) u) Q E s := by
  have n := nhas_at I h
  have rows : RowsOk X.w s.heap xs := fun r hr' => keyV_at I (hr r hr')
  have dd := n.ofH (P := X.prog) rows
  refine wpAny_setItem_heap (knd := nestedKind X.prog X.w) (hsz := n.2.2.2) ?_ (keyV_at I hk) dd fun h' dd' hs => hq _ ?_
  · show A.units + 1 + 8 < cLine
    omega
  · have hl := length_storedH xs k b u
    have n' : NAt X.w a (storedH xs k b u) h' := NAt.to n.1 (by omega) dd'
    obtain ⟨o, es, ep, ho, _⟩ := dd'
    exact d_write I h.mut hs ⟨o, ho⟩ n'.obj
def sNPut (K : PySem.W.Frag) (w : World) (td ty tv : TE) : TS := fun D σ H => tv σ H fun v H1 => td σ H1 fun x H2 => ty σ H2 fun y H3 => ∃ a b xs k, x = .ref a ∧ y = .ref b ∧ NHas w H3 a xs ∧ (∀ r ∈ xs, KeyV K H3 r.2.1 r.1) ∧ KeyV K H3 b k ∧ xs.length < sizeLine ∧
  ∀ u, RelV v u → D.nx σ (upd H3 a (HN w a (storedH xs k b u)))
theorem ps_nput {o i value : Expr} {td ty tv : TE} {pos pos' : Pos} (hu : X.A.units + 16 < cLine) (ho : PE X o td) (hi : PE X i ty) (hv : PE X value tv) (hs : swapsWith value (some (.Subscript o i pos')) pos.line X.env = pure false) :
    PS X (.Assign [.Subscript o i pos'] value pos) (sNPut X.K X.w td ty tv) := by
  refine ⟨fun pins s σ H D I h => ?_⟩
  refine wpAny_Assign_Subscript (thn (hv.run pins s σ H _ I h) fun r s1 ⟨v, H1, I1, rv, q1⟩ => thn (ho.run pins s1 σ H1 _ I1 q1) fun u s2 ⟨x, H2, I2, rx, q2⟩ => thn (hi.run pins s2 σ H2 _ I2 q2) fun iv s3 ⟨y, H3, I3, ry, a, b, xs, k, ex, ey, g1, g2, g3, g4, q3⟩ => ?_) hs
  subst ex ey
  obtain rfl : u = Value.ref a := rx
  obtain rfl : iv = Value.ref b := ry
  exact n_setItem hu I3 g1 g2 g3 g4 fun s4 I4 => ⟨σ, _, I4, q3 r rv⟩
/-- sorted(d): its keys in order -/
def rSortedN (K : PySem.W.Frag) (w : World) : List V → Hp → VK → Prop := fun vs H Q => ∃ (a : Addr) (xs : List NRow) (ds : List PyData) (T : V → PyData → Prop), vs = [.ref a] ∧ NHas w H a xs ∧ (∀ v d, T v d → Rep K H v d) ∧ EachIs (fun r d => T (.ref r) d) (xs.map (·.2.1)) ds ∧ AllAlike ds ∧ Sortable ds ∧ (∀ d ∈ ds, d.depth ≤ 50) ∧
  ∀ (ys : List V) (p : Addr), EachIs T ys (sortD ds) → H p = none → Q (.ref p) (upd H p (.lst ys))
theorem each_get {α : Type} {R : α → PyData → Prop} : ∀ {us : List α} {ds : List PyData}, us.length = ds.length → (∀ (j : Nat) (u : α) (d : PyData), us[j]? = some u → ds[j]? = some d → R u d) → EachIs R us ds
  | [], [], _, _ => .nil
  | u :: us, d :: ds, hl, h => .cons (h 0 u d rfl rfl) (each_get (by simpa using hl) fun j u' d' e1 e2 => h (j + 1) u' d' (by simpa using e1) (by simpa using e2))
  | [], _ :: _, hl, _ => by simp at hl
  | _ :: _, [], hl, _ => by simp at hl
theorem each_at {α : Type} {R : α → PyData → Prop} : ∀ {us : List α} {ds : List PyData}, EachIs R us ds → ∀ (j : Nat) (u : α) (d : PyData), us[j]? = some u → ds[j]? = some d → R u d
  | _, _, .nil, j, u, d, e, _ => by simp at e
  | _, _, .cons h t, 0, u, d, e1, e2 => by
    simp at e1 e2
    subst e1 e2
    exact h
  | _, _, .cons h t, j + 1, u, d, e1, e2 => each_at t j u d (by simpa using e1) (by simpa using e2)
theorem cr_sortedN (hcalm : X.calm = true) (hu : X.A.units + 64 < cLine) : CallR X (.builtin "sorted") (rSortedN X.K X.w) := by
  intro pins s σ H vs us Q I r h
  obtain ⟨a, xs, ds, T, rfl, hh, hT, he, hal, hk, hdep, q⟩ := h
  obtain ⟨u, rfl, ru⟩ := vals1 r
  obtain rfl : u = Value.ref a := ru
  obtain ⟨n1, ⟨es, ep, n2, n3⟩, n4, n5⟩ := nhas_at I hh
  have hes : es.size = xs.length := by
    have := congrArg List.length n3
    rw [List.length_map] at this
    simpa using this
  refine Calls.call_function_entry PyProof.Rows.kind_sorted PyProof.Rows.plain_sorted PyProof.Rows.entry_sorted (PyProof.Rows.args_sorted1 _) ?_
  unfold Builtin.«sorted»
  refine wpAny_bind (m := checkCount "sorted" 1 1 _) (wpAny_pure ?_)
  refine wpAny_bind (PySem.W.kdu_collect (A := X.A.in1) (PySem.KdlSrc.rawDict (es := es) (ep := ep) n1) (I.ok.hd hcalm) n2 (by rw [hes]; exact n5) fun h' tk acc hkp hacc => ?_)
  have eacc : acc.toList = xs.map fun x => Value.ref x.2.1 := by
    apply List.ext_getElem?
    intro j
    by_cases hj : j < es.size
    · have hja : j < acc.size := by rw [hacc.1]; exact hj
      obtain ⟨hi, e⟩ := hacc.2 j acc[j] (Array.getElem?_eq_getElem hja)
      have e2 : es.toList[j]? = (xs.map (rowE X.w))[j]? := by rw [n3]
      rw [Array.getElem?_toList, Array.getElem?_eq_getElem hi, List.getElem?_map] at e2
      have hjx : j < xs.length := by rw [← hes]; exact hj
      rw [List.getElem?_eq_getElem hjx, Option.map_some] at e2
      have e3 := Option.some.inj e2
      rw [Array.getElem?_toList, Array.getElem?_eq_getElem hja, e, e3, List.getElem?_map, List.getElem?_eq_getElem hjx]
      rfl
    · rw [Array.getElem?_toList, Array.getElem?_eq_none (by rw [hacc.1]; omega), List.getElem?_map, List.getElem?_eq_none (by rw [← hes]; omega)]
      rfl
  have hlen : acc.toList.length ≤ sizeLine := by rw [eacc, List.length_map]; exact n5
  have I1 : Inv X pins σ H { s with heap := h', toks := tk } := I.kept hkp
  have e0 : EachIs (fun u d => ∃ x, RelV x u ∧ T x d) acc.toList ds := by
    rw [eacc]
    have hl := he.length
    rw [List.length_map] at hl
    refine each_get (by rw [List.length_map]; exact hl) fun j u d e1 e2 => ?_
    rw [List.getElem?_map] at e1
    obtain ⟨x, hx, rfl⟩ := Option.map_eq_some_iff.mp e1
    exact ⟨.ref x.2.1, rfl, each_at he j _ d (by rw [List.getElem?_map, hx]; rfl) e2⟩
  refine wpAny_bind (wpAny_newList ?_ hlen)
  have hoL : (h'.push (seqObj "list" acc.toList.toArray 0)).get? h'.objs.size = some (seqObj "list" acc.toList.toArray 0) := Heap.get?_push_size _ rfl
  have eR : EachIs (fun v d => ∃ as, Reads (PySem.W.sortingHeap (h'.push (seqObj "list" acc.toList.toArray 0)) h'.objs.size acc.toList) v d as) acc.toList ds := e0.mono fun v d ⟨x, rx, r⟩ => by
    obtain ⟨as, rr⟩ := ((hT _ _ r).rd I1 rx).reads
    exact ⟨as, Reads.keeps (fun b o e => PySem.W.sortingHeap_old (Nat.ne_of_lt (Heap.lt_size e)) (Heap.get?_push_of_some _ e)) rr⟩
  show wpAny _ _ _ _ _ { s with heap := h'.push (seqObj "list" acc.toList.toArray 0), toks := tk }
  refine wpAny_bind (wpAny_holding (wpAny_call_entry PyProof.Rows.slot_list_sort ⟨_, hoL, rfl⟩ PyProof.Rows.entry_list_sort
    (PySem.W.list_sort_vals (s := { s with heap := h'.push (seqObj "list" acc.toList.toArray 0), toks := tk }) hoL (SortsAt.data eR hal hk fun d hm => ?_) hlen ⟨_, rfl, ?_⟩)
    (PyProof.Rows.args_list_sort _)))
  · have := hdep d hm
    show X.A.units + 1 + 1 + d.depth < cLine
    omega
  · have hkey : EachIs (fun v d => (dataKind (PySem.W.sortingHeap (h'.push (seqObj "list" acc.toList.toArray 0)) h'.objs.size acc.toList) ds).keyOf v = some (keyToks d)) acc.toList ds :=
      (PySem.W.each_mem eR).mono fun v d ⟨⟨as, h⟩, hm⟩ => PySem.W.dataKind_some hal hm h
    have e2 := PySem.W.sortVals_each (κ := dataKind (PySem.W.sortingHeap (h'.push (seqObj "list" acc.toList.toArray 0)) h'.objs.size acc.toList) ds) (rev := false) keyToks e0 hkey
    obtain ⟨ys, ry, ey⟩ := back_pairs e2
    obtain ⟨ep', he'⟩ := PyProof.Rows.sortedHeap_at (vs := acc.toList) (out := (sortVals (dataKind (PySem.W.sortingHeap (h'.push (seqObj "list" acc.toList.toArray 0)) h'.objs.size acc.toList) ds) false acc.toList acc.toList).toArray) hoL
    refine wpAny_pure ⟨_, rfl, .ref h'.objs.size, upd H h'.objs.size (.lst ys), I1.laid (t' := tk) (fun b u e => ?_) (Nat.le_refl _) (show ObjOk X.prog X.w _ _ _ (.lst ys) from ⟨?_, _, ep', ry, he'⟩), rfl, q ys _ ey (I1.hok.fresh (Nat.le_refl _))⟩
    · have hb : b < h'.objs.size := Heap.lt_size e
      rw [PyProof.Rows.sortedHeap_old (Nat.ne_of_lt hb) (by rw [size_push']; exact Nat.lt_succ_of_lt hb)]
      exact Heap.get?_push_of_some _ e
    · have l1 := ey.length
      unfold sortD at l1
      rw [List.length_mergeSort, ← e0.length] at l1
      omega
end
end DL

/-! Dicts of one's own over data: made, asked, changed, in order. -/
namespace DL
open PySem PySem.Spec PyProof.Rows L2
open Evl (Ex ex_l ex_t)
variable [TheW]
open PySem.W (EachIs AllAlike Sortable SortsAt sortVals sortLe keyToks dataKind)
section
variable {K : PySem.W.Frag} {ib : Option Nat} {b : Bg} {te ta tb : TE} {de da db : DE} {tt : TT} {dt : DT} {t : TA} {d dn : DA} {ts tu : TS} {ds du : DS} {H0 S H S1 H1 : Hp} {σ : L2.St} {δ : DEnv}
/-- a name is given a dict of its own -/
theorem EnvOk.setDct (e : EnvOk K ib b H0 S H σ δ) {i : Nat} {p : Addr} {o : HO} {c : Cont} (hi : ib ≠ some i) (hp : H p = some o) (r : CtOk K S p o c)
    (hS : S p = none) (h0 : H0 p = none) (hb : ib ≠ none → p ≠ b.1) (hu : ∀ (j : Nat) (c' : Cont), j ≠ i → δ[j]? = some (some (DV.dct c')) → σ[j]? ≠ some (some (V.ref p))) :
    EnvOk K ib b H0 S H (σ.set i (some (V.ref p))) (δ.set i (some (DV.dct c))) := by
  have look : ∀ (j : Nat) (x : DV), j ≠ i → (δ.set i (some (DV.dct c)))[j]? = some (some x) → δ[j]? = some (some x) := by
    intro j x hj q
    rw [List.getElem?_set_ne (Ne.symm hj)] at q
    exact q
  have lookσ : ∀ (j : Nat), j ≠ i → (σ.set i (some (V.ref p)))[j]? = σ[j]? := fun j hj => List.getElem?_set_ne (Ne.symm hj)
  have inb : ∀ {j : Nat} {x : DV}, (δ.set i (some (DV.dct c)))[j]? = some (some x) → j < δ.length := by
    intro j x q
    obtain ⟨w, _⟩ := List.getElem?_eq_some_iff.mp q
    rw [List.length_set] at w
    exact w
  have self : ∀ {j : Nat} {x : DV}, (δ.set i (some (DV.dct c)))[j]? = some (some x) → (∀ c', x ≠ .dct c') → j ≠ i ∧ δ[j]? = some (some x) := by
    intro j x q hx
    by_cases hj : j = i
    · subst hj
      rw [List.getElem?_set_self (inb q)] at q
      cases q
      exact absurd rfl (hx c)
    · exact ⟨hj, look j _ hj q⟩
  refine ⟨by rw [List.length_set, List.length_set]; exact e.len, fun j hj => ?_, fun j x q => ?_, fun j es q => ?_, fun j a q => ?_, fun j c' q => ?_⟩
  · rw [lookσ j (fun z => hi (z ▸ hj))]
    exact e.slot j hj
  · obtain ⟨hj, q⟩ := self q (by intro c' z; cases z)
    obtain ⟨u, h1, h2⟩ := e.dat j x q
    exact ⟨u, (lookσ j hj).trans h1, h2⟩
  · obtain ⟨hj, q⟩ := self q (by intro c' z; cases z)
    obtain ⟨p', xs', h1, h2, h3, h4, h5, h6, h7⟩ := e.own j es q
    refine ⟨p', xs', (lookσ j hj).trans h1, h2, h3, h4, h5, h6, fun m fs a1 a2 => ?_⟩
    obtain ⟨hm, a1⟩ := self a1 (by intro c' z; cases z)
    exact h7 m fs a1 ((lookσ m hm).symm.trans a2)
  · obtain ⟨hj, q⟩ := self q (by intro c' z; cases z)
    exact (lookσ j hj).trans (e.fn j a q)
  · by_cases hj : j = i
    · subst hj
      have hlt := inb q
      rw [List.getElem?_set_self hlt] at q
      cases q
      refine ⟨p, o, by rw [List.getElem?_set_self (by rw [e.len]; exact hlt)], hp, r, hS, h0, hb, fun m c' a1 a2 => ?_⟩
      by_cases hm : m = j
      · exact hm
      · exact absurd ((lookσ m hm).symm.trans a2) (hu m c' hm (look m _ hm a1))
    · obtain ⟨p', o', h1, h2, h3, h4, h5, h6, h7⟩ := e.dct j c' (look j _ hj q)
      refine ⟨p', o', (lookσ j hj).trans h1, h2, h3, h4, h5, h6, fun m c2 a1 a2 => ?_⟩
      by_cases hm : m = i
      · subst hm
        rw [List.getElem?_set_self (by rw [e.len]; exact inb a1)] at a2
        have : p = p' := V.ref.inj (Option.some.inj (Option.some.inj a2))
        subst this
        exact absurd h1 (hu j c' hj (look j _ hj q))
      · exact h7 m c2 (look m _ hm a1) ((lookσ m hm).symm.trans a2)
/-- such a dict is changed -/
theorem dct_go {S0 : Hp} {i : Nat} {c c2 : Cont} {p : Addr} {o o2 : HO} (o0 : Okk ib b S0 H0) (g0 : Go ib b S0 H0 S H) (e : EnvOk K ib b H0 S H σ δ)
    (q0 : δ[i]? = some (some (DV.dct c))) (hσ : σ[i]? = some (some (V.ref p))) (hp : H p = some o) (hc : CtOk K S p o c) (hS : S p = none) (h0 : H0 p = none) (hb : ib ≠ none → p ≠ b.1)
    (hu : ∀ (j : Nat) (c' : Cont), δ[j]? = some (some (DV.dct c')) → σ[j]? = some (some (V.ref p)) → j = i) (r : CtOk K S p o2 c2) :
    Go ib b S0 H0 S (upd H p o2) ∧ EnvOk K ib b H0 S (upd H p o2) σ (δ.set i (some (.dct c2))) := by
  have kp : ∀ a u, a ≠ p → H a = some u → upd H p o2 a = some u := fun a u n q => by rw [upd_ne n]; exact q
  have sub2 : Ex S (upd H p o2) := fun a u q => kp a u (ne_of_none q hS) (g0.ok.sub a u q)
  have bag2 : ib ≠ none → Bag b (upd H p o2) := fun z => (g0.ok.bag z).kept fun a u c q => kp a u (by
    rcases c with c | c
    · rw [c]; exact fun w => hb z w.symm
    · rw [c]; exact fun w => absurd h0 (w ▸ (o0.bag z).tr2)) q
  refine ⟨⟨g0.st, fun a u c q => kp a u (ne_of_none q h0) (g0.keep a u c q), g0.new, ⟨sub2, g0.ok.off, bag2⟩⟩, ?_⟩
  have hlt : i < δ.length := (List.getElem?_eq_some_iff.mp q0).1
  have at_ : ∀ (j : Nat) (x : DV), j ≠ i → (δ.set i (some (DV.dct c2)))[j]? = some (some x) → δ[j]? = some (some x) := by
    intro j x hj q
    rw [List.getElem?_set_ne (Ne.symm hj)] at q
    exact q
  have self : ∀ {j : Nat} {x : DV}, (δ.set i (some (DV.dct c2)))[j]? = some (some x) → (∀ c', x ≠ .dct c') → δ[j]? = some (some x) := by
    intro j x q hx
    by_cases hj : j = i
    · subst hj
      rw [List.getElem?_set_self hlt] at q
      cases q
      exact absurd rfl (hx c2)
    · exact at_ j _ hj q
  have uniq : ∀ (m : Nat) (c' : Cont), (δ.set i (some (DV.dct c2)))[m]? = some (some (DV.dct c')) → ∃ c3, δ[m]? = some (some (DV.dct c3)) := by
    intro m c' a
    by_cases hm : m = i
    · exact ⟨c, by rw [hm]; exact q0⟩
    · exact ⟨c', at_ m _ hm a⟩
  refine ⟨by rw [List.length_set]; exact e.len, e.slot, fun j x q => e.dat j x (self q (by intro c' z; cases z)), fun j fs q => ?_, fun j a q => e.fn j a (self q (by intro c' z; cases z)), fun j c' q => ?_⟩
  · obtain ⟨p', xs', h1, h2, h3, h4, h5, h6, h7⟩ := e.own j fs (self q (by intro c' z; cases z))
    have np : p' ≠ p := by
      intro w
      subst w
      rw [hp] at h2
      cases h2
      exact hc.noLst
    exact ⟨p', xs', h1, kp _ _ np h2, h3, h4, h5, h6, fun m gs a1 a2 => h7 m gs (self a1 (by intro c' z; cases z)) a2⟩
  · by_cases hj : j = i
    · subst hj
      rw [List.getElem?_set_self hlt] at q
      cases q
      refine ⟨p, o2, hσ, upd_same, r, hS, h0, hb, fun m c3 a1 a2 => ?_⟩
      obtain ⟨c4, a1⟩ := uniq m c3 a1
      exact hu m c4 a1 a2
    · obtain ⟨p', o', h1, h2, h3, h4, h5, h6, h7⟩ := e.dct j c' (at_ j _ hj q)
      have np : p' ≠ p := fun w => hj (hu j c' (at_ j _ hj q) (w ▸ h1))
      refine ⟨p', o', h1, kp _ _ np h2, h3, h4, h5, h6, fun m c3 a1 a2 => ?_⟩
      obtain ⟨c4, a1⟩ := uniq m c3 a1
      exact h7 m c4 a1 a2
/-- x = {}, by texts -/
def dAsgD (i : Nat) : DS := fun DD δ => DD.nx (δ.set i (some (.dct (.dk []))))
theorem sim_asgD {i : Nat} (hi : ib ≠ some i) : SimS K ib b (tAsg tDNewK (gName i)) (dAsgD i) := by
  intro S0 H0 Sm S H σ δ D DD o em g0 e h x p hp
  have g1 : Go ib b S H S (upd H p (.dK [])) := Go.laidOwn g0.ok hp
  have g02 := g0.trans o g1
  have h0 : H0 p = none := g0.fresh o hp
  refine x.nx S _ _ _ g02 em ((e.go g1).setDct hi upd_same (c := .dk []) (show CtOk K S p (.dK []) (.dk []) from ⟨[], rfl, .nil⟩) (Ex.none_of g0.ok.sub hp) h0 (fun z w => ?_) (fun j c' hj a1 a2 => ?_)) h
  · exact (g0.ok.bag z).tr (w ▸ hp)
  · obtain ⟨p', o', b1, b2, _⟩ := e.dct j c' a1
    rw [b1] at a2
    have : p' = p := V.ref.inj (Option.some.inj (Option.some.inj a2))
    rw [this, hp] at b2
    cases b2
/-- x = {}, by tuples in one another -/
def tDNewN (w : World) : TE := fun _ H Q => ∀ p, H p = none → Q (.ref p) (upd H p (HN w p []))
def dAsgDN (w : World) (i : Nat) : DS := fun DD δ => DD.nx (δ.set i (some (.dct (.dn w []))))
theorem sim_asgDN {w : World} {i : Nat} (hi : ib ≠ some i) : SimS K ib b (tAsg (tDNewN w) (gName i)) (dAsgDN w i) := by
  intro S0 H0 Sm S H σ δ D DD o em g0 e h x p hp
  have g1 : Go ib b S H S (upd H p (HN w p [])) := Go.laidOwn g0.ok hp
  have g02 := g0.trans o g1
  have h0 : H0 p = none := g0.fresh o hp
  refine x.nx S _ _ _ g02 em ((e.go g1).setDct hi upd_same (c := .dn w []) (show CtOk K S p (HN w p []) (.dn w []) from ⟨[], rfl, .nil⟩) (Ex.none_of g0.ok.sub hp) h0 (fun z w => ?_) (fun j c' hj a1 a2 => ?_)) h
  · exact (g0.ok.bag z).tr (w ▸ hp)
  · obtain ⟨p', o', b1, b2, _⟩ := e.dct j c' a1
    rw [b1] at a2
    have : p' = p := V.ref.inj (Option.some.inj (Option.some.inj a2))
    rw [this, hp] at b2
    cases b2
end
theorem pe_dnewN {X : Cx} {pos : Pos} : PE X (.Dict [] [] pos) (tDNewN X.w) := ⟨fun pins s σ H Q I h =>
  wpAny_Dict_empty ⟨.ref s.heap.objs.size, _, I.laid (a := s.heap.objs.size) (o := HN X.w s.heap.objs.size []) (t' := s.toks) (fun _ _ q => Heap.get?_push_of_some _ q) (Nat.le_refl _) (nat_empty s.heap I.big).obj, rfl, h _ (I.hok.fresh (Nat.le_refl _))⟩⟩
end DL

/-! Dicts of one's own: asked, put in, their keys in order. -/
namespace DL
open PySem PySem.Spec PyProof.Rows L2
open Evl (Ex ex_l ex_t)
variable [TheW]
open PySem.W (EachIs AllAlike Sortable SortsAt sortVals sortLe keyToks dataKind)
def getKs (kvs : List (Str × PyData)) (x : Str) : Option PyData := (kvs.find? fun p => decide (p.1 = x)).map (·.2)
def putKs (kvs : List (Str × PyData)) (x : Str) (d : PyData) : List (Str × PyData) := if (kvs.any fun p => decide (p.1 = x)) = true then kvs.map fun p => if p.1 = x then (p.1, d) else p else kvs ++ [(x, d)]
def putN (kvs : List (PyData × PyData)) (k v : PyData) : List (PyData × PyData) := if (kvs.any fun p => decide (nk p.1 = nk k)) = true then kvs.map fun p => if nk p.1 = nk k then (p.1, v) else p else kvs ++ [(k, v)]
section
variable {K : PySem.W.Frag} {S : Hp}
theorem txt_any {x : Str} : ∀ {vs : List (Key × V)} {kvs : List (Str × PyData)}, Paired (TxtR K S) vs kvs → (vs.any fun kv => decide (kv.1 = .inr x)) = kvs.any fun p => decide (p.1 = x)
  | _, _, .nil => rfl
  | _, _, .cons (a := v) (b := q) h t => by
    rw [List.any_cons, List.any_cons, txt_any t, h.1]
    congr 1
    rw [decide_eq_decide]
    exact ⟨fun z => Sum.inr.inj z, fun z => by rw [z]⟩
theorem txt_val {x : Str} : ∀ {vs : List (Key × V)} {kvs : List (Str × PyData)}, Paired (TxtR K S) vs kvs → ∀ {d : PyData}, getKs kvs x = some d → ∃ v, valV vs (.inr x) = some v ∧ Rep K S v d
  | _, _, .nil, d, e => by cases e
  | _, _, .cons (a := v) (b := q) h t, d, e => by
    by_cases c : q.1 = x
    · unfold getKs at e
      rw [List.find?_cons_of_pos (by simp [c])] at e
      cases e
      exact ⟨v.2, valV_pos (by rw [h.1, c]), h.2⟩
    · unfold getKs at e
      rw [List.find?_cons_of_neg (by simp [c])] at e
      obtain ⟨u, e1, e2⟩ := txt_val t e
      exact ⟨u, by rw [valV_neg (by rw [h.1]; exact fun z => c (Sum.inr.inj z))]; exact e1, e2⟩
theorem txt_some {x : Str} {vs : List (Key × V)} {kvs : List (Str × PyData)} (h : Paired (TxtR K S) vs kvs) : (valV vs (.inr x)).isSome = kvs.any fun p => decide (p.1 = x) := by
  rw [← valV_any, txt_any h]
theorem txt_map {x : Str} {v : V} {d : PyData} (r : Rep K S v d) : ∀ {vs : List (Key × V)} {kvs : List (Str × PyData)}, Paired (TxtR K S) vs kvs →
    Paired (TxtR K S) (vs.map fun kv => if kv.1 = .inr x then (kv.1, v) else kv) (kvs.map fun p => if p.1 = x then (p.1, d) else p)
  | _, _, .nil => .nil
  | _, _, .cons (b := q) h t => by
    refine .cons ?_ (txt_map r t)
    dsimp only
    by_cases c : q.1 = x
    · rw [if_pos c, if_pos (by rw [h.1, c])]
      exact ⟨h.1, r⟩
    · rw [if_neg c, if_neg (by rw [h.1]; exact fun z => c (Sum.inr.inj z))]
      exact h
theorem txt_put {x : Str} {v : V} {d : PyData} {vs : List (Key × V)} {kvs : List (Str × PyData)} (h : Paired (TxtR K S) vs kvs) (r : Rep K S v d) : Paired (TxtR K S) (putK vs (.inr x) v) (putKs kvs x d) := by
  unfold putK putKs
  rw [txt_any h]
  split
  · exact txt_map r h
  · exact Paired.snoc h ⟨rfl, r⟩
theorem row_any {k : NestedKey} {e : PyData} (he : nk e = some k) : ∀ {xs : List NRow} {kvs : List (PyData × PyData)}, Paired (RowR K S) xs kvs → (xs.any fun x => decide (x.1 = k)) = kvs.any fun p => decide (nk p.1 = nk e)
  | _, _, .nil => rfl
  | _, _, .cons (a := v) (b := q) h t => by
    rw [List.any_cons, List.any_cons, row_any he t, h.1.2.1, he]
    congr 1
    rw [decide_eq_decide]
    exact ⟨fun z => by rw [z], fun z => Option.some.inj z⟩
theorem atKey_any {xs : List NRow} {k : NestedKey} : (atKey xs k).isSome = xs.any fun x => decide (x.1 = k) := by
  unfold atKey
  rw [Option.isSome_map]
  induction xs with
  | nil => rfl
  | cons x r ih =>
    rw [List.any_cons]
    by_cases c : x.1 = k
    · rw [List.find?_cons_of_pos (by simp [c])]
      simp [c]
    · rw [List.find?_cons_of_neg (by simp [c]), ih]
      simp [c]
theorem row_map {k : NestedKey} {e : PyData} {u : Value} {v : V} {d : PyData} (he : nk e = some k) (rd : Rep K S v d) (ru : RelV v u) : ∀ {xs : List NRow} {kvs : List (PyData × PyData)}, Paired (RowR K S) xs kvs →
    Paired (RowR K S) (xs.map (putAt k u)) (kvs.map fun p => if nk p.1 = nk e then (p.1, d) else p)
  | _, _, .nil => .nil
  | _, _, .cons (a := a) (b := q) h t => by
    refine .cons ?_ (row_map he rd ru t)
    unfold putAt
    dsimp only
    by_cases c : a.1 = k
    · rw [if_pos c, if_pos (by rw [h.1.2.1, he, c])]
      exact ⟨h.1, v, rd, ru⟩
    · rw [if_neg c, if_neg (by rw [h.1.2.1, he]; exact fun z => c (Option.some.inj z))]
      exact h
theorem row_keys {H : Hp} (ex : Ex S H) : ∀ {xs : List NRow} {kvs : List (PyData × PyData)}, Paired (RowR K S) xs kvs → ∀ r ∈ xs, KeyV K H r.2.1 r.1
  | _, _, .nil, r, hr => by cases hr
  | _, _, .cons h t, r, hr => by
    rcases List.mem_cons.mp hr with rfl | hr
    · exact ⟨_, h.1.1.mono ex, h.1.2.1, h.1.2.2⟩
    · exact row_keys ex t r hr
theorem row_put {k : NestedKey} {e : PyData} {c : Addr} {u : Value} {v : V} {d : PyData} (he : nk e = some k) (h8 : k.depth ≤ 8) (re : Rep K S (.ref c) e) (rd : Rep K S v d) (ru : RelV v u) {xs : List NRow} {kvs : List (PyData × PyData)} (h : Paired (RowR K S) xs kvs) :
    Paired (RowR K S) (storedH xs k c u) (putN kvs e d) := by
  unfold storedH putN
  rw [atKey_any, row_any he h]
  split
  · exact row_map he rd ru h
  · exact Paired.snoc h ⟨⟨re, he, h8⟩, v, rd, ru⟩
end
section
variable {K : PySem.W.Frag} {ib : Option Nat} {b : Bg} {te ta tb tk tv : TE} {de da db dk dv : DE} {t : TA} {d dn : DA}
/-- x[k] = v, x by tuples -/
def dPutN (w : World) (i : Nat) (dk dv : DE) : DS := fun DD δ => dv δ fun v => match δ[i]? with
  | some (some (.dct (.dn w' kvs))) => w' = w ∧ dk δ fun k => (∃ e ds, nk k = some e ∧ e.depth ≤ 8 ∧ k = .tuple ds) ∧ small (kvs.length + 1) = true ∧ DD.nx (δ.set i (some (.dct (.dn w (putN kvs k v)))))
  | _ => False
theorem sim_putN {w : World} {i : Nat} (h1 : SimE K ib b tk dk) (h2 : SimE K ib b tv dv) : SimS K ib b (sNPut K w (tVar i) tk tv) (dPutN w i dk dv) := by
  intro S0 H0 Sm S H σ δ D DD o em g0 e h x
  refine h2 H0 S H σ δ _ _ g0.ok e h fun S1 H1 v dvv g1 rv q => ?_
  have e1 := e.go g1
  split at q
  · rename_i w' kvs q0
    obtain ⟨rfl, q⟩ := q
    obtain ⟨p, ob, hσ, hp, hc, hS, h0, hb, hu⟩ := e1.dct i _ q0
    refine ⟨_, hσ, ?_⟩
    refine h1 H0 S1 H1 σ δ _ _ g1.ok e1 q fun S2 H2 kv dkk g2 rk q2 => ?_
    have g12 := g1.trans g0.ok g2
    have e2 := e1.go g2
    have hp2 := g2.keep p _ hb hp
    have hS2 := g2.new p (by rw [hp]; exact Option.some_ne_none _) hS
    have hc2 := hc.mono g2.st
    obtain ⟨⟨ek, ds, hk, h8, rfl⟩, hz, q3⟩ := q2
    obtain ⟨c, xs', rfl, hcq, _⟩ := rk.tupV
    obtain ⟨xs, ho, hpr⟩ := id hc2
    have hl : xs.length = kvs.length := Paired.length hpr
    refine ⟨p, c, xs, ek, rfl, rfl, ?_, ?_, ⟨_, rk.mono g2.ok.sub, hk, h8⟩, by rw [hl]; exact small_lt hz, fun u ru => ?_⟩
    · subst ho
      exact .inl hp2
    · exact row_keys g2.ok.sub hpr
    · obtain ⟨ga, ea⟩ := dct_go (o2 := HN w' p (storedH xs ek c u)) (c2 := .dn w' (putN kvs (.tuple ds) dvv)) o (g0.trans o g12) e2 q0 hσ hp2 hc2 hS2 h0 hb hu ⟨_, rfl, row_put hk h8 rk (rv.mono g2.st) ru hpr⟩
      exact x.nx S2 _ _ _ ga (em.trans g12.st) ea q3
  · exact q.elim
/-- sorted(x), x by tuples -/
noncomputable def dnSortedN (w : World) (i : Nat) : DA := fun δ R => match δ[i]? with
  | some (some (.dct (.dn w' kvs))) => w' = w ∧ (AllAlike (kvs.map (·.1)) ∧ Sortable (kvs.map (·.1)) ∧ ∀ d ∈ kvs.map (·.1), d.depth ≤ 50) ∧ R (sortD (kvs.map (·.1)))
  | _ => False
theorem rows_each {S : Hp} : ∀ {xs : List NRow} {kvs : List (PyData × PyData)}, Paired (RowR K S) xs kvs → EachIs (fun r d => Rep K S (.ref r) d) (xs.map (·.2.1)) (kvs.map (·.1))
  | _, _, .nil => .nil
  | _, _, .cons h t => .cons h.1.1 (rows_each t)
theorem each_mem_of {α : Type} {R : α → PyData → Prop} : ∀ {us : List α} {ds : List PyData}, EachIs R us ds → ∀ u ∈ us, ∃ d ∈ ds, R u d
  | _, _, .nil, u, h => by cases h
  | _, _, .cons (b := e) h t, u, hu => by
    rcases List.mem_cons.mp hu with rfl | hu
    · exact ⟨e, List.mem_cons_self .., h⟩
    · obtain ⟨d, h1, h2⟩ := each_mem_of t u hu
      exact ⟨d, List.mem_cons_of_mem _ h1, h2⟩
theorem sim_nSortedN {w : World} {i : Nat} : SimN K ib b (tCB (rSortedN K w) (tCons (tVar i) tNil)) (dnSortedN w i) := by
  intro H0 S H σ δ R Q o e h k
  unfold dnSortedN at h
  split at h
  · rename_i w' kvs q0
    obtain ⟨rfl, ⟨h1, h2, h3⟩, q⟩ := h
    obtain ⟨p, ob, hσ, hp, ⟨xs, ho, hpr⟩, hS, h0, hb, hu⟩ := e.dct i _ q0
    refine ⟨_, hσ, p, xs, _, fun v d => Rep K S v d, rfl, ?_, fun v d r => r.mono o.sub, rows_each hpr, h1, h2, h3, fun ys p' hy hp' => ?_⟩
    · subst ho
      exact .inl hp
    · exact k S _ p' ys _ (Go.laidOwn o hp') upd_same (reps_of_each (fun v d r => r) hy) (Ex.none_of o.sub hp') hp' q
  · exact h.elim
/-! by texts -/
/-- k in x, k not in x -/
def dInK (neg : Bool) (i : Nat) (dk : DE) : DE := fun δ R => dk δ fun k => match k, δ[i]? with
  | .str x, some (some (.dct (.dk kvs))) => R (.bool (if neg then !(kvs.any fun p => decide (p.1 = x)) else kvs.any fun p => decide (p.1 = x)))
  | _, _ => False
theorem sim_inK {i : Nat} (h1 : SimE K ib b tk dk) : SimE K ib b (tDIn tk (tVar i)) (dInK false i dk) := by
  intro H0 S H σ δ R Q o e h k
  refine h1 H0 S H σ δ _ _ o e h fun S1 H1 v d g r q => ?_
  split at q
  · rename_i x kvs q0
    obtain ⟨p, ob, hσ, hp, ⟨vs, rfl, hpr⟩, _⟩ := (e.go g).dct i _ q0
    refine ⟨_, hσ, p, valV vs (.inr x), rfl, by rw [r.strV]; exact DGet.k (k := .inr x) hp, ?_⟩
    rw [txt_some hpr]
    exact k S1 H1 _ _ g (.bl _) q
  · exact q.elim
theorem sim_notInK {i : Nat} (h1 : SimE K ib b tk dk) : SimE K ib b (tDNotIn tk (tVar i)) (dInK true i dk) := by
  intro H0 S H σ δ R Q o e h k
  refine h1 H0 S H σ δ _ _ o e h fun S1 H1 v d g r q => ?_
  split at q
  · rename_i x kvs q0
    obtain ⟨p, ob, hσ, hp, ⟨vs, rfl, hpr⟩, _⟩ := (e.go g).dct i _ q0
    refine ⟨_, hσ, p, valV vs (.inr x), rfl, by rw [r.strV]; exact DGet.k (k := .inr x) hp, ?_⟩
    rw [txt_some hpr]
    exact k S1 H1 _ _ g (.bl _) q
  · exact q.elim
/-- x[k] -/
def dGetK (i : Nat) (dk : DE) : DE := fun δ R => match δ[i]? with
  | some (some (.dct (.dk kvs))) => dk δ fun k => match k with
    | .str x => ∃ d, getKs kvs x = some d ∧ R d
    | _ => False
  | _ => False
theorem sim_getK {i : Nat} (h1 : SimE K ib b tk dk) : SimE K ib b (tDGet (tVar i) tk) (dGetK i dk) := by
  intro H0 S H σ δ R Q o e h k
  unfold dGetK at h
  split at h
  · rename_i kvs q0
    obtain ⟨p, ob, hσ, hp, ⟨vs, rfl, hpr⟩, hS, h0, hb, hu⟩ := e.dct i _ q0
    refine ⟨_, hσ, ?_⟩
    refine h1 H0 S H σ δ _ _ o e h fun S1 H1 v d g r q => ?_
    split at q
    · rename_i x
      obtain ⟨d, hd, q⟩ := q
      obtain ⟨u, hu1, hu2⟩ := txt_val hpr hd
      have hp1 := g.keep p _ hb hp
      refine ⟨p, u, rfl, ?_, k S1 H1 _ _ g (hu2.mono g.st) q⟩
      rw [r.strV, ← hu1]
      exact DGet.k (k := .inr x) hp1
    · exact q.elim
  · exact h.elim
/-- x[k] = v -/
def dPutK (i : Nat) (dk dv : DE) : DS := fun DD δ => dv δ fun v => match δ[i]? with
  | some (some (.dct (.dk kvs))) => dk δ fun k => match k with
    | .str x => small (kvs.length + 1) = true ∧ DD.nx (δ.set i (some (.dct (.dk (putKs kvs x v)))))
    | _ => False
  | _ => False
theorem sim_putK {i : Nat} (h1 : SimE K ib b tk dk) (h2 : SimE K ib b tv dv) : SimS K ib b (sDPut (tVar i) tk tv) (dPutK i dk dv) := by
  intro S0 H0 Sm S H σ δ D DD o em g0 e h x
  refine h2 H0 S H σ δ _ _ g0.ok e h fun S1 H1 v dvv g1 rv q => ?_
  have e1 := e.go g1
  split at q
  · rename_i kvs q0
    obtain ⟨p, ob, hσ, hp, hc, hS, h0, hb, hu⟩ := e1.dct i _ q0
    refine ⟨_, hσ, ?_⟩
    refine h1 H0 S1 H1 σ δ _ _ g1.ok e1 q fun S2 H2 kv dkk g2 rk q2 => ?_
    have g12 := g1.trans g0.ok g2
    have e2 := e1.go g2
    have hp2 := g2.keep p _ hb hp
    have hS2 := g2.new p (by rw [hp]; exact Option.some_ne_none _) hS
    have hc2 := hc.mono g2.st
    split at q2
    · rename_i y
      obtain ⟨hz, q3⟩ := q2
      obtain ⟨vs, rfl, hpr⟩ := id hc2
      have hl : vs.length = kvs.length := Paired.length hpr
      refine ⟨p, _, rfl, by rw [rk.strV]; exact DPut.k (k := .inr y) hp2 (by rw [hl]; exact small_lt hz), ?_⟩
      obtain ⟨ga, ea⟩ := dct_go (o2 := .dK (putK vs (.inr y) v)) (c2 := .dk (putKs kvs y dvv)) o (g0.trans o g12) e2 q0 hσ hp2 hc2 hS2 h0 hb hu ⟨_, rfl, txt_put hpr (rv.mono g2.st)⟩
      exact x.nx S2 _ _ _ ga (em.trans g12.st) ea q3
    · exact q2.elim
  · exact q.elim
/-- sorted(x), x by texts, fewer than 64 -/
def rSortedK : List V → Hp → VK → Prop := fun xs H Q => ∃ (a : Addr) (kvs : List (Key × V)) (ks : List Str), xs = [.ref a] ∧ Rd H a (.dK kvs) ∧ kvs.map (·.1) = ks.map Sum.inr ∧ ks.length < 64 ∧
    ∀ ys p, ys.Perm ks → sortedS ys = true → H p = none → Q (.ref p) (upd H p (.lst (ys.map V.str)))
theorem cr_sortedK {X : Cx} (hcalm : X.calm = true) : CallR X (.builtin "sorted") rSortedK := call_sortedD hcalm
def dnSortedK (i : Nat) : DA := fun δ R => match δ[i]? with
  | some (some (.dct (.dk kvs))) => kvs.length < 64 ∧ ∀ ys : List Str, ys.Perm (kvs.map (·.1)) → sortedS ys = true → R (ys.map .str)
  | _ => False
theorem txt_keys {S : Hp} : ∀ {vs : List (Key × V)} {kvs : List (Str × PyData)}, Paired (TxtR K S) vs kvs → vs.map (·.1) = (kvs.map (·.1)).map Sum.inr
  | _, _, .nil => rfl
  | _, _, .cons h t => by rw [List.map_cons, List.map_cons, List.map_cons, h.1, txt_keys t]
theorem sim_nSortedK {i : Nat} : SimN K ib b (tCB rSortedK (tCons (tVar i) tNil)) (dnSortedK i) := by
  intro H0 S H σ δ R Q o e h k
  unfold dnSortedK at h
  split at h
  · rename_i kvs q0
    obtain ⟨hl, q⟩ := h
    obtain ⟨p, ob, hσ, hp, ⟨vs, rfl, hpr⟩, hS, h0, hb, hu⟩ := e.dct i _ q0
    refine ⟨_, hσ, p, vs, kvs.map (·.1), rfl, .inl hp, txt_keys hpr, by rw [List.length_map]; exact hl, fun ys p' h1 h2 hp' => ?_⟩
    exact k S _ p' _ _ (Go.laidOwn o hp') upd_same (Reps.of_strs ys) (Ex.none_of o.sub hp') hp' (q ys h1 h2)
  · exact h.elim
end
end DL

/-! list(x) as a new list; a, b = x, a new list; clear. -/
namespace DL
open PySem PySem.Spec PyProof.Rows L2
open Evl (Ex ex_l ex_t)
variable [TheW]
theorem u1 {A : Around} (h : A.units + 64 < cLine) : A.units + 1 < cLine := by omega
theorem u16 {A : Around} (h : A.units + 64 < cLine) : A.units + 16 < cLine := by omega
section
variable {K : PySem.W.Frag} {ib : Option Nat} {b : Bg} {te ta tb tk tv : TE} {de da db dk dv : DE} {t : TA} {d dn : DA}
def dnListOf (de : DE) : DA := fun δ R => de δ fun x => match itemsOf x with
  | some xs => R xs
  | none => False
theorem sim_nListOf (h1 : SimE K ib b te de) : SimN K ib b (tCB (rListOf K) (tCons te tNil)) (dnListOf de) := by
  intro H0 S H σ δ R Q o e h k
  refine h1 H0 S H σ δ _ _ o e h fun S1 H1 v d g r q => ?_
  split at q
  · rename_i xs ei
    obtain ⟨a, vs, rfl, hq, rs⟩ := r.items ei
    refine ⟨a, vs, rfl, ?_, fun p hp => ?_⟩
    · rcases hq with hq | hq
      · exact .inl (ex_l g.ok.sub hq)
      · exact .inr (ex_t g.ok.sub hq)
    · exact k S1 _ p vs xs (g.trans o (Go.laidOwn g.ok hp)) upd_same rs (Ex.none_of g.ok.sub hp) (g.fresh o hp) q
  · exact q.elim
/-- a, b = x, a new list -/
def dParN (i j : Nat) (da : DE) (dn : DA) : DS := fun DD δ => da δ fun x => dn δ fun ys => DD.nx ((δ.set i (some (.dat x))).set j (some (.own ys)))
theorem sim_parN {i j : Nat} (hi : ib ≠ some i) (hj : ib ≠ some j) (hij : i ≠ j) (h1 : SimE K ib b ta da) (h2 : SimN K ib b tb dn) : SimS K ib b (tPar i j (tCons ta (tCons tb tNil))) (dParN i j da dn) := by
  intro S0 H0 Sm S H σ δ D DD o em g0 e h x
  refine h1 H0 S H σ δ _ _ g0.ok e h fun S1 H1 v dv g1 r q => ?_
  have e1 := e.go g1
  refine h2 H0 S1 H1 σ δ _ _ g1.ok e1 q fun S2 H2 p xs es g2 hp rs hS hn q2 => ?_
  have g12 := g1.trans g0.ok g2
  have g02 := g0.trans o g12
  refine ⟨v, .ref p, rfl, ?_⟩
  have e2 := (e1.go g2).set hi (r.mono g2.st)
  refine x.nx S2 _ _ _ g02 (em.trans g12.st) (e2.setOwn hj hp rs hS (g0.fresh o (g1.fresh g0.ok hn)) (fun z w => ?_) (fun m fs hm a1 a2 => ?_)) q2
  · exact (g1.ok.bag z).tr (w ▸ hn)
  · by_cases hmi : m = i
    · subst hmi
      have hlt : m < δ.length := by
        obtain ⟨w, _⟩ := List.getElem?_eq_some_iff.mp a1
        rwa [List.length_set] at w
      rw [List.getElem?_set_self hlt] at a1
      cases a1
    · rw [List.getElem?_set_ne (Ne.symm hmi)] at a1 a2
      obtain ⟨p', xs', b1, b2, _⟩ := e1.own m fs a1
      rw [b1] at a2
      have : p' = p := V.ref.inj (Option.some.inj (Option.some.inj a2))
      rw [this, hn] at b2
      cases b2
/-- x.clear() -/
def dClear (i : Nat) : DS := fun DD δ => match δ[i]? with
  | some (some (.own _)) => DD.nx (δ.set i (some (.own [])))
  | _ => False
theorem sim_clear {i : Nat} (hi : ib ≠ some i) : SimS K ib b (tDrop (tBM0 K "list" rClear (tVar i))) (dClear i) := by
  intro S0 H0 Sm S H σ δ D DD o em g0 e h x
  unfold dClear at h
  split at h
  · rename_i ds q0
    obtain ⟨p, xs, hσ, hp, hr, hS, h0, hb, hu⟩ := e.own i ds q0
    obtain ⟨ga, ea⟩ := setOwn_go (ys := []) hi o g0 e q0 hσ hp hS h0 hb hu Reps.nil
    exact ⟨_, hσ, .inl ⟨rfl, xs, .inl (.inl hp)⟩, p, xs, rfl, rfl, hp, x.nx S _ _ _ ga em ea h⟩
  · exact h.elim
end
end DL

/-! Dicts by flat tuples as data: x.get(key, z). -/
namespace DL
open PySem PySem.Spec PyProof.Rows L2
open Evl (Ex ex_l ex_t)
variable [TheW]
section
variable {X : Cx} {pins : List (Addr × Obj)} {σ : L2.St} {H : Hp} {s : Shared} {a b : Addr} {xs : List NRow} {k : NestedKey} {d : V} {r : Value} {A : Around} {E : Value → Shared → Prop}
/-- a dict by tuples in one another that stands -/
def HasN (K : PySem.W.Frag) (H : Hp) (a : Addr) (xs : List NRow) : Prop := NHas TheW.w H a xs ∧ ∀ r ∈ xs, KeyV K H r.2.1 r.1
theorem hasN_at (hw : TheW.w = X.w) (I : Inv X pins σ H s) (h : HasN X.K H a xs) : (a == sysModules) = false ∧ s.heap.DictOfH (nestedKind X.prog X.w) a xs := by
  have n : NAt X.w a xs s.heap := nhas_at I (hw ▸ h.1)
  exact ⟨n.1, n.ofH (P := X.prog) fun r hr => keyV_at I (h.2 r hr)⟩
def ValN (xs : List NRow) (k : NestedKey) (z v : V) : Prop := match (atKey xs k).map (·.2) with
  | some u => RelV v u
  | none => v = z
theorem g_get2N {Q : Value → Shared → Prop} {z : V} (hw : TheW.w = X.w) (hu : A.units + 16 < cLine) (I : Inv X pins σ H s) (g : HasN X.K H a xs) (hk : KeyV X.K H b k) (rd : RelV z r) (hv : ValN xs k z d) (h : ∀ w' s', Inv X pins σ H s' → RelV d w' → Q w' s') :
    wpAny (model X.prog X.w) A (call (.builtin "dict.get") [.ref a, .ref b, r]) Q E s := by
  obtain ⟨hd, dd⟩ := hasN_at hw I g
  refine call_meetsIn PySem.F.slot_dict_get dd.typeIs PySem.F.entry_dict_get (PySem.F.args_dict_get_3 _ _ _) (meetsH_dict_get_default (nestedKind X.prog X.w) a b hd r) ⟨?_, k, xs, keyV_at I hk, dd, h _ _ (I.tok _) ?_⟩
  · show A.units + 1 + 8 < cLine
    omega
  · unfold ValN at hv
    cases e : (atKey xs k).map (·.2) with
    | some u => rw [e] at hv; exact hv
    | none => rw [e] at hv; rw [hv]; exact rd
theorem g_idxN {Q : Value → Shared → Prop} {u : Value} (hw : TheW.w = X.w) (hu : A.units + 16 < cLine) (I : Inv X pins σ H s) (g : HasN X.K H a xs) (hk : KeyV X.K H b k) (e : (atKey xs k).map (·.2) = some u) (hv : RelV d u) (h : ∀ w' s', Inv X pins σ H s' → RelV d w' → Q w' s') :
    wpAny (model X.prog X.w) A (getItem (.ref a) (.ref b)) Q E s := by
  obtain ⟨hd, dd⟩ := hasN_at hw I g
  obtain ⟨p, hp, hp2⟩ := Option.map_eq_some_iff.mp e
  refine wpAny_getItem_heap (knd := nestedKind X.prog X.w) ?_ (keyV_at I hk) dd hp ?_
  · show A.units + 1 + 8 < cLine
    omega
  · rw [hp2]
    exact h u _ (I.tok _) hv
theorem isDN_at (hw : TheW.w = X.w) (I : Inv X pins σ H s) (d : HasN X.K H a xs) :
    s.TypeIs (.ref a) "dict" ∧ (∀ b, Value.ref a = .ref b → ∃ ob, s.heap.get? b = some ob ∧ ob.dict = none) ∧ (a == sysModules) = false := by
  obtain ⟨n1, ⟨es, ep, ⟨o, ho, hx, hd⟩, n3⟩, n4, n5⟩ : NAt X.w a xs s.heap := nhas_at I (hw ▸ d.1)
  refine ⟨⟨o, ho, hx.1⟩, fun b q => ?_, n1⟩
  cases q
  exact ⟨o, ho, hx.2.1⟩
end
/-- x.get(y, z), x by tuples in one another -/
def tGet2 (K : PySem.W.Frag) (td ty tx : TE) : TE := fun σ H Q => td σ H fun x H1 => ∃ a, x = .ref a ∧ (∃ xs, HasN K H1 a xs) ∧ ty σ H1 fun y H2 => tx σ H2 fun z H3 =>
  ∃ xs k b v, y = .ref b ∧ KeyV K H3 b k ∧ HasN K H3 a xs ∧ ValN xs k z v ∧ Q v H3
theorem pe_get2 {X : Cx} {o e f : Expr} {apos cpos : Pos} {td ty tx : TE} (hw : TheW.w = X.w) (hu : X.A.units + 16 < cLine) (ho : PE X o td) (he : PE X e ty) (hf : PE X f tx) (m : M2 X o "get" apos e f cpos) :
    PE X (.Call (.Attribute o "get" apos) [e, f] [] cpos) (tGet2 X.K td ty tx) := by
  refine ⟨fun pins s σ H Q I h => ?_⟩
  refine wpAny_Call_method m.base m.few m.line PySem.F.plainAttrs_dict PySem.F.slot_dict_get PySem.F.type_dict_get (thn (ho.run pins s σ H _ I h) fun u s1 ⟨x, H1, I1, rx, a, ex, ⟨xs0, d⟩, q1⟩ => ?_)
  subst ex
  obtain rfl : u = Value.ref a := rx
  obtain ⟨t1, t2, _⟩ := isDN_at hw I1 d
  refine ⟨t1, t2, ?_⟩
  rw [m.trees]
  refine Calls.callWith_builtin rfl (Calls.evalArgs_plain (Calls.spliced_cons (thn (he.run pins s1 σ H1 _ I1 q1) fun iv s2 ⟨y, H2, I2, ry, q2⟩ =>
    Calls.spliced_cons (thn (hf.run pins s2 σ H2 _ I2 q2) fun fv s3 ⟨z, H3, I3, rz, q3⟩ => Calls.spliced_nil ?_))))
  obtain ⟨xs, k, b, v, ey, hk, g, hv, q3⟩ := q3
  subst ey
  obtain rfl : iv = Value.ref b := ry
  exact g_get2N hw hu I3 g hk rz hv fun w' s4 I4 rw' => ⟨_, H3, I4, rw', q3⟩
/-- x[y], x by tuples in one another -/
def tIdxN (K : PySem.W.Frag) (td ty : TE) : TE := fun σ H Q => td σ H fun x H1 => ty σ H1 fun y H2 => ∃ a xs k b u v, x = .ref a ∧ y = .ref b ∧ KeyV K H2 b k ∧ HasN K H2 a xs ∧ (atKey xs k).map (·.2) = some u ∧ RelV v u ∧ Q v H2
theorem pe_idxN {X : Cx} {o i : Expr} {pos : Pos} {td ty : TE} (hw : TheW.w = X.w) (hu : X.A.units + 16 < cLine) (ho : PE X o td) (hi : PE X i ty) (hs : NoSl i) : PE X (.Subscript o i pos) (tIdxN X.K td ty) := by
  refine ⟨fun pins s σ H Q I h => ?_⟩
  refine subD_of PySem.F.slot_dict_getitem.lookup hs (thn (ho.run pins s σ H _ I h) fun w1 s1 ⟨x, H1, I1, rx, q1⟩ => thn (hi.run pins s1 σ H1 _ I1 q1) fun iv s2 ⟨y, H2, I2, ry, a, xs, k, b, u, v, ex, ey, hk, g, e, ru, q2⟩ => ?_)
  subst ex ey
  obtain rfl : w1 = Value.ref a := rx
  obtain rfl : iv = Value.ref b := ry
  exact ⟨(isDN_at hw I2 g).1, g_idxN hw hu I2 g hk e ru fun w' s3 I3 rw' => ⟨v, H2, I3, rw', q2⟩⟩
/-! over data -/
/-- no key is a text or an integer -/
def tupKeys (kvs : List (PyData × PyData)) : Bool := kvs.all fun p => match p.1 with
  | .tuple _ => true
  | _ => false
def getT (kvs : List (PyData × PyData)) (k : PyData) : Option PyData := (kvs.find? fun p => decide (nk p.1 = nk k)).map (·.2)
def dGet2 (dd dk dz : DE) : DE := fun δ R => dd δ fun x => match x with
  | .dict kvs => tupKeys kvs = true ∧ dk δ fun k => dz δ fun z => match k with
    | .tuple ds => (∃ e, nk (.tuple ds) = some e ∧ e.depth ≤ 8) ∧ R ((getT kvs (.tuple ds)).getD z)
    | _ => False
  | _ => False
def dIdxN (dd dk : DE) : DE := fun δ R => dd δ fun x => match x with
  | .dict kvs => tupKeys kvs = true ∧ dk δ fun k => match k with
    | .tuple ds => (∃ e, nk (.tuple ds) = some e ∧ e.depth ≤ 8) ∧ ∃ v, getT kvs (.tuple ds) = some v ∧ R v
    | _ => False
  | _ => False
section
variable {K : PySem.W.Frag} {ib : Option Nat} {b : Bg} {td tk tz : TE} {dd dk dz : DE}
theorem get_repN {S : Hp} {e : NestedKey} {k : PyData} (he : nk k = some e) {z : V} {dzz : PyData} (rz : Rep K S z dzz) : ∀ {xs : List NRow} {ks ds : List PyData} {vs : List V}, ks.map nk = xs.map (fun x => some x.1) → Reps K S vs ds → Vals vs (xs.map (·.2.2)) →
    ∃ v, ValN xs e z v ∧ Rep K S v ((getT (ks.zip ds) k).getD dzz)
  | [], [], _, _, _, .nil, .nil => ⟨z, rfl, rz⟩
  | _ :: _, _ :: _, [], _, _, r, tv => by
    cases r
    cases tv
  | x :: xs, q :: ks, d :: ds, v :: vs, h, .cons r t, .cons rv tv => by
    rw [List.map_cons, List.map_cons, List.cons.injEq] at h
    unfold ValN getT atKey
    rw [List.zip_cons_cons]
    by_cases c : x.1 = e
    · refine ⟨v, ?_, ?_⟩
      · rw [List.find?_cons_of_pos (by simp [c])]
        exact rv
      · rw [List.find?_cons_of_pos (by simp [h.1, he, c])]
        exact r
    · obtain ⟨v', h1, h2⟩ := get_repN he rz h.2 t tv
      unfold ValN atKey at h1
      unfold getT at h2
      refine ⟨v', ?_, ?_⟩
      · rw [List.find?_cons_of_neg (by simp [c])]
        exact h1
      · rw [List.find?_cons_of_neg (by simp [h.1, he, c])]
        exact h2
theorem get_someN {S : Hp} {e : NestedKey} {k : PyData} (he : nk k = some e) : ∀ {xs : List NRow} {ks ds : List PyData} {vs : List V} {d : PyData}, getT (ks.zip ds) k = some d → ks.map nk = xs.map (fun x => some x.1) → Reps K S vs ds → Vals vs (xs.map (·.2.2)) →
    ∃ v u, (atKey xs e).map (·.2) = some u ∧ RelV v u ∧ Rep K S v d
  | [], [], _, _, _, g, _, .nil, .nil => by cases g
  | _ :: _, _ :: _, [], _, _, g, _, r, tv => by
    cases r
    cases tv
  | x :: xs, q :: ks, d :: ds, v :: vs, d', g, h, .cons r t, .cons rv tv => by
    rw [List.map_cons, List.map_cons, List.cons.injEq] at h
    unfold getT at g
    rw [List.zip_cons_cons] at g
    unfold atKey
    by_cases c : x.1 = e
    · rw [List.find?_cons_of_pos (by simp [h.1, he, c])] at g
      cases g
      exact ⟨v, x.2.2, by rw [List.find?_cons_of_pos (by simp [c])]; rfl, rv, r⟩
    · rw [List.find?_cons_of_neg (by simp [h.1, he, c])] at g
      obtain ⟨v', u, h1, h2, h3⟩ := get_someN he g h.2 t tv
      unfold atKey at h1
      exact ⟨v', u, by rw [List.find?_cons_of_neg (by simp [c])]; exact h1, h2, h3⟩
theorem rows_keyV {S H : Hp} (ex : Ex S H) : ∀ {xs : List NRow} {ks : List PyData}, ks.map nk = xs.map (fun x => some x.1) → (∀ x ∈ xs, x.1.depth ≤ 8) → Reps K S (xs.map fun x => V.ref x.2.1) ks → ∀ r ∈ xs, KeyV K H r.2.1 r.1
  | [], _, _, _, _, r, hr => by cases hr
  | x :: xs, q :: ks, h, h8, .cons rr t, r, hr => by
    rw [List.map_cons, List.map_cons, List.cons.injEq] at h
    rcases List.mem_cons.mp hr with rfl | hr
    · exact ⟨q, rr.mono ex, h.1, h8 _ (List.mem_cons_self ..)⟩
    · exact rows_keyV ex h.2 (fun y hy => h8 y (List.mem_cons_of_mem _ hy)) t r hr
/-- a dict with tuples as keys, as it stands -/
theorem dict_cases {S : Hp} {v : V} {kvs : List (PyData × PyData)} (r : Rep K S v (.dict kvs)) (ht : tupKeys kvs = true) :
    ∃ (a : Addr) (xs : List NRow) (vs : List V) (ks ds : List PyData), v = .ref a ∧ kvs = ks.zip ds ∧ NHas TheW.w S a xs ∧ ks.map nk = xs.map (fun x => some x.1) ∧ (∀ x ∈ xs, x.1.depth ≤ 8) ∧ Reps K S (xs.map fun x => V.ref x.2.1) ks ∧ Reps K S vs ds ∧ Vals vs (xs.map (·.2.2)) := by
  cases r with
  | dK hS rr =>
    rename_i kvs2 ds
    cases kvs2 with
    | nil =>
      cases rr
      exact ⟨_, [], [], [], [], rfl, rfl, .inr (.inl ⟨rfl, hS⟩), rfl, fun x hx => (by cases hx), .nil, .nil, .nil⟩
    | cons p r =>
      cases rr with
      | cons hh tt =>
        rw [List.map_cons, List.zip_cons_cons] at ht
        unfold tupKeys at ht
        rw [List.all_cons] at ht
        obtain ⟨p1, p2⟩ := p
        cases p1 <;> simp [keyD] at ht
  | dF nn hS rr =>
    rename_i kvs2 ds od
    cases kvs2 with
    | nil => exact absurd rfl nn
    | cons p r =>
      cases rr with
      | cons hh tt =>
        rw [List.map_cons, List.zip_cons_cons] at ht
        unfold tupKeys at ht
        rw [List.all_cons] at ht
        obtain ⟨p1, p2⟩ := p
        cases p1 <;> simp [keyD] at ht
  | dN hS ek h8 q1 q2 vv => exact ⟨_, _, _, _, _, rfl, rfl, .inr (.inr ⟨_, hS⟩), ek, h8, q1, q2, vv⟩
theorem NHas.mono {S H : Hp} (ex : Ex S H) {a : Addr} {xs : List NRow} (h : NHas TheW.w S a xs) : NHas TheW.w H a xs := h.imp (ex _ _) fun z => z.imp (fun z => ⟨z.1, ex _ _ z.2⟩) fun ⟨o, z⟩ => ⟨o, ex _ _ z⟩
theorem sim_get2 (h1 : SimE K ib b td dd) (h2 : SimE K ib b tk dk) (h3 : SimE K ib b tz dz) : SimE K ib b (tGet2 K td tk tz) (dGet2 dd dk dz) := by
  intro H0 S H σ δ R Q o e h kk
  refine h1 H0 S H σ δ _ _ o e h fun S1 H1 v d g1 r1 q => ?_
  split at q
  · rename_i kvs
    obtain ⟨fl, q⟩ := q
    have e1 := e.go g1
    obtain ⟨a, xs, vs, ks, ds, rfl, hz, hS, ek, h8, q1, qv, vv⟩ := dict_cases r1 fl
    refine ⟨a, rfl, ⟨xs, hS.mono g1.ok.sub, rows_keyV g1.ok.sub ek h8 q1⟩, ?_⟩
    refine h2 H0 S1 H1 σ δ _ _ g1.ok e1 q fun S2 H2 y dkk g2 r2 q2 => ?_
    refine h3 H0 S2 H2 σ δ _ _ g2.ok (e1.go g2) q2 fun S3 H3 z dzz g3 r3 q3 => ?_
    split at q3
    · rename_i ks'
      obtain ⟨⟨k, hk, k8⟩, q3⟩ := q3
      have rk := (r2.mono g3.st).mono g3.ok.sub
      obtain ⟨c, _, rfl, _, _⟩ := rk.tupV
      have gg := (g1.trans o g2).trans o g3
      have st13 : Ex S1 S3 := fun a u q => g3.st _ _ (g2.st _ _ q)
      have st1H : Ex S1 H3 := fun a u q => g3.ok.sub _ _ (st13 _ _ q)
      obtain ⟨v, hv, rv⟩ := get_repN hk r3 ek (qv.mono st13) vv
      refine ⟨xs, k, c, v, rfl, ⟨_, rk, hk, k8⟩, ⟨hS.mono st1H, rows_keyV st1H ek h8 q1⟩, hv, ?_⟩
      refine kk S3 H3 _ _ gg ?_ q3
      rw [hz]
      exact rv
    · exact q3.elim
  · exact q.elim
theorem sim_idxN (h1 : SimE K ib b td dd) (h2 : SimE K ib b tk dk) : SimE K ib b (tIdxN K td tk) (dIdxN dd dk) := by
  intro H0 S H σ δ R Q o e h kk
  refine h1 H0 S H σ δ _ _ o e h fun S1 H1 v d g1 r1 q => ?_
  split at q
  · rename_i kvs
    obtain ⟨fl, q⟩ := q
    have e1 := e.go g1
    obtain ⟨a, xs, vs, ks, ds, rfl, hz, hS, ek, h8, q1, qv, vv⟩ := dict_cases r1 fl
    refine h2 H0 S1 H1 σ δ _ _ g1.ok e1 q fun S2 H2 y dkk g2 r2 q2 => ?_
    split at q2
    · rename_i ks'
      obtain ⟨⟨k, hk, k8⟩, dv, hg, q3⟩ := q2
      have rk := r2.mono g2.ok.sub
      obtain ⟨c, _, rfl, _, _⟩ := rk.tupV
      have gg := g1.trans o g2
      have st1H : Ex S1 H2 := fun a u q => g2.ok.sub _ _ (g2.st _ _ q)
      obtain ⟨v, u, hv, ru, rv⟩ := get_someN hk (hz ▸ hg) ek (qv.mono g2.st) vv
      exact ⟨a, xs, k, c, u, v, rfl, rfl, ⟨_, rk, hk, k8⟩, ⟨hS.mono st1H, rows_keyV st1H ek h8 q1⟩, hv, ru, kk S2 H2 _ _ gg rv q3⟩
    · exact q2.elim
  · exact q.elim
end
end DL

/-! A dict of one's own (by tuples in one another) stands still: from now on, or for a while. -/
namespace DL
open PySem PySem.Spec PyProof.Rows L2
open Evl (Ex ex_l ex_t)
variable [TheW]
def NotTup (u : HO) : Prop := (∀ xs, u ≠ .tup xs) ∧ ∀ ob xs, u ≠ .frz ob (.tup xs)
section
variable {K : PySem.W.Frag} {S : Hp} {p : Addr} {u : HO}
theorem SqT.dropU (hp : S p = some u) (hu : NotTup u) {a : Addr} {xs : List V} (h : SqT K S a xs) : SqT K (cutH S p) a xs := by
  rcases h with (h | ⟨ob, h⟩) | h
  · refine .inl (.inl ?_)
    rw [cutH_ne]
    · exact h
    · intro z
      rw [z, hp] at h
      exact hu.1 _ (Option.some.inj h)
  · refine .inl (.inr ⟨ob, ?_⟩)
    rw [cutH_ne]
    · exact h
    · intro z
      rw [z, hp] at h
      exact hu.2 _ _ (Option.some.inj h)
  · exact .inr h
mutual
theorem Rep.dropU (hp : S p = some u) (hu : NotTup u) : ∀ {v : V} {d : PyData}, Rep K S v d → tupOnly d = true → Rep K (cutH S p) v d
  | _, _, .non, _ => .non
  | _, _, .bl b, _ => .bl b
  | _, _, .int b, _ => .int b
  | _, _, .str b, _ => .str b
  | _, _, .tup h q, t => .tup (SqT.dropU hp hu h) (Reps.dropU hp hu q t)
  | _, _, .lst h q, t => absurd t Bool.false_ne_true
  | _, _, .dK h q, t => absurd t Bool.false_ne_true
  | _, _, .dN _ _ _ _ _ _, t => absurd t Bool.false_ne_true
  | _, _, .dF _ _ _, t => absurd t Bool.false_ne_true
theorem Reps.dropU (hp : S p = some u) (hu : NotTup u) : ∀ {vs : List V} {ds : List PyData}, Reps K S vs ds → tupOnlyAll ds = true → Reps K (cutH S p) vs ds
  | _, _, .nil, _ => .nil
  | _, _, .cons r q, t => by
    have t := (Bool.and_eq_true _ _ ▸ t : _ ∧ _)
    exact .cons (Rep.dropU hp hu r t.1) (Reps.dropU hp hu q t.2)
end
theorem zip_self {α β : Type} : ∀ l : List (α × β), (l.map (·.1)).zip (l.map (·.2)) = l
  | [] => rfl
  | p :: r => by
    rw [List.map_cons, List.map_cons, List.zip_cons_cons, zip_self r]
/-- such a dict as data -/
theorem rows_reps : ∀ {xs : List NRow} {kvs : List (PyData × PyData)}, Paired (RowR K S) xs kvs →
    (kvs.map (·.1)).map nk = xs.map (fun x => some x.1) ∧ (∀ x ∈ xs, x.1.depth ≤ 8) ∧ Reps K S (xs.map fun x => V.ref x.2.1) (kvs.map (·.1)) ∧ ∃ vs, Reps K S vs (kvs.map (·.2)) ∧ Vals vs (xs.map (·.2.2))
  | _, _, .nil => ⟨rfl, fun x hx => (by cases hx), .nil, [], .nil, .nil⟩
  | _, _, .cons h t => by
    obtain ⟨⟨h1, h2, h3⟩, v, h4, h5⟩ := h
    obtain ⟨i1, i2, i3, vs, i4, i5⟩ := rows_reps t
    refine ⟨?_, ?_, .cons h1 i3, v :: vs, .cons h4 i4, .cons h5 i5⟩
    · simp only [List.map_cons, h2, i1]
    · intro x hx
      rcases List.mem_cons.mp hx with rfl | hx
      · exact h3
      · exact i2 x hx
end
/-! the dict is known to its object: from now on; or for a while -/
section
variable {X : Cx} {pins : List (Addr × Obj)} {σ : L2.St} {H : Hp} {s : Shared} {d : Addr} {w : World} {xs : List NRow}
theorem pinN (I : Inv X pins σ H s) (h : H d = some (HN w d xs)) : ∃ od, Inv X pins σ (upd H d (HP w d xs od)) s := by
  have n := (show ObjOk X.prog X.w H s.heap d (HN w d xs) from I.hok d _ h).1
  obtain ⟨n1, ⟨es, ep, ⟨o, ho, hx, hd⟩, n3⟩, n4, n5⟩ := id n
  have new : ObjOk X.prog X.w (upd H d (HP w d xs o)) s.heap d (HP w d xs o) := by
    refine ⟨⟨n, ho⟩, ⟨o, ho⟩, ?_⟩
    rintro h1 h2 ⟨⟨m1, ⟨es', ep', m2, m3⟩, m4, m5⟩, e1⟩ k
    exact ⟨⟨m1, ⟨es', ep', m2.at k, m3⟩, m4, m5⟩, k _ e1⟩
  exact ⟨o, I.write (x := d) (e := d) (t' := s.toks) (h' := s.heap) (by rw [h]; exact True.intro) (.inl rfl) (fun b v _ q => q) ⟨o, ho⟩ new⟩
theorem unpinN {od : Obj} (I : Inv X pins σ H s) (h : H d = some (HP w d xs od)) : Inv X pins σ (upd H d (HN w d xs)) s := by
  obtain ⟨n, ho⟩ := (show ObjOk X.prog X.w H s.heap d (HP w d xs od) from I.hok d _ h).1
  have new : ObjOk X.prog X.w (upd H d (HN w d xs)) s.heap d (HN w d xs) := by
    refine ⟨n, ⟨od, ho⟩, ?_⟩
    rintro h1 h2 ⟨m1, ⟨es', ep', m2, m3⟩, m4, m5⟩ k
    exact ⟨m1, ⟨es', ep', m2.at k, m3⟩, m4, m5⟩
  exact I.write (x := d) (e := d) (t' := s.toks) (h' := s.heap) (by rw [h]; exact True.intro) (.inl rfl) (fun b v _ q => q) ⟨od, ho⟩ new
end
def tPin (t : TS) : TS := fun D σ H => ∃ d w xs, H d = some (HN w d xs) ∧ ∀ od, t D σ (upd H d (HP w d xs od))
def tPinE (t : TE) : TE := fun σ H Q => ∃ d w xs, H d = some (HN w d xs) ∧ ∀ od, t σ (upd H d (HP w d xs od)) fun v H' => H' d = some (HP w d xs od) ∧ Q v (upd H' d (HN w d xs))
theorem ps_pin {X : Cx} {st : Stmt} {t : TS} (h : PS X st t) : PS X st (tPin t) := by
  refine ⟨fun pins s σ H D I hw => ?_⟩
  obtain ⟨d, w, xs, hd, hw⟩ := hw
  obtain ⟨od, I1⟩ := pinN I hd
  exact h.run pins s σ _ _ I1 (hw od)
theorem pe_pin {X : Cx} {e : Expr} {t : TE} (h : PE X e t) : PE X e (tPinE t) := by
  refine ⟨fun pins s σ H Q I hw => ?_⟩
  obtain ⟨d, w, xs, hd, hw⟩ := hw
  obtain ⟨od, I1⟩ := pinN I hd
  refine thn (h.run pins s σ _ _ I1 (hw od)) fun v s1 ⟨x, H1, I2, r, e2, q⟩ => ?_
  exact ⟨x, _, unpinN I2 e2, r, q⟩
section
variable {K : PySem.W.Frag} {ib : Option Nat} {b : Bg} {te : TE} {de : DE} {dn : DA} {tt : TT} {dt : DT} {ts : TS} {ds : DS}
theorem hp_notTup {w : World} {p : Addr} {xs : List NRow} {od : Obj} : NotTup (HP w p xs od) := ⟨fun _ z => (by cases z), fun _ _ z => (by cases z)⟩
theorem pin_ok {H0 S H : Hp} {σ : L2.St} {δ : DEnv} {i : Nat} {kvs : List (PyData × PyData)} {p : Addr} {xs : List NRow} (o : Okk ib b S H) (e : EnvOk K ib b H0 S H σ δ) (q0 : δ[i]? = some (some (DV.dct (.dn TheW.w kvs))))
    (hσ : σ[i]? = some (some (V.ref p))) (hp : H p = some (HN TheW.w p xs)) (hr : Paired (RowR K S) xs kvs) (hS : S p = none) (hb : ib ≠ none → p ≠ b.1)
    (hu : ∀ (j : Nat) (c : Cont), δ[j]? = some (some (DV.dct c)) → σ[j]? = some (some (V.ref p)) → j = i) (od : Obj) :
    Okk ib b (upd S p (HP TheW.w p xs od)) (upd H p (HP TheW.w p xs od)) ∧ EnvOk K ib b H0 (upd S p (HP TheW.w p xs od)) (upd H p (HP TheW.w p xs od)) σ (δ.set i (some (.dat (.dict kvs)))) := by
  have ex : Ex S (upd S p (HP TheW.w p xs od)) := Ex.new hS
  have hlt : i < δ.length := (List.getElem?_eq_some_iff.mp q0).1
  refine ⟨⟨?_, fun z => by rw [upd_ne (Ne.symm (hb z))]; exact o.off z, fun z => ?_⟩, ?_⟩
  · intro a x q
    by_cases c : a = p
    · rw [c, upd_same] at q
      rw [c, upd_same]
      exact q
    · rw [upd_ne c] at q ⊢
      exact o.sub a x q
  · obtain ⟨r, m, k, ns, e1, ne, e2, rest⟩ := (o.bag z).ex
    have n2 : b.2 ≠ p := by
      intro w
      rw [w, hp] at e2
      cases e2
    exact ⟨r, m, k, ns, by rw [upd_ne (Ne.symm (hb z))]; exact e1, ne, by rw [upd_ne n2]; exact e2, rest⟩
  · have at_ : ∀ (j : Nat) (x : DV), j ≠ i → (δ.set i (some (DV.dat (.dict kvs))))[j]? = some (some x) → δ[j]? = some (some x) := by
      intro j x hj q
      rw [List.getElem?_set_ne (Ne.symm hj)] at q
      exact q
    have self : ∀ {j : Nat} {x : DV}, (δ.set i (some (DV.dat (.dict kvs))))[j]? = some (some x) → (∀ d, x ≠ .dat d) → j ≠ i ∧ δ[j]? = some (some x) := by
      intro j x q hx
      by_cases hj : j = i
      · subst hj
        rw [List.getElem?_set_self hlt] at q
        cases q
        exact absurd rfl (hx _)
      · exact ⟨hj, at_ j x hj q⟩
    refine ⟨by rw [List.length_set]; exact e.len, e.slot, fun j x q => ?_, fun j fs q => ?_, fun j a q => ?_, fun j c q => ?_⟩
    · by_cases hj : j = i
      · subst hj
        rw [List.getElem?_set_self hlt] at q
        cases q
        obtain ⟨i1, i2, i3, vs, i4, i5⟩ := rows_reps (Paired.mapP hr fun _ _ z => z.mono ex)
        refine ⟨_, hσ, ?_⟩
        rw [← zip_self kvs]
        exact .dN upd_same i1 i2 i3 i4 i5
      · obtain ⟨v, h1, h2⟩ := e.dat j x (at_ j _ hj q)
        exact ⟨v, h1, h2.mono ex⟩
    · obtain ⟨_, q⟩ := self q (by intro d z; cases z)
      obtain ⟨p', xs', h1, h2, h3, h4, h5, h6, h7⟩ := e.own j fs q
      have np : p' ≠ p := by
        intro w
        subst w
        rw [hp] at h2
        cases h2
      exact ⟨p', xs', h1, by rw [upd_ne np]; exact h2, h3.mono ex, by rw [upd_ne np]; exact h4, h5, h6, fun m gs a1 a2 => h7 m gs (self a1 (by intro d z; cases z)).2 a2⟩
    · exact e.fn j a (self q (by intro d z; cases z)).2
    · obtain ⟨hj, q⟩ := self q (by intro d z; cases z)
      obtain ⟨p', o', h1, h2, h3, h4, h5, h6, h7⟩ := e.dct j c q
      have np : p' ≠ p := fun w => hj (hu j c q (w ▸ h1))
      exact ⟨p', o', h1, by rw [upd_ne np]; exact h2, h3.mono ex, by rw [upd_ne np]; exact h4, h5, h6, fun m c' a1 a2 => h7 m c' (self a1 (by intro d z; cases z)).2 a2⟩
theorem pin_back {S H S2 H2 : Hp} {p : Addr} {xs : List NRow} {od : Obj} (o : Okk ib b S H) (hp : H p = some (HN TheW.w p xs)) (hS : S p = none) (hb : ib ≠ none → p ≠ b.1)
    (g : Go ib b (upd S p (HP TheW.w p xs od)) (upd H p (HP TheW.w p xs od)) S2 H2) : S2 p = some (HP TheW.w p xs od) ∧ H2 p = some (HP TheW.w p xs od) ∧ Go ib b S H (cutH S2 p) (upd H2 p (HN TheW.w p xs)) := by
  have e2 : S2 p = some (HP TheW.w p xs od) := g.st p _ upd_same
  have h2 : H2 p = some (HP TheW.w p xs od) := g.keep p _ hb upd_same
  refine ⟨e2, h2, ?_, ?_, ?_, ?_, ?_, ?_⟩
  · intro a u q
    have c : a ≠ p := ne_of_none q hS
    rw [cutH_ne c]
    exact g.st a u (by rw [upd_ne c]; exact q)
  · intro a x n q
    by_cases c : a = p
    · rw [c, hp] at q
      rw [c, upd_same]
      exact q
    · rw [upd_ne c]
      exact g.keep a x n (by rw [upd_ne c]; exact q)
  · intro a h1 h3
    by_cases c : a = p
    · rw [c]; exact cutH_same
    · rw [cutH_ne c]
      exact g.new a (by rw [upd_ne c]; exact h1) (by rw [upd_ne c]; exact h3)
  · intro a u q
    by_cases c : a = p
    · rw [c, cutH_same] at q
      cases q
    · rw [cutH_ne c] at q
      rw [upd_ne c]
      exact g.ok.sub a u q
  · intro z
    have := g.ok.off z
    rw [cutH_ne (Ne.symm (hb z))]
    exact this
  · intro z
    obtain ⟨r, m, k, ns, e1, ne, e3, rest⟩ := (g.ok.bag z).ex
    have n2 : b.2 ≠ p := by
      intro w
      rw [w, h2] at e3
      cases e3
    exact ⟨r, m, k, ns, by rw [upd_ne (Ne.symm (hb z))]; exact e1, ne, by rw [upd_ne n2]; exact e3, rest⟩
/-- from now on -/
def dFreezeD (i : Nat) (ds : DS) : DS := fun DD δ => match δ[i]? with
  | some (some (.dct (.dn w kvs))) => w = TheW.w ∧ ds DD (δ.set i (some (.dat (.dict kvs))))
  | _ => False
theorem sim_freezeD {i : Nat} (h1 : SimS K ib b ts ds) : SimS K ib b (tPin ts) (dFreezeD i ds) := by
  intro S0 H0 Sm S H σ δ D DD o em g e h x
  unfold dFreezeD at h
  split at h
  · rename_i w kvs q0
    obtain ⟨rfl, h⟩ := h
    obtain ⟨p, u, hσ, hp, ⟨xs, rfl, hr⟩, hS, h0, hb, hu⟩ := e.dct i _ q0
    refine ⟨p, _, xs, hp, fun od => ?_⟩
    obtain ⟨o1, e1⟩ := pin_ok g.ok e q0 hσ hp hr hS hb hu od
    refine h1 S0 H0 Sm _ _ σ _ D DD o (em.trans (Ex.new hS)) ⟨g.st.trans (Ex.new hS), fun a x n q => ?_, fun a h1 h2 => ?_, o1⟩ e1 h x
    · have : a ≠ p := fun z => by rw [z, h0] at q; cases q
      rw [upd_ne this]
      exact g.keep a x n q
    · have : a ≠ p := fun z => h1 (z ▸ h0)
      rw [upd_ne this]
      exact g.new a h1 h2
  · exact h.elim
/-- for a while: what comes of it is plain -/
def dBorrowD (i : Nat) (de : DE) : DE := fun δ R => match δ[i]? with
  | some (some (.dct (.dn w kvs))) => w = TheW.w ∧ de (δ.set i (some (.dat (.dict kvs)))) fun d => tupOnly d = true ∧ R d
  | _ => False
theorem sim_borrowD {i : Nat} (h1 : SimE K ib b te de) : SimE K ib b (tPinE te) (dBorrowD i de) := by
  intro H0 S H σ δ R Q o e h k
  unfold dBorrowD at h
  split at h
  · rename_i w kvs q0
    obtain ⟨rfl, h⟩ := h
    obtain ⟨p, u, hσ, hp, ⟨xs, rfl, hr⟩, hS, h0, hb, hu⟩ := e.dct i _ q0
    refine ⟨p, _, xs, hp, fun od => ?_⟩
    obtain ⟨o1, e1⟩ := pin_ok o e q0 hσ hp hr hS hb hu od
    refine h1 H0 _ _ σ _ _ _ o1 e1 h fun S2 H2 v d g r q => ?_
    obtain ⟨e2, e3, g2⟩ := pin_back o hp hS hb g
    exact ⟨e3, k _ _ v d g2 (r.dropU e2 hp_notTup q.1) q.2⟩
  · exact h.elim
end
end DL

/-! A dict by tuples in one another that is known to its object: its keys, one by one. -/
namespace DL
open PySem PySem.Spec PyProof.Rows L2
open Evl (Ex ex_l ex_t)
variable [TheW]
def ItN (w : World) (d : Addr) (o : Obj) (xs : List NRow) : It :=
  ⟨fun i H => H d = some (HP w d xs o) ∧ i < xs.length, fun i H x H' => H' = H ∧ ∃ r, xs[i]? = some r ∧ x = .ref r.2.1, fun i H => H d = some (HP w d xs o) ∧ xs.length ≤ i⟩
section
variable {X : Cx} {pins : List (Addr × Obj)} {σ : L2.St} {H : Hp} {s : Shared} {d : Addr} {o : Obj} {w : World} {xs : List NRow}
theorem hp_at (I : Inv X pins σ H s) (h : H d = some (HP w d xs o)) :
    (d == sysModules) = false ∧ s.heap.get? d = some o ∧ o.ExactDict ∧ ∃ (es : Array DictEntry) (ep : Nat), o.data = .dict es ep ∧ es.size = xs.length ∧ ∀ (i : Nat) (r : NRow), xs[i]? = some r → ∃ en : DictEntry, es[i]? = some en ∧ en.key = .ref r.2.1 := by
  obtain ⟨⟨n1, ⟨es, ep, ⟨o', ho, hx, hd⟩, n3⟩, n4, n5⟩, e⟩ := (show ObjOk X.prog X.w H s.heap d (HP w d xs o) from I.hok d _ h).1
  rw [e] at ho
  cases ho
  refine ⟨n1, e, hx, es, ep, hd, ?_, fun i r hr => ?_⟩
  · have := congrArg List.length n3
    rw [List.length_map] at this
    simpa using this
  · have q : es.toList[i]? = some (rowE w r) := by rw [n3, List.getElem?_map, hr]; rfl
    exact ⟨rowE w r, by simpa using q, rfl⟩
end
section
variable {P : Program} {w : World} {K : PySem.W.Frag} {tg : Expr} {d : Addr} {o : Obj} {es : Array DictEntry} {ep : Nat} {w0 : World}
theorem turn_keysN {xs : List NRow} (it : Addr) (hod : o.data = .dict es ep) : Turn P w K tg (ItN w0 d o xs) [it] it (fun i h => h.IsKeyIter it d i xs.length ep) where
  mem := by simp
  obj := fun i h st b hb => by
    have e : b = it := by simpa using hb
    subst e
    obtain ⟨oi, e, c, dd⟩ := st
    exact ⟨oi, e, fun v z => by rw [dd] at z; cases z⟩
  keep := fun i h h' st k => st.at fun oi e => k it (by simp) oi e
  item := by
    intro X hP hw hK hc i pins s σ H E I hf st hg
    subst hP hw hK
    obtain ⟨hd, hi⟩ := hg
    obtain ⟨f0, f1, f2, f3, f4, f5⟩ := hf it (by simp)
    obtain ⟨hs, hgd, hx, es', ep', hdt, hsz, ent⟩ := hp_at I hd
    obtain ⟨rfl, rfl⟩ := dict_ep hod hdt
    obtain ⟨r, hr⟩ : ∃ p, xs[i]? = some p := ⟨xs[i], List.getElem?_eq_getElem hi⟩
    obtain ⟨en, hen, hkey⟩ := ent i r hr
    refine next_key_item st hgd hdt hsz hen fun h' st' sb => ?_
    have I1 : Inv X pins σ H { s with heap := h' } := I.turned (t' := s.toks) (fun b ob hb e => (sb.2 b hb).trans e) f0 f1 f3 f4 f5
    obtain ⟨oi, e, c, dd⟩ := id st'
    exact ⟨en.key, rfl, go_of (s := { s with heap := h' }) e c dd (by decide) ⟨.ref r.2.1, H, I1, hkey, ⟨rfl, r, hr, rfl⟩, st', fun b hb => (hf b hb).1⟩⟩
  done := by
    intro X hP hw hK hc i pins s σ H E I hf st hg
    subst hP hw hK
    obtain ⟨hd, hi⟩ := hg
    obtain ⟨f0, f1, f2, f3, f4, f5⟩ := hf it (by simp)
    obtain ⟨hs, hgd, hx, es', ep', hdt, hsz, ent⟩ := hp_at I hd
    obtain ⟨rfl, rfl⟩ := dict_ep hod hdt
    exact next_key_end (I.ok.hd hc) st hgd hdt hsz hi fun h' eb => ⟨rfl, I.turned (t' := s.toks) (fun b ob hb e => eb b ob hb e) f0 f1 f3 f4 f5⟩
  self := fun A i s Q E st h => by
    refine wpAny_pyIter_slot st.typeIs F.slot_dict_keyiterator_iter (wpAny_call_entry F.slot_dict_keyiterator_iter st.typeIs F.entry_dict_keyiterator_iter ?_ (F.args_dict_keyiterator_iter_1 _))
    show wpAny _ _ (ret (.ref it)) _ _ s
    exact wpAny_pure ⟨_, rfl, "dict_keyiterator", _, st.typeIs, F.slot_dict_keyiterator_next.lookup, h⟩
end
/-- for k in x -/
def iKeysN (td : TE) : TI := fun σ H R => td σ H fun x H1 => ∃ d o xs, x = .ref d ∧ H1 d = some (HP TheW.w d xs o) ∧ R (ItN TheW.w d o xs) H1
theorem pi_keysN {X : Cx} {tg e : Expr} {td : TE} (he : PE X e td) : PI X tg e (iKeysN td) := by
  refine ⟨fun pins s σ H R I h => ?_⟩
  refine thn (he.run pins s σ H _ I h) fun u s1 ⟨x, H1, I1, rx, d, o, xs, ex, hd, q⟩ => ?_
  subst ex
  obtain rfl : u = Value.ref d := rx
  obtain ⟨hs, hgd, hx, es, ep, hdt, hsz, ent⟩ := hp_at I1 hd
  refine iter_keys hs hgd hx hdt (pi_one (tk := s1.toks) I1 _ (turn_keysN _ hdt) ⟨_, Heap.get?_push_size _ rfl, rfl, ?_⟩ q)
  rw [hsz] <;> rfl
/-! over data -/
def dKeysN (de : DE) : DA := fun δ R => de δ fun x => match x with
  | .dict kvs => tupKeys kvs = true ∧ kvs ≠ [] ∧ R (kvs.map (·.1))
  | _ => False
section
variable {K : PySem.W.Frag} {ib : Option Nat} {b : Bg} {te : TE} {de : DE}
theorem sim_iKeysN (h1 : SimE K ib b te de) : SimI K ib b (iKeysN te) (dKeysN de) := by
  intro H0 S H σ δ R Q o e h k
  refine h1 H0 S H σ δ _ _ o e h fun S1 H1 v dv g r q => ?_
  split at q
  · rename_i kvs
    obtain ⟨fl, ne, q⟩ := q
    cases r with
    | dK hS rr =>
      rename_i a kvs2 ds
      cases kvs2 with
      | nil => exact absurd rfl ne
      | cons p r =>
        cases rr with
        | cons hh tt =>
          rw [List.map_cons, List.zip_cons_cons] at fl
          unfold tupKeys at fl
          rw [List.all_cons] at fl
          obtain ⟨p1, p2⟩ := p
          cases p1 <;> simp [keyD] at fl
    | dF nn hS rr =>
      rename_i a kvs2 ds od
      cases kvs2 with
      | nil => exact absurd rfl nn
      | cons p r =>
        cases rr with
        | cons hh tt =>
          rw [List.map_cons, List.zip_cons_cons] at fl
          unfold tupKeys at fl
          rw [List.all_cons] at fl
          obtain ⟨p1, p2⟩ := p
          cases p1 <;> simp [keyD] at fl
    | dN hS ek h8 q1 q2 vv =>
      rename_i a xs vs ks ds od
      have l1 : ks.length = xs.length := by rw [← q1.length, List.length_map]
      have l2 : ks.length = ds.length := by rw [l1, ← q2.length, vv.length, List.length_map]
      rw [zip_fst l2] at q
      refine ⟨a, od, xs, rfl, g.ok.sub _ _ hS, k S1 H1 _ ks g (fun S2 H2 ex o2 => ?_) q⟩
      have hL : H2 a = some (HP TheW.w a xs od) := o2.sub _ _ (ex _ _ hS)
      refine ⟨fun i hi => ⟨hL, by omega⟩, ⟨hL, by omega⟩, fun i x H' hi y => ?_⟩
      obtain ⟨rfl, r, hr, rfl⟩ := y
      obtain ⟨d, hd, rd⟩ := q1.getV (i := i) (v := .ref r.2.1) (by rw [List.getElem?_map, hr]; rfl)
      exact ⟨S2, d, Go.refl o2, hd, rd.mono ex⟩
  · exact q.elim
end
end DL

/-! sorted of a dict by tuples in one another, as data. -/
namespace DL
open PySem PySem.Spec PyProof.Rows L2
open Evl (Ex ex_l ex_t)
open PySem.W (EachIs AllAlike Sortable SortsAt sortVals sortLe keyToks dataKind)
variable [TheW]
section
variable {K : PySem.W.Frag} {ib : Option Nat} {b : Bg} {te : TE} {de : DE}
theorem reps_each {S : Hp} : ∀ {xs : List NRow} {ks : List PyData}, Reps K S (xs.map fun x => V.ref x.2.1) ks → EachIs (fun r d => Rep K S (.ref r) d) (xs.map (·.2.1)) ks
  | [], _, .nil => .nil
  | _ :: _, _, .cons h t => .cons h (reps_each t)
noncomputable def dnSortedND (de : DE) : DA := fun δ R => de δ fun x => match x with
  | .dict kvs => tupKeys kvs = true ∧ (AllAlike (kvs.map (·.1)) ∧ Sortable (kvs.map (·.1)) ∧ ∀ d ∈ kvs.map (·.1), d.depth ≤ 50) ∧ R (sortD (kvs.map (·.1)))
  | _ => False
theorem sim_nSortedND (h1 : SimE K ib b te de) : SimN K ib b (tCB (rSortedN K TheW.w) (tCons te tNil)) (dnSortedND de) := by
  intro H0 S H σ δ R Q o e h k
  refine h1 H0 S H σ δ _ _ o e h fun S1 H1 v dv g r q => ?_
  split at q
  · rename_i kvs
    obtain ⟨fl, ⟨c1, c2, c3⟩, q⟩ := q
    obtain ⟨a, xs, vs, ks, ds, rfl, hz, hS, ek, h8, q1, qv, vv⟩ := dict_cases r fl
    have l1 : ks.length = xs.length := by rw [← q1.length, List.length_map]
    have l2 : ks.length = ds.length := by rw [l1, ← qv.length, vv.length, List.length_map]
    have ez : kvs.map (·.1) = ks := by rw [hz]; exact zip_fst l2
    rw [ez] at c1 c2 c3 q
    refine ⟨a, xs, ks, fun v d => Rep K S1 v d, rfl, hS.mono g.ok.sub, fun v d r => r.mono g.ok.sub, reps_each q1, c1, c2, c3, fun ys p' hy hp' => ?_⟩
    exact k S1 _ p' ys _ (g.trans o (Go.laidOwn g.ok hp')) upd_same (reps_of_each (fun v d r => r) hy) (Ex.none_of g.ok.sub hp') (g.fresh o hp') q
  · exact q.elim
end
end DL

/-! Dicts of one's own lent to expressions that make lists without dicts; a, b = {}, e; max of two; an iterable that is a list or a dict; list(d.items()); dict(pairs). -/
namespace DL
open PySem PySem.Spec PyProof.Rows L2
open Evl (Ex ex_l ex_t)
variable [TheW]
mutual
/-- no dict anywhere -/
def noD : PyData → Bool
  | .none => true
  | .bool _ => true
  | .int _ => true
  | .str _ => true
  | .list xs => noDAll xs
  | .tuple xs => noDAll xs
  | .dict _ => false
def noDAll : List PyData → Bool
  | [] => true
  | x :: xs => noD x && noDAll xs
end
theorem noDAll_of {ds : List PyData} (h : ∀ d ∈ ds, noD d = true) : noDAll ds = true := by
  induction ds with
  | nil => rfl
  | cons d r ih =>
    show (noD d && noDAll r) = true
    rw [h d (List.mem_cons_self ..), ih fun x hx => h x (List.mem_cons_of_mem _ hx)]
    rfl
section
variable {K : PySem.W.Frag} {S : Hp} {p : Addr} {w : World} {xs0 : List NRow} {od : Obj}
mutual
theorem Rep.dropD (hp : S p = some (HP w p xs0 od)) : ∀ {v : V} {d : PyData}, Rep K S v d → noD d = true → Rep K (cutH S p) v d
  | _, _, .non, _ => .non
  | _, _, .bl b, _ => .bl b
  | _, _, .int b, _ => .int b
  | _, _, .str b, _ => .str b
  | _, _, .tup h q, t => .tup (SqT.dropU hp hp_notTup h) (Reps.dropD hp q t)
  | _, _, .lst h q, t => .lst (by
      rw [cutH_ne]
      · exact h
      · intro z
        rw [z, hp] at h
        cases h) (Reps.dropD hp q t)
  | _, _, .dK h q, t => absurd t Bool.false_ne_true
  | _, _, .dN _ _ _ _ _ _, t => absurd t Bool.false_ne_true
  | _, _, .dF _ _ _, t => absurd t Bool.false_ne_true
theorem Reps.dropD (hp : S p = some (HP w p xs0 od)) : ∀ {vs : List V} {ds : List PyData}, Reps K S vs ds → noDAll ds = true → Reps K (cutH S p) vs ds
  | _, _, .nil, _ => .nil
  | _, _, .cons r q, t => by
    have t := (Bool.and_eq_true _ _ ▸ t : _ ∧ _)
    exact .cons (Rep.dropD hp r t.1) (Reps.dropD hp q t.2)
end
end
section
variable {K : PySem.W.Frag} {ib : Option Nat} {b : Bg} {te ta tb : TE} {de da db : DE} {dn : DA} {tt : TT} {dt : DT} {ts : TS} {ds : DS} {t : TA} {d : DA}
/-- a dict of one's own stands still for a while; what comes of it has no dict in it -/
def dBorD (i : Nat) (de : DE) : DE := fun δ R => match δ[i]? with
  | some (some (.dct (.dn w kvs))) => w = TheW.w ∧ de (δ.set i (some (.dat (.dict kvs)))) fun d => noD d = true ∧ R d
  | _ => False
theorem sim_borD {i : Nat} (h1 : SimE K ib b te de) : SimE K ib b (tPinE te) (dBorD i de) := by
  intro H0 S H σ δ R Q o e h k
  unfold dBorD at h
  split at h
  · rename_i w kvs q0
    obtain ⟨rfl, h⟩ := h
    obtain ⟨p, u, hσ, hp, ⟨xs, rfl, hr⟩, hS, h0, hb, hu⟩ := e.dct i _ q0
    refine ⟨p, _, xs, hp, fun od => ?_⟩
    obtain ⟨o1, e1⟩ := pin_ok o e q0 hσ hp hr hS hb hu od
    refine h1 H0 _ _ σ _ _ _ o1 e1 h fun S2 H2 v d g r q => ?_
    obtain ⟨e2, e3, g2⟩ := pin_back o hp hS hb g
    exact ⟨e3, k _ _ v d g2 (r.dropD e2 q.1) q.2⟩
  · exact h.elim
/-- the same for a new list -/
def dBorDN (i : Nat) (dn : DA) : DA := fun δ R => match δ[i]? with
  | some (some (.dct (.dn w kvs))) => w = TheW.w ∧ dn (δ.set i (some (.dat (.dict kvs)))) fun ds => noDAll ds = true ∧ R ds
  | _ => False
theorem sim_borDN {i : Nat} (h1 : SimN K ib b te dn) : SimN K ib b (tPinE te) (dBorDN i dn) := by
  intro H0 S H σ δ R Q o e h k
  unfold dBorDN at h
  split at h
  · rename_i w kvs q0
    obtain ⟨rfl, h⟩ := h
    obtain ⟨p, u, hσ, hp, ⟨xs, rfl, hr⟩, hS, h0, hb, hu⟩ := e.dct i _ q0
    refine ⟨p, _, xs, hp, fun od => ?_⟩
    obtain ⟨o1, e1⟩ := pin_ok o e q0 hσ hp hr hS hb hu od
    refine h1 H0 _ _ σ _ _ _ o1 e1 h fun S2 H2 p2 xs2 es g hp2 r hS2 hn q => ?_
    obtain ⟨e2, e3, g2⟩ := pin_back o hp hS hb g
    have np : p2 ≠ p := by
      intro z
      rw [z, e2] at hS2
      cases hS2
    refine ⟨e3, k _ _ p2 xs2 es g2 (by rw [upd_ne np]; exact hp2) (Reps.dropD e2 r q.1) (by rw [cutH_ne np]; exact hS2) ?_ q.2⟩
    rw [upd_ne np] at hn
    exact hn
  · exact h.elim
def tPinT (t : TT) : TT := fun σ H Q => ∃ d w xs, H d = some (HN w d xs) ∧ ∀ od, t σ (upd H d (HP w d xs od)) fun v H' => H' d = some (HP w d xs od) ∧ Q v (upd H' d (HN w d xs))
theorem pt_pin {X : Cx} {e : Expr} {t : TT} (h : PT X e t) : PT X e (tPinT t) := by
  refine ⟨fun pins s σ H Q I hw => ?_⟩
  obtain ⟨d, w, xs, hd, hw⟩ := hw
  obtain ⟨od, I1⟩ := pinN I hd
  refine thn (h.run pins s σ _ _ I1 (hw od)) fun v s1 ⟨H1, I2, e2, q⟩ => ?_
  exact ⟨_, unpinN I2 e2, q⟩
def dBorDT (i : Nat) (dt : DT) : DT := fun δ R => match δ[i]? with
  | some (some (.dct (.dn w kvs))) => w = TheW.w ∧ dt (δ.set i (some (.dat (.dict kvs)))) R
  | _ => False
theorem sim_borDT {i : Nat} (h1 : SimT K ib b tt dt) : SimT K ib b (tPinT tt) (dBorDT i dt) := by
  intro H0 S H σ δ R Q o e h k
  unfold dBorDT at h
  split at h
  · rename_i w kvs q0
    obtain ⟨rfl, h⟩ := h
    obtain ⟨p, u, hσ, hp, ⟨xs, rfl, hr⟩, hS, h0, hb, hu⟩ := e.dct i _ q0
    refine ⟨p, _, xs, hp, fun od => ?_⟩
    obtain ⟨o1, e1⟩ := pin_ok o e q0 hσ hp hr hS hb hu od
    refine h1 H0 _ _ σ _ _ _ o1 e1 h fun S2 H2 c g q => ?_
    obtain ⟨e2, e3, g2⟩ := pin_back o hp hS hb g
    exact ⟨e3, k _ _ c g2 q⟩
  · exact h.elim
/-! a, b = {}, e -/
def dParDN (w : World) (i j : Nat) (db : DE) : DS := fun DD δ => db δ fun y => DD.nx ((δ.set i (some (.dct (.dn w [])))).set j (some (.dat y)))
theorem sim_parDN {w : World} {i j : Nat} (hi : ib ≠ some i) (hj : ib ≠ some j) (h1 : SimE K ib b tb db) : SimS K ib b (tPar i j (tCons (tDNewN w) (tCons tb tNil))) (dParDN w i j db) := by
  intro S0 H0 Sm S H σ δ D DD o em g0 e h x p hp
  have g1 : Go ib b S H S (upd H p (HN w p [])) := Go.laidOwn g0.ok hp
  have e1 := e.go g1
  have nb : ib ≠ none → p ≠ b.1 := fun z w => (g0.ok.bag z).tr (w ▸ hp)
  refine h1 H0 S _ σ δ _ _ g1.ok e1 h fun S2 H2 v dv g2 r q => ?_
  have g12 := g1.trans g0.ok g2
  have g02 := g0.trans o g12
  have hp2 : H2 p = some (HN w p []) := g2.keep p _ nb upd_same
  have hS2 : S2 p = none := g2.new p (by rw [upd_same]; exact Option.some_ne_none _) (Ex.none_of g0.ok.sub hp)
  refine ⟨.ref p, v, rfl, ?_⟩
  have e2 := e1.go g2
  refine x.nx S2 _ _ _ g02 (em.trans g12.st) (((e2.setDct hi hp2 (c := .dn w []) (show CtOk K S2 p (HN w p []) (.dn w []) from ⟨[], rfl, .nil⟩) hS2 (g0.fresh o hp) nb (fun m c' hm a1 a2 => ?_)).set hj r)) q
  obtain ⟨p', o', b1, b2, _⟩ := e.dct m c' a1
  rw [b1] at a2
  have : p' = p := V.ref.inj (Option.some.inj (Option.some.inj a2))
  rw [this, hp] at b2
  cases b2
/-! a, b = e, {} -/
def dParND (w : World) (i j : Nat) (da : DE) : DS := fun DD δ => da δ fun y => DD.nx ((δ.set i (some (.dat y))).set j (some (.dct (.dn w []))))
theorem sim_parND {w : World} {i j : Nat} (hi : ib ≠ some i) (hj : ib ≠ some j) (hij : i ≠ j) (h1 : SimE K ib b ta da) : SimS K ib b (tPar i j (tCons ta (tCons (tDNewN w) tNil))) (dParND w i j da) := by
  intro S0 H0 Sm S H σ δ D DD o em g0 e h x
  refine h1 H0 S H σ δ _ _ g0.ok e h fun S1 H1 v dv g1 r q => ?_
  intro p hp
  have g01 := g0.trans o g1
  have g2 : Go ib b S1 H1 S1 (upd H1 p (HN w p [])) := Go.laidOwn g1.ok hp
  have g02 := g01.trans o g2
  have e1 := e.go g1
  refine ⟨v, .ref p, rfl, ?_⟩
  refine x.nx S1 _ _ _ g02 (em.trans g1.st) (((e1.go g2).set hi r).setDct hj upd_same (c := .dn w []) (show CtOk K S1 p (HN w p []) (.dn w []) from ⟨[], rfl, .nil⟩) (Ex.none_of g1.ok.sub hp) (g01.fresh o hp) (fun z w => (g1.ok.bag z).tr (w ▸ hp)) (fun m c' hm a1 a2 => ?_)) q
  by_cases hmi : m = i
  · subst hmi
    have hlt : m < δ.length := by
      obtain ⟨w, _⟩ := List.getElem?_eq_some_iff.mp a1
      rwa [List.length_set] at w
    rw [List.getElem?_set_self hlt] at a1
    cases a1
  · rw [List.getElem?_set_ne (Ne.symm hmi)] at a1 a2
    obtain ⟨p', o', b1, b2, _⟩ := e1.dct m c' a1
    rw [b1] at a2
    have : p' = p := V.ref.inj (Option.some.inj (Option.some.inj a2))
    rw [this, hp] at b2
    cases b2
/-! max(i, j) -/
def rMax2 : List V → Hp → VK → Prop := fun xs H Q => ∃ i j, xs = [.int i, .int j] ∧ Q (.int (if j > i then j else i)) H
theorem call_max2' {X : Cx} (hc : X.calm = true) : CallR X (.builtin "max") rMax2 := call_max2 hc
def dMax2 : List PyData → (PyData → Prop) → Prop := fun ds R => match ds with
  | [.int i, .int j] => R (.int (if j > i then j else i))
  | _ => False
theorem simc_max2 : SimC K ib b rMax2 dMax2 := by
  intro S H xs ds R Q o r h k
  unfold dMax2 at h
  split at h
  · cases r with
    | cons r1 r2 =>
      cases r2 with
      | cons r2 r3 =>
        cases r3
        cases r1
        cases r2
        exact ⟨_, _, rfl, k S H _ _ (Go.refl o) (.int _) h⟩
  · exact h.elim
/-! an iterable that is a list, or a dict by tuples -/
def iAnyK (K : PySem.W.Frag) (td : TE) : TI := fun σ H R => td σ H fun x H1 => (∃ a, x = .ref a ∧ (∃ xs, SqL K H1 a xs) ∧ R (Itl K a) H1) ∨ ∃ d o xs, x = .ref d ∧ H1 d = some (HP TheW.w d xs o) ∧ R (ItN TheW.w d o xs) H1
theorem pi_anyK {X : Cx} {tg e : Expr} {td : TE} (he : PE X e td) : PI X tg e (iAnyK X.K td) := by
  refine ⟨fun pins s σ H R I h => ?_⟩
  refine thn (he.run pins s σ H _ I h) fun u s1 ⟨x, H1, I1, rx, q⟩ => ?_
  rcases q with ⟨a, ex, ⟨xs, hq⟩, q⟩ | ⟨d, o, xs, ex, hd, q⟩
  · subst ex
    cases rx
    obtain ⟨its, rv, p, hz⟩ := I1.list hq
    refine wpAny_pyIter_list p.isList ?_
    refine ⟨s1.heap.objs.size, [s1.heap.objs.size], _, _, H1, rfl, I1.kept (t' := s1.toks) fun b o e => Heap.get?_push_of_some _ e, turn_list a _, ⟨_, Heap.get?_push_size _ rfl, rfl, rfl⟩, fun b hb => ?_, q⟩
    have e : b = s1.heap.objs.size := by simpa using hb
    subst e
    exact I1.fpOk (Nat.le_refl _) (I1.hok.fresh (Nat.le_refl _))
  · subst ex
    obtain rfl : u = Value.ref d := rx
    obtain ⟨hs, hgd, hx, es, ep, hdt, hsz, ent⟩ := hp_at I1 hd
    refine iter_keys hs hgd hx hdt (pi_one (tk := s1.toks) I1 _ (turn_keysN _ hdt) ⟨_, Heap.get?_push_size _ rfl, rfl, ?_⟩ q)
    rw [hsz] <;> rfl
def dAnyK (de : DE) : DA := fun δ R => de δ fun x => match x with
  | .list xs => R xs
  | .dict kvs => tupKeys kvs = true ∧ kvs ≠ [] ∧ R (kvs.map (·.1))
  | _ => False
theorem sim_iAnyK (h1 : SimE K ib b te de) : SimI K ib b (iAnyK K te) (dAnyK de) := by
  intro H0 S H σ δ R Q o e h k
  refine h1 H0 S H σ δ _ _ o e h fun S1 H1 v dv g r q => ?_
  split at q
  · obtain ⟨a, xs, rfl, hq, rs⟩ := r.lstV
    refine .inl ⟨a, rfl, ⟨xs, SqL.of (g.ok.sub _ _ hq)⟩, k S1 H1 _ _ g (fun S2 H2 ex o2 => ?_) q⟩
    have hL : SqL K H2 a xs := SqL.of (o2.sub _ _ (ex _ _ hq))
    have rl := rs.length
    refine ⟨fun i hi => ⟨xs, xs[i]'(by omega), hL, by simp⟩, ⟨xs, hL, by omega⟩, fun i x H' hi y => ?_⟩
    obtain ⟨rfl, y⟩ := y
    obtain ⟨d, hd, rd⟩ := rs.getV (y xs hL)
    exact ⟨S2, d, Go.refl o2, hd, rd.mono ex⟩
  · rename_i kvs
    obtain ⟨fl, ne, q⟩ := q
    cases r with
    | dK hS rr =>
      rename_i a kvs2 ds
      cases kvs2 with
      | nil => exact absurd rfl ne
      | cons p r =>
        cases rr with
        | cons hh tt =>
          rw [List.map_cons, List.zip_cons_cons] at fl
          unfold tupKeys at fl
          rw [List.all_cons] at fl
          obtain ⟨p1, p2⟩ := p
          cases p1 <;> simp [keyD] at fl
    | dF nn hS rr =>
      rename_i a kvs2 ds od
      cases kvs2 with
      | nil => exact absurd rfl nn
      | cons p r =>
        cases rr with
        | cons hh tt =>
          rw [List.map_cons, List.zip_cons_cons] at fl
          unfold tupKeys at fl
          rw [List.all_cons] at fl
          obtain ⟨p1, p2⟩ := p
          cases p1 <;> simp [keyD] at fl
    | dN hS ek h8 q1 q2 vv =>
      rename_i a xs vs ks ds od
      have l1 : ks.length = xs.length := by rw [← q1.length, List.length_map]
      have l2 : ks.length = ds.length := by rw [l1, ← q2.length, vv.length, List.length_map]
      rw [zip_fst l2] at q
      refine .inr ⟨a, od, xs, rfl, g.ok.sub _ _ hS, k S1 H1 _ ks g (fun S2 H2 ex o2 => ?_) q⟩
      have hL : H2 a = some (HP TheW.w a xs od) := o2.sub _ _ (ex _ _ hS)
      refine ⟨fun i hi => ⟨hL, by omega⟩, ⟨hL, by omega⟩, fun i x H' hi y => ?_⟩
      obtain ⟨rfl, r, hr, rfl⟩ := y
      obtain ⟨d, hd, rd⟩ := q1.getV (i := i) (v := .ref r.2.1) (by rw [List.getElem?_map, hr]; rfl)
      exact ⟨S2, d, Go.refl o2, hd, rd.mono ex⟩
  · exact q.elim
end
/-! list(d.items()) -/
/-- the tuples tracked at their addresses -/
def putP : Hp → List Addr → List (V × V) → Hp
  | H, a :: as, p :: kvs => putP (upd H a (.tup [p.1, p.2])) as kvs
  | H, _, _ => H
theorem putP_off {b : Addr} : ∀ (as : List Addr) (kvs : List (V × V)) (H : Hp), b ∉ as → putP H as kvs b = H b
  | [], _, _, _ => rfl
  | _ :: _, [], _, _ => rfl
  | a :: as, p :: kvs, H, h => by
    show putP (upd H a (.tup [p.1, p.2])) as kvs b = H b
    rw [putP_off as kvs _ (fun z => h (List.mem_cons_of_mem _ z)), upd_ne (fun z => h (by rw [z]; exact List.mem_cons_self))]
theorem putP_at : ∀ (as : List Addr) (kvs : List (V × V)) (H : Hp), as.length = kvs.length → as.Nodup → Paired (fun (t : Addr) (p : V × V) => putP H as kvs t = some (.tup [p.1, p.2])) as kvs
  | [], [], _, _, _ => .nil
  | [], _ :: _, _, h, _ => by cases h
  | _ :: _, [], _, h, _ => by cases h
  | a :: as, p :: kvs, H, h, hn => by
    have hn' := List.nodup_cons.mp hn
    have ih := putP_at as kvs (upd H a (.tup [p.1, p.2])) (Nat.succ.inj h) hn'.2
    refine .cons ?_ ih
    show putP (upd H a (.tup [p.1, p.2])) as kvs a = some (.tup [p.1, p.2])
    rw [putP_off as kvs _ hn'.1, upd_same]
theorem items_laidN {X : Cx} {pins : List (Addr × Obj)} {σ : L2.St} {H : Hp} {s : Shared} {h' : Heap} {tk : Nat} {kvs : List (V × V)} {us : List (Value × Value)} {acc : Array Value} {c : Nat} {as : List Addr} (I : Inv X pins σ H s) (hz : kvs.length ≤ sizeLine)
    (kv : Paired (fun (p : V × V) (u : Value × Value) => RelV p.1 u.1 ∧ RelV p.2 u.2) kvs us)
    (hk : ∀ b o, s.heap.get? b = some o → h'.get? b = some o) (hS : h'.get? s.heap.objs.size = some { cls := .type "list", dict := none, data := .seq acc c, slots := #[] }) (hl : as.length = us.length)
    (rise : as.Pairwise (· < ·)) (above : ∀ a ∈ as, s.heap.objs.size < a) (pairs : ∀ (j : Nat) (a : Addr), as[j]? = some a → ∃ u, us[j]? = some u ∧ h'.get? a = some { cls := .type "tuple", data := .seq #[u.1, u.2] }) (hacc : acc.toList = as.map Value.ref) :
    ∃ H' : Hp, (∀ b o, H b = some o → H' b = some o) ∧ H s.heap.objs.size = none ∧ (∀ t ∈ as, H t = none) ∧ s.heap.objs.size ∉ as ∧ as.Nodup ∧ H' s.heap.objs.size = some (.lst (as.map V.ref)) ∧ Paired (fun (t : Addr) (q : V × V) => H' t = some (.tup [q.1, q.2])) as kvs ∧
      (∀ b, b ∉ as → b ≠ s.heap.objs.size → H' b = H b) ∧ Inv X pins σ H' { s with heap := h', toks := tk } := by
  have lk : kvs.length = us.length := Paired.length kv
  have hSn : s.heap.objs.size ∉ as := fun z => Nat.lt_irrefl _ (above _ z)
  have nd : as.Nodup := List.Pairwise.imp (fun {a b} (h : a < b) => Nat.ne_of_lt h) rise
  have new : ∀ t ∈ as, H t = none := fun t ht => I.hok.fresh (Nat.le_of_lt (above t ht))
  have newS : H s.heap.objs.size = none := I.hok.fresh (Nat.le_refl _)
  have atP := putP_at as kvs (upd H s.heap.objs.size (.lst (as.map V.ref))) (by omega) nd
  have off : ∀ b, b ∉ as → b ≠ s.heap.objs.size → putP (upd H s.heap.objs.size (.lst (as.map V.ref))) as kvs b = H b := fun b h1 h2 => by rw [putP_off as kvs _ h1, upd_ne h2]
  have low : ∀ b o, s.heap.get? b = some o → b ∉ as ∧ b ≠ s.heap.objs.size := fun b o e => ⟨fun z => absurd (Heap.lt_size e) (Nat.not_lt.mpr (Nat.le_of_lt (above b z))), Nat.ne_of_lt (Heap.lt_size e)⟩
  have kp : ∀ b u, H b = some u → (putP (upd H s.heap.objs.size (.lst (as.map V.ref))) as kvs) b = some u := fun b u e => by
    rw [off b (fun z => by rw [new b z] at e; cases e) (fun z => by rw [z, newS] at e; cases e)]
    exact e
  have eS : putP (upd H s.heap.objs.size (.lst (as.map V.ref))) as kvs s.heap.objs.size = some (.lst (as.map V.ref)) := by rw [putP_off as kvs _ hSn, upd_same]
  refine ⟨putP (upd H s.heap.objs.size (.lst (as.map V.ref))) as kvs, kp, newS, new, hSn, nd, eS, atP, off, ?_⟩
  refine I.call' (ch := []) rfl ⟨fun b o q _ _ _ => hk b o q, fun b o q _ _ _ => ⟨o.slots, hk b o q⟩, fun b o q n _ => ?_, fun b o q _ => ⟨o, hk b o q⟩, fun b xs q => kp b _ q, fun b o u q => kp b _ q, fun b ps q => ⟨#[], by rw [kp b _ q]; simp⟩⟩ (fun b u q => ?_) I.bare fun b z => by simp at z
  · obtain ⟨z1, z2⟩ := low b o q
    rw [off b z1 z2]
    exact n
  · by_cases hb : b ∈ as
    · obtain ⟨j, pk, e1, e2, e3⟩ := LiI.paired_ix atP hb
      rw [e3] at q
      cases q
      obtain ⟨u, f1, f3⟩ := pairs j b e1
      obtain ⟨qv, g1, g2, g3⟩ := LiI.paired_get kv e2
      rw [f1] at g1
      cases g1
      exact ⟨by show 2 ≤ sizeLine; decide, [u.1, u.2], .cons g2 (.cons g3 .nil), ⟨_, f3, rfl, _, rfl⟩⟩
    · by_cases hb2 : b = s.heap.objs.size
      · rw [hb2] at q ⊢
        rw [eS] at q
        cases q
        refine ⟨by rw [List.length_map]; omega, acc.toList, c, by rw [hacc]; exact LiI.vals_refs as, ?_⟩
        rw [Array.toArray_toList]
        exact hS
      · rw [off b hb hb2] at q
        exact (I.hok b u q).stay (fun d v _ y => hk d v y) (fun d y => kp d _ y) fun d xs y => kp d _ y
theorem Paired.mapM {α β : Type} {F G : α → β → Prop} : ∀ {xs : List α} {ys : List β}, Paired F xs ys → (∀ x y, x ∈ xs → F x y → G x y) → Paired G xs ys
  | _, _, .nil, _ => .nil
  | _, _, .cons h t, k => .cons (k _ _ (List.mem_cons_self ..) h) (Paired.mapM t fun x y m z => k x y (List.mem_cons_of_mem _ m) z)
def tItemsN (te : TE) : TE := fun σ H Q => te σ H fun x H1 => ∃ d xs vs, x = .ref d ∧ NHas TheW.w H1 d xs ∧ Vals vs (xs.map (·.2.2)) ∧
  ∀ (H' : Hp) (p : Addr) (ts : List Addr), (∀ b o, H1 b = some o → H' b = some o) → H1 p = none → (∀ t ∈ ts, H1 t = none) → p ∉ ts → ts.Nodup → H' p = some (.lst (ts.map V.ref)) →
    Paired (fun (t : Addr) (q : V × V) => H' t = some (.tup [q.1, q.2])) ts ((xs.map fun x => V.ref x.2.1).zip vs) → (∀ b, b ∉ ts → b ≠ p → H' b = H1 b) → Q (.ref p) H'
theorem rows_rel : ∀ {xs : List NRow} {vs : List V}, Vals vs (xs.map (·.2.2)) → Paired (fun (p : V × V) (u : Value × Value) => RelV p.1 u.1 ∧ RelV p.2 u.2) ((xs.map fun x => V.ref x.2.1).zip vs) (xs.map fun x => (Value.ref x.2.1, x.2.2))
  | [], [], .nil => .nil
  | x :: xs, v :: vs, .cons r t => .cons ⟨rfl, r⟩ (rows_rel t)
theorem pe_itemsN {X : Cx} {e : Expr} {te : TE} {p apos cpos pos : Pos} (hw : TheW.w = X.w) (hc : X.calm = true) (he : PE X e te) (hg : Gl X "list") (hm : X.mg "list" = none) (hv : bootBuiltins "list" = some (.type "list")) (hbase : attributeBase e "items" X.env (eval e X.env) = eval e X.env := by rfl) (hline : (apos.endLine == cpos.line) = true := by rfl)
    (hs : starEach [.Call (.Attribute e "items" apos) [] [] cpos] X.env = (false, eval (.Call (.Attribute e "items" apos) [] [] cpos) X.env) :: starEach [] X.env := by rfl) :
    PE X (.Call (.Name "list" p) [.Call (.Attribute e "items" apos) [] [] cpos] [] pos) (tItemsN te) := by
  refine ⟨fun pins s σ H Q I hq => ?_⟩
  refine wpAny_Call_Name_kw (ld_blt I hg hm hv ?_)
  refine PyProof.Rows.callWith_type1 ?_ hs rfl
  rw [hs]
  show wpAny _ _ (spliced ((false, eval (.Call (.Attribute e "items" apos) [] [] cpos) X.env) :: backTo pos (starEach [] X.env))) _ _ s
  refine Calls.spliced_cons ?_
  refine wpAny_Call_method (T := "dict") (id := "dict.items") hbase rfl hline F.plainAttrs_dict F.slot_dict_items F.type_dict_items (thn (he.run pins s σ H _ I hq) fun u s1 ⟨x, H1, I1, rx, d, xs, vs, ex, hd, hvs, q⟩ => ?_)
  subst ex
  obtain rfl : u = Value.ref d := rx
  obtain ⟨n1, ⟨es, ep, n2, n3⟩, n4, n5⟩ : NAt X.w d xs s1.heap := nhas_at I1 (hw ▸ hd)
  obtain ⟨o, ho, hx, hdt⟩ := id n2
  have hes : es.size = xs.length := by
    have := congrArg List.length n3
    rw [List.length_map] at this
    simpa using this
  have I2 : Inv X pins σ H1 { s1 with heap := s1.heap.push { cls := .type "dict_items", data := .fields #[.ref d] } } := I1.kept (t' := s1.toks) fun b ob q => Heap.get?_push_of_some _ q
  refine ⟨⟨o, ho, hx.1⟩, fun b q => (by cases q; exact ⟨o, ho, hx.2.1⟩), ?_⟩
  show wpAny _ _ (callWith cpos (.builtin "dict.items") [.ref d] [] []) _ X.xe s1
  refine method_meetsIn F.slot_dict_items F.entry_dict_items rfl (PySem.evalArgs_none ⟨rfl, ⟨o, ho, hx.1⟩, F.args_dict_items_1 _, _, _root_.DT.meetsItems (es := es) (ep := ep) n1, n2, ?_⟩)
  refine Calls.spliced_nil ?_
  refine PySem.W.dil_call (es := es) (ep := ep) (I1.ok.hd hc) ⟨_, Heap.get?_push_size _ rfl, rfl, rfl⟩ (n2.push _) (by rw [hes]; exact n5) fun h' tk acc c as hk hS hl hG hacc => ?_
  have hlx := hvs.length
  rw [List.length_map] at hlx
  have hpairs : ∀ (j : Nat) (a : Addr), as[j]? = some a → ∃ u, (xs.map fun x => (Value.ref x.2.1, x.2.2))[j]? = some u ∧ h'.get? a = some { cls := .type "tuple", data := .seq #[u.1, u.2] } := by
    intro j a hj
    obtain ⟨hj', e3⟩ := hG.pairs j a hj
    have hjx : j < xs.length := by omega
    have e2 : es.toList[j]? = (xs.map (rowE X.w))[j]? := by rw [n3]
    rw [Array.getElem?_toList, Array.getElem?_eq_getElem hj', List.getElem?_map, List.getElem?_eq_getElem hjx, Option.map_some] at e2
    have e4 := Option.some.inj e2
    refine ⟨_, by rw [List.getElem?_map, List.getElem?_eq_getElem hjx]; rfl, ?_⟩
    rw [e3, e4]
    rfl
  obtain ⟨H', k1, k2, k3, k4, k5, k6, k7, k8, J⟩ := items_laidN (tk := tk) (kvs := (xs.map fun x => V.ref x.2.1).zip vs) (us := xs.map fun x => (Value.ref x.2.1, x.2.2)) I2 (by rw [List.length_zip, List.length_map]; omega) (rows_rel hvs) hk hS (by rw [hl, hes, List.length_map]) hG.rise hG.above hpairs hacc
  exact ⟨.ref _, H', J, rfl, q H' _ as k1 k2 k3 k4 k5 k6 k7 k8⟩
/-! over data -/
def itemsD (kvs : List (PyData × PyData)) : List PyData := kvs.map fun p => .tuple [p.1, p.2]
section
variable {K : PySem.W.Frag} {ib : Option Nat} {b : Bg} {te ta tb : TE} {de da db : DE}
theorem Paired.zipR {S' : Hp} : ∀ {ts : List Addr} {vs1 vs2 : List V} {ks ds : List PyData}, Paired (fun (t : Addr) (q : V × V) => S' t = some (.tup [q.1, q.2])) ts (vs1.zip vs2) → Reps K S' vs1 ks → Reps K S' vs2 ds → vs1.length = vs2.length →
    Reps K S' (ts.map V.ref) (itemsD (ks.zip ds))
  | [], [], [], [], [], .nil, .nil, .nil, _ => .nil
  | t :: ts, v1 :: vs1, v2 :: vs2, k :: ks, d :: ds, .cons h r, .cons r1 t1, .cons r2 t2, hl => .cons (.tup (.inl (.inl h)) (.cons r1 (.cons r2 .nil))) (Paired.zipR r t1 t2 (by simpa using hl))
  | _, [], v2 :: vs2, _, _, _, .nil, .cons _ _, hl => by cases hl
  | _, v1 :: vs1, [], _, _, _, .cons _ _, .nil, hl => by cases hl
theorem laid_both {S1 H1 H' : Hp} {p : Addr} {ts : List Addr} {u : HO} (o : Okk ib b S1 H1) (hS : ∀ b u, H1 b = some u → H' b = some u) (hp : H1 p = none) (ht : ∀ t ∈ ts, H1 t = none) (hpt : p ∉ ts) (off : ∀ b, b ∉ ts → b ≠ p → H' b = H1 b) :
    ∃ S', Ex S1 S' ∧ (∀ t ∈ ts, S' t = H' t) ∧ S' p = none ∧ Go ib b S1 H1 S' H' := by
  refine ⟨fun a => if a ∈ ts then H' a else S1 a, ?_, ?_, ?_, ?_⟩
  · intro a u q
    show (if a ∈ ts then H' a else S1 a) = some u
    rw [if_neg]
    · exact q
    · intro z
      have := o.sub a u q
      rw [ht a z] at this
      cases this
  · intro t h
    show (if t ∈ ts then H' t else S1 t) = H' t
    rw [if_pos h]
  · show (if p ∈ ts then H' p else S1 p) = none
    rw [if_neg hpt]
    exact Ex.none_of o.sub hp
  · refine ⟨?_, fun a u _ q => hS a u q, ?_, ?_, ?_, ?_⟩
    · intro a u q
      show (if a ∈ ts then H' a else S1 a) = some u
      rw [if_neg]
      · exact q
      · intro z
        have := o.sub a u q
        rw [ht a z] at this
        cases this
    · intro a h1 h2
      show (if a ∈ ts then H' a else S1 a) = none
      rw [if_neg]
      · exact h2
      · intro z
        exact h1 (ht a z)
    · intro a u q
      by_cases c : a ∈ ts
      · have q' : (if a ∈ ts then H' a else S1 a) = some u := q
        rw [if_pos c] at q'
        exact q'
      · have q' : (if a ∈ ts then H' a else S1 a) = some u := q
        rw [if_neg c] at q'
        exact hS a u (o.sub a u q')
    · intro z
      show (if b.1 ∈ ts then H' b.1 else S1 b.1) = none
      rw [if_neg]
      · exact o.off z
      · intro w
        exact (o.bag z).tr (ht _ w)
    · intro z
      exact (o.bag z).kept fun a u _ q => hS a u q
/-- list(x.items()), x data -/
def dnItems (de : DE) : DA := fun δ R => de δ fun x => match x with
  | .dict kvs => tupKeys kvs = true ∧ R (itemsD kvs)
  | _ => False
theorem sim_nItems (h1 : SimE K ib b te de) : SimN K ib b (tItemsN te) (dnItems de) := by
  intro H0 S H σ δ R Q o e h k
  refine h1 H0 S H σ δ _ _ o e h fun S1 H1 v dv g r q => ?_
  split at q
  · rename_i kvs
    obtain ⟨fl, q⟩ := q
    obtain ⟨a, xs, vs, ks, ds, rfl, hz, hS, ek, h8, q1, qv, vv⟩ := dict_cases r fl
    refine ⟨a, xs, vs, rfl, hS.mono g.ok.sub, vv, fun H' p ts k1 k2 k3 k4 k5 k6 k7 k8 => ?_⟩
    obtain ⟨S', x1, x2, x3, x4⟩ := laid_both (u := .lst []) g.ok k1 k2 k3 k4 k8
    have l1 : vs.length = xs.length := by rw [vv.length, List.length_map]
    have pr : Paired (fun (t : Addr) (q : V × V) => S' t = some (.tup [q.1, q.2])) ts ((xs.map fun x => V.ref x.2.1).zip vs) := by
      refine Paired.mapM k7 fun t q ht z => ?_
      rw [x2 t ht]
      exact z
    have rr := Paired.zipR pr (q1.mono x1) (qv.mono x1) (by rw [List.length_map]; omega)
    rw [hz] at q
    exact k S' H' p _ _ (g.trans o x4) k6 rr x3 (g.fresh o k2) q
  · exact q.elim
end
end DL

/-! dict(pairs), the keys tuples in one another. -/
namespace DL
open PySem PySem.Spec PyProof.Rows L2
open Evl (Ex ex_l ex_t)
variable [TheW]
abbrev KRow := NestedKey × Addr × V
def krows (rows : List KRow) (us : List Value) : List NRow := (rows.zip us).map fun p => (p.1.1, p.1.2.1, p.2)
def PairIs (K : PySem.W.Frag) (H : Hp) (t : Addr) (r : KRow) : Prop := SqT K H t [.ref r.2.1, r.2.2] ∧ KeyV K H r.2.1 r.1
def rDictN (K : PySem.W.Frag) : List V → Hp → VK → Prop := fun vs H Q => ∃ (a : Addr) (ts : List Addr) (rows : List KRow), vs = [.ref a] ∧ SqL K H a (ts.map V.ref) ∧ Paired (PairIs K H) ts rows ∧
  ∀ (p : Addr) (od : Obj) (us : List Value), Vals (rows.map (·.2.2)) us → H p = none → Q (.ref p) (upd H p (HP TheW.w p (PySem.storedAllH [] (krows rows us)) od))
theorem Vals.refs : ∀ {ts : List Addr} {its : List Value}, Vals (ts.map V.ref) its → its = ts.map Value.ref
  | [], _, .nil => rfl
  | t :: ts, _, .cons r q => by
    rw [Vals.refs q, List.map_cons]
    obtain rfl := (show _ = Value.ref t from r)
    rfl
section
variable {X : Cx} {pins : List (Addr × Obj)} {σ : L2.St} {H : Hp} {s : Shared}
theorem pairs_at (I : Inv X pins σ H s) : ∀ {ts : List Addr} {rows : List KRow}, Paired (PairIs X.K H) ts rows → ∃ us, Vals (rows.map (·.2.2)) us ∧ us.length = rows.length ∧ ∀ (j : Nat) (r : KRow) (u : Value), rows[j]? = some r → us[j]? = some u → s.heap.IsTuple (ts.getD j 0) #[.ref r.2.1, u] ∧ NestedIs s.heap r.1 (.ref r.2.1) ∧ r.1.depth ≤ 8
  | [], [], .nil => ⟨[], .nil, rfl, fun j r u h => (by simp at h)⟩
  | t :: ts, r :: rows, .cons h q => by
    obtain ⟨us, v, hl, g⟩ := pairs_at I q
    obtain ⟨its, rv, ip, _⟩ := I.tuple h.1
    cases rv with
    | cons r1 rv =>
    cases rv with
    | cons r2 rv =>
    cases rv
    rename_i u1 u2
    obtain rfl := (show u1 = Value.ref r.2.1 from r1)
    refine ⟨u2 :: us, .cons r2 v, by rw [List.length_cons, List.length_cons, hl], fun j r' u' h1 h2 => ?_⟩
    cases j with
    | zero =>
      simp only [List.getElem?_cons_zero, Option.some.injEq] at h1 h2
      subst h1 h2
      exact ⟨ip, keyV_at I h.2⟩
    | succ j =>
      simp only [List.getElem?_cons_succ] at h1 h2
      exact g j r' u' h1 h2
theorem call_dictN (hw : TheW.w = X.w) (hcalm : X.calm = true) (hu : X.A.units + 64 < cLine) : CallR X (.type "dict") (rDictN X.K) := by
  intro pins s σ H vs us0 Q I r h
  obtain ⟨a, ts, rows, rfl, hq, hp, q⟩ := h
  obtain ⟨u, rfl, ru⟩ := vals1 r
  obtain rfl : u = Value.ref a := ru
  obtain ⟨its, rv, pl, hz⟩ := I.list hq
  obtain rfl := Vals.refs rv
  obtain ⟨us, hv, hl, hat⟩ := pairs_at I hp
  have hlt : ts.length = rows.length := Paired.length hp
  let ps : List (Value × Value) := (krows rows us).map fun x => (Value.ref x.2.1, x.2.2)
  have lk : (krows rows us).length = rows.length := by
    unfold krows
    rw [List.length_map, List.length_zip]
    omega
  have kat : ∀ (j : Nat) (x : NRow), (krows rows us)[j]? = some x → ∃ r u, rows[j]? = some r ∧ us[j]? = some u ∧ x = (r.1, r.2.1, u) := by
    intro j x hx
    unfold krows at hx
    rw [List.getElem?_map] at hx
    obtain ⟨⟨r, u⟩, e1, e2⟩ := Option.map_eq_some_iff.mp hx
    have e3 := List.getElem?_zip_eq_some.mp e1
    exact ⟨r, u, e3.1, e3.2, e2.symm⟩
  have P := PairArg.list (prog := X.prog) (w := X.w) a (ts.map Value.ref).toArray (fun j => ts.getD j 0) ps
  have hps : ps.length = rows.length := by rw [List.length_map, lk]
  refine call_dict_pairsH (knd := nestedKind X.prog X.w) (ps := krows rows us) P (I.ok.hd hcalm) ?_ ⟨?_, ?_, ?_⟩ ⟨by rw [lk, hps], ?_⟩ ?_ ?_ ?_
  · show X.A.units + 1 + 1 + 8 < cLine
    omega
  · obtain ⟨o, n, e1, e2, e3, e4⟩ := pl
    exact ⟨o, n, e1, e2, e3, e4⟩
  · rw [hps]
    simp [hlt]
  · intro j k v hj
    rw [List.getElem?_map] at hj
    obtain ⟨x, e1, e2⟩ := Option.map_eq_some_iff.mp hj
    obtain ⟨r, u, h1, h2, rfl⟩ := kat j x e1
    cases e2
    have hjl : j < ts.length := by
      have := (List.getElem?_eq_some_iff.mp h1).1
      omega
    refine ⟨?_, .inl (hat j r u h1 h2).1⟩
    simp [hjl]
  · intro i key v hr
    have hr : ps[i]? = some (key, v) := hr
    rw [List.getElem?_map] at hr
    obtain ⟨x, e1, e2⟩ := Option.map_eq_some_iff.mp hr
    cases e2
    exact ⟨x.1, x.2.1, e1, rfl⟩
  · intro h' hk x hx
    obtain ⟨j, hj⟩ := List.mem_iff_getElem?.mp hx
    obtain ⟨r, u, h1, h2, rfl⟩ := kat j x hj
    obtain ⟨_, n1, n2⟩ := hat j r u h1 h2
    exact ⟨NestedIs.at (fun b o vs n e _ => hk b o (Nat.ne_of_lt (Heap.lt_size e)) (by simp) e) _ _ n1, n2⟩
  · rw [hps]
    rw [List.length_map] at hz
    omega
  · intro h' tk dd hk
    have hsz : (PySem.storedAllH [] (krows rows us)).length ≤ sizeLine := by
      have := storedAllH_length (krows rows us) []
      rw [List.length_map] at hz
      simp only [List.length_nil] at this
      omega
    have n' : NAt X.w s.heap.objs.size (PySem.storedAllH [] (krows rows us)) h' := NAt.to (nat_empty (w := X.w) s.heap I.big).1 hsz dd
    obtain ⟨o, es, ep, ho, _⟩ := dd
    refine ⟨.ref s.heap.objs.size, _, I.laid (a := s.heap.objs.size) (o := HP X.w s.heap.objs.size (PySem.storedAllH [] (krows rows us)) o) (t' := tk) (fun b o e => hk b o (by simp) e) (Nat.le_refl _) (n'.objP ho), rfl, ?_⟩
    rw [← hw]
    exact q _ o us hv (I.hok.fresh (Nat.le_refl _))
end
/-! over data -/
def pairTup : PyData → Prop
  | .tuple [k, _] => (∃ ks, k = .tuple ks) ∧ ∃ e, nk k = some e ∧ e.depth ≤ 8
  | _ => False
def putP2 (acc : List (PyData × PyData)) : PyData → List (PyData × PyData)
  | .tuple [k, v] => putN acc k v
  | _ => acc
def dictOf (ps : List PyData) : List (PyData × PyData) := ps.foldl putP2 []
def dDictN : List PyData → (PyData → Prop) → Prop := fun ds R => match ds with
  | [.list ps] => (∀ p ∈ ps, pairTup p) ∧ R (.dict (dictOf ps))
  | _ => False
section
variable {K : PySem.W.Frag} {ib : Option Nat} {b : Bg}
theorem pairs_rows {S : Hp} : ∀ {vs : List V} {ps : List PyData}, Reps K S vs ps → (∀ p ∈ ps, pairTup p) → ∃ ts rows, vs = ts.map V.ref ∧ Paired (PairIs K S) ts rows ∧
    ∀ us, Vals (rows.map (·.2.2)) us → ∀ (xs : List NRow) (kvs : List (PyData × PyData)), Paired (RowR K S) xs kvs → Paired (RowR K S) (PySem.storedAllH xs (krows rows us)) (ps.foldl putP2 kvs)
  | _, _, .nil, _ => ⟨[], [], rfl, .nil, fun us h xs kvs p => p⟩
  | _, _, .cons (v := v) (d := d) r q, h => by
    obtain ⟨ts, rows, e1, e2, e3⟩ := pairs_rows q fun p hp => h p (List.mem_cons_of_mem _ hp)
    have hd := h _ (List.mem_cons_self ..)
    unfold pairTup at hd
    split at hd
    · rename_i k x
      obtain ⟨⟨ks, rfl⟩, ek, hk, h8⟩ := hd
      obtain ⟨t, ws, rfl, hq, rw'⟩ := r.tupV
      cases rw' with
      | cons r1 rw' =>
      cases rw' with
      | cons r2 rw' =>
      cases rw'
      rename_i v1 v2
      obtain ⟨c, _, rfl, _, _⟩ := id r1.tupV
      refine ⟨t :: ts, (ek, c, v2) :: rows, by rw [e1]; rfl, .cons ⟨hq, _, r1, hk, h8⟩ e2, fun us hv xs kvs p => ?_⟩
      cases hv with
      | cons h1 h2 =>
      rename_i u us
      exact e3 us h2 _ _ (row_put hk h8 r1 r2 h1 p)
    · exact hd.elim
theorem simc_dictN : SimC K ib b (rDictN K) dDictN := by
  intro S H xs ds R Q o r h k
  unfold dDictN at h
  split at h
  · rename_i ps
    obtain ⟨hp, h⟩ := h
    cases r with
    | cons r1 r2 =>
      cases r2
      obtain ⟨a, vs, rfl, hS, rs⟩ := r1.lstV
      obtain ⟨ts, rows, rfl, e2, e3⟩ := pairs_rows rs hp
      refine ⟨a, ts, rows, rfl, SqL.of (o.sub _ _ hS), Paired.mapP e2 fun t r z => ⟨ex_t o.sub z.1, by
        obtain ⟨d, z1, z2, z3⟩ := z.2
        exact ⟨d, z1.mono o.sub, z2, z3⟩⟩, fun p od us hv hn => ?_⟩
      have hSp := Ex.none_of o.sub hn
      have ex : Ex S (upd S p (HP TheW.w p (PySem.storedAllH [] (krows rows us)) od)) := Ex.new hSp
      refine k _ _ _ _ (Go.laid o hn) ?_ h
      have pr := Paired.mapP (e3 us hv [] [] .nil) fun _ _ z => RowR.mono ex z
      obtain ⟨i1, i2, i3, vs, i4, i5⟩ := rows_reps pr
      show Rep K _ (.ref p) (.dict (ps.foldl putP2 []))
      rw [← zip_self (ps.foldl putP2 [])]
      exact .dN upd_same i1 i2 i3 i4 i5
  · exact h.elim
end
end DL

/-! a, b = e, {} and a, b = {}, e by a tuple that is made. -/
namespace DL
open PySem PySem.Spec PyProof.Rows L2
open Evl (Ex ex_l ex_t)
variable [TheW]
theorem units70 {k : Nat} {A : Around} (r : Room k A) : A.units + 70 < cLine := by have := r.un; omega
section
variable {K : PySem.W.Frag} {ib : Option Nat} {b : Bg} {te ta tb : TE} {de da db : DE}
theorem sim_tupND {w : World} {i j : Nat} (hi : ib ≠ some i) (hj : ib ≠ some j) (hij : i ≠ j) (h1 : SimE K ib b ta da) :
    SimS K ib b (tAsg (tTup (tCons ta (tCons (tDNewN w) tNil))) (gTup K 2 (gCons (gName i) (gCons (gName j) gNil)))) (dParND w i j da) := by
  intro S0 H0 Sm S H σ δ D DD o em g0 e h x
  refine h1 H0 S H σ δ _ _ g0.ok e h fun S1 H1 v dv g1 r q => ?_
  intro p hp
  have g01 := g0.trans o g1
  have g2 : Go ib b S1 H1 S1 (upd H1 p (HN w p [])) := Go.laidOwn g1.ok hp
  have g02 := g01.trans o g2
  have e1 := e.go g1
  refine ⟨by show 2 ≤ sizeLine; decide, fun t ht => ?_⟩
  have g3 : Go ib b S1 (upd H1 p (HN w p [])) S1 (upd (upd H1 p (HN w p [])) t (.tup [v, .ref p])) := Go.laidOwn g2.ok ht
  have npt : p ≠ t := by
    intro z
    rw [← z, upd_same] at ht
    cases ht
  refine ⟨t, _, rfl, .inl (.inl upd_same), rfl, _, _, rfl, _, _, rfl, rfl, ?_⟩
  refine x.nx S1 _ _ _ (g02.trans o g3) (em.trans g1.st) (((e1.go (g2.trans g1.ok g3)).set hi r).setDct hj (by rw [upd_ne npt, upd_same]) (c := .dn w []) (show CtOk K S1 p (HN w p []) (.dn w []) from ⟨[], rfl, .nil⟩) (Ex.none_of g1.ok.sub hp) (g01.fresh o hp) (fun z w => (g1.ok.bag z).tr (w ▸ hp)) (fun m c' hm a1 a2 => ?_)) q
  by_cases hmi : m = i
  · subst hmi
    have hlt : m < δ.length := by
      obtain ⟨w, _⟩ := List.getElem?_eq_some_iff.mp a1
      rwa [List.length_set] at w
    rw [List.getElem?_set_self hlt] at a1
    cases a1
  · rw [List.getElem?_set_ne (Ne.symm hmi)] at a1 a2
    obtain ⟨p', o', b1, b2, _⟩ := e1.dct m c' a1
    rw [b1] at a2
    have : p' = p := V.ref.inj (Option.some.inj (Option.some.inj a2))
    rw [this, hp] at b2
    cases b2
theorem sim_tupDN {w : World} {i j : Nat} (hi : ib ≠ some i) (hj : ib ≠ some j) (h1 : SimE K ib b tb db) :
    SimS K ib b (tAsg (tTup (tCons (tDNewN w) (tCons tb tNil))) (gTup K 2 (gCons (gName i) (gCons (gName j) gNil)))) (dParDN w i j db) := by
  intro S0 H0 Sm S H σ δ D DD o em g0 e h x p hp
  have g1 : Go ib b S H S (upd H p (HN w p [])) := Go.laidOwn g0.ok hp
  have e1 := e.go g1
  have nb : ib ≠ none → p ≠ b.1 := fun z w => (g0.ok.bag z).tr (w ▸ hp)
  refine h1 H0 S _ σ δ _ _ g1.ok e1 h fun S2 H2 v dv g2 r q => ?_
  have g12 := g1.trans g0.ok g2
  have g02 := g0.trans o g12
  have hp2 : H2 p = some (HN w p []) := g2.keep p _ nb upd_same
  have hS2 : S2 p = none := g2.new p (by rw [upd_same]; exact Option.some_ne_none _) (Ex.none_of g0.ok.sub hp)
  refine ⟨by show 2 ≤ sizeLine; decide, fun t ht => ?_⟩
  have g3 : Go ib b S2 H2 S2 (upd H2 t (.tup [.ref p, v])) := Go.laidOwn g02.ok ht
  have npt : p ≠ t := by
    intro z
    rw [← z, hp2] at ht
    cases ht
  refine ⟨t, _, rfl, .inl (.inl upd_same), rfl, _, _, rfl, _, _, rfl, rfl, ?_⟩
  have e2 := e1.go (g2.trans g1.ok g3)
  refine x.nx S2 _ _ _ (g02.trans o g3) (em.trans g12.st) (((e2.setDct hi (by rw [upd_ne npt]; exact hp2) (c := .dn w []) (show CtOk K S2 p (HN w p []) (.dn w []) from ⟨[], rfl, .nil⟩) hS2 (g0.fresh o hp) nb (fun m c' hm a1 a2 => ?_)).set hj r)) q
  obtain ⟨p', o', b1, b2, _⟩ := e.dct m c' a1
  rw [b1] at a2
  have : p' = p := V.ref.inj (Option.some.inj (Option.some.inj a2))
  rw [this, hp] at b2
  cases b2
end
end DL

/-! enumerate of a tuple, of a list, as data. -/
namespace DL
open PySem PySem.Spec PyProof.Rows L2
open Evl (Ex ex_l ex_t)
variable [TheW]
theorem meets_enum1 {v : Value} {o : Obj} {G : Heap → Prop} (B : Begins v o G) :
    Meets (Builtin.«enumerate.__new__» ⟨[.type "enumerate", v], []⟩) (fun _ R s => G s.heap ∧
      R (.ok (.ret (.ref (s.heap.push o).objs.size))) { s with heap := (s.heap.push o).push { cls := .type "enumerate", data := .fields #[.none, .bool false, .ref s.heap.objs.size, rawInt 0, .none, .none] } }) :=
  .of_wp fun prog w A R s ⟨h1, h⟩ => by
    obtain ⟨hp, g, d, tk, os⟩ := s
    have hsub := sub_enumerate
    have q1 : ∀ {A' : Around} {E : Value → Shared → Prop} {Q : Value → Shared → Prop}, Q (.ref hp.objs.size) ⟨hp.push o, g, d, tk, os⟩ → wpAny (model prog w) A' (pyIter v) Q E ⟨hp, g, d, tk, os⟩ :=
      fun q => B.iter prog w _ _ ⟨hp, g, d, tk, os⟩ _ h1 q
    wp_walk using q1
    refine wpAny_stack_any fun st => wpAny_pure ?_
    split
    · rename_i c _ _ _ _ _
      by_cases z : (c == Value.type "enumerate") = true
      · simp only [z]
        wp_walk using q1
        exact ⟨_, rfl, h⟩
      · simp only [z]
        wp_walk using q1
        exact ⟨_, rfl, h⟩
    · wp_walk using q1
      exact ⟨_, rfl, h⟩
section
variable {P : Program} {w : World} {A : Around} {E : Value → Shared → Prop} {s : Shared}
theorem call_enumT {a : Addr} {items : Array Value} {Q : Value → Shared → Prop} (ht : s.heap.IsTuple a items)
    (q : ∀ h', IsEnum h' (s.heap.objs.size + 1) s.heap.objs.size 0 .none → h'.IsTupleIter s.heap.objs.size a 0 → (∀ b o, s.heap.get? b = some o → h'.get? b = some o) → Q (.ref (s.heap.objs.size + 1)) { s with heap := h' }) :
    wpAny (model P w) A (call (.type "enumerate") [.ref a]) Q E s := by
  refine callType_new F.called_enumerate (by decide) (F.typeCall_enumerate_1 _) (F.newCall_enumerate_1 _) (fun ob => F.args_object_init_2 ob _) F.entry_enumerate_new
    (meets_enum1 (begins_tuple a items)) ⟨ht, ?_⟩
  generalize ho : ({ cls := .type "tuple_iterator", data := .fields #[.ref a, .int 0 0] } : Obj) = o
  have fr : o.isFreed = false := by rw [← ho]; rfl
  have hz : (s.heap.push o).objs.size = s.heap.objs.size + 1 := Heap.size_push ..
  have he := Heap.get?_push_size (s.heap.push o) (o := { cls := .type "enumerate", data := .fields #[.none, .bool false, .ref s.heap.objs.size, rawInt 0, .none, .none] }) rfl
  have hit := Heap.get?_push_of_some { cls := .type "enumerate", data := .fields #[.none, .bool false, .ref s.heap.objs.size, rawInt 0, .none, .none] } (Heap.get?_push_size s.heap fr)
  rw [hz] at he
  refine ⟨⟨{ cls := .type "enumerate", data := .fields #[.none, .bool false, .ref s.heap.objs.size, rawInt 0, .none, .none] }, ?_, rfl⟩, ?_⟩
  · rw [hz]; exact he
  · rw [hz]
    exact q _ he ⟨o, hit, by rw [← ho], by rw [← ho]; rfl⟩ fun b o e => Heap.get?_push_of_some _ (Heap.get?_push_of_some _ e)
end
theorem apart {h : Heap} {e it a : Addr} {i : Int} {old : Value} {its : Array Value} (he : IsEnum h e it i old) (p : h.IsTuple a its) : e ≠ a := fun z => by
  obtain ⟨o, ho, hc, _⟩ := p
  rw [← z, show h.get? e = some _ from he] at ho
  cases ho
  exact absurd (show Value.type "enumerate" = Value.type "tuple" from hc) (by decide)
/-- the tuple xs at a, each item in a new pair -/
def IeT (K : PySem.W.Frag) (a : Addr) (xs : List V) : It :=
  ⟨fun i H => SqT K H a xs ∧ i < xs.length, fun i H v H' => ∃ T x, v = .ref T ∧ H T = none ∧ H' = upd H T (.tup [.int (i : Nat), x]) ∧ xs[i]? = some x, fun i H => SqT K H a xs ∧ i = xs.length⟩
section
variable {P : Program} {w : World} {K : PySem.W.Frag} {elts : List Expr} {kk : Nat} {tpos : Pos}
theorem turn_enumT (a e it : Addr) (xs : List V) (ha : a ≠ it) : Turn P w K (.Tuple elts kk tpos) (IeT K a xs) [e, it] e (fun i h => (∃ old, IsEnum h e it ((i : Nat) : Int) old) ∧ h.IsTupleIter it a i ∧ e ≠ it) where
  mem := by simp
  obj := fun i h ⟨⟨old, he⟩, ⟨o, ho, hc, hd⟩, _⟩ b hb => by
    rcases (show b = e ∨ b = it by simpa using hb) with z | z
    · rw [z]; exact ⟨_, he, fun v q => nomatch q⟩
    · rw [z]; exact ⟨o, ho, fun v q => by rw [hd] at q; cases q⟩
  keep := fun i h h' ⟨⟨old, he⟩, hi, hne⟩ k => ⟨⟨old, k e (by simp) _ he⟩, hi.at fun o q => k it (by simp) o q, hne⟩
  item := by
    intro X hP hw hK hc i pins s σ H E I hf ⟨⟨old, he⟩, hit, hne⟩ ⟨hq, hi⟩
    subst hP hw hK
    obtain ⟨its, rv, p, hz⟩ := I.tuple hq
    have hx : xs[i]? = some xs[i] := List.getElem?_eq_getElem hi
    obtain ⟨u, hu, ru⟩ := rv.get hx
    have ea : e ≠ a := apart he p
    refine wpAny_pyNext_enum_itemD (Draws.tuple (by simp [I.ok.hd hc]) it a ha its.toArray) he ⟨hit, p⟩ (by have := rv.length; simp; omega) hne (by simp [hne, ea]) fun x h' tk hx' ho st hT hsz hk => ?_
    obtain ⟨hit', p'⟩ := st
    obtain rfl : u = x := by
      have : its.toArray[i]? = some u := by simpa using hu
      rw [this] at hx'
      cases hx'
      rfl
    have hel : e < s.heap.objs.size := Heap.lt_size he
    have hil : it < s.heap.objs.size := by obtain ⟨_, q, _⟩ := hit; exact Heap.lt_size q
    refine ⟨_, rfl, wpAny_letOwnedTupleGo_enum (s := { s with heap := h', toks := tk + 1 }) ho fun h'' he' sb => ?_⟩
    have hT2 : h''.get? s.heap.objs.size = some { cls := .type "tuple", data := .seq #[.int i tk, u] } := (sb.2 _ (Nat.ne_of_gt hel)).trans hT
    have new : ObjOk X.prog X.w (upd H s.heap.objs.size (.tup [.int (i : Nat), xs[i]])) h'' s.heap.objs.size (.tup [.int (i : Nat), xs[i]]) :=
      ⟨by show 2 ≤ sizeLine; decide, [.int i tk, u], .cons ⟨_, rfl⟩ (.cons ru .nil), ⟨_, hT2, rfl, _, rfl⟩⟩
    have I1 : Inv X pins σ (upd H s.heap.objs.size (.tup [.int (i : Nat), xs[i]])) { s with heap := h'', toks := tk + 1 } :=
      I.turnedNew (ch := [e, it]) (fun b ob hb q => (sb.2 b (fun z => hb (by simp [z]))).trans (hk b ob (fun z => hb (by simp [z])) (fun z => hb (by simp [z])) q)) hf (Nat.le_refl _) new
    refine ⟨.ref s.heap.objs.size, _, I1, rfl, ⟨_, _, rfl, I.hok.fresh (Nat.le_refl _), rfl, hx⟩, ⟨⟨u, ?_⟩, hit'.at fun o q => (sb.2 it (Ne.symm hne)).trans q, hne⟩, fun b hb => ?_⟩
    · rw [show ((i + 1 : Nat) : Int) = (i : Int) + 1 by omega]
      exact he'
    · have hb' : b < s.heap.objs.size := by
        rcases (show b = e ∨ b = it by simpa using hb) with z | z
        · rw [z]; exact hel
        · rw [z]; exact hil
      rw [upd_ne (Nat.ne_of_lt hb')]
      exact (hf b hb).1
  done := by
    intro X hP hw hK hc i pins s σ H E I hf ⟨⟨old, he⟩, hit, hne⟩ ⟨hq, hi⟩
    subst hP hw hK
    obtain ⟨its, rv, p, hz⟩ := I.tuple hq
    obtain ⟨f0, f1, f2, f3, f4, f5⟩ := hf it (by simp)
    have hl : i = its.toArray.size := by rw [hi, rv.length]; simp
    subst hl
    exact wpAny_pyNext_enum_endD (Draws.tuple (by simp [I.ok.hd hc]) it a ha its.toArray) he ⟨hit, p⟩ fun h' eb => ⟨rfl, I.turned (t' := s.toks) (fun b o hb q => eb b o hb q) f0 f1 f3 f4 f5⟩
  self := fun A i s Q E ⟨⟨_, he⟩, _⟩ h => wpAny_pyIter_enum he h
def iEnT (K : PySem.W.Frag) (ta : TA) : TI := fun σ H R => ta σ H fun vs H1 => ∃ a xs, vs = [.ref a] ∧ SqT K H1 a xs ∧ R (IeT K a xs) H1
theorem pi_enumT {X : Cx} {e : Expr} {ta : TA} {p pos : Pos} (hg : Gl X "enumerate") (hm : X.mg "enumerate" = none) (ha : PA X [e] ta) (hs : starEach [e] X.env = [(false, eval e X.env)] := by rfl) :
    PI X (.Tuple elts kk tpos) (.Call (.Name "enumerate" p) [e] [] pos) (iEnT X.K ta) := by
  refine ⟨fun pins s σ H R I h => ?_⟩
  refine Call_ (ld_blt I hg hm boot_enumerate (PyProof.Rows.callWith_type1 (thn (ha.run pos pins s σ H _ I h) fun us s1 ⟨vs, H1, I1, r1, a, xs, ex, hq, q⟩ => ?_) hs rfl))
  subst ex
  obtain ⟨u, rfl, ru⟩ := vals1 r1
  obtain rfl : u = Value.ref a := ru
  obtain ⟨its, rv, p', hz⟩ := I1.tuple hq
  refine call_enumT p' fun h' he hit hk => wpAny_pyIter_enum he ?_
  have I2 : Inv X pins σ H1 { s1 with heap := h' } := I1.kept (t' := s1.toks) hk
  have la : a < s1.heap.objs.size := by obtain ⟨_, z, _⟩ := p'; exact Heap.lt_size z
  refine ⟨s1.heap.objs.size + 1, [s1.heap.objs.size + 1, s1.heap.objs.size], _, _, H1, rfl, I2, turn_enumT a (s1.heap.objs.size + 1) s1.heap.objs.size xs (Nat.ne_of_lt la), ⟨⟨.none, he⟩, hit, Nat.succ_ne_self _⟩, fun b hb => ?_, q⟩
  have hle : s1.heap.objs.size ≤ b := by
    rcases (show b = s1.heap.objs.size + 1 ∨ b = s1.heap.objs.size by simpa using hb) with z | z
    · rw [z]; exact Nat.le_succ _
    · rw [z]; exact Nat.le_refl _
  exact I1.fpOk hle (I1.hok.fresh hle)
end
/-! over data -/
def numsD (ds : List PyData) : List PyData := ds.zipIdx.map fun p => .tuple [.int (p.2 : Nat), p.1]
theorem nums_len (ds : List PyData) : (numsD ds).length = ds.length := by simp [numsD]
theorem nums_get {ds : List PyData} {i : Nat} {d : PyData} (h : ds[i]? = some d) : (numsD ds)[i]? = some (.tuple [.int (i : Nat), d]) := by
  simp [numsD, List.getElem?_map, List.getElem?_zipIdx, h]
def dEnum (de : DE) : DA := fun δ R => de δ fun x => match x with
  | .tuple ds => R (numsD ds)
  | _ => False
def dEnumL (de : DE) : DA := fun δ R => de δ fun x => match x with
  | .list ds => R (numsD ds)
  | _ => False
section
variable {K : PySem.W.Frag} {ib : Option Nat} {b : Bg} {te : TE} {de : DE}
theorem laid_pair {S H : Hp} {T : Addr} {x : V} {d : PyData} {i : Nat} (o : Okk ib b S H) (hT : H T = none) (r : Rep K S x d) :
    ∃ S2, Go ib b S H S2 (upd H T (.tup [.int (i : Nat), x])) ∧ Rep K S2 (.ref T) (.tuple [.int (i : Nat), d]) := by
  have g := Go.laid (u := .tup [.int (i : Nat), x]) o hT
  exact ⟨_, g, .tup (Evl.st_of upd_same) (.cons (.int _) (.cons (r.mono g.st) .nil))⟩
theorem sim_iEnum (h1 : SimE K ib b te de) : SimI K ib b (iEnT K (tCons te tNil)) (dEnum de) := by
  intro H0 S H σ δ R Q o e h k
  refine h1 H0 S H σ δ _ _ o e h fun S1 H1 v dv g r q => ?_
  cases r with
  | tup hq rs =>
    rename_i a xs ds
    refine ⟨a, xs, rfl, ex_t g.ok.sub hq, k S1 H1 _ _ g (fun S2 H2 ex o2 => ?_) q⟩
    have hL : SqT K H2 a xs := ex_t o2.sub (ex_t ex hq)
    have rl := rs.length
    have nl := nums_len ds
    refine ⟨fun i hi => ⟨hL, by omega⟩, ⟨hL, by omega⟩, fun i x H' hi y => ?_⟩
    obtain ⟨T, x0, rfl, hT, rfl, hx⟩ := y
    obtain ⟨d, hd, rd⟩ := rs.getV hx
    obtain ⟨S3, g3, r3⟩ := laid_pair (i := i) o2 hT (rd.mono ex)
    exact ⟨S3, _, g3, nums_get hd, r3⟩
  | _ => exact q.elim
theorem sim_iEnumL (h1 : SimE K ib b te de) : SimI K ib b (iEnum K (tCons te tNil)) (dEnumL de) := by
  intro H0 S H σ δ R Q o e h k
  refine h1 H0 S H σ δ _ _ o e h fun S1 H1 v dv g r q => ?_
  cases r with
  | lst hq rs =>
    rename_i a xs ds
    refine ⟨a, xs, rfl, SqL.of (g.ok.sub _ _ hq), k S1 H1 _ _ g (fun S2 H2 ex o2 => ?_) q⟩
    have hL : SqL K H2 a xs := SqL.of (o2.sub _ _ (ex _ _ hq))
    have rl := rs.length
    have nl := nums_len ds
    refine ⟨fun i hi => ⟨xs, xs[i]'(by omega), hL, by simp⟩, ⟨xs, hL, by omega⟩, fun i x H' hi y => ?_⟩
    obtain ⟨T, x0, rfl, hT, rfl, hx⟩ := y
    obtain ⟨d, hd, rd⟩ := rs.getV (hx xs hL)
    obtain ⟨S3, g3, r3⟩ := laid_pair (i := i) o2 hT (rd.mono ex)
    exact ⟨S3, _, g3, nums_get hd, r3⟩
  | _ => exact q.elim
end
end DL

/-! Comprehensions of two clauses. -/
namespace DL
open PySem PySem.Spec PyProof.Rows L2
open Evl (Ex ex_l ex_t)
variable [TheW]
/-- one turn of a clause: em where the tests hold, then nx -/
def oneTurn (tg : Expr) (ifs : List Expr) (p : Pos) (env : Env) (it : Value) (em : Sem Fin → Sem Fin) (nx : Sem Fin) : Sem Fin := do
  standAt p
  match ← pyNext it with
  | none => pure (.done .next)
  | some v =>
    letOwnedTupleGo tg it v
    assign tg env v
    let mut ok := true
    for c in ifs do
      if ok then ok ← isTrue c env (eval c env)
    if ok then em nx else nx
/-- k: v put into the dict at D -/
def emD (kx vx : Expr) (D : Addr) (env : Env) : Sem Unit := do
  let kv ← eval kx env
  let vv ← holding [kv] (eval vx env)
  standAt { kx.pos with endLine := vx.pos.endLine, endCol := vx.pos.endCol }
  holding [kv, vv] (dictSet D kv vv)
/-- x put to the list -/
def emL (elt : Expr) (acc : Value) (env : Env) : Sem Unit := do let _ ← call (.builtin "list.append") [acc, ← eval elt env]
/-- the next clause's loop -/
def emIn (e iter : Expr) (acc : Value) (env : Env) (nx : Sem Fin) : Sem Fin := do
  let x ← eval iter env
  standAt iter.pos
  let x ← foldedSetIterable iter env x
  let _ ← runOwn (.compStart e 1 (← holding [x] (pyIter x)) acc env) env
  nx
def emOut (em : Sem Unit) (nx : Sem Fin) : Sem Fin := em >>= fun _ => nx
section
variable {kx vx elt t0 i0 t1 i1 : Expr} {f0 f1 : List Expr} {scope : Scope} {pos : Pos} {it acc : Value} {D : Addr} {env : Env}
theorem turnD0 : compTurn (.DictComp kx vx [⟨t0, i0, f0, 0⟩, ⟨t1, i1, f1, 0⟩] scope pos) 0 it acc env =
    oneTurn t0 f0 i0.pos env it (emIn (.DictComp kx vx [⟨t0, i0, f0, 0⟩, ⟨t1, i1, f1, 0⟩] scope pos) i1 acc env) (again (.compLoop (.DictComp kx vx [⟨t0, i0, f0, 0⟩, ⟨t1, i1, f1, 0⟩] scope pos) 0 it acc env)) := by rfl
theorem turnD1 : compTurn (.DictComp kx vx [⟨t0, i0, f0, 0⟩, ⟨t1, i1, f1, 0⟩] scope pos) 1 it (.ref D) env =
    oneTurn t1 f1 i1.pos env it (emOut (emD kx vx D env)) (again (.compLoop (.DictComp kx vx [⟨t0, i0, f0, 0⟩, ⟨t1, i1, f1, 0⟩] scope pos) 1 it (.ref D) env)) := by rfl
theorem turnL0 : compTurn (.ListComp elt [⟨t0, i0, f0, 0⟩, ⟨t1, i1, f1, 0⟩] scope pos) 0 it acc env =
    oneTurn t0 f0 i0.pos env it (emIn (.ListComp elt [⟨t0, i0, f0, 0⟩, ⟨t1, i1, f1, 0⟩] scope pos) i1 acc env) (again (.compLoop (.ListComp elt [⟨t0, i0, f0, 0⟩, ⟨t1, i1, f1, 0⟩] scope pos) 0 it acc env)) := by rfl
theorem turnL1 : compTurn (.ListComp elt [⟨t0, i0, f0, 0⟩, ⟨t1, i1, f1, 0⟩] scope pos) 1 it acc env =
    oneTurn t1 f1 i1.pos env it (emOut (emL elt acc env)) (again (.compLoop (.ListComp elt [⟨t0, i0, f0, 0⟩, ⟨t1, i1, f1, 0⟩] scope pos) 1 it acc env)) := by rfl
end
section
variable {P : Program} {w : World} {A : Around} {R : Result → Shared → Prop} {s : Shared} {e tg : Expr} {ifs : List Expr} {p : Pos} {d : Nat} {it acc : Value} {env : Env} {em : Sem Fin → Sem Fin}
/-- what em does ends in Q; no raise -/
def Puts (P : Program) (w : World) (A : Around) (em : Sem Fin → Sem Fin) (Q : Shared → Prop) (s : Shared) : Prop := ∀ (nx : Sem Fin) (Q' : Fin → Shared → Prop) (E : Value → Shared → Prop), (∀ s', Q s' → wpAny (model P w) A nx Q' E s') → wpAny (model P w) A (em nx) Q' E s
theorem Puts.out {em : Sem Unit} {Q : Shared → Prop} (h : wpAny (model P w) A em (fun _ s' => Q s') (fun _ _ => False) s) : Puts P w A (emOut em) Q s := fun nx Q' E q => wpAny_bind (thnF h fun _ s' z => q s' z)
/-- a comprehension that is laid in place (no generator) -/
structure InPlace (P : Program) (w : World) (e : Expr) : Prop where
  q : ∀ d it acc env, (Code.compLoop e d it acc env).quiet = true
  u1 : ∀ (A : Around) d it acc env, A.under (.compLoop e d it acc env) = A
  d1 : ∀ d it acc env, (model P w).den (.compLoop e d it acc env) = ((compTurn e d it acc env).onRaise (fun x => do noteFrame x env; theTreesLotGoes x))
  u2 : ∀ (A : Around) d it acc env, A.under (.compStart e d it acc env) = A
  d2 : ∀ d it acc env, (model P w).den (.compStart e d it acc env) = ((compStart e d it acc env).onRaise (fun x => do noteFrame x env; standAt theWindowsPlace))
theorem inPlace_dict {kx vx : Expr} {gs : List Comprehension} {scope : Scope} {pos : Pos} : InPlace P w (.DictComp kx vx gs scope pos) := ⟨fun _ _ _ _ => rfl, fun _ _ _ _ _ => rfl, fun _ _ _ _ => rfl, fun _ _ _ _ _ => rfl, fun _ _ _ _ => rfl⟩
theorem inPlace_list {elt : Expr} {gs : List Comprehension} {scope : Scope} {pos : Pos} : InPlace P w (.ListComp elt gs scope pos) := ⟨fun _ _ _ _ => rfl, fun _ _ _ _ _ => rfl, fun _ _ _ _ => rfl, fun _ _ _ _ _ => rfl, fun _ _ _ _ => rfl⟩
/-- a clause's loop: no turn raises -/
theorem loopEm (ip : InPlace P w e) (ht : compTurn e d it acc env = oneTurn tg ifs p env it em (again (.compLoop e d it acc env))) (I : Nat → Shared → Prop)
    (turn : ∀ n s, I n s → wpAny (model P w) A (pyNext it) (fun r s₁ => match r with
      | none => R (.ok .next) s₁
      | some v => wpAny (model P w) A (letOwnedTupleGo tg it v) (fun _ s₂ => wpAny (model P w) A (assign tg env v) (fun _ s₃ =>
          wpAny (model P w) A (forIn ifs true fun c r => if r = true then do let ok ← isTrue c env (eval c env); pure (ForInStep.yield ok) else pure (ForInStep.yield r)) (fun ok s₄ =>
            if ok = true then Puts P w A em (fun s₅ => ∃ m, m < n ∧ I m s₅) s₄ else ∃ m, m < n ∧ I m s₄) (fun _ _ => False) s₃) (fun _ _ => False) s₂) (fun _ _ => False) s₁) (fun _ _ => False) s)
    (n : Nat) (h : I n s) : codeAny (model P w) A (.compLoop e d it acc env) R s := by
  refine codeAny_loop (ip.q ..) I (fun n s hI => ?_) n h
  rw [ip.u1, ip.d1]
  refine wpAny_noted ?_
  rw [ht]
  unfold oneTurn
  refine wpAny_bind (wpAny_standAt (wpAny_bind (thnF (turn n s hI) fun r s₁ h₁ => ?_)))
  cases r with
  | none => exact wpAny_pure h₁
  | some v =>
    refine wpAny_bind (thnF h₁ fun _ s₂ h₂ => ?_)
    refine wpAny_bind (thnF h₂ fun _ s₃ h₃ => wpAny_bind (thnF h₃ fun ok s₄ h₄ => ?_))
    cases ok with
    | false => exact wpAny_pure ⟨rfl, h₄⟩
    | true =>
      rw [if_pos rfl] at h₄
      exact h₄ _ _ _ fun s₅ h₅ => wpAny_pure ⟨rfl, h₅⟩
theorem startEm (ip : InPlace P w e) {g : Comprehension} (hg : (clausesOf e)[d]? = some g) (ha : g.is_async = 0) (h0 : codeAny (model P w) A (.compLoop e d it acc env) R s)
    (h : wpAny (model P w) A (pyIter it) (fun it' s' => codeAny (model P w) A (.compLoop e d it' acc env) R s') (fun _ _ => False) s) : codeAny (model P w) A (.compStart e d it acc env) R s := by
  refine codeAny_of_tree ?_
  rw [ip.u2, ip.d2]
  refine wpAny_notedAt ?_
  unfold compStart
  rw [hg]
  simp only [Option.elim, ha]
  show wpAny _ A (ask >>= _) _ _ s
  refine wpAny_bind (wpAny_askSetting (wpAny_ite ?_))
  split
  · first
      | exact wpAny_bind (wpAny_pure (wpAny_pure (And.intro rfl h0)))
      | exact wpAny_pure (And.intro rfl h0)
  · refine wpAny_bind (wpAny_rule ?_)
    show wpAny _ _ (standAt g.iter.pos >>= _) _ _ s
    exact wpAny_bind (wpAny_standAt (wpAny_bind (thnF h fun it' s' h' => wpAny_pure (And.intro rfl h'))))
end
end DL

/-! Comprehensions of two clauses: readings. -/
namespace DL
open PySem PySem.Spec PyProof.Rows L2
open Evl (Ex ex_l ex_t)
variable [TheW]
/-- what is put, read: to where it goes -/
abbrev TPut := L2.St → Hp → (Hp → Prop) → Prop
structure PM (Y : Cx) (em : Sem Fin → Sem Fin) (t : TPut) (vs : List Nat) : Prop where
  run : ∀ (pins : List (Addr × Obj)) (s : Shared) (σ : L2.St) (H : Hp) (N : Hp → Prop), Inv Y pins σ H s → t σ H N → Puts Y.prog Y.w Y.A em (fun s' => ∃ H', Inv Y pins (wipe σ vs) H' s' ∧ N H') s
def putD (tk tv : TE) (D : Addr) : TPut := fun σ H N => tk σ H fun y H1 => tv σ H1 fun z H2 => ∃ kvs k, y = kV k ∧ H2 D = some (.dK kvs) ∧ kvs.length < sizeLine ∧ N (upd H2 D (.dK (putK kvs k z)))
def putL (te : TE) (D : Addr) : TPut := fun σ H N => te σ H fun y H1 => ∃ acc, H1 D = some (.lst acc) ∧ acc.length < sizeLine ∧ N (upd H1 D (.lst (acc ++ [y])))
/-- one turn's reading, N behind it -/
def turnT (J : It) (g : TG) (tt : TT) (t : TPut) (vs : List Nat) (σ : L2.St) (i : Nat) (H : Hp) (N : Hp → Prop) : Prop := ∀ x H', J.yld i H x H' → g x (wipe σ vs) H' fun σ2 H2 => wipe σ2 vs = wipe σ vs ∧ tt σ2 H2 fun b H3 => if b = true then t σ2 H3 N else N H3
/-- all turns from H on, Q behind them -/
def walkT (J : It) (g : TG) (tt : TT) (t : TPut) (vs : List Nat) (σ : L2.St) (H1 : Hp) (Q : Hp → Prop) : Prop := ∃ W : Nat → Nat → Hp → Prop, (∃ m, W 0 m H1) ∧ ∀ i m H, W i m H →
  (J.stop i H ∧ Q H) ∨ (J.go i H ∧ ∃ N : Hp → Prop, (∀ H', N H' → ∃ m', m' < m ∧ W (i + 1) m' H') ∧ turnT J g tt t vs σ i H N)
def putIn2 (wi : TI) (g : TG) (tt : TT) (t : TPut) (vs : List Nat) : TPut := fun σ H N => wi σ H fun J H1 => walkT J g tt t vs σ H1 N
def tC2 (wi : TI) (g : TG) (tt : TT) (t : Addr → TPut) (u0 : HO) (vs : List Nat) : TE := fun σ H Q => wi σ H fun J H1 => ∀ D, H1 D = none → walkT J g tt (t D) vs σ (upd H1 D u0) (Q (.ref D))
section
variable {Y : Cx}
theorem pm_D {kx vx : Expr} {tk tv : TE} {D : Addr} (hx : Y.xe = fun _ _ => False) (hk : PE Y kx tk) (hv : PE Y vx tv) : PM Y (emOut (emD kx vx D Y.env)) (putD tk tv D) [] := by
  refine ⟨fun pins s σ H N I h => Puts.out ?_⟩
  unfold emD
  have k1 := hk.run pins s σ H _ I h
  rw [hx] at k1
  refine wpAny_bind (thnF k1 fun u s1 ⟨y, H1, I1, r1, q1⟩ => ?_)
  have k2 := hv.run pins s1 σ H1 _ I1 q1
  rw [hx] at k2
  refine wpAny_bind (wpAny_holding (thnF k2 fun r s2 ⟨z, H2, I2, r2, kvs, k, ek, hD, hz, nx⟩ => ?_))
  subst ek
  refine wpAny_bind (wpAny_standAt (wpAny_holding ?_))
  exact d_dictSet I2 hD hz r1 r2 fun s3 I3 => ⟨_, I3, nx⟩
/-- the turns of a loop in place -/
theorem walkPM {e tg : Expr} {ifs : List Expr} {p : Pos} {d : Nat} {acc : Value} {em : Sem Fin → Sem Fin} {t : TPut} {vE vs : List Nat} {g : TG} {tt : TT} {J : It} {fp : List Addr} {it : Addr} {tn : Nat → Heap → Prop} {R : Result → Shared → Prop}
    (hx : Y.xe = fun _ _ => False) (hc : Y.calm = true) (ip : InPlace Y.prog Y.w e) (ht : compTurn e d (.ref it) acc Y.env = oneTurn tg ifs p Y.env (.ref it) em (again (.compLoop e d (.ref it) acc Y.env))) (pg : PG Y tg g) (pt : PTs Y ifs tt) (pm : PM Y em t vE) (hE : ∀ v ∈ vE, v ∈ vs)
    (T : Turn Y.prog Y.w Y.K tg J fp it tn) {pins : List (Addr × Obj)} {s : Shared} {σ : L2.St} {H : Hp} {Q : Hp → Prop} (I : Inv Y pins (wipe σ vs) H s) (st : tn 0 s.heap) (f : ∀ b ∈ fp, FpOk Y pins H b) (h : walkT J g tt t vs σ H Q)
    (q : ∀ s' H', Inv Y pins (wipe σ vs) H' s' → (∀ b ∈ fp, H' b = none) → Q H' → R (.ok .next) s') : codeAny (model Y.prog Y.w) Y.A (.compLoop e d (.ref it) acc Y.env) R s := by
  obtain ⟨W, ⟨m0, w0⟩, turn⟩ := h
  have stat : ∀ {H' : Hp}, (∀ b ∈ fp, H' b = none) → ∀ b ∈ fp, FpOk Y pins H' b := fun hn b hb => ⟨hn b hb, (f b hb).2⟩
  refine loopEm ip ht (fun n s' => ∃ i H', Inv Y pins (wipe σ vs) H' s' ∧ tn i s'.heap ∧ (∀ b ∈ fp, H' b = none) ∧ W i n H') ?_ m0 ⟨0, H, I, st, fun b hb => (f b hb).1, w0⟩
  rintro n s1 ⟨i, H1, I1, st1, n1, w1⟩
  rcases turn i n H1 w1 with ⟨stop, qq⟩ | ⟨go, N, hN, step⟩
  · refine thnF (T.done Y rfl rfl rfl hc i pins s1 _ H1 (fun _ _ => False) I1 (stat n1) st1 stop) fun r s2 ⟨hr, I2⟩ => ?_
    subst hr
    exact q s2 H1 I2 n1 qq
  · refine thnF (T.item Y rfl rfl rfl hc i pins s1 _ H1 (fun _ _ => False) I1 (stat n1) st1 go) fun r s2 ⟨u, hr, h2⟩ => ?_
    subst hr
    refine thnF h2 fun _ s3 ⟨x, H3, I3, r3, y3, st3, n3⟩ => ?_
    have I3' := I3.pinned (stat n3) (T.obj _ _ st3)
    have k1 := pg.run _ s3 _ H3 x u _ I3' r3 (step x H3 y3)
    rw [hx] at k1
    refine thnF k1 fun _ s4 ⟨σ4, H4, I4, e4, q4⟩ => ?_
    have k2 := pt.run _ s4 σ4 H4 _ I4 q4
    rw [hx] at k2
    refine thnF k2 fun b s5 ⟨H5, I5, q5⟩ => ?_
    have fin : ∀ {s' : Shared} {H' : Hp}, Inv Y (pins ++ pinsAt fp s3.heap) (wipe σ4 vE) H' s' → N H' → ∃ m, m < n ∧ ∃ i H', Inv Y pins (wipe σ vs) H' s' ∧ tn i s'.heap ∧ (∀ b ∈ fp, H' b = none) ∧ W i m H' := fun {s' H'} I' nx => by
      obtain ⟨m', hm, w'⟩ := hN H' nx
      have pin : ∀ b ∈ fp, ∀ o, s3.heap.get? b = some o → s'.heap.get? b = some o ∧ H' b = none := fun b hb o e =>
        let z := I'.pin (b, o) (List.mem_append_right _ (List.mem_append_right _ (mem_pinsAt hb e)))
        ⟨z.1, z.2.1⟩
      refine ⟨m', hm, i + 1, H', I'.unpinned.weak (by rw [← e4, wipe_length, wipe_length]) (fun j v e => ?_), T.keep _ _ _ st3 fun b hb o e => (pin b hb o e).1, fun b hb => ?_, w'⟩
      · rw [← e4, wipe_get] at e
        rw [wipe_get]
        split at e
        · cases e
        · rename_i c
          rw [if_neg fun z => c ⟨hE j z.1, z.2⟩]
          exact e
      · obtain ⟨o, e, _⟩ := T.obj _ _ st3 b hb
        exact (pin b hb o e).2
    cases b with
    | false =>
      simp only [Bool.false_eq_true, if_false] at q5 ⊢
      refine fin (I5.weak (wipe_length _ _) fun j v e => ?_) q5
      exact (wipe_some e).1
    | true =>
      simp only [if_true] at q5 ⊢
      intro nx Q' E qn
      exact pm.run _ s5 σ4 H5 N I5 q5 nx Q' E fun s6 ⟨H6, I6, n6⟩ => qn s6 (fin I6 n6)
theorem pm_in {e tg iter : Expr} {ifs : List Expr} {p : Pos} {acc : Value} {em : Sem Fin → Sem Fin} {t : TPut} {vE vs : List Nat} {wi : TI} {g : TG} {tt : TT} (hx : Y.xe = fun _ _ => False) (hc : Y.calm = true) (ip : InPlace Y.prog Y.w e)
    (hg : (clausesOf e)[1]? = some ⟨tg, iter, ifs, 0⟩) (ht : ∀ it, compTurn e 1 it acc Y.env = oneTurn tg ifs p Y.env it em (again (.compLoop e 1 it acc Y.env))) (hi : PI Y tg iter wi) (pg : PG Y tg g) (pt : PTs Y ifs tt) (pm : PM Y em t vE) (hE : ∀ v ∈ vE, v ∈ vs)
    (hs : ∀ x, foldedSetIterable iter Y.env x = pure x) : PM Y (emIn e iter acc Y.env) (putIn2 wi g tt t vs) vs := by
  refine ⟨fun pins s σ H N I h nx Q' E qn => ?_⟩
  unfold emIn
  have k1 := hi.run pins s σ H _ I h
  rw [hx] at k1
  refine wpAny_bind (thnF k1 fun v s1 h1 => wpAny_bind (wpAny_standAt ?_))
  rw [hs]
  refine wpAny_bind (wpAny_pure (wpAny_bind (wpAny_holding (thnF h1 fun itv s2 h2 => ?_))))
  obtain ⟨it, fp, tn, J, H2, e2, I2, T, st2, f2, q2⟩ := h2
  subst e2
  refine wpAny_bind (wpAny_runOwn ?_)
  have loop : codeAny (model Y.prog Y.w) Y.A (.compLoop e 1 (.ref it) acc Y.env) (fun r s' => match r with | .ok f => wpAny (model Y.prog Y.w) Y.A nx Q' E s' | .error x => cameBackBy (model Y.prog Y.w) Y.A Y.env E x s') s2 :=
    walkPM hx hc ip (ht _) pg pt pm hE T (I2.weak (wipe_length _ _) fun j v e => (wipe_some e).1) st2 f2 q2 fun s' H' I' n' z => qn s' ⟨H', I', z⟩
  exact startEm ip hg rfl loop (T.self _ 0 _ _ _ st2 loop)
end
end DL

/-! Comprehensions of two clauses: as values. -/
namespace DL
open PySem PySem.Spec PyProof.Rows L2
open Evl (Ex ex_l ex_t)
variable [TheW]
section
variable {X : Cx}
/-- in the block -/
def InBlk (X : Cx) (scope : Scope) (P : Cx → Prop) : Prop := ∀ (s : Shared) (H : Hp) (C : Addr) (cl : List (Str × Addr)) (fp : List Addr), P (X.blk s H scope (compEnvC scope cl C X.env) fp)
theorem core2 {e tg iter : Expr} {ifs : List Expr} {gs : List Comprehension} {p : Pos} {scope : Scope} {own : List (Str × Nat)} {pos' : Pos} {em : Addr → Env → Sem Fin → Sem Fin} {t : Addr → TPut} {vE : List Nat} {wi : TI} {g : TG} {tt : TT} {ob : Obj} {u0 : HO} {newAcc : Sem Value}
    {pins : List (Addr × Obj)} {s : Shared} {σ : L2.St} {H : Hp} {Q : VK} {use : Option (Value → Sem Unit)} {Qf : Value → Shared → Prop} (hc : X.calm = true) (hN : X.N.Nodup) (I : Inv X pins σ H s) (hi : PI X tg iter wi) (ok : BlkOk X.N X.env.scope scope own)
    (ip : InPlace X.prog X.w e) (hcl : clausesOf e = ⟨tg, iter, ifs, 0⟩ :: gs) (hnew : ∀ (E : Value → Shared → Prop) (s : Shared) (Q : Value → Shared → Prop), Q (.ref s.heap.objs.size) { s with heap := s.heap.push ob } → wpAny (model X.prog X.w) X.A newAcc Q E s)
    (fr : ob.isFreed = false) (hob : ∀ (s : Shared) (H : Hp) (σ : L2.St), Inv X pins σ H s → ObjOk X.prog X.w (upd H s.heap.objs.size u0) (s.heap.push ob) s.heap.objs.size u0)
    (ht : ∀ it D env, compTurn e 0 it (.ref D) env = oneTurn tg ifs p env it (em D env) (again (.compLoop e 0 it (.ref D) env)))
    (hg : InBlk X scope fun Y => PG Y tg g) (htt : InBlk X scope fun Y => PTs Y ifs tt) (hm : ∀ D, InBlk X scope fun Y => PM Y (em D Y.env) (t D) vE) (hE : ∀ v ∈ vE, v ∈ own.map (·.2)) (hs : ∀ x, foldedSetIterable iter X.env x = pure x)
    (h : tC2 wi g tt t u0 (own.map (·.2)) σ H Q)
    (hRR : ∀ D C s' m H', Inv X pins σ H' s' → Q (.ref D) H' → s'.heap.Ns C m → FpOk X pins H' C → compPost (model X.prog X.w) X.A X.xe use Qf (.ref D) C (.ok .next) s') :
    wpAny (model X.prog X.w) X.A (comprehension e scope X.env pos' newAcc false (eval iter X.env) use) Qf X.xe s := by
  refine wpAny_comprehension_free (use := use) hcl hs (closure_ok fun y hy e => (ok.free y hy e).elim (fun k => I.ok.has _ (.inl k)) fun k => I.ok.has _ (.inr k)) ok.kind (fun y hy e => by rw [ok.uniq y hy, e])
    (thn (hi.run pins s σ H _ I h) fun xv s1 hx => thn hx fun itv s2 ⟨it, fp, tn, J, H2, e2, I2, T, st2, f2, q⟩ => ?_)
  subst e2
  refine hnew _ _ _ (newEnv_comp ?_)
  have hDn : H2 s2.heap.objs.size = none := I2.hok.fresh (Nat.le_refl _)
  have walk := q s2.heap.objs.size hDn
  have I3 : Inv X pins σ (upd H2 s2.heap.objs.size u0) { s2 with heap := s2.heap.push ob } :=
    I2.laid (t' := s2.toks) (fun b o e => Heap.get?_push_of_some _ e) (Nat.le_refl _) (hob s2 H2 σ I2)
  have hs3 : ({ s2 with heap := s2.heap.push ob } : Shared).heap = s2.heap.push ob := rfl
  have low : ∀ b ∈ fp, b < s2.heap.objs.size := fun b hb => let ⟨o, e, _⟩ := T.obj _ _ st2 b hb; Heap.lt_size e
  have f3 : ∀ b ∈ fp, FpOk X pins (upd H2 s2.heap.objs.size u0) b ∧ b < (s2.heap.push ob).objs.size := fun b hb =>
    ⟨⟨(upd_ne (Nat.ne_of_lt (low b hb))).trans (f2 b hb).1, (f2 b hb).2⟩, by rw [Heap.size_push]; exact Nat.lt_succ_of_lt (low b hb)⟩
  have st3 : tn 0 (s2.heap.push ob) := T.keep _ _ _ st2 fun b _ o e => Heap.get?_push_of_some _ e
  have I4 := block_start (fp := fp) I3 ok hN f3
  have f4 : ∀ {σ' : L2.St} {H' : Hp} {s' : Shared} {ce : Env} {s0 : Shared} {H0 : Hp}, Inv (X.blk s0 H0 scope ce fp) [] σ' H' s' → (∀ b ∈ fp, H' b = none) → ∀ b ∈ fp, FpOk (X.blk s0 H0 scope ce fp) [] H' b := fun {σ' H' s' ce s0 H0} I' hn b hb =>
    ⟨hn b hb, (I'.ok.exf b hb).1, I'.ok.exfs b hb, .inl hb, fun x c e => (I'.ok.exf b hb).2 x c e, fun p hp => absurd (show p ∈ ([] : List (Addr × Obj)) ++ [] from hp) (by simp)⟩
  have st4 : tn 0 (pushCells ((s2.heap.push ob).push { cls := .type "dict", data := .dict #[] }) scope.names) := T.keep _ _ _ st3 fun b _ o e => pushCells_keeps _ _ _ _ (Heap.get?_push_of_some _ e)
  have loop := walkPM (Y := X.blk { s2 with heap := s2.heap.push ob } (upd H2 s2.heap.objs.size u0) scope (compEnvC scope (cellsFrom ((s2.heap.push ob).objs.size + 1) scope.names (cloFrom X.env.cells scope.names [])) (s2.heap.push ob).objs.size X.env) fp) (R := compPost (model X.prog X.w) X.A X.xe use Qf (.ref s2.heap.objs.size) (s2.heap.push ob).objs.size) rfl hc ip (ht (.ref it) s2.heap.objs.size _) (hg _ _ _ _ fp) (htt _ _ _ _ fp) (hm s2.heap.objs.size _ _ _ _ fp) hE T I4 st4 (f4 I4 fun b hb => (f3 b hb).1.1) walk fun s' H' I6 n6 z => ?_
  · exact startEm ip (by rw [hcl]; rfl) rfl loop (T.self X.A 0 _ _ _ st4 loop)
  · have I7 : Inv X pins σ H' s' := I3.call' (ch := fp) I6.os I6.base I6.hok I6.bare fun b hb => ⟨(f3 b hb).1.2.2.2.1, (f3 b hb).1.2.1, (f3 b hb).1.2.2.2.2.1, (f3 b hb).1.2.2.2.2.2⟩
    have nC : H' (s2.heap.push ob).objs.size = none := I6.free
    obtain ⟨m, hn, _⟩ := I6.loc
    exact hRR _ _ s' m H' I7 z hn (I3.fpOk (Nat.le_refl _) nC)
theorem post_of {D C : Addr} {s' : Shared} {m H' pins σ Q} (I' : Inv X pins σ H' s') (q : Q (.ref D) H') (hn : s'.heap.Ns C m) (f : FpOk X pins H' C) : compPost (model X.prog X.w) X.A X.xe none (EP X pins σ Q) (.ref D) C (.ok .next) s' :=
  ⟨m, hn, fun h'' sb => by
    obtain ⟨f0, f1, f2, f3, f4, f5⟩ := f
    exact ⟨.ref D, H', I'.turned (t' := s'.toks) (fun b o hb e => (sb.2 b hb).trans e) f0 f1 f3 f4 f5, rfl, q⟩⟩
/-- {k: v for t0 in i0 if .. for t1 in i1 if ..} -/
theorem pe_dc2 {kx vx t0 i0 t1 i1 : Expr} {f0 f1 : List Expr} {scope : Scope} {own : List (Str × Nat)} {pos : Pos} {wi wj : TI} {g k : TG} {tt tu : TT} {tk tv : TE} {vs : List Nat} (hc : X.calm = true) (hN : X.N.Nodup) (hi : PI X t0 i0 wi) (ok : BlkOk X.N X.env.scope scope own)
    (hg : InBlk X scope fun Y => PG Y t0 g) (ht : InBlk X scope fun Y => PTs Y f0 tt) (hj : InBlk X scope fun Y => PI Y t1 i1 wj) (hk : InBlk X scope fun Y => PG Y t1 k) (hu : InBlk X scope fun Y => PTs Y f1 tu)
    (hkx : InBlk X scope fun Y => PE Y kx tk) (hvx : InBlk X scope fun Y => PE Y vx tv) (hvs : ∀ v ∈ vs, v ∈ own.map (·.2)) (hs : ∀ x, foldedSetIterable i0 X.env x = pure x := by intro _; rfl)
    (hs1 : InBlk X scope fun Y => ∀ x, foldedSetIterable i1 Y.env x = pure x := by intro _ _ _ _ _ _; rfl) :
    PE X (.DictComp kx vx [⟨t0, i0, f0, 0⟩, ⟨t1, i1, f1, 0⟩] scope pos) (tC2 wi g tt (fun D => putIn2 wj k tu (putD tk tv D) vs) (.dK []) (own.map (·.2))) := by
  refine ⟨fun pins s σ H Q I h => ?_⟩
  rw [arm_eval_DictComp]
  exact core2 (em := fun D env => emIn (.DictComp kx vx [⟨t0, i0, f0, 0⟩, ⟨t1, i1, f1, 0⟩] scope pos) i1 (.ref D) env) (ob := { cls := .type "dict", data := .dict #[] }) hc hN I hi ok inPlace_dict rfl (fun E s Q q => wpAny_newObj_type q) rfl (fun s H σ I => dk_empty s.heap I.big) (fun it D env => turnD0) hg ht
    (fun D s' H' C cl fp => pm_in rfl hc inPlace_dict rfl (fun it => turnD1) (hj _ _ _ _ fp) (hk _ _ _ _ fp) (hu _ _ _ _ fp) (pm_D rfl (hkx _ _ _ _ fp) (hvx _ _ _ _ fp)) (fun _ z => nomatch z) (hs1 _ _ _ _ fp)) hvs hs h fun D C s' m H' I' q hn f => post_of I' q hn f
end
end DL

/-! Comprehensions of two clauses, over data. -/
namespace DL
open PySem PySem.Spec PyProof.Rows L2
open Evl (Ex ex_l ex_t)
variable [TheW]
/-- the heap without what stands at D -/
def del (H : Hp) (D : Addr) : Hp := fun a => if a = D then none else H a
theorem del_ne {H : Hp} {D a : Addr} (h : a ≠ D) : del H D a = H a := if_neg h
theorem del_at {H : Hp} {D : Addr} : del H D D = none := if_pos rfl
theorem del_some {H : Hp} {D a : Addr} {o : HO} (h : del H D a = some o) : a ≠ D ∧ H a = some o := by
  by_cases c : a = D
  · rw [c, del_at] at h; cases h
  · rw [del_ne c] at h; exact ⟨c, h⟩
theorem del_upd {H : Hp} {D : Addr} {o : HO} : del (upd H D o) D = del H D := by
  funext a
  by_cases c : a = D
  · rw [c, del_at, del_at]
  · rw [del_ne c, del_ne c, upd_ne c]
def Keeps {α : Type} (Ac : Hp → HO → α → Prop) : Prop := ∀ (S S' : Hp) (o : HO) (acc : α), Ex S S' → Ac S o acc → Ac S' o acc
abbrev DPut (α : Type) := DEnv → α → (α → Prop) → Prop
/-- a target: to the names vs -/
def SimW (K : PySem.W.Frag) (ib : Option Nat) (b : Bg) (g : TG) (dg : DG) (vs : List Nat) : Prop := ∀ (H0 S H Hx : Hp) (σ : L2.St) (δ : DEnv) (v : V) (d : PyData) (R : DEnv → Prop) (Q : L2.St → Hp → Prop), Ex S H → EnvOk K ib b H0 S Hx σ δ → Rep K S v d → dg d δ R →
  (∀ σ' δ', EnvOk K ib b H0 S Hx σ' δ' → wipe σ' vs = wipe σ vs → R δ' → Q σ' H) → g v σ H Q
section
variable {K : PySem.W.Frag} {ib : Option Nat} {b : Bg}
theorem simw_name {j : Nat} {vs : List Nat} (hj : j ∈ vs) (hi : ib ≠ some j) : SimW K ib b (gName j) (dgName j) vs := by
  intro H0 S H Hx σ δ v d R Q ex e r h k
  exact k _ _ (e.set hi r) (wipe_put σ vs j _ hj) h
def dgPair (j l : Nat) : DG := fun d δ R => match d with
  | .tuple [x, y] => R ((δ.set j (some (.dat x))).set l (some (.dat y)))
  | _ => False
theorem simw_pair {j l : Nat} {vs : List Nat} (hj : j ∈ vs) (hl : l ∈ vs) (hi : ib ≠ some j) (hk : ib ≠ some l) : SimW K ib b (gTup K 2 (gCons (gName j) (gCons (gName l) gNil))) (dgPair j l) vs := by
  intro H0 S H Hx σ δ v d R Q ex e r h k
  unfold dgPair at h
  split at h
  · rename_i x y
    cases r with
    | tup hq rs =>
      rename_i a xs
      cases rs with
      | cons r1 rs =>
        cases rs with
        | cons r2 rs =>
          cases rs
          refine ⟨a, _, rfl, ex_t ex hq, rfl, _, _, rfl, _, _, rfl, rfl, ?_⟩
          exact k _ _ ((e.set hi r1).set hk r2) (by rw [wipe_put _ _ _ _ hl, wipe_put _ _ _ _ hj]) h
  · exact h.elim
variable {α : Type} {Ac : Hp → HO → α → Prop} {H0 S1 H1 S H S2 H2 : Hp} {D : Addr} {σ : L2.St} {δ : DEnv} {acc : α}
structure At (K : PySem.W.Frag) (ib : Option Nat) (b : Bg) (Ac : Hp → HO → α → Prop) (H0 S1 H1 : Hp) (D : Addr) (S H : Hp) (σ : L2.St) (δ : DEnv) (acc : α) : Prop where
  go : Go ib b S1 H1 S H
  env : EnvOk K ib b H0 S (del H D) σ δ
  ac : ∃ o, H D = some o ∧ Ac S o acc
  nS : S D = none
theorem go_del (o : Okk ib b S1 H1) (hD : H1 D = none) (g : Go ib b S H S2 H2) (hH : H D ≠ none) (hS : S D = none) : Go ib b S (del H D) S2 (del H2 D) := by
  have nS := g.new D hH hS
  refine ⟨g.st, fun a u c e => ?_, fun a h e => ?_, ⟨fun a u e => ?_, g.ok.off, fun z => ?_⟩⟩
  · obtain ⟨n, e⟩ := del_some e
    rw [del_ne n]
    exact g.keep a u c e
  · refine g.new a (fun z => h ?_) e
    by_cases n : a = D
    · rw [n, del_at]
    · rw [del_ne n]; exact z
  · have n : a ≠ D := fun z => by rw [z, nS] at e; cases e
    rw [del_ne n]
    exact g.ok.sub a u e
  · refine (g.ok.bag z).kept fun a u c e => ?_
    have n : a ≠ D := fun w => by
      rcases c with c | c
      · exact (o.bag z).tr (by rw [← c, w]; exact hD)
      · exact (o.bag z).tr2 (by rw [← c, w]; exact hD)
    rw [del_ne n]
    exact e
theorem go_up (o : Okk ib b S H) : Go ib b S (del H D) S H := ⟨Ex.refl S, fun a u _ e => (del_some e).2, fun _ _ e => e, o⟩
theorem At.full (A : At K ib b Ac H0 S1 H1 D S H σ δ acc) : EnvOk K ib b H0 S H σ δ := A.env.go (go_up A.go.ok)
theorem At.tr (A : At K ib b Ac H0 S1 H1 D S H σ δ acc) : H D ≠ none := let ⟨_, e, _⟩ := A.ac; by rw [e]; exact Option.some_ne_none _
theorem At.later (A : At K ib b Ac H0 S1 H1 D S H σ δ acc) (mo : Keeps Ac) (o : Okk ib b S1 H1) (hD : H1 D = none) (g : Go ib b S H S2 H2) : At K ib b Ac H0 S1 H1 D S2 H2 σ δ acc := by
  have nb : ib ≠ none → D ≠ b.1 := fun z w => (o.bag z).tr (w ▸ hD)
  obtain ⟨u, e, a⟩ := A.ac
  exact ⟨A.go.trans o g, A.env.go (go_del o hD g A.tr A.nS), ⟨u, g.keep D u nb e, mo _ _ _ _ g.st a⟩, g.new D A.tr A.nS⟩
/-- put at the end: what has come -/
def SimPut (K : PySem.W.Frag) (ib : Option Nat) (b : Bg) (Ac : Hp → HO → α → Prop) (t : Addr → TPut) (P : DPut α) : Prop := ∀ (H0 S1 H1 S H : Hp) (D : Addr) (σ : L2.St) (δ : DEnv) (acc : α) (N : α → Prop) (M : Hp → Prop), Okk ib b S1 H1 → H1 D = none →
  At K ib b Ac H0 S1 H1 D S H σ δ acc → P δ acc N → (∀ S' H' acc', Go ib b S (del H D) S' (del H' D) → Go ib b S1 H1 S' H' → (∃ o, H' D = some o ∧ Ac S' o acc') → S' D = none → N acc' → M H') → t D σ H M
def dWalk (dg : DG) (dt : DT) (P : DPut α) (vs : List Nat) (δ : DEnv) (xs : List PyData) (acc : α) (N : α → Prop) : Prop := ∃ I : Nat → α → Prop, I 0 acc ∧
  (∀ i x acc, xs[i]? = some x → I i acc → dg x (wipeD δ vs) fun δ2 => dt δ2 fun c => if c = true then P δ2 acc (I (i + 1)) else I (i + 1) acc) ∧ ∀ acc, I xs.length acc → N acc
variable {t : Addr → TPut} {P : DPut α} {g : TG} {dg : DG} {tt : TT} {dt : DT} {ti : TI} {di : DA} {vs : List Nat}
theorem sim_walk (mo : Keeps Ac) (hv : ∀ i, ib = some i → i ∉ vs) (hg : SimW K ib b g dg vs) (ht : SimT K ib b tt dt) (hp : SimPut K ib b Ac t P) (o : Okk ib b S1 H1) (hD : H1 D = none) (A : At K ib b Ac H0 S1 H1 D S H σ δ acc)
    {J : It} {xs : List PyData} (wk : WalkD K ib b S J xs) {N : α → Prop} {M : Hp → Prop} (h : dWalk dg dt P vs δ xs acc N)
    (k : ∀ S' H' acc', Go ib b S (del H D) S' (del H' D) → Go ib b S1 H1 S' H' → (∃ o, H' D = some o ∧ Ac S' o acc') → S' D = none → N acc' → M H') : walkT J g tt (t D) vs σ H M := by
  obtain ⟨I, i0, turn, done⟩ := h
  have od : Okk ib b S (del H D) := (go_del o hD (Go.refl A.go.ok) A.tr A.nS).ok
  refine ⟨fun i m H' => m = xs.length - i ∧ i ≤ xs.length ∧ ∃ S' acc', Go ib b S (del H D) S' (del H' D) ∧ Go ib b S1 H1 S' H' ∧ (∃ o, H' D = some o ∧ Ac S' o acc') ∧ S' D = none ∧ I i acc',
    ⟨xs.length, by omega, Nat.zero_le _, S, acc, Go.refl od, A.go, A.ac, A.nS, i0⟩, ?_⟩
  rintro i m H' ⟨rfl, hi, S', acc', g1, g2, ac, nS, hI⟩
  obtain ⟨w1, w2, w3⟩ := wk S' H' g1.st g2.ok
  by_cases hlt : i < xs.length
  · refine .inr ⟨w1 i hlt, fun H2 => ∃ S' acc', Go ib b S (del H D) S' (del H2 D) ∧ Go ib b S1 H1 S' H2 ∧ (∃ o, H2 D = some o ∧ Ac S' o acc') ∧ S' D = none ∧ I (i + 1) acc', ?_, ?_⟩
    · rintro H2 ⟨S2, acc2, a1, a2, a3, a4, a5⟩
      exact ⟨xs.length - (i + 1), by omega, rfl, hlt, S2, acc2, a1, a2, a3, a4, a5⟩
    · intro y Hy hy
      obtain ⟨Sy, dy, gy, hx, ry⟩ := w3 i y Hy hlt hy
      have A0 : At K ib b Ac H0 S1 H1 D S' H' (wipe σ vs) (wipeD δ vs) acc' := ⟨g2, (A.env.go g1).wipe hv, ac, nS⟩
      have Ay := A0.later mo o hD gy
      have gYd := g1.trans od (go_del o hD gy A0.tr A0.nS)
      refine hg H0 Sy Hy (del Hy D) _ _ y dy _ _ Ay.go.ok.sub Ay.env ry (turn i dy acc' hx hI) fun σ2 δ2 e2 ew q2 => ?_
      refine ⟨by rw [ew, wipe_twice], ?_⟩
      have A2 : At K ib b Ac H0 S1 H1 D Sy Hy σ2 δ2 acc' := ⟨Ay.go, e2, Ay.ac, Ay.nS⟩
      refine ht H0 Sy Hy σ2 δ2 _ _ Ay.go.ok A2.full q2 fun S3 H3 c g3 q3 => ?_
      have A3 := A2.later mo o hD g3
      have g3d := gYd.trans od (go_del o hD g3 A2.tr A2.nS)
      cases c with
      | true =>
        rw [if_pos rfl] at q3 ⊢
        exact hp H0 S1 H1 S3 H3 D σ2 δ2 acc' _ _ o hD A3 q3 fun S4 H4 acc4 a1 a2 a3 a4 a5 => ⟨S4, acc4, g3d.trans od a1, a2, a3, a4, a5⟩
      | false =>
        rw [if_neg Bool.false_ne_true] at q3 ⊢
        exact ⟨S3, acc', g3d, A3.go, A3.ac, A3.nS, q3⟩
  · have ei : i = xs.length := by omega
    subst ei
    exact .inl ⟨w2, k S' H' acc' g1 g2 ac nS (done acc' hI)⟩
def dPutIn (di : DA) (dg : DG) (dt : DT) (P : DPut α) (vs : List Nat) : DPut α := fun δ acc N => di δ fun xs => dWalk dg dt P vs δ xs acc N
theorem sim_putIn (mo : Keeps Ac) (hv : ∀ i, ib = some i → i ∉ vs) (hi : SimI K ib b ti di) (hg : SimW K ib b g dg vs) (ht : SimT K ib b tt dt) (hp : SimPut K ib b Ac t P) :
    SimPut K ib b Ac (fun D => putIn2 ti g tt (t D) vs) (dPutIn di dg dt P vs) := by
  intro H0 S1 H1 S H D σ δ acc N M o hD A h k
  refine hi H0 S H σ δ _ _ A.go.ok A.full h fun S2 H2 J xs g2 wk q => ?_
  have gd := go_del o hD g2 A.tr A.nS
  have od : Okk ib b S (del H D) := (go_del o hD (Go.refl A.go.ok) A.tr A.nS).ok
  exact sim_walk mo hv hg ht hp o hD (A.later mo o hD g2) wk q fun S' H' acc' a1 a2 a3 a4 a5 => k S' H' acc' (gd.trans od a1) a2 a3 a4 a5
/-- the dict so far -/
def AcD (K : PySem.W.Frag) (S : Hp) (o : HO) (kvs : List (Str × PyData)) : Prop := CtOk K S 0 o (.dk kvs)
theorem acD_mono : Keeps (AcD K) := fun _ _ _ _ e h => CtOk.mono e h
def dPutS (dk dv : DE) : DPut (List (Str × PyData)) := fun δ acc N => dk δ fun y => match y with
  | .str x => dv δ fun z => small (acc.length + 1) = true ∧ N (putKs acc x z)
  | _ => False
theorem sim_putS {tk tv : TE} {dk dv : DE} (h1 : SimE K ib b tk dk) (h2 : SimE K ib b tv dv) : SimPut K ib b (AcD K) (putD tk tv) (dPutS dk dv) := by
  intro H0 S1 H1 S H D σ δ acc N M o hD A h k
  refine h1 H0 S H σ δ _ _ A.go.ok A.full h fun S2 H2 y dy g2 ry q => ?_
  have A2 := A.later acD_mono o hD g2
  split at q
  · rename_i x
    refine h2 H0 S2 H2 σ δ _ _ A2.go.ok A2.full q fun S3 H3 z dz g3 rz q3 => ?_
    have A3 := A2.later acD_mono o hD g3
    obtain ⟨u, hu, vs, rfl, pr⟩ := A3.ac
    have hl : vs.length = acc.length := Paired.length pr
    have od : Okk ib b S (del H D) := (go_del o hD (Go.refl A.go.ok) A.tr A.nS).ok
    refine ⟨vs, .inr x, ry.strV, hu, by rw [hl]; exact small_lt q3.1, ?_⟩
    refine k S3 _ _ ?_ (Go.ownUpd o A3.go hD A3.nS) ⟨_, upd_same, _, rfl, txt_put pr rz⟩ A3.nS q3.2
    rw [del_upd]
    exact (go_del o hD g2 A.tr A.nS).trans od (go_del o hD g3 A2.tr A2.nS)
  · exact q.elim
/-- the dict as data -/
def txtD (kvs : List (Str × PyData)) : PyData := .dict (kvs.map fun p => (.str p.1, p.2))
theorem rep_txt {S : Hp} {a : Addr} : ∀ {vs : List (Key × V)} {kvs : List (Str × PyData)}, Paired (TxtR K S) vs kvs → ∃ ds, Reps K S (vs.map Prod.snd) ds ∧ (vs.map fun p => keyD p.1).zip ds = kvs.map fun p => (.str p.1, p.2)
  | _, _, .nil => ⟨[], .nil, rfl⟩
  | _, _, .cons (a := v) (b := q) h t => by
    obtain ⟨ds, r, e⟩ := rep_txt (a := a) t
    refine ⟨q.2 :: ds, .cons h.2 r, ?_⟩
    rw [List.map_cons, List.zip_cons_cons, e, List.map_cons, h.1]
    rfl
theorem Rep.txt {S : Hp} {a : Addr} {vs : List (Key × V)} {kvs : List (Str × PyData)} (h : S a = some (.dK vs)) (pr : Paired (TxtR K S) vs kvs) : Rep K S (.ref a) (txtD kvs) := by
  obtain ⟨ds, r, e⟩ := rep_txt (a := a) pr
  unfold txtD
  rw [← e]
  exact .dK h r
/-- {..: .. for ..} by texts: a dict that nobody changes -/
def dC2 (di : DA) (dg : DG) (dt : DT) (P : DPut (List (Str × PyData))) (vs : List Nat) : DE := fun δ R => di δ fun xs => dWalk dg dt P vs δ xs [] fun acc => R (txtD acc)
theorem sim_c2 (hv : ∀ i, ib = some i → i ∉ vs) (hi : SimI K ib b ti di) (hg : SimW K ib b g dg vs) (ht : SimT K ib b tt dt) {P : DPut (List (Str × PyData))} (hp : SimPut K ib b (AcD K) t P) : SimE K ib b (tC2 ti g tt t (.dK []) vs) (dC2 di dg dt P vs) := by
  intro H0 S H σ δ R Q o e h k
  refine hi H0 S H σ δ _ _ o e h fun S1 H1 J xs g1 wk q D hD => ?_
  have o1 := g1.ok
  have gD : Go ib b S1 H1 S1 (upd H1 D (.dK [])) := Go.laidOwn o1 hD
  have nS := Ex.none_of o1.sub hD
  have eD : del (upd H1 D (.dK [])) D = H1 := by
    funext a
    by_cases c : a = D
    · rw [c, del_at, hD]
    · rw [del_ne c, upd_ne c]
  have A : At K ib b (AcD K) H0 S1 H1 D S1 (upd H1 D (.dK [])) σ δ [] := ⟨gD, by rw [eD]; exact e.go g1, ⟨_, upd_same, [], rfl, .nil⟩, nS⟩
  refine sim_walk acD_mono hv hg ht hp o1 hD A wk q fun S' H' acc' a1 a2 ⟨u, hu, vs', eu, pr⟩ a4 a5 => ?_
  subst eu
  have gF := Go.freeze o1 a2 hD a4 hu
  exact k _ H' _ _ (g1.trans o gF) (.txt upd_same (Paired.mapM pr fun v q _ z => ⟨z.1, z.2.mono (Ex.new a4)⟩)) a5
end
end DL

/-! Things put together by a key: for .. in ..: d.setdefault(k, []).append(x). -/
namespace DL
open PySem PySem.Spec PyProof.Rows L2
open Evl (Ex ex_l ex_t)
variable [TheW]
def delL (H : Hp) (C : List Addr) : Hp := fun a => if a ∈ C then none else H a
theorem delL_ne {H : Hp} {C : List Addr} {a : Addr} (h : a ∉ C) : delL H C a = H a := if_neg h
theorem delL_at {H : Hp} {C : List Addr} {a : Addr} (h : a ∈ C) : delL H C a = none := if_pos h
theorem delL_some {H : Hp} {C : List Addr} {a : Addr} {o : HO} (h : delL H C a = some o) : a ∉ C ∧ H a = some o := by
  by_cases c : a ∈ C
  · rw [delL_at c] at h; cases h
  · rw [delL_ne c] at h; exact ⟨c, h⟩
theorem delL_upd {H : Hp} {C : List Addr} {c : Addr} {o : HO} (h : c ∈ C) : delL (upd H c o) C = delL H C := by
  funext a
  by_cases z : a ∈ C
  · rw [delL_at z, delL_at z]
  · rw [delL_ne z, delL_ne z, upd_ne (fun (e : a = c) => z (e ▸ h))]
theorem delL_more {H : Hp} {C C' : List Addr} {p : Addr} (hp : H p = none) (h : ∀ a, a ∈ C' ↔ a ∈ C ∨ a = p) : delL H C' = delL H C := by
  funext a
  by_cases z : a ∈ C
  · rw [delL_at z, delL_at ((h a).mpr (.inl z))]
  · rw [delL_ne z]
    by_cases e : a = p
    · rw [delL_at ((h a).mpr (.inr e)), e, hp]
    · rw [delL_ne fun w => ((h a).mp w).elim z e]
/-- one more to k's -/
def apG : List (Key × List PyData) → Key → PyData → List (Key × List PyData)
  | [], k, y => []
  | g :: r, k, y => if g.1 = k then (g.1, g.2 ++ [y]) :: r else g :: apG r k y
def addK (acc : List (Key × List PyData)) (k : Key) : List (Key × List PyData) := if (acc.any fun g => decide (g.1 = k)) = true then acc else acc ++ [(k, [])]
def putG (acc : List (Key × List PyData)) (k : Key) (y : PyData) : List (Key × List PyData) := apG (addK acc k) k y
def listsD (acc : List (Key × List PyData)) : List (Key × PyData) := acc.map fun g => (g.1, .list g.2)
def GRow (K : PySem.W.Frag) (S H : Hp) (v : Key × V) (g : Key × List PyData) : Prop := v.1 = g.1 ∧ ∃ q xs, v.2 = .ref q ∧ H q = some (.lst xs) ∧ Reps K S xs g.2
section
variable {K : PySem.W.Frag} {ib : Option Nat} {b : Bg} {S0 H0 S H S2 H2 : Hp} {D : Addr} {i : Nat} {σ : L2.St} {δ : DEnv} {vs : List (Key × V)} {acc : List (Key × List PyData)} {qs : List Addr}
structure Gr (K : PySem.W.Frag) (ib : Option Nat) (b : Bg) (S0 H0 : Hp) (D : Addr) (i : Nat) (S H : Hp) (σ : L2.St) (δ : DEnv) (vs : List (Key × V)) (acc : List (Key × List PyData)) (qs : List Addr) : Prop where
  go : Go ib b S0 H0 S H
  env : EnvOk K ib b H0 S (delL H (D :: qs)) σ δ
  slot : σ[i]? = some (some (V.ref D))
  nd : (D :: qs).Nodup
  out : ∀ c ∈ D :: qs, S c = none ∧ H0 c = none ∧ H c ≠ none ∧ (ib ≠ none → c ≠ b.1 ∧ c ≠ b.2)
  hD : H D = some (.dK vs)
  vq : vs.map (·.2) = qs.map V.ref
  rows : Paired (GRow K S H) vs acc
theorem go_delL {C : List Addr} (g : Go ib b S H S2 H2) (hC : ∀ c ∈ C, S c = none ∧ H c ≠ none ∧ (ib ≠ none → c ≠ b.1 ∧ c ≠ b.2)) : Go ib b S (delL H C) S2 (delL H2 C) := by
  refine ⟨g.st, fun a u c e => ?_, fun a h e => ?_, ⟨fun a u e => ?_, g.ok.off, fun z => ?_⟩⟩
  · obtain ⟨n, e⟩ := delL_some e
    rw [delL_ne n]
    exact g.keep a u c e
  · refine g.new a (fun z => h ?_) e
    by_cases n : a ∈ C
    · rw [delL_at n]
    · rw [delL_ne n]; exact z
  · have n : a ∉ C := fun z => by
      have := g.new a (hC a z).2.1 (hC a z).1
      rw [this] at e
      cases e
    rw [delL_ne n]
    exact g.ok.sub a u e
  · refine (g.ok.bag z).kept fun a u c e => ?_
    have n : a ∉ C := fun w => by
      have := (hC a w).2.2 z
      rcases c with c | c
      · exact this.1 c
      · exact this.2 c
    rw [delL_ne n]
    exact e
theorem Gr.full (G : Gr K ib b S0 H0 D i S H σ δ vs acc qs) : EnvOk K ib b H0 S H σ δ :=
  G.env.go ⟨Ex.refl S, fun a u _ e => (delL_some e).2, fun _ _ e => e, G.go.ok⟩
theorem Gr.later (G : Gr K ib b S0 H0 D i S H σ δ vs acc qs) (o : Okk ib b S0 H0) (g : Go ib b S H S2 H2) : Gr K ib b S0 H0 D i S2 H2 σ δ vs acc qs := by
  have keep : ∀ c ∈ D :: qs, ∀ u, H c = some u → H2 c = some u := fun c hc u e => g.keep c u (fun z => ((G.out c hc).2.2.2 z).1) e
  refine ⟨G.go.trans o g, G.env.go (go_delL g fun c hc => ⟨(G.out c hc).1, (G.out c hc).2.2⟩), G.slot, G.nd, fun c hc => ?_, keep D (List.mem_cons_self ..) _ G.hD, G.vq, ?_⟩
  · obtain ⟨h1, h2, h3, h4⟩ := G.out c hc
    refine ⟨g.new c h3 h1, h2, ?_, h4⟩
    cases e : H c with
    | none => exact absurd e h3
    | some u => rw [keep c hc u e]; exact Option.some_ne_none _
  · refine Paired.mapM G.rows fun v gg hm z => ?_
    obtain ⟨h1, q, xs, h2, h3, h4⟩ := z
    have hq : q ∈ D :: qs := by
      have : V.ref q ∈ qs.map V.ref := by rw [← G.vq, ← h2]; exact List.mem_map_of_mem hm
      obtain ⟨q', hq', e⟩ := List.mem_map.mp this
      cases e
      exact List.mem_cons_of_mem _ hq'
    exact ⟨h1, q, xs, h2, keep q hq _ h3, h4.mono g.st⟩
theorem rows_keys {H : Hp} : ∀ {vs : List (Key × V)} {acc : List (Key × List PyData)}, Paired (GRow K S H) vs acc → ∀ k, (acc.any fun g => decide (g.1 = k)) = (valV vs k).isSome
  | _, _, .nil, _ => rfl
  | _, _, .cons (a := v) (b := g) h t, k => by
    rw [List.any_cons, rows_keys t k]
    by_cases e : v.1 = k
    · rw [valV_pos e, ← h.1]; simp [e]
    · rw [valV_neg e, ← h.1]; simp [e]
theorem rows_app {k : Key} {y : V} {d : PyData} (r : Rep K S y d) : ∀ {vs : List (Key × V)} {acc : List (Key × List PyData)} {q : Addr}, Paired (GRow K S H) vs acc → (vs.map (·.2)).Nodup → valV vs k = some (.ref q) →
    ∃ xs, H q = some (.lst xs) ∧ Paired (GRow K S (upd H q (.lst (xs ++ [y])))) vs (apG acc k d) ∧ ∃ g ∈ acc, g.2.length = xs.length
  | _, _, _, .nil, _, h => by cases h
  | _, _, q, .cons (a := v) (b := g) (l₁ := vr) (l₂ := ar) h t, nd, hv => by
    rw [List.map_cons, List.nodup_cons] at nd
    obtain ⟨h1, q0, xs, h2, h3, h4⟩ := h
    unfold apG
    by_cases e : v.1 = k
    · rw [valV_pos e, h2] at hv
      cases hv
      rw [if_pos (h1 ▸ e)]
      refine ⟨xs, h3, .cons ⟨h1, _, _, h2, upd_same, h4.append (.cons r .nil)⟩ (Paired.mapM t fun v' g' hm z => ?_), g, List.mem_cons_self .., h4.length.symm⟩
      obtain ⟨a1, q1, ys, a2, a3, a4⟩ := z
      have ne : q1 ≠ q := fun w => nd.1 (by rw [h2, ← w, ← a2]; exact List.mem_map_of_mem hm)
      exact ⟨a1, q1, ys, a2, by rw [upd_ne ne]; exact a3, a4⟩
    · rw [valV_neg e] at hv
      obtain ⟨zs, b1, b2, g', b3, b4⟩ := rows_app r t nd.2 hv
      rw [if_neg (h1 ▸ e)]
      refine ⟨zs, b1, .cons ⟨h1, q0, xs, h2, ?_, h4⟩ b2, g', List.mem_cons_of_mem _ b3, b4⟩
      have ne : q0 ≠ q := fun w => nd.1 (by
        rw [h2, w]
        unfold valV at hv
        obtain ⟨p, hp, e2⟩ := Option.map_eq_some_iff.mp hv
        rw [← e2]
        exact List.mem_map_of_mem (List.mem_of_find?_eq_some hp))
      rw [upd_ne ne]
      exact h3
theorem paired_app {α β : Type} {F : α → β → Prop} {xs us : List α} {ys ws : List β} (h : Paired F xs ys) (t : Paired F us ws) : Paired F (xs ++ us) (ys ++ ws) := by
  induction h with
  | nil => exact t
  | cons h _ ih => exact .cons h ih
/-- a key that is new: its list, still empty -/
theorem Gr.new (G : Gr K ib b S0 H0 D i S H σ δ vs acc qs) (o : Okk ib b S0 H0) {p : Addr} {k : Key} (hp : H p = none) (hk : valV vs k = none) :
    Gr K ib b S0 H0 D i S (upd (upd H p (.lst [])) D (.dK (putK vs k (.ref p)))) σ δ (putK vs k (.ref p)) (acc ++ [(k, [])]) (qs ++ [p]) := by
  have oD := G.out D (List.mem_cons_self ..)
  have nS : S p = none := Ex.none_of G.go.ok.sub hp
  have h0 : H0 p = none := G.go.fresh o hp
  have np : p ∉ D :: qs := fun z => (G.out p z).2.2.1 hp
  have nb : ib ≠ none → p ≠ b.1 ∧ p ≠ b.2 := fun z => ⟨fun w => (G.go.ok.bag z).tr (w ▸ hp), fun w => (G.go.ok.bag z).tr2 (w ▸ hp)⟩
  have pD : p ≠ D := fun z => np (by rw [z]; exact List.mem_cons_self ..)
  have g1 : Go ib b S0 H0 S (upd H p (.lst [])) := Go.ownUpd o G.go h0 nS
  have g2 : Go ib b S0 H0 S (upd (upd H p (.lst [])) D (.dK (putK vs k (.ref p)))) := Go.ownUpd o g1 oD.2.1 oD.1
  have mem : ∀ a, a ∈ D :: (qs ++ [p]) ↔ a ∈ D :: qs ∨ a = p := fun a => by simp [or_assoc]
  refine ⟨g2, ?_, G.slot, ?_, fun c hc => ?_, upd_same, ?_, ?_⟩
  · rw [delL_upd (List.mem_cons_self ..), delL_upd ((mem p).mpr (.inr rfl)), delL_more hp mem]
    exact G.env
  · rw [← List.cons_append]
    exact List.nodup_append.mpr ⟨G.nd, List.nodup_cons.mpr ⟨by simp, List.nodup_nil⟩, fun a ha c hc => by rw [List.mem_singleton.mp hc]; exact fun z => np (z ▸ ha)⟩
  · rcases (mem c).mp hc with hc | rfl
    · obtain ⟨a1, a2, a3, a4⟩ := G.out c hc
      refine ⟨a1, a2, ?_, a4⟩
      by_cases z : c = D
      · rw [z, upd_same]; exact Option.some_ne_none _
      · rw [upd_ne z, upd_ne fun (w : c = p) => np (w ▸ hc)]; exact a3
    · refine ⟨nS, h0, ?_, nb⟩
      rw [upd_ne pD, upd_same]; exact Option.some_ne_none _
  · rw [putK_new _ hk, List.map_append, List.map_append, G.vq]; rfl
  · rw [putK_new _ hk]
    refine paired_app (Paired.mapM G.rows fun v g hm z => ?_) (.cons ⟨rfl, p, [], rfl, by rw [upd_ne pD]; exact upd_same, .nil⟩ .nil)
    obtain ⟨a1, q1, ys, a2, a3, a4⟩ := z
    have hq : q1 ∈ qs := by
      have : V.ref q1 ∈ qs.map V.ref := by rw [← G.vq, ← a2]; exact List.mem_map_of_mem hm
      obtain ⟨q', hq', e⟩ := List.mem_map.mp this
      cases e
      exact hq'
    refine ⟨a1, q1, ys, a2, ?_, a4⟩
    rw [upd_ne fun (w : q1 = D) => (List.nodup_cons.mp G.nd).1 (w ▸ hq), upd_ne fun (w : q1 = p) => np (w ▸ List.mem_cons_of_mem _ hq)]
    exact a3
/-- one more to a key's list -/
theorem Gr.app (G : Gr K ib b S0 H0 D i S H σ δ vs acc qs) (o : Okk ib b S0 H0) {k : Key} {q : Addr} {y : V} {d : PyData} (hk : valV vs k = some (.ref q)) (r : Rep K S y d) :
    ∃ xs, H q = some (.lst xs) ∧ Gr K ib b S0 H0 D i S (upd H q (.lst (xs ++ [y]))) σ δ vs (apG acc k d) qs ∧ ∃ g ∈ acc, g.2.length = xs.length := by
  have nq := (List.nodup_cons.mp G.nd)
  have ndv : (vs.map (·.2)).Nodup := by
    rw [G.vq]
    exact List.pairwise_map.mpr (List.Pairwise.imp (fun {a c} n z => n (by cases z; rfl)) nq.2)
  obtain ⟨xs, h1, h2, h3⟩ := rows_app r G.rows ndv hk
  have hq : q ∈ qs := by
    have hv : V.ref q ∈ vs.map (·.2) := by
      unfold valV at hk
      obtain ⟨p, hp, e2⟩ := Option.map_eq_some_iff.mp hk
      rw [← e2]
      exact List.mem_map_of_mem (List.mem_of_find?_eq_some hp)
    rw [G.vq] at hv
    obtain ⟨q', hq', e⟩ := List.mem_map.mp hv
    cases e
    exact hq'
  have hq2 : q ∈ D :: qs := List.mem_cons_of_mem _ hq
  have oq := G.out q hq2
  refine ⟨xs, h1, ⟨Go.ownUpd o G.go oq.2.1 oq.1, by rw [delL_upd hq2]; exact G.env, G.slot, G.nd, fun c hc => ?_, ?_, G.vq, h2⟩, h3⟩
  · obtain ⟨a1, a2, a3, a4⟩ := G.out c hc
    refine ⟨a1, a2, ?_, a4⟩
    by_cases z : c = q
    · rw [z, upd_same]; exact Option.some_ne_none _
    · rw [upd_ne z]; exact a3
  · rw [upd_ne fun (w : D = q) => nq.1 (w ▸ hq)]
    exact G.hD
end
end DL

/-! Things put together by a key, over data. -/
namespace DL
open PySem PySem.Spec PyProof.Rows L2
open Evl (Ex ex_l ex_t)
variable [TheW]
def keyK : PyData → Option Key
  | .int i => some (.inl i)
  | .str s => some (.inr s)
  | _ => none
theorem keyK_rep {K : PySem.W.Frag} {S : Hp} {v : V} {y : PyData} {k : Key} (r : Rep K S v y) (h : keyK y = some k) : v = kV k := by
  cases r with
  | int i => cases h; rfl
  | str s => cases h; rfl
  | _ => cases h
/-- for x in ..: d.setdefault(k, []).append(v), d empty ahead: the lists by their keys -/
def dGroup (i : Nat) (di : DA) (dg : DG) (dk dv : DE) : DS := fun DD δ => match δ[i]? with
  | some (some (.dct (.dk []))) => di δ fun xs => small xs.length = true ∧ ∃ I : Nat → List (Key × List PyData) → DEnv → Prop, I 0 [] (δ.set i none) ∧
    (∀ j x acc δ', xs[j]? = some x → I j acc δ' → dg x δ' fun δ2 => dk δ2 fun y => ∃ k, keyK y = some k ∧ dv δ2 fun v => I (j + 1) (putG acc k v) δ2) ∧
    ∀ acc δ', I xs.length acc δ' → DD.nx (δ'.set i (some (.dct (.dG (listsD acc)))))
  | _ => False
theorem apG_small {n : Nat} {k : Key} {y : PyData} : ∀ {acc : List (Key × List PyData)}, (∀ g ∈ acc, g.2.length ≤ n) → (apG acc k y).length = acc.length ∧ ∀ g ∈ apG acc k y, g.2.length ≤ n + 1
  | [], _ => ⟨rfl, fun _ z => nomatch z⟩
  | g :: r, h => by
    obtain ⟨h1, h2⟩ := apG_small (k := k) (y := y) (acc := r) fun g hg => h g (List.mem_cons_of_mem _ hg)
    unfold apG
    split
    · refine ⟨rfl, fun x hx => ?_⟩
      rcases List.mem_cons.mp hx with rfl | hx
      · have := h g (List.mem_cons_self ..)
        rw [List.length_append, List.length_singleton]; omega
      · have := h x (List.mem_cons_of_mem _ hx); omega
    · refine ⟨by rw [List.length_cons, List.length_cons, h1], fun x hx => ?_⟩
      rcases List.mem_cons.mp hx with rfl | hx
      · have := h x (List.mem_cons_self ..); omega
      · exact h2 x hx
theorem addK_small {n : Nat} {k : Key} {acc : List (Key × List PyData)} (h : ∀ g ∈ acc, g.2.length ≤ n) : (addK acc k).length ≤ acc.length + 1 ∧ ∀ g ∈ addK acc k, g.2.length ≤ n := by
  unfold addK
  split
  · exact ⟨Nat.le_succ _, h⟩
  · refine ⟨by rw [List.length_append, List.length_singleton]; exact Nat.le_refl _, fun g hg => ?_⟩
    rcases List.mem_append.mp hg with hg | hg
    · exact h g hg
    · rw [List.mem_singleton.mp hg]; exact Nat.zero_le _
section
variable {K : PySem.W.Frag} {ib : Option Nat} {b : Bg} {S0 H0 S H S2 H2 : Hp} {D : Addr} {i : Nat} {σ : L2.St} {δ : DEnv} {vs : List (Key × V)} {acc : List (Key × List PyData)} {qs : List Addr}
theorem Gr.data (G : Gr K ib b S0 H0 D i S H σ δ vs acc qs) (o : Okk ib b S0 H0) (hi : ib ≠ some i) : ∃ S', Go ib b S0 H0 S' H ∧ Ex S S' ∧ EnvOk K ib b H0 S' H σ (δ.set i (some (.dct (.dG (listsD acc))))) := by
  have nDq := (List.nodup_cons.mp G.nd).1
  have mq : ∀ a ∈ qs, a ∈ D :: qs := fun a h => List.mem_cons_of_mem _ h
  refine ⟨fun a => if a ∈ qs then H a else S a, ?_⟩
  generalize eS : (fun a => if a ∈ qs then H a else S a) = S'
  have inC : ∀ a ∈ qs, S' a = H a := fun a h => by rw [← eS]; exact if_pos h
  have noC : ∀ a, a ∉ qs → S' a = S a := fun a h => by rw [← eS]; exact if_neg h
  have oD := G.out D (List.mem_cons_self ..)
  have ex : Ex S S' := fun a u e => by
    rw [noC a fun z => by rw [(G.out a (mq a z)).1] at e; cases e]
    exact e
  have ok : Okk ib b S' H := ⟨fun a u e => by
      by_cases z : a ∈ qs
      · rw [inC a z] at e; exact e
      · rw [noC a z] at e; exact G.go.ok.sub a u e, fun z => by
      rw [noC _ fun w => ((G.out _ (mq _ w)).2.2.2 z).1 rfl]
      exact G.go.ok.off z, G.go.ok.bag⟩
  have hn : ∀ a ∈ qs, H0 a = none := fun a z => (G.out a (mq a z)).2.1
  have g0 : Go ib b S0 H0 S' H := ⟨G.go.st.trans ex, G.go.keep, fun a h e => by
    rw [noC a fun z => h (hn a z)]
    exact G.go.new a h e, ok⟩
  refine ⟨g0, ex, ?_⟩
  have ge : Go ib b S (delL H (D :: qs)) S' H := ⟨ex, fun a u _ e => (delL_some e).2, fun a h e => by
    rw [noC a fun z => h (delL_at (mq a z))]
    exact e, ok⟩
  have rows : ∀ {vs : List (Key × V)} {acc : List (Key × List PyData)}, Paired (GRow K S H) vs acc → (∀ v ∈ vs, ∃ q ∈ qs, v.2 = .ref q) → Paired (KeyR K S') vs (listsD acc) := by
    intro vs acc h
    induction h with
    | nil => exact fun _ => .nil
    | @cons v g _ _ h t ih =>
      intro hq
      obtain ⟨h1, q, xs, h2, h3, h4⟩ := h
      obtain ⟨q', hq', e⟩ := hq v (List.mem_cons_self ..)
      rw [h2] at e
      cases e
      exact .cons ⟨h1, by rw [h2]; exact .lst (by rw [inC q hq']; exact h3) (h4.mono ex)⟩ (ih fun v hv => hq v (List.mem_cons_of_mem _ hv))
  have pr := rows G.rows fun v hv => by
    have : v.2 ∈ qs.map V.ref := by rw [← G.vq]; exact List.mem_map_of_mem hv
    obtain ⟨q, hq, e⟩ := List.mem_map.mp this
    exact ⟨q, hq, e.symm⟩
  have e := (G.env.go ge).setDct hi G.hD (show CtOk K S' D (.dK vs) (.dG (listsD acc)) from ⟨vs, rfl, pr⟩) (by rw [noC D nDq]; exact oD.1) oD.2.1 (fun z => (oD.2.2.2 z).1) fun j c' _ q q2 => by
    obtain ⟨p, u, a1, a2, _⟩ := G.env.dct j c' q
    rw [a1] at q2
    cases q2
    exact (delL_some a2).1 (List.mem_cons_self ..)
  have es : σ.set i (some (.ref D)) = σ := by
    obtain ⟨h, e⟩ := List.getElem?_eq_some_iff.mp G.slot
    rw [← e, List.set_getElem_self]
  rw [es] at e
  exact e
variable {ti : TI} {di : DA} {g : TG} {dg : DG} {tk tv : TE} {dk dv : DE} {ws : List Nat}
theorem sim_group (hi : ib ≠ some i) (hw : i ∉ ws) (h1 : SimI K ib b ti di) (h2 : SimW K ib b g dg ws) (h3 : SimE K ib b tk dk) (h4 : SimE K ib b tv dv) :
    SimS K ib b (tFor ti g (tDrop (tBM K "list" rAppend (tDSetd (tVar i) tk (tLst tNil)) (tCons tv tNil)))) (dGroup i di dg dk dv) := by
  intro S0 H0 Sm S H σ δ D DD o em g0 e h x
  unfold dGroup at h
  split at h
  rotate_left
  · exact h.elim
  rename_i q0
  refine h1 H0 S H σ δ _ _ g0.ok e h fun S1 H1 J xs g1 wk q => ?_
  obtain ⟨hz, I, i0, turn, done⟩ := q
  have hzz := of_decide_eq_true hz
  have e1 := e.go g1
  obtain ⟨d, ob, hσ, hd, ⟨vs0, rfl, pr0⟩, hS, h0, hb, hu⟩ := e1.dct i _ q0
  cases pr0
  have g01 := g0.trans o g1
  have nb2 : ib ≠ none → d ≠ b.2 := fun z w => by
    obtain ⟨r, m, k, ns, e, ne, f, _⟩ := (g01.ok.bag z).ex
    rw [← w, hd] at f
    cases f
  have G0 : Gr K ib b S0 H0 d i S1 H1 σ (δ.set i none) [] [] [] := by
    have look : ∀ (j : Nat) (x : DV), (δ.set i none)[j]? = some (some x) → j ≠ i ∧ δ[j]? = some (some x) := fun j x z => by
      by_cases c : j = i
      · subst c
        have hl : j < δ.length := by
          obtain ⟨w, _⟩ := List.getElem?_eq_some_iff.mp z
          rw [List.length_set] at w
          exact w
        rw [List.getElem?_set_self hl] at z
        cases z
      · rw [List.getElem?_set_ne (Ne.symm c)] at z
        exact ⟨c, z⟩
    refine ⟨g01, ⟨by rw [List.length_set]; exact e1.len, e1.slot, fun j y z => e1.dat j y (look j _ z).2, fun j ds z => ?_, fun j a z => e1.fn j a (look j _ z).2, fun j c z => ?_⟩, hσ, List.nodup_cons.mpr ⟨by simp, List.nodup_nil⟩, fun c hc => ?_, hd, rfl, .nil⟩
    · obtain ⟨p, ys, a1, a2, a3, a4, a5, a6, a7⟩ := e1.own j ds (look j _ z).2
      have np : p ∉ [d] := fun w => by rw [List.mem_singleton.mp w, hd] at a2; cases a2
      exact ⟨p, ys, a1, by rw [delL_ne np]; exact a2, a3, a4, a5, a6, fun j' es b1 b2 => a7 j' es (look j' _ b1).2 b2⟩
    · obtain ⟨p, u, a1, a2, a3, a4, a5, a6, a7⟩ := e1.dct j c (look j _ z).2
      have np : p ∉ [d] := fun w => by
        rw [List.mem_singleton.mp w] at a1
        exact (look j _ z).1 (hu j c (look j _ z).2 a1)
      exact ⟨p, u, a1, by rw [delL_ne np]; exact a2, a3, a4, a5, a6, fun j' c' b1 b2 => a7 j' c' (look j' _ b1).2 b2⟩
    · rw [List.mem_singleton.mp hc]
      exact ⟨hS, h0, by rw [hd]; exact Option.some_ne_none _, fun z => ⟨hb z, nb2 z⟩⟩
  refine ⟨fun j m σ' H' => m = xs.length - j ∧ j ≤ xs.length ∧ ∃ S' δ' vs acc qs, Ex S1 S' ∧ Gr K ib b S0 H0 d i S' H' σ' δ' vs acc qs ∧ acc.length ≤ j ∧ (∀ g ∈ acc, g.2.length ≤ j) ∧ I j acc δ',
    ⟨xs.length, by omega, Nat.zero_le _, S1, _, [], [], [], Ex.refl S1, G0, Nat.le_refl _, (fun _ z => nomatch z), i0⟩, ?_⟩
  rintro j m σ' H' ⟨rfl, hj, S', δ', vs, acc, qs, ex, G, z1, z2, hI⟩
  obtain ⟨w1, w2, w3⟩ := wk S' H' ex G.go.ok
  by_cases hlt : j < xs.length
  · refine .inr ⟨w1 j hlt, fun σ2 H2 => ∃ S' δ' vs acc qs, Ex S1 S' ∧ Gr K ib b S0 H0 d i S' H2 σ2 δ' vs acc qs ∧ acc.length ≤ j + 1 ∧ (∀ g ∈ acc, g.2.length ≤ j + 1) ∧ I (j + 1) acc δ', ?_, ?_⟩
    · rintro σ2 H2 ⟨S2, δ2, vs2, acc2, qs2, a1, a2, a3, a4, a5⟩
      exact ⟨xs.length - (j + 1), by omega, rfl, hlt, S2, δ2, vs2, acc2, qs2, a1, a2, a3, a4, a5⟩
    · intro y Hy hy
      obtain ⟨Sy, dy, gy, hx, ry⟩ := w3 j y Hy hlt hy
      have Gy := G.later o gy
      refine h2 H0 Sy Hy (delL Hy (d :: qs)) σ' δ' y dy _ _ Gy.go.ok.sub Gy.env ry (turn j dy acc δ' hx hI) fun σ2 δ2 e2 ew q2 => ?_
      have sl : σ2[i]? = some (some (V.ref d)) := by
        have := congrArg (fun s => s[i]?) ew
        simp only [wipe_get] at this
        rw [if_neg fun z => hw z.1, if_neg fun z => hw z.1] at this
        rw [this]
        exact Gy.slot
      have Gb : Gr K ib b S0 H0 d i Sy Hy σ2 δ2 vs acc qs := ⟨Gy.go, e2, sl, Gy.nd, Gy.out, Gy.hD, Gy.vq, Gy.rows⟩
      refine ⟨_, sl, d, rfl, .inl ⟨vs, .inl Gb.hD⟩, ?_⟩
      refine h3 H0 Sy Hy σ2 δ2 _ _ Gb.go.ok Gb.full q2 fun S3 H3 kv dk' g3 rk q3 => ?_
      obtain ⟨k, hk, q3⟩ := q3
      have G3 := Gb.later o g3
      refine ⟨Nat.zero_le _, fun p hp => ?_⟩
      have lv : vs.length = acc.length := Paired.length G3.rows
      have pd : d ≠ p := fun w => (G3.out d (List.mem_cons_self ..)).2.2.1 (w ▸ hp)
      have ex3 : Ex S1 S3 := (ex.trans gy.st).trans g3.st
      -- the rest, where k has its list
      have tail : ∀ {Hs : Hp} {vs' : List (Key × V)} {acc' : List (Key × List PyData)} {qs' : List Addr} {q : Addr}, Gr K ib b S0 H0 d i S3 Hs σ2 δ2 vs' acc' qs' → valV vs' k = some (.ref q) → acc' = addK acc k →
          tyV K "list" (.ref q) Hs ∧ tCons tv tNil σ2 Hs fun us H4 => rAppend (.ref q) us H4 fun _ H5 => ∃ S' δ' vs acc qs, Ex S1 S' ∧ Gr K ib b S0 H0 d i S' H5 σ2 δ' vs acc qs ∧ acc.length ≤ j + 1 ∧ (∀ g ∈ acc, g.2.length ≤ j + 1) ∧ I (j + 1) acc δ' := by
        intro Hs vs' acc' qs' q Gs hq ea
        obtain ⟨ws0, hw0, _⟩ := Gs.app o (y := .non) hq .non
        refine ⟨.inl ⟨rfl, ws0, SqL.of hw0⟩, ?_⟩
        refine h4 H0 S3 Hs σ2 δ2 _ _ Gs.go.ok Gs.full q3 fun S4 H4 v dv' g4 rv q4 => ?_
        have G4 := Gs.later o g4
        obtain ⟨us, hus, G5, g', hg', hl⟩ := G4.app o hq rv
        obtain ⟨c1, c2⟩ := addK_small (k := k) z2
        obtain ⟨c3, c4⟩ := apG_small (k := k) (y := dv') c2
        have : g'.2.length ≤ j := c2 g' (ea ▸ hg')
        refine ⟨q, us, v, rfl, rfl, hus, Evl.sz_lt (by omega), S4, δ2, vs', apG acc' k dv', qs', ex3.trans g4.st, G5, ?_, ?_, ?_⟩
        · rw [ea, c3]; omega
        · rw [ea]; exact c4
        · rw [ea]; exact q4
      refine ⟨vs, k, by rw [upd_ne pd]; exact G3.hD, keyK_rep rk hk, Evl.sz_lt (by omega), fun v hv => ?_, fun hv => ?_⟩
      · obtain ⟨q, rfl⟩ : ∃ q, v = V.ref q := by
          have hm : v ∈ vs.map (·.2) := by
            unfold valV at hv
            obtain ⟨pp, hp2, e2⟩ := Option.map_eq_some_iff.mp hv
            rw [← e2]
            exact List.mem_map_of_mem (List.mem_of_find?_eq_some hp2)
          rw [G3.vq] at hm
          obtain ⟨q, _, e⟩ := List.mem_map.mp hm
          exact ⟨q, e.symm⟩
        refine tail (G3.later o (Go.laidOwn G3.go.ok hp)) hv ?_
        unfold addK
        rw [rows_keys G3.rows, hv]
        exact (if_pos rfl).symm
      · refine tail (G3.new o hp hv) (by rw [valV_put]; exact if_pos rfl) ?_
        unfold addK
        rw [rows_keys G3.rows, hv]
        exact (if_neg (by decide)).symm
  · have ei : j = xs.length := by omega
    subst ei
    obtain ⟨S'', b1, b2, b3⟩ := G.data o hi
    exact .inl ⟨w2, x.nx S'' H' σ' _ b1 (em.trans ((g1.st.trans ex).trans b2)) b3 (done acc δ' hI)⟩
end
end DL

/-! A dict of one's own by integers and texts: it stands still from now on, as data; its keys, values; x[k]. -/
namespace DL
open PySem PySem.Spec PyProof.Rows L2
open Evl (Ex ex_l ex_t)
variable [TheW]
def keysD (kvs : List (Key × PyData)) : List (PyData × PyData) := kvs.map fun p => (keyD p.1, p.2)
/-- x's value at k, an integer or a text -/
def getI (kvs : List (PyData × PyData)) (k : Key) : Option PyData := (kvs.find? fun p => decide (keyK p.1 = some k)).map (·.2)
def dIdxK (dd dk : DE) : DE := fun δ R => dd δ fun x => dk δ fun y => match x with
  | .dict kvs => ∃ k d, keyK y = some k ∧ getI kvs k = some d ∧ R d
  | _ => False
/-- no key is a tuple, there is one at least, and the object is known (a dict that was one's own) -/
def keyOnly (kvs : List (PyData × PyData)) : Bool := kvs.all fun p => (keyK p.1).isSome
section
variable {K : PySem.W.Frag} {ib : Option Nat} {b : Bg} {i : Nat} {td tk : TE} {dd dk : DE} {ts : TS} {ds : DS}
theorem keyK_keyD (k : Key) : keyK (keyD k) = some k := by cases k <;> rfl
theorem rep_keys {S : Hp} : ∀ {vs : List (Key × V)} {kvs : List (Key × PyData)}, Paired (KeyR K S) vs kvs → Reps K S (vs.map Prod.snd) (kvs.map (·.2)) ∧ (vs.map fun p => keyD p.1).zip (kvs.map (·.2)) = keysD kvs
  | _, _, .nil => ⟨.nil, rfl⟩
  | _, _, .cons (a := v) (b := q) h t => by
    obtain ⟨r, e⟩ := rep_keys t
    refine ⟨.cons h.2 r, ?_⟩
    unfold keysD at e ⊢
    rw [List.map_cons, List.map_cons, List.zip_cons_cons, e, List.map_cons, h.1]
def frzO (od : Obj) (vs : List (Key × V)) : HO := .frz od (.dK vs)
theorem lock_ok {H0 S H : Hp} {σ : L2.St} {δ : DEnv} {kvs : List (Key × PyData)} {p : Addr} {vs : List (Key × V)} (o : Okk ib b S H) (hi : ib ≠ some i) (e : EnvOk K ib b H0 S H σ δ) (hσ : σ[i]? = some (some (V.ref p))) (hp : H p = some (.dK vs)) (hr : Paired (KeyR K S) vs kvs) (ne : kvs ≠ [])
    (hS : S p = none) (nb : ib ≠ none → p ≠ b.1) (hu : ∀ (j : Nat) (c : Cont), δ[j]? = some (some (DV.dct c)) → σ[j]? = some (some (V.ref p)) → j = i) (od : Obj) :
    Okk ib b (upd S p (frzO od vs)) (upd H p (frzO od vs)) ∧ EnvOk K ib b H0 (upd S p (frzO od vs)) (upd H p (frzO od vs)) σ (δ.set i (some (.dat (.dict (keysD kvs))))) := by
  have vn : vs ≠ [] := fun z => by
    subst z
    cases hr
    exact ne rfl
  have nb2 : ib ≠ none → p ≠ b.2 := fun z w => by
    obtain ⟨r, m, k, ns, e, ne, f, _⟩ := (o.bag z).ex
    rw [← w, hp] at f
    cases f
  have e0 : EnvOk K ib b H0 S (del H p) σ (δ.set i none) := by
    have look : ∀ (j : Nat) (x : DV), (δ.set i none)[j]? = some (some x) → j ≠ i ∧ δ[j]? = some (some x) := fun j x z => by
      by_cases c : j = i
      · subst c
        have hl : j < δ.length := by
          obtain ⟨w, _⟩ := List.getElem?_eq_some_iff.mp z
          rw [List.length_set] at w
          exact w
        rw [List.getElem?_set_self hl] at z
        cases z
      · rw [List.getElem?_set_ne (Ne.symm c)] at z
        exact ⟨c, z⟩
    refine ⟨by rw [List.length_set]; exact e.len, e.slot, fun j y z => e.dat j y (look j _ z).2, fun j ds z => ?_, fun j a z => e.fn j a (look j _ z).2, fun j c z => ?_⟩
    · obtain ⟨q, ys, a1, a2, a3, a4, a5, a6, a7⟩ := e.own j ds (look j _ z).2
      have np : q ≠ p := fun w => by rw [w, hp] at a2; cases a2
      exact ⟨q, ys, a1, by rw [del_ne np]; exact a2, a3, a4, a5, a6, fun j' es b1 b2 => a7 j' es (look j' _ b1).2 b2⟩
    · obtain ⟨q, u, a1, a2, a3, a4, a5, a6, a7⟩ := e.dct j c (look j _ z).2
      have np : q ≠ p := fun w => by
        rw [w] at a1
        exact (look j _ z).1 (hu j c (look j _ z).2 a1)
      exact ⟨q, u, a1, by rw [del_ne np]; exact a2, a3, a4, a5, a6, fun j' c' b1 b2 => a7 j' c' (look j' _ b1).2 b2⟩
  have ok : Okk ib b (upd S p (frzO od vs)) (upd H p (frzO od vs)) := by
    refine ⟨fun a u q => ?_, fun z => by rw [upd_ne (Ne.symm (nb z))]; exact o.off z, fun z => (o.bag z).kept fun a u c q => ?_⟩
    · by_cases c : a = p
      · rw [c, upd_same] at q ⊢; exact q
      · rw [upd_ne c] at q ⊢; exact o.sub a u q
    · rw [upd_ne fun (w : a = p) => by
        rcases c with c | c
        · exact nb z (w.symm.trans c)
        · exact nb2 z (w.symm.trans c)]
      exact q
  refine ⟨ok, ?_⟩
  have ge : Go ib b S (del H p) (upd S p (frzO od vs)) (upd H p (frzO od vs)) := by
    refine ⟨Ex.new hS, fun a u _ q => ?_, fun a h1 h2 => ?_, ok⟩
    · obtain ⟨n, q⟩ := del_some q
      rw [upd_ne n]; exact q
    · rw [upd_ne fun (w : a = p) => h1 (by rw [w, del_at])]
      exact h2
  obtain ⟨r1, r2⟩ := rep_keys hr
  have rep : Rep K (upd S p (frzO od vs)) (.ref p) (.dict (keysD kvs)) := by
    rw [← r2]
    exact .dF vn upd_same (r1.mono (Ex.new hS))
  have e1 := (e0.go ge).set hi rep
  have es : σ.set i (some (.ref p)) = σ := by
    obtain ⟨h, e⟩ := List.getElem?_eq_some_iff.mp hσ
    rw [← e, List.set_getElem_self]
  rw [es, List.set_set] at e1
  exact e1
theorem lock_back {S H S2 H2 : Hp} {p : Addr} {vs : List (Key × V)} {od : Obj} (o : Okk ib b S H) (hp : H p = some (.dK vs)) (hS : S p = none) (nb : ib ≠ none → p ≠ b.1) (g : Go ib b (upd S p (frzO od vs)) (upd H p (frzO od vs)) S2 H2) :
    S2 p = some (frzO od vs) ∧ H2 p = some (frzO od vs) ∧ Go ib b S H (cutH S2 p) (upd H2 p (.dK vs)) := by
  have s2 : S2 p = some (frzO od vs) := g.st p _ upd_same
  have h2 : H2 p = some (frzO od vs) := g.keep p _ nb upd_same
  refine ⟨s2, h2, fun a u q => ?_, fun a x n q => ?_, fun a h1 h3 => ?_, fun a u q => ?_, fun z => ?_, fun z => (g.ok.bag z).kept fun a u c q => ?_⟩
  · have c : a ≠ p := ne_of_none q hS
    rw [cutH_ne c]
    exact g.st a u ((upd_ne c).trans q)
  · by_cases c : a = p
    · rw [c, hp] at q
      rw [c, upd_same]
      exact q
    · rw [upd_ne c]
      exact g.keep a x n ((upd_ne c).trans q)
  · by_cases c : a = p
    · rw [c]; exact cutH_same
    · rw [cutH_ne c]
      exact g.new a (by rw [upd_ne c]; exact h1) ((upd_ne c).trans h3)
  · by_cases c : a = p
    · rw [c, cutH_same] at q; cases q
    · rw [cutH_ne c] at q
      rw [upd_ne c]
      exact g.ok.sub a u q
  · rw [cutH_ne (Ne.symm (nb z))]
    exact g.ok.off z
  · rw [upd_ne fun (w : a = p) => by
      rcases c with c | c
      · exact nb z (w.symm.trans c)
      · rw [w, h2] at q
        obtain ⟨r, m, k, ns, e1, ne, e3, rest⟩ := (g.ok.bag z).ex
        rw [← c, w, h2] at e3
        cases e3]
    exact q
/-- the list so far -/
def AcL (K : PySem.W.Frag) (S : Hp) (o : HO) (ds : List PyData) : Prop := ∃ xs, o = .lst xs ∧ Reps K S xs ds
theorem acL_mono : Keeps (AcL K) := by
  intro S S' o acc e h
  obtain ⟨xs, h, r⟩ := h
  exact ⟨xs, h, r.mono e⟩
def dPutL (de : DE) : DPut (List PyData) := fun δ acc N => small (acc.length + 1) = true ∧ de δ fun y => N (acc ++ [y])
theorem sim_putL {te : TE} {de : DE} (h1 : SimE K ib b te de) : SimPut K ib b (AcL K) (putL te) (dPutL de) := by
  intro H0 S1 H1 S H D σ δ acc N M o hD A h k
  obtain ⟨hz, h⟩ := h
  refine h1 H0 S H σ δ _ _ A.go.ok A.full h fun S2 H2 y dy g2 ry q => ?_
  have A2 := A.later acL_mono o hD g2
  obtain ⟨u, hu, xs, rfl, pr⟩ := A2.ac
  refine ⟨xs, hu, by rw [pr.length]; exact small_lt hz, ?_⟩
  refine k S2 _ _ ?_ (Go.ownUpd o A2.go hD A2.nS) ⟨_, upd_same, _, rfl, pr.append (.cons ry .nil)⟩ A2.nS q
  rw [del_upd]
  exact go_del o hD g2 A.tr A.nS
/-- [x for .. in what a dict of one's own tells]: it stands still meanwhile; what comes is plain -/
def dLockLc (i : Nat) (f : List (Key × PyData) → List PyData) (dg : DG) (dt : DT) (de : DE) (ws : List Nat) : DE := fun δ R => match δ[i]? with
  | some (some (.dct (.dG kvs))) => kvs ≠ [] ∧ dWalk dg dt (dPutL de) ws (δ.set i (some (.dat (.dict (keysD kvs))))) (f kvs) [] fun acc => tupOnlyAll acc = true ∧ R (.list acc)
  | _ => False
theorem frzO_notTup {od : Obj} {vs : List (Key × V)} : NotTup (frzO od vs) := ⟨fun _ z => (by cases z), fun _ _ z => (by cases z)⟩
theorem sim_lockLc {ti : TI} {f : List (Key × PyData) → List PyData} {J : Addr → Obj → List (Key × V) → It} {g : TG} {dg : DG} {tt : TT} {dt : DT} {te : TE} {de : DE} {ws : List Nat} (hi : ib ≠ some i) (hv : ∀ i, ib = some i → i ∉ ws)
    (tk : ∀ (σ : L2.St) (H : Hp) p od vs (R : It → Hp → Prop), σ[i]? = some (some (V.ref p)) → H p = some (frzO od vs) → R (J p od vs) H → ti σ H R)
    (wk : ∀ (S : Hp) p od vs kvs, S p = some (frzO od vs) → Paired (KeyR K S) vs kvs → WalkD K ib b S (J p od vs) (f kvs)) (hg : SimW K ib b g dg ws) (ht : SimT K ib b tt dt) (he : SimE K ib b te de) :
    SimE K ib b (tLockE (tLc ti g tt te ws)) (dLockLc i f dg dt de ws) := by
  intro H0 S H σ δ R Q o e h k
  unfold dLockLc at h
  split at h
  · rename_i kvs q0
    obtain ⟨ne, h⟩ := h
    obtain ⟨p, u, hσ, hp, ⟨vs, rfl, hr⟩, hS, h0, hb, hu⟩ := e.dct i _ q0
    refine ⟨p, _, hp, True.intro, fun od => ?_⟩
    obtain ⟨o1, e1⟩ := lock_ok o hi e hσ hp hr ne hS hb hu od
    refine tk _ _ p od vs _ hσ upd_same fun D hD => ?_
    have np : D ≠ p := fun w => by rw [w, upd_same] at hD; cases hD
    have hD2 : H D = none := by rw [upd_ne np] at hD; exact hD
    have A : At K ib b (AcL K) H0 (upd S p (frzO od vs)) (upd H p (frzO od vs)) D (upd S p (frzO od vs)) (upd (upd H p (frzO od vs)) D (.lst [])) σ (δ.set i (some (.dat (.dict (keysD kvs))))) [] := by
      refine ⟨Go.laidOwn o1 hD, ?_, ⟨_, upd_same, [], rfl, .nil⟩, Ex.none_of o1.sub hD⟩
      have eD : del (upd (upd H p (frzO od vs)) D (.lst [])) D = upd H p (frzO od vs) := by
        funext a
        by_cases c : a = D
        · rw [c, del_at]; exact hD.symm
        · rw [del_ne c, upd_ne c]
      rw [eD]
      exact e1
    refine sim_walk acL_mono hv hg ht (sim_putL he) o1 hD A (wk _ p od vs kvs upd_same (Paired.mapM hr fun v q _ z => ⟨z.1, z.2.mono (Ex.new hS)⟩)) h fun S' H' acc' a1 a2 ⟨w, hw, ys, ew, pr⟩ a4 ⟨a5, a6⟩ => ?_
    subst ew
    obtain ⟨b1, b2, b3⟩ := lock_back o hp hS hb a2
    have c4 : cutH S' p D = none := by rw [cutH_ne np]; exact a4
    have hw2 : upd H' p (.dK vs) D = some (.lst ys) := by rw [upd_ne np]; exact hw
    refine ⟨b2, ?_⟩
    have gF := Go.freeze o b3 hD2 c4 hw2
    exact k _ _ _ (.list acc') gF (.lst upd_same ((Reps.dropU b1 frzO_notTup pr a5).mono (Ex.new c4))) a6
  · exact h.elim
theorem key_at {S : Hp} {vs : List (Key × V)} {kvs : List (Key × PyData)} (h : Paired (KeyR K S) vs kvs) {i : Nat} {v : Key × V} (e : vs[i]? = some v) : ∃ q, kvs[i]? = some q ∧ KeyR K S v q := paired_get h e
theorem rep_key {S : Hp} (k : Key) : Rep K S (kV k) (keyD k) := by
  cases k with
  | inl i => exact .int i
  | inr s => exact .str s
/-- for k in d -/
theorem sim_lockKeys {g : TG} {dg : DG} {tt : TT} {dt : DT} {te : TE} {de : DE} {ws : List Nat} (hi : ib ≠ some i) (hv : ∀ i, ib = some i → i ∉ ws) (hg : SimW K ib b g dg ws) (ht : SimT K ib b tt dt) (he : SimE K ib b te de) :
    SimE K ib b (tLockE (tLc (iKeys (tVar i)) g tt te ws)) (dLockLc i (fun kvs => kvs.map fun p => keyD p.1) dg dt de ws) := by
  refine sim_lockLc (J := Itk) hi hv (fun σ H p od vs R h1 h2 h3 => ⟨_, h1, p, od, rfl, .inl ⟨vs, h2, h3⟩⟩) (fun S p od vs kvs hS hr S2 H2 ex o2 => ?_) hg ht he
  have hl : vs.length = kvs.length := Paired.length hr
  have hp : H2 p = some (.frz od (.dK vs)) := o2.sub _ _ (ex _ _ hS)
  refine ⟨fun j hj => ⟨hp, by rw [List.length_map] at hj; omega⟩, ⟨hp, by rw [List.length_map]; omega⟩, fun j x H' hj y => ?_⟩
  obtain ⟨rfl, kk, v, hv, rfl⟩ := y
  obtain ⟨q, hq, hr1, hr2⟩ := key_at hr hv
  exact ⟨S2, keyD kk, Go.refl o2, by rw [List.getElem?_map, hq]; exact congrArg some (congrArg keyD hr1.symm), rep_key kk⟩
/-- for x in d.values() -/
theorem sim_lockVals {g : TG} {dg : DG} {tt : TT} {dt : DT} {te : TE} {de : DE} {ws : List Nat} (hi : ib ≠ some i) (hv : ∀ i, ib = some i → i ∉ ws) (hg : SimW K ib b g dg ws) (ht : SimT K ib b tt dt) (he : SimE K ib b te de) :
    SimE K ib b (tLockE (tLc (iVals (tVar i)) g tt te ws)) (dLockLc i (fun kvs => kvs.map (·.2)) dg dt de ws) := by
  refine sim_lockLc (J := Itd) hi hv (fun σ H p od vs R h1 h2 h3 => ⟨_, h1, p, od, vs, rfl, h2, h3⟩) (fun S p od vs kvs hS hr S2 H2 ex o2 => ?_) hg ht he
  have hl : vs.length = kvs.length := Paired.length hr
  have hp : H2 p = some (.frz od (.dK vs)) := o2.sub _ _ (ex _ _ hS)
  refine ⟨fun j hj => ⟨hp, by rw [List.length_map] at hj; omega⟩, ⟨hp, by rw [List.length_map]; omega⟩, fun j x H' hj y => ?_⟩
  obtain ⟨rfl, kk, hv⟩ := y
  obtain ⟨q, hq, hr1, hr2⟩ := key_at hr hv
  exact ⟨S2, q.2, Go.refl o2, by rw [List.getElem?_map, hq]; rfl, hr2.mono ex⟩
theorem zip_val {S : Hp} {k : Key} : ∀ {vs : List (Key × V)} {ds : List PyData}, Reps K S (vs.map Prod.snd) ds → ∀ {d : PyData}, getI ((vs.map fun p => keyD p.1).zip ds) k = some d → ∃ v, valV vs k = some v ∧ Rep K S v d
  | [], _, .nil, d, h => by cases h
  | v :: vs, _ :: _, .cons r t, d, e => by
    unfold getI at e
    rw [List.map_cons, List.zip_cons_cons] at e
    by_cases c : v.1 = k
    · rw [List.find?_cons_of_pos (by simp [keyK_keyD, c])] at e
      cases e
      exact ⟨v.2, valV_pos c, r⟩
    · rw [List.find?_cons_of_neg (by simp [keyK_keyD, c])] at e
      obtain ⟨u, h1, h2⟩ := zip_val t e
      exact ⟨u, by rw [valV_neg c]; exact h1, h2⟩
theorem no_tup {S : Hp} {k : Key} : ∀ {xs : List NRow} {ks ds : List PyData}, Reps K S (xs.map fun x => V.ref x.2.1) ks → getI (ks.zip ds) k = none
  | [], _, _, .nil => rfl
  | _ :: _, _ :: _, [], .cons _ _ => rfl
  | x :: xs, q :: ks, d :: ds, .cons r t => by
    unfold getI
    rw [List.zip_cons_cons, List.find?_cons_of_neg]
    · exact no_tup t
    · intro z
      cases r <;> simp [keyK] at z
theorem sim_idxK (h1 : SimE K ib b td dd) (h2 : SimE K ib b tk dk) : SimE K ib b (tDGet td tk) (dIdxK dd dk) := by
  intro H0 S H σ δ R Q o e h k
  refine h1 H0 S H σ δ _ _ o e h fun S1 H1 v x g1 r1 q => ?_
  refine h2 H0 S1 H1 σ δ _ _ g1.ok (e.go g1) q fun S2 H2 y dy g2 r2 q2 => ?_
  split at q2
  · rename_i kvs
    obtain ⟨kk, d, hk, hd, q2⟩ := q2
    have g12 := g1.trans o g2
    have r1 := r1.mono g2.st
    cases r1 with
    | dK hS rr =>
      obtain ⟨w, hw, rw'⟩ := zip_val rr hd
      refine ⟨_, w, rfl, ?_, k S2 H2 _ _ g12 rw' q2⟩
      rw [keyK_rep r2 hk, ← hw]
      exact .inl ⟨_, kk, .inl (g2.ok.sub _ _ hS), rfl, rfl⟩
    | dF nn hS rr =>
      obtain ⟨w, hw, rw'⟩ := zip_val rr hd
      refine ⟨_, w, rfl, ?_, k S2 H2 _ _ g12 rw' q2⟩
      rw [keyK_rep r2 hk, ← hw]
      exact .inl ⟨_, kk, .inr ⟨_, g2.ok.sub _ _ hS⟩, rfl, rfl⟩
    | dN hS ek h8 q1 q2 vv =>
      rw [no_tup q1] at hd
      cases hd
  · exact q2.elim
end
end DL

namespace DL
open PySem PySem.Spec PyProof.Rows L2
open Evl (Ex ex_l ex_t)
variable [TheW]
open PySem.W (EachIs AllAlike Sortable SortsAt sortVals sortLe keyToks keyToksAll dataKind alike alikeAll)
mutual
def pureS : PyData → Bool
  | .none => false
  | .bool _ => false
  | .int _ => false
  | .str _ => true
  | .list _ => false
  | .tuple xs => pureSAll xs
  | .dict _ => false
def pureSAll : List PyData → Bool
  | [] => true
  | x :: xs => pureS x && pureSAll xs
end
mutual
theorem eqv_pure : ∀ x y : PyData, pureS x = true → pureS y = true → PyData.eqv x y = true → x = y
  | .str a, .str c, _, _, h => by
    rw [eqv_ss] at h
    rw [eq_of_beq h]
  | .tuple xs, .tuple ys, h1, h2, h => by
    simp only [PyData.eqv] at h
    rw [eqv_pureAll xs ys h1 h2 h]
  | .str a, .tuple ys, _, _, h => by simp [PyData.eqv] at h
  | .tuple xs, .str a, _, _, h => by simp [PyData.eqv] at h
  | .none, _, h, _, _ => absurd h Bool.false_ne_true
  | .bool _, _, h, _, _ => absurd h Bool.false_ne_true
  | .int _, _, h, _, _ => absurd h Bool.false_ne_true
  | .list _, _, h, _, _ => absurd h Bool.false_ne_true
  | .dict _, _, h, _, _ => absurd h Bool.false_ne_true
  | .str _, .none, _, h, _ => absurd h Bool.false_ne_true
  | .str _, .bool _, _, h, _ => absurd h Bool.false_ne_true
  | .str _, .int _, _, h, _ => absurd h Bool.false_ne_true
  | .str _, .list _, _, h, _ => absurd h Bool.false_ne_true
  | .str _, .dict _, _, h, _ => absurd h Bool.false_ne_true
  | .tuple _, .none, _, h, _ => absurd h Bool.false_ne_true
  | .tuple _, .bool _, _, h, _ => absurd h Bool.false_ne_true
  | .tuple _, .int _, _, h, _ => absurd h Bool.false_ne_true
  | .tuple _, .list _, _, h, _ => absurd h Bool.false_ne_true
  | .tuple _, .dict _, _, h, _ => absurd h Bool.false_ne_true
theorem eqv_pureAll : ∀ xs ys : List PyData, pureSAll xs = true → pureSAll ys = true → PyData.eqvAll xs ys = true → xs = ys
  | [], [], _, _, _ => rfl
  | x :: xs, y :: ys, h1, h2, h => by
    simp only [pureSAll, Bool.and_eq_true] at h1 h2
    simp only [PyData.eqvAll, Bool.and_eq_true] at h
    rw [eqv_pure x y h1.1 h2.1 h.1, eqv_pureAll xs ys h1.2 h2.2 h.2]
  | [], _ :: _, _, _, h => by simp [PyData.eqvAll] at h
  | _ :: _, [], _, _, h => by simp [PyData.eqvAll] at h
end
/-- what stands once in l, and all in ts, is no more than ts -/
theorem nodup_le {α : Type} : ∀ (l ts : List α), l.Nodup → (∀ x ∈ l, x ∈ ts) → l.length ≤ ts.length
  | [], _, _, _ => Nat.zero_le _
  | x :: l, ts, nd, h => by
    obtain ⟨s, t, rfl⟩ := List.append_of_mem (h x (List.mem_cons_self ..))
    have nd := List.nodup_cons.mp nd
    have := nodup_le l (s ++ t) nd.2 fun y hy => by
      have := h y (List.mem_cons_of_mem _ hy)
      rcases List.mem_append.mp this with z | z
      · exact List.mem_append.mpr (.inl z)
      · rcases List.mem_cons.mp z with z | z
        · exact absurd (z ▸ hy) nd.1
        · exact List.mem_append.mpr (.inr z)
    rw [List.length_append] at this
    rw [List.length_append, List.length_cons, List.length_cons]
    omega

def names13 : List Str := ["a", "b", "c", "f", "g", "x", "y", "abcdefgh", "aa", "tel", "goo", "yess", "z"]
/-- one of the names -/
def isN3 : PyData → Bool
  | .str n => decide (n ∈ names13)
  | _ => false
def nmL3 : PyData → List Nat
  | .str n => n.cps.toList
  | _ => []
mutual
/-- a term -/
def tm : PyData → Bool
  | .none => false
  | .bool _ => false
  | .int _ => false
  | .str _ => false
  | .list _ => false
  | .tuple xs => tmH xs
  | .dict _ => false
def tmH : List PyData → Bool
  | [] => false
  | x :: xs => isN3 x && tmAll xs
def tmAll : List PyData → Bool
  | [] => true
  | x :: xs => tm x && tmAll xs
end
mutual
/-- its text -/
def mkD : PyData → List Nat
  | .none => []
  | .bool _ => []
  | .int _ => []
  | .str _ => []
  | .list _ => []
  | .tuple xs => mkH xs
  | .dict _ => []
def mkH : List PyData → List Nat
  | [] => []
  | x :: xs => nmL3 x ++ 40 :: mkAll xs
def mkAll : List PyData → List Nat
  | [] => [41]
  | x :: xs => mkD x ++ mkAll xs
end
theorem nm_ok : ∀ n ∈ names13, n.cps.toList ≠ [] ∧ ∀ c ∈ n.cps.toList, 41 < c := by decide
theorem pre_lt {u v : List Nat} : ∀ (p q : List Nat), (∀ c ∈ p, 41 < c) → (∀ c ∈ q, 41 < c) → p ≠ q → ((p ++ 40 :: u < q ++ 40 :: v) ↔ p < q)
  | [], [], _, _, h => absurd rfl h
  | [], c :: q, _, hq, _ => by
    have := hq c (List.mem_cons_self ..)
    simp only [List.nil_append, List.cons_append, List.cons_lt_cons_iff, List.nil_lt_cons]
    simp
    omega
  | c :: p, [], hp, _, _ => by
    have := hp c (List.mem_cons_self ..)
    simp only [List.nil_append, List.cons_append, List.cons_lt_cons_iff, List.not_lt_nil]
    simp
    omega
  | c :: p, d :: q, hp, hq, h => by
    have ih := pre_lt (u := u) (v := v) p q (fun x hx => hp x (List.mem_cons_of_mem _ hx)) (fun x hx => hq x (List.mem_cons_of_mem _ hx))
    simp only [List.cons_append, List.cons_lt_cons_iff]
    by_cases e : c = d
    · subst e
      have ne : p ≠ q := fun z => h (by rw [z])
      rw [ih ne]
    · simp [e]
theorem lt_pre {a b : List Nat} : ∀ p : List Nat, (p ++ a < p ++ b) ↔ a < b
  | [] => Iff.rfl
  | c :: p => by
    rw [List.cons_append, List.cons_append, List.cons_lt_cons_iff, lt_pre p]
    simp
theorem hd_tm : ∀ y : PyData, tm y = true → ∃ c r, mkD y = c :: r ∧ 41 < c
  | .tuple [], h => by simp [tm, tmH] at h
  | .tuple (x :: xs), h => by
    simp only [tm, tmH, Bool.and_eq_true] at h
    cases x with
    | str n =>
      have hn := nm_ok n (of_decide_eq_true h.1)
      simp only [mkD, mkH, nmL3]
      match e : n.cps.toList, hn with
      | [], hn => exact absurd rfl hn.1
      | c :: r, hn => exact ⟨c, _, rfl, hn.2 c (List.mem_cons_self ..)⟩
    | _ => exact absurd h.1 Bool.false_ne_true
  | .none, h => absurd h Bool.false_ne_true
  | .bool _, h => absurd h Bool.false_ne_true
  | .int _, h => absurd h Bool.false_ne_true
  | .str _, h => absurd h Bool.false_ne_true
  | .list _, h => absurd h Bool.false_ne_true
  | .dict _, h => absurd h Bool.false_ne_true
theorem nm_str {x : PyData} (h : isN3 x = true) : ∃ n, x = .str n ∧ n ∈ names13 := by
  cases x with
  | str n => exact ⟨n, rfl, of_decide_eq_true h⟩
  | _ => exact absurd h Bool.false_ne_true
theorem tm_tup {x : PyData} (h : tm x = true) : ∃ n ps, x = .tuple (.str n :: ps) ∧ n ∈ names13 ∧ tmAll ps = true := by
  cases x with
  | tuple xs =>
    cases xs with
    | nil => exact absurd h Bool.false_ne_true
    | cons y ys =>
      simp only [tm, tmH, Bool.and_eq_true] at h
      obtain ⟨n, rfl, hn⟩ := nm_str h.1
      exact ⟨n, ys, rfl, hn, h.2⟩
  | _ => exact absurd h Bool.false_ne_true
abbrev ltT (a b : List (Int ⊕ List Nat)) : Bool := PyProof.Rows.lexLt itemOrd a b
theorem lt_head {x y : Int ⊕ List Nat} {r t : List (Int ⊕ List Nat)} (h : x ≠ y) : ltT (x :: r) (y :: t) = itemOrd.blt x y := PyProof.Rows.lex_diff (O := itemOrd) h
theorem lt_same {x : Int ⊕ List Nat} {r t : List (Int ⊕ List Nat)} : ltT (x :: r) (x :: t) = ltT r t := PyProof.Rows.lex_self (O := itemOrd) x r t
mutual
theorem ord : ∀ (x y : PyData), tm x = true → tm y = true → ∀ A B a b, (ltT A B = true ↔ a < b) → (ltT (keyToks x ++ A) (keyToks y ++ B) = true ↔ mkD x ++ a < mkD y ++ b)
  | .tuple (.str n :: ps), y, hx, hy, A, B, a, b, h => by
    obtain ⟨m, qs, rfl, hm, hq⟩ := tm_tup hy
    simp only [tm, tmH, Bool.and_eq_true] at hx
    have hn := nm_ok n (of_decide_eq_true hx.1)
    have hm' := nm_ok m hm
    have ih := ordAll ps qs hx.2 hq A B a b h
    simp only [keyToks, keyToksAll, mkD, mkH, nmL3, List.cons_append, List.append_assoc, List.singleton_append, List.nil_append]
    rw [lt_same]
    by_cases e : n.cps.toList = m.cps.toList
    · rw [e, lt_same, ih, lt_pre, List.cons_lt_cons_iff]
      simp
    · rw [lt_head (fun z => e (Sum.inr.inj z)), pre_lt _ _ hn.2 hm'.2 e]
      show decide _ = true ↔ _
      rw [decide_eq_true_eq]
  | .tuple [], _, hx, _, _, _, _, _, _ => absurd hx Bool.false_ne_true
  | .tuple (.none :: _), _, hx, _, _, _, _, _, _ => absurd hx Bool.false_ne_true
  | .tuple (.bool _ :: _), _, hx, _, _, _, _, _, _ => absurd hx Bool.false_ne_true
  | .tuple (.int _ :: _), _, hx, _, _, _, _, _, _ => absurd hx Bool.false_ne_true
  | .tuple (.list _ :: _), _, hx, _, _, _, _, _, _ => absurd hx Bool.false_ne_true
  | .tuple (.tuple _ :: _), _, hx, _, _, _, _, _, _ => absurd hx Bool.false_ne_true
  | .tuple (.dict _ :: _), _, hx, _, _, _, _, _, _ => absurd hx Bool.false_ne_true
  | .none, _, hx, _, _, _, _, _, _ => absurd hx Bool.false_ne_true
  | .bool _, _, hx, _, _, _, _, _, _ => absurd hx Bool.false_ne_true
  | .int _, _, hx, _, _, _, _, _, _ => absurd hx Bool.false_ne_true
  | .str _, _, hx, _, _, _, _, _, _ => absurd hx Bool.false_ne_true
  | .list _, _, hx, _, _, _, _, _, _ => absurd hx Bool.false_ne_true
  | .dict _, _, hx, _, _, _, _, _, _ => absurd hx Bool.false_ne_true
theorem ordAll : ∀ (xs ys : List PyData), tmAll xs = true → tmAll ys = true → ∀ A B a b, (ltT A B = true ↔ a < b) → (ltT (keyToksAll xs ++ A) (keyToksAll ys ++ B) = true ↔ mkAll xs ++ a < mkAll ys ++ b)
  | [], [], _, _, A, B, a, b, h => by
    simp only [keyToksAll, mkAll, List.cons_append, List.nil_append]
    rw [lt_same, h, List.cons_lt_cons_iff]
    simp
  | [], y :: ys, _, hy, A, B, a, b, h => by
    simp only [tmAll, Bool.and_eq_true] at hy
    obtain ⟨c, r, e, hc⟩ := hd_tm y hy.1
    simp only [keyToksAll, mkAll, e, List.cons_append, List.nil_append]
    rw [lt_head (by decide)]
    have : (41 :: a < c :: (r ++ mkAll ys ++ b)) := by
      rw [List.cons_lt_cons_iff]
      exact .inl hc
    exact ⟨fun _ => this, fun _ => by decide⟩
  | x :: xs, [], hx, _, A, B, a, b, h => by
    simp only [tmAll, Bool.and_eq_true] at hx
    obtain ⟨c, r, e, hc⟩ := hd_tm x hx.1
    simp only [keyToksAll, mkAll, e, List.cons_append, List.nil_append]
    rw [lt_head (by decide)]
    have : ¬ (c :: (r ++ mkAll xs ++ a) < 41 :: b) := by
      rw [List.cons_lt_cons_iff]
      omega
    exact ⟨fun z => absurd z (by decide), fun z => absurd z this⟩
  | x :: xs, y :: ys, hx, hy, A, B, a, b, h => by
    simp only [tmAll, Bool.and_eq_true] at hx hy
    simp only [keyToksAll, mkAll, List.cons_append, List.append_assoc]
    rw [lt_same]
    exact ord x y hx.1 hy.1 _ _ _ _ (ordAll xs ys hx.2 hy.2 A B a b h)
end
theorem ord0 {x y : PyData} (hx : tm x = true) (hy : tm y = true) : ltT (keyToks x) (keyToks y) = decide (mkD x < mkD y) := by
  have := ord x y hx hy [] [] [] [] (by decide)
  rw [List.append_nil, List.append_nil, List.append_nil, List.append_nil] at this
  by_cases c : mkD x < mkD y
  · rw [decide_eq_true c, this.mpr c]
  · rw [decide_eq_false c]
    cases e : ltT (keyToks x) (keyToks y) with
    | true => exact absurd (this.mp e) c
    | false => rfl
mutual
theorem alike_tm : ∀ (x y : PyData), tm x = true → tm y = true → alike x y = true
  | .tuple (.str n :: ps), y, hx, hy => by
    obtain ⟨m, qs, rfl, hm, hq⟩ := tm_tup hy
    simp only [tm, tmH, Bool.and_eq_true] at hx
    simp only [alike, alikeAll, alike_tmAll ps qs hx.2 hq, Bool.and_self]
  | .tuple [], _, hx, _ => absurd hx Bool.false_ne_true
  | .tuple (.none :: _), _, hx, _ => absurd hx Bool.false_ne_true
  | .tuple (.bool _ :: _), _, hx, _ => absurd hx Bool.false_ne_true
  | .tuple (.int _ :: _), _, hx, _ => absurd hx Bool.false_ne_true
  | .tuple (.list _ :: _), _, hx, _ => absurd hx Bool.false_ne_true
  | .tuple (.tuple _ :: _), _, hx, _ => absurd hx Bool.false_ne_true
  | .tuple (.dict _ :: _), _, hx, _ => absurd hx Bool.false_ne_true
  | .none, _, hx, _ => absurd hx Bool.false_ne_true
  | .bool _, _, hx, _ => absurd hx Bool.false_ne_true
  | .int _, _, hx, _ => absurd hx Bool.false_ne_true
  | .str _, _, hx, _ => absurd hx Bool.false_ne_true
  | .list _, _, hx, _ => absurd hx Bool.false_ne_true
  | .dict _, _, hx, _ => absurd hx Bool.false_ne_true
theorem alike_tmAll : ∀ (xs ys : List PyData), tmAll xs = true → tmAll ys = true → alikeAll xs ys = true
  | [], _, _, _ => by simp only [alikeAll]
  | _ :: _, [], _, _ => by simp only [alikeAll]
  | x :: xs, y :: ys, hx, hy => by
    simp only [tmAll, Bool.and_eq_true] at hx hy
    simp only [alikeAll, alike_tm x y hx.1 hy.1, alike_tmAll xs ys hx.2 hy.2, Bool.and_self]
end
mutual
theorem pure_tm : ∀ x : PyData, tm x = true → pureS x = true
  | .tuple (.str n :: ps), hx => by
    simp only [tm, tmH, Bool.and_eq_true] at hx
    simp only [pureS, pureSAll, pure_tmAll ps hx.2, Bool.and_self]
  | .tuple [], hx => absurd hx Bool.false_ne_true
  | .tuple (.none :: _), hx => absurd hx Bool.false_ne_true
  | .tuple (.bool _ :: _), hx => absurd hx Bool.false_ne_true
  | .tuple (.int _ :: _), hx => absurd hx Bool.false_ne_true
  | .tuple (.list _ :: _), hx => absurd hx Bool.false_ne_true
  | .tuple (.tuple _ :: _), hx => absurd hx Bool.false_ne_true
  | .tuple (.dict _ :: _), hx => absurd hx Bool.false_ne_true
  | .none, hx => absurd hx Bool.false_ne_true
  | .bool _, hx => absurd hx Bool.false_ne_true
  | .int _, hx => absurd hx Bool.false_ne_true
  | .str _, hx => absurd hx Bool.false_ne_true
  | .list _, hx => absurd hx Bool.false_ne_true
  | .dict _, hx => absurd hx Bool.false_ne_true
theorem pure_tmAll : ∀ xs : List PyData, tmAll xs = true → pureSAll xs = true
  | [], _ => rfl
  | x :: xs, hx => by
    simp only [tmAll, Bool.and_eq_true] at hx
    simp only [pureSAll, pure_tm x hx.1, pure_tmAll xs hx.2, Bool.and_self]
end
/-- two texts that are neither way less are of one term -/
theorem tri {x y : PyData} (hx : tm x = true) (hy : tm y = true) (h1 : ¬ mkD x < mkD y) (h2 : ¬ mkD y < mkD x) : x = y := by
  have e1 := ord0 hx hy
  have e2 := ord0 hy hx
  rw [decide_eq_false h1] at e1
  rw [decide_eq_false h2] at e2
  have et : keyToks x = keyToks y := PyProof.Rows.lex_total (O := itemOrd) _ _ e1 e2
  have ha := alike_tm x y hx hy
  cases ee : PyData.eqv x y with
  | true => exact eqv_pure x y (pure_tm x hx) (pure_tm y hy) ee
  | false =>
    have := (PySem.W.toks_eqv x y ha).2 ee [] [.inl 0]
    rw [et, PySem.W.lex_pre] at this
    exact absurd this (by
      have i := PyProof.Rows.lex_irrefl (O := itemOrd) (keyToks y)
      rw [i]
      decide)
theorem mk_inj {x y : PyData} (hx : tm x = true) (hy : tm y = true) (h : mkD x = mkD y) : x = y := tri hx hy (by rw [h]; exact List.lt_irrefl _) (by rw [h]; exact List.lt_irrefl _)
/-- the order of terms -/
def LT (a b : PyData) : Prop := mkD a < mkD b
theorem uniq : ∀ xs ys : List PyData, xs.Pairwise LT → ys.Pairwise LT → (∀ t, t ∈ xs ↔ t ∈ ys) → xs = ys
  | [], [], _, _, _ => rfl
  | [], y :: _, _, _, h => absurd ((h y).mpr (List.mem_cons_self ..)) (by simp)
  | x :: _, [], _, _, h => absurd ((h x).mp (List.mem_cons_self ..)) (by simp)
  | x :: xs, y :: ys, p, q, h => by
    have p' := List.pairwise_cons.mp p
    have q' := List.pairwise_cons.mp q
    have e : x = y := by
      rcases List.mem_cons.mp ((h x).mp (List.mem_cons_self ..)) with e | hx
      · exact e
      rcases List.mem_cons.mp ((h y).mpr (List.mem_cons_self ..)) with e | hy
      · exact e.symm
      exact absurd (q'.1 x hx) (List.lt_asymm (p'.1 y hy))
    subst e
    rw [uniq xs ys p'.2 q'.2 fun t => ⟨fun ht => ?_, fun ht => ?_⟩]
    · rcases List.mem_cons.mp ((h t).mp (List.mem_cons_of_mem _ ht)) with e | h2
      · subst e
        exact absurd (p'.1 t ht) (List.lt_irrefl _)
      · exact h2
    · rcases List.mem_cons.mp ((h t).mpr (List.mem_cons_of_mem _ ht)) with e | h2
      · subst e
        exact absurd (q'.1 t ht) (List.lt_irrefl _)
      · exact h2
theorem strict : ∀ {xs : List PyData}, xs.Pairwise (fun a b => ¬ mkD b < mkD a) → xs.Nodup → (∀ t ∈ xs, tm t = true) → xs.Pairwise LT
  | [], _, _, _ => List.Pairwise.nil
  | x :: xs, p, nd, h => by
    have p' := List.pairwise_cons.mp p
    have nd' := List.nodup_cons.mp nd
    refine List.pairwise_cons.mpr ⟨fun y hy => ?_, strict p'.2 nd'.2 fun t ht => h t (List.mem_cons_of_mem _ ht)⟩
    by_cases c : mkD x < mkD y
    · exact c
    · have := tri (h x (List.mem_cons_self ..)) (h y (List.mem_cons_of_mem _ hy)) c (p'.1 y hy)
      subst this
      exact absurd hy nd'.1
/-- what sorted tells of terms -/
theorem sortD_lt {ds : List PyData} (h : ∀ t ∈ ds, tm t = true) (nd : ds.Nodup) : (sortD ds).Pairwise LT ∧ ∀ t, t ∈ sortD ds ↔ t ∈ ds := by
  have pm : (sortD ds).Perm ds := List.mergeSort_perm ..
  refine ⟨strict ?_ (pm.nodup_iff.mpr nd) fun t ht => h t (pm.mem_iff.mp ht), fun t => pm.mem_iff⟩
  have pw := PySem.W.sort_pairwise (PySem.W.sortLe_total (listOrd itemOrd) false keyToks) ds
  have pw : (sortD ds).Pairwise fun a b => sortLe (listOrd itemOrd) false keyToks a b = true := pw
  refine List.Pairwise.imp_of_mem (fun {a b} ha hb hab => ?_) pw
  have hab : (!ltT (keyToks b) (keyToks a)) = true := hab
  rw [ord0 (h b (pm.mem_iff.mp hb)) (h a (pm.mem_iff.mp ha))] at hab
  intro z
  rw [decide_eq_true z] at hab
  exact absurd hab (by decide)
theorem rising_pw : ∀ (r : List Str) (p : Str), risingS p r = true → (p :: r).Pairwise fun a b => ¬ b.cps.toList < a.cps.toList
  | [], p, _ => List.pairwise_singleton _ _
  | x :: r, p, h => by
    simp only [risingS, Bool.and_eq_true] at h
    have ih := rising_pw r x h.2
    have h1 : ¬ x.cps.toList < p.cps.toList := by
      have := h.1
      rw [ltCps_eq] at this
      intro z
      rw [decide_eq_true z] at this
      exact absurd this (by decide)
    refine List.pairwise_cons.mpr ⟨fun y hy => ?_, ih⟩
    rcases List.mem_cons.mp hy with rfl | hy
    · exact h1
    · have h2 := (List.pairwise_cons.mp ih).1 y hy
      have a : p.cps.toList ≤ x.cps.toList := h1
      have b : x.cps.toList ≤ y.cps.toList := h2
      exact List.le_trans a b
theorem sortedS_pw {l : List Str} (h : sortedS l = true) : l.Pairwise fun a b => ¬ b.cps.toList < a.cps.toList := by
  cases l with
  | nil => exact List.Pairwise.nil
  | cons p r => exact rising_pw r p h

end DL

namespace DL
open PySem PySem.Spec PyProof.Rows L2
open Evl (Ex ex_l ex_t)
variable [TheW]
abbrev pre_l_takeB := pre_l_take
abbrev post_l_takeB := post_l_take
abbrev sp_l_takeB := sp_l_take
abbrev n_l_takeB := n_l_take
mutual
/-- how many tuples -/
def nd : PyData → Nat
  | .none => 0
  | .bool _ => 0
  | .int _ => 0
  | .str _ => 0
  | .list _ => 0
  | .tuple xs => ndAll xs + 1
  | .dict _ => 0
def ndAll : List PyData → Nat
  | [] => 0
  | x :: xs => nd x + ndAll xs
end
def parts : PyData → List PyData
  | .tuple (_ :: ps) => ps
  | _ => []
/-- a term, as far as it matters here -/
structure okT (x : PyData) : Prop where
  t : tupOnly x = true
  f : fit x = true
  d : x.depth ≤ 8
  w : wt x ≤ 10000
  m : tm x = true
  n : nd x ≤ 127
  q : (parts x).length ≤ 3
/-- t is u, or a part of it, of a part of it .. -/
inductive Sub : PyData → PyData → Prop
  | refl (t : PyData) : Sub t t
  | part {t u p : PyData} (h : p ∈ parts u) (s : Sub t p) : Sub t u
/-- u is one of the terms of a thing -/
inductive Tin : PyData → PyData → Prop
  | tell (a : PyData) : Tin a (.tuple [.str "tell", a])
  | if1 (a b y n : PyData) : Tin a (.tuple [.str "if", a, b, y, n])
  | if2 (a b y n : PyData) : Tin b (.tuple [.str "if", a, b, y, n])
  | if3 {u : PyData} (a b y n : PyData) (h : Tin u y) : Tin u (.tuple [.str "if", a, b, y, n])
  | if4 {u : PyData} (a b y n : PyData) (h : Tin u n) : Tin u (.tuple [.str "if", a, b, y, n])
  | al1 (w : Str) (a b : PyData) (h : w = "alike" ∨ w = "unlike") : Tin a (.tuple [.str w, a, b])
  | al2 (w : Str) (a b : PyData) (h : w = "alike" ∨ w = "unlike") : Tin b (.tuple [.str w, a, b])
  | term (v : PyData) (h : tm v = true) : Tin v v
/-- codes and guards -/
inductive Cd where
  | tell (t : PyData)
  | gd (c : Bool)
  | iff (a b : PyData) (y n : Cd)
def Cd.toD : Cd → PyData
  | .tell t => .tuple [.str "tell", t]
  | .gd true => .tuple [.str "yes"]
  | .gd false => .tuple [.str "no"]
  | .iff a b y n => .tuple [.str "if", a, b, y.toD, n.toD]
def Cd.dep : Cd → Nat
  | .tell _ => 0
  | .gd _ => 0
  | .iff _ _ y n => max y.dep n.dep + 1
def Cd.ok : Cd → Prop
  | .tell t => okT t
  | .gd _ => False
  | .iff a b y n => okT a ∧ okT b ∧ y.ok ∧ n.ok
theorem Cd.inj : ∀ c e : Cd, c.toD = e.toD → c = e := by
  have sz : ∀ (c : Cd), ∃ l, c.toD = .tuple l := by
    intro c
    cases c with
    | tell t => exact ⟨_, rfl⟩
    | gd c => cases c <;> exact ⟨_, rfl⟩
    | iff a b y n => exact ⟨_, rfl⟩
  have ny : (Str.ofString "yes") ≠ Str.ofString "no" := by decide
  intro c
  induction c with
  | tell t =>
    intro e h
    cases e with
    | tell u => simp only [Cd.toD, PyData.tuple.injEq, List.cons.injEq, true_and, and_true] at h; rw [h]
    | gd c => cases c <;> simp [Cd.toD] at h
    | iff a b y n => simp [Cd.toD] at h
  | gd c =>
    intro e h
    cases e with
    | tell u => cases c <;> simp [Cd.toD] at h
    | gd e =>
      cases c <;> cases e
      · rfl
      · simp only [Cd.toD, PyData.tuple.injEq, List.cons.injEq, PyData.str.injEq, and_true] at h; exact absurd h.symm ny
      · simp only [Cd.toD, PyData.tuple.injEq, List.cons.injEq, PyData.str.injEq, and_true] at h; exact absurd h ny
      · rfl
    | iff a b y n => cases c <;> simp [Cd.toD] at h
  | iff a b y n hy hn =>
    intro e h
    cases e with
    | tell u => simp [Cd.toD] at h
    | gd c => cases c <;> simp [Cd.toD] at h
    | iff a' b' y' n' =>
      simp only [Cd.toD, PyData.tuple.injEq, List.cons.injEq, true_and, and_true] at h
      obtain ⟨h1, h2, h3, h4⟩ := h
      rw [h1, h2, hy _ h3, hn _ h4]
structure PoolL (ts : List PyData) : Prop where
  ne : ts ≠ []
  l : ts.length ≤ 7
  t : ∀ t ∈ ts, okT t
  cl : ∀ t ∈ ts, ∀ p ∈ parts t, p ∈ ts
structure PoolW (ts : List PyData) : Prop where
  ne : ts ≠ []
  l : ts.length ≤ 7
  t : ∀ t ∈ ts, okT t
theorem PoolL.w {ts : List PyData} (h : PoolL ts) : PoolW ts := ⟨h.ne, h.l, h.t⟩
def Cd.okIn (ts : List PyData) : Cd → Prop
  | .tell t => t ∈ ts
  | .gd _ => False
  | .iff a b y n => a ∈ ts ∧ b ∈ ts ∧ y.okIn ts ∧ n.okIn ts
/-- a thing over a pool -/
def ThOk (ts : List PyData) (v : PyData) : Prop :=
  (∃ c : Cd, v = c.toD ∧ c.okIn ts ∧ c.dep ≤ 5) ∨ (∃ (w : Str) (a b : PyData), (w = "alike" ∨ w = "unlike") ∧ v = .tuple [.str w, a, b] ∧ a ∈ ts ∧ b ∈ ts) ∨ v ∈ ts
def ValsOk (vs : List PyData) : Prop := ∃ ts, PoolL ts ∧ (∀ v ∈ vs, ThOk ts v) ∧ vs.length ≤ 1
def Due (vs es : List PyData) : Prop := es.Pairwise LT ∧ ∀ t, t ∈ es ↔ ∃ v ∈ vs, ∃ u, Tin u v ∧ Sub t u
/-- promises -/
def pre_mark (n : Nat) : List PyData → Prop := fun ds => ∃ t, ds = [t] ∧ tm t = true ∧ t.depth ≤ n ∧ n ≤ 12 ∧ wt t ≤ 10000
def post_mark : List PyData → PyData → Prop := fun ds d => ∃ t s, ds = [t] ∧ d = .str s ∧ s.cps.toList = mkD t
def sp_mark (K : PySem.W.Frag) (n : Nat) : Sp := spP K (pre_mark n) post_mark
theorem n_mark (n : Nat) : ∀ ds, pre_mark n ds → ds.length = 1 := by
  rintro ds ⟨c, rfl, _⟩
  rfl
theorem tm_depth {t : PyData} (h : tm t = true) : 1 ≤ t.depth := by
  obtain ⟨n, ps, rfl, _⟩ := tm_tup h
  simp only [PyData.depth]
  omega
theorem no_mark : ∀ ds, ¬ pre_mark 0 ds := by
  rintro ds ⟨t, _, h, h2, _⟩
  have := tm_depth h
  omega
def pre_closed : List PyData → Prop := fun ds => ∃ us ts, ds = [.list us] ∧ PoolL ts ∧ (∀ u ∈ us, u ∈ ts) ∧ ndAll us ≤ 50000
def post_closed : List PyData → List PyData → Prop := fun ds es => ∃ us, ds = [.list us] ∧ es.Pairwise LT ∧ ∀ t, t ∈ es ↔ ∃ u ∈ us, Sub t u
def sp_closed (K : PySem.W.Frag) : Sp := spPO K pre_closed post_closed
theorem n_closed : ∀ ds, pre_closed ds → ds.length = 1 := by
  rintro ds ⟨us, ts, rfl, _⟩
  rfl
def pre_asked : List PyData → Prop := fun ds => ∃ vs, ds = [.list vs] ∧ ValsOk vs
def post_asked : List PyData → List PyData → Prop := fun ds es => ∃ vs, ds = [.list vs] ∧ Due vs es
def sp_asked (K : PySem.W.Frag) : Sp := spPO K pre_asked post_asked
theorem n_asked : ∀ ds, pre_asked ds → ds.length = 1 := by
  rintro ds ⟨vs, rfl, _⟩
  rfl
def pre_l_subs (n : Nat) : List PyData → Prop := fun ds => ∃ t, ds = [t] ∧ tm t = true ∧ t.depth ≤ n ∧ n ≤ 12 ∧ nd t ≤ 127
def post_l_subs : List PyData → List PyData → Prop := fun ds es => ∃ t, ds = [t] ∧ es.length = nd t ∧ ∀ x, x ∈ es ↔ Sub x t
def sp_l_subs (K : PySem.W.Frag) (n : Nat) : Sp := spPO K (pre_l_subs n) post_l_subs
theorem n_l_subs (n : Nat) : ∀ ds, pre_l_subs n ds → ds.length = 1 := by
  rintro ds ⟨c, rfl, _⟩
  rfl
theorem no_l_subs : ∀ ds, ¬ pre_l_subs 0 ds := by
  rintro ds ⟨t, _, h, h2, _⟩
  have := tm_depth h
  omega
abbrev pre_l_closed := pre_closed
abbrev post_l_closed := post_closed
abbrev sp_l_closed := sp_closed
abbrev n_l_closed := n_closed
def pre_l_terms_in (n : Nat) : List PyData → Prop := fun ds => ∃ v ts, ds = [v] ∧ PoolL ts ∧ (((∃ c : Cd, v = c.toD ∧ c.okIn ts ∧ c.dep < n ∧ c.dep ≤ 5) ∧ n ≤ 12) ∨ (ThOk ts v ∧ 6 ≤ n ∧ n ≤ 12))
def post_l_terms_in : List PyData → PyData → Prop := fun ds d => ∃ v us, ds = [v] ∧ d = .list us ∧ ndAll us ≤ nd v ∧ (∀ u, u ∈ us ↔ Tin u v)
def sp_l_terms_in (K : PySem.W.Frag) (n : Nat) : Sp := spP K (pre_l_terms_in n) post_l_terms_in
theorem n_l_terms_in (n : Nat) : ∀ ds, pre_l_terms_in n ds → ds.length = 1 := by
  rintro ds ⟨v, ts, rfl, _⟩
  rfl
theorem no_l_terms_in : ∀ ds, ¬ pre_l_terms_in 0 ds := by
  rintro ds ⟨v, ts, _, _, ⟨⟨c, _, _, h, _⟩, _⟩ | ⟨_, h, _⟩⟩
  · omega
  · omega
def pre_l_asked : List PyData → Prop := pre_asked
def post_l_asked : List PyData → PyData → Prop := fun ds d => ∃ vs es, ds = [.list vs] ∧ d = .list es ∧ Due vs es
def sp_l_asked (K : PySem.W.Frag) : Sp := spP K pre_l_asked post_l_asked
theorem n_l_asked : ∀ ds, pre_l_asked ds → ds.length = 1 := n_asked
/-- the list, in some order -/
def pre_l_mixed : List PyData → Prop := fun ds => ∃ xs, ds = [.list xs] ∧ xs.length ≤ 1000
def post_l_mixed : List PyData → List PyData → Prop := fun ds es => ∃ xs, ds = [.list xs] ∧ es.Perm xs
def sp_l_mixed (K : PySem.W.Frag) : Sp := spGO K pre_l_mixed post_l_mixed
theorem n_l_mixed : ∀ ds, pre_l_mixed ds → ds.length = 1 := by
  rintro ds ⟨xs, rfl, _⟩
  rfl
def pre_l_names : List PyData → Prop := fun ds => ds = []
def post_l_names : List PyData → PyData → Prop := fun _ d => ∃ ns : List Str, d = .list (ns.map PyData.str) ∧ ns.Perm names13
def sp_l_names (K : PySem.W.Frag) : Sp := spG K pre_l_names post_l_names
theorem n_l_names : ∀ ds, pre_l_names ds → ds.length = 0 := by
  rintro ds rfl
  rfl
def pre_l_twins : List PyData → Prop := fun ds => ∃ (ns : List Str) (m : Int), ds = [.list (ns.map PyData.str), .int m] ∧ ns.Perm names13 ∧ 4 ≤ m ∧ m ≤ 7
def post_l_twins : List PyData → PyData → Prop := fun _ d => ∃ ts, d = .list ts ∧ PoolL ts
def sp_l_twins (K : PySem.W.Frag) : Sp := spG K pre_l_twins post_l_twins
theorem n_l_twins : ∀ ds, pre_l_twins ds → ds.length = 2 := by
  rintro ds ⟨ns, m, rfl, _⟩
  rfl
def pre_l_pool : List PyData → Prop := fun ds => ∃ m : Int, ds = [.int m] ∧ 2 ≤ m ∧ m ≤ 7
def post_l_pool : List PyData → PyData → Prop := fun _ d => ∃ ts, d = .list ts ∧ PoolL ts
def sp_l_pool (K : PySem.W.Frag) : Sp := spG K pre_l_pool post_l_pool
theorem n_l_pool : ∀ ds, pre_l_pool ds → ds.length = 1 := by
  rintro ds ⟨m, rfl, _⟩
  rfl
def pre_l_code (n : Nat) : List PyData → Prop := fun ds => ∃ (ts : List PyData) (m : Nat), ds = [.list ts, .int m] ∧ PoolW ts ∧ m < n ∧ n ≤ 6
def post_l_code : List PyData → PyData → Prop := fun ds d => ∃ (ts : List PyData) (m : Nat) (c : Cd), ds = [.list ts, .int m] ∧ d = c.toD ∧ c.okIn ts ∧ c.dep ≤ m
def sp_l_code (K : PySem.W.Frag) (n : Nat) : Sp := spG K (pre_l_code n) post_l_code
theorem n_l_code (n : Nat) : ∀ ds, pre_l_code n ds → ds.length = 2 := by
  rintro ds ⟨ts, m, rfl, _⟩
  rfl
theorem no_l_code : ∀ ds, ¬ pre_l_code 0 ds := by
  rintro ds ⟨ts, m, _, _, h, _⟩
  omega
/-! worths in a world -/
abbrev Dct := List (PyData × PyData)
mutual
def valW (W : Dct) : PyData → PyData
  | .none => .int 0
  | .bool _ => .int 0
  | .int _ => .int 0
  | .str _ => .int 0
  | .list _ => .int 0
  | .tuple xs => valH W xs
  | .dict _ => .int 0
def valH (W : Dct) : List PyData → PyData
  | [] => .int 0
  | nm :: ps => (getT W (.tuple (nm :: valsW W ps))).getD (.int 0)
def valsW (W : Dct) : List PyData → List PyData
  | [] => []
  | p :: ps => valW W p :: valsW W ps
end
theorem valsW_map (W : Dct) : ∀ ps : List PyData, valsW W ps = ps.map (valW W)
  | [] => rfl
  | p :: ps => by rw [valsW, valsW_map W ps, List.map_cons]
def keyW (W : Dct) : PyData → PyData
  | .tuple (nm :: ps) => .tuple (nm :: ps.map (valW W))
  | x => x
theorem valW_key (W : Dct) (nm : PyData) (ps : List PyData) : valW W (.tuple (nm :: ps)) = (getT W (keyW W (.tuple (nm :: ps)))).getD (.int 0) := by
  rw [valW, valH, valsW_map]
  rfl
/-- the term to which a code comes -/
noncomputable def comeW (W : Dct) : Cd → PyData
  | .tell t => t
  | .gd _ => .none
  | .iff a b y n => open Classical in if valW W a = valW W b then comeW W y else comeW W n
structure WOk (W : Dct) : Prop where
  k : tupKeys W = true
  v : ∀ p ∈ W, ∃ n : Int, p.2 = .int n
def lotD (kvs : Dct) (t : PyData) : PyData := (getT kvs t).getD .none
def Mt (kvs : Dct) (x y : PyData) : Prop := ∃ nm ps qs, x = .tuple (nm :: ps) ∧ y = .tuple (nm :: qs) ∧ ps ≠ [] ∧ ps.map (lotD kvs) = qs.map (lotD kvs)
/-- lots while they are drawn -/
structure LotsP (m : Nat) (kvs : Dct) : Prop where
  t : ∀ p ∈ kvs, okT p.1
  cl : ∀ p ∈ kvs, ∀ q ∈ parts p.1, q ∈ kvs.map (·.1)
  nd : (kvs.map (·.1)).Nodup
  v : ∀ p ∈ kvs, ∃ n : Nat, p.2 = .int n ∧ n < m
  c : ∀ x ∈ kvs.map (·.1), ∀ y ∈ kvs.map (·.1), Mt kvs x y → lotD kvs x = lotD kvs y
structure Lots (ts : List PyData) (kvs : Dct) : Prop extends LotsP 8 kvs where
  m : ∀ t, t ∈ kvs.map (·.1) ↔ t ∈ ts
/-- promises -/
def pre__key (n : Nat) : List PyData → Prop := fun ds => ∃ t W, ds = [t, .dict W] ∧ tm t = true ∧ t.depth ≤ n ∧ n ≤ 12 ∧ wt t ≤ 10000 ∧ WOk W
def post__key : List PyData → PyData → Prop := fun ds d => ∃ t W, ds = [t, .dict W] ∧ d = keyW W t
def sp__key (K : PySem.W.Frag) (n : Nat) : Sp := spP K (pre__key n) post__key
theorem n__key (n : Nat) : ∀ ds, pre__key n ds → ds.length = 2 := by
  rintro ds ⟨t, W, rfl, _⟩
  rfl
theorem no__key : ∀ ds, ¬ pre__key 0 ds := by
  rintro ds ⟨t, W, _, h, h2, _⟩
  have := tm_depth h
  omega
def pre_l_worth (n : Nat) : List PyData → Prop := pre__key n
def post_l_worth : List PyData → PyData → Prop := fun ds d => ∃ t W, ds = [t, .dict W] ∧ d = valW W t
def sp_l_worth (K : PySem.W.Frag) (n : Nat) : Sp := spP K (pre_l_worth n) post_l_worth
theorem n_l_worth (n : Nat) : ∀ ds, pre_l_worth n ds → ds.length = 2 := n__key n
theorem no_l_worth : ∀ ds, ¬ pre_l_worth 0 ds := no__key
def pre_worth : List PyData → Prop := fun ds => ∃ t W, ds = [t, .dict W] ∧ okT t ∧ WOk W
def post_worth := post_l_worth
def sp_worth (K : PySem.W.Frag) : Sp := spP K pre_worth post_worth
theorem n_worth : ∀ ds, pre_worth ds → ds.length = 2 := by
  rintro ds ⟨t, W, rfl, _⟩
  rfl
open Classical in
def pre_alike : List PyData → Prop := fun ds => ∃ a b W, ds = [a, b, .dict W] ∧ okT a ∧ okT b ∧ WOk W
open Classical in
def post_alike : List PyData → PyData → Prop := fun ds d => ∃ a b W, ds = [a, b, .dict W] ∧ d = .bool (decide (valW W a = valW W b))
def sp_alike (K : PySem.W.Frag) : Sp := spP K pre_alike post_alike
theorem n_alike : ∀ ds, pre_alike ds → ds.length = 3 := by
  rintro ds ⟨a, b, W, rfl, _⟩
  rfl
def pre_answer : List PyData → Prop := fun ds => ∃ (c : Cd) (W : Dct), ds = [c.toD, .dict W] ∧ c.ok ∧ WOk W
def post_answer : List PyData → PyData → Prop := fun ds d => ∃ (c : Cd) (W : Dct), ds = [c.toD, .dict W] ∧ d = valW W (comeW W c)
def sp_answer (K : PySem.W.Frag) : Sp := spP K pre_answer post_answer
theorem n_answer : ∀ ds, pre_answer ds → ds.length = 2 := by
  rintro ds ⟨c, W, rfl, _⟩
  rfl
def pre_l_in_order : List PyData → Prop := fun ds => ∃ ts, ds = [.list ts] ∧ PoolL ts
def post_l_in_order : List PyData → PyData → Prop := fun ds d => ∃ ts es, ds = [.list ts] ∧ d = .list es ∧ es.Perm ts ∧ es.Pairwise fun a b => nd a ≤ nd b
def sp_l_in_order (K : PySem.W.Frag) : Sp := spP K pre_l_in_order post_l_in_order
theorem n_l_in_order : ∀ ds, pre_l_in_order ds → ds.length = 1 := by
  rintro ds ⟨ts, rfl, _⟩
  rfl
def pre_l_forced : List PyData → Prop := fun ds => ∃ (kvs : Dct) (t : PyData), ds = [.dict kvs, t] ∧ LotsP 8 kvs ∧ kvs.length ≤ 7 ∧ okT t ∧ ∀ p ∈ parts t, p ∈ kvs.map (·.1)
def post_l_forced : List PyData → PyData → Prop := fun ds d => ∃ (kvs : Dct) (t : PyData) (es : List PyData), ds = [.dict kvs, t] ∧ d = .list es ∧ (∀ e ∈ es, ∃ u ∈ kvs.map (·.1), Mt kvs t u ∧ e = lotD kvs u) ∧
  ((∃ u ∈ kvs.map (·.1), Mt kvs t u) → es ≠ []) ∧ es.length ≤ 7
def sp_l_forced (K : PySem.W.Frag) : Sp := spP K pre_l_forced post_l_forced
theorem n_l_forced : ∀ ds, pre_l_forced ds → ds.length = 2 := by
  rintro ds ⟨kvs, t, rfl, _⟩
  rfl
def pre_l_drawn_lots : List PyData → Prop := fun ds => ∃ ts, ds = [.list ts] ∧ PoolL ts
def post_l_drawn_lots : List PyData → PyData → Prop := fun ds d => ∃ ts kvs, ds = [.list ts] ∧ d = .dict kvs ∧ Lots ts kvs
def sp_l_drawn_lots (K : PySem.W.Frag) : Sp := spG K pre_l_drawn_lots post_l_drawn_lots
theorem n_l_drawn_lots : ∀ ds, pre_l_drawn_lots ds → ds.length = 1 := by
  rintro ds ⟨ts, rfl, _⟩
  rfl
def pre_l_chain : List PyData → Prop := fun ds => ∃ ts, ds = [.list ts] ∧ PoolW ts
def post_l_chain : List PyData → PyData → Prop := fun ds d => ∃ ts c, ds = [.list ts] ∧ d = Cd.toD c ∧ c.okIn ts ∧ c.dep ≤ 5
def sp_l_chain (K : PySem.W.Frag) : Sp := spG K pre_l_chain post_l_chain
theorem n_l_chain : ∀ ds, pre_l_chain ds → ds.length = 1 := by
  rintro ds ⟨m, rfl, _⟩
  rfl

/-! shapes: lots of terms -/
open Classical in
/-- the term to which a code comes where r tells of two terms that they are alike -/
noncomputable def comeR (r : PyData → PyData → Prop) : Cd → PyData
  | .tell t => t
  | .gd _ => .none
  | .iff a b y n => if r a b then comeR r y else comeR r n
/-- a shape -/
structure FormT (form : List (List PyData)) : Prop where
  t : ∀ l ∈ form, ∀ t ∈ l, okT t
  d : ∀ (i j : Nat) (l m : List PyData) (t : PyData), form[i]? = some l → form[j]? = some m → t ∈ l → t ∈ m → i = j
  n : form.length ≤ 7
  m : ∀ l ∈ form, l.length ≤ 7
def formD (form : List (List PyData)) : PyData := .tuple (form.map .tuple)
def InF (form : List (List PyData)) (t : PyData) : Prop := ∃ l ∈ form, t ∈ l
/-- the shape of lots -/
structure Form (kvs : Dct) (form : List (List PyData)) : Prop extends FormT form where
  k : ∀ t, t ∈ kvs.map (·.1) ↔ InF form t
  s : ∀ (i j : Nat) (l m : List PyData) (x y : PyData), form[i]? = some l → form[j]? = some m → x ∈ l → y ∈ m → (i = j ↔ lotD kvs x = lotD kvs y)
def pre_lot_numbers : List PyData → Prop := fun ds => ∃ form, ds = [formD form] ∧ FormT form
def post_lot_numbers : List PyData → PyData → Prop := fun ds d => ∃ form kvs, ds = [formD form] ∧ d = txtD kvs ∧ ∀ (i : Nat) (l : List PyData) (t : PyData) (s : Str), form[i]? = some l → t ∈ l → s.cps.toList = mkD t → getKs kvs s = some (.int (i : Nat))
def sp_lot_numbers (K : PySem.W.Frag) : Sp := spP K pre_lot_numbers post_lot_numbers
theorem n_lot_numbers : ∀ ds, pre_lot_numbers ds → ds.length = 1 := by
  rintro ds ⟨f, rfl, _⟩
  rfl
def pre_told_at : List PyData → Prop := fun ds => ∃ (c : Cd) (form : List (List PyData)), ds = [c.toD, formD form] ∧ FormT form ∧ c.okIn form.flatten
def post_told_at : List PyData → PyData → Prop := fun ds d => ∃ (c : Cd) (form : List (List PyData)), ds = [c.toD, formD form] ∧ d = comeR (fun a b => ∃ l ∈ form, a ∈ l ∧ b ∈ l) c
def sp_told_at (K : PySem.W.Frag) : Sp := spP K pre_told_at post_told_at
theorem n_told_at : ∀ ds, pre_told_at ds → ds.length = 2 := by
  rintro ds ⟨c, f, rfl, _⟩
  rfl
def pre_l_shape : List PyData → Prop := fun ds => ∃ kvs, ds = [.dict kvs] ∧ LotsP 8 kvs ∧ kvs ≠ [] ∧ kvs.length ≤ 7
def post_l_shape : List PyData → PyData → Prop := fun ds d => ∃ kvs form, ds = [.dict kvs] ∧ d = formD form ∧ Form kvs form
def sp_l_shape (K : PySem.W.Frag) : Sp := spP K pre_l_shape post_l_shape
theorem n_l_shape : ∀ ds, pre_l_shape ds → ds.length = 1 := by
  rintro ds ⟨f, rfl, _⟩
  rfl
def pre_l_end : List PyData → Prop := fun ds => ∃ (c : Cd) (kvs : Dct), ds = [c.toD, .dict kvs] ∧ LotsP 8 kvs ∧ c.okIn (kvs.map (·.1))
def post_l_end : List PyData → PyData → Prop := fun ds d => ∃ (c : Cd) (kvs : Dct), ds = [c.toD, .dict kvs] ∧ d = .tuple [.str "tell", comeR (fun a b => lotD kvs a = lotD kvs b) c]
def sp_l_end (K : PySem.W.Frag) : Sp := spP K pre_l_end post_l_end
theorem n_l_end : ∀ ds, pre_l_end ds → ds.length = 2 := by
  rintro ds ⟨c, f, rfl, _⟩
  rfl
/-- what lots_of tells -/
structure Tabl (form : List (List PyData)) (L : Dct) : Prop where
  k : tupKeys L = true
  m : ∀ t, t ∈ L.map (·.1) ↔ InF form t
  nd : (L.map (·.1)).Nodup
  l : L.length ≤ 49
  v : ∀ (i : Nat) (l : List PyData) (t : PyData), form[i]? = some l → t ∈ l → getT L t = some (.int (i : Nat))
def pre_l_lots_of : List PyData → Prop := fun ds => ∃ form, ds = [formD form] ∧ FormT form
def post_l_lots_of : List PyData → PyData → Prop := fun ds d => ∃ form L, ds = [formD form] ∧ d = .dict L ∧ Tabl form L
def sp_l_lots_of (K : PySem.W.Frag) : Sp := spP K pre_l_lots_of post_l_lots_of
theorem n_l_lots_of : ∀ ds, pre_l_lots_of ds → ds.length = 1 := by
  rintro ds ⟨f, rfl, _⟩
  rfl
def pre_l_own_world : List PyData → Prop := fun ds => ∃ kvs form, ds = [formD form] ∧ Form kvs form ∧ LotsP 8 kvs ∧ kvs ≠ []
def post_l_own_world : List PyData → PyData → Prop := fun ds d => ∃ form W, ds = [formD form] ∧ d = .dict W ∧ WOk W ∧ ∀ (i : Nat) (l : List PyData) (t : PyData), form[i]? = some l → t ∈ l → valW W t = .int (i : Nat)
def sp_l_own_world (K : PySem.W.Frag) : Sp := spP K pre_l_own_world post_l_own_world
theorem n_l_own_world : ∀ ds, pre_l_own_world ds → ds.length = 1 := by
  rintro ds ⟨_, f, rfl, _⟩
  rfl
def t_mark (K : PySem.W.Frag) (n : Nat) : TS := (tSeq (tAsg (tOp (rAddU K) (tOp (rIx K) (tVar 0) (tC (.int 0))) (tC (.str "("))) (gName 1))
    (tSeq (tFor (iTup K (tSl (rSlU K) (tVar 0) (tPart (tC (.int 1))) tNoPart)) (gName 2) (tAsg (tOp (rAddU K) (tVar 1) (tCall (sp_mark K n) [] E0 (tCons (tVar 2) tNil))) (gName 1)))
    (tRet (tOp (rAddU K) (tVar 1) (tC (.str ")"))))))
def d_mark (n : Nat) : DS := (dSeq (dAsg (dOp dAdd (dOp dIx (dVar 0) (dC (.int 0))) (dC (.str "("))) (dgName 1))
    (dSeq (dFor (dItemsT (dSl dSlice (dVar 0) (dPart (dC (.int 1))) dNoPart)) (dgName 2) (dAsg (dOp dAdd (dVar 1) (dCall (pre_mark n) post_mark (dCons (dVar 2) dNil))) (dgName 1)))
    (dRet (dOp dAdd (dVar 1) (dC (.str ")"))))))
theorem m_mark {K : PySem.W.Frag} {b : Bg} {n : Nat} : SimS K none b (t_mark K n) (d_mark n) := (sim_seq (sim_asg (sim_op sim_add (sim_op simr_ix sim_var sim_int) sim_str) (simg_name (by decide)))
    (sim_seq (sim_for (sim_iTup (sim_sl sims_slice sim_var (sim_part sim_int) sim_noPart)) (simg_name (by decide)) (sim_asg (sim_op sim_add sim_var (sim_callP (sim_cons sim_var sim_nil))) (simg_name (by decide))))
    (sim_ret (sim_op sim_add sim_var sim_str))))

def t_worth (K : PySem.W.Frag) : TS := (tRet (tGet2 K (tVar 1) (tCall (sp__key K 8) [] E0 (tCons (tVar 0) (tCons (tVar 1) tNil))) (tC (.int 0))))
def d_worth : DS := (dRet (dGet2 (dVar 1) (dCall (pre__key 8) post__key (dCons (dVar 0) (dCons (dVar 1) dNil))) (dC (.int 0))))
theorem m_worth {K : PySem.W.Frag} {b : Bg} : SimS K none b (t_worth K) (d_worth) := (sim_ret (sim_get2 sim_var (sim_callP (sim_cons sim_var (sim_cons sim_var sim_nil))) sim_int))

def t_alike (K : PySem.W.Frag) : TS := (tRet (tOp (rEqU K) (tCall (sp_worth K) [] E0 (tCons (tVar 0) (tCons (tVar 2) tNil))) (tCall (sp_worth K) [] E0 (tCons (tVar 1) (tCons (tVar 2) tNil)))))
def d_alike : DS := (dRet (dOp dEq (dCall pre_worth post_worth (dCons (dVar 0) (dCons (dVar 2) dNil))) (dCall pre_worth post_worth (dCons (dVar 1) (dCons (dVar 2) dNil)))))
theorem m_alike {K : PySem.W.Frag} {b : Bg} : SimS K none b (t_alike K) (d_alike) := (sim_ret (sim_op simr_eq (sim_callP (sim_cons sim_var (sim_cons sim_var sim_nil))) (sim_callP (sim_cons sim_var (sim_cons sim_var sim_nil)))))

def t__key (K : PySem.W.Frag) (n : Nat) : TS := (tSeq (tAsg (tSl (rSlU K) (tVar 0) tNoPart (tPart (tC (.int 1)))) (gName 2))
    (tSeq (tFor (iTup K (tSl (rSlU K) (tVar 0) (tPart (tC (.int 1))) tNoPart)) (gName 3) (tAsg (tOp (rAddU K) (tVar 2) (tTup (tCons (tGet2 K (tVar 1) (tCall (sp__key K n) [] E0 (tCons (tVar 3) (tCons (tVar 1) tNil))) (tC (.int 0))) tNil))) (gName 2)))
    (tRet (tVar 2))))
def d__key (n : Nat) : DS := (dSeq (dAsg (dSl dSlice (dVar 0) dNoPart (dPart (dC (.int 1)))) (dgName 2))
    (dSeq (dFor (dItemsT (dSl dSlice (dVar 0) (dPart (dC (.int 1))) dNoPart)) (dgName 3) (dAsg (dOp dAdd (dVar 2) (dTup (dCons (dGet2 (dVar 1) (dCall (pre__key n) post__key (dCons (dVar 3) (dCons (dVar 1) dNil))) (dC (.int 0))) dNil))) (dgName 2)))
    (dRet (dVar 2))))
theorem m__key {K : PySem.W.Frag} {b : Bg} {n : Nat} : SimS K none b (t__key K n) (d__key n) := (sim_seq (sim_asg (sim_sl sims_slice sim_var sim_noPart (sim_part sim_int)) (simg_name (by decide)))
    (sim_seq (sim_for (sim_iTup (sim_sl sims_slice sim_var (sim_part sim_int) sim_noPart)) (simg_name (by decide)) (sim_asg (sim_op sim_add sim_var (sim_tup (sim_cons (sim_get2 sim_var (sim_callP (sim_cons sim_var (sim_cons sim_var sim_nil))) sim_int) sim_nil))) (simg_name (by decide))))
    (sim_ret sim_var)))

def t_lot_numbers (K : PySem.W.Frag) : TS := (tRet (tC2 (iEnT K (tCons (tVar 0) tNil)) (gTup K 2 (gCons (gName 1) (gCons (gName 2) gNil))) tYes (fun D => putIn2 (iTup K (tVar 2)) (gName 3) tYes (putD (tCall (sp_mark K 12) [] E0 (tCons (tVar 3) tNil)) (tVar 1) D) [3]) (.dK []) [1, 2, 3]))
def d_lot_numbers : DS := (dRet (dC2 (dEnum (dVar 0)) (dgPair 1 2) dYes (dPutIn (dItemsT (dVar 2)) (dgName 3) dYes (dPutS (dCall (pre_mark 12) post_mark (dCons (dVar 3) dNil)) (dVar 1)) [3]) [1, 2, 3]))
theorem m_lot_numbers {K : PySem.W.Frag} {b : Bg} : SimS K none b (t_lot_numbers K) (d_lot_numbers) := (sim_ret (sim_c2 (by intro i hi; cases hi <;> decide) (sim_iEnum sim_var) (simw_pair (by decide) (by decide) (by decide) (by decide)) sim_yes (sim_putIn acD_mono (by intro i hi; cases hi <;> decide) (sim_iTup sim_var) (simw_name (by decide) (by decide)) sim_yes (sim_putS (sim_callP (sim_cons sim_var sim_nil)) sim_var))))

def t_answer (K : PySem.W.Frag) : TS := (tSeq (tAsg (tVar 0) (gName 2))
    (tSeq (tWhile (tTest (tOp (rEqU K) (tOp (rIx K) (tVar 2) (tC (.int 0))) (tC (.str "if")))) (tAsg (tIf (tB (tCall (sp_alike K) [] E0 (tCons (tOp (rIx K) (tVar 2) (tC (.int 1))) (tCons (tOp (rIx K) (tVar 2) (tC (.int 2))) (tCons (tVar 1) tNil))))) (tOp (rIx K) (tVar 2) (tC (.int 3))) (tOp (rIx K) (tVar 2) (tC (.int 4)))) (gName 2)))
    (tRet (tCall (sp_worth K) [] E0 (tCons (tOp (rIx K) (tVar 2) (tC (.int 1))) (tCons (tVar 1) tNil))))))
def d_answer : DS := (dSeq (dAsg (dVar 0) (dgName 2))
    (dSeq (dWhile (dTest (dOp dEq (dOp dIx (dVar 2) (dC (.int 0))) (dC (.str "if")))) (dAsg (dIf (dTest (dCall pre_alike post_alike (dCons (dOp dIx (dVar 2) (dC (.int 1))) (dCons (dOp dIx (dVar 2) (dC (.int 2))) (dCons (dVar 1) dNil))))) (dOp dIx (dVar 2) (dC (.int 3))) (dOp dIx (dVar 2) (dC (.int 4)))) (dgName 2)))
    (dRet (dCall pre_worth post_worth (dCons (dOp dIx (dVar 2) (dC (.int 1))) (dCons (dVar 1) dNil))))))
theorem m_answer {K : PySem.W.Frag} {b : Bg} : SimS K none b (t_answer K) (d_answer) := (sim_seq (sim_asg sim_var (simg_name (by decide)))
    (sim_seq (sim_while (sim_test (sim_op simr_eq (sim_op simr_ix sim_var sim_int) sim_str)) (sim_asg (sim_ifx (sim_tB (sim_callP (sim_cons (sim_op simr_ix sim_var sim_int) (sim_cons (sim_op simr_ix sim_var sim_int) (sim_cons sim_var sim_nil))))) (sim_op simr_ix sim_var sim_int) (sim_op simr_ix sim_var sim_int)) (simg_name (by decide))))
    (sim_ret (sim_callP (sim_cons (sim_op simr_ix sim_var sim_int) (sim_cons sim_var sim_nil))))))

def t_told_at (K : PySem.W.Frag) : TS := (tSeq (tAsg (tCall (sp_lot_numbers K) [] E0 (tCons (tVar 1) tNil)) (gName 2))
    (tSeq (tAsg (tVar 0) (gName 3))
    (tSeq (tWhile (tTest (tOp (rEqU K) (tOp (rIx K) (tVar 3) (tC (.int 0))) (tC (.str "if")))) (tAsg (tIf (tTest (tOp (rEqU K) (tDGet (tVar 2) (tCall (sp_mark K 12) [] E0 (tCons (tOp (rIx K) (tVar 3) (tC (.int 1))) tNil))) (tDGet (tVar 2) (tCall (sp_mark K 12) [] E0 (tCons (tOp (rIx K) (tVar 3) (tC (.int 2))) tNil))))) (tOp (rIx K) (tVar 3) (tC (.int 3))) (tOp (rIx K) (tVar 3) (tC (.int 4)))) (gName 3)))
    (tRet (tOp (rIx K) (tVar 3) (tC (.int 1)))))))
def d_told_at : DS := (dSeq (dAsg (dCall pre_lot_numbers post_lot_numbers (dCons (dVar 1) dNil)) (dgName 2))
    (dSeq (dAsg (dVar 0) (dgName 3))
    (dSeq (dWhile (dTest (dOp dEq (dOp dIx (dVar 3) (dC (.int 0))) (dC (.str "if")))) (dAsg (dIf (dTest (dOp dEq (dIdxK (dVar 2) (dCall (pre_mark 12) post_mark (dCons (dOp dIx (dVar 3) (dC (.int 1))) dNil))) (dIdxK (dVar 2) (dCall (pre_mark 12) post_mark (dCons (dOp dIx (dVar 3) (dC (.int 2))) dNil))))) (dOp dIx (dVar 3) (dC (.int 3))) (dOp dIx (dVar 3) (dC (.int 4)))) (dgName 3)))
    (dRet (dOp dIx (dVar 3) (dC (.int 1)))))))
theorem m_told_at {K : PySem.W.Frag} {b : Bg} : SimS K none b (t_told_at K) (d_told_at) := (sim_seq (sim_asg (sim_callP (sim_cons sim_var sim_nil)) (simg_name (by decide)))
    (sim_seq (sim_asg sim_var (simg_name (by decide)))
    (sim_seq (sim_while (sim_test (sim_op simr_eq (sim_op simr_ix sim_var sim_int) sim_str)) (sim_asg (sim_ifx (sim_test (sim_op simr_eq (sim_idxK sim_var (sim_callP (sim_cons (sim_op simr_ix sim_var sim_int) sim_nil))) (sim_idxK sim_var (sim_callP (sim_cons (sim_op simr_ix sim_var sim_int) sim_nil))))) (sim_op simr_ix sim_var sim_int) (sim_op simr_ix sim_var sim_int)) (simg_name (by decide))))
    (sim_ret (sim_op simr_ix sim_var sim_int)))))

def t_l_takeB (K : PySem.W.Frag) : TS := (tSeq (tIfS (tTest (tOp (rEqU K) (tOp (rIx K) (tVar 0) (tC (.int 0))) (tC (.int 0)))) (tSeq (tAsg (tOp (rIx K) (tOp (rAddU K) (tSl (rSlU K) (tOp (rIx K) (tVar 0) (tC (.int 3))) (tPart (tOp (rIx K) (tVar 0) (tC (.int 2)))) tNoPart) (tLst (tCons (tC (.int 0)) tNil))) (tC (.int 0))) (gName 2))
    (tSeq (tAugS (tVar 0) (tC (.int 2)) (tC (.int 1)) (rAt K) (ipI fun i j => i + j) rSetL)
    (tSeq (tAsg (tOp (rI CMul fun i j => .int (i * j)) (tVar 2) (tCB rInt1 (tCons (tOp (rLtU (fun i j => decide (j ≤ i)) fun i j => !ltS i j) (tVar 2) (tOp (rI CPow fun i j => .int (i ^ j.toNat)) (tC (.int 10)) (tC (.int 18)))) tNil))) (gSub (tVar 0) (tC (.int 0)) rSetL))
    (tSeq (tAsg (tOp (rAddU K) (tOp (rAddU K) (tOp (rI CMul fun i j => .int (i * j)) (tOp (rIx K) (tVar 0) (tC (.int 1))) (tC (.int 48271))) (tOp (rI (fun _ j => j ≠ 0) fun i j => .int (i.fmod j)) (tCB rInt1 (tCons (tVar 2) tNil)) (tC (.int 2147483647)))) (tOp (rI CMul fun i j => .int (i * j)) (tC (.int 7919)) (tOp (rIx K) (tVar 0) (tC (.int 2))))) (gName 3))
    (tAsg (tOp (rI (fun _ j => j ≠ 0) fun i j => .int (i.fmod j)) (tCB rInt1 (tCons (tVar 3) tNil)) (tC (.int 2147483647))) (gSub (tVar 0) (tC (.int 1)) rSetL)))))) tNext)
    (tSeq (tIfS (tTest (tOp (rLtU (fun i j => decide (j < i)) fun i j => ltS j i) (tOp (rIx K) (tVar 0) (tC (.int 0))) (tC (.int 0)))) (tSeq (tAsg (tOp (rI (fun _ j => j ≠ 0) fun i j => .int (i.fmod j)) (tCB rInt1 (tCons (tOp (rIx K) (tVar 0) (tC (.int 0))) tNil)) (tVar 1)) (gName 4))
    (tSeq (tAsg (tOp (rI CDivW fun i j => .int (i / j)) (tCB rInt1 (tCons (tOp (rIx K) (tVar 0) (tC (.int 0))) tNil)) (tVar 1)) (gSub (tVar 0) (tC (.int 0)) rSetL))
    (tRet (tVar 4)))) tNext)
    (tSeq (tAsg (tOp (rI (fun _ j => j ≠ 0) fun i j => .int (i.fmod j)) (tCB rInt1 (tCons (tOp (rI CMul fun i j => .int (i * j)) (tOp (rAddU K) (tOp (rIx K) (tVar 0) (tC (.int 1))) (tC (.int 1))) (tC (.int 39373))) tNil)) (tC (.int 1000000007))) (gName 5))
    (tSeq (tAsg (tOp (rI (fun _ j => j ≠ 0) fun i j => .int (i.fmod j)) (tCB rInt1 (tCons (tOp (rI CMul fun i j => .int (i * j)) (tOp (rI (fun _ j => j ≠ 0) fun i j => .int (i.fmod j)) (tCB rInt1 (tCons (tOp (rI CMul fun i j => .int (i * j)) (tVar 5) (tVar 5)) tNil)) (tC (.int 998244353))) (tC (.int 30011))) tNil)) (tC (.int 998244353))) (gName 6))
    (tRet (tOp (rI (fun _ j => j ≠ 0) fun i j => .int (i.fmod j)) (tCB rInt1 (tCons (tOp (rI CDivW fun i j => .int (i / j)) (tVar 6) (tC (.int 7))) tNil)) (tVar 1)))))))
def d_l_takeB : DS := (dSeq (dIfS (dTest (dOp dEq dBag (dC (.int 0)))) (dSeq (dAsg (dOp dIx (dOp dAdd dCells (dLst (dCons (dC (.int 0)) dNil))) (dC (.int 0))) (dgName 2))
    (dSeq (dBagAug (dC (.int 1)))
    (dSeq (dAsg (dOp (dIC CMul fun i j => i * j) (dVar 2) (dCB dInt1 (dCons (dOp (dLt (fun i j => decide (j ≤ i)) fun i j => !ltS i j) (dVar 2) (dOp (dIC CPow fun i j => i ^ j.toNat) (dC (.int 10)) (dC (.int 18)))) dNil))) dgBag)
    (dSeq (dAsg (dOp dAdd (dOp dAdd (dOp (dIC CMul fun i j => i * j) dBag (dC (.int 48271))) (dOp (dIC (fun _ j => j ≠ 0) fun i j => i.fmod j) (dCB dInt1 (dCons (dVar 2) dNil)) (dC (.int 2147483647)))) (dOp (dIC CMul fun i j => i * j) (dC (.int 7919)) dBagAny)) (dgName 3))
    (dAsg (dOp (dIC (fun _ j => j ≠ 0) fun i j => i.fmod j) (dCB dInt1 (dCons (dVar 3) dNil)) (dC (.int 2147483647))) dgBag))))) dNext)
    (dSeq (dIfS (dTest (dOp (dLt (fun i j => decide (j < i)) fun i j => ltS j i) dBag (dC (.int 0)))) (dSeq (dAsg (dOp (dIC (fun _ j => j ≠ 0) fun i j => i.fmod j) (dCB dInt1 (dCons dBag dNil)) (dVar 1)) (dgName 4))
    (dSeq (dAsg (dOp (dIC CDivW fun i j => i / j) (dCB dInt1 (dCons dBag dNil)) (dVar 1)) dgBag)
    (dRet (dVar 4)))) dNext)
    (dSeq (dAsg (dOp (dIC (fun _ j => j ≠ 0) fun i j => i.fmod j) (dCB dInt1 (dCons (dOp (dIC CMul fun i j => i * j) (dOp dAdd dBag (dC (.int 1))) (dC (.int 39373))) dNil)) (dC (.int 1000000007))) (dgName 5))
    (dSeq (dAsg (dOp (dIC (fun _ j => j ≠ 0) fun i j => i.fmod j) (dCB dInt1 (dCons (dOp (dIC CMul fun i j => i * j) (dOp (dIC (fun _ j => j ≠ 0) fun i j => i.fmod j) (dCB dInt1 (dCons (dOp (dIC CMul fun i j => i * j) (dVar 5) (dVar 5)) dNil)) (dC (.int 998244353))) (dC (.int 30011))) dNil)) (dC (.int 998244353))) (dgName 6))
    (dRet (dOp (dIC (fun _ j => j ≠ 0) fun i j => i.fmod j) (dCB dInt1 (dCons (dOp (dIC CDivW fun i j => i / j) (dVar 6) (dC (.int 7))) dNil)) (dVar 1)))))))
theorem m_l_takeB {K : PySem.W.Frag} {b : Bg} : SimS K (some 0) b (t_l_takeB K) (d_l_takeB) := (sim_seq (sim_if (sim_test (sim_op simr_eq (sim_bag rfl (.inl rfl)) sim_int)) (sim_seq (sim_asg (sim_op simr_ix (sim_op sim_add (sim_cells rfl) (sim_lst (sim_cons sim_int sim_nil))) sim_int) (simg_name (by decide)))
    (sim_seq (sim_bagAug rfl sim_int)
    (sim_seq (sim_asg (sim_op simr_IC sim_var (sim_cb simc_int1 (sim_cons (sim_op simr_lt sim_var (sim_op simr_IC sim_int sim_int)) sim_nil))) (simg_bag rfl (.inl rfl)))
    (sim_seq (sim_asg (sim_op sim_add (sim_op sim_add (sim_op simr_IC (sim_bag rfl (.inr rfl)) sim_int) (sim_op simr_IC (sim_cb simc_int1 (sim_cons sim_var sim_nil)) sim_int)) (sim_op simr_IC sim_int (sim_bag2 rfl))) (simg_name (by decide)))
    (sim_asg (sim_op simr_IC (sim_cb simc_int1 (sim_cons sim_var sim_nil)) sim_int) (simg_bag rfl (.inr rfl))))))) sim_next)
    (sim_seq (sim_if (sim_test (sim_op simr_lt (sim_bag rfl (.inl rfl)) sim_int)) (sim_seq (sim_asg (sim_op simr_IC (sim_cb simc_int1 (sim_cons (sim_bag rfl (.inl rfl)) sim_nil)) sim_var) (simg_name (by decide)))
    (sim_seq (sim_asg (sim_op simr_IC (sim_cb simc_int1 (sim_cons (sim_bag rfl (.inl rfl)) sim_nil)) sim_var) (simg_bag rfl (.inl rfl)))
    (sim_ret sim_var))) sim_next)
    (sim_seq (sim_asg (sim_op simr_IC (sim_cb simc_int1 (sim_cons (sim_op simr_IC (sim_op sim_add (sim_bag rfl (.inr rfl)) sim_int) sim_int) sim_nil)) sim_int) (simg_name (by decide)))
    (sim_seq (sim_asg (sim_op simr_IC (sim_cb simc_int1 (sim_cons (sim_op simr_IC (sim_op simr_IC (sim_cb simc_int1 (sim_cons (sim_op simr_IC sim_var sim_var) sim_nil)) sim_int) sim_int) sim_nil)) sim_int) (simg_name (by decide)))
    (sim_ret (sim_op simr_IC (sim_cb simc_int1 (sim_cons (sim_op simr_IC sim_var sim_int) sim_nil)) sim_var))))))

def t_l_mixed (K : PySem.W.Frag) : TS := (tSeq (tAsg (tLst tNil) (gName 2))
    (tSeq (tFor (iList K (tVar 1)) (gName 3) (tDrop (tBM K "list" rInsertL (tVar 2) (tCons (tCall (sp_l_takeB K) [] E0 (tCons (tVar 0) (tCons (tOp (rAddU K) (tCB (rLenU K) (tCons (tVar 2) tNil)) (tC (.int 1))) tNil))) (tCons (tVar 3) tNil)))))
    (tRet (tVar 2))))
def d_l_mixed : DS := (dSeq (dAsgN (dnLst dNil) 2)
    (dSeq (dFor (dItems (dVar 1)) (dgName 3) (dInsert 2 (dBorrow  2 (dCall pre_l_takeB post_l_takeB (dCons (dOp dAdd (dCB dLen (dCons (dVar 2) dNil)) (dC (.int 1))) dNil))) (dVar 3)))
    (dRetOwn 2)))
theorem m_l_mixed {K : PySem.W.Frag} {b : Bg} : SimS K (some 0) b (t_l_mixed K) (d_l_mixed) := (sim_seq (sim_asgN (by decide) (sim_nLst sim_nil))
    (sim_seq (sim_for (sim_iList sim_var) (simg_name (by decide)) (sim_insert (by decide) (sim_borrow  (sim_callG rfl (sim_cons (sim_op sim_add (sim_cb simc_len (sim_cons sim_var sim_nil)) sim_int) sim_nil))) sim_var))
    sim_retOwn))

def t_l_subs (K : PySem.W.Frag) (n : Nat) : TS := (tSeq (tAsg (tLst (tCons (tVar 0) tNil)) (gName 1))
    (tSeq (tFor (iTup K (tSl (rSlU K) (tVar 0) (tPart (tC (.int 1))) tNoPart)) (gName 2) (tDrop (tBM K "list" rExtend (tVar 1) (tCons (tCall (sp_l_subs K n) [] E0 (tCons (tVar 2) tNil)) tNil))))
    (tRet (tVar 1))))
def d_l_subs (n : Nat) : DS := (dSeq (dAsgN (dnLst (dCons (dVar 0) dNil)) 1)
    (dSeq (dFor (dItemsT (dSl dSlice (dVar 0) (dPart (dC (.int 1))) dNoPart)) (dgName 2) (dExtend 1 (dOfN (dnCall (pre_l_subs n) post_l_subs (dCons (dVar 2) dNil)))))
    (dRetOwn 1)))
theorem m_l_subs {K : PySem.W.Frag} {b : Bg} {n : Nat} : SimS K none b (t_l_subs K n) (d_l_subs n) := (sim_seq (sim_asgN (by decide) (sim_nLst (sim_cons sim_var sim_nil)))
    (sim_seq (sim_for (sim_iTup (sim_sl sims_slice sim_var (sim_part sim_int) sim_noPart)) (simg_name (by decide)) (sim_extend (by decide) (sim_ofN (sim_nCallP (sim_cons sim_var sim_nil)))))
    sim_retOwn))

def t_l_closed (K : PySem.W.Frag) : TS := (tSeq (tAsg (tDNewN TheW.w) (gName 1))
    (tSeq (tFor (iList K (tVar 0)) (gName 2) (tFor (iList K (tCall (sp_l_subs K 12) [] E0 (tCons (tVar 2) tNil))) (gName 3) (sNPut K TheW.w (tVar 1) (tVar 3) (tC (.bl true)))))
    (tRet (tCB (rSortedN K TheW.w) (tCons (tVar 1) tNil)))))
def d_l_closed : DS := (dSeq (dAsgDN TheW.w 1)
    (dSeq (dFor (dItems (dVar 0)) (dgName 2) (dFor (dItems (dOfN (dnCall (pre_l_subs 12) post_l_subs (dCons (dVar 2) dNil)))) (dgName 3) (dPutN TheW.w 1 (dVar 3) (dC (.bool true)))))
    (dRetO (dnSortedN TheW.w 1))))
theorem m_l_closed {K : PySem.W.Frag} {b : Bg} : SimS K none b (t_l_closed K) (d_l_closed) := (sim_seq (sim_asgDN (by decide))
    (sim_seq (sim_for (sim_iList sim_var) (simg_name (by decide)) (sim_for (sim_iList (sim_ofN (sim_nCallP (sim_cons sim_var sim_nil)))) (simg_name (by decide)) (sim_putN sim_var sim_bl)))
    (sim_retO sim_nSortedN)))

def t_l_terms_in (K : PySem.W.Frag) (n : Nat) : TS := (tSeq (tIfS (tTest (tOp (rEqU K) (tOp (rIx K) (tVar 0) (tC (.int 0))) (tC (.str "tell")))) (tRet (tLst (tCons (tOp (rIx K) (tVar 0) (tC (.int 1))) tNil))) tNext)
    (tSeq (tIfS (tTest (tOp (rEqU K) (tOp (rIx K) (tVar 0) (tC (.int 0))) (tC (.str "if")))) (tRet (tOp (rAddU K) (tOp (rAddU K) (tLst (tCons (tOp (rIx K) (tVar 0) (tC (.int 1))) (tCons (tOp (rIx K) (tVar 0) (tC (.int 2))) tNil))) (tCall (sp_l_terms_in K n) [] E0 (tCons (tOp (rIx K) (tVar 0) (tC (.int 3))) tNil))) (tCall (sp_l_terms_in K n) [] E0 (tCons (tOp (rIx K) (tVar 0) (tC (.int 4))) tNil)))) tNext)
    (tSeq (tIfS (tTest (tOp (rInU K false) (tOp (rIx K) (tVar 0) (tC (.int 0))) (tTup (tCons (tC (.str "yes")) (tCons (tC (.str "no")) tNil))))) (tRet (tLst tNil)) tNext)
    (tRet (tIf (tTest (tOp (rInU K false) (tOp (rIx K) (tVar 0) (tC (.int 0))) (tTup (tCons (tC (.str "alike")) (tCons (tC (.str "unlike")) tNil))))) (tLst (tCons (tOp (rIx K) (tVar 0) (tC (.int 1))) (tCons (tOp (rIx K) (tVar 0) (tC (.int 2))) tNil))) (tLst (tCons (tVar 0) tNil)))))))
def d_l_terms_in (n : Nat) : DS := (dSeq (dIfS (dTest (dOp dEq (dOp dIx (dVar 0) (dC (.int 0))) (dC (.str "tell")))) (dRet (dLst (dCons (dOp dIx (dVar 0) (dC (.int 1))) dNil))) dNext)
    (dSeq (dIfS (dTest (dOp dEq (dOp dIx (dVar 0) (dC (.int 0))) (dC (.str "if")))) (dRet (dOp dAdd (dOp dAdd (dLst (dCons (dOp dIx (dVar 0) (dC (.int 1))) (dCons (dOp dIx (dVar 0) (dC (.int 2))) dNil))) (dCall (pre_l_terms_in n) post_l_terms_in (dCons (dOp dIx (dVar 0) (dC (.int 3))) dNil))) (dCall (pre_l_terms_in n) post_l_terms_in (dCons (dOp dIx (dVar 0) (dC (.int 4))) dNil)))) dNext)
    (dSeq (dIfS (dTest (dOp (dIn false) (dOp dIx (dVar 0) (dC (.int 0))) (dTup (dCons (dC (.str "yes")) (dCons (dC (.str "no")) dNil))))) (dRet (dLst dNil)) dNext)
    (dRet (dIf (dTest (dOp (dIn false) (dOp dIx (dVar 0) (dC (.int 0))) (dTup (dCons (dC (.str "alike")) (dCons (dC (.str "unlike")) dNil))))) (dLst (dCons (dOp dIx (dVar 0) (dC (.int 1))) (dCons (dOp dIx (dVar 0) (dC (.int 2))) dNil))) (dLst (dCons (dVar 0) dNil)))))))
theorem m_l_terms_in {K : PySem.W.Frag} {b : Bg} {n : Nat} : SimS K none b (t_l_terms_in K n) (d_l_terms_in n) := (sim_seq (sim_if (sim_test (sim_op simr_eq (sim_op simr_ix sim_var sim_int) sim_str)) (sim_ret (sim_lst (sim_cons (sim_op simr_ix sim_var sim_int) sim_nil))) sim_next)
    (sim_seq (sim_if (sim_test (sim_op simr_eq (sim_op simr_ix sim_var sim_int) sim_str)) (sim_ret (sim_op sim_add (sim_op sim_add (sim_lst (sim_cons (sim_op simr_ix sim_var sim_int) (sim_cons (sim_op simr_ix sim_var sim_int) sim_nil))) (sim_callP (sim_cons (sim_op simr_ix sim_var sim_int) sim_nil))) (sim_callP (sim_cons (sim_op simr_ix sim_var sim_int) sim_nil)))) sim_next)
    (sim_seq (sim_if (sim_test (sim_op simr_in (sim_op simr_ix sim_var sim_int) (sim_tup (sim_cons sim_str (sim_cons sim_str sim_nil))))) (sim_ret (sim_lst sim_nil)) sim_next)
    (sim_ret (sim_ifx (sim_test (sim_op simr_in (sim_op simr_ix sim_var sim_int) (sim_tup (sim_cons sim_str (sim_cons sim_str sim_nil))))) (sim_lst (sim_cons (sim_op simr_ix sim_var sim_int) (sim_cons (sim_op simr_ix sim_var sim_int) sim_nil))) (sim_lst (sim_cons sim_var sim_nil)))))))

def t_l_asked (K : PySem.W.Frag) : TS := (tSeq (tAsg (tLst tNil) (gName 1))
    (tSeq (tFor (iList K (tVar 0)) (gName 2) (tDrop (tBM K "list" rExtend (tVar 1) (tCons (tCall (sp_l_terms_in K 9) [] E0 (tCons (tVar 2) tNil)) tNil))))
    (tRet (tCall (sp_l_closed K) [] E0 (tCons (tVar 1) tNil)))))
def d_l_asked : DS := (dSeq (dAsgN (dnLst dNil) 1)
    (dSeq (dFor (dItems (dVar 0)) (dgName 2) (dExtend 1 (dCall (pre_l_terms_in 9) post_l_terms_in (dCons (dVar 2) dNil))))
    (dFreeze 1 (dRet (dOfN (dnCall pre_l_closed post_l_closed (dCons (dVar 1) dNil)))))))
theorem m_l_asked {K : PySem.W.Frag} {b : Bg} : SimS K none b (t_l_asked K) (d_l_asked) := (sim_seq (sim_asgN (by decide) (sim_nLst sim_nil))
    (sim_seq (sim_for (sim_iList sim_var) (simg_name (by decide)) (sim_extend (by decide) (sim_callP (sim_cons sim_var sim_nil))))
    (sim_freeze (sim_ret (sim_ofN (sim_nCallP (sim_cons sim_var sim_nil)))))))

def t_l_names (K : PySem.W.Frag) : TS := (tSeq (tAsg (tLst (tCons (tC (.str "a")) (tCons (tC (.str "b")) (tCons (tC (.str "c")) (tCons (tC (.str "f")) (tCons (tC (.str "g")) (tCons (tC (.str "x")) (tCons (tC (.str "y")) (tCons (tC (.str "abcdefgh")) (tCons (tC (.str "aa")) (tCons (tC (.str "tel")) (tCons (tC (.str "goo")) (tCons (tC (.str "yess")) (tCons (tC (.str "z")) tNil)))))))))))))) (gName 1))
    (tRet (tCall (sp_l_mixed K) [] E0 (tCons (tVar 0) (tCons (tVar 1) tNil)))))
def d_l_names : DS := (dSeq (dAsg (dLst (dCons (dC (.str "a")) (dCons (dC (.str "b")) (dCons (dC (.str "c")) (dCons (dC (.str "f")) (dCons (dC (.str "g")) (dCons (dC (.str "x")) (dCons (dC (.str "y")) (dCons (dC (.str "abcdefgh")) (dCons (dC (.str "aa")) (dCons (dC (.str "tel")) (dCons (dC (.str "goo")) (dCons (dC (.str "yess")) (dCons (dC (.str "z")) dNil)))))))))))))) (dgName 1))
    (dRet (dOfN (dnCall pre_l_mixed post_l_mixed (dCons (dVar 1) dNil)))))
theorem m_l_names {K : PySem.W.Frag} {b : Bg} : SimS K (some 0) b (t_l_names K) (d_l_names) := (sim_seq (sim_asg (sim_lst (sim_cons sim_str (sim_cons sim_str (sim_cons sim_str (sim_cons sim_str (sim_cons sim_str (sim_cons sim_str (sim_cons sim_str (sim_cons sim_str (sim_cons sim_str (sim_cons sim_str (sim_cons sim_str (sim_cons sim_str (sim_cons sim_str sim_nil)))))))))))))) (simg_name (by decide)))
    (sim_ret (sim_ofN (sim_nCallG rfl (sim_cons sim_var sim_nil)))))

def t_l_twins (K : PySem.W.Frag) : TS := (tSeq (tPar 3 4 (tCons (tTup (tCons (tOp (rIx K) (tVar 1) (tC (.int 0))) tNil)) (tCons (tTup (tCons (tOp (rIx K) (tVar 1) (tC (.int 1))) tNil)) tNil)))
    (tSeq (tAsg (tLst (tCons (tVar 3) (tCons (tVar 4) (tCons (tTup (tCons (tOp (rIx K) (tVar 1) (tC (.int 4))) (tCons (tVar 3) tNil))) (tCons (tTup (tCons (tOp (rIx K) (tVar 1) (tC (.int 4))) (tCons (tVar 4) tNil))) tNil))))) (gName 5))
    (tSeq (tIfS (tAnd (tTest (tOp (rLtU (fun i j => decide (j < i)) fun i j => ltS j i) (tVar 2) (tC (.int 5)))) (tTest (tOp (rEqU K) (tCall (sp_l_takeB K) [] E0 (tCons (tVar 0) (tCons (tC (.int 2)) tNil))) (tC (.int 0))))) (tAsg (tOp (rAddU K) (tVar 5) (tLst (tCons (tTup (tCons (tOp (rIx K) (tVar 1) (tC (.int 5))) (tCons (tOp (rIx K) (tVar 5) (tC (.int 2))) tNil))) (tCons (tTup (tCons (tOp (rIx K) (tVar 1) (tC (.int 5))) (tCons (tOp (rIx K) (tVar 5) (tC (.int 3))) tNil))) tNil)))) (gName 5)) tNext)
    (tSeq (tAsg (tLst (tCons (tTup (tCons (tOp (rIx K) (tVar 1) (tC (.int 2))) tNil)) (tCons (tTup (tCons (tOp (rIx K) (tVar 1) (tC (.int 5))) (tCons (tVar 3) (tCons (tVar 4) tNil)))) (tCons (tTup (tCons (tOp (rIx K) (tVar 1) (tC (.int 4))) (tCons (tVar 3) (tCons (tVar 4) tNil)))) (tCons (tTup (tCons (tOp (rIx K) (tVar 1) (tC (.int 5))) (tCons (tVar 4) (tCons (tVar 3) (tCons (tVar 3) tNil))))) tNil))))) (gName 6))
    (tSeq (tWhile (tAnd (tTest (tOp (rLtU (fun i j => decide (i < j)) fun i j => ltS i j) (tCB (rLenU K) (tCons (tVar 5) tNil)) (tVar 2))) (tTest (tOp (rEqU K) (tCall (sp_l_takeB K) [] E0 (tCons (tVar 0) (tCons (tC (.int 2)) tNil))) (tC (.int 0))))) (tSeq (tAsg (tLc (iList K (tVar 6)) (gName 8) (tTest (tOp (rNotInD K) (tVar 8) (tVar 5))) (tVar 8) [8]) (gName 7))
    (tDrop (tBM K "list" rAppend (tVar 5) (tCons (tCall (sp_l_one K) [] E0 (tCons (tVar 0) (tCons (tVar 7) tNil))) tNil)))))
    (tRet (tVar 5)))))))
def d_l_twins : DS := (dSeq (dPar 3 4 (dCons (dTup (dCons (dOp dIx (dVar 1) (dC (.int 0))) dNil)) (dCons (dTup (dCons (dOp dIx (dVar 1) (dC (.int 1))) dNil)) dNil)))
    (dSeq (dAsgN (dnLst (dCons (dVar 3) (dCons (dVar 4) (dCons (dTup (dCons (dOp dIx (dVar 1) (dC (.int 4))) (dCons (dVar 3) dNil))) (dCons (dTup (dCons (dOp dIx (dVar 1) (dC (.int 4))) (dCons (dVar 4) dNil))) dNil))))) 5)
    (dSeq (dIfS (dAnd (dTest (dOp (dLt (fun i j => decide (j < i)) fun i j => ltS j i) (dVar 2) (dC (.int 5)))) (dTest (dOp dEq (dCall pre_l_takeB post_l_takeB (dCons (dC (.int 2)) dNil)) (dC (.int 0))))) (dAsgN (dBorrowN 5 (dnAdd (dVar 5) (dLst (dCons (dTup (dCons (dOp dIx (dVar 1) (dC (.int 5))) (dCons (dOp dIx (dVar 5) (dC (.int 2))) dNil))) (dCons (dTup (dCons (dOp dIx (dVar 1) (dC (.int 5))) (dCons (dOp dIx (dVar 5) (dC (.int 3))) dNil))) dNil))))) 5) dNext)
    (dSeq (dAsg (dLst (dCons (dTup (dCons (dOp dIx (dVar 1) (dC (.int 2))) dNil)) (dCons (dTup (dCons (dOp dIx (dVar 1) (dC (.int 5))) (dCons (dVar 3) (dCons (dVar 4) dNil)))) (dCons (dTup (dCons (dOp dIx (dVar 1) (dC (.int 4))) (dCons (dVar 3) (dCons (dVar 4) dNil)))) (dCons (dTup (dCons (dOp dIx (dVar 1) (dC (.int 5))) (dCons (dVar 4) (dCons (dVar 3) (dCons (dVar 3) dNil))))) dNil))))) (dgName 6))
    (dSeq (dWhile (dBorrowT 5 (dAnd (dTest (dOp (dLt (fun i j => decide (i < j)) fun i j => ltS i j) (dCB dLen (dCons (dVar 5) dNil)) (dVar 2))) (dTest (dOp dEq (dCall pre_l_takeB post_l_takeB (dCons (dC (.int 2)) dNil)) (dC (.int 0)))))) (dSeq (dAsg (dOfN (dBorrowN 5 (dnLc (dItems (dVar 6)) 8 (dTest (dOp (dInD true) (dVar 8) (dVar 5))) (dVar 8) [8]))) (dgName 7))
    (dAppend 5 (dCall pre_l_one post_l_one (dCons (dVar 7) dNil)))))
    (dRetOwnD 5))))))
theorem m_l_twins {K : PySem.W.Frag} {b : Bg} : SimS K (some 0) b (t_l_twins K) (d_l_twins) := (sim_seq (sim_par (by decide) (by decide) (sim_cons (sim_tup (sim_cons (sim_op simr_ix sim_var sim_int) sim_nil)) (sim_cons (sim_tup (sim_cons (sim_op simr_ix sim_var sim_int) sim_nil)) sim_nil)))
    (sim_seq (sim_asgN (by decide) (sim_nLst (sim_cons sim_var (sim_cons sim_var (sim_cons (sim_tup (sim_cons (sim_op simr_ix sim_var sim_int) (sim_cons sim_var sim_nil))) (sim_cons (sim_tup (sim_cons (sim_op simr_ix sim_var sim_int) (sim_cons sim_var sim_nil))) sim_nil))))))
    (sim_seq (sim_if (sim_and (sim_test (sim_op simr_lt sim_var sim_int)) (sim_test (sim_op simr_eq (sim_callG rfl (sim_cons sim_int sim_nil)) sim_int))) (sim_asgN (by decide) (sim_borrowN (sim_nAdd sim_var (sim_lst (sim_cons (sim_tup (sim_cons (sim_op simr_ix sim_var sim_int) (sim_cons (sim_op simr_ix sim_var sim_int) sim_nil))) (sim_cons (sim_tup (sim_cons (sim_op simr_ix sim_var sim_int) (sim_cons (sim_op simr_ix sim_var sim_int) sim_nil))) sim_nil)))))) sim_next)
    (sim_seq (sim_asg (sim_lst (sim_cons (sim_tup (sim_cons (sim_op simr_ix sim_var sim_int) sim_nil)) (sim_cons (sim_tup (sim_cons (sim_op simr_ix sim_var sim_int) (sim_cons sim_var (sim_cons sim_var sim_nil)))) (sim_cons (sim_tup (sim_cons (sim_op simr_ix sim_var sim_int) (sim_cons sim_var (sim_cons sim_var sim_nil)))) (sim_cons (sim_tup (sim_cons (sim_op simr_ix sim_var sim_int) (sim_cons sim_var (sim_cons sim_var (sim_cons sim_var sim_nil))))) sim_nil))))) (simg_name (by decide)))
    (sim_seq (sim_while (sim_borrowT (sim_and (sim_test (sim_op simr_lt (sim_cb simc_len (sim_cons sim_var sim_nil)) sim_var)) (sim_test (sim_op simr_eq (sim_callG rfl (sim_cons sim_int sim_nil)) sim_int)))) (sim_seq (sim_asg (sim_ofN (sim_borrowN (sim_nLc (by decide) (by intro i hi; cases hi <;> decide) (sim_iList sim_var) (sim_test (sim_op simr_notInD sim_var sim_var)) sim_var))) (simg_name (by decide)))
    (sim_append (by decide) (sim_callG rfl (sim_cons sim_var sim_nil)))))
    sim_retOwnD)))))

def t_l_pool (K : PySem.W.Frag) : TS := (tSeq (tAsg (tCall (sp_l_names K) [] E0 (tCons (tVar 0) tNil)) (gName 2))
    (tSeq (tIfS (tAnd (tTest (tOp (rLtU (fun i j => decide (j < i)) fun i j => ltS j i) (tVar 1) (tC (.int 3)))) (tTest (tOp (rEqU K) (tCall (sp_l_takeB K) [] E0 (tCons (tVar 0) (tCons (tC (.int 2)) tNil))) (tC (.int 1))))) (tRet (tCall (sp_l_twins K) [] E0 (tCons (tVar 0) (tCons (tVar 2) (tCons (tVar 1) tNil))))) tNext)
    (tSeq (tAsg (tLc (iList K (tSl (rSlU K) (tVar 2) tNoPart (tPart (tCB rMin2 (tCons (tVar 1) (tCons (tOp (rAddU K) (tC (.int 2)) (tCall (sp_l_takeB K) [] E0 (tCons (tVar 0) (tCons (tC (.int 3)) tNil)))) tNil)))))) (gName 8) tYes (tTup (tCons (tVar 8) tNil)) [8]) (gName 3))
    (tSeq (tAsg (tOp (rAddU K) (tSl (rSlU K) (tVar 2) (tPart (tC (.int 4))) (tPart (tC (.int 6)))) (tLst (tCons (tCall (sp_l_one K) [] E0 (tCons (tVar 0) (tCons (tSl (rSlU K) (tVar 2) tNoPart (tPart (tC (.int 6)))) tNil))) tNil))) (gName 4))
    (tSeq (tFor (iRng1 (tCons (tCall (sp_l_one K) [] E0 (tCons (tVar 0) (tCons (tLst (tCons (tC (.int 4)) (tCons (tC (.int 2)) (tCons (tC (.int 6)) (tCons (tC (.int 0)) tNil))))) tNil))) tNil)) (gName 5) (tSeq (tAsg (tLc (iRng1 (tCons (tCall (sp_l_one K) [] E0 (tCons (tVar 0) (tCons (tLst (tCons (tC (.int 1)) (tCons (tC (.int 1)) (tCons (tC (.int 2)) tNil)))) tNil))) tNil)) (gName 9) tYes (tCall (sp_l_one K) [] E0 (tCons (tVar 0) (tCons (tVar 3) tNil))) [9]) (gName 6))
    (tSeq (tAsg (tOp (rAddU K) (tTup (tCons (tCall (sp_l_one K) [] E0 (tCons (tVar 0) (tCons (tVar 4) tNil))) tNil)) (tCB (rTupOf K) (tCons (tVar 6) tNil))) (gName 7))
    (tIfS (tAnd (tTest (tOp (rNotInD K) (tVar 7) (tVar 3))) (tTest (tOp (rLtU (fun i j => decide (i < j)) fun i j => ltS i j) (tCB (rLenU K) (tCons (tVar 3) tNil)) (tVar 1)))) (tDrop (tBM K "list" rAppend (tVar 3) (tCons (tVar 7) tNil))) tNext))))
    (tRet (tVar 3)))))))
def d_l_pool : DS := (dSeq (dAsg (dCall pre_l_names post_l_names dNil) (dgName 2))
    (dSeq (dIfS (dAnd (dTest (dOp (dLt (fun i j => decide (j < i)) fun i j => ltS j i) (dVar 1) (dC (.int 3)))) (dTest (dOp dEq (dCall pre_l_takeB post_l_takeB (dCons (dC (.int 2)) dNil)) (dC (.int 1))))) (dRet (dCall pre_l_twins post_l_twins (dCons (dVar 2) (dCons (dVar 1) dNil)))) dNext)
    (dSeq (dAsgN (dnLc (dItems (dSl dSlice (dVar 2) dNoPart (dPart (dCB dMin2 (dCons (dVar 1) (dCons (dOp dAdd (dC (.int 2)) (dCall pre_l_takeB post_l_takeB (dCons (dC (.int 3)) dNil))) dNil)))))) 8 dYes (dTup (dCons (dVar 8) dNil)) [8]) 3)
    (dSeq (dAsg (dOp dAdd (dSl dSlice (dVar 2) (dPart (dC (.int 4))) (dPart (dC (.int 6)))) (dLst (dCons (dCall pre_l_one post_l_one (dCons (dSl dSlice (dVar 2) dNoPart (dPart (dC (.int 6)))) dNil)) dNil))) (dgName 4))
    (dSeq (dFor (dRng1 (dCons (dCall pre_l_one post_l_one (dCons (dLst (dCons (dC (.int 4)) (dCons (dC (.int 2)) (dCons (dC (.int 6)) (dCons (dC (.int 0)) dNil))))) dNil)) dNil)) (dgName 5) (dSeq (dAsg (dOfN (dBorrowN 3 (dnLc (dRng1 (dCons (dCall pre_l_one post_l_one (dCons (dLst (dCons (dC (.int 1)) (dCons (dC (.int 1)) (dCons (dC (.int 2)) dNil)))) dNil)) dNil)) 9 dYes (dCall pre_l_one post_l_one (dCons (dVar 3) dNil)) [9]))) (dgName 6))
    (dSeq (dAsg (dOp dAdd (dTup (dCons (dCall pre_l_one post_l_one (dCons (dVar 4) dNil)) dNil)) (dCB dTupOf (dCons (dVar 6) dNil))) (dgName 7))
    (dIfS (dBorrowT 3 (dAnd (dTest (dOp (dInD true) (dVar 7) (dVar 3))) (dTest (dOp (dLt (fun i j => decide (i < j)) fun i j => ltS i j) (dCB dLen (dCons (dVar 3) dNil)) (dVar 1))))) (dAppend 3 (dVar 7)) dNext))))
    (dRetOwnD 3))))))
theorem m_l_pool {K : PySem.W.Frag} {b : Bg} : SimS K (some 0) b (t_l_pool K) (d_l_pool) := (sim_seq (sim_asg (sim_callG rfl sim_nil) (simg_name (by decide)))
    (sim_seq (sim_if (sim_and (sim_test (sim_op simr_lt sim_var sim_int)) (sim_test (sim_op simr_eq (sim_callG rfl (sim_cons sim_int sim_nil)) sim_int))) (sim_ret (sim_callG rfl (sim_cons sim_var (sim_cons sim_var sim_nil)))) sim_next)
    (sim_seq (sim_asgN (by decide) (sim_nLc (by decide) (by intro i hi; cases hi <;> decide) (sim_iList (sim_sl sims_slice sim_var sim_noPart (sim_part (sim_cb simc_min2 (sim_cons sim_var (sim_cons (sim_op sim_add sim_int (sim_callG rfl (sim_cons sim_int sim_nil))) sim_nil)))))) sim_yes (sim_tup (sim_cons sim_var sim_nil))))
    (sim_seq (sim_asg (sim_op sim_add (sim_sl sims_slice sim_var (sim_part sim_int) (sim_part sim_int)) (sim_lst (sim_cons (sim_callG rfl (sim_cons (sim_sl sims_slice sim_var sim_noPart (sim_part sim_int)) sim_nil)) sim_nil))) (simg_name (by decide)))
    (sim_seq (sim_for (sim_rng1 (sim_cons (sim_callG rfl (sim_cons (sim_lst (sim_cons sim_int (sim_cons sim_int (sim_cons sim_int (sim_cons sim_int sim_nil))))) sim_nil)) sim_nil)) (simg_name (by decide)) (sim_seq (sim_asg (sim_ofN (sim_borrowN (sim_nLc (by decide) (by intro i hi; cases hi <;> decide) (sim_rng1 (sim_cons (sim_callG rfl (sim_cons (sim_lst (sim_cons sim_int (sim_cons sim_int (sim_cons sim_int sim_nil)))) sim_nil)) sim_nil)) sim_yes (sim_callG rfl (sim_cons sim_var sim_nil))))) (simg_name (by decide)))
    (sim_seq (sim_asg (sim_op sim_add (sim_tup (sim_cons (sim_callG rfl (sim_cons sim_var sim_nil)) sim_nil)) (sim_cb simc_tupOf (sim_cons sim_var sim_nil))) (simg_name (by decide)))
    (sim_if (sim_borrowT (sim_and (sim_test (sim_op simr_notInD sim_var sim_var)) (sim_test (sim_op simr_lt (sim_cb simc_len (sim_cons sim_var sim_nil)) sim_var)))) (sim_append (by decide) sim_var) sim_next))))
    sim_retOwnD)))))

def t_l_code (K : PySem.W.Frag) (n : Nat) : TS := (tSeq (tIfS (tOr (tTest (tOp (rEqU K) (tVar 2) (tC (.int 0)))) (tTest (tOp (rEqU K) (tCall (sp_l_takeB K) [] E0 (tCons (tVar 0) (tCons (tC (.int 5)) tNil))) (tC (.int 0))))) (tRet (tTup (tCons (tC (.str "tell")) (tCons (tCall (sp_l_one K) [] E0 (tCons (tVar 0) (tCons (tVar 1) tNil))) tNil)))) tNext)
    (tSeq (tPar 3 4 (tCons (tCall (sp_l_one K) [] E0 (tCons (tVar 0) (tCons (tVar 1) tNil))) (tCons (tCall (sp_l_one K) [] E0 (tCons (tVar 0) (tCons (tVar 1) tNil))) tNil)))
    (tRet (tTup (tCons (tC (.str "if")) (tCons (tVar 3) (tCons (tVar 4) (tCons (tCall (sp_l_code K n) [] E0 (tCons (tVar 0) (tCons (tVar 1) (tCons (tOp (rI0 fun i j => .int (i - j)) (tVar 2) (tC (.int 1))) tNil)))) (tCons (tCall (sp_l_code K n) [] E0 (tCons (tVar 0) (tCons (tVar 1) (tCons (tOp (rI0 fun i j => .int (i - j)) (tVar 2) (tC (.int 1))) tNil)))) tNil)))))))))
def d_l_code (n : Nat) : DS := (dSeq (dIfS (dOr (dTest (dOp dEq (dVar 2) (dC (.int 0)))) (dTest (dOp dEq (dCall pre_l_takeB post_l_takeB (dCons (dC (.int 5)) dNil)) (dC (.int 0))))) (dRet (dTup (dCons (dC (.str "tell")) (dCons (dCall pre_l_one post_l_one (dCons (dVar 1) dNil)) dNil)))) dNext)
    (dSeq (dPar 3 4 (dCons (dCall pre_l_one post_l_one (dCons (dVar 1) dNil)) (dCons (dCall pre_l_one post_l_one (dCons (dVar 1) dNil)) dNil)))
    (dRet (dTup (dCons (dC (.str "if")) (dCons (dVar 3) (dCons (dVar 4) (dCons (dCall (pre_l_code n) post_l_code (dCons (dVar 1) (dCons (dOp (dII fun i j => i - j) (dVar 2) (dC (.int 1))) dNil))) (dCons (dCall (pre_l_code n) post_l_code (dCons (dVar 1) (dCons (dOp (dII fun i j => i - j) (dVar 2) (dC (.int 1))) dNil))) dNil)))))))))
theorem m_l_code {K : PySem.W.Frag} {b : Bg} {n : Nat} : SimS K (some 0) b (t_l_code K n) (d_l_code n) := (sim_seq (sim_if (sim_or (sim_test (sim_op simr_eq sim_var sim_int)) (sim_test (sim_op simr_eq (sim_callG rfl (sim_cons sim_int sim_nil)) sim_int))) (sim_ret (sim_tup (sim_cons sim_str (sim_cons (sim_callG rfl (sim_cons sim_var sim_nil)) sim_nil)))) sim_next)
    (sim_seq (sim_par (by decide) (by decide) (sim_cons (sim_callG rfl (sim_cons sim_var sim_nil)) (sim_cons (sim_callG rfl (sim_cons sim_var sim_nil)) sim_nil)))
    (sim_ret (sim_tup (sim_cons sim_str (sim_cons sim_var (sim_cons sim_var (sim_cons (sim_callG rfl (sim_cons sim_var (sim_cons (sim_op simr_II sim_var sim_int) sim_nil))) (sim_cons (sim_callG rfl (sim_cons sim_var (sim_cons (sim_op simr_II sim_var sim_int) sim_nil))) sim_nil)))))))))

def t_l_chain (K : PySem.W.Frag) : TS := (tSeq (tAsg (tTup (tCons (tC (.str "tell")) (tCons (tCall (sp_l_one K) [] E0 (tCons (tVar 0) (tCons (tVar 1) tNil))) tNil))) (gName 2))
    (tSeq (tFor (iRng1 (tCons (tC (.int 5)) tNil)) (gName 3) (tSeq (tAsg (tCall (sp_l_mixed K) [] E0 (tCons (tVar 0) (tCons (tLst (tCons (tVar 2) (tCons (tTup (tCons (tC (.str "tell")) (tCons (tCall (sp_l_one K) [] E0 (tCons (tVar 0) (tCons (tVar 1) tNil))) tNil))) tNil))) tNil))) (gName 4))
    (tAsg (tTup (tCons (tC (.str "if")) (tCons (tCall (sp_l_one K) [] E0 (tCons (tVar 0) (tCons (tVar 1) tNil))) (tCons (tCall (sp_l_one K) [] E0 (tCons (tVar 0) (tCons (tVar 1) tNil))) (tCons (tOp (rIx K) (tVar 4) (tC (.int 0))) (tCons (tOp (rIx K) (tVar 4) (tC (.int 1))) tNil)))))) (gName 2))))
    (tRet (tVar 2))))
def d_l_chain : DS := (dSeq (dAsg (dTup (dCons (dC (.str "tell")) (dCons (dCall pre_l_one post_l_one (dCons (dVar 1) dNil)) dNil))) (dgName 2))
    (dSeq (dFor (dRng1 (dCons (dC (.int 5)) dNil)) (dgName 3) (dSeq (dAsg (dOfN (dnCall pre_l_mixed post_l_mixed (dCons (dLst (dCons (dVar 2) (dCons (dTup (dCons (dC (.str "tell")) (dCons (dCall pre_l_one post_l_one (dCons (dVar 1) dNil)) dNil))) dNil))) dNil))) (dgName 4))
    (dAsg (dTup (dCons (dC (.str "if")) (dCons (dCall pre_l_one post_l_one (dCons (dVar 1) dNil)) (dCons (dCall pre_l_one post_l_one (dCons (dVar 1) dNil)) (dCons (dOp dIx (dVar 4) (dC (.int 0))) (dCons (dOp dIx (dVar 4) (dC (.int 1))) dNil)))))) (dgName 2))))
    (dRet (dVar 2))))
theorem m_l_chain {K : PySem.W.Frag} {b : Bg} : SimS K (some 0) b (t_l_chain K) (d_l_chain) := (sim_seq (sim_asg (sim_tup (sim_cons sim_str (sim_cons (sim_callG rfl (sim_cons sim_var sim_nil)) sim_nil))) (simg_name (by decide)))
    (sim_seq (sim_for (sim_rng1 (sim_cons sim_int sim_nil)) (simg_name (by decide)) (sim_seq (sim_asg (sim_ofN (sim_nCallG rfl (sim_cons (sim_lst (sim_cons sim_var (sim_cons (sim_tup (sim_cons sim_str (sim_cons (sim_callG rfl (sim_cons sim_var sim_nil)) sim_nil))) sim_nil))) sim_nil))) (simg_name (by decide)))
    (sim_asg (sim_tup (sim_cons sim_str (sim_cons (sim_callG rfl (sim_cons sim_var sim_nil)) (sim_cons (sim_callG rfl (sim_cons sim_var sim_nil)) (sim_cons (sim_op simr_ix sim_var sim_int) (sim_cons (sim_op simr_ix sim_var sim_int) sim_nil)))))) (simg_name (by decide)))))
    (sim_ret sim_var)))

def t_l_in_order (K : PySem.W.Frag) : TS := (tRet (tLc (iList K (tCB (rSortedD K) (tCons (tLc (iList K (tVar 0)) (gName 1) tYes (tTup (tCons (tCB (rLenU K) (tCons (tCall (sp_l_subs K 12) [] E0 (tCons (tVar 1) tNil)) tNil)) (tCons (tVar 1) tNil))) [1]) tNil))) (gName 2) tYes (tOp (rIx K) (tVar 2) (tC (.int 1))) [2]))
def d_l_in_order : DS := (dRet (dLc (dItems (dOfN (dnSorted (dLc (dItems (dVar 0)) 1 dYes (dTup (dCons (dCB dLen (dCons (dOfN (dnCall (pre_l_subs 12) post_l_subs (dCons (dVar 1) dNil))) dNil)) (dCons (dVar 1) dNil))) [1])))) 2 dYes (dOp dIx (dVar 2) (dC (.int 1))) [2]))
theorem m_l_in_order {K : PySem.W.Frag} {b : Bg} : SimS K none b (t_l_in_order K) (d_l_in_order) := (sim_ret (sim_lc (by decide) (by intro i hi; cases hi <;> decide) (sim_iList (sim_ofN (sim_nSorted (sim_lc (by decide) (by intro i hi; cases hi <;> decide) (sim_iList sim_var) sim_yes (sim_tup (sim_cons (sim_cb simc_len (sim_cons (sim_ofN (sim_nCallP (sim_cons sim_var sim_nil))) sim_nil)) (sim_cons sim_var sim_nil))))))) sim_yes (sim_op simr_ix sim_var sim_int)))

def t_l_forced (K : PySem.W.Frag) : TS := (tSeq (tPar 2 3 (tCons (tLc (iTup K (tSl (rSlU K) (tVar 1) (tPart (tC (.int 1))) tNoPart)) (gName 5) tYes (tIdxN K (tVar 0) (tVar 5)) [5]) (tCons (tLst tNil) tNil)))
    (tSeq (tFor (iAnyK K (tIf (tTest (tOp (rLtU (fun i j => decide (j < i)) fun i j => ltS j i) (tCB (rLenU K) (tCons (tVar 1) tNil)) (tC (.int 1)))) (tVar 0) (tLst tNil))) (gName 4) (tIfS (tAnd (tTest (tOp (rEqU K) (tOp (rIx K) (tVar 4) (tC (.int 0))) (tOp (rIx K) (tVar 1) (tC (.int 0))))) (tTest (tOp (rEqU K) (tLc (iTup K (tSl (rSlU K) (tVar 4) (tPart (tC (.int 1))) tNoPart)) (gName 5) tYes (tIdxN K (tVar 0) (tVar 5)) [5]) (tVar 2)))) (tDrop (tBM K "list" rAppend (tVar 3) (tCons (tIdxN K (tVar 0) (tVar 4)) tNil))) tNext))
    (tRet (tVar 3))))
def d_l_forced : DS := (dSeq (dParN 2 3 (dLc (dItemsT (dSl dSlice (dVar 1) (dPart (dC (.int 1))) dNoPart)) 5 dYes (dIdxN (dVar 0) (dVar 5)) [5]) (dnLst dNil))
    (dSeq (dFor (dAnyK (dIf (dTest (dOp (dLt (fun i j => decide (j < i)) fun i j => ltS j i) (dCB dLen (dCons (dVar 1) dNil)) (dC (.int 1)))) (dVar 0) (dLst dNil))) (dgName 4) (dIfS (dAnd (dTest (dOp dEq (dOp dIx (dVar 4) (dC (.int 0))) (dOp dIx (dVar 1) (dC (.int 0))))) (dTest (dOp dEq (dLc (dItemsT (dSl dSlice (dVar 4) (dPart (dC (.int 1))) dNoPart)) 5 dYes (dIdxN (dVar 0) (dVar 5)) [5]) (dVar 2)))) (dAppend 3 (dIdxN (dVar 0) (dVar 4))) dNext))
    (dRetOwnD 3)))
theorem m_l_forced {K : PySem.W.Frag} {b : Bg} : SimS K none b (t_l_forced K) (d_l_forced) := (sim_seq (sim_parN (by decide) (by decide) (by decide) (sim_lc (by decide) (by intro i hi; cases hi <;> decide) (sim_iTup (sim_sl sims_slice sim_var (sim_part sim_int) sim_noPart)) sim_yes (sim_idxN sim_var sim_var)) (sim_nLst sim_nil))
    (sim_seq (sim_for (sim_iAnyK (sim_ifx (sim_test (sim_op simr_lt (sim_cb simc_len (sim_cons sim_var sim_nil)) sim_int)) sim_var (sim_lst sim_nil))) (simg_name (by decide)) (sim_if (sim_and (sim_test (sim_op simr_eq (sim_op simr_ix sim_var sim_int) (sim_op simr_ix sim_var sim_int))) (sim_test (sim_op simr_eq (sim_lc (by decide) (by intro i hi; cases hi <;> decide) (sim_iTup (sim_sl sims_slice sim_var (sim_part sim_int) sim_noPart)) sim_yes (sim_idxN sim_var sim_var)) sim_var))) (sim_append (by decide) (sim_idxN sim_var sim_var)) sim_next))
    sim_retOwnD))

def t_l_drawn_lots (K : PySem.W.Frag) : TS := (tSeq (tPar 2 3 (tCons (tDNewN TheW.w) (tCons (tC (.int 0)) tNil)))
    (tSeq (tFor (iList K (tCall (sp_l_in_order K) [] E0 (tCons (tVar 1) tNil))) (gName 4) (tSeq (tPar 5 6 (tCons (tPinE (tCall (sp_l_forced K) [] E0 (tCons (tVar 2) (tCons (tVar 4) tNil)))) (tCons (tCall (sp_l_takeB K) [] E0 (tCons (tVar 0) (tCons (tOp (rAddU K) (tVar 3) (tC (.int 1))) tNil))) tNil)))
    (tSeq (sNPut K TheW.w (tVar 2) (tVar 4) (tIf (tTest (tOp (rNeU K) (tVar 5) (tLst tNil))) (tOp (rIx K) (tVar 5) (tC (.int 0))) (tVar 6)))
    (tAsg (tPinE (tCB rMax2 (tCons (tVar 3) (tCons (tOp (rAddU K) (tIdxN K (tVar 2) (tVar 4)) (tC (.int 1))) tNil)))) (gName 3)))))
    (tPin (tRet (tVar 2)))))
def d_l_drawn_lots : DS := (dSeq (dParDN TheW.w 2 3 (dC (.int 0)))
    (dSeq (dFor (dItems (dCall pre_l_in_order post_l_in_order (dCons (dVar 1) dNil))) (dgName 4) (dSeq (dPar 5 6 (dCons (dBorD 2 (dCall pre_l_forced post_l_forced (dCons (dVar 2) (dCons (dVar 4) dNil)))) (dCons (dCall pre_l_takeB post_l_takeB (dCons (dOp dAdd (dVar 3) (dC (.int 1))) dNil)) dNil)))
    (dSeq (dPutN TheW.w 2 (dVar 4) (dIf (dTest (dOp dNe (dVar 5) (dLst dNil))) (dOp dIx (dVar 5) (dC (.int 0))) (dVar 6)))
    (dAsg (dBorD 2 (dCB dMax2 (dCons (dVar 3) (dCons (dOp dAdd (dIdxN (dVar 2) (dVar 4)) (dC (.int 1))) dNil)))) (dgName 3)))))
    (dFreezeD 2 (dRet (dVar 2)))))
theorem m_l_drawn_lots {K : PySem.W.Frag} {b : Bg} : SimS K (some 0) b (t_l_drawn_lots K) (d_l_drawn_lots) := (sim_seq (sim_parDN (by decide) (by decide) sim_int)
    (sim_seq (sim_for (sim_iList (sim_callP (sim_cons sim_var sim_nil))) (simg_name (by decide)) (sim_seq (sim_par (by decide) (by decide) (sim_cons (sim_borD (sim_callP (sim_cons sim_var (sim_cons sim_var sim_nil)))) (sim_cons (sim_callG rfl (sim_cons (sim_op sim_add sim_var sim_int) sim_nil)) sim_nil)))
    (sim_seq (sim_putN sim_var (sim_ifx (sim_test (sim_op simr_ne sim_var (sim_lst sim_nil))) (sim_op simr_ix sim_var sim_int) sim_var))
    (sim_asg (sim_borD (sim_cb simc_max2 (sim_cons sim_var (sim_cons (sim_op sim_add (sim_idxN sim_var sim_var) sim_int) sim_nil)))) (simg_name (by decide))))))
    (sim_freezeD (sim_ret sim_var))))

def t_l_shape (K : PySem.W.Frag) : TS := (tSeq (tAsg tDNewK (gName 1))
    (tSeq (tFor (iList K (tCB (rSortedN K TheW.w) (tCons (tVar 0) tNil))) (gName 2) (tDrop (tBM K "list" rAppend (tDSetd (tVar 1) (tIdxN K (tVar 0) (tVar 2)) (tLst tNil)) (tCons (tVar 2) tNil))))
    (tRet (tCB (rTupOf K) (tCons (tCB (rSortedD K) (tCons (tLockE (tLc (iKeys (tVar 1)) (gName 3) tYes (tCB (rTupOf K) (tCons (tDGet (tVar 1) (tVar 3)) tNil)) [3])) tNil)) tNil)))))
def d_l_shape : DS := (dSeq (dAsgD 1)
    (dSeq (dGroup 1 (dItems (dOfN (dnSortedND (dVar 0)))) (dgName 2) (dIdxN (dVar 0) (dVar 2)) (dVar 2))
    (dRet (dCB dTupOf (dCons (dOfN (dnSorted (dLockLc 1 (fun kvs => kvs.map fun p => keyD p.1) (dgName 3) dYes (dCB dTupOf (dCons (dIdxK (dVar 1) (dVar 3)) dNil)) [3]))) dNil)))))
theorem m_l_shape {K : PySem.W.Frag} {b : Bg} : SimS K none b (t_l_shape K) (d_l_shape) := (sim_seq (sim_asgD (by decide))
    (sim_seq (sim_group (ws := [2]) (by decide) (by decide) (sim_iList (sim_ofN (sim_nSortedND sim_var))) (simw_name (by decide) (by decide)) (sim_idxN sim_var sim_var) sim_var)
    (sim_ret (sim_cb simc_tupOf (sim_cons (sim_ofN (sim_nSorted (sim_lockKeys (by decide) (by intro i hi; cases hi <;> decide) (simw_name (by decide) (by decide)) sim_yes (sim_cb simc_tupOf (sim_cons (sim_idxK sim_var sim_var) sim_nil))))) sim_nil)))))

def t_l_end (K : PySem.W.Frag) : TS := (tSeq (tWhile (tTest (tOp (rEqU K) (tOp (rIx K) (tVar 0) (tC (.int 0))) (tC (.str "if")))) (tAsg (tIf (tTest (tOp (rEqU K) (tIdxN K (tVar 1) (tOp (rIx K) (tVar 0) (tC (.int 1)))) (tIdxN K (tVar 1) (tOp (rIx K) (tVar 0) (tC (.int 2)))))) (tOp (rIx K) (tVar 0) (tC (.int 3))) (tOp (rIx K) (tVar 0) (tC (.int 4)))) (gName 0)))
    (tRet (tVar 0)))
def d_l_end : DS := (dSeq (dWhile (dTest (dOp dEq (dOp dIx (dVar 0) (dC (.int 0))) (dC (.str "if")))) (dAsg (dIf (dTest (dOp dEq (dIdxN (dVar 1) (dOp dIx (dVar 0) (dC (.int 1)))) (dIdxN (dVar 1) (dOp dIx (dVar 0) (dC (.int 2)))))) (dOp dIx (dVar 0) (dC (.int 3))) (dOp dIx (dVar 0) (dC (.int 4)))) (dgName 0)))
    (dRet (dVar 0)))
theorem m_l_end {K : PySem.W.Frag} {b : Bg} : SimS K none b (t_l_end K) (d_l_end) := (sim_seq (sim_while (sim_test (sim_op simr_eq (sim_op simr_ix sim_var sim_int) sim_str)) (sim_asg (sim_ifx (sim_test (sim_op simr_eq (sim_idxN sim_var (sim_op simr_ix sim_var sim_int)) (sim_idxN sim_var (sim_op simr_ix sim_var sim_int)))) (sim_op simr_ix sim_var sim_int) (sim_op simr_ix sim_var sim_int)) (simg_name (by decide))))
    (sim_ret sim_var))

def t_l_lots_of (K : PySem.W.Frag) : TS := (tSeq (tAsg (tDNewN TheW.w) (gName 1))
    (tSeq (tFor (iEnT K (tCons (tVar 0) tNil)) (gTup K 2 (gCons (gName 2) (gCons (gName 3) gNil))) (tFor (iTup K (tVar 3)) (gName 4) (sNPut K TheW.w (tVar 1) (tVar 4) (tVar 2))))
    (tPin (tRet (tVar 1)))))
def d_l_lots_of : DS := (dSeq (dAsgDN TheW.w 1)
    (dSeq (dFor (dEnum (dVar 0)) (dgTup 2 (dgCons (dgName 2) (dgCons (dgName 3) dgNil))) (dFor (dItemsT (dVar 3)) (dgName 4) (dPutN TheW.w 1 (dVar 4) (dVar 2))))
    (dFreezeD 1 (dRet (dVar 1)))))
theorem m_l_lots_of {K : PySem.W.Frag} {b : Bg} : SimS K none b (t_l_lots_of K) (d_l_lots_of) := (sim_seq (sim_asgDN (by decide))
    (sim_seq (sim_for (sim_iEnum sim_var) (simg_tup (simg_cons (simg_name (by decide)) (simg_cons (simg_name (by decide)) simg_nil))) (sim_for (sim_iTup sim_var) (simg_name (by decide)) (sim_putN sim_var sim_var)))
    (sim_freezeD (sim_ret sim_var))))

def t_l_own_world (K : PySem.W.Frag) : TS := (tSeq (tAsg (tTup (tCons (tCall (sp_l_lots_of K) [] E0 (tCons (tVar 0) tNil)) (tCons (tDNewN TheW.w) tNil))) (gTup K 2 (gCons (gName 1) (gCons (gName 2) gNil))))
    (tSeq (tFor (iKeysN (tVar 1)) (gName 3) (sNPut K TheW.w (tVar 2) (tOp (rAddU K) (tTup (tCons (tOp (rIx K) (tVar 3) (tC (.int 0))) tNil)) (tCB (rTupOf K) (tCons (tLc (iTup K (tSl (rSlU K) (tVar 3) (tPart (tC (.int 1))) tNoPart)) (gName 4) tYes (tIdxN K (tVar 1) (tVar 4)) [4]) tNil))) (tIdxN K (tVar 1) (tVar 3))))
    (tPin (tRet (tVar 2)))))
def d_l_own_world : DS := (dSeq (dParND TheW.w 1 2 (dCall pre_l_lots_of post_l_lots_of (dCons (dVar 0) dNil)))
    (dSeq (dFor (dKeysN (dVar 1)) (dgName 3) (dPutN TheW.w 2 (dOp dAdd (dTup (dCons (dOp dIx (dVar 3) (dC (.int 0))) dNil)) (dCB dTupOf (dCons (dLc (dItemsT (dSl dSlice (dVar 3) (dPart (dC (.int 1))) dNoPart)) 4 dYes (dIdxN (dVar 1) (dVar 4)) [4]) dNil))) (dIdxN (dVar 1) (dVar 3))))
    (dFreezeD 2 (dRet (dVar 2)))))
theorem m_l_own_world {K : PySem.W.Frag} {b : Bg} : SimS K none b (t_l_own_world K) (d_l_own_world) := (sim_seq (sim_tupND (by decide) (by decide) (by decide) (sim_callP (sim_cons sim_var sim_nil)))
    (sim_seq (sim_for (sim_iKeysN sim_var) (simg_name (by decide)) (sim_putN (sim_op sim_add (sim_tup (sim_cons (sim_op simr_ix sim_var sim_int) sim_nil)) (sim_cb simc_tupOf (sim_cons (sim_lc (by decide) (by intro i hi; cases hi <;> decide) (sim_iTup (sim_sl sims_slice sim_var (sim_part sim_int) sim_noPart)) sim_yes (sim_idxN sim_var sim_var)) sim_nil))) (sim_idxN sim_var sim_var)))
    (sim_freezeD (sim_ret sim_var))))

def t_law (K : PySem.W.Frag) : TS := (tSeq (tAsg (tLst tNil) (gName 2))
    (tSeq (tFor (iRng1 (tCons (tC (.int 4)) tNil)) (gName 3) (tSeq (tAsg (tCall (sp_l_pool K) [] E0 (tCons (tVar 1) (tCons (tOp (rIx K) (tLst (tCons (tC (.int 7)) (tCons (tC (.int 6)) (tCons (tC (.int 5)) (tCons (tC (.int 2)) tNil))))) (tVar 3)) tNil))) (gName 4))
    (tSeq (tAsg (tIf (tTest (tOp (rEqU K) (tCall (sp_l_takeB K) [] E0 (tCons (tVar 1) (tCons (tC (.int 3)) tNil))) (tC (.int 0)))) (tSl (rSlU K) (tVar 4) tNoPart (tPart (tOp (rAddU K) (tC (.int 1)) (tCall (sp_l_takeB K) [] E0 (tCons (tVar 1) (tCons (tCB (rLenU K) (tCons (tVar 4) tNil)) tNil)))))) (tVar 4)) (gName 5))
    (tSeq (tAsg (tIf (tTest (tOp (rLtU (fun i j => decide (j < i)) fun i j => ltS j i) (tVar 3) (tC (.int 0)))) (tCall (sp_l_code K 5) [] E0 (tCons (tVar 1) (tCons (tVar 5) (tCons (tCall (sp_l_one K) [] E0 (tCons (tVar 1) (tCons (tLst (tCons (tC (.int 4)) (tCons (tC (.int 3)) (tCons (tC (.int 2)) (tCons (tC (.int 0)) tNil))))) tNil))) tNil)))) (tCall (sp_l_chain K) [] E0 (tCons (tVar 1) (tCons (tVar 5) tNil)))) (gName 6))
    (tSeq (tAsg (tCall (sp_l_drawn_lots K) [] E0 (tCons (tVar 1) (tCons (tVar 4) tNil))) (gName 7))
    (tSeq (tAsg (tCall (sp_l_asked K) [] E0 (tCons (tLst (tCons (tVar 6) tNil)) tNil)) (gName 8))
    (tSeq (tAsg (tCB (rDictN K) (tCons (tLc (iList K (tVar 8)) (gName 13) tYes (tTup (tCons (tVar 13) (tCons (tIdxN K (tVar 7) (tVar 13)) tNil))) [13]) tNil)) (gName 9))
    (tDrop (tBM K "list" rAppend (tVar 2) (tCons (tTup (tCons (tVar 6) (tCons (tCall (sp_l_shape K) [] E0 (tCons (tVar 7) tNil)) (tCons (tCall (sp_l_shape K) [] E0 (tCons (tVar 9) tNil)) (tCons (tOp (rIx K) (tCall (sp_l_end K) [] E0 (tCons (tVar 6) (tCons (tVar 7) tNil))) (tC (.int 1))) tNil))))) tNil))))))))))
    (tSeq (tAsg (tCB (rRepr K) (tCons (tVar 2) tNil)) (gName 10))
    (tSeq (tFor (iList K (tOp (rAddU K) (tVar 2) (tCall (sp_l_mixed K) [] E0 (tCons (tVar 1) (tCons (tVar 2) tNil))))) (gTup K 4 (gCons (gName 6) (gCons (gName 11) (gCons (gName 9) (gCons (gName 12) gNil))))) (tSeq (tIfS (tNot (tB (tCall (sp_l_alike K) [] E0 (tCons (tLst (tCons (tCall (sp_told_at K) [] E0 (tCons (tVar 6) (tCons (tVar 11) tNil))) (tCons (tCall (sp_told_at K) [] E0 (tCons (tVar 6) (tCons (tVar 9) tNil))) tNil))) (tCons (tLst (tCons (tVar 12) (tCons (tVar 12) tNil))) tNil))))) (tRet (tC (.bl false))) tNext)
    (tIfS (tTest (tOp (rNeU K) (tCall (sp_answer K) [] E0 (tCons (tVar 6) (tCons (tCall (sp_l_own_world K) [] E0 (tCons (tVar 11) tNil)) tNil))) (tIdxN K (tCall (sp_l_lots_of K) [] E0 (tCons (tVar 11) tNil)) (tVar 12)))) (tRet (tC (.bl false))) tNext)))
    (tRet (tOp (rEqU K) (tCB (rRepr K) (tCons (tVar 2) tNil)) (tVar 10)))))))
def d_law : DS := (dSeq (dAsgN (dnLst dNil) 2)
    (dSeq (dFor (dRng1 (dCons (dC (.int 4)) dNil)) (dgName 3) (dSeq (dAsg (dCall pre_l_pool post_l_pool (dCons (dOp dIx (dLst (dCons (dC (.int 7)) (dCons (dC (.int 6)) (dCons (dC (.int 5)) (dCons (dC (.int 2)) dNil))))) (dVar 3)) dNil)) (dgName 4))
    (dSeq (dAsg (dIf (dTest (dOp dEq (dCall pre_l_takeB post_l_takeB (dCons (dC (.int 3)) dNil)) (dC (.int 0)))) (dSl dSlice (dVar 4) dNoPart (dPart (dOp dAdd (dC (.int 1)) (dCall pre_l_takeB post_l_takeB (dCons (dCB dLen (dCons (dVar 4) dNil)) dNil))))) (dVar 4)) (dgName 5))
    (dSeq (dAsg (dIf (dTest (dOp (dLt (fun i j => decide (j < i)) fun i j => ltS j i) (dVar 3) (dC (.int 0)))) (dCall (pre_l_code 5) post_l_code (dCons (dVar 5) (dCons (dCall pre_l_one post_l_one (dCons (dLst (dCons (dC (.int 4)) (dCons (dC (.int 3)) (dCons (dC (.int 2)) (dCons (dC (.int 0)) dNil))))) dNil)) dNil))) (dCall pre_l_chain post_l_chain (dCons (dVar 5) dNil))) (dgName 6))
    (dSeq (dAsg (dCall pre_l_drawn_lots post_l_drawn_lots (dCons (dVar 4) dNil)) (dgName 7))
    (dSeq (dAsg (dCall pre_l_asked post_l_asked (dCons (dLst (dCons (dVar 6) dNil)) dNil)) (dgName 8))
    (dSeq (dAsg (dCB dDictN (dCons (dLc (dItems (dVar 8)) 13 dYes (dTup (dCons (dVar 13) (dCons (dIdxN (dVar 7) (dVar 13)) dNil))) [13]) dNil)) (dgName 9))
    (dAppend 2 (dTup (dCons (dVar 6) (dCons (dCall pre_l_shape post_l_shape (dCons (dVar 7) dNil)) (dCons (dCall pre_l_shape post_l_shape (dCons (dVar 9) dNil)) (dCons (dOp dIx (dCall pre_l_end post_l_end (dCons (dVar 6) (dCons (dVar 7) dNil))) (dC (.int 1))) dNil)))))))))))))
    (dFreeze 2 (dSeq (dAsg (dCB dRepr (dCons (dVar 2) dNil)) (dgName 10))
    (dSeq (dFor (dItems (dOp dAdd (dVar 2) (dOfN (dnCall pre_l_mixed post_l_mixed (dCons (dVar 2) dNil))))) (dgTup 4 (dgCons (dgName 6) (dgCons (dgName 11) (dgCons (dgName 9) (dgCons (dgName 12) dgNil))))) (dSeq (dIfS (dNot (dTest (dCall pre_l_alike post_l_alike (dCons (dLst (dCons (dCall pre_told_at post_told_at (dCons (dVar 6) (dCons (dVar 11) dNil))) (dCons (dCall pre_told_at post_told_at (dCons (dVar 6) (dCons (dVar 9) dNil))) dNil))) (dCons (dLst (dCons (dVar 12) (dCons (dVar 12) dNil))) dNil))))) (dRet (dC (.bool false))) dNext)
    (dIfS (dTest (dOp dNe (dCall pre_answer post_answer (dCons (dVar 6) (dCons (dCall pre_l_own_world post_l_own_world (dCons (dVar 11) dNil)) dNil))) (dIdxN (dCall pre_l_lots_of post_l_lots_of (dCons (dVar 11) dNil)) (dVar 12)))) (dRet (dC (.bool false))) dNext)))
    (dRet (dOp dEq (dCB dRepr (dCons (dVar 2) dNil)) (dVar 10))))))))
theorem m_law {K : PySem.W.Frag} {b : Bg} : SimS K (some 1) b (t_law K) (d_law) := (sim_seq (sim_asgN (by decide) (sim_nLst sim_nil))
    (sim_seq (sim_for (sim_rng1 (sim_cons sim_int sim_nil)) (simg_name (by decide)) (sim_seq (sim_asg (sim_callG rfl (sim_cons (sim_op simr_ix (sim_lst (sim_cons sim_int (sim_cons sim_int (sim_cons sim_int (sim_cons sim_int sim_nil))))) sim_var) sim_nil)) (simg_name (by decide)))
    (sim_seq (sim_asg (sim_ifx (sim_test (sim_op simr_eq (sim_callG rfl (sim_cons sim_int sim_nil)) sim_int)) (sim_sl sims_slice sim_var sim_noPart (sim_part (sim_op sim_add sim_int (sim_callG rfl (sim_cons (sim_cb simc_len (sim_cons sim_var sim_nil)) sim_nil))))) sim_var) (simg_name (by decide)))
    (sim_seq (sim_asg (sim_ifx (sim_test (sim_op simr_lt sim_var sim_int)) (sim_callG rfl (sim_cons sim_var (sim_cons (sim_callG rfl (sim_cons (sim_lst (sim_cons sim_int (sim_cons sim_int (sim_cons sim_int (sim_cons sim_int sim_nil))))) sim_nil)) sim_nil))) (sim_callG rfl (sim_cons sim_var sim_nil))) (simg_name (by decide)))
    (sim_seq (sim_asg (sim_callG rfl (sim_cons sim_var sim_nil)) (simg_name (by decide)))
    (sim_seq (sim_asg (sim_callP (sim_cons (sim_lst (sim_cons sim_var sim_nil)) sim_nil)) (simg_name (by decide)))
    (sim_seq (sim_asg (sim_cb simc_dictN (sim_cons (sim_lc (by decide) (by intro i hi; cases hi <;> decide) (sim_iList sim_var) sim_yes (sim_tup (sim_cons sim_var (sim_cons (sim_idxN sim_var sim_var) sim_nil)))) sim_nil)) (simg_name (by decide)))
    (sim_append (by decide) (sim_tup (sim_cons sim_var (sim_cons (sim_callP (sim_cons sim_var sim_nil)) (sim_cons (sim_callP (sim_cons sim_var sim_nil)) (sim_cons (sim_op simr_ix (sim_callP (sim_cons sim_var (sim_cons sim_var sim_nil))) sim_int) sim_nil)))))))))))))
    (sim_freeze (sim_seq (sim_asg (sim_cb simc_repr (sim_cons sim_var sim_nil)) (simg_name (by decide)))
    (sim_seq (sim_for (sim_iList (sim_op sim_add sim_var (sim_ofN (sim_nCallG rfl (sim_cons sim_var sim_nil))))) (simg_tup (simg_cons (simg_name (by decide)) (simg_cons (simg_name (by decide)) (simg_cons (simg_name (by decide)) (simg_cons (simg_name (by decide)) simg_nil))))) (sim_seq (sim_if (sim_not (sim_tB (sim_callP (sim_cons (sim_lst (sim_cons (sim_callP (sim_cons sim_var (sim_cons sim_var sim_nil))) (sim_cons (sim_callP (sim_cons sim_var (sim_cons sim_var sim_nil))) sim_nil))) (sim_cons (sim_lst (sim_cons sim_var (sim_cons sim_var sim_nil))) sim_nil))))) (sim_ret sim_bl) sim_next)
    (sim_if (sim_test (sim_op simr_ne (sim_callP (sim_cons sim_var (sim_cons (sim_callP (sim_cons sim_var sim_nil)) sim_nil))) (sim_idxN (sim_callP (sim_cons sim_var sim_nil)) sim_var))) (sim_ret sim_bl) sim_next)))
    (sim_ret (sim_op simr_eq (sim_cb simc_repr (sim_cons sim_var sim_nil)) sim_var)))))))

end DL

namespace DL
open PySem PySem.Spec PyProof.Rows L2
open Evl (Ex ex_l ex_t)
variable [TheW]
open PySem.W (EachIs AllAlike Sortable SortsAt sortVals sortLe keyToks keyToksAll dataKind alike alikeAll)
theorem tmAll_mem : ∀ {ps : List PyData}, tmAll ps = true → ∀ p ∈ ps, tm p = true
  | [], _, p, h => by cases h
  | x :: xs, h, p, hp => by
    simp only [tmAll, Bool.and_eq_true] at h
    rcases List.mem_cons.mp hp with rfl | hp
    · exact h.1
    · exact tmAll_mem h.2 p hp
theorem depth_mem : ∀ {ps : List PyData} {p : PyData}, p ∈ ps → p.depth ≤ PyData.depthAll ps
  | x :: xs, p, hp => by
    simp only [PyData.depthAll]
    rcases List.mem_cons.mp hp with rfl | hp
    · omega
    · have := depth_mem hp
      omega
theorem wt_mem : ∀ {ps : List PyData} {p : PyData}, p ∈ ps → wt p ≤ wtAll ps
  | x :: xs, p, hp => by
    simp only [wtAll]
    rcases List.mem_cons.mp hp with rfl | hp
    · omega
    · have := wt_mem hp
      omega
theorem nd_mem : ∀ {ps : List PyData} {p : PyData}, p ∈ ps → nd p ≤ ndAll ps
  | x :: xs, p, hp => by
    simp only [ndAll]
    rcases List.mem_cons.mp hp with rfl | hp
    · omega
    · have := nd_mem hp
      omega
theorem ndAll_app : ∀ (xs ys : List PyData), ndAll (xs ++ ys) = ndAll xs + ndAll ys
  | [], ys => by simp [ndAll]
  | x :: xs, ys => by simp only [List.cons_append, ndAll, ndAll_app xs ys]; omega
theorem nd_term {n : Str} {ps : List PyData} : nd (.tuple (.str n :: ps)) = ndAll ps + 1 := by simp only [nd, ndAll]; omega
theorem mkAll_eq : ∀ ps : List PyData, mkAll ps = ps.flatMap mkD ++ [41]
  | [] => rfl
  | x :: xs => by simp only [mkAll, List.flatMap_cons, mkAll_eq xs, List.append_assoc]
theorem mk_tup {n : Str} {ps : List PyData} : mkD (.tuple (.str n :: ps)) = n.cps.toList ++ 40 :: (ps.flatMap mkD ++ [41]) := by simp only [mkD, mkH, nmL3, mkAll_eq]
mutual
theorem mk_len : ∀ x : PyData, tm x = true → (mkD x).length ≤ wt x
  | .tuple (.str n :: ps), h => by
    simp only [tm, tmH, Bool.and_eq_true] at h
    have := mkAll_len ps h.2
    simp only [mkD, mkH, nmL3, wt, wtAll, List.length_append, List.length_cons]
    have e : n.cps.toList.length = n.length := by simp [Str.length]
    omega
  | .tuple [], hx => absurd hx Bool.false_ne_true
  | .tuple (.none :: _), hx => absurd hx Bool.false_ne_true
  | .tuple (.bool _ :: _), hx => absurd hx Bool.false_ne_true
  | .tuple (.int _ :: _), hx => absurd hx Bool.false_ne_true
  | .tuple (.list _ :: _), hx => absurd hx Bool.false_ne_true
  | .tuple (.tuple _ :: _), hx => absurd hx Bool.false_ne_true
  | .tuple (.dict _ :: _), hx => absurd hx Bool.false_ne_true
  | .none, hx => absurd hx Bool.false_ne_true
  | .bool _, hx => absurd hx Bool.false_ne_true
  | .int _, hx => absurd hx Bool.false_ne_true
  | .str _, hx => absurd hx Bool.false_ne_true
  | .list _, hx => absurd hx Bool.false_ne_true
  | .dict _, hx => absurd hx Bool.false_ne_true
theorem mkAll_len : ∀ xs : List PyData, tmAll xs = true → (mkAll xs).length ≤ wtAll xs + 1
  | [], _ => by simp [mkAll]
  | x :: xs, h => by
    simp only [tmAll, Bool.and_eq_true] at h
    have h1 := mk_len x h.1
    have h2 := mkAll_len xs h.2
    simp only [mkAll, wtAll, List.length_append]
    omega
end
theorem str_len (s : Str) : s.length = s.cps.toList.length := by simp [Str.length]
theorem cps_app (s t : Str) : (s ++ t).cps.toList = s.cps.toList ++ t.cps.toList := by simp [Str.cps_append]
theorem atI0 (x : PyData) (xs : List PyData) : atD (.tuple (x :: xs)) 0 = some x := by
  show L2.atI (x :: xs) 0 = some x
  unfold L2.atI ixN
  rw [if_pos (by decide), if_pos (by simp)]
  rfl
theorem cut_one (x : PyData) (xs : List PyData) : cutD (x :: xs) (some 1) none = xs := by
  unfold cutD
  rw [HT.sIx_none, show (some (1 : Int)) = some ((1 : Nat) : Int) from rfl, HT.sIx_nat]
  cases xs with
  | nil => rfl
  | cons y ys =>
    simp only [List.length_cons]
    rw [show min 1 (ys.length + 1 + 1) = 1 from by omega]
    simp
theorem take_flat {ps : List PyData} {i : Nat} {x : PyData} (h : ps[i]? = some x) : (ps.take (i + 1)).flatMap mkD = (ps.take i).flatMap mkD ++ mkD x := by
  rw [List.take_add_one, h, List.flatMap_append]
  simp
theorem dat_mark : ∀ n, ∀ ds, pre_mark (n + 1) ds → d_mark n { nx := fun _ => post_mark ds .none, rt := post_mark ds } (startD 3 (ds.map fun d => some (.dat d))) := by
  rintro n ds ⟨t, rfl, ht, hd, hn, hw⟩
  obtain ⟨nm, ps, rfl, hnm, hps⟩ := tm_tup ht
  show d_mark n _ [some (.dat (.tuple (.str nm :: ps))), none, none]
  dsimp only [d_mark, dSeq, dAsg, dAsgN, dAsgPop, dAppend, dExtend, dExtendT, dInsert, dPar, dPar3, dAug, dIfS, dFor, dRet, dRetO, dRetOwn, dRetOwnD, dRetN, dDrop, dNext, dBreak, dCont, dFreeze, dFreezeD, dGet2, dIdxN, dBorD, dBorDN, dBorDT, dParDN, dParND, dMax2, dAnyK, dnItems, dDictN, dKeysN, dnSortedND, dPutN, dAsgDN, dParN, dDict0, dBorrow, dBorrowT, dTr, dTest, dAnd, dOr, dNot, dAndV, dOrV, dNotV, dIf, dOp, dUn, dCB, dCall, dnCall, dCallX, dCallV, dTup, dLst, dnLst, dnLc, dLc, dOfN, dnAdd, dnSl, dSl, dSlice, dNoPart, dPart, dIx, isI, isB, dVar, dC, dCons, dNil, dLen, dRepr, dListOf, dTupOf, dItems, dItemsT, itemsOf, dSigns, dRng1, dgName, dgTup, dgCons, dgNil, dEq, dNe, dLt, dIn, dII, dIC, dNeg, dAdd, dRep, dUpper, dJoin, dYes, truD, dAll, dAny, dInt1, dAbs, dChain, List.set, List.getElem?_cons_succ, List.getElem?_cons_zero]
  have hlen := mk_len _ ht
  rw [mk_tup] at hlen
  simp only [List.length_append, List.length_cons, List.length_nil] at hlen
  have l8 : nm.length = nm.cps.toList.length := str_len nm
  have e0 : atD (.tuple (.str nm :: ps)) 0 = some (.str nm) := atI0 _ _
  rw [e0, cut_one]
  dsimp only
  have pd : ∀ p ∈ ps, p.depth ≤ n ∧ wt p ≤ 10000 := by
    intro p hp
    have h1 := depth_mem hp
    have h2 := wt_mem hp
    simp only [PyData.depth, PyData.depthAll] at hd
    simp only [wt, wtAll] at hw
    omega
  refine ⟨small_le (by have : Str.length (Str.ofString "(") = 1 := rfl; omega), fun i δ => ∃ (s : Str) (q : Option DV), δ = [some (.dat (.tuple (.str nm :: ps))), some (.dat (.str s)), q] ∧
    s.cps.toList = nm.cps.toList ++ 40 :: (ps.take i).flatMap mkD, ⟨_, _, rfl, by rw [cps_app]; rfl⟩, ?_, ?_⟩
  · rintro i x δ hx ⟨s, q, rfl, hs⟩
    dsimp only [List.set, List.getElem?_cons_succ, List.getElem?_cons_zero]
    have hxm := List.mem_of_getElem? hx
    refine ⟨⟨x, rfl, tmAll_mem hps x hxm, (pd x hxm).1, by omega, (pd x hxm).2⟩, ?_⟩
    rintro r ⟨_, s2, e, rfl, h2⟩
    cases e
    dsimp only
    have hs2 : (s ++ s2).cps.toList = nm.cps.toList ++ 40 :: (ps.take (i + 1)).flatMap mkD := by
      rw [cps_app, hs, h2, take_flat hx, List.append_assoc, List.cons_append]
    refine ⟨small_le ?_, _, _, rfl, hs2⟩
    have a := congrArg List.length hs2
    rw [cps_app] at a
    simp only [List.length_append, List.length_cons] at a
    rw [str_len, str_len, a]
    have b : ((ps.take (i + 1)).flatMap mkD).length ≤ (ps.flatMap mkD).length := by
      conv => rhs; rw [← List.take_append_drop (i + 1) ps, List.flatMap_append, List.length_append]
      omega
    omega
  · rintro δ ⟨s, q, rfl, hs⟩
    dsimp only [List.set, List.getElem?_cons_succ, List.getElem?_cons_zero]
    rw [List.take_length] at hs
    refine ⟨small_le ?_, _, _, rfl, rfl, ?_⟩
    · rw [str_len, hs]
      have : Str.length (Str.ofString ")") = 1 := rfl
      simp only [List.length_append, List.length_cons]
      omega
    · rw [cps_app, hs, mk_tup, List.append_assoc, List.cons_append]
      rfl

theorem sub_tup {x : PyData} {n : Str} {ps : List PyData} : Sub x (.tuple (.str n :: ps)) ↔ x = .tuple (.str n :: ps) ∨ ∃ p ∈ ps, Sub x p := by
  constructor
  · intro h
    cases h with
    | refl => exact .inl rfl
    | part h s => exact .inr ⟨_, h, s⟩
  · rintro (rfl | ⟨p, hp, s⟩)
    · exact .refl _
    · exact .part (show p ∈ parts (.tuple (.str n :: ps)) from hp) s
theorem dat_l_subs : ∀ n, ∀ ds, pre_l_subs (n + 1) ds → d_l_subs n { nx := fun _ => False, rt := fun _ => False, ro := post_l_subs ds } (startD 3 (ds.map fun d => some (.dat d))) := by
  rintro n ds ⟨t, rfl, ht, hd, hn, hk⟩
  obtain ⟨nm, ps, rfl, hnm, hps⟩ := tm_tup ht
  show d_l_subs n _ [some (.dat (.tuple (.str nm :: ps))), none, none]
  dsimp only [d_l_subs, dSeq, dAsg, dAsgN, dAsgPop, dAppend, dExtend, dExtendT, dInsert, dPar, dPar3, dAug, dIfS, dFor, dRet, dRetO, dRetOwn, dRetOwnD, dRetN, dDrop, dNext, dBreak, dCont, dFreeze, dFreezeD, dGet2, dIdxN, dBorD, dBorDN, dBorDT, dParDN, dParND, dMax2, dAnyK, dnItems, dDictN, dKeysN, dnSortedND, dPutN, dAsgDN, dParN, dDict0, dBorrow, dBorrowT, dTr, dTest, dAnd, dOr, dNot, dAndV, dOrV, dNotV, dIf, dOp, dUn, dCB, dCall, dnCall, dCallX, dCallV, dTup, dLst, dnLst, dnLc, dLc, dOfN, dnAdd, dnSl, dSl, dSlice, dNoPart, dPart, dIx, isI, isB, dVar, dC, dCons, dNil, dLen, dRepr, dListOf, dTupOf, dItems, dItemsT, itemsOf, dSigns, dRng1, dgName, dgTup, dgCons, dgNil, dEq, dNe, dLt, dIn, dII, dIC, dNeg, dAdd, dRep, dUpper, dJoin, dYes, truD, dAll, dAny, dInt1, dAbs, dChain, List.set, List.getElem?_cons_succ, List.getElem?_cons_zero]
  rw [cut_one]
  rw [nd_term] at hk
  have pd : ∀ p ∈ ps, p.depth ≤ n ∧ nd p ≤ 127 := by
    intro p hp
    have h1 := depth_mem hp
    have h2 := nd_mem hp
    simp only [PyData.depth, PyData.depthAll] at hd
    omega
  refine ⟨rfl, fun i δ => ∃ (es : List PyData) (q : Option DV), δ = [some (.dat (.tuple (.str nm :: ps))), some (.own es), q] ∧ es.length = ndAll (ps.take i) + 1 ∧
    ∀ x, x ∈ es ↔ x = .tuple (.str nm :: ps) ∨ ∃ p ∈ ps.take i, Sub x p, ⟨_, _, rfl, by simp [ndAll], by simp⟩, ?_, ?_⟩
  · rintro i x δ hx ⟨es, q, rfl, hl, hs⟩
    dsimp only [List.set, List.getElem?_cons_succ, List.getElem?_cons_zero]
    have hxm := List.mem_of_getElem? hx
    refine ⟨⟨x, rfl, tmAll_mem hps x hxm, (pd x hxm).1, by omega, (pd x hxm).2⟩, ?_⟩
    rintro r ⟨_, e, l2, h2⟩
    cases e
    have et : ps.take (i + 1) = ps.take i ++ [x] := by
      rw [List.take_add_one, hx]
      rfl
    have a : ndAll (ps.take (i + 1)) = ndAll (ps.take i) + nd x := by
      rw [et, ndAll_app]
      simp [ndAll]
    have b : ndAll (ps.take (i + 1)) ≤ ndAll ps := by
      conv => rhs; rw [← List.take_append_drop (i + 1) ps, ndAll_app]
      omega
    refine ⟨small_le (by omega), _, _, rfl, by rw [List.length_append]; omega, ?_⟩
    intro y
    rw [List.mem_append, hs, h2, et]
    constructor
    · rintro ((h | ⟨p, hp, s⟩) | h)
      · exact .inl h
      · exact .inr ⟨p, List.mem_append.mpr (.inl hp), s⟩
      · exact .inr ⟨x, List.mem_append.mpr (.inr (List.mem_singleton.mpr rfl)), h⟩
    · rintro (h | ⟨p, hp, s⟩)
      · exact .inl (.inl h)
      · rcases List.mem_append.mp hp with hp | hp
        · exact .inl (.inr ⟨p, hp, s⟩)
        · rw [List.mem_singleton.mp hp] at s
          exact .inr s
  · rintro δ ⟨es, q, rfl, hl, hs⟩
    rw [List.take_length] at hs hl
    refine ⟨_, rfl, by rw [nd_term]; exact hl, fun x => ?_⟩
    rw [hs, sub_tup]

end DL

namespace DL
open PySem PySem.Spec PyProof.Rows L2
open Evl (Ex ex_l ex_t)
variable [TheW]
open PySem.W (EachIs AllAlike Sortable SortsAt sortVals sortLe keyToks keyToksAll dataKind alike alikeAll)
theorem last_app {α : Type} {xs : List α} (h : xs ≠ []) : ∃ ys y, xs = ys ++ [y] := ⟨xs.dropLast, xs.getLast h, (List.dropLast_concat_getLast h).symm⟩
theorem getLast_app {α : Type} (xs : List α) (y : α) : (xs ++ [y]).getLast? = some y := by simp
theorem dropLast_app {α : Type} (xs : List α) (y : α) : (xs ++ [y]).dropLast = xs := by simp
theorem nd_pos {t : PyData} (h : tm t = true) : 1 ≤ nd t := by
  obtain ⟨n, ps, rfl, _⟩ := tm_tup h
  rw [nd_term]
  omega
theorem len_nd : ∀ {us : List PyData}, (∀ u ∈ us, tm u = true) → us.length ≤ ndAll us
  | [], _ => Nat.zero_le _
  | x :: xs, h => by
    have h1 := nd_pos (h x (List.mem_cons_self ..))
    have h2 := len_nd (us := xs) fun u hu => h u (List.mem_cons_of_mem _ hu)
    simp only [List.length_cons, ndAll]
    omega
theorem key_same {s s' : Str} (h : s.cps.toList = s'.cps.toList) : s = s' := PySem.W.str_of_cps h
/-- what stands in found: by their texts -/
structure Kv (ts : List PyData) (kvs : List (Str × PyData)) : Prop where
  k : ∀ p ∈ kvs, p.1.cps.toList = mkD p.2 ∧ p.2 ∈ ts
  nd : (kvs.map (·.2)).Nodup
theorem Kv.len {ts : List PyData} {kvs : List (Str × PyData)} (h : Kv ts kvs) (hp : PoolL ts) : kvs.length ≤ 7 := by
  have := nodup_le (kvs.map (·.2)) ts h.nd (by
    intro x hx
    obtain ⟨p, hm, rfl⟩ := List.mem_map.mp hx
    exact (h.k p hm).2)
  rw [List.length_map] at this
  exact Nat.le_trans this hp.l
theorem Kv.any {ts : List PyData} {kvs : List (Str × PyData)} (h : Kv ts kvs) (hp : PoolL ts) {s : Str} {y : PyData} (hs : s.cps.toList = mkD y) (hy : y ∈ ts) :
    (kvs.any fun p => decide (p.1 = s)) = true ↔ y ∈ kvs.map (·.2) := by
  rw [List.any_eq_true]
  constructor
  · rintro ⟨p, hm, e⟩
    have e := of_decide_eq_true e
    obtain ⟨h1, h2⟩ := h.k p hm
    have : p.2 = y := mk_inj (hp.t _ h2).m (hp.t _ hy).m (by rw [← h1, e, hs])
    exact List.mem_map.mpr ⟨p, hm, this⟩
  · intro hm
    obtain ⟨p, hq, rfl⟩ := List.mem_map.mp hm
    exact ⟨p, hq, decide_eq_true (key_same (by rw [(h.k p hq).1, hs]))⟩
theorem Kv.put {ts : List PyData} {kvs : List (Str × PyData)} (h : Kv ts kvs) (hp : PoolL ts) {s : Str} {y : PyData} (hs : s.cps.toList = mkD y) (hy : y ∈ ts) (hn : (kvs.any fun p => decide (p.1 = s)) = false) :
    putKs kvs s y = kvs ++ [(s, y)] ∧ Kv ts (kvs ++ [(s, y)]) := by
  have hni : y ∉ kvs.map (·.2) := fun z => by
    rw [(h.any hp hs hy).mpr z] at hn
    exact absurd hn (by decide)
  refine ⟨by unfold putKs; rw [hn, if_neg (by decide)], ?_, ?_⟩
  · intro p hm
    rcases List.mem_append.mp hm with hm | hm
    · exact h.k p hm
    · rw [List.mem_singleton.mp hm]
      exact ⟨hs, hy⟩
  · rw [List.map_append, List.nodup_append]
    refine ⟨h.nd, by simp, ?_⟩
    intro a ha b hb e
    have e : a = y := e.trans (List.mem_singleton.mp hb)
    rw [e] at ha
    exact hni ha
/-- the terms of found by their texts in order -/
theorem Kv.out {ts : List PyData} {kvs : List (Str × PyData)} (h : Kv ts kvs) (hp : PoolL ts) {ys : List Str} (pm : ys.Perm (kvs.map (·.1))) (so : sortedS ys = true) :
    (∀ s ∈ ys, ∃ d, getKs kvs s = some d) ∧ (ys.map fun s => (getKs kvs s).getD .none).Pairwise LT ∧ ∀ t, t ∈ (ys.map fun s => (getKs kvs s).getD .none) ↔ t ∈ kvs.map (·.2) := by
  have at_ : ∀ s ∈ ys, ∃ d, getKs kvs s = some d ∧ (s, d) ∈ kvs := by
    intro s hs
    obtain ⟨p, hm, rfl⟩ := List.mem_map.mp (pm.mem_iff.mp hs)
    unfold getKs
    cases e : kvs.find? fun q => decide (q.1 = p.1) with
    | none => exact absurd (List.find?_eq_none.mp e p hm) (by simp)
    | some q =>
      have h1 := List.mem_of_find?_eq_some e
      have h2 : q.1 = p.1 := by simpa using List.find?_some e
      exact ⟨q.2, rfl, by rw [← h2]; exact h1⟩
  have g : ∀ s ∈ ys, (getKs kvs s).getD .none ∈ kvs.map (·.2) ∧ mkD ((getKs kvs s).getD .none) = s.cps.toList ∧ tm ((getKs kvs s).getD .none) = true := by
    intro s hs
    obtain ⟨d, e, hm⟩ := at_ s hs
    rw [e]
    exact ⟨List.mem_map.mpr ⟨_, hm, rfl⟩, (h.k _ hm).1.symm, (hp.t _ (h.k _ hm).2).m⟩
  have keys : (kvs.map (·.1)).Nodup := by
    refine List.pairwise_map.mpr ?_
    refine List.Pairwise.imp_of_mem (fun {a b} ha hb hab => ?_) (List.pairwise_map.mp h.nd)
    intro z
    exact hab (mk_inj (hp.t _ (h.k a ha).2).m (hp.t _ (h.k b hb).2).m (by rw [← (h.k a ha).1, ← (h.k b hb).1, z]))
  have ynd : ys.Nodup := pm.nodup_iff.mpr keys
  refine ⟨fun s hs => (at_ s hs).imp fun d hd => hd.1, strict ?_ ?_ ?_, ?_⟩
  · refine List.pairwise_map.mpr ?_
    refine List.Pairwise.imp_of_mem (fun {a b} ha hb hab => ?_) (sortedS_pw so)
    rw [(g a ha).2.1, (g b hb).2.1]
    exact hab
  · refine List.pairwise_map.mpr ?_
    refine List.Pairwise.imp_of_mem (fun {a b} ha hb hab => ?_) ynd
    intro z
    exact hab (key_same (by rw [← (g a ha).2.1, ← (g b hb).2.1, z]))
  · intro t ht
    obtain ⟨s, hs, rfl⟩ := List.mem_map.mp ht
    exact (g s hs).2.2
  · intro t
    constructor
    · intro ht
      obtain ⟨s, hs, rfl⟩ := List.mem_map.mp ht
      exact (g s hs).1
    · intro ht
      obtain ⟨p, hm, rfl⟩ := List.mem_map.mp ht
      have hs : p.1 ∈ ys := pm.mem_iff.mpr (List.mem_map.mpr ⟨p, hm, rfl⟩)
      refine List.mem_map.mpr ⟨p.1, hs, ?_⟩
      obtain ⟨d, e, hm2⟩ := at_ p.1 hs
      rw [e]
      exact mk_inj (hp.t _ (h.k _ hm2).2).m (hp.t _ (h.k p hm).2).m ((h.k _ hm2).1.symm.trans (h.k p hm).1)
theorem parts_nd {y : PyData} (h : tm y = true) : nd y = ndAll (parts y) + 1 := by
  obtain ⟨n, ps, rfl, _⟩ := tm_tup h
  rw [nd_term]
  rfl
theorem cut_parts {y : PyData} (h : tm y = true) : ∃ n ps, y = .tuple (.str n :: ps) ∧ parts y = ps := by
  obtain ⟨n, ps, rfl, _⟩ := tm_tup h
  exact ⟨n, ps, rfl, rfl⟩
theorem sub_mem {ts : List PyData} (hp : PoolL ts) {x u : PyData} (s : Sub x u) : u ∈ ts → x ∈ ts := by
  induction s with
  | refl => exact id
  | part h _ ih => exact fun hu => ih (hp.cl _ hu _ h)
mutual
theorem nk_depth : ∀ t : PyData, tm t = true → ∃ e, nk t = some e ∧ e.depth ≤ t.depth
  | .tuple (.str n :: ps), h => by
    simp only [tm, tmH, Bool.and_eq_true] at h
    obtain ⟨es, h1, h2⟩ := nks_depth ps h.2
    refine ⟨.tup (.text n :: es), ?_, ?_⟩
    · simp only [nk, nks, h1, Option.map_some]
    · simp only [NestedKey.depth, NestedKey.depthAll, PyData.depth, PyData.depthAll]
      omega
  | .tuple [], hx => absurd hx Bool.false_ne_true
  | .tuple (.none :: _), hx => absurd hx Bool.false_ne_true
  | .tuple (.bool _ :: _), hx => absurd hx Bool.false_ne_true
  | .tuple (.int _ :: _), hx => absurd hx Bool.false_ne_true
  | .tuple (.list _ :: _), hx => absurd hx Bool.false_ne_true
  | .tuple (.tuple _ :: _), hx => absurd hx Bool.false_ne_true
  | .tuple (.dict _ :: _), hx => absurd hx Bool.false_ne_true
  | .none, hx => absurd hx Bool.false_ne_true
  | .bool _, hx => absurd hx Bool.false_ne_true
  | .int _, hx => absurd hx Bool.false_ne_true
  | .str _, hx => absurd hx Bool.false_ne_true
  | .list _, hx => absurd hx Bool.false_ne_true
  | .dict _, hx => absurd hx Bool.false_ne_true
theorem nks_depth : ∀ xs : List PyData, tmAll xs = true → ∃ es, nks xs = some es ∧ NestedKey.depthAll es ≤ PyData.depthAll xs
  | [], _ => ⟨[], rfl, by simp only [NestedKey.depthAll]; exact Nat.zero_le _⟩
  | x :: xs, h => by
    simp only [tmAll, Bool.and_eq_true] at h
    obtain ⟨e, h1, h2⟩ := nk_depth x h.1
    obtain ⟨es, h3, h4⟩ := nks_depth xs h.2
    refine ⟨e :: es, by simp only [nks, h1, h3], ?_⟩
    simp only [NestedKey.depthAll, PyData.depthAll]
    omega
end
theorem nk_same {x y : PyData} (hx : tm x = true) (h : nk x = nk y) : x = y := by
  obtain ⟨e, h1, _⟩ := nk_depth x hx
  rw [h1] at h
  rw [← nk_data x e h1, nk_data y e h.symm]
/-- what stands in the law's found: terms, once each -/
structure Kn (ts : List PyData) (kvs : List (PyData × PyData)) : Prop where
  k : ∀ p ∈ kvs, p.1 ∈ ts
  nd : (kvs.map (·.1)).Nodup
theorem Kn.len {ts : List PyData} {kvs : List (PyData × PyData)} (h : Kn ts kvs) (hp : PoolL ts) : kvs.length ≤ 7 := by
  have := nodup_le (kvs.map (·.1)) ts h.nd (by
    intro x hx
    obtain ⟨p, hm, rfl⟩ := List.mem_map.mp hx
    exact h.k p hm)
  rw [List.length_map] at this
  exact Nat.le_trans this hp.l
theorem Kn.put {ts : List PyData} {kvs : List (PyData × PyData)} (h : Kn ts kvs) (hp : PoolL ts) {y v : PyData} (hy : y ∈ ts) :
    Kn ts (putN kvs y v) ∧ ∀ t, t ∈ (putN kvs y v).map (·.1) ↔ t ∈ kvs.map (·.1) ∨ t = y := by
  have an : (kvs.any fun p => decide (nk p.1 = nk y)) = true ↔ y ∈ kvs.map (·.1) := by
    rw [List.any_eq_true]
    constructor
    · rintro ⟨p, hm, e⟩
      exact List.mem_map.mpr ⟨p, hm, nk_same (hp.t _ (h.k p hm)).m (of_decide_eq_true e)⟩
    · intro hm
      obtain ⟨p, hq, rfl⟩ := List.mem_map.mp hm
      exact ⟨p, hq, decide_eq_true rfl⟩
  unfold putN
  split
  · rename_i c
    have em : (kvs.map fun p => if nk p.1 = nk y then (p.1, v) else p).map (·.1) = kvs.map (·.1) := by
      rw [List.map_map]
      refine List.map_congr_left fun p _ => ?_
      show (if nk p.1 = nk y then (p.1, v) else p).1 = p.1
      split <;> rfl
    refine ⟨⟨?_, by rw [em]; exact h.nd⟩, fun t => ?_⟩
    · intro p hm
      obtain ⟨q, hq, e⟩ := List.mem_map.mp (em ▸ List.mem_map.mpr ⟨p, hm, rfl⟩ : p.1 ∈ kvs.map (·.1))
      exact e ▸ h.k q hq
    · rw [em]
      exact ⟨.inl, fun z => z.elim id fun z => z ▸ an.mp c⟩
  · rename_i c
    have hn : y ∉ kvs.map (·.1) := fun z => c (an.mpr z)
    refine ⟨⟨?_, ?_⟩, fun t => ?_⟩
    · intro p hm
      rcases List.mem_append.mp hm with hm | hm
      · exact h.k p hm
      · rw [List.mem_singleton.mp hm]
        exact hy
    · rw [List.map_append, List.nodup_append]
      refine ⟨h.nd, by simp, ?_⟩
      intro a ha b hb e
      have e : a = y := e.trans (List.mem_singleton.mp hb)
      rw [e] at ha
      exact hn ha
    · rw [List.map_append, List.mem_append]
      simp only [List.map_cons, List.map_nil, List.mem_singleton]
theorem dat_l_closed : ∀ ds, pre_l_closed ds → d_l_closed { nx := fun _ => False, rt := fun _ => False, ro := post_l_closed ds } (startD 4 (ds.map fun d => some (.dat d))) := by
  rintro ds ⟨us, ts, rfl, hp, hu, h5⟩
  show d_l_closed _ [some (.dat (.list us)), none, none, none]
  dsimp only [d_l_closed, dAsgDN, dPutN, dnSortedN, wipeD, dSeq, dAsg, dAsgN, dAsgPop, dAppend, dExtend, dExtendT, dInsert, dPar, dPar3, dAug, dIfS, dFor, dRet, dRetO, dRetOwn, dRetOwnD, dRetN, dDrop, dNext, dBreak, dCont, dFreeze, dFreezeD, dGet2, dIdxN, dBorD, dBorDN, dBorDT, dParDN, dParND, dMax2, dAnyK, dnItems, dDictN, dKeysN, dnSortedND, dPutN, dAsgDN, dParN, dDict0, dBorrow, dBorrowT, dTr, dTest, dAnd, dOr, dNot, dAndV, dOrV, dNotV, dIf, dOp, dUn, dCB, dCall, dnCall, dCallX, dCallV, dTup, dLst, dnLst, dnLc, dLc, dOfN, dnAdd, dnSl, dSl, dSlice, dNoPart, dPart, dIx, isI, isB, dVar, dC, dCons, dNil, dLen, dRepr, dListOf, dTupOf, dItems, dItemsT, itemsOf, dSigns, dRng1, dgName, dgTup, dgCons, dgNil, dEq, dNe, dLt, dIn, dII, dIC, dNeg, dAdd, dRep, dUpper, dJoin, dYes, truD, dAll, dAny, dInt1, dAbs, dChain, List.set, List.getElem?_cons_succ, List.getElem?_cons_zero]
  refine ⟨fun i δ => ∃ (kvs : List (PyData × PyData)) (q2 q3 : Option DV), δ = [some (.dat (.list us)), some (.dct (.dn TheW.w kvs)), q2, q3] ∧ Kn ts kvs ∧ ∀ t, t ∈ kvs.map (·.1) ↔ ∃ u ∈ us.take i, Sub t u,
    ⟨[], _, _, rfl, ⟨by simp, by simp⟩, by simp⟩, ?_, ?_⟩
  · rintro i x δ hx ⟨kvs, q2, q3, rfl, hk, hm⟩
    dsimp only [List.set, List.getElem?_cons_succ, List.getElem?_cons_zero]
    have hxm := List.mem_of_getElem? hx
    have ox := hp.t x (hu x hxm)
    refine ⟨⟨x, rfl, ox.m, Nat.le_trans ox.d (by decide), by decide, ox.n⟩, ?_⟩
    rintro r ⟨_, e, hl, hr⟩
    cases e
    refine ⟨fun j δ => ∃ (kvs : List (PyData × PyData)) (q2 q3 : Option DV), δ = [some (.dat (.list us)), some (.dct (.dn TheW.w kvs)), q2, q3] ∧ Kn ts kvs ∧ ∀ t, t ∈ kvs.map (·.1) ↔ (∃ u ∈ us.take i, Sub t u) ∨ t ∈ r.take j,
      ⟨kvs, _, _, rfl, hk, by intro t; rw [hm]; simp⟩, ?_, ?_⟩
    · rintro j y δ hy ⟨kvs, q2, q3, rfl, hk, hm⟩
      dsimp only [List.set, List.getElem?_cons_succ, List.getElem?_cons_zero]
      have hyt : y ∈ ts := sub_mem hp ((hr y).mp (List.mem_of_getElem? hy)) (hu x hxm)
      have oy := hp.t y hyt
      obtain ⟨e, h1, h2⟩ := nk_depth y oy.m
      obtain ⟨n, ps, ey, _⟩ := tm_tup oy.m
      have hl := hk.len hp
      obtain ⟨p1, p2⟩ := hk.put (v := .bool true) hp hyt
      refine ⟨rfl, ⟨e, _, h1, Nat.le_trans h2 oy.d, ey⟩, small_le (by omega), _, _, _, rfl, p1, fun t => ?_⟩
      rw [p2, hm, List.take_add_one, hy]
      simp only [Option.toList, List.mem_append, List.mem_singleton]
      exact or_assoc
    · rintro δ ⟨kvs, q2, q3, rfl, hk, hm⟩
      refine ⟨kvs, _, _, rfl, hk, fun t => ?_⟩
      rw [hm, List.take_length, hr, List.take_add_one, hx]
      simp only [Option.toList, List.mem_append, List.mem_singleton]
      constructor
      · rintro (⟨u, h1, h2⟩ | h)
        · exact ⟨u, .inl h1, h2⟩
        · exact ⟨x, .inr rfl, h⟩
      · rintro ⟨u, h1 | rfl, h2⟩
        · exact .inl ⟨u, h1, h2⟩
        · exact .inr h2
  · rintro δ ⟨kvs, q2, q3, rfl, hk, hm⟩
    dsimp only [List.set, List.getElem?_cons_succ, List.getElem?_cons_zero]
    rw [List.take_length] at hm
    have tms : ∀ t ∈ kvs.map (·.1), okT t := by
      intro t ht
      obtain ⟨p, hq, rfl⟩ := List.mem_map.mp ht
      exact hp.t _ (hk.k p hq)
    obtain ⟨s1, s2⟩ := sortD_lt (fun t ht => (tms t ht).m) hk.nd
    refine ⟨rfl, ⟨fun a ha b hb => alike_tm a b (tms a ha).m (tms b hb).m, .inl fun a ha => ?_, fun a ha => Nat.le_trans (tms a ha).d (by decide)⟩, us, rfl, s1, fun t => by rw [s2, hm]⟩
    obtain ⟨n, ps, e, _⟩ := tm_tup (tms a ha).m
    exact ⟨_, _, e⟩

theorem not_tm {w : Str} {ps : List PyData} (h : w ∉ names13) : tm (.tuple (.str w :: ps)) = false := by
  simp only [tm, tmH, isN3, decide_eq_false h, Bool.false_and]
theorem no_nm : (Str.ofString "tell") ∉ names13 ∧ (Str.ofString "if") ∉ names13 ∧ (Str.ofString "alike") ∉ names13 ∧ (Str.ofString "unlike") ∉ names13 ∧ (Str.ofString "yes") ∉ names13 ∧ (Str.ofString "no") ∉ names13 := by decide
theorem tin_tell {u a : PyData} : Tin u (.tuple [.str "tell", a]) ↔ u = a := by
  constructor
  · intro h
    cases h with
    | tell => rfl
    | term _ h =>
      rw [not_tm no_nm.1] at h
      cases h
  · rintro rfl
    exact .tell u
theorem tin_if {u a b y n : PyData} : Tin u (.tuple [.str "if", a, b, y, n]) ↔ u = a ∨ u = b ∨ Tin u y ∨ Tin u n := by
  constructor
  · intro h
    cases h with
    | if1 => exact .inl rfl
    | if2 => exact .inr (.inl rfl)
    | if3 _ _ _ _ h => exact .inr (.inr (.inl h))
    | if4 _ _ _ _ h => exact .inr (.inr (.inr h))
    | term _ h =>
      rw [not_tm no_nm.2.1] at h
      cases h
  · rintro (rfl | rfl | h | h)
    · exact .if1 ..
    · exact .if2 ..
    · exact .if3 _ _ _ _ h
    · exact .if4 _ _ _ _ h
theorem tin_al {w : Str} {u a b : PyData} (hw : w = "alike" ∨ w = "unlike") : Tin u (.tuple [.str w, a, b]) ↔ u = a ∨ u = b := by
  constructor
  · intro h
    cases h with
    | al1 => exact .inl rfl
    | al2 => exact .inr rfl
    | term _ h =>
      rw [not_tm (by rcases hw with rfl | rfl; exact no_nm.2.2.1; exact no_nm.2.2.2.1)] at h
      cases h
  · rintro (rfl | rfl)
    · exact .al1 _ _ _ hw
    · exact .al2 _ _ _ hw
theorem tin_gd {u : PyData} (c : Bool) : ¬ Tin u (Cd.gd c).toD := by
  intro h
  cases c
  · cases h with
    | term _ h =>
      rw [show (Cd.gd false).toD = .tuple [.str "no"] from rfl, not_tm no_nm.2.2.2.2.2] at h
      cases h
  · cases h with
    | term _ h =>
      rw [show (Cd.gd true).toD = .tuple [.str "yes"] from rfl, not_tm no_nm.2.2.2.2.1] at h
      cases h
theorem tin_tm {u v : PyData} (h : tm v = true) : Tin u v ↔ u = v := by
  constructor
  · intro t
    cases t with
    | term => rfl
    | tell => rw [not_tm no_nm.1] at h; cases h
    | if1 => rw [not_tm no_nm.2.1] at h; cases h
    | if2 => rw [not_tm no_nm.2.1] at h; cases h
    | if3 => rw [not_tm no_nm.2.1] at h; cases h
    | if4 => rw [not_tm no_nm.2.1] at h; cases h
    | al1 _ _ _ hw => rw [not_tm (by rcases hw with rfl | rfl; exact no_nm.2.2.1; exact no_nm.2.2.2.1)] at h; cases h
    | al2 _ _ _ hw => rw [not_tm (by rcases hw with rfl | rfl; exact no_nm.2.2.1; exact no_nm.2.2.2.1)] at h; cases h
  · rintro rfl
    exact .term _ h
/-- the ways a thing can be -/
inductive ThI (ts : List PyData) : PyData → Prop
  | tell (a : PyData) (h : a ∈ ts) : ThI ts (.tuple [.str "tell", a])
  | yes : ThI ts (.tuple [.str "yes"])
  | no : ThI ts (.tuple [.str "no"])
  | iff (a b y n : PyData) (h1 : a ∈ ts) (h2 : b ∈ ts) (h3 : ThI ts y) (h4 : ThI ts n) : ThI ts (.tuple [.str "if", a, b, y, n])
  | fact (w : Str) (a b : PyData) (h : w = "alike" ∨ w = "unlike") (h1 : a ∈ ts) (h2 : b ∈ ts) : ThI ts (.tuple [.str w, a, b])
  | term (v : PyData) (h : v ∈ ts) : ThI ts v
theorem Cd.thi {ts : List PyData} : ∀ c : Cd, c.okIn ts → ThI ts c.toD
  | .tell t, h => .tell t h
  | .gd true, h => h.elim
  | .gd false, h => h.elim
  | .iff a b y n, h => .iff a b _ _ h.1 h.2.1 (Cd.thi y h.2.2.1) (Cd.thi n h.2.2.2)
theorem ThOk.thi {ts : List PyData} {v : PyData} (h : ThOk ts v) : ThI ts v := by
  rcases h with ⟨c, rfl, h, _⟩ | ⟨w, a, b, hw, rfl, h1, h2⟩ | h
  · exact c.thi h
  · exact .fact w a b hw h1 h2
  · exact .term v h
theorem tin_ts {ts : List PyData} (hp : PoolL ts) {v u : PyData} (h : ThI ts v) : Tin u v → u ∈ ts := by
  induction h with
  | tell a h => rw [tin_tell]; rintro rfl; exact h
  | yes => exact fun z => absurd z (tin_gd true)
  | no => exact fun z => absurd z (tin_gd false)
  | iff a b y n h1 h2 _ _ h3 h4 =>
    rw [tin_if]
    rintro (rfl | rfl | h | h)
    · exact h1
    · exact h2
    · exact h3 h
    · exact h4 h
  | fact w a b h h1 h2 =>
    rw [tin_al h]
    rintro (rfl | rfl)
    · exact h1
    · exact h2
  | term v h =>
    rw [tin_tm (hp.t v h).m]
    rintro rfl
    exact h
theorem tm_of {ts : List PyData} (hp : PoolL ts) {v u : PyData} (h : ThI ts v) (t : Tin u v) : tm u = true := (hp.t u (tin_ts hp h t)).m
theorem thi_pos {ts : List PyData} (hp : PoolL ts) {v : PyData} (h : ThI ts v) : 1 ≤ nd v := by
  cases h with
  | tell a h => simp only [nd]; omega
  | yes => exact Nat.le_refl _
  | no => exact Nat.le_refl _
  | iff a b y n h1 h2 h3 h4 => simp only [nd]; omega
  | fact w a b h h1 h2 => simp only [nd]; omega
  | term v h => exact nd_pos (hp.t _ h).m
theorem thi_len {ts : List PyData} (hp : PoolL ts) : ∀ {us : List PyData}, (∀ u ∈ us, ThI ts u) → us.length ≤ ndAll us
  | [], _ => Nat.zero_le _
  | x :: xs, h => by
    have h1 := thi_pos hp (h x (List.mem_cons_self ..))
    have h2 := thi_len hp (us := xs) fun u hu => h u (List.mem_cons_of_mem _ hu)
    simp only [List.length_cons, ndAll]
    omega
theorem Cd.nd_le {ts : List PyData} (hp : PoolL ts) : ∀ c : Cd, c.okIn ts → nd c.toD + 255 ≤ 2 ^ c.dep * 383
  | .tell t, h => by
    have := (hp.t t h).n
    simp only [Cd.toD, Cd.dep, nd, ndAll]
    omega
  | .gd true, _ => by simp [Cd.toD, Cd.dep, nd, ndAll]
  | .gd false, _ => by simp [Cd.toD, Cd.dep, nd, ndAll]
  | .iff a b y n, h => by
    have ha := (hp.t a h.1).n
    have hb := (hp.t b h.2.1).n
    have hy := Cd.nd_le hp y h.2.2.1
    have hn := Cd.nd_le hp n h.2.2.2
    have e1 : 2 ^ y.dep ≤ 2 ^ max y.dep n.dep := Nat.pow_le_pow_right (by decide) (Nat.le_max_left _ _)
    have e2 : 2 ^ n.dep ≤ 2 ^ max y.dep n.dep := Nat.pow_le_pow_right (by decide) (Nat.le_max_right _ _)
    simp only [Cd.toD, Cd.dep, nd, ndAll, Nat.pow_succ]
    omega
theorem ThOk.nd {ts : List PyData} {v : PyData} (hp : PoolL ts) (h : ThOk ts v) : nd v ≤ 12001 := by
  rcases h with ⟨c, rfl, h, h3⟩ | ⟨w, a, b, hw, rfl, h1, h2⟩ | h
  · have := c.nd_le hp h
    have : 2 ^ c.dep ≤ 2 ^ 5 := Nat.pow_le_pow_right (by decide) h3
    omega
  · have ha := (hp.t a h1).n
    have hb := (hp.t b h2).n
    simp only [DL.nd, ndAll]
    omega
  · have := (hp.t v h).n
    omega
theorem ndAll_le {vs : List PyData} {k : Nat} (h : ∀ v ∈ vs, nd v ≤ k) : ndAll vs ≤ vs.length * k := by
  induction vs with
  | nil => exact Nat.zero_le _
  | cons x xs ih =>
    have h1 := h x (List.mem_cons_self ..)
    have h2 := ih fun v hv => h v (List.mem_cons_of_mem _ hv)
    simp only [ndAll, List.length_cons, Nat.succ_mul]
    omega
theorem ValsOk.nd {ts vs : List PyData} (hp : PoolL ts) (h : ∀ v ∈ vs, ThOk ts v) (l : vs.length ≤ 1) : ndAll vs ≤ 12001 := by
  have h1 := ndAll_le fun v hv => (h v hv).nd hp
  have h2 : vs.length * 12001 ≤ 1 * 12001 := Nat.mul_le_mul_right _ l
  omega
theorem eqv_word (a b : Str) : PyData.eqv (.str a) (.str b) = (a == b) := by rw [eqv_ss]
theorem dat_l_terms_in : ∀ n, ∀ ds, pre_l_terms_in (n + 1) ds → d_l_terms_in n { nx := fun _ => post_l_terms_in ds .none, rt := post_l_terms_in ds } (startD 1 (ds.map fun d => some (.dat d))) := by
  rintro n ds ⟨v, ts, rfl, hp, h⟩
  have post1 : ∀ us : List PyData, ndAll us ≤ nd v → (∀ u, u ∈ us ↔ Tin u v) → post_l_terms_in [v] (.list us) := fun us h1 h2 => ⟨v, us, rfl, rfl, h1, h2⟩
  show d_l_terms_in n _ [some (.dat v)]
  have code : ∀ c : Cd, v = c.toD → c.okIn ts → (c.dep < n + 1 ∧ c.dep ≤ 5) → n + 1 ≤ 12 → d_l_terms_in n { nx := fun _ => post_l_terms_in [v] .none, rt := post_l_terms_in [v] } [some (.dat v)] := by
    rintro c rfl hc ⟨hd, hd3⟩ hn
    dsimp only [d_l_terms_in, dSeq, dAsg, dAsgN, dAsgPop, dAppend, dExtend, dExtendT, dInsert, dPar, dPar3, dAug, dIfS, dFor, dRet, dRetO, dRetOwn, dRetOwnD, dRetN, dDrop, dNext, dBreak, dCont, dFreeze, dFreezeD, dGet2, dIdxN, dBorD, dBorDN, dBorDT, dParDN, dParND, dMax2, dAnyK, dnItems, dDictN, dKeysN, dnSortedND, dPutN, dAsgDN, dParN, dDict0, dBorrow, dBorrowT, dTr, dTest, dAnd, dOr, dNot, dAndV, dOrV, dNotV, dIf, dOp, dUn, dCB, dCall, dnCall, dCallX, dCallV, dTup, dLst, dnLst, dnLc, dLc, dOfN, dnAdd, dnSl, dSl, dSlice, dNoPart, dPart, dIx, isI, isB, dVar, dC, dCons, dNil, dLen, dRepr, dListOf, dTupOf, dItems, dItemsT, itemsOf, dSigns, dRng1, dgName, dgTup, dgCons, dgNil, dEq, dNe, dLt, dIn, dII, dIC, dNeg, dAdd, dRep, dUpper, dJoin, dYes, truD, dAll, dAny, dInt1, dAbs, dChain, List.set, List.getElem?_cons_succ, List.getElem?_cons_zero]
    cases c with
    | tell t =>
      refine ⟨rfl, ?_⟩
      show if PyData.eqv (.str "tell") (.str "tell") = true then _ else _
      rw [eqv_ss, if_pos (by decide)]
      refine ⟨rfl, post1 _ ?_ fun u => ?_⟩
      · simp only [Cd.toD, nd, ndAll]
        omega
      · rw [List.mem_singleton]
        exact tin_tell.symm
    | gd c =>
      cases c with
      | true =>
        refine ⟨rfl, ?_⟩
        show if PyData.eqv (.str "yes") (.str "tell") = true then _ else _
        rw [eqv_ss, if_neg (by decide)]
        refine ⟨rfl, ?_⟩
        show if PyData.eqv (.str "yes") (.str "if") = true then _ else _
        rw [eqv_ss, if_neg (by decide)]
        refine ⟨rfl, rfl, rfl, ?_⟩
        exact post1 _ (Nat.zero_le _) fun u => ⟨fun z => (by cases z), fun z => absurd z (tin_gd true)⟩
      | false =>
        refine ⟨rfl, ?_⟩
        show if PyData.eqv (.str "no") (.str "tell") = true then _ else _
        rw [eqv_ss, if_neg (by decide)]
        refine ⟨rfl, ?_⟩
        show if PyData.eqv (.str "no") (.str "if") = true then _ else _
        rw [eqv_ss, if_neg (by decide)]
        refine ⟨rfl, rfl, rfl, ?_⟩
        exact post1 _ (Nat.zero_le _) fun u => ⟨fun z => (by cases z), fun z => absurd z (tin_gd false)⟩
    | iff a b y m =>
      have hd : max y.dep m.dep + 1 < n + 1 := hd
      have hd3 : max y.dep m.dep + 1 ≤ 5 := hd3
      refine ⟨rfl, ?_⟩
      show if PyData.eqv (.str "if") (.str "tell") = true then _ else _
      rw [eqv_ss, if_neg (by decide)]
      refine ⟨rfl, ?_⟩
      show if PyData.eqv (.str "if") (.str "if") = true then _ else _
      rw [eqv_ss, if_pos (by decide)]
      refine ⟨rfl, ⟨_, ts, rfl, hp, .inl ⟨⟨y, rfl, hc.2.2.1, by omega, by omega⟩, by omega⟩⟩, ?_⟩
      rintro r ⟨_, us, e, rfl, n1, t1⟩
      cases e
      have ea := nd_pos (hp.t a hc.1).m
      have eb := nd_pos (hp.t b hc.2.1).m
      have n0 := (Cd.nd_le hp _ hc)
      have n3 : 2 ^ (Cd.iff a b y m).dep ≤ 2 ^ 5 := Nat.pow_le_pow_right (by decide) (by simp only [Cd.dep]; omega)
      have en : nd (Cd.iff a b y m).toD = nd a + nd b + nd y.toD + nd m.toD + 1 := by
        simp only [Cd.toD, nd, ndAll]
        omega
      have l1 := len_nd (us := us) (by
        intro u hu
        exact tm_of hp (Cd.thi y hc.2.2.1) ((t1 u).mp hu))
      show small ([a, b].length + us.length) = true ∧ _
      refine ⟨small_le (by simp only [List.length_cons, List.length_nil]; omega), ⟨_, ts, rfl, hp, .inl ⟨⟨m, rfl, hc.2.2.2, by omega, by omega⟩, by omega⟩⟩, ?_⟩
      rintro r ⟨_, us2, e, rfl, n2, t2⟩
      cases e
      have l2 := len_nd (us := us2) (by
        intro u hu
        exact tm_of hp (Cd.thi m hc.2.2.2) ((t2 u).mp hu))
      show small (([a, b] ++ us).length + us2.length) = true ∧ _
      refine ⟨small_le (by rw [List.length_append]; simp only [List.length_cons, List.length_nil]; omega), post1 _ ?_ fun u => ?_⟩
      · rw [ndAll_app, ndAll_app]
        simp only [ndAll]
        omega
      · rw [List.mem_append, List.mem_append, t1, t2]
        show _ ↔ Tin u (.tuple [.str "if", a, b, y.toD, m.toD])
        rw [tin_if]
        simp only [List.mem_cons, List.not_mem_nil, or_false]
        constructor
        · rintro (((h | h) | h) | h)
          · exact .inl h
          · exact .inr (.inl h)
          · exact .inr (.inr (.inl h))
          · exact .inr (.inr (.inr h))
        · rintro (h | h | h | h)
          · exact .inl (.inl (.inl h))
          · exact .inl (.inl (.inr h))
          · exact .inl (.inr h)
          · exact .inr h
  rcases h with ⟨⟨c, e, hc, hd⟩, hn⟩ | ⟨h, h4, hn⟩
  · exact code c e hc hd hn
  · rcases h with ⟨c, e, hc, hd⟩ | ⟨w, a, b, hw, rfl, h1, h2⟩ | h
    · exact code c e hc ⟨by omega, hd⟩ hn
    · have n1 : (w == "tell") = false := by rcases hw with rfl | rfl <;> decide
      have n2 : (w == "if") = false := by rcases hw with rfl | rfl <;> decide
      have n3 : (("yes" == w || ("no" == w || false)) : Bool) = false := by rcases hw with rfl | rfl <;> decide
      have n4 : (("alike" == w || ("unlike" == w || false)) : Bool) = true := by rcases hw with rfl | rfl <;> decide
      dsimp only [d_l_terms_in, dSeq, dAsg, dAsgN, dAsgPop, dAppend, dExtend, dExtendT, dInsert, dPar, dPar3, dAug, dIfS, dFor, dRet, dRetO, dRetOwn, dRetOwnD, dRetN, dDrop, dNext, dBreak, dCont, dFreeze, dFreezeD, dGet2, dIdxN, dBorD, dBorDN, dBorDT, dParDN, dParND, dMax2, dAnyK, dnItems, dDictN, dKeysN, dnSortedND, dPutN, dAsgDN, dParN, dDict0, dBorrow, dBorrowT, dTr, dTest, dAnd, dOr, dNot, dAndV, dOrV, dNotV, dIf, dOp, dUn, dCB, dCall, dnCall, dCallX, dCallV, dTup, dLst, dnLst, dnLc, dLc, dOfN, dnAdd, dnSl, dSl, dSlice, dNoPart, dPart, dIx, isI, isB, dVar, dC, dCons, dNil, dLen, dRepr, dListOf, dTupOf, dItems, dItemsT, itemsOf, dSigns, dRng1, dgName, dgTup, dgCons, dgNil, dEq, dNe, dLt, dIn, dII, dIC, dNeg, dAdd, dRep, dUpper, dJoin, dYes, truD, dAll, dAny, dInt1, dAbs, dChain, List.set, List.getElem?_cons_succ, List.getElem?_cons_zero]
      refine ⟨rfl, ?_⟩
      show if PyData.eqv (.str w) (.str "tell") = true then _ else _
      rw [eqv_ss, n1, if_neg (by decide)]
      refine ⟨rfl, ?_⟩
      show if PyData.eqv (.str w) (.str "if") = true then _ else _
      rw [eqv_ss, n2, if_neg (by decide)]
      refine ⟨rfl, rfl, ?_⟩
      simp only [Bool.false_eq_true, if_false, List.any_cons, List.any_nil, eqv_ss]
      simp only [n3, Bool.false_eq_true, if_false]
      refine ⟨rfl, rfl, ?_⟩
      simp only [Bool.false_eq_true, if_false, List.any_cons, List.any_nil, eqv_ss]
      simp only [n4, if_true]
      refine ⟨rfl, post1 _ ?_ fun u => ?_⟩
      · simp only [nd, ndAll]
        omega
      · rw [tin_al hw]
        simp
    · have ov := hp.t v h
      obtain ⟨w, ps, rfl, hw, hps⟩ := tm_tup ov.m
      have key : ∀ w ∈ names13, (w == "tell") = false ∧ (w == "if") = false ∧ (("yes" == w || ("no" == w || false)) : Bool) = false ∧ (("alike" == w || ("unlike" == w || false)) : Bool) = false := by decide
      obtain ⟨n1, n2, n3, n4⟩ := key w hw
      dsimp only [d_l_terms_in, dSeq, dAsg, dAsgN, dAsgPop, dAppend, dExtend, dExtendT, dInsert, dPar, dPar3, dAug, dIfS, dFor, dRet, dRetO, dRetOwn, dRetOwnD, dRetN, dDrop, dNext, dBreak, dCont, dFreeze, dFreezeD, dGet2, dIdxN, dBorD, dBorDN, dBorDT, dParDN, dParND, dMax2, dAnyK, dnItems, dDictN, dKeysN, dnSortedND, dPutN, dAsgDN, dParN, dDict0, dBorrow, dBorrowT, dTr, dTest, dAnd, dOr, dNot, dAndV, dOrV, dNotV, dIf, dOp, dUn, dCB, dCall, dnCall, dCallX, dCallV, dTup, dLst, dnLst, dnLc, dLc, dOfN, dnAdd, dnSl, dSl, dSlice, dNoPart, dPart, dIx, isI, isB, dVar, dC, dCons, dNil, dLen, dRepr, dListOf, dTupOf, dItems, dItemsT, itemsOf, dSigns, dRng1, dgName, dgTup, dgCons, dgNil, dEq, dNe, dLt, dIn, dII, dIC, dNeg, dAdd, dRep, dUpper, dJoin, dYes, truD, dAll, dAny, dInt1, dAbs, dChain, List.set, List.getElem?_cons_succ, List.getElem?_cons_zero]
      rw [atI0]
      dsimp only
      refine ⟨rfl, ?_⟩
      rw [eqv_ss, n1, if_neg (by decide)]
      refine ⟨rfl, ?_⟩
      rw [eqv_ss, n2, if_neg (by decide)]
      refine ⟨rfl, rfl, ?_⟩
      simp only [Bool.false_eq_true, if_false, List.any_cons, List.any_nil, eqv_ss]
      simp only [n3, Bool.false_eq_true, if_false]
      refine ⟨rfl, rfl, ?_⟩
      simp only [n4, Bool.false_eq_true, if_false, List.any_cons, List.any_nil, eqv_ss]
      refine ⟨rfl, post1 _ (by simp [ndAll]) fun u => ?_⟩
      rw [tin_tm ov.m, List.mem_singleton]

theorem dat_l_asked : ∀ ds, pre_l_asked ds → d_l_asked { nx := fun _ => post_l_asked ds .none, rt := post_l_asked ds } (startD 3 (ds.map fun d => some (.dat d))) := by
  rintro ds ⟨vs, rfl, ts, hp, hv, l6⟩
  have hnd := ValsOk.nd hp hv l6
  show d_l_asked _ [some (.dat (.list vs)), none, none]
  dsimp only [d_l_asked, wipeD, dSeq, dAsg, dAsgN, dAsgPop, dAppend, dExtend, dExtendT, dInsert, dPar, dPar3, dAug, dIfS, dFor, dRet, dRetO, dRetOwn, dRetOwnD, dRetN, dDrop, dNext, dBreak, dCont, dFreeze, dFreezeD, dGet2, dIdxN, dBorD, dBorDN, dBorDT, dParDN, dParND, dMax2, dAnyK, dnItems, dDictN, dKeysN, dnSortedND, dPutN, dAsgDN, dParN, dDict0, dBorrow, dBorrowT, dTr, dTest, dAnd, dOr, dNot, dAndV, dOrV, dNotV, dIf, dOp, dUn, dCB, dCall, dnCall, dCallX, dCallV, dTup, dLst, dnLst, dnLc, dLc, dOfN, dnAdd, dnSl, dSl, dSlice, dNoPart, dPart, dIx, isI, isB, dVar, dC, dCons, dNil, dLen, dRepr, dListOf, dTupOf, dItems, dItemsT, itemsOf, dSigns, dRng1, dgName, dgTup, dgCons, dgNil, dEq, dNe, dLt, dIn, dII, dIC, dNeg, dAdd, dRep, dUpper, dJoin, dYes, truD, dAll, dAny, dInt1, dAbs, dChain, List.set, List.getElem?_cons_succ, List.getElem?_cons_zero]
  refine ⟨rfl, fun i δ => ∃ (fs : List PyData) (q2 : Option DV), δ = [some (.dat (.list vs)), some (.own fs), q2] ∧ ndAll fs ≤ ndAll (vs.take i) ∧ (∀ u ∈ fs, u ∈ ts) ∧ ∀ u, u ∈ fs ↔ ∃ v ∈ vs.take i, Tin u v,
    ⟨[], _, rfl, Nat.zero_le _, by simp, by simp⟩, ?_, ?_⟩
  · rintro i x δ hx ⟨fs, q2, rfl, hn, hfs, hm⟩
    dsimp only [List.set, List.getElem?_cons_succ, List.getElem?_cons_zero]
    have hxm := List.mem_of_getElem? hx
    refine ⟨⟨x, ts, rfl, hp, .inr ⟨hv x hxm, by decide, by decide⟩⟩, ?_⟩
    rintro r ⟨_, us, e, rfl, n1, t1⟩
    cases e
    have et : vs.take (i + 1) = vs.take i ++ [x] := by
      rw [List.take_add_one, hx]
      rfl
    have a : ndAll (vs.take (i + 1)) = ndAll (vs.take i) + nd x := by
      rw [et, ndAll_app]
      simp [ndAll]
    have b : ndAll (vs.take (i + 1)) ≤ ndAll vs := by
      conv => rhs; rw [← List.take_append_drop (i + 1) vs, ndAll_app]
      omega
    have mus : ∀ u ∈ us, u ∈ ts := fun u h => tin_ts hp (hv x hxm).thi ((t1 u).mp h)
    have l1 : fs.length ≤ ndAll fs := len_nd fun u h => (hp.t u (hfs u h)).m
    have l2 : us.length ≤ ndAll us := len_nd fun u h => (hp.t u (mus u h)).m
    refine ⟨small_le (by omega), _, _, rfl, by rw [ndAll_app]; omega, ?_, fun u => ?_⟩
    · intro u h
      rcases List.mem_append.mp h with h | h
      · exact hfs u h
      · exact mus u h
    · rw [List.mem_append, hm, t1, et]
      simp only [List.mem_append, List.mem_singleton]
      constructor
      · rintro (⟨v, h1, h2⟩ | h)
        · exact ⟨v, .inl h1, h2⟩
        · exact ⟨x, .inr rfl, h⟩
      · rintro ⟨v, h1 | rfl, h2⟩
        · exact .inl ⟨v, h1, h2⟩
        · exact .inr h2
  · rintro δ ⟨fs, q2, rfl, hn, hfs, hm⟩
    dsimp only [List.set, List.getElem?_cons_succ, List.getElem?_cons_zero]
    rw [List.take_length] at hn hm
    refine ⟨⟨fs, ts, rfl, hp, hfs, by omega⟩, ?_⟩
    rintro es ⟨_, e, s1, s2⟩
    cases e
    refine ⟨vs, es, rfl, rfl, s1, fun t => ?_⟩
    rw [s2]
    constructor
    · rintro ⟨u, h1, h2⟩
      obtain ⟨v, h3, h4⟩ := (hm u).mp h1
      exact ⟨v, h3, u, h4, h2⟩
    · rintro ⟨v, h1, u, h2, h3⟩
      exact ⟨u, (hm u).mpr ⟨v, h1, h2⟩, h3⟩

end DL

namespace DL
open PySem PySem.Spec PyProof.Rows L2
open Evl (Ex ex_l ex_t)
variable [TheW]
open PySem.W (EachIs AllAlike Sortable SortsAt sortVals sortLe keyToks keyToksAll dataKind alike alikeAll)
def asc (n : Nat) (x : Str) : Prop := x.length ≤ n ∧ ∀ c ∈ x.cps.toList, c < 128
theorem asc.mono {m n : Nat} {x : Str} (h : asc m x) (l : m ≤ n) : asc n x := ⟨Nat.le_trans h.1 l, h.2⟩
theorem asc.app {m n : Nat} {x y : Str} (h : asc m x) (k : asc n y) : asc (m + n) (x ++ y) := by
  refine ⟨by rw [Str.length_append]; exact Nat.add_le_add h.1 k.1, fun c hc => ?_⟩
  rw [str_app] at hc
  rcases List.mem_append.mp (by simpa using hc : c ∈ x.cps.toList ++ y.cps.toList) with z | z
  · exact h.2 c z
  · exact k.2 c z
theorem asc.cut {n : Nat} {x : Str} (h : asc n x) (lo hi : Option Int) : asc n (cutS x lo hi) := by
  refine ⟨Nat.le_trans (cutS_length x lo hi) h.1, fun c hc => h.2 c ?_⟩
  unfold cutS at hc
  simp only [] at hc
  exact List.mem_of_mem_drop (List.mem_of_mem_take hc)
theorem asc.one {c : Nat} (h : c < 128) : asc 1 ⟨#[c]⟩ := ⟨Nat.le_refl _, fun d hd => by
  have : d = c := by simpa using hd
  omega⟩
theorem asc.up {n : Nat} {x : Str} (h : asc n x) : asc n (Txt.upper x) := by
  rw [upper_ascii h.2]
  refine ⟨by rw [show (⟨x.cps.map up1⟩ : Str).length = x.length from by simp [Str.length]]; exact h.1, fun c hc => ?_⟩
  simp only [Array.toList_map, List.mem_map] at hc
  obtain ⟨d, hd, rfl⟩ := hc
  have := h.2 d hd
  unfold up1
  split <;> omega
theorem asc.rev {n : Nat} {x y : Str} (h : asc n x) (l : y.length ≤ x.length) (k : ∀ c ∈ y.cps.toList, c ∈ x.cps.toList) : asc n y := ⟨Nat.le_trans l h.1, fun c hc => h.2 c (k c hc)⟩
theorem asc.name {x : Str} (h : isNm x = true) : asc 8 x := by
  unfold isNm at h
  simp only [Bool.and_eq_true, decide_eq_true_eq, List.all_eq_true] at h
  refine ⟨h.1.1.2, fun c hc => ?_⟩
  have := h.2 c hc
  unfold lower at this
  simp only [Bool.and_eq_true, decide_eq_true_eq] at this
  omega
theorem strOk_asc {n : Nat} {x : Str} (h : asc n x) : PyData.strOk x = true := by
  unfold PyData.strOk
  rw [← Array.all_toList, List.all_eq_true]
  intro c hc
  have := h.2 c hc
  simp only [decide_eq_true_eq]
  omega
mutual
theorem lay_tup : ∀ d : PyData, tupOnly d = true → fit d = true → d.canLay0 = true
  | .none, _, _ => by simp only [PyData.canLay0]
  | .bool _, _, _ => by simp only [PyData.canLay0]
  | .int _, _, _ => by simp only [PyData.canLay0]
  | .str x, _, h => by simp only [PyData.canLay0]; exact h
  | .tuple xs, t, h => by simp only [PyData.canLay0]; exact lay_tupAll xs t h
  | .list _, t, _ => absurd t Bool.false_ne_true
  | .dict _, t, _ => absurd t Bool.false_ne_true
theorem lay_tupAll : ∀ ds : List PyData, tupOnlyAll ds = true → fitAll ds = true → PyData.canLayAll0 ds = true
  | [], _, _ => by simp only [PyData.canLayAll0]
  | x :: xs, t, h => by
    simp only [tupOnlyAll, Bool.and_eq_true] at t
    simp only [fitAll, Bool.and_eq_true] at h
    simp only [PyData.canLayAll0, lay_tup x t.1 h.1, lay_tupAll xs t.2 h.2, Bool.and_self]
end
mutual
theorem eqv_refl : ∀ d : PyData, tupOnly d = true → PyData.eqv d d = true
  | .none, _ => by simp only [PyData.eqv]
  | .bool _, _ => by simp only [PyData.eqv, beq_self_eq_true]
  | .int _, _ => by simp only [PyData.eqv, beq_self_eq_true]
  | .str x, _ => by simp only [PyData.eqv, beq_self_eq_true]
  | .tuple xs, t => by simp only [PyData.eqv]; exact eqv_reflAll xs t
  | .list _, t => absurd t Bool.false_ne_true
  | .dict _, t => absurd t Bool.false_ne_true
theorem eqv_reflAll : ∀ ds : List PyData, tupOnlyAll ds = true → PyData.eqvAll ds ds = true
  | [], _ => by simp only [PyData.eqvAll]
  | x :: xs, t => by
    simp only [tupOnlyAll, Bool.and_eq_true] at t
    simp only [PyData.eqvAll, eqv_refl x t.1, eqv_reflAll xs t.2, Bool.and_self]
end
theorem tupAll_of {ds : List PyData} (h : ∀ d ∈ ds, tupOnly d = true) : tupOnlyAll ds = true := Reps.tupOnly_all h
theorem fitAll_of {ds : List PyData} (h : ∀ d ∈ ds, fit d = true) : fitAll ds = true := by
  induction ds with
  | nil => rfl
  | cons d r ih =>
    show (fit d && fitAll r) = true
    rw [h d (List.mem_cons_self ..), ih fun x hx => h x (List.mem_cons_of_mem _ hx)]
    rfl
theorem wtAll_le {ds : List PyData} {W : Nat} (h : ∀ d ∈ ds, wt d ≤ W) : wtAll ds ≤ ds.length * (W + 2) := by
  induction ds with
  | nil => exact Nat.zero_le _
  | cons d r ih =>
    have h1 := h d (List.mem_cons_self ..)
    have h2 := ih fun x hx => h x (List.mem_cons_of_mem _ hx)
    simp only [wtAll, List.length_cons, Nat.succ_mul]
    omega
theorem depthAll_le {ds : List PyData} {W : Nat} (h : ∀ d ∈ ds, d.depth ≤ W) : PyData.depthAll ds ≤ W := by
  induction ds with
  | nil => simp only [PyData.depthAll]; exact Nat.zero_le _
  | cons d r ih =>
    have h1 := h d (List.mem_cons_self ..)
    have h2 := ih fun x hx => h x (List.mem_cons_of_mem _ hx)
    simp only [PyData.depthAll]
    omega
/-- bounded data: tuples only, its depth, its weight -/
structure Bd (D W : Nat) (x : PyData) : Prop where
  t : tupOnly x = true
  f : fit x = true
  d : x.depth ≤ D
  w : wt x ≤ W
theorem Bd.tup {D W : Nat} {ds : List PyData} (h : ∀ d ∈ ds, Bd D W d) : Bd (D + 1) (ds.length * (W + 2) + 3) (.tuple ds) :=
  ⟨tupAll_of fun d hd => (h d hd).t, fitAll_of fun d hd => (h d hd).f, by simp only [PyData.depth]; have := depthAll_le fun d hd => (h d hd).d; omega,
    by simp only [wt]; have := wtAll_le fun d hd => (h d hd).w; omega⟩
theorem Bd.mono {D W D' W' : Nat} {d : PyData} (h : Bd D W d) (h1 : D ≤ D') (h2 : W ≤ W') : Bd D' W' d := ⟨h.t, h.f, Nat.le_trans h.d h1, Nat.le_trans h.w h2⟩
/-- a list of bounded data can be shown, compared, and is like itself -/
theorem Bd.list {D W : Nat} {ds : List PyData} (h : ∀ d ∈ ds, Bd D W d) (hD : D ≤ 50) (hW : ds.length * (W + 2) + 2 ≤ 16777216) :
    showOk (.list ds) = true ∧ SeqAt.shaped (.list ds) = true ∧ PyData.eqv (.list ds) (.list ds) = true := by
  have hd : PyData.depth (.list ds) ≤ D + 1 := by simp only [PyData.depth]; have := depthAll_le fun d hd => (h d hd).d; omega
  refine ⟨showOk_of (fitAll_of fun d hd => (h d hd).f) (by omega) ?_, ?_, ?_⟩
  · simp only [wt]
    have := wtAll_le fun d hd => (h d hd).w
    omega
  · unfold SeqAt.shaped
    rw [Bool.and_eq_true, decide_eq_true_eq]
    refine ⟨?_, by omega⟩
    simp only [PyData.canLay0]
    exact lay_tupAll ds (tupAll_of fun d hd => (h d hd).t) (fitAll_of fun d hd => (h d hd).f)
  · simp only [PyData.eqv]
    exact eqv_reflAll ds (tupAll_of fun d hd => (h d hd).t)
theorem Bd.show {D W : Nat} {d : PyData} (h : Bd D W d) (hD : D ≤ 60) (hW : W ≤ 16777216) : showOk d = true := showOk_of h.f (Nat.le_trans h.d hD) (Nat.le_trans h.w hW)
/-- two like lists are found alike -/
theorem alike_list {D W : Nat} {ds : List PyData} (h : ∀ d ∈ ds, Bd D W d) (hD : D ≤ 50) (hW : ds.length * (W + 2) + 2 ≤ 16777216) {R : PyData → Prop} (k : R (.bool true)) :
    pre_l_alike [.list ds, .list ds] ∧ ∀ r, post_l_alike [.list ds, .list ds] r → R r := by
  obtain ⟨h1, h2, h3⟩ := Bd.list h hD hW
  refine ⟨?_, ?_⟩
  · show (_ && _) = true
    unfold eqOk
    rw [h2, h1]
    simp
  · rintro r hr
    have hr : r = .bool (PyData.eqv (.list ds) (.list ds) && _ == _) := hr
    rw [hr, h3, beq_self_eq_true]
    exact k
theorem okT.bd {d : PyData} (h : okT d) : Bd 12 10000 d := ⟨h.t, h.f, Nat.le_trans h.d (by decide), h.w⟩
theorem bd_str {x : Str} (h : asc 8 x) : Bd 0 82 (.str x) := ⟨rfl, strOk_asc h, by simp only [PyData.depth]; exact Nat.le_refl _, by have := h.1; simp only [wt]; omega⟩
theorem bd_bool (c : Bool) : Bd 0 5 (.bool c) := ⟨rfl, rfl, by simp only [PyData.depth]; exact Nat.le_refl _, by simp only [wt]; exact Nat.le_refl _⟩
theorem Cd.bd (c : Cd) (h : c.ok) : ∃ W, Bd (13 + c.dep) W c.toD ∧ W + 60000 ≤ 2 ^ c.dep * 100000 := by
  have s1 : asc 8 "tell" := ⟨by decide, by decide⟩
  have s2 : asc 8 "if" := ⟨by decide, by decide⟩
  have s3 : asc 8 "yes" := ⟨by decide, by decide⟩
  have s4 : asc 8 "no" := ⟨by decide, by decide⟩
  induction c with
  | tell t =>
    refine ⟨20007, (Bd.tup (D := 12) (W := 10000) (ds := [.str "tell", t]) ?_).mono (by simp only [Cd.dep]; omega) (by simp), by simp only [Cd.dep]; omega⟩
    intro d hd
    rcases List.mem_cons.mp hd with rfl | hd
    · exact (bd_str s1).mono (by decide) (by decide)
    · rw [List.mem_singleton.mp hd]
      exact okT.bd h
  | gd c =>
    exact h.elim
  | iff a b y n hy hn =>
    obtain ⟨oa, ob, oy, on⟩ := h
    obtain ⟨W1, b1, w1⟩ := hy oy
    obtain ⟨W2, b2, w2⟩ := hn on
    have e1 : 2 ^ y.dep ≤ 2 ^ max y.dep n.dep := Nat.pow_le_pow_right (by decide) (Nat.le_max_left _ _)
    have e2 : 2 ^ n.dep ≤ 2 ^ max y.dep n.dep := Nat.pow_le_pow_right (by decide) (Nat.le_max_right _ _)
    have hs := bd_str s2
    refine ⟨W1 + W2 + 20200, ⟨?_, ?_, ?_, ?_⟩, ?_⟩
    · simp only [Cd.toD, tupOnly, tupOnlyAll, oa.t, ob.t, b1.t, b2.t, Bool.and_self]
    · have hf := hs.f
      simp only [fit] at hf
      simp only [Cd.toD, fit, fitAll, hf, oa.f, ob.f, b1.f, b2.f, Bool.and_self]
    · have h1 := oa.d
      have h2 := ob.d
      have h3 := b1.d
      have h4 := b2.d
      have h5 := hs.d
      simp only [Cd.toD, PyData.depth, PyData.depthAll, Cd.dep] at *
      omega
    · have h1 := oa.w
      have h2 := ob.w
      have h3 := b1.w
      have h4 := b2.w
      have h5 := hs.w
      simp only [Cd.toD, wt, wtAll] at *
      omega
    · simp only [Cd.dep, Nat.pow_succ]
      omega
theorem Cd.bd5 {c : Cd} (h : c.ok) (h5 : c.dep ≤ 5) : Bd 18 3140000 c.toD := by
  obtain ⟨W, b, w⟩ := c.bd h
  have : 2 ^ c.dep ≤ 2 ^ 5 := Nat.pow_le_pow_right (by decide) h5
  exact b.mono (by omega) (by omega)
theorem fact_bd {w : Str} {a b : PyData} (hw : asc 8 w) (ha : okT a) (hb : okT b) : Bd 13 30009 (.tuple [.str w, a, b]) := by
  refine (Bd.tup (D := 12) (W := 10000) (ds := [.str w, a, b]) ?_).mono (by decide) (by simp)
  intro d hd
  rcases List.mem_cons.mp hd with rfl | hd
  · exact (bd_str hw).mono (by decide) (by decide)
  rcases List.mem_cons.mp hd with rfl | hd
  · exact ha.bd
  · rw [List.mem_singleton.mp hd]
    exact hb.bd
theorem log_succ {n : Nat} (h : n ≤ 10000) : ((n : Int) + 1).natAbs.log2 < 9000 := log_small (n := n + 1) (by omega)
theorem take_put {α β : Type} {ws : List α} {i : Nat} {z : α} (f : α → β) (h : ws[i]? = some z) : (ws.take i).map f ++ [f z] = (ws.take (i + 1)).map f := by
  rw [List.take_add_one, h, List.map_append]
  rfl
theorem ints_some : ∀ ns : List Int, intsOf (ns.map PyData.int) = some ns
  | [] => rfl
  | n :: r => by rw [List.map_cons, intsOf, ints_some r]; rfl
theorem perm_put {α : Type} (es : List α) (n : Nat) (x : α) : (es.take n ++ [x] ++ es.drop n).Perm (es ++ [x]) := by
  have h : (es.take n ++ [x] ++ es.drop n).Perm (es.take n ++ (es.drop n ++ [x])) := by
    rw [List.append_assoc]
    exact List.Perm.append_left _ List.perm_append_comm
  rw [← List.append_assoc, List.take_append_drop] at h
  exact h
theorem dat_l_mixed : ∀ ds, pre_l_mixed ds → d_l_mixed { nx := fun _ => False, rt := fun _ => False, ro := post_l_mixed ds } (startD 4 (none :: ds.map fun d => some (.dat d))) := by
  rintro ds ⟨xs, rfl, hl⟩
  show d_l_mixed _ [none, some (.dat (.list xs)), none, none]
  dsimp only [d_l_mixed, dSeq, dAsgN, dnLst, dFor, dItems, dgName, dInsert, dBorrow, dRetOwn, dOp, dAdd, dVar, dC, dCall, dCB, dLen, dCons, dNil, List.set, List.getElem?_cons_succ, List.getElem?_cons_zero]
  refine ⟨rfl, fun i δ => ∃ (es : List PyData) (q : Option DV), δ = [none, some (.dat (.list xs)), some (.own es), q] ∧ es.Perm (xs.take i), ⟨[], none, rfl, by simp⟩, ?_, ?_⟩
  · rintro i x δ hx ⟨es, q, rfl, hp⟩
    have hle : es.length ≤ 1000 := by
      rw [hp.length_eq, List.length_take]
      omega
    dsimp only [List.set, List.getElem?_cons_succ, List.getElem?_cons_zero]
    refine ⟨⟨by omega, log_succ (by omega)⟩, ?_⟩
    rintro r ⟨j, rfl, j0, j1⟩
    refine ⟨rfl, small_le (by omega), j0, by omega, _, _, rfl, (perm_put es j.toNat x).trans ?_⟩
    rw [List.take_add_one, hx]
    exact List.Perm.append_right _ hp
  · rintro δ ⟨es, q, rfl, hp⟩
    dsimp only [List.set, List.getElem?_cons_succ, List.getElem?_cons_zero]
    rw [List.take_length] at hp
    exact ⟨xs, rfl, hp⟩
theorem pool_one {ts : List PyData} (h : PoolL ts) {R : PyData → Prop} (k : ∀ t ∈ ts, R t) : pre_l_one [.list ts] ∧ ∀ r, post_l_one [.list ts] r → R r :=
  ⟨⟨h.ne, small_le (by have := h.l; omega)⟩, fun r hr => k r hr⟩
theorem pool_oneW {ts : List PyData} (h : PoolW ts) {R : PyData → Prop} (k : ∀ t ∈ ts, R t) : pre_l_one [.list ts] ∧ ∀ r, post_l_one [.list ts] r → R r :=
  ⟨⟨h.ne, small_le (by have := h.l; omega)⟩, fun r hr => k r hr⟩
theorem dat_l_names : ∀ ds, pre_l_names ds → d_l_names { nx := fun _ => post_l_names ds .none, rt := post_l_names ds } (startD 2 (none :: ds.map fun d => some (.dat d))) := by
  rintro ds rfl
  show d_l_names _ [none, none]
  dsimp only [d_l_names, dSeq, dAsg, dLst, dgName, dRet, dOfN, dnCall, dVar, dC, dCons, dNil, List.set, List.getElem?_cons_succ, List.getElem?_cons_zero]
  refine ⟨rfl, ⟨_, rfl, by decide⟩, ?_⟩
  rintro es ⟨xs, e, hp⟩
  have e := (PyData.list.inj (List.cons.inj e).1)
  have hp : es.Perm (names13.map PyData.str) := by rw [← e] at hp; exact hp
  obtain ⟨ns, hn, rfl⟩ : ∃ ns : List Str, ns.Perm names13 ∧ es = ns.map PyData.str := by
    have hstr : ∀ d ∈ es, ∃ x, d = PyData.str x := by
      intro d hd
      obtain ⟨x, _, rfl⟩ := List.mem_map.mp (hp.mem_iff.mp hd)
      exact ⟨x, rfl⟩
    let un : PyData → Str := fun d => match d with | .str x => x | _ => ""
    refine ⟨es.map un, ?_, ?_⟩
    · have h := hp.map un
      rw [List.map_map] at h
      have e : (un ∘ PyData.str) = id := by funext x; rfl
      rw [e, List.map_id] at h
      exact h
    · rw [List.map_map]
      have : es.map (PyData.str ∘ un) = es.map id := List.map_congr_left fun d hd => by
        obtain ⟨x, rfl⟩ := hstr d hd
        rfl
      rw [this, List.map_id]
  exact ⟨ns, rfl, hn⟩
theorem dat_l_code : ∀ n, ∀ ds, pre_l_code (n + 1) ds → d_l_code n { nx := fun _ => post_l_code ds .none, rt := post_l_code ds } (startD 5 (none :: ds.map fun d => some (.dat d))) := by
  rintro n ds ⟨ts, m, rfl, hp, hm, hn⟩
  show d_l_code n _ [none, some (.dat (.list ts)), some (.dat (.int m)), none, none]
  dsimp only [d_l_code, dSeq, dIfS, dOr, dTest, dOp, dEq, dII, dVar, dC, isI, isB, dNext, dRet, dTup, dCall, dPar, dCons, dNil, List.set, List.getElem?_cons_succ, List.getElem?_cons_zero]
  have tell : small 1 = true → pre_l_one [.list ts] ∧ ∀ r, post_l_one [.list ts] r → small [PyData.str "tell", r].length = true ∧ post_l_code [.list ts, .int m] (.tuple [.str "tell", r]) :=
    fun _ => pool_oneW hp fun t ht => ⟨rfl, ⟨ts, m, .tell t, rfl, rfl, ht, Nat.zero_le _⟩⟩
  refine ⟨rfl, ?_⟩
  rw [eqv_ii]
  have rest : ¬ ((m : Int) == 0) = true → pre_l_one [.list ts] ∧ ∀ r, post_l_one [.list ts] r → pre_l_one [.list ts] ∧ ∀ r_1, post_l_one [.list ts] r_1 →
      pre_l_code n [.list ts, .int ((m : Int) - 1)] ∧ ∀ r_2, post_l_code [.list ts, .int ((m : Int) - 1)] r_2 → pre_l_code n [.list ts, .int ((m : Int) - 1)] ∧ ∀ r_3, post_l_code [.list ts, .int ((m : Int) - 1)] r_3 →
        small [PyData.str "if", r, r_1, r_2, r_3].length = true ∧ post_l_code [.list ts, .int m] (.tuple [.str "if", r, r_1, r_2, r_3]) := by
    intro h0
    have h0 : m ≠ 0 := fun z => h0 (by rw [z]; rfl)
    have em : (m : Int) - 1 = ((m - 1 : Nat) : Int) := by omega
    have pr : pre_l_code n [.list ts, .int ((m : Int) - 1)] := ⟨ts, m - 1, by rw [em], hp, by omega, by omega⟩
    refine pool_oneW hp fun t ht => pool_oneW hp fun u hu => ⟨pr, ?_⟩
    rintro r2 ⟨t2, m2, c2, e2, rfl, o2, k2⟩
    have z2 := PyData.list.inj (List.cons.inj e2).1
    subst z2
    refine ⟨pr, ?_⟩
    rintro r3 ⟨t3, m3, c3, e3, rfl, o3, k3⟩
    have z3 := PyData.list.inj (List.cons.inj e3).1
    subst z3
    have e2 := PyData.int.inj (List.cons.inj (List.cons.inj e2).2).1
    have e3 := PyData.int.inj (List.cons.inj (List.cons.inj e3).2).1
    exact ⟨rfl, ⟨ts, m, .iff t u c2 c3, rfl, rfl, ⟨ht, hu, o2, o3⟩, by simp only [Cd.dep]; omega⟩⟩
  split
  · rw [if_pos rfl]
    exact tell rfl
  · rename_i h0
    refine ⟨⟨by decide, by decide⟩, ?_⟩
    rintro r ⟨j, rfl, _, _⟩
    refine ⟨rfl, ?_⟩
    rw [eqv_ii]
    split
    · exact tell rfl
    · exact rest h0
end DL

namespace DL
open PySem PySem.Spec PyProof.Rows L2
open Evl (Ex ex_l ex_t)
variable [TheW]
open PySem.W (EachIs AllAlike Sortable SortsAt sortVals sortLe keyToks keyToksAll dataKind alike alikeAll)
theorem dat_l_takeB : ∀ ds, pre_l_takeB ds → d_l_takeB { nx := fun _ => post_l_takeB ds .none, rt := post_l_takeB ds } (startD 7 (none :: ds.map fun d => some (.dat d))) := by
  intro ds h
  unfold pre_l_takeB pre_l_take at h
  split at h
  case h_2 => exact h.elim
  rename_i n
  obtain ⟨h0, h1⟩ := h
  show d_l_takeB _ [none, some (.dat (.int n)), none, none, none, none, none]
  dsimp only [d_l_takeB, dSeq, dIfS, dTest, dOp, dBag, dC, dEq, isB, startD, List.map, dNext, dAsg, dIx, dgName, dCells, dLst, dCons, dNil, dAdd, isI, dBagAug, dgBag, dCB, dInt1, dLt, dIC, dVar, dTup, dgTup, dgCons, dgNil, dRet, dBagAny, List.length, List.replicate, List.append, List.set, HAppend.hAppend, Append.append, List.getElem?_cons_succ, List.getElem?_cons_zero]
  intro c0 hc0
  refine ⟨rfl, ?_⟩
  rw [eqv_ii]
  split
  · intro ns hns hl
    refine ⟨rfl, small_le (by rw [List.length_map]; omega), ?_⟩
    obtain ⟨c, hc, e⟩ := at_cells ns hns
    rw [e]
    dsimp only
    refine ⟨⟨by decide, by decide, by decide⟩, cmulR (by split <;> decide), ?_, ?_⟩
    · split
      · omega
      · omega
    intro c2 hc2
    refine ⟨cmulR (by decide), by decide, fun c3 => ⟨cmulL (by decide), by decide, (fmod_nn (by decide)).1, ?_⟩⟩
    intro c4 hc4
    split
    · intro c5 hc5
      exact ⟨by omega, fun c6 hc6 => ⟨⟨h0, h1⟩, Int.ediv_nonneg hc6 (by omega), ⟨_, rfl, fmod_nn h0⟩⟩⟩
    · intro c5 hc5
      refine ⟨cmulR (by decide), by decide, cmulR ⟨(fmod_nn (by decide)).1, ?_⟩, by decide, cmulR (by decide), by decide, ⟨by decide, by decide⟩, by omega, ⟨_, rfl, fmod_nn h0⟩⟩
      have := (fmod_nn (i := (c5 + 1) * 39373) (n := 1000000007) (by decide)).2
      omega
  · intro c4 hc4
    split
    · intro c5 hc5
      exact ⟨by omega, fun c6 hc6 => ⟨⟨h0, h1⟩, Int.ediv_nonneg hc6 (by omega), ⟨_, rfl, fmod_nn h0⟩⟩⟩
    · intro c5 hc5
      refine ⟨cmulR (by decide), by decide, cmulR ⟨(fmod_nn (by decide)).1, ?_⟩, by decide, cmulR (by decide), by decide, ⟨by decide, by decide⟩, by omega, ⟨_, rfl, fmod_nn h0⟩⟩
      have := (fmod_nn (i := (c5 + 1) * 39373) (n := 1000000007) (by decide)).2
      omega
def nm13 (n : Str) : Prop := n ∈ names13
theorem nm13.asc {n : Str} (h : nm13 n) : asc 8 n := by
  have : ∀ n ∈ names13, n.length ≤ 8 ∧ ∀ c ∈ n.cps.toList, c < 128 := by decide
  exact this n h
theorem names_asc {ns : List Str} (h : ns.Perm names13) : ∀ n ∈ ns, nm13 n := fun n hn => h.mem_iff.mp hn
/-- closed under parts -/
def Cl (ts : List PyData) : Prop := ∀ t ∈ ts, ∀ p ∈ parts t, p ∈ ts
theorem mem_cut {α : Type} {xs : List α} {lo hi : Option Int} {x : α} (h : x ∈ cutD xs lo hi) : x ∈ xs := List.mem_of_mem_drop (List.mem_of_mem_take h)
theorem cut_take {α : Type} (xs : List α) (k : Nat) : cutD xs none (some (k : Int)) = xs.take (min k xs.length) := by
  unfold cutD
  rw [HT.sIx_nat, HT.sIx_none, List.drop_zero, Nat.sub_zero]
/-- terms of a pool of so many -/
structure TB (k : Nat) (x : PyData) : Prop extends Bd k (45 * 2 ^ k - 91) x where
  m : tm x = true
  n : nd x + 1 ≤ 2 ^ k
  q : (parts x).length ≤ 3
theorem TB.mono {k m : Nat} {t : PyData} (h : TB k t) (l : k ≤ m) : TB m t := by
  have : 2 ^ k ≤ 2 ^ m := Nat.pow_le_pow_right (by decide) l
  exact ⟨Bd.mono h.toBd l (by omega), h.m, Nat.le_trans h.n this, h.q⟩
theorem TB.ok {k : Nat} {t : PyData} (h : TB k t) (l : k ≤ 7) : okT t := by
  have h7 := h.mono l
  exact ⟨h7.t, h7.f, Nat.le_trans h7.d (by decide), Nat.le_trans h7.w (by decide), h7.m, by have := h7.n; omega, h7.q⟩
theorem tm_of_nm {n : Str} {ps : List PyData} (h : nm13 n) (hp : ∀ p ∈ ps, tm p = true) : tm (.tuple (.str n :: ps)) = true := by
  have e : decide (n ∈ names13) = true := decide_eq_true h
  have a : tmAll ps = true := by
    induction ps with
    | nil => rfl
    | cons p r ih =>
      simp only [tmAll, hp p (List.mem_cons_self ..), ih fun x hx => hp x (List.mem_cons_of_mem _ hx), Bool.and_self]
  simp only [tm, tmH, isN3, e, a, Bool.and_self]
theorem TB.thing {n : Str} (h : nm13 n) : TB 2 (.tuple [.str n]) := by
  refine ⟨(Bd.tup (D := 0) (W := 82) (ds := [.str n]) ?_).mono (by decide) (by simp), tm_of_nm h (by simp), by simp [nd, ndAll], by simp [parts]⟩
  intro d hd
  rw [List.mem_singleton.mp hd]
  exact bd_str h.asc
theorem TB.work {k : Nat} {n : Str} {ps : List PyData} (h : nm13 n) (hk : 2 ≤ k) (hl : ps.length ≤ 2) (hp : ∀ p ∈ ps, TB k p) : TB (k + 1) (.tuple ([.str n] ++ ps)) := by
  have h4 : 2 ^ 2 ≤ 2 ^ k := Nat.pow_le_pow_right (by decide) hk
  have hs := bd_str h.asc
  refine ⟨⟨?_, ?_, ?_, ?_⟩, tm_of_nm h fun p q => (hp p q).m, ?_, by show ps.length ≤ 3; omega⟩
  · refine tupAll_of fun d hd => ?_
    rcases List.mem_cons.mp hd with rfl | hd
    · exact hs.t
    · exact (hp d hd).t
  · refine fitAll_of fun d hd => ?_
    rcases List.mem_cons.mp hd with rfl | hd
    · exact hs.f
    · exact (hp d hd).f
  · have := depthAll_le fun d hd => (hp d hd).d
    have h0 := hs.d
    show PyData.depth (.tuple (.str n :: ps)) ≤ k + 1
    simp only [PyData.depth, PyData.depthAll] at *
    omega
  · have h1 := wtAll_le fun d hd => (hp d hd).w
    have h2 := Nat.mul_le_mul_right (45 * 2 ^ k - 91 + 2) hl
    have h0 := hs.w
    show wt (.tuple (.str n :: ps)) ≤ _
    simp only [wt, wtAll] at *
    rw [Nat.pow_succ]
    omega
  · show nd (.tuple (.str n :: ps)) + 1 ≤ _
    rw [nd_term, Nat.pow_succ]
    match ps, hl, hp with
    | [], _, _ => simp only [ndAll]; omega
    | [p], _, hp =>
      have := (hp p (by simp)).n
      simp only [ndAll]
      omega
    | [p, q], _, hp =>
      have h1 := (hp p (by simp)).n
      have h2 := (hp q (by simp)).n
      simp only [ndAll]
      omega
theorem lay_list {k : Nat} {ts : List PyData} (h : ∀ t ∈ ts, TB k t) (hk : k ≤ 60) : SeqAt.shaped (.list ts) = true := by
  unfold SeqAt.shaped
  rw [Bool.and_eq_true, decide_eq_true_eq]
  refine ⟨?_, ?_⟩
  · simp only [PyData.canLay0]
    exact lay_tupAll ts (tupAll_of fun d hd => (h d hd).t) (fitAll_of fun d hd => (h d hd).f)
  · have := depthAll_le fun d hd => (h d hd).d
    simp only [PyData.depth]
    omega
theorem lay_one {k : Nat} {t : PyData} (h : TB k t) (hk : k ≤ 60) : SeqAt.shaped t = true := by
  unfold SeqAt.shaped
  rw [Bool.and_eq_true, decide_eq_true_eq]
  exact ⟨lay_tup t h.t h.f, by have := h.d; omega⟩
theorem and_if {c : Bool} {pre : Prop} {post q : PyData → Prop} {d : PyData → Prop} [i : ∀ r, Decidable (d r)] {X Y : Prop} (h0 : pre) (h1 : ∀ r, post r → q r) (hx : c = true → X) (hy : Y) :
    if c = true then (pre ∧ ∀ r, post r → q r ∧ if d r then X else Y) else if false = true then X else Y := by
  split
  · rename_i hc
    refine ⟨h0, fun r h => ⟨h1 r h, ?_⟩⟩
    split
    · exact hx hc
    · exact hy
  · exact hy
theorem dat_l_pool : ∀ ds, pre_l_pool ds → d_l_pool { nx := fun _ => post_l_pool ds .none, rt := post_l_pool ds } (startD 10 (none :: ds.map fun d => some (.dat d))) := by
  rintro ds ⟨m, rfl, m2, m7⟩
  show d_l_pool _ [none, some (.dat (.int m)), none, none, none, none, none, none, none, none]
  dsimp only [d_l_pool, dSeq, dIfS, dAnd, dTest, dOp, dEq, dLt, dAdd, dInD, dTup, dLst, dSl, dNoPart, dPart, dSlice, dVar, dC, dCall, dCB, dMin2, dLen, dTupOf, dOfN, dBorrowN, dBorrowT, dnLc, dItems, dRng1, dFor, dAsg, dAsgN, dAppend, dgName, dYes, isI, isB, dNext, dRet, dRetOwnD, dCons, dNil, wipeD, List.set, List.getElem?_cons_succ, List.getElem?_cons_zero]
  refine ⟨rfl, ?_⟩
  rintro r ⟨ns, rfl, pm⟩
  have ha := names_asc pm
  have ln : ns.length = 13 := pm.length_eq
  dsimp only
  refine and_if ⟨by decide, by decide⟩ (by rintro r ⟨j, rfl, _, _⟩; rfl) (fun h3 => ?_) ?_
  · have h3 := of_decide_eq_true h3
    refine ⟨⟨ns, m, rfl, pm, by omega, m7⟩, ?_⟩
    rintro r ⟨ts, rfl, hp⟩
    exact ⟨ts, rfl, hp⟩
  · refine ⟨⟨by decide, by decide⟩, ?_⟩
    rintro r ⟨j, rfl, j0, j3⟩
    dsimp only
    obtain ⟨k, ek, k2, k4⟩ : ∃ k : Nat, (if 2 + j < m then 2 + j else m) = (k : Int) ∧ 2 ≤ k ∧ k ≤ 4 := by
      by_cases h : 2 + j < m
      · exact ⟨(2 + j).toNat, by rw [if_pos h]; omega, by omega, by omega⟩
      · exact ⟨m.toNat, by rw [if_neg h]; omega, by omega, by omega⟩
    have emin : min k 13 = k := by omega
    have ecut : cutD (ns.map PyData.str) none (some (k : Int)) = (ns.take k).map PyData.str := by rw [cut_take, List.length_map, ln, emin, List.map_take]
    rw [ek, ecut]
    have lk : (ns.take k).length = k := by rw [List.length_take, ln]; omega
    refine ⟨small_le (by rw [List.length_map, lk]; omega), fun i acc => acc = ((ns.take k).take i).map fun n => PyData.tuple [.str n], rfl, ?_, ?_⟩
    · rintro i x acc hx - rfl
      rw [List.getElem?_map] at hx
      obtain ⟨n, hn, rfl⟩ := Option.map_eq_some_iff.mp hx
      rw [if_pos rfl]
      exact ⟨rfl, take_put (fun n => PyData.tuple [.str n]) hn⟩
    · rintro acc - rfl
      rw [List.length_map, List.take_length]
      have sub6 : ∀ d ∈ cutD (ns.map PyData.str) none (some 6), ∃ n, d = .str n ∧ nm13 n := by
        intro d hd
        obtain ⟨n, hn, rfl⟩ := List.mem_map.mp (mem_cut hd)
        exact ⟨n, rfl, ha n hn⟩
      have l6 : (cutD (ns.map PyData.str) none (some 6)).length = 6 := by
        rw [show (6 : Int) = ((6 : Nat) : Int) from rfl, cut_take, List.length_take, List.length_map, ln]
        decide
      refine ⟨⟨fun z => by rw [z] at l6; exact absurd l6 (by decide), small_le (by rw [l6]; decide)⟩, ?_⟩
      intro w hw
      obtain ⟨w, rfl, aw⟩ := sub6 w hw
      have lw : (cutD (ns.map PyData.str) (some 4) (some 6)).length ≤ 13 := by
        unfold cutD
        rw [List.length_take, List.length_drop, List.length_map, ln]
        omega
      refine ⟨rfl, small_le (by simp only [List.length_cons, List.length_nil]; omega), rfl, ⟨by simp, rfl⟩, ?_⟩
      intro r1 hr1
      obtain ⟨u, rfl, u0, u6⟩ : ∃ u : Int, r1 = .int u ∧ 0 ≤ u ∧ u ≤ 6 := by
        rcases List.mem_cons.mp (show r1 ∈ [PyData.int 4, .int 2, .int 6, .int 0] from hr1) with rfl | h
        · exact ⟨4, rfl, by decide, by decide⟩
        rcases List.mem_cons.mp h with rfl | h
        · exact ⟨2, rfl, by decide, by decide⟩
        rcases List.mem_cons.mp h with rfl | h
        · exact ⟨6, rfl, by decide, by decide⟩
        rcases List.mem_cons.mp h with rfl | h
        · exact ⟨0, rfl, by decide, by decide⟩
        · cases h
      dsimp only
      have hws : ∀ d ∈ cutD (ns.map PyData.str) (some 4) (some 6) ++ [PyData.str w], ∃ n, d = .str n ∧ nm13 n := by
        intro d hd
        rcases List.mem_append.mp hd with hd | hd
        · obtain ⟨n, hn, rfl⟩ := List.mem_map.mp (mem_cut hd)
          exact ⟨n, rfl, ha n hn⟩
        · exact ⟨w, List.mem_singleton.mp hd, aw⟩
      have lws : (cutD (ns.map PyData.str) (some 4) (some 6) ++ [PyData.str w]).length ≤ 100 := by
        rw [List.length_append]
        simp only [List.length_cons, List.length_nil]
        omega
      have nws : cutD (ns.map PyData.str) (some 4) (some 6) ++ [PyData.str w] ≠ [] := by simp
      generalize cutD (ns.map PyData.str) (some 4) (some 6) ++ [PyData.str w] = ws at *
      refine ⟨by omega, by omega, fun _ δ => ∃ (ts : List PyData) (p5 p6 p7 p8 p9 : Option DV), δ = [none, some (.dat (.int m)), some (.dat (.list (ns.map PyData.str))), some (.own ts), some (.dat (.list ws)), p5, p6, p7, p8, p9] ∧
        2 ≤ ts.length ∧ ts.length ≤ 7 ∧ (∀ t ∈ ts, TB ts.length t) ∧ Cl ts, ⟨_, _, _, _, _, _, rfl, by rw [List.length_map, lk]; exact k2, by rw [List.length_map, lk]; omega, ?_, ?_⟩, ?_, ?_⟩
      · intro t ht
        obtain ⟨n, hn, rfl⟩ := List.mem_map.mp ht
        rw [List.length_map, lk]
        exact (TB.thing (ha n (List.mem_of_mem_take hn))).mono k2
      · intro t ht p hpt
        obtain ⟨n, hn, rfl⟩ := List.mem_map.mp ht
        cases hpt
      · rintro i x δ hx ⟨ts, p5, p6, p7, p8, p9, rfl, t2, t7, hts, hcl⟩
        dsimp only [List.set, List.getElem?_cons_succ, List.getElem?_cons_zero]
        refine ⟨rfl, ⟨by simp, rfl⟩, ?_⟩
        intro r2 hr2
        obtain ⟨v, rfl, v0, v2⟩ : ∃ v : Int, r2 = .int v ∧ 0 ≤ v ∧ v ≤ 2 := by
          rcases List.mem_cons.mp (show r2 ∈ [PyData.int 1, .int 1, .int 2] from hr2) with rfl | h
          · exact ⟨1, rfl, by decide, by decide⟩
          rcases List.mem_cons.mp h with rfl | h
          · exact ⟨1, rfl, by decide, by decide⟩
          rcases List.mem_cons.mp h with rfl | h
          · exact ⟨2, rfl, by decide, by decide⟩
          · cases h
        dsimp only
        refine ⟨by omega, by omega, small_le (by rw [intsD_len]; omega), fun _ acc => ∀ d ∈ acc, d ∈ ts, by simp, ?_, ?_⟩
        · intro i3 x3 acc hx3 _ hacc
          rw [if_pos rfl]
          refine ⟨⟨fun z => by rw [z] at t2; exact absurd t2 (by decide), small_le (by omega)⟩, ?_⟩
          intro y hy d hd
          rcases List.mem_append.mp hd with hd | hd
          · exact hacc d hd
          · rw [List.mem_singleton.mp hd]
            exact hy
        · intro ps hl hps
          rw [intsD_len] at hl
          have hl : ps.length ≤ 2 := by omega
          refine ⟨tupAll_of fun d hd => (hts d (hps d hd)).t, ?_⟩
          refine ⟨⟨nws, small_le (by omega)⟩, ?_⟩
          intro w2 hw2
          obtain ⟨w2, rfl, aw2⟩ := hws w2 hw2
          have tb := TB.work aw2 t2 hl (fun p hp => hts p (hps p hp))
          refine ⟨rfl, small_le (by simp only [List.length_cons, List.length_nil]; omega), by rw [lay_one tb (by omega), lay_list hts (by omega)]; rfl, ?_⟩
          show if (!ts.any fun e => e.eqv (PyData.tuple ([.str w2] ++ ps))) = true then _ else _
          split
          · split
            · rename_i hm
              have hm := of_decide_eq_true hm
              have l1 : (ts ++ [PyData.tuple ([.str w2] ++ ps)]).length = ts.length + 1 := by rw [List.length_append]; rfl
              refine ⟨small_le (by omega), ts ++ [PyData.tuple ([.str w2] ++ ps)], _, _, _, _, _, rfl, by omega, by omega, ?_, ?_⟩
              rotate_left
              · intro t ht p hpt
                rcases List.mem_append.mp ht with ht | ht
                · exact List.mem_append.mpr (.inl (hcl t ht p hpt))
                · rw [List.mem_singleton.mp ht] at hpt
                  exact List.mem_append.mpr (.inl (hps p hpt))
              intro t ht
              rw [l1]
              rcases List.mem_append.mp ht with ht | ht
              · exact (hts t ht).mono (by omega)
              · rw [List.mem_singleton.mp ht]
                exact tb
            · exact ⟨ts, _, _, _, _, _, rfl, t2, t7, hts, hcl⟩
          · show if false = true then _ else _
            rw [if_neg Bool.false_ne_true]
            exact ⟨ts, _, _, _, _, _, rfl, t2, t7, hts, hcl⟩
      · rintro δ ⟨ts, p5, p6, p7, p8, p9, rfl, t2, t7, hts, hcl⟩
        exact ⟨ts, rfl, fun z => by rw [z] at t2; exact absurd t2 (by decide), t7, fun t ht => (hts t ht).ok t7, hcl⟩

/-- the loop of twins -/
def dtw : DS := (dSeq (dWhile (dBorrowT 5 (dAnd (dTest (dOp (dLt (fun i j => decide (i < j)) fun i j => ltS i j) (dCB dLen (dCons (dVar 5) dNil)) (dVar 2))) (dTest (dOp dEq (dCall pre_l_takeB post_l_takeB (dCons (dC (.int 2)) dNil)) (dC (.int 0)))))) (dSeq (dAsg (dOfN (dBorrowN 5 (dnLc (dItems (dVar 6)) 8 (dTest (dOp (dInD true) (dVar 8) (dVar 5))) (dVar 8) [8]))) (dgName 7))
    (dAppend 5 (dCall pre_l_one post_l_one (dCons (dVar 7) dNil)))))
    (dRetOwnD 5))
theorem twins_eq : d_l_twins = (dSeq (dPar 3 4 (dCons (dTup (dCons (dOp dIx (dVar 1) (dC (.int 0))) dNil)) (dCons (dTup (dCons (dOp dIx (dVar 1) (dC (.int 1))) dNil)) dNil)))
    (dSeq (dAsgN (dnLst (dCons (dVar 3) (dCons (dVar 4) (dCons (dTup (dCons (dOp dIx (dVar 1) (dC (.int 4))) (dCons (dVar 3) dNil))) (dCons (dTup (dCons (dOp dIx (dVar 1) (dC (.int 4))) (dCons (dVar 4) dNil))) dNil))))) 5)
    (dSeq (dIfS (dAnd (dTest (dOp (dLt (fun i j => decide (j < i)) fun i j => ltS j i) (dVar 2) (dC (.int 5)))) (dTest (dOp dEq (dCall pre_l_takeB post_l_takeB (dCons (dC (.int 2)) dNil)) (dC (.int 0))))) (dAsgN (dBorrowN 5 (dnAdd (dVar 5) (dLst (dCons (dTup (dCons (dOp dIx (dVar 1) (dC (.int 5))) (dCons (dOp dIx (dVar 5) (dC (.int 2))) dNil))) (dCons (dTup (dCons (dOp dIx (dVar 1) (dC (.int 5))) (dCons (dOp dIx (dVar 5) (dC (.int 3))) dNil))) dNil))))) 5) dNext)
    (dSeq (dAsg (dLst (dCons (dTup (dCons (dOp dIx (dVar 1) (dC (.int 2))) dNil)) (dCons (dTup (dCons (dOp dIx (dVar 1) (dC (.int 5))) (dCons (dVar 3) (dCons (dVar 4) dNil)))) (dCons (dTup (dCons (dOp dIx (dVar 1) (dC (.int 4))) (dCons (dVar 3) (dCons (dVar 4) dNil)))) (dCons (dTup (dCons (dOp dIx (dVar 1) (dC (.int 5))) (dCons (dVar 4) (dCons (dVar 3) (dCons (dVar 3) dNil))))) dNil))))) (dgName 6))
    dtw)))) := rfl
theorem twins_loop {N A B C D : PyData} {m : Int} {ts sm ds : List PyData} (ls : sm.length = 4) (nd : ([A, B, C, D] ++ sm).Nodup) (oks : ∀ t ∈ sm, TB 7 t ∧ pureS t = true) (m7 : m ≤ 7)
    (okt : ∀ t ∈ ts, TB 7 t ∧ pureS t = true) (inI : ∀ t ∈ [A, B, C, D], t ∈ ts) (lt : ts.length ≤ 7) (cl : Cl ts) (scl : ∀ t ∈ sm, ∀ p ∈ parts t, p ∈ [A, B, C, D]) :
    dtw { nx := fun _ => post_l_twins ds .none, rt := post_l_twins ds } [none, some (.dat N), some (.dat (.int m)), some (.dat A), some (.dat B), some (.own ts), some (.dat (.list sm)), none, none] := by
  dsimp only [dtw, dSeq, dAnd, dTest, dOp, dEq, dLt, dInD, dVar, dC, dCall, dCB, dLen, dOfN, dBorrowN, dBorrowT, dnLc, dItems, dAsg, dAppend, dWhile, dgName, isB, dNext, dRetOwnD, dCons, dNil, wipeD, List.set, List.getElem?_cons_succ, List.getElem?_cons_zero]
  refine ⟨fun k δ => ∃ (ts : List PyData) (p7 p8 : Option DV), δ = [none, some (.dat N), some (.dat (.int m)), some (.dat A), some (.dat B), some (.own ts), some (.dat (.list sm)), p7, p8] ∧ k = 7 - ts.length ∧ ts.length ≤ 7 ∧
    (∀ t ∈ [A, B, C, D], t ∈ ts) ∧ (∀ t ∈ ts, TB 7 t ∧ pureS t = true) ∧ Cl ts, ⟨_, ts, none, none, rfl, rfl, lt, inI, okt, cl⟩, ?_⟩
  rintro k δ ⟨ts, p7, p8, rfl, rfl, lt, inI, okt, cl⟩
  dsimp only [List.set, List.getElem?_cons_succ, List.getElem?_cons_zero]
  have ret : post_l_twins ds (.list ts) := by
    refine ⟨ts, rfl, fun z => ?_, lt, fun t ht => (okt t ht).1.ok (Nat.le_refl _), cl⟩
    have := inI A (List.mem_cons_self ..)
    rw [z] at this
    cases this
  have lay : SeqAt.shaped (.list ts) = true := lay_list (k := 7) (fun t ht => (okt t ht).1) (by decide)
  refine and_if ⟨by decide, by decide⟩ (by rintro r ⟨j, rfl, _, _⟩; rfl) (fun hm => ?_) ret
  have hm := of_decide_eq_true hm
  have lt6 : ts.length ≤ 6 := by omega
  refine ⟨small_le (by omega), fun i acc => acc = (sm.take i).filter fun t => !(ts.any fun e => PyData.eqv e t), rfl, ?_, ?_⟩
  · rintro i x acc hx - rfl
    have hxm := List.mem_of_getElem? hx
    refine ⟨by rw [lay, lay_one (oks x hxm).1 (by decide)]; rfl, ?_⟩
    show if (!(ts.any fun e => PyData.eqv e x)) = true then _ = List.filter _ (List.take (i + 1) _) else _ = List.filter _ (List.take (i + 1) _)
    rw [List.take_add_one, hx, List.filter_append]
    split
    · rename_i h
      simp [h]
    · rename_i h
      simp [h]
  · rintro acc - rfl
    rw [List.take_length]
    have fm : ∀ t ∈ sm.filter fun t => !(ts.any fun e => PyData.eqv e t), t ∈ sm := fun t ht => (List.mem_filter.mp ht).1
    refine ⟨tupAll_of fun t ht => (oks t (fm t ht)).1.t, ⟨?_, small_le (by have := List.length_filter_le (fun t => !(ts.any fun e => PyData.eqv e t)) sm; omega)⟩, ?_⟩
    · intro z
      have all : ∀ t ∈ sm, t ∈ ts := by
        intro t ht
        have h1 := List.filter_eq_nil_iff.mp z t ht
        simp only [Bool.not_eq_true, Bool.not_eq_false', List.any_eq_true] at h1
        obtain ⟨e, he, hq⟩ := h1
        have := eqv_pure e t (okt e he).2 (oks t ht).2 hq
        rw [← this]
        exact he
      have := nodup_le _ ts nd fun t ht => by
        rcases List.mem_append.mp ht with h | h
        · exact inI t h
        · exact all t h
      rw [List.length_append, ls] at this
      simp only [List.length_cons, List.length_nil] at this
      omega
    · intro r hr
      have hr := fm r hr
      refine ⟨small_le (by omega), 7 - (ts ++ [r]).length, ?_, ts ++ [r], _, _, rfl, rfl, ?_, fun t ht => List.mem_append.mpr (.inl (inI t ht)), ?_, ?_⟩
      · rw [List.length_append]
        simp only [List.length_cons, List.length_nil]
        omega
      · rw [List.length_append]
        simp only [List.length_cons, List.length_nil]
        omega
      · intro t ht
        rcases List.mem_append.mp ht with h | h
        · exact okt t h
        · rw [List.mem_singleton.mp h]
          exact oks r hr
      · intro t ht p hpt
        rcases List.mem_append.mp ht with h | h
        · exact List.mem_append.mpr (.inl (cl t h p hpt))
        · rw [List.mem_singleton.mp h] at hpt
          exact List.mem_append.mpr (.inl (inI p (scl r hr p hpt)))
theorem dat_l_twins : ∀ ds, pre_l_twins ds → d_l_twins { nx := fun _ => post_l_twins ds .none, rt := post_l_twins ds } (startD 9 (none :: ds.map fun d => some (.dat d))) := by
  rintro ds ⟨ns, m, rfl, pm, m4, m7⟩
  have ha := names_asc pm
  have ln : ns.length = 13 := pm.length_eq
  have nd : ns.Nodup := pm.nodup_iff.mpr (by decide)
  obtain ⟨n0, n1, n2, n3, n4, n5, n6, n7, n8, n9, n10, n11, n12, rfl⟩ : ∃ n0 n1 n2 n3 n4 n5 n6 n7 n8 n9 n10 n11 n12, ns = [n0, n1, n2, n3, n4, n5, n6, n7, n8, n9, n10, n11, n12] := by
    match ns, ln with
    | [n0, n1, n2, n3, n4, n5, n6, n7, n8, n9, n10, n11, n12], _ => exact ⟨n0, n1, n2, n3, n4, n5, n6, n7, n8, n9, n10, n11, n12, rfl⟩
  have a0 := ha n0 (by simp)
  have a1 := ha n1 (by simp)
  have a2 := ha n2 (by simp)
  have a4 := ha n4 (by simp)
  have a5 := ha n5 (by simp)
  have h01 : n0 ≠ n1 := by simp at nd; exact nd.1.1
  have h02 : n0 ≠ n2 := by simp at nd; exact nd.1.2.1
  have h12 : n1 ≠ n2 := by simp at nd; exact nd.2.1.1
  have h45 : n4 ≠ n5 := by simp at nd; exact nd.2.2.2.2.1.1
  clear nd pm
  show d_l_twins _ [none, some (.dat (.list ([n0, n1, n2, n3, n4, n5, n6, n7, n8, n9, n10, n11, n12].map PyData.str))), some (.dat (.int m)), none, none, none, none, none, none]
  generalize hA : PyData.tuple [.str n0] = A
  generalize hB : PyData.tuple [.str n1] = B
  rw [twins_eq]
  dsimp only [dSeq, dIfS, dAnd, dTest, dOp, dEq, dLt, dAdd, dInD, dTup, dLst, dnLst, dnAdd, dSl, dNoPart, dPart, dSlice, dVar, dC, dIx, dCall, dCB, dLen, dOfN, dBorrowN, dBorrowT, dnLc, dItems, dPar, dAsg, dAsgN, dAppend, dWhile, dgName, dYes, isI, isB, dNext, dRet, dRetOwnD, dCons, dNil, wipeD, List.set, List.getElem?_cons_succ, List.getElem?_cons_zero]
  have e0 : atD (.list ([n0, n1, n2, n3, n4, n5, n6, n7, n8, n9, n10, n11, n12].map PyData.str)) 0 = some (.str n0) := rfl
  have e1 : atD (.list ([n0, n1, n2, n3, n4, n5, n6, n7, n8, n9, n10, n11, n12].map PyData.str)) 1 = some (.str n1) := rfl
  have e2 : atD (.list ([n0, n1, n2, n3, n4, n5, n6, n7, n8, n9, n10, n11, n12].map PyData.str)) 2 = some (.str n2) := rfl
  have e4 : atD (.list ([n0, n1, n2, n3, n4, n5, n6, n7, n8, n9, n10, n11, n12].map PyData.str)) 4 = some (.str n4) := rfl
  have e5 : atD (.list ([n0, n1, n2, n3, n4, n5, n6, n7, n8, n9, n10, n11, n12].map PyData.str)) 5 = some (.str n5) := rfl
  generalize PyData.list ([n0, n1, n2, n3, n4, n5, n6, n7, n8, n9, n10, n11, n12].map PyData.str) = N at *
  simp only [e0, e1, e2, e4, e5]
  rw [hA, hB]
  have oA : TB 2 A := hA ▸ TB.thing a0
  have oB : TB 2 B := hB ▸ TB.thing a1
  have oC : TB 3 (.tuple [.str n4, A]) := TB.work (ps := [A]) a4 (by decide) (by simp) (by intro p hp; rw [List.mem_singleton.mp hp]; exact oA)
  have oD : TB 3 (.tuple [.str n4, B]) := TB.work (ps := [B]) a4 (by decide) (by simp) (by intro p hp; rw [List.mem_singleton.mp hp]; exact oB)
  have oP : TB 4 (.tuple [.str n5, .tuple [.str n4, A]]) := TB.work (ps := [_]) a5 (by decide) (by simp) (by intro p hp; rw [List.mem_singleton.mp hp]; exact oC)
  have oQ : TB 4 (.tuple [.str n5, .tuple [.str n4, B]]) := TB.work (ps := [_]) a5 (by decide) (by simp) (by intro p hp; rw [List.mem_singleton.mp hp]; exact oD)
  have oE : TB 2 (.tuple [.str n2]) := TB.thing a2
  have oAB : ∀ p ∈ [A, B], TB 2 p := by
    intro p hp
    rcases List.mem_cons.mp hp with rfl | hp
    · exact oA
    · rw [List.mem_singleton.mp hp]; exact oB
  have oF : TB 3 (.tuple [.str n5, A, B]) := TB.work (ps := [A, B]) a5 (by decide) (by simp) oAB
  have oG : TB 3 (.tuple [.str n4, A, B]) := TB.work (ps := [A, B]) a4 (by decide) (by simp) oAB
  have oH : TB 4 (.tuple [.str n5, B, A, A]) := by
    refine ⟨(Bd.tup (D := 2) (W := 89) (ds := [.str n5, B, A, A]) ?_).mono (by decide) (by simp), tm_of_nm a5 (by
      intro p hp
      rcases List.mem_cons.mp hp with rfl | hp
      · exact oB.m
      rcases List.mem_cons.mp hp with rfl | hp
      · exact oA.m
      · rw [List.mem_singleton.mp hp]; exact oA.m), by subst hA hB; simp [nd, ndAll], by simp [parts]⟩
    intro d hd
    rcases List.mem_cons.mp hd with rfl | hd
    · exact (bd_str a5.asc).mono (by decide) (by decide)
    rcases List.mem_cons.mp hd with rfl | hd
    · exact oB.toBd
    rcases List.mem_cons.mp hd with rfl | hd
    · exact oA.toBd
    · rw [List.mem_singleton.mp hd]; exact oA.toBd
  have pA : pureS A = true := hA ▸ rfl
  have pB : pureS B = true := hB ▸ rfl
  have pw1 : ∀ (n : Str) (x : PyData), pureS x = true → pureS (.tuple [.str n, x]) = true := by
    intro n x h
    simp only [pureS, pureSAll, h, Bool.and_self]
  have nd8 : [A, B, PyData.tuple [.str n4, A], .tuple [.str n4, B], .tuple [.str n2], .tuple [.str n5, A, B], .tuple [.str n4, A, B], .tuple [.str n5, B, A, A]].Nodup := by
    subst hA hB
    simp [h01, h02, h12, h45, Ne.symm h45]
  have okS : ∀ t ∈ [PyData.tuple [.str n2], .tuple [.str n5, A, B], .tuple [.str n4, A, B], .tuple [.str n5, B, A, A]], TB 7 t ∧ pureS t = true := by
    intro t ht
    rcases List.mem_cons.mp ht with rfl | ht
    · exact ⟨oE.mono (by decide), rfl⟩
    rcases List.mem_cons.mp ht with rfl | ht
    · exact ⟨oF.mono (by decide), by simp only [pureS, pureSAll, pA, pB, Bool.and_self]⟩
    rcases List.mem_cons.mp ht with rfl | ht
    · exact ⟨oG.mono (by decide), by simp only [pureS, pureSAll, pA, pB, Bool.and_self]⟩
    · rw [List.mem_singleton.mp ht]
      exact ⟨oH.mono (by decide), by simp only [pureS, pureSAll, pA, pB, Bool.and_self]⟩
  have okI : ∀ t ∈ [A, B, PyData.tuple [.str n4, A], .tuple [.str n4, B]], TB 7 t ∧ pureS t = true := by
    intro t ht
    rcases List.mem_cons.mp ht with rfl | ht
    · exact ⟨oA.mono (by decide), pA⟩
    rcases List.mem_cons.mp ht with rfl | ht
    · exact ⟨oB.mono (by decide), pB⟩
    rcases List.mem_cons.mp ht with rfl | ht
    · exact ⟨oC.mono (by decide), pw1 _ _ pA⟩
    · rw [List.mem_singleton.mp ht]
      exact ⟨oD.mono (by decide), pw1 _ _ pB⟩
  have okJ : ∀ t ∈ [A, B, PyData.tuple [.str n4, A], .tuple [.str n4, B]] ++ [PyData.tuple [.str n5, .tuple [.str n4, A]], PyData.tuple [.str n5, .tuple [.str n4, B]]], TB 7 t ∧ pureS t = true := by
    intro t ht
    rcases List.mem_append.mp ht with ht | ht
    · exact okI t ht
    rcases List.mem_cons.mp ht with rfl | ht
    · exact ⟨oP.mono (by decide), pw1 _ _ (pw1 _ _ pA)⟩
    · rw [List.mem_singleton.mp ht]
      exact ⟨oQ.mono (by decide), pw1 _ _ (pw1 _ _ pB)⟩
  have inI : ∀ t ∈ [A, B, PyData.tuple [.str n4, A], .tuple [.str n4, B]], t ∈ [A, B, PyData.tuple [.str n4, A], .tuple [.str n4, B]] := fun t h => h
  have inJ : ∀ t ∈ [A, B, PyData.tuple [.str n4, A], .tuple [.str n4, B]], t ∈ [A, B, PyData.tuple [.str n4, A], .tuple [.str n4, B]] ++ [PyData.tuple [.str n5, .tuple [.str n4, A]], PyData.tuple [.str n5, .tuple [.str n4, B]]] := fun t h => List.mem_append.mpr (.inl h)
  have l4 : [A, B, PyData.tuple [.str n4, A], .tuple [.str n4, B]].length ≤ 6 := by simp
  have l6 : ([A, B, PyData.tuple [.str n4, A], .tuple [.str n4, B]] ++ [PyData.tuple [.str n5, .tuple [.str n4, A]], PyData.tuple [.str n5, .tuple [.str n4, B]]]).length ≤ 6 := by simp
  have pAB : parts A = [] ∧ parts B = [] := by subst hA hB; exact ⟨rfl, rfl⟩
  have scl : ∀ t ∈ [PyData.tuple [.str n2], .tuple [.str n5, A, B], .tuple [.str n4, A, B], .tuple [.str n5, B, A, A]], ∀ p ∈ parts t, p ∈ [A, B, PyData.tuple [.str n4, A], .tuple [.str n4, B]] := by
    intro t ht p hpt
    rcases List.mem_cons.mp ht with rfl | ht
    · cases hpt
    rcases List.mem_cons.mp ht with rfl | ht
    · simp only [parts, List.mem_cons, List.not_mem_nil, or_false] at hpt
      rcases hpt with rfl | rfl <;> simp
    rcases List.mem_cons.mp ht with rfl | ht
    · simp only [parts, List.mem_cons, List.not_mem_nil, or_false] at hpt
      rcases hpt with rfl | rfl <;> simp
    · rw [List.mem_singleton.mp ht] at hpt
      simp only [parts, List.mem_cons, List.not_mem_nil, or_false] at hpt
      rcases hpt with rfl | rfl | rfl <;> simp
  have clI : Cl [A, B, PyData.tuple [.str n4, A], .tuple [.str n4, B]] := by
    intro t ht p hpt
    rcases List.mem_cons.mp ht with rfl | ht
    · rw [pAB.1] at hpt; cases hpt
    rcases List.mem_cons.mp ht with rfl | ht
    · rw [pAB.2] at hpt; cases hpt
    rcases List.mem_cons.mp ht with rfl | ht
    · simp only [parts, List.mem_cons, List.not_mem_nil, or_false] at hpt
      rw [hpt]; simp
    · rw [List.mem_singleton.mp ht] at hpt
      simp only [parts, List.mem_cons, List.not_mem_nil, or_false] at hpt
      rw [hpt]; simp
  have clJ : Cl ([A, B, PyData.tuple [.str n4, A], .tuple [.str n4, B]] ++ [PyData.tuple [.str n5, .tuple [.str n4, A]], PyData.tuple [.str n5, .tuple [.str n4, B]]]) := by
    intro t ht p hpt
    rcases List.mem_append.mp ht with ht | ht
    · exact List.mem_append.mpr (.inl (clI t ht p hpt))
    rcases List.mem_cons.mp ht with rfl | ht
    · simp only [parts, List.mem_cons, List.not_mem_nil, or_false] at hpt
      rw [hpt]; simp
    · rw [List.mem_singleton.mp ht] at hpt
      simp only [parts, List.mem_cons, List.not_mem_nil, or_false] at hpt
      rw [hpt]; simp
  refine ⟨rfl, rfl, rfl, rfl, rfl, and_if ⟨by decide, by decide⟩ (by rintro r ⟨j, rfl, _, _⟩; rfl) (fun h5 => ?_) ?_⟩
  · refine ⟨rfl, rfl, rfl, rfl, tupAll_of fun d hd => (okJ d hd).1.t, rfl, rfl, rfl, rfl, rfl, ?_⟩
    exact twins_loop rfl nd8 okS m7 okJ inJ (by omega) clJ scl
  · refine ⟨rfl, rfl, rfl, rfl, rfl, ?_⟩
    exact twins_loop rfl nd8 okS m7 okI inI (by omega) clI scl

end DL

namespace DL
open PySem PySem.Spec PyProof.Rows L2
open Evl (Ex ex_l ex_t)
variable [TheW]
open PySem.W (EachIs AllAlike Sortable SortsAt sortVals sortLe keyToks keyToksAll dataKind alike alikeAll)
theorem valW_tup (W : Dct) (nm : PyData) (ps : List PyData) : valW W (.tuple (nm :: ps)) = (getT W (.tuple (nm :: ps.map (valW W)))).getD (.int 0) := valW_key W nm ps
theorem getT_mem {W : Dct} {k v : PyData} (h : getT W k = some v) : ∃ p ∈ W, nk p.1 = nk k ∧ p.2 = v := by
  unfold getT at h
  obtain ⟨p, h1, h2⟩ := Option.map_eq_some_iff.mp h
  have h3 := List.find?_some h1
  exact ⟨p, List.mem_of_find?_eq_some h1, of_decide_eq_true h3, h2⟩
theorem getT_int {W : Dct} (h : ∀ p ∈ W, ∃ n : Int, p.2 = .int n) (k : PyData) : ∃ n : Int, (getT W k).getD (.int 0) = .int n := by
  cases e : getT W k with
  | none => exact ⟨0, rfl⟩
  | some v =>
    obtain ⟨p, hp, _, rfl⟩ := getT_mem e
    obtain ⟨n, hn⟩ := h p hp
    exact ⟨n, by rw [hn]; rfl⟩
theorem WOk.val {W : Dct} (h : WOk W) : ∀ t, ∃ n : Int, valW W t = .int n
  | .tuple (nm :: ps) => by rw [valW_key]; exact getT_int h.v _
  | .tuple [] => ⟨0, rfl⟩
  | .none => ⟨0, rfl⟩
  | .bool _ => ⟨0, rfl⟩
  | .int _ => ⟨0, rfl⟩
  | .str _ => ⟨0, rfl⟩
  | .list _ => ⟨0, rfl⟩
  | .dict _ => ⟨0, rfl⟩
theorem ints_map {f : PyData → PyData} (h : ∀ t, ∃ n : Int, f t = .int n) : ∀ ps : List PyData, ∃ ns : List Int, ps.map f = ns.map .int ∧ ns.length = ps.length
  | [] => ⟨[], rfl, rfl⟩
  | p :: ps => by
    obtain ⟨n, hn⟩ := h p
    obtain ⟨ns, h1, h2⟩ := ints_map h ps
    exact ⟨n :: ns, by rw [List.map_cons, hn, h1]; rfl, by rw [List.length_cons, h2]; rfl⟩
theorem nks_ints : ∀ ns : List Int, ∃ es, nks (ns.map .int) = some es ∧ NestedKey.depthAll es ≤ 1
  | [] => ⟨[], rfl, by simp only [NestedKey.depthAll]; exact Nat.zero_le _⟩
  | n :: ns => by
    obtain ⟨es, h1, h2⟩ := nks_ints ns
    refine ⟨.num n :: es, ?_, ?_⟩
    · simp only [List.map_cons, nks, nk, h1]
    · simp only [NestedKey.depthAll, NestedKey.depth]
      omega
theorem key_nk (nm : Str) (ns : List Int) : ∃ e, nk (.tuple (.str nm :: ns.map .int)) = some e ∧ e.depth ≤ 8 := by
  obtain ⟨es, h1, h2⟩ := nks_ints ns
  refine ⟨.tup (.text nm :: es), ?_, ?_⟩
  · simp only [nk, nks, h1, Option.map_some]
  · simp only [NestedKey.depth, NestedKey.depthAll]
    omega
theorem WOk.key {W : Dct} (h : WOk W) (nm : Str) (ps : List PyData) : ∃ e, nk (keyW W (.tuple (.str nm :: ps))) = some e ∧ e.depth ≤ 8 := by
  obtain ⟨ns, h1, _⟩ := ints_map h.val ps
  show ∃ e, nk (.tuple (.str nm :: ps.map (valW W))) = some e ∧ _
  rw [h1]
  exact key_nk nm ns
theorem parts_len {nm : Str} {ps : List PyData} (h : wt (.tuple (.str nm :: ps)) ≤ 10000) : ps.length ≤ 10000 := by
  have a : ∀ l : List PyData, l.length ≤ wtAll l := by
    intro l
    induction l with
    | nil => exact Nat.zero_le _
    | cons x l ih =>
      simp only [wtAll, List.length_cons]
      omega
  have := a ps
  simp only [wt, wtAll] at h
  omega
theorem cut_hd (x : PyData) (xs : List PyData) : cutD (x :: xs) none (some 1) = [x] := by
  rw [show (some (1 : Int)) = some ((1 : Nat) : Int) from rfl]
  unfold cutD
  rw [HT.sIx_nat, HT.sIx_none, List.drop_zero, Nat.sub_zero]
  have : min 1 (x :: xs).length = 1 := by simp only [List.length_cons]; omega
  rw [this]
  rfl
theorem dat__key : ∀ n, ∀ ds, pre__key (n + 1) ds → d__key n { nx := fun _ => post__key ds .none, rt := post__key ds } (startD 4 (ds.map fun d => some (.dat d))) := by
  rintro n ds ⟨t, W, rfl, ht, hd, hn, hw, ok⟩
  obtain ⟨nm, ps, rfl, hnm, hps⟩ := tm_tup ht
  show d__key n _ [some (.dat (.tuple (.str nm :: ps))), some (.dat (.dict W)), none, none]
  dsimp only [d__key, dSeq, dAsg, dAsgN, dAsgPop, dAppend, dExtend, dExtendT, dInsert, dPar, dPar3, dAug, dIfS, dFor, dRet, dRetO, dRetOwn, dRetOwnD, dRetN, dDrop, dNext, dBreak, dCont, dFreeze, dFreezeD, dGet2, dIdxN, dBorD, dBorDN, dBorDT, dParDN, dParND, dMax2, dAnyK, dnItems, dDictN, dKeysN, dnSortedND, dPutN, dAsgDN, dParN, dDict0, dBorrow, dBorrowT, dTr, dTest, dAnd, dOr, dNot, dAndV, dOrV, dNotV, dIf, dOp, dUn, dCB, dCall, dnCall, dCallX, dCallV, dTup, dLst, dnLst, dnLc, dLc, dOfN, dnAdd, dnSl, dSl, dSlice, dNoPart, dPart, dIx, isI, isB, dVar, dC, dCons, dNil, dLen, dRepr, dListOf, dTupOf, dItems, dItemsT, itemsOf, dSigns, dRng1, dgName, dgTup, dgCons, dgNil, dEq, dNe, dLt, dIn, dII, dIC, dNeg, dAdd, dRep, dUpper, dJoin, dYes, truD, dAll, dAny, dInt1, dAbs, dChain, List.set, List.getElem?_cons_succ, List.getElem?_cons_zero]
  rw [cut_one, cut_hd]
  have hl := parts_len hw
  have pd : ∀ p ∈ ps, p.depth ≤ n ∧ wt p ≤ 10000 := by
    intro p hp
    have h1 := depth_mem hp
    have h2 := wt_mem hp
    simp only [PyData.depth, PyData.depthAll] at hd
    simp only [wt, wtAll] at hw
    omega
  refine ⟨fun i δ => ∃ q, δ = [some (.dat (.tuple (.str nm :: ps))), some (.dat (.dict W)), some (.dat (.tuple (.str nm :: (ps.take i).map (valW W)))), q], ⟨none, rfl⟩, ?_, ?_⟩
  · rintro i x δ hx ⟨q, rfl⟩
    dsimp only [List.set, List.getElem?_cons_succ, List.getElem?_cons_zero]
    have hxm := List.mem_of_getElem? hx
    refine ⟨ok.k, ⟨x, W, rfl, tmAll_mem hps x hxm, (pd x hxm).1, by omega, (pd x hxm).2, ok⟩, ?_⟩
    rintro r ⟨_, _, e, rfl⟩
    cases e
    obtain ⟨nm2, ps2, rfl, _, _⟩ := tm_tup (tmAll_mem hps x hxm)
    have hk := ok.key nm2 ps2
    have et : ps.take (i + 1) = ps.take i ++ [.tuple (.str nm2 :: ps2)] := by
      rw [List.take_add_one, hx]
      rfl
    refine ⟨hk, rfl, small_le ?_, some (.dat (.tuple (.str nm2 :: ps2))), ?_⟩
    · simp only [List.length_cons, List.length_map, List.length_take, List.length_nil]
      omega
    · rw [et, List.map_append, List.map_singleton, valW_tup]
      rfl
  · rintro δ ⟨q, rfl⟩
    rw [List.take_length]
    exact ⟨_, _, rfl, rfl⟩
theorem dat_worth : ∀ ds, pre_worth ds → d_worth { nx := fun _ => post_worth ds .none, rt := post_worth ds } (startD 2 (ds.map fun d => some (.dat d))) := by
  rintro ds ⟨t, W, rfl, ot, ok⟩
  show d_worth _ [some (.dat t), some (.dat (.dict W))]
  dsimp only [d_worth, dSeq, dAsg, dAsgN, dAsgPop, dAppend, dExtend, dExtendT, dInsert, dPar, dPar3, dAug, dIfS, dFor, dRet, dRetO, dRetOwn, dRetOwnD, dRetN, dDrop, dNext, dBreak, dCont, dFreeze, dFreezeD, dGet2, dIdxN, dBorD, dBorDN, dBorDT, dParDN, dParND, dMax2, dAnyK, dnItems, dDictN, dKeysN, dnSortedND, dPutN, dAsgDN, dParN, dDict0, dBorrow, dBorrowT, dTr, dTest, dAnd, dOr, dNot, dAndV, dOrV, dNotV, dIf, dOp, dUn, dCB, dCall, dnCall, dCallX, dCallV, dTup, dLst, dnLst, dnLc, dLc, dOfN, dnAdd, dnSl, dSl, dSlice, dNoPart, dPart, dIx, isI, isB, dVar, dC, dCons, dNil, dLen, dRepr, dListOf, dTupOf, dItems, dItemsT, itemsOf, dSigns, dRng1, dgName, dgTup, dgCons, dgNil, dEq, dNe, dLt, dIn, dII, dIC, dNeg, dAdd, dRep, dUpper, dJoin, dYes, truD, dAll, dAny, dInt1, dAbs, dChain, List.set, List.getElem?_cons_succ, List.getElem?_cons_zero]
  refine ⟨ok.k, ⟨t, W, rfl, ot.m, ot.d, by decide, ot.w, ok⟩, ?_⟩
  rintro r ⟨_, _, e, rfl⟩
  cases e
  obtain ⟨nm, ps, rfl, _, _⟩ := tm_tup ot.m
  refine ⟨ok.key nm ps, _, _, rfl, ?_⟩
  rw [valW_key]
  rfl
theorem eqOk_int (a b : Int) : eqOk (.int a) (.int b) = true := rfl
theorem val_eqv {W : Dct} (ok : WOk W) (a b : PyData) : eqOk (valW W a) (valW W b) = true ∧ (PyData.eqv (valW W a) (valW W b) = true ↔ valW W a = valW W b) := by
  obtain ⟨n, hn⟩ := ok.val a
  obtain ⟨m, hm⟩ := ok.val b
  rw [hn, hm, eqv_ii]
  refine ⟨rfl, ?_⟩
  rw [beq_iff_eq]
  exact ⟨fun z => by rw [z], fun z => PyData.int.inj z⟩
open Classical in
theorem dat_alike : ∀ ds, pre_alike ds → d_alike { nx := fun _ => post_alike ds .none, rt := post_alike ds } (startD 3 (ds.map fun d => some (.dat d))) := by
  rintro ds ⟨a, b, W, rfl, oa, ob, ok⟩
  show d_alike _ [some (.dat a), some (.dat b), some (.dat (.dict W))]
  dsimp only [d_alike, dSeq, dAsg, dAsgN, dAsgPop, dAppend, dExtend, dExtendT, dInsert, dPar, dPar3, dAug, dIfS, dFor, dRet, dRetO, dRetOwn, dRetOwnD, dRetN, dDrop, dNext, dBreak, dCont, dFreeze, dFreezeD, dGet2, dIdxN, dBorD, dBorDN, dBorDT, dParDN, dParND, dMax2, dAnyK, dnItems, dDictN, dKeysN, dnSortedND, dPutN, dAsgDN, dParN, dDict0, dBorrow, dBorrowT, dTr, dTest, dAnd, dOr, dNot, dAndV, dOrV, dNotV, dIf, dOp, dUn, dCB, dCall, dnCall, dCallX, dCallV, dTup, dLst, dnLst, dnLc, dLc, dOfN, dnAdd, dnSl, dSl, dSlice, dNoPart, dPart, dIx, isI, isB, dVar, dC, dCons, dNil, dLen, dRepr, dListOf, dTupOf, dItems, dItemsT, itemsOf, dSigns, dRng1, dgName, dgTup, dgCons, dgNil, dEq, dNe, dLt, dIn, dII, dIC, dNeg, dAdd, dRep, dUpper, dJoin, dYes, truD, dAll, dAny, dInt1, dAbs, dChain, List.set, List.getElem?_cons_succ, List.getElem?_cons_zero]
  refine ⟨⟨a, W, rfl, oa, ok⟩, ?_⟩
  rintro r ⟨_, _, e, rfl⟩
  cases e
  refine ⟨⟨b, W, rfl, ob, ok⟩, ?_⟩
  rintro r ⟨_, _, e, rfl⟩
  cases e
  obtain ⟨h1, h2⟩ := val_eqv ok a b
  refine ⟨h1, a, b, W, rfl, ?_⟩
  congr 1
  rw [Bool.eq_iff_iff, h2, decide_eq_true_iff]
theorem at_if0 (a b y n : PyData) : atD (.tuple [.str "if", a, b, y, n]) 0 = some (.str "if") := rfl
theorem at_if1 (a b y n : PyData) : atD (.tuple [.str "if", a, b, y, n]) 1 = some a := rfl
theorem at_if2 (a b y n : PyData) : atD (.tuple [.str "if", a, b, y, n]) 2 = some b := rfl
theorem at_if3 (a b y n : PyData) : atD (.tuple [.str "if", a, b, y, n]) 3 = some y := rfl
theorem at_if4 (a b y n : PyData) : atD (.tuple [.str "if", a, b, y, n]) 4 = some n := rfl
theorem at_t0 (t : PyData) : atD (.tuple [.str "tell", t]) 0 = some (.str "tell") := rfl
theorem at_t1 (t : PyData) : atD (.tuple [.str "tell", t]) 1 = some t := rfl
theorem eq_if : PyData.eqv (.str "if") (.str "if") = true := by rw [eqv_ss]; decide
theorem eq_tell : PyData.eqv (.str "tell") (.str "if") = false := by rw [eqv_ss]; decide
theorem okT.w8 {t : PyData} {W : Dct} (h : okT t) (ok : WOk W) : pre_l_worth 8 [t, .dict W] := ⟨t, W, rfl, h.m, h.d, by decide, h.w, ok⟩
open Classical in
theorem dat_answer : ∀ ds, pre_answer ds → d_answer { nx := fun _ => post_answer ds .none, rt := post_answer ds } (startD 3 (ds.map fun d => some (.dat d))) := by
  rintro ds ⟨c, W, rfl, oc, ok⟩
  show d_answer _ [some (.dat c.toD), some (.dat (.dict W)), none]
  dsimp only [d_answer, dWhile, dSeq, dAsg, dAsgN, dAsgPop, dAppend, dExtend, dExtendT, dInsert, dPar, dPar3, dAug, dIfS, dFor, dRet, dRetO, dRetOwn, dRetOwnD, dRetN, dDrop, dNext, dBreak, dCont, dFreeze, dFreezeD, dGet2, dIdxN, dBorD, dBorDN, dBorDT, dParDN, dParND, dMax2, dAnyK, dnItems, dDictN, dKeysN, dnSortedND, dPutN, dAsgDN, dParN, dDict0, dBorrow, dBorrowT, dTr, dTest, dAnd, dOr, dNot, dAndV, dOrV, dNotV, dIf, dOp, dUn, dCB, dCall, dnCall, dCallX, dCallV, dTup, dLst, dnLst, dnLc, dLc, dOfN, dnAdd, dnSl, dSl, dSlice, dNoPart, dPart, dIx, isI, isB, dVar, dC, dCons, dNil, dLen, dRepr, dListOf, dTupOf, dItems, dItemsT, itemsOf, dSigns, dRng1, dgName, dgTup, dgCons, dgNil, dEq, dNe, dLt, dIn, dII, dIC, dNeg, dAdd, dRep, dUpper, dJoin, dYes, truD, dAll, dAny, dInt1, dAbs, dChain, List.set, List.getElem?_cons_succ, List.getElem?_cons_zero]
  refine ⟨fun m δ => ∃ c' : Cd, δ = [some (.dat c.toD), some (.dat (.dict W)), some (.dat c'.toD)] ∧ c'.ok ∧ m = c'.dep ∧ comeW W c' = comeW W c, ⟨_, c, rfl, oc, rfl, rfl⟩, ?_⟩
  rintro m δ ⟨c', rfl, o', rfl, e'⟩
  dsimp only [List.set, List.getElem?_cons_succ, List.getElem?_cons_zero]
  cases c' with
  | gd c' => exact o'.elim
  | tell t =>
    simp only [Cd.toD, at_t0, at_t1]
    refine ⟨rfl, ?_⟩
    rw [eq_tell, if_neg Bool.false_ne_true]
    refine ⟨⟨t, W, rfl, o', ok⟩, ?_⟩
    rintro r ⟨_, _, e, rfl⟩
    cases e
    exact ⟨c, W, rfl, by rw [← e']; rfl⟩
  | iff a b y n =>
    obtain ⟨oa, ob, oy, on⟩ := o'
    simp only [Cd.toD, at_if0, at_if1, at_if2, at_if3, at_if4]
    refine ⟨rfl, ?_⟩
    rw [eq_if, if_pos rfl]
    refine ⟨⟨a, b, W, rfl, oa, ob, ok⟩, ?_⟩
    rintro r ⟨_, _, _, e, rfl⟩
    cases e
    dsimp only
    rw [comeW] at e'
    split
    · rename_i h
      rw [if_pos (of_decide_eq_true h)] at e'
      exact ⟨y.dep, by simp only [Cd.dep]; omega, y, rfl, oy, rfl, e'⟩
    · rename_i h
      rw [if_neg (fun z => h (decide_eq_true z))] at e'
      exact ⟨n.dep, by simp only [Cd.dep]; omega, n, rfl, on, rfl, e'⟩
open Classical in
theorem dat_l_chain : ∀ ds, pre_l_chain ds → d_l_chain { nx := fun _ => post_l_chain ds .none, rt := post_l_chain ds } (startD 5 (none :: ds.map fun d => some (.dat d))) := by
  rintro ds ⟨ts, rfl, hp⟩
  show d_l_chain _ [none, some (.dat (.list ts)), none, none, none]
  dsimp only [d_l_chain, dSeq, dAsg, dFor, dRng1, dgName, dOp, dIx, isI, dVar, dC, dRet, dTup, dLst, dOfN, dnCall, dCall, dCons, dNil, List.set, List.getElem?_cons_succ, List.getElem?_cons_zero]
  refine pool_oneW hp fun t ht => ⟨rfl, by decide, by decide, fun i δ => ∃ (c : Cd) (q3 q4 : Option DV), δ = [none, some (.dat (.list ts)), some (.dat c.toD), q3, q4] ∧ c.okIn ts ∧ c.dep ≤ i, ⟨.tell t, none, none, rfl, ht, Nat.le_refl _⟩, ?_, ?_⟩
  · rintro i x δ hx ⟨c, q3, q4, rfl, ok, dp⟩
    dsimp only [List.set, List.getElem?_cons_succ, List.getElem?_cons_zero]
    refine pool_oneW hp fun u hu => ⟨rfl, rfl, ⟨_, rfl, by simp⟩, ?_⟩
    rintro es ⟨xs, e, pm⟩
    have e := PyData.list.inj (List.cons.inj e).1
    rw [← e] at pm
    refine pool_oneW hp fun v hv => pool_oneW hp fun w hw => ?_
    have key : ∀ d ∈ es, ∃ c' : Cd, d = c'.toD ∧ c'.okIn ts ∧ c'.dep ≤ i := by
      intro d hd
      rcases List.mem_cons.mp (pm.mem_iff.mp hd) with rfl | h
      · exact ⟨c, rfl, ok, dp⟩
      · rcases List.mem_cons.mp h with rfl | h
        · exact ⟨.tell u, rfl, hu, Nat.zero_le _⟩
        · cases h
    have l2 : es.length = 2 := pm.length_eq
    obtain ⟨d1, d2, rfl⟩ : ∃ d1 d2, es = [d1, d2] := by
      match es, l2 with
      | [d1, d2], _ => exact ⟨d1, d2, rfl⟩
    obtain ⟨c1, rfl, o1, p1⟩ := key d1 (List.mem_cons_self ..)
    obtain ⟨c2, rfl, o2, p2⟩ := key d2 (List.mem_cons_of_mem _ (List.mem_cons_self ..))
    refine ⟨rfl, .iff v w c1 c2, some (.dat x), some (.dat (.list [c1.toD, c2.toD])), rfl, ⟨hv, hw, o1, o2⟩, by simp only [Cd.dep]; omega⟩
  · rintro δ ⟨c, q3, q4, rfl, ok, dp⟩
    exact ⟨ts, c, rfl, rfl, ok, dp⟩
end DL

namespace DL
open PySem PySem.Spec PyProof.Rows L2
open Evl (Ex ex_l ex_t)
variable [TheW]
open PySem.W (EachIs AllAlike Sortable SortsAt sortVals sortLe keyToks keyToksAll dataKind alike alikeAll)
def rowD (t : PyData) : PyData := .tuple [.int (nd t), t]
def sndD : PyData → PyData
  | .tuple [_, t] => t
  | x => x
theorem row_lt {a b : PyData} (h : nd a < nd b) : ltT (keyToks (rowD a)) (keyToks (rowD b)) = true := by
  show ltT (.inl 1 :: ([.inl (nd a : Int)] ++ keyToksAll [a])) (.inl 1 :: ([.inl (nd b : Int)] ++ keyToksAll [b])) = true
  rw [lt_same]
  show ltT (.inl (nd a : Int) :: keyToksAll [a]) (.inl (nd b : Int) :: keyToksAll [b]) = true
  rw [lt_head]
  · show decide ((nd a : Int) < nd b) = true
    rw [decide_eq_true_iff]
    omega
  · intro z
    have := Sum.inl.inj z
    omega
theorem sort_rows (ts : List PyData) : ∃ es : List PyData, sortD (ts.map rowD) = es.map rowD ∧ es.Perm ts ∧ es.Pairwise fun a b => nd a ≤ nd b := by
  have hp : (sortD (ts.map rowD)).Perm (ts.map rowD) := List.mergeSort_perm _ _
  have pw : (sortD (ts.map rowD)).Pairwise fun a b => sortLe (listOrd itemOrd) false keyToks a b = true := PySem.W.sort_pairwise (PySem.W.sortLe_total (listOrd itemOrd) false keyToks) _
  have hm : ∀ r ∈ sortD (ts.map rowD), ∃ t, r = rowD t := by
    intro r hr
    obtain ⟨t, _, rfl⟩ := List.mem_map.mp (hp.mem_iff.mp hr)
    exact ⟨t, rfl⟩
  have e : sortD (ts.map rowD) = ((sortD (ts.map rowD)).map sndD).map rowD := by
    rw [List.map_map]
    have : (sortD (ts.map rowD)).map (rowD ∘ sndD) = (sortD (ts.map rowD)).map id := List.map_congr_left fun r hr => by
      obtain ⟨t, rfl⟩ := hm r hr
      rfl
    rw [this, List.map_id]
  refine ⟨(sortD (ts.map rowD)).map sndD, e, ?_, ?_⟩
  · have := hp.map sndD
    rw [List.map_map] at this
    have e2 : (sndD ∘ rowD) = id := by funext x; rfl
    rw [e2, List.map_id] at this
    exact this
  · rw [e, List.pairwise_map] at pw
    refine pw.imp ?_
    intro a b h
    have h : (!ltT (keyToks (rowD b)) (keyToks (rowD a))) = true := h
    rw [Bool.not_eq_true'] at h
    by_cases c : nd a ≤ nd b
    · exact c
    · rw [row_lt (by omega)] at h
      cases h
theorem okT.lay {t : PyData} (h : okT t) : t.canLay0 = true := lay_tup t h.t h.f
theorem dat_l_in_order : ∀ ds, pre_l_in_order ds → d_l_in_order { nx := fun _ => post_l_in_order ds .none, rt := post_l_in_order ds } (startD 3 (ds.map fun d => some (.dat d))) := by
  rintro ds ⟨ts, rfl, hp⟩
  show d_l_in_order _ [some (.dat (.list ts)), none, none]
  dsimp only [d_l_in_order, dnSorted, dSeq, dAsg, dAsgN, dAsgPop, dAppend, dExtend, dExtendT, dInsert, dPar, dPar3, dAug, dIfS, dFor, dRet, dRetO, dRetOwn, dRetOwnD, dRetN, dDrop, dNext, dBreak, dCont, dFreeze, dFreezeD, dGet2, dIdxN, dBorD, dBorDN, dBorDT, dParDN, dParND, dMax2, dAnyK, dnItems, dDictN, dKeysN, dnSortedND, dPutN, dAsgDN, dParN, dDict0, dBorrow, dBorrowT, dTr, dTest, dAnd, dOr, dNot, dAndV, dOrV, dNotV, dIf, dOp, dUn, dCB, dCall, dnCall, dCallX, dCallV, dTup, dLst, dnLst, dnLc, dLc, dOfN, dnAdd, dnSl, dSl, dSlice, dNoPart, dPart, dIx, isI, isB, dVar, dC, dCons, dNil, dLen, dRepr, dListOf, dTupOf, dItems, dItemsT, itemsOf, dSigns, dRng1, dgName, dgTup, dgCons, dgNil, dEq, dNe, dLt, dIn, dII, dIC, dNeg, dAdd, dRep, dUpper, dJoin, dYes, truD, dAll, dAny, dInt1, dAbs, dChain, List.set, List.getElem?_cons_succ, List.getElem?_cons_zero]
  refine ⟨small_le (by have := hp.l; omega), fun i acc => acc = (ts.take i).map rowD, rfl, ?_, ?_⟩
  · rintro i x acc hx - rfl
    rw [if_pos rfl]
    dsimp only [wipeD, List.set, List.getElem?_cons_succ, List.getElem?_cons_zero]
    have hx' := hp.t x (List.mem_of_getElem? hx)
    refine ⟨⟨x, rfl, hx'.m, Nat.le_trans hx'.d (by decide), by decide, hx'.n⟩, ?_⟩
    rintro r ⟨_, e, hl, _⟩
    cases e
    refine ⟨rfl, ?_⟩
    rw [← take_put rowD hx, hl]
    rfl
  · rintro acc - rfl
    rw [List.take_length]
    have hrow : ∀ d ∈ ts.map rowD, ∃ t ∈ ts, d = rowD t := fun d hd => by
      obtain ⟨t, ht, rfl⟩ := List.mem_map.mp hd
      exact ⟨t, ht, rfl⟩
    refine ⟨⟨?_, .inl ?_, ?_, ?_⟩, ?_⟩
    · intro d hd d' hd'
      obtain ⟨t, ht, rfl⟩ := hrow d hd
      obtain ⟨t', ht', rfl⟩ := hrow d' hd'
      simp only [rowD, alike, alikeAll, alike_tm t t' (hp.t t ht).m (hp.t t' ht').m, Bool.and_self]
    · intro d hd
      obtain ⟨t, ht, rfl⟩ := hrow d hd
      exact ⟨_, _, rfl⟩
    · intro d hd
      obtain ⟨t, ht, rfl⟩ := hrow d hd
      have := (hp.t t ht).d
      simp only [rowD, PyData.depth, PyData.depthAll]
      omega
    · have : ∀ l : List PyData, (∀ t ∈ l, okT t) → PyData.canLayAll0 (l.map rowD) = true := by
        intro l
        induction l with
        | nil => intro _; rfl
        | cons t l ih =>
          intro h
          simp only [List.map_cons, PyData.canLayAll0, rowD, PyData.canLay0, (h t (List.mem_cons_self ..)).lay, Bool.true_and, Bool.and_true]
          exact ih fun x hx => h x (List.mem_cons_of_mem _ hx)
      exact this ts hp.t
    · obtain ⟨es, e, pm, pw⟩ := sort_rows ts
      rw [e]
      refine ⟨small_le (by rw [List.length_map, pm.length_eq]; have := hp.l; omega), fun i acc => acc = es.take i, rfl, ?_, ?_⟩
      · rintro i x acc hx - rfl
        rw [if_pos rfl]
        dsimp only [wipeD, List.set, List.getElem?_cons_succ, List.getElem?_cons_zero]
        rw [List.getElem?_map] at hx
        obtain ⟨t, ht, rfl⟩ := Option.map_eq_some_iff.mp hx
        show es.take i ++ [t] = es.take (i + 1)
        rw [List.take_add_one, ht]
        rfl
      · rintro acc - rfl
        rw [List.length_map, List.take_length]
        exact ⟨ts, es, rfl, rfl, pm, pw⟩

end DL

namespace DL
open PySem PySem.Spec PyProof.Rows L2
open Evl (Ex ex_l ex_t)
variable [TheW]
open PySem.W (EachIs AllAlike Sortable SortsAt sortVals sortLe keyToks keyToksAll dataKind alike alikeAll)
theorem getT_cons (p : PyData × PyData) (W : Dct) (x : PyData) : getT (p :: W) x = if nk p.1 = nk x then some p.2 else getT W x := by
  unfold getT
  by_cases h : nk p.1 = nk x
  · rw [List.find?_cons_of_pos (by simp [h]), if_pos h]
    rfl
  · rw [List.find?_cons_of_neg (by simp [h]), if_neg h]
theorem getT_map (k v x : PyData) : ∀ W : Dct, getT (W.map fun p => if nk p.1 = nk k then (p.1, v) else p) x =
    if nk k = nk x then (if (W.any fun p => decide (nk p.1 = nk k)) = true then some v else none) else getT W x
  | [] => by
    split
    · rfl
    · rfl
  | p :: W => by
    rw [List.map_cons, getT_cons, getT_cons, getT_map k v x W, List.any_cons]
    by_cases h : nk k = nk x
    · rw [if_pos h, if_pos h]
      by_cases h2 : nk p.1 = nk k
      · rw [if_pos h2]
        have : nk p.1 = nk x := h2.trans h
        rw [if_pos this, decide_eq_true h2]
        rfl
      · rw [if_neg h2]
        have : ¬ nk p.1 = nk x := fun z => h2 (z.trans h.symm)
        rw [if_neg this, decide_eq_false h2, Bool.false_or]
    · rw [if_neg h, if_neg h]
      by_cases h2 : nk p.1 = nk k
      · rw [if_pos h2]
        have : ¬ nk p.1 = nk x := fun z => h (h2.symm.trans z)
        rw [if_neg this, if_neg this]
      · rw [if_neg h2]
theorem getT_app (k v x : PyData) : ∀ W : Dct, (W.any fun p => decide (nk p.1 = nk k)) = false → getT (W ++ [(k, v)]) x = if nk k = nk x then some v else getT W x
  | [], _ => by
    rw [List.nil_append, getT_cons]
  | p :: W, h => by
    rw [List.any_cons, Bool.or_eq_false_iff] at h
    rw [List.cons_append, getT_cons, getT_cons, getT_app k v x W h.2]
    have hp := of_decide_eq_false h.1
    by_cases c : nk k = nk x
    · have : ¬ nk p.1 = nk x := fun z => hp (z.trans c.symm)
      rw [if_neg this]
      rw [if_pos c, if_pos c]
    · rw [if_neg c, if_neg c]
theorem getT_put (W : Dct) (k v x : PyData) : getT (putN W k v) x = if nk k = nk x then some v else getT W x := by
  unfold putN
  split
  · rename_i h
    rw [getT_map, h]
    rfl
  · rename_i h
    exact getT_app k v x W (Bool.not_eq_true _ ▸ h)
theorem getT_in {W : Dct} (nd : (W.map fun p => nk p.1).Nodup) {p : PyData × PyData} (h : p ∈ W) : getT W p.1 = some p.2 := by
  induction W with
  | nil => cases h
  | cons q W ih =>
    rw [List.map_cons, List.nodup_cons] at nd
    rw [getT_cons]
    rcases List.mem_cons.mp h with rfl | h
    · rw [if_pos rfl]
    · have : ¬ nk q.1 = nk p.1 := fun z => nd.1 (List.mem_map.mpr ⟨p, h, z.symm⟩)
      rw [if_neg this]
      exact ih nd.2 h
theorem nodup_nk {W : Dct} (h : ∀ p ∈ W, okT p.1) (nd : (W.map (·.1)).Nodup) : (W.map fun p => nk p.1).Nodup := by
  induction W with
  | nil => exact List.nodup_nil
  | cons q W ih =>
    rw [List.map_cons, List.nodup_cons] at nd ⊢
    refine ⟨fun z => nd.1 ?_, ih (fun p hp => h p (List.mem_cons_of_mem _ hp)) nd.2⟩
    obtain ⟨p, hp, e⟩ := List.mem_map.mp z
    have := nk_same (h p (List.mem_cons_of_mem _ hp)).m e
    exact List.mem_map.mpr ⟨p, hp, this⟩
theorem LotsP.get {m : Nat} {kvs : Dct} (h : LotsP m kvs) {t : PyData} (ht : t ∈ kvs.map (·.1)) : ∃ n : Nat, getT kvs t = some (.int n) ∧ lotD kvs t = .int n ∧ n < m := by
  obtain ⟨p, hp, rfl⟩ := List.mem_map.mp ht
  obtain ⟨n, hn, l⟩ := h.v p hp
  have := getT_in (nodup_nk h.t h.nd) hp
  rw [hn] at this
  exact ⟨n, this, by unfold lotD; rw [this]; rfl, l⟩
theorem LotsP.ok {m : Nat} {kvs : Dct} (h : LotsP m kvs) {t : PyData} (ht : t ∈ kvs.map (·.1)) : okT t := by
  obtain ⟨p, hp, rfl⟩ := List.mem_map.mp ht
  exact h.t p hp
theorem LotsP.cl' {m : Nat} {kvs : Dct} (h : LotsP m kvs) {t : PyData} (ht : t ∈ kvs.map (·.1)) : ∀ q ∈ parts t, q ∈ kvs.map (·.1) := by
  obtain ⟨p, hp, rfl⟩ := List.mem_map.mp ht
  exact h.cl p hp
theorem LotsP.mono {m m' : Nat} {kvs : Dct} (h : LotsP m kvs) (l : m ≤ m') : LotsP m' kvs :=
  ⟨h.t, h.cl, h.nd, fun p hp => by
    obtain ⟨n, e, z⟩ := h.v p hp
    exact ⟨n, e, by omega⟩, h.c⟩
theorem okT.key {t : PyData} (h : okT t) : ∃ e, nk t = some e ∧ e.depth ≤ 8 := by
  obtain ⟨e, h1, h2⟩ := nk_depth t h.m
  exact ⟨e, h1, Nat.le_trans h2 h.d⟩
theorem okT.tup {t : PyData} (h : okT t) : ∃ ds, t = .tuple ds := by
  obtain ⟨nm, ps, rfl, _⟩ := tm_tup h.m
  exact ⟨_, rfl⟩
theorem LotsP.keys {m : Nat} {kvs : Dct} (h : LotsP m kvs) : tupKeys kvs = true := by
  unfold tupKeys
  rw [List.all_eq_true]
  intro p hp
  obtain ⟨ds, e⟩ := (h.t p hp).tup
  rw [e]
/-- a dict by terms, asked for one of its keys -/
theorem idx_lot {m : Nat} {kvs : Dct} (h : LotsP m kvs) {t : PyData} (ht : t ∈ kvs.map (·.1)) : ∃ ds, t = .tuple ds ∧ (∃ e, nk (.tuple ds) = some e ∧ e.depth ≤ 8) ∧ getT kvs (.tuple ds) = some (lotD kvs (.tuple ds)) := by
  obtain ⟨n, h1, h2, _⟩ := h.get ht
  have hk := (h.ok ht).key
  obtain ⟨ds, rfl⟩ := (h.ok ht).tup
  exact ⟨ds, rfl, hk, by rw [h1, h2]⟩
theorem ints_lot {m : Nat} {kvs : Dct} (h : LotsP m kvs) : ∀ ps : List PyData, (∀ p ∈ ps, p ∈ kvs.map (·.1)) → ∃ ns : List Int, ps.map (lotD kvs) = ns.map .int ∧ ns.length = ps.length
  | [], _ => ⟨[], rfl, rfl⟩
  | p :: ps, hp => by
    obtain ⟨n, _, hn, _⟩ := h.get (hp p (List.mem_cons_self ..))
    obtain ⟨ns, h1, h2⟩ := ints_lot h ps fun q hq => hp q (List.mem_cons_of_mem _ hq)
    exact ⟨(n : Int) :: ns, by rw [List.map_cons, hn, h1]; rfl, by rw [List.length_cons, h2]; rfl⟩
theorem shaped_ints (ns : List Int) : SeqAt.shaped (.list (ns.map .int)) = true := by
  unfold SeqAt.shaped
  rw [Bool.and_eq_true, decide_eq_true_eq]
  refine ⟨?_, ?_⟩
  · simp only [PyData.canLay0]
    induction ns with
    | nil => rfl
    | cons n ns ih => simp only [List.map_cons, PyData.canLayAll0, PyData.canLay0, Bool.true_and]; exact ih
  · have : PyData.depthAll (ns.map .int) ≤ 0 := depthAll_le (fun d hd => by
      obtain ⟨n, _, rfl⟩ := List.mem_map.mp hd
      simp only [PyData.depth]
      exact Nat.le_refl _)
    simp only [PyData.depth]
    omega
theorem eqv_ints : ∀ ns ms : List Int, PyData.eqvAll (ns.map .int) (ms.map .int) = decide (ns = ms)
  | [], [] => rfl
  | n :: ns, m :: ms => by
    simp only [List.map_cons, PyData.eqvAll, eqv_ints ns ms, eqv_ii]
    rw [Bool.eq_iff_iff]
    simp
  | [], _ :: _ => rfl
  | _ :: _, [] => rfl
theorem eq_ints (ns ms : List Int) : eqOk (.list (ns.map .int)) (.list (ms.map .int)) = true ∧ PyData.eqv (.list (ns.map .int)) (.list (ms.map .int)) = decide (ns = ms) := by
  refine ⟨?_, ?_⟩
  · unfold eqOk
    rw [shaped_ints, shaped_ints]
    simp
  · simp only [PyData.eqv]
    exact eqv_ints ns ms
theorem int_map_inj {ns ms : List Int} (h : ns.map PyData.int = ms.map .int) : ns = ms := by
  have := congrArg (List.map fun d => match d with | PyData.int n => n | _ => 0) h
  rw [List.map_map, List.map_map] at this
  have e : ((fun d => match d with | PyData.int n => n | _ => 0) ∘ PyData.int) = (id : Int → Int) := by funext x; rfl
  rw [e, List.map_id, List.map_id] at this
  exact this
/-- the loop of forced -/
def dfl : DS := (dSeq (dFor (dAnyK (dIf (dTest (dOp (dLt (fun i j => decide (j < i)) fun i j => ltS j i) (dCB dLen (dCons (dVar 1) dNil)) (dC (.int 1)))) (dVar 0) (dLst dNil))) (dgName 4) (dIfS (dAnd (dTest (dOp dEq (dOp dIx (dVar 4) (dC (.int 0))) (dOp dIx (dVar 1) (dC (.int 0))))) (dTest (dOp dEq (dLc (dItemsT (dSl dSlice (dVar 4) (dPart (dC (.int 1))) dNoPart)) 5 dYes (dIdxN (dVar 0) (dVar 5)) [5]) (dVar 2)))) (dAppend 3 (dIdxN (dVar 0) (dVar 4))) dNext))
    (dRetOwnD 3))
theorem forced_eq : d_l_forced = (dSeq (dParN 2 3 (dLc (dItemsT (dSl dSlice (dVar 1) (dPart (dC (.int 1))) dNoPart)) 5 dYes (dIdxN (dVar 0) (dVar 5)) [5]) (dnLst dNil)) dfl) := rfl
theorem forced_loop {kvs : Dct} {nm : Str} {ps : List PyData} (lp : LotsP 8 kvs) (l7 : kvs.length ≤ 7) (ot : okT (.tuple (.str nm :: ps))) (hp : ∀ p ∈ ps, p ∈ kvs.map (·.1)) :
    dfl { nx := fun _ => post_l_forced [.dict kvs, .tuple (.str nm :: ps)] .none, rt := post_l_forced [.dict kvs, .tuple (.str nm :: ps)] }
      [some (.dat (.dict kvs)), some (.dat (.tuple (.str nm :: ps))), some (.dat (.list (ps.map (lotD kvs)))), some (.own []), none, none] := by
  dsimp only [dfl, dSeq, dAsg, dAsgN, dAsgPop, dAppend, dExtend, dExtendT, dInsert, dPar, dPar3, dAug, dIfS, dFor, dRet, dRetO, dRetOwn, dRetOwnD, dRetN, dDrop, dNext, dBreak, dCont, dFreeze, dFreezeD, dGet2, dIdxN, dBorD, dBorDN, dBorDT, dParDN, dParND, dMax2, dAnyK, dnItems, dDictN, dKeysN, dnSortedND, dPutN, dAsgDN, dParN, dDict0, dBorrow, dBorrowT, dTr, dTest, dAnd, dOr, dNot, dAndV, dOrV, dNotV, dIf, dOp, dUn, dCB, dCall, dnCall, dCallX, dCallV, dTup, dLst, dnLst, dnLc, dLc, dOfN, dnAdd, dnSl, dSl, dSlice, dNoPart, dPart, dIx, isI, isB, dVar, dC, dCons, dNil, dLen, dRepr, dListOf, dTupOf, dItems, dItemsT, itemsOf, dSigns, dRng1, dgName, dgTup, dgCons, dgNil, dEq, dNe, dLt, dIn, dII, dIC, dNeg, dAdd, dRep, dUpper, dJoin, dYes, truD, dAll, dAny, dInt1, dAbs, dChain, List.set, List.getElem?_cons_succ, List.getElem?_cons_zero]
  by_cases c : ps = []
  · subst c
    have hb : decide ((1 : Int) < (([PyData.str nm].length : Nat) : Int)) = false := rfl
    rw [hb, if_neg Bool.false_ne_true]
    refine ⟨rfl, fun i δ => δ = [some (.dat (.dict kvs)), some (.dat (.tuple [.str nm])), some (.dat (.list [])), some (.own []), none, none], rfl, ?_, ?_⟩
    · rintro i x δ hx rfl
      cases hx
    · rintro δ rfl
      refine ⟨kvs, _, [], rfl, rfl, by simp, ?_, by simp⟩
      rintro ⟨u, hu, nm', ps', qs, e, _, ne, _⟩
      cases e
      exact absurd rfl ne
  · have hl : 1 < (PyData.str nm :: ps).length := by
      cases ps with
      | nil => exact absurd rfl c
      | cons p ps => simp only [List.length_cons]; omega
    have hb : decide ((1 : Int) < (((PyData.str nm :: ps).length : Nat) : Int)) = true := decide_eq_true (by omega)
    rw [hb, if_pos rfl]
    have kne : kvs ≠ [] := by
      rintro rfl
      cases ps with
      | nil => exact c rfl
      | cons p ps => cases hp p (List.mem_cons_self ..)
    refine ⟨lp.keys, kne, fun i δ => ∃ (es : List PyData) (q4 q5 : Option DV), δ = [some (.dat (.dict kvs)), some (.dat (.tuple (.str nm :: ps))), some (.dat (.list (ps.map (lotD kvs)))), some (.own es), q4, q5] ∧
      (∀ e ∈ es, ∃ u ∈ kvs.map (·.1), Mt kvs (.tuple (.str nm :: ps)) u ∧ e = lotD kvs u) ∧ ((∃ u ∈ (kvs.map (·.1)).take i, Mt kvs (.tuple (.str nm :: ps)) u) → es ≠ []) ∧ es.length ≤ i,
      ⟨[], none, none, rfl, by simp, by simp, by simp⟩, ?_, ?_⟩
    · rintro i x δ hx ⟨es, q4, q5, rfl, h1, h2, h3⟩
      have hxm := List.mem_of_getElem? hx
      have ox := lp.ok hxm
      have hcl := lp.cl' hxm
      have hi : i < 7 := by
        have := (List.getElem?_eq_some_iff.mp hx).1
        rw [List.length_map] at this
        omega
      obtain ⟨nm', qs, rfl, _, _⟩ := tm_tup ox.m
      have hcl : ∀ q ∈ qs, q ∈ kvs.map (·.1) := hcl
      dsimp only [List.set, List.getElem?_cons_succ, List.getElem?_cons_zero]
      have e0 : atD (.tuple (.str nm' :: qs)) 0 = some (.str nm') := atI0 _ _
      have e1 : atD (.tuple (.str nm :: ps)) 0 = some (.str nm) := atI0 _ _
      rw [e0, e1, cut_one]
      dsimp only
      have tk : ∀ P : PyData → Prop, (∃ u ∈ (kvs.map (·.1)).take (i + 1), P u) → P (.tuple (.str nm' :: qs)) ∨ ∃ u ∈ (kvs.map (·.1)).take i, P u := by
        rintro P ⟨u, hu, z⟩
        rw [List.take_add_one, hx] at hu
        rcases List.mem_append.mp hu with hu | hu
        · exact .inr ⟨u, hu, z⟩
        · rw [List.mem_singleton.mp hu] at z
          exact .inl z
      refine ⟨rfl, ?_⟩
      have skip : ¬ Mt kvs (.tuple (.str nm :: ps)) (.tuple (.str nm' :: qs)) → ∃ (es' : List PyData) (q4 q5' : Option DV), [some (DV.dat (.dict kvs)), some (.dat (.tuple (.str nm :: ps))), some (.dat (.list (ps.map (lotD kvs)))), some (.own es), some (.dat (.tuple (.str nm' :: qs))), q5] = [some (.dat (.dict kvs)), some (.dat (.tuple (.str nm :: ps))), some (.dat (.list (ps.map (lotD kvs)))), some (.own es'), q4, q5'] ∧
          (∀ e ∈ es', ∃ u ∈ kvs.map (·.1), Mt kvs (.tuple (.str nm :: ps)) u ∧ e = lotD kvs u) ∧ ((∃ u ∈ (kvs.map (·.1)).take (i + 1), Mt kvs (.tuple (.str nm :: ps)) u) → es' ≠ []) ∧ es'.length ≤ i + 1 := by
        intro hn
        refine ⟨es, _, _, rfl, h1, fun z => ?_, by omega⟩
        rcases tk _ z with z | z
        · exact absurd z hn
        · exact h2 z
      split
      · rename_i hc
        rw [eqv_ss, beq_iff_eq] at hc
        subst hc
        refine ⟨small_le ?_, fun j acc => acc = (qs.take j).map (lotD kvs), rfl, ?_, ?_⟩
        · have := ox.q
          have : qs.length ≤ 3 := this
          omega
        · rintro j y acc hy - rfl
          rw [if_pos rfl]
          dsimp only [wipeD, List.set, List.getElem?_cons_succ, List.getElem?_cons_zero]
          refine ⟨lp.keys, ?_⟩
          obtain ⟨ds, rfl, hk, hg⟩ := idx_lot lp (hcl y (List.mem_of_getElem? hy))
          exact ⟨hk, _, hg, take_put (lotD kvs) hy⟩
        · rintro acc - rfl
          rw [List.take_length]
          obtain ⟨ns, a1, a2⟩ := ints_lot lp qs hcl
          obtain ⟨ms, b1, b2⟩ := ints_lot lp ps hp
          rw [a1, b1]
          obtain ⟨z1, z2⟩ := eq_ints ns ms
          refine ⟨z1, ?_⟩
          rw [z2]
          by_cases hc : ns = ms
          · rw [if_pos (decide_eq_true hc)]
            have hmt : Mt kvs (.tuple (.str nm' :: ps)) (.tuple (.str nm' :: qs)) := ⟨_, ps, qs, rfl, rfl, c, by rw [a1, b1, hc]⟩
            refine ⟨lp.keys, (lp.ok hxm).key, ?_⟩
            obtain ⟨n, g1, g2, _⟩ := lp.get hxm
            refine ⟨_, g1, small_le (by omega), es ++ [.int n], _, _, rfl, ?_, fun _ => by simp, by rw [List.length_append]; simp only [List.length_cons, List.length_nil]; omega⟩
            intro e he
            rcases List.mem_append.mp he with he | he
            · exact h1 e he
            · rw [List.mem_singleton.mp he]
              exact ⟨_, hxm, hmt, g2.symm⟩
          · rw [if_neg (by rw [decide_eq_true_iff]; exact hc)]
            have := skip ?_
            · rw [b1] at this
              exact this
            · rintro ⟨nm2, ps2, qs2, e1, e2, _, e3⟩
              cases e1
              cases e2
              rw [a1, b1] at e3
              exact hc (int_map_inj e3).symm
      · rename_i hc
        rw [eqv_ss] at hc
        rw [if_neg Bool.false_ne_true]
        refine skip ?_
        rintro ⟨nm2, ps2, qs2, e1, e2, _, e3⟩
        cases e1
        cases e2
        exact hc (beq_self_eq_true _)
    · rintro δ ⟨es, q4, q5, rfl, h1, h2, h3⟩
      rw [List.take_length] at h2
      rw [List.length_map] at h3
      exact ⟨kvs, _, es, rfl, rfl, h1, h2, by omega⟩
theorem dat_l_forced : ∀ ds, pre_l_forced ds → d_l_forced { nx := fun _ => post_l_forced ds .none, rt := post_l_forced ds } (startD 6 (ds.map fun d => some (.dat d))) := by
  rintro ds ⟨kvs, t, rfl, lp, l7, ot, hp⟩
  obtain ⟨nm, ps, rfl, hnm, hps⟩ := tm_tup ot.m
  have hp : ∀ p ∈ ps, p ∈ kvs.map (·.1) := hp
  show d_l_forced _ [some (.dat (.dict kvs)), some (.dat (.tuple (.str nm :: ps))), none, none, none, none]
  rw [forced_eq]
  dsimp only [dSeq, dAsg, dAsgN, dAsgPop, dAppend, dExtend, dExtendT, dInsert, dPar, dPar3, dAug, dIfS, dFor, dRet, dRetO, dRetOwn, dRetOwnD, dRetN, dDrop, dNext, dBreak, dCont, dFreeze, dFreezeD, dGet2, dIdxN, dBorD, dBorDN, dBorDT, dParDN, dParND, dMax2, dAnyK, dnItems, dDictN, dKeysN, dnSortedND, dPutN, dAsgDN, dParN, dDict0, dBorrow, dBorrowT, dTr, dTest, dAnd, dOr, dNot, dAndV, dOrV, dNotV, dIf, dOp, dUn, dCB, dCall, dnCall, dCallX, dCallV, dTup, dLst, dnLst, dnLc, dLc, dOfN, dnAdd, dnSl, dSl, dSlice, dNoPart, dPart, dIx, isI, isB, dVar, dC, dCons, dNil, dLen, dRepr, dListOf, dTupOf, dItems, dItemsT, itemsOf, dSigns, dRng1, dgName, dgTup, dgCons, dgNil, dEq, dNe, dLt, dIn, dII, dIC, dNeg, dAdd, dRep, dUpper, dJoin, dYes, truD, dAll, dAny, dInt1, dAbs, dChain, List.set, List.getElem?_cons_succ, List.getElem?_cons_zero]
  rw [cut_one]
  refine ⟨small_le ?_, fun j acc => acc = (ps.take j).map (lotD kvs), rfl, ?_, ?_⟩
  · have := ot.q
    have : ps.length ≤ 3 := this
    omega
  · rintro j y acc hy - rfl
    rw [if_pos rfl]
    dsimp only [wipeD, List.set, List.getElem?_cons_succ, List.getElem?_cons_zero]
    refine ⟨lp.keys, ?_⟩
    obtain ⟨ds, rfl, hk, hg⟩ := idx_lot lp (hp y (List.mem_of_getElem? hy))
    exact ⟨hk, _, hg, take_put (lotD kvs) hy⟩
  · rintro acc - rfl
    rw [List.take_length]
    exact ⟨rfl, forced_loop lp l7 ot hp⟩

end DL

namespace DL
open PySem PySem.Spec PyProof.Rows L2
open Evl (Ex ex_l ex_t)
variable [TheW]
open PySem.W (EachIs AllAlike Sortable SortsAt sortVals sortLe keyToks keyToksAll dataKind alike alikeAll)
open Classical in
theorem LotsP.put {kvs : Dct} {M : Nat} {x : PyData} {n : Nat} (h : LotsP M kvs) (ox : okT x) (hx : ∀ p ∈ parts x, p ∈ kvs.map (·.1)) (hn : n ≤ M)
    (hf : ∀ u ∈ kvs.map (·.1), Mt kvs x u → PyData.int n = lotD kvs u) (hs : ∀ u ∈ kvs.map (·.1), DL.nd u ≤ DL.nd x) :
    LotsP (max M (n + 1)) (putN kvs x (.int n)) ∧ (∀ t, t ∈ (putN kvs x (.int n)).map (·.1) ↔ t ∈ kvs.map (·.1) ∨ t = x) ∧ lotD (putN kvs x (.int n)) x = .int n ∧ (putN kvs x (.int n)).length ≤ kvs.length + 1 := by
  obtain ⟨ex, hex, _⟩ := ox.key
  have km : ∀ t, t ∈ (putN kvs x (.int n)).map (·.1) ↔ t ∈ kvs.map (·.1) ∨ t = x := by
    intro t
    unfold putN
    split
    · rename_i c
      have em : (kvs.map fun p => if nk p.1 = nk x then (p.1, PyData.int n) else p).map (·.1) = kvs.map (·.1) := by
        rw [List.map_map]
        refine List.map_congr_left fun p _ => ?_
        show (if nk p.1 = nk x then (p.1, PyData.int n) else p).1 = p.1
        split <;> rfl
      rw [em]
      refine ⟨.inl, fun z => z.elim id fun z => ?_⟩
      obtain ⟨p, hp, e⟩ := List.any_eq_true.mp c
      have := nk_same (h.t p hp).m (of_decide_eq_true e)
      rw [z, ← this]
      exact List.mem_map.mpr ⟨p, hp, rfl⟩
    · rw [List.map_append, List.mem_append]
      simp only [List.map_cons, List.map_nil, List.mem_singleton]
  have get : ∀ t, okT t → lotD (putN kvs x (.int n)) t = if t = x then .int n else lotD kvs t := by
    intro t ot
    unfold lotD
    rw [getT_put]
    by_cases c : t = x
    · rw [if_pos c, c, if_pos rfl]
      rfl
    · rw [if_neg c, if_neg (fun z => c (nk_same ot.m z.symm))]
  have len : (putN kvs x (.int n)).length ≤ kvs.length + 1 := by
    unfold putN
    split
    · rw [List.length_map]; omega
    · rw [List.length_append]; exact Nat.le_refl _
  have mem : ∀ p ∈ putN kvs x (.int n), (p ∈ kvs ∨ (okT p.1 ∧ (p.1 = x ∨ p.1 ∈ kvs.map (·.1)) ∧ p.2 = .int n)) := by
    intro p hp
    unfold putN at hp
    split at hp
    · obtain ⟨q, hq, e⟩ := List.mem_map.mp hp
      split at e
      · subst e
        exact .inr ⟨h.t q hq, .inr (List.mem_map.mpr ⟨q, hq, rfl⟩), rfl⟩
      · subst e
        exact .inl hq
    · rcases List.mem_append.mp hp with hp | hp
      · exact .inl hp
      · rw [List.mem_singleton.mp hp]
        exact .inr ⟨ox, .inl rfl, rfl⟩
  refine ⟨⟨?_, ?_, ?_, ?_, ?_⟩, km, by rw [get x ox, if_pos rfl], len⟩
  · intro p hp
    rcases mem p hp with z | z
    · exact h.t p z
    · exact z.1
  · intro p hp q hq
    rw [km]
    rcases mem p hp with z | ⟨_, z | z, _⟩
    · exact .inl (h.cl p z q hq)
    · rw [z] at hq
      exact .inl (hx q hq)
    · exact .inl (h.cl' z q hq)
  · unfold putN
    split
    · have em : (kvs.map fun p => if nk p.1 = nk x then (p.1, PyData.int n) else p).map (·.1) = kvs.map (·.1) := by
        rw [List.map_map]
        refine List.map_congr_left fun p _ => ?_
        show (if nk p.1 = nk x then (p.1, PyData.int n) else p).1 = p.1
        split <;> rfl
      rw [em]
      exact h.nd
    · rename_i c
      rw [List.map_append, List.nodup_append]
      refine ⟨h.nd, by simp, ?_⟩
      intro a ha b hb e
      have e : a = x := e.trans (List.mem_singleton.mp hb)
      obtain ⟨p, hp, e2⟩ := List.mem_map.mp ha
      exact c (List.any_eq_true.mpr ⟨p, hp, decide_eq_true (by rw [e2, e])⟩)
  · intro p hp
    rcases mem p hp with z | ⟨_, _, z⟩
    · obtain ⟨k, e, l⟩ := h.v p z
      exact ⟨k, e, by omega⟩
    · exact ⟨n, z, by omega⟩
  · by_cases c1 : parts x = []
    · intro a ha b hb ⟨nm, ps, qs, ea, _, ne, _⟩
      exfalso
      have na : DL.nd a ≤ DL.nd x := by
        rcases (km a).mp ha with z | z
        · exact hs a z
        · rw [z]; exact Nat.le_refl _
      obtain ⟨nx, px, rfl, _, _⟩ := tm_tup ox.m
      have c1 : px = [] := c1
      subst c1
      have oa : okT a := by
        rcases (km a).mp ha with z | z
        · exact h.ok z
        · rw [z]; exact ox
      obtain ⟨na', pa, rfl, _, hpa⟩ := tm_tup oa.m
      cases ea
      rw [nd_term, nd_term] at na
      cases ps with
      | nil => exact ne rfl
      | cons p pa =>
        obtain ⟨np, pp, rfl, _, _⟩ := tm_tup (tmAll_mem hpa p (List.mem_cons_self ..))
        simp only [ndAll, nd_term] at na
        omega
    · have same : ∀ t ∈ kvs.map (·.1), lotD (putN kvs x (.int n)) t = lotD kvs t := by
        intro t ht
        rw [get t (h.ok ht)]
        split
        · rename_i e
          subst e
          obtain ⟨nx, px, rfl, _, _⟩ := tm_tup ox.m
          exact hf _ ht ⟨_, px, px, rfl, rfl, c1, rfl⟩
        · rfl
      have lx : lotD (putN kvs x (.int n)) x = .int n := by rw [get x ox, if_pos rfl]
      have sameP : ∀ a, a ∈ (putN kvs x (.int n)).map (·.1) → ∀ p ∈ parts a, lotD (putN kvs x (.int n)) p = lotD kvs p := by
        intro a ha p hp
        rcases (km a).mp ha with z | z
        · exact same p (h.cl' z p hp)
        · rw [z] at hp
          exact same p (hx p hp)
      have mt : ∀ a ∈ (putN kvs x (.int n)).map (·.1), ∀ b ∈ (putN kvs x (.int n)).map (·.1), Mt (putN kvs x (.int n)) a b → Mt kvs a b := by
        rintro a ha b hb ⟨nm, ps, qs, rfl, rfl, ne, e⟩
        refine ⟨nm, ps, qs, rfl, rfl, ne, ?_⟩
        have e1 : ps.map (lotD (putN kvs x (.int n))) = ps.map (lotD kvs) := List.map_congr_left fun p hp => sameP _ ha p hp
        have e2 : qs.map (lotD (putN kvs x (.int n))) = qs.map (lotD kvs) := List.map_congr_left fun p hp => sameP _ hb p hp
        rw [← e1, e, e2]
      have sym : ∀ a b, Mt kvs a b → Mt kvs b a := by
        rintro a b ⟨nm, ps, qs, rfl, rfl, ne, e⟩
        refine ⟨nm, qs, ps, rfl, rfl, ?_, e.symm⟩
        rintro rfl
        cases ps with
        | nil => exact ne rfl
        | cons p ps => cases e
      intro a ha b hb hm
      have hq := mt a ha b hb hm
      rcases (km a).mp ha with za | za
      · rcases (km b).mp hb with zb | zb
        · rw [same a za, same b zb]
          exact h.c a za b zb hq
        · subst zb
          rw [same a za, lx]
          exact (hf a za (sym _ _ hq)).symm
      · subst za
        rcases (km b).mp hb with zb | zb
        · rw [same b zb, lx]
          exact hf b zb hq
        · rw [zb]
theorem Mt.two {kvs : Dct} {x u v : PyData} (h1 : Mt kvs x u) (h2 : Mt kvs x v) : Mt kvs u v := by
  obtain ⟨nm, ps, qs, rfl, rfl, ne, e⟩ := h1
  obtain ⟨nm2, ps2, qs2, e1, rfl, _, e2⟩ := h2
  cases e1
  refine ⟨nm, qs, qs2, rfl, rfl, ?_, e.symm.trans e2⟩
  rintro rfl
  cases ps with
  | nil => exact ne rfl
  | cons p ps => cases e
theorem part_nd {p t : PyData} (h : tm t = true) (hp : p ∈ parts t) : nd p < nd t := by
  obtain ⟨nm, ps, rfl, _, _⟩ := tm_tup h
  have := nd_mem (show p ∈ ps from hp)
  rw [nd_term]
  omega
theorem shaped_dec {es : List PyData} (h : ∃ ns : List Int, es = ns.map .int) : eqOk (.list es) (.list []) = true ∧ (PyData.eqv (.list es) (.list []) = true ↔ es = []) := by
  obtain ⟨ns, rfl⟩ := h
  obtain ⟨z1, z2⟩ := eq_ints ns []
  refine ⟨z1, ?_⟩
  have z2 : PyData.eqv (.list (ns.map .int)) (.list []) = decide (ns = []) := z2
  rw [z2, decide_eq_true_iff]
  constructor
  · rintro rfl; rfl
  · intro h
    cases ns with
    | nil => rfl
    | cons n ns => cases h
theorem all_ints {kvs : Dct} {M : Nat} {es : List PyData} (lp : LotsP M kvs) (h : ∀ e ∈ es, ∃ u ∈ kvs.map (·.1), e = lotD kvs u) : ∃ ns : List Int, es = ns.map .int := by
  induction es with
  | nil => exact ⟨[], rfl⟩
  | cons e es ih =>
    obtain ⟨ns, rfl⟩ := ih fun x hx => h x (List.mem_cons_of_mem _ hx)
    obtain ⟨u, hu, rfl⟩ := h e (List.mem_cons_self ..)
    obtain ⟨n, _, hn, _⟩ := lp.get hu
    exact ⟨(n : Int) :: ns, by rw [hn]; rfl⟩
theorem dat_l_drawn_lots : ∀ ds, pre_l_drawn_lots ds → d_l_drawn_lots { nx := fun _ => post_l_drawn_lots ds .none, rt := post_l_drawn_lots ds } (startD 7 (none :: ds.map fun d => some (.dat d))) := by
  rintro ds ⟨ts, rfl, hp⟩
  show d_l_drawn_lots _ [none, some (.dat (.list ts)), none, none, none, none, none]
  dsimp only [d_l_drawn_lots, dSeq, dAsg, dAsgN, dAsgPop, dAppend, dExtend, dExtendT, dInsert, dPar, dPar3, dAug, dIfS, dFor, dRet, dRetO, dRetOwn, dRetOwnD, dRetN, dDrop, dNext, dBreak, dCont, dFreeze, dFreezeD, dGet2, dIdxN, dBorD, dBorDN, dBorDT, dParDN, dParND, dMax2, dAnyK, dnItems, dDictN, dKeysN, dnSortedND, dPutN, dAsgDN, dParN, dDict0, dBorrow, dBorrowT, dTr, dTest, dAnd, dOr, dNot, dAndV, dOrV, dNotV, dIf, dOp, dUn, dCB, dCall, dnCall, dCallX, dCallV, dTup, dLst, dnLst, dnLc, dLc, dOfN, dnAdd, dnSl, dSl, dSlice, dNoPart, dPart, dIx, isI, isB, dVar, dC, dCons, dNil, dLen, dRepr, dListOf, dTupOf, dItems, dItemsT, itemsOf, dSigns, dRng1, dgName, dgTup, dgCons, dgNil, dEq, dNe, dLt, dIn, dII, dIC, dNeg, dAdd, dRep, dUpper, dJoin, dYes, truD, dAll, dAny, dInt1, dAbs, dChain, List.set, List.getElem?_cons_succ, List.getElem?_cons_zero]
  refine ⟨⟨ts, rfl, hp⟩, ?_⟩
  rintro r ⟨_, es, e, rfl, pm, pw⟩
  have e := PyData.list.inj (List.cons.inj e).1
  subst e
  have l7 : es.length ≤ 7 := by rw [pm.length_eq]; exact hp.l
  refine ⟨fun i δ => ∃ (kvs : Dct) (M : Nat) (q4 q5 q6 : Option DV), δ = [none, some (.dat (.list ts)), some (.dct (.dn TheW.w kvs)), some (.dat (.int M)), q4, q5, q6] ∧ M ≤ i ∧ LotsP M kvs ∧ (∀ t, t ∈ kvs.map (·.1) ↔ t ∈ es.take i) ∧ kvs.length ≤ i,
    ⟨[], 0, none, none, none, rfl, Nat.le_refl _, ⟨by simp, by simp, by simp, by simp, by simp⟩, by simp, by simp⟩, ?_, ?_⟩
  · rintro i x δ hx ⟨kvs, M, q4, q5, q6, rfl, hM, lp, hk, hl⟩
    dsimp only [List.set, List.getElem?_cons_succ, List.getElem?_cons_zero]
    have hi : i < 7 := by
      have := (List.getElem?_eq_some_iff.mp hx).1
      omega
    have hxm := List.mem_of_getElem? hx
    have ox : okT x := hp.t x (pm.mem_iff.mp hxm)
    have before : ∀ u ∈ kvs.map (·.1), nd u ≤ nd x := by
      intro u hu
      rw [hk] at hu
      obtain ⟨j, hj⟩ := List.mem_iff_getElem?.mp hu
      rw [List.getElem?_take] at hj
      split at hj
      · rename_i hji
        have hj' := (List.getElem?_eq_some_iff.mp hj)
        have hx' := (List.getElem?_eq_some_iff.mp hx)
        obtain ⟨a1, a2⟩ := hj'
        obtain ⟨b1, b2⟩ := hx'
        rw [← a2, ← b2]
        exact List.pairwise_iff_getElem.mp pw j i a1 b1 hji
      · cases hj
    have px : ∀ p ∈ parts x, p ∈ kvs.map (·.1) := by
      intro p hpx
      have hpt : p ∈ es := pm.mem_iff.mpr (hp.cl x (pm.mem_iff.mp hxm) p hpx)
      have lt := part_nd ox.m hpx
      rw [hk]
      obtain ⟨j, hj⟩ := List.mem_iff_getElem?.mp hpt
      obtain ⟨a1, a2⟩ := List.getElem?_eq_some_iff.mp hj
      obtain ⟨b1, b2⟩ := List.getElem?_eq_some_iff.mp hx
      by_cases c : j < i
      · exact List.mem_iff_getElem?.mpr ⟨j, by rw [List.getElem?_take, if_pos c]; exact hj⟩
      · exfalso
        have : nd x ≤ nd p := by
          by_cases c2 : j = i
          · subst c2
            rw [← a2, ← b2]
            exact Nat.le_refl _
          · rw [← a2, ← b2]
            exact List.pairwise_iff_getElem.mp pw i j b1 a1 (by omega)
        omega
    refine ⟨rfl, ⟨kvs, x, rfl, lp.mono (by omega), by omega, ox, px⟩, ?_⟩
    rintro r ⟨_, _, fs, e, rfl, f1, f2, f3⟩
    cases e
    have hints := all_ints lp (es := fs) fun e he => by
      obtain ⟨u, hu, _, z⟩ := f1 e he
      exact ⟨u, hu, z⟩
    refine ⟨?_, ?_⟩
    · obtain ⟨ns, rfl⟩ := hints
      exact noDAll_of fun d hd => by
        obtain ⟨n, _, rfl⟩ := List.mem_map.mp hd
        rfl
    refine ⟨⟨by omega, log_succ (by omega)⟩, ?_⟩
    rintro r ⟨j, rfl, j0, j1⟩
    obtain ⟨z1, z2⟩ := shaped_dec hints
    refine ⟨rfl, z1, ?_⟩
    have tkm : ∀ t, t ∈ es.take (i + 1) ↔ t ∈ es.take i ∨ t = x := by
      intro t
      rw [List.take_add_one, hx, List.mem_append]
      simp
    have fin : ∀ n : Nat, n ≤ M → (∀ u ∈ kvs.map (·.1), Mt kvs x u → PyData.int n = lotD kvs u) → True ∧ (∃ e ds, nk x = some e ∧ e.depth ≤ 8 ∧ x = .tuple ds) ∧ small (List.length kvs + 1) = true ∧
        TheW.w = TheW.w ∧ (∃ ds, x = .tuple ds ∧ tupKeys (putN kvs x (.int n)) = true ∧ (∃ e, nk (.tuple ds) = some e ∧ e.depth ≤ 8) ∧ getT (putN kvs x (.int n)) (.tuple ds) = some (.int n)) ∧
        ∃ (M' : Nat), (if (n : Int) + 1 > M then (n : Int) + 1 else M) = (M' : Int) ∧ M' ≤ i + 1 ∧ LotsP M' (putN kvs x (.int n)) ∧ (∀ t, t ∈ (putN kvs x (.int n)).map (·.1) ↔ t ∈ es.take (i + 1)) ∧ (putN kvs x (.int n)).length ≤ i + 1 := by
      intro n hn hf
      obtain ⟨e, he, h8⟩ := ox.key
      obtain ⟨ds, hds⟩ := ox.tup
      obtain ⟨p1, p2, p3, p4⟩ := lp.put ox px hn hf before
      have hxin : x ∈ (putN kvs x (.int n)).map (·.1) := (p2 x).mpr (.inr rfl)
      refine ⟨trivial, ⟨e, ds, he, h8, hds⟩, small_le (by omega), rfl, ⟨ds, hds, p1.keys, ⟨e, by rw [← hds]; exact he, h8⟩, ?_⟩, max M (n + 1), ?_, by omega, p1, ?_, by omega⟩
      · obtain ⟨k, g1, g2, _⟩ := p1.get hxin
        rw [← hds, g1, ← g2, p3]
      · by_cases c : (n : Int) + 1 > M
        · rw [if_pos c]; omega
        · rw [if_neg c]; omega
      · intro t
        rw [p2, hk, tkm]
    split
    · rename_i hc
      have hne : fs ≠ [] := fun z => by
        rw [z2.mpr z] at hc
        cases hc
      obtain ⟨f, fr, rfl⟩ : ∃ f fr, fs = f :: fr := by
        cases fs with
        | nil => exact absurd rfl hne
        | cons f fr => exact ⟨f, fr, rfl⟩
      have ea : atD (.list (f :: fr)) 0 = some f := atI0 _ _
      rw [ea]
      obtain ⟨u, hu, mu, rfl⟩ := f1 f (List.mem_cons_self ..)
      obtain ⟨n, _, hn, ln⟩ := lp.get hu
      obtain ⟨_, g2, g3, g4, ⟨ds, rfl, g5, g6, g7⟩, M', g8, g9, g10, g11, g12⟩ := fin n (by omega) fun u' hu' mu' => by
        rw [← hn]
        exact lp.c u hu u' hu' (Mt.two mu mu')
      rw [hn]
      exact ⟨rfl, g2, g3, rfl, g5, g6, _, g7, rfl, _, M', _, _, _, by rw [g8], g9, g10, g11, g12⟩
    · rename_i hc
      have hne : fs = [] := by
        apply z2.mp
        cases q : (PyData.list fs).eqv (.list []) with
        | true => rfl
        | false => rw [q] at hc; exact absurd rfl hc
      obtain ⟨n, rfl⟩ : ∃ n : Nat, j = n := ⟨j.toNat, by omega⟩
      obtain ⟨_, g2, g3, g4, ⟨ds, rfl, g5, g6, g7⟩, M', g8, g9, g10, g11, g12⟩ := fin n (by omega) fun u' hu' mu' => absurd hne (f2 ⟨u', hu', mu'⟩)
      exact ⟨rfl, g2, g3, rfl, g5, g6, _, g7, rfl, _, M', _, _, _, by rw [g8], g9, g10, g11, g12⟩
  · rintro δ ⟨kvs, M, q4, q5, q6, rfl, hM, lp, hk, hl⟩
    rw [List.take_length] at hk
    exact ⟨rfl, ts, kvs, rfl, rfl, lp.mono (by omega), fun t => by rw [hk, pm.mem_iff]⟩

end DL

namespace DL
open PySem PySem.Spec PyProof.Rows L2
open Evl (Ex ex_l ex_t)
variable [TheW]
open PySem.W (EachIs AllAlike Sortable SortsAt sortVals sortLe keyToks keyToksAll dataKind alike alikeAll)
theorem getKs_cons (p : Str × PyData) (r : List (Str × PyData)) (x : Str) : getKs (p :: r) x = if p.1 = x then some p.2 else getKs r x := by
  unfold getKs
  by_cases c : p.1 = x
  · rw [List.find?_cons_of_pos (by simp [c]), if_pos c]
    rfl
  · rw [List.find?_cons_of_neg (by simp [c]), if_neg c]
theorem getKs_map (s : Str) (v : PyData) (x : Str) : ∀ kvs : List (Str × PyData), getKs (kvs.map fun p => if p.1 = s then (p.1, v) else p) x = if x = s then (getKs kvs x).map (fun _ => v) else getKs kvs x
  | [] => by unfold getKs; simp
  | p :: r => by
    rw [List.map_cons, getKs_cons, getKs_cons, getKs_map s v x r]
    by_cases c : p.1 = s <;> by_cases d : x = s <;> by_cases e : p.1 = x <;> simp_all
theorem getKs_app (s : Str) (v : PyData) (x : Str) : ∀ kvs : List (Str × PyData), (kvs.any fun p => decide (p.1 = s)) = false → getKs (kvs ++ [(s, v)]) x = if x = s then some v else getKs kvs x
  | [], _ => by
    rw [List.nil_append, getKs_cons]
    by_cases d : x = s
    · rw [if_pos d.symm, if_pos d]
    · rw [if_neg (fun z => d z.symm), if_neg d]
  | p :: r, h => by
    rw [List.any_cons, Bool.or_eq_false_iff] at h
    have c : p.1 ≠ s := of_decide_eq_false h.1
    rw [List.cons_append, getKs_cons, getKs_cons, getKs_app s v x r h.2]
    by_cases e : p.1 = x
    · rw [if_pos e, if_pos e, if_neg (fun z => c (e.trans z))]
    · rw [if_neg e, if_neg e]
theorem any_get (s : Str) : ∀ kvs : List (Str × PyData), (kvs.any fun p => decide (p.1 = s)) = (getKs kvs s).isSome
  | [] => rfl
  | p :: r => by
    rw [List.any_cons, any_get s r, getKs_cons]
    by_cases c : p.1 = s
    · simp [c]
    · simp [c]
theorem getKs_put (kvs : List (Str × PyData)) (s : Str) (v : PyData) (x : Str) : getKs (putKs kvs s v) x = if x = s then some v else getKs kvs x := by
  unfold putKs
  by_cases c : (kvs.any fun p => decide (p.1 = s)) = true
  · rw [if_pos c, getKs_map]
    by_cases d : x = s
    · rw [if_pos d, if_pos d]
      rw [any_get, ← d] at c
      obtain ⟨y, hy⟩ := Option.isSome_iff_exists.mp c
      rw [hy]; rfl
    · rw [if_neg d, if_neg d]
  · rw [if_neg c, getKs_app s v x kvs ((Bool.not_eq_true _).mp c)]
theorem putKs_len (kvs : List (Str × PyData)) (s : Str) (v : PyData) : (putKs kvs s v).length ≤ kvs.length + 1 := by
  unfold putKs
  split
  · rw [List.length_map]; omega
  · rw [List.length_append, List.length_singleton]; omega
/-- what stands so far: D tells which terms have come, with their numbers -/
def Nums (form : List (List PyData)) (D : Nat → PyData → Prop) (kvs : List (Str × PyData)) : Prop := ∀ (j : Nat) (t : PyData) (s : Str), D j t → s.cps.toList = mkD t → getKs kvs s = some (.int (j : Nat))
theorem dat_lot_numbers : ∀ ds, pre_lot_numbers ds → d_lot_numbers { nx := fun _ => post_lot_numbers ds .none, rt := post_lot_numbers ds } (startD 4 (ds.map fun d => some (.dat d))) := by
  rintro ds ⟨form, rfl, hf⟩
  show d_lot_numbers _ [some (.dat (formD form)), none, none, none]
  unfold formD
  dsimp only [d_lot_numbers, dC2, dPutIn, dPutS, dWalk, dEnum, dgPair, wipeD, dSeq, dAsg, dAsgN, dAsgPop, dAppend, dExtend, dExtendT, dInsert, dPar, dPar3, dAug, dIfS, dFor, dRet, dRetO, dRetOwn, dRetOwnD, dRetN, dDrop, dNext, dBreak, dCont, dFreeze, dFreezeD, dGet2, dIdxN, dBorD, dBorDN, dBorDT, dParDN, dParND, dMax2, dAnyK, dnItems, dDictN, dKeysN, dnSortedND, dPutN, dAsgDN, dParN, dDict0, dBorrow, dBorrowT, dTr, dTest, dAnd, dOr, dNot, dAndV, dOrV, dNotV, dIf, dOp, dUn, dCB, dCall, dnCall, dCallX, dCallV, dTup, dLst, dnLst, dnLc, dLc, dOfN, dnAdd, dnSl, dSl, dSlice, dNoPart, dPart, dIx, isI, isB, dVar, dC, dCons, dNil, dLen, dRepr, dListOf, dTupOf, dItems, dItemsT, itemsOf, dSigns, dRng1, dgName, dgTup, dgCons, dgNil, dEq, dNe, dLt, dIn, dII, dIC, dNeg, dAdd, dRep, dUpper, dJoin, dYes, truD, dAll, dAny, dInt1, dAbs, dChain, List.set, List.getElem?_cons_succ, List.getElem?_cons_zero]
  refine ⟨fun i acc => Nums form (fun j t => j < i ∧ ∃ l, form[j]? = some l ∧ t ∈ l) acc ∧ acc.length ≤ 7 * i, ⟨fun j t s h => absurd h.1 (Nat.not_lt_zero _), Nat.le_refl _⟩, ?_, ?_⟩
  · rintro i x acc hx ⟨hn, hl⟩
    have hi : i < form.length := by
      have := (List.getElem?_eq_some_iff.mp hx).1
      rw [nums_len, List.length_map] at this
      exact this
    have hfi : form[i]? = some form[i] := List.getElem?_eq_getElem hi
    have ex : x = .tuple [.int (i : Nat), .tuple form[i]] := by
      rw [nums_get (d := .tuple form[i]) (by rw [List.getElem?_map, hfi]; rfl)] at hx
      exact (Option.some.inj hx).symm
    subst ex
    have i7 := hf.n
    have l7 : form[i].length ≤ 7 := hf.m _ (List.getElem_mem hi)
    dsimp only
    rw [if_pos rfl]
    refine ⟨fun k acc => Nums form (fun j t => (j < i ∧ ∃ l, form[j]? = some l ∧ t ∈ l) ∨ (j = i ∧ t ∈ form[i].take k)) acc ∧ acc.length ≤ 7 * i + k, ⟨fun j t s h => ?_, by omega⟩, ?_, ?_⟩
    · rcases h with h | ⟨_, h⟩
      · exact hn j t s h
      · rw [List.take_zero] at h; cases h
    · rintro k t acc ht ⟨hn, hl⟩
      have hk : k < form[i].length := (List.getElem?_eq_some_iff.mp ht).1
      have htm := List.mem_of_getElem? ht
      have ot := hf.t _ (List.getElem_mem hi) t htm
      dsimp only
      rw [if_pos rfl]
      refine ⟨⟨t, rfl, ot.m, by have := ot.d; omega, by decide, ot.w⟩, ?_⟩
      rintro r ⟨_, s, e, rfl, hs⟩
      cases e
      dsimp only
      refine ⟨small_le (by omega), fun j u s' h hu => ?_, by have := putKs_len acc s (.int (i : Nat)); omega⟩
      rw [getKs_put]
      have et : form[i].take (k + 1) = form[i].take k ++ [t] := by rw [List.take_add_one, ht]; rfl
      by_cases c : s' = s
      · rw [if_pos c]
        have ou : okT u := by
          rcases h with ⟨_, l, h1, h2⟩ | ⟨_, h⟩
          · exact hf.t l (List.mem_of_getElem? h1) u h2
          · exact hf.t _ (List.getElem_mem hi) u (List.mem_of_mem_take h)
        have eu : u = t := mk_inj ou.m ot.m (by rw [← hu, ← hs, c])
        rcases h with ⟨h0, l, h1, h2⟩ | ⟨h1, h2⟩
        · have := hf.d j i l form[i] u h1 hfi h2 (eu ▸ htm)
          omega
        · rw [h1]
      · rw [if_neg c]
        rcases h with h | ⟨h1, h2⟩
        · exact hn j u s' (.inl h) hu
        · rw [et] at h2
          rcases List.mem_append.mp h2 with h2 | h2
          · exact hn j u s' (.inr ⟨h1, h2⟩) hu
          · rw [List.mem_singleton.mp h2] at hu
            exact absurd (key_same (hu.trans hs.symm)) c
    · rintro acc ⟨hn, hl⟩
      refine ⟨fun j t s h hs => ?_, by omega⟩
      obtain ⟨h0, l, h1, h2⟩ := h
      by_cases c : j < i
      · exact hn j t s (.inl ⟨c, l, h1, h2⟩) hs
      · have ej : j = i := by omega
        subst ej
        rw [hfi] at h1
        cases h1
        exact hn j t s (.inr ⟨rfl, by rw [List.take_length]; exact h2⟩) hs
  · rintro acc ⟨hn, hl⟩
    refine ⟨form, acc, rfl, rfl, fun i l t s h1 h2 h3 => hn i t s ⟨?_, l, h1, h2⟩ h3⟩
    rw [nums_len, List.length_map]
    exact (List.getElem?_eq_some_iff.mp h1).1
end DL

namespace DL
open PySem PySem.Spec PyProof.Rows L2
open Evl (Ex ex_l ex_t)
variable [TheW]
open PySem.W (EachIs AllAlike Sortable SortsAt sortVals sortLe keyToks keyToksAll dataKind alike alikeAll)
theorem formD_inj {f g : List (List PyData)} (h : formD f = formD g) : f = g := by
  have h := PyData.tuple.inj h
  exact (List.map_inj_right (f := PyData.tuple) (fun a b z => PyData.tuple.inj z)).mp h
theorem getI_txt (s : Str) : ∀ kvs : List (Str × PyData), getI (kvs.map fun p => (PyData.str p.1, p.2)) (.inr s) = getKs kvs s
  | [] => rfl
  | p :: r => by
    have ih := getI_txt s r
    unfold getI at ih ⊢
    rw [getKs_cons, List.map_cons]
    by_cases c : p.1 = s
    · rw [List.find?_cons_of_pos (by simp [keyK, c]), if_pos c]; rfl
    · rw [List.find?_cons_of_neg (by simp [keyK, c]), if_neg c]
      exact ih
theorem in_flat {form : List (List PyData)} {t : PyData} (h : t ∈ form.flatten) : ∃ (i : Nat) (l : List PyData), form[i]? = some l ∧ t ∈ l := by
  obtain ⟨l, hl, ht⟩ := List.mem_flatten.mp h
  obtain ⟨i, hi⟩ := List.mem_iff_getElem?.mp hl
  exact ⟨i, l, hi, ht⟩
theorem same_lot {form : List (List PyData)} (hf : FormT form) {i j : Nat} {l m : List PyData} {a b : PyData} (h1 : form[i]? = some l) (h2 : form[j]? = some m) (ha : a ∈ l) (hb : b ∈ m) : (i = j ↔ ∃ l ∈ form, a ∈ l ∧ b ∈ l) := by
  constructor
  · rintro rfl
    rw [h1] at h2
    cases h2
    exact ⟨l, List.mem_of_getElem? h1, ha, hb⟩
  · rintro ⟨k, hk, ka, kb⟩
    obtain ⟨n, hn⟩ := List.mem_iff_getElem?.mp hk
    rw [hf.d i n l k a h1 hn ha ka, hf.d j n m k b h2 hn hb kb]
open Classical in
theorem dat_told_at : ∀ ds, pre_told_at ds → d_told_at { nx := fun _ => post_told_at ds .none, rt := post_told_at ds } (startD 4 (ds.map fun d => some (.dat d))) := by
  rintro ds ⟨c, form, rfl, hf, oc⟩
  show d_told_at _ [some (.dat c.toD), some (.dat (formD form)), none, none]
  dsimp only [d_told_at, dWhile, dIdxK, dSeq, dAsg, dAsgN, dAsgPop, dAppend, dExtend, dExtendT, dInsert, dPar, dPar3, dAug, dIfS, dFor, dRet, dRetO, dRetOwn, dRetOwnD, dRetN, dDrop, dNext, dBreak, dCont, dFreeze, dFreezeD, dGet2, dIdxN, dBorD, dBorDN, dBorDT, dParDN, dParND, dMax2, dAnyK, dnItems, dDictN, dKeysN, dnSortedND, dPutN, dAsgDN, dParN, dDict0, dBorrow, dBorrowT, dTr, dTest, dAnd, dOr, dNot, dAndV, dOrV, dNotV, dIf, dOp, dUn, dCB, dCall, dnCall, dCallX, dCallV, dTup, dLst, dnLst, dnLc, dLc, dOfN, dnAdd, dnSl, dSl, dSlice, dNoPart, dPart, dIx, isI, isB, dVar, dC, dCons, dNil, dLen, dRepr, dListOf, dTupOf, dItems, dItemsT, itemsOf, dSigns, dRng1, dgName, dgTup, dgCons, dgNil, dEq, dNe, dLt, dIn, dII, dIC, dNeg, dAdd, dRep, dUpper, dJoin, dYes, truD, dAll, dAny, dInt1, dAbs, dChain, List.set, List.getElem?_cons_succ, List.getElem?_cons_zero]
  refine ⟨⟨form, rfl, hf⟩, ?_⟩
  rintro r ⟨form', kvs, e, rfl, hk⟩
  obtain rfl := formD_inj (List.cons.inj e).1
  refine ⟨fun m δ => ∃ c' : Cd, δ = [some (.dat c.toD), some (.dat (formD form)), some (.dat (txtD kvs)), some (.dat c'.toD)] ∧ c'.okIn form.flatten ∧ m = c'.dep ∧ comeR (fun a b => ∃ l ∈ form, a ∈ l ∧ b ∈ l) c' = comeR (fun a b => ∃ l ∈ form, a ∈ l ∧ b ∈ l) c, ⟨_, c, rfl, oc, rfl, rfl⟩, ?_⟩
  rintro m δ ⟨c', rfl, o', rfl, e'⟩
  dsimp only [List.set, List.getElem?_cons_succ, List.getElem?_cons_zero]
  cases c' with
  | gd c' => exact o'.elim
  | tell t =>
    simp only [Cd.toD, at_t0, at_t1]
    refine ⟨rfl, ?_⟩
    rw [eq_tell, if_neg Bool.false_ne_true]
    exact ⟨c, form, rfl, by rw [← e']; rfl⟩
  | iff a b y n =>
    obtain ⟨ma, mb, oy, on⟩ := o'
    obtain ⟨i, l, hi, ha⟩ := in_flat ma
    obtain ⟨j, k, hj, hb⟩ := in_flat mb
    have oa := hf.t l (List.mem_of_getElem? hi) a ha
    have ob := hf.t k (List.mem_of_getElem? hj) b hb
    simp only [Cd.toD, at_if0, at_if1, at_if2, at_if3, at_if4]
    refine ⟨rfl, ?_⟩
    rw [eq_if, if_pos rfl]
    refine ⟨⟨a, rfl, oa.m, by have := oa.d; omega, by decide, oa.w⟩, ?_⟩
    rintro r ⟨_, s, e, rfl, hs⟩
    cases e
    refine ⟨.inr s, .int (i : Nat), rfl, by rw [getI_txt]; exact hk i l a s hi ha hs, ?_⟩
    refine ⟨⟨b, rfl, ob.m, by have := ob.d; omega, by decide, ob.w⟩, ?_⟩
    rintro r ⟨_, s', e, rfl, hs'⟩
    cases e
    refine ⟨.inr s', .int (j : Nat), rfl, by rw [getI_txt]; exact hk j k b s' hj hb hs', rfl, ?_⟩
    rw [eqv_ii]
    have sl := same_lot hf hi hj ha hb
    rw [comeR] at e'
    by_cases h : i = j
    · rw [if_pos (by simp [h])]
      rw [if_pos (sl.mp h)] at e'
      exact ⟨y.dep, by simp only [Cd.dep]; omega, y, rfl, oy, rfl, e'⟩
    · rw [if_neg (by simp only [beq_iff_eq]; omega)]
      rw [if_neg (fun z => h (sl.mpr z))] at e'
      exact ⟨n.dep, by simp only [Cd.dep]; omega, n, rfl, on, rfl, e'⟩
open Classical in
theorem dat_l_end : ∀ ds, pre_l_end ds → d_l_end { nx := fun _ => post_l_end ds .none, rt := post_l_end ds } (startD 2 (ds.map fun d => some (.dat d))) := by
  rintro ds ⟨c, kvs, rfl, lp, oc⟩
  show d_l_end _ [some (.dat c.toD), some (.dat (.dict kvs))]
  dsimp only [d_l_end, dWhile, dSeq, dAsg, dAsgN, dAsgPop, dAppend, dExtend, dExtendT, dInsert, dPar, dPar3, dAug, dIfS, dFor, dRet, dRetO, dRetOwn, dRetOwnD, dRetN, dDrop, dNext, dBreak, dCont, dFreeze, dFreezeD, dGet2, dIdxN, dBorD, dBorDN, dBorDT, dParDN, dParND, dMax2, dAnyK, dnItems, dDictN, dKeysN, dnSortedND, dPutN, dAsgDN, dParN, dDict0, dBorrow, dBorrowT, dTr, dTest, dAnd, dOr, dNot, dAndV, dOrV, dNotV, dIf, dOp, dUn, dCB, dCall, dnCall, dCallX, dCallV, dTup, dLst, dnLst, dnLc, dLc, dOfN, dnAdd, dnSl, dSl, dSlice, dNoPart, dPart, dIx, isI, isB, dVar, dC, dCons, dNil, dLen, dRepr, dListOf, dTupOf, dItems, dItemsT, itemsOf, dSigns, dRng1, dgName, dgTup, dgCons, dgNil, dEq, dNe, dLt, dIn, dII, dIC, dNeg, dAdd, dRep, dUpper, dJoin, dYes, truD, dAll, dAny, dInt1, dAbs, dChain, List.set, List.getElem?_cons_succ, List.getElem?_cons_zero]
  refine ⟨fun m δ => ∃ c' : Cd, δ = [some (.dat c'.toD), some (.dat (.dict kvs))] ∧ c'.okIn (kvs.map (·.1)) ∧ m = c'.dep ∧ comeR (fun a b => lotD kvs a = lotD kvs b) c' = comeR (fun a b => lotD kvs a = lotD kvs b) c, ⟨_, c, rfl, oc, rfl, rfl⟩, ?_⟩
  rintro m δ ⟨c', rfl, o', rfl, e'⟩
  dsimp only [List.set, List.getElem?_cons_succ, List.getElem?_cons_zero]
  cases c' with
  | gd c' => exact o'.elim
  | tell t =>
    simp only [Cd.toD, at_t0, at_t1]
    refine ⟨rfl, ?_⟩
    rw [eq_tell, if_neg Bool.false_ne_true]
    exact ⟨c, kvs, rfl, by rw [← e']; rfl⟩
  | iff a b y n =>
    obtain ⟨ma, mb, oy, on⟩ := o'
    obtain ⟨u, hu1, hu2, hu3⟩ := lp.get ma
    obtain ⟨v, hv1, hv2, hv3⟩ := lp.get mb
    obtain ⟨pa, ea⟩ := (lp.ok ma).tup
    obtain ⟨pb, eb⟩ := (lp.ok mb).tup
    have ka := (lp.ok ma).key
    have kb := (lp.ok mb).key
    subst ea eb
    simp only [Cd.toD, at_if0, at_if1, at_if2, at_if3, at_if4]
    refine ⟨rfl, ?_⟩
    rw [eq_if, if_pos rfl]
    refine ⟨lp.keys, ka, _, hu1, lp.keys, kb, _, hv1, rfl, ?_⟩
    rw [eqv_ii]
    rw [comeR, hu2, hv2] at e'
    by_cases h : u = v
    · rw [if_pos (by simp [h])]
      rw [if_pos (by rw [h])] at e'
      exact ⟨y.dep, by simp only [Cd.dep]; omega, y, rfl, oy, rfl, e'⟩
    · rw [if_neg (by simp only [beq_iff_eq]; omega)]
      rw [if_neg (fun z => h (by have := PyData.int.inj z; omega))] at e'
      exact ⟨n.dep, by simp only [Cd.dep]; omega, n, rfl, on, rfl, e'⟩
end DL

namespace DL
open PySem PySem.Spec PyProof.Rows L2
open Evl (Ex ex_l ex_t)
variable [TheW]
open PySem.W (EachIs AllAlike Sortable SortsAt sortVals sortLe keyToks keyToksAll dataKind alike alikeAll)
open Classical in
theorem putN_keys {kvs : Dct} {y v : PyData} (h : ∀ p ∈ kvs, okT p.1) (hy : okT y) (nd : (kvs.map (·.1)).Nodup) :
    (∀ p ∈ putN kvs y v, okT p.1) ∧ ((putN kvs y v).map (·.1)).Nodup ∧ (∀ t, t ∈ (putN kvs y v).map (·.1) ↔ t ∈ kvs.map (·.1) ∨ t = y) ∧ (putN kvs y v).length ≤ kvs.length + 1 ∧ ∀ t, okT t → getT (putN kvs y v) t = if t = y then some v else getT kvs t := by
  have an : (kvs.any fun p => decide (nk p.1 = nk y)) = true ↔ y ∈ kvs.map (·.1) := by
    rw [List.any_eq_true]
    constructor
    · rintro ⟨p, hm, e⟩
      exact List.mem_map.mpr ⟨p, hm, nk_same (h p hm).m (of_decide_eq_true e)⟩
    · intro hm
      obtain ⟨p, hq, rfl⟩ := List.mem_map.mp hm
      exact ⟨p, hq, decide_eq_true rfl⟩
  have gt : ∀ t, okT t → getT (putN kvs y v) t = if t = y then some v else getT kvs t := fun t ot => by
    rw [getT_put]
    by_cases c : t = y
    · rw [if_pos c, if_pos (by rw [c])]
    · rw [if_neg c, if_neg fun z => c (nk_same ot.m z.symm)]
  have em : (kvs.map fun p => if nk p.1 = nk y then (p.1, v) else p).map (·.1) = kvs.map (·.1) := by
    rw [List.map_map]
    refine List.map_congr_left fun p _ => ?_
    show (if nk p.1 = nk y then (p.1, v) else p).1 = p.1
    split <;> rfl
  unfold putN at gt ⊢
  split at gt
  · rename_i c
    rw [if_pos c]
    refine ⟨fun p hm => ?_, by rw [em]; exact nd, fun t => ?_, by rw [List.length_map]; omega, gt⟩
    · obtain ⟨q, hq, e⟩ := List.mem_map.mp (em ▸ List.mem_map.mpr ⟨p, hm, rfl⟩ : p.1 ∈ kvs.map (·.1))
      exact e ▸ h q hq
    · rw [em]
      exact ⟨.inl, fun z => z.elim id fun z => z ▸ an.mp c⟩
  · rename_i c
    rw [if_neg c]
    have hn : y ∉ kvs.map (·.1) := fun z => c (an.mpr z)
    refine ⟨fun p hm => ?_, ?_, fun t => ?_, by rw [List.length_append, List.length_singleton]; omega, gt⟩
    · rcases List.mem_append.mp hm with hm | hm
      · exact h p hm
      · rw [List.mem_singleton.mp hm]; exact hy
    · rw [List.map_append, List.nodup_append]
      refine ⟨nd, by simp, ?_⟩
      intro a ha b hb e
      rw [e.trans (List.mem_singleton.mp hb)] at ha
      exact hn ha
    · rw [List.map_append, List.mem_append]
      simp only [List.map_cons, List.map_nil, List.mem_singleton]
/-- the table so far -/
structure Tb (form : List (List PyData)) (D : Nat → PyData → Prop) (n : Nat) (kvs : Dct) : Prop where
  t : ∀ p ∈ kvs, okT p.1
  nd : (kvs.map (·.1)).Nodup
  m : ∀ t, t ∈ kvs.map (·.1) ↔ ∃ j, D j t
  v : ∀ j t, D j t → getT kvs t = some (.int (j : Nat))
  l : kvs.length ≤ n
theorem dat_l_lots_of : ∀ ds, pre_l_lots_of ds → d_l_lots_of { nx := fun _ => post_l_lots_of ds .none, rt := post_l_lots_of ds } (startD 5 (ds.map fun d => some (.dat d))) := by
  rintro ds ⟨form, rfl, hf⟩
  show d_l_lots_of _ [some (.dat (formD form)), none, none, none, none]
  unfold formD
  dsimp only [d_l_lots_of, dEnum, wipeD, dSeq, dAsg, dAsgN, dAsgPop, dAppend, dExtend, dExtendT, dInsert, dPar, dPar3, dAug, dIfS, dFor, dRet, dRetO, dRetOwn, dRetOwnD, dRetN, dDrop, dNext, dBreak, dCont, dFreeze, dFreezeD, dGet2, dIdxN, dBorD, dBorDN, dBorDT, dParDN, dParND, dMax2, dAnyK, dnItems, dDictN, dKeysN, dnSortedND, dPutN, dAsgDN, dParN, dDict0, dBorrow, dBorrowT, dTr, dTest, dAnd, dOr, dNot, dAndV, dOrV, dNotV, dIf, dOp, dUn, dCB, dCall, dnCall, dCallX, dCallV, dTup, dLst, dnLst, dnLc, dLc, dOfN, dnAdd, dnSl, dSl, dSlice, dNoPart, dPart, dIx, isI, isB, dVar, dC, dCons, dNil, dLen, dRepr, dListOf, dTupOf, dItems, dItemsT, itemsOf, dSigns, dRng1, dgName, dgTup, dgCons, dgNil, dEq, dNe, dLt, dIn, dII, dIC, dNeg, dAdd, dRep, dUpper, dJoin, dYes, truD, dAll, dAny, dInt1, dAbs, dChain, List.set, List.getElem?_cons_succ, List.getElem?_cons_zero]
  refine ⟨fun i δ => ∃ (kvs : Dct) (q2 q3 q4 : Option DV), δ = [some (.dat (.tuple (form.map .tuple))), some (.dct (.dn TheW.w kvs)), q2, q3, q4] ∧ Tb form (fun j t => j < i ∧ ∃ l, form[j]? = some l ∧ t ∈ l) (7 * i) kvs,
    ⟨[], _, _, _, rfl, ⟨(fun _ z => nomatch z), List.nodup_nil, fun t => ⟨(fun z => nomatch z), fun ⟨j, z, _⟩ => absurd z (Nat.not_lt_zero _)⟩, fun j t z => absurd z.1 (Nat.not_lt_zero _), Nat.le_refl _⟩⟩, ?_, ?_⟩
  · rintro i x δ hx ⟨kvs, q2, q3, q4, rfl, tb⟩
    have hi : i < form.length := by
      have := (List.getElem?_eq_some_iff.mp hx).1
      rw [nums_len, List.length_map] at this
      exact this
    have hfi : form[i]? = some form[i] := List.getElem?_eq_getElem hi
    have ex : x = .tuple [.int (i : Nat), .tuple form[i]] := by
      rw [nums_get (d := .tuple form[i]) (by rw [List.getElem?_map, hfi]; rfl)] at hx
      exact (Option.some.inj hx).symm
    subst ex
    have i7 := hf.n
    have l7 : form[i].length ≤ 7 := hf.m _ (List.getElem_mem hi)
    dsimp only [List.set, List.getElem?_cons_succ, List.getElem?_cons_zero]
    refine ⟨rfl, fun k δ => ∃ (kvs : Dct) (q4 : Option DV), δ = [some (.dat (.tuple (form.map .tuple))), some (.dct (.dn TheW.w kvs)), some (.dat (.int (i : Nat))), some (.dat (.tuple form[i])), q4] ∧
      Tb form (fun j t => (j < i ∧ ∃ l, form[j]? = some l ∧ t ∈ l) ∨ (j = i ∧ t ∈ form[i].take k)) (7 * i + k) kvs, ⟨kvs, _, rfl, ⟨tb.t, tb.nd, fun t => ?_, fun j t z => ?_, tb.l⟩⟩, ?_, ?_⟩
    · rw [tb.m]
      refine ⟨fun ⟨j, z⟩ => ⟨j, .inl z⟩, fun ⟨j, z⟩ => ⟨j, z.elim id fun z => ?_⟩⟩
      rw [List.take_zero] at z
      cases z.2
    · refine tb.v j t (z.elim id fun z => ?_)
      rw [List.take_zero] at z
      cases z.2
    · rintro k t δ ht ⟨kvs, q4, rfl, tb⟩
      have htm := List.mem_of_getElem? ht
      have ot := hf.t _ (List.getElem_mem hi) t htm
      obtain ⟨e, he⟩ := ot.key
      obtain ⟨ps, ep⟩ := ot.tup
      have hk : k < form[i].length := (List.getElem?_eq_some_iff.mp ht).1
      have et : form[i].take (k + 1) = form[i].take k ++ [t] := by rw [List.take_add_one, ht]; rfl
      obtain ⟨p1, p2, p3, p4, p5⟩ := putN_keys (v := .int (i : Nat)) tb.t ot tb.nd
      dsimp only [List.set, List.getElem?_cons_succ, List.getElem?_cons_zero]
      have := tb.l
      refine ⟨rfl, ⟨e, ps, he.1, he.2, ep⟩, small_le (by omega), _, _, rfl, ⟨p1, p2, fun u => ?_, fun j u z => ?_, by omega⟩⟩
      · rw [p3, tb.m, et]
        constructor
        · rintro (⟨j, z | ⟨z1, z2⟩⟩ | rfl)
          · exact ⟨j, .inl z⟩
          · exact ⟨j, .inr ⟨z1, List.mem_append_left _ z2⟩⟩
          · exact ⟨i, .inr ⟨rfl, List.mem_append_right _ (List.mem_singleton.mpr rfl)⟩⟩
        · rintro ⟨j, z | ⟨z1, z2⟩⟩
          · exact .inl ⟨j, .inl z⟩
          · rcases List.mem_append.mp z2 with z2 | z2
            · exact .inl ⟨j, .inr ⟨z1, z2⟩⟩
            · exact .inr (List.mem_singleton.mp z2)
      · have ou : okT u := by
          rcases z with ⟨_, l, h1, h2⟩ | ⟨_, h⟩
          · exact hf.t l (List.mem_of_getElem? h1) u h2
          · exact hf.t _ (List.getElem_mem hi) u (List.mem_of_mem_take h)
        rw [p5 u ou]
        by_cases c : u = t
        · rw [if_pos c]
          rcases z with ⟨h0, l, h1, h2⟩ | ⟨h1, h2⟩
          · have := hf.d j i l form[i] u h1 hfi h2 (c ▸ htm)
            omega
          · rw [h1]
        · rw [if_neg c]
          refine tb.v j u (z.imp id fun z => ⟨z.1, ?_⟩)
          have z2 := z.2
          rw [et] at z2
          exact (List.mem_append.mp z2).elim id fun z => absurd (List.mem_singleton.mp z) c
    · rintro δ ⟨kvs, q4, rfl, tb⟩
      have hl := tb.l
      refine ⟨kvs, _, _, _, rfl, ⟨tb.t, tb.nd, fun t => ?_, fun j t z => ?_, by omega⟩⟩
      · rw [tb.m]
        constructor
        · rintro ⟨j, ⟨z, w⟩ | ⟨z1, z2⟩⟩
          · exact ⟨j, by omega, w⟩
          · exact ⟨j, by omega, form[i], (congrArg (fun n => form[n]?) z1).trans hfi, List.mem_of_mem_take z2⟩
        · rintro ⟨j, z, l, h1, h2⟩
          by_cases c : j < i
          · exact ⟨j, .inl ⟨c, l, h1, h2⟩⟩
          · have ej : j = i := by omega
            subst ej
            rw [hfi] at h1
            cases h1
            exact ⟨j, .inr ⟨rfl, by rw [List.take_length]; exact h2⟩⟩
      · obtain ⟨z, l, h1, h2⟩ := z
        by_cases c : j < i
        · exact tb.v j t (.inl ⟨c, l, h1, h2⟩)
        · have ej : j = i := by omega
          subst ej
          rw [hfi] at h1
          cases h1
          exact tb.v j t (.inr ⟨rfl, by rw [List.take_length]; exact h2⟩)
  · rintro δ ⟨kvs, q2, q3, q4, rfl, tb⟩
    dsimp only [List.set, List.getElem?_cons_succ, List.getElem?_cons_zero]
    have hl := tb.l
    have hn := hf.n
    rw [nums_len, List.length_map] at hl tb
    have lt : ∀ {j : Nat} {l : List PyData}, form[j]? = some l → j < form.length := fun h => (List.getElem?_eq_some_iff.mp h).1
    refine ⟨rfl, form, kvs, rfl, rfl, ⟨?_, fun t => ?_, tb.nd, by omega, fun i l t h1 h2 => tb.v i t ⟨lt h1, l, h1, h2⟩⟩⟩
    · unfold tupKeys
      rw [List.all_eq_true]
      intro p hp
      obtain ⟨ps, e⟩ := (tb.t p hp).tup
      rw [e]
    · rw [tb.m]
      constructor
      · rintro ⟨j, _, l, h1, h2⟩
        exact ⟨l, List.mem_of_getElem? h1, h2⟩
      · rintro ⟨l, hl, ht⟩
        obtain ⟨j, hj⟩ := List.mem_iff_getElem?.mp hl
        exact ⟨j, lt hj, l, hj, ht⟩
end DL

namespace DL
open PySem PySem.Spec PyProof.Rows L2
open Evl (Ex ex_l ex_t)
variable [TheW]
open PySem.W (EachIs AllAlike Sortable SortsAt sortVals sortLe keyToks keyToksAll dataKind alike alikeAll)
theorem Tabl.lot {form : List (List PyData)} {L : Dct} (h : Tabl form L) {i : Nat} {l : List PyData} {t : PyData} (h1 : form[i]? = some l) (h2 : t ∈ l) : lotD L t = .int (i : Nat) := by
  unfold lotD
  rw [h.v i l t h1 h2]
  rfl
theorem Tabl.at {form : List (List PyData)} {L : Dct} (h : Tabl form L) {t : PyData} (ht : t ∈ L.map (·.1)) : ∃ (i : Nat) (l : List PyData), form[i]? = some l ∧ t ∈ l ∧ getT L t = some (.int (i : Nat)) ∧ lotD L t = .int (i : Nat) := by
  obtain ⟨l, hl, htl⟩ := (h.m t).mp ht
  obtain ⟨i, hi⟩ := List.mem_iff_getElem?.mp hl
  exact ⟨i, l, hi, htl, h.v i l t hi htl, h.lot hi htl⟩
/-- equal numbers, equal lots -/
theorem Tabl.same {kvs : Dct} {form : List (List PyData)} {L : Dct} (hf : Form kvs form) (h : Tabl form L) {x y : PyData} (hx : x ∈ L.map (·.1)) (hy : y ∈ L.map (·.1)) : lotD L x = lotD L y ↔ lotD kvs x = lotD kvs y := by
  obtain ⟨i, l, h1, h2, _, h3⟩ := h.at hx
  obtain ⟨j, m, k1, k2, _, k3⟩ := h.at hy
  rw [h3, k3, ← hf.s i j l m x y h1 k1 h2 k2]
  constructor
  · intro z
    have := PyData.int.inj z
    omega
  · rintro rfl
    rfl
def kwL (L : Dct) : PyData → PyData
  | .tuple (nm :: ps) => .tuple (nm :: ps.map (lotD L))
  | x => x
theorem lots_eq {kvs L : Dct} : ∀ {ps qs : List PyData}, (∀ p ∈ ps, ∀ q ∈ qs, lotD L p = lotD L q → lotD kvs p = lotD kvs q) → ps.map (lotD L) = qs.map (lotD L) → ps.map (lotD kvs) = qs.map (lotD kvs)
  | [], [], _, _ => rfl
  | [], _ :: _, _, h => by cases h
  | _ :: _, [], _, h => by cases h
  | p :: ps, q :: qs, g, h => by
    rw [List.map_cons, List.map_cons, List.cons.injEq] at h
    rw [List.map_cons, List.map_cons, g p (List.mem_cons_self ..) q (List.mem_cons_self ..) h.1, lots_eq (fun a ha b hb => g a (List.mem_cons_of_mem _ ha) b (List.mem_cons_of_mem _ hb)) h.2]
/-- what all steps know -/
structure OW (kvs : Dct) (form : List (List PyData)) (L : Dct) : Prop where
  f : Form kvs form
  p : LotsP 8 kvs
  t : Tabl form L
theorem OW.mem {kvs L : Dct} {form : List (List PyData)} (h : OW kvs form L) (t : PyData) : t ∈ L.map (·.1) ↔ t ∈ kvs.map (·.1) := by rw [h.t.m, h.f.k]
theorem OW.key {kvs L : Dct} {form : List (List PyData)} (h : OW kvs form L) {x : PyData} (hx : x ∈ L.map (·.1)) : ∃ (nm : Str) (ns : List Int) (ps : List PyData), x = .tuple (.str nm :: ps) ∧ kwL L x = .tuple (.str nm :: ns.map .int) ∧ ps.map (lotD L) = ns.map .int ∧ (∀ p ∈ ps, p ∈ L.map (·.1)) ∧ ps.length ≤ 3 := by
  have hk := (h.mem x).mp hx
  have ok := h.p.ok hk
  obtain ⟨nm, ps, rfl, _, _⟩ := tm_tup ok.m
  have cl : ∀ p ∈ ps, p ∈ L.map (·.1) := fun p hp => (h.mem p).mpr (h.p.cl' hk p hp)
  have numb : ∀ qs : List PyData, (∀ q ∈ qs, q ∈ L.map (·.1)) → ∃ ns : List Int, qs.map (lotD L) = ns.map .int := by
    intro qs
    induction qs with
    | nil => exact fun _ => ⟨[], rfl⟩
    | cons q qs ih =>
      intro hq
      obtain ⟨ns, e⟩ := ih fun q hq' => hq q (List.mem_cons_of_mem _ hq')
      obtain ⟨i, _, _, _, _, e2⟩ := h.t.at (hq q (List.mem_cons_self ..))
      exact ⟨(i : Int) :: ns, by rw [List.map_cons, List.map_cons, e, e2]⟩
  obtain ⟨ns, e⟩ := numb ps cl
  exact ⟨nm, ns, ps, rfl, by show PyData.tuple (.str nm :: ps.map (lotD L)) = _; rw [e], e, cl, ok.q⟩
/-- equal keys, equal lots -/
theorem OW.one {kvs L : Dct} {form : List (List PyData)} (h : OW kvs form L) {x y : PyData} (hx : x ∈ L.map (·.1)) (hy : y ∈ L.map (·.1)) (e : kwL L x = kwL L y) : lotD L x = lotD L y := by
  obtain ⟨nm, ns, ps, rfl, e1, _, c1, _⟩ := h.key hx
  obtain ⟨nm', ms, qs, rfl, e2, _, c2, _⟩ := h.key hy
  unfold kwL at e
  have e := PyData.tuple.inj e
  obtain ⟨e3, e4⟩ := List.cons.inj e
  cases e3
  have e5 := lots_eq (kvs := kvs) (fun p hp q hq => (h.t.same h.f (c1 p hp) (c2 q hq)).mp) e4
  by_cases z : ps = []
  · subst z
    cases qs with
    | nil => rfl
    | cons q qs => cases e4
  · exact (h.t.same h.f hx hy).mpr (h.p.c _ ((h.mem _).mp hx) _ ((h.mem _).mp hy) ⟨_, ps, qs, rfl, rfl, z, e5⟩)
/-- the world so far -/
structure OwW (L : Dct) (done : List PyData) (W : Dct) : Prop where
  k : ∀ p ∈ W, ∃ x ∈ L.map (·.1), p.1 = kwL L x ∧ p.2 = lotD L x
  g : ∀ x ∈ done, getT W (kwL L x) = some (lotD L x)
  l : W.length ≤ done.length
theorem putN_mem {W : Dct} {k v : PyData} {p : PyData × PyData} (h : p ∈ putN W k v) : p ∈ W ∨ p = (k, v) ∨ ∃ q ∈ W, nk q.1 = nk k ∧ p = (q.1, v) := by
  unfold putN at h
  split at h
  · obtain ⟨q, hq, e⟩ := List.mem_map.mp h
    split at e
    · rename_i c
      exact .inr (.inr ⟨q, hq, c, e.symm⟩)
    · exact .inl (e ▸ hq)
  · rcases List.mem_append.mp h with h | h
    · exact .inl h
    · exact .inr (.inl (List.mem_singleton.mp h))
theorem putN_len (W : Dct) (k v : PyData) : (putN W k v).length ≤ W.length + 1 := by
  unfold putN
  split
  · rw [List.length_map]; omega
  · rw [List.length_append, List.length_singleton]; omega
theorem OW.nk {kvs L : Dct} {form : List (List PyData)} (h : OW kvs form L) {x y : PyData} (hx : x ∈ L.map (·.1)) (hy : y ∈ L.map (·.1)) (e : DL.nk (kwL L x) = DL.nk (kwL L y)) : kwL L x = kwL L y := by
  obtain ⟨nm, ns, ps, rfl, e1, _⟩ := h.key hx
  obtain ⟨nm', ms, qs, rfl, e2, _⟩ := h.key hy
  obtain ⟨k1, a1, _⟩ := key_nk nm ns
  rw [← e1] at a1
  exact nk_inj a1 (e ▸ a1)
theorem OW.put {kvs L : Dct} {form : List (List PyData)} (h : OW kvs form L) {done : List PyData} {W : Dct} (w : OwW L done W) (hd : ∀ x ∈ done, x ∈ L.map (·.1)) {x : PyData} (hx : x ∈ L.map (·.1)) : OwW L (done ++ [x]) (putN W (kwL L x) (lotD L x)) := by
  refine ⟨fun p hp => ?_, fun y hy => ?_, by rw [List.length_append, List.length_singleton]; have := putN_len W (kwL L x) (lotD L x); have := w.l; omega⟩
  · rcases putN_mem hp with hp | rfl | ⟨q, hq, e, rfl⟩
    · exact w.k p hp
    · exact ⟨x, hx, rfl, rfl⟩
    · obtain ⟨z, hz, e1, e2⟩ := w.k q hq
      refine ⟨x, hx, ?_, rfl⟩
      rw [e1] at e ⊢
      exact h.nk hz hx e
  · rw [getT_put]
    have hyL : y ∈ L.map (·.1) := by
      rcases List.mem_append.mp hy with hy | hy
      · exact hd y hy
      · rw [List.mem_singleton.mp hy]; exact hx
    by_cases c : DL.nk (kwL L x) = DL.nk (kwL L y)
    · rw [if_pos c, h.one hx hyL (h.nk hx hyL c)]
    · rw [if_neg c]
      rcases List.mem_append.mp hy with hy | hy
      · exact w.g y hy
      · rw [List.mem_singleton.mp hy] at c
        exact absurd rfl c
theorem OW.val {kvs L : Dct} {form : List (List PyData)} (h : OW kvs form L) {W : Dct} (g : ∀ x ∈ L.map (·.1), getT W (kwL L x) = some (lotD L x)) : ∀ (n : Nat) (x : PyData), nd x ≤ n → x ∈ L.map (·.1) → valW W x = lotD L x := by
  intro n
  induction n with
  | zero =>
    intro x hn hx
    have := nd_pos (h.p.ok ((h.mem x).mp hx)).m
    omega
  | succ n ih =>
    intro x hn hx
    have ok := h.p.ok ((h.mem x).mp hx)
    obtain ⟨nm, ns, ps, rfl, e1, e2, cl, _⟩ := h.key hx
    have ev : ps.map (valW W) = ps.map (lotD L) := List.map_congr_left fun p hp => ih p (by have := part_nd (p := p) ok.m hp; omega) (cl p hp)
    rw [valW_tup, ev]
    have := g _ hx
    unfold kwL at this
    rw [this]
    rfl
theorem dat_l_own_world : ∀ ds, pre_l_own_world ds → d_l_own_world { nx := fun _ => post_l_own_world ds .none, rt := post_l_own_world ds } (startD 5 (ds.map fun d => some (.dat d))) := by
  rintro ds ⟨kvs, form, rfl, hf, lp, ne⟩
  show d_l_own_world _ [some (.dat (formD form)), none, none, none, none]
  dsimp only [d_l_own_world, wipeD, dSeq, dAsg, dAsgN, dAsgPop, dAppend, dExtend, dExtendT, dInsert, dPar, dPar3, dAug, dIfS, dFor, dRet, dRetO, dRetOwn, dRetOwnD, dRetN, dDrop, dNext, dBreak, dCont, dFreeze, dFreezeD, dGet2, dIdxN, dBorD, dBorDN, dBorDT, dParDN, dParND, dMax2, dAnyK, dnItems, dDictN, dKeysN, dnSortedND, dPutN, dAsgDN, dParN, dDict0, dBorrow, dBorrowT, dTr, dTest, dAnd, dOr, dNot, dAndV, dOrV, dNotV, dIf, dOp, dUn, dCB, dCall, dnCall, dCallX, dCallV, dTup, dLst, dnLst, dnLc, dLc, dOfN, dnAdd, dnSl, dSl, dSlice, dNoPart, dPart, dIx, isI, isB, dVar, dC, dCons, dNil, dLen, dRepr, dListOf, dTupOf, dItems, dItemsT, itemsOf, dSigns, dRng1, dgName, dgTup, dgCons, dgNil, dEq, dNe, dLt, dIn, dII, dIC, dNeg, dAdd, dRep, dUpper, dJoin, dYes, truD, dAll, dAny, dInt1, dAbs, dChain, List.set, List.getElem?_cons_succ, List.getElem?_cons_zero]
  refine ⟨⟨form, rfl, hf.toFormT⟩, ?_⟩
  rintro r ⟨form', L, e, rfl, tb⟩
  obtain rfl := formD_inj (List.cons.inj e).1
  have ow : OW kvs form L := ⟨hf, lp, tb⟩
  dsimp only
  refine ⟨tb.k, fun z => ne ?_, fun i δ => ∃ (W : Dct) (q3 q4 : Option DV), δ = [some (.dat (formD form)), some (.dat (.dict L)), some (.dct (.dn TheW.w W)), q3, q4] ∧ OwW L ((L.map (·.1)).take i) W, ⟨[], _, _, rfl, ⟨(fun _ z => nomatch z), (fun _ z => by rw [List.take_zero] at z; cases z), Nat.zero_le _⟩⟩, ?_, ?_⟩
  · cases kvs with
    | nil => rfl
    | cons p r =>
      have := (ow.mem p.1).mpr (List.mem_cons_self ..)
      rw [z] at this
      cases this
  · rintro i x δ hx ⟨W, q3, q4, rfl, w⟩
    have hxm := List.mem_of_getElem? hx
    dsimp only [List.set, List.getElem?_cons_succ, List.getElem?_cons_zero]
    have okx := lp.ok ((ow.mem x).mp hxm)
    have key := okx.key
    obtain ⟨j, l, _, _, g1, g2⟩ := tb.at hxm
    obtain ⟨nm, ns, ps, rfl, e1, e2, cl, l3⟩ := ow.key hxm
    refine ⟨tb.k, key, _, g1, rfl, ?_⟩
    have e0 : atD (.tuple (.str nm :: ps)) 0 = some (.str nm) := atI0 _ _
    rw [e0]
    dsimp only
    rw [cut_one]
    refine ⟨rfl, small_le (by omega), fun i acc => acc = (ps.take i).map (lotD L), rfl, ?_, ?_⟩
    · rintro i y acc hy - rfl
      rw [if_pos rfl]
      have hym := cl y (List.mem_of_getElem? hy)
      have ky := (lp.ok ((ow.mem y).mp hym)).key
      obtain ⟨n, m, _, _, b1, b2⟩ := tb.at hym
      obtain ⟨ds, rfl⟩ := (lp.ok ((ow.mem y).mp hym)).tup
      refine ⟨tb.k, ky, _, b1, ?_⟩
      show (ps.take i).map (lotD L) ++ [_] = (ps.take (i + 1)).map (lotD L)
      rw [← take_put (lotD L) hy, b2]
    · rintro acc - rfl
      rw [List.take_length]
      have hl := w.l
      have hL := tb.l
      have ht : ((L.map (·.1)).take i).length ≤ 49 := by
        rw [List.length_take, List.length_map]
        omega
      obtain ⟨k1, a1, a2⟩ := key_nk nm ns
      have et : (L.map (·.1)).take (i + 1) = (L.map (·.1)).take i ++ [.tuple (.str nm :: ps)] := by rw [List.take_add_one, hx]; rfl
      have ek : PyData.tuple ([.str nm] ++ ps.map (lotD L)) = kwL L (.tuple (.str nm :: ps)) := rfl
      refine ⟨small_le ?_, ⟨k1, _, by rw [e2]; exact a1, a2, rfl⟩, small_le (by omega), _, _, _, rfl, ?_⟩
      · simp only [List.length_cons, List.length_map, List.length_nil]
        omega
      · rw [et, ek, ← g2]
        exact ow.put w (fun x hx => List.mem_of_mem_take hx) hxm
  · rintro δ ⟨W, q3, q4, rfl, w⟩
    dsimp only [List.set, List.getElem?_cons_succ, List.getElem?_cons_zero]
    rw [List.take_length] at w
    refine ⟨rfl, form, W, rfl, rfl, ⟨?_, fun p hp => ?_⟩, fun i l t h1 h2 => ?_⟩
    · unfold tupKeys
      rw [List.all_eq_true]
      intro p hp
      obtain ⟨x, hx, e, _⟩ := w.k p hp
      obtain ⟨nm, ns, ps, rfl, e1, _⟩ := ow.key hx
      rw [e, e1]
    · obtain ⟨x, hx, _, e⟩ := w.k p hp
      obtain ⟨j, _, _, _, _, g2⟩ := tb.at hx
      exact ⟨j, by rw [e, g2]⟩
    · have ht : t ∈ L.map (·.1) := (tb.m t).mpr ⟨l, List.mem_of_getElem? h1, h2⟩
      rw [ow.val w.g (nd t) t (Nat.le_refl _) ht, tb.lot h1 h2]
end DL

namespace DL
open PySem PySem.Spec PyProof.Rows L2
open Evl (Ex ex_l ex_t)
variable [TheW]
open PySem.W (EachIs AllAlike Sortable SortsAt sortVals sortLe keyToks keyToksAll dataKind alike alikeAll)
theorem apG_mem {k : Key} {y : PyData} : ∀ {acc : List (Key × List PyData)}, (acc.map (·.1)).Nodup → ∀ g, g ∈ apG acc k y ↔ (g ∈ acc ∧ g.1 ≠ k) ∨ ∃ g0 ∈ acc, g0.1 = k ∧ g = (g0.1, g0.2 ++ [y])
  | [], _, g => by unfold apG; simp
  | p :: r, nd, g => by
    rw [List.map_cons, List.nodup_cons] at nd
    unfold apG
    by_cases c : p.1 = k
    · rw [if_pos c]
      have nr : ∀ q ∈ r, q.1 ≠ k := fun q hq e => nd.1 (by rw [c, ← e]; exact List.mem_map_of_mem hq)
      constructor
      · intro h
        rcases List.mem_cons.mp h with rfl | h
        · exact .inr ⟨p, List.mem_cons_self .., c, rfl⟩
        · exact .inl ⟨List.mem_cons_of_mem _ h, nr g h⟩
      · rintro (⟨h, hk⟩ | ⟨q, hq, e, rfl⟩)
        · rcases List.mem_cons.mp h with rfl | h
          · exact absurd c hk
          · exact List.mem_cons_of_mem _ h
        · rcases List.mem_cons.mp hq with rfl | hq
          · exact List.mem_cons_self ..
          · exact absurd e (nr q hq)
    · rw [if_neg c, List.mem_cons, apG_mem nd.2 g]
      constructor
      · rintro (rfl | ⟨h, hk⟩ | ⟨q, hq, e⟩)
        · exact .inl ⟨List.mem_cons_self .., c⟩
        · exact .inl ⟨List.mem_cons_of_mem _ h, hk⟩
        · exact .inr ⟨q, List.mem_cons_of_mem _ hq, e⟩
      · rintro (⟨h, hk⟩ | ⟨q, hq, e, e2⟩)
        · rcases List.mem_cons.mp h with rfl | h
          · exact .inl rfl
          · exact .inr (.inl ⟨h, hk⟩)
        · rcases List.mem_cons.mp hq with rfl | hq
          · exact absurd e c
          · exact .inr (.inr ⟨q, hq, e, e2⟩)
theorem apG_keys (k : Key) (y : PyData) : ∀ acc : List (Key × List PyData), (apG acc k y).map (·.1) = acc.map (·.1)
  | [] => rfl
  | p :: r => by
    unfold apG
    split
    · rfl
    · rw [List.map_cons, List.map_cons, apG_keys k y r]
theorem any_key {acc : List (Key × List PyData)} {k : Key} : (acc.any fun g => decide (g.1 = k)) = true ↔ k ∈ acc.map (·.1) := by
  rw [List.any_eq_true]
  constructor
  · rintro ⟨g, hg, e⟩
    exact List.mem_map.mpr ⟨g, hg, of_decide_eq_true e⟩
  · intro h
    obtain ⟨g, hg, e⟩ := List.mem_map.mp h
    exact ⟨g, hg, decide_eq_true e⟩
theorem addK_nd {acc : List (Key × List PyData)} {k : Key} (h : (acc.map (·.1)).Nodup) : ((addK acc k).map (·.1)).Nodup ∧ k ∈ (addK acc k).map (·.1) ∧ ∀ g, g ∈ addK acc k → g ∈ acc ∨ g = (k, []) := by
  unfold addK
  by_cases c : (acc.any fun g => decide (g.1 = k)) = true
  · rw [if_pos c]
    exact ⟨h, any_key.mp c, fun g z => .inl z⟩
  · rw [if_neg c]
    refine ⟨?_, by simp, fun g z => ?_⟩
    · rw [List.map_append, List.nodup_append]
      refine ⟨h, by simp, fun a ha b hb e => c (any_key.mpr ?_)⟩
      have e2 : b = k := List.mem_singleton.mp hb
      rw [e, e2] at ha
      exact ha
    · rcases List.mem_append.mp z with z | z
      · exact .inl z
      · exact .inr (List.mem_singleton.mp z)
theorem addK_old {acc : List (Key × List PyData)} {k : Key} {g : Key × List PyData} (h : g ∈ acc) : g ∈ addK acc k := by
  unfold addK
  split
  · exact h
  · exact List.mem_append_left _ h
/-- the lots so far -/
structure GI (kvs : Dct) (done : List PyData) (acc : List (Key × List PyData)) : Prop where
  r : ∀ g ∈ acc, g.2 ≠ [] ∧ ∀ t ∈ g.2, t ∈ done ∧ lotD kvs t = keyD g.1
  c : ∀ t ∈ done, ∃ g ∈ acc, t ∈ g.2
  nd : (acc.map (·.1)).Nodup
  l : acc.length ≤ done.length
  m : ∀ g ∈ acc, g.2.length ≤ done.length
theorem GI.put {kvs : Dct} {done : List PyData} {acc : List (Key × List PyData)} (h : GI kvs done acc) {t : PyData} {k : Key} (e : lotD kvs t = keyD k) : GI kvs (done ++ [t]) (putG acc k t) := by
  obtain ⟨a1, a2, a3⟩ := addK_nd (k := k) h.nd
  have mem := fun g => apG_mem (k := k) (y := t) a1 g
  obtain ⟨c1, c2⟩ := addK_small (k := k) h.m
  obtain ⟨c3, c4⟩ := apG_small (k := k) (y := t) c2
  unfold putG
  refine ⟨fun g hg => ?_, fun u hu => ?_, by rw [apG_keys]; exact a1, by rw [c3, List.length_append, List.length_singleton]; have := h.l; omega, fun g hg => by rw [List.length_append, List.length_singleton]; exact c4 g hg⟩
  · rcases (mem g).mp hg with ⟨h1, h2⟩ | ⟨g0, h1, h2, rfl⟩
    · rcases a3 g h1 with h1 | rfl
      · exact ⟨(h.r g h1).1, fun u hu => ⟨List.mem_append_left _ ((h.r g h1).2 u hu).1, ((h.r g h1).2 u hu).2⟩⟩
      · exact absurd rfl h2
    · refine ⟨by simp, fun u hu => ?_⟩
      rcases List.mem_append.mp hu with hu | hu
      · rcases a3 g0 h1 with h1 | rfl
        · exact ⟨List.mem_append_left _ ((h.r g0 h1).2 u hu).1, ((h.r g0 h1).2 u hu).2⟩
        · cases hu
      · rw [List.mem_singleton.mp hu]
        exact ⟨List.mem_append_right _ (List.mem_singleton.mpr rfl), by rw [h2]; exact e⟩
  · rcases List.mem_append.mp hu with hu | hu
    · obtain ⟨g, hg, hug⟩ := h.c u hu
      by_cases ck : g.1 = k
      · exact ⟨_, (mem _).mpr (.inr ⟨g, addK_old hg, ck, rfl⟩), List.mem_append_left _ hug⟩
      · exact ⟨g, (mem _).mpr (.inl ⟨addK_old hg, ck⟩), hug⟩
    · obtain ⟨g0, hg0, e0⟩ := List.mem_map.mp a2
      exact ⟨_, (mem _).mpr (.inr ⟨g0, hg0, e0, rfl⟩), List.mem_append_right _ hu⟩
theorem keyD_inj {a b : Key} (h : keyD a = keyD b) : a = b := by
  have := congrArg keyK h
  rw [keyK_keyD, keyK_keyD] at this
  exact Option.some.inj this
theorem nodup_key {acc : List (Key × List PyData)} (h : (acc.map (·.1)).Nodup) {g g' : Key × List PyData} (hg : g ∈ acc) (hg' : g' ∈ acc) (e : g.1 = g'.1) : g = g' := by
  induction acc with
  | nil => cases hg
  | cons p r ih =>
    rw [List.map_cons, List.nodup_cons] at h
    rcases List.mem_cons.mp hg with z1 | z1
    · rcases List.mem_cons.mp hg' with z2 | z2
      · rw [z1, z2]
      · exact absurd (by rw [← z1, e]; exact List.mem_map_of_mem z2) h.1
    · rcases List.mem_cons.mp hg' with z2 | z2
      · exact absurd (by rw [← z2, ← e]; exact List.mem_map_of_mem z1) h.1
      · exact ih h.2 z1 z2
theorem GI.one {kvs : Dct} {done : List PyData} {acc : List (Key × List PyData)} (h : GI kvs done acc) {g g' : Key × List PyData} (hg : g ∈ acc) (hg' : g' ∈ acc) {x y : PyData} (hx : x ∈ g.2) (hy : y ∈ g'.2) : lotD kvs x = lotD kvs y ↔ g = g' := by
  have e1 := ((h.r g hg).2 x hx).2
  have e2 := ((h.r g' hg').2 y hy).2
  rw [e1, e2]
  exact ⟨fun z => nodup_key h.nd hg hg' (keyD_inj z), fun z => by rw [z]⟩
theorem GI.lists {kvs : Dct} {done : List PyData} {acc : List (Key × List PyData)} (h : GI kvs done acc) : (acc.map (·.2)).Nodup := by
  have key : ∀ {rs : List (Key × List PyData)}, (∀ g ∈ rs, g ∈ acc) → (rs.map (·.1)).Nodup → (rs.map (·.2)).Nodup := by
    intro rs
    induction rs with
    | nil => exact fun _ _ => List.nodup_nil
    | cons p r ih =>
      intro hs nd
      rw [List.map_cons, List.nodup_cons] at nd ⊢
      refine ⟨fun z => ?_, ih (fun g hg => hs g (List.mem_cons_of_mem _ hg)) nd.2⟩
      obtain ⟨q, hq, e⟩ := List.mem_map.mp z
      have hp := hs p (List.mem_cons_self ..)
      obtain ⟨x, r', ex⟩ := List.exists_cons_of_ne_nil (h.r p hp).1
      have hx : x ∈ p.2 := by rw [ex]; exact List.mem_cons_self ..
      have : p = q := (h.one hp (hs q (List.mem_cons_of_mem _ hq)) hx (e ▸ hx)).mp rfl
      exact nd.1 (this ▸ List.mem_map_of_mem hq)
  exact key (fun g hg => hg) h.nd
theorem nodup_idx {α : Type} {l : List α} (h : l.Nodup) {i j : Nat} {x : α} (hi : l[i]? = some x) (hj : l[j]? = some x) : i = j := by
  obtain ⟨a, e1⟩ := List.getElem?_eq_some_iff.mp hi
  exact (List.getElem?_inj a h).mp (hi.trans hj.symm)
theorem GI.form {kvs : Dct} (lp : LotsP 8 kvs) (l7 : kvs.length ≤ 7) {done : List PyData} {acc : List (Key × List PyData)} (h : GI kvs done acc) (hd : done.Perm (kvs.map (·.1))) {form : List (List PyData)} (pm : form.Perm (acc.map (·.2))) : Form kvs form := by
  have ld : done.length ≤ 7 := by rw [hd.length_eq, List.length_map]; exact l7
  have at_ : ∀ {i : Nat} {l : List PyData}, form[i]? = some l → ∃ g ∈ acc, g.2 = l := fun e => List.mem_map.mp (pm.mem_iff.mp (List.mem_of_getElem? e))
  have nf : form.Nodup := pm.nodup_iff.mpr h.lists
  have S : ∀ (i j : Nat) (l m : List PyData) (x y : PyData), form[i]? = some l → form[j]? = some m → x ∈ l → y ∈ m → (i = j ↔ lotD kvs x = lotD kvs y) := by
    intro i j l m x y h1 h2 hx hy
    obtain ⟨g, hg, rfl⟩ := at_ h1
    obtain ⟨g', hg', rfl⟩ := at_ h2
    rw [h.one hg hg' hx hy]
    constructor
    · rintro rfl
      rw [h1] at h2
      have e2 : g.2 = g'.2 := Option.some.inj h2
      exact (h.one hg hg' hx (e2 ▸ hx)).mp rfl
    · rintro rfl
      exact nodup_idx nf h1 h2
  refine ⟨⟨fun l hl t ht => ?_, fun i j l m t h1 h2 h3 h4 => (S i j l m t t h1 h2 h3 h4).mpr rfl, by rw [pm.length_eq, List.length_map]; have := h.l; omega, fun l hl => ?_⟩, fun t => ?_, S⟩
  · obtain ⟨g, hg, rfl⟩ := List.mem_map.mp (pm.mem_iff.mp hl)
    exact lp.ok (hd.mem_iff.mp ((h.r g hg).2 t ht).1)
  · obtain ⟨g, hg, rfl⟩ := List.mem_map.mp (pm.mem_iff.mp hl)
    have := h.m g hg
    omega
  · rw [← hd.mem_iff]
    constructor
    · intro ht
      obtain ⟨g, hg, htg⟩ := h.c t ht
      exact ⟨g.2, pm.mem_iff.mpr (List.mem_map_of_mem hg), htg⟩
    · rintro ⟨l, hl, ht⟩
      obtain ⟨g, hg, rfl⟩ := List.mem_map.mp (pm.mem_iff.mp hl)
      exact ((h.r g hg).2 t ht).1
end DL

namespace DL
open PySem PySem.Spec PyProof.Rows L2
open Evl (Ex ex_l ex_t)
variable [TheW]
open PySem.W (EachIs AllAlike Sortable SortsAt sortVals sortLe keyToks keyToksAll dataKind alike alikeAll)
def unT : PyData → List PyData
  | .tuple xs => xs
  | _ => []
theorem getI_lists {acc : List (Key × List PyData)} (nd : (acc.map (·.1)).Nodup) {g : Key × List PyData} (hg : g ∈ acc) : getI (keysD (listsD acc)) g.1 = some (.list g.2) := by
  induction acc with
  | nil => cases hg
  | cons p r ih =>
    rw [List.map_cons, List.nodup_cons] at nd
    unfold getI keysD listsD at ih ⊢
    rw [List.map_cons, List.map_cons]
    by_cases c : p.1 = g.1
    · rw [List.find?_cons_of_pos (by simp [keyK_keyD, c])]
      have : g = p := by
        rcases List.mem_cons.mp hg with z | z
        · exact z
        · exact absurd (by rw [c]; exact List.mem_map_of_mem z) nd.1
      rw [this]; rfl
    · rw [List.find?_cons_of_neg (by simp [keyK_keyD, c])]
      rcases List.mem_cons.mp hg with z | z
      · exact absurd (by rw [z]) c
      · exact ih nd.2 z
theorem tmAll_of {ps : List PyData} (h : ∀ p ∈ ps, tm p = true) : tmAll ps = true := by
  induction ps with
  | nil => rfl
  | cons x xs ih =>
    rw [tmAll, h x (List.mem_cons_self ..), ih fun p hp => h p (List.mem_cons_of_mem _ hp)]
    rfl
theorem depth_all {ps : List PyData} {n : Nat} (h : ∀ p ∈ ps, p.depth ≤ n) : PyData.depthAll ps ≤ n := by
  induction ps with
  | nil => exact Nat.zero_le _
  | cons x xs ih =>
    have h1 := h x (List.mem_cons_self ..)
    have h2 := ih fun p hp => h p (List.mem_cons_of_mem _ hp)
    simp only [PyData.depthAll]
    omega
theorem lay_all {ps : List PyData} (h : ∀ p ∈ ps, p.canLay0 = true) : PyData.canLayAll0 ps = true := by
  induction ps with
  | nil => rfl
  | cons x xs ih =>
    rw [PyData.canLayAll0, h x (List.mem_cons_self ..), ih fun p hp => h p (List.mem_cons_of_mem _ hp)]
    rfl
theorem dat_l_shape : ∀ ds, pre_l_shape ds → d_l_shape { nx := fun _ => post_l_shape ds .none, rt := post_l_shape ds } (startD 4 (ds.map fun d => some (.dat d))) := by
  rintro ds ⟨kvs, rfl, lp, ne, l7⟩
  show d_l_shape _ [some (.dat (.dict kvs)), none, none, none]
  dsimp only [d_l_shape, dAsgD, dGroup, wipeD, dSeq, dAsg, dAsgN, dAsgPop, dAppend, dExtend, dExtendT, dInsert, dPar, dPar3, dAug, dIfS, dFor, dRet, dRetO, dRetOwn, dRetOwnD, dRetN, dDrop, dNext, dBreak, dCont, dFreeze, dFreezeD, dGet2, dIdxN, dBorD, dBorDN, dBorDT, dParDN, dParND, dMax2, dAnyK, dnItems, dDictN, dKeysN, dnSortedND, dPutN, dAsgDN, dParN, dDict0, dBorrow, dBorrowT, dTr, dTest, dAnd, dOr, dNot, dAndV, dOrV, dNotV, dIf, dOp, dUn, dCB, dCall, dnCall, dCallX, dCallV, dTup, dLst, dnLst, dnLc, dLc, dOfN, dnAdd, dnSl, dSl, dSlice, dNoPart, dPart, dIx, isI, isB, dVar, dC, dCons, dNil, dLen, dRepr, dListOf, dTupOf, dItems, dItemsT, itemsOf, dSigns, dRng1, dgName, dgTup, dgCons, dgNil, dEq, dNe, dLt, dIn, dII, dIC, dNeg, dAdd, dRep, dUpper, dJoin, dYes, truD, dAll, dAny, dInt1, dAbs, dChain, List.set, List.getElem?_cons_succ, List.getElem?_cons_zero]
  have ok : ∀ t ∈ kvs.map (·.1), okT t := fun t ht => lp.ok ht
  have pm : (sortD (kvs.map (·.1))).Perm (kvs.map (·.1)) := List.mergeSort_perm _ _
  have ln : (sortD (kvs.map (·.1))).length ≤ 7 := by rw [pm.length_eq, List.length_map]; exact l7
  refine ⟨lp.keys, ⟨fun a ha b hb => alike_tm a b (ok a ha).m (ok b hb).m, .inl fun a ha => ?_, fun a ha => Nat.le_trans (ok a ha).d (by decide)⟩, small_le (by omega),
    fun j acc δ => ∃ q2 : Option DV, δ = [some (.dat (.dict kvs)), none, q2, none] ∧ GI kvs ((sortD (kvs.map (·.1))).take j) acc, ⟨_, rfl, ⟨(fun _ z => nomatch z), (fun _ z => by rw [List.take_zero] at z; cases z), List.nodup_nil, Nat.zero_le _, (fun _ z => nomatch z)⟩⟩, ?_, ?_⟩
  · obtain ⟨nm, ps, rfl, _⟩ := tm_tup (ok a ha).m
    exact ⟨_, _, rfl⟩
  · rintro j x acc δ hx ⟨q2, rfl, gi⟩
    have hxm := pm.mem_iff.mp (List.mem_of_getElem? hx)
    obtain ⟨n, g1, g2, _⟩ := lp.get hxm
    have key := (ok x hxm).key
    obtain ⟨ps, rfl⟩ := (ok x hxm).tup
    dsimp only [List.set, List.getElem?_cons_succ, List.getElem?_cons_zero]
    refine ⟨lp.keys, key, _, g1, .inl (n : Int), rfl, _, rfl, ?_⟩
    have et : (sortD (kvs.map (·.1))).take (j + 1) = (sortD (kvs.map (·.1))).take j ++ [.tuple ps] := by rw [List.take_add_one, hx]; rfl
    rw [et]
    exact gi.put g2
  · rintro acc δ ⟨q2, rfl, gi⟩
    rw [List.take_length] at gi
    have an : acc ≠ [] := by
      intro z
      cases kvs with
      | nil => exact ne rfl
      | cons p r =>
        obtain ⟨g, hg, _⟩ := gi.c p.1 (pm.mem_iff.mpr (List.mem_cons_self ..))
        rw [z] at hg
        cases hg
    have al : acc.length ≤ 7 := Nat.le_trans gi.l ln
    have okg : ∀ g ∈ acc, ∀ t ∈ g.2, okT t := fun g hg t ht => ok t (pm.mem_iff.mp ((gi.r g hg).2 t ht).1)
    dsimp only [List.set, List.getElem?_cons_succ, List.getElem?_cons_zero]
    unfold dLockLc dWalk dPutL
    dsimp only [dgName, dYes, dCB, dCons, dNil, dIdxK, dVar, wipeD, List.set, List.getElem?_cons_succ, List.getElem?_cons_zero]
    refine ⟨fun z => an ?_, fun i ac => ac = (acc.take i).map fun g => .tuple g.2, rfl, ?_, ?_⟩
    · unfold listsD at z
      exact List.map_eq_nil_iff.mp z
    · rintro i x ac hx rfl
      rw [if_pos rfl]
      unfold listsD at hx
      rw [List.map_map, List.getElem?_map] at hx
      obtain ⟨g, hg, rfl⟩ := Option.map_eq_some_iff.mp hx
      have hgm := List.mem_of_getElem? hg
      have gl := gi.m g hgm
      refine ⟨small_le (by rw [List.length_map, List.length_take]; omega), g.1, .list g.2, keyK_keyD _, getI_lists gi.nd hgm, ?_⟩
      show (acc.take i).map (fun g => PyData.tuple g.2) ++ [_] = (acc.take (i + 1)).map fun g => PyData.tuple g.2
      rw [List.take_add_one, hg]
      simp
    · rintro ac rfl
      have el : ((listsD acc).map fun p => keyD p.1).length = acc.length := by unfold listsD; rw [List.length_map, List.length_map]
      rw [el, List.take_length]
      have tl : ∀ d ∈ acc.map (fun g => PyData.tuple g.2), ∃ g ∈ acc, d = .tuple g.2 := fun d hd => by
        obtain ⟨g, hg, e⟩ := List.mem_map.mp hd
        exact ⟨g, hg, e.symm⟩
      have sp : (sortD (acc.map fun g => PyData.tuple g.2)).Perm (acc.map fun g => PyData.tuple g.2) := List.mergeSort_perm _ _
      have sl : (sortD (acc.map fun g => PyData.tuple g.2)).length ≤ 7 := by rw [sp.length_eq, List.length_map]; exact al
      refine ⟨Reps.tupOnly_all fun d hd => ?_, ⟨fun a ha b hb => ?_, .inl fun a ha => ?_, fun a ha => ?_, lay_all fun a ha => ?_⟩, kvs, (sortD (acc.map fun g => PyData.tuple g.2)).map unT, rfl, ?_, ?_⟩
      · obtain ⟨g, hg, rfl⟩ := tl d hd
        exact Reps.tupOnly_all fun t ht => (okg g hg t ht).t
      · obtain ⟨g, hg, rfl⟩ := tl a ha
        obtain ⟨g', hg', rfl⟩ := tl b hb
        exact alike_tmAll g.2 g'.2 (tmAll_of fun t ht => (okg g hg t ht).m) (tmAll_of fun t ht => (okg g' hg' t ht).m)
      · obtain ⟨g, hg, rfl⟩ := tl a ha
        obtain ⟨x, r, e⟩ := List.exists_cons_of_ne_nil (gi.r g hg).1
        exact ⟨x, r, by rw [e]⟩
      · obtain ⟨g, hg, rfl⟩ := tl a ha
        have := depth_all (ps := g.2) (n := 8) fun t ht => (okg g hg t ht).d
        simp only [PyData.depth]
        omega
      · obtain ⟨g, hg, rfl⟩ := tl a ha
        rw [PyData.canLay0]
        exact lay_all fun t ht => (okg g hg t ht).lay
      · unfold formD
        rw [List.map_map]
        congr 1
        refine (List.map_id _).symm.trans (List.map_congr_left fun d hd => ?_)
        obtain ⟨g, hg, rfl⟩ := tl d (sp.mem_iff.mp hd)
        rfl
      · refine gi.form lp l7 pm ((sp.map unT).trans ?_)
        rw [List.map_map]
        exact .refl _
end DL

namespace DL
open PySem PySem.Spec PyProof.Rows L2
open Evl (Ex ex_l ex_t)
variable [TheW]
open PySem.W (EachIs AllAlike Sortable SortsAt sortVals sortLe keyToks keyToksAll dataKind alike alikeAll)
theorem dictOf_items : ∀ (ps acc : Dct), (acc.map (fun p => DL.nk p.1) ++ ps.map fun p => DL.nk p.1).Nodup → (itemsD ps).foldl putP2 acc = acc ++ ps
  | [], acc, _ => by simp [itemsD]
  | p :: ps, acc, h => by
    show (itemsD ps).foldl putP2 (putN acc p.1 p.2) = _
    have hn : (acc.any fun q => decide (DL.nk q.1 = DL.nk p.1)) = false := by
      rw [Bool.eq_false_iff]
      intro z
      obtain ⟨q, hq, e⟩ := List.any_eq_true.mp z
      have e := of_decide_eq_true e
      rw [List.nodup_append] at h
      exact h.2.2 _ (List.mem_map.mpr ⟨q, hq, rfl⟩) _ (List.mem_map.mpr ⟨p, List.mem_cons_self .., rfl⟩) e
    have : putN acc p.1 p.2 = acc ++ [(p.1, p.2)] := by
      unfold putN
      rw [hn]
      rfl
    rw [this, dictOf_items ps (acc ++ [(p.1, p.2)])]
    · simp
    · rw [List.map_append, List.append_assoc]
      exact h
/-- bounded data, whatever stands in it -/
structure Sh (D W : Nat) (x : PyData) : Prop where
  f : fit x = true
  d : x.depth ≤ D
  w : wt x ≤ W
theorem Bd.sh {D W : Nat} {x : PyData} (h : Bd D W x) : Sh D W x := ⟨h.f, h.d, h.w⟩
theorem Sh.mono {D W D' W' : Nat} {d : PyData} (h : Sh D W d) (h1 : D ≤ D') (h2 : W ≤ W') : Sh D' W' d := ⟨h.f, Nat.le_trans h.d h1, Nat.le_trans h.w h2⟩
theorem Sh.list {D W : Nat} {ds : List PyData} (h : ∀ d ∈ ds, Sh D W d) : Sh (D + 1) (ds.length * (W + 2) + 3) (.list ds) :=
  ⟨fitAll_of fun d hd => (h d hd).f, by simp only [PyData.depth]; have := depthAll_le fun d hd => (h d hd).d; omega,
    by simp only [wt]; have := wtAll_le fun d hd => (h d hd).w; omega⟩
theorem Sh.tup {D W : Nat} {ds : List PyData} (h : ∀ d ∈ ds, Sh D W d) : Sh (D + 1) (ds.length * (W + 2) + 3) (.tuple ds) :=
  ⟨fitAll_of fun d hd => (h d hd).f, by simp only [PyData.depth]; have := depthAll_le fun d hd => (h d hd).d; omega,
    by simp only [wt]; have := wtAll_le fun d hd => (h d hd).w; omega⟩
theorem Sh.show {D W : Nat} {d : PyData} (h : Sh D W d) (hD : D ≤ 60) (hW : W ≤ 16777216) : showOk d = true := showOk_of h.f (Nat.le_trans h.d hD) (Nat.le_trans h.w hW)
theorem comeR_in {ts : List PyData} (r : PyData → PyData → Prop) : ∀ c : Cd, c.okIn ts → comeR r c ∈ ts
  | .tell t, h => h
  | .gd _, h => h.elim
  | .iff a b y n, h => by
    unfold comeR
    split
    · exact comeR_in r y h.2.2.1
    · exact comeR_in r n h.2.2.2
theorem comeR_congr {r r' : PyData → PyData → Prop} {ts : List PyData} (h : ∀ a ∈ ts, ∀ b ∈ ts, (r a b ↔ r' a b)) : ∀ c : Cd, c.okIn ts → comeR r c = comeR r' c
  | .tell t, _ => rfl
  | .gd _, z => z.elim
  | .iff a b y n, z => by
    unfold comeR
    rw [comeR_congr h y z.2.2.1, comeR_congr h n z.2.2.2]
    by_cases e : r a b
    · rw [if_pos e, if_pos ((h a z.1 b z.2.1).mp e)]
    · rw [if_neg e, if_neg fun w => e ((h a z.1 b z.2.1).mpr w)]
theorem comeW_R (W : Dct) : ∀ c : Cd, comeW W c = comeR (fun a b => valW W a = valW W b) c
  | .tell _ => rfl
  | .gd _ => rfl
  | .iff a b y n => by
    unfold comeW comeR
    rw [comeW_R W y, comeW_R W n]
theorem Cd.okMono {ts us : List PyData} (h : ∀ t ∈ ts, t ∈ us) : ∀ c : Cd, c.okIn ts → c.okIn us
  | .tell t, z => h t z
  | .gd _, z => z
  | .iff a b y n, z => ⟨h a z.1, h b z.2.1, Cd.okMono h y z.2.2.1, Cd.okMono h n z.2.2.2⟩
theorem Cd.okAll {ts : List PyData} (h : ∀ t ∈ ts, okT t) : ∀ c : Cd, c.okIn ts → c.ok
  | .tell t, z => h t z
  | .gd _, z => z
  | .iff a b y n, z => ⟨h a z.1, h b z.2.1, Cd.okAll h y z.2.2.1, Cd.okAll h n z.2.2.2⟩
theorem Cd.okTin {ts es : List PyData} : ∀ c : Cd, c.okIn ts → (∀ u, Tin u c.toD → u ∈ es) → c.okIn es
  | .tell t, _, h => h t (.tell t)
  | .gd _, z, _ => z
  | .iff a b y n, z, h => ⟨h a (.if1 ..), h b (.if2 ..), Cd.okTin y z.2.2.1 fun u w => h u (.if3 _ _ _ _ w), Cd.okTin n z.2.2.2 fun u w => h u (.if4 _ _ _ _ w)⟩
theorem Sub.step {t u p : PyData} (s : Sub t u) (h : p ∈ parts t) : Sub p u := by
  induction s with
  | refl => exact .part h (.refl _)
  | part h1 _ ih => exact .part h1 ih
theorem Form.flat {kvs : Dct} {form : List (List PyData)} (h : Form kvs form) (t : PyData) : t ∈ kvs.map (·.1) ↔ t ∈ form.flatten := by
  rw [h.k, List.mem_flatten]
  rfl
theorem Form.told {kvs : Dct} {form : List (List PyData)} (h : Form kvs form) {c : Cd} (oc : c.okIn (kvs.map (·.1))) : comeR (fun a b => ∃ l ∈ form, a ∈ l ∧ b ∈ l) c = comeR (fun a b => lotD kvs a = lotD kvs b) c := by
  refine comeR_congr (fun a ha b hb => ?_) c oc
  obtain ⟨i, l, h1, h2⟩ := in_flat ((h.flat a).mp ha)
  obtain ⟨j, m, k1, k2⟩ := in_flat ((h.flat b).mp hb)
  rw [← same_lot h.toFormT h1 k1 h2 k2, h.s i j l m a b h1 k1 h2 k2]
/-- a row of the law -/
structure RowP (c : Cd) (kvs own : Dct) (form fo : List (List PyData)) : Prop where
  ok : c.okIn (kvs.map (·.1))
  dp : c.dep ≤ 5
  lp : LotsP 8 kvs
  ne : kvs ≠ []
  f : Form kvs form
  ok' : c.okIn (own.map (·.1))
  f' : Form own fo
  ag : ∀ t ∈ own.map (·.1), t ∈ kvs.map (·.1) ∧ lotD own t = lotD kvs t
noncomputable def dueD (c : Cd) (kvs : Dct) : PyData := comeR (fun a b => lotD kvs a = lotD kvs b) c
noncomputable def rowP (c : Cd) (kvs : Dct) (form fo : List (List PyData)) : PyData := .tuple [c.toD, formD form, formD fo, dueD c kvs]
def RowOk (r : PyData) : Prop := ∃ c kvs own form fo, r = rowP c kvs form fo ∧ RowP c kvs own form fo
theorem FormT.sh {form : List (List PyData)} (h : FormT form) : Sh 14 490136 (formD form) := by
  have h1 : ∀ l ∈ form, Sh 13 70017 (.tuple l) := fun l hl => by
    refine (Sh.tup (D := 12) (W := 10000) fun t ht => (h.t l hl t ht).bd.sh).mono (Nat.le_refl _) ?_
    exact Nat.le_trans (Nat.add_le_add_right (Nat.mul_le_mul_right _ (h.m l hl)) 3) (by decide)
  unfold formD
  refine (Sh.tup (D := 13) (W := 70017) fun d hd => ?_).mono (Nat.le_refl _) ?_
  · obtain ⟨l, hl, rfl⟩ := List.mem_map.mp hd
    exact h1 l hl
  · rw [List.length_map]
    exact Nat.le_trans (Nat.add_le_add_right (Nat.mul_le_mul_right _ h.n) 3) (by decide)
theorem RowP.due {c : Cd} {kvs own : Dct} {form fo : List (List PyData)} (h : RowP c kvs own form fo) : dueD c kvs ∈ kvs.map (·.1) ∧ okT (dueD c kvs) := by
  have := comeR_in (fun a b => lotD kvs a = lotD kvs b) c h.ok
  exact ⟨this, h.lp.ok this⟩
theorem RowP.sh {c : Cd} {kvs own : Dct} {form fo : List (List PyData)} (h : RowP c kvs own form fo) : Sh 19 4130290 (rowP c kvs form fo) := by
  have a := (Cd.bd5 (Cd.okAll (fun t ht => h.lp.ok ht) c h.ok) h.dp).sh
  have b := h.f.toFormT.sh
  have d := h.f'.toFormT.sh
  have e := h.due.2.bd.sh
  unfold rowP
  refine ⟨?_, ?_, ?_⟩
  · show (fit _ && (fit _ && (fit _ && (fit _ && true)))) = true
    rw [a.f, b.f, d.f, e.f]
    rfl
  · have := a.d
    have := b.d
    have := d.d
    have := e.d
    simp only [PyData.depth, PyData.depthAll] at *
    omega
  · have a := a.w
    have b := b.w
    have d := d.w
    have e := e.w
    show wtAll [c.toD, formD form, formD fo, dueD c kvs] + 3 ≤ _
    simp only [wtAll]
    omega
theorem rows_show {rows : List PyData} (h : ∀ r ∈ rows, RowOk r) (l : rows.length ≤ 4) : showOk (.list rows) = true := by
  refine (Sh.list (D := 19) (W := 4130290) fun d hd => ?_).show (by decide) ?_
  · obtain ⟨c, kvs, own, form, fo, rfl, h⟩ := h d hd
    exact h.sh
  · exact Nat.le_trans (Nat.add_le_add_right (Nat.mul_le_mul_right _ l) 3) (by decide)
/-- the lots of some of the terms -/
def cutL (kvs : Dct) (es : List PyData) : Dct := es.map fun t => (t, lotD kvs t)
theorem cutL_keys (kvs : Dct) (es : List PyData) : (cutL kvs es).map (·.1) = es := by
  unfold cutL
  rw [List.map_map]
  exact (List.map_congr_left fun _ _ => rfl).trans (List.map_id _)
theorem cutL_lots {kvs : Dct} {es : List PyData} (lp : LotsP 8 kvs) (hs : ∀ t ∈ es, t ∈ kvs.map (·.1)) (nd : es.Nodup) (cl : ∀ t ∈ es, ∀ p ∈ parts t, p ∈ es) : LotsP 8 (cutL kvs es) ∧ ∀ t ∈ es, lotD (cutL kvs es) t = lotD kvs t := by
  have ks := cutL_keys kvs es
  have okk : ∀ p ∈ cutL kvs es, okT p.1 := fun p hp => by
    have : p.1 ∈ (cutL kvs es).map (·.1) := List.mem_map_of_mem hp
    rw [ks] at this
    exact lp.ok (hs _ this)
  have nk' := nodup_nk okk (by rw [ks]; exact nd)
  have at_ : ∀ t ∈ es, lotD (cutL kvs es) t = lotD kvs t := fun t ht => by
    have hp : (t, lotD kvs t) ∈ cutL kvs es := List.mem_map_of_mem (f := fun t => (t, lotD kvs t)) ht
    have := getT_in nk' hp
    show (getT (cutL kvs es) t).getD .none = _
    rw [this]
    rfl
  refine ⟨⟨okk, fun p hp q hq => ?_, by rw [ks]; exact nd, fun p hp => ?_, fun x hx y hy m => ?_⟩, at_⟩
  · rw [ks]
    have : p.1 ∈ (cutL kvs es).map (·.1) := List.mem_map_of_mem hp
    rw [ks] at this
    exact cl p.1 this q hq
  · obtain ⟨t, ht, rfl⟩ := List.mem_map.mp hp
    obtain ⟨n, _, h2, h3⟩ := lp.get (hs t ht)
    exact ⟨n, h2, h3⟩
  · rw [ks] at hx hy
    rw [at_ x hx, at_ y hy]
    refine lp.c x (hs x hx) y (hs y hy) ?_
    obtain ⟨nm, ps, qs, rfl, rfl, h1, h2⟩ := m
    refine ⟨nm, ps, qs, rfl, rfl, h1, ?_⟩
    have e1 : ps.map (lotD (cutL kvs es)) = ps.map (lotD kvs) := List.map_congr_left fun p hp => at_ p (cl _ hx p hp)
    have e2 : qs.map (lotD (cutL kvs es)) = qs.map (lotD kvs) := List.map_congr_left fun p hp => at_ p (cl _ hy p hp)
    rw [← e1, ← e2]
    exact h2
end DL

namespace DL
open PySem PySem.Spec PyProof.Rows L2
open Evl (Ex ex_l ex_t)
variable [TheW]
open PySem.W (EachIs AllAlike Sortable SortsAt sortVals sortLe keyToks keyToksAll dataKind alike alikeAll)
/-- the parts of the law -/
def dlC : DS := (dSeq (dAsg (dCall pre_l_drawn_lots post_l_drawn_lots (dCons (dVar 4) dNil)) (dgName 7))
    (dSeq (dAsg (dCall pre_l_asked post_l_asked (dCons (dLst (dCons (dVar 6) dNil)) dNil)) (dgName 8))
    (dSeq (dAsg (dCB dDictN (dCons (dLc (dItems (dVar 8)) 13 dYes (dTup (dCons (dVar 13) (dCons (dIdxN (dVar 7) (dVar 13)) dNil))) [13]) dNil)) (dgName 9))
    (dAppend 2 (dTup (dCons (dVar 6) (dCons (dCall pre_l_shape post_l_shape (dCons (dVar 7) dNil)) (dCons (dCall pre_l_shape post_l_shape (dCons (dVar 9) dNil)) (dCons (dOp dIx (dCall pre_l_end post_l_end (dCons (dVar 6) (dCons (dVar 7) dNil))) (dC (.int 1))) dNil)))))))))
def dlE : DS := (dFor (dItems (dOp dAdd (dVar 2) (dOfN (dnCall pre_l_mixed post_l_mixed (dCons (dVar 2) dNil))))) (dgTup 4 (dgCons (dgName 6) (dgCons (dgName 11) (dgCons (dgName 9) (dgCons (dgName 12) dgNil))))) (dSeq (dIfS (dNot (dTest (dCall pre_l_alike post_l_alike (dCons (dLst (dCons (dCall pre_told_at post_told_at (dCons (dVar 6) (dCons (dVar 11) dNil))) (dCons (dCall pre_told_at post_told_at (dCons (dVar 6) (dCons (dVar 9) dNil))) dNil))) (dCons (dLst (dCons (dVar 12) (dCons (dVar 12) dNil))) dNil))))) (dRet (dC (.bool false))) dNext)
    (dIfS (dTest (dOp dNe (dCall pre_answer post_answer (dCons (dVar 6) (dCons (dCall pre_l_own_world post_l_own_world (dCons (dVar 11) dNil)) dNil))) (dIdxN (dCall pre_l_lots_of post_l_lots_of (dCons (dVar 11) dNil)) (dVar 12)))) (dRet (dC (.bool false))) dNext)))
def dlD : DS := (dSeq (dAsg (dCB dRepr (dCons (dVar 2) dNil)) (dgName 10))
    (dSeq dlE
    (dRet (dOp dEq (dCB dRepr (dCons (dVar 2) dNil)) (dVar 10)))))
def dlB : DS := (dSeq (dAsg (dIf (dTest (dOp (dLt (fun i j => decide (j < i)) fun i j => ltS j i) (dVar 3) (dC (.int 0)))) (dCall (pre_l_code 5) post_l_code (dCons (dVar 5) (dCons (dCall pre_l_one post_l_one (dCons (dLst (dCons (dC (.int 4)) (dCons (dC (.int 3)) (dCons (dC (.int 2)) (dCons (dC (.int 0)) dNil))))) dNil)) dNil))) (dCall pre_l_chain post_l_chain (dCons (dVar 5) dNil))) (dgName 6))
    dlC)
theorem law_eq : d_law = (dSeq (dAsgN (dnLst dNil) 2)
    (dSeq (dFor (dRng1 (dCons (dC (.int 4)) dNil)) (dgName 3) (dSeq (dAsg (dCall pre_l_pool post_l_pool (dCons (dOp dIx (dLst (dCons (dC (.int 7)) (dCons (dC (.int 6)) (dCons (dC (.int 5)) (dCons (dC (.int 2)) dNil))))) (dVar 3)) dNil)) (dgName 4))
    (dSeq (dAsg (dIf (dTest (dOp dEq (dCall pre_l_takeB post_l_takeB (dCons (dC (.int 3)) dNil)) (dC (.int 0)))) (dSl dSlice (dVar 4) dNoPart (dPart (dOp dAdd (dC (.int 1)) (dCall pre_l_takeB post_l_takeB (dCons (dCB dLen (dCons (dVar 4) dNil)) dNil))))) (dVar 4)) (dgName 5))
    dlB)))
    (dFreeze 2 dlD))) := rfl
theorem rowC {ts some_ : List PyData} {c : Cd} (hp : PoolL ts) (oc : c.okIn some_) (hs : ∀ t ∈ some_, t ∈ ts) (dc : c.dep ≤ 5) {D : DEnds} {rows : List PyData} (lr : rows.length ≤ 3) {q0 q1 q3 q5 q7 q8 q9 q10 q11 q12 q13 : Option DV}
    (k : ∀ r q7 q8 q9, RowOk r → D.nx [q0, q1, some (.own (rows ++ [r])), q3, some (.dat (.list ts)), q5, some (.dat c.toD), q7, q8, q9, q10, q11, q12, q13]) :
    dlC D [q0, q1, some (.own rows), q3, some (.dat (.list ts)), q5, some (.dat c.toD), q7, q8, q9, q10, q11, q12, q13] := by
  dsimp only [dlC, wipeD, dSeq, dAsg, dAsgN, dAsgPop, dAppend, dExtend, dExtendT, dInsert, dPar, dPar3, dAug, dIfS, dFor, dRet, dRetO, dRetOwn, dRetOwnD, dRetN, dDrop, dNext, dBreak, dCont, dFreeze, dFreezeD, dGet2, dIdxN, dBorD, dBorDN, dBorDT, dParDN, dParND, dMax2, dAnyK, dnItems, dDictN, dKeysN, dnSortedND, dPutN, dAsgDN, dParN, dDict0, dBorrow, dBorrowT, dTr, dTest, dAnd, dOr, dNot, dAndV, dOrV, dNotV, dIf, dOp, dUn, dCB, dCall, dnCall, dCallX, dCallV, dTup, dLst, dnLst, dnLc, dLc, dOfN, dnAdd, dnSl, dSl, dSlice, dNoPart, dPart, dIx, isI, isB, dVar, dC, dCons, dNil, dLen, dRepr, dListOf, dTupOf, dItems, dItemsT, itemsOf, dSigns, dRng1, dgName, dgTup, dgCons, dgNil, dEq, dNe, dLt, dIn, dII, dIC, dNeg, dAdd, dRep, dUpper, dJoin, dYes, truD, dAll, dAny, dInt1, dAbs, dChain, List.set, List.getElem?_cons_succ, List.getElem?_cons_zero]
  have ot := Cd.okMono hs c oc
  refine ⟨⟨ts, rfl, hp⟩, ?_⟩
  rintro r ⟨ts', kvs, e, rfl, lt⟩
  obtain rfl := PyData.list.inj (List.cons.inj e).1
  have th : ThOk ts c.toD := .inl ⟨c, rfl, ot, dc⟩
  refine ⟨rfl, ⟨[c.toD], rfl, ts, hp, fun v hv => by rw [List.mem_singleton.mp hv]; exact th, Nat.le_refl _⟩, ?_⟩
  rintro r ⟨vs, es, e, rfl, du⟩
  obtain rfl : vs = [c.toD] := (PyData.list.inj (List.cons.inj e).1).symm
  have tin : ∀ u, Tin u c.toD → u ∈ es := fun u h => (du.2 u).mpr ⟨_, List.mem_singleton.mpr rfl, u, h, .refl u⟩
  have est : ∀ t ∈ es, t ∈ ts := fun t ht => by
    obtain ⟨v, hv, u, h1, h2⟩ := (du.2 t).mp ht
    rw [List.mem_singleton.mp hv] at h1
    exact sub_mem hp h2 (tin_ts hp th.thi h1)
  have esk : ∀ t ∈ es, t ∈ kvs.map (·.1) := fun t ht => (lt.m t).mpr (est t ht)
  have nd : es.Nodup := List.Pairwise.imp (fun {a b} hab => by
    rintro rfl
    exact List.lt_irrefl _ hab) du.1
  have cl : ∀ t ∈ es, ∀ p ∈ parts t, p ∈ es := fun t ht p hpt => by
    obtain ⟨v, hv, u, h1, h2⟩ := (du.2 t).mp ht
    exact (du.2 p).mpr ⟨v, hv, u, h1, h2.step hpt⟩
  have l7 : es.length ≤ 7 := Nat.le_trans (nodup_le es ts nd est) hp.l
  have k7 : kvs.length ≤ 7 := by
    have := nodup_le (kvs.map (·.1)) ts lt.nd fun x hx => (lt.m x).mp hx
    rw [List.length_map] at this
    exact Nat.le_trans this hp.l
  have kn : kvs ≠ [] := by
    rintro rfl
    cases ts with
    | nil => exact hp.ne rfl
    | cons t _ => cases (lt.m t).mpr (List.mem_cons_self ..)
  have oe := c.okTin oc tin
  have en : es ≠ [] := by
    rintro rfl
    cases c with
    | tell t => cases oe
    | gd _ => exact oe
    | iff a b y n => cases oe.1
  obtain ⟨lp', ag⟩ := cutL_lots lt.toLotsP esk nd cl
  have ek := cutL_keys kvs es
  have okc : c.okIn (kvs.map (·.1)) := Cd.okMono (fun t ht => (lt.m t).mpr ht) c ot
  dsimp only
  refine ⟨small_le (by omega), fun i acc => acc = (es.take i).map fun t => .tuple [t, lotD kvs t], rfl, ?_, ?_⟩
  · rintro i t acc ht - rfl
    rw [if_pos rfl]
    have htk := esk t (List.mem_of_getElem? ht)
    have key := (lt.ok htk).key
    obtain ⟨n, g1, g2, _⟩ := lt.get htk
    obtain ⟨ps, rfl⟩ := (lt.ok htk).tup
    refine ⟨lt.keys, key, _, g1, rfl, ?_⟩
    show _ ++ [_] = (es.take (i + 1)).map fun t => PyData.tuple [t, lotD kvs t]
    rw [← take_put (fun t => PyData.tuple [t, lotD kvs t]) ht, g2]
  · rintro acc - rfl
    rw [List.take_length]
    have eit : es.map (fun t => PyData.tuple [t, lotD kvs t]) = itemsD (cutL kvs es) := by
      unfold itemsD cutL
      rw [List.map_map]
      rfl
    have edi : dictOf (es.map fun t => PyData.tuple [t, lotD kvs t]) = cutL kvs es := by
      rw [eit]
      have := dictOf_items (cutL kvs es) [] (by simpa using nodup_nk lp'.t lp'.nd)
      rw [List.nil_append] at this
      exact this
    refine ⟨fun p hpm => ?_, ?_⟩
    · obtain ⟨t, ht, rfl⟩ := List.mem_map.mp hpm
      have o := lt.ok (esk t ht)
      exact ⟨o.tup, o.key⟩
    rw [edi]
    refine ⟨⟨kvs, rfl, lt.toLotsP, kn, k7⟩, ?_⟩
    rintro r ⟨_, form, e, rfl, hf⟩
    cases e
    refine ⟨⟨cutL kvs es, rfl, lp', ?_, by unfold cutL; rw [List.length_map]; exact l7⟩, ?_⟩
    · intro z
      unfold cutL at z
      exact en (List.map_eq_nil_iff.mp z)
    rintro r ⟨own, fo, e, rfl, hf'⟩
    obtain rfl := PyData.dict.inj (List.cons.inj e).1
    refine ⟨⟨c, kvs, rfl, lt.toLotsP, okc⟩, ?_⟩
    rintro r ⟨c', _, e, rfl⟩
    obtain rfl := Cd.inj _ _ (List.cons.inj e).1
    obtain rfl := PyData.dict.inj (List.cons.inj (List.cons.inj e).2).1
    have row : RowP c kvs (cutL kvs es) form fo := ⟨okc, dc, lt.toLotsP, kn, hf, by rw [ek]; exact oe, hf', fun t ht => by rw [ek] at ht; exact ⟨esk t ht, ag t ht⟩⟩
    rw [at_t1]
    exact ⟨rfl, small_le (by omega), k _ _ _ _ ⟨c, kvs, _, form, fo, rfl, row⟩⟩
end DL

namespace DL
open PySem PySem.Spec PyProof.Rows L2
open Evl (Ex ex_l ex_t)
variable [TheW]
open PySem.W (EachIs AllAlike Sortable SortsAt sortVals sortLe keyToks keyToksAll dataKind alike alikeAll)
theorem law_rows {rows : List PyData} (h : ∀ r ∈ rows, RowOk r) (l : rows.length ≤ 4) {D : DEnds} {q0 q1 q3 q4 q5 q6 q7 q8 q9 q10 q11 q12 q13 : Option DV}
    (k : ∀ q6 q9 q11 q12, D.nx [q0, q1, some (.dat (.list rows)), q3, q4, q5, q6, q7, q8, q9, q10, q11, q12, q13]) :
    dlE D [q0, q1, some (.dat (.list rows)), q3, q4, q5, q6, q7, q8, q9, q10, q11, q12, q13] := by
  dsimp only [dlE, dSeq, dAsg, dAsgN, dAsgPop, dAppend, dExtend, dExtendT, dInsert, dPar, dPar3, dAug, dIfS, dFor, dRet, dRetO, dRetOwn, dRetOwnD, dRetN, dDrop, dNext, dBreak, dCont, dFreeze, dFreezeD, dGet2, dIdxN, dBorD, dBorDN, dBorDT, dParDN, dParND, dMax2, dAnyK, dnItems, dDictN, dKeysN, dnSortedND, dPutN, dAsgDN, dParN, dDict0, dBorrow, dBorrowT, dTr, dTest, dAnd, dOr, dNot, dAndV, dOrV, dNotV, dIf, dOp, dUn, dCB, dCall, dnCall, dCallX, dCallV, dTup, dLst, dnLst, dnLc, dLc, dOfN, dnAdd, dnSl, dSl, dSlice, dNoPart, dPart, dIx, isI, isB, dVar, dC, dCons, dNil, dLen, dRepr, dListOf, dTupOf, dItems, dItemsT, itemsOf, dSigns, dRng1, dgName, dgTup, dgCons, dgNil, dEq, dNe, dLt, dIn, dII, dIC, dNeg, dAdd, dRep, dUpper, dJoin, dYes, truD, dAll, dAny, dInt1, dAbs, dChain, List.set, List.getElem?_cons_succ, List.getElem?_cons_zero]
  refine ⟨⟨rows, rfl, by omega⟩, ?_⟩
  rintro es ⟨xs, e, pm⟩
  obtain rfl := PyData.list.inj (List.cons.inj e).1
  have le := pm.length_eq
  refine ⟨small_le (by omega), fun _ δ => ∃ q6 q9 q11 q12, δ = [q0, q1, some (.dat (.list rows)), q3, q4, q5, q6, q7, q8, q9, q10, q11, q12, q13], ⟨_, _, _, _, rfl⟩, ?_, ?_⟩
  · rintro i x δ hx ⟨q6, q9, q11, q12, rfl⟩
    obtain ⟨c, kvs, own, form, fo, rfl, row⟩ : RowOk x := by
      rcases List.mem_append.mp (List.mem_of_getElem? hx) with z | z
      · exact h x z
      · exact h x (pm.mem_iff.mp z)
    obtain ⟨hdk, hdo⟩ := row.due
    have t1 : comeR (fun a b => ∃ l ∈ form, a ∈ l ∧ b ∈ l) c = dueD c kvs := row.f.told row.ok
    have t2 : comeR (fun a b => ∃ l ∈ fo, a ∈ l ∧ b ∈ l) c = dueD c kvs := by
      rw [row.f'.told row.ok']
      exact comeR_congr (fun a ha b hb => by rw [(row.ag a ha).2, (row.ag b hb).2]) c row.ok'
    obtain ⟨j, l, hj, hl⟩ := in_flat ((row.f.flat _).mp hdk)
    unfold rowP
    generalize hdue : dueD c kvs = due at *
    dsimp only [List.set, List.getElem?_cons_succ, List.getElem?_cons_zero]
    refine ⟨rfl, ⟨c, form, rfl, row.f.toFormT, Cd.okMono (fun t ht => (row.f.flat t).mp ht) c row.ok⟩, ?_⟩
    rintro r ⟨c', form', e, rfl⟩
    obtain rfl := Cd.inj _ _ (List.cons.inj e).1
    obtain rfl := formD_inj (List.cons.inj (List.cons.inj e).2).1
    refine ⟨⟨c, fo, rfl, row.f'.toFormT, Cd.okMono (fun t ht => (row.f'.flat t).mp ht) c row.ok'⟩, ?_⟩
    rintro r ⟨c', fo', e, rfl⟩
    obtain rfl := Cd.inj _ _ (List.cons.inj e).1
    obtain rfl := formD_inj (List.cons.inj (List.cons.inj e).2).1
    rw [t1, t2]
    refine ⟨rfl, rfl, ?_⟩
    refine alike_list (D := 12) (W := 10000) (ds := [due, due]) (fun d hd => ?_) (by decide) (by show 2 * (10000 + 2) + 2 ≤ _; decide) ?_
    · rcases List.mem_cons.mp hd with rfl | hd
      · exact hdo.bd
      · rw [List.mem_singleton.mp hd]; exact hdo.bd
    dsimp only
    rw [if_neg (by decide)]
    refine ⟨⟨kvs, form, rfl, row.f, row.lp, row.ne⟩, ?_⟩
    rintro r ⟨form', W, e, rfl, wok, wv⟩
    obtain rfl := formD_inj (List.cons.inj e).1
    refine ⟨⟨c, W, rfl, Cd.okAll (fun t ht => row.lp.ok ht) c row.ok, wok⟩, ?_⟩
    rintro r ⟨c', W', e, rfl⟩
    obtain rfl := Cd.inj _ _ (List.cons.inj e).1
    obtain rfl := PyData.dict.inj (List.cons.inj (List.cons.inj e).2).1
    refine ⟨⟨form, rfl, row.f.toFormT⟩, ?_⟩
    rintro r ⟨form', L, e, rfl, tb⟩
    obtain rfl := formD_inj (List.cons.inj e).1
    have ecome : comeW W c = due := by
      rw [comeW_R, ← hdue]
      refine comeR_congr (fun a ha b hb => ?_) c row.ok
      obtain ⟨i1, l1, h1, h2⟩ := in_flat ((row.f.flat a).mp ha)
      obtain ⟨i2, l2, k1, k2⟩ := in_flat ((row.f.flat b).mp hb)
      rw [wv i1 l1 a h1 h2, wv i2 l2 b k1 k2, ← row.f.s i1 i2 l1 l2 a b h1 k1 h2 k2]
      constructor
      · intro z
        have := PyData.int.inj z
        omega
      · rintro rfl
        rfl
    have ev : valW W (comeW W c) = .int (j : Nat) := by rw [ecome]; exact wv j l due hj hl
    have eg := tb.v j l due hj hl
    have key := hdo.key
    obtain ⟨ps, rfl⟩ := hdo.tup
    rw [ev]
    refine ⟨tb.k, key, _, eg, rfl, ?_⟩
    rw [eqv_ii, beq_self_eq_true]
    show if false = true then _ else _
    rw [if_neg Bool.false_ne_true]
    exact ⟨_, _, _, _, rfl⟩
  · rintro δ ⟨q6, q9, q11, q12, rfl⟩
    exact k _ _ _ _
theorem law_tail {rows : List PyData} (h : ∀ r ∈ rows, RowOk r) (l : rows.length ≤ 4) {q0 q1 q3 q4 q5 q6 q7 q8 q9 q10 q11 q12 q13 : Option DV} :
    dlD { nx := fun _ => False, rt := fun d => d = .bool true } [q0, q1, some (.dat (.list rows)), q3, q4, q5, q6, q7, q8, q9, q10, q11, q12, q13] := by
  dsimp only [dlD, dSeq, dAsg, dAsgN, dAsgPop, dAppend, dExtend, dExtendT, dInsert, dPar, dPar3, dAug, dIfS, dFor, dRet, dRetO, dRetOwn, dRetOwnD, dRetN, dDrop, dNext, dBreak, dCont, dFreeze, dFreezeD, dGet2, dIdxN, dBorD, dBorDN, dBorDT, dParDN, dParND, dMax2, dAnyK, dnItems, dDictN, dKeysN, dnSortedND, dPutN, dAsgDN, dParN, dDict0, dBorrow, dBorrowT, dTr, dTest, dAnd, dOr, dNot, dAndV, dOrV, dNotV, dIf, dOp, dUn, dCB, dCall, dnCall, dCallX, dCallV, dTup, dLst, dnLst, dnLc, dLc, dOfN, dnAdd, dnSl, dSl, dSlice, dNoPart, dPart, dIx, isI, isB, dVar, dC, dCons, dNil, dLen, dRepr, dListOf, dTupOf, dItems, dItemsT, itemsOf, dSigns, dRng1, dgName, dgTup, dgCons, dgNil, dEq, dNe, dLt, dIn, dII, dIC, dNeg, dAdd, dRep, dUpper, dJoin, dYes, truD, dAll, dAny, dInt1, dAbs, dChain, List.set, List.getElem?_cons_succ, List.getElem?_cons_zero]
  refine ⟨rows_show h l, ?_⟩
  refine law_rows h l fun q6 q9 q11 q12 => ?_
  dsimp only [dSeq, dAsg, dAsgN, dAsgPop, dAppend, dExtend, dExtendT, dInsert, dPar, dPar3, dAug, dIfS, dFor, dRet, dRetO, dRetOwn, dRetOwnD, dRetN, dDrop, dNext, dBreak, dCont, dFreeze, dFreezeD, dGet2, dIdxN, dBorD, dBorDN, dBorDT, dParDN, dParND, dMax2, dAnyK, dnItems, dDictN, dKeysN, dnSortedND, dPutN, dAsgDN, dParN, dDict0, dBorrow, dBorrowT, dTr, dTest, dAnd, dOr, dNot, dAndV, dOrV, dNotV, dIf, dOp, dUn, dCB, dCall, dnCall, dCallX, dCallV, dTup, dLst, dnLst, dnLc, dLc, dOfN, dnAdd, dnSl, dSl, dSlice, dNoPart, dPart, dIx, isI, isB, dVar, dC, dCons, dNil, dLen, dRepr, dListOf, dTupOf, dItems, dItemsT, itemsOf, dSigns, dRng1, dgName, dgTup, dgCons, dgNil, dEq, dNe, dLt, dIn, dII, dIC, dNeg, dAdd, dRep, dUpper, dJoin, dYes, truD, dAll, dAny, dInt1, dAbs, dChain, List.set, List.getElem?_cons_succ, List.getElem?_cons_zero]
  refine ⟨rows_show h l, rfl, ?_⟩
  rw [eqv_ss, beq_self_eq_true]
end DL

namespace DL
open PySem PySem.Spec PyProof.Rows L2
open Evl (Ex ex_l ex_t)
variable [TheW]
open PySem.W (EachIs AllAlike Sortable SortsAt sortVals sortLe keyToks keyToksAll dataKind alike alikeAll)
theorem pool_at33 (i : Nat) (h : i < 4) : ∃ m : Int, atD (.list [.int 7, .int 6, .int 5, .int 2]) (i : Int) = some (.int m) ∧ 2 ≤ m ∧ m ≤ 7 := by
  match i, h with
  | 0, _ => exact ⟨7, rfl, by decide, by decide⟩
  | 1, _ => exact ⟨6, rfl, by decide, by decide⟩
  | 2, _ => exact ⟨5, rfl, by decide, by decide⟩
  | 3, _ => exact ⟨2, rfl, by decide, by decide⟩
  | n + 4, h => omega
theorem rowB {ts us : List PyData} (hp : PoolL ts) (pw : PoolW us) (hs : ∀ t ∈ us, t ∈ ts) {D : DEnds} {rows : List PyData} (lr : rows.length ≤ 3) {i : Nat} {q0 q1 q6 q7 q8 q9 q10 q11 q12 q13 : Option DV}
    (k : ∀ r q6 q7 q8 q9, RowOk r → D.nx [q0, q1, some (.own (rows ++ [r])), some (.dat (.int i)), some (.dat (.list ts)), some (.dat (.list us)), q6, q7, q8, q9, q10, q11, q12, q13]) :
    dlB D [q0, q1, some (.own rows), some (.dat (.int i)), some (.dat (.list ts)), some (.dat (.list us)), q6, q7, q8, q9, q10, q11, q12, q13] := by
  dsimp only [dlB, dSeq, dAsg, dAsgN, dAsgPop, dAppend, dExtend, dExtendT, dInsert, dPar, dPar3, dAug, dIfS, dFor, dRet, dRetO, dRetOwn, dRetOwnD, dRetN, dDrop, dNext, dBreak, dCont, dFreeze, dFreezeD, dGet2, dIdxN, dBorD, dBorDN, dBorDT, dParDN, dParND, dMax2, dAnyK, dnItems, dDictN, dKeysN, dnSortedND, dPutN, dAsgDN, dParN, dDict0, dBorrow, dBorrowT, dTr, dTest, dAnd, dOr, dNot, dAndV, dOrV, dNotV, dIf, dOp, dUn, dCB, dCall, dnCall, dCallX, dCallV, dTup, dLst, dnLst, dnLc, dLc, dOfN, dnAdd, dnSl, dSl, dSlice, dNoPart, dPart, dIx, isI, isB, dVar, dC, dCons, dNil, dLen, dRepr, dListOf, dTupOf, dItems, dItemsT, itemsOf, dSigns, dRng1, dgName, dgTup, dgCons, dgNil, dEq, dNe, dLt, dIn, dII, dIC, dNeg, dAdd, dRep, dUpper, dJoin, dYes, truD, dAll, dAny, dInt1, dAbs, dChain, List.set, List.getElem?_cons_succ, List.getElem?_cons_zero]
  by_cases c : (0 : Int) < i
  · rw [if_pos (by simpa using c)]
    refine ⟨rfl, ⟨by simp, rfl⟩, ?_⟩
    intro r1 hr1
    obtain ⟨u, rfl, u4⟩ : ∃ u : Nat, r1 = .int u ∧ u ≤ 4 := by
      rcases List.mem_cons.mp (show r1 ∈ [PyData.int 4, .int 3, .int 2, .int 0] from hr1) with rfl | h
      · exact ⟨4, rfl, by decide⟩
      rcases List.mem_cons.mp h with rfl | h
      · exact ⟨3, rfl, by decide⟩
      rcases List.mem_cons.mp h with rfl | h
      · exact ⟨2, rfl, by decide⟩
      rcases List.mem_cons.mp h with rfl | h
      · exact ⟨0, rfl, by decide⟩
      · cases h
    refine ⟨⟨us, u, rfl, pw, by omega, by decide⟩, ?_⟩
    rintro r ⟨us', u', cc, e, rfl, oc, dc⟩
    have e1 := PyData.list.inj (List.cons.inj e).1
    have e2 := PyData.int.inj (List.cons.inj (List.cons.inj e).2).1
    subst e1
    exact rowC hp oc hs (by omega) lr fun r q7 q8 q9 z => k r _ q7 q8 q9 z
  · rw [if_neg (by simpa using c)]
    refine ⟨⟨us, rfl, pw⟩, ?_⟩
    rintro r ⟨us', cc, e, rfl, oc, dc⟩
    have e1 := PyData.list.inj (List.cons.inj e).1
    subst e1
    exact rowC hp oc hs dc lr fun r q7 q8 q9 z => k r _ q7 q8 q9 z
theorem dat_law : d_law { nx := fun _ => False, rt := fun d => d = .bool true } (List.replicate 14 none) := by
  show d_law _ [none, none, none, none, none, none, none, none, none, none, none, none, none, none]
  rw [law_eq]
  dsimp only [dSeq, dAsg, dAsgN, dAsgPop, dAppend, dExtend, dExtendT, dInsert, dPar, dPar3, dAug, dIfS, dFor, dRet, dRetO, dRetOwn, dRetOwnD, dRetN, dDrop, dNext, dBreak, dCont, dFreeze, dFreezeD, dGet2, dIdxN, dBorD, dBorDN, dBorDT, dParDN, dParND, dMax2, dAnyK, dnItems, dDictN, dKeysN, dnSortedND, dPutN, dAsgDN, dParN, dDict0, dBorrow, dBorrowT, dTr, dTest, dAnd, dOr, dNot, dAndV, dOrV, dNotV, dIf, dOp, dUn, dCB, dCall, dnCall, dCallX, dCallV, dTup, dLst, dnLst, dnLc, dLc, dOfN, dnAdd, dnSl, dSl, dSlice, dNoPart, dPart, dIx, isI, isB, dVar, dC, dCons, dNil, dLen, dRepr, dListOf, dTupOf, dItems, dItemsT, itemsOf, dSigns, dRng1, dgName, dgTup, dgCons, dgNil, dEq, dNe, dLt, dIn, dII, dIC, dNeg, dAdd, dRep, dUpper, dJoin, dYes, truD, dAll, dAny, dInt1, dAbs, dChain, List.set, List.getElem?_cons_succ, List.getElem?_cons_zero]
  refine ⟨rfl, by decide, by decide, fun i δ => ∃ (rows : List PyData) (q3 q4 q5 q6 q7 q8 q9 q10 q11 q12 q13 : Option DV), δ = [none, none, some (.own rows), q3, q4, q5, q6, q7, q8, q9, q10, q11, q12, q13] ∧ rows.length = i ∧ ∀ r ∈ rows, RowOk r,
    ⟨[], _, _, _, _, _, _, _, _, _, _, _, rfl, rfl, by simp⟩, ?_, ?_⟩
  · rintro i x δ hx ⟨rows, q3, q4, q5, q6, q7, q8, q9, q10, q11, q12, q13, rfl, hl, hr⟩
    dsimp only [List.set, List.getElem?_cons_succ, List.getElem?_cons_zero]
    obtain ⟨hi, rfl⟩ : i < 4 ∧ x = .int i := by
      have hi := (List.getElem?_eq_some_iff.mp hx).1
      rw [intsD_len] at hi
      rw [intsD_get hi, Int.zero_add] at hx
      exact ⟨hi, (Option.some.inj hx).symm⟩
    obtain ⟨m, em, m2, m7⟩ := pool_at33 i hi
    refine ⟨rfl, ?_⟩
    dsimp only
    rw [em]
    refine ⟨⟨m, rfl, m2, m7⟩, ?_⟩
    rintro r ⟨ts, rfl, hp⟩
    have fin : ∀ r, RowOk r → (rows ++ [r]).length = i + 1 ∧ ∀ r' ∈ rows ++ [r], RowOk r' := fun r z => ⟨by rw [List.length_append, hl]; rfl, fun r' h => by
      rcases List.mem_append.mp h with h | h
      · exact hr r' h
      · rw [List.mem_singleton.mp h]; exact z⟩
    refine ⟨⟨by decide, by decide⟩, ?_⟩
    rintro r ⟨j, rfl, j0, j1⟩
    refine ⟨rfl, ?_⟩
    rw [eqv_ii]
    dsimp only
    by_cases cj : j = 0
    · rw [if_pos (by simp [cj])]
      have lt := hp.l
      have l0 : 0 < ts.length := List.length_pos_iff.mpr hp.ne
      have lg : ∀ n : Fin 8, (((n : Nat) : Int)).natAbs.log2 < 9000 := by decide
      refine ⟨⟨by omega, lg ⟨ts.length, by omega⟩⟩, ?_⟩
      rintro r ⟨u, rfl, u0, u1⟩
      dsimp only
      obtain ⟨k, rfl⟩ : ∃ k : Nat, u = k := ⟨u.toNat, by omega⟩
      have ec : cutD ts none (some (1 + (k : Int))) = ts.take (k + 1) := by
        rw [show (1 + (k : Int)) = ((k + 1 : Nat) : Int) by omega, cut_take]
        congr 1
        omega
      rw [ec]
      refine rowB hp ⟨?_, ?_, fun t h => hp.t t (List.mem_of_mem_take h)⟩ (fun t h => List.mem_of_mem_take h) (by omega) fun r q6 q7 q8 q9 z => ⟨rows ++ [r], _, _, _, _, _, _, _, _, _, _, _, rfl, fin r z⟩
      · cases ts with
        | nil => exact absurd rfl hp.ne
        | cons t r => simp
      · rw [List.length_take]; omega
    · rw [if_neg (by simp [cj])]
      exact rowB hp hp.w (fun t h => h) (by omega) fun r q6 q7 q8 q9 z => ⟨rows ++ [r], _, _, _, _, _, _, _, _, _, _, _, rfl, fin r z⟩
  · rintro δ ⟨rows, q3, q4, q5, q6, q7, q8, q9, q10, q11, q12, q13, rfl, hl, hr⟩
    rw [intsD_len] at hl
    dsimp only [List.set, List.getElem?_cons_succ, List.getElem?_cons_zero]
    exact law_tail hr (by omega)
end DL

namespace DL
open PySem PySem.Spec PyProof.Rows L2
open Evl (Ex ex_l ex_t)
variable [TheW]
def topS (i : Nat) : Stmt := PySem.Challenge.pw_answerskept_k33_told_by_shapes.main.body.getD i (.Pass ⟨0, 0, 0, 0⟩)
abbrev s_mark : Stmt := topS 1
abbrev N_mark : List Str := ["term", "text", "part"]
theorem sc_mark : FnScope N_mark ["term"] (defScope s_mark) := ⟨rfl, rfl, rfl, by decide +kernel, rfl, by decide +kernel, by decide +kernel⟩
abbrev s_worth : Stmt := topS 3
abbrev N_worth : List Str := ["term", "world"]
theorem sc_worth : FnScope N_worth ["term", "world"] (defScope s_worth) := ⟨rfl, rfl, rfl, by decide +kernel, rfl, by decide +kernel, by decide +kernel⟩
abbrev s_alike : Stmt := topS 4
abbrev N_alike : List Str := ["one", "other", "world"]
theorem sc_alike : FnScope N_alike ["one", "other", "world"] (defScope s_alike) := ⟨rfl, rfl, rfl, by decide +kernel, rfl, by decide +kernel, by decide +kernel⟩
abbrev s__key : Stmt := topS 5
abbrev N__key : List Str := ["term", "world", "key", "part"]
theorem sc__key : FnScope N__key ["term", "world"] (defScope s__key) := ⟨rfl, rfl, rfl, by decide +kernel, rfl, by decide +kernel, by decide +kernel⟩
abbrev s_lot_numbers : Stmt := topS 7
abbrev N_lot_numbers : List Str := ["shape", "number", "lot", "term"]
theorem sc_lot_numbers : FnScope N_lot_numbers ["shape"] (defScope s_lot_numbers) := ⟨rfl, rfl, rfl, by decide +kernel, rfl, by decide +kernel, by decide +kernel⟩
abbrev s_answer : Stmt := topS 9
abbrev N_answer : List Str := ["code", "world", "here"]
theorem sc_answer : FnScope N_answer ["code", "world"] (defScope s_answer) := ⟨rfl, rfl, rfl, by decide +kernel, rfl, by decide +kernel, by decide +kernel⟩
abbrev s_told_at : Stmt := topS 10
abbrev N_told_at : List Str := ["code", "shape", "numbers", "here"]
theorem sc_told_at : FnScope N_told_at ["code", "shape"] (defScope s_told_at) := ⟨rfl, rfl, rfl, by decide +kernel, rfl, by decide +kernel, by decide +kernel⟩
abbrev s_l_bag : Stmt := topS 12
abbrev N_l_bag : List Str := ["_law_script", "_law_cell"]
theorem sc_l_bag : FnScope N_l_bag ["_law_script"] (defScope s_l_bag) := ⟨rfl, rfl, rfl, by decide +kernel, rfl, by decide +kernel, by decide +kernel⟩
abbrev s_l_takeB : Stmt := topS 13
abbrev N_l_takeB : List Str := ["_law_bag_here", "_law_many", "_law_cell", "_law_mixed_here", "_law_drawn", "_law_early", "_law_second"]
theorem sc_l_takeB : FnScope N_l_takeB ["_law_bag_here", "_law_many"] (defScope s_l_takeB) := ⟨rfl, rfl, rfl, by decide +kernel, rfl, by decide +kernel, by decide +kernel⟩
abbrev s_l_one : Stmt := topS 14
abbrev N_l_one : List Str := ["_law_bag_here", "_law_some"]
theorem sc_l_one : FnScope N_l_one ["_law_bag_here", "_law_some"] (defScope s_l_one) := ⟨rfl, rfl, rfl, by decide +kernel, rfl, by decide +kernel, by decide +kernel⟩
abbrev s_l_mixed : Stmt := topS 15
abbrev N_l_mixed : List Str := ["_law_bag_here", "_law_values", "_law_found", "_law_thing"]
theorem sc_l_mixed : FnScope N_l_mixed ["_law_bag_here", "_law_values"] (defScope s_l_mixed) := ⟨rfl, rfl, rfl, by decide +kernel, rfl, by decide +kernel, by decide +kernel⟩
abbrev s_l_alike : Stmt := topS 16
abbrev N_l_alike : List Str := ["_law_found", "_law_due"]
theorem sc_l_alike : FnScope N_l_alike ["_law_found", "_law_due"] (defScope s_l_alike) := ⟨rfl, rfl, rfl, by decide +kernel, rfl, by decide +kernel, by decide +kernel⟩
abbrev s_l_subs : Stmt := topS 17
abbrev N_l_subs : List Str := ["_law_term", "_law_found", "_law_part"]
theorem sc_l_subs : FnScope N_l_subs ["_law_term"] (defScope s_l_subs) := ⟨rfl, rfl, rfl, by decide +kernel, rfl, by decide +kernel, by decide +kernel⟩
abbrev s_l_closed : Stmt := topS 18
abbrev N_l_closed : List Str := ["_law_terms", "_law_found", "_law_term", "_law_one_here"]
theorem sc_l_closed : FnScope N_l_closed ["_law_terms"] (defScope s_l_closed) := ⟨rfl, rfl, rfl, by decide +kernel, rfl, by decide +kernel, by decide +kernel⟩
abbrev s_l_terms_in : Stmt := topS 19
abbrev N_l_terms_in : List Str := ["_law_thing"]
theorem sc_l_terms_in : FnScope N_l_terms_in ["_law_thing"] (defScope s_l_terms_in) := ⟨rfl, rfl, rfl, by decide +kernel, rfl, by decide +kernel, by decide +kernel⟩
abbrev s_l_asked : Stmt := topS 20
abbrev N_l_asked : List Str := ["_law_values", "_law_terms", "_law_thing"]
theorem sc_l_asked : FnScope N_l_asked ["_law_values"] (defScope s_l_asked) := ⟨rfl, rfl, rfl, by decide +kernel, rfl, by decide +kernel, by decide +kernel⟩
abbrev s_l_names : Stmt := topS 21
abbrev N_l_names : List Str := ["_law_bag_here", "_law_some"]
theorem sc_l_names : FnScope N_l_names ["_law_bag_here"] (defScope s_l_names) := ⟨rfl, rfl, rfl, by decide +kernel, rfl, by decide +kernel, by decide +kernel⟩
abbrev s_l_twins : Stmt := topS 22
abbrev N_l_twins : List Str := ["_law_bag_here", "_law_names_here", "_law_most", "_law_one_here", "_law_other", "_law_pool_here", "_law_some", "_law_spare", "_law_term"]
theorem sc_l_twins : FnScope N_l_twins ["_law_bag_here", "_law_names_here", "_law_most"] (defScope s_l_twins) := ⟨rfl, rfl, rfl, by decide +kernel, rfl, by decide +kernel, by decide +kernel⟩
abbrev s_l_pool : Stmt := topS 23
abbrev N_l_pool : List Str := ["_law_bag_here", "_law_most", "_law_names_here", "_law_pool_here", "_law_works", "_law_k", "_law_parts", "_law_term", "_law_name", "_law_j"]
theorem sc_l_pool : FnScope N_l_pool ["_law_bag_here", "_law_most"] (defScope s_l_pool) := ⟨rfl, rfl, rfl, by decide +kernel, rfl, by decide +kernel, by decide +kernel⟩
abbrev s_l_code : Stmt := topS 24
abbrev N_l_code : List Str := ["_law_bag_here", "_law_pool_here", "_law_deep", "_law_one_here", "_law_other"]
theorem sc_l_code : FnScope N_l_code ["_law_bag_here", "_law_pool_here", "_law_deep"] (defScope s_l_code) := ⟨rfl, rfl, rfl, by decide +kernel, rfl, by decide +kernel, by decide +kernel⟩
abbrev s_l_chain : Stmt := topS 25
abbrev N_l_chain : List Str := ["_law_bag_here", "_law_pool_here", "_law_code_here", "_law_k", "_law_sides"]
theorem sc_l_chain : FnScope N_l_chain ["_law_bag_here", "_law_pool_here"] (defScope s_l_chain) := ⟨rfl, rfl, rfl, by decide +kernel, rfl, by decide +kernel, by decide +kernel⟩
abbrev s_l_in_order : Stmt := topS 26
abbrev N_l_in_order : List Str := ["_law_terms", "_law_term", "_law_row"]
theorem sc_l_in_order : FnScope N_l_in_order ["_law_terms"] (defScope s_l_in_order) := ⟨rfl, rfl, rfl, by decide +kernel, rfl, by decide +kernel, by decide +kernel⟩
abbrev s_l_forced : Stmt := topS 27
abbrev N_l_forced : List Str := ["_law_lots", "_law_term", "_law_parts", "_law_found", "_law_other", "_law_part"]
theorem sc_l_forced : FnScope N_l_forced ["_law_lots", "_law_term"] (defScope s_l_forced) := ⟨rfl, rfl, rfl, by decide +kernel, rfl, by decide +kernel, by decide +kernel⟩
abbrev s_l_drawn_lots : Stmt := topS 28
abbrev N_l_drawn_lots : List Str := ["_law_bag_here", "_law_terms", "_law_lots", "_law_many", "_law_term", "_law_forced_here", "_law_at"]
theorem sc_l_drawn_lots : FnScope N_l_drawn_lots ["_law_bag_here", "_law_terms"] (defScope s_l_drawn_lots) := ⟨rfl, rfl, rfl, by decide +kernel, rfl, by decide +kernel, by decide +kernel⟩
abbrev s_l_shape : Stmt := topS 29
abbrev N_l_shape : List Str := ["_law_lots", "_law_some", "_law_term", "_law_lot"]
theorem sc_l_shape : FnScope N_l_shape ["_law_lots"] (defScope s_l_shape) := ⟨rfl, rfl, rfl, by decide +kernel, rfl, by decide +kernel, by decide +kernel⟩
abbrev s_l_end : Stmt := topS 30
abbrev N_l_end : List Str := ["_law_code_here", "_law_lots"]
theorem sc_l_end : FnScope N_l_end ["_law_code_here", "_law_lots"] (defScope s_l_end) := ⟨rfl, rfl, rfl, by decide +kernel, rfl, by decide +kernel, by decide +kernel⟩
abbrev s_l_lots_of : Stmt := topS 31
abbrev N_l_lots_of : List Str := ["_law_form", "_law_found", "_law_at", "_law_lot", "_law_term"]
theorem sc_l_lots_of : FnScope N_l_lots_of ["_law_form"] (defScope s_l_lots_of) := ⟨rfl, rfl, rfl, by decide +kernel, rfl, by decide +kernel, by decide +kernel⟩
abbrev s_l_own_world : Stmt := topS 32
abbrev N_l_own_world : List Str := ["_law_form", "_law_lots", "_law_world", "_law_term", "_law_part"]
theorem sc_l_own_world : FnScope N_l_own_world ["_law_form"] (defScope s_l_own_world) := ⟨rfl, rfl, rfl, by decide +kernel, rfl, by decide +kernel, by decide +kernel⟩
abbrev s_law : Stmt := topS 33
abbrev N_law : List Str := ["_law_script", "_law_bag_here", "_law_rows", "_law_turn", "_law_pool_here", "_law_some", "_law_code_here", "_law_lots", "_law_mine", "_law_own", "_law_said", "_law_form", "_law_due", "_law_term"]
theorem sc_law : FnScope N_law ["_law_script"] (defScope s_law) := ⟨rfl, rfl, rfl, by decide +kernel, rfl, by decide +kernel, by decide +kernel⟩
structure Tab where
  f_mark : Addr
  fd_mark : FuncData
  f_worth : Addr
  fd_worth : FuncData
  f_alike : Addr
  fd_alike : FuncData
  f__key : Addr
  fd__key : FuncData
  f_lot_numbers : Addr
  fd_lot_numbers : FuncData
  f_answer : Addr
  fd_answer : FuncData
  f_told_at : Addr
  fd_told_at : FuncData
  f_l_bag : Addr
  fd_l_bag : FuncData
  f_l_takeB : Addr
  fd_l_takeB : FuncData
  f_l_one : Addr
  fd_l_one : FuncData
  f_l_mixed : Addr
  fd_l_mixed : FuncData
  f_l_alike : Addr
  fd_l_alike : FuncData
  f_l_subs : Addr
  fd_l_subs : FuncData
  f_l_closed : Addr
  fd_l_closed : FuncData
  f_l_terms_in : Addr
  fd_l_terms_in : FuncData
  f_l_asked : Addr
  fd_l_asked : FuncData
  f_l_names : Addr
  fd_l_names : FuncData
  f_l_twins : Addr
  fd_l_twins : FuncData
  f_l_pool : Addr
  fd_l_pool : FuncData
  f_l_code : Addr
  fd_l_code : FuncData
  f_l_chain : Addr
  fd_l_chain : FuncData
  f_l_in_order : Addr
  fd_l_in_order : FuncData
  f_l_forced : Addr
  fd_l_forced : FuncData
  f_l_drawn_lots : Addr
  fd_l_drawn_lots : FuncData
  f_l_shape : Addr
  fd_l_shape : FuncData
  f_l_end : Addr
  fd_l_end : FuncData
  f_l_lots_of : Addr
  fd_l_lots_of : FuncData
  f_l_own_world : Addr
  fd_l_own_world : FuncData
  f_law : Addr
  fd_law : FuncData
structure Tx (K : PySem.W.Frag) (mg : Str → Option Value) (t : Tab) : Prop where
  F_mark : Fun K "mark" "mark" s_mark t.f_mark t.fd_mark
  b_mark : Binds K t.fd_mark ["term"] []
  g_mark : mg "mark" = some (.ref t.f_mark)
  F_worth : Fun K "worth" "worth" s_worth t.f_worth t.fd_worth
  b_worth : Binds K t.fd_worth ["term", "world"] []
  g_worth : mg "worth" = some (.ref t.f_worth)
  F_alike : Fun K "alike" "alike" s_alike t.f_alike t.fd_alike
  b_alike : Binds K t.fd_alike ["one", "other", "world"] []
  g_alike : mg "alike" = some (.ref t.f_alike)
  F__key : Fun K "_key" "_key" s__key t.f__key t.fd__key
  b__key : Binds K t.fd__key ["term", "world"] []
  g__key : mg "_key" = some (.ref t.f__key)
  F_lot_numbers : Fun K "lot_numbers" "lot_numbers" s_lot_numbers t.f_lot_numbers t.fd_lot_numbers
  b_lot_numbers : Binds K t.fd_lot_numbers ["shape"] []
  g_lot_numbers : mg "lot_numbers" = some (.ref t.f_lot_numbers)
  F_answer : Fun K "answer" "answer" s_answer t.f_answer t.fd_answer
  b_answer : Binds K t.fd_answer ["code", "world"] []
  g_answer : mg "answer" = some (.ref t.f_answer)
  F_told_at : Fun K "told_at" "told_at" s_told_at t.f_told_at t.fd_told_at
  b_told_at : Binds K t.fd_told_at ["code", "shape"] []
  g_told_at : mg "told_at" = some (.ref t.f_told_at)
  F_l_bag : Fun K "_law_bag" "_law_bag" s_l_bag t.f_l_bag t.fd_l_bag
  b_l_bag : Binds K t.fd_l_bag ["_law_script"] []
  g_l_bag : mg "_law_bag" = some (.ref t.f_l_bag)
  F_l_takeB : Fun K "_law_take" "_law_take" s_l_takeB t.f_l_takeB t.fd_l_takeB
  b_l_takeB : Binds K t.fd_l_takeB ["_law_bag_here", "_law_many"] []
  g_l_takeB : mg "_law_take" = some (.ref t.f_l_takeB)
  F_l_one : Fun K "_law_one" "_law_one" s_l_one t.f_l_one t.fd_l_one
  b_l_one : Binds K t.fd_l_one ["_law_bag_here", "_law_some"] []
  g_l_one : mg "_law_one" = some (.ref t.f_l_one)
  F_l_mixed : Fun K "_law_mixed" "_law_mixed" s_l_mixed t.f_l_mixed t.fd_l_mixed
  b_l_mixed : Binds K t.fd_l_mixed ["_law_bag_here", "_law_values"] []
  g_l_mixed : mg "_law_mixed" = some (.ref t.f_l_mixed)
  F_l_alike : Fun K "_law_alike" "_law_alike" s_l_alike t.f_l_alike t.fd_l_alike
  b_l_alike : Binds K t.fd_l_alike ["_law_found", "_law_due"] []
  g_l_alike : mg "_law_alike" = some (.ref t.f_l_alike)
  F_l_subs : Fun K "_law_subs" "_law_subs" s_l_subs t.f_l_subs t.fd_l_subs
  b_l_subs : Binds K t.fd_l_subs ["_law_term"] []
  g_l_subs : mg "_law_subs" = some (.ref t.f_l_subs)
  F_l_closed : Fun K "_law_closed" "_law_closed" s_l_closed t.f_l_closed t.fd_l_closed
  b_l_closed : Binds K t.fd_l_closed ["_law_terms"] []
  g_l_closed : mg "_law_closed" = some (.ref t.f_l_closed)
  F_l_terms_in : Fun K "_law_terms_in" "_law_terms_in" s_l_terms_in t.f_l_terms_in t.fd_l_terms_in
  b_l_terms_in : Binds K t.fd_l_terms_in ["_law_thing"] []
  g_l_terms_in : mg "_law_terms_in" = some (.ref t.f_l_terms_in)
  F_l_asked : Fun K "_law_asked" "_law_asked" s_l_asked t.f_l_asked t.fd_l_asked
  b_l_asked : Binds K t.fd_l_asked ["_law_values"] []
  g_l_asked : mg "_law_asked" = some (.ref t.f_l_asked)
  F_l_names : Fun K "_law_names" "_law_names" s_l_names t.f_l_names t.fd_l_names
  b_l_names : Binds K t.fd_l_names ["_law_bag_here"] []
  g_l_names : mg "_law_names" = some (.ref t.f_l_names)
  F_l_twins : Fun K "_law_twins" "_law_twins" s_l_twins t.f_l_twins t.fd_l_twins
  b_l_twins : Binds K t.fd_l_twins ["_law_bag_here", "_law_names_here", "_law_most"] []
  g_l_twins : mg "_law_twins" = some (.ref t.f_l_twins)
  F_l_pool : Fun K "_law_pool" "_law_pool" s_l_pool t.f_l_pool t.fd_l_pool
  b_l_pool : Binds K t.fd_l_pool ["_law_bag_here", "_law_most"] []
  g_l_pool : mg "_law_pool" = some (.ref t.f_l_pool)
  F_l_code : Fun K "_law_code" "_law_code" s_l_code t.f_l_code t.fd_l_code
  b_l_code : Binds K t.fd_l_code ["_law_bag_here", "_law_pool_here", "_law_deep"] []
  g_l_code : mg "_law_code" = some (.ref t.f_l_code)
  F_l_chain : Fun K "_law_chain" "_law_chain" s_l_chain t.f_l_chain t.fd_l_chain
  b_l_chain : Binds K t.fd_l_chain ["_law_bag_here", "_law_pool_here"] []
  g_l_chain : mg "_law_chain" = some (.ref t.f_l_chain)
  F_l_in_order : Fun K "_law_in_order" "_law_in_order" s_l_in_order t.f_l_in_order t.fd_l_in_order
  b_l_in_order : Binds K t.fd_l_in_order ["_law_terms"] []
  g_l_in_order : mg "_law_in_order" = some (.ref t.f_l_in_order)
  F_l_forced : Fun K "_law_forced" "_law_forced" s_l_forced t.f_l_forced t.fd_l_forced
  b_l_forced : Binds K t.fd_l_forced ["_law_lots", "_law_term"] []
  g_l_forced : mg "_law_forced" = some (.ref t.f_l_forced)
  F_l_drawn_lots : Fun K "_law_drawn_lots" "_law_drawn_lots" s_l_drawn_lots t.f_l_drawn_lots t.fd_l_drawn_lots
  b_l_drawn_lots : Binds K t.fd_l_drawn_lots ["_law_bag_here", "_law_terms"] []
  g_l_drawn_lots : mg "_law_drawn_lots" = some (.ref t.f_l_drawn_lots)
  F_l_shape : Fun K "_law_shape" "_law_shape" s_l_shape t.f_l_shape t.fd_l_shape
  b_l_shape : Binds K t.fd_l_shape ["_law_lots"] []
  g_l_shape : mg "_law_shape" = some (.ref t.f_l_shape)
  F_l_end : Fun K "_law_end" "_law_end" s_l_end t.f_l_end t.fd_l_end
  b_l_end : Binds K t.fd_l_end ["_law_code_here", "_law_lots"] []
  g_l_end : mg "_law_end" = some (.ref t.f_l_end)
  F_l_lots_of : Fun K "_law_lots_of" "_law_lots_of" s_l_lots_of t.f_l_lots_of t.fd_l_lots_of
  b_l_lots_of : Binds K t.fd_l_lots_of ["_law_form"] []
  g_l_lots_of : mg "_law_lots_of" = some (.ref t.f_l_lots_of)
  F_l_own_world : Fun K "_law_own_world" "_law_own_world" s_l_own_world t.f_l_own_world t.fd_l_own_world
  b_l_own_world : Binds K t.fd_l_own_world ["_law_form"] []
  g_l_own_world : mg "_law_own_world" = some (.ref t.f_l_own_world)
  F_law : Fun K "law" "law" s_law t.f_law t.fd_law
  b_law : Binds K t.fd_law ["_law_script"] []
  g_law : mg "law" = some (.ref t.f_law)
  z_abs : mg "abs" = none
  z_dict : mg "dict" = none
  z_enumerate : mg "enumerate" = none
  z_int : mg "int" = none
  z_len : mg "len" = none
  z_max : mg "max" = none
  z_min : mg "min" = none
  z_range : mg "range" = none
  z_repr : mg "repr" = none
  z_sorted : mg "sorted" = none
  z_tuple : mg "tuple" = none
section
variable [TheW] {P : Program} {K : PySem.W.Frag} {mg : Str → Option Value} {base : Heap} {t : Tab}
theorem ok_l_bag (T : Tx K mg t) : FnG P TheW.w K mg base L2.CX0 1 t.f_l_bag t.fd_l_bag ["_law_script"] (sp_l_bag K) := by
  refine ok_G T.F_l_bag sc_l_bag len_bag (fun cdv A outer s H vs Q E hr h => ⟨q_l_bag K, ?_, bag_body h⟩)
  · show PSs _ _ ((tRet (tLst (tCons (tC (.int 0)) (tCons (tC (.int 1234567891)) (tCons (tC (.int 0)) (tCons (tLc (iList K (tSl (rSlU K) (tVar 0) tNoPart (tPart (tC (.int 63))))) (gName 1) tYes (tCB rAbs1 (tCons (tVar 1) tNil)) [1]) tNil)))))))
    exact (pss_one (ps_ret (pe_lst (pa_cons pe_int (pa_cons pe_int (pa_cons pe_int (pa_cons (pe_lc (own := [("_law_cell", 1)]) (g := (gName 1)) rfl sc_l_bag.nd (pi_list (pe_slice sl_U (pv 0) po_none (po_some pe_int))) (blkOk_by (own := [("_law_cell", 1)]) (N := N_l_bag) (sc := defScope s_l_bag) (by decide +kernel)) (fun _ _ _ _ _ => (pg_name (i := 1) sc_l_bag.nd rfl (Or.inl rfl))) (fun _ _ _ _ _ => pts_nil) (fun _ _ _ _ _ => (pe_callB call_abs' (by rfl) T.z_abs (by decide +kernel) (pa_cons (pv 1) pa_nil)))) pa_nil)))))))
theorem ok_l_takeB (T : Tx K mg t) : FnG P TheW.w K mg base L2.CX0 1 t.f_l_takeB t.fd_l_takeB ["_law_bag_here", "_law_many"] (sp_l_takeB K) := by
  refine ok_G T.F_l_takeB sc_l_takeB (len_G (n := 1) n_l_takeB) (fun cdv A outer s H vs Q E hr h => ⟨t_l_takeB K, ?_, body_G (N := N_l_takeB) (fun b => m_l_takeB) (dat_l_takeB) h⟩)
  · show PSs _ _ ((tSeq (tIfS (tTest (tOp (rEqU K) (tOp (rIx K) (tVar 0) (tC (.int 0))) (tC (.int 0)))) (tSeq (tAsg (tOp (rIx K) (tOp (rAddU K) (tSl (rSlU K) (tOp (rIx K) (tVar 0) (tC (.int 3))) (tPart (tOp (rIx K) (tVar 0) (tC (.int 2)))) tNoPart) (tLst (tCons (tC (.int 0)) tNil))) (tC (.int 0))) (gName 2))
    (tSeq (tAugS (tVar 0) (tC (.int 2)) (tC (.int 1)) (rAt K) (ipI fun i j => i + j) rSetL)
    (tSeq (tAsg (tOp (rI CMul fun i j => .int (i * j)) (tVar 2) (tCB rInt1 (tCons (tOp (rLtU (fun i j => decide (j ≤ i)) fun i j => !ltS i j) (tVar 2) (tOp (rI CPow fun i j => .int (i ^ j.toNat)) (tC (.int 10)) (tC (.int 18)))) tNil))) (gSub (tVar 0) (tC (.int 0)) rSetL))
    (tSeq (tAsg (tOp (rAddU K) (tOp (rAddU K) (tOp (rI CMul fun i j => .int (i * j)) (tOp (rIx K) (tVar 0) (tC (.int 1))) (tC (.int 48271))) (tOp (rI (fun _ j => j ≠ 0) fun i j => .int (i.fmod j)) (tCB rInt1 (tCons (tVar 2) tNil)) (tC (.int 2147483647)))) (tOp (rI CMul fun i j => .int (i * j)) (tC (.int 7919)) (tOp (rIx K) (tVar 0) (tC (.int 2))))) (gName 3))
    (tAsg (tOp (rI (fun _ j => j ≠ 0) fun i j => .int (i.fmod j)) (tCB rInt1 (tCons (tVar 3) tNil)) (tC (.int 2147483647))) (gSub (tVar 0) (tC (.int 1)) rSetL)))))) tNext)
    (tSeq (tIfS (tTest (tOp (rLtU (fun i j => decide (j < i)) fun i j => ltS j i) (tOp (rIx K) (tVar 0) (tC (.int 0))) (tC (.int 0)))) (tSeq (tAsg (tOp (rI (fun _ j => j ≠ 0) fun i j => .int (i.fmod j)) (tCB rInt1 (tCons (tOp (rIx K) (tVar 0) (tC (.int 0))) tNil)) (tVar 1)) (gName 4))
    (tSeq (tAsg (tOp (rI CDivW fun i j => .int (i / j)) (tCB rInt1 (tCons (tOp (rIx K) (tVar 0) (tC (.int 0))) tNil)) (tVar 1)) (gSub (tVar 0) (tC (.int 0)) rSetL))
    (tRet (tVar 4)))) tNext)
    (tSeq (tAsg (tOp (rI (fun _ j => j ≠ 0) fun i j => .int (i.fmod j)) (tCB rInt1 (tCons (tOp (rI CMul fun i j => .int (i * j)) (tOp (rAddU K) (tOp (rIx K) (tVar 0) (tC (.int 1))) (tC (.int 1))) (tC (.int 39373))) tNil)) (tC (.int 1000000007))) (gName 5))
    (tSeq (tAsg (tOp (rI (fun _ j => j ≠ 0) fun i j => .int (i.fmod j)) (tCB rInt1 (tCons (tOp (rI CMul fun i j => .int (i * j)) (tOp (rI (fun _ j => j ≠ 0) fun i j => .int (i.fmod j)) (tCB rInt1 (tCons (tOp (rI CMul fun i j => .int (i * j)) (tVar 5) (tVar 5)) tNil)) (tC (.int 998244353))) (tC (.int 30011))) tNil)) (tC (.int 998244353))) (gName 6))
    (tRet (tOp (rI (fun _ j => j ≠ 0) fun i j => .int (i.fmod j)) (tCB rInt1 (tCons (tOp (rI CDivW fun i j => .int (i / j)) (tVar 6) (tC (.int 7))) tNil)) (tVar 1))))))))
    exact (pss_cons (ps_if (pt_cmpR (op_eqU hr.r.units)  (pe_ix ix_seq (pv 0) pe_int (fun _ _ => rfl)) pe_int (nomark _)) (pss_cons (ps_set (i := 2) sc_l_takeB.nd rfl (Or.inl rfl) (pe_ix ix_seq (pe_op op_addU (pe_slice sl_U (pe_ix ix_seq (pv 0) pe_int (fun _ _ => rfl)) (po_some (pe_ix ix_seq (pv 0) pe_int (fun _ _ => rfl))) po_none) (pe_lst (pa_cons pe_int pa_nil))) pe_int (fun _ _ => rfl)))
    (pss_cons (ps_augS (pv 0) pe_int pget_list pe_int ip_add set_list)
    (pss_cons (ps_asg (pe_op op_mul (pv 2) (pe_callTy call_int1' (by rfl) T.z_int (by decide +kernel) (pa_cons (pe_cmpR op_geU  (pv 2) (pe_op op_pow pe_int pe_int) (nomark _)) pa_nil))) (pg_sub (pv 0) pe_int set_list))
    (pss_cons (ps_set (i := 3) sc_l_takeB.nd rfl (Or.inl rfl) (pe_op op_addU (pe_op op_addU (pe_op op_mul (pe_ix ix_seq (pv 0) pe_int (fun _ _ => rfl)) pe_int) (pe_op op_modN (pe_callTy call_int1' (by rfl) T.z_int (by decide +kernel) (pa_cons (pv 2) pa_nil)) pe_int)) (pe_op op_mul pe_int (pe_ix ix_seq (pv 0) pe_int (fun _ _ => rfl)))))
    (pss_one (ps_asg (pe_op op_modN (pe_callTy call_int1' (by rfl) T.z_int (by decide +kernel) (pa_cons (pv 3) pa_nil)) pe_int) (pg_sub (pv 0) pe_int set_list))))))) pss_nil)
    (pss_cons (ps_if (pt_cmpR op_gtU  (pe_ix ix_seq (pv 0) pe_int (fun _ _ => rfl)) pe_int (nomark _)) (pss_cons (ps_set (i := 4) sc_l_takeB.nd rfl (Or.inl rfl) (pe_op op_modN (pe_callTy call_int1' (by rfl) T.z_int (by decide +kernel) (pa_cons (pe_ix ix_seq (pv 0) pe_int (fun _ _ => rfl)) pa_nil)) (pv 1)))
    (pss_cons (ps_asg (pe_op op_fdivW (pe_callTy call_int1' (by rfl) T.z_int (by decide +kernel) (pa_cons (pe_ix ix_seq (pv 0) pe_int (fun _ _ => rfl)) pa_nil)) (pv 1)) (pg_sub (pv 0) pe_int set_list))
    (pss_one (ps_ret (pv 4))))) pss_nil)
    (pss_cons (ps_set (i := 5) sc_l_takeB.nd rfl (Or.inl rfl) (pe_op op_modN (pe_callTy call_int1' (by rfl) T.z_int (by decide +kernel) (pa_cons (pe_op op_mul (pe_op op_addU (pe_ix ix_seq (pv 0) pe_int (fun _ _ => rfl)) pe_int) pe_int) pa_nil)) pe_int))
    (pss_cons (ps_set (i := 6) sc_l_takeB.nd rfl (Or.inl rfl) (pe_op op_modN (pe_callTy call_int1' (by rfl) T.z_int (by decide +kernel) (pa_cons (pe_op op_mul (pe_op op_modN (pe_callTy call_int1' (by rfl) T.z_int (by decide +kernel) (pa_cons (pe_op op_mul (pv 5) (pv 5)) pa_nil)) pe_int) pe_int) pa_nil)) pe_int))
    (pss_one (ps_ret (pe_op op_modN (pe_callTy call_int1' (by rfl) T.z_int (by decide +kernel) (pa_cons (pe_op op_fdivW (pv 6) pe_int) pa_nil)) (pv 1))))))))
theorem ok_l_alike (T : Tx K mg t) : FnG P TheW.w K mg base L2.CX0 1 t.f_l_alike t.fd_l_alike ["_law_found", "_law_due"] (sp_l_alike K) := by
  refine ok_G T.F_l_alike sc_l_alike (len_P (n := 2) n_l_alike) (fun cdv A outer s H vs Q E hr h => ⟨t_l_alike K, ?_, body_P (N := N_l_alike) (fun b => m_l_alike) (dat_l_alike) h⟩)
  · show PSs _ _ ((tRet (tAndV (tOp (rEqU K) (tVar 0) (tVar 1)) (tOp (rEqU K) (tCB (rRepr K) (tCons (tVar 0) tNil)) (tCB (rRepr K) (tCons (tVar 1) tNil))))))
    exact (pss_one (ps_ret (pe_and (pe_cmpR (op_eqU hr.r.units)  (pv 0) (pv 1) (nomark _)) (pe_one (pe_cmpR (op_eqU hr.r.units)  (pe_callB (call_repr hr) (by rfl) T.z_repr (by decide +kernel) (pa_cons (pv 0) pa_nil)) (pe_callB (call_repr hr) (by rfl) T.z_repr (by decide +kernel) (pa_cons (pv 1) pa_nil)) (nomark _))))))
theorem ok_l_forced (T : Tx K mg t) : FnG P TheW.w K mg base L2.CX0 1 t.f_l_forced t.fd_l_forced ["_law_lots", "_law_term"] (sp_l_forced K) := by
  refine ok_G T.F_l_forced sc_l_forced (len_P (n := 2) n_l_forced) (fun cdv A outer s H vs Q E hr h => ⟨t_l_forced K, ?_, body_P (N := N_l_forced) (fun b => m_l_forced) (dat_l_forced) h⟩)
  · show PSs _ _ ((tSeq (tPar 2 3 (tCons (tLc (iTup K (tSl (rSlU K) (tVar 1) (tPart (tC (.int 1))) tNoPart)) (gName 5) tYes (tIdxN K (tVar 0) (tVar 5)) [5]) (tCons (tLst tNil) tNil)))
    (tSeq (tFor (iAnyK K (tIf (tTest (tOp (rLtU (fun i j => decide (j < i)) fun i j => ltS j i) (tCB (rLenU K) (tCons (tVar 1) tNil)) (tC (.int 1)))) (tVar 0) (tLst tNil))) (gName 4) (tIfS (tAnd (tTest (tOp (rEqU K) (tOp (rIx K) (tVar 4) (tC (.int 0))) (tOp (rIx K) (tVar 1) (tC (.int 0))))) (tTest (tOp (rEqU K) (tLc (iTup K (tSl (rSlU K) (tVar 4) (tPart (tC (.int 1))) tNoPart)) (gName 5) tYes (tIdxN K (tVar 0) (tVar 5)) [5]) (tVar 2)))) (tDrop (tBM K "list" rAppend (tVar 3) (tCons (tIdxN K (tVar 0) (tVar 4)) tNil))) tNext))
    (tRet (tVar 3)))))
    exact (pss_cons (ps_par rfl sc_l_forced.nd rfl rfl (by decide) rfl rfl (pa_cons (pe_lc (own := [("_law_part", 5)]) (g := (gName 5)) rfl sc_l_forced.nd (pi_tup (pe_slice sl_U (pv 1) (po_some pe_int) po_none)) (blkOk_by (own := [("_law_part", 5)]) (N := N_l_forced) (sc := defScope s_l_forced) (by decide +kernel)) (fun _ _ _ _ _ => (pg_name (i := 5) sc_l_forced.nd rfl (Or.inl rfl))) (fun _ _ _ _ _ => pts_nil) (fun _ _ _ _ _ => (pe_idxN rfl (u16 hr.r.units) (pv 0) (pv 5) (fun _ _ => rfl)))) (pa_cons (pe_lst pa_nil) pa_nil)) (by rfl))
    (pss_cons (ps_for PassesOwn.never rfl (pi_anyK (pe_ifExp (pt_cmpR op_gtU  (pe_callB call_lenU (by rfl) T.z_len (by decide +kernel) (pa_cons (pv 1) pa_nil)) pe_int (nomark _)) (pv 0) (pe_lst pa_nil))) (pg_name (i := 4) sc_l_forced.nd rfl (Or.inl rfl)) (pss_one (ps_if (PW.pt (pw_and (pt_cmpR (op_eqU hr.r.units)  (pe_ix ix_seq (pv 4) pe_int (fun _ _ => rfl)) (pe_ix ix_seq (pv 1) pe_int (fun _ _ => rfl)) (nomark _)) (pw_and1 (pt_cmpR (op_eqU hr.r.units)  (pe_lc (own := [("_law_part", 5)]) (g := (gName 5)) rfl sc_l_forced.nd (pi_tup (pe_slice sl_U (pv 4) (po_some pe_int) po_none)) (blkOk_by (own := [("_law_part", 5)]) (N := N_l_forced) (sc := defScope s_l_forced) (by decide +kernel)) (fun _ _ _ _ _ => (pg_name (i := 5) sc_l_forced.nd rfl (Or.inl rfl))) (fun _ _ _ _ _ => pts_nil) (fun _ _ _ _ _ => (pe_idxN rfl (u16 hr.r.units) (pv 0) (pv 5) (fun _ _ => rfl)))) (pv 2) (nomark _))))) (pss_one (ps_expr (pe_bm PySem.F.plainAttrs_list PySem.F.slot_list_append PySem.F.type_list_append mt_append (pv 3) (pa_cons (pe_idxN rfl (u16 hr.r.units) (pv 0) (pv 4) (fun _ _ => rfl)) pa_nil)))) pss_nil)))
    (pss_one (ps_ret (pv 3)))))
theorem ok_l_shape (T : Tx K mg t) : FnG P TheW.w K mg base L2.CX0 1 t.f_l_shape t.fd_l_shape ["_law_lots"] (sp_l_shape K) := by
  refine ok_G T.F_l_shape sc_l_shape (len_P (n := 1) n_l_shape) (fun cdv A outer s H vs Q E hr h => ⟨t_l_shape K, ?_, body_P (N := N_l_shape) (fun b => m_l_shape) (dat_l_shape) h⟩)
  · show PSs _ _ ((tSeq (tAsg tDNewK (gName 1))
    (tSeq (tFor (iList K (tCB (rSortedN K TheW.w) (tCons (tVar 0) tNil))) (gName 2) (tDrop (tBM K "list" rAppend (tDSetd (tVar 1) (tIdxN K (tVar 0) (tVar 2)) (tLst tNil)) (tCons (tVar 2) tNil))))
    (tRet (tCB (rTupOf K) (tCons (tCB (rSortedD K) (tCons (tLockE (tLc (iKeys (tVar 1)) (gName 3) tYes (tCB (rTupOf K) (tCons (tDGet (tVar 1) (tVar 3)) tNil)) [3])) tNil)) tNil))))))
    exact (pss_cons (ps_set (i := 1) sc_l_shape.nd rfl (Or.inr rfl) pe_dnewK)
    (pss_cons (ps_for PassesOwn.never rfl (pi_list (pe_callB (cr_sortedN rfl hr.r.units) (by rfl) T.z_sorted (by decide +kernel) (pa_cons (pv 0) pa_nil))) (pg_name (i := 2) sc_l_shape.nd rfl (Or.inl rfl)) (pss_one (ps_expr (pe_bm PySem.F.plainAttrs_list PySem.F.slot_list_append PySem.F.type_list_append mt_append (pe_dsetd (pv 1) (pe_idxN rfl (u16 hr.r.units) (pv 0) (pv 2) (fun _ _ => rfl)) (pe_lst pa_nil) ⟨rfl, rfl, rfl, rfl⟩) (pa_cons (pv 2) pa_nil)))))
    (pss_one (ps_ret (pe_callTy call_tupOf (by rfl) T.z_tuple (by decide +kernel) (pa_cons (pe_callB (cr_sortedD (units70 hr.r)) (by rfl) T.z_sorted (by decide +kernel) (pa_cons (pe_lock (pe_lc (own := [("_law_lot", 3)]) (g := (gName 3)) rfl sc_l_shape.nd (pi_keys (pv 1)) (blkOk_by (own := [("_law_lot", 3)]) (N := N_l_shape) (sc := defScope s_l_shape) (by decide +kernel)) (fun _ _ _ _ _ => (pg_name (i := 3) sc_l_shape.nd rfl (Or.inl rfl))) (fun _ _ _ _ _ => pts_nil) (fun _ _ _ _ _ => (pe_callTy call_tupOf (by rfl) T.z_tuple (by decide +kernel) (pa_cons (pe_dget (u1 hr.r.units) (pv 1) (pv 3) (fun _ _ => rfl)) pa_nil))))) pa_nil)) pa_nil))))))
theorem ok_l_end (T : Tx K mg t) : FnG P TheW.w K mg base L2.CX0 1 t.f_l_end t.fd_l_end ["_law_code_here", "_law_lots"] (sp_l_end K) := by
  refine ok_G T.F_l_end sc_l_end (len_P (n := 2) n_l_end) (fun cdv A outer s H vs Q E hr h => ⟨t_l_end K, ?_, body_P (N := N_l_end) (fun b => m_l_end) (dat_l_end) h⟩)
  · show PSs _ _ ((tSeq (tWhile (tTest (tOp (rEqU K) (tOp (rIx K) (tVar 0) (tC (.int 0))) (tC (.str "if")))) (tAsg (tIf (tTest (tOp (rEqU K) (tIdxN K (tVar 1) (tOp (rIx K) (tVar 0) (tC (.int 1)))) (tIdxN K (tVar 1) (tOp (rIx K) (tVar 0) (tC (.int 2)))))) (tOp (rIx K) (tVar 0) (tC (.int 3))) (tOp (rIx K) (tVar 0) (tC (.int 4)))) (gName 0)))
    (tRet (tVar 0))))
    exact (pss_cons (ps_while PassesOwn.never (pt_cmpR (op_eqU hr.r.units)  (pe_ix ix_seq (pv 0) pe_int (fun _ _ => rfl)) pe_str (nomark _)) (pss_one (ps_set (i := 0) sc_l_end.nd rfl (Or.inl rfl) (pe_ifExp (pt_cmpR (op_eqU hr.r.units)  (pe_idxN rfl (u16 hr.r.units) (pv 1) (pe_ix ix_seq (pv 0) pe_int (fun _ _ => rfl)) (fun _ _ => rfl)) (pe_idxN rfl (u16 hr.r.units) (pv 1) (pe_ix ix_seq (pv 0) pe_int (fun _ _ => rfl)) (fun _ _ => rfl)) (nomark _)) (pe_ix ix_seq (pv 0) pe_int (fun _ _ => rfl)) (pe_ix ix_seq (pv 0) pe_int (fun _ _ => rfl))))))
    (pss_one (ps_ret (pv 0))))
theorem ok_l_lots_of (T : Tx K mg t) : FnG P TheW.w K mg base L2.CX0 1 t.f_l_lots_of t.fd_l_lots_of ["_law_form"] (sp_l_lots_of K) := by
  refine ok_G T.F_l_lots_of sc_l_lots_of (len_P (n := 1) n_l_lots_of) (fun cdv A outer s H vs Q E hr h => ⟨t_l_lots_of K, ?_, body_P (N := N_l_lots_of) (fun b => m_l_lots_of) (dat_l_lots_of) h⟩)
  · show PSs _ _ ((tSeq (tAsg (tDNewN TheW.w) (gName 1))
    (tSeq (tFor (iEnT K (tCons (tVar 0) tNil)) (gTup K 2 (gCons (gName 2) (gCons (gName 3) gNil))) (tFor (iTup K (tVar 3)) (gName 4) (sNPut K TheW.w (tVar 1) (tVar 4) (tVar 2))))
    (tPin (tRet (tVar 1))))))
    exact (pss_cons (ps_set (i := 1) sc_l_lots_of.nd rfl (Or.inl rfl) pe_dnewN)
    (pss_cons (ps_for PassesOwn.never rfl (pi_enumT (by rfl) T.z_enumerate (pa_cons (pv 0) pa_nil)) (pg_tup rfl (pgs_cons (pg_name (i := 2) sc_l_lots_of.nd rfl (Or.inl rfl)) (pgs_cons (pg_name (i := 3) sc_l_lots_of.nd rfl (Or.inl rfl)) pgs_nil))) (pss_one (ps_for PassesOwn.never rfl (pi_tup (pv 3)) (pg_name (i := 4) sc_l_lots_of.nd rfl (Or.inl rfl)) (pss_one (ps_nput (u16 hr.r.units) (pv 1) (pv 4) (pv 2) (by rfl))))))
    (pss_one (ps_pin (ps_ret (pv 1))))))
theorem ok_l_one (T : Tx K mg t) : FnG P TheW.w K mg base L2.CX0 2 t.f_l_one t.fd_l_one ["_law_bag_here", "_law_some"] (sp_l_one K) := by
  refine ok_G T.F_l_one sc_l_one (len_G (n := 1) n_l_one) (fun cdv A outer s H vs Q E hr h => ⟨t_l_one K, ?_, body_G (N := N_l_one) (fun b => m_l_one) (dat_l_one) h⟩)
  · show PSs _ _ ((tRet (tOp (rIx K) (tVar 1) (tCall (sp_l_takeB K) [] E0 (tCons (tVar 0) (tCons (tCB (rLenU K) (tCons (tVar 1) tNil)) tNil))))))
    have G_l_takeB : FnG P TheW.w K mg base L2.CX0 1 t.f_l_takeB t.fd_l_takeB ["_law_bag_here", "_law_many"] (sp_l_takeB K) := ok_l_takeB T
    exact (pss_one (ps_ret (pe_ix ix_seq (pv 1) (pe_g G_l_takeB (hr.mono (by decide)) (by rfl) T.g_l_takeB T.F_l_takeB.kp T.b_l_takeB .nil pass0 (pa_cons (pv 0) (pa_cons (pe_callB call_lenU (by rfl) T.z_len (by decide +kernel) (pa_cons (pv 1) pa_nil)) pa_nil))) (fun _ _ => rfl))))
theorem ok_l_mixed (T : Tx K mg t) : FnG P TheW.w K mg base L2.CX0 2 t.f_l_mixed t.fd_l_mixed ["_law_bag_here", "_law_values"] (sp_l_mixed K) := by
  refine ok_G T.F_l_mixed sc_l_mixed (len_GO (n := 1) n_l_mixed) (fun cdv A outer s H vs Q E hr h => ⟨t_l_mixed K, ?_, body_GO (N := N_l_mixed) (fun b => m_l_mixed) (dat_l_mixed) h⟩)
  · show PSs _ _ ((tSeq (tAsg (tLst tNil) (gName 2))
    (tSeq (tFor (iList K (tVar 1)) (gName 3) (tDrop (tBM K "list" rInsertL (tVar 2) (tCons (tCall (sp_l_takeB K) [] E0 (tCons (tVar 0) (tCons (tOp (rAddU K) (tCB (rLenU K) (tCons (tVar 2) tNil)) (tC (.int 1))) tNil))) (tCons (tVar 3) tNil)))))
    (tRet (tVar 2)))))
    have G_l_takeB : FnG P TheW.w K mg base L2.CX0 1 t.f_l_takeB t.fd_l_takeB ["_law_bag_here", "_law_many"] (sp_l_takeB K) := ok_l_takeB T
    exact (pss_cons (ps_set (i := 2) sc_l_mixed.nd rfl (Or.inl rfl) (pe_lst pa_nil))
    (pss_cons (ps_for PassesOwn.never rfl (pi_list (pv 1)) (pg_name (i := 3) sc_l_mixed.nd rfl (Or.inl rfl)) (pss_one (ps_expr (pe_bm PySem.F.plainAttrs_list PySem.F.slot_list_insert PySem.F.type_list_insert mt_insertL (pv 2) (pa_cons (pe_g G_l_takeB (hr.mono (by decide)) (by rfl) T.g_l_takeB T.F_l_takeB.kp T.b_l_takeB .nil pass0 (pa_cons (pv 0) (pa_cons (pe_op op_addU (pe_callB call_lenU (by rfl) T.z_len (by decide +kernel) (pa_cons (pv 2) pa_nil)) pe_int) pa_nil))) (pa_cons (pv 3) pa_nil))))))
    (pss_one (ps_ret (pv 2)))))
theorem ok_l_own_world (T : Tx K mg t) : FnG P TheW.w K mg base L2.CX0 2 t.f_l_own_world t.fd_l_own_world ["_law_form"] (sp_l_own_world K) := by
  refine ok_G T.F_l_own_world sc_l_own_world (len_P (n := 1) n_l_own_world) (fun cdv A outer s H vs Q E hr h => ⟨t_l_own_world K, ?_, body_P (N := N_l_own_world) (fun b => m_l_own_world) (dat_l_own_world) h⟩)
  · show PSs _ _ ((tSeq (tAsg (tTup (tCons (tCall (sp_l_lots_of K) [] E0 (tCons (tVar 0) tNil)) (tCons (tDNewN TheW.w) tNil))) (gTup K 2 (gCons (gName 1) (gCons (gName 2) gNil))))
    (tSeq (tFor (iKeysN (tVar 1)) (gName 3) (sNPut K TheW.w (tVar 2) (tOp (rAddU K) (tTup (tCons (tOp (rIx K) (tVar 3) (tC (.int 0))) tNil)) (tCB (rTupOf K) (tCons (tLc (iTup K (tSl (rSlU K) (tVar 3) (tPart (tC (.int 1))) tNoPart)) (gName 4) tYes (tIdxN K (tVar 1) (tVar 4)) [4]) tNil))) (tIdxN K (tVar 1) (tVar 3))))
    (tPin (tRet (tVar 2))))))
    have G_l_lots_of : FnG P TheW.w K mg base L2.CX0 1 t.f_l_lots_of t.fd_l_lots_of ["_law_form"] (sp_l_lots_of K) := ok_l_lots_of T
    exact (pss_cons (ps_asg (pe_tup (pa_cons (pe_g G_l_lots_of (hr.mono (by decide)) (by rfl) T.g_l_lots_of T.F_l_lots_of.kp T.b_l_lots_of .nil pass0 (pa_cons (pv 0) pa_nil)) (pa_cons pe_dnewN pa_nil))) (pg_tup rfl (pgs_cons (pg_name (i := 1) sc_l_own_world.nd rfl (Or.inr rfl)) (pgs_cons (pg_name (i := 2) sc_l_own_world.nd rfl (Or.inl rfl)) pgs_nil))))
    (pss_cons (ps_for PassesOwn.never rfl (pi_keysN (pv 1)) (pg_name (i := 3) sc_l_own_world.nd rfl (Or.inl rfl)) (pss_one (ps_nput (u16 hr.r.units) (pv 2) (pe_op op_addU (pe_tup (pa_cons (pe_ix ix_seq (pv 3) pe_int (fun _ _ => rfl)) pa_nil)) (pe_callTy call_tupOf (by rfl) T.z_tuple (by decide +kernel) (pa_cons (pe_lc (own := [("_law_part", 4)]) (g := (gName 4)) rfl sc_l_own_world.nd (pi_tup (pe_slice sl_U (pv 3) (po_some pe_int) po_none)) (blkOk_by (own := [("_law_part", 4)]) (N := N_l_own_world) (sc := defScope s_l_own_world) (by decide +kernel)) (fun _ _ _ _ _ => (pg_name (i := 4) sc_l_own_world.nd rfl (Or.inl rfl))) (fun _ _ _ _ _ => pts_nil) (fun _ _ _ _ _ => (pe_idxN rfl (u16 hr.r.units) (pv 1) (pv 4) (fun _ _ => rfl)))) pa_nil))) (pe_idxN rfl (u16 hr.r.units) (pv 1) (pv 3) (fun _ _ => rfl)) (by rfl))))
    (pss_one (ps_pin (ps_ret (pv 2))))))
theorem ok_l_names (T : Tx K mg t) : FnG P TheW.w K mg base L2.CX0 3 t.f_l_names t.fd_l_names ["_law_bag_here"] (sp_l_names K) := by
  refine ok_G T.F_l_names sc_l_names (len_G (n := 0) n_l_names) (fun cdv A outer s H vs Q E hr h => ⟨t_l_names K, ?_, body_G (N := N_l_names) (fun b => m_l_names) (dat_l_names) h⟩)
  · show PSs _ _ ((tSeq (tAsg (tLst (tCons (tC (.str "a")) (tCons (tC (.str "b")) (tCons (tC (.str "c")) (tCons (tC (.str "f")) (tCons (tC (.str "g")) (tCons (tC (.str "x")) (tCons (tC (.str "y")) (tCons (tC (.str "abcdefgh")) (tCons (tC (.str "aa")) (tCons (tC (.str "tel")) (tCons (tC (.str "goo")) (tCons (tC (.str "yess")) (tCons (tC (.str "z")) tNil)))))))))))))) (gName 1))
    (tRet (tCall (sp_l_mixed K) [] E0 (tCons (tVar 0) (tCons (tVar 1) tNil))))))
    have G_l_mixed : FnG P TheW.w K mg base L2.CX0 2 t.f_l_mixed t.fd_l_mixed ["_law_bag_here", "_law_values"] (sp_l_mixed K) := ok_l_mixed T
    exact (pss_cons (ps_set (i := 1) sc_l_names.nd rfl (Or.inl rfl) (pe_lst (pa_cons pe_str (pa_cons pe_str (pa_cons pe_str (pa_cons pe_str (pa_cons pe_str (pa_cons pe_str (pa_cons pe_str (pa_cons pe_str (pa_cons pe_str (pa_cons pe_str (pa_cons pe_str (pa_cons pe_str (pa_cons pe_str pa_nil)))))))))))))))
    (pss_one (ps_ret (pe_g G_l_mixed (hr.mono (by decide)) (by rfl) T.g_l_mixed T.F_l_mixed.kp T.b_l_mixed .nil pass0 (pa_cons (pv 0) (pa_cons (pv 1) pa_nil))))))
theorem ok_l_twins (T : Tx K mg t) : FnG P TheW.w K mg base L2.CX0 3 t.f_l_twins t.fd_l_twins ["_law_bag_here", "_law_names_here", "_law_most"] (sp_l_twins K) := by
  refine ok_G T.F_l_twins sc_l_twins (len_G (n := 2) n_l_twins) (fun cdv A outer s H vs Q E hr h => ⟨t_l_twins K, ?_, body_G (N := N_l_twins) (fun b => m_l_twins) (dat_l_twins) h⟩)
  · show PSs _ _ ((tSeq (tPar 3 4 (tCons (tTup (tCons (tOp (rIx K) (tVar 1) (tC (.int 0))) tNil)) (tCons (tTup (tCons (tOp (rIx K) (tVar 1) (tC (.int 1))) tNil)) tNil)))
    (tSeq (tAsg (tLst (tCons (tVar 3) (tCons (tVar 4) (tCons (tTup (tCons (tOp (rIx K) (tVar 1) (tC (.int 4))) (tCons (tVar 3) tNil))) (tCons (tTup (tCons (tOp (rIx K) (tVar 1) (tC (.int 4))) (tCons (tVar 4) tNil))) tNil))))) (gName 5))
    (tSeq (tIfS (tAnd (tTest (tOp (rLtU (fun i j => decide (j < i)) fun i j => ltS j i) (tVar 2) (tC (.int 5)))) (tTest (tOp (rEqU K) (tCall (sp_l_takeB K) [] E0 (tCons (tVar 0) (tCons (tC (.int 2)) tNil))) (tC (.int 0))))) (tAsg (tOp (rAddU K) (tVar 5) (tLst (tCons (tTup (tCons (tOp (rIx K) (tVar 1) (tC (.int 5))) (tCons (tOp (rIx K) (tVar 5) (tC (.int 2))) tNil))) (tCons (tTup (tCons (tOp (rIx K) (tVar 1) (tC (.int 5))) (tCons (tOp (rIx K) (tVar 5) (tC (.int 3))) tNil))) tNil)))) (gName 5)) tNext)
    (tSeq (tAsg (tLst (tCons (tTup (tCons (tOp (rIx K) (tVar 1) (tC (.int 2))) tNil)) (tCons (tTup (tCons (tOp (rIx K) (tVar 1) (tC (.int 5))) (tCons (tVar 3) (tCons (tVar 4) tNil)))) (tCons (tTup (tCons (tOp (rIx K) (tVar 1) (tC (.int 4))) (tCons (tVar 3) (tCons (tVar 4) tNil)))) (tCons (tTup (tCons (tOp (rIx K) (tVar 1) (tC (.int 5))) (tCons (tVar 4) (tCons (tVar 3) (tCons (tVar 3) tNil))))) tNil))))) (gName 6))
    (tSeq (tWhile (tAnd (tTest (tOp (rLtU (fun i j => decide (i < j)) fun i j => ltS i j) (tCB (rLenU K) (tCons (tVar 5) tNil)) (tVar 2))) (tTest (tOp (rEqU K) (tCall (sp_l_takeB K) [] E0 (tCons (tVar 0) (tCons (tC (.int 2)) tNil))) (tC (.int 0))))) (tSeq (tAsg (tLc (iList K (tVar 6)) (gName 8) (tTest (tOp (rNotInD K) (tVar 8) (tVar 5))) (tVar 8) [8]) (gName 7))
    (tDrop (tBM K "list" rAppend (tVar 5) (tCons (tCall (sp_l_one K) [] E0 (tCons (tVar 0) (tCons (tVar 7) tNil))) tNil)))))
    (tRet (tVar 5))))))))
    have G_l_one : FnG P TheW.w K mg base L2.CX0 2 t.f_l_one t.fd_l_one ["_law_bag_here", "_law_some"] (sp_l_one K) := ok_l_one T
    have G_l_takeB : FnG P TheW.w K mg base L2.CX0 1 t.f_l_takeB t.fd_l_takeB ["_law_bag_here", "_law_many"] (sp_l_takeB K) := ok_l_takeB T
    exact (pss_cons (ps_par rfl sc_l_twins.nd rfl rfl (by decide) rfl rfl (pa_cons (pe_tup (pa_cons (pe_ix ix_seq (pv 1) pe_int (fun _ _ => rfl)) pa_nil)) (pa_cons (pe_tup (pa_cons (pe_ix ix_seq (pv 1) pe_int (fun _ _ => rfl)) pa_nil)) pa_nil)) (by rfl))
    (pss_cons (ps_set (i := 5) sc_l_twins.nd rfl (Or.inr rfl) (pe_lst (pa_cons (pv 3) (pa_cons (pv 4) (pa_cons (pe_tup (pa_cons (pe_ix ix_seq (pv 1) pe_int (fun _ _ => rfl)) (pa_cons (pv 3) pa_nil))) (pa_cons (pe_tup (pa_cons (pe_ix ix_seq (pv 1) pe_int (fun _ _ => rfl)) (pa_cons (pv 4) pa_nil))) pa_nil))))))
    (pss_cons (ps_if (PW.pt (pw_and (pt_cmpR op_gtU  (pv 2) pe_int (nomark _)) (pw_and1 (pt_cmpR (op_eqU hr.r.units)  (pe_g G_l_takeB (hr.mono (by decide)) (by rfl) T.g_l_takeB T.F_l_takeB.kp T.b_l_takeB .nil pass0 (pa_cons (pv 0) (pa_cons pe_int pa_nil))) pe_int (nomark _))))) (pss_one (ps_set (i := 5) sc_l_twins.nd rfl (Or.inr rfl) (pe_op op_addU (pv 5) (pe_lst (pa_cons (pe_tup (pa_cons (pe_ix ix_seq (pv 1) pe_int (fun _ _ => rfl)) (pa_cons (pe_ix ix_seq (pv 5) pe_int (fun _ _ => rfl)) pa_nil))) (pa_cons (pe_tup (pa_cons (pe_ix ix_seq (pv 1) pe_int (fun _ _ => rfl)) (pa_cons (pe_ix ix_seq (pv 5) pe_int (fun _ _ => rfl)) pa_nil))) pa_nil)))))) pss_nil)
    (pss_cons (ps_set (i := 6) sc_l_twins.nd rfl (Or.inl rfl) (pe_lst (pa_cons (pe_tup (pa_cons (pe_ix ix_seq (pv 1) pe_int (fun _ _ => rfl)) pa_nil)) (pa_cons (pe_tup (pa_cons (pe_ix ix_seq (pv 1) pe_int (fun _ _ => rfl)) (pa_cons (pv 3) (pa_cons (pv 4) pa_nil)))) (pa_cons (pe_tup (pa_cons (pe_ix ix_seq (pv 1) pe_int (fun _ _ => rfl)) (pa_cons (pv 3) (pa_cons (pv 4) pa_nil)))) (pa_cons (pe_tup (pa_cons (pe_ix ix_seq (pv 1) pe_int (fun _ _ => rfl)) (pa_cons (pv 4) (pa_cons (pv 3) (pa_cons (pv 3) pa_nil))))) pa_nil))))))
    (pss_cons (ps_while PassesOwn.never (PW.pt (pw_and (pt_cmpR op_ltU  (pe_callB call_lenU (by rfl) T.z_len (by decide +kernel) (pa_cons (pv 5) pa_nil)) (pv 2) (nomark _)) (pw_and1 (pt_cmpR (op_eqU hr.r.units)  (pe_g G_l_takeB (hr.mono (by decide)) (by rfl) T.g_l_takeB T.F_l_takeB.kp T.b_l_takeB .nil pass0 (pa_cons (pv 0) (pa_cons pe_int pa_nil))) pe_int (nomark _))))) (pss_cons (ps_setLc (i := 7) (own := [("_law_term", 8)]) (g := (gName 8)) rfl sc_l_twins.nd rfl rfl (sw_true rfl rfl rfl (by decide +kernel)) (pi_list (pv 6)) (blkOk_by (own := [("_law_term", 8)]) (N := N_l_twins) (sc := defScope s_l_twins) (by decide +kernel)) (fun _ _ _ _ _ => (pg_name (i := 8) sc_l_twins.nd rfl (Or.inl rfl))) (fun _ _ _ _ _ => pts_one (pt_cmpR (op_notInD (units65 hr.r))  (pv 8) (pv 5) (by first | exact nomark _ | rfl))) (fun _ _ _ _ _ => (pv 8)))
    (pss_one (ps_expr (pe_bm PySem.F.plainAttrs_list PySem.F.slot_list_append PySem.F.type_list_append mt_append (pv 5) (pa_cons (pe_g G_l_one (hr.mono (by decide)) (by rfl) T.g_l_one T.F_l_one.kp T.b_l_one .nil pass0 (pa_cons (pv 0) (pa_cons (pv 7) pa_nil))) pa_nil))))))
    (pss_one (ps_ret (pv 5))))))))
theorem ok_l_chain (T : Tx K mg t) : FnG P TheW.w K mg base L2.CX0 3 t.f_l_chain t.fd_l_chain ["_law_bag_here", "_law_pool_here"] (sp_l_chain K) := by
  refine ok_G T.F_l_chain sc_l_chain (len_G (n := 1) n_l_chain) (fun cdv A outer s H vs Q E hr h => ⟨t_l_chain K, ?_, body_G (N := N_l_chain) (fun b => m_l_chain) (dat_l_chain) h⟩)
  · show PSs _ _ ((tSeq (tAsg (tTup (tCons (tC (.str "tell")) (tCons (tCall (sp_l_one K) [] E0 (tCons (tVar 0) (tCons (tVar 1) tNil))) tNil))) (gName 2))
    (tSeq (tFor (iRng1 (tCons (tC (.int 5)) tNil)) (gName 3) (tSeq (tAsg (tCall (sp_l_mixed K) [] E0 (tCons (tVar 0) (tCons (tLst (tCons (tVar 2) (tCons (tTup (tCons (tC (.str "tell")) (tCons (tCall (sp_l_one K) [] E0 (tCons (tVar 0) (tCons (tVar 1) tNil))) tNil))) tNil))) tNil))) (gName 4))
    (tAsg (tTup (tCons (tC (.str "if")) (tCons (tCall (sp_l_one K) [] E0 (tCons (tVar 0) (tCons (tVar 1) tNil))) (tCons (tCall (sp_l_one K) [] E0 (tCons (tVar 0) (tCons (tVar 1) tNil))) (tCons (tOp (rIx K) (tVar 4) (tC (.int 0))) (tCons (tOp (rIx K) (tVar 4) (tC (.int 1))) tNil)))))) (gName 2))))
    (tRet (tVar 2)))))
    have G_l_mixed : FnG P TheW.w K mg base L2.CX0 2 t.f_l_mixed t.fd_l_mixed ["_law_bag_here", "_law_values"] (sp_l_mixed K) := ok_l_mixed T
    have G_l_one : FnG P TheW.w K mg base L2.CX0 2 t.f_l_one t.fd_l_one ["_law_bag_here", "_law_some"] (sp_l_one K) := ok_l_one T
    exact (pss_cons (ps_set (i := 2) sc_l_chain.nd rfl (Or.inl rfl) (pe_tup (pa_cons pe_str (pa_cons (pe_g G_l_one (hr.mono (by decide)) (by rfl) T.g_l_one T.F_l_one.kp T.b_l_one .nil pass0 (pa_cons (pv 0) (pa_cons (pv 1) pa_nil))) pa_nil))))
    (pss_cons (ps_for PassesOwn.never rfl (pi_range1 (by rfl) T.z_range (pa_cons pe_int pa_nil)) (pg_name (i := 3) sc_l_chain.nd rfl (Or.inl rfl)) (pss_cons (ps_set (i := 4) sc_l_chain.nd rfl (Or.inl rfl) (pe_g G_l_mixed (hr.mono (by decide)) (by rfl) T.g_l_mixed T.F_l_mixed.kp T.b_l_mixed .nil pass0 (pa_cons (pv 0) (pa_cons (pe_lst (pa_cons (pv 2) (pa_cons (pe_tup (pa_cons pe_str (pa_cons (pe_g G_l_one (hr.mono (by decide)) (by rfl) T.g_l_one T.F_l_one.kp T.b_l_one .nil pass0 (pa_cons (pv 0) (pa_cons (pv 1) pa_nil))) pa_nil))) pa_nil))) pa_nil))))
    (pss_one (ps_set (i := 2) sc_l_chain.nd rfl (Or.inl rfl) (pe_tup (pa_cons pe_str (pa_cons (pe_g G_l_one (hr.mono (by decide)) (by rfl) T.g_l_one T.F_l_one.kp T.b_l_one .nil pass0 (pa_cons (pv 0) (pa_cons (pv 1) pa_nil))) (pa_cons (pe_g G_l_one (hr.mono (by decide)) (by rfl) T.g_l_one T.F_l_one.kp T.b_l_one .nil pass0 (pa_cons (pv 0) (pa_cons (pv 1) pa_nil))) (pa_cons (pe_ix ix_seq (pv 4) pe_int (fun _ _ => rfl)) (pa_cons (pe_ix ix_seq (pv 4) pe_int (fun _ _ => rfl)) pa_nil))))))))))
    (pss_one (ps_ret (pv 2)))))
theorem ok_l_pool (T : Tx K mg t) : FnG P TheW.w K mg base L2.CX0 4 t.f_l_pool t.fd_l_pool ["_law_bag_here", "_law_most"] (sp_l_pool K) := by
  refine ok_G T.F_l_pool sc_l_pool (len_G (n := 1) n_l_pool) (fun cdv A outer s H vs Q E hr h => ⟨t_l_pool K, ?_, body_G (N := N_l_pool) (fun b => m_l_pool) (dat_l_pool) h⟩)
  · show PSs _ _ ((tSeq (tAsg (tCall (sp_l_names K) [] E0 (tCons (tVar 0) tNil)) (gName 2))
    (tSeq (tIfS (tAnd (tTest (tOp (rLtU (fun i j => decide (j < i)) fun i j => ltS j i) (tVar 1) (tC (.int 3)))) (tTest (tOp (rEqU K) (tCall (sp_l_takeB K) [] E0 (tCons (tVar 0) (tCons (tC (.int 2)) tNil))) (tC (.int 1))))) (tRet (tCall (sp_l_twins K) [] E0 (tCons (tVar 0) (tCons (tVar 2) (tCons (tVar 1) tNil))))) tNext)
    (tSeq (tAsg (tLc (iList K (tSl (rSlU K) (tVar 2) tNoPart (tPart (tCB rMin2 (tCons (tVar 1) (tCons (tOp (rAddU K) (tC (.int 2)) (tCall (sp_l_takeB K) [] E0 (tCons (tVar 0) (tCons (tC (.int 3)) tNil)))) tNil)))))) (gName 8) tYes (tTup (tCons (tVar 8) tNil)) [8]) (gName 3))
    (tSeq (tAsg (tOp (rAddU K) (tSl (rSlU K) (tVar 2) (tPart (tC (.int 4))) (tPart (tC (.int 6)))) (tLst (tCons (tCall (sp_l_one K) [] E0 (tCons (tVar 0) (tCons (tSl (rSlU K) (tVar 2) tNoPart (tPart (tC (.int 6)))) tNil))) tNil))) (gName 4))
    (tSeq (tFor (iRng1 (tCons (tCall (sp_l_one K) [] E0 (tCons (tVar 0) (tCons (tLst (tCons (tC (.int 4)) (tCons (tC (.int 2)) (tCons (tC (.int 6)) (tCons (tC (.int 0)) tNil))))) tNil))) tNil)) (gName 5) (tSeq (tAsg (tLc (iRng1 (tCons (tCall (sp_l_one K) [] E0 (tCons (tVar 0) (tCons (tLst (tCons (tC (.int 1)) (tCons (tC (.int 1)) (tCons (tC (.int 2)) tNil)))) tNil))) tNil)) (gName 9) tYes (tCall (sp_l_one K) [] E0 (tCons (tVar 0) (tCons (tVar 3) tNil))) [9]) (gName 6))
    (tSeq (tAsg (tOp (rAddU K) (tTup (tCons (tCall (sp_l_one K) [] E0 (tCons (tVar 0) (tCons (tVar 4) tNil))) tNil)) (tCB (rTupOf K) (tCons (tVar 6) tNil))) (gName 7))
    (tIfS (tAnd (tTest (tOp (rNotInD K) (tVar 7) (tVar 3))) (tTest (tOp (rLtU (fun i j => decide (i < j)) fun i j => ltS i j) (tCB (rLenU K) (tCons (tVar 3) tNil)) (tVar 1)))) (tDrop (tBM K "list" rAppend (tVar 3) (tCons (tVar 7) tNil))) tNext))))
    (tRet (tVar 3))))))))
    have G_l_names : FnG P TheW.w K mg base L2.CX0 3 t.f_l_names t.fd_l_names ["_law_bag_here"] (sp_l_names K) := ok_l_names T
    have G_l_one : FnG P TheW.w K mg base L2.CX0 2 t.f_l_one t.fd_l_one ["_law_bag_here", "_law_some"] (sp_l_one K) := ok_l_one T
    have G_l_takeB : FnG P TheW.w K mg base L2.CX0 1 t.f_l_takeB t.fd_l_takeB ["_law_bag_here", "_law_many"] (sp_l_takeB K) := ok_l_takeB T
    have G_l_twins : FnG P TheW.w K mg base L2.CX0 3 t.f_l_twins t.fd_l_twins ["_law_bag_here", "_law_names_here", "_law_most"] (sp_l_twins K) := ok_l_twins T
    exact (pss_cons (ps_set (i := 2) sc_l_pool.nd rfl (Or.inl rfl) (pe_g G_l_names (hr.mono (by decide)) (by rfl) T.g_l_names T.F_l_names.kp T.b_l_names .nil pass0 (pa_cons (pv 0) pa_nil)))
    (pss_cons (ps_if (PW.pt (pw_and (pt_cmpR op_gtU  (pv 1) pe_int (nomark _)) (pw_and1 (pt_cmpR (op_eqU hr.r.units)  (pe_g G_l_takeB (hr.mono (by decide)) (by rfl) T.g_l_takeB T.F_l_takeB.kp T.b_l_takeB .nil pass0 (pa_cons (pv 0) (pa_cons pe_int pa_nil))) pe_int (nomark _))))) (pss_one (ps_ret (pe_g G_l_twins (hr.mono (by decide)) (by rfl) T.g_l_twins T.F_l_twins.kp T.b_l_twins .nil pass0 (pa_cons (pv 0) (pa_cons (pv 2) (pa_cons (pv 1) pa_nil)))))) pss_nil)
    (pss_cons (ps_set (i := 3) sc_l_pool.nd rfl (Or.inr rfl) (pe_lc (own := [("_law_name", 8)]) (g := (gName 8)) rfl sc_l_pool.nd (pi_list (pe_slice sl_U (pv 2) po_none (po_some (pe_callB (call_min2' (by rfl)) (by rfl) T.z_min (by decide +kernel) (pa_cons (pv 1) (pa_cons (pe_op op_addU pe_int (pe_g G_l_takeB (hr.mono (by decide)) (by rfl) T.g_l_takeB T.F_l_takeB.kp T.b_l_takeB .nil pass0 (pa_cons (pv 0) (pa_cons pe_int pa_nil)))) pa_nil)))))) (blkOk_by (own := [("_law_name", 8)]) (N := N_l_pool) (sc := defScope s_l_pool) (by decide +kernel)) (fun _ _ _ _ _ => (pg_name (i := 8) sc_l_pool.nd rfl (Or.inl rfl))) (fun _ _ _ _ _ => pts_nil) (fun _ _ _ _ _ => (pe_tup (pa_cons (pv 8) pa_nil)))))
    (pss_cons (ps_set (i := 4) sc_l_pool.nd rfl (Or.inl rfl) (pe_op op_addU (pe_slice sl_U (pv 2) (po_some pe_int) (po_some pe_int)) (pe_lst (pa_cons (pe_g G_l_one (hr.mono (by decide)) (by rfl) T.g_l_one T.F_l_one.kp T.b_l_one .nil pass0 (pa_cons (pv 0) (pa_cons (pe_slice sl_U (pv 2) po_none (po_some pe_int)) pa_nil))) pa_nil))))
    (pss_cons (ps_for PassesOwn.never rfl (pi_range1 (by rfl) T.z_range (pa_cons (pe_g G_l_one (hr.mono (by decide)) (by rfl) T.g_l_one T.F_l_one.kp T.b_l_one .nil pass0 (pa_cons (pv 0) (pa_cons (pe_lst (pa_cons pe_int (pa_cons pe_int (pa_cons pe_int (pa_cons pe_int pa_nil))))) pa_nil))) pa_nil)) (pg_name (i := 5) sc_l_pool.nd rfl (Or.inl rfl)) (pss_cons (ps_setLc (i := 6) (own := [("_law_j", 9)]) (g := (gName 9)) rfl sc_l_pool.nd rfl rfl (sw_true rfl rfl rfl (by decide +kernel)) (pi_range1 (by rfl) T.z_range (pa_cons (pe_g G_l_one (hr.mono (by decide)) (by rfl) T.g_l_one T.F_l_one.kp T.b_l_one .nil pass0 (pa_cons (pv 0) (pa_cons (pe_lst (pa_cons pe_int (pa_cons pe_int (pa_cons pe_int pa_nil)))) pa_nil))) pa_nil)) (blkOk_by (own := [("_law_j", 9)]) (N := N_l_pool) (sc := defScope s_l_pool) (by decide +kernel)) (fun _ _ _ _ _ => (pg_name (i := 9) sc_l_pool.nd rfl (Or.inl rfl))) (fun _ _ _ _ _ => pts_nil) (fun _ _ _ _ _ => (pe_g G_l_one (hr.mono (by decide)) (by rfl) T.g_l_one T.F_l_one.kp T.b_l_one .nil pass0 (pa_cons (pv 0) (pa_cons (pv 3) pa_nil)))))
    (pss_cons (ps_set (i := 7) sc_l_pool.nd rfl (Or.inl rfl) (pe_op op_addU (pe_tup (pa_cons (pe_g G_l_one (hr.mono (by decide)) (by rfl) T.g_l_one T.F_l_one.kp T.b_l_one .nil pass0 (pa_cons (pv 0) (pa_cons (pv 4) pa_nil))) pa_nil)) (pe_callTy call_tupOf (by rfl) T.z_tuple (by decide +kernel) (pa_cons (pv 6) pa_nil))))
    (pss_one (ps_if (PW.pt (pw_and (pt_cmpR (op_notInD (units65 hr.r))  (pv 7) (pv 3) (by first | exact nomark _ | rfl)) (pw_and1 (pt_cmpR op_ltU  (pe_callB call_lenU (by rfl) T.z_len (by decide +kernel) (pa_cons (pv 3) pa_nil)) (pv 1) (nomark _))))) (pss_one (ps_expr (pe_bm PySem.F.plainAttrs_list PySem.F.slot_list_append PySem.F.type_list_append mt_append (pv 3) (pa_cons (pv 7) pa_nil)))) pss_nil)))))
    (pss_one (ps_ret (pv 3))))))))
theorem st_l_code (T : Tx K mg t) (n : Nat) {k : Nat} (G_l_code : FnG P TheW.w K mg base L2.CX0 k t.f_l_code t.fd_l_code ["_law_bag_here", "_law_pool_here", "_law_deep"] (sp_l_code K n)) (G_l_one : FnG P TheW.w K mg base L2.CX0 k t.f_l_one t.fd_l_one ["_law_bag_here", "_law_some"] (sp_l_one K)) (G_l_takeB : FnG P TheW.w K mg base L2.CX0 k t.f_l_takeB t.fd_l_takeB ["_law_bag_here", "_law_many"] (sp_l_takeB K)) : FnG P TheW.w K mg base L2.CX0 (k + 1) t.f_l_code t.fd_l_code ["_law_bag_here", "_law_pool_here", "_law_deep"] (sp_l_code K (n + 1)) := by
  refine ok_G T.F_l_code sc_l_code (len_G (n := 2) (n_l_code _)) (fun cdv A outer s H vs Q E hr h => ⟨t_l_code K n, ?_, body_G (N := N_l_code) (fun b => m_l_code) (dat_l_code n) h⟩)
  · show PSs _ _ ((tSeq (tIfS (tOr (tTest (tOp (rEqU K) (tVar 2) (tC (.int 0)))) (tTest (tOp (rEqU K) (tCall (sp_l_takeB K) [] E0 (tCons (tVar 0) (tCons (tC (.int 5)) tNil))) (tC (.int 0))))) (tRet (tTup (tCons (tC (.str "tell")) (tCons (tCall (sp_l_one K) [] E0 (tCons (tVar 0) (tCons (tVar 1) tNil))) tNil)))) tNext)
    (tSeq (tPar 3 4 (tCons (tCall (sp_l_one K) [] E0 (tCons (tVar 0) (tCons (tVar 1) tNil))) (tCons (tCall (sp_l_one K) [] E0 (tCons (tVar 0) (tCons (tVar 1) tNil))) tNil)))
    (tRet (tTup (tCons (tC (.str "if")) (tCons (tVar 3) (tCons (tVar 4) (tCons (tCall (sp_l_code K n) [] E0 (tCons (tVar 0) (tCons (tVar 1) (tCons (tOp (rI0 fun i j => .int (i - j)) (tVar 2) (tC (.int 1))) tNil)))) (tCons (tCall (sp_l_code K n) [] E0 (tCons (tVar 0) (tCons (tVar 1) (tCons (tOp (rI0 fun i j => .int (i - j)) (tVar 2) (tC (.int 1))) tNil)))) tNil))))))))))
    exact (pss_cons (ps_if (PW.pt (pw_or (pt_cmpR (op_eqU hr.r.units)  (pv 2) pe_int (nomark _)) (pw_or1 (pt_cmpR (op_eqU hr.r.units)  (pe_g G_l_takeB (hr.mono (Nat.le_refl _)) (by rfl) T.g_l_takeB T.F_l_takeB.kp T.b_l_takeB .nil pass0 (pa_cons (pv 0) (pa_cons pe_int pa_nil))) pe_int (nomark _))))) (pss_one (ps_ret (pe_tup (pa_cons pe_str (pa_cons (pe_g G_l_one (hr.mono (Nat.le_refl _)) (by rfl) T.g_l_one T.F_l_one.kp T.b_l_one .nil pass0 (pa_cons (pv 0) (pa_cons (pv 1) pa_nil))) pa_nil))))) pss_nil)
    (pss_cons (ps_par rfl sc_l_code.nd rfl rfl (by decide) rfl rfl (pa_cons (pe_g G_l_one (hr.mono (Nat.le_refl _)) (by rfl) T.g_l_one T.F_l_one.kp T.b_l_one .nil pass0 (pa_cons (pv 0) (pa_cons (pv 1) pa_nil))) (pa_cons (pe_g G_l_one (hr.mono (Nat.le_refl _)) (by rfl) T.g_l_one T.F_l_one.kp T.b_l_one .nil pass0 (pa_cons (pv 0) (pa_cons (pv 1) pa_nil))) pa_nil)) (by rfl))
    (pss_one (ps_ret (pe_tup (pa_cons pe_str (pa_cons (pv 3) (pa_cons (pv 4) (pa_cons (pe_g G_l_code (hr.mono (Nat.le_refl _)) (by rfl) T.g_l_code T.F_l_code.kp T.b_l_code .nil pass0 (pa_cons (pv 0) (pa_cons (pv 1) (pa_cons (pe_op op_sub (pv 2) pe_int) pa_nil)))) (pa_cons (pe_g G_l_code (hr.mono (Nat.le_refl _)) (by rfl) T.g_l_code T.F_l_code.kp T.b_l_code .nil pass0 (pa_cons (pv 0) (pa_cons (pv 1) (pa_cons (pe_op op_sub (pv 2) pe_int) pa_nil)))) pa_nil))))))))))
theorem ok_l_code (T : Tx K mg t) : ∀ n : Nat, FnG P TheW.w K mg base L2.CX0 (2 + n) t.f_l_code t.fd_l_code ["_law_bag_here", "_law_pool_here", "_law_deep"] (sp_l_code K n)
  | 0 => FnG.never (never_G (no_l_code))
  | n + 1 => st_l_code T n (ok_l_code T n) ((ok_l_one T).mono (show 2 ≤ 2 + n by omega)) ((ok_l_takeB T).mono (show 1 ≤ 2 + n by omega))
theorem st__key (T : Tx K mg t) (n : Nat) {k : Nat} (G__key : FnG P TheW.w K mg base L2.CX0 k t.f__key t.fd__key ["term", "world"] (sp__key K n)) : FnG P TheW.w K mg base L2.CX0 (k + 1) t.f__key t.fd__key ["term", "world"] (sp__key K (n + 1)) := by
  refine ok_G T.F__key sc__key (len_P (n := 2) (n__key _)) (fun cdv A outer s H vs Q E hr h => ⟨t__key K n, ?_, body_P (N := N__key) (fun b => m__key) (dat__key n) h⟩)
  · show PSs _ _ ((tSeq (tAsg (tSl (rSlU K) (tVar 0) tNoPart (tPart (tC (.int 1)))) (gName 2))
    (tSeq (tFor (iTup K (tSl (rSlU K) (tVar 0) (tPart (tC (.int 1))) tNoPart)) (gName 3) (tAsg (tOp (rAddU K) (tVar 2) (tTup (tCons (tGet2 K (tVar 1) (tCall (sp__key K n) [] E0 (tCons (tVar 3) (tCons (tVar 1) tNil))) (tC (.int 0))) tNil))) (gName 2)))
    (tRet (tVar 2)))))
    exact (pss_cons (ps_set (i := 2) sc__key.nd rfl (Or.inl rfl) (pe_slice sl_U (pv 0) po_none (po_some pe_int)))
    (pss_cons (ps_for PassesOwn.never rfl (pi_tup (pe_slice sl_U (pv 0) (po_some pe_int) po_none)) (pg_name (i := 3) sc__key.nd rfl (Or.inl rfl)) (pss_one (ps_set (i := 2) sc__key.nd rfl (Or.inl rfl) (pe_op op_addU (pv 2) (pe_tup (pa_cons (pe_get2 rfl (u16 hr.r.units) (pv 1) (pe_g G__key (hr.mono (Nat.le_refl _)) (by rfl) T.g__key T.F__key.kp T.b__key .nil pass0 (pa_cons (pv 3) (pa_cons (pv 1) pa_nil))) pe_int ⟨rfl, rfl, rfl, rfl⟩) pa_nil))))))
    (pss_one (ps_ret (pv 2)))))
theorem ok__key (T : Tx K mg t) : ∀ n : Nat, FnG P TheW.w K mg base L2.CX0 (0 + n) t.f__key t.fd__key ["term", "world"] (sp__key K n)
  | 0 => FnG.never (never_P (no__key))
  | n + 1 => st__key T n (ok__key T n)
theorem st_l_terms_in (T : Tx K mg t) (n : Nat) {k : Nat} (G_l_terms_in : FnG P TheW.w K mg base L2.CX0 k t.f_l_terms_in t.fd_l_terms_in ["_law_thing"] (sp_l_terms_in K n)) : FnG P TheW.w K mg base L2.CX0 (k + 1) t.f_l_terms_in t.fd_l_terms_in ["_law_thing"] (sp_l_terms_in K (n + 1)) := by
  refine ok_G T.F_l_terms_in sc_l_terms_in (len_P (n := 1) (n_l_terms_in _)) (fun cdv A outer s H vs Q E hr h => ⟨t_l_terms_in K n, ?_, body_P (N := N_l_terms_in) (fun b => m_l_terms_in) (dat_l_terms_in n) h⟩)
  · show PSs _ _ ((tSeq (tIfS (tTest (tOp (rEqU K) (tOp (rIx K) (tVar 0) (tC (.int 0))) (tC (.str "tell")))) (tRet (tLst (tCons (tOp (rIx K) (tVar 0) (tC (.int 1))) tNil))) tNext)
    (tSeq (tIfS (tTest (tOp (rEqU K) (tOp (rIx K) (tVar 0) (tC (.int 0))) (tC (.str "if")))) (tRet (tOp (rAddU K) (tOp (rAddU K) (tLst (tCons (tOp (rIx K) (tVar 0) (tC (.int 1))) (tCons (tOp (rIx K) (tVar 0) (tC (.int 2))) tNil))) (tCall (sp_l_terms_in K n) [] E0 (tCons (tOp (rIx K) (tVar 0) (tC (.int 3))) tNil))) (tCall (sp_l_terms_in K n) [] E0 (tCons (tOp (rIx K) (tVar 0) (tC (.int 4))) tNil)))) tNext)
    (tSeq (tIfS (tTest (tOp (rInU K false) (tOp (rIx K) (tVar 0) (tC (.int 0))) (tTup (tCons (tC (.str "yes")) (tCons (tC (.str "no")) tNil))))) (tRet (tLst tNil)) tNext)
    (tRet (tIf (tTest (tOp (rInU K false) (tOp (rIx K) (tVar 0) (tC (.int 0))) (tTup (tCons (tC (.str "alike")) (tCons (tC (.str "unlike")) tNil))))) (tLst (tCons (tOp (rIx K) (tVar 0) (tC (.int 1))) (tCons (tOp (rIx K) (tVar 0) (tC (.int 2))) tNil))) (tLst (tCons (tVar 0) tNil))))))))
    exact (pss_cons (ps_if (pt_cmpR (op_eqU hr.r.units)  (pe_ix ix_seq (pv 0) pe_int (fun _ _ => rfl)) pe_str (nomark _)) (pss_one (ps_ret (pe_lst (pa_cons (pe_ix ix_seq (pv 0) pe_int (fun _ _ => rfl)) pa_nil)))) pss_nil)
    (pss_cons (ps_if (pt_cmpR (op_eqU hr.r.units)  (pe_ix ix_seq (pv 0) pe_int (fun _ _ => rfl)) pe_str (nomark _)) (pss_one (ps_ret (pe_op op_addU (pe_op op_addU (pe_lst (pa_cons (pe_ix ix_seq (pv 0) pe_int (fun _ _ => rfl)) (pa_cons (pe_ix ix_seq (pv 0) pe_int (fun _ _ => rfl)) pa_nil))) (pe_g G_l_terms_in (hr.mono (Nat.le_refl _)) (by rfl) T.g_l_terms_in T.F_l_terms_in.kp T.b_l_terms_in .nil pass0 (pa_cons (pe_ix ix_seq (pv 0) pe_int (fun _ _ => rfl)) pa_nil))) (pe_g G_l_terms_in (hr.mono (Nat.le_refl _)) (by rfl) T.g_l_terms_in T.F_l_terms_in.kp T.b_l_terms_in .nil pass0 (pa_cons (pe_ix ix_seq (pv 0) pe_int (fun _ _ => rfl)) pa_nil))))) pss_nil)
    (pss_cons (ps_if (pt_cmpR (op_inU hr.r.units)  (pe_ix ix_seq (pv 0) pe_int (fun _ _ => rfl)) (pe_tup (pa_cons pe_str (pa_cons pe_str pa_nil))) (by first | exact nomark _ | rfl)) (pss_one (ps_ret (pe_lst pa_nil))) pss_nil)
    (pss_one (ps_ret (pe_ifExp (pt_cmpR (op_inU hr.r.units)  (pe_ix ix_seq (pv 0) pe_int (fun _ _ => rfl)) (pe_tup (pa_cons pe_str (pa_cons pe_str pa_nil))) (by first | exact nomark _ | rfl)) (pe_lst (pa_cons (pe_ix ix_seq (pv 0) pe_int (fun _ _ => rfl)) (pa_cons (pe_ix ix_seq (pv 0) pe_int (fun _ _ => rfl)) pa_nil))) (pe_lst (pa_cons (pv 0) pa_nil))))))))
theorem ok_l_terms_in (T : Tx K mg t) : ∀ n : Nat, FnG P TheW.w K mg base L2.CX0 (0 + n) t.f_l_terms_in t.fd_l_terms_in ["_law_thing"] (sp_l_terms_in K n)
  | 0 => FnG.never (never_P (no_l_terms_in))
  | n + 1 => st_l_terms_in T n (ok_l_terms_in T n)
theorem ok_worth (T : Tx K mg t) : FnG P TheW.w K mg base L2.CX0 9 t.f_worth t.fd_worth ["term", "world"] (sp_worth K) := by
  refine ok_G T.F_worth sc_worth (len_P (n := 2) n_worth) (fun cdv A outer s H vs Q E hr h => ⟨t_worth K, ?_, body_P (N := N_worth) (fun b => m_worth) (dat_worth) h⟩)
  · show PSs _ _ ((tRet (tGet2 K (tVar 1) (tCall (sp__key K 8) [] E0 (tCons (tVar 0) (tCons (tVar 1) tNil))) (tC (.int 0)))))
    have G__key : FnG P TheW.w K mg base L2.CX0 8 t.f__key t.fd__key ["term", "world"] (sp__key K 8) := ok__key T 8
    exact (pss_one (ps_ret (pe_get2 rfl (u16 hr.r.units) (pv 1) (pe_g G__key (hr.mono (by decide)) (by rfl) T.g__key T.F__key.kp T.b__key .nil pass0 (pa_cons (pv 0) (pa_cons (pv 1) pa_nil))) pe_int ⟨rfl, rfl, rfl, rfl⟩)))
theorem ok_alike (T : Tx K mg t) : FnG P TheW.w K mg base L2.CX0 10 t.f_alike t.fd_alike ["one", "other", "world"] (sp_alike K) := by
  refine ok_G T.F_alike sc_alike (len_P (n := 3) n_alike) (fun cdv A outer s H vs Q E hr h => ⟨t_alike K, ?_, body_P (N := N_alike) (fun b => m_alike) (dat_alike) h⟩)
  · show PSs _ _ ((tRet (tOp (rEqU K) (tCall (sp_worth K) [] E0 (tCons (tVar 0) (tCons (tVar 2) tNil))) (tCall (sp_worth K) [] E0 (tCons (tVar 1) (tCons (tVar 2) tNil))))))
    have G_worth : FnG P TheW.w K mg base L2.CX0 9 t.f_worth t.fd_worth ["term", "world"] (sp_worth K) := ok_worth T
    exact (pss_one (ps_ret (pe_cmpR (op_eqU hr.r.units)  (pe_g G_worth (hr.mono (by decide)) (by rfl) T.g_worth T.F_worth.kp T.b_worth .nil pass0 (pa_cons (pv 0) (pa_cons (pv 2) pa_nil))) (pe_g G_worth (hr.mono (by decide)) (by rfl) T.g_worth T.F_worth.kp T.b_worth .nil pass0 (pa_cons (pv 1) (pa_cons (pv 2) pa_nil))) (nomark _))))
theorem ok_answer (T : Tx K mg t) : FnG P TheW.w K mg base L2.CX0 11 t.f_answer t.fd_answer ["code", "world"] (sp_answer K) := by
  refine ok_G T.F_answer sc_answer (len_P (n := 2) n_answer) (fun cdv A outer s H vs Q E hr h => ⟨t_answer K, ?_, body_P (N := N_answer) (fun b => m_answer) (dat_answer) h⟩)
  · show PSs _ _ ((tSeq (tAsg (tVar 0) (gName 2))
    (tSeq (tWhile (tTest (tOp (rEqU K) (tOp (rIx K) (tVar 2) (tC (.int 0))) (tC (.str "if")))) (tAsg (tIf (tB (tCall (sp_alike K) [] E0 (tCons (tOp (rIx K) (tVar 2) (tC (.int 1))) (tCons (tOp (rIx K) (tVar 2) (tC (.int 2))) (tCons (tVar 1) tNil))))) (tOp (rIx K) (tVar 2) (tC (.int 3))) (tOp (rIx K) (tVar 2) (tC (.int 4)))) (gName 2)))
    (tRet (tCall (sp_worth K) [] E0 (tCons (tOp (rIx K) (tVar 2) (tC (.int 1))) (tCons (tVar 1) tNil)))))))
    have G_alike : FnG P TheW.w K mg base L2.CX0 10 t.f_alike t.fd_alike ["one", "other", "world"] (sp_alike K) := ok_alike T
    have G_worth : FnG P TheW.w K mg base L2.CX0 9 t.f_worth t.fd_worth ["term", "world"] (sp_worth K) := ok_worth T
    exact (pss_cons (ps_set (i := 2) sc_answer.nd rfl (Or.inl rfl) (pv 0))
    (pss_cons (ps_while PassesOwn.never (pt_cmpR (op_eqU hr.r.units)  (pe_ix ix_seq (pv 2) pe_int (fun _ _ => rfl)) pe_str (nomark _)) (pss_one (ps_set (i := 2) sc_answer.nd rfl (Or.inl rfl) (pe_ifExp (pt_val (pe_g G_alike (hr.mono (by decide)) (by rfl) T.g_alike T.F_alike.kp T.b_alike .nil pass0 (pa_cons (pe_ix ix_seq (pv 2) pe_int (fun _ _ => rfl)) (pa_cons (pe_ix ix_seq (pv 2) pe_int (fun _ _ => rfl)) (pa_cons (pv 1) pa_nil))))) (pe_ix ix_seq (pv 2) pe_int (fun _ _ => rfl)) (pe_ix ix_seq (pv 2) pe_int (fun _ _ => rfl))))))
    (pss_one (ps_ret (pe_g G_worth (hr.mono (by decide)) (by rfl) T.g_worth T.F_worth.kp T.b_worth .nil pass0 (pa_cons (pe_ix ix_seq (pv 2) pe_int (fun _ _ => rfl)) (pa_cons (pv 1) pa_nil)))))))
theorem st_mark (T : Tx K mg t) (n : Nat) {k : Nat} (G_mark : FnG P TheW.w K mg base L2.CX0 k t.f_mark t.fd_mark ["term"] (sp_mark K n)) : FnG P TheW.w K mg base L2.CX0 (k + 1) t.f_mark t.fd_mark ["term"] (sp_mark K (n + 1)) := by
  refine ok_G T.F_mark sc_mark (len_P (n := 1) (n_mark _)) (fun cdv A outer s H vs Q E hr h => ⟨t_mark K n, ?_, body_P (N := N_mark) (fun b => m_mark) (dat_mark n) h⟩)
  · show PSs _ _ ((tSeq (tAsg (tOp (rAddU K) (tOp (rIx K) (tVar 0) (tC (.int 0))) (tC (.str "("))) (gName 1))
    (tSeq (tFor (iTup K (tSl (rSlU K) (tVar 0) (tPart (tC (.int 1))) tNoPart)) (gName 2) (tAsg (tOp (rAddU K) (tVar 1) (tCall (sp_mark K n) [] E0 (tCons (tVar 2) tNil))) (gName 1)))
    (tRet (tOp (rAddU K) (tVar 1) (tC (.str ")")))))))
    exact (pss_cons (ps_set (i := 1) sc_mark.nd rfl (Or.inl rfl) (pe_op op_addU (pe_ix ix_seq (pv 0) pe_int (fun _ _ => rfl)) pe_str))
    (pss_cons (ps_for PassesOwn.never rfl (pi_tup (pe_slice sl_U (pv 0) (po_some pe_int) po_none)) (pg_name (i := 2) sc_mark.nd rfl (Or.inl rfl)) (pss_one (ps_set (i := 1) sc_mark.nd rfl (Or.inl rfl) (pe_op op_addU (pv 1) (pe_g G_mark (hr.mono (Nat.le_refl _)) (by rfl) T.g_mark T.F_mark.kp T.b_mark .nil pass0 (pa_cons (pv 2) pa_nil))))))
    (pss_one (ps_ret (pe_op op_addU (pv 1) pe_str)))))
theorem ok_mark (T : Tx K mg t) : ∀ n : Nat, FnG P TheW.w K mg base L2.CX0 (0 + n) t.f_mark t.fd_mark ["term"] (sp_mark K n)
  | 0 => FnG.never (never_P (no_mark))
  | n + 1 => st_mark T n (ok_mark T n)
theorem st_l_subs (T : Tx K mg t) (n : Nat) {k : Nat} (G_l_subs : FnG P TheW.w K mg base L2.CX0 k t.f_l_subs t.fd_l_subs ["_law_term"] (sp_l_subs K n)) : FnG P TheW.w K mg base L2.CX0 (k + 1) t.f_l_subs t.fd_l_subs ["_law_term"] (sp_l_subs K (n + 1)) := by
  refine ok_G T.F_l_subs sc_l_subs (len_PO (n := 1) (n_l_subs _)) (fun cdv A outer s H vs Q E hr h => ⟨t_l_subs K n, ?_, body_PO (N := N_l_subs) (fun b => m_l_subs) (dat_l_subs n) h⟩)
  · show PSs _ _ ((tSeq (tAsg (tLst (tCons (tVar 0) tNil)) (gName 1))
    (tSeq (tFor (iTup K (tSl (rSlU K) (tVar 0) (tPart (tC (.int 1))) tNoPart)) (gName 2) (tDrop (tBM K "list" rExtend (tVar 1) (tCons (tCall (sp_l_subs K n) [] E0 (tCons (tVar 2) tNil)) tNil))))
    (tRet (tVar 1)))))
    exact (pss_cons (ps_set (i := 1) sc_l_subs.nd rfl (Or.inl rfl) (pe_lst (pa_cons (pv 0) pa_nil)))
    (pss_cons (ps_for PassesOwn.never rfl (pi_tup (pe_slice sl_U (pv 0) (po_some pe_int) po_none)) (pg_name (i := 2) sc_l_subs.nd rfl (Or.inl rfl)) (pss_one (ps_expr (pe_bm PySem.F.plainAttrs_list PySem.F.slot_list_extend PySem.F.type_list_extend mt_extend (pv 1) (pa_cons (pe_g G_l_subs (hr.mono (Nat.le_refl _)) (by rfl) T.g_l_subs T.F_l_subs.kp T.b_l_subs .nil pass0 (pa_cons (pv 2) pa_nil)) pa_nil)))))
    (pss_one (ps_ret (pv 1)))))
theorem ok_l_subs (T : Tx K mg t) : ∀ n : Nat, FnG P TheW.w K mg base L2.CX0 (0 + n) t.f_l_subs t.fd_l_subs ["_law_term"] (sp_l_subs K n)
  | 0 => FnG.never (never_PO (no_l_subs))
  | n + 1 => st_l_subs T n (ok_l_subs T n)
theorem ok_lot_numbers (T : Tx K mg t) : FnG P TheW.w K mg base L2.CX0 13 t.f_lot_numbers t.fd_lot_numbers ["shape"] (sp_lot_numbers K) := by
  refine ok_G T.F_lot_numbers sc_lot_numbers (len_P (n := 1) n_lot_numbers) (fun cdv A outer s H vs Q E hr h => ⟨t_lot_numbers K, ?_, body_P (N := N_lot_numbers) (fun b => m_lot_numbers) (dat_lot_numbers) h⟩)
  · show PSs _ _ ((tRet (tC2 (iEnT K (tCons (tVar 0) tNil)) (gTup K 2 (gCons (gName 1) (gCons (gName 2) gNil))) tYes (fun D => putIn2 (iTup K (tVar 2)) (gName 3) tYes (putD (tCall (sp_mark K 12) [] E0 (tCons (tVar 3) tNil)) (tVar 1) D) [3]) (.dK []) [1, 2, 3])))
    have G_mark : FnG P TheW.w K mg base L2.CX0 12 t.f_mark t.fd_mark ["term"] (sp_mark K 12) := ok_mark T 12
    exact (pss_one (ps_ret (pe_dc2 (own := [("number", 1), ("lot", 2), ("term", 3)]) (vs := [3]) rfl sc_lot_numbers.nd (pi_enumT (by rfl) T.z_enumerate (pa_cons (pv 0) pa_nil)) (blkOk_by (own := [("number", 1), ("lot", 2), ("term", 3)]) (N := N_lot_numbers) (sc := defScope s_lot_numbers) (by decide +kernel)) (fun _ _ _ _ _ => (pg_tup rfl (pgs_cons (pg_name (i := 1) sc_lot_numbers.nd rfl (Or.inl rfl)) (pgs_cons (pg_name (i := 2) sc_lot_numbers.nd rfl (Or.inl rfl)) pgs_nil)))) (fun _ _ _ _ _ => pts_nil) (fun _ _ _ _ _ => (pi_tup (pv 2))) (fun _ _ _ _ _ => (pg_name (i := 3) sc_lot_numbers.nd rfl (Or.inl rfl))) (fun _ _ _ _ _ => pts_nil) (fun _ _ _ _ _ => (pe_g G_mark (hr.mono (by decide)) (by rfl) T.g_mark T.F_mark.kp T.b_mark .nil pass0 (pa_cons (pv 3) pa_nil))) (fun _ _ _ _ _ => (pv 1)) (by decide))))
theorem ok_l_closed (T : Tx K mg t) : FnG P TheW.w K mg base L2.CX0 13 t.f_l_closed t.fd_l_closed ["_law_terms"] (sp_l_closed K) := by
  refine ok_G T.F_l_closed sc_l_closed (len_PO (n := 1) n_l_closed) (fun cdv A outer s H vs Q E hr h => ⟨t_l_closed K, ?_, body_PO (N := N_l_closed) (fun b => m_l_closed) (dat_l_closed) h⟩)
  · show PSs _ _ ((tSeq (tAsg (tDNewN TheW.w) (gName 1))
    (tSeq (tFor (iList K (tVar 0)) (gName 2) (tFor (iList K (tCall (sp_l_subs K 12) [] E0 (tCons (tVar 2) tNil))) (gName 3) (sNPut K TheW.w (tVar 1) (tVar 3) (tC (.bl true)))))
    (tRet (tCB (rSortedN K TheW.w) (tCons (tVar 1) tNil))))))
    have G_l_subs : FnG P TheW.w K mg base L2.CX0 12 t.f_l_subs t.fd_l_subs ["_law_term"] (sp_l_subs K 12) := ok_l_subs T 12
    exact (pss_cons (ps_set (i := 1) sc_l_closed.nd rfl (Or.inl rfl) pe_dnewN)
    (pss_cons (ps_for PassesOwn.never rfl (pi_list (pv 0)) (pg_name (i := 2) sc_l_closed.nd rfl (Or.inl rfl)) (pss_one (ps_for PassesOwn.never rfl (pi_list (pe_g G_l_subs (hr.mono (by decide)) (by rfl) T.g_l_subs T.F_l_subs.kp T.b_l_subs .nil pass0 (pa_cons (pv 2) pa_nil))) (pg_name (i := 3) sc_l_closed.nd rfl (Or.inl rfl)) (pss_one (ps_nput (u16 hr.r.units) (pv 1) (pv 3) pe_bl (by rfl))))))
    (pss_one (ps_ret (pe_callB (cr_sortedN rfl hr.r.units) (by rfl) T.z_sorted (by decide +kernel) (pa_cons (pv 1) pa_nil))))))
theorem ok_l_in_order (T : Tx K mg t) : FnG P TheW.w K mg base L2.CX0 13 t.f_l_in_order t.fd_l_in_order ["_law_terms"] (sp_l_in_order K) := by
  refine ok_G T.F_l_in_order sc_l_in_order (len_P (n := 1) n_l_in_order) (fun cdv A outer s H vs Q E hr h => ⟨t_l_in_order K, ?_, body_P (N := N_l_in_order) (fun b => m_l_in_order) (dat_l_in_order) h⟩)
  · show PSs _ _ ((tRet (tLc (iList K (tCB (rSortedD K) (tCons (tLc (iList K (tVar 0)) (gName 1) tYes (tTup (tCons (tCB (rLenU K) (tCons (tCall (sp_l_subs K 12) [] E0 (tCons (tVar 1) tNil)) tNil)) (tCons (tVar 1) tNil))) [1]) tNil))) (gName 2) tYes (tOp (rIx K) (tVar 2) (tC (.int 1))) [2])))
    have G_l_subs : FnG P TheW.w K mg base L2.CX0 12 t.f_l_subs t.fd_l_subs ["_law_term"] (sp_l_subs K 12) := ok_l_subs T 12
    exact (pss_one (ps_ret (pe_lc (own := [("_law_row", 2)]) (g := (gName 2)) rfl sc_l_in_order.nd (pi_list (pe_callB (cr_sortedD (units70 hr.r)) (by rfl) T.z_sorted (by decide +kernel) (pa_cons (pe_lc (own := [("_law_term", 1)]) (g := (gName 1)) rfl sc_l_in_order.nd (pi_list (pv 0)) (blkOk_by (own := [("_law_term", 1)]) (N := N_l_in_order) (sc := defScope s_l_in_order) (by decide +kernel)) (fun _ _ _ _ _ => (pg_name (i := 1) sc_l_in_order.nd rfl (Or.inl rfl))) (fun _ _ _ _ _ => pts_nil) (fun _ _ _ _ _ => (pe_tup (pa_cons (pe_callB call_lenU (by rfl) T.z_len (by decide +kernel) (pa_cons (pe_g G_l_subs (hr.mono (by decide)) (by rfl) T.g_l_subs T.F_l_subs.kp T.b_l_subs .nil pass0 (pa_cons (pv 1) pa_nil)) pa_nil)) (pa_cons (pv 1) pa_nil))))) pa_nil))) (blkOk_by (own := [("_law_row", 2)]) (N := N_l_in_order) (sc := defScope s_l_in_order) (by decide +kernel)) (fun _ _ _ _ _ => (pg_name (i := 2) sc_l_in_order.nd rfl (Or.inl rfl))) (fun _ _ _ _ _ => pts_nil) (fun _ _ _ _ _ => (pe_ix ix_seq (pv 2) pe_int (fun _ _ => rfl))))))
theorem ok_told_at (T : Tx K mg t) : FnG P TheW.w K mg base L2.CX0 14 t.f_told_at t.fd_told_at ["code", "shape"] (sp_told_at K) := by
  refine ok_G T.F_told_at sc_told_at (len_P (n := 2) n_told_at) (fun cdv A outer s H vs Q E hr h => ⟨t_told_at K, ?_, body_P (N := N_told_at) (fun b => m_told_at) (dat_told_at) h⟩)
  · show PSs _ _ ((tSeq (tAsg (tCall (sp_lot_numbers K) [] E0 (tCons (tVar 1) tNil)) (gName 2))
    (tSeq (tAsg (tVar 0) (gName 3))
    (tSeq (tWhile (tTest (tOp (rEqU K) (tOp (rIx K) (tVar 3) (tC (.int 0))) (tC (.str "if")))) (tAsg (tIf (tTest (tOp (rEqU K) (tDGet (tVar 2) (tCall (sp_mark K 12) [] E0 (tCons (tOp (rIx K) (tVar 3) (tC (.int 1))) tNil))) (tDGet (tVar 2) (tCall (sp_mark K 12) [] E0 (tCons (tOp (rIx K) (tVar 3) (tC (.int 2))) tNil))))) (tOp (rIx K) (tVar 3) (tC (.int 3))) (tOp (rIx K) (tVar 3) (tC (.int 4)))) (gName 3)))
    (tRet (tOp (rIx K) (tVar 3) (tC (.int 1))))))))
    have G_lot_numbers : FnG P TheW.w K mg base L2.CX0 13 t.f_lot_numbers t.fd_lot_numbers ["shape"] (sp_lot_numbers K) := ok_lot_numbers T
    have G_mark : FnG P TheW.w K mg base L2.CX0 12 t.f_mark t.fd_mark ["term"] (sp_mark K 12) := ok_mark T 12
    exact (pss_cons (ps_set (i := 2) sc_told_at.nd rfl (Or.inl rfl) (pe_g G_lot_numbers (hr.mono (by decide)) (by rfl) T.g_lot_numbers T.F_lot_numbers.kp T.b_lot_numbers .nil pass0 (pa_cons (pv 1) pa_nil)))
    (pss_cons (ps_set (i := 3) sc_told_at.nd rfl (Or.inl rfl) (pv 0))
    (pss_cons (ps_while PassesOwn.never (pt_cmpR (op_eqU hr.r.units)  (pe_ix ix_seq (pv 3) pe_int (fun _ _ => rfl)) pe_str (nomark _)) (pss_one (ps_set (i := 3) sc_told_at.nd rfl (Or.inl rfl) (pe_ifExp (pt_cmpR (op_eqU hr.r.units)  (pe_dget (u1 hr.r.units) (pv 2) (pe_g G_mark (hr.mono (by decide)) (by rfl) T.g_mark T.F_mark.kp T.b_mark .nil pass0 (pa_cons (pe_ix ix_seq (pv 3) pe_int (fun _ _ => rfl)) pa_nil)) (fun _ _ => rfl)) (pe_dget (u1 hr.r.units) (pv 2) (pe_g G_mark (hr.mono (by decide)) (by rfl) T.g_mark T.F_mark.kp T.b_mark .nil pass0 (pa_cons (pe_ix ix_seq (pv 3) pe_int (fun _ _ => rfl)) pa_nil)) (fun _ _ => rfl)) (nomark _)) (pe_ix ix_seq (pv 3) pe_int (fun _ _ => rfl)) (pe_ix ix_seq (pv 3) pe_int (fun _ _ => rfl))))))
    (pss_one (ps_ret (pe_ix ix_seq (pv 3) pe_int (fun _ _ => rfl)))))))
theorem ok_l_asked (T : Tx K mg t) : FnG P TheW.w K mg base L2.CX0 14 t.f_l_asked t.fd_l_asked ["_law_values"] (sp_l_asked K) := by
  refine ok_G T.F_l_asked sc_l_asked (len_P (n := 1) n_l_asked) (fun cdv A outer s H vs Q E hr h => ⟨t_l_asked K, ?_, body_P (N := N_l_asked) (fun b => m_l_asked) (dat_l_asked) h⟩)
  · show PSs _ _ ((tSeq (tAsg (tLst tNil) (gName 1))
    (tSeq (tFor (iList K (tVar 0)) (gName 2) (tDrop (tBM K "list" rExtend (tVar 1) (tCons (tCall (sp_l_terms_in K 9) [] E0 (tCons (tVar 2) tNil)) tNil))))
    (tRet (tCall (sp_l_closed K) [] E0 (tCons (tVar 1) tNil))))))
    have G_l_closed : FnG P TheW.w K mg base L2.CX0 13 t.f_l_closed t.fd_l_closed ["_law_terms"] (sp_l_closed K) := ok_l_closed T
    have G_l_terms_in : FnG P TheW.w K mg base L2.CX0 9 t.f_l_terms_in t.fd_l_terms_in ["_law_thing"] (sp_l_terms_in K 9) := ok_l_terms_in T 9
    exact (pss_cons (ps_set (i := 1) sc_l_asked.nd rfl (Or.inl rfl) (pe_lst pa_nil))
    (pss_cons (ps_for PassesOwn.never rfl (pi_list (pv 0)) (pg_name (i := 2) sc_l_asked.nd rfl (Or.inl rfl)) (pss_one (ps_expr (pe_bm PySem.F.plainAttrs_list PySem.F.slot_list_extend PySem.F.type_list_extend mt_extend (pv 1) (pa_cons (pe_g G_l_terms_in (hr.mono (by decide)) (by rfl) T.g_l_terms_in T.F_l_terms_in.kp T.b_l_terms_in .nil pass0 (pa_cons (pv 2) pa_nil)) pa_nil)))))
    (pss_one (ps_ret (pe_g G_l_closed (hr.mono (by decide)) (by rfl) T.g_l_closed T.F_l_closed.kp T.b_l_closed .nil pass0 (pa_cons (pv 1) pa_nil))))))
theorem ok_l_drawn_lots (T : Tx K mg t) : FnG P TheW.w K mg base L2.CX0 14 t.f_l_drawn_lots t.fd_l_drawn_lots ["_law_bag_here", "_law_terms"] (sp_l_drawn_lots K) := by
  refine ok_G T.F_l_drawn_lots sc_l_drawn_lots (len_G (n := 1) n_l_drawn_lots) (fun cdv A outer s H vs Q E hr h => ⟨t_l_drawn_lots K, ?_, body_G (N := N_l_drawn_lots) (fun b => m_l_drawn_lots) (dat_l_drawn_lots) h⟩)
  · show PSs _ _ ((tSeq (tPar 2 3 (tCons (tDNewN TheW.w) (tCons (tC (.int 0)) tNil)))
    (tSeq (tFor (iList K (tCall (sp_l_in_order K) [] E0 (tCons (tVar 1) tNil))) (gName 4) (tSeq (tPar 5 6 (tCons (tPinE (tCall (sp_l_forced K) [] E0 (tCons (tVar 2) (tCons (tVar 4) tNil)))) (tCons (tCall (sp_l_takeB K) [] E0 (tCons (tVar 0) (tCons (tOp (rAddU K) (tVar 3) (tC (.int 1))) tNil))) tNil)))
    (tSeq (sNPut K TheW.w (tVar 2) (tVar 4) (tIf (tTest (tOp (rNeU K) (tVar 5) (tLst tNil))) (tOp (rIx K) (tVar 5) (tC (.int 0))) (tVar 6)))
    (tAsg (tPinE (tCB rMax2 (tCons (tVar 3) (tCons (tOp (rAddU K) (tIdxN K (tVar 2) (tVar 4)) (tC (.int 1))) tNil)))) (gName 3)))))
    (tPin (tRet (tVar 2))))))
    have G_l_forced : FnG P TheW.w K mg base L2.CX0 1 t.f_l_forced t.fd_l_forced ["_law_lots", "_law_term"] (sp_l_forced K) := ok_l_forced T
    have G_l_in_order : FnG P TheW.w K mg base L2.CX0 13 t.f_l_in_order t.fd_l_in_order ["_law_terms"] (sp_l_in_order K) := ok_l_in_order T
    have G_l_takeB : FnG P TheW.w K mg base L2.CX0 1 t.f_l_takeB t.fd_l_takeB ["_law_bag_here", "_law_many"] (sp_l_takeB K) := ok_l_takeB T
    exact (pss_cons (ps_par rfl sc_l_drawn_lots.nd rfl rfl (by decide) rfl rfl (pa_cons pe_dnewN (pa_cons pe_int pa_nil)) (by rfl))
    (pss_cons (ps_for PassesOwn.never rfl (pi_list (pe_g G_l_in_order (hr.mono (by decide)) (by rfl) T.g_l_in_order T.F_l_in_order.kp T.b_l_in_order .nil pass0 (pa_cons (pv 1) pa_nil))) (pg_name (i := 4) sc_l_drawn_lots.nd rfl (Or.inl rfl)) (pss_cons (ps_par rfl sc_l_drawn_lots.nd rfl rfl (by decide) rfl rfl (pa_cons (pe_pin (pe_g G_l_forced (hr.mono (by decide)) (by rfl) T.g_l_forced T.F_l_forced.kp T.b_l_forced .nil pass0 (pa_cons (pv 2) (pa_cons (pv 4) pa_nil)))) (pa_cons (pe_g G_l_takeB (hr.mono (by decide)) (by rfl) T.g_l_takeB T.F_l_takeB.kp T.b_l_takeB .nil pass0 (pa_cons (pv 0) (pa_cons (pe_op op_addU (pv 3) pe_int) pa_nil))) pa_nil)) (by rfl))
    (pss_cons (ps_nput (u16 hr.r.units) (pv 2) (pv 4) (pe_ifExp (pt_cmpR (op_neU hr.r.units)  (pv 5) (pe_lst pa_nil) (nomark _)) (pe_ix ix_seq (pv 5) pe_int (fun _ _ => rfl)) (pv 6)) (by rfl))
    (pss_one (ps_set (i := 3) sc_l_drawn_lots.nd rfl (Or.inl rfl) (pe_pin (pe_callB (call_max2' (by rfl)) (by rfl) T.z_max (by decide +kernel) (pa_cons (pv 3) (pa_cons (pe_op op_addU (pe_idxN rfl (u16 hr.r.units) (pv 2) (pv 4) (fun _ _ => rfl)) pe_int) pa_nil)))))))))
    (pss_one (ps_pin (ps_ret (pv 2))))))
theorem ok_law (T : Tx K mg t) : FnG P TheW.w K mg base L2.CX0 15 t.f_law t.fd_law ["_law_script"] (sp_law K) := by
  refine ok_G T.F_law sc_law len_law (fun cdv A outer s H vs Q E hr h => ⟨tSeq (tAsg (tCall (sp_l_bag K) [] E0 (tCons (tVar 0) tNil)) (gName 1)) (t_law K), ?_, law_body (N := N_law) (by decide) (fun b => m_law) dat_law h⟩)
  · show PSs _ _ (tSeq (tAsg (tCall (sp_l_bag K) [] E0 (tCons (tVar 0) tNil)) (gName 1)) (tSeq (tAsg (tLst tNil) (gName 2))
    (tSeq (tFor (iRng1 (tCons (tC (.int 4)) tNil)) (gName 3) (tSeq (tAsg (tCall (sp_l_pool K) [] E0 (tCons (tVar 1) (tCons (tOp (rIx K) (tLst (tCons (tC (.int 7)) (tCons (tC (.int 6)) (tCons (tC (.int 5)) (tCons (tC (.int 2)) tNil))))) (tVar 3)) tNil))) (gName 4))
    (tSeq (tAsg (tIf (tTest (tOp (rEqU K) (tCall (sp_l_takeB K) [] E0 (tCons (tVar 1) (tCons (tC (.int 3)) tNil))) (tC (.int 0)))) (tSl (rSlU K) (tVar 4) tNoPart (tPart (tOp (rAddU K) (tC (.int 1)) (tCall (sp_l_takeB K) [] E0 (tCons (tVar 1) (tCons (tCB (rLenU K) (tCons (tVar 4) tNil)) tNil)))))) (tVar 4)) (gName 5))
    (tSeq (tAsg (tIf (tTest (tOp (rLtU (fun i j => decide (j < i)) fun i j => ltS j i) (tVar 3) (tC (.int 0)))) (tCall (sp_l_code K 5) [] E0 (tCons (tVar 1) (tCons (tVar 5) (tCons (tCall (sp_l_one K) [] E0 (tCons (tVar 1) (tCons (tLst (tCons (tC (.int 4)) (tCons (tC (.int 3)) (tCons (tC (.int 2)) (tCons (tC (.int 0)) tNil))))) tNil))) tNil)))) (tCall (sp_l_chain K) [] E0 (tCons (tVar 1) (tCons (tVar 5) tNil)))) (gName 6))
    (tSeq (tAsg (tCall (sp_l_drawn_lots K) [] E0 (tCons (tVar 1) (tCons (tVar 4) tNil))) (gName 7))
    (tSeq (tAsg (tCall (sp_l_asked K) [] E0 (tCons (tLst (tCons (tVar 6) tNil)) tNil)) (gName 8))
    (tSeq (tAsg (tCB (rDictN K) (tCons (tLc (iList K (tVar 8)) (gName 13) tYes (tTup (tCons (tVar 13) (tCons (tIdxN K (tVar 7) (tVar 13)) tNil))) [13]) tNil)) (gName 9))
    (tDrop (tBM K "list" rAppend (tVar 2) (tCons (tTup (tCons (tVar 6) (tCons (tCall (sp_l_shape K) [] E0 (tCons (tVar 7) tNil)) (tCons (tCall (sp_l_shape K) [] E0 (tCons (tVar 9) tNil)) (tCons (tOp (rIx K) (tCall (sp_l_end K) [] E0 (tCons (tVar 6) (tCons (tVar 7) tNil))) (tC (.int 1))) tNil))))) tNil))))))))))
    (tSeq (tAsg (tCB (rRepr K) (tCons (tVar 2) tNil)) (gName 10))
    (tSeq (tFor (iList K (tOp (rAddU K) (tVar 2) (tCall (sp_l_mixed K) [] E0 (tCons (tVar 1) (tCons (tVar 2) tNil))))) (gTup K 4 (gCons (gName 6) (gCons (gName 11) (gCons (gName 9) (gCons (gName 12) gNil))))) (tSeq (tIfS (tNot (tB (tCall (sp_l_alike K) [] E0 (tCons (tLst (tCons (tCall (sp_told_at K) [] E0 (tCons (tVar 6) (tCons (tVar 11) tNil))) (tCons (tCall (sp_told_at K) [] E0 (tCons (tVar 6) (tCons (tVar 9) tNil))) tNil))) (tCons (tLst (tCons (tVar 12) (tCons (tVar 12) tNil))) tNil))))) (tRet (tC (.bl false))) tNext)
    (tIfS (tTest (tOp (rNeU K) (tCall (sp_answer K) [] E0 (tCons (tVar 6) (tCons (tCall (sp_l_own_world K) [] E0 (tCons (tVar 11) tNil)) tNil))) (tIdxN K (tCall (sp_l_lots_of K) [] E0 (tCons (tVar 11) tNil)) (tVar 12)))) (tRet (tC (.bl false))) tNext)))
    (tRet (tOp (rEqU K) (tCB (rRepr K) (tCons (tVar 2) tNil)) (tVar 10))))))))
    have G_l_alike : FnG P TheW.w K mg base L2.CX0 1 t.f_l_alike t.fd_l_alike ["_law_found", "_law_due"] (sp_l_alike K) := ok_l_alike T
    have G_l_asked : FnG P TheW.w K mg base L2.CX0 14 t.f_l_asked t.fd_l_asked ["_law_values"] (sp_l_asked K) := ok_l_asked T
    have G_l_bag : FnG P TheW.w K mg base L2.CX0 1 t.f_l_bag t.fd_l_bag ["_law_script"] (sp_l_bag K) := ok_l_bag T
    have G_l_chain : FnG P TheW.w K mg base L2.CX0 3 t.f_l_chain t.fd_l_chain ["_law_bag_here", "_law_pool_here"] (sp_l_chain K) := ok_l_chain T
    have G_l_code : FnG P TheW.w K mg base L2.CX0 7 t.f_l_code t.fd_l_code ["_law_bag_here", "_law_pool_here", "_law_deep"] (sp_l_code K 5) := ok_l_code T 5
    have G_l_drawn_lots : FnG P TheW.w K mg base L2.CX0 14 t.f_l_drawn_lots t.fd_l_drawn_lots ["_law_bag_here", "_law_terms"] (sp_l_drawn_lots K) := ok_l_drawn_lots T
    have G_l_end : FnG P TheW.w K mg base L2.CX0 1 t.f_l_end t.fd_l_end ["_law_code_here", "_law_lots"] (sp_l_end K) := ok_l_end T
    have G_l_lots_of : FnG P TheW.w K mg base L2.CX0 1 t.f_l_lots_of t.fd_l_lots_of ["_law_form"] (sp_l_lots_of K) := ok_l_lots_of T
    have G_l_mixed : FnG P TheW.w K mg base L2.CX0 2 t.f_l_mixed t.fd_l_mixed ["_law_bag_here", "_law_values"] (sp_l_mixed K) := ok_l_mixed T
    have G_l_one : FnG P TheW.w K mg base L2.CX0 2 t.f_l_one t.fd_l_one ["_law_bag_here", "_law_some"] (sp_l_one K) := ok_l_one T
    have G_l_own_world : FnG P TheW.w K mg base L2.CX0 2 t.f_l_own_world t.fd_l_own_world ["_law_form"] (sp_l_own_world K) := ok_l_own_world T
    have G_l_pool : FnG P TheW.w K mg base L2.CX0 4 t.f_l_pool t.fd_l_pool ["_law_bag_here", "_law_most"] (sp_l_pool K) := ok_l_pool T
    have G_l_shape : FnG P TheW.w K mg base L2.CX0 1 t.f_l_shape t.fd_l_shape ["_law_lots"] (sp_l_shape K) := ok_l_shape T
    have G_l_takeB : FnG P TheW.w K mg base L2.CX0 1 t.f_l_takeB t.fd_l_takeB ["_law_bag_here", "_law_many"] (sp_l_takeB K) := ok_l_takeB T
    have G_answer : FnG P TheW.w K mg base L2.CX0 11 t.f_answer t.fd_answer ["code", "world"] (sp_answer K) := ok_answer T
    have G_told_at : FnG P TheW.w K mg base L2.CX0 14 t.f_told_at t.fd_told_at ["code", "shape"] (sp_told_at K) := ok_told_at T
    exact (pss_cons (ps_set (i := 1) sc_law.nd rfl (Or.inl rfl) (pe_g G_l_bag (hr.mono (by decide)) (by rfl) T.g_l_bag T.F_l_bag.kp T.b_l_bag .nil pass0 (pa_cons (pv 0) pa_nil))) (pss_cons (ps_set (i := 2) sc_law.nd rfl (Or.inl rfl) (pe_lst pa_nil))
    (pss_cons (ps_for PassesOwn.never rfl (pi_range1 (by rfl) T.z_range (pa_cons pe_int pa_nil)) (pg_name (i := 3) sc_law.nd rfl (Or.inl rfl)) (pss_cons (ps_set (i := 4) sc_law.nd rfl (Or.inl rfl) (pe_g G_l_pool (hr.mono (by decide)) (by rfl) T.g_l_pool T.F_l_pool.kp T.b_l_pool .nil pass0 (pa_cons (pv 1) (pa_cons (pe_ix ix_seq (pe_lst (pa_cons pe_int (pa_cons pe_int (pa_cons pe_int (pa_cons pe_int pa_nil))))) (pv 3) (fun _ _ => rfl)) pa_nil))))
    (pss_cons (ps_set (i := 5) sc_law.nd rfl (Or.inl rfl) (pe_ifExp (pt_cmpR (op_eqU hr.r.units)  (pe_g G_l_takeB (hr.mono (by decide)) (by rfl) T.g_l_takeB T.F_l_takeB.kp T.b_l_takeB .nil pass0 (pa_cons (pv 1) (pa_cons pe_int pa_nil))) pe_int (nomark _)) (pe_slice sl_U (pv 4) po_none (po_some (pe_op op_addU pe_int (pe_g G_l_takeB (hr.mono (by decide)) (by rfl) T.g_l_takeB T.F_l_takeB.kp T.b_l_takeB .nil pass0 (pa_cons (pv 1) (pa_cons (pe_callB call_lenU (by rfl) T.z_len (by decide +kernel) (pa_cons (pv 4) pa_nil)) pa_nil)))))) (pv 4)))
    (pss_cons (ps_set (i := 6) sc_law.nd rfl (Or.inl rfl) (pe_ifExp (pt_cmpR op_gtU  (pv 3) pe_int (nomark _)) (pe_g G_l_code (hr.mono (by decide)) (by rfl) T.g_l_code T.F_l_code.kp T.b_l_code .nil pass0 (pa_cons (pv 1) (pa_cons (pv 5) (pa_cons (pe_g G_l_one (hr.mono (by decide)) (by rfl) T.g_l_one T.F_l_one.kp T.b_l_one .nil pass0 (pa_cons (pv 1) (pa_cons (pe_lst (pa_cons pe_int (pa_cons pe_int (pa_cons pe_int (pa_cons pe_int pa_nil))))) pa_nil))) pa_nil)))) (pe_g G_l_chain (hr.mono (by decide)) (by rfl) T.g_l_chain T.F_l_chain.kp T.b_l_chain .nil pass0 (pa_cons (pv 1) (pa_cons (pv 5) pa_nil)))))
    (pss_cons (ps_set (i := 7) sc_law.nd rfl (Or.inr rfl) (pe_g G_l_drawn_lots (hr.mono (by decide)) (by rfl) T.g_l_drawn_lots T.F_l_drawn_lots.kp T.b_l_drawn_lots .nil pass0 (pa_cons (pv 1) (pa_cons (pv 4) pa_nil))))
    (pss_cons (ps_set (i := 8) sc_law.nd rfl (Or.inl rfl) (pe_g G_l_asked (hr.mono (by decide)) (by rfl) T.g_l_asked T.F_l_asked.kp T.b_l_asked .nil pass0 (pa_cons (pe_lst (pa_cons (pv 6) pa_nil)) pa_nil)))
    (pss_cons (ps_set (i := 9) sc_law.nd rfl (Or.inl rfl) (pe_callTy (call_dictN rfl (by rfl) hr.r.units) (by rfl) T.z_dict (by decide +kernel) (pa_cons (pe_lc (own := [("_law_term", 13)]) (g := (gName 13)) rfl sc_law.nd (pi_list (pv 8)) (blkOk_by (own := [("_law_term", 13)]) (N := N_law) (sc := defScope s_law) (by decide +kernel)) (fun _ _ _ _ _ => (pg_name (i := 13) sc_law.nd rfl (Or.inl rfl))) (fun _ _ _ _ _ => pts_nil) (fun _ _ _ _ _ => (pe_tup (pa_cons (pv 13) (pa_cons (pe_idxN rfl (u16 hr.r.units) (pv 7) (pv 13) (fun _ _ => rfl)) pa_nil))))) pa_nil)))
    (pss_one (ps_expr (pe_bm PySem.F.plainAttrs_list PySem.F.slot_list_append PySem.F.type_list_append mt_append (pv 2) (pa_cons (pe_tup (pa_cons (pv 6) (pa_cons (pe_g G_l_shape (hr.mono (by decide)) (by rfl) T.g_l_shape T.F_l_shape.kp T.b_l_shape .nil pass0 (pa_cons (pv 7) pa_nil)) (pa_cons (pe_g G_l_shape (hr.mono (by decide)) (by rfl) T.g_l_shape T.F_l_shape.kp T.b_l_shape .nil pass0 (pa_cons (pv 9) pa_nil)) (pa_cons (pe_ix ix_seq (pe_g G_l_end (hr.mono (by decide)) (by rfl) T.g_l_end T.F_l_end.kp T.b_l_end .nil pass0 (pa_cons (pv 6) (pa_cons (pv 7) pa_nil))) pe_int (fun _ _ => rfl)) pa_nil))))) pa_nil)))))))))))
    (pss_cons (ps_set (i := 10) sc_law.nd rfl (Or.inl rfl) (pe_callB (call_repr hr) (by rfl) T.z_repr (by decide +kernel) (pa_cons (pv 2) pa_nil)))
    (pss_cons (ps_for PassesOwn.never rfl (pi_list (pe_op op_addU (pv 2) (pe_g G_l_mixed (hr.mono (by decide)) (by rfl) T.g_l_mixed T.F_l_mixed.kp T.b_l_mixed .nil pass0 (pa_cons (pv 1) (pa_cons (pv 2) pa_nil))))) (pg_tup rfl (pgs_cons (pg_name (i := 6) sc_law.nd rfl (Or.inl rfl)) (pgs_cons (pg_name (i := 11) sc_law.nd rfl (Or.inl rfl)) (pgs_cons (pg_name (i := 9) sc_law.nd rfl (Or.inl rfl)) (pgs_cons (pg_name (i := 12) sc_law.nd rfl (Or.inl rfl)) pgs_nil))))) (pss_cons (ps_if (pt_not (pt_val (pe_g G_l_alike (hr.mono (by decide)) (by rfl) T.g_l_alike T.F_l_alike.kp T.b_l_alike .nil pass0 (pa_cons (pe_lst (pa_cons (pe_g G_told_at (hr.mono (by decide)) (by rfl) T.g_told_at T.F_told_at.kp T.b_told_at .nil pass0 (pa_cons (pv 6) (pa_cons (pv 11) pa_nil))) (pa_cons (pe_g G_told_at (hr.mono (by decide)) (by rfl) T.g_told_at T.F_told_at.kp T.b_told_at .nil pass0 (pa_cons (pv 6) (pa_cons (pv 9) pa_nil))) pa_nil))) (pa_cons (pe_lst (pa_cons (pv 12) (pa_cons (pv 12) pa_nil))) pa_nil))))) (pss_one (ps_ret pe_bl)) pss_nil)
    (pss_one (ps_if (pt_cmpR (op_neU hr.r.units)  (pe_g G_answer (hr.mono (by decide)) (by rfl) T.g_answer T.F_answer.kp T.b_answer .nil pass0 (pa_cons (pv 6) (pa_cons (pe_g G_l_own_world (hr.mono (by decide)) (by rfl) T.g_l_own_world T.F_l_own_world.kp T.b_l_own_world .nil pass0 (pa_cons (pv 11) pa_nil)) pa_nil))) (pe_idxN rfl (u16 hr.r.units) (pe_g G_l_lots_of (hr.mono (by decide)) (by rfl) T.g_l_lots_of T.F_l_lots_of.kp T.b_l_lots_of .nil pass0 (pa_cons (pv 11) pa_nil)) (pv 12) (fun _ _ => rfl)) (nomark _)) (pss_one (ps_ret pe_bl)) pss_nil))))
    (pss_one (ps_ret (pe_cmpR (op_eqU hr.r.units)  (pe_callB (call_repr hr) (by rfl) T.z_repr (by decide +kernel) (pa_cons (pv 2) pa_nil)) (pv 10) (nomark _)))))))))
end
theorem all_mk {l : PySem.W.OpenLaw} [TheW] {K : PySem.W.Frag} {h : Heap} {mg : Str → Option Value} {fa : Addr} (X : K.In h) (G : h.Ns mainGlobals mg) (hfa : mg "law" = some (.ref fa))
    {f0 : Addr} {od0 an0 : Option Addr} {sl0 : Array (Option Value)} {oc0 kV0 dc0 pm0 cd0 ct0 : Value}
    {f1 : Addr} {od1 an1 : Option Addr} {sl1 : Array (Option Value)} {oc1 kV1 dc1 pm1 cd1 ct1 : Value}
    {f2 : Addr} {od2 an2 : Option Addr} {sl2 : Array (Option Value)} {oc2 kV2 dc2 pm2 cd2 ct2 : Value}
    {f3 : Addr} {od3 an3 : Option Addr} {sl3 : Array (Option Value)} {oc3 kV3 dc3 pm3 cd3 ct3 : Value}
    {f4 : Addr} {od4 an4 : Option Addr} {sl4 : Array (Option Value)} {oc4 kV4 dc4 pm4 cd4 ct4 : Value}
    {f5 : Addr} {od5 an5 : Option Addr} {sl5 : Array (Option Value)} {oc5 kV5 dc5 pm5 cd5 ct5 : Value}
    {f6 : Addr} {od6 an6 : Option Addr} {sl6 : Array (Option Value)} {oc6 kV6 dc6 pm6 cd6 ct6 : Value}
    {f7 : Addr} {od7 an7 : Option Addr} {sl7 : Array (Option Value)} {oc7 kV7 dc7 pm7 cd7 ct7 : Value}
    {f8 : Addr} {od8 an8 : Option Addr} {sl8 : Array (Option Value)} {oc8 kV8 dc8 pm8 cd8 ct8 : Value}
    {f9 : Addr} {od9 an9 : Option Addr} {sl9 : Array (Option Value)} {oc9 kV9 dc9 pm9 cd9 ct9 : Value}
    {f10 : Addr} {od10 an10 : Option Addr} {sl10 : Array (Option Value)} {oc10 kV10 dc10 pm10 cd10 ct10 : Value}
    {f11 : Addr} {od11 an11 : Option Addr} {sl11 : Array (Option Value)} {oc11 kV11 dc11 pm11 cd11 ct11 : Value}
    {f12 : Addr} {od12 an12 : Option Addr} {sl12 : Array (Option Value)} {oc12 kV12 dc12 pm12 cd12 ct12 : Value}
    {f13 : Addr} {od13 an13 : Option Addr} {sl13 : Array (Option Value)} {oc13 kV13 dc13 pm13 cd13 ct13 : Value}
    {f14 : Addr} {od14 an14 : Option Addr} {sl14 : Array (Option Value)} {oc14 kV14 dc14 pm14 cd14 ct14 : Value}
    {f15 : Addr} {od15 an15 : Option Addr} {sl15 : Array (Option Value)} {oc15 kV15 dc15 pm15 cd15 ct15 : Value}
    {f16 : Addr} {od16 an16 : Option Addr} {sl16 : Array (Option Value)} {oc16 kV16 dc16 pm16 cd16 ct16 : Value}
    {f17 : Addr} {od17 an17 : Option Addr} {sl17 : Array (Option Value)} {oc17 kV17 dc17 pm17 cd17 ct17 : Value}
    {f18 : Addr} {od18 an18 : Option Addr} {sl18 : Array (Option Value)} {oc18 kV18 dc18 pm18 cd18 ct18 : Value}
    {f19 : Addr} {od19 an19 : Option Addr} {sl19 : Array (Option Value)} {oc19 kV19 dc19 pm19 cd19 ct19 : Value}
    {f20 : Addr} {od20 an20 : Option Addr} {sl20 : Array (Option Value)} {oc20 kV20 dc20 pm20 cd20 ct20 : Value}
    {f21 : Addr} {od21 an21 : Option Addr} {sl21 : Array (Option Value)} {oc21 kV21 dc21 pm21 cd21 ct21 : Value}
    {f22 : Addr} {od22 an22 : Option Addr} {sl22 : Array (Option Value)} {oc22 kV22 dc22 pm22 cd22 ct22 : Value}
    {f23 : Addr} {od23 an23 : Option Addr} {sl23 : Array (Option Value)} {oc23 kV23 dc23 pm23 cd23 ct23 : Value}
    {f24 : Addr} {od24 an24 : Option Addr} {sl24 : Array (Option Value)} {oc24 kV24 dc24 pm24 cd24 ct24 : Value}
    {f25 : Addr} {od25 an25 : Option Addr} {sl25 : Array (Option Value)} {oc25 kV25 dc25 pm25 cd25 ct25 : Value}
    {f26 : Addr} {od26 an26 : Option Addr} {sl26 : Array (Option Value)} {oc26 kV26 dc26 pm26 cd26 ct26 : Value}
    {f27 : Addr} {od27 an27 : Option Addr} {sl27 : Array (Option Value)} {oc27 kV27 dc27 pm27 cd27 ct27 : Value}
    {f28 : Addr} {od28 an28 : Option Addr} {sl28 : Array (Option Value)} {oc28 kV28 dc28 pm28 cd28 ct28 : Value}
    (a0 : PySem.W.nsIn K mainGlobals "mark" = some (some (.ref f0))) (l0 : K.lookup f0 = some ⟨oc0, od0, .func (PySem.W.fnOf "mark" "mark" (defArgs s_mark) (defBody s_mark) (defScope s_mark) .none kV0 dc0 pm0 an0 cd0 ct0), sl0⟩) (c0 : PySem.W.codeIn K cd0 "mark" = true) (k0 : PySem.W.keepIn K (.ref f0) = true)
    (a1 : PySem.W.nsIn K mainGlobals "worth" = some (some (.ref f1))) (l1 : K.lookup f1 = some ⟨oc1, od1, .func (PySem.W.fnOf "worth" "worth" (defArgs s_worth) (defBody s_worth) (defScope s_worth) .none kV1 dc1 pm1 an1 cd1 ct1), sl1⟩) (c1 : PySem.W.codeIn K cd1 "worth" = true) (k1 : PySem.W.keepIn K (.ref f1) = true)
    (a2 : PySem.W.nsIn K mainGlobals "alike" = some (some (.ref f2))) (l2 : K.lookup f2 = some ⟨oc2, od2, .func (PySem.W.fnOf "alike" "alike" (defArgs s_alike) (defBody s_alike) (defScope s_alike) .none kV2 dc2 pm2 an2 cd2 ct2), sl2⟩) (c2 : PySem.W.codeIn K cd2 "alike" = true) (k2 : PySem.W.keepIn K (.ref f2) = true)
    (a3 : PySem.W.nsIn K mainGlobals "_key" = some (some (.ref f3))) (l3 : K.lookup f3 = some ⟨oc3, od3, .func (PySem.W.fnOf "_key" "_key" (defArgs s__key) (defBody s__key) (defScope s__key) .none kV3 dc3 pm3 an3 cd3 ct3), sl3⟩) (c3 : PySem.W.codeIn K cd3 "_key" = true) (k3 : PySem.W.keepIn K (.ref f3) = true)
    (a4 : PySem.W.nsIn K mainGlobals "lot_numbers" = some (some (.ref f4))) (l4 : K.lookup f4 = some ⟨oc4, od4, .func (PySem.W.fnOf "lot_numbers" "lot_numbers" (defArgs s_lot_numbers) (defBody s_lot_numbers) (defScope s_lot_numbers) .none kV4 dc4 pm4 an4 cd4 ct4), sl4⟩) (c4 : PySem.W.codeIn K cd4 "lot_numbers" = true) (k4 : PySem.W.keepIn K (.ref f4) = true)
    (a5 : PySem.W.nsIn K mainGlobals "answer" = some (some (.ref f5))) (l5 : K.lookup f5 = some ⟨oc5, od5, .func (PySem.W.fnOf "answer" "answer" (defArgs s_answer) (defBody s_answer) (defScope s_answer) .none kV5 dc5 pm5 an5 cd5 ct5), sl5⟩) (c5 : PySem.W.codeIn K cd5 "answer" = true) (k5 : PySem.W.keepIn K (.ref f5) = true)
    (a6 : PySem.W.nsIn K mainGlobals "told_at" = some (some (.ref f6))) (l6 : K.lookup f6 = some ⟨oc6, od6, .func (PySem.W.fnOf "told_at" "told_at" (defArgs s_told_at) (defBody s_told_at) (defScope s_told_at) .none kV6 dc6 pm6 an6 cd6 ct6), sl6⟩) (c6 : PySem.W.codeIn K cd6 "told_at" = true) (k6 : PySem.W.keepIn K (.ref f6) = true)
    (a7 : PySem.W.nsIn K mainGlobals "_law_bag" = some (some (.ref f7))) (l7 : K.lookup f7 = some ⟨oc7, od7, .func (PySem.W.fnOf "_law_bag" "_law_bag" (defArgs s_l_bag) (defBody s_l_bag) (defScope s_l_bag) .none kV7 dc7 pm7 an7 cd7 ct7), sl7⟩) (c7 : PySem.W.codeIn K cd7 "_law_bag" = true) (k7 : PySem.W.keepIn K (.ref f7) = true)
    (a8 : PySem.W.nsIn K mainGlobals "_law_take" = some (some (.ref f8))) (l8 : K.lookup f8 = some ⟨oc8, od8, .func (PySem.W.fnOf "_law_take" "_law_take" (defArgs s_l_takeB) (defBody s_l_takeB) (defScope s_l_takeB) .none kV8 dc8 pm8 an8 cd8 ct8), sl8⟩) (c8 : PySem.W.codeIn K cd8 "_law_take" = true) (k8 : PySem.W.keepIn K (.ref f8) = true)
    (a9 : PySem.W.nsIn K mainGlobals "_law_one" = some (some (.ref f9))) (l9 : K.lookup f9 = some ⟨oc9, od9, .func (PySem.W.fnOf "_law_one" "_law_one" (defArgs s_l_one) (defBody s_l_one) (defScope s_l_one) .none kV9 dc9 pm9 an9 cd9 ct9), sl9⟩) (c9 : PySem.W.codeIn K cd9 "_law_one" = true) (k9 : PySem.W.keepIn K (.ref f9) = true)
    (a10 : PySem.W.nsIn K mainGlobals "_law_mixed" = some (some (.ref f10))) (l10 : K.lookup f10 = some ⟨oc10, od10, .func (PySem.W.fnOf "_law_mixed" "_law_mixed" (defArgs s_l_mixed) (defBody s_l_mixed) (defScope s_l_mixed) .none kV10 dc10 pm10 an10 cd10 ct10), sl10⟩) (c10 : PySem.W.codeIn K cd10 "_law_mixed" = true) (k10 : PySem.W.keepIn K (.ref f10) = true)
    (a11 : PySem.W.nsIn K mainGlobals "_law_alike" = some (some (.ref f11))) (l11 : K.lookup f11 = some ⟨oc11, od11, .func (PySem.W.fnOf "_law_alike" "_law_alike" (defArgs s_l_alike) (defBody s_l_alike) (defScope s_l_alike) .none kV11 dc11 pm11 an11 cd11 ct11), sl11⟩) (c11 : PySem.W.codeIn K cd11 "_law_alike" = true) (k11 : PySem.W.keepIn K (.ref f11) = true)
    (a12 : PySem.W.nsIn K mainGlobals "_law_subs" = some (some (.ref f12))) (l12 : K.lookup f12 = some ⟨oc12, od12, .func (PySem.W.fnOf "_law_subs" "_law_subs" (defArgs s_l_subs) (defBody s_l_subs) (defScope s_l_subs) .none kV12 dc12 pm12 an12 cd12 ct12), sl12⟩) (c12 : PySem.W.codeIn K cd12 "_law_subs" = true) (k12 : PySem.W.keepIn K (.ref f12) = true)
    (a13 : PySem.W.nsIn K mainGlobals "_law_closed" = some (some (.ref f13))) (l13 : K.lookup f13 = some ⟨oc13, od13, .func (PySem.W.fnOf "_law_closed" "_law_closed" (defArgs s_l_closed) (defBody s_l_closed) (defScope s_l_closed) .none kV13 dc13 pm13 an13 cd13 ct13), sl13⟩) (c13 : PySem.W.codeIn K cd13 "_law_closed" = true) (k13 : PySem.W.keepIn K (.ref f13) = true)
    (a14 : PySem.W.nsIn K mainGlobals "_law_terms_in" = some (some (.ref f14))) (l14 : K.lookup f14 = some ⟨oc14, od14, .func (PySem.W.fnOf "_law_terms_in" "_law_terms_in" (defArgs s_l_terms_in) (defBody s_l_terms_in) (defScope s_l_terms_in) .none kV14 dc14 pm14 an14 cd14 ct14), sl14⟩) (c14 : PySem.W.codeIn K cd14 "_law_terms_in" = true) (k14 : PySem.W.keepIn K (.ref f14) = true)
    (a15 : PySem.W.nsIn K mainGlobals "_law_asked" = some (some (.ref f15))) (l15 : K.lookup f15 = some ⟨oc15, od15, .func (PySem.W.fnOf "_law_asked" "_law_asked" (defArgs s_l_asked) (defBody s_l_asked) (defScope s_l_asked) .none kV15 dc15 pm15 an15 cd15 ct15), sl15⟩) (c15 : PySem.W.codeIn K cd15 "_law_asked" = true) (k15 : PySem.W.keepIn K (.ref f15) = true)
    (a16 : PySem.W.nsIn K mainGlobals "_law_names" = some (some (.ref f16))) (l16 : K.lookup f16 = some ⟨oc16, od16, .func (PySem.W.fnOf "_law_names" "_law_names" (defArgs s_l_names) (defBody s_l_names) (defScope s_l_names) .none kV16 dc16 pm16 an16 cd16 ct16), sl16⟩) (c16 : PySem.W.codeIn K cd16 "_law_names" = true) (k16 : PySem.W.keepIn K (.ref f16) = true)
    (a17 : PySem.W.nsIn K mainGlobals "_law_twins" = some (some (.ref f17))) (l17 : K.lookup f17 = some ⟨oc17, od17, .func (PySem.W.fnOf "_law_twins" "_law_twins" (defArgs s_l_twins) (defBody s_l_twins) (defScope s_l_twins) .none kV17 dc17 pm17 an17 cd17 ct17), sl17⟩) (c17 : PySem.W.codeIn K cd17 "_law_twins" = true) (k17 : PySem.W.keepIn K (.ref f17) = true)
    (a18 : PySem.W.nsIn K mainGlobals "_law_pool" = some (some (.ref f18))) (l18 : K.lookup f18 = some ⟨oc18, od18, .func (PySem.W.fnOf "_law_pool" "_law_pool" (defArgs s_l_pool) (defBody s_l_pool) (defScope s_l_pool) .none kV18 dc18 pm18 an18 cd18 ct18), sl18⟩) (c18 : PySem.W.codeIn K cd18 "_law_pool" = true) (k18 : PySem.W.keepIn K (.ref f18) = true)
    (a19 : PySem.W.nsIn K mainGlobals "_law_code" = some (some (.ref f19))) (l19 : K.lookup f19 = some ⟨oc19, od19, .func (PySem.W.fnOf "_law_code" "_law_code" (defArgs s_l_code) (defBody s_l_code) (defScope s_l_code) .none kV19 dc19 pm19 an19 cd19 ct19), sl19⟩) (c19 : PySem.W.codeIn K cd19 "_law_code" = true) (k19 : PySem.W.keepIn K (.ref f19) = true)
    (a20 : PySem.W.nsIn K mainGlobals "_law_chain" = some (some (.ref f20))) (l20 : K.lookup f20 = some ⟨oc20, od20, .func (PySem.W.fnOf "_law_chain" "_law_chain" (defArgs s_l_chain) (defBody s_l_chain) (defScope s_l_chain) .none kV20 dc20 pm20 an20 cd20 ct20), sl20⟩) (c20 : PySem.W.codeIn K cd20 "_law_chain" = true) (k20 : PySem.W.keepIn K (.ref f20) = true)
    (a21 : PySem.W.nsIn K mainGlobals "_law_in_order" = some (some (.ref f21))) (l21 : K.lookup f21 = some ⟨oc21, od21, .func (PySem.W.fnOf "_law_in_order" "_law_in_order" (defArgs s_l_in_order) (defBody s_l_in_order) (defScope s_l_in_order) .none kV21 dc21 pm21 an21 cd21 ct21), sl21⟩) (c21 : PySem.W.codeIn K cd21 "_law_in_order" = true) (k21 : PySem.W.keepIn K (.ref f21) = true)
    (a22 : PySem.W.nsIn K mainGlobals "_law_forced" = some (some (.ref f22))) (l22 : K.lookup f22 = some ⟨oc22, od22, .func (PySem.W.fnOf "_law_forced" "_law_forced" (defArgs s_l_forced) (defBody s_l_forced) (defScope s_l_forced) .none kV22 dc22 pm22 an22 cd22 ct22), sl22⟩) (c22 : PySem.W.codeIn K cd22 "_law_forced" = true) (k22 : PySem.W.keepIn K (.ref f22) = true)
    (a23 : PySem.W.nsIn K mainGlobals "_law_drawn_lots" = some (some (.ref f23))) (l23 : K.lookup f23 = some ⟨oc23, od23, .func (PySem.W.fnOf "_law_drawn_lots" "_law_drawn_lots" (defArgs s_l_drawn_lots) (defBody s_l_drawn_lots) (defScope s_l_drawn_lots) .none kV23 dc23 pm23 an23 cd23 ct23), sl23⟩) (c23 : PySem.W.codeIn K cd23 "_law_drawn_lots" = true) (k23 : PySem.W.keepIn K (.ref f23) = true)
    (a24 : PySem.W.nsIn K mainGlobals "_law_shape" = some (some (.ref f24))) (l24 : K.lookup f24 = some ⟨oc24, od24, .func (PySem.W.fnOf "_law_shape" "_law_shape" (defArgs s_l_shape) (defBody s_l_shape) (defScope s_l_shape) .none kV24 dc24 pm24 an24 cd24 ct24), sl24⟩) (c24 : PySem.W.codeIn K cd24 "_law_shape" = true) (k24 : PySem.W.keepIn K (.ref f24) = true)
    (a25 : PySem.W.nsIn K mainGlobals "_law_end" = some (some (.ref f25))) (l25 : K.lookup f25 = some ⟨oc25, od25, .func (PySem.W.fnOf "_law_end" "_law_end" (defArgs s_l_end) (defBody s_l_end) (defScope s_l_end) .none kV25 dc25 pm25 an25 cd25 ct25), sl25⟩) (c25 : PySem.W.codeIn K cd25 "_law_end" = true) (k25 : PySem.W.keepIn K (.ref f25) = true)
    (a26 : PySem.W.nsIn K mainGlobals "_law_lots_of" = some (some (.ref f26))) (l26 : K.lookup f26 = some ⟨oc26, od26, .func (PySem.W.fnOf "_law_lots_of" "_law_lots_of" (defArgs s_l_lots_of) (defBody s_l_lots_of) (defScope s_l_lots_of) .none kV26 dc26 pm26 an26 cd26 ct26), sl26⟩) (c26 : PySem.W.codeIn K cd26 "_law_lots_of" = true) (k26 : PySem.W.keepIn K (.ref f26) = true)
    (a27 : PySem.W.nsIn K mainGlobals "_law_own_world" = some (some (.ref f27))) (l27 : K.lookup f27 = some ⟨oc27, od27, .func (PySem.W.fnOf "_law_own_world" "_law_own_world" (defArgs s_l_own_world) (defBody s_l_own_world) (defScope s_l_own_world) .none kV27 dc27 pm27 an27 cd27 ct27), sl27⟩) (c27 : PySem.W.codeIn K cd27 "_law_own_world" = true) (k27 : PySem.W.keepIn K (.ref f27) = true)
    (a28 : PySem.W.nsIn K mainGlobals "law" = some (some (.ref f28))) (l28 : K.lookup f28 = some ⟨oc28, od28, .func (PySem.W.fnOf "law" "law" (defArgs s_law) (defBody s_law) (defScope s_law) .none kV28 dc28 pm28 an28 cd28 ct28), sl28⟩) (c28 : PySem.W.codeIn K cd28 "law" = true) (k28 : PySem.W.keepIn K (.ref f28) = true)
    (z0 : PySem.W.nsIn K mainGlobals "abs" = some none)
    (z1 : PySem.W.nsIn K mainGlobals "dict" = some none)
    (z2 : PySem.W.nsIn K mainGlobals "enumerate" = some none)
    (z3 : PySem.W.nsIn K mainGlobals "int" = some none)
    (z4 : PySem.W.nsIn K mainGlobals "len" = some none)
    (z5 : PySem.W.nsIn K mainGlobals "max" = some none)
    (z6 : PySem.W.nsIn K mainGlobals "min" = some none)
    (z7 : PySem.W.nsIn K mainGlobals "range" = some none)
    (z8 : PySem.W.nsIn K mainGlobals "repr" = some none)
    (z9 : PySem.W.nsIn K mainGlobals "sorted" = some none)
    (z10 : PySem.W.nsIn K mainGlobals "tuple" = some none) :
    ∃ fd : FuncData, (∀ (s : Shared) (v : Value), BindsTo s fd ⟨[v], []⟩ [("_law_script", v)]) ∧ ∀ base : Heap, K.In base → base.Ns mainGlobals mg → FnG l.prog TheW.w K mg base L2.CX0 15 fa fd ["_law_script"] (sp_law K) := by
  have e := hfa.symm.trans (PySem.W.mg_of X G a28)
  cases e
  let t : Tab := ⟨f0,
    PySem.W.fnOf "mark" "mark" (defArgs s_mark) (defBody s_mark) (defScope s_mark) .none kV0 dc0 pm0 an0 cd0 ct0,
    f1,
    PySem.W.fnOf "worth" "worth" (defArgs s_worth) (defBody s_worth) (defScope s_worth) .none kV1 dc1 pm1 an1 cd1 ct1,
    f2,
    PySem.W.fnOf "alike" "alike" (defArgs s_alike) (defBody s_alike) (defScope s_alike) .none kV2 dc2 pm2 an2 cd2 ct2,
    f3,
    PySem.W.fnOf "_key" "_key" (defArgs s__key) (defBody s__key) (defScope s__key) .none kV3 dc3 pm3 an3 cd3 ct3,
    f4,
    PySem.W.fnOf "lot_numbers" "lot_numbers" (defArgs s_lot_numbers) (defBody s_lot_numbers) (defScope s_lot_numbers) .none kV4 dc4 pm4 an4 cd4 ct4,
    f5,
    PySem.W.fnOf "answer" "answer" (defArgs s_answer) (defBody s_answer) (defScope s_answer) .none kV5 dc5 pm5 an5 cd5 ct5,
    f6,
    PySem.W.fnOf "told_at" "told_at" (defArgs s_told_at) (defBody s_told_at) (defScope s_told_at) .none kV6 dc6 pm6 an6 cd6 ct6,
    f7,
    PySem.W.fnOf "_law_bag" "_law_bag" (defArgs s_l_bag) (defBody s_l_bag) (defScope s_l_bag) .none kV7 dc7 pm7 an7 cd7 ct7,
    f8,
    PySem.W.fnOf "_law_take" "_law_take" (defArgs s_l_takeB) (defBody s_l_takeB) (defScope s_l_takeB) .none kV8 dc8 pm8 an8 cd8 ct8,
    f9,
    PySem.W.fnOf "_law_one" "_law_one" (defArgs s_l_one) (defBody s_l_one) (defScope s_l_one) .none kV9 dc9 pm9 an9 cd9 ct9,
    f10,
    PySem.W.fnOf "_law_mixed" "_law_mixed" (defArgs s_l_mixed) (defBody s_l_mixed) (defScope s_l_mixed) .none kV10 dc10 pm10 an10 cd10 ct10,
    f11,
    PySem.W.fnOf "_law_alike" "_law_alike" (defArgs s_l_alike) (defBody s_l_alike) (defScope s_l_alike) .none kV11 dc11 pm11 an11 cd11 ct11,
    f12,
    PySem.W.fnOf "_law_subs" "_law_subs" (defArgs s_l_subs) (defBody s_l_subs) (defScope s_l_subs) .none kV12 dc12 pm12 an12 cd12 ct12,
    f13,
    PySem.W.fnOf "_law_closed" "_law_closed" (defArgs s_l_closed) (defBody s_l_closed) (defScope s_l_closed) .none kV13 dc13 pm13 an13 cd13 ct13,
    f14,
    PySem.W.fnOf "_law_terms_in" "_law_terms_in" (defArgs s_l_terms_in) (defBody s_l_terms_in) (defScope s_l_terms_in) .none kV14 dc14 pm14 an14 cd14 ct14,
    f15,
    PySem.W.fnOf "_law_asked" "_law_asked" (defArgs s_l_asked) (defBody s_l_asked) (defScope s_l_asked) .none kV15 dc15 pm15 an15 cd15 ct15,
    f16,
    PySem.W.fnOf "_law_names" "_law_names" (defArgs s_l_names) (defBody s_l_names) (defScope s_l_names) .none kV16 dc16 pm16 an16 cd16 ct16,
    f17,
    PySem.W.fnOf "_law_twins" "_law_twins" (defArgs s_l_twins) (defBody s_l_twins) (defScope s_l_twins) .none kV17 dc17 pm17 an17 cd17 ct17,
    f18,
    PySem.W.fnOf "_law_pool" "_law_pool" (defArgs s_l_pool) (defBody s_l_pool) (defScope s_l_pool) .none kV18 dc18 pm18 an18 cd18 ct18,
    f19,
    PySem.W.fnOf "_law_code" "_law_code" (defArgs s_l_code) (defBody s_l_code) (defScope s_l_code) .none kV19 dc19 pm19 an19 cd19 ct19,
    f20,
    PySem.W.fnOf "_law_chain" "_law_chain" (defArgs s_l_chain) (defBody s_l_chain) (defScope s_l_chain) .none kV20 dc20 pm20 an20 cd20 ct20,
    f21,
    PySem.W.fnOf "_law_in_order" "_law_in_order" (defArgs s_l_in_order) (defBody s_l_in_order) (defScope s_l_in_order) .none kV21 dc21 pm21 an21 cd21 ct21,
    f22,
    PySem.W.fnOf "_law_forced" "_law_forced" (defArgs s_l_forced) (defBody s_l_forced) (defScope s_l_forced) .none kV22 dc22 pm22 an22 cd22 ct22,
    f23,
    PySem.W.fnOf "_law_drawn_lots" "_law_drawn_lots" (defArgs s_l_drawn_lots) (defBody s_l_drawn_lots) (defScope s_l_drawn_lots) .none kV23 dc23 pm23 an23 cd23 ct23,
    f24,
    PySem.W.fnOf "_law_shape" "_law_shape" (defArgs s_l_shape) (defBody s_l_shape) (defScope s_l_shape) .none kV24 dc24 pm24 an24 cd24 ct24,
    f25,
    PySem.W.fnOf "_law_end" "_law_end" (defArgs s_l_end) (defBody s_l_end) (defScope s_l_end) .none kV25 dc25 pm25 an25 cd25 ct25,
    f26,
    PySem.W.fnOf "_law_lots_of" "_law_lots_of" (defArgs s_l_lots_of) (defBody s_l_lots_of) (defScope s_l_lots_of) .none kV26 dc26 pm26 an26 cd26 ct26,
    f27,
    PySem.W.fnOf "_law_own_world" "_law_own_world" (defArgs s_l_own_world) (defBody s_l_own_world) (defScope s_l_own_world) .none kV27 dc27 pm27 an27 cd27 ct27,
    fa,
    PySem.W.fnOf "law" "law" (defArgs s_law) (defBody s_law) (defScope s_law) .none kV28 dc28 pm28 an28 cd28 ct28⟩
  have T : Tx K mg t := ⟨fun_mk (st := s_mark) l0 c0 k0,
    (fun_mk (st := s_mark) l0 c0 k0).binds (ps := ["term"]) fun _ _ _ _ _ _ us hl => match us, hl with | [_], _ => rfl,
    PySem.W.mg_of X G a0,
    fun_mk (st := s_worth) l1 c1 k1,
    (fun_mk (st := s_worth) l1 c1 k1).binds (ps := ["term", "world"]) fun _ _ _ _ _ _ us hl => match us, hl with | [_, _], _ => rfl,
    PySem.W.mg_of X G a1,
    fun_mk (st := s_alike) l2 c2 k2,
    (fun_mk (st := s_alike) l2 c2 k2).binds (ps := ["one", "other", "world"]) fun _ _ _ _ _ _ us hl => match us, hl with | [_, _, _], _ => rfl,
    PySem.W.mg_of X G a2,
    fun_mk (st := s__key) l3 c3 k3,
    (fun_mk (st := s__key) l3 c3 k3).binds (ps := ["term", "world"]) fun _ _ _ _ _ _ us hl => match us, hl with | [_, _], _ => rfl,
    PySem.W.mg_of X G a3,
    fun_mk (st := s_lot_numbers) l4 c4 k4,
    (fun_mk (st := s_lot_numbers) l4 c4 k4).binds (ps := ["shape"]) fun _ _ _ _ _ _ us hl => match us, hl with | [_], _ => rfl,
    PySem.W.mg_of X G a4,
    fun_mk (st := s_answer) l5 c5 k5,
    (fun_mk (st := s_answer) l5 c5 k5).binds (ps := ["code", "world"]) fun _ _ _ _ _ _ us hl => match us, hl with | [_, _], _ => rfl,
    PySem.W.mg_of X G a5,
    fun_mk (st := s_told_at) l6 c6 k6,
    (fun_mk (st := s_told_at) l6 c6 k6).binds (ps := ["code", "shape"]) fun _ _ _ _ _ _ us hl => match us, hl with | [_, _], _ => rfl,
    PySem.W.mg_of X G a6,
    fun_mk (st := s_l_bag) l7 c7 k7,
    (fun_mk (st := s_l_bag) l7 c7 k7).binds (ps := ["_law_script"]) fun _ _ _ _ _ _ us hl => match us, hl with | [_], _ => rfl,
    PySem.W.mg_of X G a7,
    fun_mk (st := s_l_takeB) l8 c8 k8,
    (fun_mk (st := s_l_takeB) l8 c8 k8).binds (ps := ["_law_bag_here", "_law_many"]) fun _ _ _ _ _ _ us hl => match us, hl with | [_, _], _ => rfl,
    PySem.W.mg_of X G a8,
    fun_mk (st := s_l_one) l9 c9 k9,
    (fun_mk (st := s_l_one) l9 c9 k9).binds (ps := ["_law_bag_here", "_law_some"]) fun _ _ _ _ _ _ us hl => match us, hl with | [_, _], _ => rfl,
    PySem.W.mg_of X G a9,
    fun_mk (st := s_l_mixed) l10 c10 k10,
    (fun_mk (st := s_l_mixed) l10 c10 k10).binds (ps := ["_law_bag_here", "_law_values"]) fun _ _ _ _ _ _ us hl => match us, hl with | [_, _], _ => rfl,
    PySem.W.mg_of X G a10,
    fun_mk (st := s_l_alike) l11 c11 k11,
    (fun_mk (st := s_l_alike) l11 c11 k11).binds (ps := ["_law_found", "_law_due"]) fun _ _ _ _ _ _ us hl => match us, hl with | [_, _], _ => rfl,
    PySem.W.mg_of X G a11,
    fun_mk (st := s_l_subs) l12 c12 k12,
    (fun_mk (st := s_l_subs) l12 c12 k12).binds (ps := ["_law_term"]) fun _ _ _ _ _ _ us hl => match us, hl with | [_], _ => rfl,
    PySem.W.mg_of X G a12,
    fun_mk (st := s_l_closed) l13 c13 k13,
    (fun_mk (st := s_l_closed) l13 c13 k13).binds (ps := ["_law_terms"]) fun _ _ _ _ _ _ us hl => match us, hl with | [_], _ => rfl,
    PySem.W.mg_of X G a13,
    fun_mk (st := s_l_terms_in) l14 c14 k14,
    (fun_mk (st := s_l_terms_in) l14 c14 k14).binds (ps := ["_law_thing"]) fun _ _ _ _ _ _ us hl => match us, hl with | [_], _ => rfl,
    PySem.W.mg_of X G a14,
    fun_mk (st := s_l_asked) l15 c15 k15,
    (fun_mk (st := s_l_asked) l15 c15 k15).binds (ps := ["_law_values"]) fun _ _ _ _ _ _ us hl => match us, hl with | [_], _ => rfl,
    PySem.W.mg_of X G a15,
    fun_mk (st := s_l_names) l16 c16 k16,
    (fun_mk (st := s_l_names) l16 c16 k16).binds (ps := ["_law_bag_here"]) fun _ _ _ _ _ _ us hl => match us, hl with | [_], _ => rfl,
    PySem.W.mg_of X G a16,
    fun_mk (st := s_l_twins) l17 c17 k17,
    (fun_mk (st := s_l_twins) l17 c17 k17).binds (ps := ["_law_bag_here", "_law_names_here", "_law_most"]) fun _ _ _ _ _ _ us hl => match us, hl with | [_, _, _], _ => rfl,
    PySem.W.mg_of X G a17,
    fun_mk (st := s_l_pool) l18 c18 k18,
    (fun_mk (st := s_l_pool) l18 c18 k18).binds (ps := ["_law_bag_here", "_law_most"]) fun _ _ _ _ _ _ us hl => match us, hl with | [_, _], _ => rfl,
    PySem.W.mg_of X G a18,
    fun_mk (st := s_l_code) l19 c19 k19,
    (fun_mk (st := s_l_code) l19 c19 k19).binds (ps := ["_law_bag_here", "_law_pool_here", "_law_deep"]) fun _ _ _ _ _ _ us hl => match us, hl with | [_, _, _], _ => rfl,
    PySem.W.mg_of X G a19,
    fun_mk (st := s_l_chain) l20 c20 k20,
    (fun_mk (st := s_l_chain) l20 c20 k20).binds (ps := ["_law_bag_here", "_law_pool_here"]) fun _ _ _ _ _ _ us hl => match us, hl with | [_, _], _ => rfl,
    PySem.W.mg_of X G a20,
    fun_mk (st := s_l_in_order) l21 c21 k21,
    (fun_mk (st := s_l_in_order) l21 c21 k21).binds (ps := ["_law_terms"]) fun _ _ _ _ _ _ us hl => match us, hl with | [_], _ => rfl,
    PySem.W.mg_of X G a21,
    fun_mk (st := s_l_forced) l22 c22 k22,
    (fun_mk (st := s_l_forced) l22 c22 k22).binds (ps := ["_law_lots", "_law_term"]) fun _ _ _ _ _ _ us hl => match us, hl with | [_, _], _ => rfl,
    PySem.W.mg_of X G a22,
    fun_mk (st := s_l_drawn_lots) l23 c23 k23,
    (fun_mk (st := s_l_drawn_lots) l23 c23 k23).binds (ps := ["_law_bag_here", "_law_terms"]) fun _ _ _ _ _ _ us hl => match us, hl with | [_, _], _ => rfl,
    PySem.W.mg_of X G a23,
    fun_mk (st := s_l_shape) l24 c24 k24,
    (fun_mk (st := s_l_shape) l24 c24 k24).binds (ps := ["_law_lots"]) fun _ _ _ _ _ _ us hl => match us, hl with | [_], _ => rfl,
    PySem.W.mg_of X G a24,
    fun_mk (st := s_l_end) l25 c25 k25,
    (fun_mk (st := s_l_end) l25 c25 k25).binds (ps := ["_law_code_here", "_law_lots"]) fun _ _ _ _ _ _ us hl => match us, hl with | [_, _], _ => rfl,
    PySem.W.mg_of X G a25,
    fun_mk (st := s_l_lots_of) l26 c26 k26,
    (fun_mk (st := s_l_lots_of) l26 c26 k26).binds (ps := ["_law_form"]) fun _ _ _ _ _ _ us hl => match us, hl with | [_], _ => rfl,
    PySem.W.mg_of X G a26,
    fun_mk (st := s_l_own_world) l27 c27 k27,
    (fun_mk (st := s_l_own_world) l27 c27 k27).binds (ps := ["_law_form"]) fun _ _ _ _ _ _ us hl => match us, hl with | [_], _ => rfl,
    PySem.W.mg_of X G a27,
    fun_mk (st := s_law) l28 c28 k28,
    (fun_mk (st := s_law) l28 c28 k28).binds (ps := ["_law_script"]) fun _ _ _ _ _ _ us hl => match us, hl with | [_], _ => rfl,
    PySem.W.mg_of X G a28,
    PySem.W.mg_none_of X G z0,
    PySem.W.mg_none_of X G z1,
    PySem.W.mg_none_of X G z2,
    PySem.W.mg_none_of X G z3,
    PySem.W.mg_none_of X G z4,
    PySem.W.mg_none_of X G z5,
    PySem.W.mg_none_of X G z6,
    PySem.W.mg_none_of X G z7,
    PySem.W.mg_none_of X G z8,
    PySem.W.mg_none_of X G z9,
    PySem.W.mg_none_of X G z10⟩
  exact ⟨t.fd_law, fun s v => .of_eq rfl, fun base _ _ => ok_law T⟩
end DL
open PySem PySem.W PyProof.Rows
set_option maxHeartbeats 0 in
theorem PySem.Challenge.cw_answerskept_k33_told_by_shapes_holds : PySem.Challenge.rw_answerskept_k33_told_by_shapes.Holds := by
  w_on; o_law; k_head; (case hw => w_witness2)
  k_fill
  refine DL.walk_g (l := PySem.Challenge.rw_answerskept_k33_told_by_shapes) (n := 63) (k := 15) (x := "_law_script") (CX := fun _ => L2.CX0) (sp := fun w => DL.sp_law _) rfl (by decide) rfl ⟨rfl, by decide, by decide⟩ (fun w h Y => PySem.W.kIn_of Y) ?F (fun _ _ a ns hl _ hS => ⟨a, ns, rfl, hl, hS, fun _ => rfl⟩) (fun _ _ _ _ _ h => h)
  case F =>
    intro w mg fa h KX G hmg
    letI : DL.TheW := ⟨w⟩
    refine' DL.all_mk KX G hmg ?a0 ?l0 ?c0 ?k0 ?a1 ?l1 ?c1 ?k1 ?a2 ?l2 ?c2 ?k2 ?a3 ?l3 ?c3 ?k3 ?a4 ?l4 ?c4 ?k4 ?a5 ?l5 ?c5 ?k5 ?a6 ?l6 ?c6 ?k6 ?a7 ?l7 ?c7 ?k7 ?a8 ?l8 ?c8 ?k8 ?a9 ?l9 ?c9 ?k9 ?a10 ?l10 ?c10 ?k10 ?a11 ?l11 ?c11 ?k11 ?a12 ?l12 ?c12 ?k12 ?a13 ?l13 ?c13 ?k13 ?a14 ?l14 ?c14 ?k14 ?a15 ?l15 ?c15 ?k15 ?a16 ?l16 ?c16 ?k16 ?a17 ?l17 ?c17 ?k17 ?a18 ?l18 ?c18 ?k18 ?a19 ?l19 ?c19 ?k19 ?a20 ?l20 ?c20 ?k20 ?a21 ?l21 ?c21 ?k21 ?a22 ?l22 ?c22 ?k22 ?a23 ?l23 ?c23 ?k23 ?a24 ?l24 ?c24 ?k24 ?a25 ?l25 ?c25 ?k25 ?a26 ?l26 ?c26 ?k26 ?a27 ?l27 ?c27 ?k27 ?a28 ?l28 ?c28 ?k28 ?z0 ?z1 ?z2 ?z3 ?z4 ?z5 ?z6 ?z7 ?z8 ?z9 ?z10
    (case a0 => k_is); (case l0 => k_is); (case c0 => k_is); (case k0 => k_is); (case a1 => k_is); (case l1 => k_is); (case c1 => k_is); (case k1 => k_is); (case a2 => k_is); (case l2 => k_is); (case c2 => k_is); (case k2 => k_is); (case a3 => k_is); (case l3 => k_is); (case c3 => k_is); (case k3 => k_is); (case a4 => k_is); (case l4 => k_is); (case c4 => k_is); (case k4 => k_is); (case a5 => k_is); (case l5 => k_is); (case c5 => k_is); (case k5 => k_is); (case a6 => k_is); (case l6 => k_is); (case c6 => k_is); (case k6 => k_is); (case a7 => k_is); (case l7 => k_is); (case c7 => k_is); (case k7 => k_is); (case a8 => k_is); (case l8 => k_is); (case c8 => k_is); (case k8 => k_is); (case a9 => k_is); (case l9 => k_is); (case c9 => k_is); (case k9 => k_is); (case a10 => k_is); (case l10 => k_is); (case c10 => k_is); (case k10 => k_is); (case a11 => k_is); (case l11 => k_is); (case c11 => k_is); (case k11 => k_is); (case a12 => k_is); (case l12 => k_is); (case c12 => k_is); (case k12 => k_is); (case a13 => k_is); (case l13 => k_is); (case c13 => k_is); (case k13 => k_is); (case a14 => k_is); (case l14 => k_is); (case c14 => k_is); (case k14 => k_is); (case a15 => k_is); (case l15 => k_is); (case c15 => k_is); (case k15 => k_is); (case a16 => k_is); (case l16 => k_is); (case c16 => k_is); (case k16 => k_is); (case a17 => k_is); (case l17 => k_is); (case c17 => k_is); (case k17 => k_is); (case a18 => k_is); (case l18 => k_is); (case c18 => k_is); (case k18 => k_is); (case a19 => k_is); (case l19 => k_is); (case c19 => k_is); (case k19 => k_is); (case a20 => k_is); (case l20 => k_is); (case c20 => k_is); (case k20 => k_is); (case a21 => k_is); (case l21 => k_is); (case c21 => k_is); (case k21 => k_is); (case a22 => k_is); (case l22 => k_is); (case c22 => k_is); (case k22 => k_is); (case a23 => k_is); (case l23 => k_is); (case c23 => k_is); (case k23 => k_is); (case a24 => k_is); (case l24 => k_is); (case c24 => k_is); (case k24 => k_is); (case a25 => k_is); (case l25 => k_is); (case c25 => k_is); (case k25 => k_is); (case a26 => k_is); (case l26 => k_is); (case c26 => k_is); (case k26 => k_is); (case a27 => k_is); (case l27 => k_is); (case c27 => k_is); (case k27 => k_is); (case a28 => k_is); (case l28 => k_is); (case c28 => k_is); (case k28 => k_is); (case z0 => k_is); (case z1 => k_is); (case z2 => k_is); (case z3 => k_is); (case z4 => k_is); (case z5 => k_is); (case z6 => k_is); (case z7 => k_is); (case z8 => k_is); (case z9 => k_is); (case z10 => k_is)

