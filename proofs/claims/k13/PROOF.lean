import PyProof.Rows.All
import KE.DataEq
import KE.KEqDict
import PyProof.NeKinds
import PyProof.AutoSeq1
import HandS.ForMost
import HandS.Evl
import HandS.IsInst
import HandS.Wide
import PyProof.ReprRoads
import HandS.TupAny
import HandS.Deep
import HandS.Codes
import KE.KDictDisplayH
import HandS.More
import HandS.Style
import PySem.Challenge.RW_answerskept_k13_guards_and_facts
set_option Elab.async false
set_option linter.all false
set_option maxRecDepth 100000
set_option maxHeartbeats 4000000
/-! == of data with dicts in it against data without dicts. -/
namespace DL
open PySem PySem.Spec PyProof.Rows PySem.SeqAt PySem.MeetsSeq

theorem str_eq_declines_dict (b : Str) (u : Tok) (l : Addr) (c : Value) (es : Array DictEntry) (n : Nat) (dd : Option Addr) (sl : Array (Option Value)) :
    Meets (Builtin.«str.__eq__» ⟨[.str b u, .ref l], []⟩) (fun _ R s => s.heap.get? l = some { cls := c, dict := dd, data := .dict es n, slots := sl } ∧ R (.ok (.ret .notImplemented)) s) :=
  .of_wp fun prog w A R s h => by obtain ⟨hp, g, d, tk, os⟩ := s; obtain ⟨hl, h⟩ := h; wp_walk using AutoSeq1.wpAny_loadPart' hl, wpAny_load hl; exact ⟨_, rfl, h⟩
theorem tuple_eq_declines_dict (l b : Addr) (items : Array Value) (es : Array DictEntry) (n n2 : Nat) (dd dd2 : Option Addr) (sl sl2 : Array (Option Value)) :
    Meets (Builtin.«tuple.__eq__» ⟨[.ref l, .ref b], []⟩) (fun _ R s => s.heap.get? l = some { cls := .type "tuple", dict := dd, data := .seq items n, slots := sl } ∧ s.heap.get? b = some { cls := .type "dict", dict := dd2, data := .dict es n2, slots := sl2 } ∧ R (.ok (.ret .notImplemented)) s) :=
  .of_wp fun prog w A R s h => by obtain ⟨hp, g, d, tk, os⟩ := s; obtain ⟨hl, hb, h⟩ := h; have f1 := F.sub_dict_tuple; wp_walk using AutoSeq1.wpAny_loadPart' hl, AutoSeq1.wpAny_loadPart' hb; exact ⟨_, rfl, h⟩
theorem list_eq_declines_dict (l b : Addr) (items : Array Value) (es : Array DictEntry) (n n2 : Nat) (dd dd2 : Option Addr) (sl sl2 : Array (Option Value)) :
    Meets (Builtin.«list.__eq__» ⟨[.ref l, .ref b], []⟩) (fun _ R s => s.heap.get? l = some { cls := .type "list", dict := dd, data := .seq items n, slots := sl } ∧ s.heap.get? b = some { cls := .type "dict", dict := dd2, data := .dict es n2, slots := sl2 } ∧ R (.ok (.ret .notImplemented)) s) :=
  .of_wp fun prog w A R s h => by obtain ⟨hp, g, d, tk, os⟩ := s; obtain ⟨hl, hb, h⟩ := h; have f1 := F.sub_dict_list; wp_walk using AutoSeq1.wpAny_loadPart' hl, AutoSeq1.wpAny_loadPart' hb; exact ⟨_, rfl, h⟩

theorem str_ne_declines_dict (b : Str) (u : Tok) (l : Addr) (c : Value) (es : Array DictEntry) (n : Nat) (dd : Option Addr) (sl : Array (Option Value)) :
    Meets (Builtin.«str.__ne__» ⟨[.str b u, .ref l], []⟩) (fun _ R s => s.heap.get? l = some { cls := c, dict := dd, data := .dict es n, slots := sl } ∧ R (.ok (.ret .notImplemented)) s) :=
  .of_wp fun prog w A R s h => by obtain ⟨hp, g, d, tk, os⟩ := s; obtain ⟨hl, h⟩ := h; wp_walk using AutoSeq1.wpAny_loadPart' hl, wpAny_load hl; exact ⟨_, rfl, h⟩
theorem tuple_ne_declines_dict (l b : Addr) (items : Array Value) (es : Array DictEntry) (n n2 : Nat) (dd dd2 : Option Addr) (sl sl2 : Array (Option Value)) :
    Meets (Builtin.«tuple.__ne__» ⟨[.ref l, .ref b], []⟩) (fun _ R s => s.heap.get? l = some { cls := .type "tuple", dict := dd, data := .seq items n, slots := sl } ∧ s.heap.get? b = some { cls := .type "dict", dict := dd2, data := .dict es n2, slots := sl2 } ∧ R (.ok (.ret .notImplemented)) s) :=
  .of_wp fun prog w A R s h => by obtain ⟨hp, g, d, tk, os⟩ := s; obtain ⟨hl, hb, h⟩ := h; have f1 := F.sub_dict_tuple; wp_walk using AutoSeq1.wpAny_loadPart' hl, AutoSeq1.wpAny_loadPart' hb; exact ⟨_, rfl, h⟩
section
variable {A : Around} {s : Shared}
/-- a dict in the heap -/
def DictAt (h : Heap) (a : Addr) : Prop := ∃ o es n, h.get? a = some o ∧ o.cls = .type "dict" ∧ o.data = .dict es n
theorem DictAt.ty {l : Addr} (hl : DictAt s.heap l) : s.TypeIs (.ref l) "dict" := by
  obtain ⟨o, es, n, h1, h2, h3⟩ := hl
  exact ⟨o, h1, h2⟩
theorem dict_declines {prog : Program} {w : World} {E : Value → Shared → Prop} {l : Addr} {x : Value} {T : String} (hl : DictAt s.heap l) (ht : s.TypeIs x T) (hsub : isSubtype (.type T) (.type "dict") = pure false) :
    ∀ Q' : Value → Shared → Prop, Q' .notImplemented s → wpAny (model prog w) A (call (.builtin "dict.__eq__") [.ref l, x]) Q' E s := by
  intro Q' hq
  refine wpAny_call_entry F.slot_dict_eq hl.ty F.entry_dict_eq ?_ (F.args_dict_eq_2 _ _)
  show wpAny _ _ (Builtin.Dict.dictSlotArgs "__eq__" ⟨[.ref l, x], []⟩ >>= _) _ _ s
  refine wpAny_bind ?_
  unfold Builtin.Dict.dictSlotArgs
  refine wpAny_bind (wpAny_notOrdered_dict hl.ty ?_)
  show wpAny _ _ (pure (Value.ref l, x)) _ _ s
  refine wpAny_pure ?_
  refine wpAny_bind (wpAny_isInstance (T := T) ht hsub ?_)
  simp only [Bool.not_false, if_true]
  refine wpAny_bind (wpAny_rule ?_)
  exact wpAny_pure ⟨_, rfl, hq⟩
theorem RcAt.dict_x {l : Addr} {x : Value} {T idb : String} (hl : DictAt s.heap l) (hx : s.TypeIs x T) (hne : (Value.type "dict" != Value.type T) = true) (h1 : isSubtype (.type T) (.type "dict") = pure false)
    (hs : Slot T (cmpInfo .Eq).2.2 idb) (hd : ∀ (prog : Program) (w : World) (E : Value → Shared → Prop) (Q' : Value → Shared → Prop), Q' .notImplemented s → wpAny (model prog w) A (call (.builtin idb) [x, .ref l]) Q' E s)
    (hk : ∀ (prog : Program) (w : World) (E : Value → Shared → Prop) (Q' : Bool → Shared → Prop), Q' false s → wpAny (model prog w) A (isSame (.ref l) x) Q' E s) (hu : A.units < cLine) : RcAt A s (.ref l) x false := fun prog w E Q h =>
  rc_eq_decline_or (k := false) hl.ty hx hne h1 F.slot_dict_eq hs (dict_declines hl hx h1) (hd prog w E) (hk prog w E) (.inr hu) h
theorem RcAt.x_dict {l : Addr} {x : Value} {T ida : String} (hl : DictAt s.heap l) (hx : s.TypeIs x T) (hne : (Value.type T != Value.type "dict") = true) (h1 : isSubtype (.type T) (.type "dict") = pure false)
    (h2 : isSubtype (.type "dict") (.type T) = pure false)
    (hs : Slot T (cmpInfo .Eq).2.1 ida) (hd : ∀ (prog : Program) (w : World) (E : Value → Shared → Prop) (Q' : Value → Shared → Prop), Q' .notImplemented s → wpAny (model prog w) A (call (.builtin ida) [x, .ref l]) Q' E s)
    (hk : ∀ (prog : Program) (w : World) (E : Value → Shared → Prop) (Q' : Bool → Shared → Prop), Q' false s → wpAny (model prog w) A (isSame x (.ref l)) Q' E s) (hu : A.units < cLine) : RcAt A s x (.ref l) false := fun prog w E Q h =>
  rc_eq_decline_or (k := false) hx hl.ty hne h2 hs F.slot_dict_eq_refl (hd prog w E) (dict_declines hl hx h1) (hk prog w E) (.inr hu) h
theorem str_decl {prog : Program} {w : World} {E : Value → Shared → Prop} {l : Addr} (b : Str) (u : Tok) (hl : DictAt s.heap l) :
    ∀ Q' : Value → Shared → Prop, Q' .notImplemented s → wpAny (model prog w) A (call (.builtin "str.__eq__") [.str b u, .ref l]) Q' E s := by
  intro Q' hq
  obtain ⟨⟨cls, dd, data, sl⟩, es, n, ho, hc, hd⟩ := id hl
  simp only at hc hd
  subst hc hd
  exact call_meets F.slot_str_eq (typeIs_str s b u) F.entry_str_eq (F.args_str_eq_2 _ _) (str_eq_declines_dict b u l (.type "dict") es n dd sl) ⟨ho, hq⟩
theorem RcAt.dict_str {l : Addr} (b : Str) (u : Tok) (hl : DictAt s.heap l) (hu : A.units < cLine) : RcAt A s (.ref l) (.str b u) false :=
  RcAt.dict_x hl (typeIs_str s b u) (by decide) F.sub_str_dict F.slot_str_eq_refl (fun _ _ _ => str_decl b u hl)
    (fun _ _ _ _ hq => wpAny_of_eq (rfl : isSame (.ref l) (.str b u) = pure false) hq) hu
theorem RcAt.str_dict {l : Addr} (b : Str) (u : Tok) (hl : DictAt s.heap l) (hu : A.units < cLine) : RcAt A s (.str b u) (.ref l) false :=
  RcAt.x_dict hl (typeIs_str s b u) (by decide) F.sub_str_dict F.sub_dict_str F.slot_str_eq (fun _ _ _ => str_decl b u hl)
    (fun _ _ _ _ hq => wpAny_of_eq (rfl : isSame (.str b u) (.ref l) = pure false) hq) hu
theorem ne_dict_tuple {l b : Addr} {items : Array Value} (hl : DictAt s.heap l) (hb : s.heap.IsTuple b items) : l ≠ b := fun e => by
  subst e
  obtain ⟨o, es, n, ho, hc, _⟩ := hl
  obtain ⟨o2, ho2, hc2, _⟩ := hb
  rw [ho] at ho2
  cases ho2
  rw [hc] at hc2
  exact absurd hc2 (by simp)
theorem tup_decl {prog : Program} {w : World} {E : Value → Shared → Prop} {l b : Addr} {items : Array Value} (hl : DictAt s.heap l) (hb : s.heap.IsTuple b items) :
    ∀ Q' : Value → Shared → Prop, Q' .notImplemented s → wpAny (model prog w) A (call (.builtin "tuple.__eq__") [.ref b, .ref l]) Q' E s := by
  intro Q' hq
  obtain ⟨⟨cls, dd, data, sl⟩, es, n, ho, hc, hd⟩ := id hl
  obtain ⟨⟨cls2, dd2, data2, sl2⟩, ho2, hc2, n2, hd2⟩ := id hb
  simp only at hc hd hc2 hd2
  subst hc hd hc2 hd2
  exact call_meets F.slot_tuple_eq ⟨_, ho2, rfl⟩ F.entry_tuple_eq (F.args_tuple_eq_2 _ _) (tuple_eq_declines_dict b l items es n2 n dd2 dd sl2 sl) ⟨ho2, ho, hq⟩
theorem RcAt.dict_tuple {l b : Addr} {items : Array Value} (hl : DictAt s.heap l) (hb : s.heap.IsTuple b items) (hu : A.units < cLine) : RcAt A s (.ref l) (.ref b) false := by
  obtain ⟨o, es, n, ho, hc, hd⟩ := id hl
  obtain ⟨o2, ho2, hc2, n2, hd2⟩ := id hb
  exact RcAt.dict_x hl ⟨_, ho2, hc2⟩ (by decide) F.sub_tuple_dict F.slot_tuple_eq_refl (fun _ _ _ => tup_decl hl hb)
    (fun _ _ _ _ hq => wpAny_isSame_ref_other (ne_dict_tuple hl hb) ho ho2 (by rw [hc]; simp) hq) hu
theorem RcAt.tuple_dict {l b : Addr} {items : Array Value} (hl : DictAt s.heap l) (hb : s.heap.IsTuple b items) (hu : A.units < cLine) : RcAt A s (.ref b) (.ref l) false := by
  obtain ⟨o, es, n, ho, hc, hd⟩ := id hl
  obtain ⟨o2, ho2, hc2, n2, hd2⟩ := id hb
  exact RcAt.x_dict hl ⟨_, ho2, hc2⟩ (by decide) F.sub_tuple_dict F.sub_dict_tuple F.slot_tuple_eq (fun _ _ _ => tup_decl hl hb)
    (fun _ _ _ _ hq => wpAny_isSame_ref_other' (ne_dict_tuple hl hb).symm ho2 ho (by rw [hc]; simp) hq) hu
theorem RcAt.eqAt {x y : Value} {c : Bool} (hxy : (∃ l b u, x = .ref l ∧ y = .str b u) ∨ (∃ l b u, y = .ref l ∧ x = .str b u) ∨ ∃ l b, x = .ref l ∧ y = .ref b ∧ l ≠ b) (h : RcAt A s x y c) : EqAt A s x y c := by
  rcases hxy with ⟨l, b, u, rfl, rfl⟩ | ⟨l, b, u, rfl, rfl⟩ | ⟨l, b, rfl, rfl, ne⟩
  · intro prog w E Q hq
    unfold eqBool
    refine wpAny_holding ?_
    refine wpAny_ite_split (fun hab => absurd (eq_of_beq hab) nofun) (fun _ => ?_)
    exact wpAny_bind (h prog w E _ (wpAny_truthy_bool hq))
  · intro prog w E Q hq
    unfold eqBool
    refine wpAny_holding ?_
    refine wpAny_ite_split (fun hab => absurd (eq_of_beq hab) nofun) (fun _ => ?_)
    exact wpAny_bind (h prog w E _ (wpAny_truthy_bool hq))
  · exact .of_refs ne h
theorem dict_declinesN {prog : Program} {w : World} {E : Value → Shared → Prop} {l : Addr} {x : Value} {T : String} (hl : DictAt s.heap l) (ht : s.TypeIs x T) (hsub : isSubtype (.type T) (.type "dict") = pure false) :
    ∀ Q' : Value → Shared → Prop, Q' .notImplemented s → wpAny (model prog w) A (call (.builtin "dict.__ne__") [.ref l, x]) Q' E s := by
  intro Q' hq
  refine wpAny_call_entry F.slot_dict_ne hl.ty F.entry_dict_ne ?_ (F.args_dict_ne_2 _ _)
  show wpAny _ _ (Builtin.Dict.dictSlotArgs "__ne__" ⟨[.ref l, x], []⟩ >>= _) _ _ s
  refine wpAny_bind ?_
  unfold Builtin.Dict.dictSlotArgs
  refine wpAny_bind (wpAny_notOrdered_dict hl.ty ?_)
  show wpAny _ _ (pure (Value.ref l, x)) _ _ s
  refine wpAny_pure ?_
  refine wpAny_bind (wpAny_isInstance (T := T) ht hsub ?_)
  simp only [Bool.not_false, if_true]
  refine wpAny_bind (wpAny_rule ?_)
  exact wpAny_pure ⟨_, rfl, hq⟩
theorem RcNeAt.dict_x {l : Addr} {x : Value} {T idb : String} (hl : DictAt s.heap l) (hx : s.TypeIs x T) (hne : (Value.type "dict" != Value.type T) = true) (h1 : isSubtype (.type T) (.type "dict") = pure false)
    (hs : Slot T (cmpInfo .NotEq).2.2 idb) (hd : ∀ (prog : Program) (w : World) (E : Value → Shared → Prop) (Q' : Value → Shared → Prop), Q' .notImplemented s → wpAny (model prog w) A (call (.builtin idb) [x, .ref l]) Q' E s)
    (hk : ∀ (prog : Program) (w : World) (E : Value → Shared → Prop) (Q' : Bool → Shared → Prop), Q' false s → wpAny (model prog w) A (isSame (.ref l) x) Q' E s) (hu : A.units < cLine) : RcNeAt A s (.ref l) x true := fun prog w E Q h =>
  rc_ne_decline_or (k := false) hl.ty hx hne h1 F.slot_dict_ne hs (dict_declinesN hl hx h1) (hd prog w E) (hk prog w E) (.inr hu) h
theorem RcNeAt.x_dict {l : Addr} {x : Value} {T ida : String} (hl : DictAt s.heap l) (hx : s.TypeIs x T) (hne : (Value.type T != Value.type "dict") = true) (h1 : isSubtype (.type T) (.type "dict") = pure false)
    (h2 : isSubtype (.type "dict") (.type T) = pure false)
    (hs : Slot T (cmpInfo .NotEq).2.1 ida) (hd : ∀ (prog : Program) (w : World) (E : Value → Shared → Prop) (Q' : Value → Shared → Prop), Q' .notImplemented s → wpAny (model prog w) A (call (.builtin ida) [x, .ref l]) Q' E s)
    (hk : ∀ (prog : Program) (w : World) (E : Value → Shared → Prop) (Q' : Bool → Shared → Prop), Q' false s → wpAny (model prog w) A (isSame x (.ref l)) Q' E s) (hu : A.units < cLine) : RcNeAt A s x (.ref l) true := fun prog w E Q h =>
  rc_ne_decline_or (k := false) hx hl.ty hne h2 hs F.slot_dict_ne_refl (hd prog w E) (dict_declinesN hl hx h1) (hk prog w E) (.inr hu) h
theorem str_declN {prog : Program} {w : World} {E : Value → Shared → Prop} {l : Addr} (b : Str) (u : Tok) (hl : DictAt s.heap l) :
    ∀ Q' : Value → Shared → Prop, Q' .notImplemented s → wpAny (model prog w) A (call (.builtin "str.__ne__") [.str b u, .ref l]) Q' E s := by
  intro Q' hq
  obtain ⟨⟨cls, dd, data, sl⟩, es, n, ho, hc, hd⟩ := id hl
  simp only at hc hd
  subst hc hd
  exact call_meets F.slot_str_ne (typeIs_str s b u) F.entry_str_ne (F.args_str_ne_2 _ _) (str_ne_declines_dict b u l (.type "dict") es n dd sl) ⟨ho, hq⟩
theorem RcNeAt.dict_str {l : Addr} (b : Str) (u : Tok) (hl : DictAt s.heap l) (hu : A.units < cLine) : RcNeAt A s (.ref l) (.str b u) true :=
  RcNeAt.dict_x hl (typeIs_str s b u) (by decide) F.sub_str_dict F.slot_str_ne_refl (fun _ _ _ => str_declN b u hl)
    (fun _ _ _ _ hq => wpAny_of_eq (rfl : isSame (.ref l) (.str b u) = pure false) hq) hu
theorem RcNeAt.str_dict {l : Addr} (b : Str) (u : Tok) (hl : DictAt s.heap l) (hu : A.units < cLine) : RcNeAt A s (.str b u) (.ref l) true :=
  RcNeAt.x_dict hl (typeIs_str s b u) (by decide) F.sub_str_dict F.sub_dict_str F.slot_str_ne (fun _ _ _ => str_declN b u hl)
    (fun _ _ _ _ hq => wpAny_of_eq (rfl : isSame (.str b u) (.ref l) = pure false) hq) hu
theorem tup_declN {prog : Program} {w : World} {E : Value → Shared → Prop} {l b : Addr} {items : Array Value} (hl : DictAt s.heap l) (hb : s.heap.IsTuple b items) :
    ∀ Q' : Value → Shared → Prop, Q' .notImplemented s → wpAny (model prog w) A (call (.builtin "tuple.__ne__") [.ref b, .ref l]) Q' E s := by
  intro Q' hq
  obtain ⟨⟨cls, dd, data, sl⟩, es, n, ho, hc, hd⟩ := id hl
  obtain ⟨⟨cls2, dd2, data2, sl2⟩, ho2, hc2, n2, hd2⟩ := id hb
  simp only at hc hd hc2 hd2
  subst hc hd hc2 hd2
  exact call_meets F.slot_tuple_ne ⟨_, ho2, rfl⟩ F.entry_tuple_ne (F.args_tuple_ne_2 _ _) (tuple_ne_declines_dict b l items es n2 n dd2 dd sl2 sl) ⟨ho2, ho, hq⟩
theorem RcNeAt.dict_tuple {l b : Addr} {items : Array Value} (hl : DictAt s.heap l) (hb : s.heap.IsTuple b items) (hu : A.units < cLine) : RcNeAt A s (.ref l) (.ref b) true := by
  obtain ⟨o, es, n, ho, hc, hd⟩ := id hl
  obtain ⟨o2, ho2, hc2, n2, hd2⟩ := id hb
  exact RcNeAt.dict_x hl ⟨_, ho2, hc2⟩ (by decide) F.sub_tuple_dict F.slot_tuple_ne_refl (fun _ _ _ => tup_declN hl hb)
    (fun _ _ _ _ hq => wpAny_isSame_ref_other (ne_dict_tuple hl hb) ho ho2 (by rw [hc]; simp) hq) hu
theorem RcNeAt.tuple_dict {l b : Addr} {items : Array Value} (hl : DictAt s.heap l) (hb : s.heap.IsTuple b items) (hu : A.units < cLine) : RcNeAt A s (.ref b) (.ref l) true := by
  obtain ⟨o, es, n, ho, hc, hd⟩ := id hl
  obtain ⟨o2, ho2, hc2, n2, hd2⟩ := id hb
  exact RcNeAt.x_dict hl ⟨_, ho2, hc2⟩ (by decide) F.sub_tuple_dict F.sub_dict_tuple F.slot_tuple_ne (fun _ _ _ => tup_declN hl hb)
    (fun _ _ _ _ hq => wpAny_isSame_ref_other' (ne_dict_tuple hl hb).symm ho2 ho (by rw [hc]; simp) hq) hu
end
end DL

/-! == of any data against texts and tuples of texts. -/
namespace DL
open PySem PySem.Spec PyProof.Rows PySem.SeqAt PySem.MeetsSeq

mutual
/-- only texts, and tuples of such -/
def txt : PyData → Bool
  | .str _ => true
  | .tuple xs => txtAll xs
  | _ => false
def txtAll : List PyData → Bool
  | [] => true
  | x :: xs => txt x && txtAll xs
end
mutual
theorem txt_plain : ∀ d : PyData, txt d = true → d.plain = true
  | .none, h => nomatch h
  | .bool _, h => nomatch h
  | .int _, h => nomatch h
  | .list _, h => nomatch h
  | .dict _, h => nomatch h
  | .str _, _ => rfl
  | .tuple xs, h => txtAll_plain xs h
theorem txtAll_plain : ∀ xs : List PyData, txtAll xs = true → PyData.plainAll xs = true
  | [], _ => rfl
  | x :: xs, h => by
    have h' : txt x = true ∧ txtAll xs = true := by simpa [txtAll] using h
    simp only [PyData.plainAll, txt_plain x h'.1, txtAll_plain xs h'.2, Bool.and_self]
end
theorem dictAt_of {h : Heap} {a : Addr} {o : Obj} {es : Array DictEntry} {n : Nat} (h1 : h.get? a = some o) (h2 : o.cls = .type "dict") (h3 : o.data = .dict es n) : DictAt h a := ⟨o, es, n, h1, h2, h3⟩

mutual
theorem eqAt_r : ∀ (da db : PyData) (A : Around) (s : Shared) (a b : Value) (as bs : List Addr), Reads s.heap a da as → Reads s.heap b db bs → txt db = true →
    A.units + min da.depth db.depth < cLine → EqAt A s a b (PyData.eqv da db)
  | da, .none, _, _, _, _, _, _, _, _, h, _ => nomatch h
  | da, .bool _, _, _, _, _, _, _, _, _, h, _ => nomatch h
  | da, .int _, _, _, _, _, _, _, _, _, h, _ => nomatch h
  | da, .list _, _, _, _, _, _, _, _, _, h, _ => nomatch h
  | da, .dict _, _, _, _, _, _, _, _, _, h, _ => nomatch h
  | da, .str y, A, s, _, _, _, _, ra, rb, _, hu => by
    cases rb with
    | str _ u =>
      cases ra with
      | none => exact EqAt.none_str y u
      | bool x => exact EqAt.bool_str x y u
      | int x t => exact EqAt.int_str x t y u
      | str x t => exact EqAt.str_str x t y u
      | list k1 k2 k3 k4 => exact EqAt.list_str y u ⟨_, k1, k2, _, k3⟩ (room_here hu)
      | tuple k1 k2 k3 k4 => exact EqAt.tuple_str y u ⟨_, k1, k2, _, k3⟩ (room_here hu)
      | dict k1 k2 k3 k4 k5 => exact RcAt.eqAt (.inl ⟨_, _, _, rfl, rfl⟩) (RcAt.dict_str y u (dictAt_of k1 k2 k3) (room_here hu))
  | da, .tuple ys, A, s, _, _, _, _, ra, rb, ht, hu => by
    cases rb with
    | @tuple l' o' vs' n' _ bs₁ k1 k2 k3 k4 =>
      have hl' : s.heap.IsTuple l' vs' := ⟨_, k1, k2, _, k3⟩
      cases ra with
      | none => exact EqAt.none_tuple hl' (room_here hu)
      | bool x => exact EqAt.bool_tuple x hl' (room_here hu)
      | int x t => exact EqAt.int_tuple x t hl' (room_here hu)
      | str x t => exact EqAt.str_tuple x t hl' (room_here hu)
      | list h1 h2 h3 h4 => exact EqAt.list_tuple ⟨_, h1, h2, _, h3⟩ hl' (room_here hu)
      | dict h1 h2 h3 h4 h5 => exact RcAt.eqAt (.inr (.inr ⟨_, _, rfl, rfl, ne_dict_tuple (dictAt_of h1 h2 h3) hl'⟩)) (RcAt.dict_tuple (dictAt_of h1 h2 h3) hl' (room_here hu))
      | @tuple l o vs n xs as₁ h1 h2 h3 h4 =>
        have hl : s.heap.IsTuple l vs := ⟨_, h1, h2, _, h3⟩
        have n1 : vs.size = xs.length := by simpa using ReadsAll.length _ _ _ h4
        have n2 : vs'.size = ys.length := by simpa using ReadsAll.length _ _ _ k4
        show EqAt A s (.ref l) (.ref l') (PyData.eqvAll xs ys)
        by_cases hll : l = l'
        · subst hll
          have e : PyData.tuple ys = PyData.tuple xs := plain_unique (.tuple ys) (.tuple xs) _ _ _ (txt_plain _ ht) (.tuple k1 k2 k3 k4) (.tuple h1 h2 h3 h4)
          injection e with e
          subst e
          rw [eqvAll_refl_plain ys (txtAll_plain _ ht)]
          exact EqAt.same _
        · rw [← eqvAll_eq xs ys, ← n1, ← n2]
          refine EqAt.of_refs hll (RcAt.tuples hl hl' (room_here hu) fun j j1 j2 => ?_)
          have := eqAt_rAll xs ys A.in1 s vs.toList vs'.toList _ _ h4 k4 ht (room_in hu) j (by simpa using j1) (by simpa using j2)
          simpa using this
theorem eqAt_rAll : ∀ (xs ys : List PyData) (A : Around) (s : Shared) (vs ws : List Value) (as bs : List Addr), ReadsAll s.heap vs xs as → ReadsAll s.heap ws ys bs → txtAll ys = true →
    A.units + min (PyData.depthAll xs) (PyData.depthAll ys) < cLine → ∀ j (h1 : j < vs.length) (h2 : j < ws.length), EqAt A s vs[j] ws[j] (pairEq xs ys j)
  | [], _, _, _, _, _, _, _, ra, _, _, _, j, h1, _ => by cases ra; exact absurd h1 (Nat.not_lt_zero _)
  | _ :: _, [], _, _, _, _, _, _, _, rb, _, _, j, _, h2 => by cases rb; exact absurd h2 (Nat.not_lt_zero _)
  | x :: xs, y :: ys, A, s, _, _, _, _, ra, rb, hb, hu, j, h1, h2 => by
    have hb' : txt y = true ∧ txtAll ys = true := by simpa [txtAll] using hb
    cases ra with
    | cons r rs =>
      cases rb with
      | cons r' rs' =>
        cases j with
        | zero => exact eqAt_r x y A s _ _ _ _ r r' hb'.1 (room_head hu)
        | succ j => exact eqAt_rAll xs ys A s _ _ _ _ rs rs' hb'.2 (room_tail hu) j (Nat.lt_of_succ_lt_succ h1) (Nat.lt_of_succ_lt_succ h2)
end
mutual
theorem eqAt_l : ∀ (db da : PyData) (A : Around) (s : Shared) (b a : Value) (bs as : List Addr), Reads s.heap b db bs → Reads s.heap a da as → txt db = true →
    A.units + min db.depth da.depth < cLine → EqAt A s b a (PyData.eqv db da)
  | .none, _, _, _, _, _, _, _, _, _, h, _ => nomatch h
  | .bool _, _, _, _, _, _, _, _, _, _, h, _ => nomatch h
  | .int _, _, _, _, _, _, _, _, _, _, h, _ => nomatch h
  | .list _, _, _, _, _, _, _, _, _, _, h, _ => nomatch h
  | .dict _, _, _, _, _, _, _, _, _, _, h, _ => nomatch h
  | .str y, da, A, s, _, _, _, _, rb, ra, _, hu => by
    cases rb with
    | str _ u =>
      cases ra with
      | none => exact EqAt.str_none y u
      | bool x => exact EqAt.str_bool y u x
      | int x t => exact EqAt.str_int y u x t
      | str x t => exact EqAt.str_str y u x t
      | list k1 k2 k3 k4 => exact EqAt.str_list y u ⟨_, k1, k2, _, k3⟩ (room_here hu)
      | tuple k1 k2 k3 k4 => exact EqAt.str_tuple y u ⟨_, k1, k2, _, k3⟩ (room_here hu)
      | dict k1 k2 k3 k4 k5 => exact RcAt.eqAt (.inr (.inl ⟨_, _, _, rfl, rfl⟩)) (RcAt.str_dict y u (dictAt_of k1 k2 k3) (room_here hu))
  | .tuple ys, da, A, s, _, _, _, _, rb, ra, ht, hu => by
    cases rb with
    | @tuple l' o' vs' n' _ bs₁ k1 k2 k3 k4 =>
      have hl' : s.heap.IsTuple l' vs' := ⟨_, k1, k2, _, k3⟩
      cases ra with
      | none => exact EqAt.tuple_none hl' (room_here hu)
      | bool x => exact EqAt.tuple_bool x hl' (room_here hu)
      | int x t => exact EqAt.tuple_int x t hl' (room_here hu)
      | str x t => exact EqAt.tuple_str x t hl' (room_here hu)
      | list h1 h2 h3 h4 => exact EqAt.tuple_list hl' ⟨_, h1, h2, _, h3⟩ (room_here hu)
      | dict h1 h2 h3 h4 h5 => exact RcAt.eqAt (.inr (.inr ⟨_, _, rfl, rfl, (ne_dict_tuple (dictAt_of h1 h2 h3) hl').symm⟩)) (RcAt.tuple_dict (dictAt_of h1 h2 h3) hl' (room_here hu))
      | @tuple l o vs n xs as₁ h1 h2 h3 h4 =>
        have hl : s.heap.IsTuple l vs := ⟨_, h1, h2, _, h3⟩
        have n1 : vs.size = xs.length := by simpa using ReadsAll.length _ _ _ h4
        have n2 : vs'.size = ys.length := by simpa using ReadsAll.length _ _ _ k4
        show EqAt A s (.ref l') (.ref l) (PyData.eqvAll ys xs)
        by_cases hll : l' = l
        · subst hll
          have e : PyData.tuple ys = PyData.tuple xs := plain_unique (.tuple ys) (.tuple xs) _ _ _ (txt_plain _ ht) (.tuple k1 k2 k3 k4) (.tuple h1 h2 h3 h4)
          injection e with e
          subst e
          rw [eqvAll_refl_plain ys (txtAll_plain _ ht)]
          exact EqAt.same _
        · rw [← eqvAll_eq ys xs, ← n1, ← n2]
          refine EqAt.of_refs hll (RcAt.tuples hl' hl (room_here hu) fun j j1 j2 => ?_)
          have := eqAt_lAll ys xs A.in1 s vs'.toList vs.toList _ _ k4 h4 ht (room_in hu) j (by simpa using j1) (by simpa using j2)
          simpa using this
theorem eqAt_lAll : ∀ (ys xs : List PyData) (A : Around) (s : Shared) (ws vs : List Value) (bs as : List Addr), ReadsAll s.heap ws ys bs → ReadsAll s.heap vs xs as → txtAll ys = true →
    A.units + min (PyData.depthAll ys) (PyData.depthAll xs) < cLine → ∀ j (h1 : j < ws.length) (h2 : j < vs.length), EqAt A s ws[j] vs[j] (pairEq ys xs j)
  | [], _, _, _, _, _, _, _, ra, _, _, _, j, h1, _ => by cases ra; exact absurd h1 (Nat.not_lt_zero _)
  | _ :: _, [], _, _, _, _, _, _, _, rb, _, _, j, _, h2 => by cases rb; exact absurd h2 (Nat.not_lt_zero _)
  | y :: ys, x :: xs, A, s, _, _, _, _, rb, ra, hb, hu, j, h1, h2 => by
    have hb' : txt y = true ∧ txtAll ys = true := by simpa [txtAll] using hb
    cases ra with
    | cons r rs =>
      cases rb with
      | cons r' rs' =>
        cases j with
        | zero => exact eqAt_l y x A s _ _ _ _ r' r hb'.1 (room_head hu)
        | succ j => exact eqAt_lAll ys xs A s _ _ _ _ rs' rs hb'.2 (room_tail hu) j (Nat.lt_of_succ_lt_succ h1) (Nat.lt_of_succ_lt_succ h2)
end
/-- at the top -/
theorem rcAt_r {da db : PyData} {A : Around} {s : Shared} {a b : Value} {as bs : List Addr} (ra : Reads s.heap a da as) (rb : Reads s.heap b db bs) (ht : txt db = true)
    (hu : A.units + min da.depth db.depth < cLine) : RcAt A s a b (PyData.eqv da db) := by
  cases rb with
  | none => exact nomatch ht
  | bool _ => exact nomatch ht
  | int _ _ => exact nomatch ht
  | list _ _ _ _ => exact nomatch ht
  | dict _ _ _ _ _ => exact nomatch ht
  | str y u =>
    cases ra with
    | none => exact RcAt.none_str y u
    | bool x => exact RcAt.bool_str x y u
    | int x t => exact RcAt.int_str x t y u
    | str x t => exact RcAt.str_str x t y u
    | list k1 k2 k3 k4 => exact RcAt.list_str y u ⟨_, k1, k2, _, k3⟩ (room_here hu)
    | tuple k1 k2 k3 k4 => exact RcAt.tuple_str y u ⟨_, k1, k2, _, k3⟩ (room_here hu)
    | dict k1 k2 k3 k4 k5 => exact RcAt.dict_str y u (dictAt_of k1 k2 k3) (room_here hu)
  | @tuple l' o' vs' n' ys bs₁ k1 k2 k3 k4 =>
    have hl' : s.heap.IsTuple l' vs' := ⟨_, k1, k2, _, k3⟩
    cases ra with
    | none => exact RcAt.none_tuple hl' (room_here hu)
    | bool x => exact RcAt.bool_tuple x hl' (room_here hu)
    | int x t => exact RcAt.int_tuple x t hl' (room_here hu)
    | str x t => exact RcAt.str_tuple x t hl' (room_here hu)
    | list h1 h2 h3 h4 => exact RcAt.list_tuple ⟨_, h1, h2, _, h3⟩ hl' (room_here hu)
    | dict h1 h2 h3 h4 h5 => exact RcAt.dict_tuple (dictAt_of h1 h2 h3) hl' (room_here hu)
    | @tuple l o vs n xs as₁ h1 h2 h3 h4 =>
      have hl : s.heap.IsTuple l vs := ⟨_, h1, h2, _, h3⟩
      have n1 : vs.size = xs.length := by simpa using ReadsAll.length _ _ _ h4
      have n2 : vs'.size = ys.length := by simpa using ReadsAll.length _ _ _ k4
      have he : ∀ j (j1 : j < vs.size) (j2 : j < vs'.size), EqAt A.in1 s vs[j] vs'[j] (pairEq xs ys j) := fun j j1 j2 => by
        have := eqAt_rAll xs ys A.in1 s vs.toList vs'.toList _ _ h4 k4 ht (room_in hu) j (by simpa using j1) (by simpa using j2)
        simpa using this
      show RcAt A s (.ref l) (.ref l') (PyData.eqvAll xs ys)
      rw [← eqvAll_eq xs ys, ← n1, ← n2]
      exact RcAt.tuples hl hl' (room_here hu) he
theorem rcNeAt_r {da db : PyData} {A : Around} {s : Shared} {a b : Value} {as bs : List Addr} (ra : Reads s.heap a da as) (rb : Reads s.heap b db bs) (ht : txt db = true)
    (hu : A.units + min da.depth db.depth < cLine) : RcNeAt A s a b (!PyData.eqv da db) := by
  cases rb with
  | none => exact nomatch ht
  | bool _ => exact nomatch ht
  | int _ _ => exact nomatch ht
  | list _ _ _ _ => exact nomatch ht
  | dict _ _ _ _ _ => exact nomatch ht
  | str y u =>
    cases ra with
    | none => exact RcNeAt.none_str y u
    | bool x => exact RcNeAt.bool_str x y u
    | int x t => exact RcNeAt.int_str x t y u
    | str x t => exact RcNeAt.str_str x t y u
    | list k1 k2 k3 k4 => exact RcNeAt.list_str y u ⟨_, k1, k2, _, k3⟩ (room_here hu)
    | tuple k1 k2 k3 k4 => exact RcNeAt.tuple_str y u ⟨_, k1, k2, _, k3⟩ (room_here hu)
    | dict k1 k2 k3 k4 k5 => exact RcNeAt.dict_str y u (dictAt_of k1 k2 k3) (room_here hu)
  | @tuple l' o' vs' n' ys bs₁ k1 k2 k3 k4 =>
    have hl' : s.heap.IsTuple l' vs' := ⟨_, k1, k2, _, k3⟩
    cases ra with
    | none => exact RcNeAt.none_tuple hl' (room_here hu)
    | bool x => exact RcNeAt.bool_tuple x hl' (room_here hu)
    | int x t => exact RcNeAt.int_tuple x t hl' (room_here hu)
    | str x t => exact RcNeAt.str_tuple x t hl' (room_here hu)
    | list h1 h2 h3 h4 => exact RcNeAt.list_tuple ⟨_, h1, h2, _, h3⟩ hl' (room_here hu)
    | dict h1 h2 h3 h4 h5 => exact RcNeAt.dict_tuple (dictAt_of h1 h2 h3) hl' (room_here hu)
    | @tuple l o vs n xs as₁ h1 h2 h3 h4 =>
      have hl : s.heap.IsTuple l vs := ⟨_, h1, h2, _, h3⟩
      have n1 : vs.size = xs.length := by simpa using ReadsAll.length _ _ _ h4
      have n2 : vs'.size = ys.length := by simpa using ReadsAll.length _ _ _ k4
      have he : ∀ j (j1 : j < vs.size) (j2 : j < vs'.size), EqAt A.in1 s vs[j] vs'[j] (pairEq xs ys j) := fun j j1 j2 => by
        have := eqAt_rAll xs ys A.in1 s vs.toList vs'.toList _ _ h4 k4 ht (room_in hu) j (by simpa using j1) (by simpa using j2)
        simpa using this
      show RcNeAt A s (.ref l) (.ref l') (!PyData.eqvAll xs ys)
      rw [← eqvAll_eq xs ys, ← n1, ← n2]
      exact RcNeAt.tuples hl hl' (room_here hu) he
theorem depthAll_mem : ∀ {xs : List PyData} {d : PyData}, d ∈ xs → d.depth ≤ PyData.depthAll xs
  | x :: xs, d, h => by
    rw [PyData.depthAll]
    rcases List.mem_cons.mp h with e | e
    · subst e; exact Nat.le_max_left _ _
    · exact Nat.le_trans (depthAll_mem e) (Nat.le_max_right _ _)
theorem readsAll_mem_txt {h : Heap} : ∀ (xs : List PyData) (vs : List Value) (as : List Addr), txtAll xs = true → ReadsAll h vs xs as → ∀ y ∈ vs, ∃ d bs, Reads h y d bs ∧ txt d = true ∧ d.depth ≤ PyData.depthAll xs
  | [], _, _, _, r, y, hy => by cases r; cases hy
  | x :: xs, _, _, hc, r, y, hy => by
    have hc' : txt x = true ∧ txtAll xs = true := by simpa [txtAll] using hc
    cases r with
    | cons r1 r2 =>
      rcases List.mem_cons.mp hy with rfl | hy
      · exact ⟨x, _, r1, hc'.1, Nat.le_max_left _ _⟩
      · obtain ⟨d, bs, rd, hd, hle⟩ := readsAll_mem_txt xs _ _ hc'.2 r2 y hy
        exact ⟨d, bs, rd, hd, Nat.le_trans hle (Nat.le_max_right _ _)⟩
/-- what is looked through: things without dicts for one without; texts and tuples of such for any -/
def inMore (d : PyData) (ds : List PyData) : Bool := ((d.plain && PyData.plainAll ds) || txtAll ds) && decide (PyData.depthAll ds ≤ 60)
theorem inMore_plain {d : PyData} {ds : List PyData} (h : inMore d ds = true) : PyData.plainAll ds = true ∧ PyData.depthAll ds ≤ 60 := by
  unfold inMore at h
  simp only [Bool.and_eq_true, Bool.or_eq_true, decide_eq_true_eq] at h
  rcases h with ⟨h | h, h2⟩
  · exact ⟨h.2, h2⟩
  · exact ⟨txtAll_plain _ h, h2⟩
section
variable {prog : Program} {w : World} {A : Around} {E : Value → Shared → Prop} {s : Shared}
theorem items_more {vs : Array Value} {xs : List PyData} {as bs : List Addr} {x : Value} {d : PyData} (rs : ReadsAll s.heap vs.toList xs as) (rx : Reads s.heap x d bs) (h : inMore d xs = true)
    (hu : A.units + 64 < cLine) : ∀ y, y ∈ vs → EqAt A.in1 s y x (PyData.eqv (readOf s.heap y) d) := fun y hy => by
  have hp := inMore_plain h
  unfold inMore at h
  simp only [Bool.and_eq_true, Bool.or_eq_true, decide_eq_true_eq] at h
  rcases h with ⟨h | h, h2⟩
  · refine items_plain rs rx h.2 h.1 ?_ y hy
    have : min (PyData.depthAll xs) d.depth ≤ 60 := Nat.le_trans (Nat.min_le_left _ _) h2
    omega
  · obtain ⟨dy, cs, ry, hcy, hle⟩ := readsAll_mem_txt xs _ _ h rs y (by simpa using hy)
    rw [readOf_plain (txt_plain _ hcy) ry]
    refine eqAt_l dy d A.in1 s y x _ _ ry rx hcy ?_
    have h1 : min dy.depth d.depth ≤ 60 := Nat.le_trans (Nat.min_le_left _ _) (Nat.le_trans hle h2)
    show A.units + 1 + min dy.depth d.depth < cLine
    omega
theorem in_more {c x : Value} {xs : List PyData} {e d : PyData} {as bs : List Addr} {Q : Value → Shared → Prop} (hc : e = .list xs ∨ e = .tuple xs) (rc : Reads s.heap c e as) (rx : Reads s.heap x d bs) (h : inMore d xs = true)
    (hu : A.units + 64 < cLine) (hq : Q (.bool (xs.any fun y => PyData.eqv y d)) s) : wpAny (model prog w) A (compareOp .In x c) Q E s := by
  have hp := (inMore_plain h).1
  rcases hc with rfl | rfl
  · cases rc with
    | list h1 h2 h3 h4 => exact in_listAt _ ⟨_, h1, h2, _, h3⟩ (items_more h4 rx h hu) (by rw [any_plain h4 hp]; exact hq)
  · cases rc with
    | tuple h1 h2 h3 h4 => exact in_tupleAt _ ⟨_, h1, h2, _, h3⟩ (items_more h4 rx h hu) (by rw [any_plain h4 hp]; exact hq)
theorem notIn_more {c x : Value} {xs : List PyData} {e d : PyData} {as bs : List Addr} {Q : Value → Shared → Prop} (hc : e = .list xs ∨ e = .tuple xs) (rc : Reads s.heap c e as) (rx : Reads s.heap x d bs) (h : inMore d xs = true)
    (hu : A.units + 64 < cLine) (hq : Q (.bool (!xs.any fun y => PyData.eqv y d)) s) : wpAny (model prog w) A (compareOp .NotIn x c) Q E s := by
  have hp := (inMore_plain h).1
  rcases hc with rfl | rfl
  · cases rc with
    | list h1 h2 h3 h4 => exact notIn_listAt _ ⟨_, h1, h2, _, h3⟩ (items_more h4 rx h hu) (by rw [any_plain h4 hp]; exact hq)
  · cases rc with
    | tuple h1 h2 h3 h4 => exact notIn_tupleAt _ ⟨_, h1, h2, _, h3⟩ (items_more h4 rx h hu) (by rw [any_plain h4 hp]; exact hq)
/-- data without dicts on both sides, or texts and tuples of such on the right -/
def okP (d : PyData) : Bool := d.plain && decide (d.depth ≤ 60)
def nilL : PyData → PyData → Bool
  | .list _, .list [] => true
  | _, _ => false
theorem nilL_some {x y : PyData} (h : nilL x y = true) : ∃ xs, x = .list xs ∧ y = .list [] := by
  unfold nilL at h
  split at h
  · exact ⟨_, rfl, rfl⟩
  · cases h
def eqMore (x y : PyData) : Bool := ((okP x && okP y) || (txt y && decide (y.depth ≤ 60))) || nilL x y
theorem eq_more {a b : Value} {da db : PyData} {as bs : List Addr} {Q : Value → Shared → Prop} (ra : Reads s.heap a da as) (rb : Reads s.heap b db bs) (h : eqMore da db = true) (hu : A.units + 64 < cLine)
    (hq : Q (.bool (PyData.eqv da db)) s) : wpAny (model prog w) A (compareOp .Eq a b) Q E s := by
  unfold eqMore okP at h
  simp only [Bool.and_eq_true, Bool.or_eq_true, decide_eq_true_eq] at h
  rcases h with (⟨⟨h1, h2⟩, h3, h4⟩ | ⟨h1, h2⟩) | hn0
  · refine eq_plain ra rb h1 h3 ?_ hq
    have : min da.depth db.depth ≤ 60 := Nat.le_trans (Nat.min_le_left _ _) h2
    omega
  · refine rcAt_r ra rb h1 ?_ prog w E Q hq
    have : min da.depth db.depth ≤ 60 := Nat.le_trans (Nat.min_le_right _ _) h2
    omega
  · obtain ⟨xs, rfl, rfl⟩ := nilL_some hn0
    cases ra with
    | @list l o vs n _ as₁ h1 h2 h3 h4 =>
      cases rb with
      | @list l' o' vs' n' _ bs₁ k1 k2 k3 k4 =>
        have n1 : vs.size = xs.length := by simpa using ReadsAll.length _ _ _ h4
        have n2 : vs'.size = 0 := by simpa using ReadsAll.length _ _ _ k4
        by_cases hx : xs = []
        · subst hx
          exact eq_plain (.list h1 h2 h3 h4) (.list k1 k2 k3 k4) rfl rfl (by have : min (PyData.list []).depth (PyData.list []).depth ≤ 60 := by decide
                                                                             omega) hq
        · have hl : 0 < xs.length := List.length_pos_iff.mpr hx
          have he : PyData.eqv (.list xs) (.list []) = false := by
            show PyData.eqvAll xs [] = false
            exact eqvAll_other_length (by simp only [List.length_nil]; omega)
          rw [he] at hq
          exact RcAt.lists_lengths ⟨_, h1, h2, _, h3⟩ ⟨_, k1, k2, _, k3⟩ (by rw [n1, n2]; simp; omega) (by omega) prog w E Q hq
theorem ne_more {a b : Value} {da db : PyData} {as bs : List Addr} {Q : Value → Shared → Prop} (ra : Reads s.heap a da as) (rb : Reads s.heap b db bs) (h : eqMore da db = true) (hu : A.units + 64 < cLine)
    (hq : Q (.bool (!PyData.eqv da db)) s) : wpAny (model prog w) A (compareOp .NotEq a b) Q E s := by
  unfold eqMore okP at h
  simp only [Bool.and_eq_true, Bool.or_eq_true, decide_eq_true_eq] at h
  rcases h with (⟨⟨h1, h2⟩, h3, h4⟩ | ⟨h1, h2⟩) | hn0
  · refine ne_plain ra rb h1 h3 ?_ hq
    have : min da.depth db.depth ≤ 60 := Nat.le_trans (Nat.min_le_left _ _) h2
    omega
  · refine rcNeAt_r ra rb h1 ?_ prog w E Q hq
    have : min da.depth db.depth ≤ 60 := Nat.le_trans (Nat.min_le_right _ _) h2
    omega
  · obtain ⟨xs, rfl, rfl⟩ := nilL_some hn0
    cases ra with
    | @list l o vs n _ as₁ h1 h2 h3 h4 =>
      cases rb with
      | @list l' o' vs' n' _ bs₁ k1 k2 k3 k4 =>
        have n1 : vs.size = xs.length := by simpa using ReadsAll.length _ _ _ h4
        have n2 : vs'.size = 0 := by simpa using ReadsAll.length _ _ _ k4
        by_cases hx : xs = []
        · subst hx
          exact ne_plain (.list h1 h2 h3 h4) (.list k1 k2 k3 k4) rfl rfl (by have : min (PyData.list []).depth (PyData.list []).depth ≤ 60 := by decide
                                                                             omega) hq
        · have hl : 0 < xs.length := List.length_pos_iff.mpr hx
          have he : PyData.eqv (.list xs) (.list []) = false := by
            show PyData.eqvAll xs [] = false
            exact eqvAll_other_length (by simp only [List.length_nil]; omega)
          rw [he] at hq
          exact RcNeAt.lists_lengths ⟨_, h1, h2, _, h3⟩ ⟨_, k1, k2, _, k3⟩ (by rw [n1, n2]; simp; omega) (by omega) prog w E Q hq
end
end DL

/-! x.extend(t), t any tuple that stands in the heap. -/
namespace DL
open PySem PySem.Spec PySem.AutoSeq1
theorem list_extend_tuple (l : Addr) (items : Array Value) (n : Nat) (b : Addr) (items2 : Array Value) (n2 : Nat) (dd2 : Option Addr) (sl2 : Array (Option Value)) (hs0 : ¬(!items.isEmpty && Builtin.List.listTooLong (items.size + items2.size)) = true) (hs1 : items.size ≤ sizeLine) (hs2 : items.size + items2.size ≤ sizeLine + 1) :
    Meets (Builtin.«list.extend» ⟨[.ref l, .ref b], []⟩) (fun _ R s => s.heap.get? l = some { cls := .type "list", dict := none, data := .seq items n, slots := #[] } ∧ s.heap.get? b = some { cls := .type "tuple", dict := dd2, data := .seq items2 n2, slots := sl2 } ∧ R (.ok (.ret Value.none)) { s with heap := s.heap.update l (Obj.mapSeq fun x => x ++ items2), toks := s.toks }) :=
  .of_wp fun prog w A R s h => by
    obtain ⟨hp, g, d, tk, os⟩ := s; obtain ⟨hl, hb, h⟩ := h; have f1 := idx_int; have f2 := sub_tuple_tuple; have f3 := sub_list_list; have f4 := sub_tuple_list; have f5 := sub_list_tuple;
    have hz' : (items ++ items2).size ≤ sizeLine + 1 := by rw [Array.size_append]; exact hs2
    wp_walk using (wpAny_updateSeq hl rfl (hz := hs1) (_hz' := hz')), wpAny_loadPart' hl, wpAny_loadPart' hb; exact ⟨_, rfl, h⟩
end DL

/-! Calls of defs where it is also known that no repr is under way (the recursion guards are empty). -/
namespace DL
open PySem PySem.Spec PyProof.Rows L2

/-- room for calls, and no guard stands -/
structure RoomG (k : Nat) (A : Around) : Prop where
  r : Room k A
  g : A.guards = some []
theorem RoomG.mono {j k : Nat} {A : Around} (r : RoomG k A) (h : j ≤ k) : RoomG j A := ⟨r.r.mono h, r.g⟩

/-- what a def promises to whoever calls it where no guard stands -/
structure FnG (P : Program) (w : World) (K : PySem.W.Frag) (mg : Str → Option Value) (base : Heap) (CX : CXT)
    (k : Nat) (f : Addr) (fd : FuncData) (ps : List Str) (sp : Sp) : Prop where
  len : ∀ vs H Q E, sp vs H Q E → vs.length = ps.length
  run : ∀ (A : Around) (outer : List Env) (s : Shared) (H : Hp) (args : Args) (us : List Value) (vs : List V) (Q : VK) (E : XK),
    RoomG k A → Env0 P w K mg base A outer s H → BindsTo s fd args (ps.zip us) → Vals vs us → sp vs H Q E →
      codeAny (model P w) A (.call (.ref f) args) (CR CX outer P w H s Q E) s

section
variable {P : Program} {w : World} {K : PySem.W.Frag} {mg : Str → Option Value} {base : Heap} {CX : CXT} {k : Nat} {f : Addr} {fd : FuncData} {ps : List Str} {sp sp' : Sp}
theorem FnG.of (F : FnOk P w K mg base CX k f fd ps sp) : FnG P w K mg base CX k f fd ps sp :=
  ⟨F.len, fun A o s H args us vs Q E hr e b v h => F.run A o s H args us vs Q E hr.r e b v h⟩
theorem FnG.mono {j : Nat} (F : FnG P w K mg base CX j f fd ps sp) (h : j ≤ k) : FnG P w K mg base CX k f fd ps sp :=
  ⟨F.len, fun A o s H args us vs Q E hr => F.run A o s H args us vs Q E (hr.mono h)⟩
theorem FnG.imp (F : FnG P w K mg base CX k f fd ps sp) (h : ∀ vs H Q E, sp' vs H Q E → sp vs H Q E) :
    FnG P w K mg base CX k f fd ps sp' :=
  ⟨fun vs H Q E q => F.len vs H Q E (h _ _ _ _ q), fun A o s H args us vs Q E hr he hb hv hs =>
    F.run A o s H args us vs Q E hr he hb hv (h _ _ _ _ hs)⟩

/-- a def of the text by its body, run where no guard stands -/
theorem fn_ofG {name qual : Str} {params : Arguments} {body : List Stmt} {scope : Scope} {dV kV doc pm cdv ct oc : Value} {an od : Option Addr}
    {osl : Array (Option Value)} {N : List Str}
    (lk : K.lookup f = some ⟨oc, od, .func (PySem.W.fnOf name qual params body scope dV kV doc pm an cdv ct), osl⟩)
    (hcd : PySem.W.codeIn K cdv qual = true) (S : FnScope N ps scope) (len : ∀ vs H Q E, sp vs H Q E → vs.length = ps.length)
    (hbody : ∀ (A : Around) (outer : List Env) (s : Shared) (H : Hp) (vs : List V) (Q : VK) (E : XK),
      RoomG k (A.deeper (envOfC qual scope s.heap.objs.size f cdv)) → sp vs H Q E →
      ∃ t, PSs (cxOf CX P w K mg base N qual scope f cdv A outer s H E) body t ∧
        t { nx := fun _ H' => Q .non H', rt := Q } (start N vs) H) :
    FnG P w K mg base CX (k + 1) f (PySem.W.fnOf name qual params body scope dV kV doc pm an cdv ct) ps sp := by
  constructor
  · exact len
  intro A outer s H args us vs Q E hr e0 hb r hsp
  have lenVs := len _ _ _ _ hsp
  have inK : K.In s.heap := by
    apply e0.mod.kin.keeps
    intro b o e
    exact (e0.bs b o e).1
  have lim : s.heap.NoLimit := by
    apply e0.mod.nolimit.keeps
    intro b o e
    exact (e0.bs b o e).1
  have kinds : ∀ y ∈ ps.zip us, scope.names.lookup y.1 = some .local ∨
      (scope.names.lookup y.1 = some .cell ∧ ((cellsFrom (s.heap.objs.size + 1) scope.names []).lookup y.1).isSome = true) := by
    rintro ⟨n, v⟩ hy
    have q := S.par n (List.of_mem_zip hy).1
    cases q with
    | inl q => exact Or.inl q
    | inr q => exact Or.inr ⟨q, PySem.W.cellsFrom_some _ _ _ (Or.inl q)⟩
  refine codeAny_call_function hr.r.depth (inK _ _ lk) rfl S.co S.gen rfl (PySem.W.codeRec_of inK hcd) (hb _ _ _ _ ?_)
  refine wpAny_newFunctionEnv_cells S.kind kinds ?_
  intro env he s1 x
  subst he
  refine ⟨lim.keeps x.toInCall.keep, codeAny_func ?_⟩
  have g' : (A.deeper (envOfC qual scope s.heap.objs.size f cdv)).guards = some [] := hr.g
  obtain ⟨t, ht, hq⟩ := hbody A outer s H vs Q E ⟨hr.r.deeper _, g'⟩ hsp
  have I := inv_start (CX := CX) (E := E) S hr.r.hd e0 lenVs r x
  have fin : ∀ {σ' : L2.St} {H' : Hp} {v : V} {u : Value} {s' : Shared},
      Inv (cxOf CX P w K mg base N qual scope f cdv A outer s H E) [] σ' H' s' → RelV v u → Q v H' → CE outer P w H s Q u s' := by
    intro σ' H' v u s' J rv q
    exact ⟨v, H', J.os, J.bare, J.base, J.hok, rv, q⟩
  refine wpAny_mono (ht.run [] s1 (start N vs) H _ I hq) ?_ ?_
  · intro fl s' hs
    cases fl with
    | ret u =>
      obtain ⟨v, σ', H', J, rv, q⟩ := hs
      exact fin J rv q
    | next =>
      obtain ⟨σ', H', J, q⟩ := hs
      exact fin (v := V.non) (u := Value.none) J rfl q
    | brk =>
      obtain ⟨_, _, _, q⟩ := hs
      exact q.elim
    | cont =>
      obtain ⟨_, _, _, q⟩ := hs
      exact q.elim
  · intro e s' hs
    exact hs
end

section
variable {X : Cx} {CX : CXT} {k : Nat} {f : Addr} {fd : FuncData} {ps : List Str} {sp : Sp} {dvs : List V} {ds : List Value} {E : XK} {x : Str} {p pos : Pos} {e : Expr} {es : List Expr} {t : TA}
theorem run_g {pins : List (Addr × Obj)} {σ : L2.St} {H : Hp} {s : Shared} {Q : VK} {us : List Value} {vs : List V}
    (F : FnG X.prog X.w X.K X.mg X.base CX k f fd ps sp) (hr : RoomG k X.A) (hb : Binds X.K fd ps ds) (hd : Vals dvs ds)
    (hx : Passes CX X E) (I : Inv X pins σ H s) (r : Vals vs us) (h : sp (vs ++ dvs) H Q E) :
    wpAny (model X.prog X.w) X.A (call (.ref f) us) (EP X pins σ Q) X.xe s := by
  have rr := r.append hd
  have ll : (us ++ ds).length = ps.length := by
    rw [← rr.length]
    exact F.len _ _ _ _ h
  apply wpAny_call
  refine codeAny_mono (F.run X.A X.stack s H ⟨us, []⟩ (us ++ ds) (vs ++ dvs) Q E hr I.env0 (hb s us I.kIn ll) rr h) ?_
  intro r s' hq
  rcases r with e | fl
  · exact hx pins σ H s e s' I hq
  · cases fl with
    | ret u => exact I.after hq
    | next => exact hq.elim
    | brk => exact hq.elim
    | cont => exact hq.elim
/-- f(e, ..) by a promise that holds where no guard stands -/
theorem pe_g (F : FnG X.prog X.w X.K X.mg X.base CX k f fd ps sp) (hr : RoomG k X.A) (hg : Gl X x) (hm : X.mg x = some (.ref f))
    (hk : PySem.W.keepIn X.K (.ref f) = true) (hb : Binds X.K fd ps ds) (hd : Vals dvs ds) (hx : Passes CX X E)
    (ha : PA X (e :: es) t) (hdb : (x == ("__debug__" : Str)) = false := by decide)
    (he : starEach (e :: es) X.env = (false, eval e X.env) :: starEach es X.env := by rfl)
    (hpl : (backTo pos (starEach es X.env)).any (·.1) = false := by rfl) :
    PE X (.Call (.Name x p) (e :: es) [] pos) (tCall sp dvs E t) := by
  constructor
  intro pins s σ H Q I h
  apply wpAny_Call_Name_kw
  refine ld_glob I hg hm ?_ hdb
  refine PySem.W.callWith_K (h₀ := X.base) I.ok.mod.kin hk (thn (ha.run pos pins s σ H _ I h) ?_) he hpl
  rintro us s1 ⟨vs, H1, I1, r, q⟩
  exact ⟨I1.kIn, run_g F hr hb hd hx I1 r q⟩
end
end DL

/-! The end of a law whose promise holds where no guard stands. -/
namespace DL
open PySem PySem.Spec PyProof.Rows L2

theorem caller_g : callerA.guards = some [] := rfl

/-- the heap in which the script alone is told -/
def onlyAt (a : Addr) (ob : Obj) (xs : List V) : Hp := fun b => if b = a then some (.frz ob (.lst xs)) else none
theorem onlyAt_only (a : Addr) (ob : Obj) (xs : List V) : Only (onlyAt a ob xs) := by
  intro b
  unfold onlyAt
  by_cases hb : b = a
  · right; exact ⟨ob, xs, if_pos hb⟩
  · left; exact if_neg hb

theorem law_g {P : Program} {w : World} {K : PySem.W.Frag} {mg mb : Str → Option Value} {CX : CXT} {k : Nat} {fa a : Addr} {fd : FuncData} {x : Str} {sp : Sp} {s1 : Shared} {vs : List Value} {ns : List Int}
    (KX : K.In s1.heap) (hns : s1.heap.Ns mainGlobals mg) (hb : s1.heap.Ns builtinsNs mb)
    (hbb : ∀ x : Str, x ≠ "__name__" → mb x = bootBuiltins x) (hlim : s1.heap.NoLimit) (hg : s1.gens = #[])
    (ha : s1.heap.get? a = some { cls := .type "list", data := .seq vs.toArray }) (hi : IntsAre vs ns) (hl : ns.length ≤ sizeLine)
    (hr : Room k callerA)
    (F : ∀ base : Heap, K.In base → base.Ns mainGlobals mg → FnG P w K mg base CX k fa fd [x] sp)
    (hbind : ∀ (s : Shared) (u : Value), BindsTo s fd ⟨[u], []⟩ [(x, u)])
    (hsp : ∀ H : Hp, Only H → SqL K H a (ns.map V.int) → sp [.ref a] H (fun v _ => v = .bl true) fun _ _ _ => False)
    (hCX : ∀ H e s', CX [] H s1 (fun _ _ _ => False) e s' → False) :
    codeAny (model P w) callerA (.call (.ref fa) ⟨[.ref a], []⟩)
      (fun r s' => r = .ok (.ret (.bool true)) ∧ OldK s1.heap s'.heap ∧ s'.os = s1.os ∧ AllBare s'.gens) s1 := by
  have rv := vals_ints hi
  have core : ∀ H : Hp, Only H → SqL K H a (ns.map V.int) → HOk P w H s1.heap → (∀ b, H b ≠ none → b = a) → (H a ≠ none → K.lookup a = none) →
      codeAny (model P w) callerA (.call (.ref fa) ⟨[.ref a], []⟩)
        (fun r s' => r = .ok (.ret (.bool true)) ∧ OldK s1.heap s'.heap ∧ s'.os = s1.os ∧ AllBare s'.gens) s1 := by
    intro H hO hS hok hA hK
    have untr : ∀ {b : Addr} {o : Obj}, b ≠ a → s1.heap.get? b = some o → (hidT s1.heap H).get? b = some o := by
      intro b o hne e
      apply hidT_get e
      cases q : H b with
      | none => rfl
      | some u => exact absurd (hA b (by rw [q]; exact Option.some_ne_none _)) hne
    have dictNe : ∀ {b : Addr} {o : Obj} {es : Array DictEntry} {ep : Nat}, s1.heap.get? b = some o → o.data = .dict es ep → b ≠ a := by
      intro b o es ep e d z
      rw [z, ha] at e
      cases e
      exact absurd (show Data.seq vs.toArray _ = Data.dict es ep from d) (by intro z; cases z)
    have nsK : ∀ {b : Addr} {m : Str → Option Value}, s1.heap.Ns b m → (hidT s1.heap H).Ns b m := by
      rintro b m ⟨o, es, ep, e, d, r⟩
      exact ⟨o, es, ep, untr (dictNe e d) e, d, r⟩
    have hKb : K.In (hidT s1.heap H) := by
      intro b o e
      apply hidT_get (KX b o e)
      cases q : H b with
      | none => rfl
      | some u =>
        have hn : H b ≠ none := by rw [q]; exact Option.some_ne_none _
        have z := hA b hn
        rw [z] at hn e
        rw [hK hn] at e
        cases e
    have lim' : (hidT s1.heap H).NoLimit := by
      obtain ⟨mc, h1, h2⟩ := hlim
      exact ⟨mc, nsK h1, h2⟩
    have hM : Mod K mg (hidT s1.heap H) := ⟨hKb, nsK hns, ⟨mb, nsK hb, hbb⟩, lim'⟩
    have noFr : ∀ b : Addr, b ∉ frs ([] : List Env) := by intro b z; cases z
    have e0 : Env0 P w K mg (hidT s1.heap H) callerA [] s1 H :=
      ⟨rfl, hM, fun b o e => of_hidT e, Nat.le_of_eq (hidT_size _ _), trivial, fun b z => absurd z (noFr b), hok, .of_eq hg⟩
    have R := (F _ hKb (nsK hns)).run callerA [] s1 H ⟨[.ref a], []⟩ [.ref a] [.ref a] (fun v _ => v = .bl true) (fun _ _ _ => False)
      ⟨hr, caller_g⟩ e0 (hbind s1 (.ref a)) (.cons rfl .nil) (hsp H hO hS)
    refine codeAny_mono R ?_
    intro r s' h
    rcases r with e | fl
    · exact (hCX H e s' h).elim
    cases fl with
    | next => exact h.elim
    | brk => exact h.elim
    | cont => exact h.elim
    | ret u =>
      obtain ⟨v, H', os, bare, un, hok', r', q⟩ := h
      cases (show v = V.bl true from q)
      cases (show u = Value.bool true from r')
      refine ⟨rfl, OldK.of_keep ?_, os, bare⟩
      intro b o e
      cases q : H b with
      | none => exact un.keep b o e q (noFr b) (fun z => by cases z)
      | some u =>
        rcases hO b with z | ⟨ob, xs, z⟩
        · rw [q] at z; cases z
        · have e1 := (hok b _ z).1
          have e2 := (hok' b _ (un.frzs b ob _ z)).1
          rw [e] at e1
          cases e1
          exact e2
  have lenV := hi.length
  cases hk : K.lookup a with
  | some o =>
    have e := KX a o hk
    rw [ha] at e
    cases e
    have sq : SqL K (fun _ => none) a (ns.map V.int) := by
      refine .inr ⟨_, vs.toArray, _, hk, rfl, rfl, rfl, ?_, by simpa using rv⟩
      rw [List.size_toArray, lenV]
      exact hl
    refine core (fun _ => none) (fun _ => .inl rfl) sq ?_ (fun b z => absurd rfl z) (fun z => absurd rfl z)
    intro b u z
    exact absurd (show (none : Option HO) = some u from z) (by intro z; cases z)
  | none =>
    refine core (onlyAt a { cls := .type "list", data := .seq vs.toArray } (ns.map V.int)) (onlyAt_only _ _ _)
      (.inl (.inr ⟨{ cls := .type "list", data := .seq vs.toArray }, if_pos rfl⟩)) ?_ ?_ (fun _ => hk)
    · intro b u z
      by_cases hb : b = a
      · have z2 := (if_pos hb).symm.trans z
        cases z2
        rw [hb]
        refine ⟨ha, ?_, vs, _, rv, ha⟩
        rw [List.length_map]
        exact hl
      · have z2 := (if_neg hb).symm.trans z
        cases z2
    · intro b z
      by_cases hb : b = a
      · exact hb
      · exact absurd (if_neg hb) z

/-- the goal that k_head leaves -/
theorem walk_g {l : PySem.W.OpenLaw} {n k : Nat} {q : Program} {loose : List Str} {XP : (Str → Option Value) → Heap → Prop} {YP : World → Heap → Prop} {d : DefRec} {K : Params → PySem.W.Frag} {CX : World → CXT} {sp : World → Sp} {x : Str}
    (hn : l.most = some n) (hn2 : n ≤ sizeLine) (hdf : d.params.defaults = []) (hr : Room k callerA)
    (hY : ∀ (w : World) (h : Heap), YP w h → (K w.params).In h)
    (F : ∀ (w : World) (mg : Str → Option Value) (fa : Addr) (h : Heap), (K w.params).In h → h.Ns mainGlobals mg → mg d.name = some (.ref fa) →
      ∃ fd : FuncData, (∀ (s : Shared) (u : Value), BindsTo s fd ⟨[u], []⟩ [(x, u)]) ∧
        ∀ base : Heap, (K w.params).In base → base.Ns mainGlobals mg → FnG l.prog w (K w.params) mg base (CX w) k fa fd [x] (sp w))
    (hsp : ∀ (w : World) (H : Hp) (a : Addr) (ns : List Int), ns.length ≤ n → Only H → SqL (K w.params) H a (ns.map V.int) →
      sp w [.ref a] H (fun v _ => v = .bl true) fun _ _ _ => False)
    (hCX : ∀ (w : World) (H : Hp) (s : Shared) (e : Value) (s' : Shared), CX w [] H s (fun _ _ _ => False) e s' → False) :
    PySem.W.WalkO q loose XP YP l.row.toRowW d [] (fun f vs => PySem.call f vs) := by
  refine Att.attach_call hn hdf ?_
  intro w s0 s1 mg mb fa o pm cd doc a vs ns G Y ho hd hcd hmg hobj hints hlen hg
  obtain ⟨fd, hb, hF⟩ := F w mg fa _ (hY w _ Y) G.T.g hmg
  refine law_g (hY w _ Y) G.T.g G.T.b G.T.builtins G.T.nolimit hg hobj hints (Nat.le_trans hlen hn2) hr hF hb ?_ ?_
  · intro H hO hS
    exact hsp w H a ns hlen hO hS
  · intro H e s'
    exact hCX w H s1 e s'
end DL

/-! Data that stands in the heap, dicts within lists too: how it is read, and its repr. -/
namespace DL
open PySem PySem.Spec PyProof.Rows L2

mutual
/-- at v stands the data d (a dict is not the table of modules) -/
inductive RD (h : Heap) : Value → PyData → Prop
  | none : RD h .none .none
  | bool (b) : RD h (.bool b) (.bool b)
  | int (i t) : RD h (.int i t) (.int i)
  | str (x t) : RD h (.str x t) (.str x)
  | list {a o vs n xs} : h.get? a = some o → o.cls = .type "list" → o.data = .seq vs n → RDs h vs.toList xs → RD h (.ref a) (.list xs)
  | tuple {a o vs n xs} : h.get? a = some o → o.cls = .type "tuple" → o.data = .seq vs n → RDs h vs.toList xs → RD h (.ref a) (.tuple xs)
  | dict {a o es n kvs} : h.get? a = some o → o.cls = .type "dict" → o.data = .dict es n → (a == sysModules) = false →
      RDs h (es.toList.map (·.key)) (kvs.map (·.1)) → RDs h (es.toList.map (·.val)) (kvs.map (·.2)) → RD h (.ref a) (.dict kvs)
inductive RDs (h : Heap) : List Value → List PyData → Prop
  | nil : RDs h [] []
  | cons {v vs d ds} : RD h v d → RDs h vs ds → RDs h (v :: vs) (d :: ds)
end

mutual
theorem RD.reads {h : Heap} : ∀ {v : Value} {d : PyData}, RD h v d → ∃ as, Reads h v d as
  | _, _, .none => ⟨_, .none⟩
  | _, _, .bool b => ⟨_, .bool b⟩
  | _, _, .int i t => ⟨_, .int i t⟩
  | _, _, .str x t => ⟨_, .str x t⟩
  | _, _, .list h1 h2 h3 h4 => let ⟨as, r⟩ := RDs.reads h4; ⟨_, .list h1 h2 h3 r⟩
  | _, _, .tuple h1 h2 h3 h4 => let ⟨as, r⟩ := RDs.reads h4; ⟨_, .tuple h1 h2 h3 r⟩
  | _, _, .dict h1 h2 h3 _ h4 h5 => let ⟨as, r⟩ := RDs.reads h4; let ⟨bs, q⟩ := RDs.reads h5; ⟨_, .dict h1 h2 h3 r q⟩
theorem RDs.reads {h : Heap} : ∀ {vs : List Value} {ds : List PyData}, RDs h vs ds → ∃ as, ReadsAll h vs ds as
  | _, _, .nil => ⟨_, .nil⟩
  | _, _, .cons h1 h2 => let ⟨as, r⟩ := RD.reads h1; let ⟨bs, q⟩ := RDs.reads h2; ⟨_, .cons r q⟩
end

section
variable {prog : Program} {w : World} {h : Heap}
theorem deeper_not {a : Addr} {d : PyData} {n : Nat} {bs : List Addr} (r : RD h (.ref a) d) (hd : n < d.depth) (hb : ReadAtMost h n bs) : a ∉ bs := by
  obtain ⟨as, r'⟩ := r.reads
  exact not_mem_of_deeper r' hd hb
theorem atMost_cons {a : Addr} {d : PyData} {n : Nat} {bs : List Addr} (r : RD h (.ref a) d) (hn : n ≤ d.depth) (hb : ReadAtMost h n bs) : ReadAtMost h d.depth (a :: bs) := by
  obtain ⟨as, r'⟩ := r.reads
  exact ReadAtMost.cons r' hn hb
mutual
theorem RD.reprK : ∀ {v : Value} {d : PyData}, RD h v d → d.showable = true → d.shown.length ≤ sizeLine →
    ∃ bs, ReadAtMost h d.depth bs ∧ ReprK prog w bs h d.depth v d.shown
  | _, _, .none, _, _ => by
    refine ⟨[], (fun _ z => nomatch z), ?_⟩
    rw [PyData.shown]
    exact .of_is ReprIs.none _ _ _
  | _, _, .bool b, _, _ => by
    refine ⟨[], (fun _ z => nomatch z), ?_⟩
    rw [PyData.shown]
    exact .of_is (ReprIs.bool b) _ _ _
  | _, _, .int i t, hs, _ => by
    refine ⟨[], (fun _ z => nomatch z), ?_⟩
    rw [PyData.shown]
    exact .of_is (ReprIs.int t (by simpa [PyData.showable] using hs)) _ _ _
  | _, _, .str x t, _, hz => by
    rw [PyData.shown] at hz
    refine ⟨[], (fun _ z => nomatch z), ?_⟩
    rw [PyData.shown]
    exact .of_is (ReprIs.str x t hz) _ _ _
  | _, _, .list (a := a) (vs := vs) (xs := xs) h1 h2 h3 h4, hs, hz => by
    rw [PyData.shown] at hz
    rw [PyData.showable] at hs
    have R : RD h (.ref a) (.list xs) := .list h1 h2 h3 h4
    obtain ⟨bs, hb, hk⟩ := RDs.reprK h4 hs (fun t ht => Nat.le_trans (listText_mem_le ht) hz)
    have lt : PyData.depthAll xs < (PyData.list xs).depth := by rw [PyData.depth]; omega
    refine ⟨a :: bs, atMost_cons R (Nat.le_of_lt lt) hb, ?_⟩
    have hna := deeper_not R lt hb
    rw [PyData.depth, PyData.shown]
    rcases vs with ⟨l⟩
    cases l with
    | nil =>
      cases (show RDs h [] xs from h4)
      rw [PyData.shownAll, listText_nil]
      exact ReprK.listEmpty h1 h2 h3
    | cons x l => exact ReprK.list h1 h2 h3 hna (by simpa using hk.length_eq) (fun i y e => hk.item i y (by simpa using e))
  | _, _, .tuple (a := a) (vs := vs) (xs := xs) h1 h2 h3 h4, hs, hz => by
    rw [PyData.shown] at hz
    rw [PyData.showable] at hs
    have R : RD h (.ref a) (.tuple xs) := .tuple h1 h2 h3 h4
    obtain ⟨bs, hb, hk⟩ := RDs.reprK h4 hs (fun t ht => Nat.le_trans (tupleText_mem_le ht) hz)
    have lt : PyData.depthAll xs < (PyData.tuple xs).depth := by rw [PyData.depth]; omega
    refine ⟨a :: bs, atMost_cons R (Nat.le_of_lt lt) hb, ?_⟩
    rw [PyData.depth, PyData.shown]
    exact ReprK.tuple h1 h2 h3 (deeper_not R lt hb) hk
  | _, _, .dict (a := a) (es := es) (kvs := kvs) h1 h2 h3 hy h4 h5, hs, hz => by
    rw [PyData.shown] at hz
    rw [PyData.showable] at hs
    have R : RD h (.ref a) (.dict kvs) := .dict h1 h2 h3 hy h4 h5
    obtain ⟨hs1, hs2⟩ := PyData.showableKv_split kvs hs
    obtain ⟨b1, hb1, k1⟩ := RDs.reprK h4 hs1 (fun t ht => by
      obtain ⟨p, hp, hl⟩ := PyData.shownKv_key_le kvs t ht
      exact Nat.le_trans hl (Nat.le_trans (dictText_mem_le hp) hz))
    obtain ⟨b2, hb2, k2⟩ := RDs.reprK h5 hs2 (fun t ht => by
      obtain ⟨p, hp, hl⟩ := PyData.shownKv_val_le kvs t ht
      exact Nat.le_trans hl (Nat.le_trans (dictText_mem_le hp) hz))
    have lt : PyData.depthKv kvs < (PyData.dict kvs).depth := by rw [PyData.depth]; omega
    have hb : ReadAtMost h (PyData.depthKv kvs) (b1 ++ b2) :=
      (hb1.mono (PyData.depthAll_keys_le kvs)).append (hb2.mono (PyData.depthAll_vals_le kvs))
    refine ⟨a :: (b1 ++ b2), atMost_cons R (Nat.le_of_lt lt) hb, ?_⟩
    rw [PyData.depth, PyData.shown, PyData.shownKv_eq]
    exact ReprK.dict h1 h2 h3 hy (deeper_not R lt hb) (ReprEntriesK.of_two es.toList _ _
      (k1.more_le (fun b z => List.mem_append_left _ z) (PyData.depthAll_keys_le kvs))
      (k2.more_le (fun b z => List.mem_append_right _ z) (PyData.depthAll_vals_le kvs)))
theorem RDs.reprK : ∀ {vs : List Value} {ds : List PyData}, RDs h vs ds → PyData.showableAll ds = true → (∀ t ∈ PyData.shownAll ds, t.length ≤ sizeLine) →
    ∃ bs, ReadAtMost h (PyData.depthAll ds) bs ∧ ReprAllK prog w bs h (PyData.depthAll ds) vs (PyData.shownAll ds)
  | _, _, .nil, _, _ => ⟨[], (fun _ z => nomatch z), by rw [PyData.shownAll]; exact .nil⟩
  | _, _, .cons (d := d) (ds := ds) r rs, hs, hz => by
    rw [PyData.showableAll, Bool.and_eq_true] at hs
    rw [PyData.shownAll] at hz
    obtain ⟨b1, hb1, k1⟩ := RD.reprK r hs.1 (hz _ (List.mem_cons_self ..))
    obtain ⟨b2, hb2, k2⟩ := RDs.reprK rs hs.2 (fun t ht => hz t (List.mem_cons_of_mem _ ht))
    refine ⟨b1 ++ b2, ?_, ?_⟩
    · rw [PyData.depthAll]
      exact (hb1.mono (Nat.le_max_left _ _)).append (hb2.mono (Nat.le_max_right _ _))
    · rw [PyData.depthAll, PyData.shownAll]
      exact .cons ((k1.more fun b z => List.mem_append_left _ z).level_le (Nat.le_max_left _ _))
        (k2.more_le (fun b z => List.mem_append_right _ z) (Nat.le_max_right _ _))
end

/-- repr of data, where no repr is under way -/
theorem call_repr_rd {A : Around} {E : Value → Shared → Prop} {s : Shared} {Q : Value → Shared → Prop} {v : Value} {d : PyData}
    (R : RD s.heap v d) (hs : d.showable = true) (hg : A.guards = some []) (hu : A.units + (d.depth + 1) < cLine) (hz : d.shown.length ≤ sizeLine)
    (hQ : ∀ h' u tk, (∀ b o, s.heap.get? b = some o → h'.get? b = some o) → Q (.str d.shown u) { s with heap := h', toks := tk }) :
    wpAny (model prog w) A (call (.builtin "repr") [v]) Q E s := by
  have same : ∀ b o, s.heap.get? b = some o → s.heap.get? b = some o := fun _ _ e => e
  have guard1 : A.in1.guards = some [] := hg
  have units1 : A.in1.units + d.depth < cLine := by
    show A.units + 1 + d.depth < cLine
    omega
  cases R with
  | none =>
    rw [PyData.shown] at hQ
    exact P.repr_of_none (hQ s.heap _ _ same)
  | bool b =>
    rw [PyData.shown] at hQ
    exact P.repr_of_bool (hQ s.heap _ _ same)
  | int i t =>
    rw [PyData.shown] at hQ
    exact P.repr_of_int (by simpa [PyData.showable] using hs) (hQ s.heap _ _ same)
  | str x t =>
    rw [PyData.shown] at hQ hz
    exact P.repr_of_str (hQ s.heap _ _ same) hz
  | list h1 h2 h3 h4 =>
    rename_i a o vs n xs
    have R : RD s.heap (.ref a) (.list xs) := .list h1 h2 h3 h4
    rw [PyData.shown] at hQ hz
    rw [PyData.showable] at hs
    rw [PyData.depth] at units1
    obtain ⟨bs, hb, hk⟩ := RDs.reprK (prog := prog) (w := w) h4 hs (fun t ht => Nat.le_trans (listText_mem_le ht) hz)
    have hna := deeper_not R (by rw [PyData.depth]; omega) hb
    refine call_repr_slot (by omega) ⟨o, h1, h2⟩ F.slot_list_repr.toG ?_
    rcases vs with ⟨l⟩
    cases l with
    | nil =>
      cases (show RDs s.heap [] xs from h4)
      rw [PyData.shownAll, listText_nil] at hQ
      exact call_list_repr_empty ⟨o, h1, h2⟩ h1 h3 ⟨_, _, rfl, hQ s.heap _ _ same⟩
    | cons x l =>
      exact call_list_reprK h1 h2 h3 hna (by simpa using hk.length_eq) (fun i y e => hk.item i y (by simpa using e)) guard1
        (fun b _ => Clear.nil b) units1 same (fun h' u tk hk => ⟨_, _, rfl, hQ h' u tk hk⟩) hz
  | tuple h1 h2 h3 h4 =>
    rename_i a o vs n xs
    have R : RD s.heap (.ref a) (.tuple xs) := .tuple h1 h2 h3 h4
    rw [PyData.shown] at hQ hz
    rw [PyData.showable] at hs
    rw [PyData.depth] at units1
    obtain ⟨bs, hb, hk⟩ := RDs.reprK (prog := prog) (w := w) h4 hs (fun t ht => Nat.le_trans (tupleText_mem_le ht) hz)
    have hna := deeper_not R (by rw [PyData.depth]; omega) hb
    refine call_repr_slot (by omega) ⟨o, h1, h2⟩ F.slot_tuple_repr ?_
    exact call_tuple_reprK h1 h2 h3 hna hk guard1 (fun b _ => Clear.nil b) units1 same (fun h' u tk hk => ⟨_, _, rfl, hQ h' u tk hk⟩) hz
  | dict h1 h2 h3 hy h4 h5 =>
    rename_i a o es n kvs
    have R : RD s.heap (.ref a) (.dict kvs) := .dict h1 h2 h3 hy h4 h5
    rw [PyData.shown] at hQ hz
    rw [PyData.showable] at hs
    rw [PyData.depth] at units1
    obtain ⟨hs1, hs2⟩ := PyData.showableKv_split kvs hs
    obtain ⟨b1, hb1, k1⟩ := RDs.reprK (prog := prog) (w := w) h4 hs1 (fun t ht => by
      obtain ⟨p, hp, hl⟩ := PyData.shownKv_key_le kvs t ht
      exact Nat.le_trans hl (Nat.le_trans (dictText_mem_le hp) hz))
    obtain ⟨b2, hb2, k2⟩ := RDs.reprK (prog := prog) (w := w) h5 hs2 (fun t ht => by
      obtain ⟨p, hp, hl⟩ := PyData.shownKv_val_le kvs t ht
      exact Nat.le_trans hl (Nat.le_trans (dictText_mem_le hp) hz))
    have hb : ReadAtMost s.heap (PyData.depthKv kvs) (b1 ++ b2) :=
      (hb1.mono (PyData.depthAll_keys_le kvs)).append (hb2.mono (PyData.depthAll_vals_le kvs))
    have hna := deeper_not R (by rw [PyData.depth]; omega) hb
    rw [PyData.shownKv_eq] at hQ hz
    refine call_repr_slot (by omega) ⟨o, h1, h2⟩ F.slot_dict_repr ?_
    exact call_dict_reprK h1 h2 h3 hy hna (ReprEntriesK.of_two es.toList _ _
        (k1.more_le (fun b z => List.mem_append_left _ z) (PyData.depthAll_keys_le kvs))
        (k2.more_le (fun b z => List.mem_append_right _ z) (PyData.depthAll_vals_le kvs)))
      guard1 (fun b _ => Clear.nil b) units1 same (fun h' u tk hk => ⟨_, _, rfl, hQ h' u tk hk⟩) hz
end
end DL

/-! Values of the layer that stand for data, over what is known to stand still (S); steps that keep it. -/
namespace DL
open PySem PySem.Spec PyProof.Rows L2
open Evl (Ex ex_l ex_t)

def keyD : Key → PyData
  | .inl i => .int i
  | .inr x => .str x
def keyT (k : List Key) : PyData := .tuple (k.map keyD)

mutual
inductive Rep (K : PySem.W.Frag) (S : Hp) : V → PyData → Prop
  | non : Rep K S .non .none
  | bl (b) : Rep K S (.bl b) (.bool b)
  | int (i) : Rep K S (.int i) (.int i)
  | str (x) : Rep K S (.str x) (.str x)
  | lst {a xs ds} : S a = some (.lst xs) → Reps K S xs ds → Rep K S (.ref a) (.list ds)
  | tup {a xs ds} : SqT K S a xs → Reps K S xs ds → Rep K S (.ref a) (.tuple ds)
  | dK {a kvs ds} : S a = some (.dK kvs) → Reps K S (kvs.map Prod.snd) ds → Rep K S (.ref a) (.dict ((kvs.map fun p => keyD p.1).zip ds))
  | dT {a kvs ds} : S a = some (.dT kvs) → Reps K S (kvs.map Prod.snd) ds → Rep K S (.ref a) (.dict ((kvs.map fun p => keyT p.1).zip ds))
inductive Reps (K : PySem.W.Frag) (S : Hp) : List V → List PyData → Prop
  | nil : Reps K S [] []
  | cons {v vs d ds} : Rep K S v d → Reps K S vs ds → Reps K S (v :: vs) (d :: ds)
end

section
variable {K : PySem.W.Frag} {S S' : Hp}
mutual
theorem Rep.mono (e : Ex S S') : ∀ {v : V} {d : PyData}, Rep K S v d → Rep K S' v d
  | _, _, .non => .non
  | _, _, .bl b => .bl b
  | _, _, .int i => .int i
  | _, _, .str x => .str x
  | _, _, .lst h r => .lst (e _ _ h) (Reps.mono e r)
  | _, _, .tup h r => .tup (ex_t e h) (Reps.mono e r)
  | _, _, .dK h r => .dK (e _ _ h) (Reps.mono e r)
  | _, _, .dT h r => .dT (e _ _ h) (Reps.mono e r)
theorem Reps.mono (e : Ex S S') : ∀ {vs : List V} {ds : List PyData}, Reps K S vs ds → Reps K S' vs ds
  | _, _, .nil => .nil
  | _, _, .cons h r => .cons (Rep.mono e h) (Reps.mono e r)
end
theorem Reps.length : ∀ {vs : List V} {ds : List PyData}, Reps K S vs ds → vs.length = ds.length
  | _, _, .nil => rfl
  | _, _, .cons _ r => by rw [List.length_cons, List.length_cons, Reps.length r]
theorem Reps.get : ∀ {vs : List V} {ds : List PyData} {i : Nat} {d : PyData}, Reps K S vs ds → ds[i]? = some d → ∃ v, vs[i]? = some v ∧ Rep K S v d
  | _, _, i, d, .nil, h => by simp at h
  | _, _, 0, d, .cons q r, h => by simp at h; subst h; exact ⟨_, rfl, q⟩
  | _, _, i + 1, d, .cons q r, h => by
    obtain ⟨v, e, z⟩ := Reps.get (i := i) (d := d) r (by simpa using h)
    exact ⟨v, by simpa using e, z⟩
theorem Reps.getV : ∀ {vs : List V} {ds : List PyData} {i : Nat} {v : V}, Reps K S vs ds → vs[i]? = some v → ∃ d, ds[i]? = some d ∧ Rep K S v d
  | _, _, i, d, .nil, h => by simp at h
  | _, _, 0, d, .cons q r, h => by simp at h; subst h; exact ⟨_, rfl, q⟩
  | _, _, i + 1, d, .cons q r, h => by
    obtain ⟨v, e, z⟩ := Reps.getV (i := i) (v := d) r (by simpa using h)
    exact ⟨v, by simpa using e, z⟩
theorem Reps.append : ∀ {vs ws : List V} {ds es : List PyData}, Reps K S vs ds → Reps K S ws es → Reps K S (vs ++ ws) (ds ++ es)
  | _, _, _, _, .nil, q => q
  | _, _, _, _, .cons h r, q => .cons h (Reps.append r q)
theorem Reps.take : ∀ {vs : List V} {ds : List PyData} (n : Nat), Reps K S vs ds → Reps K S (vs.take n) (ds.take n)
  | _, _, 0, _ => by rw [List.take_zero, List.take_zero]; exact .nil
  | _, _, n + 1, .nil => .nil
  | _, _, n + 1, .cons h r => .cons h (Reps.take n r)
theorem Reps.drop : ∀ {vs : List V} {ds : List PyData} (n : Nat), Reps K S vs ds → Reps K S (vs.drop n) (ds.drop n)
  | _, _, 0, r => r
  | _, _, n + 1, .nil => .nil
  | _, _, n + 1, .cons h r => Reps.drop n r
theorem Reps.ints : ∀ {vs : List V} {ns : List Int}, Reps K S vs (ns.map .int) → vs = ns.map V.int
  | vs, [], h => by cases h; rfl
  | vs, n :: ns, h => by
    cases h with
    | cons h r => cases h; rw [Reps.ints r]; rfl
theorem Reps.of_ints : ∀ ns : List Int, Reps K S (ns.map V.int) (ns.map .int)
  | [] => .nil
  | n :: ns => .cons (.int n) (Reps.of_ints ns)
theorem Reps.of_strs : ∀ ns : List Str, Reps K S (ns.map V.str) (ns.map .str)
  | [] => .nil
  | n :: ns => .cons (.str n) (Reps.of_strs ns)
theorem Reps.strs : ∀ {vs : List V} {ns : List Str}, Reps K S vs (ns.map .str) → vs = ns.map V.str
  | vs, [], h => by cases h; rfl
  | vs, n :: ns, h => by
    cases h with
    | cons h r => cases h; rw [Reps.strs r]; rfl
theorem Reps.of_bools : ∀ ns : List Bool, Reps K S (ns.map V.bl) (ns.map .bool)
  | [] => .nil
  | n :: ns => .cons (.bl n) (Reps.of_bools ns)
end

/-! ### in the model's heap -/
section
variable {X : Cx} {pins : List (Addr × Obj)} {σ : L2.St} {H : Hp} {s : Shared}
theorem keyV_rd {h : Heap} {k : Key} {v : Value} (q : keyIs k v = true) : RD h v (keyD k) := by
  rcases keyIs_shape q with ⟨i, t, rfl, rfl⟩ | ⟨x, t, rfl, rfl⟩
  · exact .int i t
  · exact .str x t
theorem keyR_rd {h : Heap} {k : Key} {v : Value} (q : RelV (kV k) v) : RD h v (keyD k) := by
  cases k with
  | inl i => obtain ⟨t, rfl⟩ := (show ∃ t, v = Value.int i t from q); exact .int i t
  | inr x => obtain ⟨t, rfl⟩ := (show ∃ t, v = Value.str x t from q); exact .str x t
theorem keysR_rd {h : Heap} : ∀ {ks : List Key} {vs : List Value}, Vals (ks.map kV) vs → RDs h vs (ks.map keyD)
  | [], _, .nil => .nil
  | k :: ks, _, .cons q r => .cons (keyR_rd q) (keysR_rd r)
theorem pairs_keys {P : Program} {w : World} {h : Heap} : ∀ {es : List DictEntry} {kvs : List (Key × V)} {vs : List (Key × Value)}, KV kvs vs → Pairs (mixKind P w) es vs →
    RDs h (es.map (·.key)) (kvs.map fun p => keyD p.1)
  | _, _, _, .nil, .nil => .nil
  | _, _, _, .cons q r, .cons a b c => by
    refine .cons ?_ (pairs_keys r c)
    have z := keyV_rd (h := h) (show keyIs _ _ = true from a)
    rw [← q.1] at z
    exact z
theorem pairs_vals {P : Program} {w : World} : ∀ {es : List DictEntry} {kvs : List (Key × V)} {vs : List (Key × Value)}, KV kvs vs → Pairs (mixKind P w) es vs →
    Vals (kvs.map Prod.snd) (es.map (·.val))
  | _, _, _, .nil, .nil => .nil
  | _, _, _, .cons q r, .cons a b c => .cons (by have z := q.2; rw [← b] at z; exact z) (pairs_vals r c)

theorem zip_fst {α β : Type} : ∀ {as : List α} {bs : List β}, as.length = bs.length → (as.zip bs).map (·.1) = as
  | [], [], _ => rfl
  | a :: as, b :: bs, h => by
    show a :: (as.zip bs).map (·.1) = a :: as
    rw [zip_fst (Nat.succ.inj h)]
theorem zip_snd {α β : Type} : ∀ {as : List α} {bs : List β}, as.length = bs.length → (as.zip bs).map (·.2) = bs
  | [], [], _ => rfl
  | a :: as, b :: bs, h => by
    show b :: (as.zip bs).map (·.2) = b :: bs
    rw [zip_snd (Nat.succ.inj h)]

theorem keysT_rd {P : Program} {w : World} {H : Hp} {h : Heap} (ok : HOk P w H h) : ∀ {kvs : List (List Key × V)} {xs : List (List Key × Addr × Value)},
    Paired (fun (p : List Key × V) (q : List Key × Addr × Value) => p.1 = q.1 ∧ H q.2.1 = some (.tup (p.1.map kV)) ∧ RelV p.2 q.2.2) kvs xs →
    RDs h ((xs.map (entryOfKey (tupleKind (mixKind P w)))).map (·.key)) (kvs.map fun p => keyT p.1) ∧ Vals (kvs.map Prod.snd) ((xs.map (entryOfKey (tupleKind (mixKind P w)))).map (·.val))
  | _, _, .nil => ⟨.nil, .nil⟩
  | _, _, .cons q r => by
    obtain ⟨i1, i2⟩ := keysT_rd ok r
    obtain ⟨e1, e2, e3⟩ := q
    refine ⟨.cons ?_ i1, .cons e3 i2⟩
    obtain ⟨_, its, rv, o, g1, g2, n, g3⟩ := (show ObjOk P w H h _ (.tup _) from ok _ _ e2)
    exact .tuple g1 g2 g3 (by simpa using keysR_rd rv)

mutual
theorem Rep.rd (I : Inv X pins σ H s) : ∀ {v : V} {d : PyData} {u : Value}, Rep X.K H v d → RelV v u → RD s.heap u d
  | _, _, u, .non, r => by cases (show u = Value.none from r); exact .none
  | _, _, u, .bl b, r => by cases (show u = Value.bool b from r); exact .bool b
  | _, _, u, .int i, r => by obtain ⟨t, rfl⟩ := (show ∃ t, u = Value.int i t from r); exact .int i t
  | _, _, u, .str x, r => by obtain ⟨t, rfl⟩ := (show ∃ t, u = Value.str x t from r); exact .str x t
  | _, _, u, .lst (a := a) h q, r => by
    cases (show u = Value.ref a from r)
    obtain ⟨its, rv, ⟨o, n, e1, e2, e3, e4⟩, hz⟩ := I.list (SqL.of h)
    exact .list e1 e2 e4 (by simpa using Reps.rd I q rv)
  | _, _, u, .tup (a := a) h q, r => by
    cases (show u = Value.ref a from r)
    obtain ⟨its, rv, ⟨o, e1, e2, n, e4⟩, hz⟩ := I.tuple h
    exact .tuple e1 e2 e4 (by simpa using Reps.rd I q rv)
  | _, _, u, .dK (a := a) (kvs := kvs) (ds := ds) h q, r => by
    cases (show u = Value.ref a from r)
    obtain ⟨hz, hy, vs, kv, o, es, ep, e1, e2, e3, _, e5, _⟩ := (show ObjOk X.prog X.w H s.heap a (.dK kvs) from I.hok a _ h)
    have ll : (kvs.map fun p => keyD p.1).length = ds.length := by rw [← q.length, List.length_map, List.length_map]
    refine .dict e1 e2.1 e3 hy ?_ ?_
    · rw [zip_fst ll]; exact pairs_keys kv e5
    · rw [zip_snd ll]; exact Reps.rd I q (pairs_vals kv e5)
  | _, _, u, .dT (a := a) (kvs := kvs) (ds := ds) h q, r => by
    cases (show u = Value.ref a from r)
    obtain ⟨hz, hy, xs, kv, o, es, ep, e1, e2, e3, e4, e5⟩ := (show ObjOk X.prog X.w H s.heap a (.dT kvs) from I.hok a _ h)
    have ll : (kvs.map fun p => keyT p.1).length = ds.length := by rw [← q.length, List.length_map, List.length_map]
    obtain ⟨i1, i2⟩ := keysT_rd I.hok kv
    refine .dict e1 e2.1 e3 hy ?_ ?_
    · rw [zip_fst ll, e4]; exact i1
    · rw [zip_snd ll, e4]; exact Reps.rd I q i2
theorem Reps.rd (I : Inv X pins σ H s) : ∀ {vs : List V} {ds : List PyData} {us : List Value}, Reps X.K H vs ds → Vals vs us → RDs s.heap us ds
  | _, _, _, .nil, .nil => .nil
  | _, _, _, .cons h q, .cons r t => .cons (Rep.rd I h r) (Reps.rd I q t)
end

/-- repr of data -/
def rRepr (K : PySem.W.Frag) : List V → Hp → VK → Prop := fun xs H Q => ∃ v d, xs = [v] ∧ Rep K H v d ∧ d.showable = true ∧ d.depth ≤ 60 ∧ d.shown.length ≤ sizeLine ∧ Q (.str d.shown) H
theorem call_repr {k : Nat} (hr : RoomG k X.A) : CallR X (.builtin "repr") (rRepr X.K) := by
  intro pins s σ H xs us Q I r h
  obtain ⟨v, d, rfl, R, h1, h2, h3, q⟩ := h
  cases r with
  | cons r1 r2 =>
    cases r2
    refine call_repr_rd (R.rd I r1) h1 hr.g ?_ h3 ?_
    · have := hr.r.units
      omega
    · intro h' u tk hk
      exact ⟨.str d.shown, H, I.kept hk, ⟨_, rfl⟩, q⟩
end
end DL

/-! Readings over data: what a def does, told by data alone. A reading of the layer (TE, TS ..) is simulated by one over data (DE, DS ..). -/
namespace DL
open PySem PySem.Spec PyProof.Rows L2
open Evl (Ex ex_l ex_t)

/-- what a name holds: data; or a list of its own that nobody else knows -/
inductive DV where
  | dat (d : PyData)
  | own (ds : List PyData)
  | fn (a : Addr)
abbrev DEnv := List (Option DV)

/-- the bag of draws -/
abbrev Bg := Addr × Addr
structure Bag (b : Bg) (H : Hp) : Prop where
  ex : ∃ (r m k : Int) (ns : List Int), H b.1 = some (.lst [.int r, .int m, .int k, .ref b.2]) ∧ b.2 ≠ b.1 ∧ H b.2 = some (.lst (ns.map V.int)) ∧
    (∀ n ∈ ns, 0 ≤ n) ∧ 0 ≤ r ∧ 0 ≤ m ∧ ns.length ≤ 63
theorem Bag.tr {b : Bg} {H : Hp} (g : Bag b H) : H b.1 ≠ none := by
  obtain ⟨r, m, k, ns, e, _⟩ := g.ex
  rw [e]
  exact Option.some_ne_none _
theorem Bag.tr2 {b : Bg} {H : Hp} (g : Bag b H) : H b.2 ≠ none := by
  obtain ⟨r, m, k, ns, e, ne, f, _⟩ := g.ex
  rw [f]
  exact Option.some_ne_none _
theorem Bag.kept {b : Bg} {H H' : Hp} (g : Bag b H) (k : ∀ a o, (a = b.1 ∨ a = b.2) → H a = some o → H' a = some o) : Bag b H' := by
  obtain ⟨r, m, i, ns, e, ne, f, h⟩ := g.ex
  exact ⟨r, m, i, ns, k _ _ (.inl rfl) e, ne, k _ _ (.inr rfl) f, h⟩

/-- ib: the slot of the bag, if there is one; b: where it stands. S: what is known to stand still -/
structure Okk (ib : Option Nat) (b : Bg) (S H : Hp) : Prop where
  sub : Ex S H
  off : ib ≠ none → S b.1 = none
  bag : ib ≠ none → Bag b H
structure Go (ib : Option Nat) (b : Bg) (S H S' H' : Hp) : Prop where
  st : Ex S S'
  keep : ∀ a o, (ib ≠ none → a ≠ b.1) → H a = some o → H' a = some o
  new : ∀ a, H a ≠ none → S a = none → S' a = none
  ok : Okk ib b S' H'

section
variable {ib : Option Nat} {b : Bg} {S H S1 H1 S2 H2 : Hp}
theorem Go.refl (o : Okk ib b S H) : Go ib b S H S H := ⟨Ex.refl S, fun _ _ _ e => e, fun _ _ e => e, o⟩
theorem Go.stays (g : Go ib b S H S1 H1) (o : ib ≠ none → H b.1 ≠ none) {a : Addr} (h : H a ≠ none) : H1 a ≠ none := by
  by_cases c : ib ≠ none → a ≠ b.1
  · cases e : H a with
    | none => exact absurd e h
    | some u => rw [g.keep a u c e]; exact Option.some_ne_none _
  · have ⟨c1, c2⟩ := Classical.not_imp.mp c
    rw [Classical.not_not.mp c2]
    exact (g.ok.bag c1).tr
theorem Go.trans (o : Okk ib b S H) (g : Go ib b S H S1 H1) (g2 : Go ib b S1 H1 S2 H2) : Go ib b S H S2 H2 :=
  ⟨g.st.trans g2.st, fun a u c e => g2.keep a u c (g.keep a u c e),
    fun a h e => g2.new a (g.stays (fun z => (o.bag z).tr) h) (g.new a h e), g2.ok⟩
theorem Ex.none_of {S H : Hp} (e : Ex S H) {p : Addr} (h : H p = none) : S p = none := by
  cases q : S p with
  | none => rfl
  | some u => rw [e p u q] at h; cases h
theorem Ex.both {S H : Hp} {p : Addr} {o : HO} (e : Ex S H) : Ex (upd S p o) (upd H p o) := by
  intro a u q
  by_cases c : a = p
  · rw [c, upd_same] at q ⊢; exact q
  · rw [upd_ne c] at q ⊢; exact e a u q
/-- a new object -/
theorem Go.laid (o : Okk ib b S H) {p : Addr} {u : HO} (hp : H p = none) : Go ib b S H (upd S p u) (upd H p u) := by
  have nb : ib ≠ none → b.1 ≠ p := fun z e => (o.bag z).tr (e ▸ hp)
  have kp : ∀ a x, H a = some x → upd H p u a = some x := fun a x e => by rw [upd_ne (ne_of_none e hp)]; exact e
  exact ⟨Ex.new (Ex.none_of o.sub hp), fun a x _ e => kp a x e, fun a h e => by
      have : a ≠ p := fun z => h (z ▸ hp)
      rw [upd_ne this]; exact e,
    ⟨Ex.both o.sub, fun z => by rw [upd_ne (nb z)]; exact o.off z, fun z => (o.bag z).kept fun a x _ e => kp a x e⟩⟩
/-- a new object of one's own -/
theorem Go.laidOwn (o : Okk ib b S H) {p : Addr} {u : HO} (hp : H p = none) : Go ib b S H S (upd H p u) := by
  have kp : ∀ a x, H a = some x → upd H p u a = some x := fun a x e => by rw [upd_ne (ne_of_none e hp)]; exact e
  exact ⟨Ex.refl S, fun a x _ e => kp a x e, fun _ _ e => e,
    ⟨fun a x e => kp a x (o.sub a x e), o.off, fun z => (o.bag z).kept fun a x _ e => kp a x e⟩⟩
/-- the heap is larger, S as it was -/
theorem Go.more (o : Okk ib b S H) (k : Ex H H1) : Go ib b S H S H1 :=
  ⟨Ex.refl S, fun a x _ e => k a x e, fun _ _ e => e, ⟨o.sub.trans k, o.off, fun z => (o.bag z).kept fun a x _ e => k a x e⟩⟩
end

/-- the names and what they hold; H0: the heap at the def's entry -/
structure EnvOk (K : PySem.W.Frag) (ib : Option Nat) (b : Bg) (H0 S H : Hp) (σ : L2.St) (δ : DEnv) : Prop where
  len : σ.length = δ.length
  slot : ∀ (i : Nat), ib = some i → σ[i]? = some (some (V.ref b.1))
  dat : ∀ (i : Nat) (d : PyData), δ[i]? = some (some (DV.dat d)) → ∃ v, σ[i]? = some (some v) ∧ Rep K S v d
  own : ∀ (i : Nat) (ds : List PyData), δ[i]? = some (some (DV.own ds)) → ∃ p xs, σ[i]? = some (some (V.ref p)) ∧ H p = some (.lst xs) ∧ Reps K S xs ds ∧ S p = none ∧
    H0 p = none ∧ (ib ≠ none → p ≠ b.1) ∧ ∀ (j : Nat) (es : List PyData), δ[j]? = some (some (DV.own es)) → σ[j]? = some (some (V.ref p)) → j = i
  fn : ∀ (i : Nat) (a : Addr), δ[i]? = some (some (DV.fn a)) → σ[i]? = some (some (V.ref a))

section
variable {K : PySem.W.Frag} {ib : Option Nat} {b : Bg} {H0 S H S1 H1 : Hp} {σ : L2.St} {δ : DEnv}
theorem EnvOk.go (e : EnvOk K ib b H0 S H σ δ) (g : Go ib b S H S1 H1) : EnvOk K ib b H0 S1 H1 σ δ := by
  refine ⟨e.len, e.slot, fun i d h => ?_, fun i ds h => ?_, e.fn⟩
  · obtain ⟨v, h1, h2⟩ := e.dat i d h
    exact ⟨v, h1, h2.mono g.st⟩
  · obtain ⟨p, xs, h1, h2, h3, h4, h5, h6, h7⟩ := e.own i ds h
    exact ⟨p, xs, h1, g.keep p _ h6 h2, h3.mono g.st, g.new p (by rw [h2]; exact Option.some_ne_none _) h4, h5, h6, h7⟩
theorem EnvOk.weak (e : EnvOk K ib b H0 S H σ δ) {σ' : L2.St} {δ' : DEnv} (hl : σ'.length = δ'.length)
    (hs : ∀ (i : Nat), ib = some i → σ'[i]? = some (some (V.ref b.1)))
    (h : ∀ (i : Nat) (x : DV), δ'[i]? = some (some x) → δ[i]? = some (some x) ∧ σ'[i]? = σ[i]?) : EnvOk K ib b H0 S H σ' δ' := by
  refine ⟨hl, hs, fun i d q => ?_, fun i ds q => ?_, fun i a q => (h i _ q).2.trans (e.fn i a (h i _ q).1)⟩
  · obtain ⟨q1, q2⟩ := h i _ q
    obtain ⟨v, h1, h2⟩ := e.dat i d q1
    exact ⟨v, q2.trans h1, h2⟩
  · obtain ⟨q1, q2⟩ := h i _ q
    obtain ⟨p, xs, h1, h2, h3, h4, h5, h6, h7⟩ := e.own i ds q1
    refine ⟨p, xs, q2.trans h1, h2, h3, h4, h5, h6, fun j es a1 a2 => ?_⟩
    obtain ⟨b1, b2⟩ := h j _ a1
    exact h7 j es b1 (b2.symm.trans a2)
theorem EnvOk.set (e : EnvOk K ib b H0 S H σ δ) {i : Nat} {v : V} {d : PyData} (hi : ib ≠ some i) (r : Rep K S v d) :
    EnvOk K ib b H0 S H (σ.set i (some v)) (δ.set i (some (DV.dat d))) := by
  have look : ∀ (j : Nat) (x : DV), j ≠ i → (δ.set i (some (DV.dat d)))[j]? = some (some x) → δ[j]? = some (some x) := by
    intro j x hj q
    rw [List.getElem?_set_ne (Ne.symm hj)] at q
    exact q
  have lookσ : ∀ (j : Nat), j ≠ i → (σ.set i (some v))[j]? = σ[j]? := fun j hj => List.getElem?_set_ne (Ne.symm hj)
  have hfn : ∀ (j : Nat) (a : Addr), (δ.set i (some (DV.dat d)))[j]? = some (some (DV.fn a)) → (σ.set i (some v))[j]? = some (some (V.ref a)) := by
    intro j a q
    by_cases hj : j = i
    · subst hj
      have hlt : j < δ.length := by
        have := List.getElem?_eq_some_iff.mp q
        obtain ⟨w, _⟩ := this
        rw [List.length_set] at w
        exact w
      rw [List.getElem?_set_self hlt] at q
      cases q
    · rw [lookσ j hj]; exact e.fn j a (look j _ hj q)
  refine ⟨by rw [List.length_set, List.length_set]; exact e.len, fun j hj => ?_, fun j x q => ?_, fun j ds q => ?_, hfn⟩
  · rw [lookσ j (fun z => hi (z ▸ hj))]
    exact e.slot j hj
  · by_cases hj : j = i
    · subst hj
      have hlt : j < δ.length := by
        have := List.getElem?_eq_some_iff.mp q
        obtain ⟨w, _⟩ := this
        rw [List.length_set] at w
        exact w
      rw [List.getElem?_set_self hlt] at q
      cases q
      exact ⟨v, by rw [List.getElem?_set_self (by rw [e.len]; exact hlt)], r⟩
    · obtain ⟨u, h1, h2⟩ := e.dat j x (look j _ hj q)
      exact ⟨u, (lookσ j hj).trans h1, h2⟩
  · by_cases hj : j = i
    · subst hj
      have hlt : j < δ.length := by
        obtain ⟨w, _⟩ := List.getElem?_eq_some_iff.mp q
        rw [List.length_set] at w
        exact w
      rw [List.getElem?_set_self hlt] at q
      cases q
    · obtain ⟨p, xs, h1, h2, h3, h4, h5, h6, h7⟩ := e.own j ds (look j _ hj q)
      refine ⟨p, xs, (lookσ j hj).trans h1, h2, h3, h4, h5, h6, fun m es a1 a2 => ?_⟩
      by_cases hm : m = i
      · subst hm
        have hlt : m < δ.length := by
          obtain ⟨w, _⟩ := List.getElem?_eq_some_iff.mp a1
          rw [List.length_set] at w
          exact w
        rw [List.getElem?_set_self hlt] at a1
        cases a1
      · exact h7 m es (look m _ hm a1) ((lookσ m hm).symm.trans a2)
/-- a name is given a new list of its own -/
theorem EnvOk.setOwn (e : EnvOk K ib b H0 S H σ δ) {i : Nat} {p : Addr} {xs : List V} {ds : List PyData} (hi : ib ≠ some i) (hp : H p = some (.lst xs)) (r : Reps K S xs ds)
    (hS : S p = none) (h0 : H0 p = none) (hb : ib ≠ none → p ≠ b.1) (hu : ∀ (j : Nat) (es : List PyData), j ≠ i → δ[j]? = some (some (DV.own es)) → σ[j]? ≠ some (some (V.ref p))) :
    EnvOk K ib b H0 S H (σ.set i (some (V.ref p))) (δ.set i (some (DV.own ds))) := by
  have look : ∀ (j : Nat) (x : DV), j ≠ i → (δ.set i (some (DV.own ds)))[j]? = some (some x) → δ[j]? = some (some x) := by
    intro j x hj q
    rw [List.getElem?_set_ne (Ne.symm hj)] at q
    exact q
  have lookσ : ∀ (j : Nat), j ≠ i → (σ.set i (some (V.ref p)))[j]? = σ[j]? := fun j hj => List.getElem?_set_ne (Ne.symm hj)
  have inb : ∀ {j : Nat} {x : DV}, (δ.set i (some (DV.own ds)))[j]? = some (some x) → j < δ.length := by
    intro j x q
    obtain ⟨w, _⟩ := List.getElem?_eq_some_iff.mp q
    rw [List.length_set] at w
    exact w
  have hfn : ∀ (j : Nat) (a : Addr), (δ.set i (some (DV.own ds)))[j]? = some (some (DV.fn a)) → (σ.set i (some (V.ref p)))[j]? = some (some (V.ref a)) := by
    intro j a q
    by_cases hj : j = i
    · subst hj
      rw [List.getElem?_set_self (inb q)] at q
      cases q
    · rw [lookσ j hj]; exact e.fn j a (look j _ hj q)
  refine ⟨by rw [List.length_set, List.length_set]; exact e.len, fun j hj => ?_, fun j x q => ?_, fun j es q => ?_, hfn⟩
  · rw [lookσ j (fun z => hi (z ▸ hj))]
    exact e.slot j hj
  · by_cases hj : j = i
    · subst hj
      rw [List.getElem?_set_self (inb q)] at q
      cases q
    · obtain ⟨u, h1, h2⟩ := e.dat j x (look j _ hj q)
      exact ⟨u, (lookσ j hj).trans h1, h2⟩
  · by_cases hj : j = i
    · subst hj
      have hlt := inb q
      rw [List.getElem?_set_self hlt] at q
      cases q
      refine ⟨p, xs, by rw [List.getElem?_set_self (by rw [e.len]; exact hlt)], hp, r, hS, h0, hb, fun m es a1 a2 => ?_⟩
      by_cases hm : m = j
      · exact hm
      · exact absurd ((lookσ m hm).symm.trans a2) (hu m es hm (look m _ hm a1))
    · obtain ⟨p', xs', h1, h2, h3, h4, h5, h6, h7⟩ := e.own j es (look j _ hj q)
      refine ⟨p', xs', (lookσ j hj).trans h1, h2, h3, h4, h5, h6, fun m fs a1 a2 => ?_⟩
      by_cases hm : m = i
      · subst hm
        rw [List.getElem?_set_self (by rw [e.len]; exact inb a1)] at a2
        have : p = p' := V.ref.inj (Option.some.inj (Option.some.inj a2))
        subst this
        exact absurd h1 (hu j es hj (look j _ hj q))
      · exact h7 m fs (look m _ hm a1) ((lookσ m hm).symm.trans a2)
end

/-! ### readings over data -/
abbrev DE := DEnv → (PyData → Prop) → Prop
abbrev DA := DEnv → (List PyData → Prop) → Prop
abbrev DT := DEnv → (Bool → Prop) → Prop
abbrev DO := DEnv → (Option Int → Prop) → Prop
structure DEnds where
  nx : DEnv → Prop
  rt : PyData → Prop
  bk : DEnv → Prop := fun _ => False
  ct : DEnv → Prop := fun _ => False
  ro : List PyData → Prop := fun _ => False
abbrev DS := DEnds → DEnv → Prop
abbrev DG := PyData → DEnv → (DEnv → Prop) → Prop

section
variable (K : PySem.W.Frag) (ib : Option Nat) (b : Bg)
def SimE (te : TE) (de : DE) : Prop := ∀ (H0 S H : Hp) (σ : L2.St) (δ : DEnv) (R : PyData → Prop) (Q : VK), Okk ib b S H → EnvOk K ib b H0 S H σ δ → de δ R →
  (∀ S' H' v d, Go ib b S H S' H' → Rep K S' v d → R d → Q v H') → te σ H Q
def SimA (ta : TA) (da : DA) : Prop := ∀ (H0 S H : Hp) (σ : L2.St) (δ : DEnv) (R : List PyData → Prop) (Q : List V → Hp → Prop), Okk ib b S H → EnvOk K ib b H0 S H σ δ → da δ R →
  (∀ S' H' vs ds, Go ib b S H S' H' → Reps K S' vs ds → R ds → Q vs H') → ta σ H Q
def SimT (tt : TT) (dt : DT) : Prop := ∀ (H0 S H : Hp) (σ : L2.St) (δ : DEnv) (R : Bool → Prop) (Q : Bool → Hp → Prop), Okk ib b S H → EnvOk K ib b H0 S H σ δ → dt δ R →
  (∀ S' H' c, Go ib b S H S' H' → R c → Q c H') → tt σ H Q
def SimO (to : TO) (dO : DO) : Prop := ∀ (H0 S H : Hp) (σ : L2.St) (δ : DEnv) (R : Option Int → Prop) (Q : Option Int → Hp → Prop), Okk ib b S H → EnvOk K ib b H0 S H σ δ → dO δ R →
  (∀ S' H' c, Go ib b S H S' H' → R c → Q c H') → to σ H Q
def SimG (g : TG) (dg : DG) : Prop := ∀ (H0 S H : Hp) (σ : L2.St) (δ : DEnv) (v : V) (d : PyData) (R : DEnv → Prop) (Q : L2.St → Hp → Prop), Okk ib b S H → EnvOk K ib b H0 S H σ δ →
  Rep K S v d → dg d δ R → (∀ S' H' σ' δ', Go ib b S H S' H' → EnvOk K ib b H0 S' H' σ' δ' → R δ' → Q σ' H') → g v σ H Q
/-- a statement: from a state that the def has come to (S0, H0: its entry) -/
structure EndsOk (H0 S0 Sm : Hp) (D : Ends) (DD : DEnds) : Prop where
  nx : ∀ S H σ δ, Go ib b S0 H0 S H → Ex Sm S → EnvOk K ib b H0 S H σ δ → DD.nx δ → D.nx σ H
  rt : ∀ S H v d, Go ib b S0 H0 S H → Ex Sm S → Rep K S v d → DD.rt d → D.rt v H
  bk : ∀ S H σ δ, Go ib b S0 H0 S H → Ex Sm S → EnvOk K ib b H0 S H σ δ → DD.bk δ → D.bk σ H
  ct : ∀ S H σ δ, Go ib b S0 H0 S H → Ex Sm S → EnvOk K ib b H0 S H σ δ → DD.ct δ → D.ct σ H
  ro : ∀ S H p xs es, Go ib b S0 H0 S H → Ex Sm S → H p = some (.lst xs) → Reps K S xs es → S p = none → H0 p = none → DD.ro es → D.rt (.ref p) H
/-- Sm: what was known somewhere ahead, and stands still -/
def SimS (ts : TS) (ds : DS) : Prop := ∀ (S0 H0 Sm S H : Hp) (σ : L2.St) (δ : DEnv) (D : Ends) (DD : DEnds), Okk ib b S0 H0 → Ex Sm S → Go ib b S0 H0 S H → EnvOk K ib b H0 S H σ δ → ds DD δ →
  EndsOk K ib b H0 S0 Sm D DD → ts D σ H
/-- by values -/
def SimR2 (r : R2) (dr : PyData → PyData → (PyData → Prop) → Prop) : Prop := ∀ (S H : Hp) (x y : V) (dx dy : PyData) (R : PyData → Prop) (Q : VK), Okk ib b S H → Rep K S x dx → Rep K S y dy → dr dx dy R →
  (∀ S' H' v d, Go ib b S H S' H' → Rep K S' v d → R d → Q v H') → r x y H Q
def SimU (r : V → Hp → VK → Prop) (dr : PyData → (PyData → Prop) → Prop) : Prop := ∀ (S H : Hp) (x : V) (dx : PyData) (R : PyData → Prop) (Q : VK), Okk ib b S H → Rep K S x dx → dr dx R →
  (∀ S' H' v d, Go ib b S H S' H' → Rep K S' v d → R d → Q v H') → r x H Q
def SimC (r : List V → Hp → VK → Prop) (dr : List PyData → (PyData → Prop) → Prop) : Prop := ∀ (S H : Hp) (xs : List V) (ds : List PyData) (R : PyData → Prop) (Q : VK), Okk ib b S H → Reps K S xs ds → dr ds R →
  (∀ S' H' v d, Go ib b S H S' H' → Rep K S' v d → R d → Q v H') → r xs H Q
/-- what is walked: the items, in order; each turn may lay something new -/
def WalkD (S : Hp) (J : It) (ds : List PyData) : Prop := ∀ (S1 H : Hp), Ex S S1 → Okk ib b S1 H → (∀ i, i < ds.length → J.go i H) ∧ J.stop ds.length H ∧
  ∀ i x H', i < ds.length → J.yld i H x H' → ∃ S2 d, Go ib b S1 H S2 H' ∧ ds[i]? = some d ∧ Rep K S2 x d
def SimI (ti : TI) (di : DA) : Prop := ∀ (H0 S H : Hp) (σ : L2.St) (δ : DEnv) (R : List PyData → Prop) (Q : It → Hp → Prop), Okk ib b S H → EnvOk K ib b H0 S H σ δ → di δ R →
  (∀ S' H' J ds, Go ib b S H S' H' → WalkD K ib b S' J ds → R ds → Q J H') → ti σ H Q
end

/-! ### expressions -/
section
variable {K : PySem.W.Frag} {ib : Option Nat} {b : Bg}
def dVar (i : Nat) : DE := fun δ R => match δ[i]? with
  | some (some (DV.dat d)) => R d
  | _ => False
theorem sim_var {i : Nat} : SimE K ib b (tVar i) (dVar i) := by
  intro H0 S H σ δ R Q o e h k
  unfold dVar at h
  split at h
  · rename_i d q
    obtain ⟨v, h1, h2⟩ := e.dat i d q
    exact ⟨v, h1, k S H v d (Go.refl o) h2 h⟩
  · exact h.elim
def dC (d : PyData) : DE := fun _ R => R d
theorem sim_int {i : Int} : SimE K ib b (tC (.int i)) (dC (.int i)) := fun H0 S H σ δ R Q o e h k => k S H _ _ (Go.refl o) (.int i) h
theorem sim_str {i : Str} : SimE K ib b (tC (.str i)) (dC (.str i)) := fun H0 S H σ δ R Q o e h k => k S H _ _ (Go.refl o) (.str i) h
theorem sim_bl {i : Bool} : SimE K ib b (tC (.bl i)) (dC (.bool i)) := fun H0 S H σ δ R Q o e h k => k S H _ _ (Go.refl o) (.bl i) h
theorem sim_non : SimE K ib b (tC .non) (dC .none) := fun H0 S H σ δ R Q o e h k => k S H _ _ (Go.refl o) .non h
/-- a constant of the module -/
theorem sim_glob {a : Addr} {d : PyData} (h : Rep K (fun _ => none) (.ref a) d) : SimE K ib b (tC (.ref a)) (dC d) :=
  fun H0 S H σ δ R Q o e q k => k S H _ _ (Go.refl o) (h.mono fun _ _ z => by cases z) q

def dNil : DA := fun _ R => R []
def dCons (de : DE) (da : DA) : DA := fun δ R => de δ fun d => da δ fun ds => R (d :: ds)
theorem sim_nil : SimA K ib b tNil dNil := fun H0 S H σ δ R Q o e h k => k S H [] [] (Go.refl o) .nil h
variable {ta tb tc te : TE} {da db dc de : DE} {t : TA} {d : DA} {tt tu : TT} {dt du : DT}
theorem sim_cons (h1 : SimE K ib b te de) (h2 : SimA K ib b t d) : SimA K ib b (tCons te t) (dCons de d) := by
  intro H0 S H σ δ R Q o e h k
  refine h1 H0 S H σ δ _ _ o e h fun S1 H1 v dv g r q => ?_
  refine h2 H0 S1 H1 σ δ _ _ g.ok (e.go g) q fun S2 H2 vs ds g2 r2 q2 => ?_
  exact k S2 H2 (v :: vs) (dv :: ds) (g.trans o g2) (.cons (r.mono g2.st) r2) q2
def small (n : Nat) : Bool := decide (n ≤ 100000)
theorem small_ok {n : Nat} (h : small n = true) : n ≤ sizeLine := Evl.sz_of (of_decide_eq_true h)
theorem small_lt {n : Nat} (h : small (n + 1) = true) : n < sizeLine := Evl.sz_lt (by have := of_decide_eq_true h; omega)
def dTup (da : DA) : DE := fun δ R => da δ fun ds => small ds.length = true ∧ R (.tuple ds)
def dLst (da : DA) : DE := fun δ R => da δ fun ds => small ds.length = true ∧ R (.list ds)
theorem sim_tup (h : SimA K ib b t d) : SimE K ib b (tTup t) (dTup d) := by
  intro H0 S H σ δ R Q o e q k
  refine h H0 S H σ δ _ _ o e q fun S1 H1 vs ds g r q => ⟨by rw [r.length]; exact small_ok q.1, fun p hp => ?_⟩
  have g2 := Go.laid (u := .tup vs) g.ok hp
  exact k _ _ _ _ (g.trans o g2) (.tup (Evl.st_of upd_same) (r.mono g2.st)) q.2
theorem sim_lst (h : SimA K ib b t d) : SimE K ib b (tLst t) (dLst d) := by
  intro H0 S H σ δ R Q o e q k
  refine h H0 S H σ δ _ _ o e q fun S1 H1 vs ds g r q => ⟨by rw [r.length]; exact small_ok q.1, fun p hp => ?_⟩
  have g2 := Go.laid (u := .lst vs) g.ok hp
  exact k _ _ _ _ (g.trans o g2) (.lst upd_same (r.mono g2.st)) q.2
def dOp (dr : PyData → PyData → (PyData → Prop) → Prop) (da db : DE) : DE := fun δ R => da δ fun x => db δ fun y => dr x y R
theorem sim_op {r : R2} {dr : PyData → PyData → (PyData → Prop) → Prop} (hr : SimR2 K ib b r dr) (h1 : SimE K ib b ta da) (h2 : SimE K ib b tb db) : SimE K ib b (tOp r ta tb) (dOp dr da db) := by
  intro H0 S H σ δ R Q o e h k
  refine h1 H0 S H σ δ _ _ o e h fun S1 H1 v dv g r q => ?_
  refine h2 H0 S1 H1 σ δ _ _ g.ok (e.go g) q fun S2 H2 w dw g2 r2 q2 => ?_
  exact hr S2 H2 v w dv dw R Q g2.ok (r.mono g2.st) r2 q2 fun S3 H3 u du g3 r3 q3 => k S3 H3 u du ((g.trans o g2).trans o g3) r3 q3
def dUn (dr : PyData → (PyData → Prop) → Prop) (da : DE) : DE := fun δ R => da δ fun x => dr x R
theorem sim_un {r : V → Hp → VK → Prop} {dr : PyData → (PyData → Prop) → Prop} (hr : SimU K ib b r dr) (h1 : SimE K ib b ta da) : SimE K ib b (tUn r ta) (dUn dr da) := by
  intro H0 S H σ δ R Q o e h k
  refine h1 H0 S H σ δ _ _ o e h fun S1 H1 v dv g r q => ?_
  exact hr S1 H1 v dv R Q g.ok r q fun S3 H3 u du g3 r3 q3 => k S3 H3 u du (g.trans o g3) r3 q3
def dCB (dr : List PyData → (PyData → Prop) → Prop) (d : DA) : DE := fun δ R => d δ fun ds => dr ds R
theorem sim_cb {r : List V → Hp → VK → Prop} {dr : List PyData → (PyData → Prop) → Prop} (hr : SimC K ib b r dr) (h1 : SimA K ib b t d) : SimE K ib b (tCB r t) (dCB dr d) := by
  intro H0 S H σ δ R Q o e h k
  refine h1 H0 S H σ δ _ _ o e h fun S1 H1 v dv g r q => ?_
  exact hr S1 H1 v dv R Q g.ok r q fun S3 H3 u du g3 r3 q3 => k S3 H3 u du (g.trans o g3) r3 q3
def dIf (dt : DT) (da db : DE) : DE := fun δ R => dt δ fun c => if c = true then da δ R else db δ R
theorem sim_ifx (h0 : SimT K ib b tt dt) (h1 : SimE K ib b ta da) (h2 : SimE K ib b tb db) : SimE K ib b (tIf tt ta tb) (dIf dt da db) := by
  intro H0 S H σ δ R Q o e h k
  refine h0 H0 S H σ δ _ _ o e h fun S1 H1 c g q => ?_
  cases c with
  | true => exact h1 H0 S1 H1 σ δ R Q g.ok (e.go g) q fun S3 H3 u du g3 r3 q3 => k S3 H3 u du (g.trans o g3) r3 q3
  | false => exact h2 H0 S1 H1 σ δ R Q g.ok (e.go g) q fun S3 H3 u du g3 r3 q3 => k S3 H3 u du (g.trans o g3) r3 q3
def isB (d : PyData) (R : Bool → Prop) : Prop := match d with
  | .bool c => R c
  | _ => False
theorem isB_of {S : Hp} {v : V} {d : PyData} {R : Bool → Prop} (r : Rep K S v d) (h : isB d R) : ∃ c, v = .bl c ∧ R c := by
  cases r with
  | bl c => exact ⟨c, rfl, h⟩
  | _ => exact h.elim
def dTest (de : DE) : DT := fun δ R => de δ fun d => isB d R
theorem sim_test (h1 : SimE K ib b te de) : SimT K ib b (tTest te) (dTest de) := by
  intro H0 S H σ δ R Q o e h k
  refine h1 H0 S H σ δ _ _ o e h fun S1 H1 v dv g r q => ?_
  obtain ⟨c, rfl, q⟩ := isB_of r q
  exact ⟨c, rfl, k S1 H1 c g q⟩
theorem sim_tB (h1 : SimE K ib b te de) : SimT K ib b (tB te) (dTest de) := by
  intro H0 S H σ δ R Q o e h k
  refine h1 H0 S H σ δ _ _ o e h fun S1 H1 v dv g r q => ?_
  obtain ⟨c, rfl, q⟩ := isB_of r q
  exact ⟨c, rfl, k S1 H1 c g q⟩
def dAnd (t u : DT) : DT := fun δ R => t δ fun c => if c = true then u δ R else R false
def dOr (t u : DT) : DT := fun δ R => t δ fun c => if c = true then R true else u δ R
def dNot (t : DT) : DT := fun δ R => t δ fun c => R (!c)
theorem sim_and (h1 : SimT K ib b tt dt) (h2 : SimT K ib b tu du) : SimT K ib b (tAnd tt tu) (dAnd dt du) := by
  intro H0 S H σ δ R Q o e h k
  refine h1 H0 S H σ δ _ _ o e h fun S1 H1 c g q => ?_
  cases c with
  | true => exact h2 H0 S1 H1 σ δ R Q g.ok (e.go g) q fun S3 H3 u g3 q3 => k S3 H3 u (g.trans o g3) q3
  | false => exact k S1 H1 false g q
theorem sim_or (h1 : SimT K ib b tt dt) (h2 : SimT K ib b tu du) : SimT K ib b (tOr tt tu) (dOr dt du) := by
  intro H0 S H σ δ R Q o e h k
  refine h1 H0 S H σ δ _ _ o e h fun S1 H1 c g q => ?_
  cases c with
  | false => exact h2 H0 S1 H1 σ δ R Q g.ok (e.go g) q fun S3 H3 u g3 q3 => k S3 H3 u (g.trans o g3) q3
  | true => exact k S1 H1 true g q
theorem sim_not (h1 : SimT K ib b tt dt) : SimT K ib b (tNot tt) (dNot dt) := by
  intro H0 S H σ δ R Q o e h k
  exact h1 H0 S H σ δ _ _ o e h fun S1 H1 c g q => k S1 H1 (!c) g q
def dAndV (da db : DE) : DE := fun δ R => da δ fun d => isB d fun c => if c = true then db δ R else R (.bool false)
def dOrV (da db : DE) : DE := fun δ R => da δ fun d => isB d fun c => if c = true then R (.bool true) else db δ R
def dNotV (da : DE) : DE := fun δ R => da δ fun d => isB d fun c => R (.bool (!c))
theorem sim_andV (h1 : SimE K ib b ta da) (h2 : SimE K ib b tb db) : SimE K ib b (tAndV ta tb) (dAndV da db) := by
  intro H0 S H σ δ R Q o e h k
  refine h1 H0 S H σ δ _ _ o e h fun S1 H1 v dv g r q => ?_
  obtain ⟨c, rfl, q⟩ := isB_of r q
  refine ⟨c, rfl, ?_⟩
  cases c with
  | true => exact h2 H0 S1 H1 σ δ R Q g.ok (e.go g) q fun S3 H3 u du g3 r3 q3 => k S3 H3 u du (g.trans o g3) r3 q3
  | false => exact k S1 H1 _ _ g (.bl false) q
theorem sim_orV (h1 : SimE K ib b ta da) (h2 : SimE K ib b tb db) : SimE K ib b (tOrV ta tb) (dOrV da db) := by
  intro H0 S H σ δ R Q o e h k
  refine h1 H0 S H σ δ _ _ o e h fun S1 H1 v dv g r q => ?_
  obtain ⟨c, rfl, q⟩ := isB_of r q
  refine ⟨c, rfl, ?_⟩
  cases c with
  | false => exact h2 H0 S1 H1 σ δ R Q g.ok (e.go g) q fun S3 H3 u du g3 r3 q3 => k S3 H3 u du (g.trans o g3) r3 q3
  | true => exact k S1 H1 _ _ g (.bl true) q
theorem sim_notV (h1 : SimE K ib b ta da) : SimE K ib b (tNotV ta) (dNotV da) := by
  intro H0 S H σ δ R Q o e h k
  refine h1 H0 S H σ δ _ _ o e h fun S1 H1 v dv g r q => ?_
  obtain ⟨c, rfl, q⟩ := isB_of r q
  exact ⟨c, rfl, k S1 H1 _ _ g (.bl _) q⟩
def dChain (dr dr' : PyData → PyData → (PyData → Prop) → Prop) (da db dc : DE) : DE := fun δ R => da δ fun x => db δ fun y => dr x y fun z => isB z fun k =>
  if k = true then dc δ fun w => dr' y w R else R (.bool false)
theorem sim_chain {r r' : R2} {dr dr' : PyData → PyData → (PyData → Prop) → Prop} (hr : SimR2 K ib b r dr) (hr' : SimR2 K ib b r' dr') (h1 : SimE K ib b ta da) (h2 : SimE K ib b tb db) (h3 : SimE K ib b tc dc) :
    SimE K ib b (tChain r r' ta tb tc) (dChain dr dr' da db dc) := by
  intro H0 S H σ δ R Q o e h k
  refine h1 H0 S H σ δ _ _ o e h fun S1 H1 v dv g r q => ?_
  refine h2 H0 S1 H1 σ δ _ _ g.ok (e.go g) q fun S2 H2 w dw g2 r2 q2 => ?_
  have g12 := g.trans o g2
  refine hr S2 H2 v w dv dw _ _ g2.ok (r.mono g2.st) r2 q2 fun S3 H3 u du g3 r3 q3 => ?_
  obtain ⟨c, rfl, q3⟩ := isB_of r3 q3
  have g13 := g12.trans o g3
  refine ⟨c, rfl, ?_⟩
  cases c with
  | false => exact k S3 H3 _ _ g13 (.bl false) q3
  | true =>
    refine h3 H0 S3 H3 σ δ _ _ g3.ok (e.go g13) q3 fun S4 H4 x dx g4 r4 q4 => ?_
    exact hr' S4 H4 w x dw dx R Q g4.ok (r2.mono (g3.st.trans g4.st)) r4 q4 fun S5 H5 u du g5 r5 q5 => k S5 H5 u du ((g13.trans o g4).trans o g5) r5 q5
/-- slices -/
def dNoPart : DO := fun _ R => R none
def isI (d : PyData) (R : Int → Prop) : Prop := match d with
  | .int i => R i
  | _ => False
theorem isI_of {S : Hp} {v : V} {d : PyData} {R : Int → Prop} (r : Rep K S v d) (h : isI d R) : ∃ c, v = .int c ∧ d = .int c ∧ R c := by
  cases r with
  | int c => exact ⟨c, rfl, rfl, h⟩
  | _ => exact h.elim
def dPart (de : DE) : DO := fun δ R => de δ fun d => isI d fun i => R (some i)
theorem sim_noPart : SimO K ib b tNoPart dNoPart := fun H0 S H σ δ R Q o e h k => k S H none (Go.refl o) h
theorem sim_part (h1 : SimE K ib b te de) : SimO K ib b (tPart te) (dPart de) := by
  intro H0 S H σ δ R Q o e h k
  refine h1 H0 S H σ δ _ _ o e h fun S1 H1 v dv g r q => ?_
  obtain ⟨c, rfl, _, q⟩ := isI_of r q
  exact ⟨c, rfl, k S1 H1 _ g q⟩
def dSl (dr : PyData → Option Int → Option Int → (PyData → Prop) → Prop) (de : DE) (dl dh : DO) : DE := fun δ R => de δ fun x => dl δ fun l => dh δ fun u => dr x l u R
def SimSl (K : PySem.W.Frag) (ib : Option Nat) (b : Bg) (r : V → Option Int → Option Int → Hp → VK → Prop) (dr : PyData → Option Int → Option Int → (PyData → Prop) → Prop) : Prop :=
  ∀ (S H : Hp) (x : V) (dx : PyData) (l u : Option Int) (R : PyData → Prop) (Q : VK), Okk ib b S H → Rep K S x dx → dr dx l u R →
    (∀ S' H' v d, Go ib b S H S' H' → Rep K S' v d → R d → Q v H') → r x l u H Q
theorem sim_sl {r : V → Option Int → Option Int → Hp → VK → Prop} {dr : PyData → Option Int → Option Int → (PyData → Prop) → Prop} {tl th : TO} {dl dh : DO}
    (hr : SimSl K ib b r dr) (h1 : SimE K ib b te de) (h2 : SimO K ib b tl dl) (h3 : SimO K ib b th dh) : SimE K ib b (tSl r te tl th) (dSl dr de dl dh) := by
  intro H0 S H σ δ R Q o e h k
  refine h1 H0 S H σ δ _ _ o e h fun S1 H1 v dv g r q => ?_
  refine h2 H0 S1 H1 σ δ _ _ g.ok (e.go g) q fun S2 H2 l g2 q2 => ?_
  have g12 := g.trans o g2
  refine h3 H0 S2 H2 σ δ _ _ g2.ok (e.go g12) q2 fun S3 H3 u g3 q3 => ?_
  have g13 := g12.trans o g3
  exact hr S3 H3 v dv l u R Q g3.ok (r.mono (g2.st.trans g3.st)) q3 fun S4 H4 x dx g4 r4 q4 => k S4 H4 x dx (g13.trans o g4) r4 q4
end
end DL

/-! Statements, loops and comprehensions over data; promises of defs over data. -/
namespace DL
open PySem PySem.Spec PyProof.Rows L2
open Evl (Ex ex_l ex_t)
section
variable {K : PySem.W.Frag} {ib : Option Nat} {b : Bg}
variable {te : TE} {de : DE} {ts tu : TS} {ds du : DS} {tt : TT} {dt : DT} {g : TG} {dg : DG} {ti : TI} {di : DA} {t : TA} {d : DA}

theorem EndsOk.with {H0 S0 Sm : Hp} {D : Ends} {DD : DEnds} (e : EndsOk K ib b H0 S0 Sm D DD) {n : L2.St → Hp → Prop} {m : DEnv → Prop}
    (h : ∀ S H σ δ, Go ib b S0 H0 S H → Ex Sm S → EnvOk K ib b H0 S H σ δ → m δ → n σ H) : EndsOk K ib b H0 S0 Sm { D with nx := n } { DD with nx := m } :=
  ⟨h, e.rt, e.bk, e.ct, e.ro⟩
def dNext : DS := fun DD δ => DD.nx δ
def dSeq (s1 s2 : DS) : DS := fun DD δ => s1 { DD with nx := s2 DD } δ
theorem sim_next : SimS K ib b tNext dNext := fun S0 H0 Sm S H σ δ D DD o em g e h x => x.nx S H σ δ g em e h
theorem sim_seq (h1 : SimS K ib b ts ds) (h2 : SimS K ib b tu du) : SimS K ib b (tSeq ts tu) (dSeq ds du) := by
  intro S0 H0 Sm S H σ δ D DD o em g e h x
  exact h1 S0 H0 Sm S H σ δ _ _ o em g e h (x.with fun S' H' σ' δ' g' em' e' q => h2 S0 H0 Sm S' H' σ' δ' D DD o em' g' e' q x)
/-- a cut: what is known in the middle -/
def dCut (M : DEnv → Prop) (s1 s2 : DS) : DS := fun DD δ => s1 { DD with nx := M } δ ∧ ∀ δ', M δ' → s2 DD δ'
theorem sim_cut (M : DEnv → Prop) (h1 : SimS K ib b ts ds) (h2 : SimS K ib b tu du) : SimS K ib b (tSeq ts tu) (dCut M ds du) := by
  intro S0 H0 Sm S H σ δ D DD o em g e h x
  exact h1 S0 H0 Sm S H σ δ _ _ o em g e h.1 (x.with fun S' H' σ' δ' g' em' e' q => h2 S0 H0 Sm S' H' σ' δ' D DD o em' g' e' (h.2 δ' q) x)
def dBreak : DS := fun DD δ => DD.bk δ
def dCont : DS := fun DD δ => DD.ct δ
theorem sim_break : SimS K ib b tBreak dBreak := fun S0 H0 Sm S H σ δ D DD o em g e h x => x.bk S H σ δ g em e h
theorem sim_cont : SimS K ib b tCont dCont := fun S0 H0 Sm S H σ δ D DD o em g e h x => x.ct S H σ δ g em e h
def dRet (de : DE) : DS := fun DD δ => de δ DD.rt
theorem sim_ret (h1 : SimE K ib b te de) : SimS K ib b (tRet te) (dRet de) := by
  intro S0 H0 Sm S H σ δ D DD o em g e h x
  exact h1 H0 S H σ δ _ _ g.ok e h fun S1 H1 v dv g1 r q => x.rt S1 H1 v dv (g.trans o g1) (em.trans g1.st) r q
def dRetN : DS := fun DD δ => DD.rt .none
theorem sim_retN : SimS K ib b tRetN dRetN := fun S0 H0 Sm S H σ δ D DD o em g e h x => x.rt S H .non .none g em .non h
def dDrop (de : DE) : DS := fun DD δ => de δ fun _ => DD.nx δ
theorem sim_drop (h1 : SimE K ib b te de) : SimS K ib b (tDrop te) (dDrop de) := by
  intro S0 H0 Sm S H σ δ D DD o em g e h x
  exact h1 H0 S H σ δ _ _ g.ok e h fun S1 H1 v dv g1 r q => x.nx S1 H1 σ δ (g.trans o g1) (em.trans g1.st) (e.go g1) q
def dIfS (dt : DT) (s1 s2 : DS) : DS := fun DD δ => dt δ fun c => if c = true then s1 DD δ else s2 DD δ
theorem sim_if (h0 : SimT K ib b tt dt) (h1 : SimS K ib b ts ds) (h2 : SimS K ib b tu du) : SimS K ib b (tIfS tt ts tu) (dIfS dt ds du) := by
  intro S0 H0 Sm S H σ δ D DD o em g e h x
  refine h0 H0 S H σ δ _ _ g.ok e h fun S1 H1 c g1 q => ?_
  cases c with
  | true => exact h1 S0 H0 Sm S1 H1 σ δ D DD o (em.trans g1.st) (g.trans o g1) (e.go g1) q x
  | false => exact h2 S0 H0 Sm S1 H1 σ δ D DD o (em.trans g1.st) (g.trans o g1) (e.go g1) q x

/-! targets -/
def dgName (i : Nat) : DG := fun d δ R => R (δ.set i (some (.dat d)))
theorem simg_name {i : Nat} (hi : ib ≠ some i) : SimG K ib b (gName i) (dgName i) := fun H0 S H σ δ v d R Q o e r h k => k S H _ _ (Go.refl o) (e.set hi r) h
abbrev DGs := List PyData → DEnv → (DEnv → Prop) → Prop
def SimGs (K : PySem.W.Frag) (ib : Option Nat) (b : Bg) (g : TGs) (dg : DGs) : Prop := ∀ (H0 S H : Hp) (σ : L2.St) (δ : DEnv) (vs : List V) (dvs : List PyData) (R : DEnv → Prop) (Q : L2.St → Hp → Prop), Okk ib b S H → EnvOk K ib b H0 S H σ δ →
  Reps K S vs dvs → dg dvs δ R → (∀ S' H' σ' δ', Go ib b S H S' H' → EnvOk K ib b H0 S' H' σ' δ' → R δ' → Q σ' H') → g vs σ H Q
def dgNil : DGs := fun vs δ R => match vs with
  | [] => R δ
  | _ => False
def dgCons (g : DG) (u : DGs) : DGs := fun vs δ R => match vs with
  | d :: r => g d δ fun δ' => u r δ' R
  | _ => False
theorem simg_nil : SimGs K ib b gNil dgNil := by
  intro H0 S H σ δ vs dvs R Q o e r h k
  cases r with
  | nil => exact ⟨rfl, k S H σ δ (Go.refl o) e h⟩
  | cons _ _ => exact h.elim
theorem simg_cons {u : TGs} {dgs : DGs} (h1 : SimG K ib b g dg) (h2 : SimGs K ib b u dgs) : SimGs K ib b (gCons g u) (dgCons dg dgs) := by
  intro H0 S H σ δ vs dvs R Q o e r h k
  cases r with
  | nil => exact h.elim
  | cons r rs =>
    refine ⟨_, _, rfl, ?_⟩
    exact h1 H0 S H σ δ _ _ _ _ o e r h fun S1 H1 σ' δ' g1 e' q => h2 H0 S1 H1 σ' δ' _ _ R Q g1.ok e' (rs.mono g1.st) q fun S2 H2 σ2 δ2 g2 e2 q2 => k S2 H2 σ2 δ2 (g1.trans o g2) e2 q2
def dgTup (n : Nat) (u : DGs) : DG := fun d δ R => match d with
  | .tuple ds => ds.length = n ∧ u ds δ R
  | _ => False
theorem simg_tup {n : Nat} {u : TGs} {dgs : DGs} (h2 : SimGs K ib b u dgs) : SimG K ib b (gTup K n u) (dgTup n dgs) := by
  intro H0 S H σ δ v d R Q o e r h k
  cases r with
  | tup hq rs =>
    have ex : Ex S H := o.sub
    exact ⟨_, _, rfl, ex_t ex hq, by rw [rs.length]; exact h.1, h2 H0 S H σ δ _ _ R Q o e rs h.2 k⟩
  | _ => exact h.elim
def dAsg (de : DE) (dg : DG) : DS := fun DD δ => de δ fun d => dg d δ DD.nx
theorem sim_asg (h1 : SimE K ib b te de) (h2 : SimG K ib b g dg) : SimS K ib b (tAsg te g) (dAsg de dg) := by
  intro S0 H0 Sm S H σ δ D DD o em g0 e h x
  refine h1 H0 S H σ δ _ _ g0.ok e h fun S1 H1 v dv g1 r q => ?_
  refine h2 H0 S1 H1 σ δ v dv _ _ g1.ok (e.go g1) r q fun S2 H2 σ' δ' g2 e' q' => ?_
  have g12 := g1.trans g0.ok g2
  exact x.nx S2 H2 σ' δ' (g0.trans o g12) (em.trans g12.st) e' q'
def dPar (i j : Nat) (da : DA) : DS := fun DD δ => da δ fun vs => match vs with
  | [x, y] => DD.nx ((δ.set i (some (.dat x))).set j (some (.dat y)))
  | _ => False
theorem sim_par {i j : Nat} (hi : ib ≠ some i) (hj : ib ≠ some j) (h1 : SimA K ib b t d) : SimS K ib b (tPar i j t) (dPar i j d) := by
  intro S0 H0 Sm S H σ δ D DD o em g0 e h x
  refine h1 H0 S H σ δ _ _ g0.ok e h fun S1 H1 vs ds g1 r q => ?_
  match vs, ds, r with
  | [v, w], [dv, dw], .cons r1 (.cons r2 .nil) =>
    exact ⟨v, w, rfl, x.nx S1 H1 _ _ (g0.trans o g1) (em.trans g1.st) (((e.go g1).set hi r1).set hj r2) q⟩
  | [], [], _ => exact q.elim
  | [_], [_], _ => exact q.elim
  | _ :: _ :: _ :: _, _ :: _ :: _ :: _, _ => exact q.elim
def dAug (i : Nat) (de : DE) (dr : PyData → PyData → (PyData → Prop) → Prop) : DS := fun DD δ => match δ[i]? with
  | some (some (.dat x)) => de δ fun y => dr x y fun z => DD.nx (δ.set i (some (.dat z)))
  | _ => False
theorem sim_aug {i : Nat} {tip : TIp} {dr : PyData → PyData → (PyData → Prop) → Prop} (hi : ib ≠ some i) (h1 : SimE K ib b te de) (hr : SimR2 K ib b tip dr) : SimS K ib b (tAug i te tip) (dAug i de dr) := by
  intro S0 H0 Sm S H σ δ D DD o em g0 e h x
  unfold dAug at h
  split at h
  · rename_i dx q0
    obtain ⟨v, e1, r0⟩ := e.dat i dx q0
    refine ⟨v, e1, ?_⟩
    refine h1 H0 S H σ δ _ _ g0.ok e h fun S1 H1 w dw g1 r q => ?_
    refine hr S1 H1 v w dx dw _ _ g1.ok (r0.mono g1.st) r q fun S2 H2 z dz g2 r2 q2 => ?_
    have g12 := g1.trans g0.ok g2
    exact x.nx S2 H2 _ _ (g0.trans o g12) (em.trans g12.st) ((e.go g12).set hi r2) q2
  · exact h.elim

/-! a list of one's own -/
def dAsgOwn (d : DA) (i : Nat) : DS := fun DD δ => d δ fun ds => small ds.length = true ∧ DD.nx (δ.set i (some (.own ds)))
theorem sim_asgOwn {i : Nat} (hi : ib ≠ some i) (h1 : SimA K ib b t d) : SimS K ib b (tAsg (tLst t) (gName i)) (dAsgOwn d i) := by
  intro S0 H0 Sm S H σ δ D DD o em g0 e h x
  refine h1 H0 S H σ δ _ _ g0.ok e h fun S1 H1 vs dvs g1 r q => ⟨by rw [r.length]; exact small_ok q.1, fun p hp => ?_⟩
  have g2 := Go.laidOwn (u := .lst vs) g1.ok hp
  have g12 := g1.trans g0.ok g2
  have g02 := g0.trans o g12
  have h0 : H0 p = none := by
    cases z : H0 p with
    | none => rfl
    | some u =>
      have := (g0.trans o g1).stays (fun z => (o.bag z).tr) (a := p) (by rw [z]; exact Option.some_ne_none _)
      exact absurd hp this
  refine x.nx S1 _ _ _ g02 (em.trans g1.st) ((e.go g12).setOwn hi upd_same r (Ex.none_of g1.ok.sub hp) h0 (fun z w => ?_) (fun j es hj a1 a2 => ?_)) q.2
  · exact (g1.ok.bag z).tr (w ▸ hp)
  · obtain ⟨p', xs, b1, b2, _⟩ := (e.go g1).own j es a1
    rw [b1] at a2
    have : p' = p := V.ref.inj (Option.some.inj (Option.some.inj a2))
    rw [this, hp] at b2
    cases b2
/-- x.append(e) of such a list -/
def dAppend (i : Nat) (de : DE) : DS := fun DD δ => match δ[i]? with
  | some (some (.own ds)) => de δ fun y => small (ds.length + 1) = true ∧ DD.nx (δ.set i (some (.own (ds ++ [y]))))
  | _ => False
theorem setOwn_go {S0 H0 S H : Hp} {σ : L2.St} {δ : DEnv} {i : Nat} {ds es : List PyData} {p : Addr} {xs ys : List V} (hi : ib ≠ some i) (o : Okk ib b S0 H0) (g0 : Go ib b S0 H0 S H) (e : EnvOk K ib b H0 S H σ δ)
    (q0 : δ[i]? = some (some (DV.own ds))) (hσ : σ[i]? = some (some (V.ref p))) (hp : H p = some (.lst xs)) (hS : S p = none) (h0 : H0 p = none) (hb : ib ≠ none → p ≠ b.1)
    (hu : ∀ (j : Nat) (es : List PyData), δ[j]? = some (some (DV.own es)) → σ[j]? = some (some (V.ref p)) → j = i) (r : Reps K S ys es) :
    Go ib b S0 H0 S (upd H p (.lst ys)) ∧ EnvOk K ib b H0 S (upd H p (.lst ys)) σ (δ.set i (some (.own es))) := by
  have kp : ∀ a u, a ≠ p → H a = some u → upd H p (.lst ys) a = some u := fun a u n q => by rw [upd_ne n]; exact q
  have sub2 : Ex S (upd H p (.lst ys)) := fun a u q => kp a u (ne_of_none q hS) (g0.ok.sub a u q)
  have bag2 : ib ≠ none → Bag b (upd H p (.lst ys)) := fun z => (g0.ok.bag z).kept fun a u c q => kp a u (by
    rcases c with c | c
    · rw [c]; exact fun w => hb z w.symm
    · rw [c]; exact fun w => absurd h0 (w ▸ (o.bag z).tr2)) q
  refine ⟨⟨g0.st, fun a u c q => kp a u (ne_of_none q h0) (g0.keep a u c q), g0.new, ⟨sub2, g0.ok.off, bag2⟩⟩, ?_⟩
  have hlt : i < δ.length := (List.getElem?_eq_some_iff.mp q0).1
  have at_ : ∀ (j : Nat) (x : DV), j ≠ i → (δ.set i (some (DV.own es)))[j]? = some (some x) → δ[j]? = some (some x) := by
    intro j x hj q
    rw [List.getElem?_set_ne (Ne.symm hj)] at q
    exact q
  have hfn : ∀ (j : Nat) (a : Addr), (δ.set i (some (DV.own es)))[j]? = some (some (DV.fn a)) → σ[j]? = some (some (V.ref a)) := by
    intro j a q
    by_cases hj : j = i
    · subst hj
      rw [List.getElem?_set_self hlt] at q
      cases q
    · exact e.fn j a (at_ j _ hj q)
  refine ⟨by rw [List.length_set]; exact e.len, e.slot, fun j x q => ?_, fun j fs q => ?_, hfn⟩
  · by_cases hj : j = i
    · subst hj
      rw [List.getElem?_set_self hlt] at q
      cases q
    · exact e.dat j x (at_ j _ hj q)
  · have uniq : ∀ (m : Nat) (gs : List PyData), (δ.set i (some (DV.own es)))[m]? = some (some (DV.own gs)) → ∃ gs', δ[m]? = some (some (DV.own gs')) := by
      intro m gs a
      by_cases hm : m = i
      · exact ⟨ds, by rw [hm]; exact q0⟩
      · exact ⟨gs, at_ m _ hm a⟩
    by_cases hj : j = i
    · subst hj
      rw [List.getElem?_set_self hlt] at q
      cases q
      refine ⟨p, ys, hσ, upd_same, r, hS, h0, hb, fun m gs a1 a2 => ?_⟩
      obtain ⟨gs', a1⟩ := uniq m gs a1
      exact hu m gs' a1 a2
    · obtain ⟨p', xs', h1, h2, h3, h4, h5, h6, h7⟩ := e.own j fs (at_ j _ hj q)
      have np : p' ≠ p := by
        intro w
        subst w
        exact hj (hu j fs (at_ j _ hj q) h1)
      refine ⟨p', xs', h1, kp _ _ np h2, h3, h4, h5, h6, fun m gs a1 a2 => ?_⟩
      obtain ⟨gs', a1⟩ := uniq m gs a1
      exact h7 m gs' a1 a2
theorem sim_append {i : Nat} (hi : ib ≠ some i) (h1 : SimE K ib b te de) : SimS K ib b (tDrop (tBM K "list" rAppend (tVar i) (tCons te tNil))) (dAppend i de) := by
  intro S0 H0 Sm S H σ δ D DD o em g0 e h x
  unfold dAppend at h
  split at h
  · rename_i ds q0
    obtain ⟨p, xs, hσ, hp, hr, hS, h0, hb, hu⟩ := e.own i ds q0
    refine ⟨_, hσ, .inl ⟨rfl, xs, .inl (.inl hp)⟩, ?_⟩
    refine h1 H0 S H σ δ _ _ g0.ok e h fun S1 H1 v dv g1 r q => ?_
    have hp1 := g1.keep p _ hb hp
    have hS1 := g1.new p (by rw [hp]; exact Option.some_ne_none _) hS
    refine ⟨p, xs, v, rfl, rfl, hp1, by rw [hr.length]; exact small_lt q.1, ?_⟩
    obtain ⟨ga, ea⟩ := setOwn_go (ys := xs ++ [v]) hi o (g0.trans o g1) (e.go g1) q0 hσ hp1 hS1 h0 hb hu ((hr.mono g1.st).append (.cons r .nil))
    exact x.nx S1 _ _ _ ga (em.trans g1.st) ea q.2
  · exact h.elim
/-- x.extend(e), e some data -/
def dExtend (i : Nat) (de : DE) : DS := fun DD δ => match δ[i]? with
  | some (some (.own ds)) => de δ fun y => match y with
    | .list es => small (ds.length + es.length) = true ∧ DD.nx (δ.set i (some (.own (ds ++ es))))
    | _ => False
  | _ => False

/-! loops -/
def dFor (di : DA) (dg : DG) (ds : DS) : DS := fun DD δ => di δ fun xs => ∃ I : Nat → DEnv → Prop, I 0 δ ∧
  (∀ i x δ', xs[i]? = some x → I i δ' → dg x δ' fun δ2 => ds { DD with nx := I (i + 1), ct := I (i + 1), bk := DD.nx } δ2) ∧ ∀ δ', I xs.length δ' → DD.nx δ'
theorem sim_for (h1 : SimI K ib b ti di) (h2 : SimG K ib b g dg) (h3 : SimS K ib b ts ds) : SimS K ib b (tFor ti g ts) (dFor di dg ds) := by
  intro S0 H0 Sm S H σ δ D DD o em g0 e h x
  refine h1 H0 S H σ δ _ _ g0.ok e h fun S1 H1 J xs g1 wk q => ?_
  obtain ⟨I, i0, turn, done⟩ := q
  refine ⟨fun i m σ' H' => m = xs.length - i ∧ i ≤ xs.length ∧ ∃ S' δ', Ex S1 S' ∧ Go ib b S0 H0 S' H' ∧ EnvOk K ib b H0 S' H' σ' δ' ∧ I i δ',
    ⟨xs.length, by omega, Nat.zero_le _, S1, δ, Ex.refl S1, g0.trans o g1, e.go g1, i0⟩, ?_⟩
  rintro i m σ' H' ⟨rfl, hi, S', δ', ex, g', e', hI⟩
  obtain ⟨w1, w2, w3⟩ := wk S' H' ex g'.ok
  by_cases hlt : i < xs.length
  · refine .inr ⟨w1 i hlt, fun σ2 H2 => ∃ S2 δ2, Ex S1 S2 ∧ Go ib b S0 H0 S2 H2 ∧ EnvOk K ib b H0 S2 H2 σ2 δ2 ∧ I (i + 1) δ2, ?_, ?_⟩
    · rintro σ2 H2 ⟨S2, δ2, a1, a2, a3, a4⟩
      exact ⟨xs.length - (i + 1), by omega, rfl, hlt, S2, δ2, a1, a2, a3, a4⟩
    · intro y H2 hy
      obtain ⟨S2, dy, g2, hy2, ry⟩ := w3 i y H2 hlt hy
      have ga := g'.trans o g2
      refine h2 H0 S2 H2 σ' δ' y dy _ _ ga.ok (e'.go g2) ry (turn i dy δ' hy2 hI) fun S3 H3 σ3 δ3 g3 e3 q3 => ?_
      have exx : Ex S1 S3 := ex.trans (g2.st.trans g3.st)
      refine h3 S0 H0 S1 S3 H3 σ3 δ3 _ _ o exx (ga.trans o g3) e3 q3 ⟨?_, ?_, ?_, ?_, ?_⟩
      · intro S4 H4 σ4 δ4 c1 c2 c3 c4
        exact ⟨S4, δ4, c2, c1, c3, c4⟩
      · intro S4 H4 v4 d4 c1 c2 c3 c4
        exact x.rt S4 H4 v4 d4 c1 (em.trans (g1.st.trans c2)) c3 c4
      · intro S4 H4 σ4 δ4 c1 c2 c3 c4
        exact x.nx S4 H4 σ4 δ4 c1 (em.trans (g1.st.trans c2)) c3 c4
      · intro S4 H4 σ4 δ4 c1 c2 c3 c4
        exact ⟨S4, δ4, c2, c1, c3, c4⟩
      · intro S4 H4 p4 xs4 es4 c1 c2 c3 c4 c5 c6 c7
        exact x.ro S4 H4 p4 xs4 es4 c1 (em.trans (g1.st.trans c2)) c3 c4 c5 c6 c7
  · have ei : i = xs.length := by omega
    subst ei
    exact .inl ⟨w2, x.nx S' H' σ' δ' g' (em.trans (g1.st.trans ex)) e' (done δ' hI)⟩

/-! the bag, whatever it holds -/
/-- xs[0], xs[1] of the bag: an int from 0 on; xs[2]: any int -/
def dBag : DE := fun _ R => ∀ n : Int, 0 ≤ n → R (.int n)
theorem at4 {x0 x1 x2 x3 : V} {i : Int} (h : i = 0 ∨ i = 1 ∨ i = 2 ∨ i = 3) : L2.atI [x0, x1, x2, x3] i = some (if i = 0 then x0 else if i = 1 then x1 else if i = 2 then x2 else x3) := by
  rcases h with h | h | h | h <;> subst h <;> rfl
theorem sim_bag {i : Nat} {j : Int} (hi : ib = some i) (hj : j = 0 ∨ j = 1) : SimE K ib b (tOp (rIx K) (tVar i) (tC (.int j))) dBag := by
  intro H0 S H σ δ R Q o e h k
  obtain ⟨r, m, n, ns, e1, ne, e2, e3, h1, h2, h3⟩ := (o.bag (by rw [hi]; simp)).ex
  refine ⟨_, e.slot i hi, .inl ⟨b.1, _, j, _, rfl, rfl, SqL.of e1, at4 (by omega), ?_⟩⟩
  rcases hj with hj | hj
  · subst hj
    exact k S H _ _ (Go.refl o) (.int r) (h r h1)
  · subst hj
    exact k S H _ _ (Go.refl o) (.int m) (h m h2)
def dBagAny : DE := fun _ R => ∀ n : Int, R (.int n)
theorem sim_bag2 {i : Nat} (hi : ib = some i) : SimE K ib b (tOp (rIx K) (tVar i) (tC (.int 2))) dBagAny := by
  intro H0 S H σ δ R Q o e h k
  obtain ⟨r, m, n, ns, e1, ne, e2, e3, h1, h2, h3⟩ := (o.bag (by rw [hi]; simp)).ex
  exact ⟨_, e.slot i hi, .inl ⟨b.1, _, 2, _, rfl, rfl, SqL.of e1, at4 (by omega), k S H _ _ (Go.refl o) (.int n) (h n)⟩⟩
/-- the cells from some place on -/
def dCells : DE := fun _ R => ∀ ns : List Int, (∀ n ∈ ns, 0 ≤ n) → ns.length ≤ 63 → R (.list (ns.map .int))
theorem bag_set {i : Nat} {H0 S H : Hp} {σ : L2.St} {δ : DEnv} (hi : ib = some i) (o : Okk ib b S H) (e : EnvOk K ib b H0 S H σ δ) {r m n : Int} (h1 : 0 ≤ r) (h2 : 0 ≤ m) :
    Go ib b S H S (upd H b.1 (.lst [.int r, .int m, .int n, .ref b.2])) := by
  have z : ib ≠ none := by rw [hi]; simp
  obtain ⟨r', m', n', ns, e1, ne, e2, e3, _, _, h3⟩ := (o.bag z).ex
  have kp : ∀ a u, a ≠ b.1 → H a = some u → upd H b.1 (.lst [.int r, .int m, .int n, .ref b.2]) a = some u := fun a u c q => by rw [upd_ne c]; exact q
  exact ⟨Ex.refl S, fun a u c q => kp a u (c z) q, fun _ _ q => q, ⟨fun a u q => kp a u (ne_of_none q (o.off z)) (o.sub a u q), o.off, fun _ => ⟨r, m, n, ns, upd_same, ne, kp _ _ ne e2, e3, h1, h2, h3⟩⟩⟩
/-- bag[0] = e, bag[1] = e -/
def dgBag : DG := fun d δ R => match d with
  | .int n => 0 ≤ n ∧ R δ
  | _ => False
theorem simg_bag {i : Nat} {j : Int} (hi : ib = some i) (hj : j = 0 ∨ j = 1) : SimG K ib b (gSub (tVar i) (tC (.int j)) rSetL) dgBag := by
  intro H0 S H σ δ v d R Q o e rv h k
  obtain ⟨r, m, n, ns, e1, ne, e2, e3, h1, h2, h3⟩ := (o.bag (by rw [hi]; simp)).ex
  cases rv with
  | int x =>
    have h : 0 ≤ x ∧ R δ := h
    rcases hj with hj | hj
    · subst hj
      have g := bag_set hi o e (r := x) (m := m) (n := n) h.1 h2
      exact ⟨_, e.slot i hi, b.1, _, 0, 0, rfl, rfl, e1, rfl, k S _ σ δ g (e.go g) h.2⟩
    · subst hj
      have g := bag_set hi o e (r := r) (m := x) (n := n) h1 h.1
      exact ⟨_, e.slot i hi, b.1, _, 1, 1, rfl, rfl, e1, rfl, k S _ σ δ g (e.go g) h.2⟩
  | _ => exact h.elim
end
end DL

namespace DL
open PySem PySem.Spec PyProof.Rows L2
open Evl (Ex ex_l ex_t)

/-! ### comprehensions -/
theorem wipe_get (σ : L2.St) : ∀ (vs : List Nat) (i : Nat), (wipe σ vs)[i]? = if i ∈ vs ∧ i < σ.length then some none else σ[i]?
  | [], i => by simp [wipe]
  | v :: vs, i => by
    show ((wipe σ vs).set v none)[i]? = _
    by_cases h : i = v
    · subst h
      by_cases hl : i < σ.length
      · rw [List.getElem?_set_self (by rw [wipe_length]; exact hl), if_pos ⟨List.mem_cons_self .., hl⟩]
      · rw [List.getElem?_eq_none (by rw [List.length_set, wipe_length]; omega), if_neg (fun z => hl z.2), List.getElem?_eq_none (by omega)]
    · rw [List.getElem?_set_ne (Ne.symm h), wipe_get σ vs i]
      have e : (i ∈ v :: vs ∧ i < σ.length) ↔ (i ∈ vs ∧ i < σ.length) := by simp [h]
      by_cases c : i ∈ vs ∧ i < σ.length
      · rw [if_pos c, if_pos (e.mpr c)]
      · rw [if_neg c, if_neg (fun z => c (e.mp z))]
theorem wipe_set (σ : L2.St) (vs : List Nat) (j : Nat) (x : Option V) (h : j ∈ vs) : wipe ((wipe σ vs).set j x) vs = wipe σ vs := by
  apply List.ext_getElem?
  intro i
  rw [wipe_get, wipe_get]
  have hl : ((wipe σ vs).set j x).length = σ.length := by rw [List.length_set, wipe_length]
  rw [hl]
  by_cases c : i ∈ vs ∧ i < σ.length
  · rw [if_pos c]
    rw [if_pos c]
  · rw [if_neg c, if_neg c]
    by_cases hi : i = j
    · subst hi
      have : ¬ i < σ.length := fun z => c ⟨h, z⟩
      rw [List.getElem?_eq_none (by rw [hl]; omega), List.getElem?_eq_none (by omega)]
    · rw [List.getElem?_set_ne (Ne.symm hi), wipe_get, if_neg c]
def wipeD (δ : DEnv) : List Nat → DEnv
  | [] => δ
  | v :: vs => (wipeD δ vs).set v none
theorem wipeD_length (δ : DEnv) : ∀ vs : List Nat, (wipeD δ vs).length = δ.length
  | [] => rfl
  | v :: vs => by unfold wipeD; rw [List.length_set, wipeD_length δ vs]
theorem wipeD_some {δ : DEnv} {i : Nat} {x : DV} : ∀ {vs : List Nat}, (wipeD δ vs)[i]? = some (some x) → δ[i]? = some (some x) ∧ i ∉ vs
  | [], h => ⟨h, by simp⟩
  | v :: vs, h => by
    unfold wipeD at h
    by_cases hv : i = v
    · subst hv
      by_cases hl : i < (wipeD δ vs).length
      · rw [List.getElem?_set_self hl] at h; cases h
      · rw [List.getElem?_eq_none (by rw [List.length_set]; omega)] at h; cases h
    · rw [List.getElem?_set_ne (Ne.symm hv)] at h
      obtain ⟨a, b⟩ := wipeD_some h
      exact ⟨a, by simp [hv, b]⟩
section
variable {K : PySem.W.Frag} {ib : Option Nat} {b : Bg}
theorem EnvOk.wipe {H0 S H : Hp} {σ : L2.St} {δ : DEnv} (e : EnvOk K ib b H0 S H σ δ) {vs : List Nat} (hv : ∀ i, ib = some i → i ∉ vs) : EnvOk K ib b H0 S H (L2.wipe σ vs) (wipeD δ vs) := by
  refine e.weak (by rw [wipe_length, wipeD_length]; exact e.len) (fun i hi => ?_) fun i x h => ?_
  · rw [wipe_get, if_neg (fun z => hv i hi z.1)]
    exact e.slot i hi
  · obtain ⟨h1, h2⟩ := wipeD_some h
    exact ⟨h1, by rw [wipe_get, if_neg (fun z => h2 z.1)]⟩
/-- an object of one's own (H did not know it) is changed -/
theorem Go.ownUpd {S H S1 H1 : Hp} {p : Addr} {u : HO} (o : Okk ib b S H) (g : Go ib b S H S1 H1) (hp : H p = none) (hS : S1 p = none) : Go ib b S H S1 (upd H1 p u) := by
  have kp : ∀ a x, a ≠ p → H1 a = some x → upd H1 p u a = some x := fun a x n e => by rw [upd_ne n]; exact e
  refine ⟨g.st, fun a x c e => kp a x (ne_of_none e hp) (g.keep a x c e), g.new, ⟨fun a x e => kp a x (ne_of_none e hS) (g.ok.sub a x e), g.ok.off, fun z => (g.ok.bag z).kept fun a x c e => kp a x ?_ e⟩⟩
  rcases c with c | c
  · rw [c]; exact fun w => (o.bag z).tr (w ▸ hp)
  · rw [c]; exact fun w => (o.bag z).tr2 (w ▸ hp)
/-- .. and then told to all -/
theorem Go.freeze {S H S1 H1 : Hp} {p : Addr} {u : HO} (o : Okk ib b S H) (g : Go ib b S H S1 H1) (hp : H p = none) (hS : S1 p = none) (hu : H1 p = some u) : Go ib b S H (upd S1 p u) H1 := by
  refine ⟨g.st.trans (Ex.new hS), g.keep, fun a h e => ?_, ⟨fun a x e => ?_, fun z => ?_, g.ok.bag⟩⟩
  · have : a ≠ p := fun w => h (w ▸ hp)
    rw [upd_ne this]
    exact g.new a h e
  · by_cases c : a = p
    · rw [c, upd_same] at e
      cases e
      rw [c]
      exact hu
    · rw [upd_ne c] at e
      exact g.ok.sub a x e
  · have : b.1 ≠ p := fun w => (o.bag z).tr (w ▸ hp)
    rw [upd_ne this]
    exact g.ok.off z
def dYes : DT := fun _ R => R true
theorem sim_yes : SimT K ib b tYes dYes := fun H0 S H σ δ R Q o e h k => k S H true (Go.refl o) h
variable {te : TE} {de : DE} {ts tu : TS} {ds du : DS} {tt : TT} {dt : DT} {g : TG} {dg : DG} {ti : TI} {di : DA} {t : TA} {d : DA}
def dLc (di : DA) (j : Nat) (dt : DT) (de : DE) (vs : List Nat) : DE := fun δ R => di δ fun xs => small xs.length = true ∧ ∃ I : Nat → List PyData → Prop, I 0 [] ∧
  (∀ i x acc, xs[i]? = some x → acc.length ≤ i → I i acc → dt ((wipeD δ vs).set j (some (.dat x))) fun c =>
    if c = true then de ((wipeD δ vs).set j (some (.dat x))) fun y => I (i + 1) (acc ++ [y]) else I (i + 1) acc) ∧ ∀ acc, acc.length ≤ xs.length → I xs.length acc → R (.list acc)
theorem sim_lc {j : Nat} {vs : List Nat} (hj : j ∈ vs) (hv : ∀ i, ib = some i → i ∉ vs) (h1 : SimI K ib b ti di) (h2 : SimT K ib b tt dt) (h3 : SimE K ib b te de) :
    SimE K ib b (tLc ti (gName j) tt te vs) (dLc di j dt de vs) := by
  intro H0 S H σ δ R Q o e h k
  refine h1 H0 S H σ δ _ _ o e h fun S1 H1 J xs g1 wk q D hD => ?_
  obtain ⟨hz, I, i0, turn, done⟩ := q
  have hij : ib ≠ some j := fun z => hv j z hj
  have oD := g1.ok
  have gD : Go ib b S1 H1 S1 (upd H1 D (.lst [])) := Go.laidOwn oD hD
  refine ⟨fun i m H' => m = xs.length - i ∧ i ≤ xs.length ∧ ∃ S' ys acc, Go ib b S1 H1 S' H' ∧ H' D = some (.lst ys) ∧ S' D = none ∧ Reps K S' ys acc ∧ acc.length ≤ i ∧ I i acc,
    ⟨xs.length, by omega, Nat.zero_le _, S1, [], [], gD, upd_same, Ex.none_of oD.sub hD, .nil, Nat.zero_le _, i0⟩, ?_⟩
  rintro i m H' ⟨rfl, hi, S', ys, acc, g', hys, hS', racc, hacc, hI⟩
  obtain ⟨w1, w2, w3⟩ := wk S' H' g'.st g'.ok
  by_cases hlt : i < xs.length
  · refine .inr ⟨w1 i hlt, fun H2 => ∃ S' ys acc, Go ib b S1 H1 S' H2 ∧ H2 D = some (.lst ys) ∧ S' D = none ∧ Reps K S' ys acc ∧ acc.length ≤ i + 1 ∧ I (i + 1) acc, ?_, ?_⟩
    · rintro H2 ⟨S2, ys2, acc2, a1, a2, a3, a4, a5, a6⟩
      exact ⟨xs.length - (i + 1), by omega, rfl, hlt, S2, ys2, acc2, a1, a2, a3, a4, a5, a6⟩
    · intro y H2 hy
      obtain ⟨S2, dy, g2, hy2, ry⟩ := w3 i y H2 hlt hy
      have nb : ib ≠ none → D ≠ b.1 := fun z w => (oD.bag z).tr (w ▸ hD)
      have gA := g'.trans oD g2
      have hys2 := g2.keep D _ nb hys
      have hS2 := g2.new D (by rw [hys]; exact Option.some_ne_none _) hS'
      have eA := (((e.go (g1.trans o gA)).wipe hv).set (i := j) hij ry)
      refine ⟨wipe_set σ vs j _ hj, ?_⟩
      refine h2 H0 S2 H2 _ _ _ _ gA.ok eA (turn i dy acc hy2 hacc hI) fun S3 H3 c g3 q3 => ?_
      have gB := gA.trans oD g3
      have hys3 := g3.keep D _ nb hys2
      have hS3 := g3.new D (by rw [hys2]; exact Option.some_ne_none _) hS2
      cases c with
      | true =>
        rw [if_pos rfl] at q3 ⊢
        refine h3 H0 S3 H3 _ _ _ _ gB.ok (eA.go g3) q3 fun S4 H4 v dv g4 r4 q4 => ?_
        have gC := gB.trans oD g4
        have hys4 := g4.keep D _ nb hys3
        have hS4 := g4.new D (by rw [hys3]; exact Option.some_ne_none _) hS3
        have rac4 := racc.mono ((g2.st.trans g3.st).trans g4.st)
        have hzz := of_decide_eq_true hz
        refine ⟨ys, hys4, by rw [rac4.length]; exact Evl.sz_lt (by omega), S4, ys ++ [v], acc ++ [dv], Go.ownUpd oD gC hD hS4, upd_same, hS4, rac4.append (.cons r4 .nil), ?_, q4⟩
        rw [List.length_append, List.length_singleton]
        omega
      | false =>
        rw [if_neg Bool.false_ne_true] at q3 ⊢
        exact ⟨S3, ys, acc, gB, hys3, hS3, racc.mono (g2.st.trans g3.st), by omega, q3⟩
  · have ei : i = xs.length := by omega
    subst ei
    refine .inl ⟨w2, ?_⟩
    have gF := Go.freeze oD g' hD hS' hys
    exact k _ H' _ (.list acc) (g1.trans o gF) (.lst upd_same (racc.mono (Ex.new hS'))) (done acc hacc hI)

/-! ### what is walked -/
def dItems (de : DE) : DA := fun δ R => de δ fun d => match d with
  | .list ds => R ds
  | _ => False
def dItemsT (de : DE) : DA := fun δ R => de δ fun d => match d with
  | .tuple ds => R ds
  | _ => False
theorem sim_iList (h1 : SimE K ib b te de) : SimI K ib b (iList K te) (dItems de) := by
  intro H0 S H σ δ R Q o e h k
  refine h1 H0 S H σ δ _ _ o e h fun S1 H1 v dv g r q => ?_
  cases r with
  | lst hq rs =>
    rename_i a xs ds
    refine ⟨a, rfl, ⟨xs, SqL.of (g.ok.sub _ _ hq)⟩, k S1 H1 _ ds g (fun S2 H2 ex o2 => ?_) q⟩
    have hL : SqL K H2 a xs := SqL.of (o2.sub _ _ (ex _ _ hq))
    have rl := rs.length
    refine ⟨fun i hi => ⟨xs, xs[i]'(by omega), hL, by simp⟩, ⟨xs, hL, by omega⟩, fun i x H' hi y => ?_⟩
    obtain ⟨rfl, y⟩ := y
    obtain ⟨d, hd, rd⟩ := rs.getV (y xs hL)
    exact ⟨S2, d, Go.refl o2, hd, rd.mono ex⟩
  | _ => exact q.elim
theorem sim_iTup (h1 : SimE K ib b te de) : SimI K ib b (iTup K te) (dItemsT de) := by
  intro H0 S H σ δ R Q o e h k
  refine h1 H0 S H σ δ _ _ o e h fun S1 H1 v dv g r q => ?_
  cases r with
  | tup hq rs =>
    rename_i a xs ds
    refine ⟨a, rfl, ⟨xs, ex_t g.ok.sub hq⟩, k S1 H1 _ ds g (fun S2 H2 ex o2 => ?_) q⟩
    have hL : SqT K H2 a xs := ex_t o2.sub (ex_t ex hq)
    have rl := rs.length
    refine ⟨fun i hi => ⟨xs, xs[i]'(by omega), hL, by simp⟩, ⟨xs, hL, by omega⟩, fun i x H' hi y => ?_⟩
    obtain ⟨rfl, y⟩ := y
    obtain ⟨d, hd, rd⟩ := rs.getV (y xs hL)
    exact ⟨S2, d, Go.refl o2, hd, rd.mono ex⟩
  | _ => exact q.elim
def intsD (lo : Int) (n : Nat) : List PyData := (List.range n).map fun i => .int (lo + (i : Nat))
theorem intsD_len (lo : Int) (n : Nat) : (intsD lo n).length = n := by unfold intsD; rw [List.length_map, List.length_range]
theorem intsD_get {lo : Int} {n i : Nat} (h : i < n) : (intsD lo n)[i]? = some (.int (lo + i)) := by
  unfold intsD
  rw [List.getElem?_map, List.getElem?_range h]
  rfl
theorem walk_itr {lo : Int} {n : Nat} {S : Hp} : WalkD K ib b S (Itr lo n) (intsD lo n) := by
  intro S1 H ex o
  rw [intsD_len]
  refine ⟨fun i hi => hi, Nat.le_refl _, fun i x H' hi y => ?_⟩
  obtain ⟨rfl, rfl⟩ := y
  exact ⟨S1, _, Go.refl o, intsD_get hi, .int _⟩
def dRng1 (d : DA) : DA := fun δ R => d δ fun ds => match ds with
  | [.int n] => -1000000 ≤ n ∧ n ≤ 1000000 ∧ R (intsD 0 n.toNat)
  | _ => False
theorem sim_rng1 (h1 : SimA K ib b t d) : SimI K ib b (iRng1 t) (dRng1 d) := by
  intro H0 S H σ δ R Q o e h k
  refine h1 H0 S H σ δ _ _ o e h fun S1 H1 vs dvs g r q => ?_
  split at q
  · cases r with
    | cons r1 r2 =>
      cases r2
      cases r1
      exact ⟨_, rfl, by omega, by omega, k S1 H1 _ _ g walk_itr q.2.2⟩
  · exact q.elim
def signs (x : Str) : List PyData := x.cps.toList.map fun c => .str ⟨#[c]⟩
def dSigns (de : DE) : DA := fun δ R => de δ fun d => match d with
  | .str x => R (signs x)
  | _ => False
theorem sim_iStr (h1 : SimE K ib b te de) : SimI K ib b (iStr te) (dSigns de) := by
  intro H0 S H σ δ R Q o e h k
  refine h1 H0 S H σ δ _ _ o e h fun S1 H1 v dv g r q => ?_
  cases r with
  | str x =>
    refine ⟨x, rfl, k S1 H1 _ _ g (fun S2 H2 ex o2 => ?_) q⟩
    have hl : (signs x).length = x.cps.size := by unfold signs; rw [List.length_map, Array.length_toList]
    rw [hl]
    refine ⟨fun i hi => hi, Nat.le_refl _, fun i y H' hi z => ?_⟩
    obtain ⟨rfl, c, hc, rfl⟩ := z
    refine ⟨S2, _, Go.refl o2, ?_, .str _⟩
    unfold signs
    rw [List.getElem?_map, Array.getElem?_toList, hc]
    rfl
  | _ => exact q.elim
end
end DL

/-! Operators and built-in calls over data; promises. -/
namespace DL
open PySem PySem.Spec PyProof.Rows L2
open Evl (Ex ex_l ex_t)

theorem OpR.or2 {X : Cx} {f : Value → Value → Sem Value} {r r' : R2} (h : OpR X f r) (h' : OpR X f r') : OpR X f (fun x y H Q => r x y H Q ∨ r' x y H Q) := by
  intro pins s σ H x y v u Q I rx ry q
  rcases q with q | q
  · exact h pins s σ H x y v u Q I rx ry q
  · exact h' pins s σ H x y v u Q I rx ry q
theorem CallR.or2 {X : Cx} {f : Value} {r r' : List V → Hp → VK → Prop} (h : CallR X f r) (h' : CallR X f r') : CallR X f (fun x H Q => r x H Q ∨ r' x H Q) := by
  intro pins s σ H x v Q I rx q
  rcases q with q | q
  · exact h pins s σ H x v Q I rx q
  · exact h' pins s σ H x v Q I rx q

def rStrCat : R2 := fun x y H Q => ∃ i j, x = .str i ∧ y = .str j ∧ i.length + j.length ≤ sizeLine ∧ Q (.str (i ++ j)) H
/-- + of ints, texts, lists, tuples -/
def rAddU (K : PySem.W.Frag) : R2 := fun x y H Q => ((rI0 (fun i j => .int (i + j)) x y H Q ∨ rStrCat x y H Q) ∨ rCat x y H Q) ∨ rCatA K x y H Q
theorem op_addU {X : Cx} : OpR X (binaryOp .Add) (rAddU X.K) := OpR.or2 (OpR.or2 (OpR.or2 op_add op_add_str) op_cat) op_catA
def rLtU (g : Int → Int → Bool) (s : Str → Str → Bool) : R2 := fun x y H Q => rI0 (fun i j => .bl (g i j)) x y H Q ∨ ∃ i j, x = .str i ∧ y = .str j ∧ Q (.bl (s i j)) H
def ltS (i j : Str) : Bool := decide (i.cps.toList < j.cps.toList)
theorem op_ltU {X : Cx} : OpR X (compareOp .Lt) (rLtU (fun i j => decide (i < j)) fun i j => ltS i j) := OpR.or2 op_lt op_lt_str
theorem op_leU {X : Cx} : OpR X (compareOp .LtE) (rLtU (fun i j => decide (i ≤ j)) fun i j => !ltS j i) := OpR.or2 op_le op_le_str
theorem op_gtU {X : Cx} : OpR X (compareOp .Gt) (rLtU (fun i j => decide (j < i)) fun i j => ltS j i) := OpR.or2 op_gt op_gt_str
theorem op_geU {X : Cx} : OpR X (compareOp .GtE) (rLtU (fun i j => decide (j ≤ i)) fun i j => !ltS i j) := OpR.or2 op_ge op_ge_str

section
variable {K : PySem.W.Frag} {ib : Option Nat} {b : Bg}
def dAdd : PyData → PyData → (PyData → Prop) → Prop := fun x y R => match x, y with
  | .int i, .int j => R (.int (i + j))
  | .str s, .str t => small (s.length + t.length) = true ∧ R (.str (s ++ t))
  | .list xs, .list ys => small (xs.length + ys.length) = true ∧ R (.list (xs ++ ys))
  | .tuple xs, .tuple ys => small (xs.length + ys.length) = true ∧ R (.tuple (xs ++ ys))
  | _, _ => False
theorem Rep.tupV {S : Hp} {v : V} {ds : List PyData} (r : Rep K S v (.tuple ds)) : ∃ a xs, v = .ref a ∧ SqT K S a xs ∧ Reps K S xs ds := by
  cases r with
  | tup h q => exact ⟨_, _, rfl, h, q⟩
theorem Rep.lstV {S : Hp} {v : V} {ds : List PyData} (r : Rep K S v (.list ds)) : ∃ a xs, v = .ref a ∧ S a = some (.lst xs) ∧ Reps K S xs ds := by
  cases r with
  | lst h q => exact ⟨_, _, rfl, h, q⟩
theorem Rep.intV {S : Hp} {v : V} {i : Int} (r : Rep K S v (.int i)) : v = .int i := by cases r; rfl
theorem Rep.strV {S : Hp} {v : V} {i : Str} (r : Rep K S v (.str i)) : v = .str i := by cases r; rfl
theorem Rep.blV {S : Hp} {v : V} {i : Bool} (r : Rep K S v (.bool i)) : v = .bl i := by cases r; rfl
theorem Rep.nonV {S : Hp} {v : V} (r : Rep K S v .none) : v = .non := by cases r; rfl
theorem Reps.nil_iff {S : Hp} {vs : List V} {ds : List PyData} (r : Reps K S vs ds) : vs = [] ↔ ds = [] := by
  cases r with
  | nil => simp
  | cons _ _ => simp
theorem sim_add : SimR2 K ib b (rAddU K) dAdd := by
  intro S H x y dx dy R Q o rx ry h k
  unfold dAdd at h
  split at h
  · rw [rx.intV, ry.intV]
    exact .inl (.inl (.inl ⟨_, _, rfl, rfl, k S H _ _ (Go.refl o) (.int _) h⟩))
  · rw [rx.strV, ry.strV]
    exact .inl (.inl (.inr ⟨_, _, rfl, rfl, small_ok h.1, k S H _ _ (Go.refl o) (.str _) h.2⟩))
  · obtain ⟨a, xs, rfl, hx, qx⟩ := rx.lstV
    obtain ⟨c, ys, rfl, hy, qy⟩ := ry.lstV
    refine .inl (.inr ⟨a, c, xs, ys, rfl, rfl, o.sub _ _ hx, o.sub _ _ hy, by rw [qx.length, qy.length]; exact small_ok h.1, fun p hp => ?_⟩)
    have g := Go.laid (u := .lst (xs ++ ys)) o hp
    exact k _ _ _ _ g (.lst upd_same ((qx.append qy).mono g.st)) h.2
  · obtain ⟨a, xs, rfl, hx, qx⟩ := rx.tupV
    obtain ⟨c, ys, rfl, hy, qy⟩ := ry.tupV
    refine .inr ⟨a, c, xs, ys, rfl, rfl, ex_t o.sub hx, ex_t o.sub hy, by rw [qx.length, qy.length]; exact small_ok h.1, fun e => ?_, fun e1 e2 => ?_, fun e1 e2 p hp => ?_⟩
    · have e' := (qx.nil_iff).mp e
      subst e'
      exact k S H _ _ (Go.refl o) (.tup hy qy) h.2
    · have e' := (qy.nil_iff).mp e2
      subst e'
      refine k S H _ _ (Go.refl o) (.tup hx qx) ?_
      have z := h.2
      rw [List.append_nil] at z
      exact z
    · have g := Go.laid (u := .tup (xs ++ ys)) o hp
      exact k _ _ _ _ g (.tup (Evl.st_of upd_same) ((qx.append qy).mono g.st)) h.2
  · exact h.elim
/-- ints to an int, to a truth; with a condition -/
def dII (f : Int → Int → Int) : PyData → PyData → (PyData → Prop) → Prop := fun x y R => match x, y with
  | .int i, .int j => R (.int (f i j))
  | _, _ => False
def dIC (C : Int → Int → Prop) (f : Int → Int → Int) : PyData → PyData → (PyData → Prop) → Prop := fun x y R => match x, y with
  | .int i, .int j => C i j ∧ R (.int (f i j))
  | _, _ => False
theorem simr_II {f : Int → Int → Int} : SimR2 K ib b (rI0 fun i j => .int (f i j)) (dII f) := by
  intro S H x y dx dy R Q o rx ry h k
  unfold dII at h
  split at h
  · rw [rx.intV, ry.intV]
    exact ⟨_, _, rfl, rfl, k S H _ _ (Go.refl o) (.int _) h⟩
  · exact h.elim
theorem simr_ip {f : Int → Int → Int} : SimR2 K ib b (ipI f) (dII f) := simr_II
theorem simr_IC {C : Int → Int → Prop} {f : Int → Int → Int} : SimR2 K ib b (rI C fun i j => .int (f i j)) (dIC C f) := by
  intro S H x y dx dy R Q o rx ry h k
  unfold dIC at h
  split at h
  · rw [rx.intV, ry.intV]
    exact ⟨_, _, rfl, rfl, h.1, k S H _ _ (Go.refl o) (.int _) h.2⟩
  · exact h.elim
def dLt (g : Int → Int → Bool) (s : Str → Str → Bool) : PyData → PyData → (PyData → Prop) → Prop := fun x y R => match x, y with
  | .int i, .int j => R (.bool (g i j))
  | .str i, .str j => R (.bool (s i j))
  | _, _ => False
theorem simr_lt {g : Int → Int → Bool} {s : Str → Str → Bool} : SimR2 K ib b (rLtU g s) (dLt g s) := by
  intro S H x y dx dy R Q o rx ry h k
  unfold dLt at h
  split at h
  · rw [rx.intV, ry.intV]
    exact .inl ⟨_, _, rfl, rfl, k S H _ _ (Go.refl o) (.bl _) h⟩
  · rw [rx.strV, ry.strV]
    exact .inr ⟨_, _, rfl, rfl, k S H _ _ (Go.refl o) (.bl _) h⟩
  · exact h.elim
def dNeg : PyData → (PyData → Prop) → Prop := fun x R => match x with
  | .int i => R (.int (-i))
  | _ => False
theorem simu_neg : SimU K ib b (rU fun i => .int (-i)) dNeg := by
  intro S H x dx R Q o rx h k
  unfold dNeg at h
  split at h
  · rw [rx.intV]
    exact ⟨_, rfl, k S H _ _ (Go.refl o) (.int _) h⟩
  · exact h.elim
/-! equality of data without dicts -/
mutual
theorem Rep.dp {S : Hp} : ∀ {v : V} {d : PyData}, Rep K S v d → d.canLay0 = true → Dp K S v d
  | _, _, .non, _ => .non
  | _, _, .bl c, _ => .bl c
  | _, _, .int i, _ => .int i
  | _, _, .str x, _ => .str x
  | _, _, .lst h q, c => .lst (SqL.of h) (Reps.dp q (by rw [PyData.canLay0] at c; exact c))
  | _, _, .tup h q, c => .tup h (Reps.dp q (by rw [PyData.canLay0] at c; exact c))
  | _, _, .dK h q, c => by rw [PyData.canLay0] at c; cases c
  | _, _, .dT h q, c => by rw [PyData.canLay0] at c; cases c
theorem Reps.dp {S : Hp} : ∀ {vs : List V} {ds : List PyData}, Reps K S vs ds → PyData.canLayAll0 ds = true → DpAll K S vs ds
  | _, _, .nil, _ => .nil
  | _, _, .cons h q, c => by
    rw [PyData.canLayAll0, Bool.and_eq_true] at c
    exact .cons (Rep.dp h c.1) (Reps.dp q c.2)
end
/-- plain values of one kind, or of kinds that are never equal -/
def scalD : PyData → PyData → Bool
  | .none, .none => true
  | .int _, .int _ => true
  | .bool _, .bool _ => true
  | .str _, .str _ => true
  | .none, .int _ => true
  | .int _, .none => true
  | .none, .str _ => true
  | .str _, .none => true
  | .int _, .str _ => true
  | .str _, .int _ => true
  | .bool _, .str _ => true
  | .str _, .bool _ => true
  | _, _ => false
def eqOk (x y : PyData) : Bool := (scalD x y || (SeqAt.shaped x && SeqAt.shaped y)) || eqMore x y
/-- by eqMore -/
def rEqM (K : PySem.W.Frag) : R2 := fun x y H Q => ∃ d e, Rep K H x d ∧ Rep K H y e ∧ eqMore d e = true ∧ Q (.bl (PyData.eqv d e)) H
def rNeM (K : PySem.W.Frag) : R2 := fun x y H Q => ∃ d e, Rep K H x d ∧ Rep K H y e ∧ eqMore d e = true ∧ Q (.bl (!PyData.eqv d e)) H
theorem op_eqM {X : Cx} (hu : X.A.units + 64 < cLine) : OpR X (compareOp .Eq) (rEqM X.K) := by
  intro pins s σ H x y v u Q I rx ry h
  obtain ⟨d, e, hd, he, hm, q⟩ := h
  obtain ⟨as, r1⟩ := (hd.rd I rx).reads
  obtain ⟨bs, r2⟩ := (he.rd I ry).reads
  exact eq_more r1 r2 hm hu ⟨.bl _, H, I, rfl, q⟩
theorem op_neM {X : Cx} (hu : X.A.units + 64 < cLine) : OpR X (compareOp .NotEq) (rNeM X.K) := by
  intro pins s σ H x y v u Q I rx ry h
  obtain ⟨d, e, hd, he, hm, q⟩ := h
  obtain ⟨as, r1⟩ := (hd.rd I rx).reads
  obtain ⟨bs, r2⟩ := (he.rd I ry).reads
  exact ne_more r1 r2 hm hu ⟨.bl _, H, I, rfl, q⟩
def rEqU (K : PySem.W.Frag) : R2 := fun x y H Q => (rEq x y H Q ∨ rEqD K x y H Q) ∨ rEqM K x y H Q
def rNeU (K : PySem.W.Frag) : R2 := fun x y H Q => (rNe x y H Q ∨ rNeD K x y H Q) ∨ rNeM K x y H Q
theorem op_eqU {X : Cx} (hu : X.A.units + 64 < cLine) : OpR X (compareOp .Eq) (rEqU X.K) := OpR.or2 (OpR.or2 op_eq (op_eqD hu)) (op_eqM hu)
theorem op_neU {X : Cx} (hu : X.A.units + 64 < cLine) : OpR X (compareOp .NotEq) (rNeU X.K) := OpR.or2 (OpR.or2 op_ne (op_neD hu)) (op_neM hu)
theorem scal_rep {S : Hp} {x y : V} {dx dy : PyData} (rx : Rep K S x dx) (ry : Rep K S y dy) (h : scalD dx dy = true) : scal x y = true ∧ decide (x = y) = PyData.eqv dx dy := by
  cases rx <;> first
    | (cases h; done)
    | (cases ry <;> first
        | (cases h; done)
        | (exact ⟨rfl, by rw [PyData.eqv]; exact (Bool.beq_eq_decide_eq _ _).symm⟩)
        | (exact ⟨rfl, by rw [PyData.eqv]; rfl⟩)
        | (exact ⟨rfl, by rw [PyData.eqv]; rw [Bool.eq_iff_iff]; simp⟩)
        | (exact ⟨rfl, by simp [PyData.eqv]⟩))
def dEq : PyData → PyData → (PyData → Prop) → Prop := fun x y R => eqOk x y = true ∧ R (.bool (PyData.eqv x y))
def dNe : PyData → PyData → (PyData → Prop) → Prop := fun x y R => eqOk x y = true ∧ R (.bool (!PyData.eqv x y))
theorem simr_eq : SimR2 K ib b (rEqU K) dEq := by
  intro S H x y dx dy R Q o rx ry h k
  rcases (Bool.or_eq_true _ _ ▸ h.1 : _ ∨ _) with h1 | h1
  rcases (Bool.or_eq_true _ _ ▸ h1 : _ ∨ _) with h1 | h1
  · obtain ⟨e1, e2⟩ := scal_rep rx ry h1
    refine .inl (.inl ⟨e1, ?_⟩)
    rw [e2]
    exact k S H _ _ (Go.refl o) (.bl _) h.2
  · have h1 := (Bool.and_eq_true _ _ ▸ h1 : _ ∧ _)
    exact .inl (.inr ⟨dx, dy, (rx.mono o.sub).dp (SeqAt.canLay_of_shaped h1.1), (ry.mono o.sub).dp (SeqAt.canLay_of_shaped h1.2), h1.1, h1.2, k S H _ _ (Go.refl o) (.bl _) h.2⟩)
  · exact .inr ⟨dx, dy, rx.mono o.sub, ry.mono o.sub, h1, k S H _ _ (Go.refl o) (.bl _) h.2⟩
theorem simr_ne : SimR2 K ib b (rNeU K) dNe := by
  intro S H x y dx dy R Q o rx ry h k
  rcases (Bool.or_eq_true _ _ ▸ h.1 : _ ∨ _) with h1 | h1
  rcases (Bool.or_eq_true _ _ ▸ h1 : _ ∨ _) with h1 | h1
  · obtain ⟨e1, e2⟩ := scal_rep rx ry h1
    refine .inl (.inl ⟨e1, ?_⟩)
    rw [e2]
    exact k S H _ _ (Go.refl o) (.bl _) h.2
  · have h1 := (Bool.and_eq_true _ _ ▸ h1 : _ ∧ _)
    exact .inl (.inr ⟨dx, dy, (rx.mono o.sub).dp (SeqAt.canLay_of_shaped h1.1), (ry.mono o.sub).dp (SeqAt.canLay_of_shaped h1.2), h1.1, h1.2, k S H _ _ (Go.refl o) (.bl _) h.2⟩)
  · exact .inr ⟨dx, dy, rx.mono o.sub, ry.mono o.sub, h1, k S H _ _ (Go.refl o) (.bl _) h.2⟩
/-! x in a list or a tuple of flat things -/
def flatD : PyData → Bool
  | .none => true
  | .bool _ => true
  | .int _ => true
  | .str _ => true
  | _ => false
theorem flat_rep {S : Hp} {v : V} {d : PyData} (r : Rep K S v d) (h : flatD d = true) : flatV v = true := by
  cases r <;> first | rfl | cases h
theorem eqV_rep {S : Hp} {v u : V} {d e : PyData} (r : Rep K S v d) (q : Rep K S u e) (h : flatD d = true) (h2 : flatD e = true) : eqV v u = PyData.eqv d e := by
  cases r <;> first | cases h; done | (cases q <;> first | cases h2; done | rfl)
theorem flats_rep {S : Hp} : ∀ {vs : List V} {ds : List PyData}, Reps K S vs ds → ds.all flatD = true → vs.all flatV = true
  | _, _, .nil, _ => rfl
  | _, _, .cons h q, c => by
    rw [List.all_cons, Bool.and_eq_true] at c ⊢
    exact ⟨flat_rep h c.1, flats_rep q c.2⟩
theorem inV_rep {S : Hp} {v : V} {d : PyData} (r : Rep K S v d) (hd : flatD d = true) : ∀ {vs : List V} {ds : List PyData}, Reps K S vs ds → ds.all flatD = true → inV v vs = ds.any fun e => PyData.eqv e d
  | _, _, .nil, _ => rfl
  | _, _, .cons h q, c => by
    rw [List.all_cons, Bool.and_eq_true] at c
    have i := inV_rep r hd q c.2
    unfold inV at i ⊢
    rw [List.any_cons, List.any_cons, i, eqV_rep h r c.1 hd]
def itemsOf : PyData → Option (List PyData)
  | .list ds => some ds
  | .tuple ds => some ds
  | _ => none
def inOk (x : PyData) (ds : List PyData) : Bool := (flatD x && ds.all flatD) || inMore x ds
def dIn (neg : Bool) : PyData → PyData → (PyData → Prop) → Prop := fun x y R => match itemsOf y with
  | some ds => inOk x ds = true ∧ R (.bool (if neg then !(ds.any fun e => PyData.eqv e x) else ds.any fun e => PyData.eqv e x))
  | none => False
theorem Rep.items {S : Hp} {v : V} {d : PyData} {ds : List PyData} (r : Rep K S v d) (h : itemsOf d = some ds) : ∃ a xs, v = .ref a ∧ (SqL K S a xs ∨ SqT K S a xs) ∧ Reps K S xs ds := by
  cases r with
  | lst e q => cases h; exact ⟨_, _, rfl, .inl (SqL.of e), q⟩
  | tup e q => cases h; exact ⟨_, _, rfl, .inr e, q⟩
  | _ => cases h
def rInM (K : PySem.W.Frag) (neg : Bool) : R2 := fun x y H Q => ∃ d e ds, Rep K H x d ∧ Rep K H y e ∧ itemsOf e = some ds ∧ inMore d ds = true ∧ Q (.bl (if neg then !(ds.any fun e => PyData.eqv e d) else ds.any fun e => PyData.eqv e d)) H
theorem itemsOf_some {e : PyData} {ds : List PyData} (h : itemsOf e = some ds) : e = .list ds ∨ e = .tuple ds := by
  cases e <;> first | (cases h; done) | (cases h; exact .inl rfl) | (cases h; exact .inr rfl)
theorem op_inM {X : Cx} (hu : X.A.units + 64 < cLine) : OpR X (compareOp .In) (rInM X.K false) := by
  intro pins s σ H x y v u Q I rx ry h
  obtain ⟨d, e, ds, hd, he, hi, hm, q⟩ := h
  obtain ⟨as, r1⟩ := (hd.rd I rx).reads
  obtain ⟨bs, r2⟩ := (he.rd I ry).reads
  exact in_more (itemsOf_some hi) r2 r1 hm hu ⟨.bl _, H, I, rfl, q⟩
theorem op_notInM {X : Cx} (hu : X.A.units + 64 < cLine) : OpR X (compareOp .NotIn) (rInM X.K true) := by
  intro pins s σ H x y v u Q I rx ry h
  obtain ⟨d, e, ds, hd, he, hi, hm, q⟩ := h
  obtain ⟨as, r1⟩ := (hd.rd I rx).reads
  obtain ⟨bs, r2⟩ := (he.rd I ry).reads
  exact notIn_more (itemsOf_some hi) r2 r1 hm hu ⟨.bl _, H, I, rfl, q⟩
def rInU (K : PySem.W.Frag) (neg : Bool) : R2 := fun x y H Q => rIn K neg x y H Q ∨ rInM K neg x y H Q
theorem op_inU {X : Cx} (hu : X.A.units + 64 < cLine) : OpR X (compareOp .In) (rInU X.K false) := OpR.or2 op_in_seq (op_inM hu)
theorem op_notInU {X : Cx} (hu : X.A.units + 64 < cLine) : OpR X (compareOp .NotIn) (rInU X.K true) := OpR.or2 op_notIn_seq (op_notInM hu)
theorem simr_in {neg : Bool} : SimR2 K ib b (rInU K neg) (dIn neg) := by
  intro S H x y dx dy R Q o rx ry h k
  unfold dIn at h
  split at h
  · rename_i ds e
    rcases (Bool.or_eq_true _ _ ▸ h.1 : _ ∨ _) with h1 | h1
    · left
      obtain ⟨a, xs, rfl, hq, qs⟩ := ry.items e
      have h1 := (Bool.and_eq_true _ _ ▸ h1 : _ ∧ _)
      refine ⟨a, xs, rfl, ?_, flat_rep rx h1.1, flats_rep qs h1.2, ?_⟩
      · rcases hq with hq | hq
        · exact .inl (ex_l o.sub hq)
        · exact .inr (ex_t o.sub hq)
      · rw [inV_rep rx h1.1 qs h1.2]
        exact k S H _ _ (Go.refl o) (.bl _) h.2
    · exact .inr ⟨dx, dy, ds, rx.mono o.sub, ry.mono o.sub, e, h1, k S H _ _ (Go.refl o) (.bl _) h.2⟩
  · exact h.elim
/-! items and slices -/
def atD : PyData → Int → Option PyData
  | .list ds, i => atI ds i
  | .tuple ds, i => atI ds i
  | .str x, i => if small x.length = true then (atI x.cps.toList i).map fun c => .str ⟨#[c]⟩ else none
  | _, _ => none
def dIx : PyData → PyData → (PyData → Prop) → Prop := fun x y R => isI y fun i => match atD x i with
  | some d => R d
  | none => False
theorem Reps.atI {S : Hp} {vs : List V} {ds : List PyData} {i : Int} {d : PyData} (r : Reps K S vs ds) (h : L2.atI ds i = some d) : ∃ v, L2.atI vs i = some v ∧ Rep K S v d := by
  unfold L2.atI at h ⊢
  rw [r.length]
  cases e : ixN ds.length i with
  | none => rw [e] at h; cases h
  | some j =>
    rw [e] at h
    exact r.get h
theorem simr_ix : SimR2 K ib b (rIx K) dIx := by
  intro S H x y dx dy R Q o rx ry h k
  obtain ⟨i, rfl, rfl, h⟩ := isI_of (R := fun i => match atD dx i with
    | some d => R d
    | none => False) ry h
  rename_i hh
  clear h
  have h := hh
  clear hh
  split at h
  · rename_i d e
    cases rx with
    | lst hq q =>
      obtain ⟨v, hv, rv⟩ := q.atI e
      exact .inl ⟨_, _, i, v, rfl, rfl, SqL.of (o.sub _ _ hq), hv, k S H _ _ (Go.refl o) rv h⟩
    | tup hq q =>
      obtain ⟨v, hv, rv⟩ := q.atI e
      exact .inr (.inl ⟨_, _, i, v, rfl, rfl, ex_t o.sub hq, hv, k S H _ _ (Go.refl o) rv h⟩)
    | str x =>
      have e2 : (if small x.length = true then (L2.atI x.cps.toList i).map fun c => PyData.str ⟨#[c]⟩ else none) = some d := e
      clear e
      have e := e2
      clear e2
      by_cases c : small x.length = true
      case neg => rw [if_neg c] at e; cases e
      rw [if_pos c] at e
      obtain ⟨w, hw, rfl⟩ := Option.map_eq_some_iff.mp e
      exact .inr (.inr ⟨x, i, w, rfl, rfl, small_ok c, hw, k S H _ _ (Go.refl o) (.str _) h⟩)
    | _ => cases e
  · exact h.elim
def cutD {α : Type} (xs : List α) (lo hi : Option Int) : List α := (xs.drop (HT.sIx xs.length 0 lo)).take (HT.sIx xs.length xs.length hi - HT.sIx xs.length 0 lo)
theorem Reps.cut {S : Hp} {vs : List V} {ds : List PyData} (r : Reps K S vs ds) (lo hi : Option Int) : Reps K S (cutV vs lo hi) (cutD ds lo hi) := by
  unfold cutV cutD
  rw [r.length]
  exact Reps.take _ (Reps.drop _ r)
def rSlU (K : PySem.W.Frag) : V → Option Int → Option Int → Hp → VK → Prop := fun x lo hi H Q => (rSlL K x lo hi H Q ∨ rSlA K x lo hi H Q) ∨ rSlS x lo hi H Q
theorem sl_U {X : Cx} : SlR X (rSlU X.K) := SlR.or (SlR.or sl_list sl_tupA) sl_str
def dSlice : PyData → Option Int → Option Int → (PyData → Prop) → Prop := fun x lo hi R => match x with
  | .list ds => R (.list (cutD ds lo hi))
  | .tuple ds => R (.tuple (cutD ds lo hi))
  | .str z => small z.length = true ∧ R (.str (cutS z lo hi))
  | _ => False
theorem cutD_whole {α : Type} {xs : List α} {lo hi : Option Int} (h : HT.sIx xs.length 0 lo = 0 ∧ HT.sIx xs.length xs.length hi = xs.length) : cutD xs lo hi = xs := by
  unfold cutD
  rw [h.1, h.2, List.drop_zero, Nat.sub_zero, List.take_length]
theorem sims_slice : SimSl K ib b (rSlU K) dSlice := by
  intro S H x dx lo hi R Q o rx h k
  unfold dSlice at h
  split at h
  · obtain ⟨a, xs, rfl, hq, q⟩ := rx.lstV
    refine .inl (.inl ⟨a, xs, rfl, SqL.of (o.sub _ _ hq), fun p hp => ?_⟩)
    have g := Go.laid (u := .lst (cutV xs lo hi)) o hp
    exact k _ _ _ _ g (.lst upd_same ((q.cut lo hi).mono g.st)) h
  · obtain ⟨a, xs, rfl, hq, q⟩ := rx.tupV
    refine .inl (.inr ⟨a, xs, rfl, ex_t o.sub hq, fun e => ?_, fun _ p hp => ?_⟩)
    · rw [q.length] at e
      rw [cutD_whole e] at h
      exact k S H _ _ (Go.refl o) (.tup hq q) h
    · have g := Go.laid (u := .tup (cutV xs lo hi)) o hp
      exact k _ _ _ _ g (.tup (Evl.st_of upd_same) ((q.cut lo hi).mono g.st)) h
  · rw [rx.strV]
    exact .inr ⟨_, rfl, small_ok h.1, k S H _ _ (Go.refl o) (.str _) h.2⟩
  · exact h.elim

/-! built-in calls -/
def rLenU (K : PySem.W.Frag) : List V → Hp → VK → Prop := fun xs H Q => ∃ x n, xs = [x] ∧ LenV K x H n ∧ Q (.int n) H
theorem call_lenU {X : Cx} : CallR X (.builtin "len") (rLenU X.K) := call_len
def dLen : List PyData → (PyData → Prop) → Prop := fun ds R => match ds with
  | [.list xs] => R (.int xs.length)
  | [.tuple xs] => R (.int xs.length)
  | [.str x] => small x.length = true ∧ R (.int x.length)
  | _ => False
theorem simc_len : SimC K ib b (rLenU K) dLen := by
  intro S H xs ds R Q o r h k
  unfold dLen at h
  split at h
  · cases r with
    | cons r1 r2 =>
      cases r2
      obtain ⟨a, xs, rfl, hq, q⟩ := r1.lstV
      refine ⟨_, _, rfl, .inl ⟨xs, SqL.of (o.sub _ _ hq), rfl⟩, ?_⟩
      rw [q.length]
      exact k S H _ _ (Go.refl o) (.int _) h
  · cases r with
    | cons r1 r2 =>
      cases r2
      obtain ⟨a, xs, rfl, hq, q⟩ := r1.tupV
      refine ⟨_, _, rfl, .inr ⟨xs, ex_t o.sub hq, rfl⟩, ?_⟩
      rw [q.length]
      exact k S H _ _ (Go.refl o) (.int _) h
  · cases r with
    | cons r1 r2 =>
      cases r2
      rw [r1.strV]
      exact ⟨_, _, rfl, ⟨small_ok h.1, rfl⟩, k S H _ _ (Go.refl o) (.int _) h.2⟩
  · exact h.elim
def showOk (d : PyData) : Bool := d.showable && decide (d.depth ≤ 60) && decide (d.shown.length ≤ sizeLine)
def dRepr : List PyData → (PyData → Prop) → Prop := fun ds R => match ds with
  | [d] => showOk d = true ∧ R (.str d.shown)
  | _ => False
theorem simc_repr : SimC K ib b (rRepr K) dRepr := by
  intro S H xs ds R Q o r h k
  unfold dRepr at h
  split at h
  · cases r with
    | cons r1 r2 =>
      cases r2
      have z := h.1
      unfold showOk at z
      simp only [Bool.and_eq_true, decide_eq_true_eq] at z
      exact ⟨_, _, rfl, r1.mono o.sub, z.1.1, z.1.2, z.2, k S H _ _ (Go.refl o) (.str _) h.2⟩
  · exact h.elim
def rInt1 : List V → Hp → VK → Prop := fun xs H Q => (∃ i, xs = [.int i] ∧ Q (.int i) H) ∨ ∃ k, xs = [.bl k] ∧ Q (.int (if k then 1 else 0)) H
theorem call_int1' {X : Cx} : CallR X (.type "int") rInt1 := call_int1
def dInt1 : List PyData → (PyData → Prop) → Prop := fun ds R => match ds with
  | [.int i] => R (.int i)
  | [.bool k] => R (.int (if k then 1 else 0))
  | _ => False
theorem simc_int1 : SimC K ib b rInt1 dInt1 := by
  intro S H xs ds R Q o r h k
  unfold dInt1 at h
  split at h
  · cases r with
    | cons r1 r2 =>
      cases r2
      rw [r1.intV]
      exact .inl ⟨_, rfl, k S H _ _ (Go.refl o) (.int _) h⟩
  · cases r with
    | cons r1 r2 =>
      cases r2
      rw [r1.blV]
      exact .inr ⟨_, rfl, k S H _ _ (Go.refl o) (.int _) h⟩
  · exact h.elim
def rAbs1 : List V → Hp → VK → Prop := fun xs H Q => ∃ i, xs = [.int i] ∧ Q (.int (if i < 0 then -i else i)) H
theorem call_abs' {X : Cx} : CallR X (.builtin "abs") rAbs1 := call_abs
def dAbs : List PyData → (PyData → Prop) → Prop := fun ds R => match ds with
  | [.int i] => R (.int (if i < 0 then -i else i))
  | _ => False
theorem simc_abs : SimC K ib b rAbs1 dAbs := by
  intro S H xs ds R Q o r h k
  unfold dAbs at h
  split at h
  · cases r with
    | cons r1 r2 =>
      cases r2
      rw [r1.intV]
      exact ⟨_, rfl, k S H _ _ (Go.refl o) (.int _) h⟩
  · exact h.elim
def rTupOf (K : PySem.W.Frag) : List V → Hp → VK → Prop := fun xs H Q => ∃ p ys, xs = [.ref p] ∧ ((SqL K H p ys ∧ ∀ l, H l = none → Q (.ref l) (upd H l (.tup ys))) ∨ (SqT K H p ys ∧ Q (.ref p) H))
theorem call_tupOf {X : Cx} : CallR X (.type "tuple") (rTupOf X.K) := call_tuple_of
def dTupOf : List PyData → (PyData → Prop) → Prop := fun ds R => match ds with
  | [.list xs] => R (.tuple xs)
  | [.tuple xs] => R (.tuple xs)
  | _ => False
theorem simc_tupOf : SimC K ib b (rTupOf K) dTupOf := by
  intro S H xs ds R Q o r h k
  unfold dTupOf at h
  split at h
  · cases r with
    | cons r1 r2 =>
      cases r2
      obtain ⟨a, xs, rfl, hq, q⟩ := r1.lstV
      refine ⟨a, xs, rfl, .inl ⟨SqL.of (o.sub _ _ hq), fun p hp => ?_⟩⟩
      have g := Go.laid (u := .tup xs) o hp
      exact k _ _ _ _ g (.tup (Evl.st_of upd_same) (q.mono g.st)) h
  · cases r with
    | cons r1 r2 =>
      cases r2
      obtain ⟨a, xs, rfl, hq, q⟩ := r1.tupV
      exact ⟨a, xs, rfl, .inr ⟨ex_t o.sub hq, k S H _ _ (Go.refl o) (.tup hq q) h⟩⟩
  · exact h.elim
def rListOf (K : PySem.W.Frag) : List V → Hp → VK → Prop := fun xs H Q => ∃ p ys, xs = [.ref p] ∧ (SqL K H p ys ∨ SqT K H p ys) ∧ ∀ l, H l = none → Q (.ref l) (upd H l (.lst ys))
theorem call_listOf {X : Cx} : CallR X (.type "list") (rListOf X.K) := call_list_of
def dListOf : List PyData → (PyData → Prop) → Prop := fun ds R => match ds with
  | [d] => match itemsOf d with
    | some xs => R (.list xs)
    | none => False
  | _ => False
theorem simc_listOf : SimC K ib b (rListOf K) dListOf := by
  intro S H xs ds R Q o r h k
  unfold dListOf at h
  split at h
  · cases r with
    | cons r1 r2 =>
      cases r2
      split at h
      · rename_i e
        obtain ⟨a, xs, rfl, hq, q⟩ := r1.items e
        refine ⟨a, xs, rfl, ?_, fun p hp => ?_⟩
        · rcases hq with hq | hq
          · exact .inl (ex_l o.sub hq)
          · exact .inr (ex_t o.sub hq)
        · have g := Go.laid (u := .lst xs) o hp
          exact k _ _ _ _ g (.lst upd_same (q.mono g.st)) h
      · exact h.elim
  · exact h.elim
def boolsOf : List PyData → Option (List Bool)
  | [] => some []
  | .bool c :: r => (boolsOf r).map (c :: ·)
  | _ => none
theorem bools_rep {S : Hp} : ∀ {vs : List V} {ds : List PyData} {bs : List Bool}, Reps K S vs ds → boolsOf ds = some bs → vs = bs.map V.bl
  | _, _, bs, .nil, h => by
    rw [boolsOf] at h
    cases h
    rfl
  | _, _, bs, .cons r q, h => by
    cases r with
    | bl c =>
      rw [boolsOf] at h
      obtain ⟨w, hw, rfl⟩ := Option.map_eq_some_iff.mp h
      rw [bools_rep q hw]
      rfl
    | _ => simp [boolsOf] at h
def dAll : List PyData → (PyData → Prop) → Prop := fun ds R => match ds with
  | [.list xs] => ∃ bs, boolsOf xs = some bs ∧ R (.bool (bs.all id))
  | _ => False
def dAny : List PyData → (PyData → Prop) → Prop := fun ds R => match ds with
  | [.list xs] => ∃ bs, boolsOf xs = some bs ∧ R (.bool (bs.any id))
  | _ => False
theorem simc_all : SimC K ib b (rAll K) dAll := by
  intro S H xs ds R Q o r h k
  unfold dAll at h
  split at h
  · cases r with
    | cons r1 r2 =>
      cases r2
      obtain ⟨a, xs, rfl, hq, q⟩ := r1.lstV
      obtain ⟨bs, hb, h⟩ := h
      have e := bools_rep q hb
      subst e
      exact ⟨a, bs, rfl, SqL.of (o.sub _ _ hq), k S H _ _ (Go.refl o) (.bl _) h⟩
  · exact h.elim
theorem simc_any : SimC K ib b (rAny K) dAny := by
  intro S H xs ds R Q o r h k
  unfold dAny at h
  split at h
  · cases r with
    | cons r1 r2 =>
      cases r2
      obtain ⟨a, xs, rfl, hq, q⟩ := r1.lstV
      obtain ⟨bs, hb, h⟩ := h
      have e := bools_rep q hb
      subst e
      exact ⟨a, bs, rfl, SqL.of (o.sub _ _ hq), k S H _ _ (Go.refl o) (.bl _) h⟩
  · exact h.elim
/-- isinstance(x, T) of a built-in class -/
def typD : PyData → String
  | .none => "NoneType"
  | .bool _ => "bool"
  | .int _ => "int"
  | .str _ => "str"
  | .list _ => "list"
  | .tuple _ => "tuple"
  | .dict _ => "dict"
def dIsi (T : String) (de : DE) : DE := fun δ R => de δ fun d => match kitB (typD d) T with
  | some c => R (.bool c)
  | none => False
theorem Rep.ty {S H : Hp} (o : Okk ib b S H) {v : V} {d : PyData} (r : Rep K S v d) : TyX K H v (.type (typD d)) := by
  cases r with
  | non => exact .base .non
  | bl c => exact .base (.bl c)
  | int c => exact .base (.int c)
  | str c => exact .base (.str c)
  | lst h q => exact .base (.lst (o.sub _ _ h))
  | tup h q =>
    rcases ex_t o.sub h with (h | ⟨ob, h⟩) | ⟨ob, its, n, h, hc, _⟩
    · exact .base (.tup h)
    · exact .fTuple h
    · exact .kTuple h hc
  | dK h q => exact .base (.dK (o.sub _ _ h))
  | dT h q => exact .base (.dT (o.sub _ _ h))
theorem sim_isi {te : TE} {de : DE} {T : String} (h1 : SimE K ib b te de) : SimE K ib b (tCB (rIsi K) (tCons te (tCons (tC (.ty T)) tNil))) (dIsi T de) := by
  intro H0 S H σ δ R Q o e h k
  refine h1 H0 S H σ δ _ _ o e h fun S1 H1 v dv g r q => ?_
  split at q
  · rename_i c ec
    exact ⟨v, .ty T, _, _, c, rfl, .ty T, r.ty g.ok, kit_ty ec, k S1 H1 _ _ g (.bl c) q⟩
  · exact q.elim
end

/-! ### promises -/
section
variable {K : PySem.W.Frag} {ib : Option Nat} {b : Bg}
theorem Okk.pure {S H : Hp} (o : Okk ib b S H) : Okk none b S H := ⟨o.sub, fun z => absurd rfl z, fun z => absurd rfl z⟩
theorem Go.ofPure {S H S1 H1 : Hp} (o : Okk ib b S H) (g : Go none b S H S1 H1) : Go ib b S H S1 H1 :=
  ⟨g.st, fun a u _ e => g.keep a u (fun z => absurd rfl z) e, g.new, ⟨g.ok.sub, fun z => g.new _ (o.bag z).tr (o.off z), fun z => (o.bag z).kept fun a u _ e => g.keep a u (fun z => absurd rfl z) e⟩⟩
theorem Okk.as {i j : Nat} {S H : Hp} (o : Okk (some i) b S H) : Okk (some j) b S H := ⟨o.sub, fun _ => o.off (by simp), fun _ => o.bag (by simp)⟩
theorem Go.as {i j : Nat} {S H S1 H1 : Hp} (g : Go (some i) b S H S1 H1) : Go (some j) b S H S1 H1 := ⟨g.st, fun a u c e => g.keep a u (fun _ => c (by simp)) e, g.new, g.ok.as⟩
/-- a def that draws nothing: what it asks of its arguments, what it gives -/
def spP (K : PySem.W.Frag) (pre : List PyData → Prop) (post : List PyData → PyData → Prop) : Sp := fun vs H Q _ => ∃ (S : Hp) (b : Bg) (ds : List PyData), Okk none b S H ∧ Reps K S vs ds ∧ pre ds ∧
  ∀ S' H' v d, Go none b S H S' H' → Rep K S' v d → post ds d → Q v H'
/-- a def that draws: the bag is its first argument -/
def spG (K : PySem.W.Frag) (pre : List PyData → Prop) (post : List PyData → PyData → Prop) : Sp := fun vs H Q _ => ∃ (S : Hp) (b : Bg) (ws : List V) (ds : List PyData), vs = .ref b.1 :: ws ∧ Okk (some 0) b S H ∧ Reps K S ws ds ∧ pre ds ∧
  ∀ S' H' v d, Go (some 0) b S H S' H' → Rep K S' v d → post ds d → Q v H'
def dCall (pre : List PyData → Prop) (post : List PyData → PyData → Prop) (d : DA) : DE := fun δ R => d δ fun ds => pre ds ∧ ∀ r, post ds r → R r
theorem sim_callP {pre : List PyData → Prop} {post : List PyData → PyData → Prop} {E : XK} {t : TA} {d : DA} (h1 : SimA K ib b t d) : SimE K ib b (tCall (spP K pre post) [] E t) (dCall pre post d) := by
  intro H0 S H σ δ R Q o e h k
  refine h1 H0 S H σ δ _ _ o e h fun S1 H1 vs ds g r q => ?_
  rw [List.append_nil]
  refine ⟨S1, b, ds, g.ok.pure, r, q.1, fun S2 H2 v d g2 r2 q2 => ?_⟩
  exact k S2 H2 v d (g.trans o (Go.ofPure g.ok g2)) r2 (q.2 d q2)
theorem sim_callG {pre : List PyData → Prop} {post : List PyData → PyData → Prop} {E : XK} {t : TA} {d : DA} {i : Nat} (hi : ib = some i) (h1 : SimA K ib b t d) :
    SimE K ib b (tCall (spG K pre post) [] E (tCons (tVar i) t)) (dCall pre post d) := by
  intro H0 S H σ δ R Q o e h k
  refine ⟨_, e.slot i hi, ?_⟩
  refine h1 H0 S H σ δ _ _ o e h fun S1 H1 vs ds g r q => ?_
  show spG K pre post ((V.ref b.1 :: vs) ++ []) H1 Q E
  rw [List.append_nil]
  subst hi
  refine ⟨S1, b, vs, ds, rfl, g.ok.as, r, q.1, fun S2 H2 v d g2 r2 q2 => ?_⟩
  exact k S2 H2 v d (g.trans o g2.as) r2 (q.2 d q2)
/-- a def's entry -/
def startD (n : Nat) (ds : List (Option DV)) : DEnv := ds ++ List.replicate (n - ds.length) none
theorem start_get {N : List Str} {vs : List V} {i : Nat} {v : V} (h : vs[i]? = some v) : (L2.start N vs)[i]? = some (some v) := by
  unfold L2.start
  have hl : i < vs.length := (List.getElem?_eq_some_iff.mp h).1
  rw [List.getElem?_append_left (by simpa using hl), List.getElem?_map, h]
  rfl
theorem startD_get {n : Nat} {ds : List (Option DV)} {i : Nat} {x : DV} (h : (startD n ds)[i]? = some (some x)) : ds[i]? = some (some x) := by
  unfold startD at h
  by_cases hl : i < ds.length
  · rw [List.getElem?_append_left hl] at h
    exact h
  · rw [List.getElem?_append_right (by omega), List.getElem?_replicate] at h
    split at h <;> cases h
theorem env_start {N : List Str} {S H H0 : Hp} {vs : List V} {ds : List PyData} (r : Reps K S vs ds) : EnvOk K none b H0 S H (L2.start N vs) (startD N.length (ds.map fun d => some (.dat d))) := by
  refine ⟨?_, fun i z => by (cases z), fun i d h => ?_, fun i es h => ?_, fun i a h => ?_⟩
  · unfold L2.start startD
    rw [List.length_append, List.length_append, List.length_map, List.length_map, List.length_replicate, List.length_replicate, r.length]
  · have h := startD_get h
    rw [List.getElem?_map] at h
    cases e : ds[i]? with
    | none => rw [e] at h; cases h
    | some d' =>
      rw [e] at h
      cases h
      obtain ⟨v, hv, rv⟩ := r.get e
      exact ⟨v, start_get hv, rv⟩
  · have h := startD_get h
    rw [List.getElem?_map] at h
    cases e : ds[i]? with
    | none => rw [e] at h; cases h
    | some d' => rw [e] at h; cases h
  · have h := startD_get h
    rw [List.getElem?_map] at h
    cases e : ds[i]? with
    | none => rw [e] at h; cases h
    | some d' => rw [e] at h; cases h
theorem env_startG {N : List Str} {S H H0 : Hp} {vs : List V} {ds : List PyData} (r : Reps K S vs ds) :
    EnvOk K (some 0) b H0 S H (L2.start N (.ref b.1 :: vs)) (startD N.length (none :: ds.map fun d => some (.dat d))) := by
  refine ⟨?_, fun i z => ?_, fun i d h => ?_, fun i es h => ?_, fun i a h => ?_⟩
  · unfold L2.start startD
    simp only [List.length_append, List.length_map, List.length_replicate, List.length_cons, r.length]
  · cases z
    exact start_get rfl
  · have h := startD_get h
    cases i with
    | zero => cases h
    | succ i =>
      rw [List.getElem?_cons_succ, List.getElem?_map] at h
      cases e : ds[i]? with
      | none => rw [e] at h; cases h
      | some d' =>
        rw [e] at h
        cases h
        obtain ⟨v, hv, rv⟩ := r.get e
        exact ⟨v, start_get (by simpa using hv), rv⟩
  · have h := startD_get h
    cases i with
    | zero => cases h
    | succ i =>
      rw [List.getElem?_cons_succ, List.getElem?_map] at h
      cases e : ds[i]? with
      | none => rw [e] at h; cases h
      | some d' => rw [e] at h; cases h
  · have h := startD_get h
    cases i with
    | zero => cases h
    | succ i =>
      rw [List.getElem?_cons_succ, List.getElem?_map] at h
      cases e : ds[i]? with
      | none => rw [e] at h; cases h
      | some d' => rw [e] at h; cases h
/-- a def's body keeps its promise, if its reading over data does -/
theorem body_P {ts : TS} {dst : DS} {pre : List PyData → Prop} {post : List PyData → PyData → Prop} {N : List Str} (sim : ∀ b, SimS K none b ts dst)
    (h : ∀ ds, pre ds → dst { nx := fun _ => post ds .none, rt := post ds } (startD N.length (ds.map fun d => some (.dat d))))
    {vs : List V} {H : Hp} {Q : VK} {E : XK} (q : spP K pre post vs H Q E) : ts { nx := fun _ H' => Q .non H', rt := Q } (L2.start N vs) H := by
  obtain ⟨S, b, ds, o, r, hp, k⟩ := q
  refine sim b S H S S H _ _ _ _ o (Ex.refl S) (Go.refl o) (env_start r) (h ds hp) ⟨?_, ?_, ?_, ?_, ?_⟩
  · intro S' H' σ' δ' g _ _ z
    exact k S' H' .non .none g .non z
  · intro S' H' v d g _ rv z
    exact k S' H' v d g rv z
  · intro S' H' σ' δ' g _ _ z
    exact z
  · intro S' H' σ' δ' g _ _ z
    exact z
  · intro S' H' p xs es g _ _ _ _ _ z
    exact z.elim
theorem body_G {ts : TS} {dst : DS} {pre : List PyData → Prop} {post : List PyData → PyData → Prop} {N : List Str} (sim : ∀ b, SimS K (some 0) b ts dst)
    (h : ∀ ds, pre ds → dst { nx := fun _ => post ds .none, rt := post ds } (startD N.length (none :: ds.map fun d => some (.dat d))))
    {vs : List V} {H : Hp} {Q : VK} {E : XK} (q : spG K pre post vs H Q E) : ts { nx := fun _ H' => Q .non H', rt := Q } (L2.start N vs) H := by
  obtain ⟨S, b, ws, ds, rfl, o, r, hp, k⟩ := q
  refine sim b S H S S H _ _ _ _ o (Ex.refl S) (Go.refl o) (env_startG r) (h ds hp) ⟨?_, ?_, ?_, ?_, ?_⟩
  · intro S' H' σ' δ' g _ _ z
    exact k S' H' .non .none g .non z
  · intro S' H' v d g _ rv z
    exact k S' H' v d g rv z
  · intro S' H' σ' δ' g _ _ z
    exact z
  · intro S' H' σ' δ' g _ _ z
    exact z
  · intro S' H' p xs es g _ _ _ _ _ z
    exact z.elim
end
end DL

namespace DL
open PySem PySem.Spec PyProof.Rows L2
open Evl (Ex ex_l ex_t)

/-- a def of the text by its body, where no guard stands -/
theorem ok_G {P : Program} {w : World} {K : PySem.W.Frag} {mg : Str → Option Value} {base : Heap} {x qual : Str} {st : Stmt} {f : Addr} {fd : FuncData} {N ps : List Str} {k : Nat} {sp : Sp}
    (F : Fun K x qual st f fd) (S : FnScope N ps (defScope st)) (len : ∀ vs H Q E, sp vs H Q E → vs.length = ps.length)
    (hbody : ∀ (cdv : Value) (A : Around) (outer : List Env) (s : Shared) (H : Hp) (vs : List V) (Q : VK) (E : XK),
      RoomG k (A.deeper (envOfC qual (defScope st) s.heap.objs.size f cdv)) → sp vs H Q E →
      ∃ t, PSs (cxOf L2.CX0 P w K mg base N qual (defScope st) f cdv A outer s H E).nox (defBody st) t ∧
        t { nx := fun _ H' => Q .non H', rt := Q } (L2.start N vs) H) : FnG P w K mg base L2.CX0 (k + 1) f fd ps sp := by
  obtain ⟨oc, od, kV, doc, pm, an, cdv, ct, osl, rfl, lk, hcd⟩ := F.ex
  refine fn_ofG lk hcd S len ?_
  intro A outer s H vs Q E hr hsp
  obtain ⟨t, h, q⟩ := hbody cdv A outer s H vs Q E hr hsp
  exact ⟨t, h.nox, q⟩
theorem len_P {K : PySem.W.Frag} {pre : List PyData → Prop} {post : List PyData → PyData → Prop} {n : Nat} (h : ∀ ds, pre ds → ds.length = n) : ∀ vs H Q E, spP K pre post vs H Q E → vs.length = n := by
  rintro vs H Q E ⟨S, b, ds, o, r, p, k⟩
  rw [r.length]
  exact h ds p
theorem len_G {K : PySem.W.Frag} {pre : List PyData → Prop} {post : List PyData → PyData → Prop} {n : Nat} (h : ∀ ds, pre ds → ds.length = n) : ∀ vs H Q E, spG K pre post vs H Q E → vs.length = n + 1 := by
  rintro vs H Q E ⟨S, b, ws, ds, rfl, o, r, p, k⟩
  rw [List.length_cons, r.length, h ds p]

/-! ### a text turned round -/
def tRevS (te : TE) : TE := fun σ H Q => te σ H fun x H1 => ∃ z : Str, x = .str z ∧ z.length ≤ 100000 ∧
  ∀ y : Str, y.length ≤ z.length → (∀ c ∈ y.cps.toList, c ∈ z.cps.toList) → Q (.str y) H1
theorem pe_revS {X : Cx} {e : Expr} {te : TE} {k : Nat} {p1 p2 p3 pos : Pos} (he : PE X e te) :
    PE X (.Subscript e (.Slice none none (some (.UnaryOp .USub (.Constant (.int 1) k p1) p2)) p3) pos) (tRevS te) := by
  constructor
  intro pins s σ H Q I h
  apply Subscript_
  refine thn (he.run pins s σ H _ I h) ?_
  rintro v s1 ⟨x, H1, I1, r1, z, rfl, hz, q⟩
  obtain ⟨tz, rfl⟩ := (show ∃ t, v = Value.str z t from r1)
  have minus : PO X (some (.UnaryOp .USub (.Constant (.int 1) k p1) p2)) (tPart (tUn (rU fun i => .int (-i)) (tC (.int 1)))) := po_some (pe_un un_neg pe_int)
  apply wpAny_Slice
  refine thn (po_none.run pins s1 σ H1 (fun o H2 => o = none ∧ H2 = H1) I1 ⟨rfl, rfl⟩) ?_
  rintro vl s2 ⟨l, H2, I2, pl, rfl, rfl⟩
  refine thn (po_none.run pins s2 σ H2 (fun o H3 => o = none ∧ H3 = H2) I2 ⟨rfl, rfl⟩) ?_
  rintro vu s3 ⟨u, H3, I3, pu, rfl, rfl⟩
  refine thn (minus.run pins s3 σ H3 (fun o H4 => o = some (-1) ∧ H4 = H3) I3 ⟨1, rfl, -1, rfl, rfl, rfl⟩) ?_
  rintro vs s4 ⟨o, H4, I4, ps, rfl, rfl⟩
  have hl : vl = Value.none := by cases pl; rfl
  have hu : vu = Value.none := by cases pu; rfl
  obtain ⟨tk, hs⟩ : ∃ tk, vs = Value.int (-1) tk := by
    cases ps with
    | int i t => exact ⟨t, rfl⟩
  subst hl hu hs
  have I5 : Inv X pins σ H4 { s4 with heap := s4.heap.push { cls := .type "slice", data := .fields #[Value.none, Value.none, Value.int (-1) tk] } } :=
    I4.kept (t' := s4.toks) (fun b ob q => Heap.get?_push_of_some _ q)
  refine tail_any (ops := [.ref s4.heap.objs.size, .str z tz]) (typeIs_str _ _ _) (F.slot_str_getitem.lookup) ?_ (by with_unfolding_all rfl)
  refine wpAny_getItem_str_slice (l := none) (u := none) (st := some (-1, tk)) ⟨_, Heap.get?_push_size _ rfl, rfl, rfl⟩ rfl ?_
  have bound := Txt.sliceBy_le z none none (-1, tk) (show (-1 : Int) ≠ 0 by decide)
  have neg : (((some (-1, tk) : Option (Int × Tok)).map (·.1)).getD 1 == 1 && (slicePicked z none none (some (-1, tk))).length == z.length) = true → False := by
    intro c
    rw [Bool.and_eq_true] at c
    exact absurd (show ((-1 : Int) == 1) = true from c.1) (by decide)
  unfold Txt.sliceBy at bound
  rw [if_neg neg] at bound
  unfold sliceMade
  rw [if_neg neg]
  refine ⟨?_, .str _, H4, I5.tok _, ⟨_, rfl⟩, q _ bound ?_⟩
  · exact Nat.le_trans bound (Evl.sz_of hz)
  · intro c hc
    have hc' : c ∈ (slicePicked z none none (some (-1, tk))).filterMap (z.cps[·]?) := by simpa using hc
    obtain ⟨i, _, hi⟩ := List.mem_filterMap.mp hc'
    rw [← Array.getElem?_toList] at hi
    exact List.mem_of_getElem? hi
section
variable {K : PySem.W.Frag} {ib : Option Nat} {b : Bg} {te to : TE} {de dO' : DE}
def dRevS (de : DE) : DE := fun δ R => de δ fun d => match d with
  | .str z => small z.length = true ∧ ∀ y : Str, y.length ≤ z.length → (∀ c ∈ y.cps.toList, c ∈ z.cps.toList) → R (.str y)
  | _ => False
theorem sim_revS (h1 : SimE K ib b te de) : SimE K ib b (tRevS te) (dRevS de) := by
  intro H0 S H σ δ R Q o e h k
  refine h1 H0 S H σ δ _ _ o e h fun S1 H1 v dv g r q => ?_
  split at q
  · rw [r.strV]
    exact ⟨_, rfl, of_decide_eq_true q.1, fun y h1 h2 => k S1 H1 _ _ g (.str y) (q.2 y h1 h2)⟩
  · exact q.elim
/-- s.upper() -/
def rUpper : V → List V → Hp → VK → Prop := fun x xs H Q => ∃ a, x = .str a ∧ xs = [] ∧ a.length ≤ 5592405 ∧ Q (.str (Txt.upper a)) H
def dUpper (de : DE) : DE := fun δ R => de δ fun d => match d with
  | .str z => small z.length = true ∧ R (.str (Txt.upper z))
  | _ => False
theorem sim_upper (h1 : SimE K ib b te de) : SimE K ib b (tM0 rUpper te) (dUpper de) := by
  intro H0 S H σ δ R Q o e h k
  refine h1 H0 S H σ δ _ _ o e h fun S1 H1 v dv g r q => ?_
  split at q
  · rw [r.strV]
    have := of_decide_eq_true q.1
    exact ⟨⟨_, rfl⟩, _, rfl, rfl, by omega, k S1 H1 _ _ g (.str _) q.2⟩
  · exact q.elim
/-- s.join(xs) -/
def strsOf : List PyData → Option (List Str)
  | [] => some []
  | .str c :: r => (strsOf r).map (c :: ·)
  | _ => none
theorem strs_rep {S : Hp} : ∀ {vs : List V} {ds : List PyData} {bs : List Str}, Reps K S vs ds → strsOf ds = some bs → vs = bs.map V.str
  | _, _, bs, .nil, h => by
    rw [strsOf] at h
    cases h
    rfl
  | _, _, bs, .cons r q, h => by
    cases r with
    | str c =>
      rw [strsOf] at h
      obtain ⟨w, hw, rfl⟩ := Option.map_eq_some_iff.mp h
      rw [strs_rep q hw]
      rfl
    | _ => simp [strsOf] at h
def rJoin (K : PySem.W.Frag) : V → List V → Hp → VK → Prop := fun x xs H Q => ∃ a p, ∃ ys : List Str, x = .str a ∧ xs = [.ref p] ∧ (SqL K H p (ys.map V.str) ∨ SqT K H p (ys.map V.str)) ∧
  (ys.map (·.length)).sum + ys.length * a.length ≤ 16777216 ∧ Q (.str (Txt.join a ys)) H
def dJoin (ds de : DE) : DE := fun δ R => ds δ fun d => de δ fun y => match d, y with
  | .str a, .list xs => ∃ ys, strsOf xs = some ys ∧ (ys.map (·.length)).sum + ys.length * a.length ≤ 16777216 ∧ R (.str (Txt.join a ys))
  | _, _ => False
theorem sim_join {ts : TE} {ds : DE} (h0 : ∀ δ R, ds δ R → ds δ fun d => R d ∧ ∃ a, d = .str a) (h1 : SimE K ib b ts ds) (h2 : SimE K ib b te de) : SimE K ib b (tM1 (rJoin K) ts te) (dJoin ds de) := by
  intro H0 S H σ δ R Q o e h k
  refine h1 H0 S H σ δ _ _ o e (h0 δ _ h) fun S1 H1 v dv g r q => ?_
  obtain ⟨q, a, rfl⟩ := q
  rw [r.strV]
  refine ⟨⟨a, rfl⟩, ?_⟩
  refine h2 H0 S1 H1 σ δ _ _ g.ok (e.go g) q fun S2 H2 w dw g2 r2 q2 => ?_
  split at q2
  · rename_i a' xs e1
    cases e1
    obtain ⟨p, us, rfl, hq, qs⟩ := r2.lstV
    obtain ⟨ys, hy, hz, q2⟩ := q2
    have eu := strs_rep qs hy
    subst eu
    exact ⟨_, p, ys, rfl, rfl, .inl (SqL.of (g2.ok.sub _ _ hq)), hz, k S2 H2 _ _ (g.trans o g2) (.str _) q2⟩
  · exact q2.elim
end

/-! ### the bag and its draws, in the layer's own readings -/
section
variable {X : Cx}
/-- xs[k] as it is read ahead of xs[k] op= e -/
def rAt (K : PySem.W.Frag) : V → V → Hp → VK → Prop := fun x y H Q => ∃ p xs, ∃ j : Nat, ∃ v, x = .ref p ∧ y = .int (j : Int) ∧ SqL K H p xs ∧ xs[j]? = some v ∧ Q v H
theorem pget_list : PGet X (rAt X.K) := by
  intro pins s σ H o i ov iv Q I ro ri h
  obtain ⟨p, xs, j, v, rfl, rfl, hs, ha, q⟩ := h
  cases (show ov = Value.ref p from ro)
  obtain ⟨t, rfl⟩ := (show ∃ t, iv = Value.int (j : Int) t from ri)
  obtain ⟨its, r, pl, hz⟩ := I.list hs
  obtain ⟨u, hu, ru⟩ := r.get ha
  have hj : j < xs.length := (List.getElem?_eq_some_iff.mp ha).1
  have hs : sizeLine = 16777216 := sizeLine_eq
  exact wpAny_getItem_list pl.isList (by omega) (by omega) (by simpa using hu) ⟨v, H, I, ru, q⟩
end
end DL

/-! Dict displays of no, of one entry. -/
namespace DL
open PySem PySem.Spec PyProof.Rows L2
open Evl (Ex ex_l ex_t)

def tDispT (tk tv : TE) : TE := fun σ H Q => ∀ p, H p = none → tPairs [(tk, tv)] σ (upd H p (.dT [])) fun ps H2 => H2 p = some (.dT []) ∧
  ∃ (ks : List Key) (a : Addr) (y : V), ps = [(.ref a, y)] ∧ H2 a = some (.tup (ks.map kV)) ∧ Q (.ref p) (upd H2 p (.dT [(ks, y)]))
theorem pe_dispT {X : Cx} {pos : Pos} {k v : Expr} {tk tv : TE} (hu : X.A.units + 64 < cLine) (hk : PE X k tk) (hv : PE X v tv) : PE X (.Dict [some k] [v] pos) (tDispT tk tv) := by
  constructor
  intro pins s σ H Q I q
  have hn := I.hok.fresh (Nat.le_refl s.heap.objs.size)
  have I1 := I.laid (a := s.heap.objs.size) (o := .dT []) (h' := s.heap.push { cls := .type "dict", data := .dict #[] }) (t' := s.toks)
    (fun _ _ q => Heap.get?_push_of_some _ q) (Nat.le_refl _) (dt_empty s.heap I.big)
  have one : PPs X pos [some k] [v] [(tk, tv)] := pps_cons hk hv pps_nil
  have shape := zip_pairTrees [some k] [v] X.env pos rfl rfl
  have len1 : (pairTrees [some k] [v] X.env pos).length = 1 := pairTrees_length [some k] [v] X.env pos rfl rfl
  rw [arm_eval_Dict, shape, dictDisplay_pairs _ (by intro z; rw [z] at len1; cases len1) (by rw [len1]; decide)]
  apply wpAny_bind
  apply wpAny_standAt
  apply wpAny_bind
  refine wpAny_subDictH (knd := tupleKind (mixKind X.prog X.w)) (Q := fun d s' => wpAny _ _ (pure (Value.ref d)) _ _ s') (show X.A.units < cLine by omega) (by rw [len1]; decide) ?_
  refine thn (one.run pins _ σ _ _ I1 (q _ hn)) ?_
  · rintro ws s2 ⟨ps, H2, I2, rel, e, ks, a, y, rfl, ea, q2⟩
    cases rel with
    | cons r1 r2 =>
      cases r2
      rename_i kv
      obtain ⟨u1, u2⟩ := kv
      obtain ⟨ra, rb⟩ := r1
      cases (show u1 = Value.ref a from ra)
      have kd := key_of I2.hok ea
      obtain ⟨z, hd, xs, r0, dd⟩ := dt_rd I2.hok (.inl e)
      cases r0
      refine ⟨[(ks, a, u2)], ⟨rfl, rfl, kd, trivial⟩, dd, fun h' tk' dd' hs => ?_⟩
      apply wpAny_pure
      have he : ∃ q, h'.get? s.heap.objs.size = some q := let ⟨q, _, _, hq, _⟩ := dd'; ⟨q, hq⟩
      refine ⟨.ref s.heap.objs.size, _, d_write I2 (by rw [e]; trivial) hs he ?_, rfl, q2⟩
      obtain ⟨o, es, ep, g1, g2, g3, g4, g5, g6⟩ := dd'
      have ne : a ≠ s.heap.objs.size := by
        intro w
        rw [w, e] at ea
        cases ea
      refine ⟨Nat.le_trans (Nat.le_of_eq rfl) (by decide : 1 ≤ sizeLine), hd, [(ks, a, u2)], .cons ⟨rfl, ?_, rb⟩ .nil, o, es, ep, g1, g2, g3, g4, g6⟩
      rw [upd_ne ne]
      exact ea
section
variable {K : PySem.W.Frag} {ib : Option Nat} {b : Bg} {tk tv : TE} {dk dv : DE}
def dDict0 : DE := fun _ R => R (.dict [])
theorem sim_dict0 : SimE K ib b tDNewK dDict0 := by
  intro H0 S H σ δ R Q o e h k p hp
  have g := Go.laid (u := .dK []) o hp
  exact k _ _ _ (.dict []) g (.dK (kvs := []) (ds := []) upd_same .nil) h
def keyOf : PyData → Option Key
  | .int i => some (.inl i)
  | .str x => some (.inr x)
  | _ => none
def keysOf : List PyData → Option (List Key)
  | [] => some []
  | d :: r => match keyOf d, keysOf r with
    | some k, some ks => some (k :: ks)
    | _, _ => none
theorem keyOf_rep {S : Hp} {v : V} {d : PyData} {k : Key} (r : Rep K S v d) (h : keyOf d = some k) : v = kV k ∧ d = keyD k := by
  cases r with
  | int i => cases h; exact ⟨rfl, rfl⟩
  | str x => cases h; exact ⟨rfl, rfl⟩
  | _ => cases h
theorem keysOf_rep {S : Hp} : ∀ {vs : List V} {ds : List PyData} {ks : List Key}, Reps K S vs ds → keysOf ds = some ks → vs = ks.map kV ∧ ds = ks.map keyD
  | _, _, ks, .nil, h => by
    rw [keysOf] at h
    cases h
    exact ⟨rfl, rfl⟩
  | _, _, ks, .cons (d := d) (ds := ds) r q, h => by
    rw [keysOf] at h
    cases e1 : keyOf d with
    | none => rw [e1] at h; cases h
    | some k =>
      cases e2 : keysOf ds with
      | none => rw [e1, e2] at h; cases h
      | some ks' =>
        rw [e1, e2] at h
        cases h
        obtain ⟨a1, a2⟩ := keyOf_rep r e1
        obtain ⟨b1, b2⟩ := keysOf_rep q e2
        rw [a1, a2, b1, b2]
        exact ⟨rfl, rfl⟩
def dDictK (dk dv : DE) : DE := fun δ R => dk δ fun x => dv δ fun y => (keyOf x).isSome = true ∧ R (.dict [(x, y)])
def dDictT (d : DA) (dv : DE) : DE := fun δ R => d δ fun xs => dv δ fun y => (small xs.length = true ∧ (keysOf xs).isSome = true) ∧ R (.dict [(.tuple xs, y)])
theorem sim_dictK (h1 : SimE K ib b tk dk) (h2 : SimE K ib b tv dv) : SimE K ib b (tDisp [(tk, tv)]) (dDictK dk dv) := by
  intro H0 S H σ δ R Q o e h k p hp
  have g0 := Go.laidOwn (u := .dK []) o hp
  have np : ib ≠ none → p ≠ b.1 := fun z w => (o.bag z).tr (w ▸ hp)
  have sp : S p = none := Ex.none_of o.sub hp
  refine h1 H0 S _ σ δ _ _ g0.ok (e.go g0) h fun S1 H1 x dx g1 r1 q1 => ?_
  have p1 := g1.keep p _ np upd_same
  have s1 := g1.new p (by rw [upd_same]; exact Option.some_ne_none _) sp
  have g01 := g0.trans o g1
  refine h2 H0 S1 H1 σ δ _ _ g1.ok (e.go g01) q1 fun S2 H2 y dy g2 r2 q2 => ?_
  have p2 := g2.keep p _ np p1
  have s2 := g2.new p (by rw [p1]; exact Option.some_ne_none _) s1
  have g02 := g01.trans o g2
  obtain ⟨c, hc⟩ := Option.isSome_iff_exists.mp q2.1
  obtain ⟨rfl, rfl⟩ := keyOf_rep (r1.mono g2.st) hc
  refine ⟨p2, [(c, y)], rfl, Nat.le_trans (Nat.le_of_eq rfl) (by decide : 1 ≤ 15), ?_⟩
  have g3 := Go.freeze (u := .dK (mergeK [] [(c, y)])) o (Go.ownUpd (u := .dK (mergeK [] [(c, y)])) o g02 hp s2) hp s2 upd_same
  exact k _ _ _ _ g3 (.dK (kvs := [(c, y)]) (ds := [dy]) upd_same (.cons (r2.mono (Ex.new s2)) .nil)) q2.2
theorem sim_dictT {t : TA} {d : DA} (hlen : ∀ δ R, d δ R → d δ fun xs => small xs.length = true ∧ R xs) (h1 : SimA K ib b t d) (h2 : SimE K ib b tv dv) : SimE K ib b (tDispT (tTup t) tv) (dDictT d dv) := by
  intro H0 S H σ δ R Q o e h k p hp
  have g0 := Go.laidOwn (u := .dT []) o hp
  have np : ib ≠ none → p ≠ b.1 := fun z w => (o.bag z).tr (w ▸ hp)
  have sp : S p = none := Ex.none_of o.sub hp
  refine h1 H0 S _ σ δ _ _ g0.ok (e.go g0) (hlen δ _ h) fun S1 H1 us xs g1 r1 q1 => ⟨by rw [r1.length]; exact small_ok q1.1, fun a ha => ?_⟩
  have p1 := g1.keep p _ np upd_same
  have s1 := g1.new p (by rw [upd_same]; exact Option.some_ne_none _) sp
  have g01 := g0.trans o g1
  have gt := Go.laid (u := .tup us) g1.ok ha
  have pt := gt.keep p _ np p1
  have st := gt.new p (by rw [p1]; exact Option.some_ne_none _) s1
  have g0t := g01.trans o gt
  have na : ib ≠ none → a ≠ b.1 := fun z w => (g1.ok.bag z).tr (w ▸ ha)
  refine h2 H0 _ _ σ δ _ _ gt.ok (e.go g0t) q1.2 fun S2 H2 y dy g2 r2 q2 => ?_
  have p2 := g2.keep p _ np pt
  have s2 := g2.new p (by rw [pt]; exact Option.some_ne_none _) st
  have a2 := g2.keep a _ na upd_same
  have g02 := g0t.trans o g2
  obtain ⟨c, hc⟩ := Option.isSome_iff_exists.mp q2.1.2
  obtain ⟨rfl, rfl⟩ := keysOf_rep r1 hc
  refine ⟨p2, c, a, y, rfl, a2, ?_⟩
  have g3 := Go.freeze (u := .dT [(c, y)]) o (Go.ownUpd (u := .dT [(c, y)]) o g02 hp s2) hp s2 upd_same
  exact k _ _ _ _ g3 (.dT (kvs := [(c, y)]) (ds := [dy]) upd_same (.cons (r2.mono (Ex.new s2)) .nil)) q2.2
end
end DL

namespace DL
open PySem PySem.Spec PyProof.Rows L2
open Evl (Ex ex_l ex_t)
section
variable {K : PySem.W.Frag} {ib : Option Nat} {b : Bg} {te : TE} {de : DE}
theorem cut_mem {α : Type} {xs : List α} {lo hi : Option Int} {x : α} (h : x ∈ cutD xs lo hi) : x ∈ xs := List.mem_of_mem_drop (List.mem_of_mem_take h)
theorem cut_len {α : Type} (xs : List α) (lo hi : Option Int) : (cutD xs lo hi).length ≤ xs.length := by
  unfold cutD
  rw [List.length_take, List.length_drop]
  omega
theorem cut_map {α β : Type} (f : α → β) (xs : List α) (lo hi : Option Int) : cutD (xs.map f) lo hi = (cutD xs lo hi).map f := by
  unfold cutD
  rw [List.length_map, List.map_take, List.map_drop]
/-- bag[3][bag[2]:] -/
theorem sim_cells {i : Nat} (hi : ib = some i) : SimE K ib b (tSl (rSlU K) (tOp (rIx K) (tVar i) (tC (.int 3))) (tPart (tOp (rIx K) (tVar i) (tC (.int 2)))) tNoPart) dCells := by
  intro H0 S H σ δ R Q o e h k
  obtain ⟨r, m, n, ns, e1, ne, e2, e3, h1, h2, h3⟩ := (o.bag (by rw [hi]; simp)).ex
  refine ⟨_, e.slot i hi, .inl ⟨b.1, _, 3, _, rfl, rfl, SqL.of e1, at4 (by omega), ?_⟩⟩
  refine ⟨_, e.slot i hi, .inl ⟨b.1, _, 2, _, rfl, rfl, SqL.of e1, at4 (by omega), ?_⟩⟩
  refine ⟨n, rfl, ?_⟩
  refine .inl (.inl ⟨b.2, _, rfl, SqL.of e2, fun p hp => ?_⟩)
  have ec : cutV (ns.map V.int) (some n) none = (cutD ns (some n) none).map V.int := cut_map V.int ns (some n) none
  rw [ec]
  have g := Go.laid (u := .lst ((cutD ns (some n) none).map V.int)) o hp
  refine k _ _ _ _ g (.lst upd_same (Reps.of_ints _)) (h _ (fun x hx => e3 x (cut_mem hx)) (Nat.le_trans (cut_len _ _ _) h3))
/-- bag[2] += e -/
def dBagAug (de : DE) : DS := fun DD δ => de δ fun d => isI d fun _ => DD.nx δ
theorem sim_bagAug {i : Nat} (hi : ib = some i) (h1 : SimE K ib b te de) : SimS K ib b (tAugS (tVar i) (tC (.int 2)) te (rAt K) (ipI fun i j => i + j) rSetL) (dBagAug de) := by
  intro S0 H0 Sm S H σ δ D DD o em g0 e h x
  obtain ⟨r, m, n, ns, e1, ne, e2, e3, h2, h3, h4⟩ := (g0.ok.bag (by rw [hi]; simp)).ex
  refine ⟨_, e.slot i hi, b.1, _, 2, .int n, rfl, rfl, SqL.of e1, rfl, ?_⟩
  refine h1 H0 S H σ δ _ _ g0.ok e h fun S1 H1 v dv g1 rv q => ?_
  obtain ⟨c, rfl, _, q⟩ := isI_of rv q
  refine ⟨n, c, rfl, rfl, ?_⟩
  obtain ⟨r', m', n', ns', f1, fne, f2, f3, f4, f5, f6⟩ := (g1.ok.bag (by rw [hi]; simp)).ex
  have g2 := bag_set hi g1.ok (e.go g1) (r := r') (m := m') (n := n + c) f4 f5
  refine ⟨b.1, _, 2, 2, rfl, rfl, f1, rfl, ?_⟩
  have g12 := g1.trans g0.ok g2
  exact x.nx S1 _ σ δ (g0.trans o g12) (em.trans g1.st) (e.go g12) q
end
end DL

/-! The defs that all laws share: the draws, two found alike, one of some, any odd value, a name. -/
namespace DL
open PySem PySem.Spec PyProof.Rows L2
open Evl (Ex ex_l ex_t)
def pre_l_take : List PyData → Prop := fun ds => match ds with
  | [.int n] => 0 < n ∧ n.natAbs.log2 < 9000
  | _ => False
def post_l_take : List PyData → PyData → Prop := fun ds d => match ds with
  | [.int n] => ∃ i : Int, d = .int i ∧ 0 ≤ i ∧ i < n
  | _ => False
def sp_l_take (K : PySem.W.Frag) : Sp := spG K pre_l_take post_l_take
def pre_l_alike : List PyData → Prop := fun ds => match ds with
  | [x, y] => (eqOk x y && (showOk x && showOk y)) = true
  | _ => False
def post_l_alike : List PyData → PyData → Prop := fun ds d => match ds with
  | [x, y] => d = .bool (PyData.eqv x y && x.shown == y.shown)
  | _ => False
def sp_l_alike (K : PySem.W.Frag) : Sp := spP K pre_l_alike post_l_alike
def pre_l_one : List PyData → Prop := fun ds => match ds with
  | [.list xs] => xs ≠ [] ∧ small xs.length = true
  | [.tuple xs] => xs ≠ [] ∧ small xs.length = true
  | [.str x] => 0 < x.length ∧ small x.length = true
  | _ => False
def post_l_one : List PyData → PyData → Prop := fun ds d => match ds with
  | [.list xs] => d ∈ xs
  | [.tuple xs] => d ∈ xs
  | [.str x] => ∃ c, c ∈ x.cps.toList ∧ d = .str ⟨#[c]⟩
  | _ => False
def sp_l_one (K : PySem.W.Frag) : Sp := spG K pre_l_one post_l_one
def odds : List PyData :=
  let a : PyData := .str "a"
  [.none, .bool true, .bool false, .int 0, .int 1, .int 7, .int (-1), .int (10 ^ 39), .int (-(10 ^ 39)), .str "", a, .str "A", .str "if", .str "tell", .str "yes", .str "no", .str "a1", .str " "] ++
  [.str "a\n", .str "abcdefghi", .tuple [], .list [], .dict [], .tuple [a], .list [a], .tuple [.str "A"], .tuple [.str "if"], .tuple [a, .str "b"], .tuple [.tuple [a]], .tuple [a, .int 0]] ++
  [.tuple [a, .list [.str "b"]], .tuple [.str "tell"], .tuple [.str "yes", .str "no"], .list [.str "yes"], .tuple [.str "alike", .tuple [a]], .dict [(a, .int 1)], .dict [(.tuple [a], .int 1)], .tuple [.none]] ++
  [.list [.list []], .dict [(.int 1, .tuple [a])]]
def pre_l_odd : List PyData → Prop := fun ds => ds = []
def post_l_odd : List PyData → PyData → Prop := fun _ d => d ∈ odds
def sp_l_odd (K : PySem.W.Frag) : Sp := spG K pre_l_odd post_l_odd
/-- the words that are no names -/
def noNames : List Str := ["alike", "go", "if", "no", "tell", "unlike", "with", "yes"]
def lower (c : Nat) : Bool := decide (97 ≤ c) && decide (c ≤ 122)
def isNm (x : Str) : Bool := decide (1 ≤ x.length) && decide (x.length ≤ 8) && !(noNames.any (· == x)) && x.cps.toList.all lower
def pre_l_name : List PyData → Prop := fun ds => ds = []
def post_l_name : List PyData → PyData → Prop := fun _ d => ∃ x, d = .str x ∧ isNm x = true
def sp_l_name (K : PySem.W.Frag) : Sp := spG K pre_l_name post_l_name
theorem n_l_take : ∀ ds, pre_l_take ds → ds.length = 1 := by
  intro ds h
  unfold pre_l_take at h
  first | (split at h <;> first | rfl | exact h.elim) | (subst h; rfl)
theorem n_l_alike : ∀ ds, pre_l_alike ds → ds.length = 2 := by
  intro ds h
  unfold pre_l_alike at h
  first | (split at h <;> first | rfl | exact h.elim) | (subst h; rfl)
theorem n_l_one : ∀ ds, pre_l_one ds → ds.length = 1 := by
  intro ds h
  unfold pre_l_one at h
  first | (split at h <;> first | rfl | exact h.elim) | (subst h; rfl)
theorem n_l_odd : ∀ ds, pre_l_odd ds → ds.length = 0 := by
  intro ds h
  unfold pre_l_odd at h
  first | (split at h <;> first | rfl | exact h.elim) | (subst h; rfl)
theorem n_l_name : ∀ ds, pre_l_name ds → ds.length = 0 := by
  intro ds h
  unfold pre_l_name at h
  first | (split at h <;> first | rfl | exact h.elim) | (subst h; rfl)
def t_l_take (K : PySem.W.Frag) : TS := (tSeq (tIfS (tTest (tOp (rEqU K) (tOp (rIx K) (tVar 0) (tC (.int 0))) (tC (.int 0)))) (tSeq (tAsg (tOp (rIx K) (tOp (rAddU K) (tSl (rSlU K) (tOp (rIx K) (tVar 0) (tC (.int 3))) (tPart (tOp (rIx K) (tVar 0) (tC (.int 2)))) tNoPart) (tLst (tCons (tC (.int 0)) tNil))) (tC (.int 0))) (gName 2))
    (tSeq (tAugS (tVar 0) (tC (.int 2)) (tC (.int 1)) (rAt K) (ipI fun i j => i + j) rSetL)
    (tSeq (tAsg (tOp (rI CMul fun i j => .int (i * j)) (tVar 2) (tCB rInt1 (tCons (tOp (rLtU (fun i j => decide (j ≤ i)) fun i j => !ltS i j) (tVar 2) (tOp (rI CPow fun i j => .int (i ^ j.toNat)) (tC (.int 10)) (tC (.int 18)))) tNil))) (gSub (tVar 0) (tC (.int 0)) rSetL))
    (tSeq (tAsg (tOp (rAddU K) (tOp (rAddU K) (tOp (rI CMul fun i j => .int (i * j)) (tOp (rIx K) (tVar 0) (tC (.int 1))) (tC (.int 48271))) (tOp (rI (fun _ j => j ≠ 0) fun i j => .int (i.fmod j)) (tCB rInt1 (tCons (tVar 2) tNil)) (tC (.int 2147483647)))) (tOp (rI CMul fun i j => .int (i * j)) (tC (.int 7919)) (tOp (rIx K) (tVar 0) (tC (.int 2))))) (gName 3))
    (tAsg (tOp (rI (fun _ j => j ≠ 0) fun i j => .int (i.fmod j)) (tCB rInt1 (tCons (tVar 3) tNil)) (tC (.int 2147483647))) (gSub (tVar 0) (tC (.int 1)) rSetL)))))) tNext)
    (tSeq (tIfS (tTest (tOp (rLtU (fun i j => decide (j < i)) fun i j => ltS j i) (tOp (rIx K) (tVar 0) (tC (.int 0))) (tC (.int 0)))) (tSeq (tAsg (tTup (tCons (tOp (rI (fun _ j => j ≠ 0) fun i j => .int (i.fmod j)) (tCB rInt1 (tCons (tOp (rIx K) (tVar 0) (tC (.int 0))) tNil)) (tVar 1)) (tCons (tOp (rI CDivW fun i j => .int (i / j)) (tCB rInt1 (tCons (tOp (rIx K) (tVar 0) (tC (.int 0))) tNil)) (tVar 1)) tNil))) (gTup K 2 (gCons (gName 4) (gCons (gSub (tVar 0) (tC (.int 0)) rSetL) gNil))))
    (tRet (tVar 4))) tNext)
    (tSeq (tAsg (tOp (rI (fun _ j => j ≠ 0) fun i j => .int (i.fmod j)) (tCB rInt1 (tCons (tOp (rI CMul fun i j => .int (i * j)) (tOp (rAddU K) (tOp (rIx K) (tVar 0) (tC (.int 1))) (tC (.int 1))) (tC (.int 39373))) tNil)) (tC (.int 1000000007))) (gName 5))
    (tSeq (tAsg (tOp (rI (fun _ j => j ≠ 0) fun i j => .int (i.fmod j)) (tCB rInt1 (tCons (tOp (rI CMul fun i j => .int (i * j)) (tOp (rI (fun _ j => j ≠ 0) fun i j => .int (i.fmod j)) (tCB rInt1 (tCons (tOp (rI CMul fun i j => .int (i * j)) (tVar 5) (tVar 5)) tNil)) (tC (.int 998244353))) (tC (.int 30011))) tNil)) (tC (.int 998244353))) (gName 6))
    (tRet (tOp (rI (fun _ j => j ≠ 0) fun i j => .int (i.fmod j)) (tCB rInt1 (tCons (tOp (rI CDivW fun i j => .int (i / j)) (tVar 6) (tC (.int 7))) tNil)) (tVar 1)))))))
def d_l_take : DS := (dSeq (dIfS (dTest (dOp dEq dBag (dC (.int 0)))) (dSeq (dAsg (dOp dIx (dOp dAdd dCells (dLst (dCons (dC (.int 0)) dNil))) (dC (.int 0))) (dgName 2))
    (dSeq (dBagAug (dC (.int 1)))
    (dSeq (dAsg (dOp (dIC CMul fun i j => i * j) (dVar 2) (dCB dInt1 (dCons (dOp (dLt (fun i j => decide (j ≤ i)) fun i j => !ltS i j) (dVar 2) (dOp (dIC CPow fun i j => i ^ j.toNat) (dC (.int 10)) (dC (.int 18)))) dNil))) dgBag)
    (dSeq (dAsg (dOp dAdd (dOp dAdd (dOp (dIC CMul fun i j => i * j) dBag (dC (.int 48271))) (dOp (dIC (fun _ j => j ≠ 0) fun i j => i.fmod j) (dCB dInt1 (dCons (dVar 2) dNil)) (dC (.int 2147483647)))) (dOp (dIC CMul fun i j => i * j) (dC (.int 7919)) dBagAny)) (dgName 3))
    (dAsg (dOp (dIC (fun _ j => j ≠ 0) fun i j => i.fmod j) (dCB dInt1 (dCons (dVar 3) dNil)) (dC (.int 2147483647))) dgBag))))) dNext)
    (dSeq (dIfS (dTest (dOp (dLt (fun i j => decide (j < i)) fun i j => ltS j i) dBag (dC (.int 0)))) (dSeq (dAsg (dTup (dCons (dOp (dIC (fun _ j => j ≠ 0) fun i j => i.fmod j) (dCB dInt1 (dCons dBag dNil)) (dVar 1)) (dCons (dOp (dIC CDivW fun i j => i / j) (dCB dInt1 (dCons dBag dNil)) (dVar 1)) dNil))) (dgTup 2 (dgCons (dgName 4) (dgCons dgBag dgNil))))
    (dRet (dVar 4))) dNext)
    (dSeq (dAsg (dOp (dIC (fun _ j => j ≠ 0) fun i j => i.fmod j) (dCB dInt1 (dCons (dOp (dIC CMul fun i j => i * j) (dOp dAdd dBag (dC (.int 1))) (dC (.int 39373))) dNil)) (dC (.int 1000000007))) (dgName 5))
    (dSeq (dAsg (dOp (dIC (fun _ j => j ≠ 0) fun i j => i.fmod j) (dCB dInt1 (dCons (dOp (dIC CMul fun i j => i * j) (dOp (dIC (fun _ j => j ≠ 0) fun i j => i.fmod j) (dCB dInt1 (dCons (dOp (dIC CMul fun i j => i * j) (dVar 5) (dVar 5)) dNil)) (dC (.int 998244353))) (dC (.int 30011))) dNil)) (dC (.int 998244353))) (dgName 6))
    (dRet (dOp (dIC (fun _ j => j ≠ 0) fun i j => i.fmod j) (dCB dInt1 (dCons (dOp (dIC CDivW fun i j => i / j) (dVar 6) (dC (.int 7))) dNil)) (dVar 1)))))))
theorem m_l_take {K : PySem.W.Frag} {b : Bg} : SimS K (some 0) b (t_l_take K) (d_l_take) := (sim_seq (sim_if (sim_test (sim_op simr_eq (sim_bag rfl (.inl rfl)) sim_int)) (sim_seq (sim_asg (sim_op simr_ix (sim_op sim_add (sim_cells rfl) (sim_lst (sim_cons sim_int sim_nil))) sim_int) (simg_name (by decide)))
    (sim_seq (sim_bagAug rfl sim_int)
    (sim_seq (sim_asg (sim_op simr_IC sim_var (sim_cb simc_int1 (sim_cons (sim_op simr_lt sim_var (sim_op simr_IC sim_int sim_int)) sim_nil))) (simg_bag rfl (.inl rfl)))
    (sim_seq (sim_asg (sim_op sim_add (sim_op sim_add (sim_op simr_IC (sim_bag rfl (.inr rfl)) sim_int) (sim_op simr_IC (sim_cb simc_int1 (sim_cons sim_var sim_nil)) sim_int)) (sim_op simr_IC sim_int (sim_bag2 rfl))) (simg_name (by decide)))
    (sim_asg (sim_op simr_IC (sim_cb simc_int1 (sim_cons sim_var sim_nil)) sim_int) (simg_bag rfl (.inr rfl))))))) sim_next)
    (sim_seq (sim_if (sim_test (sim_op simr_lt (sim_bag rfl (.inl rfl)) sim_int)) (sim_seq (sim_asg (sim_tup (sim_cons (sim_op simr_IC (sim_cb simc_int1 (sim_cons (sim_bag rfl (.inl rfl)) sim_nil)) sim_var) (sim_cons (sim_op simr_IC (sim_cb simc_int1 (sim_cons (sim_bag rfl (.inl rfl)) sim_nil)) sim_var) sim_nil))) (simg_tup (simg_cons (simg_name (by decide)) (simg_cons (simg_bag rfl (.inl rfl)) simg_nil))))
    (sim_ret sim_var)) sim_next)
    (sim_seq (sim_asg (sim_op simr_IC (sim_cb simc_int1 (sim_cons (sim_op simr_IC (sim_op sim_add (sim_bag rfl (.inr rfl)) sim_int) sim_int) sim_nil)) sim_int) (simg_name (by decide)))
    (sim_seq (sim_asg (sim_op simr_IC (sim_cb simc_int1 (sim_cons (sim_op simr_IC (sim_op simr_IC (sim_cb simc_int1 (sim_cons (sim_op simr_IC sim_var sim_var) sim_nil)) sim_int) sim_int) sim_nil)) sim_int) (simg_name (by decide)))
    (sim_ret (sim_op simr_IC (sim_cb simc_int1 (sim_cons (sim_op simr_IC sim_var sim_int) sim_nil)) sim_var))))))

def t_l_alike (K : PySem.W.Frag) : TS := (tRet (tAndV (tOp (rEqU K) (tVar 0) (tVar 1)) (tOp (rEqU K) (tCB (rRepr K) (tCons (tVar 0) tNil)) (tCB (rRepr K) (tCons (tVar 1) tNil)))))
def d_l_alike : DS := (dRet (dAndV (dOp dEq (dVar 0) (dVar 1)) (dOp dEq (dCB dRepr (dCons (dVar 0) dNil)) (dCB dRepr (dCons (dVar 1) dNil)))))
theorem m_l_alike {K : PySem.W.Frag} {b : Bg} : SimS K none b (t_l_alike K) (d_l_alike) := (sim_ret (sim_andV (sim_op simr_eq sim_var sim_var) (sim_op simr_eq (sim_cb simc_repr (sim_cons sim_var sim_nil)) (sim_cb simc_repr (sim_cons sim_var sim_nil)))))

def t_l_one (K : PySem.W.Frag) : TS := (tRet (tOp (rIx K) (tVar 1) (tCall (sp_l_take K) [] E0 (tCons (tVar 0) (tCons (tCB (rLenU K) (tCons (tVar 1) tNil)) tNil)))))
def d_l_one : DS := (dRet (dOp dIx (dVar 1) (dCall pre_l_take post_l_take (dCons (dCB dLen (dCons (dVar 1) dNil)) dNil))))
theorem m_l_one {K : PySem.W.Frag} {b : Bg} : SimS K (some 0) b (t_l_one K) (d_l_one) := (sim_ret (sim_op simr_ix sim_var (sim_callG rfl (sim_cons (sim_cb simc_len (sim_cons sim_var sim_nil)) sim_nil))))

def t_l_odd (K : PySem.W.Frag) : TS := (tSeq (tAsg (tLst (tCons (tC .non) (tCons (tC (.bl true)) (tCons (tC (.bl false)) (tCons (tC (.int 0)) (tCons (tC (.int 1)) (tCons (tC (.int 7)) (tCons (tUn (rU fun i => .int (-i)) (tC (.int 1))) (tCons (tOp (rI CPow fun i j => .int (i ^ j.toNat)) (tC (.int 10)) (tC (.int 39))) (tCons (tUn (rU fun i => .int (-i)) (tOp (rI CPow fun i j => .int (i ^ j.toNat)) (tC (.int 10)) (tC (.int 39)))) (tCons (tC (.str "")) (tCons (tC (.str "a")) (tCons (tC (.str "A")) (tCons (tC (.str "if")) (tCons (tC (.str "tell")) (tCons (tC (.str "yes")) (tCons (tC (.str "no")) (tCons (tC (.str "a1")) (tCons (tC (.str " ")) tNil))))))))))))))))))) (gName 1))
    (tSeq (tAsg (tOp (rAddU K) (tVar 1) (tLst (tCons (tC (.str "a\n")) (tCons (tC (.str "abcdefghi")) (tCons (tTup tNil) (tCons (tLst tNil) (tCons tDNewK (tCons (tTup (tCons (tC (.str "a")) tNil)) (tCons (tLst (tCons (tC (.str "a")) tNil)) (tCons (tTup (tCons (tC (.str "A")) tNil)) (tCons (tTup (tCons (tC (.str "if")) tNil)) (tCons (tTup (tCons (tC (.str "a")) (tCons (tC (.str "b")) tNil))) (tCons (tTup (tCons (tTup (tCons (tC (.str "a")) tNil)) tNil)) (tCons (tTup (tCons (tC (.str "a")) (tCons (tC (.int 0)) tNil))) tNil)))))))))))))) (gName 1))
    (tSeq (tAsg (tOp (rAddU K) (tVar 1) (tLst (tCons (tTup (tCons (tC (.str "a")) (tCons (tLst (tCons (tC (.str "b")) tNil)) tNil))) (tCons (tTup (tCons (tC (.str "tell")) tNil)) (tCons (tTup (tCons (tC (.str "yes")) (tCons (tC (.str "no")) tNil))) (tCons (tLst (tCons (tC (.str "yes")) tNil)) (tCons (tTup (tCons (tC (.str "alike")) (tCons (tTup (tCons (tC (.str "a")) tNil)) tNil))) (tCons (tDisp [((tC (.str "a")), (tC (.int 1)))]) (tCons (tDispT (tTup (tCons (tC (.str "a")) tNil)) (tC (.int 1))) (tCons (tTup (tCons (tC .non) tNil)) tNil)))))))))) (gName 1))
    (tSeq (tAsg (tOp (rAddU K) (tVar 1) (tLst (tCons (tLst (tCons (tLst tNil) tNil)) (tCons (tDisp [((tC (.int 1)), (tTup (tCons (tC (.str "a")) tNil)))]) tNil)))) (gName 1))
    (tRet (tCall (sp_l_one K) [] E0 (tCons (tVar 0) (tCons (tVar 1) tNil))))))))
def d_l_odd : DS := (dSeq (dAsg (dLst (dCons (dC .none) (dCons (dC (.bool true)) (dCons (dC (.bool false)) (dCons (dC (.int 0)) (dCons (dC (.int 1)) (dCons (dC (.int 7)) (dCons (dUn dNeg (dC (.int 1))) (dCons (dOp (dIC CPow fun i j => i ^ j.toNat) (dC (.int 10)) (dC (.int 39))) (dCons (dUn dNeg (dOp (dIC CPow fun i j => i ^ j.toNat) (dC (.int 10)) (dC (.int 39)))) (dCons (dC (.str "")) (dCons (dC (.str "a")) (dCons (dC (.str "A")) (dCons (dC (.str "if")) (dCons (dC (.str "tell")) (dCons (dC (.str "yes")) (dCons (dC (.str "no")) (dCons (dC (.str "a1")) (dCons (dC (.str " ")) dNil))))))))))))))))))) (dgName 1))
    (dSeq (dAsg (dOp dAdd (dVar 1) (dLst (dCons (dC (.str "a\n")) (dCons (dC (.str "abcdefghi")) (dCons (dTup dNil) (dCons (dLst dNil) (dCons dDict0 (dCons (dTup (dCons (dC (.str "a")) dNil)) (dCons (dLst (dCons (dC (.str "a")) dNil)) (dCons (dTup (dCons (dC (.str "A")) dNil)) (dCons (dTup (dCons (dC (.str "if")) dNil)) (dCons (dTup (dCons (dC (.str "a")) (dCons (dC (.str "b")) dNil))) (dCons (dTup (dCons (dTup (dCons (dC (.str "a")) dNil)) dNil)) (dCons (dTup (dCons (dC (.str "a")) (dCons (dC (.int 0)) dNil))) dNil)))))))))))))) (dgName 1))
    (dSeq (dAsg (dOp dAdd (dVar 1) (dLst (dCons (dTup (dCons (dC (.str "a")) (dCons (dLst (dCons (dC (.str "b")) dNil)) dNil))) (dCons (dTup (dCons (dC (.str "tell")) dNil)) (dCons (dTup (dCons (dC (.str "yes")) (dCons (dC (.str "no")) dNil))) (dCons (dLst (dCons (dC (.str "yes")) dNil)) (dCons (dTup (dCons (dC (.str "alike")) (dCons (dTup (dCons (dC (.str "a")) dNil)) dNil))) (dCons (dDictK (dC (.str "a")) (dC (.int 1))) (dCons (dDictT (dCons (dC (.str "a")) dNil) (dC (.int 1))) (dCons (dTup (dCons (dC .none) dNil)) dNil)))))))))) (dgName 1))
    (dSeq (dAsg (dOp dAdd (dVar 1) (dLst (dCons (dLst (dCons (dLst dNil) dNil)) (dCons (dDictK (dC (.int 1)) (dTup (dCons (dC (.str "a")) dNil))) dNil)))) (dgName 1))
    (dRet (dCall pre_l_one post_l_one (dCons (dVar 1) dNil)))))))
theorem m_l_odd {K : PySem.W.Frag} {b : Bg} : SimS K (some 0) b (t_l_odd K) (d_l_odd) := (sim_seq (sim_asg (sim_lst (sim_cons sim_non (sim_cons sim_bl (sim_cons sim_bl (sim_cons sim_int (sim_cons sim_int (sim_cons sim_int (sim_cons (sim_un simu_neg sim_int) (sim_cons (sim_op simr_IC sim_int sim_int) (sim_cons (sim_un simu_neg (sim_op simr_IC sim_int sim_int)) (sim_cons sim_str (sim_cons sim_str (sim_cons sim_str (sim_cons sim_str (sim_cons sim_str (sim_cons sim_str (sim_cons sim_str (sim_cons sim_str (sim_cons sim_str sim_nil))))))))))))))))))) (simg_name (by decide)))
    (sim_seq (sim_asg (sim_op sim_add sim_var (sim_lst (sim_cons sim_str (sim_cons sim_str (sim_cons (sim_tup sim_nil) (sim_cons (sim_lst sim_nil) (sim_cons sim_dict0 (sim_cons (sim_tup (sim_cons sim_str sim_nil)) (sim_cons (sim_lst (sim_cons sim_str sim_nil)) (sim_cons (sim_tup (sim_cons sim_str sim_nil)) (sim_cons (sim_tup (sim_cons sim_str sim_nil)) (sim_cons (sim_tup (sim_cons sim_str (sim_cons sim_str sim_nil))) (sim_cons (sim_tup (sim_cons (sim_tup (sim_cons sim_str sim_nil)) sim_nil)) (sim_cons (sim_tup (sim_cons sim_str (sim_cons sim_int sim_nil))) sim_nil)))))))))))))) (simg_name (by decide)))
    (sim_seq (sim_asg (sim_op sim_add sim_var (sim_lst (sim_cons (sim_tup (sim_cons sim_str (sim_cons (sim_lst (sim_cons sim_str sim_nil)) sim_nil))) (sim_cons (sim_tup (sim_cons sim_str sim_nil)) (sim_cons (sim_tup (sim_cons sim_str (sim_cons sim_str sim_nil))) (sim_cons (sim_lst (sim_cons sim_str sim_nil)) (sim_cons (sim_tup (sim_cons sim_str (sim_cons (sim_tup (sim_cons sim_str sim_nil)) sim_nil))) (sim_cons (sim_dictK sim_str sim_int) (sim_cons (sim_dictT (fun _ _ h => ⟨rfl, h⟩) (sim_cons sim_str sim_nil) sim_int) (sim_cons (sim_tup (sim_cons sim_non sim_nil)) sim_nil)))))))))) (simg_name (by decide)))
    (sim_seq (sim_asg (sim_op sim_add sim_var (sim_lst (sim_cons (sim_lst (sim_cons (sim_lst sim_nil) sim_nil)) (sim_cons (sim_dictK sim_int (sim_tup (sim_cons sim_str sim_nil))) sim_nil)))) (simg_name (by decide)))
    (sim_ret (sim_callG rfl (sim_cons sim_var sim_nil)))))))

def t_l_name (K : PySem.W.Frag) : TS := (tSeq (tAsg (tLst (tCons (tC (.str "a")) (tCons (tC (.str "b")) (tCons (tC (.str "c")) (tCons (tC (.str "f")) (tCons (tC (.str "g")) (tCons (tC (.str "x")) (tCons (tC (.str "z")) (tCons (tC (.str "ab")) (tCons (tC (.str "ans")) (tCons (tC (.str "iff")) (tCons (tC (.str "gone")) (tCons (tC (.str "tells")) (tCons (tC (.str "withs")) (tCons (tC (.str "abcdefgh")) (tCons (tC (.str "zzzzzzzz")) tNil)))))))))))))))) (gName 1))
    (tSeq (tIfS (tTest (tOp (rLtU (fun i j => decide (j < i)) fun i j => ltS j i) (tCall (sp_l_take K) [] E0 (tCons (tVar 0) (tCons (tC (.int 4)) tNil))) (tC (.int 0)))) (tRet (tCall (sp_l_one K) [] E0 (tCons (tVar 0) (tCons (tVar 1) tNil)))) tNext)
    (tRet (tOp (rAddU K) (tC (.str "k")) (tM1 (rJoin K) (tC (.str "")) (tLc (iRng1 (tCons (tCall (sp_l_take K) [] E0 (tCons (tVar 0) (tCons (tC (.int 8)) tNil))) tNil)) (gName 2) tYes (tCall (sp_l_one K) [] E0 (tCons (tVar 0) (tCons (tC (.str "abcdefghijklmnopqrstuvwxyz")) tNil))) [2]))))))
def d_l_name : DS := (dSeq (dAsg (dLst (dCons (dC (.str "a")) (dCons (dC (.str "b")) (dCons (dC (.str "c")) (dCons (dC (.str "f")) (dCons (dC (.str "g")) (dCons (dC (.str "x")) (dCons (dC (.str "z")) (dCons (dC (.str "ab")) (dCons (dC (.str "ans")) (dCons (dC (.str "iff")) (dCons (dC (.str "gone")) (dCons (dC (.str "tells")) (dCons (dC (.str "withs")) (dCons (dC (.str "abcdefgh")) (dCons (dC (.str "zzzzzzzz")) dNil)))))))))))))))) (dgName 1))
    (dSeq (dIfS (dTest (dOp (dLt (fun i j => decide (j < i)) fun i j => ltS j i) (dCall pre_l_take post_l_take (dCons (dC (.int 4)) dNil)) (dC (.int 0)))) (dRet (dCall pre_l_one post_l_one (dCons (dVar 1) dNil))) dNext)
    (dRet (dOp dAdd (dC (.str "k")) (dJoin (dC (.str "")) (dLc (dRng1 (dCons (dCall pre_l_take post_l_take (dCons (dC (.int 8)) dNil)) dNil)) 2 dYes (dCall pre_l_one post_l_one (dCons (dC (.str "abcdefghijklmnopqrstuvwxyz")) dNil)) [2]))))))
theorem m_l_name {K : PySem.W.Frag} {b : Bg} : SimS K (some 0) b (t_l_name K) (d_l_name) := (sim_seq (sim_asg (sim_lst (sim_cons sim_str (sim_cons sim_str (sim_cons sim_str (sim_cons sim_str (sim_cons sim_str (sim_cons sim_str (sim_cons sim_str (sim_cons sim_str (sim_cons sim_str (sim_cons sim_str (sim_cons sim_str (sim_cons sim_str (sim_cons sim_str (sim_cons sim_str (sim_cons sim_str sim_nil)))))))))))))))) (simg_name (by decide)))
    (sim_seq (sim_if (sim_test (sim_op simr_lt (sim_callG rfl (sim_cons sim_int sim_nil)) sim_int)) (sim_ret (sim_callG rfl (sim_cons sim_var sim_nil))) sim_next)
    (sim_ret (sim_op sim_add sim_str (sim_join (fun _ _ h => ⟨h, _, rfl⟩) sim_str (sim_lc (by decide) (by intro i hi; cases hi <;> decide) (sim_rng1 (sim_cons (sim_callG rfl (sim_cons sim_int sim_nil)) sim_nil)) sim_yes (sim_callG rfl (sim_cons sim_str sim_nil))))))))

end DL

namespace DL
open PySem PySem.Spec PyProof.Rows L2
theorem eqv_ii (i j : Int) : PyData.eqv (.int i) (.int j) = (i == j) := by rw [PyData.eqv]
theorem eqv_ss (i j : Str) : PyData.eqv (.str i) (.str j) = (i == j) := by rw [PyData.eqv]
theorem eqv_bb (i j : Bool) : PyData.eqv (.bool i) (.bool j) = (i == j) := by rw [PyData.eqv]
theorem eqOk_ii (i j : Int) : eqOk (.int i) (.int j) = true := rfl
theorem eqOk_ss (i j : Str) : eqOk (.str i) (.str j) = true := rfl
theorem eqOk_bb (i j : Bool) : eqOk (.bool i) (.bool j) = true := rfl
theorem small_le {n : Nat} (h : n ≤ 100000) : small n = true := decide_eq_true h
theorem at_cells (ns : List Int) (h : ∀ n ∈ ns, 0 ≤ n) : ∃ c : Int, 0 ≤ c ∧ atD (.list ((ns.map PyData.int).append [.int 0])) 0 = some (.int c) := by
  cases ns with
  | nil => exact ⟨0, by decide, rfl⟩
  | cons c cs => exact ⟨c, h c (List.mem_cons_self ..), by
      show L2.atI (PyData.int c :: ((cs.map PyData.int).append [.int 0])) 0 = _
      unfold L2.atI ixN
      rw [if_pos (by decide), if_pos (by simp; omega)]
      rfl⟩
theorem fmod_nn {i n : Int} (h : 0 < n) : 0 ≤ i.fmod n ∧ i.fmod n < n := ⟨Int.fmod_nonneg_of_pos i h, Int.fmod_lt_of_pos i h⟩
theorem cmulR {i j : Int} (h : 0 ≤ j ∧ j < 2 ^ 64) : CMul i j := .inr ⟨by omega, h.2⟩
theorem cmulL {i j : Int} (h : 0 ≤ i ∧ i < 2 ^ 64) : CMul i j := .inl ⟨by omega, h.2⟩
theorem dat_l_take : ∀ ds, pre_l_take ds → d_l_take { nx := fun _ => post_l_take ds .none, rt := post_l_take ds } (startD 7 (none :: ds.map fun d => some (.dat d))) := by
  intro ds h
  unfold pre_l_take at h
  split at h
  case h_2 => exact h.elim
  rename_i n
  obtain ⟨h0, h1⟩ := h
  show d_l_take _ [none, some (.dat (.int n)), none, none, none, none, none]
  dsimp only [d_l_take, dSeq, dIfS, dTest, dOp, dBag, dC, dEq, isB, startD, List.map, dNext, dAsg, dIx, dgName, dCells, dLst, dCons, dNil, dAdd, isI, dBagAug, dgBag, dCB, dInt1, dLt, dIC, dVar, dTup, dgTup, dgCons, dgNil, dRet, dBagAny, List.length, List.replicate, List.append, List.set, HAppend.hAppend, Append.append, List.getElem?_cons_succ, List.getElem?_cons_zero]
  intro c0 hc0
  refine ⟨rfl, ?_⟩
  rw [eqv_ii]
  split
  · intro ns hns hl
    refine ⟨rfl, small_le (by rw [List.length_map]; omega), ?_⟩
    obtain ⟨c, hc, e⟩ := at_cells ns hns
    rw [e]
    dsimp only
    refine ⟨⟨by decide, by decide, by decide⟩, cmulR (by split <;> decide), ?_, ?_⟩
    · split
      · omega
      · omega
    intro c2 hc2
    refine ⟨cmulR (by decide), by decide, fun c3 => ⟨cmulL (by decide), by decide, (fmod_nn (by decide)).1, ?_⟩⟩
    intro c4 hc4
    split
    · intro c5 hc5
      exact ⟨by omega, fun c6 hc6 => ⟨⟨h0, h1⟩, rfl, rfl, Int.ediv_nonneg hc6 (by omega), ⟨_, rfl, fmod_nn h0⟩⟩⟩
    · intro c5 hc5
      refine ⟨cmulR (by decide), by decide, cmulR ⟨(fmod_nn (by decide)).1, ?_⟩, by decide, cmulR (by decide), by decide, ⟨by decide, by decide⟩, by omega, ⟨_, rfl, fmod_nn h0⟩⟩
      have := (fmod_nn (i := (c5 + 1) * 39373) (n := 1000000007) (by decide)).2
      omega
  · intro c4 hc4
    split
    · intro c5 hc5
      exact ⟨by omega, fun c6 hc6 => ⟨⟨h0, h1⟩, rfl, rfl, Int.ediv_nonneg hc6 (by omega), ⟨_, rfl, fmod_nn h0⟩⟩⟩
    · intro c5 hc5
      refine ⟨cmulR (by decide), by decide, cmulR ⟨(fmod_nn (by decide)).1, ?_⟩, by decide, cmulR (by decide), by decide, ⟨by decide, by decide⟩, by omega, ⟨_, rfl, fmod_nn h0⟩⟩
      have := (fmod_nn (i := (c5 + 1) * 39373) (n := 1000000007) (by decide)).2
      omega

theorem dat_l_alike : ∀ ds, pre_l_alike ds → d_l_alike { nx := fun _ => post_l_alike ds .none, rt := post_l_alike ds } (startD 2 (ds.map fun d => some (.dat d))) := by
  intro ds h
  unfold pre_l_alike at h
  split at h
  case h_2 => exact h.elim
  rename_i x y
  simp only [Bool.and_eq_true] at h
  obtain ⟨h0, h1, h2⟩ := h
  show d_l_alike _ [some (.dat x), some (.dat y)]
  dsimp only [d_l_alike, dRet, dAndV, dOp, dEq, isB, dVar, dCB, dRepr, dCons, dNil, List.getElem?_cons_succ, List.getElem?_cons_zero]
  refine ⟨h0, ?_⟩
  cases e : PyData.eqv x y
  · rw [if_neg (by decide)]
    unfold post_l_alike
    simp [e]
  · rw [if_pos rfl]
    refine ⟨h1, h2, rfl, ?_⟩
    unfold post_l_alike
    simp [e, eqv_ss]
theorem atI_some {α : Type} {xs : List α} {i : Int} (h0 : 0 ≤ i) (h1 : i < xs.length) : ∃ x ∈ xs, L2.atI xs i = some x := by
  have h2 : i.toNat < xs.length := by omega
  refine ⟨xs[i.toNat], List.getElem_mem h2, ?_⟩
  unfold L2.atI ixN
  rw [if_pos h0, if_pos h1]
  show xs[i.toNat]? = _
  exact List.getElem?_eq_getElem h2
theorem log_small {n : Nat} (h : n ≤ 100000) : (n : Int).natAbs.log2 < 9000 := by
  rw [Int.natAbs_natCast]
  by_cases h0 : n = 0
  · subst h0; decide
  · have := Nat.log2_lt h0 (k := 20)
    omega
theorem cps_len (x : Str) : x.cps.toList.length = x.length := by simp [Str.length]
theorem dat_l_one : ∀ ds, pre_l_one ds → d_l_one { nx := fun _ => post_l_one ds .none, rt := post_l_one ds } (startD 2 (none :: ds.map fun d => some (.dat d))) := by
  intro ds h
  unfold pre_l_one at h
  split at h
  · rename_i xs
    obtain ⟨h0, h1⟩ := h
    have hp : 0 < xs.length := List.length_pos_iff.mpr h0
    show d_l_one _ [none, some (.dat (.list xs))]
    dsimp only [d_l_one, dRet, dOp, dVar, dCB, dLen, dCall, dIx, isI, atD, dCons, dNil, List.getElem?_cons_succ, List.getElem?_cons_zero]
    refine ⟨⟨by omega, log_small (of_decide_eq_true h1)⟩, ?_⟩
    rintro r ⟨i, rfl, hi, hj⟩
    obtain ⟨x, hx, e⟩ := atI_some hi hj
    dsimp only
    rw [e]
    exact hx
  · rename_i xs
    obtain ⟨h0, h1⟩ := h
    have hp : 0 < xs.length := List.length_pos_iff.mpr h0
    show d_l_one _ [none, some (.dat (.tuple xs))]
    dsimp only [d_l_one, dRet, dOp, dVar, dCB, dLen, dCall, dIx, isI, atD, dCons, dNil, List.getElem?_cons_succ, List.getElem?_cons_zero]
    refine ⟨⟨by omega, log_small (of_decide_eq_true h1)⟩, ?_⟩
    rintro r ⟨i, rfl, hi, hj⟩
    obtain ⟨x, hx, e⟩ := atI_some hi hj
    dsimp only
    rw [e]
    exact hx
  · rename_i x
    obtain ⟨h0, h1⟩ := h
    show d_l_one _ [none, some (.dat (.str x))]
    dsimp only [d_l_one, dRet, dOp, dVar, dCB, dLen, dCall, dIx, isI, atD, dCons, dNil, List.getElem?_cons_succ, List.getElem?_cons_zero]
    refine ⟨h1, ⟨by omega, log_small (of_decide_eq_true h1)⟩, ?_⟩
    rintro r ⟨i, rfl, hi, hj⟩
    rw [← cps_len] at hj
    obtain ⟨c, hc, e⟩ := atI_some hi hj
    dsimp only
    rw [if_pos h1, e]
    exact ⟨c, hc, rfl⟩
  · exact h.elim
theorem dat_l_odd : ∀ ds, pre_l_odd ds → d_l_odd { nx := fun _ => post_l_odd ds .none, rt := post_l_odd ds } (startD 2 (none :: ds.map fun d => some (.dat d))) := by
  intro ds h
  cases h
  show d_l_odd _ [none, none]
  dsimp only [d_l_odd, dSeq, dAsg, dLst, dRet, dTup, dUn, dNeg, dOp, dIC, dAdd, dVar, dC, dCB, dLen, dCall, dIx, isI, atD, dCons, dNil, dDict0, dDictK, dDictT, dgName, List.set, List.getElem?_cons_succ, List.getElem?_cons_zero]
  refine ⟨⟨by decide, by decide, by decide⟩, ⟨by decide, by decide, by decide⟩, ?_⟩
  repeat (refine ⟨by first | rfl | exact ⟨rfl, rfl⟩, ?_⟩)
  refine ⟨⟨by simp, rfl⟩, ?_⟩
  intro r hr
  exact hr
end DL

namespace DL
open PySem PySem.Spec PyProof.Rows L2
theorem str_app (x y : Str) : (x ++ y : Str) = ⟨x.cps ++ y.cps⟩ := rfl
theorem txt_join (sep : Str) (l : List Str) : Txt.join sep l = Str.join sep l := eq_of_beq (join_plain_closes sep l)
theorem sjoinE : ∀ cs : List Nat, Str.join "" (cs.map fun c => (⟨#[c]⟩ : Str)) = ⟨cs.toArray⟩
  | [] => rfl
  | [c] => rfl
  | c :: d :: r => by
    have e := sjoinE (d :: r)
    show (⟨#[c]⟩ : Str) ++ "" ++ Str.join "" ((d :: r).map fun c => (⟨#[c]⟩ : Str)) = _
    rw [e, str_app, str_app, show (Str.ofString "").cps = #[] from rfl]
    simp
theorem joinE (cs : List Nat) : Txt.join "" (cs.map fun c => (⟨#[c]⟩ : Str)) = ⟨cs.toArray⟩ := by rw [txt_join, sjoinE]
theorem strsOf_one : ∀ cs : List Nat, strsOf (cs.map fun c => PyData.str ⟨#[c]⟩) = some (cs.map fun c => (⟨#[c]⟩ : Str))
  | [] => rfl
  | c :: r => by
    rw [List.map_cons, strsOf, strsOf_one r]
    rfl
theorem sum_ones : ∀ cs : List Nat, ((cs.map fun c => (⟨#[c]⟩ : Str)).map (·.length)).sum = cs.length
  | [] => rfl
  | c :: r => by
    have := sum_ones r
    simp only [List.map_cons, List.sum_cons, List.length_cons] at this ⊢
    rw [this]
    show 1 + _ = _
    omega
theorem len_toArray (cs : List Nat) : (⟨cs.toArray⟩ : Str).length = cs.length := by simp [Str.length]
theorem kname {cs : List Nat} (hl : cs.length ≤ 7) (hc : ∀ c ∈ cs, lower c = true) : isNm ("k" ++ ⟨cs.toArray⟩) = true := by
  have e : (("k" : Str) ++ (⟨cs.toArray⟩ : Str)) = ⟨(107 :: cs).toArray⟩ := by
    rw [str_app, show (Str.ofString "k").cps = #[107] from rfl]
    simp
  rw [e]
  unfold isNm
  rw [len_toArray]
  simp only [Bool.and_eq_true, decide_eq_true_eq, List.length_cons, Bool.not_eq_true', List.all_eq_true]
  refine ⟨⟨⟨by omega, by omega⟩, ?_⟩, ?_⟩
  · unfold noNames
    rw [List.any_eq_false]
    intro w hw
    have : ∀ w ∈ noNames, w.cps.toList.head? ≠ some 107 := by decide
    intro z
    have z := eq_of_beq z
    refine this w hw ?_
    rw [z]
    simp
  · intro c hc'
    simp only [List.mem_cons] at hc'
    rcases hc' with rfl | h
    · rfl
    · exact hc _ h
theorem alpha_lower : ∀ c ∈ (Str.ofString "abcdefghijklmnopqrstuvwxyz").cps.toList, lower c = true := by decide
theorem ltI (i j : Int) (R : PyData → Prop) : dLt (fun i j => decide (j < i)) (fun i j => ltS j i) (.int i) (.int j) R = R (.bool (decide (j < i))) := rfl
theorem dat_l_name : ∀ ds, pre_l_name ds → d_l_name { nx := fun _ => post_l_name ds .none, rt := post_l_name ds } (startD 3 (none :: ds.map fun d => some (.dat d))) := by
  intro ds h
  cases h
  show d_l_name _ [none, none, none]
  dsimp only [d_l_name, dSeq, dAsg, dLst, dRet, dIfS, dTest, dOp, dLt, isB, dAdd, dVar, dC, dCB, dLen, dCall, dCons, dNil, dNext, dgName, List.set, List.getElem?_cons_succ, List.getElem?_cons_zero, dJoin, dLc, dRng1, dYes]
  refine ⟨rfl, ⟨by decide, by decide⟩, ?_⟩
  rintro r ⟨i, rfl, hi0, hi1⟩
  dsimp only
  split
  · refine ⟨⟨by simp, rfl⟩, ?_⟩
    intro r hr
    have hall : ∀ x ∈ [Str.ofString "a", "b", "c", "f", "g", "x", "z", "ab", "ans", "iff", "gone", "tells", "withs", "abcdefgh", "zzzzzzzz"], isNm x = true := by decide
    obtain ⟨x, hx, rfl⟩ := List.mem_map.mp (show r ∈ [Str.ofString "a", "b", "c", "f", "g", "x", "z", "ab", "ans", "iff", "gone", "tells", "withs", "abcdefgh", "zzzzzzzz"].map PyData.str from hr)
    exact ⟨x, rfl, hall x hx⟩
  · refine ⟨⟨by decide, by decide⟩, ?_⟩
    rintro r ⟨n, rfl, hn0, hn1⟩
    dsimp only
    refine ⟨by omega, by omega, by rw [intsD_len]; exact small_le (by omega), fun _ acc => ∃ cs : List Nat, acc = (cs.map fun c => PyData.str ⟨#[c]⟩) ∧ ∀ c ∈ cs, lower c = true, ⟨[], rfl, by simp⟩, ?_, ?_⟩
    · rintro i x acc - - ⟨cs, rfl, hc⟩
      rw [if_pos rfl]
      refine ⟨⟨by decide, rfl⟩, ?_⟩
      rintro r ⟨c, hm, rfl⟩
      refine ⟨cs ++ [c], by rw [List.map_append]; rfl, ?_⟩
      intro d hd
      rcases List.mem_append.mp hd with z | z
      · exact hc d z
      · rw [List.mem_singleton.mp z]
        exact alpha_lower c hm
    · rintro acc hl ⟨cs, rfl, hc⟩
      rw [intsD_len, List.length_map] at hl
      have hl : cs.length ≤ 7 := by omega
      have l0 : (Str.ofString "").length = 0 := rfl
      refine ⟨_, strsOf_one cs, ?_, ?_, ?_⟩
      · rw [sum_ones, l0]
        omega
      · rw [joinE]
        have e2 := len_toArray cs
        have e3 : (Str.ofString "k").length = 1 := rfl
        exact small_le (by omega)
      · rw [joinE]
        exact ⟨_, rfl, kname hl hc⟩
theorem eqOk_nil (xs : List PyData) : eqOk (.list xs) (.list []) = true := by
  unfold eqOk eqMore
  rw [show nilL (.list xs) (.list []) = true from rfl]
  simp
theorem eqOk_str (d : PyData) (x : Str) : eqOk d (.str x) = true := by
  unfold eqOk eqMore
  rw [show txt (.str x) = true from rfl, show (PyData.str x).depth = 0 from by simp only [PyData.depth]]
  simp
theorem eqOk_unit (d : PyData) : eqOk d (.tuple []) = true := by
  unfold eqOk eqMore
  rw [show txt (.tuple []) = true from rfl, show (PyData.tuple []).depth = 1 from by simp only [PyData.depth, PyData.depthAll]]
  simp
theorem eqv_nilL (xs : List PyData) : PyData.eqv (.list xs) (.list []) = xs.isEmpty := by
  cases xs <;> simp only [PyData.eqv, PyData.eqvAll, List.isEmpty]
theorem eqv_nilT (xs : List PyData) : PyData.eqv (.tuple xs) (.tuple []) = xs.isEmpty := by
  cases xs <;> simp only [PyData.eqv, PyData.eqvAll, List.isEmpty]
def isStrOf (x : Str) : PyData → Bool
  | .str y => y == x
  | _ => false
theorem eqv_str (d : PyData) (x : Str) : PyData.eqv d (.str x) = isStrOf x d := by
  cases d <;> simp [PyData.eqv, isStrOf]
def isTup : PyData → Bool
  | .tuple _ => true
  | _ => false
def isStr : PyData → Bool
  | .str _ => true
  | _ => false
theorem dIsi_tup {de : DE} : dIsi "tuple" de = fun δ R => de δ fun d => R (.bool (isTup d)) := by
  funext δ R
  unfold dIsi
  congr 1
  funext d
  cases d <;> rfl
theorem dIsi_str {de : DE} : dIsi "str" de = fun δ R => de δ fun d => R (.bool (isStr d)) := by
  funext δ R
  unfold dIsi
  congr 1
  funext d
  cases d <;> rfl
end DL

/-! The bag made of the script, and the body of a law behind it. -/
namespace DL
open PySem PySem.Spec PyProof.Rows L2
open Evl (Ex ex_l ex_t)
def sp_l_bag (K : PySem.W.Frag) : Sp := fun vs H Q _ => ∃ (a : Addr) (ns : List Int), vs = [.ref a] ∧ ns.length ≤ 63 ∧ SqL K H a (ns.map V.int) ∧ ∀ b H', Bag b H' → Q (.ref b.1) H'
def sp_law (K : PySem.W.Frag) : Sp := fun vs H Q _ => ∃ (a : Addr) (ns : List Int), vs = [.ref a] ∧ ns.length ≤ 63 ∧ SqL K H a (ns.map V.int) ∧ ∀ H', Q (.bl true) H'
section
variable {K : PySem.W.Frag}
theorem len_bag : ∀ vs H Q E, sp_l_bag K vs H Q E → vs.length = [("_law_script" : Str)].length := by
  rintro vs H Q E ⟨a, ns, rfl, _⟩
  rfl
theorem len_law : ∀ vs H Q E, sp_law K vs H Q E → vs.length = [("_law_script" : Str)].length := by
  rintro vs H Q E ⟨a, ns, rfl, _⟩
  rfl
theorem empty_ok {ib : Option Nat} {b : Bg} {H : Hp} (h : ib ≠ none → Bag b H) : Okk ib b (fun _ => none) H := ⟨fun a u z => (by cases z), fun _ => rfl, h⟩
theorem env_none {ib : Option Nat} {b : Bg} {H0 S H : Hp} {σ : L2.St} (h : ∀ i : Nat, ib = some i → σ[i]? = some (some (V.ref b.1))) : EnvOk K ib b H0 S H σ (List.replicate σ.length none) := by
  refine ⟨by rw [List.length_replicate], h, fun i d q => ?_, fun i d q => ?_, fun i a q => ?_⟩
  · rw [List.getElem?_replicate] at q
    split at q <;> cases q
  · rw [List.getElem?_replicate] at q
    split at q <;> cases q
  · rw [List.getElem?_replicate] at q
    split at q <;> cases q
/-- a law's body: first the bag, then the rest by data -/
theorem law_body {rest : TS} {dr : DS} {N : List Str} (hN : 2 ≤ N.length) (sim : ∀ b, SimS K (some 1) b rest dr)
    (h : dr { nx := fun _ => False, rt := fun d => d = .bool true } (List.replicate N.length none)) {vs : List V} {H : Hp} {Q : VK} {E : XK} (q : sp_law K vs H Q E) :
    tSeq (tAsg (tCall (sp_l_bag K) [] E0 (tCons (tVar 0) tNil)) (gName 1)) rest { nx := fun _ H' => Q .non H', rt := Q } (L2.start N vs) H := by
  obtain ⟨a, ns, rfl, hn, hs, k⟩ := q
  refine ⟨.ref a, start_get rfl, a, ns, rfl, hn, hs, fun b H' hb => ?_⟩
  have hl : (L2.start N [V.ref a]).length = N.length := by
    unfold L2.start
    rw [List.length_append, List.length_map, List.length_replicate]
    simp only [List.length_cons, List.length_nil]
    omega
  have o : Okk (some 1) b (fun _ => none) H' := empty_ok fun _ => hb
  refine sim b (fun _ => none) H' (fun _ => none) (fun _ => none) H' _ (List.replicate N.length none) _ _ o (Ex.refl _) (Go.refl o) ?_ h ⟨?_, ?_, ?_, ?_, ?_⟩
  · have e := env_none (K := K) (ib := some 1) (b := b) (H0 := H') (S := fun _ => none) (H := H') (σ := (L2.start N [V.ref a]).set 1 (some (.ref b.1))) (by
      intro i hi
      cases hi
      rw [List.getElem?_set_self (by omega)])
    rw [List.length_set, hl] at e
    exact e
  · intro _ _ _ _ _ _ _ z
    exact z.elim
  · intro S' H2 v d _ _ r z
    subst z
    rw [r.blV]
    exact k H2
  · intro _ _ _ _ _ _ _ z
    exact z.elim
  · intro _ _ _ _ _ _ _ z
    exact z.elim
  · intro _ _ _ _ _ _ _ _ _ _ _ z
    exact z.elim

/-- a new list of these whole numbers -/
def tInts (ns : List Int) : TE := fun _ H Q => ∀ p, H p = none → Q (.ref p) (upd H p (.lst (ns.map V.int)))
theorem reps_ints {S : Hp} : ∀ ns : List Int, Reps K S (ns.map V.int) (ns.map PyData.int)
  | [] => .nil
  | n :: r => .cons (.int n) (reps_ints r)
theorem sim_ints {ib : Option Nat} {b : Bg} (ns : List Int) : SimE K ib b (tInts ns) (fun _ R => R (.list (ns.map PyData.int))) := by
  intro H0 S H σ δ R Q o e h k p hp
  have g := Go.laid (u := .lst (ns.map V.int)) o hp
  exact k _ _ _ _ g (.lst upd_same (reps_ints ns)) h
theorem cut_ints {ns : List Int} (hn : ns.length ≤ 63) : cutV (ns.map V.int) none (some 63) = ns.map V.int := by
  show cutD (ns.map V.int) none (some 63) = _
  refine cutD_whole ⟨rfl, ?_⟩
  show min 63 (ns.map V.int).length = _
  rw [List.length_map]
  omega
theorem ints_rep {S : Hp} : ∀ (ms : List Int) {xs : List V}, Reps K S xs (ms.map PyData.int) → xs = ms.map V.int
  | [], _, .nil => rfl
  | m :: ms, _, .cons r1 r2 => by rw [r1.intV, ints_rep ms r2]; rfl
def q_l_bag (K : PySem.W.Frag) : TS := tRet (tLst (tCons (tC (.int 0)) (tCons (tC (.int 1234567891)) (tCons (tC (.int 0)) (tCons (tLc (iList K (tSl (rSlU K) (tVar 0) tNoPart (tPart (tC (.int 63))))) (gName 1) tYes (tCB rAbs1 (tCons (tVar 1) tNil)) [1]) tNil)))))
theorem bag_body {vs : List V} {H : Hp} {Q : VK} {E : XK} (q : sp_l_bag K vs H Q E) :
    q_l_bag K { nx := fun _ H' => Q .non H', rt := Q } (L2.start ["_law_script", "_law_cell"] vs) H := by
  obtain ⟨a, ns, rfl, hn, hs, k⟩ := q
  show tLc (iList K (tSl (rSlU K) (tVar 0) tNoPart (tPart (tC (.int 63))))) (gName 1) tYes (tCB rAbs1 (tCons (tVar 1) tNil)) [1] (L2.start ["_law_script", "_law_cell"] [V.ref a]) H
    (fun v H1 => 4 ≤ sizeLine ∧ ∀ p, H1 p = none → Q (.ref p) (upd H1 p (.lst [.int 0, .int 1234567891, .int 0, v])))
  have step : ∀ Q' : VK, tInts ns (L2.start ["_law_script", "_law_cell"] [V.ref a]) H Q' → tSl (rSlU K) (tVar 0) tNoPart (tPart (tC (.int 63))) (L2.start ["_law_script", "_law_cell"] [V.ref a]) H Q' := by
    intro Q' h
    refine ⟨_, start_get rfl, 63, rfl, .inl (.inl ⟨a, _, rfl, hs, ?_⟩)⟩
    rw [cut_ints hn]
    exact h
  have o : Okk none ((a, a) : Bg) (fun _ => none) H := empty_ok fun z => absurd rfl z
  have e := env_none (K := K) (ib := none) (b := (a, a)) (H0 := H) (S := fun _ => none) (H := H) (σ := L2.start ["_law_script", "_law_cell"] [V.ref a]) (fun i z => by cases z)
  have core := sim_lc (K := K) (ib := none) (b := (a, a)) (j := 1) (vs := [1]) (by decide) (by intro i hi; cases hi) (sim_iList (sim_ints ns)) sim_yes (sim_cb simc_abs (sim_cons (sim_var (i := 1)) sim_nil))
    H (fun _ => none) H _ _ (fun d => ∃ ms : List Int, d = .list (ms.map PyData.int) ∧ (∀ m ∈ ms, 0 ≤ m) ∧ ms.length ≤ 63)
    (fun v H1 => 4 ≤ sizeLine ∧ ∀ p, H1 p = none → Q (.ref p) (upd H1 p (.lst [.int 0, .int 1234567891, .int 0, v]))) o e ?_ ?_
  · exact step _ core
  · refine ⟨small_le (by rw [List.length_map]; omega), fun _ acc => ∃ ms : List Int, acc = ms.map PyData.int ∧ ∀ m ∈ ms, 0 ≤ m, ⟨[], rfl, by simp⟩, ?_, ?_⟩
    · rintro i x acc hx - ⟨ms, rfl, hm⟩
      rw [List.getElem?_map] at hx
      obtain ⟨n, hn', rfl⟩ := Option.map_eq_some_iff.mp hx
      show ∃ ms' : List Int, _
      refine ⟨ms ++ [if n < 0 then -n else n], by rw [List.map_append]; rfl, ?_⟩
      intro m hm'
      rcases List.mem_append.mp hm' with z | z
      · exact hm m z
      · rw [List.mem_singleton.mp z]
        split <;> omega
    · rintro acc hl ⟨ms, rfl, hm⟩
      rw [List.length_map, List.length_map] at hl
      exact ⟨ms, rfl, hm, by omega⟩
  · rintro S' H1 v d g r ⟨ms, rfl, hm, hl⟩
    obtain ⟨c, xs, rfl, hc, hr⟩ := r.lstV
    have hx : xs = ms.map V.int := by
      exact ints_rep ms hr
    subst hx
    have hc1 := g.ok.sub _ _ hc
    refine ⟨Evl.sz_of (by omega), fun p hp => k (p, c) _ ⟨0, 1234567891, 0, ms, upd_same, ?_, ?_, hm, by decide, by decide, hl⟩⟩
    · intro z
      have z : c = p := z
      rw [z, hp] at hc1
      cases hc1
    · show upd H1 p _ c = _
      rw [upd_ne]
      · exact hc1
      · intro z
        rw [z, hp] at hc1
        cases hc1
end
end DL

/-! What can be shown: a bound of the text's length. -/
namespace DL
open PySem PySem.Spec PyProof.Rows L2
mutual
def wt : PyData → Nat
  | .none => 4
  | .bool _ => 5
  | .int _ => 1921
  | .str x => 10 * x.length + 2
  | .list xs => wtAll xs + 2
  | .tuple xs => wtAll xs + 3
  | .dict kvs => wtKv kvs + 2
def wtAll : List PyData → Nat
  | [] => 0
  | x :: xs => wt x + 2 + wtAll xs
def wtKv : List (PyData × PyData) → Nat
  | [] => 0
  | (k, v) :: r => wt k + wt v + 4 + wtKv r
end
mutual
def fit : PyData → Bool
  | .none => true
  | .bool _ => true
  | .int i => decide (i.natAbs.log2 < 1920)
  | .str x => PyData.strOk x
  | .list xs => fitAll xs
  | .tuple xs => fitAll xs
  | .dict kvs => fitKv kvs
def fitAll : List PyData → Bool
  | [] => true
  | x :: xs => fit x && fitAll xs
def fitKv : List (PyData × PyData) → Bool
  | [] => true
  | (k, v) :: r => fit k && fit v && fitKv r
end
mutual
theorem fit_showable : ∀ d : PyData, fit d = true → d.showable = true
  | .none, _ => by simp only [PyData.showable]
  | .bool _, _ => by simp only [PyData.showable]
  | .str _, _ => by simp only [PyData.showable]
  | .int i, h => by simp only [PyData.showable]; exact h
  | .list xs, h => by simp only [PyData.showable]; exact fit_showableAll xs h
  | .tuple xs, h => by simp only [PyData.showable]; exact fit_showableAll xs h
  | .dict kvs, h => by simp only [PyData.showable]; exact fit_showableKv kvs h
theorem fit_showableAll : ∀ ds : List PyData, fitAll ds = true → PyData.showableAll ds = true
  | [], _ => by simp only [PyData.showableAll]
  | x :: xs, h => by
    simp only [fitAll, Bool.and_eq_true] at h
    simp only [PyData.showableAll, fit_showable x h.1, fit_showableAll xs h.2, Bool.and_self]
theorem fit_showableKv : ∀ ds : List (PyData × PyData), fitKv ds = true → PyData.showableKv ds = true
  | [], _ => by simp only [PyData.showableKv]
  | (k, v) :: r, h => by
    simp only [fitKv, Bool.and_eq_true] at h
    simp only [PyData.showableKv, fit_showable k h.1.1, fit_showable v h.1.2, fit_showableKv r h.2, Bool.and_self]
end
theorem join_len : ∀ ts : List Str, (Str.join ", " ts).length ≤ (ts.map (·.length + 2)).sum
  | [] => Nat.le_refl _
  | [x] => by
    show x.length ≤ _
    simp
  | x :: y :: r => by
    have e := join_len (y :: r)
    show (x ++ ", " ++ Str.join ", " (y :: r)).length ≤ _
    rw [Str.length_append, Str.length_append, show (Str.ofString ", ").length = 2 from rfl, List.map_cons, List.sum_cons]
    omega
mutual
theorem shown_wt : ∀ d : PyData, fit d = true → d.shown.length ≤ wt d
  | .none, _ => by rw [PyData.shown_none, wt]; decide
  | .bool b, _ => by rw [PyData.shown_bool, wt]; cases b <;> decide
  | .str x, h => by
    rw [PyData.shown_str, wt]
    refine StrLaws.reprText_len x fun c hc => ?_
    have h : PyData.strOk x = true := h
    unfold PyData.strOk at h
    rw [← Array.all_toList, List.all_eq_true] at h
    have := of_decide_eq_true (h c hc)
    omega
  | .int i, h => by
    rw [PyData.shown_int, wt]
    exact int_text_len_1921 (of_decide_eq_true h)
  | .list xs, h => by
    have e := shownAll_wt xs h
    rw [PyData.shown_list, wt, Str.length_append, Str.length_append, show (Str.ofString "[").length = 1 from rfl, show (Str.ofString "]").length = 1 from rfl]
    have := join_len (PyData.shownAll xs)
    omega
  | .tuple xs, h => by
    have e := shownAll_wt xs h
    rw [PyData.shown_tuple, wt, Str.length_append, Str.length_append, show (Str.ofString "(").length = 1 from rfl]
    have := join_len (PyData.shownAll xs)
    have z : (Str.ofString (if (xs.length == 1) = true then ",)" else ")")).length ≤ 2 := by split <;> decide
    omega
  | .dict kvs, h => by
    have e := shownKv_wt kvs h
    rw [PyData.shown_dict, wt, Str.length_append, Str.length_append, show (Str.ofString "{").length = 1 from rfl, show (Str.ofString "}").length = 1 from rfl]
    have := join_len (PyData.shownKv kvs)
    omega
theorem shownAll_wt : ∀ ds : List PyData, fitAll ds = true → ((PyData.shownAll ds).map (·.length + 2)).sum ≤ wtAll ds
  | [], _ => by rw [PyData.shownAll_nil, wtAll]; exact Nat.le_refl _
  | x :: xs, h => by
    simp only [fitAll, Bool.and_eq_true] at h
    have a := shown_wt x h.1
    have b := shownAll_wt xs h.2
    rw [PyData.shownAll_cons, wtAll, List.map_cons, List.sum_cons]
    omega
theorem shownKv_wt : ∀ ds : List (PyData × PyData), fitKv ds = true → ((PyData.shownKv ds).map (·.length + 2)).sum ≤ wtKv ds
  | [], _ => by rw [PyData.shownKv_nil, wtKv]; exact Nat.le_refl _
  | (k, v) :: r, h => by
    simp only [fitKv, Bool.and_eq_true] at h
    have a := shown_wt k h.1.1
    have b := shown_wt v h.1.2
    have c := shownKv_wt r h.2
    rw [PyData.shownKv_cons, wtKv, List.map_cons, List.sum_cons, Str.length_append, Str.length_append, show (Str.ofString ": ").length = 2 from rfl]
    omega
end
theorem showOk_of {d : PyData} (h : fit d = true) (hd : d.depth ≤ 60) (hw : wt d ≤ 16777216) : showOk d = true := by
  unfold showOk
  rw [fit_showable d h, decide_eq_true hd, decide_eq_true (show d.shown.length ≤ sizeLine from Nat.le_trans (shown_wt d h) hw)]
  rfl
end DL

/-! New lists: expressions that make a list of one's own, what is read of such a list while it stays one's own, what is done to it. -/
namespace DL
open PySem PySem.Spec PyProof.Rows L2
open Evl (Ex ex_l ex_t)

mutual
def tupOnly : PyData → Bool
  | .none => true
  | .bool _ => true
  | .int _ => true
  | .str _ => true
  | .list _ => false
  | .tuple xs => tupOnlyAll xs
  | .dict _ => false
def tupOnlyAll : List PyData → Bool
  | [] => true
  | x :: xs => tupOnly x && tupOnlyAll xs
end
def cutH (S : Hp) (p : Addr) : Hp := fun a => if a = p then none else S a
theorem cutH_same {S : Hp} {p : Addr} : cutH S p p = none := if_pos rfl
theorem cutH_ne {S : Hp} {p a : Addr} (h : a ≠ p) : cutH S p a = S a := if_neg h
section
variable {K : PySem.W.Frag} {S : Hp} {p : Addr} {ys : List V}
theorem SqT.dropT (hp : S p = some (.lst ys)) {a : Addr} {xs : List V} (h : SqT K S a xs) : SqT K (cutH S p) a xs := by
  rcases h with (h | ⟨ob, h⟩) | h
  · refine .inl (.inl ?_)
    rw [cutH_ne]
    · exact h
    · intro z
      rw [z, hp] at h
      cases h
  · refine .inl (.inr ⟨ob, ?_⟩)
    rw [cutH_ne]
    · exact h
    · intro z
      rw [z, hp] at h
      cases h
  · exact .inr h
mutual
theorem Rep.dropT (hp : S p = some (.lst ys)) : ∀ {v : V} {d : PyData}, Rep K S v d → tupOnly d = true → Rep K (cutH S p) v d
  | _, _, .non, _ => .non
  | _, _, .bl b, _ => .bl b
  | _, _, .int b, _ => .int b
  | _, _, .str b, _ => .str b
  | _, _, .tup h q, t => .tup (SqT.dropT hp h) (Reps.dropT hp q t)
  | _, _, .lst h q, t => absurd t Bool.false_ne_true
  | _, _, .dK h q, t => absurd t Bool.false_ne_true
  | _, _, .dT h q, t => absurd t Bool.false_ne_true
theorem Reps.dropT (hp : S p = some (.lst ys)) : ∀ {vs : List V} {ds : List PyData}, Reps K S vs ds → tupOnlyAll ds = true → Reps K (cutH S p) vs ds
  | _, _, .nil, _ => .nil
  | _, _, .cons r q, t => by
    have t := (Bool.and_eq_true _ _ ▸ t : _ ∧ _)
    exact .cons (Rep.dropT hp r t.1) (Reps.dropT hp q t.2)
end
end
section
variable {K : PySem.W.Frag} {ib : Option Nat} {b : Bg} {te : TE} {de : DE} {tt : TT} {dt : DT}
/-- the own list of a name stands still for a while -/
theorem borrow_ok {H0 S H : Hp} {σ : L2.St} {δ : DEnv} {i : Nat} {ds : List PyData} {p : Addr} {xs : List V} (o : Okk ib b S H) (e : EnvOk K ib b H0 S H σ δ) (q0 : δ[i]? = some (some (DV.own ds)))
    (hσ : σ[i]? = some (some (V.ref p))) (hp : H p = some (.lst xs)) (hr : Reps K S xs ds) (hS : S p = none) (hb : ib ≠ none → p ≠ b.1)
    (hu : ∀ (j : Nat) (es : List PyData), δ[j]? = some (some (DV.own es)) → σ[j]? = some (some (V.ref p)) → j = i) :
    Okk ib b (upd S p (.lst xs)) H ∧ EnvOk K ib b H0 (upd S p (.lst xs)) H σ (δ.set i (some (.dat (.list ds)))) := by
  have ex : Ex S (upd S p (.lst xs)) := Ex.new hS
  have hlt : i < δ.length := (List.getElem?_eq_some_iff.mp q0).1
  refine ⟨⟨?_, fun z => by rw [upd_ne (Ne.symm (hb z))]; exact o.off z, o.bag⟩, ?_⟩
  · intro a u q
    by_cases c : a = p
    · rw [c, upd_same] at q
      rw [c, hp]
      exact q
    · rw [upd_ne c] at q
      exact o.sub a u q
  · have at_ : ∀ (j : Nat) (x : DV), j ≠ i → (δ.set i (some (DV.dat (.list ds))))[j]? = some (some x) → δ[j]? = some (some x) := by
      intro j x hj q
      rw [List.getElem?_set_ne (Ne.symm hj)] at q
      exact q
    have hfn : ∀ (j : Nat) (a : Addr), (δ.set i (some (DV.dat (.list ds))))[j]? = some (some (DV.fn a)) → σ[j]? = some (some (V.ref a)) := by
      intro j a q
      by_cases hj : j = i
      · subst hj
        rw [List.getElem?_set_self hlt] at q
        cases q
      · exact e.fn j a (at_ j _ hj q)
    refine ⟨by rw [List.length_set]; exact e.len, e.slot, fun j x q => ?_, fun j fs q => ?_, hfn⟩
    · by_cases hj : j = i
      · subst hj
        rw [List.getElem?_set_self hlt] at q
        cases q
        exact ⟨_, hσ, .lst upd_same (hr.mono ex)⟩
      · obtain ⟨v, h1, h2⟩ := e.dat j x (at_ j _ hj q)
        exact ⟨v, h1, h2.mono ex⟩
    · by_cases hj : j = i
      · subst hj
        rw [List.getElem?_set_self hlt] at q
        cases q
      · obtain ⟨p', xs', h1, h2, h3, h4, h5, h6, h7⟩ := e.own j fs (at_ j _ hj q)
        have np : p' ≠ p := fun w => hj (hu j fs (at_ j _ hj q) (w ▸ h1))
        refine ⟨p', xs', h1, h2, h3.mono ex, by rw [upd_ne np]; exact h4, h5, h6, fun m gs a1 a2 => ?_⟩
        by_cases hm : m = i
        · subst hm
          rw [List.getElem?_set_self hlt] at a1
          cases a1
        · exact h7 m gs (at_ m _ hm a1) a2
theorem borrow_back {S H S2 H2 : Hp} {p : Addr} {xs : List V} (o : Okk ib b S H) (hS : S p = none) (g : Go ib b (upd S p (.lst xs)) H S2 H2) : S2 p = some (.lst xs) ∧ Go ib b S H (cutH S2 p) H2 := by
  have e2 : S2 p = some (.lst xs) := g.st p _ upd_same
  refine ⟨e2, ?_, g.keep, ?_, ?_, ?_, g.ok.bag⟩
  · intro a u q
    have c : a ≠ p := ne_of_none q hS
    rw [cutH_ne c]
    exact g.st a u (by rw [upd_ne c]; exact q)
  · intro a h1 h2
    by_cases c : a = p
    · rw [c]; exact cutH_same
    · rw [cutH_ne c]
      exact g.new a h1 (by rw [upd_ne c]; exact h2)
  · intro a u q
    by_cases c : a = p
    · rw [c, cutH_same] at q
      cases q
    · rw [cutH_ne c] at q
      exact g.ok.sub a u q
  · intro z
    have := g.ok.off z
    by_cases c : b.1 = p
    · rw [c]; exact cutH_same
    · rw [cutH_ne c]; exact this
def dBorrow (i : Nat) (de : DE) : DE := fun δ R => match δ[i]? with
  | some (some (.own ds)) => de (δ.set i (some (.dat (.list ds)))) fun d => tupOnly d = true ∧ R d
  | _ => False
theorem sim_borrow {i : Nat} (h1 : SimE K ib b te de) : SimE K ib b te (dBorrow i de) := by
  intro H0 S H σ δ R Q o e h k
  unfold dBorrow at h
  split at h
  · rename_i ds q0
    obtain ⟨p, xs, hσ, hp, hr, hS, h0, hb, hu⟩ := e.own i ds q0
    obtain ⟨o1, e1⟩ := borrow_ok o e q0 hσ hp hr hS hb hu
    refine h1 H0 _ H σ _ _ _ o1 e1 h fun S2 H2 v d g r q => ?_
    obtain ⟨e2, g2⟩ := borrow_back o hS g
    exact k _ H2 v d g2 (r.dropT e2 q.1) q.2
  · exact h.elim
def dBorrowT (i : Nat) (dt : DT) : DT := fun δ R => match δ[i]? with
  | some (some (.own ds)) => dt (δ.set i (some (.dat (.list ds)))) R
  | _ => False
theorem sim_borrowT {i : Nat} (h1 : SimT K ib b tt dt) : SimT K ib b tt (dBorrowT i dt) := by
  intro H0 S H σ δ R Q o e h k
  unfold dBorrowT at h
  split at h
  · rename_i ds q0
    obtain ⟨p, xs, hσ, hp, hr, hS, h0, hb, hu⟩ := e.own i ds q0
    obtain ⟨o1, e1⟩ := borrow_ok o e q0 hσ hp hr hS hb hu
    refine h1 H0 _ H σ _ _ _ o1 e1 h fun S2 H2 c g q => ?_
    exact k _ H2 c (borrow_back o hS g).2 q
  · exact h.elim
end
end DL

/-! Expressions that make a new list; own lists set, handed back, changed; calls that hand such a list back. -/
namespace DL
open PySem PySem.Spec PyProof.Rows L2
open Evl (Ex ex_l ex_t)
section
variable (K : PySem.W.Frag) (ib : Option Nat) (b : Bg)
def SimN (te : TE) (dn : DA) : Prop := ∀ (H0 S H : Hp) (σ : L2.St) (δ : DEnv) (R : List PyData → Prop) (Q : VK), Okk ib b S H → EnvOk K ib b H0 S H σ δ → dn δ R →
  (∀ S' H' p xs es, Go ib b S H S' H' → H' p = some (.lst xs) → Reps K S' xs es → S' p = none → H p = none → R es → Q (.ref p) H') → te σ H Q
end
section
variable {K : PySem.W.Frag} {ib : Option Nat} {b : Bg} {te ta tb : TE} {de da db : DE} {tt : TT} {dt : DT} {t : TA} {d dn : DA} {ti : TI} {di : DA}
/-- a new list, told as data -/
theorem Go.tell {S H S' H' : Hp} {p : Addr} {xs : List V} (g : Go ib b S H S' H') (o : Okk ib b S H) (hp : H' p = some (.lst xs)) (hS : S' p = none) (hn : H p = none) : Go ib b S H (upd S' p (.lst xs)) H' := by
  have nb : ib ≠ none → p ≠ b.1 := fun z w => (o.bag z).tr (w ▸ hn)
  refine ⟨g.st.trans (Ex.new hS), g.keep, ?_, ?_, ?_, g.ok.bag⟩
  · intro a h1 h2
    have c : a ≠ p := fun w => h1 (w ▸ hn)
    rw [upd_ne c]
    exact g.new a h1 h2
  · intro a u q
    by_cases c : a = p
    · rw [c, upd_same] at q
      rw [c, hp]
      exact q
    · rw [upd_ne c] at q
      exact g.ok.sub a u q
  · intro z
    rw [upd_ne (Ne.symm (nb z))]
    exact g.ok.off z
def dOfN (dn : DA) : DE := fun δ R => dn δ fun es => R (.list es)
theorem sim_ofN (h1 : SimN K ib b te dn) : SimE K ib b te (dOfN dn) := by
  intro H0 S H σ δ R Q o e h k
  refine h1 H0 S H σ δ _ _ o e h fun S' H' p xs es g hp r hS hn q => ?_
  exact k _ H' _ _ (g.tell o hp hS hn) (.lst upd_same (r.mono (Ex.new hS))) q
def dnLst (d : DA) : DA := fun δ R => d δ fun ds => small ds.length = true ∧ R ds
theorem sim_nLst (h1 : SimA K ib b t d) : SimN K ib b (tLst t) (dnLst d) := by
  intro H0 S H σ δ R Q o e h k
  refine h1 H0 S H σ δ _ _ o e h fun S1 H1 vs ds g1 r q => ⟨by rw [r.length]; exact small_ok q.1, fun p hp => ?_⟩
  have hn : H p = none := by
    cases z : H p with
    | none => rfl
    | some u => exact absurd hp (g1.stays (fun z => (o.bag z).tr) (by rw [z]; exact Option.some_ne_none _))
  exact k S1 _ p vs ds (g1.trans o (Go.laidOwn g1.ok hp)) upd_same r (Ex.none_of g1.ok.sub hp) hn q.2
theorem Go.fresh {S H S1 H1 : Hp} {p : Addr} (g1 : Go ib b S H S1 H1) (o : Okk ib b S H) (hp : H1 p = none) : H p = none := by
  cases z : H p with
  | none => rfl
  | some u => exact absurd hp (g1.stays (fun z => (o.bag z).tr) (by rw [z]; exact Option.some_ne_none _))
/-- xs + ys of lists -/
def dnAdd (da db : DE) : DA := fun δ R => da δ fun x => db δ fun y => match x, y with
  | .list xs, .list ys => small (xs.length + ys.length) = true ∧ R (xs ++ ys)
  | _, _ => False
theorem sim_nAdd (h1 : SimE K ib b ta da) (h2 : SimE K ib b tb db) : SimN K ib b (tOp (rAddU K) ta tb) (dnAdd da db) := by
  intro H0 S H σ δ R Q o e h k
  refine h1 H0 S H σ δ _ _ o e h fun S1 H1 v1 d1 g1 r1 q1 => ?_
  refine h2 H0 S1 H1 σ δ _ _ g1.ok (e.go g1) q1 fun S2 H2 v2 d2 g2 r2 q2 => ?_
  have r1 := r1.mono g2.st
  have g12 := g1.trans o g2
  split at q2
  · obtain ⟨a, xs, rfl, hx, qx⟩ := r1.lstV
    obtain ⟨c, ys, rfl, hy, qy⟩ := r2.lstV
    refine .inl (.inr ⟨a, c, xs, ys, rfl, rfl, g2.ok.sub _ _ hx, g2.ok.sub _ _ hy, by rw [qx.length, qy.length]; exact small_ok q2.1, fun p hp => ?_⟩)
    exact k S2 _ p (xs ++ ys) _ (g12.trans o (Go.laidOwn g2.ok hp)) upd_same (qx.append qy) (Ex.none_of g2.ok.sub hp) (g12.fresh o hp) q2.2
  · exact q2.elim
/-- xs[lo:hi] of a list -/
def dnSl (de : DE) (dl dh : DO) : DA := fun δ R => de δ fun x => dl δ fun l => dh δ fun u => match x with
  | .list ds => R (cutD ds l u)
  | _ => False
theorem sim_nSl {tl th : TO} {dl dh : DO} (h1 : SimE K ib b te de) (h2 : SimO K ib b tl dl) (h3 : SimO K ib b th dh) : SimN K ib b (tSl (rSlU K) te tl th) (dnSl de dl dh) := by
  intro H0 S H σ δ R Q o e h k
  refine h1 H0 S H σ δ _ _ o e h fun S1 H1 v1 d1 g1 r1 q1 => ?_
  refine h2 H0 S1 H1 σ δ _ _ g1.ok (e.go g1) q1 fun S2 H2 l g2 q2 => ?_
  have g12 := g1.trans o g2
  refine h3 H0 S2 H2 σ δ _ _ g2.ok (e.go g12) q2 fun S3 H3 u g3 q3 => ?_
  have g13 := g12.trans o g3
  have r1 := (r1.mono g2.st).mono g3.st
  split at q3
  · obtain ⟨a, xs, rfl, hx, qx⟩ := r1.lstV
    refine .inl (.inl ⟨a, xs, rfl, SqL.of (g3.ok.sub _ _ hx), fun p hp => ?_⟩)
    exact k S3 _ p _ _ (g13.trans o (Go.laidOwn g3.ok hp)) upd_same (qx.cut l u) (Ex.none_of g3.ok.sub hp) (g13.fresh o hp) q3
  · exact q3.elim
/-! statements -/
/-- x = a new list -/
def dAsgN (dn : DA) (i : Nat) : DS := fun DD δ => dn δ fun ds => DD.nx (δ.set i (some (.own ds)))
theorem sim_asgN {i : Nat} (hi : ib ≠ some i) (h1 : SimN K ib b te dn) : SimS K ib b (tAsg te (gName i)) (dAsgN dn i) := by
  intro S0 H0 Sm S H σ δ D DD o em g0 e h x
  refine h1 H0 S H σ δ _ _ g0.ok e h fun S1 H1 p vs dvs g1 hp r hS hn q => ?_
  have g02 := g0.trans o g1
  have h0 : H0 p = none := g0.fresh o hn
  refine x.nx S1 _ _ _ g02 (em.trans g1.st) ((e.go g1).setOwn hi hp r hS h0 (fun z w => ?_) (fun j es hj a1 a2 => ?_)) q
  · exact (g0.ok.bag z).tr (w ▸ hn)
  · obtain ⟨p', xs, b1, b2, _⟩ := e.own j es a1
    rw [b1] at a2
    have : p' = p := V.ref.inj (Option.some.inj (Option.some.inj a2))
    rw [this, hn] at b2
    cases b2
/-- return a new list, as one's own -/
def dRetO (dn : DA) : DS := fun DD δ => dn δ DD.ro
theorem sim_retO (h1 : SimN K ib b te dn) : SimS K ib b (tRet te) (dRetO dn) := by
  intro S0 H0 Sm S H σ δ D DD o em g0 e h x
  refine h1 H0 S H σ δ _ _ g0.ok e h fun S1 H1 p vs dvs g1 hp r hS hn q => ?_
  exact x.ro S1 H1 p vs dvs (g0.trans o g1) (em.trans g1.st) hp r hS (g0.fresh o hn) q
/-- return x, x a list of one's own: as one's own; as data -/
def dRetOwn (i : Nat) : DS := fun DD δ => match δ[i]? with
  | some (some (.own ds)) => DD.ro ds
  | _ => False
theorem sim_retOwn {i : Nat} : SimS K ib b (tRet (tVar i)) (dRetOwn i) := by
  intro S0 H0 Sm S H σ δ D DD o em g0 e h x
  unfold dRetOwn at h
  split at h
  · rename_i ds q0
    obtain ⟨p, xs, hσ, hp, hr, hS, h0, hb, hu⟩ := e.own i ds q0
    exact ⟨_, hσ, x.ro S H p xs ds g0 em hp hr hS h0 h⟩
  · exact h.elim
/-! own lists changed -/
def rInsertL : V → List V → Hp → VK → Prop := fun x vs H Q => ∃ (l : Addr) (xs : List V) (i : Int) (y : V), x = .ref l ∧ vs = [.int i, y] ∧ H l = some (.lst xs) ∧ xs.length < sizeLine ∧ 0 ≤ i ∧ i < 2 ^ 63 ∧ Q .non (upd H l (.lst (xs.take i.toNat ++ [y] ++ xs.drop i.toNat)))
theorem mt_insertL {X : Cx} : MtR X "list.insert" rInsertL := mt_insert
def dInsert (i : Nat) (da db : DE) : DS := fun DD δ => match δ[i]? with
  | some (some (.own ds)) => da δ fun x => db δ fun y => isI x fun n => small (ds.length + 1) = true ∧ 0 ≤ n ∧ n < 2 ^ 63 ∧ DD.nx (δ.set i (some (.own (ds.take n.toNat ++ [y] ++ ds.drop n.toNat))))
  | _ => False
theorem sim_insert {i : Nat} (hi : ib ≠ some i) (h1 : SimE K ib b ta da) (h2 : SimE K ib b tb db) : SimS K ib b (tDrop (tBM K "list" rInsertL (tVar i) (tCons ta (tCons tb tNil)))) (dInsert i da db) := by
  intro S0 H0 Sm S H σ δ D DD o em g0 e h x
  unfold dInsert at h
  split at h
  · rename_i ds q0
    obtain ⟨p, xs, hσ, hp, hr, hS, h0, hb, hu⟩ := e.own i ds q0
    refine ⟨_, hσ, .inl ⟨rfl, xs, .inl (.inl hp)⟩, ?_⟩
    refine h1 H0 S H σ δ _ _ g0.ok e h fun S1 H1 v dv g1 r q => ?_
    refine h2 H0 S1 H1 σ δ _ _ g1.ok (e.go g1) q fun S2 H2 w dw g2 r2 q2 => ?_
    have g12 := g1.trans g0.ok g2
    have hp2 := g12.keep p _ hb hp
    have hS2 := g12.new p (by rw [hp]; exact Option.some_ne_none _) hS
    unfold isI at q2
    split at q2
    · rename_i n
      obtain ⟨z1, z2, z3, z4⟩ := q2
      refine ⟨p, xs, n, w, rfl, by rw [(r.mono g2.st).intV], hp2, by rw [hr.length]; exact small_lt z1, z2, z3, ?_⟩
      have hr2 := hr.mono g12.st
      obtain ⟨ga, ea⟩ := setOwn_go (ys := xs.take n.toNat ++ [w] ++ xs.drop n.toNat) hi o (g0.trans o g12) (e.go g12) q0 hσ hp2 hS2 h0 hb hu
        (((hr2.take n.toNat).append (.cons r2 .nil)).append (hr2.drop n.toNat))
      exact x.nx S2 _ _ _ ga (em.trans g12.st) ea z4
    · exact q2.elim
  · exact h.elim
theorem sim_extend {i : Nat} (hi : ib ≠ some i) (h1 : SimE K ib b te de) : SimS K ib b (tDrop (tBM K "list" rExtend (tVar i) (tCons te tNil))) (dExtend i de) := by
  intro S0 H0 Sm S H σ δ D DD o em g0 e h x
  unfold dExtend at h
  split at h
  · rename_i ds q0
    obtain ⟨p, xs, hσ, hp, hr, hS, h0, hb, hu⟩ := e.own i ds q0
    refine ⟨_, hσ, .inl ⟨rfl, xs, .inl (.inl hp)⟩, ?_⟩
    refine h1 H0 S H σ δ _ _ g0.ok e h fun S1 H1 v dv g1 r q => ?_
    have hp1 := g1.keep p _ hb hp
    have hS1 := g1.new p (by rw [hp]; exact Option.some_ne_none _) hS
    split at q
    · rename_i es
      obtain ⟨c, ys, rfl, hc, qy⟩ := r.lstV
      refine ⟨p, c, xs, ys, rfl, rfl, hp1, g1.ok.sub _ _ hc, by rw [hr.length, qy.length]; exact small_ok q.1, ?_⟩
      obtain ⟨ga, ea⟩ := setOwn_go (ys := xs ++ ys) hi o (g0.trans o g1) (e.go g1) q0 hσ hp1 hS1 h0 hb hu ((hr.mono g1.st).append qy)
      exact x.nx S1 _ _ _ ga (em.trans g1.st) ea q.2
    · exact q.elim
  · exact h.elim
end
end DL

/-! New lists by comprehension; promises that hand back a new list; pop; while; in with deep data; max, min, sum. -/
namespace DL
open PySem PySem.Spec PyProof.Rows L2
open Evl (Ex ex_l ex_t)
section
variable {K : PySem.W.Frag} {ib : Option Nat} {b : Bg} {te ta tb : TE} {de da db : DE} {tt : TT} {dt : DT} {t : TA} {d dn : DA} {ti : TI} {di : DA} {ts tu : TS} {ds du : DS}
def dnLc (di : DA) (j : Nat) (dt : DT) (de : DE) (vs : List Nat) : DA := fun δ R => di δ fun xs => small xs.length = true ∧ ∃ I : Nat → List PyData → Prop, I 0 [] ∧
  (∀ i x acc, xs[i]? = some x → acc.length ≤ i → I i acc → dt ((wipeD δ vs).set j (some (.dat x))) fun c =>
    if c = true then de ((wipeD δ vs).set j (some (.dat x))) fun y => I (i + 1) (acc ++ [y]) else I (i + 1) acc) ∧ ∀ acc, acc.length ≤ xs.length → I xs.length acc → R acc
theorem sim_nLc {j : Nat} {vs : List Nat} (hj : j ∈ vs) (hv : ∀ i, ib = some i → i ∉ vs) (h1 : SimI K ib b ti di) (h2 : SimT K ib b tt dt) (h3 : SimE K ib b te de) :
    SimN K ib b (tLc ti (gName j) tt te vs) (dnLc di j dt de vs) := by
  intro H0 S H σ δ R Q o e h k
  refine h1 H0 S H σ δ _ _ o e h fun S1 H1 J xs g1 wk q D hD => ?_
  obtain ⟨hz, I, i0, turn, done⟩ := q
  have hij : ib ≠ some j := fun z => hv j z hj
  have oD := g1.ok
  have gD : Go ib b S1 H1 S1 (upd H1 D (.lst [])) := Go.laidOwn oD hD
  refine ⟨fun i m H' => m = xs.length - i ∧ i ≤ xs.length ∧ ∃ S' ys acc, Go ib b S1 H1 S' H' ∧ H' D = some (.lst ys) ∧ S' D = none ∧ Reps K S' ys acc ∧ acc.length ≤ i ∧ I i acc,
    ⟨xs.length, by omega, Nat.zero_le _, S1, [], [], gD, upd_same, Ex.none_of oD.sub hD, .nil, Nat.zero_le _, i0⟩, ?_⟩
  rintro i m H' ⟨rfl, hi, S', ys, acc, g', hys, hS', racc, hacc, hI⟩
  obtain ⟨w1, w2, w3⟩ := wk S' H' g'.st g'.ok
  by_cases hlt : i < xs.length
  · refine .inr ⟨w1 i hlt, fun H2 => ∃ S' ys acc, Go ib b S1 H1 S' H2 ∧ H2 D = some (.lst ys) ∧ S' D = none ∧ Reps K S' ys acc ∧ acc.length ≤ i + 1 ∧ I (i + 1) acc, ?_, ?_⟩
    · rintro H2 ⟨S2, ys2, acc2, a1, a2, a3, a4, a5, a6⟩
      exact ⟨xs.length - (i + 1), by omega, rfl, hlt, S2, ys2, acc2, a1, a2, a3, a4, a5, a6⟩
    · intro y H2 hy
      obtain ⟨S2, dy, g2, hy2, ry⟩ := w3 i y H2 hlt hy
      have nb : ib ≠ none → D ≠ b.1 := fun z w => (oD.bag z).tr (w ▸ hD)
      have gA := g'.trans oD g2
      have hys2 := g2.keep D _ nb hys
      have hS2 := g2.new D (by rw [hys]; exact Option.some_ne_none _) hS'
      have eA := (((e.go (g1.trans o gA)).wipe hv).set (i := j) hij ry)
      refine ⟨wipe_set σ vs j _ hj, ?_⟩
      refine h2 H0 S2 H2 _ _ _ _ gA.ok eA (turn i dy acc hy2 hacc hI) fun S3 H3 c g3 q3 => ?_
      have gB := gA.trans oD g3
      have hys3 := g3.keep D _ nb hys2
      have hS3 := g3.new D (by rw [hys2]; exact Option.some_ne_none _) hS2
      cases c with
      | true =>
        rw [if_pos rfl] at q3 ⊢
        refine h3 H0 S3 H3 _ _ _ _ gB.ok (eA.go g3) q3 fun S4 H4 v dv g4 r4 q4 => ?_
        have gC := gB.trans oD g4
        have hys4 := g4.keep D _ nb hys3
        have hS4 := g4.new D (by rw [hys3]; exact Option.some_ne_none _) hS3
        have rac4 := racc.mono ((g2.st.trans g3.st).trans g4.st)
        have hzz := of_decide_eq_true hz
        refine ⟨ys, hys4, by rw [rac4.length]; exact Evl.sz_lt (by omega), S4, ys ++ [v], acc ++ [dv], Go.ownUpd oD gC hD hS4, upd_same, hS4, rac4.append (.cons r4 .nil), ?_, q4⟩
        rw [List.length_append, List.length_singleton]
        omega
      | false =>
        rw [if_neg Bool.false_ne_true] at q3 ⊢
        exact ⟨S3, ys, acc, gB, hys3, hS3, racc.mono (g2.st.trans g3.st), by omega, q3⟩
  · have ei : i = xs.length := by omega
    subst ei
    exact .inl ⟨w2, k S' H' D ys acc (g1.trans o g') hys racc hS' (g1.fresh o hD) (done acc hacc hI)⟩
/-! promises that hand back a new list -/
def spPO (K : PySem.W.Frag) (pre : List PyData → Prop) (post : List PyData → List PyData → Prop) : Sp := fun vs H Q _ => ∃ (S : Hp) (b : Bg) (ds : List PyData), Okk none b S H ∧ Reps K S vs ds ∧ pre ds ∧
  ∀ S' H' p xs es, Go none b S H S' H' → H' p = some (.lst xs) → Reps K S' xs es → S' p = none → H p = none → post ds es → Q (.ref p) H'
def spGO (K : PySem.W.Frag) (pre : List PyData → Prop) (post : List PyData → List PyData → Prop) : Sp := fun vs H Q _ => ∃ (S : Hp) (b : Bg) (ws : List V) (ds : List PyData), vs = .ref b.1 :: ws ∧ Okk (some 0) b S H ∧ Reps K S ws ds ∧ pre ds ∧
  ∀ S' H' p xs es, Go (some 0) b S H S' H' → H' p = some (.lst xs) → Reps K S' xs es → S' p = none → H p = none → post ds es → Q (.ref p) H'
def dnCall (pre : List PyData → Prop) (post : List PyData → List PyData → Prop) (d : DA) : DA := fun δ R => d δ fun ds => pre ds ∧ ∀ r, post ds r → R r
theorem sim_nCallP {pre : List PyData → Prop} {post : List PyData → List PyData → Prop} {E : XK} (h1 : SimA K ib b t d) : SimN K ib b (tCall (spPO K pre post) [] E t) (dnCall pre post d) := by
  intro H0 S H σ δ R Q o e h k
  refine h1 H0 S H σ δ _ _ o e h fun S1 H1 vs ds g r q => ?_
  rw [List.append_nil]
  refine ⟨S1, b, ds, g.ok.pure, r, q.1, fun S2 H2 p xs es g2 hp rx hS hn q2 => ?_⟩
  exact k S2 H2 p xs es (g.trans o (Go.ofPure g.ok g2)) hp rx hS (g.fresh o hn) (q.2 es q2)
theorem sim_nCallG {pre : List PyData → Prop} {post : List PyData → List PyData → Prop} {E : XK} {i : Nat} (hi : ib = some i) (h1 : SimA K ib b t d) :
    SimN K ib b (tCall (spGO K pre post) [] E (tCons (tVar i) t)) (dnCall pre post d) := by
  intro H0 S H σ δ R Q o e h k
  refine ⟨_, e.slot i hi, ?_⟩
  refine h1 H0 S H σ δ _ _ o e h fun S1 H1 vs ds g r q => ?_
  show spGO K pre post ((V.ref b.1 :: vs) ++ []) H1 Q E
  rw [List.append_nil]
  subst hi
  refine ⟨S1, b, vs, ds, rfl, g.ok.as, r, q.1, fun S2 H2 p xs es g2 hp rx hS hn q2 => ?_⟩
  exact k S2 H2 p xs es (g.trans o g2.as) hp rx hS (g.fresh o hn) (q.2 es q2)
theorem len_PO {pre : List PyData → Prop} {post : List PyData → List PyData → Prop} {n : Nat} (h : ∀ ds, pre ds → ds.length = n) : ∀ vs H Q E, spPO K pre post vs H Q E → vs.length = n := by
  rintro vs H Q E ⟨S, b, ds, o, r, p, k⟩
  rw [r.length]
  exact h ds p
theorem len_GO {pre : List PyData → Prop} {post : List PyData → List PyData → Prop} {n : Nat} (h : ∀ ds, pre ds → ds.length = n) : ∀ vs H Q E, spGO K pre post vs H Q E → vs.length = n + 1 := by
  rintro vs H Q E ⟨S, b, ws, ds, rfl, o, r, p, k⟩
  rw [List.length_cons, r.length, h ds p]
theorem body_PO {dst : DS} {pre : List PyData → Prop} {post : List PyData → List PyData → Prop} {N : List Str} (sim : ∀ b, SimS K none b ts dst)
    (h : ∀ ds, pre ds → dst { nx := fun _ => False, rt := fun _ => False, ro := post ds } (startD N.length (ds.map fun d => some (.dat d))))
    {vs : List V} {H : Hp} {Q : VK} {E : XK} (q : spPO K pre post vs H Q E) : ts { nx := fun _ H' => Q .non H', rt := Q } (L2.start N vs) H := by
  obtain ⟨S, b, ds, o, r, hp, k⟩ := q
  refine sim b S H S S H _ _ _ _ o (Ex.refl S) (Go.refl o) (env_start r) (h ds hp) ⟨?_, ?_, ?_, ?_, ?_⟩
  · intro S' H' σ' δ' g _ _ z
    exact z.elim
  · intro S' H' v d g _ rv z
    exact z.elim
  · intro S' H' σ' δ' g _ _ z
    exact z
  · intro S' H' σ' δ' g _ _ z
    exact z
  · intro S' H' p xs es g _ h1 h2 h3 h4 z
    exact k S' H' p xs es g h1 h2 h3 h4 z
theorem body_GO {dst : DS} {pre : List PyData → Prop} {post : List PyData → List PyData → Prop} {N : List Str} (sim : ∀ b, SimS K (some 0) b ts dst)
    (h : ∀ ds, pre ds → dst { nx := fun _ => False, rt := fun _ => False, ro := post ds } (startD N.length (none :: ds.map fun d => some (.dat d))))
    {vs : List V} {H : Hp} {Q : VK} {E : XK} (q : spGO K pre post vs H Q E) : ts { nx := fun _ H' => Q .non H', rt := Q } (L2.start N vs) H := by
  obtain ⟨S, b, ws, ds, rfl, o, r, hp, k⟩ := q
  refine sim b S H S S H _ _ _ _ o (Ex.refl S) (Go.refl o) (env_startG r) (h ds hp) ⟨?_, ?_, ?_, ?_, ?_⟩
  · intro S' H' σ' δ' g _ _ z
    exact z.elim
  · intro S' H' v d g _ rv z
    exact z.elim
  · intro S' H' σ' δ' g _ _ z
    exact z
  · intro S' H' σ' δ' g _ _ z
    exact z
  · intro S' H' p xs es g _ h1 h2 h3 h4 z
    exact k S' H' p xs es g h1 h2 h3 h4 z
/-- x = y.pop() -/
def dAsgPop (i j : Nat) : DS := fun DD δ => match δ[i]? with
  | some (some (.own ds)) => match ds.getLast? with
    | some y => DD.nx ((δ.set i (some (.own ds.dropLast))).set j (some (.dat y)))
    | none => False
  | _ => False
theorem Reps.dropLast {S : Hp} : ∀ {vs : List V} {ds : List PyData}, Reps K S vs ds → Reps K S vs.dropLast ds.dropLast
  | _, _, .nil => .nil
  | _, _, .cons r .nil => .nil
  | _, _, .cons r (.cons r2 q) => .cons r (Reps.dropLast (.cons r2 q))
theorem sim_asgPop {i j : Nat} (hi : ib ≠ some i) (hj : ib ≠ some j) : SimS K ib b (tAsg (tBM0 K "list" rPop (tVar i)) (gName j)) (dAsgPop i j) := by
  intro S0 H0 Sm S H σ δ D DD o em g0 e h x
  unfold dAsgPop at h
  split at h
  · rename_i ds q0
    obtain ⟨p, xs, hσ, hp, hr, hS, h0, hb, hu⟩ := e.own i ds q0
    split at h
    · rename_i y hy
      rw [List.getLast?_eq_getElem?] at hy
      obtain ⟨v, hv, rv⟩ := hr.get hy
      refine ⟨_, hσ, .inl ⟨rfl, xs, .inl (.inl hp)⟩, p, xs, v, rfl, rfl, hp, by rw [hr.length]; exact hv, ?_⟩
      obtain ⟨ga, ea⟩ := setOwn_go (ys := xs.dropLast) hi o g0 e q0 hσ hp hS h0 hb hu (Reps.dropLast hr)
      exact x.nx S _ _ _ ga em (ea.set hj rv) h
    · exact h.elim
  · exact h.elim
/-- while -/
def dWhile (dt : DT) (ds : DS) : DS := fun DD δ => ∃ I : Nat → DEnv → Prop, (∃ m, I m δ) ∧ ∀ m δ', I m δ' → dt δ' fun c =>
  if c = true then ds { DD with nx := fun δ2 => ∃ m', m' < m ∧ I m' δ2, ct := fun δ2 => ∃ m', m' < m ∧ I m' δ2, bk := DD.nx } δ' else DD.nx δ'
theorem sim_while (h1 : SimT K ib b tt dt) (h2 : SimS K ib b ts ds) : SimS K ib b (tWhile tt ts) (dWhile dt ds) := by
  intro S0 H0 Sm S H σ δ D DD o em g0 e h x
  obtain ⟨I, ⟨m0, i0⟩, turn⟩ := h
  refine ⟨fun m σ' H' => ∃ S' δ', Ex S S' ∧ Go ib b S0 H0 S' H' ∧ EnvOk K ib b H0 S' H' σ' δ' ∧ I m δ', ⟨m0, S, δ, Ex.refl S, g0, e, i0⟩, ?_⟩
  rintro m σ1 H1 ⟨S1, δ1, ex, g1, e1, hI⟩
  refine h1 H0 S1 H1 σ1 δ1 _ _ g1.ok e1 (turn m δ1 hI) fun S2 H2 c g2 q2 => ?_
  have gA := g1.trans o g2
  have eA := e1.go g2
  have exA := ex.trans g2.st
  cases c with
  | true =>
    rw [if_pos rfl] at q2 ⊢
    refine ⟨fun σ' H' => ∃ m', m' < m ∧ ∃ S' δ', Ex S S' ∧ Go ib b S0 H0 S' H' ∧ EnvOk K ib b H0 S' H' σ' δ' ∧ I m' δ', fun σ' H' z => z, ?_⟩
    refine h2 S0 H0 S S2 H2 σ1 δ1 _ _ o exA gA eA q2 ⟨?_, ?_, ?_, ?_, ?_⟩
    · rintro S4 H4 σ4 δ4 c1 c2 c3 ⟨m', hm, c4⟩
      exact ⟨m', hm, S4, δ4, c2, c1, c3, c4⟩
    · intro S4 H4 v4 d4 c1 c2 c3 c4
      exact x.rt S4 H4 v4 d4 c1 (em.trans c2) c3 c4
    · intro S4 H4 σ4 δ4 c1 c2 c3 c4
      exact x.nx S4 H4 σ4 δ4 c1 (em.trans c2) c3 c4
    · rintro S4 H4 σ4 δ4 c1 c2 c3 ⟨m', hm, c4⟩
      exact ⟨m', hm, S4, δ4, c2, c1, c3, c4⟩
    · intro S4 H4 p4 xs4 es4 c1 c2 c3 c4 c5 c6 c7
      exact x.ro S4 H4 p4 xs4 es4 c1 (em.trans c2) c3 c4 c5 c6 c7
  | false =>
    rw [if_neg Bool.false_ne_true] at q2 ⊢
    exact x.nx S2 H2 σ1 δ1 gA (em.trans exA) eA q2
/-- x in a list of data -/
def rInDb (K : PySem.W.Frag) (neg : Bool) : R2 := if neg then rNotInD K else rInD K
def dInD (neg : Bool) : PyData → PyData → (PyData → Prop) → Prop := fun x y R => match y with
  | .list ds => (SeqAt.shaped x && SeqAt.shaped (.list ds)) = true ∧ R (.bool (if neg then !(ds.any fun e => PyData.eqv e x) else ds.any fun e => PyData.eqv e x))
  | _ => False
theorem simr_inD : SimR2 K ib b (rInD K) (dInD false) := by
  intro S H x y dx dy R Q o rx ry h k
  unfold dInD at h
  split at h
  · rename_i ds
    have h1 := (Bool.and_eq_true _ _ ▸ h.1 : _ ∧ _)
    exact ⟨dx, ds, (rx.mono o.sub).dp (SeqAt.canLay_of_shaped h1.1), (ry.mono o.sub).dp (SeqAt.canLay_of_shaped h1.2), h1.1, h1.2, k S H _ _ (Go.refl o) (.bl _) h.2⟩
  · exact h.elim
theorem simr_notInD : SimR2 K ib b (rNotInD K) (dInD true) := by
  intro S H x y dx dy R Q o rx ry h k
  unfold dInD at h
  split at h
  · rename_i ds
    have h1 := (Bool.and_eq_true _ _ ▸ h.1 : _ ∧ _)
    exact ⟨dx, ds, (rx.mono o.sub).dp (SeqAt.canLay_of_shaped h1.1), (ry.mono o.sub).dp (SeqAt.canLay_of_shaped h1.2), h1.1, h1.2, k S H _ _ (Go.refl o) (.bl _) h.2⟩
  · exact h.elim
/-- max, min, sum of a list of ints -/
def intsOf : List PyData → Option (List Int)
  | [] => some []
  | .int c :: r => (intsOf r).map (c :: ·)
  | _ => none
theorem ints_of_rep {S : Hp} : ∀ {vs : List V} {ds : List PyData} {bs : List Int}, Reps K S vs ds → intsOf ds = some bs → vs = bs.map V.int
  | _, _, bs, .nil, h => by
    rw [intsOf] at h
    cases h
    rfl
  | _, _, bs, .cons r q, h => by
    cases r with
    | int c =>
      rw [intsOf] at h
      obtain ⟨w, hw, rfl⟩ := Option.map_eq_some_iff.mp h
      rw [ints_of_rep q hw]
      rfl
    | _ => simp [intsOf] at h
def dSum : List PyData → (PyData → Prop) → Prop := fun ds R => match ds with
  | [.list xs] => ∃ ns, intsOf xs = some ns ∧ R (.int ns.sum)
  | _ => False
theorem simc_sum : SimC K ib b (rSum K) dSum := by
  intro S H xs ds R Q o r h k
  unfold dSum at h
  split at h
  · cases r with
    | cons r1 r2 =>
      cases r2
      obtain ⟨a, xs, rfl, hq, q⟩ := r1.lstV
      obtain ⟨ns, hb, h⟩ := h
      have e := ints_of_rep q hb
      subst e
      exact ⟨a, ns, rfl, SqL.of (o.sub _ _ hq), k S H _ _ (Go.refl o) (.int _) h⟩
  · exact h.elim
def dMax : List PyData → (PyData → Prop) → Prop := fun ds R => match ds with
  | [.list xs] => ∃ ns, intsOf xs = some ns ∧ 0 < ns.length ∧ ∀ m, m ∈ ns → (∀ y, y ∈ ns → y ≤ m) → R (.int m)
  | _ => False
theorem simc_max : SimC K ib b (rMax K) dMax := by
  intro S H xs ds R Q o r h k
  unfold dMax at h
  split at h
  · cases r with
    | cons r1 r2 =>
      cases r2
      obtain ⟨a, xs, rfl, hq, q⟩ := r1.lstV
      obtain ⟨ns, hb, h0, h⟩ := h
      have e := ints_of_rep q hb
      subst e
      exact ⟨a, ns, rfl, SqL.of (o.sub _ _ hq), h0, fun m h1 h2 => k S H _ _ (Go.refl o) (.int _) (h m h1 h2)⟩
  · exact h.elim
/-- min(i, j) -/
def rMin2 : List V → Hp → VK → Prop := fun xs H Q => ∃ i j, xs = [.int i, .int j] ∧ Q (.int (if j < i then j else i)) H
theorem call_min2' {X : Cx} (hc : X.calm = true) : CallR X (.builtin "min") rMin2 := call_min2 hc
def dMin2 : List PyData → (PyData → Prop) → Prop := fun ds R => match ds with
  | [.int i, .int j] => R (.int (if j < i then j else i))
  | _ => False
theorem simc_min2 : SimC K ib b rMin2 dMin2 := by
  intro S H xs ds R Q o r h k
  unfold dMin2 at h
  split at h
  · cases r with
    | cons r1 r2 =>
      cases r2 with
      | cons r2 r3 =>
        cases r3
        rw [r1.intV, r2.intV]
        exact ⟨_, _, rfl, k S H _ _ (Go.refl o) (.int _) h⟩
  · exact h.elim
end
end DL

/-! Own lists handed back as data, read for new lists; comprehensions over pairs; defs that call themselves. -/
namespace DL
open PySem PySem.Spec PyProof.Rows L2
open Evl (Ex ex_l ex_t)
theorem units65 {k : Nat} {A : Around} (r : Room k A) : A.units + 65 < cLine := by have := r.un; omega
/-- a promise that nobody can ask for -/
theorem FnG.never {P : Program} {w : World} {K : PySem.W.Frag} {mg : Str → Option Value} {base : Heap} {CX : CXT} {k : Nat} {f : Addr} {fd : FuncData} {ps : List Str} {sp : Sp} (h : ∀ vs H Q E, ¬ sp vs H Q E) : FnG P w K mg base CX k f fd ps sp :=
  ⟨fun vs H Q E q => absurd q (h vs H Q E), fun A o s H args us vs Q E hr e b v q => absurd q (h vs H Q E)⟩
theorem never_P {K : PySem.W.Frag} {pre : List PyData → Prop} {post : List PyData → PyData → Prop} (h : ∀ ds, ¬ pre ds) : ∀ vs H Q E, ¬ spP K pre post vs H Q E := by
  rintro vs H Q E ⟨S, b, ds, o, r, p, k⟩
  exact h ds p
theorem never_G {K : PySem.W.Frag} {pre : List PyData → Prop} {post : List PyData → PyData → Prop} (h : ∀ ds, ¬ pre ds) : ∀ vs H Q E, ¬ spG K pre post vs H Q E := by
  rintro vs H Q E ⟨S, b, ws, ds, e, o, r, p, k⟩
  exact h ds p
theorem never_PO {K : PySem.W.Frag} {pre : List PyData → Prop} {post : List PyData → List PyData → Prop} (h : ∀ ds, ¬ pre ds) : ∀ vs H Q E, ¬ spPO K pre post vs H Q E := by
  rintro vs H Q E ⟨S, b, ds, o, r, p, k⟩
  exact h ds p
theorem never_GO {K : PySem.W.Frag} {pre : List PyData → Prop} {post : List PyData → List PyData → Prop} (h : ∀ ds, ¬ pre ds) : ∀ vs H Q E, ¬ spGO K pre post vs H Q E := by
  rintro vs H Q E ⟨S, b, ws, ds, e, o, r, p, k⟩
  exact h ds p
theorem Reps.tupOnly_all {ds : List PyData} (h : ∀ d ∈ ds, tupOnly d = true) : tupOnlyAll ds = true := by
  induction ds with
  | nil => rfl
  | cons d r ih =>
    show (tupOnly d && tupOnlyAll r) = true
    rw [h d (List.mem_cons_self ..), ih fun x hx => h x (List.mem_cons_of_mem _ hx)]
    rfl
section
variable {K : PySem.W.Frag} {ib : Option Nat} {b : Bg} {te ta tb : TE} {de da db : DE} {tt : TT} {dt : DT} {t : TA} {d dn : DA} {ti : TI} {di : DA} {ts tu : TS} {ds du : DS}
/-- return x, x a list of one's own: as data -/
def dRetOwnD (i : Nat) : DS := fun DD δ => match δ[i]? with
  | some (some (.own ds)) => DD.rt (.list ds)
  | _ => False
theorem sim_retOwnD {i : Nat} : SimS K ib b (tRet (tVar i)) (dRetOwnD i) := by
  intro S0 H0 Sm S H σ δ D DD o em g0 e h x
  unfold dRetOwnD at h
  split at h
  · rename_i ds q0
    obtain ⟨p, xs, hσ, hp, hr, hS, h0, hb, hu⟩ := e.own i ds q0
    exact ⟨_, hσ, x.rt _ H _ _ (g0.tell o hp hS h0) (em.trans (Ex.new hS)) (.lst upd_same (hr.mono (Ex.new hS))) h⟩
  · exact h.elim
/-- an own list read for a new list -/
def dBorrowN (i : Nat) (dn : DA) : DA := fun δ R => match δ[i]? with
  | some (some (.own ds)) => dn (δ.set i (some (.dat (.list ds)))) fun es => tupOnlyAll es = true ∧ R es
  | _ => False
theorem sim_borrowN {i : Nat} (h1 : SimN K ib b te dn) : SimN K ib b te (dBorrowN i dn) := by
  intro H0 S H σ δ R Q o e h k
  unfold dBorrowN at h
  split at h
  · rename_i ds q0
    obtain ⟨p, xs, hσ, hp, hr, hS, h0, hb, hu⟩ := e.own i ds q0
    obtain ⟨o1, e1⟩ := borrow_ok o e q0 hσ hp hr hS hb hu
    refine h1 H0 _ H σ _ _ _ o1 e1 h fun S2 H2 p2 xs2 es g hp2 r hS2 hn q => ?_
    obtain ⟨e2, g2⟩ := borrow_back o hS g
    refine k _ H2 p2 xs2 es g2 hp2 (Reps.dropT e2 r q.1) ?_ hn q.2
    by_cases c : p2 = p
    · rw [c]; exact cutH_same
    · rw [cutH_ne c]; exact hS2
  · exact h.elim
theorem wipe_put (σ : L2.St) (vs : List Nat) (j : Nat) (x : Option V) (h : j ∈ vs) : wipe (σ.set j x) vs = wipe σ vs := by
  apply List.ext_getElem?
  intro i
  rw [wipe_get, wipe_get, List.length_set]
  by_cases c : i ∈ vs ∧ i < σ.length
  · rw [if_pos c, if_pos c]
  · rw [if_neg c, if_neg c]
    by_cases hi : i = j
    · subst hi
      have : ¬ i < σ.length := fun z => c ⟨h, z⟩
      rw [List.getElem?_eq_none (by rw [List.length_set]; omega), List.getElem?_eq_none (by omega)]
    · rw [List.getElem?_set_ne (Ne.symm hi)]
theorem wipe_twice (σ : L2.St) (vs : List Nat) : wipe (wipe σ vs) vs = wipe σ vs := by
  apply List.ext_getElem?
  intro i
  rw [wipe_get, wipe_length]
  by_cases c : i ∈ vs ∧ i < σ.length
  · rw [if_pos c, wipe_get, if_pos c]
  · rw [if_neg c]
/-- [e for x, y in ..] -/
def dnLc2 (di : DA) (j l : Nat) (dt : DT) (de : DE) (vs : List Nat) : DA := fun δ R => di δ fun xs => small xs.length = true ∧ ∃ I : Nat → List PyData → Prop, I 0 [] ∧
  (∀ i x acc, xs[i]? = some x → acc.length ≤ i → I i acc → match x with
    | .tuple [x1, x2] => dt (((wipeD δ vs).set j (some (.dat x1))).set l (some (.dat x2))) fun c =>
      if c = true then de (((wipeD δ vs).set j (some (.dat x1))).set l (some (.dat x2))) fun y => I (i + 1) (acc ++ [y]) else I (i + 1) acc
    | _ => False) ∧ ∀ acc, acc.length ≤ xs.length → I xs.length acc → R acc
theorem sim_nLc2 {j l : Nat} {vs : List Nat} (hj : j ∈ vs) (hl : l ∈ vs) (hv : ∀ i, ib = some i → i ∉ vs) (h1 : SimI K ib b ti di) (h2 : SimT K ib b tt dt) (h3 : SimE K ib b te de) :
    SimN K ib b (tLc ti (gTup K 2 (gCons (gName j) (gCons (gName l) gNil))) tt te vs) (dnLc2 di j l dt de vs) := by
  intro H0 S H σ δ R Q o e h k
  refine h1 H0 S H σ δ _ _ o e h fun S1 H1 J xs g1 wk q D hD => ?_
  obtain ⟨hz, I, i0, turn, done⟩ := q
  have hij : ib ≠ some j := fun z => hv j z hj
  have hil : ib ≠ some l := fun z => hv l z hl
  have oD := g1.ok
  have gD : Go ib b S1 H1 S1 (upd H1 D (.lst [])) := Go.laidOwn oD hD
  refine ⟨fun i m H' => m = xs.length - i ∧ i ≤ xs.length ∧ ∃ S' ys acc, Go ib b S1 H1 S' H' ∧ H' D = some (.lst ys) ∧ S' D = none ∧ Reps K S' ys acc ∧ acc.length ≤ i ∧ I i acc,
    ⟨xs.length, by omega, Nat.zero_le _, S1, [], [], gD, upd_same, Ex.none_of oD.sub hD, .nil, Nat.zero_le _, i0⟩, ?_⟩
  rintro i m H' ⟨rfl, hi, S', ys, acc, g', hys, hS', racc, hacc, hI⟩
  obtain ⟨w1, w2, w3⟩ := wk S' H' g'.st g'.ok
  by_cases hlt : i < xs.length
  · refine .inr ⟨w1 i hlt, fun H2 => ∃ S' ys acc, Go ib b S1 H1 S' H2 ∧ H2 D = some (.lst ys) ∧ S' D = none ∧ Reps K S' ys acc ∧ acc.length ≤ i + 1 ∧ I (i + 1) acc, ?_, ?_⟩
    · rintro H2 ⟨S2, ys2, acc2, a1, a2, a3, a4, a5, a6⟩
      exact ⟨xs.length - (i + 1), by omega, rfl, hlt, S2, ys2, acc2, a1, a2, a3, a4, a5, a6⟩
    · intro y H2 hy
      obtain ⟨S2, dy, g2, hy2, ry⟩ := w3 i y H2 hlt hy
      have nb : ib ≠ none → D ≠ b.1 := fun z w => (oD.bag z).tr (w ▸ hD)
      have gA := g'.trans oD g2
      have hys2 := g2.keep D _ nb hys
      have hS2 := g2.new D (by rw [hys]; exact Option.some_ne_none _) hS'
      have tq := turn i dy acc hy2 hacc hI
      split at tq
      · rename_i x1 x2
        obtain ⟨a, zs, rfl, hq, rz⟩ := ry.tupV
        cases rz with
        | cons r1 rz =>
        cases rz with
        | cons r2 rz =>
        cases rz
        refine ⟨a, _, rfl, ex_t gA.ok.sub hq, rfl, _, _, rfl, _, _, rfl, rfl, ?_, ?_⟩
        · rw [wipe_put _ _ _ _ hl, wipe_put _ _ _ _ hj, wipe_twice]
        have eA := ((((e.go (g1.trans o gA)).wipe hv).set (i := j) hij r1).set (i := l) hil r2)
        refine h2 H0 S2 H2 _ _ _ _ gA.ok eA tq fun S3 H3 c g3 q3 => ?_
        have gB := gA.trans oD g3
        have hys3 := g3.keep D _ nb hys2
        have hS3 := g3.new D (by rw [hys2]; exact Option.some_ne_none _) hS2
        cases c with
        | true =>
          rw [if_pos rfl] at q3 ⊢
          refine h3 H0 S3 H3 _ _ _ _ gB.ok (eA.go g3) q3 fun S4 H4 v dv g4 r4 q4 => ?_
          have gC := gB.trans oD g4
          have hys4 := g4.keep D _ nb hys3
          have hS4 := g4.new D (by rw [hys3]; exact Option.some_ne_none _) hS3
          have rac4 := racc.mono ((g2.st.trans g3.st).trans g4.st)
          have hzz := of_decide_eq_true hz
          refine ⟨ys, hys4, by rw [rac4.length]; exact Evl.sz_lt (by omega), S4, ys ++ [v], acc ++ [dv], Go.ownUpd oD gC hD hS4, upd_same, hS4, rac4.append (.cons r4 .nil), ?_, q4⟩
          rw [List.length_append, List.length_singleton]
          omega
        | false =>
          rw [if_neg Bool.false_ne_true] at q3 ⊢
          exact ⟨S3, ys, acc, gB, hys3, hS3, racc.mono (g2.st.trans g3.st), by omega, q3⟩
      · exact tq.elim
  · have ei : i = xs.length := by omega
    subst ei
    exact .inl ⟨w2, k S' H' D ys acc (g1.trans o g') hys racc hS' (g1.fresh o hD) (done acc hacc hI)⟩
end
end DL

/-! The truth of values; extend by a tuple; an own list told for good; defs handed over as values. -/
namespace DL
open PySem PySem.Spec PyProof.Rows L2
open Evl (Ex ex_l ex_t)
section
variable {X : Cx}
def rExtendT (K : PySem.W.Frag) : V → List V → Hp → VK → Prop := fun x vs H Q => ∃ l b xs zs, x = .ref l ∧ vs = [.ref b] ∧ H l = some (.lst xs) ∧ SqT K H b zs ∧ xs.length + zs.length ≤ sizeLine ∧ Q .non (upd H l (.lst (xs ++ zs)))
theorem mt_extendT : MtM X "list.extend" (rExtendT X.K) := by
  intro pins s σ H x vs v us Q I rx rv h
  obtain ⟨l, b, xs, zs, rfl, rfl, hH, hB, hz, q⟩ := h
  cases rx
  obtain ⟨u, rfl, ru⟩ := rv.one
  cases ru
  obtain ⟨z, its, n, r, hl, e⟩ := I.lstM hH
  obtain ⟨its2, r2, pl, hz2⟩ := I.tuple hB
  obtain ⟨⟨cls, dd, data, sl⟩, ho, hc, n2, hd⟩ := id pl
  simp only at hc hd
  subst hc hd
  have l2 := r2.length
  have hsz : its.toArray.size + its2.toArray.size ≤ sizeLine := by rw [List.size_toArray, List.size_toArray]; omega
  have hlong : ¬ (!its.toArray.isEmpty && Builtin.List.listTooLong (its.toArray.size + its2.toArray.size)) = true := by
    rw [notLongL hsz, Bool.and_false]
    exact Bool.false_ne_true
  refine call_meets F.slot_list_extend ⟨_, e, rfl⟩ F.entry_list_extend (F.args_list_extend_2 _ _)
    (list_extend_tuple l its.toArray n b its2.toArray n2 dd sl hlong (by rw [List.size_toArray]; omega) (by omega)) ⟨e, ho, ?_⟩
  refine ⟨.non, _, I.lset (its' := its ++ its2) hH e (by simp) (r.append r2) ?_, rfl, q⟩
  rw [List.length_append]
  omega
def tTr (K : PySem.W.Frag) (te : TE) : TT := fun σ H Q => te σ H fun x H' => ∃ k, TruV K x H' k ∧ Q k H'
/-- a local name that holds the def f, called -/
def tCallX (i : Nat) (f : Addr) (sp : Sp) (t : TA) : TE := fun σ H Q => σ[i]? = some (some (.ref f)) ∧ t σ H fun vs H1 => sp vs H1 Q E0
theorem pe_cx {i k : Nat} {f : Addr} {fd : FuncData} {ps : List Str} {sp : Sp} {x : Str} {p pos : Pos} {e : Expr} {es : List Expr} {t : TA} (F : FnG X.prog X.w X.K X.mg X.base L2.CX0 k f fd ps sp) (hr : RoomG k X.A)
    (hk : PySem.W.keepIn X.K (.ref f) = true) (hb : Binds X.K fd ps []) (hN : X.N[i]? = some x) (hv : Vis X.env.scope x) (ha : PA X (e :: es) t)
    (hd : (x == ("__debug__" : Str)) = false := by decide) (hcd : (x == ("__classdict__" : Str)) = false := by decide)
    (he : starEach (e :: es) X.env = (false, eval e X.env) :: starEach es X.env := by rfl) (hpl : (backTo pos (starEach es X.env)).any (·.1) = false := by rfl) :
    PE X (.Call (.Name x p) (e :: es) [] pos) (tCallX i f sp t) := by
  refine ⟨fun pins s σ H Q I h => ?_⟩
  obtain ⟨hs, ht⟩ := h
  refine wpAny_Call_Name_kw (thn ((pe_var (pos := p) hN hv hd hcd).run pins s σ H (fun v H1 => v = .ref f ∧ H1 = H) I ⟨.ref f, hs, rfl, rfl⟩) fun u s1 ⟨v, H1, I1, r1, q1⟩ => ?_)
  obtain ⟨rfl, rfl⟩ := q1
  cases r1
  refine PySem.W.callWith_K (h₀ := X.base) I.ok.mod.kin hk (thn (ha.run pos pins s1 σ _ _ I1 ht) fun us s2 ⟨vs, H2, I2, r, q⟩ => ⟨I2.kIn, ?_⟩) he hpl
  exact run_g F hr hb .nil pass0 I2 r (by rw [List.append_nil]; exact q)
end
section
variable {K : PySem.W.Frag} {ib : Option Nat} {b : Bg} {te ta tb : TE} {de da db : DE} {tt : TT} {dt : DT} {t : TA} {d dn : DA} {ts tu : TS} {ds du : DS}
def truD : PyData → Option Bool
  | .none => some false
  | .bool c => some c
  | .int i => some (i != 0)
  | .str x => if small x.length = true then some ((x.length : Int) != 0) else none
  | .list xs => some (!xs.isEmpty)
  | .tuple xs => some (!xs.isEmpty)
  | .dict _ => none
def dTr (de : DE) : DT := fun δ R => de δ fun d => match truD d with
  | some c => R c
  | none => False
theorem Reps.isEmpty {S : Hp} {vs : List V} {ds : List PyData} (r : Reps K S vs ds) : (!ds.isEmpty) = !vs.isEmpty := by
  cases r <;> rfl
theorem sim_tr (h1 : SimE K ib b te de) : SimT K ib b (tTr K te) (dTr de) := by
  intro H0 S H σ δ R Q o e h k
  refine h1 H0 S H σ δ _ _ o e h fun S1 H1 v dv g r q => ?_
  cases r with
  | non => exact ⟨false, rfl, k S1 H1 _ g q⟩
  | bl c => exact ⟨c, rfl, k S1 H1 _ g q⟩
  | int i => exact ⟨_, rfl, k S1 H1 _ g q⟩
  | str x =>
    unfold truD at q
    dsimp only at q
    by_cases c : small x.length = true
    · rw [if_pos c] at q
      exact ⟨_, ⟨small_ok c, rfl⟩, k S1 H1 _ g q⟩
    · rw [if_neg c] at q
      exact q.elim
  | lst hq rs => exact ⟨_, .inl ⟨_, SqL.of (g.ok.sub _ _ hq), rs.isEmpty⟩, k S1 H1 _ g q⟩
  | tup hq rs => exact ⟨_, .inr (.inl ⟨_, ex_t g.ok.sub hq, rs.isEmpty⟩), k S1 H1 _ g q⟩
  | dK _ _ => exact q.elim
  | dT _ _ => exact q.elim
def dExtendT (i : Nat) (de : DE) : DS := fun DD δ => match δ[i]? with
  | some (some (.own ds)) => de δ fun y => match y with
    | .tuple es => small (ds.length + es.length) = true ∧ DD.nx (δ.set i (some (.own (ds ++ es))))
    | _ => False
  | _ => False
theorem sim_extendT {i : Nat} (hi : ib ≠ some i) (h1 : SimE K ib b te de) : SimS K ib b (tDrop (tBM K "list" (rExtendT K) (tVar i) (tCons te tNil))) (dExtendT i de) := by
  intro S0 H0 Sm S H σ δ D DD o em g0 e h x
  unfold dExtendT at h
  split at h
  · rename_i ds q0
    obtain ⟨p, xs, hσ, hp, hr, hS, h0, hb, hu⟩ := e.own i ds q0
    refine ⟨_, hσ, .inl ⟨rfl, xs, .inl (.inl hp)⟩, ?_⟩
    refine h1 H0 S H σ δ _ _ g0.ok e h fun S1 H1 v dv g1 r q => ?_
    have hp1 := g1.keep p _ hb hp
    have hS1 := g1.new p (by rw [hp]; exact Option.some_ne_none _) hS
    split at q
    · rename_i es
      obtain ⟨c, ys, rfl, hc, qy⟩ := r.tupV
      refine ⟨p, c, xs, ys, rfl, rfl, hp1, ex_t g1.ok.sub hc, by rw [hr.length, qy.length]; exact small_ok q.1, ?_⟩
      obtain ⟨ga, ea⟩ := setOwn_go (ys := xs ++ ys) hi o (g0.trans o g1) (e.go g1) q0 hσ hp1 hS1 h0 hb hu ((hr.mono g1.st).append qy)
      exact x.nx S1 _ _ _ ga (em.trans g1.st) ea q.2
    · exact q.elim
  · exact h.elim
/-- from here on the own list of a name is data -/
def dFreeze (i : Nat) (ds : DS) : DS := fun DD δ => match δ[i]? with
  | some (some (.own es)) => ds DD (δ.set i (some (.dat (.list es))))
  | _ => False
theorem sim_freeze {i : Nat} (h1 : SimS K ib b ts ds) : SimS K ib b ts (dFreeze i ds) := by
  intro S0 H0 Sm S H σ δ D DD o em g e h x
  unfold dFreeze at h
  split at h
  · rename_i es q0
    obtain ⟨p, xs, hσ, hp, hr, hS, h0, hb, hu⟩ := e.own i es q0
    obtain ⟨o1, e1⟩ := borrow_ok g.ok e q0 hσ hp hr hS hb hu
    refine h1 S0 H0 Sm _ H σ _ D DD o (em.trans (Ex.new hS)) ⟨g.st.trans (Ex.new hS), g.keep, fun a h1 h2 => ?_, o1⟩ e1 h x
    have : a ≠ p := fun z => h1 (z ▸ h0)
    rw [upd_ne this]
    exact g.new a h1 h2
  · exact h.elim
/-- a list times an int -/
def dRep : PyData → PyData → (PyData → Prop) → Prop := fun x y R => match x, y with
  | .list xs, .int k => (0 ≤ k ∧ k < 2 ^ 63) ∧ small (xs.length * k.toNat) = true ∧ R (.list (List.replicate k.toNat xs).flatten)
  | _, _ => False
theorem Reps.rep {S : Hp} {vs : List V} {ds : List PyData} (r : Reps K S vs ds) : ∀ n : Nat, Reps K S (List.replicate n vs).flatten (List.replicate n ds).flatten
  | 0 => .nil
  | n + 1 => by
    rw [List.replicate_succ, List.replicate_succ, List.flatten_cons, List.flatten_cons]
    exact r.append (Reps.rep r n)
theorem simr_rep : SimR2 K ib b rRep dRep := by
  intro S H x y dx dy R Q o rx ry h k
  unfold dRep at h
  split at h
  · rename_i xs' n
    obtain ⟨a, xs, rfl, hx, qx⟩ := rx.lstV
    rw [ry.intV]
    obtain ⟨⟨h1, h2⟩, h3, h4⟩ := h
    refine ⟨a, _, xs, rfl, rfl, o.sub _ _ hx, by omega, h2, by rw [qx.length]; exact small_ok h3, fun p hp => ?_⟩
    have g := Go.laid (u := .lst (List.replicate n.toNat xs).flatten) o hp
    exact k _ _ _ _ g (.lst upd_same ((qx.rep _).mono g.st)) h4
  · exact h.elim
/-- a, b, c = x, y, z -/
def dPar3 (i j l : Nat) (da : DA) : DS := fun DD δ => da δ fun vs => match vs with
  | [x, y, z] => DD.nx (((δ.set i (some (.dat x))).set j (some (.dat y))).set l (some (.dat z)))
  | _ => False
theorem sim_par3 {i j l : Nat} (hi : ib ≠ some i) (hj : ib ≠ some j) (hl : ib ≠ some l) (h1 : SimA K ib b t d) : SimS K ib b (tPar3 i j l t) (dPar3 i j l d) := by
  intro S0 H0 Sm S H σ δ D DD o em g0 e h x
  refine h1 H0 S H σ δ _ _ g0.ok e h fun S1 H1 vs ds g1 r q => ?_
  match vs, ds, r with
  | [v, w, u], [dv, dw, du], .cons r1 (.cons r2 (.cons r3 .nil)) =>
    exact ⟨v, w, u, rfl, x.nx S1 H1 _ _ (g0.trans o g1) (em.trans g1.st) ((((e.go g1).set hi r1).set hj r2).set hl r3) q⟩
  | [], [], _ => exact q.elim
  | [_], [_], _ => exact q.elim
  | [_, _], [_, _], _ => exact q.elim
  | _ :: _ :: _ :: _ :: _, _ :: _ :: _ :: _ :: _, _ => exact q.elim
/-! defs as values -/
def dCallX (i : Nat) (f : Addr) (pre : List PyData → Prop) (post : List PyData → PyData → Prop) (d : DA) : DE := fun δ R => δ[i]? = some (some (.fn f)) ∧ d δ fun ds => pre ds ∧ ∀ r, post ds r → R r
theorem sim_callX {i : Nat} {f : Addr} {pre : List PyData → Prop} {post : List PyData → PyData → Prop} (h1 : SimA K ib b t d) : SimE K ib b (tCallX i f (spP K pre post) t) (dCallX i f pre post d) := by
  intro H0 S H σ δ R Q o e h k
  refine ⟨e.fn i f h.1, ?_⟩
  refine h1 H0 S H σ δ _ _ o e h.2 fun S1 H1 vs ds g r q => ?_
  refine ⟨S1, b, ds, g.ok.pure, r, q.1, fun S2 H2 v d g2 r2 q2 => ?_⟩
  exact k S2 H2 v d (g.trans o (Go.ofPure g.ok g2)) r2 (q.2 d q2)
/-- the last argument is the def f -/
def spF (K : PySem.W.Frag) (f : Addr) (pre : List PyData → Prop) (post : List PyData → PyData → Prop) : Sp := fun vs H Q E => ∃ ws, vs = ws ++ [.ref f] ∧ spP K pre post ws H Q E
theorem sim_callF1 {f : Addr} {pre : List PyData → Prop} {post : List PyData → PyData → Prop} {E : XK} (h1 : SimE K ib b te de) :
    SimE K ib b (tCall (spF K f pre post) [] E (tCons te (tCons (tC (.ref f)) tNil))) (dCall pre post (dCons de dNil)) := by
  intro H0 S H σ δ R Q o e h k
  refine h1 H0 S H σ δ _ _ o e h fun S1 H1 v dv g r q => ?_
  refine ⟨[v], rfl, S1, b, [dv], g.ok.pure, .cons r .nil, q.1, fun S2 H2 v d g2 r2 q2 => ?_⟩
  exact k S2 H2 v d (g.trans o (Go.ofPure g.ok g2)) r2 (q.2 d q2)
def dCallV (i : Nat) (f : Addr) (pre : List PyData → Prop) (post : List PyData → PyData → Prop) (d : DA) : DE := fun δ R => δ[i]? = some (some (.fn f)) ∧ dCall pre post d δ R
theorem sim_callV1 {i : Nat} {f : Addr} {pre : List PyData → Prop} {post : List PyData → PyData → Prop} {E : XK} (h1 : SimE K ib b te de) :
    SimE K ib b (tCall (spF K f pre post) [] E (tCons te (tCons (tVar i) tNil))) (dCallV i f pre post (dCons de dNil)) := by
  intro H0 S H σ δ R Q o e h k
  refine h1 H0 S H σ δ _ _ o e h.2 fun S1 H1 v dv g r q => ?_
  refine ⟨.ref f, e.fn i f h.1, ?_⟩
  refine ⟨[v], rfl, S1, b, [dv], g.ok.pure, .cons r .nil, q.1, fun S2 H2 v d g2 r2 q2 => ?_⟩
  exact k S2 H2 v d (g.trans o (Go.ofPure g.ok g2)) r2 (q.2 d q2)
theorem len_F {f : Addr} {pre : List PyData → Prop} {post : List PyData → PyData → Prop} {n : Nat} (h : ∀ ds, pre ds → ds.length = n) : ∀ vs H Q E, spF K f pre post vs H Q E → vs.length = n + 1 := by
  rintro vs H Q E ⟨ws, rfl, q⟩
  obtain ⟨S, b, ds, o, r, p, k⟩ := q
  rw [List.length_append, r.length, h ds p]
  rfl
theorem never_F {f : Addr} {pre : List PyData → Prop} {post : List PyData → PyData → Prop} (h : ∀ ds, ¬ pre ds) : ∀ vs H Q E, ¬ spF K f pre post vs H Q E := by
  rintro vs H Q E ⟨ws, rfl, S, b, ds, o, r, p, k⟩
  exact h ds p
theorem env_startF {N : List Str} {S H H0 : Hp} {ws : List V} {ds : List PyData} {f : Addr} (r : Reps K S ws ds) :
    EnvOk K none b H0 S H (L2.start N (ws ++ [.ref f])) (startD N.length ((ds.map fun d => some (.dat d)) ++ [some (.fn f)])) := by
  have cut : ∀ {i : Nat} {x : DV}, ((ds.map fun d => some (DV.dat d)) ++ [some (DV.fn f)])[i]? = some (some x) → (∃ d, ds[i]? = some d ∧ x = .dat d) ∨ (i = ds.length ∧ x = .fn f) := by
    intro i x h
    by_cases hi : i < ds.length
    · rw [List.getElem?_append_left (by rw [List.length_map]; exact hi), List.getElem?_map] at h
      cases e : ds[i]? with
      | none => rw [e] at h; cases h
      | some d => rw [e] at h; cases h; exact .inl ⟨d, rfl, rfl⟩
    · rw [List.getElem?_append_right (by rw [List.length_map]; omega), List.length_map] at h
      by_cases h0 : i - ds.length = 0
      · rw [h0] at h
        cases h
        exact .inr ⟨by omega, rfl⟩
      · rw [List.getElem?_eq_none (by rw [List.length_singleton]; omega)] at h
        cases h
  refine ⟨?_, fun i z => by (cases z), fun i d h => ?_, fun i es h => ?_, fun i a h => ?_⟩
  · unfold L2.start startD
    simp only [List.length_append, List.length_map, List.length_replicate, List.length_cons, List.length_nil, r.length]
  · rcases cut (startD_get h) with ⟨d', hd, e⟩ | ⟨_, e⟩
    · cases e
      obtain ⟨v, hv, rv⟩ := r.get hd
      have hl : i < ws.length := (List.getElem?_eq_some_iff.mp hv).1
      exact ⟨v, start_get (by rw [List.getElem?_append_left hl]; exact hv), rv⟩
    · cases e
  · rcases cut (startD_get h) with ⟨d', hd, e⟩ | ⟨_, e⟩ <;> cases e
  · rcases cut (startD_get h) with ⟨d', hd, e⟩ | ⟨hi, e⟩
    · cases e
    · cases e
      refine start_get ?_
      rw [hi, ← r.length, List.getElem?_append_right (Nat.le_refl _), Nat.sub_self]
      rfl
theorem body_F {f : Addr} {ts : TS} {dst : DS} {pre : List PyData → Prop} {post : List PyData → PyData → Prop} {N : List Str} (sim : ∀ b, SimS K none b ts dst)
    (h : ∀ ds, pre ds → dst { nx := fun _ => post ds .none, rt := post ds } (startD N.length ((ds.map fun d => some (.dat d)) ++ [some (.fn f)])))
    {vs : List V} {H : Hp} {Q : VK} {E : XK} (q : spF K f pre post vs H Q E) : ts { nx := fun _ H' => Q .non H', rt := Q } (L2.start N vs) H := by
  obtain ⟨ws, rfl, S, b, ds, o, r, hp, k⟩ := q
  refine sim b S H S S H _ _ _ _ o (Ex.refl S) (Go.refl o) (env_startF r) (h ds hp) ⟨?_, ?_, ?_, ?_, ?_⟩
  · intro S' H' σ' δ' g _ _ z
    exact k S' H' .non .none g .non z
  · intro S' H' v d g _ rv z
    exact k S' H' v d g rv z
  · intro S' H' σ' δ' g _ _ z
    exact z
  · intro S' H' σ' δ' g _ _ z
    exact z
  · intro S' H' p xs es g _ _ _ _ _ z
    exact z.elim
end
end DL

namespace DL
open PySem PySem.Spec PyProof.Rows L2
open Evl (Ex ex_l ex_t)
def isNmD : PyData → Bool
  | .str x => isNm x
  | _ => false
def okN : PyData → Bool
  | .str x => decide (x.length ≤ 1000) && PyData.strOk x
  | _ => true
def pre_is_name : List PyData → Prop := fun ds => match ds with
  | [x] => okN x = true
  | _ => False
def post_is_name : List PyData → PyData → Prop := fun ds d => match ds with
  | [x] => d = .bool (isNmD x)
  | _ => False
def sp_is_name (K : PySem.W.Frag) : Sp := spP K pre_is_name post_is_name
abbrev pre_l_is_name := pre_is_name
abbrev post_l_is_name := post_is_name
abbrev sp_l_is_name := sp_is_name
/-- the constant of the text -/
def c_NO_NAMES : PyData := .tuple (noNames.map PyData.str)
theorem n_is_name : ∀ ds, pre_is_name ds → ds.length = 1 := by
  intro ds h
  unfold pre_is_name at h
  split at h <;> first | rfl | exact h.elim
abbrev n_l_is_name := n_is_name
def v_NO_NAMES : List V := noNames.map V.str
theorem rep_NO_NAMES {K : PySem.W.Frag} {a : Addr} (h : SqT K (fun _ => none) a v_NO_NAMES) : Rep K (fun _ => none) (.ref a) c_NO_NAMES :=
  .tup h (.cons (.str _) (.cons (.str _) (.cons (.str _) (.cons (.str _) (.cons (.str _) (.cons (.str _) (.cons (.str _) (.cons (.str _) .nil))))))))
def t_is_name (K : PySem.W.Frag) (a_NO_NAMES : Addr) : TS := (tSeq (tIfS (tOr (tNot (tB (tCB (rIsi K) (tCons (tVar 0) (tCons (tC (.ty "str")) tNil))))) (tNot (tTest (tChain (rLtU (fun i j => decide (i ≤ j)) fun i j => !ltS j i) (rLtU (fun i j => decide (i ≤ j)) fun i j => !ltS j i) (tC (.int 1)) (tCB (rLenU K) (tCons (tVar 0) tNil)) (tC (.int 8)))))) (tRet (tC (.bl false))) tNext)
    (tRet (tAndV (tOp (rInU K true) (tVar 0) (tC (.ref a_NO_NAMES))) (tCB (rAll K) (tCons (tLc (iStr (tVar 0)) (gName 1) tYes (tChain (rLtU (fun i j => decide (i ≤ j)) fun i j => !ltS j i) (rLtU (fun i j => decide (i ≤ j)) fun i j => !ltS j i) (tC (.str "a")) (tVar 1) (tC (.str "z"))) [1]) tNil)))))
def d_is_name : DS := (dSeq (dIfS (dOr (dNot (dTest (dIsi "str" (dVar 0)))) (dNot (dTest (dChain (dLt (fun i j => decide (i ≤ j)) fun i j => !ltS j i) (dLt (fun i j => decide (i ≤ j)) fun i j => !ltS j i) (dC (.int 1)) (dCB dLen (dCons (dVar 0) dNil)) (dC (.int 8)))))) (dRet (dC (.bool false))) dNext)
    (dRet (dAndV (dOp (dIn true) (dVar 0) (dC c_NO_NAMES)) (dCB dAll (dCons (dLc (dSigns (dVar 0)) 1 dYes (dChain (dLt (fun i j => decide (i ≤ j)) fun i j => !ltS j i) (dLt (fun i j => decide (i ≤ j)) fun i j => !ltS j i) (dC (.str "a")) (dVar 1) (dC (.str "z"))) [1]) dNil)))))
theorem m_is_name {K : PySem.W.Frag} {b : Bg} {a_NO_NAMES : Addr} (z_NO_NAMES : Rep K (fun _ => none) (.ref a_NO_NAMES) c_NO_NAMES) : SimS K none b (t_is_name K a_NO_NAMES) (d_is_name) := (sim_seq (sim_if (sim_or (sim_not (sim_tB (sim_isi sim_var))) (sim_not (sim_test (sim_chain simr_lt simr_lt sim_int (sim_cb simc_len (sim_cons sim_var sim_nil)) sim_int)))) (sim_ret sim_bl) sim_next)
    (sim_ret (sim_andV (sim_op simr_in sim_var (sim_glob z_NO_NAMES)) (sim_cb simc_all (sim_cons (sim_lc (by decide) (by intro i hi; cases hi <;> decide) (sim_iStr sim_var) sim_yes (sim_chain simr_lt simr_lt sim_str sim_var sim_str)) sim_nil)))))

def t_l_is_name (K : PySem.W.Frag) : TS := (tSeq (tIfS (tOr (tNot (tB (tCB (rIsi K) (tCons (tVar 0) (tCons (tC (.ty "str")) tNil))))) (tNot (tTest (tChain (rLtU (fun i j => decide (i < j)) fun i j => ltS i j) (rLtU (fun i j => decide (i < j)) fun i j => ltS i j) (tC (.int 0)) (tCB (rLenU K) (tCons (tVar 0) tNil)) (tC (.int 9)))))) (tRet (tC (.bl false))) tNext)
    (tSeq (tIfS (tTest (tOp (rInU K false) (tVar 0) (tLst (tCons (tC (.str "alike")) (tCons (tC (.str "go")) (tCons (tC (.str "if")) (tCons (tC (.str "no")) (tCons (tC (.str "tell")) (tCons (tC (.str "unlike")) (tCons (tC (.str "with")) (tCons (tC (.str "yes")) tNil))))))))))) (tRet (tC (.bl false))) tNext)
    (tRet (tOp (rEqU K) (tLc (iStr (tVar 0)) (gName 1) (tNot (tTest (tChain (rLtU (fun i j => decide (i ≤ j)) fun i j => !ltS j i) (rLtU (fun i j => decide (i ≤ j)) fun i j => !ltS j i) (tC (.str "a")) (tVar 1) (tC (.str "z"))))) (tVar 1) [1]) (tLst tNil)))))
def d_l_is_name : DS := (dSeq (dIfS (dOr (dNot (dTest (dIsi "str" (dVar 0)))) (dNot (dTest (dChain (dLt (fun i j => decide (i < j)) fun i j => ltS i j) (dLt (fun i j => decide (i < j)) fun i j => ltS i j) (dC (.int 0)) (dCB dLen (dCons (dVar 0) dNil)) (dC (.int 9)))))) (dRet (dC (.bool false))) dNext)
    (dSeq (dIfS (dTest (dOp (dIn false) (dVar 0) (dLst (dCons (dC (.str "alike")) (dCons (dC (.str "go")) (dCons (dC (.str "if")) (dCons (dC (.str "no")) (dCons (dC (.str "tell")) (dCons (dC (.str "unlike")) (dCons (dC (.str "with")) (dCons (dC (.str "yes")) dNil))))))))))) (dRet (dC (.bool false))) dNext)
    (dRet (dOp dEq (dLc (dSigns (dVar 0)) 1 (dNot (dTest (dChain (dLt (fun i j => decide (i ≤ j)) fun i j => !ltS j i) (dLt (fun i j => decide (i ≤ j)) fun i j => !ltS j i) (dC (.str "a")) (dVar 1) (dC (.str "z"))))) (dVar 1) [1]) (dLst dNil)))))
theorem m_l_is_name {K : PySem.W.Frag} {b : Bg} : SimS K none b (t_l_is_name K) (d_l_is_name) := (sim_seq (sim_if (sim_or (sim_not (sim_tB (sim_isi sim_var))) (sim_not (sim_test (sim_chain simr_lt simr_lt sim_int (sim_cb simc_len (sim_cons sim_var sim_nil)) sim_int)))) (sim_ret sim_bl) sim_next)
    (sim_seq (sim_if (sim_test (sim_op simr_in sim_var (sim_lst (sim_cons sim_str (sim_cons sim_str (sim_cons sim_str (sim_cons sim_str (sim_cons sim_str (sim_cons sim_str (sim_cons sim_str (sim_cons sim_str sim_nil))))))))))) (sim_ret sim_bl) sim_next)
    (sim_ret (sim_op simr_eq (sim_lc (by decide) (by intro i hi; cases hi <;> decide) (sim_iStr sim_var) (sim_not (sim_test (sim_chain simr_lt simr_lt sim_str sim_var sim_str))) sim_var) (sim_lst sim_nil)))))

theorem any_names (x : Str) : ((noNames.map PyData.str).any fun e => PyData.eqv e (.str x)) = noNames.any (· == x) := by
  rw [List.any_map]
  rfl
theorem one_lt (a c : Nat) : ltS ⟨#[a]⟩ ⟨#[c]⟩ = decide (a < c) := by
  unfold ltS
  rw [show (#[a] : Array Nat).toList = [a] from rfl, show (#[c] : Array Nat).toList = [c] from rfl, decide_eq_decide]
  constructor
  · intro h
    cases h with
    | rel h => exact h
    | cons h => cases h
  · intro h
    exact .rel h
theorem signs_get {x : Str} {i : Nat} {d : PyData} (h : (signs x)[i]? = some d) : ∃ c, x.cps.toList[i]? = some c ∧ d = .str ⟨#[c]⟩ := by
  unfold signs at h
  rw [List.getElem?_map] at h
  obtain ⟨c, hc, rfl⟩ := Option.map_eq_some_iff.mp h
  exact ⟨c, hc, rfl⟩
theorem signs_len (x : Str) : (signs x).length = x.length := by
  unfold signs
  rw [List.length_map, cps_len]
theorem bools_lower : ∀ cs : List Nat, boolsOf (cs.map fun c => PyData.bool (lower c)) = some (cs.map lower)
  | [] => rfl
  | c :: r => by
    rw [List.map_cons, boolsOf, bools_lower r]
    rfl
theorem isNm_eq (x : Str) (h1 : 1 ≤ x.length) (h8 : x.length ≤ 8) : isNm x = (!(noNames.any (· == x)) && x.cps.toList.all lower) := by
  unfold isNm
  rw [decide_eq_true h1, decide_eq_true h8]
  rfl
theorem isNm_long (x : Str) (h : ¬ (1 ≤ x.length ∧ x.length ≤ 8)) : isNm x = false := by
  unfold isNm
  by_cases h1 : 1 ≤ x.length
  · have : ¬ x.length ≤ 8 := fun z => h ⟨h1, z⟩
    rw [decide_eq_false this]
    simp
  · rw [decide_eq_false h1]
    simp
theorem chainE (c : Nat) {I : Bool → Prop} (h : I (lower c)) : if (!ltS ⟨#[c]⟩ "a") = true then I (!ltS "z" ⟨#[c]⟩) else I false := by
  have ea : ltS ⟨#[c]⟩ "a" = decide (c < 97) := one_lt c 97
  have ez : ltS "z" ⟨#[c]⟩ = decide (122 < c) := one_lt 122 c
  rw [ea, ez]
  unfold lower at h
  by_cases h1 : c < 97
  · rw [decide_eq_true h1, if_neg (by decide)]
    rw [decide_eq_false (by omega : ¬ 97 ≤ c)] at h
    exact h
  · rw [decide_eq_false h1, if_pos (by decide)]
    rw [decide_eq_true (by omega : 97 ≤ c)] at h
    by_cases h2 : 122 < c
    · rw [decide_eq_true h2]
      rw [decide_eq_false (by omega : ¬ c ≤ 122)] at h
      exact h
    · rw [decide_eq_false h2]
      rw [decide_eq_true (by omega : c ≤ 122)] at h
      exact h
theorem dat_is_name : ∀ ds, pre_is_name ds → d_is_name { nx := fun _ => post_is_name ds .none, rt := post_is_name ds } (startD 2 (ds.map fun d => some (.dat d))) := by
  intro ds h
  unfold pre_is_name at h
  split at h
  case h_2 => exact h.elim
  rename_i d
  show d_is_name _ [some (.dat d), none]
  cases d with
  | str x =>
    have hx : (decide (x.length ≤ 1000) && PyData.strOk x) = true := h
    rw [Bool.and_eq_true, decide_eq_true_eq] at hx
    dsimp only [d_is_name, dSeq, dIfS, dOr, dNot, dTest, dChain, dVar, dC, dCB, dLen, dLt, dCons, dNil, isB, dNext, dRet, dIsi, dAndV, dOp, dIn, dAll, dLc, dSigns, dYes, List.getElem?_cons_succ, List.getElem?_cons_zero, typD]
    rw [show kitB "str" "str" = some true from rfl]
    dsimp only
    rw [if_neg (by decide)]
    refine ⟨small_le (by omega), ?_⟩
    by_cases h1 : 1 ≤ x.length
    · rw [decide_eq_true (show (1 : Int) ≤ (x.length : Int) by omega), if_pos (by decide)]
      by_cases h8 : x.length ≤ 8
      · rw [decide_eq_true (show (x.length : Int) ≤ 8 by omega), if_neg (by decide)]
        show _ ∧ _
        refine ⟨rfl, ?_⟩
        show if (!((noNames.map PyData.str).any fun e => PyData.eqv e (.str x))) = true then _ else _
        rw [any_names]
        cases hn : noNames.any (· == x)
        · rw [if_pos (by decide)]
          refine ⟨small_le (by rw [signs_len]; omega), fun i acc => acc = ((x.cps.toList.take i).map fun c => PyData.bool (lower c)), rfl, ?_, ?_⟩
          · rintro i d acc hd - rfl
            obtain ⟨c, hc, rfl⟩ := signs_get hd
            rw [if_pos (by decide)]
            refine chainE c (I := fun v => _ ++ [PyData.bool v] = _) ?_
            rw [List.take_add_one, hc, List.map_append]
            rfl
          · rintro acc - rfl
            refine ⟨_, bools_lower _, ?_⟩
            rw [signs_len, ← cps_len, List.take_length]
            show PyData.bool _ = .bool _
            rw [show isNmD (.str x) = isNm x from rfl, isNm_eq x h1 h8, hn, List.all_map]
            rfl
        · rw [if_neg (by decide)]
          show PyData.bool _ = .bool _
          rw [show isNmD (.str x) = isNm x from rfl, isNm_eq x h1 h8, hn]
          rfl
      · rw [decide_eq_false (show ¬ (x.length : Int) ≤ 8 by omega), if_pos (by decide)]
        show PyData.bool _ = .bool _
        rw [show isNmD (.str x) = isNm x from rfl, isNm_long x (by omega)]
    · rw [decide_eq_false (show ¬ (1 : Int) ≤ (x.length : Int) by omega), if_neg (by decide)]
      show PyData.bool _ = .bool _
      rw [show isNmD (.str x) = isNm x from rfl, isNm_long x (by omega)]
  | _ => exact rfl
theorem lay_ones {x : Str} (h : PyData.strOk x = true) : ∀ cs : List Nat, (∀ c ∈ cs, c ∈ x.cps.toList) → PyData.canLayAll0 (cs.map fun c => PyData.str ⟨#[c]⟩) = true
  | [], _ => by simp only [List.map_nil, PyData.canLayAll0]
  | c :: r, hc => by
    have ih := lay_ones h r fun d hd => hc d (List.mem_cons_of_mem _ hd)
    have hx : PyData.strOk ⟨#[c]⟩ = true := by
      unfold PyData.strOk at h ⊢
      rw [← Array.all_toList, List.all_eq_true] at h
      have := h c (hc c (List.mem_cons_self ..))
      simpa using this
    simp only [List.map_cons, PyData.canLayAll0, PyData.canLay0, hx, ih, Bool.and_self]
theorem depth_ones : ∀ cs : List Nat, PyData.depthAll (cs.map fun c => PyData.str ⟨#[c]⟩) = 0
  | [] => by simp only [List.map_nil, PyData.depthAll]
  | c :: r => by simp only [List.map_cons, PyData.depthAll, PyData.depth, depth_ones r, Nat.max_self]
theorem dat_l_is_name : ∀ ds, pre_l_is_name ds → d_l_is_name { nx := fun _ => post_l_is_name ds .none, rt := post_l_is_name ds } (startD 2 (ds.map fun d => some (.dat d))) := by
  intro ds h
  unfold pre_l_is_name pre_is_name at h
  split at h
  case h_2 => exact h.elim
  rename_i d
  show d_l_is_name _ [some (.dat d), none]
  cases d with
  | str x =>
    have hx : (decide (x.length ≤ 1000) && PyData.strOk x) = true := h
    rw [Bool.and_eq_true, decide_eq_true_eq] at hx
    dsimp only [d_l_is_name, dSeq, dIfS, dOr, dNot, dTest, dChain, dVar, dC, dCB, dLen, dLt, dCons, dNil, dLst, isB, dNext, dRet, dIsi, dAndV, dOp, dIn, dEq, dAll, dLc, dSigns, dYes, List.getElem?_cons_succ, List.getElem?_cons_zero, typD]
    rw [show kitB "str" "str" = some true from rfl]
    dsimp only
    rw [if_neg (by decide)]
    refine ⟨small_le (by omega), ?_⟩
    by_cases h1 : 1 ≤ x.length
    · rw [decide_eq_true (show (0 : Int) < (x.length : Int) by omega), if_pos (by decide)]
      by_cases h8 : x.length ≤ 8
      · rw [decide_eq_true (show (x.length : Int) < 9 by omega), if_neg (by decide)]
        refine ⟨rfl, ?_⟩
        show (_ ∧ _)
        refine ⟨rfl, ?_⟩
        show if ((noNames.map PyData.str).any fun e => PyData.eqv e (.str x)) = true then _ else _
        rw [any_names]
        cases hn : noNames.any (· == x)
        · rw [if_neg (by decide)]
          refine ⟨small_le (by rw [signs_len]; omega), fun i acc => acc = (((x.cps.toList.take i).filter fun c => !lower c).map fun c => PyData.str ⟨#[c]⟩), rfl, ?_, ?_⟩
          · rintro i d acc hd - rfl
            obtain ⟨c, hc, rfl⟩ := signs_get hd
            refine chainE c (I := fun v => if (!v) = true then _ else _) ?_
            show if (!lower c) = true then _ ++ [PyData.str ⟨#[c]⟩] = List.map _ (List.filter _ (List.take (i + 1) _)) else _ = List.map _ (List.filter _ (List.take (i + 1) _))
            rw [List.take_add_one, hc, List.filter_append, List.map_append]
            cases hl : lower c
            · rw [if_pos (by decide)]
              simp [hl]
            · rw [if_neg (by decide)]
              simp [hl]
          · rintro acc - rfl
            rw [signs_len, ← cps_len, List.take_length]
            refine ⟨rfl, ?_, ?_⟩
            · exact eqOk_nil _
            · show PyData.bool _ = .bool _
              rw [show isNmD (.str x) = isNm x from rfl, isNm_eq x h1 h8, hn]
              simp only [PyData.eqv]
              cases hf : x.cps.toList.filter fun c => !lower c with
              | nil =>
                have : x.cps.toList.all lower = true := by
                  rw [List.all_eq_true]
                  intro c hc
                  have := List.filter_eq_nil_iff.mp hf c hc
                  simpa using this
                rw [this]
                simp [PyData.eqvAll]
              | cons c r =>
                have hm : c ∈ x.cps.toList.filter fun c => !lower c := by rw [hf]; exact List.mem_cons_self ..
                have hm := List.mem_filter.mp hm
                have : x.cps.toList.all lower = false := by
                  rw [List.all_eq_false]
                  exact ⟨c, hm.1, by simpa using hm.2⟩
                rw [this]
                simp [PyData.eqvAll]
        · rw [if_pos (by decide)]
          show PyData.bool _ = .bool _
          rw [show isNmD (.str x) = isNm x from rfl, isNm_eq x h1 h8, hn]
          rfl
      · rw [decide_eq_false (show ¬ (x.length : Int) < 9 by omega), if_pos (by decide)]
        show PyData.bool _ = .bool _
        rw [show isNmD (.str x) = isNm x from rfl, isNm_long x (by omega)]
    · rw [decide_eq_false (show ¬ (0 : Int) < (x.length : Int) by omega), if_neg (by decide)]
      show PyData.bool _ = .bool _
      rw [show isNmD (.str x) = isNm x from rfl, isNm_long x (by omega)]
  | _ => exact rfl
def asc (n : Nat) (x : Str) : Prop := x.length ≤ n ∧ ∀ c ∈ x.cps.toList, c < 128
theorem asc.mono {m n : Nat} {x : Str} (h : asc m x) (l : m ≤ n) : asc n x := ⟨Nat.le_trans h.1 l, h.2⟩
theorem asc.app {m n : Nat} {x y : Str} (h : asc m x) (k : asc n y) : asc (m + n) (x ++ y) := by
  refine ⟨by rw [Str.length_append]; exact Nat.add_le_add h.1 k.1, fun c hc => ?_⟩
  rw [str_app] at hc
  rcases List.mem_append.mp (by simpa using hc : c ∈ x.cps.toList ++ y.cps.toList) with z | z
  · exact h.2 c z
  · exact k.2 c z
theorem asc.cut {n : Nat} {x : Str} (h : asc n x) (lo hi : Option Int) : asc n (cutS x lo hi) := by
  refine ⟨Nat.le_trans (cutS_length x lo hi) h.1, fun c hc => h.2 c ?_⟩
  unfold cutS at hc
  simp only [] at hc
  exact List.mem_of_mem_drop (List.mem_of_mem_take hc)
theorem asc.one {c : Nat} (h : c < 128) : asc 1 ⟨#[c]⟩ := ⟨Nat.le_refl _, fun d hd => by
  have : d = c := by simpa using hd
  omega⟩
theorem asc.up {n : Nat} {x : Str} (h : asc n x) : asc n (Txt.upper x) := by
  rw [upper_ascii h.2]
  refine ⟨by rw [show (⟨x.cps.map up1⟩ : Str).length = x.length from by simp [Str.length]]; exact h.1, fun c hc => ?_⟩
  simp only [Array.toList_map, List.mem_map] at hc
  obtain ⟨d, hd, rfl⟩ := hc
  have := h.2 d hd
  unfold up1
  split <;> omega
theorem asc.rev {n : Nat} {x y : Str} (h : asc n x) (l : y.length ≤ x.length) (k : ∀ c ∈ y.cps.toList, c ∈ x.cps.toList) : asc n y := ⟨Nat.le_trans l h.1, fun c hc => h.2 c (k c hc)⟩
theorem asc.name {x : Str} (h : isNm x = true) : asc 8 x := by
  unfold isNm at h
  simp only [Bool.and_eq_true, decide_eq_true_eq, List.all_eq_true] at h
  refine ⟨h.1.1.2, fun c hc => ?_⟩
  have := h.2 c hc
  unfold lower at this
  simp only [Bool.and_eq_true, decide_eq_true_eq] at this
  omega
theorem asc.word {x : Str} (h : x ∈ noNames) : asc 8 x := by
  have : ∀ w ∈ noNames, w.length ≤ 8 ∧ ∀ c ∈ w.cps.toList, c < 128 := by decide
  exact this x h
theorem strOk_asc {n : Nat} {x : Str} (h : asc n x) : PyData.strOk x = true := by
  unfold PyData.strOk
  rw [← Array.all_toList, List.all_eq_true]
  intro c hc
  have := h.2 c hc
  simp only [decide_eq_true_eq]
  omega
theorem show_bools (bs : List Bool) (h : bs.length ≤ 100) : showOk (.list (bs.map PyData.bool)) = true := by
  have f : ∀ bs : List Bool, fitAll (bs.map PyData.bool) = true := by
    intro bs
    induction bs with
    | nil => rfl
    | cons c r ih => simp only [List.map_cons, fitAll, fit, ih, Bool.and_self]
  have dp : ∀ bs : List Bool, PyData.depthAll (bs.map PyData.bool) = 0 := by
    intro bs
    induction bs with
    | nil => simp only [List.map_nil, PyData.depthAll]
    | cons c r ih => simp only [List.map_cons, PyData.depthAll, PyData.depth, ih, Nat.max_self]
  have w : ∀ bs : List Bool, wtAll (bs.map PyData.bool) = 7 * bs.length := by
    intro bs
    induction bs with
    | nil => rfl
    | cons c r ih => simp only [List.map_cons, wtAll, wt, ih, List.length_cons]; omega
  refine showOk_of (f bs) (by simp only [PyData.depth, dp]; decide) ?_
  rw [wt, w]
  omega
theorem shaped_bools (bs : List Bool) : SeqAt.shaped (.list (bs.map PyData.bool)) = true := by
  have f : ∀ bs : List Bool, PyData.canLayAll0 (bs.map PyData.bool) = true := by
    intro bs
    induction bs with
    | nil => simp only [List.map_nil, PyData.canLayAll0]
    | cons c r ih => simp only [List.map_cons, PyData.canLayAll0, PyData.canLay0, ih, Bool.and_self]
  have dp : ∀ bs : List Bool, PyData.depthAll (bs.map PyData.bool) = 0 := by
    intro bs
    induction bs with
    | nil => simp only [List.map_nil, PyData.depthAll]
    | cons c r ih => simp only [List.map_cons, PyData.depthAll, PyData.depth, ih, Nat.max_self]
  unfold SeqAt.shaped
  rw [Bool.and_eq_true, decide_eq_true_eq]
  refine ⟨by simp only [PyData.canLay0, f], by simp only [PyData.depth, dp]; decide⟩
theorem eqv_bools : ∀ bs : List Bool, PyData.eqv (.list (bs.map PyData.bool)) (.list (bs.map PyData.bool)) = true := by
  intro bs
  simp only [PyData.eqv]
  induction bs with
  | nil => simp [PyData.eqvAll]
  | cons c r ih => simp only [List.map_cons, PyData.eqvAll, PyData.eqv, ih, beq_self_eq_true, Bool.and_self]
/-- two like lists of truths are found alike -/
theorem alike_bools (bs : List Bool) (h : bs.length ≤ 100) {xs ys : List PyData} (hx : xs = bs.map PyData.bool) (hy : ys = bs.map PyData.bool) {R : PyData → Prop} (k : R (.bool true)) :
    pre_l_alike [.list xs, .list ys] ∧ ∀ r, post_l_alike [.list xs, .list ys] r → R r := by
  subst hx hy
  refine ⟨?_, ?_⟩
  · show (_ && _) = true
    unfold eqOk
    rw [shaped_bools, show_bools bs h]
    simp
  · rintro r hr
    have hr : r = .bool (PyData.eqv (.list (bs.map PyData.bool)) (.list (bs.map PyData.bool)) && _ == _) := hr
    rw [hr, eqv_bools, beq_self_eq_true]
    exact k
end DL

namespace DL
open PySem PySem.Spec PyProof.Rows L2
open Evl (Ex ex_l ex_t)
/-! data of bounded size: texts of few small signs, whole numbers that can be shown -/
mutual
def okD (L : Nat) : PyData → Prop
  | .none => True
  | .bool _ => True
  | .int i => i.natAbs.log2 < 1920
  | .str x => asc L x
  | .list xs => okAll L xs
  | .tuple xs => okAll L xs
  | .dict kvs => okKv L kvs
def okAll (L : Nat) : List PyData → Prop
  | [] => True
  | x :: xs => okD L x ∧ okAll L xs
def okKv (L : Nat) : List (PyData × PyData) → Prop
  | [] => True
  | (k, v) :: r => (okD L k ∧ okD L v) ∧ okKv L r
end
mutual
theorem okD.mono {L M : Nat} (h : L ≤ M) : ∀ d : PyData, okD L d → okD M d
  | .none, _ => trivial
  | .bool _, _ => trivial
  | .int _, q => q
  | .str _, q => asc.mono q h
  | .list xs, q => okAll.mono h xs q
  | .tuple xs, q => okAll.mono h xs q
  | .dict xs, q => okKv.mono h xs q
theorem okAll.mono {L M : Nat} (h : L ≤ M) : ∀ ds : List PyData, okAll L ds → okAll M ds
  | [], _ => trivial
  | x :: xs, q => ⟨okD.mono h x q.1, okAll.mono h xs q.2⟩
theorem okKv.mono {L M : Nat} (h : L ≤ M) : ∀ ds : List (PyData × PyData), okKv L ds → okKv M ds
  | [], _ => trivial
  | (k, v) :: r, q => ⟨⟨okD.mono h k q.1.1, okD.mono h v q.1.2⟩, okKv.mono h r q.2⟩
end
mutual
theorem okD.fit {L : Nat} : ∀ d : PyData, okD L d → DL.fit d = true
  | .none, _ => rfl
  | .bool _, _ => rfl
  | .int _, q => decide_eq_true q
  | .str _, q => strOk_asc q
  | .list xs, q => okAll.fit xs q
  | .tuple xs, q => okAll.fit xs q
  | .dict xs, q => okKv.fit xs q
theorem okAll.fit {L : Nat} : ∀ ds : List PyData, okAll L ds → fitAll ds = true
  | [], _ => rfl
  | x :: xs, q => by rw [fitAll, okD.fit x q.1, okAll.fit xs q.2]; rfl
theorem okKv.fit {L : Nat} : ∀ ds : List (PyData × PyData), okKv L ds → fitKv ds = true
  | [], _ => rfl
  | (k, v) :: r, q => by rw [fitKv, okD.fit k q.1.1, okD.fit v q.1.2, okKv.fit r q.2]; rfl
end
theorem okAll_iff {L : Nat} : ∀ {ds : List PyData}, okAll L ds ↔ ∀ d ∈ ds, okD L d
  | [] => by simp [okAll]
  | x :: xs => by simp [okAll, okAll_iff (ds := xs)]
theorem okAll.app {L : Nat} {xs ys : List PyData} (h : okAll L xs) (k : okAll L ys) : okAll L (xs ++ ys) := by
  rw [okAll_iff] at *
  intro d hd
  rcases List.mem_append.mp hd with z | z
  · exact h d z
  · exact k d z
theorem okAll.sub {L : Nat} {xs ys : List PyData} (h : okAll L xs) (k : ∀ d ∈ ys, d ∈ xs) : okAll L ys := by
  rw [okAll_iff] at *
  exact fun d hd => h d (k d hd)
theorem wtAll_app : ∀ xs ys : List PyData, wtAll (xs ++ ys) = wtAll xs + wtAll ys
  | [], ys => by simp [wtAll]
  | x :: xs, ys => by rw [List.cons_append, wtAll, wtAll, wtAll_app xs ys]; omega
theorem wt_pos : ∀ d : PyData, 2 ≤ wt d
  | .none => by simp [wt]
  | .bool _ => by simp [wt]
  | .int _ => by simp [wt]
  | .str _ => by simp [wt]
  | .list _ => by simp [wt]
  | .tuple _ => by simp [wt]
  | .dict _ => by simp [wt]
theorem len_wt : ∀ xs : List PyData, 4 * xs.length ≤ wtAll xs
  | [] => Nat.zero_le _
  | x :: xs => by
    have := len_wt xs
    have := wt_pos x
    rw [List.length_cons, wtAll]
    omega
theorem wt_mem : ∀ {xs : List PyData} {d : PyData}, d ∈ xs → wt d + 2 ≤ wtAll xs
  | x :: xs, d, h => by
    rw [wtAll]
    rcases List.mem_cons.mp h with e | e
    · subst e; omega
    · have := wt_mem e; omega
theorem wtAll_take : ∀ (xs : List PyData) (n : Nat), wtAll (xs.take n) ≤ wtAll xs
  | [], n => by simp [wtAll]
  | x :: xs, 0 => by simp [wtAll]
  | x :: xs, n + 1 => by rw [List.take_succ_cons, wtAll, wtAll]; have := wtAll_take xs n; omega
theorem wtAll_drop : ∀ (xs : List PyData) (n : Nat), wtAll (xs.drop n) ≤ wtAll xs
  | [], n => by simp [wtAll]
  | x :: xs, 0 => by simp
  | x :: xs, n + 1 => by rw [List.drop_succ_cons, wtAll]; have := wtAll_drop xs n; omega
theorem depthAll_app : ∀ xs ys : List PyData, PyData.depthAll (xs ++ ys) = max (PyData.depthAll xs) (PyData.depthAll ys)
  | [], ys => by simp [PyData.depthAll]
  | x :: xs, ys => by rw [List.cons_append, PyData.depthAll, PyData.depthAll, depthAll_app xs ys]; omega
theorem depthAll_le {n : Nat} : ∀ {xs : List PyData}, (∀ d ∈ xs, d.depth ≤ n) → PyData.depthAll xs ≤ n
  | [], _ => Nat.zero_le _
  | x :: xs, h => by
    rw [PyData.depthAll]
    exact Nat.max_le.mpr ⟨h x (List.mem_cons_self ..), depthAll_le fun d hd => h d (List.mem_cons_of_mem _ hd)⟩
structure Gd (L D W : Nat) (d : PyData) : Prop where
  ok : okD L d
  dep : d.depth ≤ D
  w : wt d ≤ W
theorem Gd.mono {L D W L' D' W' : Nat} {d : PyData} (h : Gd L D W d) (a : L ≤ L') (b : D ≤ D') (c : W ≤ W') : Gd L' D' W' d := ⟨h.ok.mono a _, Nat.le_trans h.dep b, Nat.le_trans h.w c⟩
theorem depth_mem {xs : List PyData} {d : PyData} (h : d ∈ xs) : d.depth < (PyData.tuple xs).depth := by
  rw [PyData.depth]
  have := depthAll_mem h
  omega
theorem Gd.part {L D W : Nat} {xs : List PyData} {d : PyData} (h : Gd L D W (.tuple xs)) (m : d ∈ xs) : Gd L (D - 1) (W - 5) d ∧ 1 ≤ D := by
  have h1 := depth_mem m
  have h2 := h.dep
  have h3 := wt_mem m
  have h4 := h.w
  rw [wt] at h4
  exact ⟨⟨okAll_iff.mp (show okAll L xs from h.ok) d m, by omega, by omega⟩, by omega⟩
/-- what a check is asked of: any value of bounded size -/
def prD : List PyData → Prop := fun ds => match ds with
  | [d] => okD 100 d ∧ wt d ≤ 400000
  | _ => False
def prR (n : Nat) : List PyData → Prop := fun ds => match ds with
  | [d] => (okD 100 d ∧ wt d ≤ 400000) ∧ d.depth < n
  | _ => False
theorem n_prD : ∀ ds, prD ds → ds.length = 1 := by
  intro ds h
  unfold prD at h
  split at h <;> first | rfl | exact h.elim
theorem n_prR (n : Nat) : ∀ ds, prR n ds → ds.length = 1 := by
  intro ds h
  unfold prR at h
  split at h <;> first | rfl | exact h.elim
theorem no_prR : ∀ ds, ¬ prR 0 ds := by
  intro ds h
  unfold prR at h
  split at h
  · exact absurd h.2 (Nat.not_lt_zero _)
  · exact h
def poB (f : PyData → Bool) : List PyData → PyData → Prop := fun ds r => match ds with
  | [d] => r = .bool (f d)
  | _ => False
/-! terms -/
mutual
def termB : PyData → Bool
  | .tuple xs => termT xs
  | _ => false
def termT : List PyData → Bool
  | [] => false
  | d :: ds => isNmD d && termAll ds
def termAll : List PyData → Bool
  | [] => true
  | d :: ds => termB d && termAll ds
end
def pre_is_term := prD
def post_is_term := poB termB
def sp_is_term (K : PySem.W.Frag) : Sp := spP K pre_is_term post_is_term
def n_is_term := n_prD
def pre_l_is_term := prR
def post_l_is_term := poB termB
def sp_l_is_term (K : PySem.W.Frag) (n : Nat) : Sp := spP K (pre_l_is_term n) post_l_is_term
def n_l_is_term := n_prR
def no_l_is_term := no_prR
/-- an if over two terms, whatever stands as its sides -/
def forkD : PyData → Bool
  | .tuple [.str w, b, c, _, _] => w == "if" && (termB b && termB c)
  | _ => false
def pre_is_fork := prD
def post_is_fork := poB forkD
def sp_is_fork (K : PySem.W.Frag) : Sp := spP K pre_is_fork post_is_fork
def n_is_fork := n_prD
def t_is_term (K : PySem.W.Frag) : TS := (tSeq (tAsg (tLst (tCons (tVar 0) tNil)) (gName 1))
    (tSeq (tWhile (tTr K (tVar 1)) (tSeq (tAsg (tBM0 K "list" rPop (tVar 1)) (gName 2))
    (tSeq (tIfS (tOr (tNot (tB (tCB (rIsi K) (tCons (tVar 2) (tCons (tC (.ty "tuple")) tNil))))) (tOr (tNot (tTr K (tVar 2))) (tNot (tB (tCall (sp_is_name K) [] E0 (tCons (tOp (rIx K) (tVar 2) (tC (.int 0))) tNil)))))) (tRet (tC (.bl false))) tNext)
    (tDrop (tBM K "list" (rExtendT K) (tVar 1) (tCons (tSl (rSlU K) (tVar 2) (tPart (tC (.int 1))) tNoPart) tNil))))))
    (tRet (tC (.bl true)))))
def d_is_term : DS := (dSeq (dAsgN (dnLst (dCons (dVar 0) dNil)) 1)
    (dSeq (dWhile (dBorrowT 1 (dTr (dVar 1))) (dSeq (dAsgPop 1 2)
    (dSeq (dIfS (dOr (dNot (dTest (dIsi "tuple" (dVar 2)))) (dOr (dNot (dTr (dVar 2))) (dNot (dTest (dCall pre_is_name post_is_name (dCons (dOp dIx (dVar 2) (dC (.int 0))) dNil)))))) (dRet (dC (.bool false))) dNext)
    (dExtendT 1 (dSl dSlice (dVar 2) (dPart (dC (.int 1))) dNoPart)))))
    (dRet (dC (.bool true)))))
theorem m_is_term {K : PySem.W.Frag} {b : Bg} : SimS K none b (t_is_term K) (d_is_term) := (sim_seq (sim_asgN (by decide) (sim_nLst (sim_cons sim_var sim_nil)))
    (sim_seq (sim_while (sim_borrowT (sim_tr sim_var)) (sim_seq (sim_asgPop (by decide) (by decide))
    (sim_seq (sim_if (sim_or (sim_not (sim_tB (sim_isi sim_var))) (sim_or (sim_not (sim_tr sim_var)) (sim_not (sim_tB (sim_callP (sim_cons (sim_op simr_ix sim_var sim_int) sim_nil)))))) (sim_ret sim_bl) sim_next)
    (sim_extendT (by decide) (sim_sl sims_slice sim_var (sim_part sim_int) sim_noPart)))))
    (sim_ret sim_bl)))

def t_is_fork (K : PySem.W.Frag) : TS := (tSeq (tIfS (tOr (tNot (tB (tCB (rIsi K) (tCons (tVar 0) (tCons (tC (.ty "tuple")) tNil))))) (tTest (tOp (rNeU K) (tCB (rLenU K) (tCons (tVar 0) tNil)) (tC (.int 5))))) (tRet (tC (.bl false))) tNext)
    (tRet (tAndV (tOp (rEqU K) (tOp (rIx K) (tVar 0) (tC (.int 0))) (tC (.str "if"))) (tAndV (tCall (sp_is_term K) [] E0 (tCons (tOp (rIx K) (tVar 0) (tC (.int 1))) tNil)) (tCall (sp_is_term K) [] E0 (tCons (tOp (rIx K) (tVar 0) (tC (.int 2))) tNil))))))
def d_is_fork : DS := (dSeq (dIfS (dOr (dNot (dTest (dIsi "tuple" (dVar 0)))) (dTest (dOp dNe (dCB dLen (dCons (dVar 0) dNil)) (dC (.int 5))))) (dRet (dC (.bool false))) dNext)
    (dRet (dAndV (dOp dEq (dOp dIx (dVar 0) (dC (.int 0))) (dC (.str "if"))) (dAndV (dCall pre_is_term post_is_term (dCons (dOp dIx (dVar 0) (dC (.int 1))) dNil)) (dCall pre_is_term post_is_term (dCons (dOp dIx (dVar 0) (dC (.int 2))) dNil))))))
theorem m_is_fork {K : PySem.W.Frag} {b : Bg} : SimS K none b (t_is_fork K) (d_is_fork) := (sim_seq (sim_if (sim_or (sim_not (sim_tB (sim_isi sim_var))) (sim_test (sim_op simr_ne (sim_cb simc_len (sim_cons sim_var sim_nil)) sim_int))) (sim_ret sim_bl) sim_next)
    (sim_ret (sim_andV (sim_op simr_eq (sim_op simr_ix sim_var sim_int) sim_str) (sim_andV (sim_callP (sim_cons (sim_op simr_ix sim_var sim_int) sim_nil)) (sim_callP (sim_cons (sim_op simr_ix sim_var sim_int) sim_nil))))))

def t_l_is_term (K : PySem.W.Frag) (n : Nat) : TS := (tSeq (tIfS (tOr (tNot (tB (tCB (rIsi K) (tCons (tVar 0) (tCons (tC (.ty "tuple")) tNil))))) (tOr (tTest (tOp (rEqU K) (tVar 0) (tTup tNil))) (tNot (tB (tCall (sp_l_is_name K) [] E0 (tCons (tOp (rIx K) (tVar 0) (tC (.int 0))) tNil)))))) (tRet (tC (.bl false))) tNext)
    (tRet (tOp (rEqU K) (tLc (iTup K (tSl (rSlU K) (tVar 0) (tPart (tC (.int 1))) tNoPart)) (gName 1) (tNot (tB (tCall (sp_l_is_term K n) [] E0 (tCons (tVar 1) tNil)))) (tVar 1) [1]) (tLst tNil))))
def d_l_is_term (n : Nat) : DS := (dSeq (dIfS (dOr (dNot (dTest (dIsi "tuple" (dVar 0)))) (dOr (dTest (dOp dEq (dVar 0) (dTup dNil))) (dNot (dTest (dCall pre_l_is_name post_l_is_name (dCons (dOp dIx (dVar 0) (dC (.int 0))) dNil)))))) (dRet (dC (.bool false))) dNext)
    (dRet (dOp dEq (dLc (dItemsT (dSl dSlice (dVar 0) (dPart (dC (.int 1))) dNoPart)) 1 (dNot (dTest (dCall (pre_l_is_term n) post_l_is_term (dCons (dVar 1) dNil)))) (dVar 1) [1]) (dLst dNil))))
theorem m_l_is_term {K : PySem.W.Frag} {b : Bg} {n : Nat} : SimS K none b (t_l_is_term K n) (d_l_is_term n) := (sim_seq (sim_if (sim_or (sim_not (sim_tB (sim_isi sim_var))) (sim_or (sim_test (sim_op simr_eq sim_var (sim_tup sim_nil))) (sim_not (sim_tB (sim_callP (sim_cons (sim_op simr_ix sim_var sim_int) sim_nil)))))) (sim_ret sim_bl) sim_next)
    (sim_ret (sim_op simr_eq (sim_lc (by decide) (by intro i hi; cases hi <;> decide) (sim_iTup (sim_sl sims_slice sim_var (sim_part sim_int) sim_noPart)) (sim_not (sim_tB (sim_callP (sim_cons sim_var sim_nil)))) sim_var) (sim_lst sim_nil))))

end DL

namespace DL
open PySem PySem.Spec PyProof.Rows L2
open Evl (Ex ex_l ex_t)
theorem termAll_app : ∀ xs ys : List PyData, termAll (xs ++ ys) = (termAll xs && termAll ys)
  | [], ys => rfl
  | x :: xs, ys => by rw [List.cons_append, termAll, termAll, termAll_app xs ys, Bool.and_assoc]
theorem okN_of {d : PyData} (h : okD 100 d) : okN d = true := by
  cases d with
  | str x =>
    have h : asc 100 x := h
    show (decide (x.length ≤ 1000) && PyData.strOk x) = true
    rw [strOk_asc h, decide_eq_true (by have := h.1; omega)]
    rfl
  | _ => rfl
theorem cutD_from (xs : List PyData) (k : Nat) : cutD xs (some (k : Int)) none = xs.drop k := by
  unfold cutD
  rw [HT.sIx_nat, HT.sIx_none]
  by_cases h : k ≤ xs.length
  · rw [Nat.min_eq_left h]
    exact List.take_of_length_le (by rw [List.length_drop]; omega)
  · rw [Nat.min_eq_right (by omega), List.drop_eq_nil_of_le (Nat.le_refl _), List.drop_eq_nil_of_le (by omega), List.take_nil]
theorem cutD_to (xs : List PyData) (k : Nat) : cutD xs none (some (k : Int)) = xs.take k := by
  unfold cutD
  rw [HT.sIx_nat, HT.sIx_none, Nat.sub_zero, List.drop_zero]
  by_cases h : k ≤ xs.length
  · rw [Nat.min_eq_left h]
  · rw [Nat.min_eq_right (by omega), List.take_of_length_le (Nat.le_refl _), List.take_of_length_le (by omega)]
theorem atI0 (x : PyData) (xs : List PyData) : atD (.tuple (x :: xs)) 0 = some x := by
  show L2.atI (x :: xs) 0 = some x
  unfold L2.atI ixN
  rw [if_pos (by decide), if_pos (by simp)]
  rfl
theorem dat_is_term : ∀ ds, pre_is_term ds → d_is_term { nx := fun _ => post_is_term ds .none, rt := post_is_term ds } (startD 3 (ds.map fun d => some (.dat d))) := by
  intro ds h
  unfold pre_is_term prD at h
  split at h
  case h_2 => exact h.elim
  rename_i d
  obtain ⟨ok, hw⟩ := h
  show d_is_term _ [some (.dat d), none, none]
  unfold d_is_term
  simp only [dIsi_tup]
  dsimp only [dSeq, dAsg, dAsgN, dAsgPop, dAppend, dExtend, dExtendT, dInsert, dPar, dPar3, dAug, dIfS, dFor, dRet, dRetO, dRetOwn, dRetOwnD, dRetN, dDrop, dNext, dBreak, dCont, dFreeze, dBorrow, dBorrowT, dTr, dTest, dAnd, dOr, dNot, dAndV, dOrV, dNotV, dIf, dOp, dUn, dCB, dCall, dnCall, dCallX, dCallV, dTup, dLst, dnLst, dnLc, dLc, dOfN, dnAdd, dnSl, dSl, dSlice, dNoPart, dPart, dIx, isI, isB, dVar, dC, dCons, dNil, dLen, dRepr, dListOf, dTupOf, dItems, dItemsT, itemsOf, dSigns, dRng1, dgName, dgTup, dgCons, dgNil, dEq, dNe, dLt, dIn, dII, dIC, dNeg, dAdd, dRep, dUpper, dJoin, dYes, truD, dAll, dAny, dInt1, dAbs, dChain, List.set, List.getElem?_cons_succ, List.getElem?_cons_zero]
  refine ⟨rfl, ?_⟩
  refine ⟨fun m δ => ∃ ws q, δ = [some (.dat d), some (.own ws), q] ∧ m = wtAll ws ∧ termB d = termAll ws ∧ okAll 100 ws ∧ wtAll ws ≤ 400002,
    ⟨_, [d], none, rfl, rfl, by simp [termAll], ⟨ok, trivial⟩, by rw [wtAll, wtAll]; omega⟩, ?_⟩
  rintro m δ ⟨ws, q, rfl, rfl, ht, hok, hws⟩
  dsimp only [dSeq, dAsg, dAsgN, dAsgPop, dAppend, dExtend, dExtendT, dInsert, dPar, dPar3, dAug, dIfS, dFor, dRet, dRetO, dRetOwn, dRetOwnD, dRetN, dDrop, dNext, dBreak, dCont, dFreeze, dBorrow, dBorrowT, dTr, dTest, dAnd, dOr, dNot, dAndV, dOrV, dNotV, dIf, dOp, dUn, dCB, dCall, dnCall, dCallX, dCallV, dTup, dLst, dnLst, dnLc, dLc, dOfN, dnAdd, dnSl, dSl, dSlice, dNoPart, dPart, dIx, isI, isB, dVar, dC, dCons, dNil, dLen, dRepr, dListOf, dTupOf, dItems, dItemsT, itemsOf, dSigns, dRng1, dgName, dgTup, dgCons, dgNil, dEq, dNe, dLt, dIn, dII, dIC, dNeg, dAdd, dRep, dUpper, dJoin, dYes, truD, dAll, dAny, dInt1, dAbs, dChain, List.set, List.getElem?_cons_succ, List.getElem?_cons_zero]
  rcases List.eq_nil_or_concat ws with rfl | ⟨ws', y, e⟩
  · rw [if_neg (by decide)]
    show PyData.bool true = .bool (termB d)
    rw [ht]
    rfl
  rw [List.concat_eq_append] at e
  subst e
  rw [if_pos (by simp), List.getLast?_concat, List.dropLast_concat]
  rw [termAll_app, show termAll [y] = termB y from Bool.and_true _] at ht
  have hy : okD 100 y := okAll_iff.mp hok y (by simp)
  rw [wtAll_app, show wtAll [y] = wt y + 2 from rfl] at hws
  have wrong : termB y = false → post_is_term [d] (.bool false) := fun h => by
    show PyData.bool false = .bool (termB d)
    rw [ht, h, Bool.and_false]
  dsimp only [dSeq, dAsg, dAsgN, dAsgPop, dAppend, dExtend, dExtendT, dInsert, dPar, dPar3, dAug, dIfS, dFor, dRet, dRetO, dRetOwn, dRetOwnD, dRetN, dDrop, dNext, dBreak, dCont, dFreeze, dBorrow, dBorrowT, dTr, dTest, dAnd, dOr, dNot, dAndV, dOrV, dNotV, dIf, dOp, dUn, dCB, dCall, dnCall, dCallX, dCallV, dTup, dLst, dnLst, dnLc, dLc, dOfN, dnAdd, dnSl, dSl, dSlice, dNoPart, dPart, dIx, isI, isB, dVar, dC, dCons, dNil, dLen, dRepr, dListOf, dTupOf, dItems, dItemsT, itemsOf, dSigns, dRng1, dgName, dgTup, dgCons, dgNil, dEq, dNe, dLt, dIn, dII, dIC, dNeg, dAdd, dRep, dUpper, dJoin, dYes, truD, dAll, dAny, dInt1, dAbs, dChain, List.set, List.getElem?_cons_succ, List.getElem?_cons_zero]
  cases y with
  | tuple xs =>
    rw [if_neg (by simp [isTup])]
    cases xs with
    | nil =>
      rw [if_pos rfl]
      exact wrong rfl
    | cons x xs =>
      dsimp only [List.isEmpty]
      rw [if_neg (by decide), atI0]
      dsimp only
      refine ⟨okN_of hy.1, ?_⟩
      rintro r rfl
      dsimp only [dSeq, dAsg, dAsgN, dAsgPop, dAppend, dExtend, dExtendT, dInsert, dPar, dPar3, dAug, dIfS, dFor, dRet, dRetO, dRetOwn, dRetOwnD, dRetN, dDrop, dNext, dBreak, dCont, dFreeze, dBorrow, dBorrowT, dTr, dTest, dAnd, dOr, dNot, dAndV, dOrV, dNotV, dIf, dOp, dUn, dCB, dCall, dnCall, dCallX, dCallV, dTup, dLst, dnLst, dnLc, dLc, dOfN, dnAdd, dnSl, dSl, dSlice, dNoPart, dPart, dIx, isI, isB, dVar, dC, dCons, dNil, dLen, dRepr, dListOf, dTupOf, dItems, dItemsT, itemsOf, dSigns, dRng1, dgName, dgTup, dgCons, dgNil, dEq, dNe, dLt, dIn, dII, dIC, dNeg, dAdd, dRep, dUpper, dJoin, dYes, truD, dAll, dAny, dInt1, dAbs, dChain, List.set, List.getElem?_cons_succ, List.getElem?_cons_zero]
      cases hx : isNmD x with
      | false =>
        rw [if_pos (by decide)]
        exact wrong (by rw [termB, termT, hx]; rfl)
      | true =>
        rw [if_neg (by decide)]
        rw [show cutD (x :: xs) (some 1) none = xs from cutD_from (x :: xs) 1]
        have hl := len_wt (ws' ++ xs)
        rw [List.length_append, wtAll_app] at hl
        rw [wt, wtAll] at hws
        refine ⟨small_le (by omega), _, ?_, ws' ++ xs, _, rfl, rfl, ?_, ?_, ?_⟩
        · have e1 : wtAll [PyData.tuple (x :: xs)] = wtAll xs + wt x + 7 := by
            simp only [wtAll, wt]
            omega
          rw [wtAll_app, wtAll_app, e1]
          omega
        · rw [ht, termAll_app, termB, termT, hx]
          rfl
        · exact (hok.sub (by intro z hz; simp [hz])).app (show okAll 100 xs from hy.2)
        · rw [wtAll_app]
          omega
  | _ =>
    rw [if_pos rfl]
    exact wrong rfl
theorem andVB {a c : Bool} {R : PyData → Prop} (h : R (.bool (a && c))) : if a = true then R (.bool c) else R (.bool false) := by
  cases a
  · rw [if_neg (by decide)]; exact h
  · rw [if_pos rfl]; exact h
theorem at_lt {xs : List PyData} {k : Nat} {d : PyData} (h : xs[k]? = some d) : atD (.tuple xs) (k : Int) = some d := by
  show L2.atI xs (k : Int) = some d
  have hl := (List.getElem?_eq_some_iff.mp h).1
  unfold L2.atI ixN
  rw [if_pos (by omega), if_pos (by omega)]
  exact h
theorem len5 {xs : List PyData} (h : xs.length = 5) : ∃ a b c y n, xs = [a, b, c, y, n] := by
  match xs, h with
  | [a, b, c, y, n], _ => exact ⟨a, b, c, y, n, rfl⟩
theorem forkD_len {xs : List PyData} (h : xs.length ≠ 5) : forkD (.tuple xs) = false := by
  unfold forkD
  split
  · rename_i e
    cases e
    exact absurd rfl h
  · rfl
theorem forkD_5 (a b c y n : PyData) : forkD (.tuple [a, b, c, y, n]) = (isStrOf "if" a && (termB b && termB c)) := by
  cases a <;> rfl
theorem dat_is_fork : ∀ ds, pre_is_fork ds → d_is_fork { nx := fun _ => post_is_fork ds .none, rt := post_is_fork ds } (startD 1 (ds.map fun d => some (.dat d))) := by
  intro ds h
  unfold pre_is_fork prD at h
  split at h
  case h_2 => exact h.elim
  rename_i d
  obtain ⟨ok, hw⟩ := h
  show d_is_fork _ [some (.dat d)]
  unfold d_is_fork
  simp only [dIsi_tup]
  dsimp only [dSeq, dAsg, dAsgN, dAsgPop, dAppend, dExtend, dExtendT, dInsert, dPar, dPar3, dAug, dIfS, dFor, dRet, dRetO, dRetOwn, dRetOwnD, dRetN, dDrop, dNext, dBreak, dCont, dFreeze, dBorrow, dBorrowT, dTr, dTest, dAnd, dOr, dNot, dAndV, dOrV, dNotV, dIf, dOp, dUn, dCB, dCall, dnCall, dCallX, dCallV, dTup, dLst, dnLst, dnLc, dLc, dOfN, dnAdd, dnSl, dSl, dSlice, dNoPart, dPart, dIx, isI, isB, dVar, dC, dCons, dNil, dLen, dRepr, dListOf, dTupOf, dItems, dItemsT, itemsOf, dSigns, dRng1, dgName, dgTup, dgCons, dgNil, dEq, dNe, dLt, dIn, dII, dIC, dNeg, dAdd, dRep, dUpper, dJoin, dYes, truD, dAll, dAny, dInt1, dAbs, dChain, List.set, List.getElem?_cons_succ, List.getElem?_cons_zero]
  have wrong : forkD d = false → post_is_fork [d] (.bool false) := fun h => by
    show PyData.bool false = .bool (forkD d)
    rw [h]
  cases d with
  | tuple xs =>
    rw [if_neg (by simp [isTup])]
    dsimp only
    refine ⟨rfl, ?_⟩
    rw [eqv_ii]
    by_cases h5 : xs.length = 5
    · obtain ⟨a, b, c, y, n, rfl⟩ := len5 h5
      rw [if_neg (by simp)]
      rw [atI0]
      dsimp only
      refine ⟨eqOk_str _ _, ?_⟩
      rw [eqv_str]
      obtain ⟨oa, ob, oc, oy, on, _⟩ := (show okAll 100 _ from ok)
      simp only [wt, wtAll] at hw
      have fin : post_is_fork [.tuple [a, b, c, y, n]] (.bool (isStrOf "if" a && (termB b && termB c))) := by
        show PyData.bool _ = .bool (forkD _)
        rw [forkD_5]
      cases ha : isStrOf "if" a with
      | false =>
        rw [if_neg (by decide)]
        rw [ha] at fin
        exact fin
      | true =>
        rw [if_pos rfl, show atD (.tuple [a, b, c, y, n]) 1 = some b from at_lt (k := 1) rfl, show atD (.tuple [a, b, c, y, n]) 2 = some c from at_lt (k := 2) rfl]
        refine ⟨⟨ob, by omega⟩, ?_⟩
        rintro r rfl
        dsimp only [dSeq, dAsg, dAsgN, dAsgPop, dAppend, dExtend, dExtendT, dInsert, dPar, dPar3, dAug, dIfS, dFor, dRet, dRetO, dRetOwn, dRetOwnD, dRetN, dDrop, dNext, dBreak, dCont, dFreeze, dBorrow, dBorrowT, dTr, dTest, dAnd, dOr, dNot, dAndV, dOrV, dNotV, dIf, dOp, dUn, dCB, dCall, dnCall, dCallX, dCallV, dTup, dLst, dnLst, dnLc, dLc, dOfN, dnAdd, dnSl, dSl, dSlice, dNoPart, dPart, dIx, isI, isB, dVar, dC, dCons, dNil, dLen, dRepr, dListOf, dTupOf, dItems, dItemsT, itemsOf, dSigns, dRng1, dgName, dgTup, dgCons, dgNil, dEq, dNe, dLt, dIn, dII, dIC, dNeg, dAdd, dRep, dUpper, dJoin, dYes, truD, dAll, dAny, dInt1, dAbs, dChain, List.set, List.getElem?_cons_succ, List.getElem?_cons_zero]
        rw [ha] at fin
        cases hb : termB b with
        | false =>
          rw [if_neg (by decide)]
          rw [hb] at fin
          exact fin
        | true =>
          rw [if_pos rfl]
          refine ⟨⟨oc, by omega⟩, ?_⟩
          rintro r rfl
          rw [hb] at fin
          exact fin
    · rw [if_pos (by simp; omega)]
      exact wrong (forkD_len h5)
  | _ =>
    rw [if_pos rfl]
    exact wrong rfl
theorem dat_l_is_term : ∀ n, ∀ ds, pre_l_is_term (n + 1) ds → d_l_is_term n { nx := fun _ => post_l_is_term ds .none, rt := post_l_is_term ds } (startD 2 (ds.map fun d => some (.dat d))) := by
  intro n ds h
  unfold pre_l_is_term prR at h
  split at h
  case h_2 => exact h.elim
  rename_i d
  obtain ⟨⟨ok, hw⟩, hd⟩ := h
  show d_l_is_term n _ [some (.dat d), none]
  unfold d_l_is_term
  simp only [dIsi_tup]
  dsimp only [dSeq, dAsg, dAsgN, dAsgPop, dAppend, dExtend, dExtendT, dInsert, dPar, dPar3, dAug, dIfS, dFor, dRet, dRetO, dRetOwn, dRetOwnD, dRetN, dDrop, dNext, dBreak, dCont, dFreeze, dBorrow, dBorrowT, dTr, dTest, dAnd, dOr, dNot, dAndV, dOrV, dNotV, dIf, dOp, dUn, dCB, dCall, dnCall, dCallX, dCallV, dTup, dLst, dnLst, dnLc, dLc, dOfN, dnAdd, dnSl, dSl, dSlice, dNoPart, dPart, dIx, isI, isB, dVar, dC, dCons, dNil, dLen, dRepr, dListOf, dTupOf, dItems, dItemsT, itemsOf, dSigns, dRng1, dgName, dgTup, dgCons, dgNil, dEq, dNe, dLt, dIn, dII, dIC, dNeg, dAdd, dRep, dUpper, dJoin, dYes, truD, dAll, dAny, dInt1, dAbs, dChain, List.set, List.getElem?_cons_succ, List.getElem?_cons_zero]
  have wrong : termB d = false → post_l_is_term [d] (.bool false) := fun h => by
    show PyData.bool false = .bool (termB d)
    rw [h]
  cases d with
  | tuple xs =>
    rw [if_neg (by simp [isTup])]
    dsimp only
    refine ⟨rfl, eqOk_unit _, ?_⟩
    rw [eqv_nilT]
    cases xs with
    | nil =>
      dsimp only [List.isEmpty]
      rw [if_pos rfl]
      try rw [if_pos rfl]
      exact wrong rfl
    | cons x xs =>
      dsimp only [List.isEmpty]
      rw [if_neg (by decide), atI0]
      refine ⟨okN_of ok.1, ?_⟩
      rintro r rfl
      dsimp only [dSeq, dAsg, dAsgN, dAsgPop, dAppend, dExtend, dExtendT, dInsert, dPar, dPar3, dAug, dIfS, dFor, dRet, dRetO, dRetOwn, dRetOwnD, dRetN, dDrop, dNext, dBreak, dCont, dFreeze, dBorrow, dBorrowT, dTr, dTest, dAnd, dOr, dNot, dAndV, dOrV, dNotV, dIf, dOp, dUn, dCB, dCall, dnCall, dCallX, dCallV, dTup, dLst, dnLst, dnLc, dLc, dOfN, dnAdd, dnSl, dSl, dSlice, dNoPart, dPart, dIx, isI, isB, dVar, dC, dCons, dNil, dLen, dRepr, dListOf, dTupOf, dItems, dItemsT, itemsOf, dSigns, dRng1, dgName, dgTup, dgCons, dgNil, dEq, dNe, dLt, dIn, dII, dIC, dNeg, dAdd, dRep, dUpper, dJoin, dYes, truD, dAll, dAny, dInt1, dAbs, dChain, List.set, List.getElem?_cons_succ, List.getElem?_cons_zero]
      cases hx : isNmD x with
      | false =>
        rw [if_pos (by decide)]
        exact wrong (by rw [termB, termT, hx]; rfl)
      | true =>
        rw [if_neg (by decide)]
        rw [show cutD (x :: xs) (some 1) none = xs from cutD_from (x :: xs) 1]
        have hl := len_wt xs
        simp only [wt, wtAll] at hw
        simp only [PyData.depth, PyData.depthAll] at hd
        refine ⟨small_le (by omega), fun i acc => acc = (xs.take i).filter (fun z => !termB z), rfl, ?_, ?_⟩
        · rintro i z acc hz - rfl
          have hm : z ∈ xs := List.mem_of_getElem? hz
          have h1 := wt_mem hm
          have h2 := depthAll_mem hm
          refine ⟨⟨⟨okAll_iff.mp (show okAll 100 xs from ok.2) z hm, by omega⟩, by omega⟩, ?_⟩
          rintro r rfl
          dsimp only [dSeq, dAsg, dAsgN, dAsgPop, dAppend, dExtend, dExtendT, dInsert, dPar, dPar3, dAug, dIfS, dFor, dRet, dRetO, dRetOwn, dRetOwnD, dRetN, dDrop, dNext, dBreak, dCont, dFreeze, dBorrow, dBorrowT, dTr, dTest, dAnd, dOr, dNot, dAndV, dOrV, dNotV, dIf, dOp, dUn, dCB, dCall, dnCall, dCallX, dCallV, dTup, dLst, dnLst, dnLc, dLc, dOfN, dnAdd, dnSl, dSl, dSlice, dNoPart, dPart, dIx, isI, isB, dVar, dC, dCons, dNil, dLen, dRepr, dListOf, dTupOf, dItems, dItemsT, itemsOf, dSigns, dRng1, dgName, dgTup, dgCons, dgNil, dEq, dNe, dLt, dIn, dII, dIC, dNeg, dAdd, dRep, dUpper, dJoin, dYes, truD, dAll, dAny, dInt1, dAbs, dChain, List.set, List.getElem?_cons_succ, List.getElem?_cons_zero]
          rw [List.take_add_one, hz, List.filter_append]
          cases ht : termB z with
          | false =>
            rw [if_pos (by decide)]
            show _ ++ [z] = _
            simp [ht]
          | true =>
            rw [if_neg (by decide)]
            simp [ht]
        · rintro acc - rfl
          rw [List.take_length]
          refine ⟨rfl, eqOk_nil _, ?_⟩
          show PyData.bool _ = .bool _
          rw [eqv_nilL, termB, termT, hx, Bool.true_and]
          congr 1
          clear hl hw hd ok wrong
          induction xs with
          | nil => rfl
          | cons z zs ih =>
            rw [termAll, List.filter_cons]
            cases ht : termB z with
            | false => rw [if_pos (by decide)]; rfl
            | true => rw [if_neg (by decide), ih, Bool.true_and]
  | _ =>
    rw [if_pos rfl]
    exact wrong rfl
end DL

namespace DL
open PySem PySem.Spec PyProof.Rows L2
open Evl (Ex ex_l ex_t)
def wT : Nat → Nat
  | 0 => 87
  | n + 1 => 87 + 6 * (wT n + 2)
def pre_l_any_term (n : Nat) : List PyData → Prop := fun ds => ∃ m : Nat, ds = [.int m] ∧ m < n ∧ m ≤ 3
def post_l_any_term : List PyData → PyData → Prop := fun ds d => ∃ m : Nat, ds = [.int m] ∧ Gd 8 (m + 1) (wT m) d
def sp_l_any_term (K : PySem.W.Frag) (n : Nat) : Sp := spG K (pre_l_any_term n) post_l_any_term
theorem n_l_any_term (n : Nat) : ∀ ds, pre_l_any_term n ds → ds.length = 1 := by
  rintro ds ⟨m, rfl, _⟩
  rfl
theorem no_l_any_term : ∀ ds, ¬ pre_l_any_term 0 ds := by
  rintro ds ⟨m, _, h, _⟩
  omega
/-- a part otherwise -/
def pre_l_bent (n : Nat) : List PyData → Prop := fun ds => ∃ d, ds = [d] ∧ okD 90 d ∧ wt d ≤ 190000 ∧ d.depth < n
def post_l_bent : List PyData → PyData → Prop := fun ds r => ∃ d, ds = [d] ∧ ∀ L D W, 9 ≤ L → Gd L D W d → Gd (L + 1) (D + 4) (2 * W + 2500) r
def sp_l_bent (K : PySem.W.Frag) (n : Nat) : Sp := spG K (pre_l_bent n) post_l_bent
theorem n_l_bent (n : Nat) : ∀ ds, pre_l_bent n ds → ds.length = 1 := by
  rintro ds ⟨m, rfl, _⟩
  rfl
theorem no_l_bent : ∀ ds, ¬ pre_l_bent 0 ds := by
  rintro ds ⟨m, _, _, _, h⟩
  omega
def wC : Nat → Nat
  | 0 => 3900
  | n + 1 => 1300 + 2 * wC n
def pre_l_any_code (n : Nat) : List PyData → Prop := fun ds => ∃ (m : Nat) (g : Bool), ds = [.int m, .bool g] ∧ m < n ∧ m ≤ 4
def post_l_any_code : List PyData → PyData → Prop := fun ds d => ∃ (m : Nat) (g : Bool), ds = [.int m, .bool g] ∧ Gd 8 (m + 4) (wC m) d
def sp_l_any_code (K : PySem.W.Frag) (n : Nat) : Sp := spG K (pre_l_any_code n) post_l_any_code
theorem n_l_any_code (n : Nat) : ∀ ds, pre_l_any_code n ds → ds.length = 2 := by
  rintro ds ⟨m, g, rfl, _⟩
  rfl
theorem no_l_any_code : ∀ ds, ¬ pre_l_any_code 0 ds := by
  rintro ds ⟨m, g, _, h, _⟩
  omega
theorem gd_name {x : Str} (h : isNm x = true) : Gd 8 0 82 (.str x) := ⟨asc.name h, by rw [PyData.depth]; exact Nat.le_refl _, by rw [wt]; have := (asc.name h).1; omega⟩
theorem gd_tup {L D W : Nat} {xs : List PyData} (h : ∀ d ∈ xs, okD L d ∧ d.depth ≤ D) (hw : wtAll xs + 3 ≤ W) : Gd L (D + 1) W (.tuple xs) :=
  ⟨okAll_iff.mpr fun d hd => (h d hd).1, by rw [PyData.depth]; have := depthAll_le fun d hd => (h d hd).2; omega, by rw [wt]; exact hw⟩
theorem wtAll_le {W : Nat} : ∀ {xs : List PyData}, (∀ d ∈ xs, wt d ≤ W) → wtAll xs ≤ xs.length * (W + 2)
  | [], _ => Nat.zero_le _
  | x :: xs, h => by
    have h1 := h x (List.mem_cons_self ..)
    have h2 := wtAll_le (xs := xs) fun d hd => h d (List.mem_cons_of_mem _ hd)
    rw [wtAll, List.length_cons, Nat.succ_mul]
    omega
theorem take_ok {n : Int} (h : 0 < n ∧ n.natAbs.log2 < 9000) {R : PyData → Prop} (k : ∀ i : Nat, (i : Int) < n → R (.int i)) : pre_l_take [.int n] ∧ ∀ r, post_l_take [.int n] r → R r := by
  refine ⟨h, ?_⟩
  rintro r ⟨i, rfl, h0, h1⟩
  have := k i.toNat (by omega)
  rwa [show ((i.toNat : Nat) : Int) = i from by omega] at this
def t_l_any_term (K : PySem.W.Frag) (n : Nat) : TS := (tSeq (tAsg (tIf (tTest (tOp (rLtU (fun i j => decide (j < i)) fun i j => ltS j i) (tVar 1) (tC (.int 0)))) (tCall (sp_l_take K) [] E0 (tCons (tVar 0) (tCons (tIf (tTest (tOp (rEqU K) (tVar 1) (tC (.int 1)))) (tC (.int 7)) (tC (.int 4))) tNil))) (tC (.int 0))) (gName 2))
    (tRet (tOp (rAddU K) (tTup (tCons (tCall (sp_l_name K) [] E0 (tCons (tVar 0) tNil)) tNil)) (tCB (rTupOf K) (tCons (tLc (iRng1 (tCons (tVar 2) tNil)) (gName 3) tYes (tCall (sp_l_any_term K n) [] E0 (tCons (tVar 0) (tCons (tOp (rI0 fun i j => .int (i - j)) (tVar 1) (tC (.int 1))) tNil))) [3]) tNil)))))
def d_l_any_term (n : Nat) : DS := (dSeq (dAsg (dIf (dTest (dOp (dLt (fun i j => decide (j < i)) fun i j => ltS j i) (dVar 1) (dC (.int 0)))) (dCall pre_l_take post_l_take (dCons (dIf (dTest (dOp dEq (dVar 1) (dC (.int 1)))) (dC (.int 7)) (dC (.int 4))) dNil)) (dC (.int 0))) (dgName 2))
    (dRet (dOp dAdd (dTup (dCons (dCall pre_l_name post_l_name dNil) dNil)) (dCB dTupOf (dCons (dLc (dRng1 (dCons (dVar 2) dNil)) 3 dYes (dCall (pre_l_any_term n) post_l_any_term (dCons (dOp (dII fun i j => i - j) (dVar 1) (dC (.int 1))) dNil)) [3]) dNil)))))
theorem m_l_any_term {K : PySem.W.Frag} {b : Bg} {n : Nat} : SimS K (some 0) b (t_l_any_term K n) (d_l_any_term n) := (sim_seq (sim_asg (sim_ifx (sim_test (sim_op simr_lt sim_var sim_int)) (sim_callG rfl (sim_cons (sim_ifx (sim_test (sim_op simr_eq sim_var sim_int)) sim_int sim_int) sim_nil)) sim_int) (simg_name (by decide)))
    (sim_ret (sim_op sim_add (sim_tup (sim_cons (sim_callG rfl sim_nil) sim_nil)) (sim_cb simc_tupOf (sim_cons (sim_lc (by decide) (by intro i hi; cases hi <;> decide) (sim_rng1 (sim_cons sim_var sim_nil)) sim_yes (sim_callG rfl (sim_cons (sim_op simr_II sim_var sim_int) sim_nil))) sim_nil)))))

def t_l_bent (K : PySem.W.Frag) (n : Nat) : TS := (tSeq (tAsg (tCall (sp_l_take K) [] E0 (tCons (tVar 0) (tCons (tC (.int 15)) tNil))) (gName 2))
    (tSeq (tIfS (tAnd (tB (tCB (rIsi K) (tCons (tVar 1) (tCons (tC (.ty "tuple")) tNil)))) (tAnd (tTest (tOp (rNeU K) (tVar 1) (tTup tNil))) (tTest (tOp (rLtU (fun i j => decide (j < i)) fun i j => ltS j i) (tVar 2) (tC (.int 1)))))) (tSeq (tAsg (tCall (sp_l_take K) [] E0 (tCons (tVar 0) (tCons (tCB (rLenU K) (tCons (tVar 1) tNil)) tNil))) (gName 3))
    (tSeq (tIfS (tTest (tOp (rEqU K) (tVar 2) (tC (.int 2)))) (tRet (tCB (rListOf K) (tCons (tVar 1) tNil))) tNext)
    (tSeq (tIfS (tTest (tOp (rEqU K) (tVar 2) (tC (.int 3)))) (tRet (tOp (rAddU K) (tSl (rSlU K) (tVar 1) tNoPart (tPart (tVar 3))) (tSl (rSlU K) (tVar 1) (tPart (tOp (rAddU K) (tVar 3) (tC (.int 1)))) tNoPart))) tNext)
    (tSeq (tIfS (tTest (tOp (rEqU K) (tVar 2) (tC (.int 4)))) (tRet (tOp (rAddU K) (tOp (rAddU K) (tSl (rSlU K) (tVar 1) tNoPart (tPart (tVar 3))) (tTup (tCons (tOp (rIx K) (tVar 1) (tVar 3)) tNil))) (tSl (rSlU K) (tVar 1) (tPart (tVar 3)) tNoPart))) tNext)
    (tSeq (tIfS (tTest (tOp (rEqU K) (tVar 2) (tC (.int 5)))) (tRet (tOp (rAddU K) (tOp (rAddU K) (tSl (rSlU K) (tVar 1) tNoPart (tPart (tVar 3))) (tTup (tCons (tCall (sp_l_odd K) [] E0 (tCons (tVar 0) tNil)) tNil))) (tSl (rSlU K) (tVar 1) (tPart (tVar 3)) tNoPart))) tNext)
    (tRet (tOp (rAddU K) (tOp (rAddU K) (tSl (rSlU K) (tVar 1) tNoPart (tPart (tVar 3))) (tTup (tCons (tCall (sp_l_bent K n) [] E0 (tCons (tVar 0) (tCons (tOp (rIx K) (tVar 1) (tVar 3)) tNil))) tNil))) (tSl (rSlU K) (tVar 1) (tPart (tOp (rAddU K) (tVar 3) (tC (.int 1)))) tNoPart)))))))) tNext)
    (tSeq (tIfS (tAnd (tB (tCB (rIsi K) (tCons (tVar 1) (tCons (tC (.ty "str")) tNil)))) (tTest (tOp (rLtU (fun i j => decide (j < i)) fun i j => ltS j i) (tVar 2) (tC (.int 1))))) (tSeq (tAsg (tLst (tCons (tOp (rAddU K) (tVar 1) (tC (.str "s"))) (tCons (tOp (rAddU K) (tVar 1) (tC (.str "1"))) (tCons (tOp (rAddU K) (tVar 1) (tC (.str "\n"))) (tCons (tSl (rSlU K) (tVar 1) tNoPart (tPart (tUn (rU fun i => .int (-i)) (tC (.int 1))))) (tCons (tM0 rUpper (tVar 1)) (tCons (tC (.str "if")) (tCons (tC (.str "tell")) (tCons (tC (.str "yes")) (tCons (tC (.str "alike")) tNil)))))))))) (gName 4))
    (tRet (tCall (sp_l_one K) [] E0 (tCons (tVar 0) (tCons (tOp (rAddU K) (tVar 4) (tLst (tCons (tC (.str "unlike")) (tCons (tC (.str "no")) (tCons (tC (.str "go")) (tCons (tC (.str "with")) tNil)))))) tNil))))) tNext)
    (tRet (tCall (sp_l_odd K) [] E0 (tCons (tVar 0) tNil))))))
def d_l_bent (n : Nat) : DS := (dSeq (dAsg (dCall pre_l_take post_l_take (dCons (dC (.int 15)) dNil)) (dgName 2))
    (dSeq (dIfS (dAnd (dTest (dIsi "tuple" (dVar 1))) (dAnd (dTest (dOp dNe (dVar 1) (dTup dNil))) (dTest (dOp (dLt (fun i j => decide (j < i)) fun i j => ltS j i) (dVar 2) (dC (.int 1)))))) (dSeq (dAsg (dCall pre_l_take post_l_take (dCons (dCB dLen (dCons (dVar 1) dNil)) dNil)) (dgName 3))
    (dSeq (dIfS (dTest (dOp dEq (dVar 2) (dC (.int 2)))) (dRet (dCB dListOf (dCons (dVar 1) dNil))) dNext)
    (dSeq (dIfS (dTest (dOp dEq (dVar 2) (dC (.int 3)))) (dRet (dOp dAdd (dSl dSlice (dVar 1) dNoPart (dPart (dVar 3))) (dSl dSlice (dVar 1) (dPart (dOp dAdd (dVar 3) (dC (.int 1)))) dNoPart))) dNext)
    (dSeq (dIfS (dTest (dOp dEq (dVar 2) (dC (.int 4)))) (dRet (dOp dAdd (dOp dAdd (dSl dSlice (dVar 1) dNoPart (dPart (dVar 3))) (dTup (dCons (dOp dIx (dVar 1) (dVar 3)) dNil))) (dSl dSlice (dVar 1) (dPart (dVar 3)) dNoPart))) dNext)
    (dSeq (dIfS (dTest (dOp dEq (dVar 2) (dC (.int 5)))) (dRet (dOp dAdd (dOp dAdd (dSl dSlice (dVar 1) dNoPart (dPart (dVar 3))) (dTup (dCons (dCall pre_l_odd post_l_odd dNil) dNil))) (dSl dSlice (dVar 1) (dPart (dVar 3)) dNoPart))) dNext)
    (dRet (dOp dAdd (dOp dAdd (dSl dSlice (dVar 1) dNoPart (dPart (dVar 3))) (dTup (dCons (dCall (pre_l_bent n) post_l_bent (dCons (dOp dIx (dVar 1) (dVar 3)) dNil)) dNil))) (dSl dSlice (dVar 1) (dPart (dOp dAdd (dVar 3) (dC (.int 1)))) dNoPart)))))))) dNext)
    (dSeq (dIfS (dAnd (dTest (dIsi "str" (dVar 1))) (dTest (dOp (dLt (fun i j => decide (j < i)) fun i j => ltS j i) (dVar 2) (dC (.int 1))))) (dSeq (dAsg (dLst (dCons (dOp dAdd (dVar 1) (dC (.str "s"))) (dCons (dOp dAdd (dVar 1) (dC (.str "1"))) (dCons (dOp dAdd (dVar 1) (dC (.str "\n"))) (dCons (dSl dSlice (dVar 1) dNoPart (dPart (dUn dNeg (dC (.int 1))))) (dCons (dUpper (dVar 1)) (dCons (dC (.str "if")) (dCons (dC (.str "tell")) (dCons (dC (.str "yes")) (dCons (dC (.str "alike")) dNil)))))))))) (dgName 4))
    (dRet (dCall pre_l_one post_l_one (dCons (dOp dAdd (dVar 4) (dLst (dCons (dC (.str "unlike")) (dCons (dC (.str "no")) (dCons (dC (.str "go")) (dCons (dC (.str "with")) dNil)))))) dNil)))) dNext)
    (dRet (dCall pre_l_odd post_l_odd dNil)))))
theorem m_l_bent {K : PySem.W.Frag} {b : Bg} {n : Nat} : SimS K (some 0) b (t_l_bent K n) (d_l_bent n) := (sim_seq (sim_asg (sim_callG rfl (sim_cons sim_int sim_nil)) (simg_name (by decide)))
    (sim_seq (sim_if (sim_and (sim_tB (sim_isi sim_var)) (sim_and (sim_test (sim_op simr_ne sim_var (sim_tup sim_nil))) (sim_test (sim_op simr_lt sim_var sim_int)))) (sim_seq (sim_asg (sim_callG rfl (sim_cons (sim_cb simc_len (sim_cons sim_var sim_nil)) sim_nil)) (simg_name (by decide)))
    (sim_seq (sim_if (sim_test (sim_op simr_eq sim_var sim_int)) (sim_ret (sim_cb simc_listOf (sim_cons sim_var sim_nil))) sim_next)
    (sim_seq (sim_if (sim_test (sim_op simr_eq sim_var sim_int)) (sim_ret (sim_op sim_add (sim_sl sims_slice sim_var sim_noPart (sim_part sim_var)) (sim_sl sims_slice sim_var (sim_part (sim_op sim_add sim_var sim_int)) sim_noPart))) sim_next)
    (sim_seq (sim_if (sim_test (sim_op simr_eq sim_var sim_int)) (sim_ret (sim_op sim_add (sim_op sim_add (sim_sl sims_slice sim_var sim_noPart (sim_part sim_var)) (sim_tup (sim_cons (sim_op simr_ix sim_var sim_var) sim_nil))) (sim_sl sims_slice sim_var (sim_part sim_var) sim_noPart))) sim_next)
    (sim_seq (sim_if (sim_test (sim_op simr_eq sim_var sim_int)) (sim_ret (sim_op sim_add (sim_op sim_add (sim_sl sims_slice sim_var sim_noPart (sim_part sim_var)) (sim_tup (sim_cons (sim_callG rfl sim_nil) sim_nil))) (sim_sl sims_slice sim_var (sim_part sim_var) sim_noPart))) sim_next)
    (sim_ret (sim_op sim_add (sim_op sim_add (sim_sl sims_slice sim_var sim_noPart (sim_part sim_var)) (sim_tup (sim_cons (sim_callG rfl (sim_cons (sim_op simr_ix sim_var sim_var) sim_nil)) sim_nil))) (sim_sl sims_slice sim_var (sim_part (sim_op sim_add sim_var sim_int)) sim_noPart)))))))) sim_next)
    (sim_seq (sim_if (sim_and (sim_tB (sim_isi sim_var)) (sim_test (sim_op simr_lt sim_var sim_int))) (sim_seq (sim_asg (sim_lst (sim_cons (sim_op sim_add sim_var sim_str) (sim_cons (sim_op sim_add sim_var sim_str) (sim_cons (sim_op sim_add sim_var sim_str) (sim_cons (sim_sl sims_slice sim_var sim_noPart (sim_part (sim_un simu_neg sim_int))) (sim_cons (sim_upper sim_var) (sim_cons sim_str (sim_cons sim_str (sim_cons sim_str (sim_cons sim_str sim_nil)))))))))) (simg_name (by decide)))
    (sim_ret (sim_callG rfl (sim_cons (sim_op sim_add sim_var (sim_lst (sim_cons sim_str (sim_cons sim_str (sim_cons sim_str (sim_cons sim_str sim_nil)))))) sim_nil)))) sim_next)
    (sim_ret (sim_callG rfl sim_nil)))))

def t_l_any_code (K : PySem.W.Frag) (n : Nat) : TS := (tSeq (tIfS (tOr (tTest (tOp (rEqU K) (tVar 1) (tC (.int 0)))) (tTest (tOp (rEqU K) (tCall (sp_l_take K) [] E0 (tCons (tVar 0) (tCons (tC (.int 3)) tNil))) (tC (.int 0))))) (tRet (tIf (tB (tVar 2)) (tTup (tCons (tCall (sp_l_one K) [] E0 (tCons (tVar 0) (tCons (tLst (tCons (tC (.str "yes")) (tCons (tC (.str "no")) tNil))) tNil))) tNil)) (tTup (tCons (tC (.str "tell")) (tCons (tCall (sp_l_any_term K 5) [] E0 (tCons (tVar 0) (tCons (tC (.int 2)) tNil))) tNil))))) tNext)
    (tSeq (tPar 3 4 (tCons (tCall (sp_l_any_term K 5) [] E0 (tCons (tVar 0) (tCons (tC (.int 1)) tNil))) (tCons (tCall (sp_l_any_term K 5) [] E0 (tCons (tVar 0) (tCons (tC (.int 1)) tNil))) tNil)))
    (tRet (tTup (tCons (tC (.str "if")) (tCons (tVar 3) (tCons (tVar 4) (tCons (tCall (sp_l_any_code K n) [] E0 (tCons (tVar 0) (tCons (tOp (rI0 fun i j => .int (i - j)) (tVar 1) (tC (.int 1))) (tCons (tVar 2) tNil)))) (tCons (tCall (sp_l_any_code K n) [] E0 (tCons (tVar 0) (tCons (tOp (rI0 fun i j => .int (i - j)) (tVar 1) (tC (.int 1))) (tCons (tVar 2) tNil)))) tNil)))))))))
def d_l_any_code (n : Nat) : DS := (dSeq (dIfS (dOr (dTest (dOp dEq (dVar 1) (dC (.int 0)))) (dTest (dOp dEq (dCall pre_l_take post_l_take (dCons (dC (.int 3)) dNil)) (dC (.int 0))))) (dRet (dIf (dTest (dVar 2)) (dTup (dCons (dCall pre_l_one post_l_one (dCons (dLst (dCons (dC (.str "yes")) (dCons (dC (.str "no")) dNil))) dNil)) dNil)) (dTup (dCons (dC (.str "tell")) (dCons (dCall (pre_l_any_term 5) post_l_any_term (dCons (dC (.int 2)) dNil)) dNil))))) dNext)
    (dSeq (dPar 3 4 (dCons (dCall (pre_l_any_term 5) post_l_any_term (dCons (dC (.int 1)) dNil)) (dCons (dCall (pre_l_any_term 5) post_l_any_term (dCons (dC (.int 1)) dNil)) dNil)))
    (dRet (dTup (dCons (dC (.str "if")) (dCons (dVar 3) (dCons (dVar 4) (dCons (dCall (pre_l_any_code n) post_l_any_code (dCons (dOp (dII fun i j => i - j) (dVar 1) (dC (.int 1))) (dCons (dVar 2) dNil))) (dCons (dCall (pre_l_any_code n) post_l_any_code (dCons (dOp (dII fun i j => i - j) (dVar 1) (dC (.int 1))) (dCons (dVar 2) dNil))) dNil)))))))))
theorem m_l_any_code {K : PySem.W.Frag} {b : Bg} {n : Nat} : SimS K (some 0) b (t_l_any_code K n) (d_l_any_code n) := (sim_seq (sim_if (sim_or (sim_test (sim_op simr_eq sim_var sim_int)) (sim_test (sim_op simr_eq (sim_callG rfl (sim_cons sim_int sim_nil)) sim_int))) (sim_ret (sim_ifx (sim_tB sim_var) (sim_tup (sim_cons (sim_callG rfl (sim_cons (sim_lst (sim_cons sim_str (sim_cons sim_str sim_nil))) sim_nil)) sim_nil)) (sim_tup (sim_cons sim_str (sim_cons (sim_callG rfl (sim_cons sim_int sim_nil)) sim_nil))))) sim_next)
    (sim_seq (sim_par (by decide) (by decide) (sim_cons (sim_callG rfl (sim_cons sim_int sim_nil)) (sim_cons (sim_callG rfl (sim_cons sim_int sim_nil)) sim_nil)))
    (sim_ret (sim_tup (sim_cons sim_str (sim_cons sim_var (sim_cons sim_var (sim_cons (sim_callG rfl (sim_cons (sim_op simr_II sim_var sim_int) (sim_cons sim_var sim_nil))) (sim_cons (sim_callG rfl (sim_cons (sim_op simr_II sim_var sim_int) (sim_cons sim_var sim_nil))) sim_nil)))))))))

end DL

namespace DL
open PySem PySem.Spec PyProof.Rows L2
open Evl (Ex ex_l ex_t)
theorem dat_l_any_term : ∀ n, ∀ ds, pre_l_any_term (n + 1) ds → d_l_any_term n { nx := fun _ => post_l_any_term ds .none, rt := post_l_any_term ds } (startD 4 (none :: ds.map fun d => some (.dat d))) := by
  rintro n ds ⟨m, rfl, hm, h3⟩
  show d_l_any_term n _ [none, some (.dat (.int m)), none, none]
  unfold d_l_any_term
  dsimp only [dSeq, dAsg, dAsgN, dAsgPop, dAppend, dExtend, dExtendT, dInsert, dPar, dPar3, dAug, dIfS, dFor, dRet, dRetO, dRetOwn, dRetOwnD, dRetN, dDrop, dNext, dBreak, dCont, dFreeze, dBorrow, dBorrowT, dTr, dTest, dAnd, dOr, dNot, dAndV, dOrV, dNotV, dIf, dOp, dUn, dCB, dCall, dnCall, dCallX, dCallV, dTup, dLst, dnLst, dnLc, dLc, dOfN, dnAdd, dnSl, dSl, dSlice, dNoPart, dPart, dIx, isI, isB, dVar, dC, dCons, dNil, dLen, dRepr, dListOf, dTupOf, dItems, dItemsT, itemsOf, dSigns, dRng1, dgName, dgTup, dgCons, dgNil, dEq, dNe, dLt, dIn, dII, dIC, dNeg, dAdd, dRep, dUpper, dJoin, dYes, truD, dAll, dAny, dInt1, dAbs, dChain, List.set, List.getElem?_cons_succ, List.getElem?_cons_zero]
  have fin : ∀ k : Nat, k ≤ 6 → (k = 0 ∨ 0 < m) → pre_l_name [] ∧ ∀ r, post_l_name [] r → small [r].length = true ∧ -1000000 ≤ (k : Int) ∧ (k : Int) ≤ 1000000 ∧ small (intsD 0 (k : Int).toNat).length = true ∧
      ∃ I : Nat → List PyData → Prop, I 0 [] ∧ (∀ i x acc, (intsD 0 (k : Int).toNat)[i]? = some x → acc.length ≤ i → I i acc →
        if true = true then pre_l_any_term n [.int ((m : Int) - 1)] ∧ ∀ r, post_l_any_term [.int ((m : Int) - 1)] r → I (i + 1) (acc ++ [r]) else I (i + 1) acc) ∧
        ∀ acc, acc.length ≤ (intsD 0 (k : Int).toNat).length → I (intsD 0 (k : Int).toNat).length acc → small ([r].length + acc.length) = true ∧ post_l_any_term [.int m] (.tuple ([r] ++ acc)) := by
    intro k hk h0
    refine ⟨rfl, ?_⟩
    rintro r ⟨x, rfl, hx⟩
    refine ⟨rfl, by omega, by omega, by rw [intsD_len]; exact small_le (by omega), fun i acc => ∀ d ∈ acc, Gd 8 m (wT (m - 1)) d, by simp, ?_, ?_⟩
    · rintro i y acc hi - ha
      rw [if_pos rfl]
      rw [Int.toNat_natCast] at hi
      have hk0 : 0 < k := by
        have := (List.getElem?_eq_some_iff.mp hi).1
        rw [intsD_len] at this
        omega
      have hm0 : 0 < m := h0.resolve_left (by omega)
      have em : (m : Int) - 1 = ((m - 1 : Nat) : Int) := by omega
      rw [em]
      refine ⟨⟨m - 1, rfl, by omega, by omega⟩, ?_⟩
      rintro r ⟨m', e, hr⟩
      have e : m' = m - 1 := by
        have := PyData.int.inj (List.cons.inj e).1
        omega
      subst e
      rw [show m - 1 + 1 = m from by omega] at hr
      intro d hd
      rcases List.mem_append.mp hd with z | z
      · exact ha d z
      · rw [List.mem_singleton.mp z]
        exact hr
    · intro acc hl ha
      rw [intsD_len, Int.toNat_natCast] at hl
      refine ⟨small_le (by simp only [List.length_cons, List.length_nil]; omega), m, rfl, gd_tup ?_ ?_⟩
      · intro d hd
        rcases List.mem_cons.mp hd with rfl | hd
        · exact ⟨(gd_name hx).ok, by have := (gd_name hx).dep; omega⟩
        · exact ⟨(ha d hd).ok, (ha d hd).dep⟩
      · have h1 := wtAll_le fun d hd => (ha d hd).w
        have h2 := (gd_name hx).w
        have h4 : acc.length * (wT (m - 1) + 2) ≤ k * (wT (m - 1) + 2) := Nat.mul_le_mul_right _ hl
        show wtAll (PyData.str x :: acc) + 3 ≤ _
        rw [wtAll]
        rcases h0 with rfl | h0
        · rw [Nat.zero_mul] at h4
          have : 87 ≤ wT m := by cases m <;> simp [wT]
          omega
        · have h5 : k * (wT (m - 1) + 2) ≤ 6 * (wT (m - 1) + 2) := Nat.mul_le_mul_right _ hk
          obtain ⟨j, rfl⟩ : ∃ j, m = j + 1 := ⟨m - 1, by omega⟩
          rw [Nat.add_sub_cancel] at h1 h4 h5
          rw [wT]
          omega
  by_cases h0 : 0 < m
  · rw [decide_eq_true (show (0 : Int) < (m : Int) by omega), if_pos rfl]
    refine ⟨rfl, ?_⟩
    rw [eqv_ii]
    split
    · exact take_ok ⟨by decide, by decide⟩ fun k hk => fin k (by omega) (.inr h0)
    · exact take_ok ⟨by decide, by decide⟩ fun k hk => fin k (by omega) (.inr h0)
  · rw [decide_eq_false (show ¬ (0 : Int) < (m : Int) by omega), if_neg (by decide)]
    exact fin 0 (by omega) (.inl rfl)
theorem gd_tell {t : PyData} (h : Gd 8 3 (wT 2) t) (m : Nat) : Gd 8 (m + 4) (wC m) (.tuple [.str "tell", t]) := by
  have : 3900 ≤ wC m := by
    induction m with
    | zero => exact Nat.le_refl _
    | succ m ih => rw [wC]; omega
  have hw := h.w
  rw [show wT 2 = 3825 from rfl] at hw
  refine (gd_tup (D := 3) (W := 3900) ?_ ?_).mono (Nat.le_refl _) (by omega) this
  · intro d hd
    rcases List.mem_cons.mp hd with rfl | hd
    · exact ⟨⟨by decide, by decide⟩, by rw [PyData.depth]; omega⟩
    · rw [List.mem_singleton.mp hd]
      exact ⟨h.ok, h.dep⟩
  · have e : wt (.str "tell") = 42 := rfl
    simp only [wtAll, e]
    omega
theorem gd_end {x : Str} (h : x ∈ [Str.ofString "yes", "no"]) (m : Nat) : Gd 8 (m + 4) (wC m) (.tuple [.str x]) := by
  have : 3900 ≤ wC m := by
    induction m with
    | zero => exact Nat.le_refl _
    | succ m ih => rw [wC]; omega
  have hx : asc 8 x := by
    rcases List.mem_cons.mp h with rfl | h
    · exact ⟨by decide, by decide⟩
    · rw [List.mem_singleton.mp h]
      exact ⟨by decide, by decide⟩
  refine (gd_tup (D := 3) (W := 3900) ?_ ?_).mono (Nat.le_refl _) (by omega) this
  · intro d hd
    rw [List.mem_singleton.mp hd]
    exact ⟨hx, by rw [PyData.depth]; omega⟩
  · have := hx.1
    simp only [wtAll, wt]
    omega
theorem gd_if {L D W V : Nat} {a b y z : PyData} (h8 : 2 ≤ L) (ha : Gd L D V a) (hb : Gd L D V b) (hy : Gd L D W y) (hz : Gd L D W z) : Gd L (D + 1) (31 + 2 * (V + 2) + 2 * (W + 2)) (.tuple [.str "if", a, b, y, z]) := by
  have e : wt (.str "if") = 22 := rfl
  have h1 := ha.w
  have h2 := hb.w
  have h3 := hy.w
  have h4 := hz.w
  refine gd_tup ?_ ?_
  · intro d hd
    rcases List.mem_cons.mp hd with rfl | hd
    · exact ⟨⟨by show 2 ≤ L; exact h8, by decide⟩, by rw [PyData.depth]; omega⟩
    rcases List.mem_cons.mp hd with rfl | hd
    · exact ⟨ha.ok, ha.dep⟩
    rcases List.mem_cons.mp hd with rfl | hd
    · exact ⟨hb.ok, hb.dep⟩
    rcases List.mem_cons.mp hd with rfl | hd
    · exact ⟨hy.ok, hy.dep⟩
    rw [List.mem_singleton.mp hd]
    exact ⟨hz.ok, hz.dep⟩
  · simp only [wtAll, e]
    omega
theorem any_term_ok {n m : Nat} (hm : m < n ∧ m ≤ 3) {R : PyData → Prop} (k : ∀ r, Gd 8 (m + 1) (wT m) r → R r) : pre_l_any_term n [.int m] ∧ ∀ r, post_l_any_term [.int m] r → R r := by
  refine ⟨⟨m, rfl, hm⟩, ?_⟩
  rintro r ⟨m', e, hr⟩
  have e : m' = m := by
    have := PyData.int.inj (List.cons.inj e).1
    omega
  subst e
  exact k r hr
theorem any_code_ok {n m : Nat} {g : Bool} (hm : m < n ∧ m ≤ 4) {R : PyData → Prop} (k : ∀ r, Gd 8 (m + 4) (wC m) r → R r) : pre_l_any_code n [.int m, .bool g] ∧ ∀ r, post_l_any_code [.int m, .bool g] r → R r := by
  refine ⟨⟨m, g, rfl, hm⟩, ?_⟩
  rintro r ⟨m', g', e, hr⟩
  have e : m' = m := by
    have := PyData.int.inj (List.cons.inj e).1
    omega
  subst e
  exact k r hr
theorem dat_l_any_code : ∀ n, ∀ ds, pre_l_any_code (n + 1) ds → d_l_any_code n { nx := fun _ => post_l_any_code ds .none, rt := post_l_any_code ds } (startD 5 (none :: ds.map fun d => some (.dat d))) := by
  rintro n ds ⟨m, g, rfl, hm, h4⟩
  show d_l_any_code n _ [none, some (.dat (.int m)), some (.dat (.bool g)), none, none]
  unfold d_l_any_code
  dsimp only [dSeq, dAsg, dAsgN, dAsgPop, dAppend, dExtend, dExtendT, dInsert, dPar, dPar3, dAug, dIfS, dFor, dRet, dRetO, dRetOwn, dRetOwnD, dRetN, dDrop, dNext, dBreak, dCont, dFreeze, dBorrow, dBorrowT, dTr, dTest, dAnd, dOr, dNot, dAndV, dOrV, dNotV, dIf, dOp, dUn, dCB, dCall, dnCall, dCallX, dCallV, dTup, dLst, dnLst, dnLc, dLc, dOfN, dnAdd, dnSl, dSl, dSlice, dNoPart, dPart, dIx, isI, isB, dVar, dC, dCons, dNil, dLen, dRepr, dListOf, dTupOf, dItems, dItemsT, itemsOf, dSigns, dRng1, dgName, dgTup, dgCons, dgNil, dEq, dNe, dLt, dIn, dII, dIC, dNeg, dAdd, dRep, dUpper, dJoin, dYes, truD, dAll, dAny, dInt1, dAbs, dChain, List.set, List.getElem?_cons_succ, List.getElem?_cons_zero]
  have fin : ∀ {r : PyData}, Gd 8 (m + 4) (wC m) r → post_l_any_code [.int m, .bool g] r := fun h => ⟨m, g, rfl, h⟩
  have one : if g = true then small [PyData.str "yes", .str "no"].length = true ∧ pre_l_one [.list [.str "yes", .str "no"]] ∧ ∀ r, post_l_one [.list [.str "yes", .str "no"]] r → small [r].length = true ∧ post_l_any_code [.int m, .bool g] (.tuple [r])
      else pre_l_any_term 5 [.int 2] ∧ ∀ r, post_l_any_term [.int 2] r → small [PyData.str "tell", r].length = true ∧ post_l_any_code [.int m, .bool g] (.tuple [.str "tell", r]) := by
    cases g with
    | true =>
      rw [if_pos rfl]
      refine ⟨rfl, ⟨by simp, rfl⟩, ?_⟩
      intro r hr
      obtain ⟨x, hx, rfl⟩ := List.mem_map.mp (show r ∈ [Str.ofString "yes", "no"].map PyData.str from hr)
      exact ⟨rfl, fin (gd_end hx m)⟩
    | false =>
      rw [if_neg (by decide)]
      exact any_term_ok (m := 2) ⟨by decide, by decide⟩ fun r hr => ⟨rfl, fin (gd_tell hr m)⟩
  refine ⟨rfl, ?_⟩
  rw [eqv_ii]
  split
  · rw [if_pos rfl]
    exact one
  · rename_i h0
    refine take_ok ⟨by decide, by decide⟩ fun i hi => ⟨rfl, ?_⟩
    rw [eqv_ii]
    split
    · exact one
    · have h0 : m ≠ 0 := fun z => h0 (by rw [z]; rfl)
      have em : (m : Int) - 1 = ((m - 1 : Nat) : Int) := by omega
      refine any_term_ok (m := 1) ⟨by decide, by decide⟩ fun t ht => any_term_ok (m := 1) ⟨by decide, by decide⟩ fun u hu => ?_
      rw [em]
      refine any_code_ok ⟨by omega, by omega⟩ fun y hy => any_code_ok ⟨by omega, by omega⟩ fun z hz => ⟨rfl, fin ?_⟩
      obtain ⟨j, rfl⟩ : ∃ j, m = j + 1 := ⟨m - 1, by omega⟩
      rw [Nat.add_sub_cancel] at hy hz
      have e1 : wT 1 = 621 := rfl
      refine (gd_if (by decide) (ht.mono (Nat.le_refl _) (by omega) (Nat.le_refl _)) (hu.mono (Nat.le_refl _) (by omega) (Nat.le_refl _)) hy hz).mono (Nat.le_refl _) (by omega) ?_
      rw [e1, wC]
      omega
end DL

namespace DL
open PySem PySem.Spec PyProof.Rows L2
open Evl (Ex ex_l ex_t)
theorem odd_ok : ∀ d ∈ odds, Gd 9 3 2100 d := by
  have h : ∀ d ∈ odds, (DL.fit d && (decide (d.depth ≤ 3) && decide (wt d ≤ 2100))) = true := by decide +kernel
  have k : ∀ d ∈ odds, okD 9 d := by
    intro d hd
    simp only [odds, List.mem_append, List.mem_cons, List.not_mem_nil, or_false] at hd
    rcases hd with ((hd | hd) | hd) | hd
    all_goals
      repeat' (first | (rcases hd with rfl | hd) | subst hd)
      all_goals first | (simp only [okD, okAll, okKv, asc]; done) | (simp only [okD, okAll, okKv, asc]; decide +kernel)
  intro d hd
  have h := h d hd
  simp only [Bool.and_eq_true, decide_eq_true_eq] at h
  exact ⟨k d hd, h.2.1, h.2.2⟩
theorem bent_tup {xs ys : List PyData} {L D W : Nat} (h : Gd L D W (.tuple xs)) (hm : ∀ d ∈ ys, d ∈ xs ∨ okD (L + 1) d ∧ d.depth ≤ D + 3) (hw : wtAll ys ≤ 2 * wtAll xs + 2500) : Gd (L + 1) (D + 4) (2 * W + 2500) (.tuple ys) := by
  have h1 := h.w
  rw [wt] at h1
  refine gd_tup (D := D + 3) ?_ (by omega)
  intro d hd
  rcases hm d hd with m | m
  · have p := h.part m
    exact ⟨p.1.ok.mono (Nat.le_succ _) _, by have := p.1.dep; omega⟩
  · exact m
theorem dat_l_bent : ∀ n, ∀ ds, pre_l_bent (n + 1) ds → d_l_bent n { nx := fun _ => post_l_bent ds .none, rt := post_l_bent ds } (startD 5 (none :: ds.map fun d => some (.dat d))) := by
  rintro n ds ⟨d, rfl, hok, hwt, hd⟩
  show d_l_bent n _ [none, some (.dat d), none, none, none]
  unfold d_l_bent
  simp only [dIsi_tup, dIsi_str]
  dsimp only [dSeq, dAsg, dAsgN, dAsgPop, dAppend, dExtend, dExtendT, dInsert, dPar, dPar3, dAug, dIfS, dFor, dRet, dRetO, dRetOwn, dRetOwnD, dRetN, dDrop, dNext, dBreak, dCont, dFreeze, dBorrow, dBorrowT, dTr, dTest, dAnd, dOr, dNot, dAndV, dOrV, dNotV, dIf, dOp, dUn, dCB, dCall, dnCall, dCallX, dCallV, dTup, dLst, dnLst, dnLc, dLc, dOfN, dnAdd, dnSl, dSl, dSlice, dNoPart, dPart, dIx, isI, isB, dVar, dC, dCons, dNil, dLen, dRepr, dListOf, dTupOf, dItems, dItemsT, itemsOf, dSigns, dRng1, dgName, dgTup, dgCons, dgNil, dEq, dNe, dLt, dIn, dII, dIC, dNeg, dAdd, dRep, dUpper, dJoin, dYes, truD, dAll, dAny, dInt1, dAbs, dChain, List.set, List.getElem?_cons_succ, List.getElem?_cons_zero]
  have od : pre_l_odd [] ∧ ∀ r, post_l_odd [] r → post_l_bent [d] r := by
    refine ⟨rfl, ?_⟩
    intro r hr
    refine ⟨d, rfl, fun L D W hL h => (odd_ok r hr).mono (by omega) (by omega) (by omega)⟩
  refine take_ok ⟨by decide, by decide⟩ fun w hw => ?_
  cases d with
  | tuple xs =>
    rw [if_pos (by simp [isTup])]
    dsimp only
    refine ⟨rfl, eqOk_unit _, ?_⟩
    rw [eqv_nilT]
    cases hx : xs.isEmpty with
    | true =>
      rw [if_neg (by decide), if_neg (by decide), if_neg (by simp [isStr]), if_neg (by decide)]
      exact od
    | false =>
      rw [if_pos (by decide)]
      have hne : xs ≠ [] := by rintro rfl; cases hx
      by_cases h1 : 1 < w
      case neg =>
        rw [decide_eq_false (show ¬ (1 : Int) < (w : Int) by omega), if_neg (by decide), if_neg (by simp [isStr]), if_neg (by decide)]
        exact od
      rw [decide_eq_true (show (1 : Int) < (w : Int) by omega), if_pos rfl]
      have hl := len_wt xs
      have hpos : 0 < xs.length := List.length_pos_iff.mpr hne
      simp only [wt] at hwt
      have hsm : xs.length ≤ 48000 := by omega
      refine take_ok ⟨by omega, log_small (by omega)⟩ fun k hk => ?_
      have hk : k < xs.length := by omega
      obtain ⟨x, hxk⟩ : ∃ x, xs[k]? = some x := ⟨_, List.getElem?_eq_getElem hk⟩
      have hmem : x ∈ xs := List.mem_of_getElem? hxk
      have e1 : xs.drop k = x :: xs.drop (k + 1) := by
        obtain ⟨h, rfl⟩ := List.getElem?_eq_some_iff.mp hxk
        exact List.drop_eq_getElem_cons h
      have w1 : wtAll xs = wtAll (xs.take k) + (wt x + 2 + wtAll (xs.drop (k + 1))) := by
        conv => lhs; rw [← List.take_append_drop k xs, e1]
        rw [wtAll_app, wtAll]
      have c1 : cutD xs none (some (k : Int)) = xs.take k := cutD_to xs k
      have c2 : cutD xs (some ((k : Int) + 1)) none = xs.drop (k + 1) := by
        rw [show (k : Int) + 1 = ((k + 1 : Nat) : Int) from rfl]
        exact cutD_from xs (k + 1)
      have c3 : cutD xs (some (k : Int)) none = xs.drop k := cutD_from xs k
      have at_ : atD (.tuple xs) (k : Int) = some x := at_lt hxk
      have l1 : (xs.take k).length ≤ 48000 := by rw [List.length_take]; omega
      have l2 : (xs.drop (k + 1)).length ≤ 48000 := by rw [List.length_drop]; omega
      have l3 : (xs.drop k).length ≤ 48000 := by rw [List.length_drop]; omega
      have mt : ∀ d ∈ xs.take k, d ∈ xs := fun d h => List.mem_of_mem_take h
      have md : ∀ j, ∀ d ∈ xs.drop j, d ∈ xs := fun j d h => List.mem_of_mem_drop h
      refine ⟨rfl, ?_⟩
      rw [eqv_ii]
      split
      · show post_l_bent [.tuple xs] (.list xs)
        refine ⟨_, rfl, fun L D W hL h => ⟨h.ok.mono (Nat.le_succ _) _, ?_, ?_⟩⟩
        · have := h.dep
          simp only [PyData.depth] at this ⊢
          omega
        · have := h.w
          simp only [wt] at this ⊢
          omega
      refine ⟨rfl, ?_⟩
      rw [eqv_ii]
      split
      · try dsimp only
        rw [c1, c2]
        refine ⟨small_le (by omega), _, rfl, fun L D W hL h => bent_tup h ?_ ?_⟩
        · intro d hd
          rcases List.mem_append.mp hd with z | z
          · exact .inl (mt d z)
          · exact .inl (md _ d z)
        · rw [wtAll_app]
          omega
      refine ⟨rfl, ?_⟩
      rw [eqv_ii]
      split
      · try dsimp only
        rw [c1, c3, at_]
        try dsimp only
        refine ⟨rfl, small_le (by simp only [List.length_cons, List.length_nil]; omega), small_le (by simp only [List.length_append, List.length_cons, List.length_nil]; omega), _, rfl, fun L D W hL h => bent_tup h ?_ ?_⟩
        · intro d hd
          rcases List.mem_append.mp hd with z | z
          · rcases List.mem_append.mp z with z | z
            · exact .inl (mt d z)
            · rw [List.mem_singleton.mp z]
              exact .inl hmem
          · exact .inl (md _ d z)
        · rw [wtAll_app, wtAll_app, e1]
          simp only [wtAll]
          omega
      refine ⟨rfl, ?_⟩
      rw [eqv_ii]
      split
      · refine ⟨rfl, ?_⟩
        intro o ho
        have go := odd_ok o ho
        try dsimp only
        rw [c1, c3]
        refine ⟨rfl, small_le (by simp only [List.length_cons, List.length_nil]; omega), small_le (by simp only [List.length_append, List.length_cons, List.length_nil]; omega), _, rfl, fun L D W hL h => bent_tup h ?_ ?_⟩
        · intro d hd
          rcases List.mem_append.mp hd with z | z
          · rcases List.mem_append.mp z with z | z
            · exact .inl (mt d z)
            · rw [List.mem_singleton.mp z]
              exact .inr ⟨go.ok.mono (by omega) _, by have := go.dep; omega⟩
          · exact .inl (md _ d z)
        · have := go.w
          rw [wtAll_app, wtAll_app, e1]
          simp only [wtAll]
          omega
      try dsimp only
      rw [at_]
      have hdx := depth_mem hmem
      refine ⟨⟨x, rfl, okAll_iff.mp (show okAll 90 xs from hok) x hmem, by have := wt_mem hmem; omega, by omega⟩, ?_⟩
      rintro y ⟨x', e, hy⟩
      cases (List.cons.inj e).1
      try dsimp only
      rw [c1, c2]
      refine ⟨rfl, small_le (by simp only [List.length_cons, List.length_nil]; omega), small_le (by simp only [List.length_append, List.length_cons, List.length_nil]; omega), _, rfl, fun L D W hL h => ?_⟩
      have hp := h.part hmem
      have gy := hy L (D - 1) (wt x) hL ⟨hp.1.ok, hp.1.dep, Nat.le_refl _⟩
      refine bent_tup h ?_ ?_
      · intro d hd
        rcases List.mem_append.mp hd with z | z
        · rcases List.mem_append.mp z with z | z
          · exact .inl (mt d z)
          · rw [List.mem_singleton.mp z]
            exact .inr ⟨gy.ok, by have := gy.dep; omega⟩
        · exact .inl (md _ d z)
      · have := gy.w
        rw [wtAll_app, wtAll_app]
        simp only [wtAll]
        omega
  | str x =>
    have hx : asc 90 x := hok
    rw [if_neg (by simp [isTup]), if_neg (by decide), if_pos (by simp [isStr])]
    dsimp only
    by_cases h1 : 1 < w
    case neg =>
      rw [decide_eq_false (show ¬ (1 : Int) < (w : Int) by omega), if_neg (by decide)]
      exact od
    rw [decide_eq_true (show (1 : Int) < (w : Int) by omega), if_pos rfl]
    have hl := hx.1
    have word : ∀ (y : Str), asc 8 y → post_l_bent [.str x] (.str y) := fun y hy => ⟨_, rfl, fun L D W hL h => ⟨hy.mono (by omega), by simp only [PyData.depth]; omega, by have := hy.1; simp only [wt]; omega⟩⟩
    have more : ∀ (y : Str), asc 1 y → post_l_bent [.str x] (.str (x ++ y)) := fun y hy => ⟨_, rfl, fun L D W hL h => by
      have hx := asc.app (show asc L x from h.ok) hy
      refine ⟨hx, by simp only [PyData.depth]; omega, ?_⟩
      have := h.w
      have := hy.1
      simp only [wt] at *
      rw [Str.length_append]
      omega⟩
    have less : ∀ (y : Str), (∀ L, asc L x → asc L y) → y.length ≤ x.length → post_l_bent [.str x] (.str y) := fun y hy hl => ⟨_, rfl, fun L D W hL h => by
      refine ⟨(hy L h.ok).mono (by omega), by simp only [PyData.depth]; omega, ?_⟩
      have := h.w
      simp only [wt] at *
      omega⟩
    have up : (Txt.upper x).length ≤ x.length := by
      rw [upper_ascii hx.2]
      exact Nat.le_of_eq (by simp [Str.length])
    refine ⟨small_le (by show x.length + 1 ≤ _; omega), small_le (by show x.length + 1 ≤ _; omega), small_le (by show x.length + 1 ≤ _; omega), small_le (by omega), small_le (by omega), rfl, rfl, rfl, ⟨by simp, rfl⟩, ?_⟩
    intro r hr
    have hr : r ∈ [PyData.str (x ++ Str.ofString "s"), PyData.str (x ++ Str.ofString "1"), PyData.str (x ++ Str.ofString "\n"), PyData.str (cutS x none (some (-1))), PyData.str (Txt.upper x)] ++
        ([Str.ofString "if", Str.ofString "tell", Str.ofString "yes", Str.ofString "alike", Str.ofString "unlike", Str.ofString "no", Str.ofString "go", Str.ofString "with"].map PyData.str) := hr
    rcases List.mem_append.mp hr with hr | hr
    · rcases List.mem_cons.mp hr with rfl | hr
      · exact more _ ⟨by decide, by decide⟩
      rcases List.mem_cons.mp hr with rfl | hr
      · exact more _ ⟨by decide, by decide⟩
      rcases List.mem_cons.mp hr with rfl | hr
      · exact more _ ⟨by decide, by decide⟩
      rcases List.mem_cons.mp hr with rfl | hr
      · exact less _ (fun L h => h.cut _ _) (cutS_length x _ _)
      rw [List.mem_singleton.mp hr]
      exact less _ (fun L h => h.up) up
    · obtain ⟨y, hy, rfl⟩ := List.mem_map.mp hr
      have hall : ∀ y ∈ [Str.ofString "if", Str.ofString "tell", Str.ofString "yes", Str.ofString "alike", Str.ofString "unlike", Str.ofString "no", Str.ofString "go", Str.ofString "with"], y.length ≤ 8 ∧ ∀ c ∈ y.cps.toList, c < 128 := by decide
      exact word y (hall y hy)
  | _ =>
    rw [if_neg (by simp [isTup]), if_neg (by decide), if_neg (by simp [isStr]), if_neg (by decide)]
    exact od
end DL

namespace DL
open PySem PySem.Spec PyProof.Rows L2
open Evl (Ex ex_l ex_t)
/-! codes and guards: ifs over terms, with ends as a check tells them -/
def isIf : PyData → Bool
  | .tuple [.str w, _, _, _, _] => w == "if"
  | _ => false
def forkB (e : PyData → Bool) : PyData → Bool
  | .tuple [.str w, b, c, y, n] => if w == "if" then (termB b && termB c) && (forkB e y && forkB e n) else e (.tuple [.str w, b, c, y, n])
  | d => e d
termination_by d => sizeOf d
theorem forkB_not {e : PyData → Bool} {d : PyData} (h : isIf d = false) : forkB e d = e d := by
  unfold forkB
  split
  · rename_i w b c y n
    have h : (w == "if") = false := h
    rw [h]
    rfl
  · rfl
theorem forkB_if (e : PyData → Bool) (b c y n : PyData) : forkB e (.tuple [.str "if", b, c, y, n]) = ((termB b && termB c) && (forkB e y && forkB e n)) := by
  rw [forkB]
  exact if_pos rfl
theorem isIf_5 (a b c y n : PyData) : isIf (.tuple [a, b, c, y, n]) = isStrOf "if" a := by
  cases a <;> rfl
theorem isIf_len {xs : List PyData} (h : xs.length ≠ 5) : isIf (.tuple xs) = false := by
  unfold isIf
  split
  · rename_i e
    cases e
    exact absurd rfl h
  · rfl
theorem isStrOf_eq {x : Str} {d : PyData} (h : isStrOf x d = true) : d = .str x := by
  cases d with
  | str y => rw [eq_of_beq (show (y == x) = true from h)]
  | _ => cases h
/-- a fork is an if -/
theorem forkD_if {d : PyData} (h : forkD d = true) : ∃ b c y n, d = .tuple [.str "if", b, c, y, n] ∧ termB b = true ∧ termB c = true := by
  unfold forkD at h
  split at h
  · rename_i w b c y n
    simp only [Bool.and_eq_true] at h
    rw [eq_of_beq h.1]
    exact ⟨b, c, y, n, rfl, h.2.1, h.2.2⟩
  · cases h
theorem forkB_noFork {e : PyData → Bool} {d : PyData} (he : e d = false) (h : forkD d = false) : forkB e d = false := by
  unfold forkB
  split
  · rename_i w b c y n
    have h : (w == "if" && (termB b && termB c)) = false := h
    cases hw : (w == "if")
    · exact he
    · rw [hw, Bool.true_and] at h
      rw [h]
      rfl
  · exact he
theorem forkB_end {e : PyData → Bool} {d : PyData} (hi : ∀ d, isIf d = true → e d = false) (he : e d = true) : forkB e d = true := by
  rw [forkB_not]
  · exact he
  · cases h : isIf d
    · rfl
    · rw [hi d h] at he
      cases he
def wordB : PyData → Bool
  | .tuple [.str w] => w == "yes" || w == "no"
  | _ => false
theorem word_if : ∀ d, isIf d = true → wordB d = false := by
  intro d h
  unfold isIf at h
  split at h
  · rfl
  · cases h
def factB : PyData → Bool
  | .tuple [.str w, b, c] => (w == "alike" || w == "unlike") && (termB b && termB c)
  | _ => false
def pre__is_guard_end := prD
def post__is_guard_end := poB wordB
def sp__is_guard_end (K : PySem.W.Frag) : Sp := spP K pre__is_guard_end post__is_guard_end
def n__is_guard_end := n_prD
def pre_is_forked := prD
def post_is_forked := poB (forkB wordB)
def sp_is_forked (K : PySem.W.Frag) (f : Addr) : Sp := spF K f pre_is_forked post_is_forked
def n_is_forked := n_prD
def pre_is_guard := prD
def post_is_guard := poB (forkB wordB)
def sp_is_guard (K : PySem.W.Frag) : Sp := spP K pre_is_guard post_is_guard
def n_is_guard := n_prD
def pre_is_fact := prD
def post_is_fact := poB factB
def sp_is_fact (K : PySem.W.Frag) : Sp := spP K pre_is_fact post_is_fact
def n_is_fact := n_prD
def pre_l_is_word := prR 50
def post_l_is_word := poB wordB
def sp_l_is_word (K : PySem.W.Frag) : Sp := spP K pre_l_is_word post_l_is_word
def n_l_is_word := n_prR 50
def pre_l_is_fact := prR 50
def post_l_is_fact := poB factB
def sp_l_is_fact (K : PySem.W.Frag) : Sp := spP K pre_l_is_fact post_l_is_fact
def n_l_is_fact := n_prR 50
def pre_l_is_ending (n : Nat) : List PyData → Prop := fun ds => prR n ds ∧ n ≤ 50
def post_l_is_ending := poB (forkB wordB)
def sp_l_is_ending (K : PySem.W.Frag) (f : Addr) (n : Nat) : Sp := spF K f (pre_l_is_ending n) post_l_is_ending
theorem n_l_is_ending (n : Nat) : ∀ ds, pre_l_is_ending n ds → ds.length = 1 := fun ds h => n_prR n ds h.1
theorem no_l_is_ending : ∀ ds, ¬ pre_l_is_ending 0 ds := fun ds h => no_prR ds h.1
def pre_l_drawn : List PyData → Prop := fun ds => ds = []
def post_l_drawn : List PyData → PyData → Prop := fun _ d => Gd 8 24 90000 d
def sp_l_drawn (K : PySem.W.Frag) : Sp := spG K pre_l_drawn post_l_drawn
theorem n_l_drawn : ∀ ds, pre_l_drawn ds → ds.length = 0 := by
  rintro ds rfl
  rfl
def t_is_forked (K : PySem.W.Frag) (hh__is_guard_end : Addr) : TS := (tSeq (tAsg (tLst (tCons (tVar 0) tNil)) (gName 2))
    (tSeq (tWhile (tTr K (tVar 2)) (tSeq (tAsg (tBM0 K "list" rPop (tVar 2)) (gName 3))
    (tIfS (tNot (tB (tCallX 1 hh__is_guard_end (sp__is_guard_end K) (tCons (tVar 3) tNil)))) (tSeq (tIfS (tNot (tB (tCall (sp_is_fork K) [] E0 (tCons (tVar 3) tNil)))) (tRet (tC (.bl false))) tNext)
    (tDrop (tBM K "list" (rExtendT K) (tVar 2) (tCons (tSl (rSlU K) (tVar 3) (tPart (tC (.int 3))) tNoPart) tNil)))) tNext)))
    (tRet (tC (.bl true)))))
def d_is_forked (hh__is_guard_end : Addr) : DS := (dSeq (dAsgN (dnLst (dCons (dVar 0) dNil)) 2)
    (dSeq (dWhile (dBorrowT 2 (dTr (dVar 2))) (dSeq (dAsgPop 2 3)
    (dIfS (dNot (dTest (dCallX 1 hh__is_guard_end pre__is_guard_end post__is_guard_end (dCons (dVar 3) dNil)))) (dSeq (dIfS (dNot (dTest (dCall pre_is_fork post_is_fork (dCons (dVar 3) dNil)))) (dRet (dC (.bool false))) dNext)
    (dExtendT 2 (dSl dSlice (dVar 3) (dPart (dC (.int 3))) dNoPart))) dNext)))
    (dRet (dC (.bool true)))))
theorem m_is_forked {K : PySem.W.Frag} {b : Bg} {hh__is_guard_end : Addr} : SimS K none b (t_is_forked K hh__is_guard_end) (d_is_forked hh__is_guard_end) := (sim_seq (sim_asgN (by decide) (sim_nLst (sim_cons sim_var sim_nil)))
    (sim_seq (sim_while (sim_borrowT (sim_tr sim_var)) (sim_seq (sim_asgPop (by decide) (by decide))
    (sim_if (sim_not (sim_tB (sim_callX (sim_cons sim_var sim_nil)))) (sim_seq (sim_if (sim_not (sim_tB (sim_callP (sim_cons sim_var sim_nil)))) (sim_ret sim_bl) sim_next)
    (sim_extendT (by decide) (sim_sl sims_slice sim_var (sim_part sim_int) sim_noPart))) sim_next)))
    (sim_ret sim_bl)))

def t_is_guard (K : PySem.W.Frag) (hh__is_guard_end : Addr) : TS := (tRet (tCall (sp_is_forked K hh__is_guard_end) [] E0 (tCons (tVar 0) (tCons (tC (.ref hh__is_guard_end)) tNil))))
def d_is_guard : DS := (dRet (dCall pre_is_forked post_is_forked (dCons (dVar 0) dNil)))
theorem m_is_guard {K : PySem.W.Frag} {b : Bg} {hh__is_guard_end : Addr} : SimS K none b (t_is_guard K hh__is_guard_end) (d_is_guard) := (sim_ret (sim_callF1 sim_var))

def t_is_fact (K : PySem.W.Frag) : TS := (tSeq (tIfS (tOr (tNot (tB (tCB (rIsi K) (tCons (tVar 0) (tCons (tC (.ty "tuple")) tNil))))) (tTest (tOp (rNeU K) (tCB (rLenU K) (tCons (tVar 0) tNil)) (tC (.int 3))))) (tRet (tC (.bl false))) tNext)
    (tRet (tAndV (tOp (rInU K false) (tOp (rIx K) (tVar 0) (tC (.int 0))) (tTup (tCons (tC (.str "alike")) (tCons (tC (.str "unlike")) tNil)))) (tAndV (tCall (sp_is_term K) [] E0 (tCons (tOp (rIx K) (tVar 0) (tC (.int 1))) tNil)) (tCall (sp_is_term K) [] E0 (tCons (tOp (rIx K) (tVar 0) (tC (.int 2))) tNil))))))
def d_is_fact : DS := (dSeq (dIfS (dOr (dNot (dTest (dIsi "tuple" (dVar 0)))) (dTest (dOp dNe (dCB dLen (dCons (dVar 0) dNil)) (dC (.int 3))))) (dRet (dC (.bool false))) dNext)
    (dRet (dAndV (dOp (dIn false) (dOp dIx (dVar 0) (dC (.int 0))) (dTup (dCons (dC (.str "alike")) (dCons (dC (.str "unlike")) dNil)))) (dAndV (dCall pre_is_term post_is_term (dCons (dOp dIx (dVar 0) (dC (.int 1))) dNil)) (dCall pre_is_term post_is_term (dCons (dOp dIx (dVar 0) (dC (.int 2))) dNil))))))
theorem m_is_fact {K : PySem.W.Frag} {b : Bg} : SimS K none b (t_is_fact K) (d_is_fact) := (sim_seq (sim_if (sim_or (sim_not (sim_tB (sim_isi sim_var))) (sim_test (sim_op simr_ne (sim_cb simc_len (sim_cons sim_var sim_nil)) sim_int))) (sim_ret sim_bl) sim_next)
    (sim_ret (sim_andV (sim_op simr_in (sim_op simr_ix sim_var sim_int) (sim_tup (sim_cons sim_str (sim_cons sim_str sim_nil)))) (sim_andV (sim_callP (sim_cons (sim_op simr_ix sim_var sim_int) sim_nil)) (sim_callP (sim_cons (sim_op simr_ix sim_var sim_int) sim_nil))))))

def t__is_guard_end (K : PySem.W.Frag) : TS := (tRet (tOp (rInU K false) (tVar 0) (tTup (tCons (tTup (tCons (tC (.str "yes")) tNil)) (tCons (tTup (tCons (tC (.str "no")) tNil)) tNil)))))
def d__is_guard_end : DS := (dRet (dOp (dIn false) (dVar 0) (dTup (dCons (dTup (dCons (dC (.str "yes")) dNil)) (dCons (dTup (dCons (dC (.str "no")) dNil)) dNil)))))
theorem m__is_guard_end {K : PySem.W.Frag} {b : Bg} : SimS K none b (t__is_guard_end K) (d__is_guard_end) := (sim_ret (sim_op simr_in sim_var (sim_tup (sim_cons (sim_tup (sim_cons sim_str sim_nil)) (sim_cons (sim_tup (sim_cons sim_str sim_nil)) sim_nil)))))

def t_l_is_ending (K : PySem.W.Frag) (n : Nat) (hh_l_is_word : Addr) : TS := (tSeq (tIfS (tOr (tNot (tB (tCB (rIsi K) (tCons (tVar 0) (tCons (tC (.ty "tuple")) tNil))))) (tOr (tTest (tOp (rNeU K) (tCB (rLenU K) (tCons (tVar 0) tNil)) (tC (.int 5)))) (tOr (tNot (tB (tCB (rIsi K) (tCons (tOp (rIx K) (tVar 0) (tC (.int 0))) (tCons (tC (.ty "str")) tNil))))) (tTest (tOp (rNeU K) (tOp (rIx K) (tVar 0) (tC (.int 0))) (tC (.str "if"))))))) (tRet (tCallX 1 hh_l_is_word (sp_l_is_word K) (tCons (tVar 0) tNil))) tNext)
    (tSeq (tIfS (tOr (tNot (tB (tCall (sp_l_is_term K 50) [] E0 (tCons (tOp (rIx K) (tVar 0) (tC (.int 1))) tNil)))) (tNot (tB (tCall (sp_l_is_term K 50) [] E0 (tCons (tOp (rIx K) (tVar 0) (tC (.int 2))) tNil))))) (tRet (tC (.bl false))) tNext)
    (tRet (tAndV (tCall (sp_l_is_ending K hh_l_is_word n) [] E0 (tCons (tOp (rIx K) (tVar 0) (tC (.int 3))) (tCons (tVar 1) tNil))) (tCall (sp_l_is_ending K hh_l_is_word n) [] E0 (tCons (tOp (rIx K) (tVar 0) (tC (.int 4))) (tCons (tVar 1) tNil)))))))
def d_l_is_ending (n : Nat) (hh_l_is_word : Addr) : DS := (dSeq (dIfS (dOr (dNot (dTest (dIsi "tuple" (dVar 0)))) (dOr (dTest (dOp dNe (dCB dLen (dCons (dVar 0) dNil)) (dC (.int 5)))) (dOr (dNot (dTest (dIsi "str" (dOp dIx (dVar 0) (dC (.int 0)))))) (dTest (dOp dNe (dOp dIx (dVar 0) (dC (.int 0))) (dC (.str "if"))))))) (dRet (dCallX 1 hh_l_is_word pre_l_is_word post_l_is_word (dCons (dVar 0) dNil))) dNext)
    (dSeq (dIfS (dOr (dNot (dTest (dCall (pre_l_is_term 50) post_l_is_term (dCons (dOp dIx (dVar 0) (dC (.int 1))) dNil)))) (dNot (dTest (dCall (pre_l_is_term 50) post_l_is_term (dCons (dOp dIx (dVar 0) (dC (.int 2))) dNil))))) (dRet (dC (.bool false))) dNext)
    (dRet (dAndV (dCallV 1 hh_l_is_word (pre_l_is_ending n) post_l_is_ending (dCons (dOp dIx (dVar 0) (dC (.int 3))) dNil)) (dCallV 1 hh_l_is_word (pre_l_is_ending n) post_l_is_ending (dCons (dOp dIx (dVar 0) (dC (.int 4))) dNil))))))
theorem m_l_is_ending {K : PySem.W.Frag} {b : Bg} {n : Nat} {hh_l_is_word : Addr} : SimS K none b (t_l_is_ending K n hh_l_is_word) (d_l_is_ending n hh_l_is_word) := (sim_seq (sim_if (sim_or (sim_not (sim_tB (sim_isi sim_var))) (sim_or (sim_test (sim_op simr_ne (sim_cb simc_len (sim_cons sim_var sim_nil)) sim_int)) (sim_or (sim_not (sim_tB (sim_isi (sim_op simr_ix sim_var sim_int)))) (sim_test (sim_op simr_ne (sim_op simr_ix sim_var sim_int) sim_str))))) (sim_ret (sim_callX (sim_cons sim_var sim_nil))) sim_next)
    (sim_seq (sim_if (sim_or (sim_not (sim_tB (sim_callP (sim_cons (sim_op simr_ix sim_var sim_int) sim_nil)))) (sim_not (sim_tB (sim_callP (sim_cons (sim_op simr_ix sim_var sim_int) sim_nil))))) (sim_ret sim_bl) sim_next)
    (sim_ret (sim_andV (sim_callV1 (sim_op simr_ix sim_var sim_int)) (sim_callV1 (sim_op simr_ix sim_var sim_int))))))

def t_l_is_word (K : PySem.W.Frag) : TS := (tRet (tAndV (tCB (rIsi K) (tCons (tVar 0) (tCons (tC (.ty "tuple")) tNil))) (tAndV (tOp (rEqU K) (tCB (rLenU K) (tCons (tVar 0) tNil)) (tC (.int 1))) (tAndV (tCB (rIsi K) (tCons (tOp (rIx K) (tVar 0) (tC (.int 0))) (tCons (tC (.ty "str")) tNil))) (tOp (rInU K false) (tOp (rIx K) (tVar 0) (tC (.int 0))) (tTup (tCons (tC (.str "yes")) (tCons (tC (.str "no")) tNil))))))))
def d_l_is_word : DS := (dRet (dAndV (dIsi "tuple" (dVar 0)) (dAndV (dOp dEq (dCB dLen (dCons (dVar 0) dNil)) (dC (.int 1))) (dAndV (dIsi "str" (dOp dIx (dVar 0) (dC (.int 0)))) (dOp (dIn false) (dOp dIx (dVar 0) (dC (.int 0))) (dTup (dCons (dC (.str "yes")) (dCons (dC (.str "no")) dNil))))))))
theorem m_l_is_word {K : PySem.W.Frag} {b : Bg} : SimS K none b (t_l_is_word K) (d_l_is_word) := (sim_ret (sim_andV (sim_isi sim_var) (sim_andV (sim_op simr_eq (sim_cb simc_len (sim_cons sim_var sim_nil)) sim_int) (sim_andV (sim_isi (sim_op simr_ix sim_var sim_int)) (sim_op simr_in (sim_op simr_ix sim_var sim_int) (sim_tup (sim_cons sim_str (sim_cons sim_str sim_nil))))))))

def t_l_is_fact (K : PySem.W.Frag) : TS := (tSeq (tIfS (tOr (tNot (tB (tCB (rIsi K) (tCons (tVar 0) (tCons (tC (.ty "tuple")) tNil))))) (tOr (tTest (tOp (rNeU K) (tCB (rLenU K) (tCons (tVar 0) tNil)) (tC (.int 3)))) (tNot (tB (tCB (rIsi K) (tCons (tOp (rIx K) (tVar 0) (tC (.int 0))) (tCons (tC (.ty "str")) tNil))))))) (tRet (tC (.bl false))) tNext)
    (tRet (tAndV (tOp (rInU K false) (tOp (rIx K) (tVar 0) (tC (.int 0))) (tTup (tCons (tC (.str "alike")) (tCons (tC (.str "unlike")) tNil)))) (tAndV (tCall (sp_l_is_term K 50) [] E0 (tCons (tOp (rIx K) (tVar 0) (tC (.int 1))) tNil)) (tCall (sp_l_is_term K 50) [] E0 (tCons (tOp (rIx K) (tVar 0) (tC (.int 2))) tNil))))))
def d_l_is_fact : DS := (dSeq (dIfS (dOr (dNot (dTest (dIsi "tuple" (dVar 0)))) (dOr (dTest (dOp dNe (dCB dLen (dCons (dVar 0) dNil)) (dC (.int 3)))) (dNot (dTest (dIsi "str" (dOp dIx (dVar 0) (dC (.int 0)))))))) (dRet (dC (.bool false))) dNext)
    (dRet (dAndV (dOp (dIn false) (dOp dIx (dVar 0) (dC (.int 0))) (dTup (dCons (dC (.str "alike")) (dCons (dC (.str "unlike")) dNil)))) (dAndV (dCall (pre_l_is_term 50) post_l_is_term (dCons (dOp dIx (dVar 0) (dC (.int 1))) dNil)) (dCall (pre_l_is_term 50) post_l_is_term (dCons (dOp dIx (dVar 0) (dC (.int 2))) dNil))))))
theorem m_l_is_fact {K : PySem.W.Frag} {b : Bg} : SimS K none b (t_l_is_fact K) (d_l_is_fact) := (sim_seq (sim_if (sim_or (sim_not (sim_tB (sim_isi sim_var))) (sim_or (sim_test (sim_op simr_ne (sim_cb simc_len (sim_cons sim_var sim_nil)) sim_int)) (sim_not (sim_tB (sim_isi (sim_op simr_ix sim_var sim_int)))))) (sim_ret sim_bl) sim_next)
    (sim_ret (sim_andV (sim_op simr_in (sim_op simr_ix sim_var sim_int) (sim_tup (sim_cons sim_str (sim_cons sim_str sim_nil)))) (sim_andV (sim_callP (sim_cons (sim_op simr_ix sim_var sim_int) sim_nil)) (sim_callP (sim_cons (sim_op simr_ix sim_var sim_int) sim_nil))))))

def t_l_drawn (K : PySem.W.Frag) : TS := (tSeq (tAsg (tCall (sp_l_take K) [] E0 (tCons (tVar 0) (tCons (tC (.int 6)) tNil))) (gName 1))
    (tSeq (tIfS (tTest (tOp (rLtU (fun i j => decide (i < j)) fun i j => ltS i j) (tVar 1) (tC (.int 2)))) (tRet (tTup (tCons (tCall (sp_l_one K) [] E0 (tCons (tVar 0) (tCons (tLst (tCons (tC (.str "alike")) (tCons (tC (.str "unlike")) tNil))) tNil))) (tCons (tCall (sp_l_any_term K 5) [] E0 (tCons (tVar 0) (tCons (tC (.int 3)) tNil))) (tCons (tCall (sp_l_any_term K 5) [] E0 (tCons (tVar 0) (tCons (tC (.int 2)) tNil))) tNil))))) tNext)
    (tSeq (tIfS (tTest (tOp (rEqU K) (tVar 1) (tC (.int 5)))) (tSeq (tPar3 2 3 4 (tCons (tCall (sp_l_any_term K 5) [] E0 (tCons (tVar 0) (tCons (tC (.int 1)) tNil))) (tCons (tCall (sp_l_any_term K 5) [] E0 (tCons (tVar 0) (tCons (tC (.int 1)) tNil))) (tCons (tTup (tCons (tC (.str "met")) tNil)) tNil))))
    (tSeq (tAsg (tLst (tCons (tCall (sp_l_any_code K 6) [] E0 (tCons (tVar 0) (tCons (tC (.int 2)) (tCons (tC (.bl false)) tNil)))) (tCons (tVar 2) (tCons (tVar 4) (tCons (tTup (tCons (tC (.str "if")) (tCons (tVar 2) (tCons (tVar 3) (tCons (tVar 4) (tCons (tVar 4) tNil)))))) tNil))))) (gName 5))
    (tSeq (tDrop (tBM K "list" rAppend (tVar 5) (tCons (tTup (tCons (tC (.str "if")) (tCons (tVar 2) (tCons (tVar 3) (tCons (tVar 4) (tCons (tTup (tCons (tC (.str "yes")) tNil)) tNil)))))) tNil)))
    (tRet (tCall (sp_l_one K) [] E0 (tCons (tVar 0) (tCons (tOp (rAddU K) (tVar 5) (tLst (tCons (tTup (tCons (tC (.str "if")) (tCons (tVar 2) (tCons (tVar 3) (tCons (tVar 2) (tCons (tTup (tCons (tC (.str "yes")) tNil)) tNil)))))) (tCons (tTup (tCons (tC (.str "if")) (tCons (tVar 2) (tCons (tVar 3) (tCons (tTup (tCons (tC (.str "no")) tNil)) (tCons (tVar 3) tNil)))))) tNil)))) tNil))))))) tNext)
    (tRet (tCall (sp_l_any_code K 6) [] E0 (tCons (tVar 0) (tCons (tC (.int 4)) (tCons (tC (.bl true)) tNil))))))))
def d_l_drawn : DS := (dSeq (dAsg (dCall pre_l_take post_l_take (dCons (dC (.int 6)) dNil)) (dgName 1))
    (dSeq (dIfS (dTest (dOp (dLt (fun i j => decide (i < j)) fun i j => ltS i j) (dVar 1) (dC (.int 2)))) (dRet (dTup (dCons (dCall pre_l_one post_l_one (dCons (dLst (dCons (dC (.str "alike")) (dCons (dC (.str "unlike")) dNil))) dNil)) (dCons (dCall (pre_l_any_term 5) post_l_any_term (dCons (dC (.int 3)) dNil)) (dCons (dCall (pre_l_any_term 5) post_l_any_term (dCons (dC (.int 2)) dNil)) dNil))))) dNext)
    (dSeq (dIfS (dTest (dOp dEq (dVar 1) (dC (.int 5)))) (dSeq (dPar3 2 3 4 (dCons (dCall (pre_l_any_term 5) post_l_any_term (dCons (dC (.int 1)) dNil)) (dCons (dCall (pre_l_any_term 5) post_l_any_term (dCons (dC (.int 1)) dNil)) (dCons (dTup (dCons (dC (.str "met")) dNil)) dNil))))
    (dSeq (dAsgN (dnLst (dCons (dCall (pre_l_any_code 6) post_l_any_code (dCons (dC (.int 2)) (dCons (dC (.bool false)) dNil))) (dCons (dVar 2) (dCons (dVar 4) (dCons (dTup (dCons (dC (.str "if")) (dCons (dVar 2) (dCons (dVar 3) (dCons (dVar 4) (dCons (dVar 4) dNil)))))) dNil))))) 5)
    (dSeq (dAppend 5 (dTup (dCons (dC (.str "if")) (dCons (dVar 2) (dCons (dVar 3) (dCons (dVar 4) (dCons (dTup (dCons (dC (.str "yes")) dNil)) dNil)))))))
    (dFreeze 5 (dRet (dCall pre_l_one post_l_one (dCons (dOp dAdd (dVar 5) (dLst (dCons (dTup (dCons (dC (.str "if")) (dCons (dVar 2) (dCons (dVar 3) (dCons (dVar 2) (dCons (dTup (dCons (dC (.str "yes")) dNil)) dNil)))))) (dCons (dTup (dCons (dC (.str "if")) (dCons (dVar 2) (dCons (dVar 3) (dCons (dTup (dCons (dC (.str "no")) dNil)) (dCons (dVar 3) dNil)))))) dNil)))) dNil))))))) dNext)
    (dRet (dCall (pre_l_any_code 6) post_l_any_code (dCons (dC (.int 4)) (dCons (dC (.bool true)) dNil)))))))
theorem m_l_drawn {K : PySem.W.Frag} {b : Bg} : SimS K (some 0) b (t_l_drawn K) (d_l_drawn) := (sim_seq (sim_asg (sim_callG rfl (sim_cons sim_int sim_nil)) (simg_name (by decide)))
    (sim_seq (sim_if (sim_test (sim_op simr_lt sim_var sim_int)) (sim_ret (sim_tup (sim_cons (sim_callG rfl (sim_cons (sim_lst (sim_cons sim_str (sim_cons sim_str sim_nil))) sim_nil)) (sim_cons (sim_callG rfl (sim_cons sim_int sim_nil)) (sim_cons (sim_callG rfl (sim_cons sim_int sim_nil)) sim_nil))))) sim_next)
    (sim_seq (sim_if (sim_test (sim_op simr_eq sim_var sim_int)) (sim_seq (sim_par3 (by decide) (by decide) (by decide) (sim_cons (sim_callG rfl (sim_cons sim_int sim_nil)) (sim_cons (sim_callG rfl (sim_cons sim_int sim_nil)) (sim_cons (sim_tup (sim_cons sim_str sim_nil)) sim_nil))))
    (sim_seq (sim_asgN (by decide) (sim_nLst (sim_cons (sim_callG rfl (sim_cons sim_int (sim_cons sim_bl sim_nil))) (sim_cons sim_var (sim_cons sim_var (sim_cons (sim_tup (sim_cons sim_str (sim_cons sim_var (sim_cons sim_var (sim_cons sim_var (sim_cons sim_var sim_nil)))))) sim_nil))))))
    (sim_seq (sim_append (by decide) (sim_tup (sim_cons sim_str (sim_cons sim_var (sim_cons sim_var (sim_cons sim_var (sim_cons (sim_tup (sim_cons sim_str sim_nil)) sim_nil)))))))
    (sim_freeze (sim_ret (sim_callG rfl (sim_cons (sim_op sim_add sim_var (sim_lst (sim_cons (sim_tup (sim_cons sim_str (sim_cons sim_var (sim_cons sim_var (sim_cons sim_var (sim_cons (sim_tup (sim_cons sim_str sim_nil)) sim_nil)))))) (sim_cons (sim_tup (sim_cons sim_str (sim_cons sim_var (sim_cons sim_var (sim_cons (sim_tup (sim_cons sim_str sim_nil)) (sim_cons sim_var sim_nil)))))) sim_nil)))) sim_nil))))))) sim_next)
    (sim_ret (sim_callG rfl (sim_cons sim_int (sim_cons sim_bl sim_nil)))))))

def t_law (K : PySem.W.Frag) (hh_l_is_word : Addr) : TS := (tSeq (tAsg (tLst tNil) (gName 2))
    (tSeq (tFor (iRng1 (tCons (tC (.int 14)) tNil)) (gName 3) (tSeq (tAsg (tCall (sp_l_drawn K) [] E0 (tCons (tVar 1) tNil)) (gName 4))
    (tSeq (tFor (iRng1 (tCons (tCall (sp_l_one K) [] E0 (tCons (tVar 1) (tCons (tLst (tCons (tC (.int 0)) (tCons (tC (.int 0)) (tCons (tC (.int 1)) (tCons (tC (.int 1)) (tCons (tC (.int 2)) tNil)))))) tNil))) tNil)) (gName 5) (tAsg (tCall (sp_l_bent K 50) [] E0 (tCons (tVar 1) (tCons (tVar 4) tNil))) (gName 4)))
    (tDrop (tBM K "list" rAppend (tVar 2) (tCons (tVar 4) tNil))))))
    (tSeq (tAsg (tCB (rRepr K) (tCons (tVar 2) tNil)) (gName 6))
    (tSeq (tFor (iList K (tOp (rAddU K) (tVar 2) (tSl (rSlU K) (tVar 2) tNoPart (tPart (tC (.int 3)))))) (gName 4) (tSeq (tAsg (tLst (tCons (tCall (sp_is_guard K) [] E0 (tCons (tVar 4) tNil)) (tCons (tCall (sp_is_fact K) [] E0 (tCons (tVar 4) tNil)) tNil))) (gName 7))
    (tIfS (tNot (tB (tCall (sp_l_alike K) [] E0 (tCons (tVar 7) (tCons (tLst (tCons (tCall (sp_l_is_ending K hh_l_is_word 50) [] E0 (tCons (tVar 4) (tCons (tC (.ref hh_l_is_word)) tNil))) (tCons (tCall (sp_l_is_fact K) [] E0 (tCons (tVar 4) tNil)) tNil))) tNil))))) (tRet (tC (.bl false))) tNext)))
    (tSeq (tAsg (tTup (tCons (tTup (tCons (tC (.str "a")) tNil)) (tCons (tTup (tCons (tC (.str "b")) tNil)) (tCons (tTup (tCons (tC (.str "yes")) tNil)) (tCons (tTup (tCons (tC (.str "yes")) (tCons (tC (.str "no")) tNil))) tNil))))) (gTup K 4 (gCons (gName 8) (gCons (gName 9) (gCons (gName 10) (gCons (gName 11) gNil))))))
    (tSeq (tFor (iRng1 (tCons (tC (.int 26)) tNil)) (gName 12) (tPar 10 11 (tCons (tTup (tCons (tC (.str "if")) (tCons (tVar 8) (tCons (tVar 9) (tCons (tTup (tCons (tC (.str "no")) tNil)) (tCons (tVar 10) tNil)))))) (tCons (tTup (tCons (tC (.str "if")) (tCons (tVar 8) (tCons (tVar 9) (tCons (tTup (tCons (tC (.str "no")) tNil)) (tCons (tVar 11) tNil)))))) tNil))))
    (tSeq (tIfS (tNot (tB (tCall (sp_l_alike K) [] E0 (tCons (tLst (tCons (tCall (sp_is_guard K) [] E0 (tCons (tVar 10) tNil)) (tCons (tCall (sp_is_guard K) [] E0 (tCons (tVar 11) tNil)) tNil))) (tCons (tLst (tCons (tC (.bl true)) (tCons (tC (.bl false)) tNil))) tNil))))) (tRet (tC (.bl false))) tNext)
    (tRet (tOp (rEqU K) (tCB (rRepr K) (tCons (tVar 2) tNil)) (tVar 6))))))))))
def d_law : DS := (dSeq (dAsgN (dnLst dNil) 2)
    (dSeq (dFor (dRng1 (dCons (dC (.int 14)) dNil)) (dgName 3) (dSeq (dAsg (dCall pre_l_drawn post_l_drawn dNil) (dgName 4))
    (dSeq (dFor (dRng1 (dCons (dCall pre_l_one post_l_one (dCons (dLst (dCons (dC (.int 0)) (dCons (dC (.int 0)) (dCons (dC (.int 1)) (dCons (dC (.int 1)) (dCons (dC (.int 2)) dNil)))))) dNil)) dNil)) (dgName 5) (dAsg (dCall (pre_l_bent 50) post_l_bent (dCons (dVar 4) dNil)) (dgName 4)))
    (dAppend 2 (dVar 4)))))
    (dFreeze 2 (dSeq (dAsg (dCB dRepr (dCons (dVar 2) dNil)) (dgName 6))
    (dSeq (dFor (dItems (dOp dAdd (dVar 2) (dSl dSlice (dVar 2) dNoPart (dPart (dC (.int 3)))))) (dgName 4) (dSeq (dAsg (dLst (dCons (dCall pre_is_guard post_is_guard (dCons (dVar 4) dNil)) (dCons (dCall pre_is_fact post_is_fact (dCons (dVar 4) dNil)) dNil))) (dgName 7))
    (dIfS (dNot (dTest (dCall pre_l_alike post_l_alike (dCons (dVar 7) (dCons (dLst (dCons (dCall (pre_l_is_ending 50) post_l_is_ending (dCons (dVar 4) dNil)) (dCons (dCall pre_l_is_fact post_l_is_fact (dCons (dVar 4) dNil)) dNil))) dNil))))) (dRet (dC (.bool false))) dNext)))
    (dSeq (dAsg (dTup (dCons (dTup (dCons (dC (.str "a")) dNil)) (dCons (dTup (dCons (dC (.str "b")) dNil)) (dCons (dTup (dCons (dC (.str "yes")) dNil)) (dCons (dTup (dCons (dC (.str "yes")) (dCons (dC (.str "no")) dNil))) dNil))))) (dgTup 4 (dgCons (dgName 8) (dgCons (dgName 9) (dgCons (dgName 10) (dgCons (dgName 11) dgNil))))))
    (dSeq (dFor (dRng1 (dCons (dC (.int 26)) dNil)) (dgName 12) (dPar 10 11 (dCons (dTup (dCons (dC (.str "if")) (dCons (dVar 8) (dCons (dVar 9) (dCons (dTup (dCons (dC (.str "no")) dNil)) (dCons (dVar 10) dNil)))))) (dCons (dTup (dCons (dC (.str "if")) (dCons (dVar 8) (dCons (dVar 9) (dCons (dTup (dCons (dC (.str "no")) dNil)) (dCons (dVar 11) dNil)))))) dNil))))
    (dSeq (dIfS (dNot (dTest (dCall pre_l_alike post_l_alike (dCons (dLst (dCons (dCall pre_is_guard post_is_guard (dCons (dVar 10) dNil)) (dCons (dCall pre_is_guard post_is_guard (dCons (dVar 11) dNil)) dNil))) (dCons (dLst (dCons (dC (.bool true)) (dCons (dC (.bool false)) dNil))) dNil))))) (dRet (dC (.bool false))) dNext)
    (dRet (dOp dEq (dCB dRepr (dCons (dVar 2) dNil)) (dVar 6)))))))))))
theorem m_law {K : PySem.W.Frag} {b : Bg} {hh_l_is_word : Addr} : SimS K (some 1) b (t_law K hh_l_is_word) (d_law) := (sim_seq (sim_asgN (by decide) (sim_nLst sim_nil))
    (sim_seq (sim_for (sim_rng1 (sim_cons sim_int sim_nil)) (simg_name (by decide)) (sim_seq (sim_asg (sim_callG rfl sim_nil) (simg_name (by decide)))
    (sim_seq (sim_for (sim_rng1 (sim_cons (sim_callG rfl (sim_cons (sim_lst (sim_cons sim_int (sim_cons sim_int (sim_cons sim_int (sim_cons sim_int (sim_cons sim_int sim_nil)))))) sim_nil)) sim_nil)) (simg_name (by decide)) (sim_asg (sim_callG rfl (sim_cons sim_var sim_nil)) (simg_name (by decide))))
    (sim_append (by decide) sim_var))))
    (sim_freeze (sim_seq (sim_asg (sim_cb simc_repr (sim_cons sim_var sim_nil)) (simg_name (by decide)))
    (sim_seq (sim_for (sim_iList (sim_op sim_add sim_var (sim_sl sims_slice sim_var sim_noPart (sim_part sim_int)))) (simg_name (by decide)) (sim_seq (sim_asg (sim_lst (sim_cons (sim_callP (sim_cons sim_var sim_nil)) (sim_cons (sim_callP (sim_cons sim_var sim_nil)) sim_nil))) (simg_name (by decide)))
    (sim_if (sim_not (sim_tB (sim_callP (sim_cons sim_var (sim_cons (sim_lst (sim_cons (sim_callF1 sim_var) (sim_cons (sim_callP (sim_cons sim_var sim_nil)) sim_nil))) sim_nil))))) (sim_ret sim_bl) sim_next)))
    (sim_seq (sim_asg (sim_tup (sim_cons (sim_tup (sim_cons sim_str sim_nil)) (sim_cons (sim_tup (sim_cons sim_str sim_nil)) (sim_cons (sim_tup (sim_cons sim_str sim_nil)) (sim_cons (sim_tup (sim_cons sim_str (sim_cons sim_str sim_nil))) sim_nil))))) (simg_tup (simg_cons (simg_name (by decide)) (simg_cons (simg_name (by decide)) (simg_cons (simg_name (by decide)) (simg_cons (simg_name (by decide)) simg_nil))))))
    (sim_seq (sim_for (sim_rng1 (sim_cons sim_int sim_nil)) (simg_name (by decide)) (sim_par (by decide) (by decide) (sim_cons (sim_tup (sim_cons sim_str (sim_cons sim_var (sim_cons sim_var (sim_cons (sim_tup (sim_cons sim_str sim_nil)) (sim_cons sim_var sim_nil)))))) (sim_cons (sim_tup (sim_cons sim_str (sim_cons sim_var (sim_cons sim_var (sim_cons (sim_tup (sim_cons sim_str sim_nil)) (sim_cons sim_var sim_nil)))))) sim_nil))))
    (sim_seq (sim_if (sim_not (sim_tB (sim_callP (sim_cons (sim_lst (sim_cons (sim_callP (sim_cons sim_var sim_nil)) (sim_cons (sim_callP (sim_cons sim_var sim_nil)) sim_nil))) (sim_cons (sim_lst (sim_cons sim_bl (sim_cons sim_bl sim_nil))) sim_nil))))) (sim_ret sim_bl) sim_next)
    (sim_ret (sim_op simr_eq (sim_cb simc_repr (sim_cons sim_var sim_nil)) sim_var))))))))))

end DL

namespace DL
open PySem PySem.Spec PyProof.Rows L2
open Evl (Ex ex_l ex_t)
theorem inOk_txt {d : PyData} {ds : List PyData} (h : txtAll ds = true) (hd : PyData.depthAll ds ≤ 60) : inOk d ds = true := by
  unfold inOk inMore
  rw [h, decide_eq_true hd]
  simp
theorem wordB_len {xs : List PyData} (h : xs.length ≠ 1) : wordB (.tuple xs) = false := by
  unfold wordB
  split
  · rename_i e
    cases e
    exact absurd rfl h
  · rfl
theorem wordB_1 (a : PyData) : wordB (.tuple [a]) = (isStrOf "yes" a || isStrOf "no" a) := by
  cases a <;> rfl
theorem eqvS (x : Str) (d : PyData) : PyData.eqv (.str x) d = isStrOf x d := by
  cases d <;> simp [PyData.eqv, isStrOf, Bool.beq_comm]
theorem eqv_1 (x : Str) (d : PyData) : PyData.eqv (.tuple [.str x]) d = (match d with | .tuple [a] => isStrOf x a | _ => false) := by
  cases d with
  | tuple ys =>
    match ys with
    | [] => exact SeqAt.eqvAll_other_length (by simp)
    | [a] =>
      show PyData.eqvAll [PyData.str x] [a] = isStrOf x a
      rw [PyData.eqvAll, eqvS, PyData.eqvAll, Bool.and_true]
    | _ :: _ :: _ => exact SeqAt.eqvAll_other_length (by simp)
  | _ => rfl
theorem dat__is_guard_end : ∀ ds, pre__is_guard_end ds → d__is_guard_end { nx := fun _ => post__is_guard_end ds .none, rt := post__is_guard_end ds } (startD 1 (ds.map fun d => some (.dat d))) := by
  intro ds h
  unfold pre__is_guard_end prD at h
  split at h
  case h_2 => exact h.elim
  rename_i d
  show d__is_guard_end _ [some (.dat d)]
  unfold d__is_guard_end
  dsimp only [dSeq, dAsg, dAsgN, dAsgPop, dAppend, dExtend, dExtendT, dInsert, dPar, dPar3, dAug, dIfS, dFor, dRet, dRetO, dRetOwn, dRetOwnD, dRetN, dDrop, dNext, dBreak, dCont, dFreeze, dBorrow, dBorrowT, dTr, dTest, dAnd, dOr, dNot, dAndV, dOrV, dNotV, dIf, dOp, dUn, dCB, dCall, dnCall, dCallX, dCallV, dTup, dLst, dnLst, dnLc, dLc, dOfN, dnAdd, dnSl, dSl, dSlice, dNoPart, dPart, dIx, isI, isB, dVar, dC, dCons, dNil, dLen, dRepr, dListOf, dTupOf, dItems, dItemsT, itemsOf, dSigns, dRng1, dgName, dgTup, dgCons, dgNil, dEq, dNe, dLt, dIn, dII, dIC, dNeg, dAdd, dRep, dUpper, dJoin, dYes, truD, dAll, dAny, dInt1, dAbs, dChain, List.set, List.getElem?_cons_succ, List.getElem?_cons_zero]
  refine ⟨rfl, rfl, rfl, inOk_txt rfl (by decide), ?_⟩
  show PyData.bool _ = .bool (wordB d)
  rw [if_neg (by decide), List.any_cons, List.any_cons, List.any_nil, eqv_1, eqv_1, Bool.or_false]
  congr 1
  cases d with
  | tuple ys =>
    match ys with
    | [] => rfl
    | [a] => exact (wordB_1 a).symm
    | _ :: _ :: _ => rw [wordB_len (by simp)]; rfl
  | _ => rfl
theorem len3 {xs : List PyData} (h : xs.length = 3) : ∃ a b c, xs = [a, b, c] := by
  match xs, h with
  | [a, b, c], _ => exact ⟨a, b, c, rfl⟩
theorem factB_len {xs : List PyData} (h : xs.length ≠ 3) : factB (.tuple xs) = false := by
  unfold factB
  split
  · rename_i e
    cases e
    exact absurd rfl h
  · rfl
theorem factB_3 (a b c : PyData) : factB (.tuple [a, b, c]) = ((isStrOf "alike" a || isStrOf "unlike" a) && (termB b && termB c)) := by
  cases a <;> rfl
theorem any_2 (x y : Str) (d : PyData) : ([PyData.str x, .str y].any fun e => PyData.eqv e d) = (isStrOf x d || isStrOf y d) := by
  rw [List.any_cons, List.any_cons, List.any_nil, eqvS, eqvS, Bool.or_false]
theorem dat_is_fact : ∀ ds, pre_is_fact ds → d_is_fact { nx := fun _ => post_is_fact ds .none, rt := post_is_fact ds } (startD 1 (ds.map fun d => some (.dat d))) := by
  intro ds h
  unfold pre_is_fact prD at h
  split at h
  case h_2 => exact h.elim
  rename_i d
  obtain ⟨ok, hw⟩ := h
  show d_is_fact _ [some (.dat d)]
  unfold d_is_fact
  simp only [dIsi_tup]
  dsimp only [dSeq, dAsg, dAsgN, dAsgPop, dAppend, dExtend, dExtendT, dInsert, dPar, dPar3, dAug, dIfS, dFor, dRet, dRetO, dRetOwn, dRetOwnD, dRetN, dDrop, dNext, dBreak, dCont, dFreeze, dBorrow, dBorrowT, dTr, dTest, dAnd, dOr, dNot, dAndV, dOrV, dNotV, dIf, dOp, dUn, dCB, dCall, dnCall, dCallX, dCallV, dTup, dLst, dnLst, dnLc, dLc, dOfN, dnAdd, dnSl, dSl, dSlice, dNoPart, dPart, dIx, isI, isB, dVar, dC, dCons, dNil, dLen, dRepr, dListOf, dTupOf, dItems, dItemsT, itemsOf, dSigns, dRng1, dgName, dgTup, dgCons, dgNil, dEq, dNe, dLt, dIn, dII, dIC, dNeg, dAdd, dRep, dUpper, dJoin, dYes, truD, dAll, dAny, dInt1, dAbs, dChain, List.set, List.getElem?_cons_succ, List.getElem?_cons_zero]
  have wrong : factB d = false → post_is_fact [d] (.bool false) := fun h => by
    show PyData.bool false = .bool (factB d)
    rw [h]
  cases d with
  | tuple xs =>
    rw [if_neg (by simp [isTup])]
    dsimp only
    refine ⟨rfl, ?_⟩
    rw [eqv_ii]
    by_cases h3 : xs.length = 3
    · obtain ⟨a, b, c, rfl⟩ := len3 h3
      rw [if_neg (by simp), atI0]
      dsimp only
      obtain ⟨oa, ob, oc, _⟩ := (show okAll 100 _ from ok)
      simp only [wt, wtAll] at hw
      have fin : ∀ v, v = ((isStrOf "alike" a || isStrOf "unlike" a) && (termB b && termB c)) → post_is_fact [.tuple [a, b, c]] (.bool v) := by
        rintro v rfl
        show PyData.bool _ = .bool (factB _)
        rw [factB_3]
      refine ⟨rfl, inOk_txt rfl (by decide), ?_⟩
      show if ([PyData.str "alike", .str "unlike"].any fun e => PyData.eqv e a) = true then _ else _
      rw [any_2]
      cases ha : (isStrOf "alike" a || isStrOf "unlike" a) with
      | false =>
        rw [if_neg (by decide)]
        exact fin _ (by rw [ha]; rfl)
      | true =>
        rw [if_pos rfl, show atD (.tuple [a, b, c]) 1 = some b from at_lt (k := 1) rfl]
        refine ⟨⟨ob, by omega⟩, ?_⟩
        rintro r rfl
        dsimp only
        cases hb : termB b with
        | false =>
          rw [if_neg (by decide)]
          exact fin _ (by rw [ha, hb]; rfl)
        | true =>
          rw [if_pos rfl, show atD (.tuple [a, b, c]) 2 = some c from at_lt (k := 2) rfl]
          refine ⟨⟨oc, by omega⟩, ?_⟩
          rintro r rfl
          exact fin _ (by rw [ha, hb]; rfl)
    · rw [if_pos (by simp; omega)]
      exact wrong (factB_len h3)
  | _ =>
    rw [if_pos rfl]
    exact wrong rfl
theorem dat_l_is_word : ∀ ds, pre_l_is_word ds → d_l_is_word { nx := fun _ => post_l_is_word ds .none, rt := post_l_is_word ds } (startD 1 (ds.map fun d => some (.dat d))) := by
  intro ds h
  unfold pre_l_is_word prR at h
  split at h
  case h_2 => exact h.elim
  rename_i d
  show d_l_is_word _ [some (.dat d)]
  unfold d_l_is_word
  simp only [dIsi_tup, dIsi_str]
  dsimp only [dSeq, dAsg, dAsgN, dAsgPop, dAppend, dExtend, dExtendT, dInsert, dPar, dPar3, dAug, dIfS, dFor, dRet, dRetO, dRetOwn, dRetOwnD, dRetN, dDrop, dNext, dBreak, dCont, dFreeze, dBorrow, dBorrowT, dTr, dTest, dAnd, dOr, dNot, dAndV, dOrV, dNotV, dIf, dOp, dUn, dCB, dCall, dnCall, dCallX, dCallV, dTup, dLst, dnLst, dnLc, dLc, dOfN, dnAdd, dnSl, dSl, dSlice, dNoPart, dPart, dIx, isI, isB, dVar, dC, dCons, dNil, dLen, dRepr, dListOf, dTupOf, dItems, dItemsT, itemsOf, dSigns, dRng1, dgName, dgTup, dgCons, dgNil, dEq, dNe, dLt, dIn, dII, dIC, dNeg, dAdd, dRep, dUpper, dJoin, dYes, truD, dAll, dAny, dInt1, dAbs, dChain, List.set, List.getElem?_cons_succ, List.getElem?_cons_zero]
  have wrong : wordB d = false → post_l_is_word [d] (.bool false) := fun h => by
    show PyData.bool false = .bool (wordB d)
    rw [h]
  cases d with
  | tuple xs =>
    rw [if_pos (by simp [isTup])]
    dsimp only
    refine ⟨rfl, ?_⟩
    rw [eqv_ii]
    by_cases h1 : xs.length = 1
    · obtain ⟨a, rfl⟩ := List.length_eq_one_iff.mp h1
      rw [if_pos (by simp), atI0]
      dsimp only
      cases ha : isStr a with
      | false =>
        rw [if_neg (by decide)]
        refine wrong ?_
        cases a <;> first | rfl | cases ha
      | true =>
        rw [if_pos rfl]
        refine ⟨rfl, inOk_txt rfl (by decide), ?_⟩
        rw [if_neg (by decide), any_2]
        show PyData.bool _ = .bool (wordB _)
        rw [wordB_1]
    · rw [if_neg (by simp; omega)]
      exact wrong (wordB_len h1)
  | _ =>
    rw [if_neg (by simp [isTup])]
    exact wrong rfl
theorem dat_l_is_fact : ∀ ds, pre_l_is_fact ds → d_l_is_fact { nx := fun _ => post_l_is_fact ds .none, rt := post_l_is_fact ds } (startD 1 (ds.map fun d => some (.dat d))) := by
  intro ds h
  unfold pre_l_is_fact prR at h
  split at h
  case h_2 => exact h.elim
  rename_i d
  obtain ⟨⟨ok, hw⟩, hd⟩ := h
  show d_l_is_fact _ [some (.dat d)]
  unfold d_l_is_fact
  simp only [dIsi_tup, dIsi_str]
  dsimp only [dSeq, dAsg, dAsgN, dAsgPop, dAppend, dExtend, dExtendT, dInsert, dPar, dPar3, dAug, dIfS, dFor, dRet, dRetO, dRetOwn, dRetOwnD, dRetN, dDrop, dNext, dBreak, dCont, dFreeze, dBorrow, dBorrowT, dTr, dTest, dAnd, dOr, dNot, dAndV, dOrV, dNotV, dIf, dOp, dUn, dCB, dCall, dnCall, dCallX, dCallV, dTup, dLst, dnLst, dnLc, dLc, dOfN, dnAdd, dnSl, dSl, dSlice, dNoPart, dPart, dIx, isI, isB, dVar, dC, dCons, dNil, dLen, dRepr, dListOf, dTupOf, dItems, dItemsT, itemsOf, dSigns, dRng1, dgName, dgTup, dgCons, dgNil, dEq, dNe, dLt, dIn, dII, dIC, dNeg, dAdd, dRep, dUpper, dJoin, dYes, truD, dAll, dAny, dInt1, dAbs, dChain, List.set, List.getElem?_cons_succ, List.getElem?_cons_zero]
  have wrong : factB d = false → post_l_is_fact [d] (.bool false) := fun h => by
    show PyData.bool false = .bool (factB d)
    rw [h]
  cases d with
  | tuple xs =>
    rw [if_neg (by simp [isTup])]
    dsimp only
    refine ⟨rfl, ?_⟩
    rw [eqv_ii]
    by_cases h3 : xs.length = 3
    · obtain ⟨a, b, c, rfl⟩ := len3 h3
      rw [if_neg (by simp), atI0]
      dsimp only
      obtain ⟨oa, ob, oc, _⟩ := (show okAll 100 _ from ok)
      simp only [wt, wtAll] at hw
      simp only [PyData.depth, PyData.depthAll] at hd
      have fin : ∀ v, v = ((isStrOf "alike" a || isStrOf "unlike" a) && (termB b && termB c)) → post_l_is_fact [.tuple [a, b, c]] (.bool v) := by
        rintro v rfl
        show PyData.bool _ = .bool (factB _)
        rw [factB_3]
      cases hs : isStr a with
      | false =>
        rw [if_pos (by decide)]
        refine wrong ?_
        cases a <;> first | rfl | cases hs
      | true =>
        rw [if_neg (by decide)]
        refine ⟨rfl, inOk_txt rfl (by decide), ?_⟩
        show if ([PyData.str "alike", .str "unlike"].any fun e => PyData.eqv e a) = true then _ else _
        rw [any_2]
        cases ha : (isStrOf "alike" a || isStrOf "unlike" a) with
        | false =>
          rw [if_neg (by decide)]
          exact fin _ (by rw [ha]; rfl)
        | true =>
          rw [if_pos rfl, show atD (.tuple [a, b, c]) 1 = some b from at_lt (k := 1) rfl]
          refine ⟨⟨⟨ob, by omega⟩, by omega⟩, ?_⟩
          rintro r rfl
          dsimp only
          cases hb : termB b with
          | false =>
            rw [if_neg (by decide)]
            exact fin _ (by rw [ha, hb]; rfl)
          | true =>
            rw [if_pos rfl, show atD (.tuple [a, b, c]) 2 = some c from at_lt (k := 2) rfl]
            refine ⟨⟨⟨oc, by omega⟩, by omega⟩, ?_⟩
            rintro r rfl
            exact fin _ (by rw [ha, hb]; rfl)
    · rw [if_pos (by simp; omega)]
      exact wrong (factB_len h3)
  | _ =>
    rw [if_pos rfl]
    exact wrong rfl
theorem dat_is_guard : ∀ ds, pre_is_guard ds → d_is_guard { nx := fun _ => post_is_guard ds .none, rt := post_is_guard ds } (startD 1 (ds.map fun d => some (.dat d))) := by
  intro ds h
  have h0 := h
  unfold pre_is_guard prD at h
  split at h
  case h_2 => exact h.elim
  rename_i d
  show d_is_guard _ [some (.dat d)]
  unfold d_is_guard
  dsimp only [dSeq, dAsg, dAsgN, dAsgPop, dAppend, dExtend, dExtendT, dInsert, dPar, dPar3, dAug, dIfS, dFor, dRet, dRetO, dRetOwn, dRetOwnD, dRetN, dDrop, dNext, dBreak, dCont, dFreeze, dBorrow, dBorrowT, dTr, dTest, dAnd, dOr, dNot, dAndV, dOrV, dNotV, dIf, dOp, dUn, dCB, dCall, dnCall, dCallX, dCallV, dTup, dLst, dnLst, dnLc, dLc, dOfN, dnAdd, dnSl, dSl, dSlice, dNoPart, dPart, dIx, isI, isB, dVar, dC, dCons, dNil, dLen, dRepr, dListOf, dTupOf, dItems, dItemsT, itemsOf, dSigns, dRng1, dgName, dgTup, dgCons, dgNil, dEq, dNe, dLt, dIn, dII, dIC, dNeg, dAdd, dRep, dUpper, dJoin, dYes, truD, dAll, dAny, dInt1, dAbs, dChain, List.set, List.getElem?_cons_succ, List.getElem?_cons_zero]
  exact ⟨h0, fun r hr => hr⟩
theorem dat_is_forked (hh : Addr) : ∀ ds, pre_is_forked ds → d_is_forked hh { nx := fun _ => post_is_forked ds .none, rt := post_is_forked ds } (startD 4 ((ds.map fun d => some (.dat d)) ++ [some (.fn hh)])) := by
  intro ds h
  unfold pre_is_forked prD at h
  split at h
  case h_2 => exact h.elim
  rename_i d
  obtain ⟨ok, hw⟩ := h
  show d_is_forked hh _ [some (.dat d), some (.fn hh), none, none]
  unfold d_is_forked
  dsimp only [dSeq, dAsg, dAsgN, dAsgPop, dAppend, dExtend, dExtendT, dInsert, dPar, dPar3, dAug, dIfS, dFor, dRet, dRetO, dRetOwn, dRetOwnD, dRetN, dDrop, dNext, dBreak, dCont, dFreeze, dBorrow, dBorrowT, dTr, dTest, dAnd, dOr, dNot, dAndV, dOrV, dNotV, dIf, dOp, dUn, dCB, dCall, dnCall, dCallX, dCallV, dTup, dLst, dnLst, dnLc, dLc, dOfN, dnAdd, dnSl, dSl, dSlice, dNoPart, dPart, dIx, isI, isB, dVar, dC, dCons, dNil, dLen, dRepr, dListOf, dTupOf, dItems, dItemsT, itemsOf, dSigns, dRng1, dgName, dgTup, dgCons, dgNil, dEq, dNe, dLt, dIn, dII, dIC, dNeg, dAdd, dRep, dUpper, dJoin, dYes, truD, dAll, dAny, dInt1, dAbs, dChain, List.set, List.getElem?_cons_succ, List.getElem?_cons_zero]
  refine ⟨rfl, ?_⟩
  refine ⟨fun m δ => ∃ ws q, δ = [some (.dat d), some (.fn hh), some (.own ws), q] ∧ m = wtAll ws ∧ forkB wordB d = ws.all (forkB wordB) ∧ okAll 100 ws ∧ wtAll ws ≤ 400002,
    ⟨_, [d], none, rfl, rfl, by simp, ⟨ok, trivial⟩, by rw [wtAll, wtAll]; omega⟩, ?_⟩
  rintro m δ ⟨ws, q, rfl, rfl, ht, hok, hws⟩
  dsimp only [dSeq, dAsg, dAsgN, dAsgPop, dAppend, dExtend, dExtendT, dInsert, dPar, dPar3, dAug, dIfS, dFor, dRet, dRetO, dRetOwn, dRetOwnD, dRetN, dDrop, dNext, dBreak, dCont, dFreeze, dBorrow, dBorrowT, dTr, dTest, dAnd, dOr, dNot, dAndV, dOrV, dNotV, dIf, dOp, dUn, dCB, dCall, dnCall, dCallX, dCallV, dTup, dLst, dnLst, dnLc, dLc, dOfN, dnAdd, dnSl, dSl, dSlice, dNoPart, dPart, dIx, isI, isB, dVar, dC, dCons, dNil, dLen, dRepr, dListOf, dTupOf, dItems, dItemsT, itemsOf, dSigns, dRng1, dgName, dgTup, dgCons, dgNil, dEq, dNe, dLt, dIn, dII, dIC, dNeg, dAdd, dRep, dUpper, dJoin, dYes, truD, dAll, dAny, dInt1, dAbs, dChain, List.set, List.getElem?_cons_succ, List.getElem?_cons_zero]
  rcases List.eq_nil_or_concat ws with rfl | ⟨ws', y, e⟩
  · rw [if_neg (by decide)]
    show PyData.bool true = .bool (forkB wordB d)
    rw [ht]
    rfl
  rw [List.concat_eq_append] at e
  subst e
  rw [if_pos (by simp), List.getLast?_concat, List.dropLast_concat]
  rw [List.all_append, show [y].all (forkB wordB) = forkB wordB y from Bool.and_true _] at ht
  have hy : okD 100 y := okAll_iff.mp hok y (by simp)
  rw [wtAll_app, show wtAll [y] = wt y + 2 from rfl] at hws
  have hok' : okAll 100 ws' := hok.sub (by intro z hz; simp [hz])
  have wrong : forkB wordB y = false → post_is_forked [d] (.bool false) := fun h => by
    show PyData.bool false = .bool (forkB wordB d)
    rw [ht, h, Bool.and_false]
  have e0 : wtAll (ws' ++ [y]) = wtAll ws' + (wt y + 2) := by rw [wtAll_app]; rfl
  dsimp only [dSeq, dAsg, dAsgN, dAsgPop, dAppend, dExtend, dExtendT, dInsert, dPar, dPar3, dAug, dIfS, dFor, dRet, dRetO, dRetOwn, dRetOwnD, dRetN, dDrop, dNext, dBreak, dCont, dFreeze, dBorrow, dBorrowT, dTr, dTest, dAnd, dOr, dNot, dAndV, dOrV, dNotV, dIf, dOp, dUn, dCB, dCall, dnCall, dCallX, dCallV, dTup, dLst, dnLst, dnLc, dLc, dOfN, dnAdd, dnSl, dSl, dSlice, dNoPart, dPart, dIx, isI, isB, dVar, dC, dCons, dNil, dLen, dRepr, dListOf, dTupOf, dItems, dItemsT, itemsOf, dSigns, dRng1, dgName, dgTup, dgCons, dgNil, dEq, dNe, dLt, dIn, dII, dIC, dNeg, dAdd, dRep, dUpper, dJoin, dYes, truD, dAll, dAny, dInt1, dAbs, dChain, List.set, List.getElem?_cons_succ, List.getElem?_cons_zero]
  refine ⟨rfl, ⟨hy, by omega⟩, ?_⟩
  rintro r rfl
  dsimp only
  cases he : wordB y with
  | true =>
    rw [if_neg (by decide)]
    refine ⟨_, ?_, ws', _, rfl, rfl, ?_, hok', by omega⟩
    · rw [e0]
      omega
    · rw [ht, forkB_end word_if he, Bool.and_true]
  | false =>
    rw [if_pos (by decide)]
    refine ⟨⟨hy, by omega⟩, ?_⟩
    rintro r rfl
    dsimp only
    cases hf : forkD y with
    | false =>
      rw [if_pos (by decide)]
      exact wrong (forkB_noFork he hf)
    | true =>
      rw [if_neg (by decide)]
      obtain ⟨b, c, s, t, rfl, hb, hc⟩ := forkD_if hf
      dsimp only
      rw [show cutD [PyData.str "if", b, c, s, t] (some 3) none = [s, t] from cutD_from _ 3]
      obtain ⟨oa, ob, oc, os, ot, _⟩ := (show okAll 100 _ from hy)
      simp only [wt, wtAll] at hws e0
      have hl := len_wt ws'
      have e1 : wtAll (ws' ++ [s, t]) = wtAll ws' + (wt s + 2 + (wt t + 2)) := by rw [wtAll_app]; rfl
      refine ⟨small_le (by simp only [List.length_cons, List.length_nil]; omega), _, ?_, ws' ++ [s, t], _, rfl, rfl, ?_, hok'.app ⟨os, ot, trivial⟩, by omega⟩
      · rw [e0, e1]
        omega
      · rw [ht, forkB_if, hb, hc, List.all_append]
        simp
theorem dat_l_is_ending (hh : Addr) : ∀ n, ∀ ds, pre_l_is_ending (n + 1) ds → d_l_is_ending n hh { nx := fun _ => post_l_is_ending ds .none, rt := post_l_is_ending ds } (startD 2 ((ds.map fun d => some (.dat d)) ++ [some (.fn hh)])) := by
  rintro n ds ⟨h, hn⟩
  unfold prR at h
  split at h
  case h_2 => exact h.elim
  rename_i d
  obtain ⟨⟨ok, hw⟩, hd⟩ := h
  show d_l_is_ending n hh _ [some (.dat d), some (.fn hh)]
  unfold d_l_is_ending
  simp only [dIsi_tup, dIsi_str]
  dsimp only [dSeq, dAsg, dAsgN, dAsgPop, dAppend, dExtend, dExtendT, dInsert, dPar, dPar3, dAug, dIfS, dFor, dRet, dRetO, dRetOwn, dRetOwnD, dRetN, dDrop, dNext, dBreak, dCont, dFreeze, dBorrow, dBorrowT, dTr, dTest, dAnd, dOr, dNot, dAndV, dOrV, dNotV, dIf, dOp, dUn, dCB, dCall, dnCall, dCallX, dCallV, dTup, dLst, dnLst, dnLc, dLc, dOfN, dnAdd, dnSl, dSl, dSlice, dNoPart, dPart, dIx, isI, isB, dVar, dC, dCons, dNil, dLen, dRepr, dListOf, dTupOf, dItems, dItemsT, itemsOf, dSigns, dRng1, dgName, dgTup, dgCons, dgNil, dEq, dNe, dLt, dIn, dII, dIC, dNeg, dAdd, dRep, dUpper, dJoin, dYes, truD, dAll, dAny, dInt1, dAbs, dChain, List.set, List.getElem?_cons_succ, List.getElem?_cons_zero]
  have fin : isIf d = false → (some (some (DV.fn hh)) = some (some (DV.fn hh)) ∧ pre_l_is_word [d] ∧ ∀ r, post_l_is_word [d] r → post_l_is_ending [d] r) := fun h => by
    refine ⟨rfl, ⟨⟨ok, hw⟩, by omega⟩, ?_⟩
    rintro r rfl
    show PyData.bool (wordB d) = .bool (forkB wordB d)
    rw [forkB_not h]
  cases d with
  | tuple xs =>
    rw [if_neg (by simp [isTup])]
    dsimp only
    refine ⟨rfl, ?_⟩
    rw [eqv_ii]
    by_cases h5 : xs.length = 5
    · obtain ⟨a, b, c, y, z, rfl⟩ := len5 h5
      rw [if_neg (by simp), atI0]
      dsimp only
      obtain ⟨oa, ob, oc, oy, oz, _⟩ := (show okAll 100 _ from ok)
      simp only [wt, wtAll] at hw
      simp only [PyData.depth, PyData.depthAll] at hd
      cases ha : isStr a with
      | false =>
        rw [if_pos (by decide), if_pos rfl]
        refine fin ?_
        rw [isIf_5]
        cases a <;> first | rfl | cases ha
      | true =>
        rw [if_neg (by decide)]
        refine ⟨eqOk_str _ _, ?_⟩
        rw [eqv_str]
        cases hx : isStrOf "if" a with
        | false =>
          rw [if_pos (by decide)]
          refine fin ?_
          rw [isIf_5, hx]
        | true =>
          rw [if_neg (by decide), show atD (.tuple [a, b, c, y, z]) 1 = some b from at_lt (k := 1) rfl]
          cases isStrOf_eq hx
          refine ⟨⟨⟨ob, by omega⟩, by omega⟩, ?_⟩
          rintro r rfl
          dsimp only
          have goal : ∀ v, v = ((termB b && termB c) && (forkB wordB y && forkB wordB z)) → post_l_is_ending [.tuple [.str "if", b, c, y, z]] (.bool v) := by
            rintro v rfl
            show PyData.bool _ = .bool (forkB wordB _)
            rw [forkB_if]
          cases hb : termB b with
          | false =>
            rw [if_pos (by decide), if_pos rfl]
            exact goal _ (by rw [hb]; rfl)
          | true =>
            rw [if_neg (by decide), show atD (.tuple [.str "if", b, c, y, z]) 2 = some c from at_lt (k := 2) rfl]
            refine ⟨⟨⟨oc, by omega⟩, by omega⟩, ?_⟩
            rintro r rfl
            dsimp only
            cases hc : termB c with
            | false =>
              rw [if_pos (by decide)]
              exact goal _ (by rw [hb, hc]; rfl)
            | true =>
              rw [if_neg (by decide), show atD (.tuple [.str "if", b, c, y, z]) 3 = some y from at_lt (k := 3) rfl]
              refine ⟨rfl, ⟨⟨⟨oy, by omega⟩, by omega⟩, by omega⟩, ?_⟩
              rintro r rfl
              dsimp only
              cases hy : forkB wordB y with
              | false =>
                rw [if_neg (by decide)]
                exact goal _ (by rw [hb, hc, hy]; rfl)
              | true =>
                rw [if_pos rfl, show atD (.tuple [.str "if", b, c, y, z]) 4 = some z from at_lt (k := 4) rfl]
                refine ⟨rfl, ⟨⟨⟨oz, by omega⟩, by omega⟩, by omega⟩, ?_⟩
                rintro r rfl
                exact goal _ (by rw [hb, hc, hy]; rfl)
    · rw [if_pos (by simp; omega), if_pos rfl]
      exact fin (isIf_len h5)
  | _ =>
    rw [if_pos rfl]
    exact fin rfl
end DL

namespace DL
open PySem PySem.Spec PyProof.Rows L2
open Evl (Ex ex_l ex_t)
theorem mem2 {a b x : PyData} {P : PyData → Prop} (h : x ∈ [a, b]) (ha : P a) (hb : P b) : P x := by
  rcases List.mem_cons.mp h with rfl | h
  · exact ha
  · rw [List.mem_singleton.mp h]; exact hb
theorem mem3 {a b c x : PyData} {P : PyData → Prop} (h : x ∈ [a, b, c]) (ha : P a) (hb : P b) (hc : P c) : P x := by
  rcases List.mem_cons.mp h with rfl | h
  · exact ha
  · exact mem2 h hb hc
theorem mem4 {a b c d x : PyData} {P : PyData → Prop} (h : x ∈ [a, b, c, d]) (ha : P a) (hb : P b) (hc : P c) (hd : P d) : P x := by
  rcases List.mem_cons.mp h with rfl | h
  · exact ha
  · exact mem3 h hb hc hd
theorem gd_str {x : Str} {D : Nat} (h : x.length ≤ 8 ∧ ∀ c ∈ x.cps.toList, c < 128) : okD 8 (.str x) ∧ (PyData.str x).depth ≤ D := ⟨h, by rw [PyData.depth]; exact Nat.zero_le _⟩
theorem dat_l_drawn : ∀ ds, pre_l_drawn ds → d_l_drawn { nx := fun _ => post_l_drawn ds .none, rt := post_l_drawn ds } (startD 6 (none :: ds.map fun d => some (.dat d))) := by
  rintro ds rfl
  show d_l_drawn _ [none, none, none, none, none, none]
  unfold d_l_drawn
  dsimp only [dSeq, dAsg, dAsgN, dAsgPop, dAppend, dExtend, dExtendT, dInsert, dPar, dPar3, dAug, dIfS, dFor, dRet, dRetO, dRetOwn, dRetOwnD, dRetN, dDrop, dNext, dBreak, dCont, dFreeze, dBorrow, dBorrowT, dTr, dTest, dAnd, dOr, dNot, dAndV, dOrV, dNotV, dIf, dOp, dUn, dCB, dCall, dnCall, dCallX, dCallV, dTup, dLst, dnLst, dnLc, dLc, dOfN, dnAdd, dnSl, dSl, dSlice, dNoPart, dPart, dIx, isI, isB, dVar, dC, dCons, dNil, dLen, dRepr, dListOf, dTupOf, dItems, dItemsT, itemsOf, dSigns, dRng1, dgName, dgTup, dgCons, dgNil, dEq, dNe, dLt, dIn, dII, dIC, dNeg, dAdd, dRep, dUpper, dJoin, dYes, truD, dAll, dAny, dInt1, dAbs, dChain, List.set, List.getElem?_cons_succ, List.getElem?_cons_zero]
  refine take_ok ⟨by decide, by decide⟩ fun w hw => ?_
  have e1 : wT 1 = 621 := rfl
  have e2' : wT 2 = 3825 := rfl
  have e3 : wT 3 = 23049 := rfl
  have e2 : wC 2 = 19500 := rfl
  have e4 : wC 4 = 81900 := rfl
  dsimp only
  by_cases h2 : w < 2
  · rw [decide_eq_true (show (w : Int) < 2 by omega), if_pos rfl]
    refine ⟨rfl, ⟨by simp, rfl⟩, ?_⟩
    intro s hs
    obtain ⟨x, hx, rfl⟩ := List.mem_map.mp (show s ∈ [Str.ofString "alike", "unlike"].map PyData.str from hs)
    have hx : asc 8 x := by
      have hall : ∀ y ∈ [Str.ofString "alike", Str.ofString "unlike"], y.length ≤ 8 ∧ ∀ c ∈ y.cps.toList, c < 128 := by decide
      exact hall x hx
    refine any_term_ok (m := 3) ⟨by decide, by decide⟩ fun t ht => any_term_ok (m := 2) ⟨by decide, by decide⟩ fun u hu => ⟨rfl, ?_⟩
    have w1 := ht.w
    have w2 := hu.w
    have w3 := hx.1
    refine (gd_tup (D := 4) (W := 30000) (fun d hd => mem3 (P := fun d => okD 8 d ∧ d.depth ≤ 4) hd (gd_str hx) ⟨ht.ok, ht.dep⟩ ⟨hu.ok, Nat.le_trans hu.dep (by decide)⟩) ?_).mono (Nat.le_refl _) (by decide) (by decide)
    simp only [wtAll, wt]
    omega
  rw [decide_eq_false (show ¬ (w : Int) < 2 by omega), if_neg (by decide)]
  refine ⟨rfl, ?_⟩
  rw [eqv_ii]
  split
  · refine any_term_ok (m := 1) ⟨by decide, by decide⟩ fun t ht => any_term_ok (m := 1) ⟨by decide, by decide⟩ fun u hu => ⟨rfl, any_code_ok (m := 2) ⟨by decide, by decide⟩ fun c hc => ?_⟩
    rw [e1] at ht hu
    rw [e2] at hc
    refine ⟨rfl, rfl, rfl, rfl, rfl, rfl, rfl, rfl, rfl, rfl, rfl, ⟨by simp, rfl⟩, ?_⟩
    intro r hr
    have a1 : ∀ {x : Str}, (x.length ≤ 8 ∧ ∀ c ∈ x.cps.toList, c < 128) → Gd 8 2 621 (.tuple [.str x]) := fun {x} h => by
      refine gd_tup (D := 1) (fun d hd => by rw [List.mem_singleton.mp hd]; exact gd_str h) ?_
      have := h.1
      simp only [wtAll, wt]
      omega
    have met : Gd 8 2 621 (.tuple [.str "met"]) := a1 (by decide)
    have yes : Gd 8 2 621 (.tuple [.str "yes"]) := a1 (by decide)
    have no : Gd 8 2 621 (.tuple [.str "no"]) := a1 (by decide)
    have iff : ∀ {y z : PyData}, Gd 8 2 621 y → Gd 8 2 621 z → Gd 8 24 90000 (.tuple [.str "if", t, u, y, z]) := fun hy hz => (gd_if (by decide) ht hu hy hz).mono (Nat.le_refl _) (by decide) (by decide)
    rcases List.mem_append.mp (show r ∈ ([c, t, .tuple [.str "met"], .tuple [.str "if", t, u, .tuple [.str "met"], .tuple [.str "met"]]] ++ [.tuple [.str "if", t, u, .tuple [.str "met"], .tuple [.str "yes"]]]) ++
        [.tuple [.str "if", t, u, t, .tuple [.str "yes"]], .tuple [.str "if", t, u, .tuple [.str "no"], u]] from hr) with hr | hr
    · rcases List.mem_append.mp hr with hr | hr
      · exact mem4 hr (hc.mono (Nat.le_refl _) (by decide) (by decide)) (ht.mono (Nat.le_refl _) (by decide) (by decide)) (met.mono (Nat.le_refl _) (by decide) (by decide)) (iff met met)
      · rw [List.mem_singleton.mp hr]
        exact iff met yes
    · exact mem2 hr (iff ht yes) (iff no hu)
  · exact any_code_ok (m := 4) ⟨by decide, by decide⟩ fun c hc => hc.mono (Nat.le_refl _) (by decide) (by decide)
end DL

namespace DL
open PySem PySem.Spec PyProof.Rows L2
open Evl (Ex ex_l ex_t)
/-- what the law keeps: fourteen values of bounded size -/
def okL (ws : List PyData) : Prop := ∀ d ∈ ws, Gd 11 32 367500 d
theorem okL.show {ws : List PyData} (h : okL ws) (hl : ws.length ≤ 14) : showOk (.list ws) = true := by
  refine showOk_of (okD.fit (L := 11) _ (okAll_iff.mpr fun d hd => (h d hd).ok)) ?_ ?_
  · rw [PyData.depth]
    have := depthAll_le fun d hd => (h d hd).dep
    omega
  · rw [wt]
    have h1 := wtAll_le fun d hd => (h d hd).w
    have h2 : ws.length * (367500 + 2) ≤ 14 * (367500 + 2) := Nat.mul_le_mul_right _ hl
    omega
theorem term_a {x : Str} (h : isNm x = true) : termB (.tuple [.str x]) = true := by
  rw [termB, termT, termAll, Bool.and_true]
  exact h
abbrev tmA : PyData := .tuple [.str "a"]
abbrev tmB : PyData := .tuple [.str "b"]
theorem ok_a : okD 100 tmA := ⟨⟨by decide, by decide⟩, trivial⟩
theorem ok_b : okD 100 tmB := ⟨⟨by decide, by decide⟩, trivial⟩
structure Two (i : Nat) (A B : PyData) : Prop where
  a : okD 100 A ∧ wt A ≤ 200 * (i + 1) ∧ forkB wordB A = true
  b : okD 100 B ∧ wt B ≤ 200 * (i + 1) ∧ forkB wordB B = false
theorem Two.next {i : Nat} {A B : PyData} (h : Two i A B) : Two (i + 1) (.tuple [.str "if", tmA, tmB, .tuple [.str "no"], A]) (.tuple [.str "if", tmA, tmB, .tuple [.str "no"], B]) := by
  obtain ⟨⟨a1, a2, a3⟩, ⟨b1, b2, b3⟩⟩ := h
  have ot : okD 100 (.tuple [.str "no"]) := ⟨⟨by decide, by decide⟩, trivial⟩
  have e1 : wt (.str "if") = 22 := rfl
  have e2 : wt tmA = 17 := rfl
  have e3 : wt tmB = 17 := rfl
  have e4 : wt (.tuple [.str "no"]) = 27 := rfl
  have f1 : forkB wordB (.tuple [.str "no"]) = true := by rw [forkB_not rfl]; decide
  refine ⟨⟨⟨⟨by decide, by decide⟩, ok_a, ok_b, ot, a1, trivial⟩, ?_, ?_⟩, ⟨⟨⟨by decide, by decide⟩, ok_a, ok_b, ot, b1, trivial⟩, ?_, ?_⟩⟩
  · rw [wt]
    simp only [wtAll, e1, e2, e3, e4]
    omega
  · rw [forkB_if, f1, a3]
    decide
  · rw [wt]
    simp only [wtAll, e1, e2, e3, e4]
    omega
  · rw [forkB_if, f1, b3]
    decide
theorem dat_law : d_law { nx := fun _ => False, rt := fun d => d = .bool true } (List.replicate 13 none) := by
  show d_law _ [none, none, none, none, none, none, none, none, none, none, none, none, none]
  unfold d_law
  dsimp only [dSeq, dAsg, dAsgN, dAsgPop, dAppend, dExtend, dExtendT, dInsert, dPar, dPar3, dAug, dIfS, dFor, dRet, dRetO, dRetOwn, dRetOwnD, dRetN, dDrop, dNext, dBreak, dCont, dFreeze, dBorrow, dBorrowT, dTr, dTest, dAnd, dOr, dNot, dAndV, dOrV, dNotV, dIf, dOp, dUn, dCB, dCall, dnCall, dCallX, dCallV, dTup, dLst, dnLst, dnLc, dLc, dOfN, dnAdd, dnSl, dSl, dSlice, dNoPart, dPart, dIx, isI, isB, dVar, dC, dCons, dNil, dLen, dRepr, dListOf, dTupOf, dItems, dItemsT, itemsOf, dSigns, dRng1, dgName, dgTup, dgCons, dgNil, dEq, dNe, dLt, dIn, dII, dIC, dNeg, dAdd, dRep, dUpper, dJoin, dYes, truD, dAll, dAny, dInt1, dAbs, dChain, List.set, List.getElem?_cons_succ, List.getElem?_cons_zero]
  refine ⟨rfl, by decide, by decide, fun i δ => ∃ ws q3 q4 q5, δ = [none, none, some (.own ws), q3, q4, q5, none, none, none, none, none, none, none] ∧ okL ws ∧ ws.length ≤ i, ⟨[], none, none, none, rfl, (by intro d hd; cases hd), Nat.le_refl _⟩, ?_, ?_⟩
  · rintro i x δ hx ⟨ws, q3, q4, q5, rfl, hw, hl⟩
    have hi : i < 14 := by
      have := (List.getElem?_eq_some_iff.mp hx).1
      rwa [intsD_len] at this
    dsimp only [dSeq, dAsg, dAsgN, dAsgPop, dAppend, dExtend, dExtendT, dInsert, dPar, dPar3, dAug, dIfS, dFor, dRet, dRetO, dRetOwn, dRetOwnD, dRetN, dDrop, dNext, dBreak, dCont, dFreeze, dBorrow, dBorrowT, dTr, dTest, dAnd, dOr, dNot, dAndV, dOrV, dNotV, dIf, dOp, dUn, dCB, dCall, dnCall, dCallX, dCallV, dTup, dLst, dnLst, dnLc, dLc, dOfN, dnAdd, dnSl, dSl, dSlice, dNoPart, dPart, dIx, isI, isB, dVar, dC, dCons, dNil, dLen, dRepr, dListOf, dTupOf, dItems, dItemsT, itemsOf, dSigns, dRng1, dgName, dgTup, dgCons, dgNil, dEq, dNe, dLt, dIn, dII, dIC, dNeg, dAdd, dRep, dUpper, dJoin, dYes, truD, dAll, dAny, dInt1, dAbs, dChain, List.set, List.getElem?_cons_succ, List.getElem?_cons_zero]
    refine ⟨rfl, ?_⟩
    intro d hd
    refine ⟨rfl, ⟨by simp, rfl⟩, ?_⟩
    intro r hr
    obtain ⟨k, rfl, hk⟩ : ∃ k : Nat, r = .int k ∧ k ≤ 2 := by
      have hall : ∀ r ∈ [PyData.int 0, .int 0, .int 1, .int 1, .int 2], ∃ k : Nat, r = .int k ∧ k ≤ 2 := by
        intro r hr
        simp only [List.mem_cons, List.not_mem_nil, or_false] at hr
        rcases hr with rfl | rfl | rfl | rfl | rfl
        · exact ⟨0, rfl, by decide⟩
        · exact ⟨0, rfl, by decide⟩
        · exact ⟨1, rfl, by decide⟩
        · exact ⟨1, rfl, by decide⟩
        · exact ⟨2, rfl, by decide⟩
      exact hall r hr
    dsimp only
    have h0 : Gd 9 24 90000 d := Gd.mono hd (by decide) (Nat.le_refl _) (Nat.le_refl _)
    refine ⟨by omega, by omega, fun j δ => ∃ t q, δ = [none, none, some (.own ws), some (.dat x), some (.dat t), q, none, none, none, none, none, none, none] ∧ ((j = 0 ∧ Gd 9 24 90000 t) ∨ (j = 1 ∧ Gd 10 28 182500 t) ∨ (j = 2 ∧ Gd 11 32 367500 t)), ⟨d, q5, rfl, .inl ⟨rfl, h0⟩⟩, ?_, ?_⟩
    · rintro j y δ hj ⟨t, q, rfl, ht⟩
      have hj2 : j < 2 := by
        have := (List.getElem?_eq_some_iff.mp hj).1
        rw [intsD_len, Int.toNat_natCast] at this
        omega
      dsimp only [dSeq, dAsg, dAsgN, dAsgPop, dAppend, dExtend, dExtendT, dInsert, dPar, dPar3, dAug, dIfS, dFor, dRet, dRetO, dRetOwn, dRetOwnD, dRetN, dDrop, dNext, dBreak, dCont, dFreeze, dBorrow, dBorrowT, dTr, dTest, dAnd, dOr, dNot, dAndV, dOrV, dNotV, dIf, dOp, dUn, dCB, dCall, dnCall, dCallX, dCallV, dTup, dLst, dnLst, dnLc, dLc, dOfN, dnAdd, dnSl, dSl, dSlice, dNoPart, dPart, dIx, isI, isB, dVar, dC, dCons, dNil, dLen, dRepr, dListOf, dTupOf, dItems, dItemsT, itemsOf, dSigns, dRng1, dgName, dgTup, dgCons, dgNil, dEq, dNe, dLt, dIn, dII, dIC, dNeg, dAdd, dRep, dUpper, dJoin, dYes, truD, dAll, dAny, dInt1, dAbs, dChain, List.set, List.getElem?_cons_succ, List.getElem?_cons_zero]
      have g : Gd 10 28 182500 t := by
        rcases ht with ⟨_, h⟩ | ⟨_, h⟩ | ⟨e, _⟩
        · exact h.mono (by decide) (by decide) (by decide)
        · exact h
        · omega
      refine ⟨⟨t, rfl, g.ok.mono (by decide) _, Nat.le_trans g.w (by decide), by have := g.dep; omega⟩, ?_⟩
      rintro r ⟨t', e, hr⟩
      cases (List.cons.inj e).1
      refine ⟨r, _, rfl, ?_⟩
      rcases ht with ⟨e, h⟩ | ⟨e, h⟩ | ⟨e, _⟩
      · exact .inr (.inl ⟨by omega, hr 9 24 90000 (by decide) h⟩)
      · exact .inr (.inr ⟨by omega, (hr 10 28 182500 (by decide) h).mono (by decide) (by decide) (by decide)⟩)
      · omega
    · rintro δ ⟨t, q, rfl, ht⟩
      dsimp only [dSeq, dAsg, dAsgN, dAsgPop, dAppend, dExtend, dExtendT, dInsert, dPar, dPar3, dAug, dIfS, dFor, dRet, dRetO, dRetOwn, dRetOwnD, dRetN, dDrop, dNext, dBreak, dCont, dFreeze, dBorrow, dBorrowT, dTr, dTest, dAnd, dOr, dNot, dAndV, dOrV, dNotV, dIf, dOp, dUn, dCB, dCall, dnCall, dCallX, dCallV, dTup, dLst, dnLst, dnLc, dLc, dOfN, dnAdd, dnSl, dSl, dSlice, dNoPart, dPart, dIx, isI, isB, dVar, dC, dCons, dNil, dLen, dRepr, dListOf, dTupOf, dItems, dItemsT, itemsOf, dSigns, dRng1, dgName, dgTup, dgCons, dgNil, dEq, dNe, dLt, dIn, dII, dIC, dNeg, dAdd, dRep, dUpper, dJoin, dYes, truD, dAll, dAny, dInt1, dAbs, dChain, List.set, List.getElem?_cons_succ, List.getElem?_cons_zero]
      have g : Gd 11 32 367500 t := by
        rcases ht with ⟨_, h⟩ | ⟨_, h⟩ | ⟨_, h⟩
        · exact h.mono (by decide) (by decide) (by decide)
        · exact h.mono (by decide) (by decide) (by decide)
        · exact h
      refine ⟨small_le (by omega), ws ++ [t], _, _, _, rfl, ?_, by rw [List.length_append, List.length_singleton]; omega⟩
      intro d hd
      rcases List.mem_append.mp hd with z | z
      · exact hw d z
      · rw [List.mem_singleton.mp z]
        exact g
  · rintro δ ⟨ws, q3, q4, q5, rfl, hw, hl⟩
    rw [intsD_len] at hl
    have hl : ws.length ≤ 14 := hl
    have hsh := hw.show hl
    dsimp only [dSeq, dAsg, dAsgN, dAsgPop, dAppend, dExtend, dExtendT, dInsert, dPar, dPar3, dAug, dIfS, dFor, dRet, dRetO, dRetOwn, dRetOwnD, dRetN, dDrop, dNext, dBreak, dCont, dFreeze, dBorrow, dBorrowT, dTr, dTest, dAnd, dOr, dNot, dAndV, dOrV, dNotV, dIf, dOp, dUn, dCB, dCall, dnCall, dCallX, dCallV, dTup, dLst, dnLst, dnLc, dLc, dOfN, dnAdd, dnSl, dSl, dSlice, dNoPart, dPart, dIx, isI, isB, dVar, dC, dCons, dNil, dLen, dRepr, dListOf, dTupOf, dItems, dItemsT, itemsOf, dSigns, dRng1, dgName, dgTup, dgCons, dgNil, dEq, dNe, dLt, dIn, dII, dIC, dNeg, dAdd, dRep, dUpper, dJoin, dYes, truD, dAll, dAny, dInt1, dAbs, dChain, List.set, List.getElem?_cons_succ, List.getElem?_cons_zero]
    refine ⟨hsh, ?_⟩
    rw [show cutD ws none (some 3) = ws.take 3 from cutD_to ws 3]
    have h3 : (ws.take 3).length ≤ 3 := by rw [List.length_take]; omega
    refine ⟨small_le (by omega), fun i δ => ∃ p4 p7, δ = [none, none, some (.dat (.list ws)), q3, p4, q5, some (.dat (.str (PyData.list ws).shown)), p7, none, none, none, none, none], ⟨q4, none, rfl⟩, ?_, ?_⟩
    · rintro i x δ hx ⟨p4, p7, rfl⟩
      have g : Gd 11 32 367500 x := by
        rcases List.mem_append.mp (List.mem_of_getElem? hx) with z | z
        · exact hw x z
        · exact hw x (List.mem_of_mem_take z)
      have p0 : okD 100 x ∧ wt x ≤ 400000 := ⟨g.ok.mono (by decide) _, Nat.le_trans g.w (by decide)⟩
      have p1 : x.depth < 50 := by have := g.dep; omega
      dsimp only [dSeq, dAsg, dAsgN, dAsgPop, dAppend, dExtend, dExtendT, dInsert, dPar, dPar3, dAug, dIfS, dFor, dRet, dRetO, dRetOwn, dRetOwnD, dRetN, dDrop, dNext, dBreak, dCont, dFreeze, dBorrow, dBorrowT, dTr, dTest, dAnd, dOr, dNot, dAndV, dOrV, dNotV, dIf, dOp, dUn, dCB, dCall, dnCall, dCallX, dCallV, dTup, dLst, dnLst, dnLc, dLc, dOfN, dnAdd, dnSl, dSl, dSlice, dNoPart, dPart, dIx, isI, isB, dVar, dC, dCons, dNil, dLen, dRepr, dListOf, dTupOf, dItems, dItemsT, itemsOf, dSigns, dRng1, dgName, dgTup, dgCons, dgNil, dEq, dNe, dLt, dIn, dII, dIC, dNeg, dAdd, dRep, dUpper, dJoin, dYes, truD, dAll, dAny, dInt1, dAbs, dChain, List.set, List.getElem?_cons_succ, List.getElem?_cons_zero]
      refine ⟨p0, ?_⟩
      rintro r rfl
      refine ⟨p0, ?_⟩
      rintro r rfl
      refine ⟨rfl, ⟨⟨p0, p1⟩, Nat.le_refl _⟩, ?_⟩
      rintro r rfl
      refine ⟨⟨p0, p1⟩, ?_⟩
      rintro r rfl
      refine ⟨rfl, alike_bools [forkB wordB x, factB x] (by show 2 ≤ 100; decide) rfl rfl ?_⟩
      dsimp only
      rw [if_neg (by decide)]
      exact ⟨_, _, rfl⟩
    · rintro δ ⟨p4, p7, rfl⟩
      dsimp only [dSeq, dAsg, dAsgN, dAsgPop, dAppend, dExtend, dExtendT, dInsert, dPar, dPar3, dAug, dIfS, dFor, dRet, dRetO, dRetOwn, dRetOwnD, dRetN, dDrop, dNext, dBreak, dCont, dFreeze, dBorrow, dBorrowT, dTr, dTest, dAnd, dOr, dNot, dAndV, dOrV, dNotV, dIf, dOp, dUn, dCB, dCall, dnCall, dCallX, dCallV, dTup, dLst, dnLst, dnLc, dLc, dOfN, dnAdd, dnSl, dSl, dSlice, dNoPart, dPart, dIx, isI, isB, dVar, dC, dCons, dNil, dLen, dRepr, dListOf, dTupOf, dItems, dItemsT, itemsOf, dSigns, dRng1, dgName, dgTup, dgCons, dgNil, dEq, dNe, dLt, dIn, dII, dIC, dNeg, dAdd, dRep, dUpper, dJoin, dYes, truD, dAll, dAny, dInt1, dAbs, dChain, List.set, List.getElem?_cons_succ, List.getElem?_cons_zero]
      refine ⟨rfl, rfl, rfl, rfl, rfl, rfl, by decide, by decide,
        fun i δ => ∃ p12 A B, δ = [none, none, some (.dat (.list ws)), q3, p4, q5, some (.dat (.str (PyData.list ws).shown)), p7, some (.dat tmA), some (.dat tmB), some (.dat A), some (.dat B), p12] ∧
          Two i A B, ⟨_, _, _, rfl, ?_⟩, ?_, ?_⟩
      · exact ⟨⟨⟨⟨by decide, by decide⟩, trivial⟩, by decide, by rw [forkB_not rfl]; decide⟩, ⟨⟨⟨by decide, by decide⟩, ⟨by decide, by decide⟩, trivial⟩, by decide, by rw [forkB_not rfl]; decide⟩⟩
      · rintro i x δ hx ⟨p12, A, B, rfl, h⟩
        dsimp only [dSeq, dAsg, dAsgN, dAsgPop, dAppend, dExtend, dExtendT, dInsert, dPar, dPar3, dAug, dIfS, dFor, dRet, dRetO, dRetOwn, dRetOwnD, dRetN, dDrop, dNext, dBreak, dCont, dFreeze, dBorrow, dBorrowT, dTr, dTest, dAnd, dOr, dNot, dAndV, dOrV, dNotV, dIf, dOp, dUn, dCB, dCall, dnCall, dCallX, dCallV, dTup, dLst, dnLst, dnLc, dLc, dOfN, dnAdd, dnSl, dSl, dSlice, dNoPart, dPart, dIx, isI, isB, dVar, dC, dCons, dNil, dLen, dRepr, dListOf, dTupOf, dItems, dItemsT, itemsOf, dSigns, dRng1, dgName, dgTup, dgCons, dgNil, dEq, dNe, dLt, dIn, dII, dIC, dNeg, dAdd, dRep, dUpper, dJoin, dYes, truD, dAll, dAny, dInt1, dAbs, dChain, List.set, List.getElem?_cons_succ, List.getElem?_cons_zero]
        refine ⟨rfl, rfl, rfl, rfl, _, _, _, rfl, h.next⟩
      · rintro δ ⟨p12, A, B, rfl, h⟩
        rw [show (intsD 0 (Int.toNat 26)).length = 26 from by rw [intsD_len]; rfl] at h
        obtain ⟨⟨a1, a2, a3⟩, ⟨b1, b2, b3⟩⟩ := h
        dsimp only [dSeq, dAsg, dAsgN, dAsgPop, dAppend, dExtend, dExtendT, dInsert, dPar, dPar3, dAug, dIfS, dFor, dRet, dRetO, dRetOwn, dRetOwnD, dRetN, dDrop, dNext, dBreak, dCont, dFreeze, dBorrow, dBorrowT, dTr, dTest, dAnd, dOr, dNot, dAndV, dOrV, dNotV, dIf, dOp, dUn, dCB, dCall, dnCall, dCallX, dCallV, dTup, dLst, dnLst, dnLc, dLc, dOfN, dnAdd, dnSl, dSl, dSlice, dNoPart, dPart, dIx, isI, isB, dVar, dC, dCons, dNil, dLen, dRepr, dListOf, dTupOf, dItems, dItemsT, itemsOf, dSigns, dRng1, dgName, dgTup, dgCons, dgNil, dEq, dNe, dLt, dIn, dII, dIC, dNeg, dAdd, dRep, dUpper, dJoin, dYes, truD, dAll, dAny, dInt1, dAbs, dChain, List.set, List.getElem?_cons_succ, List.getElem?_cons_zero]
        refine ⟨⟨a1, by omega⟩, ?_⟩
        rintro r rfl
        refine ⟨⟨b1, by omega⟩, ?_⟩
        rintro r rfl
        refine ⟨rfl, rfl, ?_⟩
        rw [a3, b3]
        refine alike_bools [true, false] (by decide) rfl rfl ?_
        dsimp only
        rw [if_neg (by decide)]
        refine ⟨hsh, eqOk_ss _ _, ?_⟩
        rw [eqv_ss, beq_self_eq_true]
end DL

namespace DL
open PySem PySem.Spec PyProof.Rows L2
open Evl (Ex ex_l ex_t)
def topS (i : Nat) : Stmt := PySem.Challenge.pw_answerskept_k13_guards_and_facts.main.body.getD i (.Pass ⟨0, 0, 0, 0⟩)
abbrev s_is_name : Stmt := topS 2
abbrev N_is_name : List Str := ["thing", "sign"]
theorem sc_is_name : FnScope N_is_name ["thing"] (defScope s_is_name) := ⟨rfl, rfl, rfl, by decide +kernel, rfl, by decide +kernel, by decide +kernel⟩
abbrev s_is_term : Stmt := topS 3
abbrev N_is_term : List Str := ["thing", "waiting", "part"]
theorem sc_is_term : FnScope N_is_term ["thing"] (defScope s_is_term) := ⟨rfl, rfl, rfl, by decide +kernel, rfl, by decide +kernel, by decide +kernel⟩
abbrev s_is_fork : Stmt := topS 4
abbrev N_is_fork : List Str := ["thing"]
theorem sc_is_fork : FnScope N_is_fork ["thing"] (defScope s_is_fork) := ⟨rfl, rfl, rfl, by decide +kernel, rfl, by decide +kernel, by decide +kernel⟩
abbrev s_is_forked : Stmt := topS 5
abbrev N_is_forked : List Str := ["thing", "is_end", "waiting", "part"]
theorem sc_is_forked : FnScope N_is_forked ["thing", "is_end"] (defScope s_is_forked) := ⟨rfl, rfl, rfl, by decide +kernel, rfl, by decide +kernel, by decide +kernel⟩
abbrev s_is_guard : Stmt := topS 6
abbrev N_is_guard : List Str := ["thing"]
theorem sc_is_guard : FnScope N_is_guard ["thing"] (defScope s_is_guard) := ⟨rfl, rfl, rfl, by decide +kernel, rfl, by decide +kernel, by decide +kernel⟩
abbrev s_is_fact : Stmt := topS 7
abbrev N_is_fact : List Str := ["thing"]
theorem sc_is_fact : FnScope N_is_fact ["thing"] (defScope s_is_fact) := ⟨rfl, rfl, rfl, by decide +kernel, rfl, by decide +kernel, by decide +kernel⟩
abbrev s__is_guard_end : Stmt := topS 8
abbrev N__is_guard_end : List Str := ["thing"]
theorem sc__is_guard_end : FnScope N__is_guard_end ["thing"] (defScope s__is_guard_end) := ⟨rfl, rfl, rfl, by decide +kernel, rfl, by decide +kernel, by decide +kernel⟩
abbrev s_l_bag : Stmt := topS 10
abbrev N_l_bag : List Str := ["_law_script", "_law_cell"]
theorem sc_l_bag : FnScope N_l_bag ["_law_script"] (defScope s_l_bag) := ⟨rfl, rfl, rfl, by decide +kernel, rfl, by decide +kernel, by decide +kernel⟩
abbrev s_l_take : Stmt := topS 11
abbrev N_l_take : List Str := ["_law_bag_here", "_law_many", "_law_cell", "_law_mixed", "_law_drawn_here", "_law_early", "_law_second"]
theorem sc_l_take : FnScope N_l_take ["_law_bag_here", "_law_many"] (defScope s_l_take) := ⟨rfl, rfl, rfl, by decide +kernel, rfl, by decide +kernel, by decide +kernel⟩
abbrev s_l_alike : Stmt := topS 12
abbrev N_l_alike : List Str := ["_law_found", "_law_due"]
theorem sc_l_alike : FnScope N_l_alike ["_law_found", "_law_due"] (defScope s_l_alike) := ⟨rfl, rfl, rfl, by decide +kernel, rfl, by decide +kernel, by decide +kernel⟩
abbrev s_l_one : Stmt := topS 13
abbrev N_l_one : List Str := ["_law_bag_here", "_law_some"]
theorem sc_l_one : FnScope N_l_one ["_law_bag_here", "_law_some"] (defScope s_l_one) := ⟨rfl, rfl, rfl, by decide +kernel, rfl, by decide +kernel, by decide +kernel⟩
abbrev s_l_odd : Stmt := topS 14
abbrev N_l_odd : List Str := ["_law_bag_here", "_law_some"]
theorem sc_l_odd : FnScope N_l_odd ["_law_bag_here"] (defScope s_l_odd) := ⟨rfl, rfl, rfl, by decide +kernel, rfl, by decide +kernel, by decide +kernel⟩
abbrev s_l_is_name : Stmt := topS 15
abbrev N_l_is_name : List Str := ["_law_thing", "_law_sign"]
theorem sc_l_is_name : FnScope N_l_is_name ["_law_thing"] (defScope s_l_is_name) := ⟨rfl, rfl, rfl, by decide +kernel, rfl, by decide +kernel, by decide +kernel⟩
abbrev s_l_is_term : Stmt := topS 16
abbrev N_l_is_term : List Str := ["_law_thing", "_law_part"]
theorem sc_l_is_term : FnScope N_l_is_term ["_law_thing"] (defScope s_l_is_term) := ⟨rfl, rfl, rfl, by decide +kernel, rfl, by decide +kernel, by decide +kernel⟩
abbrev s_l_is_ending : Stmt := topS 17
abbrev N_l_is_ending : List Str := ["_law_thing", "_law_is_end"]
theorem sc_l_is_ending : FnScope N_l_is_ending ["_law_thing", "_law_is_end"] (defScope s_l_is_ending) := ⟨rfl, rfl, rfl, by decide +kernel, rfl, by decide +kernel, by decide +kernel⟩
abbrev s_l_is_word : Stmt := topS 18
abbrev N_l_is_word : List Str := ["_law_thing"]
theorem sc_l_is_word : FnScope N_l_is_word ["_law_thing"] (defScope s_l_is_word) := ⟨rfl, rfl, rfl, by decide +kernel, rfl, by decide +kernel, by decide +kernel⟩
abbrev s_l_is_fact : Stmt := topS 19
abbrev N_l_is_fact : List Str := ["_law_thing"]
theorem sc_l_is_fact : FnScope N_l_is_fact ["_law_thing"] (defScope s_l_is_fact) := ⟨rfl, rfl, rfl, by decide +kernel, rfl, by decide +kernel, by decide +kernel⟩
abbrev s_l_name : Stmt := topS 20
abbrev N_l_name : List Str := ["_law_bag_here", "_law_some", "_law_k"]
theorem sc_l_name : FnScope N_l_name ["_law_bag_here"] (defScope s_l_name) := ⟨rfl, rfl, rfl, by decide +kernel, rfl, by decide +kernel, by decide +kernel⟩
abbrev s_l_any_term : Stmt := topS 21
abbrev N_l_any_term : List Str := ["_law_bag_here", "_law_deep", "_law_many", "_law_k"]
theorem sc_l_any_term : FnScope N_l_any_term ["_law_bag_here", "_law_deep"] (defScope s_l_any_term) := ⟨rfl, rfl, rfl, by decide +kernel, rfl, by decide +kernel, by decide +kernel⟩
abbrev s_l_bent : Stmt := topS 22
abbrev N_l_bent : List Str := ["_law_bag_here", "_law_thing", "_law_way", "_law_at", "_law_some"]
theorem sc_l_bent : FnScope N_l_bent ["_law_bag_here", "_law_thing"] (defScope s_l_bent) := ⟨rfl, rfl, rfl, by decide +kernel, rfl, by decide +kernel, by decide +kernel⟩
abbrev s_l_any_code : Stmt := topS 23
abbrev N_l_any_code : List Str := ["_law_bag_here", "_law_deep", "_law_guarded", "_law_one_here", "_law_other"]
theorem sc_l_any_code : FnScope N_l_any_code ["_law_bag_here", "_law_deep", "_law_guarded"] (defScope s_l_any_code) := ⟨rfl, rfl, rfl, by decide +kernel, rfl, by decide +kernel, by decide +kernel⟩
abbrev s_l_drawn : Stmt := topS 24
abbrev N_l_drawn : List Str := ["_law_bag_here", "_law_way", "_law_one_here", "_law_other", "_law_met", "_law_some"]
theorem sc_l_drawn : FnScope N_l_drawn ["_law_bag_here"] (defScope s_l_drawn) := ⟨rfl, rfl, rfl, by decide +kernel, rfl, by decide +kernel, by decide +kernel⟩
abbrev s_law : Stmt := topS 25
abbrev N_law : List Str := ["_law_script", "_law_bag_here", "_law_things", "_law_turn", "_law_thing", "_law_again", "_law_kept", "_law_found", "_law_a", "_law_b", "_law_deep", "_law_bad", "_law_k"]
theorem sc_law : FnScope N_law ["_law_script"] (defScope s_law) := ⟨rfl, rfl, rfl, by decide +kernel, rfl, by decide +kernel, by decide +kernel⟩
structure Tab where
  f_is_name : Addr
  fd_is_name : FuncData
  f_is_term : Addr
  fd_is_term : FuncData
  f_is_fork : Addr
  fd_is_fork : FuncData
  f_is_forked : Addr
  fd_is_forked : FuncData
  f_is_guard : Addr
  fd_is_guard : FuncData
  f_is_fact : Addr
  fd_is_fact : FuncData
  f__is_guard_end : Addr
  fd__is_guard_end : FuncData
  f_l_bag : Addr
  fd_l_bag : FuncData
  f_l_take : Addr
  fd_l_take : FuncData
  f_l_alike : Addr
  fd_l_alike : FuncData
  f_l_one : Addr
  fd_l_one : FuncData
  f_l_odd : Addr
  fd_l_odd : FuncData
  f_l_is_name : Addr
  fd_l_is_name : FuncData
  f_l_is_term : Addr
  fd_l_is_term : FuncData
  f_l_is_ending : Addr
  fd_l_is_ending : FuncData
  f_l_is_word : Addr
  fd_l_is_word : FuncData
  f_l_is_fact : Addr
  fd_l_is_fact : FuncData
  f_l_name : Addr
  fd_l_name : FuncData
  f_l_any_term : Addr
  fd_l_any_term : FuncData
  f_l_bent : Addr
  fd_l_bent : FuncData
  f_l_any_code : Addr
  fd_l_any_code : FuncData
  f_l_drawn : Addr
  fd_l_drawn : FuncData
  f_law : Addr
  fd_law : FuncData
  a_NO_NAMES : Addr
structure Tx (K : PySem.W.Frag) (mg : Str → Option Value) (t : Tab) : Prop where
  F_is_name : Fun K "is_name" "is_name" s_is_name t.f_is_name t.fd_is_name
  b_is_name : Binds K t.fd_is_name ["thing"] []
  g_is_name : mg "is_name" = some (.ref t.f_is_name)
  F_is_term : Fun K "is_term" "is_term" s_is_term t.f_is_term t.fd_is_term
  b_is_term : Binds K t.fd_is_term ["thing"] []
  g_is_term : mg "is_term" = some (.ref t.f_is_term)
  F_is_fork : Fun K "is_fork" "is_fork" s_is_fork t.f_is_fork t.fd_is_fork
  b_is_fork : Binds K t.fd_is_fork ["thing"] []
  g_is_fork : mg "is_fork" = some (.ref t.f_is_fork)
  F_is_forked : Fun K "is_forked" "is_forked" s_is_forked t.f_is_forked t.fd_is_forked
  b_is_forked : Binds K t.fd_is_forked ["thing", "is_end"] []
  g_is_forked : mg "is_forked" = some (.ref t.f_is_forked)
  F_is_guard : Fun K "is_guard" "is_guard" s_is_guard t.f_is_guard t.fd_is_guard
  b_is_guard : Binds K t.fd_is_guard ["thing"] []
  g_is_guard : mg "is_guard" = some (.ref t.f_is_guard)
  F_is_fact : Fun K "is_fact" "is_fact" s_is_fact t.f_is_fact t.fd_is_fact
  b_is_fact : Binds K t.fd_is_fact ["thing"] []
  g_is_fact : mg "is_fact" = some (.ref t.f_is_fact)
  F__is_guard_end : Fun K "_is_guard_end" "_is_guard_end" s__is_guard_end t.f__is_guard_end t.fd__is_guard_end
  b__is_guard_end : Binds K t.fd__is_guard_end ["thing"] []
  g__is_guard_end : mg "_is_guard_end" = some (.ref t.f__is_guard_end)
  F_l_bag : Fun K "_law_bag" "_law_bag" s_l_bag t.f_l_bag t.fd_l_bag
  b_l_bag : Binds K t.fd_l_bag ["_law_script"] []
  g_l_bag : mg "_law_bag" = some (.ref t.f_l_bag)
  F_l_take : Fun K "_law_take" "_law_take" s_l_take t.f_l_take t.fd_l_take
  b_l_take : Binds K t.fd_l_take ["_law_bag_here", "_law_many"] []
  g_l_take : mg "_law_take" = some (.ref t.f_l_take)
  F_l_alike : Fun K "_law_alike" "_law_alike" s_l_alike t.f_l_alike t.fd_l_alike
  b_l_alike : Binds K t.fd_l_alike ["_law_found", "_law_due"] []
  g_l_alike : mg "_law_alike" = some (.ref t.f_l_alike)
  F_l_one : Fun K "_law_one" "_law_one" s_l_one t.f_l_one t.fd_l_one
  b_l_one : Binds K t.fd_l_one ["_law_bag_here", "_law_some"] []
  g_l_one : mg "_law_one" = some (.ref t.f_l_one)
  F_l_odd : Fun K "_law_odd" "_law_odd" s_l_odd t.f_l_odd t.fd_l_odd
  b_l_odd : Binds K t.fd_l_odd ["_law_bag_here"] []
  g_l_odd : mg "_law_odd" = some (.ref t.f_l_odd)
  F_l_is_name : Fun K "_law_is_name" "_law_is_name" s_l_is_name t.f_l_is_name t.fd_l_is_name
  b_l_is_name : Binds K t.fd_l_is_name ["_law_thing"] []
  g_l_is_name : mg "_law_is_name" = some (.ref t.f_l_is_name)
  F_l_is_term : Fun K "_law_is_term" "_law_is_term" s_l_is_term t.f_l_is_term t.fd_l_is_term
  b_l_is_term : Binds K t.fd_l_is_term ["_law_thing"] []
  g_l_is_term : mg "_law_is_term" = some (.ref t.f_l_is_term)
  F_l_is_ending : Fun K "_law_is_ending" "_law_is_ending" s_l_is_ending t.f_l_is_ending t.fd_l_is_ending
  b_l_is_ending : Binds K t.fd_l_is_ending ["_law_thing", "_law_is_end"] []
  g_l_is_ending : mg "_law_is_ending" = some (.ref t.f_l_is_ending)
  F_l_is_word : Fun K "_law_is_word" "_law_is_word" s_l_is_word t.f_l_is_word t.fd_l_is_word
  b_l_is_word : Binds K t.fd_l_is_word ["_law_thing"] []
  g_l_is_word : mg "_law_is_word" = some (.ref t.f_l_is_word)
  F_l_is_fact : Fun K "_law_is_fact" "_law_is_fact" s_l_is_fact t.f_l_is_fact t.fd_l_is_fact
  b_l_is_fact : Binds K t.fd_l_is_fact ["_law_thing"] []
  g_l_is_fact : mg "_law_is_fact" = some (.ref t.f_l_is_fact)
  F_l_name : Fun K "_law_name" "_law_name" s_l_name t.f_l_name t.fd_l_name
  b_l_name : Binds K t.fd_l_name ["_law_bag_here"] []
  g_l_name : mg "_law_name" = some (.ref t.f_l_name)
  F_l_any_term : Fun K "_law_any_term" "_law_any_term" s_l_any_term t.f_l_any_term t.fd_l_any_term
  b_l_any_term : Binds K t.fd_l_any_term ["_law_bag_here", "_law_deep"] []
  g_l_any_term : mg "_law_any_term" = some (.ref t.f_l_any_term)
  F_l_bent : Fun K "_law_bent" "_law_bent" s_l_bent t.f_l_bent t.fd_l_bent
  b_l_bent : Binds K t.fd_l_bent ["_law_bag_here", "_law_thing"] []
  g_l_bent : mg "_law_bent" = some (.ref t.f_l_bent)
  F_l_any_code : Fun K "_law_any_code" "_law_any_code" s_l_any_code t.f_l_any_code t.fd_l_any_code
  b_l_any_code : Binds K t.fd_l_any_code ["_law_bag_here", "_law_deep", "_law_guarded"] []
  g_l_any_code : mg "_law_any_code" = some (.ref t.f_l_any_code)
  F_l_drawn : Fun K "_law_drawn" "_law_drawn" s_l_drawn t.f_l_drawn t.fd_l_drawn
  b_l_drawn : Binds K t.fd_l_drawn ["_law_bag_here"] []
  g_l_drawn : mg "_law_drawn" = some (.ref t.f_l_drawn)
  F_law : Fun K "law" "law" s_law t.f_law t.fd_law
  b_law : Binds K t.fd_law ["_law_script"] []
  g_law : mg "law" = some (.ref t.f_law)
  z_abs : mg "abs" = none
  z_all : mg "all" = none
  z_int : mg "int" = none
  z_isinstance : mg "isinstance" = none
  z_len : mg "len" = none
  z_list : mg "list" = none
  z_range : mg "range" = none
  z_repr : mg "repr" = none
  z_str : mg "str" = none
  z_tuple : mg "tuple" = none
  g_NO_NAMES : mg "_NO_NAMES" = some (.ref t.a_NO_NAMES)
  c_NO_NAMES : Rep K (fun _ => none) (.ref t.a_NO_NAMES) c_NO_NAMES
section
variable {P : Program} {w : World} {K : PySem.W.Frag} {mg : Str → Option Value} {base : Heap} {t : Tab}
theorem ok_is_name (T : Tx K mg t) : FnG P w K mg base L2.CX0 1 t.f_is_name t.fd_is_name ["thing"] (sp_is_name K) := by
  refine ok_G T.F_is_name sc_is_name (len_P (n := 1) n_is_name) (fun cdv A outer s H vs Q E hr h => ⟨t_is_name K t.a_NO_NAMES, ?_, body_P (N := N_is_name) (fun b => m_is_name T.c_NO_NAMES) (dat_is_name) h⟩)
  · show PSs _ _ ((tSeq (tIfS (tOr (tNot (tB (tCB (rIsi K) (tCons (tVar 0) (tCons (tC (.ty "str")) tNil))))) (tNot (tTest (tChain (rLtU (fun i j => decide (i ≤ j)) fun i j => !ltS j i) (rLtU (fun i j => decide (i ≤ j)) fun i j => !ltS j i) (tC (.int 1)) (tCB (rLenU K) (tCons (tVar 0) tNil)) (tC (.int 8)))))) (tRet (tC (.bl false))) tNext)
    (tRet (tAndV (tOp (rInU K true) (tVar 0) (tC (.ref t.a_NO_NAMES))) (tCB (rAll K) (tCons (tLc (iStr (tVar 0)) (gName 1) tYes (tChain (rLtU (fun i j => decide (i ≤ j)) fun i j => !ltS j i) (rLtU (fun i j => decide (i ≤ j)) fun i j => !ltS j i) (tC (.str "a")) (tVar 1) (tC (.str "z"))) [1]) tNil))))))
    exact (pss_cons (ps_if (PW.pt (pw_or (pt_not (pt_val (pe_callB call_isi (by rfl) T.z_isinstance (by decide +kernel) (pa_cons (pv 0) (pa_cons (pe_bltn (by rfl) T.z_str (by decide +kernel) rfl) pa_nil))))) (pw_or1 (pt_not (pt_chain op_leU op_leU  pe_int (pe_callB call_lenU (by rfl) T.z_len (by decide +kernel) (pa_cons (pv 0) pa_nil)) pe_int))))) (pss_one (ps_ret pe_bl)) pss_nil)
    (pss_one (ps_ret (pe_and (pe_cmpR (op_notInU hr.r.units)  (pv 0) (pe_glob (by rfl) T.g_NO_NAMES rfl) (by first | exact nomark _ | rfl)) (pe_one (pe_callB (cr_all (by rfl)) (by rfl) T.z_all (by decide +kernel) (pa_cons (pe_lc (own := [("sign", 1)]) (g := (gName 1)) rfl sc_is_name.nd (pi_str (pv 0)) (blkOk_by (own := [("sign", 1)]) (N := N_is_name) (sc := defScope s_is_name) (by decide +kernel)) (fun _ _ _ _ _ => (pg_name (i := 1) sc_is_name.nd rfl (Or.inl rfl))) (fun _ _ _ _ _ => pts_nil) (fun _ _ _ _ _ => (pe_chain op_leU op_leU  pe_str (pv 1) pe_str))) pa_nil)))))))
theorem ok__is_guard_end (T : Tx K mg t) : FnG P w K mg base L2.CX0 1 t.f__is_guard_end t.fd__is_guard_end ["thing"] (sp__is_guard_end K) := by
  refine ok_G T.F__is_guard_end sc__is_guard_end (len_P (n := 1) n__is_guard_end) (fun cdv A outer s H vs Q E hr h => ⟨t__is_guard_end K, ?_, body_P (N := N__is_guard_end) (fun b => m__is_guard_end) (dat__is_guard_end) h⟩)
  · show PSs _ _ ((tRet (tOp (rInU K false) (tVar 0) (tTup (tCons (tTup (tCons (tC (.str "yes")) tNil)) (tCons (tTup (tCons (tC (.str "no")) tNil)) tNil))))))
    exact (pss_one (ps_ret (pe_cmpR (op_inU hr.r.units)  (pv 0) (pe_tup (pa_cons (pe_tup (pa_cons pe_str pa_nil)) (pa_cons (pe_tup (pa_cons pe_str pa_nil)) pa_nil))) (by first | exact nomark _ | rfl))))
theorem ok_l_bag (T : Tx K mg t) : FnG P w K mg base L2.CX0 1 t.f_l_bag t.fd_l_bag ["_law_script"] (sp_l_bag K) := by
  refine ok_G T.F_l_bag sc_l_bag len_bag (fun cdv A outer s H vs Q E hr h => ⟨q_l_bag K, ?_, bag_body h⟩)
  · show PSs _ _ ((tRet (tLst (tCons (tC (.int 0)) (tCons (tC (.int 1234567891)) (tCons (tC (.int 0)) (tCons (tLc (iList K (tSl (rSlU K) (tVar 0) tNoPart (tPart (tC (.int 63))))) (gName 1) tYes (tCB rAbs1 (tCons (tVar 1) tNil)) [1]) tNil)))))))
    exact (pss_one (ps_ret (pe_lst (pa_cons pe_int (pa_cons pe_int (pa_cons pe_int (pa_cons (pe_lc (own := [("_law_cell", 1)]) (g := (gName 1)) rfl sc_l_bag.nd (pi_list (pe_slice sl_U (pv 0) po_none (po_some pe_int))) (blkOk_by (own := [("_law_cell", 1)]) (N := N_l_bag) (sc := defScope s_l_bag) (by decide +kernel)) (fun _ _ _ _ _ => (pg_name (i := 1) sc_l_bag.nd rfl (Or.inl rfl))) (fun _ _ _ _ _ => pts_nil) (fun _ _ _ _ _ => (pe_callB call_abs' (by rfl) T.z_abs (by decide +kernel) (pa_cons (pv 1) pa_nil)))) pa_nil)))))))
theorem ok_l_take (T : Tx K mg t) : FnG P w K mg base L2.CX0 1 t.f_l_take t.fd_l_take ["_law_bag_here", "_law_many"] (sp_l_take K) := by
  refine ok_G T.F_l_take sc_l_take (len_G (n := 1) n_l_take) (fun cdv A outer s H vs Q E hr h => ⟨t_l_take K, ?_, body_G (N := N_l_take) (fun b => m_l_take) (dat_l_take) h⟩)
  · show PSs _ _ ((tSeq (tIfS (tTest (tOp (rEqU K) (tOp (rIx K) (tVar 0) (tC (.int 0))) (tC (.int 0)))) (tSeq (tAsg (tOp (rIx K) (tOp (rAddU K) (tSl (rSlU K) (tOp (rIx K) (tVar 0) (tC (.int 3))) (tPart (tOp (rIx K) (tVar 0) (tC (.int 2)))) tNoPart) (tLst (tCons (tC (.int 0)) tNil))) (tC (.int 0))) (gName 2))
    (tSeq (tAugS (tVar 0) (tC (.int 2)) (tC (.int 1)) (rAt K) (ipI fun i j => i + j) rSetL)
    (tSeq (tAsg (tOp (rI CMul fun i j => .int (i * j)) (tVar 2) (tCB rInt1 (tCons (tOp (rLtU (fun i j => decide (j ≤ i)) fun i j => !ltS i j) (tVar 2) (tOp (rI CPow fun i j => .int (i ^ j.toNat)) (tC (.int 10)) (tC (.int 18)))) tNil))) (gSub (tVar 0) (tC (.int 0)) rSetL))
    (tSeq (tAsg (tOp (rAddU K) (tOp (rAddU K) (tOp (rI CMul fun i j => .int (i * j)) (tOp (rIx K) (tVar 0) (tC (.int 1))) (tC (.int 48271))) (tOp (rI (fun _ j => j ≠ 0) fun i j => .int (i.fmod j)) (tCB rInt1 (tCons (tVar 2) tNil)) (tC (.int 2147483647)))) (tOp (rI CMul fun i j => .int (i * j)) (tC (.int 7919)) (tOp (rIx K) (tVar 0) (tC (.int 2))))) (gName 3))
    (tAsg (tOp (rI (fun _ j => j ≠ 0) fun i j => .int (i.fmod j)) (tCB rInt1 (tCons (tVar 3) tNil)) (tC (.int 2147483647))) (gSub (tVar 0) (tC (.int 1)) rSetL)))))) tNext)
    (tSeq (tIfS (tTest (tOp (rLtU (fun i j => decide (j < i)) fun i j => ltS j i) (tOp (rIx K) (tVar 0) (tC (.int 0))) (tC (.int 0)))) (tSeq (tAsg (tTup (tCons (tOp (rI (fun _ j => j ≠ 0) fun i j => .int (i.fmod j)) (tCB rInt1 (tCons (tOp (rIx K) (tVar 0) (tC (.int 0))) tNil)) (tVar 1)) (tCons (tOp (rI CDivW fun i j => .int (i / j)) (tCB rInt1 (tCons (tOp (rIx K) (tVar 0) (tC (.int 0))) tNil)) (tVar 1)) tNil))) (gTup K 2 (gCons (gName 4) (gCons (gSub (tVar 0) (tC (.int 0)) rSetL) gNil))))
    (tRet (tVar 4))) tNext)
    (tSeq (tAsg (tOp (rI (fun _ j => j ≠ 0) fun i j => .int (i.fmod j)) (tCB rInt1 (tCons (tOp (rI CMul fun i j => .int (i * j)) (tOp (rAddU K) (tOp (rIx K) (tVar 0) (tC (.int 1))) (tC (.int 1))) (tC (.int 39373))) tNil)) (tC (.int 1000000007))) (gName 5))
    (tSeq (tAsg (tOp (rI (fun _ j => j ≠ 0) fun i j => .int (i.fmod j)) (tCB rInt1 (tCons (tOp (rI CMul fun i j => .int (i * j)) (tOp (rI (fun _ j => j ≠ 0) fun i j => .int (i.fmod j)) (tCB rInt1 (tCons (tOp (rI CMul fun i j => .int (i * j)) (tVar 5) (tVar 5)) tNil)) (tC (.int 998244353))) (tC (.int 30011))) tNil)) (tC (.int 998244353))) (gName 6))
    (tRet (tOp (rI (fun _ j => j ≠ 0) fun i j => .int (i.fmod j)) (tCB rInt1 (tCons (tOp (rI CDivW fun i j => .int (i / j)) (tVar 6) (tC (.int 7))) tNil)) (tVar 1))))))))
    exact (pss_cons (ps_if (pt_cmpR (op_eqU hr.r.units)  (pe_ix ix_seq (pv 0) pe_int (fun _ _ => rfl)) pe_int (nomark _)) (pss_cons (ps_set (i := 2) sc_l_take.nd rfl (Or.inl rfl) (pe_ix ix_seq (pe_op op_addU (pe_slice sl_U (pe_ix ix_seq (pv 0) pe_int (fun _ _ => rfl)) (po_some (pe_ix ix_seq (pv 0) pe_int (fun _ _ => rfl))) po_none) (pe_lst (pa_cons pe_int pa_nil))) pe_int (fun _ _ => rfl)))
    (pss_cons (ps_augS (pv 0) pe_int pget_list pe_int ip_add set_list)
    (pss_cons (ps_asg (pe_op op_mul (pv 2) (pe_callTy call_int1' (by rfl) T.z_int (by decide +kernel) (pa_cons (pe_cmpR op_geU  (pv 2) (pe_op op_pow pe_int pe_int) (nomark _)) pa_nil))) (pg_sub (pv 0) pe_int set_list))
    (pss_cons (ps_set (i := 3) sc_l_take.nd rfl (Or.inl rfl) (pe_op op_addU (pe_op op_addU (pe_op op_mul (pe_ix ix_seq (pv 0) pe_int (fun _ _ => rfl)) pe_int) (pe_op op_modN (pe_callTy call_int1' (by rfl) T.z_int (by decide +kernel) (pa_cons (pv 2) pa_nil)) pe_int)) (pe_op op_mul pe_int (pe_ix ix_seq (pv 0) pe_int (fun _ _ => rfl)))))
    (pss_one (ps_asg (pe_op op_modN (pe_callTy call_int1' (by rfl) T.z_int (by decide +kernel) (pa_cons (pv 3) pa_nil)) pe_int) (pg_sub (pv 0) pe_int set_list))))))) pss_nil)
    (pss_cons (ps_if (pt_cmpR op_gtU  (pe_ix ix_seq (pv 0) pe_int (fun _ _ => rfl)) pe_int (nomark _)) (pss_cons (ps_asg (pe_tup (pa_cons (pe_op op_modN (pe_callTy call_int1' (by rfl) T.z_int (by decide +kernel) (pa_cons (pe_ix ix_seq (pv 0) pe_int (fun _ _ => rfl)) pa_nil)) (pv 1)) (pa_cons (pe_op op_fdivW (pe_callTy call_int1' (by rfl) T.z_int (by decide +kernel) (pa_cons (pe_ix ix_seq (pv 0) pe_int (fun _ _ => rfl)) pa_nil)) (pv 1)) pa_nil))) (pg_tup rfl (pgs_cons (pg_name (i := 4) sc_l_take.nd rfl (Or.inl rfl)) (pgs_cons (pg_sub (pv 0) pe_int set_list) pgs_nil))))
    (pss_one (ps_ret (pv 4)))) pss_nil)
    (pss_cons (ps_set (i := 5) sc_l_take.nd rfl (Or.inl rfl) (pe_op op_modN (pe_callTy call_int1' (by rfl) T.z_int (by decide +kernel) (pa_cons (pe_op op_mul (pe_op op_addU (pe_ix ix_seq (pv 0) pe_int (fun _ _ => rfl)) pe_int) pe_int) pa_nil)) pe_int))
    (pss_cons (ps_set (i := 6) sc_l_take.nd rfl (Or.inl rfl) (pe_op op_modN (pe_callTy call_int1' (by rfl) T.z_int (by decide +kernel) (pa_cons (pe_op op_mul (pe_op op_modN (pe_callTy call_int1' (by rfl) T.z_int (by decide +kernel) (pa_cons (pe_op op_mul (pv 5) (pv 5)) pa_nil)) pe_int) pe_int) pa_nil)) pe_int))
    (pss_one (ps_ret (pe_op op_modN (pe_callTy call_int1' (by rfl) T.z_int (by decide +kernel) (pa_cons (pe_op op_fdivW (pv 6) pe_int) pa_nil)) (pv 1))))))))
theorem ok_l_alike (T : Tx K mg t) : FnG P w K mg base L2.CX0 1 t.f_l_alike t.fd_l_alike ["_law_found", "_law_due"] (sp_l_alike K) := by
  refine ok_G T.F_l_alike sc_l_alike (len_P (n := 2) n_l_alike) (fun cdv A outer s H vs Q E hr h => ⟨t_l_alike K, ?_, body_P (N := N_l_alike) (fun b => m_l_alike) (dat_l_alike) h⟩)
  · show PSs _ _ ((tRet (tAndV (tOp (rEqU K) (tVar 0) (tVar 1)) (tOp (rEqU K) (tCB (rRepr K) (tCons (tVar 0) tNil)) (tCB (rRepr K) (tCons (tVar 1) tNil))))))
    exact (pss_one (ps_ret (pe_and (pe_cmpR (op_eqU hr.r.units)  (pv 0) (pv 1) (nomark _)) (pe_one (pe_cmpR (op_eqU hr.r.units)  (pe_callB (call_repr hr) (by rfl) T.z_repr (by decide +kernel) (pa_cons (pv 0) pa_nil)) (pe_callB (call_repr hr) (by rfl) T.z_repr (by decide +kernel) (pa_cons (pv 1) pa_nil)) (nomark _))))))
theorem ok_l_is_name (T : Tx K mg t) : FnG P w K mg base L2.CX0 1 t.f_l_is_name t.fd_l_is_name ["_law_thing"] (sp_l_is_name K) := by
  refine ok_G T.F_l_is_name sc_l_is_name (len_P (n := 1) n_l_is_name) (fun cdv A outer s H vs Q E hr h => ⟨t_l_is_name K, ?_, body_P (N := N_l_is_name) (fun b => m_l_is_name) (dat_l_is_name) h⟩)
  · show PSs _ _ ((tSeq (tIfS (tOr (tNot (tB (tCB (rIsi K) (tCons (tVar 0) (tCons (tC (.ty "str")) tNil))))) (tNot (tTest (tChain (rLtU (fun i j => decide (i < j)) fun i j => ltS i j) (rLtU (fun i j => decide (i < j)) fun i j => ltS i j) (tC (.int 0)) (tCB (rLenU K) (tCons (tVar 0) tNil)) (tC (.int 9)))))) (tRet (tC (.bl false))) tNext)
    (tSeq (tIfS (tTest (tOp (rInU K false) (tVar 0) (tLst (tCons (tC (.str "alike")) (tCons (tC (.str "go")) (tCons (tC (.str "if")) (tCons (tC (.str "no")) (tCons (tC (.str "tell")) (tCons (tC (.str "unlike")) (tCons (tC (.str "with")) (tCons (tC (.str "yes")) tNil))))))))))) (tRet (tC (.bl false))) tNext)
    (tRet (tOp (rEqU K) (tLc (iStr (tVar 0)) (gName 1) (tNot (tTest (tChain (rLtU (fun i j => decide (i ≤ j)) fun i j => !ltS j i) (rLtU (fun i j => decide (i ≤ j)) fun i j => !ltS j i) (tC (.str "a")) (tVar 1) (tC (.str "z"))))) (tVar 1) [1]) (tLst tNil))))))
    exact (pss_cons (ps_if (PW.pt (pw_or (pt_not (pt_val (pe_callB call_isi (by rfl) T.z_isinstance (by decide +kernel) (pa_cons (pv 0) (pa_cons (pe_bltn (by rfl) T.z_str (by decide +kernel) rfl) pa_nil))))) (pw_or1 (pt_not (pt_chain op_ltU op_ltU  pe_int (pe_callB call_lenU (by rfl) T.z_len (by decide +kernel) (pa_cons (pv 0) pa_nil)) pe_int))))) (pss_one (ps_ret pe_bl)) pss_nil)
    (pss_cons (ps_if (pt_cmpR (op_inU hr.r.units)  (pv 0) (pe_lst (pa_cons pe_str (pa_cons pe_str (pa_cons pe_str (pa_cons pe_str (pa_cons pe_str (pa_cons pe_str (pa_cons pe_str (pa_cons pe_str pa_nil))))))))) (by first | exact nomark _ | rfl)) (pss_one (ps_ret pe_bl)) pss_nil)
    (pss_one (ps_ret (pe_cmpR (op_eqU hr.r.units)  (pe_lc (own := [("_law_sign", 1)]) (g := (gName 1)) rfl sc_l_is_name.nd (pi_str (pv 0)) (blkOk_by (own := [("_law_sign", 1)]) (N := N_l_is_name) (sc := defScope s_l_is_name) (by decide +kernel)) (fun _ _ _ _ _ => (pg_name (i := 1) sc_l_is_name.nd rfl (Or.inl rfl))) (fun _ _ _ _ _ => pts_one (pt_not (pt_chain op_leU op_leU  pe_str (pv 1) pe_str))) (fun _ _ _ _ _ => (pv 1))) (pe_lst pa_nil) (nomark _))))))
theorem ok_l_is_word (T : Tx K mg t) : FnG P w K mg base L2.CX0 1 t.f_l_is_word t.fd_l_is_word ["_law_thing"] (sp_l_is_word K) := by
  refine ok_G T.F_l_is_word sc_l_is_word (len_P (n := 1) n_l_is_word) (fun cdv A outer s H vs Q E hr h => ⟨t_l_is_word K, ?_, body_P (N := N_l_is_word) (fun b => m_l_is_word) (dat_l_is_word) h⟩)
  · show PSs _ _ ((tRet (tAndV (tCB (rIsi K) (tCons (tVar 0) (tCons (tC (.ty "tuple")) tNil))) (tAndV (tOp (rEqU K) (tCB (rLenU K) (tCons (tVar 0) tNil)) (tC (.int 1))) (tAndV (tCB (rIsi K) (tCons (tOp (rIx K) (tVar 0) (tC (.int 0))) (tCons (tC (.ty "str")) tNil))) (tOp (rInU K false) (tOp (rIx K) (tVar 0) (tC (.int 0))) (tTup (tCons (tC (.str "yes")) (tCons (tC (.str "no")) tNil)))))))))
    exact (pss_one (ps_ret (pe_and (pe_callB call_isi (by rfl) T.z_isinstance (by decide +kernel) (pa_cons (pv 0) (pa_cons (pe_bltn (by rfl) T.z_tuple (by decide +kernel) rfl) pa_nil))) (pe_and (pe_cmpR (op_eqU hr.r.units)  (pe_callB call_lenU (by rfl) T.z_len (by decide +kernel) (pa_cons (pv 0) pa_nil)) pe_int (nomark _)) (pe_and (pe_callB call_isi (by rfl) T.z_isinstance (by decide +kernel) (pa_cons (pe_ix ix_seq (pv 0) pe_int (fun _ _ => rfl)) (pa_cons (pe_bltn (by rfl) T.z_str (by decide +kernel) rfl) pa_nil))) (pe_one (pe_cmpR (op_inU hr.r.units)  (pe_ix ix_seq (pv 0) pe_int (fun _ _ => rfl)) (pe_tup (pa_cons pe_str (pa_cons pe_str pa_nil))) (by first | exact nomark _ | rfl))))))))
theorem ok_is_term (T : Tx K mg t) : FnG P w K mg base L2.CX0 2 t.f_is_term t.fd_is_term ["thing"] (sp_is_term K) := by
  refine ok_G T.F_is_term sc_is_term (len_P (n := 1) n_is_term) (fun cdv A outer s H vs Q E hr h => ⟨t_is_term K, ?_, body_P (N := N_is_term) (fun b => m_is_term) (dat_is_term) h⟩)
  · show PSs _ _ ((tSeq (tAsg (tLst (tCons (tVar 0) tNil)) (gName 1))
    (tSeq (tWhile (tTr K (tVar 1)) (tSeq (tAsg (tBM0 K "list" rPop (tVar 1)) (gName 2))
    (tSeq (tIfS (tOr (tNot (tB (tCB (rIsi K) (tCons (tVar 2) (tCons (tC (.ty "tuple")) tNil))))) (tOr (tNot (tTr K (tVar 2))) (tNot (tB (tCall (sp_is_name K) [] E0 (tCons (tOp (rIx K) (tVar 2) (tC (.int 0))) tNil)))))) (tRet (tC (.bl false))) tNext)
    (tDrop (tBM K "list" (rExtendT K) (tVar 1) (tCons (tSl (rSlU K) (tVar 2) (tPart (tC (.int 1))) tNoPart) tNil))))))
    (tRet (tC (.bl true))))))
    have G_is_name : FnG P w K mg base L2.CX0 1 t.f_is_name t.fd_is_name ["thing"] (sp_is_name K) := ok_is_name T
    exact (pss_cons (ps_set (i := 1) sc_is_term.nd rfl (Or.inl rfl) (pe_lst (pa_cons (pv 0) pa_nil)))
    (pss_cons (ps_while PassesOwn.never (pt_truth (pv 1) (fun _ => rfl)) (pss_cons (ps_set (i := 2) sc_is_term.nd rfl (Or.inl rfl) (pe_bm0 PySem.F.plainAttrs_list PySem.F.slot_list_pop PySem.F.type_list_pop mt_pop (pv 1)))
    (pss_cons (ps_if (PW.pt (pw_or (pt_not (pt_val (pe_callB call_isi (by rfl) T.z_isinstance (by decide +kernel) (pa_cons (pv 2) (pa_cons (pe_bltn (by rfl) T.z_tuple (by decide +kernel) rfl) pa_nil))))) (pw_or (pt_not (pt_truth (pv 2) (fun _ => rfl))) (pw_or1 (pt_not (pt_val (pe_g G_is_name (hr.mono (by decide)) (by rfl) T.g_is_name T.F_is_name.kp T.b_is_name .nil pass0 (pa_cons (pe_ix ix_seq (pv 2) pe_int (fun _ _ => rfl)) pa_nil)))))))) (pss_one (ps_ret pe_bl)) pss_nil)
    (pss_one (ps_expr (pe_bm PySem.F.plainAttrs_list PySem.F.slot_list_extend PySem.F.type_list_extend mt_extendT (pv 1) (pa_cons (pe_slice sl_U (pv 2) (po_some pe_int) po_none) pa_nil)))))))
    (pss_one (ps_ret pe_bl))))
theorem ok_l_one (T : Tx K mg t) : FnG P w K mg base L2.CX0 2 t.f_l_one t.fd_l_one ["_law_bag_here", "_law_some"] (sp_l_one K) := by
  refine ok_G T.F_l_one sc_l_one (len_G (n := 1) n_l_one) (fun cdv A outer s H vs Q E hr h => ⟨t_l_one K, ?_, body_G (N := N_l_one) (fun b => m_l_one) (dat_l_one) h⟩)
  · show PSs _ _ ((tRet (tOp (rIx K) (tVar 1) (tCall (sp_l_take K) [] E0 (tCons (tVar 0) (tCons (tCB (rLenU K) (tCons (tVar 1) tNil)) tNil))))))
    have G_l_take : FnG P w K mg base L2.CX0 1 t.f_l_take t.fd_l_take ["_law_bag_here", "_law_many"] (sp_l_take K) := ok_l_take T
    exact (pss_one (ps_ret (pe_ix ix_seq (pv 1) (pe_g G_l_take (hr.mono (by decide)) (by rfl) T.g_l_take T.F_l_take.kp T.b_l_take .nil pass0 (pa_cons (pv 0) (pa_cons (pe_callB call_lenU (by rfl) T.z_len (by decide +kernel) (pa_cons (pv 1) pa_nil)) pa_nil))) (fun _ _ => rfl))))
theorem ok_is_fork (T : Tx K mg t) : FnG P w K mg base L2.CX0 3 t.f_is_fork t.fd_is_fork ["thing"] (sp_is_fork K) := by
  refine ok_G T.F_is_fork sc_is_fork (len_P (n := 1) n_is_fork) (fun cdv A outer s H vs Q E hr h => ⟨t_is_fork K, ?_, body_P (N := N_is_fork) (fun b => m_is_fork) (dat_is_fork) h⟩)
  · show PSs _ _ ((tSeq (tIfS (tOr (tNot (tB (tCB (rIsi K) (tCons (tVar 0) (tCons (tC (.ty "tuple")) tNil))))) (tTest (tOp (rNeU K) (tCB (rLenU K) (tCons (tVar 0) tNil)) (tC (.int 5))))) (tRet (tC (.bl false))) tNext)
    (tRet (tAndV (tOp (rEqU K) (tOp (rIx K) (tVar 0) (tC (.int 0))) (tC (.str "if"))) (tAndV (tCall (sp_is_term K) [] E0 (tCons (tOp (rIx K) (tVar 0) (tC (.int 1))) tNil)) (tCall (sp_is_term K) [] E0 (tCons (tOp (rIx K) (tVar 0) (tC (.int 2))) tNil)))))))
    have G_is_term : FnG P w K mg base L2.CX0 2 t.f_is_term t.fd_is_term ["thing"] (sp_is_term K) := ok_is_term T
    exact (pss_cons (ps_if (PW.pt (pw_or (pt_not (pt_val (pe_callB call_isi (by rfl) T.z_isinstance (by decide +kernel) (pa_cons (pv 0) (pa_cons (pe_bltn (by rfl) T.z_tuple (by decide +kernel) rfl) pa_nil))))) (pw_or1 (pt_cmpR (op_neU hr.r.units)  (pe_callB call_lenU (by rfl) T.z_len (by decide +kernel) (pa_cons (pv 0) pa_nil)) pe_int (nomark _))))) (pss_one (ps_ret pe_bl)) pss_nil)
    (pss_one (ps_ret (pe_and (pe_cmpR (op_eqU hr.r.units)  (pe_ix ix_seq (pv 0) pe_int (fun _ _ => rfl)) pe_str (nomark _)) (pe_and (pe_g G_is_term (hr.mono (by decide)) (by rfl) T.g_is_term T.F_is_term.kp T.b_is_term .nil pass0 (pa_cons (pe_ix ix_seq (pv 0) pe_int (fun _ _ => rfl)) pa_nil)) (pe_one (pe_g G_is_term (hr.mono (by decide)) (by rfl) T.g_is_term T.F_is_term.kp T.b_is_term .nil pass0 (pa_cons (pe_ix ix_seq (pv 0) pe_int (fun _ _ => rfl)) pa_nil))))))))
theorem ok_is_fact (T : Tx K mg t) : FnG P w K mg base L2.CX0 3 t.f_is_fact t.fd_is_fact ["thing"] (sp_is_fact K) := by
  refine ok_G T.F_is_fact sc_is_fact (len_P (n := 1) n_is_fact) (fun cdv A outer s H vs Q E hr h => ⟨t_is_fact K, ?_, body_P (N := N_is_fact) (fun b => m_is_fact) (dat_is_fact) h⟩)
  · show PSs _ _ ((tSeq (tIfS (tOr (tNot (tB (tCB (rIsi K) (tCons (tVar 0) (tCons (tC (.ty "tuple")) tNil))))) (tTest (tOp (rNeU K) (tCB (rLenU K) (tCons (tVar 0) tNil)) (tC (.int 3))))) (tRet (tC (.bl false))) tNext)
    (tRet (tAndV (tOp (rInU K false) (tOp (rIx K) (tVar 0) (tC (.int 0))) (tTup (tCons (tC (.str "alike")) (tCons (tC (.str "unlike")) tNil)))) (tAndV (tCall (sp_is_term K) [] E0 (tCons (tOp (rIx K) (tVar 0) (tC (.int 1))) tNil)) (tCall (sp_is_term K) [] E0 (tCons (tOp (rIx K) (tVar 0) (tC (.int 2))) tNil)))))))
    have G_is_term : FnG P w K mg base L2.CX0 2 t.f_is_term t.fd_is_term ["thing"] (sp_is_term K) := ok_is_term T
    exact (pss_cons (ps_if (PW.pt (pw_or (pt_not (pt_val (pe_callB call_isi (by rfl) T.z_isinstance (by decide +kernel) (pa_cons (pv 0) (pa_cons (pe_bltn (by rfl) T.z_tuple (by decide +kernel) rfl) pa_nil))))) (pw_or1 (pt_cmpR (op_neU hr.r.units)  (pe_callB call_lenU (by rfl) T.z_len (by decide +kernel) (pa_cons (pv 0) pa_nil)) pe_int (nomark _))))) (pss_one (ps_ret pe_bl)) pss_nil)
    (pss_one (ps_ret (pe_and (pe_cmpR (op_inU hr.r.units)  (pe_ix ix_seq (pv 0) pe_int (fun _ _ => rfl)) (pe_tup (pa_cons pe_str (pa_cons pe_str pa_nil))) (by first | exact nomark _ | rfl)) (pe_and (pe_g G_is_term (hr.mono (by decide)) (by rfl) T.g_is_term T.F_is_term.kp T.b_is_term .nil pass0 (pa_cons (pe_ix ix_seq (pv 0) pe_int (fun _ _ => rfl)) pa_nil)) (pe_one (pe_g G_is_term (hr.mono (by decide)) (by rfl) T.g_is_term T.F_is_term.kp T.b_is_term .nil pass0 (pa_cons (pe_ix ix_seq (pv 0) pe_int (fun _ _ => rfl)) pa_nil))))))))
theorem ok_l_odd (T : Tx K mg t) : FnG P w K mg base L2.CX0 3 t.f_l_odd t.fd_l_odd ["_law_bag_here"] (sp_l_odd K) := by
  refine ok_G T.F_l_odd sc_l_odd (len_G (n := 0) n_l_odd) (fun cdv A outer s H vs Q E hr h => ⟨t_l_odd K, ?_, body_G (N := N_l_odd) (fun b => m_l_odd) (dat_l_odd) h⟩)
  · show PSs _ _ ((tSeq (tAsg (tLst (tCons (tC .non) (tCons (tC (.bl true)) (tCons (tC (.bl false)) (tCons (tC (.int 0)) (tCons (tC (.int 1)) (tCons (tC (.int 7)) (tCons (tUn (rU fun i => .int (-i)) (tC (.int 1))) (tCons (tOp (rI CPow fun i j => .int (i ^ j.toNat)) (tC (.int 10)) (tC (.int 39))) (tCons (tUn (rU fun i => .int (-i)) (tOp (rI CPow fun i j => .int (i ^ j.toNat)) (tC (.int 10)) (tC (.int 39)))) (tCons (tC (.str "")) (tCons (tC (.str "a")) (tCons (tC (.str "A")) (tCons (tC (.str "if")) (tCons (tC (.str "tell")) (tCons (tC (.str "yes")) (tCons (tC (.str "no")) (tCons (tC (.str "a1")) (tCons (tC (.str " ")) tNil))))))))))))))))))) (gName 1))
    (tSeq (tAsg (tOp (rAddU K) (tVar 1) (tLst (tCons (tC (.str "a\n")) (tCons (tC (.str "abcdefghi")) (tCons (tTup tNil) (tCons (tLst tNil) (tCons tDNewK (tCons (tTup (tCons (tC (.str "a")) tNil)) (tCons (tLst (tCons (tC (.str "a")) tNil)) (tCons (tTup (tCons (tC (.str "A")) tNil)) (tCons (tTup (tCons (tC (.str "if")) tNil)) (tCons (tTup (tCons (tC (.str "a")) (tCons (tC (.str "b")) tNil))) (tCons (tTup (tCons (tTup (tCons (tC (.str "a")) tNil)) tNil)) (tCons (tTup (tCons (tC (.str "a")) (tCons (tC (.int 0)) tNil))) tNil)))))))))))))) (gName 1))
    (tSeq (tAsg (tOp (rAddU K) (tVar 1) (tLst (tCons (tTup (tCons (tC (.str "a")) (tCons (tLst (tCons (tC (.str "b")) tNil)) tNil))) (tCons (tTup (tCons (tC (.str "tell")) tNil)) (tCons (tTup (tCons (tC (.str "yes")) (tCons (tC (.str "no")) tNil))) (tCons (tLst (tCons (tC (.str "yes")) tNil)) (tCons (tTup (tCons (tC (.str "alike")) (tCons (tTup (tCons (tC (.str "a")) tNil)) tNil))) (tCons (tDisp [((tC (.str "a")), (tC (.int 1)))]) (tCons (tDispT (tTup (tCons (tC (.str "a")) tNil)) (tC (.int 1))) (tCons (tTup (tCons (tC .non) tNil)) tNil)))))))))) (gName 1))
    (tSeq (tAsg (tOp (rAddU K) (tVar 1) (tLst (tCons (tLst (tCons (tLst tNil) tNil)) (tCons (tDisp [((tC (.int 1)), (tTup (tCons (tC (.str "a")) tNil)))]) tNil)))) (gName 1))
    (tRet (tCall (sp_l_one K) [] E0 (tCons (tVar 0) (tCons (tVar 1) tNil)))))))))
    have G_l_one : FnG P w K mg base L2.CX0 2 t.f_l_one t.fd_l_one ["_law_bag_here", "_law_some"] (sp_l_one K) := ok_l_one T
    exact (pss_cons (ps_set (i := 1) sc_l_odd.nd rfl (Or.inl rfl) (pe_lst (pa_cons pe_non (pa_cons pe_bl (pa_cons pe_bl (pa_cons pe_int (pa_cons pe_int (pa_cons pe_int (pa_cons (pe_un un_neg pe_int) (pa_cons (pe_op op_pow pe_int pe_int) (pa_cons (pe_un un_neg (pe_op op_pow pe_int pe_int)) (pa_cons pe_str (pa_cons pe_str (pa_cons pe_str (pa_cons pe_str (pa_cons pe_str (pa_cons pe_str (pa_cons pe_str (pa_cons pe_str (pa_cons pe_str pa_nil))))))))))))))))))))
    (pss_cons (ps_set (i := 1) sc_l_odd.nd rfl (Or.inl rfl) (pe_op op_addU (pv 1) (pe_lst (pa_cons pe_str (pa_cons pe_str (pa_cons (pe_tup pa_nil) (pa_cons (pe_lst pa_nil) (pa_cons pe_dnewK (pa_cons (pe_tup (pa_cons pe_str pa_nil)) (pa_cons (pe_lst (pa_cons pe_str pa_nil)) (pa_cons (pe_tup (pa_cons pe_str pa_nil)) (pa_cons (pe_tup (pa_cons pe_str pa_nil)) (pa_cons (pe_tup (pa_cons pe_str (pa_cons pe_str pa_nil))) (pa_cons (pe_tup (pa_cons (pe_tup (pa_cons pe_str pa_nil)) pa_nil)) (pa_cons (pe_tup (pa_cons pe_str (pa_cons pe_int pa_nil))) pa_nil)))))))))))))))
    (pss_cons (ps_set (i := 1) sc_l_odd.nd rfl (Or.inl rfl) (pe_op op_addU (pv 1) (pe_lst (pa_cons (pe_tup (pa_cons pe_str (pa_cons (pe_lst (pa_cons pe_str pa_nil)) pa_nil))) (pa_cons (pe_tup (pa_cons pe_str pa_nil)) (pa_cons (pe_tup (pa_cons pe_str (pa_cons pe_str pa_nil))) (pa_cons (pe_lst (pa_cons pe_str pa_nil)) (pa_cons (pe_tup (pa_cons pe_str (pa_cons (pe_tup (pa_cons pe_str pa_nil)) pa_nil))) (pa_cons (pe_disp (pps_cons pe_str pe_int pps_nil) (by rfl) (by rfl) (fun z => by cases z) (by decide)) (pa_cons (pe_dispT hr.r.units (pe_tup (pa_cons pe_str pa_nil)) pe_int) (pa_cons (pe_tup (pa_cons pe_non pa_nil)) pa_nil)))))))))))
    (pss_cons (ps_set (i := 1) sc_l_odd.nd rfl (Or.inl rfl) (pe_op op_addU (pv 1) (pe_lst (pa_cons (pe_lst (pa_cons (pe_lst pa_nil) pa_nil)) (pa_cons (pe_disp (pps_cons pe_int (pe_tup (pa_cons pe_str pa_nil)) pps_nil) (by rfl) (by rfl) (fun z => by cases z) (by decide)) pa_nil)))))
    (pss_one (ps_ret (pe_g G_l_one (hr.mono (by decide)) (by rfl) T.g_l_one T.F_l_one.kp T.b_l_one .nil pass0 (pa_cons (pv 0) (pa_cons (pv 1) pa_nil)))))))))
theorem ok_l_name (T : Tx K mg t) : FnG P w K mg base L2.CX0 3 t.f_l_name t.fd_l_name ["_law_bag_here"] (sp_l_name K) := by
  refine ok_G T.F_l_name sc_l_name (len_G (n := 0) n_l_name) (fun cdv A outer s H vs Q E hr h => ⟨t_l_name K, ?_, body_G (N := N_l_name) (fun b => m_l_name) (dat_l_name) h⟩)
  · show PSs _ _ ((tSeq (tAsg (tLst (tCons (tC (.str "a")) (tCons (tC (.str "b")) (tCons (tC (.str "c")) (tCons (tC (.str "f")) (tCons (tC (.str "g")) (tCons (tC (.str "x")) (tCons (tC (.str "z")) (tCons (tC (.str "ab")) (tCons (tC (.str "ans")) (tCons (tC (.str "iff")) (tCons (tC (.str "gone")) (tCons (tC (.str "tells")) (tCons (tC (.str "withs")) (tCons (tC (.str "abcdefgh")) (tCons (tC (.str "zzzzzzzz")) tNil)))))))))))))))) (gName 1))
    (tSeq (tIfS (tTest (tOp (rLtU (fun i j => decide (j < i)) fun i j => ltS j i) (tCall (sp_l_take K) [] E0 (tCons (tVar 0) (tCons (tC (.int 4)) tNil))) (tC (.int 0)))) (tRet (tCall (sp_l_one K) [] E0 (tCons (tVar 0) (tCons (tVar 1) tNil)))) tNext)
    (tRet (tOp (rAddU K) (tC (.str "k")) (tM1 (rJoin K) (tC (.str "")) (tLc (iRng1 (tCons (tCall (sp_l_take K) [] E0 (tCons (tVar 0) (tCons (tC (.int 8)) tNil))) tNil)) (gName 2) tYes (tCall (sp_l_one K) [] E0 (tCons (tVar 0) (tCons (tC (.str "abcdefghijklmnopqrstuvwxyz")) tNil))) [2])))))))
    have G_l_one : FnG P w K mg base L2.CX0 2 t.f_l_one t.fd_l_one ["_law_bag_here", "_law_some"] (sp_l_one K) := ok_l_one T
    have G_l_take : FnG P w K mg base L2.CX0 1 t.f_l_take t.fd_l_take ["_law_bag_here", "_law_many"] (sp_l_take K) := ok_l_take T
    exact (pss_cons (ps_set (i := 1) sc_l_name.nd rfl (Or.inl rfl) (pe_lst (pa_cons pe_str (pa_cons pe_str (pa_cons pe_str (pa_cons pe_str (pa_cons pe_str (pa_cons pe_str (pa_cons pe_str (pa_cons pe_str (pa_cons pe_str (pa_cons pe_str (pa_cons pe_str (pa_cons pe_str (pa_cons pe_str (pa_cons pe_str (pa_cons pe_str pa_nil)))))))))))))))))
    (pss_cons (ps_if (pt_cmpR op_gtU  (pe_g G_l_take (hr.mono (by decide)) (by rfl) T.g_l_take T.F_l_take.kp T.b_l_take .nil pass0 (pa_cons (pv 0) (pa_cons pe_int pa_nil))) pe_int (nomark _)) (pss_one (ps_ret (pe_g G_l_one (hr.mono (by decide)) (by rfl) T.g_l_one T.F_l_one.kp T.b_l_one .nil pass0 (pa_cons (pv 0) (pa_cons (pv 1) pa_nil))))) pss_nil)
    (pss_one (ps_ret (pe_op op_addU pe_str (pe_join pe_str (pe_lc (own := [("_law_k", 2)]) (g := (gName 2)) rfl sc_l_name.nd (pi_range1 (by rfl) T.z_range (pa_cons (pe_g G_l_take (hr.mono (by decide)) (by rfl) T.g_l_take T.F_l_take.kp T.b_l_take .nil pass0 (pa_cons (pv 0) (pa_cons pe_int pa_nil))) pa_nil)) (blkOk_by (own := [("_law_k", 2)]) (N := N_l_name) (sc := defScope s_l_name) (by decide +kernel)) (fun _ _ _ _ _ => (pg_name (i := 2) sc_l_name.nd rfl (Or.inl rfl))) (fun _ _ _ _ _ => pts_nil) (fun _ _ _ _ _ => (pe_g G_l_one (hr.mono (by decide)) (by rfl) T.g_l_one T.F_l_one.kp T.b_l_one .nil pass0 (pa_cons (pv 0) (pa_cons pe_str pa_nil)))))))))))
theorem ok_is_forked (T : Tx K mg t) : FnG P w K mg base L2.CX0 4 t.f_is_forked t.fd_is_forked ["thing", "is_end"] (sp_is_forked K t.f__is_guard_end) := by
  refine ok_G T.F_is_forked sc_is_forked (len_F (n := 1) n_is_forked) (fun cdv A outer s H vs Q E hr h => ⟨t_is_forked K t.f__is_guard_end, ?_, body_F (N := N_is_forked) (fun b => m_is_forked) (dat_is_forked t.f__is_guard_end) h⟩)
  · show PSs _ _ ((tSeq (tAsg (tLst (tCons (tVar 0) tNil)) (gName 2))
    (tSeq (tWhile (tTr K (tVar 2)) (tSeq (tAsg (tBM0 K "list" rPop (tVar 2)) (gName 3))
    (tIfS (tNot (tB (tCallX 1 t.f__is_guard_end (sp__is_guard_end K) (tCons (tVar 3) tNil)))) (tSeq (tIfS (tNot (tB (tCall (sp_is_fork K) [] E0 (tCons (tVar 3) tNil)))) (tRet (tC (.bl false))) tNext)
    (tDrop (tBM K "list" (rExtendT K) (tVar 2) (tCons (tSl (rSlU K) (tVar 3) (tPart (tC (.int 3))) tNoPart) tNil)))) tNext)))
    (tRet (tC (.bl true))))))
    have G__is_guard_end : FnG P w K mg base L2.CX0 1 t.f__is_guard_end t.fd__is_guard_end ["thing"] (sp__is_guard_end K) := ok__is_guard_end T
    have G_is_fork : FnG P w K mg base L2.CX0 3 t.f_is_fork t.fd_is_fork ["thing"] (sp_is_fork K) := ok_is_fork T
    exact (pss_cons (ps_set (i := 2) sc_is_forked.nd rfl (Or.inl rfl) (pe_lst (pa_cons (pv 0) pa_nil)))
    (pss_cons (ps_while PassesOwn.never (pt_truth (pv 2) (fun _ => rfl)) (pss_cons (ps_set (i := 3) sc_is_forked.nd rfl (Or.inl rfl) (pe_bm0 PySem.F.plainAttrs_list PySem.F.slot_list_pop PySem.F.type_list_pop mt_pop (pv 2)))
    (pss_one (ps_if (pt_not (pt_val (pe_cx (i := 1) G__is_guard_end (hr.mono (by decide)) T.F__is_guard_end.kp T.b__is_guard_end (by rfl) (Or.inl rfl) (pa_cons (pv 3) pa_nil)))) (pss_cons (ps_if (pt_not (pt_val (pe_g G_is_fork (hr.mono (by decide)) (by rfl) T.g_is_fork T.F_is_fork.kp T.b_is_fork .nil pass0 (pa_cons (pv 3) pa_nil)))) (pss_one (ps_ret pe_bl)) pss_nil)
    (pss_one (ps_expr (pe_bm PySem.F.plainAttrs_list PySem.F.slot_list_extend PySem.F.type_list_extend mt_extendT (pv 2) (pa_cons (pe_slice sl_U (pv 3) (po_some pe_int) po_none) pa_nil))))) pss_nil))))
    (pss_one (ps_ret pe_bl))))
theorem ok_is_guard (T : Tx K mg t) : FnG P w K mg base L2.CX0 5 t.f_is_guard t.fd_is_guard ["thing"] (sp_is_guard K) := by
  refine ok_G T.F_is_guard sc_is_guard (len_P (n := 1) n_is_guard) (fun cdv A outer s H vs Q E hr h => ⟨t_is_guard K t.f__is_guard_end, ?_, body_P (N := N_is_guard) (fun b => m_is_guard) (dat_is_guard) h⟩)
  · show PSs _ _ ((tRet (tCall (sp_is_forked K t.f__is_guard_end) [] E0 (tCons (tVar 0) (tCons (tC (.ref t.f__is_guard_end)) tNil)))))
    have G_is_forked : FnG P w K mg base L2.CX0 4 t.f_is_forked t.fd_is_forked ["thing", "is_end"] (sp_is_forked K t.f__is_guard_end) := ok_is_forked T
    exact (pss_one (ps_ret (pe_g G_is_forked (hr.mono (by decide)) (by rfl) T.g_is_forked T.F_is_forked.kp T.b_is_forked .nil pass0 (pa_cons (pv 0) (pa_cons (pe_glob (by rfl) T.g__is_guard_end rfl) pa_nil)))))
theorem st_l_any_term (T : Tx K mg t) (n : Nat) {k : Nat} (G_l_any_term : FnG P w K mg base L2.CX0 k t.f_l_any_term t.fd_l_any_term ["_law_bag_here", "_law_deep"] (sp_l_any_term K n)) (G_l_name : FnG P w K mg base L2.CX0 k t.f_l_name t.fd_l_name ["_law_bag_here"] (sp_l_name K)) (G_l_take : FnG P w K mg base L2.CX0 k t.f_l_take t.fd_l_take ["_law_bag_here", "_law_many"] (sp_l_take K)) : FnG P w K mg base L2.CX0 (k + 1) t.f_l_any_term t.fd_l_any_term ["_law_bag_here", "_law_deep"] (sp_l_any_term K (n + 1)) := by
  refine ok_G T.F_l_any_term sc_l_any_term (len_G (n := 1) (n_l_any_term _)) (fun cdv A outer s H vs Q E hr h => ⟨t_l_any_term K n, ?_, body_G (N := N_l_any_term) (fun b => m_l_any_term) (dat_l_any_term n) h⟩)
  · show PSs _ _ ((tSeq (tAsg (tIf (tTest (tOp (rLtU (fun i j => decide (j < i)) fun i j => ltS j i) (tVar 1) (tC (.int 0)))) (tCall (sp_l_take K) [] E0 (tCons (tVar 0) (tCons (tIf (tTest (tOp (rEqU K) (tVar 1) (tC (.int 1)))) (tC (.int 7)) (tC (.int 4))) tNil))) (tC (.int 0))) (gName 2))
    (tRet (tOp (rAddU K) (tTup (tCons (tCall (sp_l_name K) [] E0 (tCons (tVar 0) tNil)) tNil)) (tCB (rTupOf K) (tCons (tLc (iRng1 (tCons (tVar 2) tNil)) (gName 3) tYes (tCall (sp_l_any_term K n) [] E0 (tCons (tVar 0) (tCons (tOp (rI0 fun i j => .int (i - j)) (tVar 1) (tC (.int 1))) tNil))) [3]) tNil))))))
    exact (pss_cons (ps_set (i := 2) sc_l_any_term.nd rfl (Or.inl rfl) (pe_ifExp (pt_cmpR op_gtU  (pv 1) pe_int (nomark _)) (pe_g G_l_take (hr.mono (Nat.le_refl _)) (by rfl) T.g_l_take T.F_l_take.kp T.b_l_take .nil pass0 (pa_cons (pv 0) (pa_cons (pe_ifExp (pt_cmpR (op_eqU hr.r.units)  (pv 1) pe_int (nomark _)) pe_int pe_int) pa_nil))) pe_int))
    (pss_one (ps_ret (pe_op op_addU (pe_tup (pa_cons (pe_g G_l_name (hr.mono (Nat.le_refl _)) (by rfl) T.g_l_name T.F_l_name.kp T.b_l_name .nil pass0 (pa_cons (pv 0) pa_nil)) pa_nil)) (pe_callTy call_tupOf (by rfl) T.z_tuple (by decide +kernel) (pa_cons (pe_lc (own := [("_law_k", 3)]) (g := (gName 3)) rfl sc_l_any_term.nd (pi_range1 (by rfl) T.z_range (pa_cons (pv 2) pa_nil)) (blkOk_by (own := [("_law_k", 3)]) (N := N_l_any_term) (sc := defScope s_l_any_term) (by decide +kernel)) (fun _ _ _ _ _ => (pg_name (i := 3) sc_l_any_term.nd rfl (Or.inl rfl))) (fun _ _ _ _ _ => pts_nil) (fun _ _ _ _ _ => (pe_g G_l_any_term (hr.mono (Nat.le_refl _)) (by rfl) T.g_l_any_term T.F_l_any_term.kp T.b_l_any_term .nil pass0 (pa_cons (pv 0) (pa_cons (pe_op op_sub (pv 1) pe_int) pa_nil))))) pa_nil))))))
theorem ok_l_any_term (T : Tx K mg t) : ∀ n : Nat, FnG P w K mg base L2.CX0 (3 + n) t.f_l_any_term t.fd_l_any_term ["_law_bag_here", "_law_deep"] (sp_l_any_term K n)
  | 0 => FnG.never (never_G (no_l_any_term))
  | n + 1 => st_l_any_term T n (ok_l_any_term T n) ((ok_l_name T).mono (show 3 ≤ 3 + n by omega)) ((ok_l_take T).mono (show 1 ≤ 3 + n by omega))
theorem st_l_any_code (T : Tx K mg t) (n : Nat) {k : Nat} (G_l_any_code : FnG P w K mg base L2.CX0 k t.f_l_any_code t.fd_l_any_code ["_law_bag_here", "_law_deep", "_law_guarded"] (sp_l_any_code K n)) (G_l_any_term : FnG P w K mg base L2.CX0 k t.f_l_any_term t.fd_l_any_term ["_law_bag_here", "_law_deep"] (sp_l_any_term K 5)) (G_l_one : FnG P w K mg base L2.CX0 k t.f_l_one t.fd_l_one ["_law_bag_here", "_law_some"] (sp_l_one K)) (G_l_take : FnG P w K mg base L2.CX0 k t.f_l_take t.fd_l_take ["_law_bag_here", "_law_many"] (sp_l_take K)) : FnG P w K mg base L2.CX0 (k + 1) t.f_l_any_code t.fd_l_any_code ["_law_bag_here", "_law_deep", "_law_guarded"] (sp_l_any_code K (n + 1)) := by
  refine ok_G T.F_l_any_code sc_l_any_code (len_G (n := 2) (n_l_any_code _)) (fun cdv A outer s H vs Q E hr h => ⟨t_l_any_code K n, ?_, body_G (N := N_l_any_code) (fun b => m_l_any_code) (dat_l_any_code n) h⟩)
  · show PSs _ _ ((tSeq (tIfS (tOr (tTest (tOp (rEqU K) (tVar 1) (tC (.int 0)))) (tTest (tOp (rEqU K) (tCall (sp_l_take K) [] E0 (tCons (tVar 0) (tCons (tC (.int 3)) tNil))) (tC (.int 0))))) (tRet (tIf (tB (tVar 2)) (tTup (tCons (tCall (sp_l_one K) [] E0 (tCons (tVar 0) (tCons (tLst (tCons (tC (.str "yes")) (tCons (tC (.str "no")) tNil))) tNil))) tNil)) (tTup (tCons (tC (.str "tell")) (tCons (tCall (sp_l_any_term K 5) [] E0 (tCons (tVar 0) (tCons (tC (.int 2)) tNil))) tNil))))) tNext)
    (tSeq (tPar 3 4 (tCons (tCall (sp_l_any_term K 5) [] E0 (tCons (tVar 0) (tCons (tC (.int 1)) tNil))) (tCons (tCall (sp_l_any_term K 5) [] E0 (tCons (tVar 0) (tCons (tC (.int 1)) tNil))) tNil)))
    (tRet (tTup (tCons (tC (.str "if")) (tCons (tVar 3) (tCons (tVar 4) (tCons (tCall (sp_l_any_code K n) [] E0 (tCons (tVar 0) (tCons (tOp (rI0 fun i j => .int (i - j)) (tVar 1) (tC (.int 1))) (tCons (tVar 2) tNil)))) (tCons (tCall (sp_l_any_code K n) [] E0 (tCons (tVar 0) (tCons (tOp (rI0 fun i j => .int (i - j)) (tVar 1) (tC (.int 1))) (tCons (tVar 2) tNil)))) tNil))))))))))
    exact (pss_cons (ps_if (PW.pt (pw_or (pt_cmpR (op_eqU hr.r.units)  (pv 1) pe_int (nomark _)) (pw_or1 (pt_cmpR (op_eqU hr.r.units)  (pe_g G_l_take (hr.mono (Nat.le_refl _)) (by rfl) T.g_l_take T.F_l_take.kp T.b_l_take .nil pass0 (pa_cons (pv 0) (pa_cons pe_int pa_nil))) pe_int (nomark _))))) (pss_one (ps_ret (pe_ifExp (pt_val (pv 2)) (pe_tup (pa_cons (pe_g G_l_one (hr.mono (Nat.le_refl _)) (by rfl) T.g_l_one T.F_l_one.kp T.b_l_one .nil pass0 (pa_cons (pv 0) (pa_cons (pe_lst (pa_cons pe_str (pa_cons pe_str pa_nil))) pa_nil))) pa_nil)) (pe_tup (pa_cons pe_str (pa_cons (pe_g G_l_any_term (hr.mono (Nat.le_refl _)) (by rfl) T.g_l_any_term T.F_l_any_term.kp T.b_l_any_term .nil pass0 (pa_cons (pv 0) (pa_cons pe_int pa_nil))) pa_nil)))))) pss_nil)
    (pss_cons (ps_par rfl sc_l_any_code.nd rfl rfl (by decide) rfl rfl (pa_cons (pe_g G_l_any_term (hr.mono (Nat.le_refl _)) (by rfl) T.g_l_any_term T.F_l_any_term.kp T.b_l_any_term .nil pass0 (pa_cons (pv 0) (pa_cons pe_int pa_nil))) (pa_cons (pe_g G_l_any_term (hr.mono (Nat.le_refl _)) (by rfl) T.g_l_any_term T.F_l_any_term.kp T.b_l_any_term .nil pass0 (pa_cons (pv 0) (pa_cons pe_int pa_nil))) pa_nil)) (by rfl))
    (pss_one (ps_ret (pe_tup (pa_cons pe_str (pa_cons (pv 3) (pa_cons (pv 4) (pa_cons (pe_g G_l_any_code (hr.mono (Nat.le_refl _)) (by rfl) T.g_l_any_code T.F_l_any_code.kp T.b_l_any_code .nil pass0 (pa_cons (pv 0) (pa_cons (pe_op op_sub (pv 1) pe_int) (pa_cons (pv 2) pa_nil)))) (pa_cons (pe_g G_l_any_code (hr.mono (Nat.le_refl _)) (by rfl) T.g_l_any_code T.F_l_any_code.kp T.b_l_any_code .nil pass0 (pa_cons (pv 0) (pa_cons (pe_op op_sub (pv 1) pe_int) (pa_cons (pv 2) pa_nil)))) pa_nil))))))))))
theorem ok_l_any_code (T : Tx K mg t) : ∀ n : Nat, FnG P w K mg base L2.CX0 (8 + n) t.f_l_any_code t.fd_l_any_code ["_law_bag_here", "_law_deep", "_law_guarded"] (sp_l_any_code K n)
  | 0 => FnG.never (never_G (no_l_any_code))
  | n + 1 => st_l_any_code T n (ok_l_any_code T n) ((ok_l_any_term T 5).mono (show 8 ≤ 8 + n by omega)) ((ok_l_one T).mono (show 2 ≤ 8 + n by omega)) ((ok_l_take T).mono (show 1 ≤ 8 + n by omega))
theorem ok_l_drawn (T : Tx K mg t) : FnG P w K mg base L2.CX0 15 t.f_l_drawn t.fd_l_drawn ["_law_bag_here"] (sp_l_drawn K) := by
  refine ok_G T.F_l_drawn sc_l_drawn (len_G (n := 0) n_l_drawn) (fun cdv A outer s H vs Q E hr h => ⟨t_l_drawn K, ?_, body_G (N := N_l_drawn) (fun b => m_l_drawn) (dat_l_drawn) h⟩)
  · show PSs _ _ ((tSeq (tAsg (tCall (sp_l_take K) [] E0 (tCons (tVar 0) (tCons (tC (.int 6)) tNil))) (gName 1))
    (tSeq (tIfS (tTest (tOp (rLtU (fun i j => decide (i < j)) fun i j => ltS i j) (tVar 1) (tC (.int 2)))) (tRet (tTup (tCons (tCall (sp_l_one K) [] E0 (tCons (tVar 0) (tCons (tLst (tCons (tC (.str "alike")) (tCons (tC (.str "unlike")) tNil))) tNil))) (tCons (tCall (sp_l_any_term K 5) [] E0 (tCons (tVar 0) (tCons (tC (.int 3)) tNil))) (tCons (tCall (sp_l_any_term K 5) [] E0 (tCons (tVar 0) (tCons (tC (.int 2)) tNil))) tNil))))) tNext)
    (tSeq (tIfS (tTest (tOp (rEqU K) (tVar 1) (tC (.int 5)))) (tSeq (tPar3 2 3 4 (tCons (tCall (sp_l_any_term K 5) [] E0 (tCons (tVar 0) (tCons (tC (.int 1)) tNil))) (tCons (tCall (sp_l_any_term K 5) [] E0 (tCons (tVar 0) (tCons (tC (.int 1)) tNil))) (tCons (tTup (tCons (tC (.str "met")) tNil)) tNil))))
    (tSeq (tAsg (tLst (tCons (tCall (sp_l_any_code K 6) [] E0 (tCons (tVar 0) (tCons (tC (.int 2)) (tCons (tC (.bl false)) tNil)))) (tCons (tVar 2) (tCons (tVar 4) (tCons (tTup (tCons (tC (.str "if")) (tCons (tVar 2) (tCons (tVar 3) (tCons (tVar 4) (tCons (tVar 4) tNil)))))) tNil))))) (gName 5))
    (tSeq (tDrop (tBM K "list" rAppend (tVar 5) (tCons (tTup (tCons (tC (.str "if")) (tCons (tVar 2) (tCons (tVar 3) (tCons (tVar 4) (tCons (tTup (tCons (tC (.str "yes")) tNil)) tNil)))))) tNil)))
    (tRet (tCall (sp_l_one K) [] E0 (tCons (tVar 0) (tCons (tOp (rAddU K) (tVar 5) (tLst (tCons (tTup (tCons (tC (.str "if")) (tCons (tVar 2) (tCons (tVar 3) (tCons (tVar 2) (tCons (tTup (tCons (tC (.str "yes")) tNil)) tNil)))))) (tCons (tTup (tCons (tC (.str "if")) (tCons (tVar 2) (tCons (tVar 3) (tCons (tTup (tCons (tC (.str "no")) tNil)) (tCons (tVar 3) tNil)))))) tNil)))) tNil))))))) tNext)
    (tRet (tCall (sp_l_any_code K 6) [] E0 (tCons (tVar 0) (tCons (tC (.int 4)) (tCons (tC (.bl true)) tNil)))))))))
    have G_l_any_code : FnG P w K mg base L2.CX0 14 t.f_l_any_code t.fd_l_any_code ["_law_bag_here", "_law_deep", "_law_guarded"] (sp_l_any_code K 6) := ok_l_any_code T 6
    have G_l_any_term : FnG P w K mg base L2.CX0 8 t.f_l_any_term t.fd_l_any_term ["_law_bag_here", "_law_deep"] (sp_l_any_term K 5) := ok_l_any_term T 5
    have G_l_one : FnG P w K mg base L2.CX0 2 t.f_l_one t.fd_l_one ["_law_bag_here", "_law_some"] (sp_l_one K) := ok_l_one T
    have G_l_take : FnG P w K mg base L2.CX0 1 t.f_l_take t.fd_l_take ["_law_bag_here", "_law_many"] (sp_l_take K) := ok_l_take T
    exact (pss_cons (ps_set (i := 1) sc_l_drawn.nd rfl (Or.inl rfl) (pe_g G_l_take (hr.mono (by decide)) (by rfl) T.g_l_take T.F_l_take.kp T.b_l_take .nil pass0 (pa_cons (pv 0) (pa_cons pe_int pa_nil))))
    (pss_cons (ps_if (pt_cmpR op_ltU  (pv 1) pe_int (nomark _)) (pss_one (ps_ret (pe_tup (pa_cons (pe_g G_l_one (hr.mono (by decide)) (by rfl) T.g_l_one T.F_l_one.kp T.b_l_one .nil pass0 (pa_cons (pv 0) (pa_cons (pe_lst (pa_cons pe_str (pa_cons pe_str pa_nil))) pa_nil))) (pa_cons (pe_g G_l_any_term (hr.mono (by decide)) (by rfl) T.g_l_any_term T.F_l_any_term.kp T.b_l_any_term .nil pass0 (pa_cons (pv 0) (pa_cons pe_int pa_nil))) (pa_cons (pe_g G_l_any_term (hr.mono (by decide)) (by rfl) T.g_l_any_term T.F_l_any_term.kp T.b_l_any_term .nil pass0 (pa_cons (pv 0) (pa_cons pe_int pa_nil))) pa_nil)))))) pss_nil)
    (pss_cons (ps_if (pt_cmpR (op_eqU hr.r.units)  (pv 1) pe_int (nomark _)) (pss_cons (ps_par3 (i := 2) (j := 3) (l := 4) rfl sc_l_drawn.nd rfl rfl rfl (by decide) (by decide) (by decide) rfl rfl rfl (pa_cons (pe_g G_l_any_term (hr.mono (by decide)) (by rfl) T.g_l_any_term T.F_l_any_term.kp T.b_l_any_term .nil pass0 (pa_cons (pv 0) (pa_cons pe_int pa_nil))) (pa_cons (pe_g G_l_any_term (hr.mono (by decide)) (by rfl) T.g_l_any_term T.F_l_any_term.kp T.b_l_any_term .nil pass0 (pa_cons (pv 0) (pa_cons pe_int pa_nil))) (pa_cons (pe_tup (pa_cons pe_str pa_nil)) pa_nil))) (by rfl))
    (pss_cons (ps_set (i := 5) sc_l_drawn.nd rfl (Or.inl rfl) (pe_lst (pa_cons (pe_g G_l_any_code (hr.mono (by decide)) (by rfl) T.g_l_any_code T.F_l_any_code.kp T.b_l_any_code .nil pass0 (pa_cons (pv 0) (pa_cons pe_int (pa_cons pe_bl pa_nil)))) (pa_cons (pv 2) (pa_cons (pv 4) (pa_cons (pe_tup (pa_cons pe_str (pa_cons (pv 2) (pa_cons (pv 3) (pa_cons (pv 4) (pa_cons (pv 4) pa_nil)))))) pa_nil))))))
    (pss_cons (ps_expr (pe_bm PySem.F.plainAttrs_list PySem.F.slot_list_append PySem.F.type_list_append mt_append (pv 5) (pa_cons (pe_tup (pa_cons pe_str (pa_cons (pv 2) (pa_cons (pv 3) (pa_cons (pv 4) (pa_cons (pe_tup (pa_cons pe_str pa_nil)) pa_nil)))))) pa_nil)))
    (pss_one (ps_ret (pe_g G_l_one (hr.mono (by decide)) (by rfl) T.g_l_one T.F_l_one.kp T.b_l_one .nil pass0 (pa_cons (pv 0) (pa_cons (pe_op op_addU (pv 5) (pe_lst (pa_cons (pe_tup (pa_cons pe_str (pa_cons (pv 2) (pa_cons (pv 3) (pa_cons (pv 2) (pa_cons (pe_tup (pa_cons pe_str pa_nil)) pa_nil)))))) (pa_cons (pe_tup (pa_cons pe_str (pa_cons (pv 2) (pa_cons (pv 3) (pa_cons (pe_tup (pa_cons pe_str pa_nil)) (pa_cons (pv 3) pa_nil)))))) pa_nil)))) pa_nil)))))))) pss_nil)
    (pss_one (ps_ret (pe_g G_l_any_code (hr.mono (by decide)) (by rfl) T.g_l_any_code T.F_l_any_code.kp T.b_l_any_code .nil pass0 (pa_cons (pv 0) (pa_cons pe_int (pa_cons pe_bl pa_nil)))))))))
theorem st_l_is_term (T : Tx K mg t) (n : Nat) {k : Nat} (G_l_is_name : FnG P w K mg base L2.CX0 k t.f_l_is_name t.fd_l_is_name ["_law_thing"] (sp_l_is_name K)) (G_l_is_term : FnG P w K mg base L2.CX0 k t.f_l_is_term t.fd_l_is_term ["_law_thing"] (sp_l_is_term K n)) : FnG P w K mg base L2.CX0 (k + 1) t.f_l_is_term t.fd_l_is_term ["_law_thing"] (sp_l_is_term K (n + 1)) := by
  refine ok_G T.F_l_is_term sc_l_is_term (len_P (n := 1) (n_l_is_term _)) (fun cdv A outer s H vs Q E hr h => ⟨t_l_is_term K n, ?_, body_P (N := N_l_is_term) (fun b => m_l_is_term) (dat_l_is_term n) h⟩)
  · show PSs _ _ ((tSeq (tIfS (tOr (tNot (tB (tCB (rIsi K) (tCons (tVar 0) (tCons (tC (.ty "tuple")) tNil))))) (tOr (tTest (tOp (rEqU K) (tVar 0) (tTup tNil))) (tNot (tB (tCall (sp_l_is_name K) [] E0 (tCons (tOp (rIx K) (tVar 0) (tC (.int 0))) tNil)))))) (tRet (tC (.bl false))) tNext)
    (tRet (tOp (rEqU K) (tLc (iTup K (tSl (rSlU K) (tVar 0) (tPart (tC (.int 1))) tNoPart)) (gName 1) (tNot (tB (tCall (sp_l_is_term K n) [] E0 (tCons (tVar 1) tNil)))) (tVar 1) [1]) (tLst tNil)))))
    exact (pss_cons (ps_if (PW.pt (pw_or (pt_not (pt_val (pe_callB call_isi (by rfl) T.z_isinstance (by decide +kernel) (pa_cons (pv 0) (pa_cons (pe_bltn (by rfl) T.z_tuple (by decide +kernel) rfl) pa_nil))))) (pw_or (pt_cmpR (op_eqU hr.r.units)  (pv 0) (pe_tup pa_nil) (nomark _)) (pw_or1 (pt_not (pt_val (pe_g G_l_is_name (hr.mono (Nat.le_refl _)) (by rfl) T.g_l_is_name T.F_l_is_name.kp T.b_l_is_name .nil pass0 (pa_cons (pe_ix ix_seq (pv 0) pe_int (fun _ _ => rfl)) pa_nil)))))))) (pss_one (ps_ret pe_bl)) pss_nil)
    (pss_one (ps_ret (pe_cmpR (op_eqU hr.r.units)  (pe_lc (own := [("_law_part", 1)]) (g := (gName 1)) rfl sc_l_is_term.nd (pi_tup (pe_slice sl_U (pv 0) (po_some pe_int) po_none)) (blkOk_by (own := [("_law_part", 1)]) (N := N_l_is_term) (sc := defScope s_l_is_term) (by decide +kernel)) (fun _ _ _ _ _ => (pg_name (i := 1) sc_l_is_term.nd rfl (Or.inl rfl))) (fun _ _ _ _ _ => pts_one (pt_not (pt_val (pe_g G_l_is_term (hr.mono (Nat.le_refl _)) (by rfl) T.g_l_is_term T.F_l_is_term.kp T.b_l_is_term .nil pass0 (pa_cons (pv 1) pa_nil))))) (fun _ _ _ _ _ => (pv 1))) (pe_lst pa_nil) (nomark _)))))
theorem ok_l_is_term (T : Tx K mg t) : ∀ n : Nat, FnG P w K mg base L2.CX0 (1 + n) t.f_l_is_term t.fd_l_is_term ["_law_thing"] (sp_l_is_term K n)
  | 0 => FnG.never (never_P (no_l_is_term))
  | n + 1 => st_l_is_term T n ((ok_l_is_name T).mono (show 1 ≤ 1 + n by omega)) (ok_l_is_term T n)
theorem ok_l_is_fact (T : Tx K mg t) : FnG P w K mg base L2.CX0 52 t.f_l_is_fact t.fd_l_is_fact ["_law_thing"] (sp_l_is_fact K) := by
  refine ok_G T.F_l_is_fact sc_l_is_fact (len_P (n := 1) n_l_is_fact) (fun cdv A outer s H vs Q E hr h => ⟨t_l_is_fact K, ?_, body_P (N := N_l_is_fact) (fun b => m_l_is_fact) (dat_l_is_fact) h⟩)
  · show PSs _ _ ((tSeq (tIfS (tOr (tNot (tB (tCB (rIsi K) (tCons (tVar 0) (tCons (tC (.ty "tuple")) tNil))))) (tOr (tTest (tOp (rNeU K) (tCB (rLenU K) (tCons (tVar 0) tNil)) (tC (.int 3)))) (tNot (tB (tCB (rIsi K) (tCons (tOp (rIx K) (tVar 0) (tC (.int 0))) (tCons (tC (.ty "str")) tNil))))))) (tRet (tC (.bl false))) tNext)
    (tRet (tAndV (tOp (rInU K false) (tOp (rIx K) (tVar 0) (tC (.int 0))) (tTup (tCons (tC (.str "alike")) (tCons (tC (.str "unlike")) tNil)))) (tAndV (tCall (sp_l_is_term K 50) [] E0 (tCons (tOp (rIx K) (tVar 0) (tC (.int 1))) tNil)) (tCall (sp_l_is_term K 50) [] E0 (tCons (tOp (rIx K) (tVar 0) (tC (.int 2))) tNil)))))))
    have G_l_is_term : FnG P w K mg base L2.CX0 51 t.f_l_is_term t.fd_l_is_term ["_law_thing"] (sp_l_is_term K 50) := ok_l_is_term T 50
    exact (pss_cons (ps_if (PW.pt (pw_or (pt_not (pt_val (pe_callB call_isi (by rfl) T.z_isinstance (by decide +kernel) (pa_cons (pv 0) (pa_cons (pe_bltn (by rfl) T.z_tuple (by decide +kernel) rfl) pa_nil))))) (pw_or (pt_cmpR (op_neU hr.r.units)  (pe_callB call_lenU (by rfl) T.z_len (by decide +kernel) (pa_cons (pv 0) pa_nil)) pe_int (nomark _)) (pw_or1 (pt_not (pt_val (pe_callB call_isi (by rfl) T.z_isinstance (by decide +kernel) (pa_cons (pe_ix ix_seq (pv 0) pe_int (fun _ _ => rfl)) (pa_cons (pe_bltn (by rfl) T.z_str (by decide +kernel) rfl) pa_nil))))))))) (pss_one (ps_ret pe_bl)) pss_nil)
    (pss_one (ps_ret (pe_and (pe_cmpR (op_inU hr.r.units)  (pe_ix ix_seq (pv 0) pe_int (fun _ _ => rfl)) (pe_tup (pa_cons pe_str (pa_cons pe_str pa_nil))) (by first | exact nomark _ | rfl)) (pe_and (pe_g G_l_is_term (hr.mono (by decide)) (by rfl) T.g_l_is_term T.F_l_is_term.kp T.b_l_is_term .nil pass0 (pa_cons (pe_ix ix_seq (pv 0) pe_int (fun _ _ => rfl)) pa_nil)) (pe_one (pe_g G_l_is_term (hr.mono (by decide)) (by rfl) T.g_l_is_term T.F_l_is_term.kp T.b_l_is_term .nil pass0 (pa_cons (pe_ix ix_seq (pv 0) pe_int (fun _ _ => rfl)) pa_nil))))))))
theorem st_l_bent (T : Tx K mg t) (n : Nat) {k : Nat} (G_l_bent : FnG P w K mg base L2.CX0 k t.f_l_bent t.fd_l_bent ["_law_bag_here", "_law_thing"] (sp_l_bent K n)) (G_l_odd : FnG P w K mg base L2.CX0 k t.f_l_odd t.fd_l_odd ["_law_bag_here"] (sp_l_odd K)) (G_l_one : FnG P w K mg base L2.CX0 k t.f_l_one t.fd_l_one ["_law_bag_here", "_law_some"] (sp_l_one K)) (G_l_take : FnG P w K mg base L2.CX0 k t.f_l_take t.fd_l_take ["_law_bag_here", "_law_many"] (sp_l_take K)) : FnG P w K mg base L2.CX0 (k + 1) t.f_l_bent t.fd_l_bent ["_law_bag_here", "_law_thing"] (sp_l_bent K (n + 1)) := by
  refine ok_G T.F_l_bent sc_l_bent (len_G (n := 1) (n_l_bent _)) (fun cdv A outer s H vs Q E hr h => ⟨t_l_bent K n, ?_, body_G (N := N_l_bent) (fun b => m_l_bent) (dat_l_bent n) h⟩)
  · show PSs _ _ ((tSeq (tAsg (tCall (sp_l_take K) [] E0 (tCons (tVar 0) (tCons (tC (.int 15)) tNil))) (gName 2))
    (tSeq (tIfS (tAnd (tB (tCB (rIsi K) (tCons (tVar 1) (tCons (tC (.ty "tuple")) tNil)))) (tAnd (tTest (tOp (rNeU K) (tVar 1) (tTup tNil))) (tTest (tOp (rLtU (fun i j => decide (j < i)) fun i j => ltS j i) (tVar 2) (tC (.int 1)))))) (tSeq (tAsg (tCall (sp_l_take K) [] E0 (tCons (tVar 0) (tCons (tCB (rLenU K) (tCons (tVar 1) tNil)) tNil))) (gName 3))
    (tSeq (tIfS (tTest (tOp (rEqU K) (tVar 2) (tC (.int 2)))) (tRet (tCB (rListOf K) (tCons (tVar 1) tNil))) tNext)
    (tSeq (tIfS (tTest (tOp (rEqU K) (tVar 2) (tC (.int 3)))) (tRet (tOp (rAddU K) (tSl (rSlU K) (tVar 1) tNoPart (tPart (tVar 3))) (tSl (rSlU K) (tVar 1) (tPart (tOp (rAddU K) (tVar 3) (tC (.int 1)))) tNoPart))) tNext)
    (tSeq (tIfS (tTest (tOp (rEqU K) (tVar 2) (tC (.int 4)))) (tRet (tOp (rAddU K) (tOp (rAddU K) (tSl (rSlU K) (tVar 1) tNoPart (tPart (tVar 3))) (tTup (tCons (tOp (rIx K) (tVar 1) (tVar 3)) tNil))) (tSl (rSlU K) (tVar 1) (tPart (tVar 3)) tNoPart))) tNext)
    (tSeq (tIfS (tTest (tOp (rEqU K) (tVar 2) (tC (.int 5)))) (tRet (tOp (rAddU K) (tOp (rAddU K) (tSl (rSlU K) (tVar 1) tNoPart (tPart (tVar 3))) (tTup (tCons (tCall (sp_l_odd K) [] E0 (tCons (tVar 0) tNil)) tNil))) (tSl (rSlU K) (tVar 1) (tPart (tVar 3)) tNoPart))) tNext)
    (tRet (tOp (rAddU K) (tOp (rAddU K) (tSl (rSlU K) (tVar 1) tNoPart (tPart (tVar 3))) (tTup (tCons (tCall (sp_l_bent K n) [] E0 (tCons (tVar 0) (tCons (tOp (rIx K) (tVar 1) (tVar 3)) tNil))) tNil))) (tSl (rSlU K) (tVar 1) (tPart (tOp (rAddU K) (tVar 3) (tC (.int 1)))) tNoPart)))))))) tNext)
    (tSeq (tIfS (tAnd (tB (tCB (rIsi K) (tCons (tVar 1) (tCons (tC (.ty "str")) tNil)))) (tTest (tOp (rLtU (fun i j => decide (j < i)) fun i j => ltS j i) (tVar 2) (tC (.int 1))))) (tSeq (tAsg (tLst (tCons (tOp (rAddU K) (tVar 1) (tC (.str "s"))) (tCons (tOp (rAddU K) (tVar 1) (tC (.str "1"))) (tCons (tOp (rAddU K) (tVar 1) (tC (.str "\n"))) (tCons (tSl (rSlU K) (tVar 1) tNoPart (tPart (tUn (rU fun i => .int (-i)) (tC (.int 1))))) (tCons (tM0 rUpper (tVar 1)) (tCons (tC (.str "if")) (tCons (tC (.str "tell")) (tCons (tC (.str "yes")) (tCons (tC (.str "alike")) tNil)))))))))) (gName 4))
    (tRet (tCall (sp_l_one K) [] E0 (tCons (tVar 0) (tCons (tOp (rAddU K) (tVar 4) (tLst (tCons (tC (.str "unlike")) (tCons (tC (.str "no")) (tCons (tC (.str "go")) (tCons (tC (.str "with")) tNil)))))) tNil))))) tNext)
    (tRet (tCall (sp_l_odd K) [] E0 (tCons (tVar 0) tNil)))))))
    exact (pss_cons (ps_set (i := 2) sc_l_bent.nd rfl (Or.inl rfl) (pe_g G_l_take (hr.mono (Nat.le_refl _)) (by rfl) T.g_l_take T.F_l_take.kp T.b_l_take .nil pass0 (pa_cons (pv 0) (pa_cons pe_int pa_nil))))
    (pss_cons (ps_if (PW.pt (pw_and (pt_val (pe_callB call_isi (by rfl) T.z_isinstance (by decide +kernel) (pa_cons (pv 1) (pa_cons (pe_bltn (by rfl) T.z_tuple (by decide +kernel) rfl) pa_nil)))) (pw_and (pt_cmpR (op_neU hr.r.units)  (pv 1) (pe_tup pa_nil) (nomark _)) (pw_and1 (pt_cmpR op_gtU  (pv 2) pe_int (nomark _)))))) (pss_cons (ps_set (i := 3) sc_l_bent.nd rfl (Or.inl rfl) (pe_g G_l_take (hr.mono (Nat.le_refl _)) (by rfl) T.g_l_take T.F_l_take.kp T.b_l_take .nil pass0 (pa_cons (pv 0) (pa_cons (pe_callB call_lenU (by rfl) T.z_len (by decide +kernel) (pa_cons (pv 1) pa_nil)) pa_nil))))
    (pss_cons (ps_if (pt_cmpR (op_eqU hr.r.units)  (pv 2) pe_int (nomark _)) (pss_one (ps_ret (pe_callTy call_listOf (by rfl) T.z_list (by decide +kernel) (pa_cons (pv 1) pa_nil)))) pss_nil)
    (pss_cons (ps_if (pt_cmpR (op_eqU hr.r.units)  (pv 2) pe_int (nomark _)) (pss_one (ps_ret (pe_op op_addU (pe_slice sl_U (pv 1) po_none (po_some (pv 3))) (pe_slice sl_U (pv 1) (po_some (pe_op op_addU (pv 3) pe_int)) po_none)))) pss_nil)
    (pss_cons (ps_if (pt_cmpR (op_eqU hr.r.units)  (pv 2) pe_int (nomark _)) (pss_one (ps_ret (pe_op op_addU (pe_op op_addU (pe_slice sl_U (pv 1) po_none (po_some (pv 3))) (pe_tup (pa_cons (pe_ix ix_seq (pv 1) (pv 3) (fun _ _ => rfl)) pa_nil))) (pe_slice sl_U (pv 1) (po_some (pv 3)) po_none)))) pss_nil)
    (pss_cons (ps_if (pt_cmpR (op_eqU hr.r.units)  (pv 2) pe_int (nomark _)) (pss_one (ps_ret (pe_op op_addU (pe_op op_addU (pe_slice sl_U (pv 1) po_none (po_some (pv 3))) (pe_tup (pa_cons (pe_g G_l_odd (hr.mono (Nat.le_refl _)) (by rfl) T.g_l_odd T.F_l_odd.kp T.b_l_odd .nil pass0 (pa_cons (pv 0) pa_nil)) pa_nil))) (pe_slice sl_U (pv 1) (po_some (pv 3)) po_none)))) pss_nil)
    (pss_one (ps_ret (pe_op op_addU (pe_op op_addU (pe_slice sl_U (pv 1) po_none (po_some (pv 3))) (pe_tup (pa_cons (pe_g G_l_bent (hr.mono (Nat.le_refl _)) (by rfl) T.g_l_bent T.F_l_bent.kp T.b_l_bent .nil pass0 (pa_cons (pv 0) (pa_cons (pe_ix ix_seq (pv 1) (pv 3) (fun _ _ => rfl)) pa_nil))) pa_nil))) (pe_slice sl_U (pv 1) (po_some (pe_op op_addU (pv 3) pe_int)) po_none))))))))) pss_nil)
    (pss_cons (ps_if (PW.pt (pw_and (pt_val (pe_callB call_isi (by rfl) T.z_isinstance (by decide +kernel) (pa_cons (pv 1) (pa_cons (pe_bltn (by rfl) T.z_str (by decide +kernel) rfl) pa_nil)))) (pw_and1 (pt_cmpR op_gtU  (pv 2) pe_int (nomark _))))) (pss_cons (ps_set (i := 4) sc_l_bent.nd rfl (Or.inl rfl) (pe_lst (pa_cons (pe_op op_addU (pv 1) pe_str) (pa_cons (pe_op op_addU (pv 1) pe_str) (pa_cons (pe_op op_addU (pv 1) pe_str) (pa_cons (pe_slice sl_U (pv 1) po_none (po_some (pe_un un_neg pe_int))) (pa_cons (pe_upper (pv 1)) (pa_cons pe_str (pa_cons pe_str (pa_cons pe_str (pa_cons pe_str pa_nil)))))))))))
    (pss_one (ps_ret (pe_g G_l_one (hr.mono (Nat.le_refl _)) (by rfl) T.g_l_one T.F_l_one.kp T.b_l_one .nil pass0 (pa_cons (pv 0) (pa_cons (pe_op op_addU (pv 4) (pe_lst (pa_cons pe_str (pa_cons pe_str (pa_cons pe_str (pa_cons pe_str pa_nil)))))) pa_nil)))))) pss_nil)
    (pss_one (ps_ret (pe_g G_l_odd (hr.mono (Nat.le_refl _)) (by rfl) T.g_l_odd T.F_l_odd.kp T.b_l_odd .nil pass0 (pa_cons (pv 0) pa_nil)))))))
theorem ok_l_bent (T : Tx K mg t) : ∀ n : Nat, FnG P w K mg base L2.CX0 (3 + n) t.f_l_bent t.fd_l_bent ["_law_bag_here", "_law_thing"] (sp_l_bent K n)
  | 0 => FnG.never (never_G (no_l_bent))
  | n + 1 => st_l_bent T n (ok_l_bent T n) ((ok_l_odd T).mono (show 3 ≤ 3 + n by omega)) ((ok_l_one T).mono (show 2 ≤ 3 + n by omega)) ((ok_l_take T).mono (show 1 ≤ 3 + n by omega))
theorem st_l_is_ending (T : Tx K mg t) (n : Nat) {k : Nat} (G_l_is_ending : FnG P w K mg base L2.CX0 k t.f_l_is_ending t.fd_l_is_ending ["_law_thing", "_law_is_end"] (sp_l_is_ending K t.f_l_is_word n)) (G_l_is_term : FnG P w K mg base L2.CX0 k t.f_l_is_term t.fd_l_is_term ["_law_thing"] (sp_l_is_term K 50)) (G_l_is_word : FnG P w K mg base L2.CX0 k t.f_l_is_word t.fd_l_is_word ["_law_thing"] (sp_l_is_word K)) : FnG P w K mg base L2.CX0 (k + 1) t.f_l_is_ending t.fd_l_is_ending ["_law_thing", "_law_is_end"] (sp_l_is_ending K t.f_l_is_word (n + 1)) := by
  refine ok_G T.F_l_is_ending sc_l_is_ending (len_F (n := 1) (n_l_is_ending _)) (fun cdv A outer s H vs Q E hr h => ⟨t_l_is_ending K n t.f_l_is_word, ?_, body_F (N := N_l_is_ending) (fun b => m_l_is_ending) (dat_l_is_ending t.f_l_is_word n) h⟩)
  · show PSs _ _ ((tSeq (tIfS (tOr (tNot (tB (tCB (rIsi K) (tCons (tVar 0) (tCons (tC (.ty "tuple")) tNil))))) (tOr (tTest (tOp (rNeU K) (tCB (rLenU K) (tCons (tVar 0) tNil)) (tC (.int 5)))) (tOr (tNot (tB (tCB (rIsi K) (tCons (tOp (rIx K) (tVar 0) (tC (.int 0))) (tCons (tC (.ty "str")) tNil))))) (tTest (tOp (rNeU K) (tOp (rIx K) (tVar 0) (tC (.int 0))) (tC (.str "if"))))))) (tRet (tCallX 1 t.f_l_is_word (sp_l_is_word K) (tCons (tVar 0) tNil))) tNext)
    (tSeq (tIfS (tOr (tNot (tB (tCall (sp_l_is_term K 50) [] E0 (tCons (tOp (rIx K) (tVar 0) (tC (.int 1))) tNil)))) (tNot (tB (tCall (sp_l_is_term K 50) [] E0 (tCons (tOp (rIx K) (tVar 0) (tC (.int 2))) tNil))))) (tRet (tC (.bl false))) tNext)
    (tRet (tAndV (tCall (sp_l_is_ending K t.f_l_is_word n) [] E0 (tCons (tOp (rIx K) (tVar 0) (tC (.int 3))) (tCons (tVar 1) tNil))) (tCall (sp_l_is_ending K t.f_l_is_word n) [] E0 (tCons (tOp (rIx K) (tVar 0) (tC (.int 4))) (tCons (tVar 1) tNil))))))))
    exact (pss_cons (ps_if (PW.pt (pw_or (pt_not (pt_val (pe_callB call_isi (by rfl) T.z_isinstance (by decide +kernel) (pa_cons (pv 0) (pa_cons (pe_bltn (by rfl) T.z_tuple (by decide +kernel) rfl) pa_nil))))) (pw_or (pt_cmpR (op_neU hr.r.units)  (pe_callB call_lenU (by rfl) T.z_len (by decide +kernel) (pa_cons (pv 0) pa_nil)) pe_int (nomark _)) (pw_or (pt_not (pt_val (pe_callB call_isi (by rfl) T.z_isinstance (by decide +kernel) (pa_cons (pe_ix ix_seq (pv 0) pe_int (fun _ _ => rfl)) (pa_cons (pe_bltn (by rfl) T.z_str (by decide +kernel) rfl) pa_nil))))) (pw_or1 (pt_cmpR (op_neU hr.r.units)  (pe_ix ix_seq (pv 0) pe_int (fun _ _ => rfl)) pe_str (nomark _))))))) (pss_one (ps_ret (pe_cx (i := 1) G_l_is_word (hr.mono (Nat.le_refl _)) T.F_l_is_word.kp T.b_l_is_word (by rfl) (Or.inl rfl) (pa_cons (pv 0) pa_nil)))) pss_nil)
    (pss_cons (ps_if (PW.pt (pw_or (pt_not (pt_val (pe_g G_l_is_term (hr.mono (Nat.le_refl _)) (by rfl) T.g_l_is_term T.F_l_is_term.kp T.b_l_is_term .nil pass0 (pa_cons (pe_ix ix_seq (pv 0) pe_int (fun _ _ => rfl)) pa_nil)))) (pw_or1 (pt_not (pt_val (pe_g G_l_is_term (hr.mono (Nat.le_refl _)) (by rfl) T.g_l_is_term T.F_l_is_term.kp T.b_l_is_term .nil pass0 (pa_cons (pe_ix ix_seq (pv 0) pe_int (fun _ _ => rfl)) pa_nil))))))) (pss_one (ps_ret pe_bl)) pss_nil)
    (pss_one (ps_ret (pe_and (pe_g G_l_is_ending (hr.mono (Nat.le_refl _)) (by rfl) T.g_l_is_ending T.F_l_is_ending.kp T.b_l_is_ending .nil pass0 (pa_cons (pe_ix ix_seq (pv 0) pe_int (fun _ _ => rfl)) (pa_cons (pv 1) pa_nil))) (pe_one (pe_g G_l_is_ending (hr.mono (Nat.le_refl _)) (by rfl) T.g_l_is_ending T.F_l_is_ending.kp T.b_l_is_ending .nil pass0 (pa_cons (pe_ix ix_seq (pv 0) pe_int (fun _ _ => rfl)) (pa_cons (pv 1) pa_nil)))))))))
theorem ok_l_is_ending (T : Tx K mg t) : ∀ n : Nat, FnG P w K mg base L2.CX0 (51 + n) t.f_l_is_ending t.fd_l_is_ending ["_law_thing", "_law_is_end"] (sp_l_is_ending K t.f_l_is_word n)
  | 0 => FnG.never (never_F (no_l_is_ending))
  | n + 1 => st_l_is_ending T n (ok_l_is_ending T n) ((ok_l_is_term T 50).mono (show 51 ≤ 51 + n by omega)) ((ok_l_is_word T).mono (show 1 ≤ 51 + n by omega))
theorem ok_law (T : Tx K mg t) : FnG P w K mg base L2.CX0 102 t.f_law t.fd_law ["_law_script"] (sp_law K) := by
  refine ok_G T.F_law sc_law len_law (fun cdv A outer s H vs Q E hr h => ⟨tSeq (tAsg (tCall (sp_l_bag K) [] E0 (tCons (tVar 0) tNil)) (gName 1)) (t_law K t.f_l_is_word), ?_, law_body (N := N_law) (by decide) (fun b => m_law) dat_law h⟩)
  · show PSs _ _ (tSeq (tAsg (tCall (sp_l_bag K) [] E0 (tCons (tVar 0) tNil)) (gName 1)) (tSeq (tAsg (tLst tNil) (gName 2))
    (tSeq (tFor (iRng1 (tCons (tC (.int 14)) tNil)) (gName 3) (tSeq (tAsg (tCall (sp_l_drawn K) [] E0 (tCons (tVar 1) tNil)) (gName 4))
    (tSeq (tFor (iRng1 (tCons (tCall (sp_l_one K) [] E0 (tCons (tVar 1) (tCons (tLst (tCons (tC (.int 0)) (tCons (tC (.int 0)) (tCons (tC (.int 1)) (tCons (tC (.int 1)) (tCons (tC (.int 2)) tNil)))))) tNil))) tNil)) (gName 5) (tAsg (tCall (sp_l_bent K 50) [] E0 (tCons (tVar 1) (tCons (tVar 4) tNil))) (gName 4)))
    (tDrop (tBM K "list" rAppend (tVar 2) (tCons (tVar 4) tNil))))))
    (tSeq (tAsg (tCB (rRepr K) (tCons (tVar 2) tNil)) (gName 6))
    (tSeq (tFor (iList K (tOp (rAddU K) (tVar 2) (tSl (rSlU K) (tVar 2) tNoPart (tPart (tC (.int 3)))))) (gName 4) (tSeq (tAsg (tLst (tCons (tCall (sp_is_guard K) [] E0 (tCons (tVar 4) tNil)) (tCons (tCall (sp_is_fact K) [] E0 (tCons (tVar 4) tNil)) tNil))) (gName 7))
    (tIfS (tNot (tB (tCall (sp_l_alike K) [] E0 (tCons (tVar 7) (tCons (tLst (tCons (tCall (sp_l_is_ending K t.f_l_is_word 50) [] E0 (tCons (tVar 4) (tCons (tC (.ref t.f_l_is_word)) tNil))) (tCons (tCall (sp_l_is_fact K) [] E0 (tCons (tVar 4) tNil)) tNil))) tNil))))) (tRet (tC (.bl false))) tNext)))
    (tSeq (tAsg (tTup (tCons (tTup (tCons (tC (.str "a")) tNil)) (tCons (tTup (tCons (tC (.str "b")) tNil)) (tCons (tTup (tCons (tC (.str "yes")) tNil)) (tCons (tTup (tCons (tC (.str "yes")) (tCons (tC (.str "no")) tNil))) tNil))))) (gTup K 4 (gCons (gName 8) (gCons (gName 9) (gCons (gName 10) (gCons (gName 11) gNil))))))
    (tSeq (tFor (iRng1 (tCons (tC (.int 26)) tNil)) (gName 12) (tPar 10 11 (tCons (tTup (tCons (tC (.str "if")) (tCons (tVar 8) (tCons (tVar 9) (tCons (tTup (tCons (tC (.str "no")) tNil)) (tCons (tVar 10) tNil)))))) (tCons (tTup (tCons (tC (.str "if")) (tCons (tVar 8) (tCons (tVar 9) (tCons (tTup (tCons (tC (.str "no")) tNil)) (tCons (tVar 11) tNil)))))) tNil))))
    (tSeq (tIfS (tNot (tB (tCall (sp_l_alike K) [] E0 (tCons (tLst (tCons (tCall (sp_is_guard K) [] E0 (tCons (tVar 10) tNil)) (tCons (tCall (sp_is_guard K) [] E0 (tCons (tVar 11) tNil)) tNil))) (tCons (tLst (tCons (tC (.bl true)) (tCons (tC (.bl false)) tNil))) tNil))))) (tRet (tC (.bl false))) tNext)
    (tRet (tOp (rEqU K) (tCB (rRepr K) (tCons (tVar 2) tNil)) (tVar 6)))))))))))
    have G_l_alike : FnG P w K mg base L2.CX0 1 t.f_l_alike t.fd_l_alike ["_law_found", "_law_due"] (sp_l_alike K) := ok_l_alike T
    have G_l_bag : FnG P w K mg base L2.CX0 1 t.f_l_bag t.fd_l_bag ["_law_script"] (sp_l_bag K) := ok_l_bag T
    have G_l_bent : FnG P w K mg base L2.CX0 53 t.f_l_bent t.fd_l_bent ["_law_bag_here", "_law_thing"] (sp_l_bent K 50) := ok_l_bent T 50
    have G_l_drawn : FnG P w K mg base L2.CX0 15 t.f_l_drawn t.fd_l_drawn ["_law_bag_here"] (sp_l_drawn K) := ok_l_drawn T
    have G_l_is_ending : FnG P w K mg base L2.CX0 101 t.f_l_is_ending t.fd_l_is_ending ["_law_thing", "_law_is_end"] (sp_l_is_ending K t.f_l_is_word 50) := ok_l_is_ending T 50
    have G_l_is_fact : FnG P w K mg base L2.CX0 52 t.f_l_is_fact t.fd_l_is_fact ["_law_thing"] (sp_l_is_fact K) := ok_l_is_fact T
    have G_l_one : FnG P w K mg base L2.CX0 2 t.f_l_one t.fd_l_one ["_law_bag_here", "_law_some"] (sp_l_one K) := ok_l_one T
    have G_is_fact : FnG P w K mg base L2.CX0 3 t.f_is_fact t.fd_is_fact ["thing"] (sp_is_fact K) := ok_is_fact T
    have G_is_guard : FnG P w K mg base L2.CX0 5 t.f_is_guard t.fd_is_guard ["thing"] (sp_is_guard K) := ok_is_guard T
    exact (pss_cons (ps_set (i := 1) sc_law.nd rfl (Or.inl rfl) (pe_g G_l_bag (hr.mono (by decide)) (by rfl) T.g_l_bag T.F_l_bag.kp T.b_l_bag .nil pass0 (pa_cons (pv 0) pa_nil))) (pss_cons (ps_set (i := 2) sc_law.nd rfl (Or.inl rfl) (pe_lst pa_nil))
    (pss_cons (ps_for PassesOwn.never rfl (pi_range1 (by rfl) T.z_range (pa_cons pe_int pa_nil)) (pg_name (i := 3) sc_law.nd rfl (Or.inl rfl)) (pss_cons (ps_set (i := 4) sc_law.nd rfl (Or.inl rfl) (pe_g G_l_drawn (hr.mono (by decide)) (by rfl) T.g_l_drawn T.F_l_drawn.kp T.b_l_drawn .nil pass0 (pa_cons (pv 1) pa_nil)))
    (pss_cons (ps_for PassesOwn.never rfl (pi_range1 (by rfl) T.z_range (pa_cons (pe_g G_l_one (hr.mono (by decide)) (by rfl) T.g_l_one T.F_l_one.kp T.b_l_one .nil pass0 (pa_cons (pv 1) (pa_cons (pe_lst (pa_cons pe_int (pa_cons pe_int (pa_cons pe_int (pa_cons pe_int (pa_cons pe_int pa_nil)))))) pa_nil))) pa_nil)) (pg_name (i := 5) sc_law.nd rfl (Or.inl rfl)) (pss_one (ps_set (i := 4) sc_law.nd rfl (Or.inl rfl) (pe_g G_l_bent (hr.mono (by decide)) (by rfl) T.g_l_bent T.F_l_bent.kp T.b_l_bent .nil pass0 (pa_cons (pv 1) (pa_cons (pv 4) pa_nil))))))
    (pss_one (ps_expr (pe_bm PySem.F.plainAttrs_list PySem.F.slot_list_append PySem.F.type_list_append mt_append (pv 2) (pa_cons (pv 4) pa_nil)))))))
    (pss_cons (ps_set (i := 6) sc_law.nd rfl (Or.inl rfl) (pe_callB (call_repr hr) (by rfl) T.z_repr (by decide +kernel) (pa_cons (pv 2) pa_nil)))
    (pss_cons (ps_for PassesOwn.never rfl (pi_list (pe_op op_addU (pv 2) (pe_slice sl_U (pv 2) po_none (po_some pe_int)))) (pg_name (i := 4) sc_law.nd rfl (Or.inl rfl)) (pss_cons (ps_set (i := 7) sc_law.nd rfl (Or.inl rfl) (pe_lst (pa_cons (pe_g G_is_guard (hr.mono (by decide)) (by rfl) T.g_is_guard T.F_is_guard.kp T.b_is_guard .nil pass0 (pa_cons (pv 4) pa_nil)) (pa_cons (pe_g G_is_fact (hr.mono (by decide)) (by rfl) T.g_is_fact T.F_is_fact.kp T.b_is_fact .nil pass0 (pa_cons (pv 4) pa_nil)) pa_nil))))
    (pss_one (ps_if (pt_not (pt_val (pe_g G_l_alike (hr.mono (by decide)) (by rfl) T.g_l_alike T.F_l_alike.kp T.b_l_alike .nil pass0 (pa_cons (pv 7) (pa_cons (pe_lst (pa_cons (pe_g G_l_is_ending (hr.mono (by decide)) (by rfl) T.g_l_is_ending T.F_l_is_ending.kp T.b_l_is_ending .nil pass0 (pa_cons (pv 4) (pa_cons (pe_glob (by rfl) T.g_l_is_word rfl) pa_nil))) (pa_cons (pe_g G_l_is_fact (hr.mono (by decide)) (by rfl) T.g_l_is_fact T.F_l_is_fact.kp T.b_l_is_fact .nil pass0 (pa_cons (pv 4) pa_nil)) pa_nil))) pa_nil))))) (pss_one (ps_ret pe_bl)) pss_nil))))
    (pss_cons (ps_asg (pe_tup (pa_cons (pe_tup (pa_cons pe_str pa_nil)) (pa_cons (pe_tup (pa_cons pe_str pa_nil)) (pa_cons (pe_tup (pa_cons pe_str pa_nil)) (pa_cons (pe_tup (pa_cons pe_str (pa_cons pe_str pa_nil))) pa_nil))))) (pg_tup rfl (pgs_cons (pg_name (i := 8) sc_law.nd rfl (Or.inl rfl)) (pgs_cons (pg_name (i := 9) sc_law.nd rfl (Or.inl rfl)) (pgs_cons (pg_name (i := 10) sc_law.nd rfl (Or.inl rfl)) (pgs_cons (pg_name (i := 11) sc_law.nd rfl (Or.inl rfl)) pgs_nil))))))
    (pss_cons (ps_for PassesOwn.never rfl (pi_range1 (by rfl) T.z_range (pa_cons pe_int pa_nil)) (pg_name (i := 12) sc_law.nd rfl (Or.inl rfl)) (pss_one (ps_par rfl sc_law.nd rfl rfl (by decide) rfl rfl (pa_cons (pe_tup (pa_cons pe_str (pa_cons (pv 8) (pa_cons (pv 9) (pa_cons (pe_tup (pa_cons pe_str pa_nil)) (pa_cons (pv 10) pa_nil)))))) (pa_cons (pe_tup (pa_cons pe_str (pa_cons (pv 8) (pa_cons (pv 9) (pa_cons (pe_tup (pa_cons pe_str pa_nil)) (pa_cons (pv 11) pa_nil)))))) pa_nil)) (by rfl))))
    (pss_cons (ps_if (pt_not (pt_val (pe_g G_l_alike (hr.mono (by decide)) (by rfl) T.g_l_alike T.F_l_alike.kp T.b_l_alike .nil pass0 (pa_cons (pe_lst (pa_cons (pe_g G_is_guard (hr.mono (by decide)) (by rfl) T.g_is_guard T.F_is_guard.kp T.b_is_guard .nil pass0 (pa_cons (pv 10) pa_nil)) (pa_cons (pe_g G_is_guard (hr.mono (by decide)) (by rfl) T.g_is_guard T.F_is_guard.kp T.b_is_guard .nil pass0 (pa_cons (pv 11) pa_nil)) pa_nil))) (pa_cons (pe_lst (pa_cons pe_bl (pa_cons pe_bl pa_nil))) pa_nil))))) (pss_one (ps_ret pe_bl)) pss_nil)
    (pss_one (ps_ret (pe_cmpR (op_eqU hr.r.units)  (pe_callB (call_repr hr) (by rfl) T.z_repr (by decide +kernel) (pa_cons (pv 2) pa_nil)) (pv 6) (nomark _))))))))))))
end
theorem all_mk {l : PySem.W.OpenLaw} {w : World} {K : PySem.W.Frag} {h : Heap} {mg : Str → Option Value} {fa : Addr} (X : K.In h) (G : h.Ns mainGlobals mg) (hfa : mg "law" = some (.ref fa))
    {f0 : Addr} {od0 an0 : Option Addr} {sl0 : Array (Option Value)} {oc0 kV0 dc0 pm0 cd0 ct0 : Value}
    {f1 : Addr} {od1 an1 : Option Addr} {sl1 : Array (Option Value)} {oc1 kV1 dc1 pm1 cd1 ct1 : Value}
    {f2 : Addr} {od2 an2 : Option Addr} {sl2 : Array (Option Value)} {oc2 kV2 dc2 pm2 cd2 ct2 : Value}
    {f3 : Addr} {od3 an3 : Option Addr} {sl3 : Array (Option Value)} {oc3 kV3 dc3 pm3 cd3 ct3 : Value}
    {f4 : Addr} {od4 an4 : Option Addr} {sl4 : Array (Option Value)} {oc4 kV4 dc4 pm4 cd4 ct4 : Value}
    {f5 : Addr} {od5 an5 : Option Addr} {sl5 : Array (Option Value)} {oc5 kV5 dc5 pm5 cd5 ct5 : Value}
    {f6 : Addr} {od6 an6 : Option Addr} {sl6 : Array (Option Value)} {oc6 kV6 dc6 pm6 cd6 ct6 : Value}
    {f7 : Addr} {od7 an7 : Option Addr} {sl7 : Array (Option Value)} {oc7 kV7 dc7 pm7 cd7 ct7 : Value}
    {f8 : Addr} {od8 an8 : Option Addr} {sl8 : Array (Option Value)} {oc8 kV8 dc8 pm8 cd8 ct8 : Value}
    {f9 : Addr} {od9 an9 : Option Addr} {sl9 : Array (Option Value)} {oc9 kV9 dc9 pm9 cd9 ct9 : Value}
    {f10 : Addr} {od10 an10 : Option Addr} {sl10 : Array (Option Value)} {oc10 kV10 dc10 pm10 cd10 ct10 : Value}
    {f11 : Addr} {od11 an11 : Option Addr} {sl11 : Array (Option Value)} {oc11 kV11 dc11 pm11 cd11 ct11 : Value}
    {f12 : Addr} {od12 an12 : Option Addr} {sl12 : Array (Option Value)} {oc12 kV12 dc12 pm12 cd12 ct12 : Value}
    {f13 : Addr} {od13 an13 : Option Addr} {sl13 : Array (Option Value)} {oc13 kV13 dc13 pm13 cd13 ct13 : Value}
    {f14 : Addr} {od14 an14 : Option Addr} {sl14 : Array (Option Value)} {oc14 kV14 dc14 pm14 cd14 ct14 : Value}
    {f15 : Addr} {od15 an15 : Option Addr} {sl15 : Array (Option Value)} {oc15 kV15 dc15 pm15 cd15 ct15 : Value}
    {f16 : Addr} {od16 an16 : Option Addr} {sl16 : Array (Option Value)} {oc16 kV16 dc16 pm16 cd16 ct16 : Value}
    {f17 : Addr} {od17 an17 : Option Addr} {sl17 : Array (Option Value)} {oc17 kV17 dc17 pm17 cd17 ct17 : Value}
    {f18 : Addr} {od18 an18 : Option Addr} {sl18 : Array (Option Value)} {oc18 kV18 dc18 pm18 cd18 ct18 : Value}
    {f19 : Addr} {od19 an19 : Option Addr} {sl19 : Array (Option Value)} {oc19 kV19 dc19 pm19 cd19 ct19 : Value}
    {f20 : Addr} {od20 an20 : Option Addr} {sl20 : Array (Option Value)} {oc20 kV20 dc20 pm20 cd20 ct20 : Value}
    {f21 : Addr} {od21 an21 : Option Addr} {sl21 : Array (Option Value)} {oc21 kV21 dc21 pm21 cd21 ct21 : Value}
    {f22 : Addr} {od22 an22 : Option Addr} {sl22 : Array (Option Value)} {oc22 kV22 dc22 pm22 cd22 ct22 : Value}
    {ca0 : Addr} {cod0 : Option Addr} {cits0 : Array Value} {cn0 : Nat} {csl0 : Array (Option Value)}
    (a0 : PySem.W.nsIn K mainGlobals "is_name" = some (some (.ref f0))) (l0 : K.lookup f0 = some ⟨oc0, od0, .func (PySem.W.fnOf "is_name" "is_name" (defArgs s_is_name) (defBody s_is_name) (defScope s_is_name) .none kV0 dc0 pm0 an0 cd0 ct0), sl0⟩) (c0 : PySem.W.codeIn K cd0 "is_name" = true) (k0 : PySem.W.keepIn K (.ref f0) = true)
    (a1 : PySem.W.nsIn K mainGlobals "is_term" = some (some (.ref f1))) (l1 : K.lookup f1 = some ⟨oc1, od1, .func (PySem.W.fnOf "is_term" "is_term" (defArgs s_is_term) (defBody s_is_term) (defScope s_is_term) .none kV1 dc1 pm1 an1 cd1 ct1), sl1⟩) (c1 : PySem.W.codeIn K cd1 "is_term" = true) (k1 : PySem.W.keepIn K (.ref f1) = true)
    (a2 : PySem.W.nsIn K mainGlobals "is_fork" = some (some (.ref f2))) (l2 : K.lookup f2 = some ⟨oc2, od2, .func (PySem.W.fnOf "is_fork" "is_fork" (defArgs s_is_fork) (defBody s_is_fork) (defScope s_is_fork) .none kV2 dc2 pm2 an2 cd2 ct2), sl2⟩) (c2 : PySem.W.codeIn K cd2 "is_fork" = true) (k2 : PySem.W.keepIn K (.ref f2) = true)
    (a3 : PySem.W.nsIn K mainGlobals "is_forked" = some (some (.ref f3))) (l3 : K.lookup f3 = some ⟨oc3, od3, .func (PySem.W.fnOf "is_forked" "is_forked" (defArgs s_is_forked) (defBody s_is_forked) (defScope s_is_forked) .none kV3 dc3 pm3 an3 cd3 ct3), sl3⟩) (c3 : PySem.W.codeIn K cd3 "is_forked" = true) (k3 : PySem.W.keepIn K (.ref f3) = true)
    (a4 : PySem.W.nsIn K mainGlobals "is_guard" = some (some (.ref f4))) (l4 : K.lookup f4 = some ⟨oc4, od4, .func (PySem.W.fnOf "is_guard" "is_guard" (defArgs s_is_guard) (defBody s_is_guard) (defScope s_is_guard) .none kV4 dc4 pm4 an4 cd4 ct4), sl4⟩) (c4 : PySem.W.codeIn K cd4 "is_guard" = true) (k4 : PySem.W.keepIn K (.ref f4) = true)
    (a5 : PySem.W.nsIn K mainGlobals "is_fact" = some (some (.ref f5))) (l5 : K.lookup f5 = some ⟨oc5, od5, .func (PySem.W.fnOf "is_fact" "is_fact" (defArgs s_is_fact) (defBody s_is_fact) (defScope s_is_fact) .none kV5 dc5 pm5 an5 cd5 ct5), sl5⟩) (c5 : PySem.W.codeIn K cd5 "is_fact" = true) (k5 : PySem.W.keepIn K (.ref f5) = true)
    (a6 : PySem.W.nsIn K mainGlobals "_is_guard_end" = some (some (.ref f6))) (l6 : K.lookup f6 = some ⟨oc6, od6, .func (PySem.W.fnOf "_is_guard_end" "_is_guard_end" (defArgs s__is_guard_end) (defBody s__is_guard_end) (defScope s__is_guard_end) .none kV6 dc6 pm6 an6 cd6 ct6), sl6⟩) (c6 : PySem.W.codeIn K cd6 "_is_guard_end" = true) (k6 : PySem.W.keepIn K (.ref f6) = true)
    (a7 : PySem.W.nsIn K mainGlobals "_law_bag" = some (some (.ref f7))) (l7 : K.lookup f7 = some ⟨oc7, od7, .func (PySem.W.fnOf "_law_bag" "_law_bag" (defArgs s_l_bag) (defBody s_l_bag) (defScope s_l_bag) .none kV7 dc7 pm7 an7 cd7 ct7), sl7⟩) (c7 : PySem.W.codeIn K cd7 "_law_bag" = true) (k7 : PySem.W.keepIn K (.ref f7) = true)
    (a8 : PySem.W.nsIn K mainGlobals "_law_take" = some (some (.ref f8))) (l8 : K.lookup f8 = some ⟨oc8, od8, .func (PySem.W.fnOf "_law_take" "_law_take" (defArgs s_l_take) (defBody s_l_take) (defScope s_l_take) .none kV8 dc8 pm8 an8 cd8 ct8), sl8⟩) (c8 : PySem.W.codeIn K cd8 "_law_take" = true) (k8 : PySem.W.keepIn K (.ref f8) = true)
    (a9 : PySem.W.nsIn K mainGlobals "_law_alike" = some (some (.ref f9))) (l9 : K.lookup f9 = some ⟨oc9, od9, .func (PySem.W.fnOf "_law_alike" "_law_alike" (defArgs s_l_alike) (defBody s_l_alike) (defScope s_l_alike) .none kV9 dc9 pm9 an9 cd9 ct9), sl9⟩) (c9 : PySem.W.codeIn K cd9 "_law_alike" = true) (k9 : PySem.W.keepIn K (.ref f9) = true)
    (a10 : PySem.W.nsIn K mainGlobals "_law_one" = some (some (.ref f10))) (l10 : K.lookup f10 = some ⟨oc10, od10, .func (PySem.W.fnOf "_law_one" "_law_one" (defArgs s_l_one) (defBody s_l_one) (defScope s_l_one) .none kV10 dc10 pm10 an10 cd10 ct10), sl10⟩) (c10 : PySem.W.codeIn K cd10 "_law_one" = true) (k10 : PySem.W.keepIn K (.ref f10) = true)
    (a11 : PySem.W.nsIn K mainGlobals "_law_odd" = some (some (.ref f11))) (l11 : K.lookup f11 = some ⟨oc11, od11, .func (PySem.W.fnOf "_law_odd" "_law_odd" (defArgs s_l_odd) (defBody s_l_odd) (defScope s_l_odd) .none kV11 dc11 pm11 an11 cd11 ct11), sl11⟩) (c11 : PySem.W.codeIn K cd11 "_law_odd" = true) (k11 : PySem.W.keepIn K (.ref f11) = true)
    (a12 : PySem.W.nsIn K mainGlobals "_law_is_name" = some (some (.ref f12))) (l12 : K.lookup f12 = some ⟨oc12, od12, .func (PySem.W.fnOf "_law_is_name" "_law_is_name" (defArgs s_l_is_name) (defBody s_l_is_name) (defScope s_l_is_name) .none kV12 dc12 pm12 an12 cd12 ct12), sl12⟩) (c12 : PySem.W.codeIn K cd12 "_law_is_name" = true) (k12 : PySem.W.keepIn K (.ref f12) = true)
    (a13 : PySem.W.nsIn K mainGlobals "_law_is_term" = some (some (.ref f13))) (l13 : K.lookup f13 = some ⟨oc13, od13, .func (PySem.W.fnOf "_law_is_term" "_law_is_term" (defArgs s_l_is_term) (defBody s_l_is_term) (defScope s_l_is_term) .none kV13 dc13 pm13 an13 cd13 ct13), sl13⟩) (c13 : PySem.W.codeIn K cd13 "_law_is_term" = true) (k13 : PySem.W.keepIn K (.ref f13) = true)
    (a14 : PySem.W.nsIn K mainGlobals "_law_is_ending" = some (some (.ref f14))) (l14 : K.lookup f14 = some ⟨oc14, od14, .func (PySem.W.fnOf "_law_is_ending" "_law_is_ending" (defArgs s_l_is_ending) (defBody s_l_is_ending) (defScope s_l_is_ending) .none kV14 dc14 pm14 an14 cd14 ct14), sl14⟩) (c14 : PySem.W.codeIn K cd14 "_law_is_ending" = true) (k14 : PySem.W.keepIn K (.ref f14) = true)
    (a15 : PySem.W.nsIn K mainGlobals "_law_is_word" = some (some (.ref f15))) (l15 : K.lookup f15 = some ⟨oc15, od15, .func (PySem.W.fnOf "_law_is_word" "_law_is_word" (defArgs s_l_is_word) (defBody s_l_is_word) (defScope s_l_is_word) .none kV15 dc15 pm15 an15 cd15 ct15), sl15⟩) (c15 : PySem.W.codeIn K cd15 "_law_is_word" = true) (k15 : PySem.W.keepIn K (.ref f15) = true)
    (a16 : PySem.W.nsIn K mainGlobals "_law_is_fact" = some (some (.ref f16))) (l16 : K.lookup f16 = some ⟨oc16, od16, .func (PySem.W.fnOf "_law_is_fact" "_law_is_fact" (defArgs s_l_is_fact) (defBody s_l_is_fact) (defScope s_l_is_fact) .none kV16 dc16 pm16 an16 cd16 ct16), sl16⟩) (c16 : PySem.W.codeIn K cd16 "_law_is_fact" = true) (k16 : PySem.W.keepIn K (.ref f16) = true)
    (a17 : PySem.W.nsIn K mainGlobals "_law_name" = some (some (.ref f17))) (l17 : K.lookup f17 = some ⟨oc17, od17, .func (PySem.W.fnOf "_law_name" "_law_name" (defArgs s_l_name) (defBody s_l_name) (defScope s_l_name) .none kV17 dc17 pm17 an17 cd17 ct17), sl17⟩) (c17 : PySem.W.codeIn K cd17 "_law_name" = true) (k17 : PySem.W.keepIn K (.ref f17) = true)
    (a18 : PySem.W.nsIn K mainGlobals "_law_any_term" = some (some (.ref f18))) (l18 : K.lookup f18 = some ⟨oc18, od18, .func (PySem.W.fnOf "_law_any_term" "_law_any_term" (defArgs s_l_any_term) (defBody s_l_any_term) (defScope s_l_any_term) .none kV18 dc18 pm18 an18 cd18 ct18), sl18⟩) (c18 : PySem.W.codeIn K cd18 "_law_any_term" = true) (k18 : PySem.W.keepIn K (.ref f18) = true)
    (a19 : PySem.W.nsIn K mainGlobals "_law_bent" = some (some (.ref f19))) (l19 : K.lookup f19 = some ⟨oc19, od19, .func (PySem.W.fnOf "_law_bent" "_law_bent" (defArgs s_l_bent) (defBody s_l_bent) (defScope s_l_bent) .none kV19 dc19 pm19 an19 cd19 ct19), sl19⟩) (c19 : PySem.W.codeIn K cd19 "_law_bent" = true) (k19 : PySem.W.keepIn K (.ref f19) = true)
    (a20 : PySem.W.nsIn K mainGlobals "_law_any_code" = some (some (.ref f20))) (l20 : K.lookup f20 = some ⟨oc20, od20, .func (PySem.W.fnOf "_law_any_code" "_law_any_code" (defArgs s_l_any_code) (defBody s_l_any_code) (defScope s_l_any_code) .none kV20 dc20 pm20 an20 cd20 ct20), sl20⟩) (c20 : PySem.W.codeIn K cd20 "_law_any_code" = true) (k20 : PySem.W.keepIn K (.ref f20) = true)
    (a21 : PySem.W.nsIn K mainGlobals "_law_drawn" = some (some (.ref f21))) (l21 : K.lookup f21 = some ⟨oc21, od21, .func (PySem.W.fnOf "_law_drawn" "_law_drawn" (defArgs s_l_drawn) (defBody s_l_drawn) (defScope s_l_drawn) .none kV21 dc21 pm21 an21 cd21 ct21), sl21⟩) (c21 : PySem.W.codeIn K cd21 "_law_drawn" = true) (k21 : PySem.W.keepIn K (.ref f21) = true)
    (a22 : PySem.W.nsIn K mainGlobals "law" = some (some (.ref f22))) (l22 : K.lookup f22 = some ⟨oc22, od22, .func (PySem.W.fnOf "law" "law" (defArgs s_law) (defBody s_law) (defScope s_law) .none kV22 dc22 pm22 an22 cd22 ct22), sl22⟩) (c22 : PySem.W.codeIn K cd22 "law" = true) (k22 : PySem.W.keepIn K (.ref f22) = true)
    (z0 : PySem.W.nsIn K mainGlobals "abs" = some none)
    (z1 : PySem.W.nsIn K mainGlobals "all" = some none)
    (z2 : PySem.W.nsIn K mainGlobals "int" = some none)
    (z3 : PySem.W.nsIn K mainGlobals "isinstance" = some none)
    (z4 : PySem.W.nsIn K mainGlobals "len" = some none)
    (z5 : PySem.W.nsIn K mainGlobals "list" = some none)
    (z6 : PySem.W.nsIn K mainGlobals "range" = some none)
    (z7 : PySem.W.nsIn K mainGlobals "repr" = some none)
    (z8 : PySem.W.nsIn K mainGlobals "str" = some none)
    (z9 : PySem.W.nsIn K mainGlobals "tuple" = some none)
    (ca0' : PySem.W.nsIn K mainGlobals "_NO_NAMES" = some (some (.ref ca0))) (cl0 : K.lookup ca0 = some ⟨.type "tuple", cod0, .seq cits0 cn0, csl0⟩) (cz0 : cits0.size ≤ sizeLine) (cv0 : Vals v_NO_NAMES cits0.toList) :
    ∃ fd : FuncData, (∀ (s : Shared) (v : Value), BindsTo s fd ⟨[v], []⟩ [("_law_script", v)]) ∧ ∀ base : Heap, K.In base → base.Ns mainGlobals mg → FnG l.prog w K mg base L2.CX0 102 fa fd ["_law_script"] (sp_law K) := by
  have e := hfa.symm.trans (PySem.W.mg_of X G a22)
  cases e
  let t : Tab := ⟨f0,
    PySem.W.fnOf "is_name" "is_name" (defArgs s_is_name) (defBody s_is_name) (defScope s_is_name) .none kV0 dc0 pm0 an0 cd0 ct0,
    f1,
    PySem.W.fnOf "is_term" "is_term" (defArgs s_is_term) (defBody s_is_term) (defScope s_is_term) .none kV1 dc1 pm1 an1 cd1 ct1,
    f2,
    PySem.W.fnOf "is_fork" "is_fork" (defArgs s_is_fork) (defBody s_is_fork) (defScope s_is_fork) .none kV2 dc2 pm2 an2 cd2 ct2,
    f3,
    PySem.W.fnOf "is_forked" "is_forked" (defArgs s_is_forked) (defBody s_is_forked) (defScope s_is_forked) .none kV3 dc3 pm3 an3 cd3 ct3,
    f4,
    PySem.W.fnOf "is_guard" "is_guard" (defArgs s_is_guard) (defBody s_is_guard) (defScope s_is_guard) .none kV4 dc4 pm4 an4 cd4 ct4,
    f5,
    PySem.W.fnOf "is_fact" "is_fact" (defArgs s_is_fact) (defBody s_is_fact) (defScope s_is_fact) .none kV5 dc5 pm5 an5 cd5 ct5,
    f6,
    PySem.W.fnOf "_is_guard_end" "_is_guard_end" (defArgs s__is_guard_end) (defBody s__is_guard_end) (defScope s__is_guard_end) .none kV6 dc6 pm6 an6 cd6 ct6,
    f7,
    PySem.W.fnOf "_law_bag" "_law_bag" (defArgs s_l_bag) (defBody s_l_bag) (defScope s_l_bag) .none kV7 dc7 pm7 an7 cd7 ct7,
    f8,
    PySem.W.fnOf "_law_take" "_law_take" (defArgs s_l_take) (defBody s_l_take) (defScope s_l_take) .none kV8 dc8 pm8 an8 cd8 ct8,
    f9,
    PySem.W.fnOf "_law_alike" "_law_alike" (defArgs s_l_alike) (defBody s_l_alike) (defScope s_l_alike) .none kV9 dc9 pm9 an9 cd9 ct9,
    f10,
    PySem.W.fnOf "_law_one" "_law_one" (defArgs s_l_one) (defBody s_l_one) (defScope s_l_one) .none kV10 dc10 pm10 an10 cd10 ct10,
    f11,
    PySem.W.fnOf "_law_odd" "_law_odd" (defArgs s_l_odd) (defBody s_l_odd) (defScope s_l_odd) .none kV11 dc11 pm11 an11 cd11 ct11,
    f12,
    PySem.W.fnOf "_law_is_name" "_law_is_name" (defArgs s_l_is_name) (defBody s_l_is_name) (defScope s_l_is_name) .none kV12 dc12 pm12 an12 cd12 ct12,
    f13,
    PySem.W.fnOf "_law_is_term" "_law_is_term" (defArgs s_l_is_term) (defBody s_l_is_term) (defScope s_l_is_term) .none kV13 dc13 pm13 an13 cd13 ct13,
    f14,
    PySem.W.fnOf "_law_is_ending" "_law_is_ending" (defArgs s_l_is_ending) (defBody s_l_is_ending) (defScope s_l_is_ending) .none kV14 dc14 pm14 an14 cd14 ct14,
    f15,
    PySem.W.fnOf "_law_is_word" "_law_is_word" (defArgs s_l_is_word) (defBody s_l_is_word) (defScope s_l_is_word) .none kV15 dc15 pm15 an15 cd15 ct15,
    f16,
    PySem.W.fnOf "_law_is_fact" "_law_is_fact" (defArgs s_l_is_fact) (defBody s_l_is_fact) (defScope s_l_is_fact) .none kV16 dc16 pm16 an16 cd16 ct16,
    f17,
    PySem.W.fnOf "_law_name" "_law_name" (defArgs s_l_name) (defBody s_l_name) (defScope s_l_name) .none kV17 dc17 pm17 an17 cd17 ct17,
    f18,
    PySem.W.fnOf "_law_any_term" "_law_any_term" (defArgs s_l_any_term) (defBody s_l_any_term) (defScope s_l_any_term) .none kV18 dc18 pm18 an18 cd18 ct18,
    f19,
    PySem.W.fnOf "_law_bent" "_law_bent" (defArgs s_l_bent) (defBody s_l_bent) (defScope s_l_bent) .none kV19 dc19 pm19 an19 cd19 ct19,
    f20,
    PySem.W.fnOf "_law_any_code" "_law_any_code" (defArgs s_l_any_code) (defBody s_l_any_code) (defScope s_l_any_code) .none kV20 dc20 pm20 an20 cd20 ct20,
    f21,
    PySem.W.fnOf "_law_drawn" "_law_drawn" (defArgs s_l_drawn) (defBody s_l_drawn) (defScope s_l_drawn) .none kV21 dc21 pm21 an21 cd21 ct21,
    fa,
    PySem.W.fnOf "law" "law" (defArgs s_law) (defBody s_law) (defScope s_law) .none kV22 dc22 pm22 an22 cd22 ct22,
    ca0⟩
  have T : Tx K mg t := ⟨fun_mk (st := s_is_name) l0 c0 k0,
    (fun_mk (st := s_is_name) l0 c0 k0).binds (ps := ["thing"]) fun _ _ _ _ _ _ us hl => match us, hl with | [_], _ => rfl,
    PySem.W.mg_of X G a0,
    fun_mk (st := s_is_term) l1 c1 k1,
    (fun_mk (st := s_is_term) l1 c1 k1).binds (ps := ["thing"]) fun _ _ _ _ _ _ us hl => match us, hl with | [_], _ => rfl,
    PySem.W.mg_of X G a1,
    fun_mk (st := s_is_fork) l2 c2 k2,
    (fun_mk (st := s_is_fork) l2 c2 k2).binds (ps := ["thing"]) fun _ _ _ _ _ _ us hl => match us, hl with | [_], _ => rfl,
    PySem.W.mg_of X G a2,
    fun_mk (st := s_is_forked) l3 c3 k3,
    (fun_mk (st := s_is_forked) l3 c3 k3).binds (ps := ["thing", "is_end"]) fun _ _ _ _ _ _ us hl => match us, hl with | [_, _], _ => rfl,
    PySem.W.mg_of X G a3,
    fun_mk (st := s_is_guard) l4 c4 k4,
    (fun_mk (st := s_is_guard) l4 c4 k4).binds (ps := ["thing"]) fun _ _ _ _ _ _ us hl => match us, hl with | [_], _ => rfl,
    PySem.W.mg_of X G a4,
    fun_mk (st := s_is_fact) l5 c5 k5,
    (fun_mk (st := s_is_fact) l5 c5 k5).binds (ps := ["thing"]) fun _ _ _ _ _ _ us hl => match us, hl with | [_], _ => rfl,
    PySem.W.mg_of X G a5,
    fun_mk (st := s__is_guard_end) l6 c6 k6,
    (fun_mk (st := s__is_guard_end) l6 c6 k6).binds (ps := ["thing"]) fun _ _ _ _ _ _ us hl => match us, hl with | [_], _ => rfl,
    PySem.W.mg_of X G a6,
    fun_mk (st := s_l_bag) l7 c7 k7,
    (fun_mk (st := s_l_bag) l7 c7 k7).binds (ps := ["_law_script"]) fun _ _ _ _ _ _ us hl => match us, hl with | [_], _ => rfl,
    PySem.W.mg_of X G a7,
    fun_mk (st := s_l_take) l8 c8 k8,
    (fun_mk (st := s_l_take) l8 c8 k8).binds (ps := ["_law_bag_here", "_law_many"]) fun _ _ _ _ _ _ us hl => match us, hl with | [_, _], _ => rfl,
    PySem.W.mg_of X G a8,
    fun_mk (st := s_l_alike) l9 c9 k9,
    (fun_mk (st := s_l_alike) l9 c9 k9).binds (ps := ["_law_found", "_law_due"]) fun _ _ _ _ _ _ us hl => match us, hl with | [_, _], _ => rfl,
    PySem.W.mg_of X G a9,
    fun_mk (st := s_l_one) l10 c10 k10,
    (fun_mk (st := s_l_one) l10 c10 k10).binds (ps := ["_law_bag_here", "_law_some"]) fun _ _ _ _ _ _ us hl => match us, hl with | [_, _], _ => rfl,
    PySem.W.mg_of X G a10,
    fun_mk (st := s_l_odd) l11 c11 k11,
    (fun_mk (st := s_l_odd) l11 c11 k11).binds (ps := ["_law_bag_here"]) fun _ _ _ _ _ _ us hl => match us, hl with | [_], _ => rfl,
    PySem.W.mg_of X G a11,
    fun_mk (st := s_l_is_name) l12 c12 k12,
    (fun_mk (st := s_l_is_name) l12 c12 k12).binds (ps := ["_law_thing"]) fun _ _ _ _ _ _ us hl => match us, hl with | [_], _ => rfl,
    PySem.W.mg_of X G a12,
    fun_mk (st := s_l_is_term) l13 c13 k13,
    (fun_mk (st := s_l_is_term) l13 c13 k13).binds (ps := ["_law_thing"]) fun _ _ _ _ _ _ us hl => match us, hl with | [_], _ => rfl,
    PySem.W.mg_of X G a13,
    fun_mk (st := s_l_is_ending) l14 c14 k14,
    (fun_mk (st := s_l_is_ending) l14 c14 k14).binds (ps := ["_law_thing", "_law_is_end"]) fun _ _ _ _ _ _ us hl => match us, hl with | [_, _], _ => rfl,
    PySem.W.mg_of X G a14,
    fun_mk (st := s_l_is_word) l15 c15 k15,
    (fun_mk (st := s_l_is_word) l15 c15 k15).binds (ps := ["_law_thing"]) fun _ _ _ _ _ _ us hl => match us, hl with | [_], _ => rfl,
    PySem.W.mg_of X G a15,
    fun_mk (st := s_l_is_fact) l16 c16 k16,
    (fun_mk (st := s_l_is_fact) l16 c16 k16).binds (ps := ["_law_thing"]) fun _ _ _ _ _ _ us hl => match us, hl with | [_], _ => rfl,
    PySem.W.mg_of X G a16,
    fun_mk (st := s_l_name) l17 c17 k17,
    (fun_mk (st := s_l_name) l17 c17 k17).binds (ps := ["_law_bag_here"]) fun _ _ _ _ _ _ us hl => match us, hl with | [_], _ => rfl,
    PySem.W.mg_of X G a17,
    fun_mk (st := s_l_any_term) l18 c18 k18,
    (fun_mk (st := s_l_any_term) l18 c18 k18).binds (ps := ["_law_bag_here", "_law_deep"]) fun _ _ _ _ _ _ us hl => match us, hl with | [_, _], _ => rfl,
    PySem.W.mg_of X G a18,
    fun_mk (st := s_l_bent) l19 c19 k19,
    (fun_mk (st := s_l_bent) l19 c19 k19).binds (ps := ["_law_bag_here", "_law_thing"]) fun _ _ _ _ _ _ us hl => match us, hl with | [_, _], _ => rfl,
    PySem.W.mg_of X G a19,
    fun_mk (st := s_l_any_code) l20 c20 k20,
    (fun_mk (st := s_l_any_code) l20 c20 k20).binds (ps := ["_law_bag_here", "_law_deep", "_law_guarded"]) fun _ _ _ _ _ _ us hl => match us, hl with | [_, _, _], _ => rfl,
    PySem.W.mg_of X G a20,
    fun_mk (st := s_l_drawn) l21 c21 k21,
    (fun_mk (st := s_l_drawn) l21 c21 k21).binds (ps := ["_law_bag_here"]) fun _ _ _ _ _ _ us hl => match us, hl with | [_], _ => rfl,
    PySem.W.mg_of X G a21,
    fun_mk (st := s_law) l22 c22 k22,
    (fun_mk (st := s_law) l22 c22 k22).binds (ps := ["_law_script"]) fun _ _ _ _ _ _ us hl => match us, hl with | [_], _ => rfl,
    PySem.W.mg_of X G a22,
    PySem.W.mg_none_of X G z0,
    PySem.W.mg_none_of X G z1,
    PySem.W.mg_none_of X G z2,
    PySem.W.mg_none_of X G z3,
    PySem.W.mg_none_of X G z4,
    PySem.W.mg_none_of X G z5,
    PySem.W.mg_none_of X G z6,
    PySem.W.mg_none_of X G z7,
    PySem.W.mg_none_of X G z8,
    PySem.W.mg_none_of X G z9,
    PySem.W.mg_of X G ca0',
    rep_NO_NAMES (.inr ⟨_, _, _, cl0, rfl, rfl, cz0, cv0⟩)⟩
  exact ⟨t.fd_law, fun s v => .of_eq rfl, fun base _ _ => ok_law T⟩
end DL
open PySem PySem.W PyProof.Rows
set_option maxHeartbeats 0 in
theorem PySem.Challenge.cw_answerskept_k13_guards_and_facts_holds : PySem.Challenge.rw_answerskept_k13_guards_and_facts.Holds := by
  w_on; o_law; k_head; (case hw => w_witness2)
  k_fill
  refine DL.walk_g (l := PySem.Challenge.rw_answerskept_k13_guards_and_facts) (n := 63) (k := 102) (x := "_law_script") (CX := fun _ => L2.CX0) (sp := fun w => DL.sp_law _) rfl (by decide) rfl ⟨rfl, by decide, by decide⟩ (fun w h Y => PySem.W.kIn_of Y) ?F (fun _ _ a ns hl _ hS => ⟨a, ns, rfl, hl, hS, fun _ => rfl⟩) (fun _ _ _ _ _ h => h)
  case F =>
    intro w mg fa h KX G hmg
    refine' DL.all_mk KX G hmg ?a0 ?l0 ?c0 ?k0 ?a1 ?l1 ?c1 ?k1 ?a2 ?l2 ?c2 ?k2 ?a3 ?l3 ?c3 ?k3 ?a4 ?l4 ?c4 ?k4 ?a5 ?l5 ?c5 ?k5 ?a6 ?l6 ?c6 ?k6 ?a7 ?l7 ?c7 ?k7 ?a8 ?l8 ?c8 ?k8 ?a9 ?l9 ?c9 ?k9 ?a10 ?l10 ?c10 ?k10 ?a11 ?l11 ?c11 ?k11 ?a12 ?l12 ?c12 ?k12 ?a13 ?l13 ?c13 ?k13 ?a14 ?l14 ?c14 ?k14 ?a15 ?l15 ?c15 ?k15 ?a16 ?l16 ?c16 ?k16 ?a17 ?l17 ?c17 ?k17 ?a18 ?l18 ?c18 ?k18 ?a19 ?l19 ?c19 ?k19 ?a20 ?l20 ?c20 ?k20 ?a21 ?l21 ?c21 ?k21 ?a22 ?l22 ?c22 ?k22 ?z0 ?z1 ?z2 ?z3 ?z4 ?z5 ?z6 ?z7 ?z8 ?z9 ?ca0x ?cl0 ?cz0 ?cv0
    (case a0 => k_is); (case l0 => k_is); (case c0 => k_is); (case k0 => k_is); (case a1 => k_is); (case l1 => k_is); (case c1 => k_is); (case k1 => k_is); (case a2 => k_is); (case l2 => k_is); (case c2 => k_is); (case k2 => k_is); (case a3 => k_is); (case l3 => k_is); (case c3 => k_is); (case k3 => k_is); (case a4 => k_is); (case l4 => k_is); (case c4 => k_is); (case k4 => k_is); (case a5 => k_is); (case l5 => k_is); (case c5 => k_is); (case k5 => k_is); (case a6 => k_is); (case l6 => k_is); (case c6 => k_is); (case k6 => k_is); (case a7 => k_is); (case l7 => k_is); (case c7 => k_is); (case k7 => k_is); (case a8 => k_is); (case l8 => k_is); (case c8 => k_is); (case k8 => k_is); (case a9 => k_is); (case l9 => k_is); (case c9 => k_is); (case k9 => k_is); (case a10 => k_is); (case l10 => k_is); (case c10 => k_is); (case k10 => k_is); (case a11 => k_is); (case l11 => k_is); (case c11 => k_is); (case k11 => k_is); (case a12 => k_is); (case l12 => k_is); (case c12 => k_is); (case k12 => k_is); (case a13 => k_is); (case l13 => k_is); (case c13 => k_is); (case k13 => k_is); (case a14 => k_is); (case l14 => k_is); (case c14 => k_is); (case k14 => k_is); (case a15 => k_is); (case l15 => k_is); (case c15 => k_is); (case k15 => k_is); (case a16 => k_is); (case l16 => k_is); (case c16 => k_is); (case k16 => k_is); (case a17 => k_is); (case l17 => k_is); (case c17 => k_is); (case k17 => k_is); (case a18 => k_is); (case l18 => k_is); (case c18 => k_is); (case k18 => k_is); (case a19 => k_is); (case l19 => k_is); (case c19 => k_is); (case k19 => k_is); (case a20 => k_is); (case l20 => k_is); (case c20 => k_is); (case k20 => k_is); (case a21 => k_is); (case l21 => k_is); (case c21 => k_is); (case k21 => k_is); (case a22 => k_is); (case l22 => k_is); (case c22 => k_is); (case k22 => k_is); (case z0 => k_is); (case z1 => k_is); (case z2 => k_is); (case z3 => k_is); (case z4 => k_is); (case z5 => k_is); (case z6 => k_is); (case z7 => k_is); (case z8 => k_is); (case z9 => k_is); (case ca0x => k_is); (case cl0 => k_is)
    case cz0 => show (_ : Nat) ≤ 16777216; decide
    case cv0 => repeat (first | exact .nil | refine .cons ⟨_, rfl⟩ ?_)

