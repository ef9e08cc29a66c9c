import PyProof.Rows.All
import Wide.All
import OpenK.AllK
import Wide.FinOn
import HandS.Comp
import HandS.Words
import HandS.WordsList
import HandS.Exc
import HandS.Wide
import HandS.IsInst
import HandS.OwnEq
import HandS.Gcd
import HandS.Style
import HandS.Defaults
import HandS.Codes
import HandS.WordsExc
import HandS.ExcInit
import HandS.ExcOwn
import HandS.ExcField
import HandS.ExcIs
import HandS.MakeKw
import HandS.MakeKwOnly
import KE.KExcIs
import HandS.ExcValue
import HandS.EndTab
import HandS.Iter
import KE.KMathGC
import KE.KRevSl
import HandS.Star
import PyProof.InstNe
import PyProof.NeKinds
import HandS.TupAny
import PySem.Challenge.RW_momentrows_k06_poly_fields
set_option Elab.async false
set_option linter.all false
set_option maxRecDepth 100000
set_option maxHeartbeats 4000000
/-! # Operators of own classes, on either side of an int (my own layer over HandS) -/
namespace MoW
open PySem PySem.W
section
variable {prog : Program} {w : World} {A : Around} {E : Value → Shared → Prop} {s : Shared}
theorem int_eq_no (i : Int) (t : Tok) (l C dx : Addr) :
    Meets (Builtin.«int.__eq__» ⟨[.int i t, .ref l], []⟩) (fun _ R s => s.heap.get? l = some (PySem.W.instObj C dx) ∧ R (.ok (.ret .notImplemented)) s) :=
  .of_wp fun prog w A R s h => by obtain ⟨hp, g, d, tk, os⟩ := s; obtain ⟨hl, h⟩ := h; unfold PySem.W.instObj at hl; wp_walk using wpAny_loadPart' hl, wpAny_load hl; exact ⟨_, rfl, h⟩
theorem int_ne_no (i : Int) (t : Tok) (l C dx : Addr) :
    Meets (Builtin.«int.__ne__» ⟨[.int i t, .ref l], []⟩) (fun _ R s => s.heap.get? l = some (PySem.W.instObj C dx) ∧ R (.ok (.ret .notImplemented)) s) :=
  .of_wp fun prog w A R s h => by obtain ⟨hp, g, d, tk, os⟩ := s; obtain ⟨hl, h⟩ := h; unfold PySem.W.instObj at hl; wp_walk using wpAny_loadPart' hl, wpAny_load hl; exact ⟨_, rfl, h⟩
theorem int_lt_no (i : Int) (t : Tok) (l C dx : Addr) :
    Meets (Builtin.«int.__lt__» ⟨[.int i t, .ref l], []⟩) (fun _ R s => s.heap.get? l = some (PySem.W.instObj C dx) ∧ R (.ok (.ret .notImplemented)) s) :=
  .of_wp fun prog w A R s h => by obtain ⟨hp, g, d, tk, os⟩ := s; obtain ⟨hl, h⟩ := h; unfold PySem.W.instObj at hl; wp_walk using wpAny_loadPart' hl, wpAny_load hl; exact ⟨_, rfl, h⟩
theorem int_le_no (i : Int) (t : Tok) (l C dx : Addr) :
    Meets (Builtin.«int.__le__» ⟨[.int i t, .ref l], []⟩) (fun _ R s => s.heap.get? l = some (PySem.W.instObj C dx) ∧ R (.ok (.ret .notImplemented)) s) :=
  .of_wp fun prog w A R s h => by obtain ⟨hp, g, d, tk, os⟩ := s; obtain ⟨hl, h⟩ := h; unfold PySem.W.instObj at hl; wp_walk using wpAny_loadPart' hl, wpAny_load hl; exact ⟨_, rfl, h⟩
theorem int_gt_no (i : Int) (t : Tok) (l C dx : Addr) :
    Meets (Builtin.«int.__gt__» ⟨[.int i t, .ref l], []⟩) (fun _ R s => s.heap.get? l = some (PySem.W.instObj C dx) ∧ R (.ok (.ret .notImplemented)) s) :=
  .of_wp fun prog w A R s h => by obtain ⟨hp, g, d, tk, os⟩ := s; obtain ⟨hl, h⟩ := h; unfold PySem.W.instObj at hl; wp_walk using wpAny_loadPart' hl, wpAny_load hl; exact ⟨_, rfl, h⟩
theorem int_ge_no (i : Int) (t : Tok) (l C dx : Addr) :
    Meets (Builtin.«int.__ge__» ⟨[.int i t, .ref l], []⟩) (fun _ R s => s.heap.get? l = some (PySem.W.instObj C dx) ∧ R (.ok (.ret .notImplemented)) s) :=
  .of_wp fun prog w A R s h => by obtain ⟨hp, g, d, tk, os⟩ := s; obtain ⟨hl, h⟩ := h; unfold PySem.W.instObj at hl; wp_walk using wpAny_loadPart' hl, wpAny_load hl; exact ⟨_, rfl, h⟩
theorem int_add_no (i : Int) (t : Tok) (l C dx : Addr) :
    Meets (Builtin.«int.__add__» ⟨[.int i t, .ref l], []⟩) (fun _ R s => s.heap.get? l = some (PySem.W.instObj C dx) ∧ R (.ok (.ret .notImplemented)) s) :=
  .of_wp fun prog w A R s h => by obtain ⟨hp, g, d, tk, os⟩ := s; obtain ⟨hl, h⟩ := h; unfold PySem.W.instObj at hl; wp_walk using wpAny_loadPart' hl, wpAny_load hl; exact ⟨_, rfl, h⟩
theorem int_sub_no (i : Int) (t : Tok) (l C dx : Addr) :
    Meets (Builtin.«int.__sub__» ⟨[.int i t, .ref l], []⟩) (fun _ R s => s.heap.get? l = some (PySem.W.instObj C dx) ∧ R (.ok (.ret .notImplemented)) s) :=
  .of_wp fun prog w A R s h => by obtain ⟨hp, g, d, tk, os⟩ := s; obtain ⟨hl, h⟩ := h; unfold PySem.W.instObj at hl; wp_walk using wpAny_loadPart' hl, wpAny_load hl; exact ⟨_, rfl, h⟩
theorem int_mul_no (i : Int) (t : Tok) (l C dx : Addr) :
    Meets (Builtin.«int.__mul__» ⟨[.int i t, .ref l], []⟩) (fun _ R s => s.heap.get? l = some (PySem.W.instObj C dx) ∧ R (.ok (.ret .notImplemented)) s) :=
  .of_wp fun prog w A R s h => by obtain ⟨hp, g, d, tk, os⟩ := s; obtain ⟨hl, h⟩ := h; unfold PySem.W.instObj at hl; wp_walk using wpAny_loadPart' hl, wpAny_load hl; exact ⟨_, rfl, h⟩
theorem int_mod_no (i : Int) (t : Tok) (l C dx : Addr) :
    Meets (Builtin.«int.__mod__» ⟨[.int i t, .ref l], []⟩) (fun _ R s => s.heap.get? l = some (PySem.W.instObj C dx) ∧ R (.ok (.ret .notImplemented)) s) :=
  .of_wp fun prog w A R s h => by obtain ⟨hp, g, d, tk, os⟩ := s; obtain ⟨hl, h⟩ := h; unfold PySem.W.instObj at hl; wp_walk using wpAny_loadPart' hl, wpAny_load hl; exact ⟨_, rfl, h⟩
end
end MoW

namespace MoW
open PySem PySem.W PyProof.Rows
section
variable {prog : Program} {w : World} {A : Around} {E : Value → Shared → Prop} {s : Shared} {K : Frag} {x C L f : Addr} {h₀ : Heap} {m : Str → Option Value} {dx : Addr} {od : Option Obj} {i : Int} {t : Tok}

theorem looks_int {M : Model} {h : Heap} : Looks M h (typeOf (.int i t)) (.type "int") := Looks.of_pure rfl

/-- an int compared with an instance: int says it can't, the instance's own mirrored method answers -/
theorem cmp_int_own {op : CmpOp} {id : String} {Q : Value → Shared → Prop} (hu : A.units < cLine) (F : Fr h₀ L s.heap m) (X₀ : K.In h₀) (I : InstAt s.heap x (instObj C dx) C od)
    (hn : subIn K (.ref C) (.type "int") = some false) (h1 : Slot "int" (cmpInfo op).2.1 id)
    (hno : ∀ Q' : Value → Shared → Prop, Q' .notImplemented s → wpAny (model prog w) A (call (.builtin id) [.int i t, .ref x]) Q' E s)
    (hs : findIn K (.ref C) (cmpInfo op).2.2 = some (some (.ref f))) (hf : isFn K (.ref f) = true)
    (h : wpAny (model prog w) A (call (.ref f) [.ref x, .int i t]) (W.CmpBack Q) E s) : wpAny (model prog w) A (richCompare op (.int i t) (.ref x)) Q E s := by
  have X := X₀.keeps F.keep
  have one : wpAny (model prog w) A (tryCompare (.ref x) (cmpInfo op).2.2 (.int i t)) (fun r s' => ∃ v, r = some v ∧ Q v s') E s := by
    unfold tryCompare
    refine wpAny_bind (ifBound_K X I hs hf (wpAny_mono h (fun v s' hv => ?_) fun _ _ e => e))
    cases v <;> first | exact hv.elim | exact wpAny_pure ⟨_, rfl, hv⟩
  unfold richCompare
  simp only [(typeIs_int s i t).oneThing_none]
  refine wpAny_holding (wpAny_bind (wpAny_cRoomFor hu ?_))
  refine wpAny_bind (wpAny_typeOf (typeIs_int s i t) (wpAny_bind (I.type.here ?_)))
  have hne : (Value.type "int" != Value.ref C) = true := rfl
  simp only [hne, if_true]
  refine wpAny_bind ((looks_subIn X hn).here ?_)
  simp only [Bool.false_eq_true, if_false, Bool.not_false, if_true]
  refine wpAny_bind (m := tryCompare (.int i t) _ (.ref x)) (wpAny_tryCompare_declines (typeIs_int s i t) h1 (hno _ ⟨rfl, ?_⟩))
  refine wpAny_bind (m := tryCompare (.ref x) _ (.int i t)) (wpAny_mono one (fun r s' z => ?_) fun _ _ e => e)
  obtain ⟨v, rfl, hq⟩ := z
  exact wpAny_pure hq

theorem mro_first {cd : ClassData} (hc : selfFirst K C = true) : ∃ cd rest, clsIn K C = some cd ∧ cd.mro = .ref C :: rest := by
  obtain ⟨cd, hcd, hm⟩ := any_some hc
  refine ⟨cd, ?_⟩
  cases q : cd.mro with
  | nil => rw [q] at hm; cases hm
  | cons a r => rw [q] at hm; exact ⟨r, hcd, by rw [List.head?_cons] at hm; cases (beq_iff_eq.mp hm); rfl⟩

/-- an int beside an instance: int says it can't, the instance's own reflected method answers -/
theorem bin_int_own {op : Operator} {id : String} {g : Addr} {Q : Value → Shared → Prop} (F : Fr h₀ L s.heap m) (X₀ : K.In h₀) (I : InstAt s.heap x (instObj C dx) C od)
    (hc : selfFirst K C = true) (hn : subIn K (.ref C) (.type "int") = some false) (h1 : Slot "int" (PySem.dunder op.info.2) id) (hfi : fillsNumberSlot (.type "int") op.info.2 = pure true)
    (hno : ∀ Q' : Value → Shared → Prop, Q' .notImplemented s → wpAny (model prog w) A (call (.builtin id) [.int i t, .ref x]) Q' E s)
    (hd : findIn K (.ref C) (PySem.dunder op.info.2) = some (some (.ref g)))
    (hs : findIn K (.ref C) (dunderR op.info.2) = some (some (.ref f))) (hf : isFn K (.ref f) = true)
    (h : wpAny (model prog w) A (call (.ref f) [.ref x, .int i t]) (W.CmpBack Q) E s) : wpAny (model prog w) A (binaryOp op (.int i t) (.ref x)) Q E s := by
  have X := X₀.keeps F.keep
  obtain ⟨cd, rest, hcd, hm⟩ := mro_first (K := K) (C := C) (cd := default) hc
  unfold binaryOp
  refine wpAny_holding (wpAny_bind ?_)
  unfold binaryOp1
  refine wpAny_bind (wpAny_typeOf (typeIs_int s i t) (wpAny_bind (I.type.here (wpAny_bind (wpAny_of_eq hfi ?_)))))
  have hne : (Value.type "int" == Value.ref C) = false := rfl
  simp only [hne, Bool.false_eq_true, if_false]
  refine wpAny_bind ((fills_K X hcd hm hd).here ?_)
  simp only [Bool.and_self, if_true]
  refine wpAny_bind ((looks_subIn X hn).here ?_)
  have hpy : numberSlotInPython (.type "int") op.info.2 = pure false := rfl
  simp only [Bool.false_eq_true, if_false, pure_bind, Bool.not_false, Bool.and_self, if_true, hpy]
  refine wpAny_bind (m := tryMethod (.int i t) _ (.ref x)) (wpAny_tryMethod_declines (typeIs_int s i t) h1 (hno _ ⟨rfl, ?_⟩))
  refine wpAny_bind (m := tryMethod (.ref x) _ (.int i t)) ?_
  unfold tryMethod
  refine wpAny_bind (special_fn X I hs (beq_iff_eq.mp hf) (wpAny_mono h (fun v s' hv => ?_) fun _ _ e => e))
  cases v <;> first | exact hv.elim | exact wpAny_pure (wpAny_bind (wpAny_rule (wpAny_pure (wpAny_pure hv))))

/-- an instance beside an int: its own method answers -/
theorem bin_own_int {op : Operator} {id : String} {g : Addr} {Q : Value → Shared → Prop} (F : Fr h₀ L s.heap m) (X₀ : K.In h₀) (I : InstAt s.heap x (instObj C dx) C od)
    (hc : selfFirst K C = true) (hn : subIn K (.type "int") (.ref C) = some false) (h1 : Slot "int" (dunderR op.info.2) id) (hfi : fillsNumberSlot (.type "int") op.info.2 = pure true)
    (hs : findIn K (.ref C) (PySem.dunder op.info.2) = some (some (.ref f))) (hf : isFn K (.ref f) = true)
    (hd : findIn K (.ref C) (dunderR op.info.2) = some (some (.ref g)))
    (h : wpAny (model prog w) A (call (.ref f) [.ref x, .int i t]) (W.CmpBack Q) E s) : wpAny (model prog w) A (binaryOp op (.ref x) (.int i t)) Q E s := by
  have X := X₀.keeps F.keep
  obtain ⟨cd, rest, hcd, hm⟩ := mro_first (K := K) (C := C) (cd := default) hc
  unfold binaryOp
  refine wpAny_holding (wpAny_bind ?_)
  unfold binaryOp1
  refine wpAny_bind (I.type.here (wpAny_bind (wpAny_typeOf (typeIs_int s i t) (wpAny_bind ((fills_K X hcd hm hs).here ?_)))))
  have hne : (Value.ref C == Value.type "int") = false := rfl
  simp only [hne, Bool.false_eq_true, if_false]
  refine wpAny_bind (wpAny_of_eq hfi ?_)
  simp only [Bool.and_self, if_true]
  refine wpAny_bind ((looks_subIn X hn).here ?_)
  have hpy : Looks (model prog w) s.heap (numberSlotInPython (.ref C) op.info.2) true := by
    unfold numberSlotInPython
    refine (looks_findIn X hs).andThen ?_
    refine Looks.andThen (a := true) .now ?_
    refine (looks_findIn X hd).andThen ?_
    refine Looks.andThen (a := true) .now ?_
    exact .now
  have hpi : numberSlotInPython (.type "int") op.info.2 = pure false := rfl
  simp only [Bool.false_eq_true, if_false, pure_bind, Bool.not_false, Bool.and_self, if_true]
  refine wpAny_bind (hpy.here ?_)
  simp only [if_true]
  refine wpAny_bind (wpAny_of_eq hpi ?_)
  simp only [Bool.not_false, if_true]
  refine wpAny_bind (wpAny_of_eq h1.lookup ?_)
  refine wpAny_bind (m := tryMethod (.ref x) _ (.int i t)) ?_
  unfold tryMethod
  refine wpAny_bind (special_fn X I hs (beq_iff_eq.mp hf) (wpAny_mono h (fun v s' hv => ?_) fun _ _ e => e))
  cases v <;> first | exact hv.elim | exact wpAny_pure (wpAny_pure (wpAny_pure hv))
end
end MoW

namespace MoL
open PySem PySem.Spec PyProof.Rows L2 MoW

/-- an instance of the class at C -/
def Ins (H : Hp) (v : V) (C : Addr) : Prop := ∃ a dx fs, v = .ref a ∧ H a = some (.ins C dx fs)
/-- what the written part says of a class with operators -/
structure OwnC (K : PySem.W.Frag) (C : Addr) : Prop where
  first : PySem.W.selfFirst K C = true
  ci : PySem.W.subIn K (.ref C) (.type "int") = some false
  ic : PySem.W.subIn K (.type "int") (.ref C) = some false

section
variable {X : Cx} {pins : List (Addr × Obj)} {σ : L2.St} {H : Hp} {s : Shared}
theorem ep_back {Q : VK} {u : Value} {s' : Shared} (h : EP X pins σ Q u s') : PySem.W.CmpBack (EP X pins σ Q) u s' := by
  cases u with
  | notImplemented =>
    obtain ⟨v, H', I, r, q⟩ := h
    exfalso
    cases v <;> first | exact nomatch r | (obtain ⟨_, e⟩ := r; exact nomatch e)
  | _ => exact h
theorem ins_at {a C dx : Addr} {fs : List (Str × V)} (I : Inv X pins σ H s) (ha : H a = some (.ins C dx fs)) : ∃ od, PySem.W.InstAt s.heap a (PySem.W.instObj C dx) C od := by
  obtain ⟨mA, J, _⟩ := ins_get I.hok ha
  obtain ⟨od, J, _⟩ := J.look
  exact ⟨_, J⟩
theorem ins_obj {a C dx : Addr} {fs : List (Str × V)} (I : Inv X pins σ H s) (ha : H a = some (.ins C dx fs)) : s.heap.get? a = some (PySem.W.instObj C dx) := by
  obtain ⟨mA, J, _⟩ := ins_get I.hok ha
  exact J.obj
end

section
variable {X : Cx} {CX : CXT} {k : Nat} {C f g : Addr} {fd : FuncData} {ps : List Str} {sp : Sp} {E : XK}
/-- x op y, x an instance, y another one or an int: x's own method answers -/
def rOwn (C : Addr) (sp : Sp) (E : XK) : R2 := fun x y H Q => Ins H x C ∧ ((∃ i, y = .int i) ∨ Ins H y C) ∧ sp [x, y] H Q E
/-- i op y, y an instance: y's own mirrored method answers -/
def rOwnR (C : Addr) (sp : Sp) (E : XK) : R2 := fun x y H Q => (∃ i, x = .int i) ∧ Ins H y C ∧ sp [y, x] H Q E

theorem op_cmp_own {op : CmpOp} (hop : ∀ v u, compareOp op v u = richCompare op v u) (c : OwnC X.K C) (m : Meth X.K C (cmpInfo op).2.1 f) (F : FnOk X.prog X.w X.K X.mg X.base CX k f fd ps sp)
    (hr : Room k X.A) (hb : Binds X.K fd ps []) (hx : Passes CX X E) : OpR X (compareOp op) (rOwn C sp E) := by
  intro pins s σ H x y v u Q I rx ry h
  obtain ⟨⟨a, dx, fs, rfl, ha⟩, hy, hs⟩ := h
  cases (show v = Value.ref a from rx)
  obtain ⟨od, J⟩ := ins_at I ha
  obtain ⟨mm, hF⟩ := I.fr
  rw [hop]
  have hrun : wpAny (model X.prog X.w) X.A (call (.ref f) [.ref a, u]) (PySem.W.CmpBack (EP X pins σ Q)) X.xe s :=
    thn (run_fn (us := [.ref a, u]) (vs := [.ref a, y]) F hr hb .nil hx I (.cons rfl (.cons ry .nil)) hs) fun v s' q => ep_back q
  rcases hy with ⟨i, rfl⟩ | ⟨b, dy, gs, rfl, hb'⟩
  · obtain ⟨t, rfl⟩ := (show ∃ t, u = Value.int i t from ry)
    exact PySem.W.cmp_K (op := op) (tb := .type "int") hr.units0 hF I.ok.mod.kin J looks_int (by unfold PySem.W.notFirst; rw [c.ic]; rfl) m.at_ m.fn hrun
  · cases (show u = Value.ref b from ry)
    obtain ⟨od', J'⟩ := ins_at I hb'
    exact PySem.W.cmp_K (op := op) (tb := .ref C) hr.units0 hF I.ok.mod.kin J J'.type (by simp [PySem.W.notFirst]) m.at_ m.fn hrun

theorem op_cmp_int {op : CmpOp} {id : String} (hop : ∀ v u, compareOp op v u = richCompare op v u) (h1 : Slot "int" (cmpInfo op).2.1 id)
    (hno : ∀ (s : Shared) (i : Int) (t : Tok) (b dy : Addr) (Q' E' : Value → Shared → Prop), s.heap.get? b = some (PySem.W.instObj C dy) → Q' .notImplemented s → wpAny (model X.prog X.w) X.A (call (.builtin id) [.int i t, .ref b]) Q' E' s)
    (c : OwnC X.K C) (m : Meth X.K C (cmpInfo op).2.2 f) (F : FnOk X.prog X.w X.K X.mg X.base CX k f fd ps sp)
    (hr : Room k X.A) (hb : Binds X.K fd ps []) (hx : Passes CX X E) : OpR X (compareOp op) (rOwnR C sp E) := by
  intro pins s σ H x y v u Q I rx ry h
  obtain ⟨⟨i, rfl⟩, ⟨b, dy, gs, rfl, hb'⟩, hs⟩ := h
  obtain ⟨t, rfl⟩ := (show ∃ t, v = Value.int i t from rx)
  cases (show u = Value.ref b from ry)
  obtain ⟨od, J⟩ := ins_at I hb'
  obtain ⟨mm, hF⟩ := I.fr
  rw [hop]
  exact cmp_int_own (op := op) hr.units0 hF I.ok.mod.kin J c.ci h1 (fun Q' q => hno s i t b dy Q' _ (ins_obj I hb') q) m.at_ m.fn
    (thn (run_fn (us := [.ref b, .int i t]) (vs := [.ref b, .int i]) F hr hb .nil hx I (.cons rfl (.cons ⟨t, rfl⟩ .nil)) hs) fun v s' q => ep_back q)

theorem op_bin_own {op : Operator} {id : String} (h1 : Slot "int" (dunderR op.info.2) id) (hfi : fillsNumberSlot (.type "int") op.info.2 = pure true) (c : OwnC X.K C)
    (m : Meth X.K C (PySem.dunder op.info.2) f) (mr : Meth X.K C (dunderR op.info.2) g) (F : FnOk X.prog X.w X.K X.mg X.base CX k f fd ps sp)
    (hr : Room k X.A) (hb : Binds X.K fd ps []) (hx : Passes CX X E) : OpR X (binaryOp op) (rOwn C sp E) := by
  intro pins s σ H x y v u Q I rx ry h
  obtain ⟨⟨a, dx, fs, rfl, ha⟩, hy, hs⟩ := h
  cases (show v = Value.ref a from rx)
  obtain ⟨od, J⟩ := ins_at I ha
  obtain ⟨mm, hF⟩ := I.fr
  have hrun : wpAny (model X.prog X.w) X.A (call (.ref f) [.ref a, u]) (PySem.W.CmpBack (EP X pins σ Q)) X.xe s :=
    thn (run_fn (us := [.ref a, u]) (vs := [.ref a, y]) F hr hb .nil hx I (.cons rfl (.cons ry .nil)) hs) fun v s' q => ep_back q
  rcases hy with ⟨i, rfl⟩ | ⟨b, dy, gs, rfl, hb'⟩
  · obtain ⟨t, rfl⟩ := (show ∃ t, u = Value.int i t from ry)
    exact bin_own_int (op := op) hF I.ok.mod.kin J c.first c.ic h1 hfi m.at_ m.fn mr.at_ hrun
  · cases (show u = Value.ref b from ry)
    obtain ⟨od', J'⟩ := ins_at I hb'
    exact PySem.W.binop_K (op := op) hF I.ok.mod.kin J J'.type c.first m.at_ m.fn hrun

theorem op_bin_int {op : Operator} {id : String} (h1 : Slot "int" (PySem.dunder op.info.2) id) (hfi : fillsNumberSlot (.type "int") op.info.2 = pure true)
    (hno : ∀ (s : Shared) (i : Int) (t : Tok) (b dy : Addr) (Q' E' : Value → Shared → Prop), s.heap.get? b = some (PySem.W.instObj C dy) → Q' .notImplemented s → wpAny (model X.prog X.w) X.A (call (.builtin id) [.int i t, .ref b]) Q' E' s)
    (c : OwnC X.K C) (m : Meth X.K C (dunderR op.info.2) f) (ml : Meth X.K C (PySem.dunder op.info.2) g) (F : FnOk X.prog X.w X.K X.mg X.base CX k f fd ps sp)
    (hr : Room k X.A) (hb : Binds X.K fd ps []) (hx : Passes CX X E) : OpR X (binaryOp op) (rOwnR C sp E) := by
  intro pins s σ H x y v u Q I rx ry h
  obtain ⟨⟨i, rfl⟩, ⟨b, dy, gs, rfl, hb'⟩, hs⟩ := h
  obtain ⟨t, rfl⟩ := (show ∃ t, v = Value.int i t from rx)
  cases (show u = Value.ref b from ry)
  obtain ⟨od, J⟩ := ins_at I hb'
  obtain ⟨mm, hF⟩ := I.fr
  exact bin_int_own (op := op) hF I.ok.mod.kin J c.first c.ci h1 hfi (fun Q' q => hno s i t b dy Q' _ (ins_obj I hb') q) ml.at_ m.at_ m.fn
    (thn (run_fn (us := [.ref b, .int i t]) (vs := [.ref b, .int i]) F hr hb .nil hx I (.cons rfl (.cons ⟨t, rfl⟩ .nil)) hs) fun v s' q => ep_back q)

theorem op_eq_own (c : OwnC X.K C) (m : Meth X.K C "__eq__" f) (F : FnOk X.prog X.w X.K X.mg X.base CX k f fd ps sp)
    (hr : Room k X.A) (hb : Binds X.K fd ps []) (hx : Passes CX X E) : OpR X (compareOp .Eq) (rOwn C sp E) := op_cmp_own (op := .Eq) (fun _ _ => rfl) c m F hr hb hx
theorem op_eq_int (c : OwnC X.K C) (m : Meth X.K C "__eq__" f) (F : FnOk X.prog X.w X.K X.mg X.base CX k f fd ps sp)
    (hr : Room k X.A) (hb : Binds X.K fd ps []) (hx : Passes CX X E) : OpR X (compareOp .Eq) (rOwnR C sp E) := op_cmp_int (op := .Eq) (fun _ _ => rfl) PySem.F.slot_int_eq
  (fun s i t b dy Q' E' hb' q => call_meets PySem.F.slot_int_eq (typeIs_int s i t) PySem.F.entry_int_eq (PySem.F.args_int_eq_2 _ _) (int_eq_no i t b C dy) ⟨hb', q⟩) c m F hr hb hx

theorem op_ne_own (c : OwnC X.K C) (m : Meth X.K C "__ne__" f) (F : FnOk X.prog X.w X.K X.mg X.base CX k f fd ps sp)
    (hr : Room k X.A) (hb : Binds X.K fd ps []) (hx : Passes CX X E) : OpR X (compareOp .NotEq) (rOwn C sp E) := op_cmp_own (op := .NotEq) (fun _ _ => rfl) c m F hr hb hx
theorem op_ne_int (c : OwnC X.K C) (m : Meth X.K C "__ne__" f) (F : FnOk X.prog X.w X.K X.mg X.base CX k f fd ps sp)
    (hr : Room k X.A) (hb : Binds X.K fd ps []) (hx : Passes CX X E) : OpR X (compareOp .NotEq) (rOwnR C sp E) := op_cmp_int (op := .NotEq) (fun _ _ => rfl) PySem.F.slot_int_ne
  (fun s i t b dy Q' E' hb' q => call_meets PySem.F.slot_int_ne (typeIs_int s i t) PySem.F.entry_int_ne (PySem.F.args_int_ne_2 _ _) (int_ne_no i t b C dy) ⟨hb', q⟩) c m F hr hb hx

theorem op_lt_own (c : OwnC X.K C) (m : Meth X.K C "__lt__" f) (F : FnOk X.prog X.w X.K X.mg X.base CX k f fd ps sp)
    (hr : Room k X.A) (hb : Binds X.K fd ps []) (hx : Passes CX X E) : OpR X (compareOp .Lt) (rOwn C sp E) := op_cmp_own (op := .Lt) (fun _ _ => rfl) c m F hr hb hx
theorem op_lt_int (c : OwnC X.K C) (m : Meth X.K C "__gt__" f) (F : FnOk X.prog X.w X.K X.mg X.base CX k f fd ps sp)
    (hr : Room k X.A) (hb : Binds X.K fd ps []) (hx : Passes CX X E) : OpR X (compareOp .Lt) (rOwnR C sp E) := op_cmp_int (op := .Lt) (fun _ _ => rfl) PySem.F.slot_int_lt
  (fun s i t b dy Q' E' hb' q => call_meets PySem.F.slot_int_lt (typeIs_int s i t) PySem.F.entry_int_lt (PySem.F.args_int_lt_2 _ _) (int_lt_no i t b C dy) ⟨hb', q⟩) c m F hr hb hx

theorem op_le_own (c : OwnC X.K C) (m : Meth X.K C "__le__" f) (F : FnOk X.prog X.w X.K X.mg X.base CX k f fd ps sp)
    (hr : Room k X.A) (hb : Binds X.K fd ps []) (hx : Passes CX X E) : OpR X (compareOp .LtE) (rOwn C sp E) := op_cmp_own (op := .LtE) (fun _ _ => rfl) c m F hr hb hx
theorem op_le_int (c : OwnC X.K C) (m : Meth X.K C "__ge__" f) (F : FnOk X.prog X.w X.K X.mg X.base CX k f fd ps sp)
    (hr : Room k X.A) (hb : Binds X.K fd ps []) (hx : Passes CX X E) : OpR X (compareOp .LtE) (rOwnR C sp E) := op_cmp_int (op := .LtE) (fun _ _ => rfl) PySem.F.slot_int_le
  (fun s i t b dy Q' E' hb' q => call_meets PySem.F.slot_int_le (typeIs_int s i t) PySem.F.entry_int_le (PySem.F.args_int_le_2 _ _) (int_le_no i t b C dy) ⟨hb', q⟩) c m F hr hb hx

theorem op_gt_own (c : OwnC X.K C) (m : Meth X.K C "__gt__" f) (F : FnOk X.prog X.w X.K X.mg X.base CX k f fd ps sp)
    (hr : Room k X.A) (hb : Binds X.K fd ps []) (hx : Passes CX X E) : OpR X (compareOp .Gt) (rOwn C sp E) := op_cmp_own (op := .Gt) (fun _ _ => rfl) c m F hr hb hx
theorem op_gt_int (c : OwnC X.K C) (m : Meth X.K C "__lt__" f) (F : FnOk X.prog X.w X.K X.mg X.base CX k f fd ps sp)
    (hr : Room k X.A) (hb : Binds X.K fd ps []) (hx : Passes CX X E) : OpR X (compareOp .Gt) (rOwnR C sp E) := op_cmp_int (op := .Gt) (fun _ _ => rfl) PySem.F.slot_int_gt
  (fun s i t b dy Q' E' hb' q => call_meets PySem.F.slot_int_gt (typeIs_int s i t) PySem.F.entry_int_gt (PySem.F.args_int_gt_2 _ _) (int_gt_no i t b C dy) ⟨hb', q⟩) c m F hr hb hx

theorem op_ge_own (c : OwnC X.K C) (m : Meth X.K C "__ge__" f) (F : FnOk X.prog X.w X.K X.mg X.base CX k f fd ps sp)
    (hr : Room k X.A) (hb : Binds X.K fd ps []) (hx : Passes CX X E) : OpR X (compareOp .GtE) (rOwn C sp E) := op_cmp_own (op := .GtE) (fun _ _ => rfl) c m F hr hb hx
theorem op_ge_int (c : OwnC X.K C) (m : Meth X.K C "__le__" f) (F : FnOk X.prog X.w X.K X.mg X.base CX k f fd ps sp)
    (hr : Room k X.A) (hb : Binds X.K fd ps []) (hx : Passes CX X E) : OpR X (compareOp .GtE) (rOwnR C sp E) := op_cmp_int (op := .GtE) (fun _ _ => rfl) PySem.F.slot_int_ge
  (fun s i t b dy Q' E' hb' q => call_meets PySem.F.slot_int_ge (typeIs_int s i t) PySem.F.entry_int_ge (PySem.F.args_int_ge_2 _ _) (int_ge_no i t b C dy) ⟨hb', q⟩) c m F hr hb hx

theorem op_add_own (c : OwnC X.K C) (m : Meth X.K C "__add__" f) (mr : Meth X.K C "__radd__" g) (F : FnOk X.prog X.w X.K X.mg X.base CX k f fd ps sp)
    (hr : Room k X.A) (hb : Binds X.K fd ps []) (hx : Passes CX X E) : OpR X (binaryOp .Add) (rOwn C sp E) := op_bin_own (op := .Add) PySem.F.slot_int_radd PySem.F.fills_int_add c m mr F hr hb hx
theorem op_add_int (c : OwnC X.K C) (m : Meth X.K C "__radd__" f) (ml : Meth X.K C "__add__" g) (F : FnOk X.prog X.w X.K X.mg X.base CX k f fd ps sp)
    (hr : Room k X.A) (hb : Binds X.K fd ps []) (hx : Passes CX X E) : OpR X (binaryOp .Add) (rOwnR C sp E) := op_bin_int (op := .Add) PySem.F.slot_int_add PySem.F.fills_int_add
  (fun s i t b dy Q' E' hb' q => call_meets PySem.F.slot_int_add (typeIs_int s i t) PySem.F.entry_int_add (PySem.F.args_int_add_2 _ _) (int_add_no i t b C dy) ⟨hb', q⟩) c m ml F hr hb hx

theorem op_sub_own (c : OwnC X.K C) (m : Meth X.K C "__sub__" f) (mr : Meth X.K C "__rsub__" g) (F : FnOk X.prog X.w X.K X.mg X.base CX k f fd ps sp)
    (hr : Room k X.A) (hb : Binds X.K fd ps []) (hx : Passes CX X E) : OpR X (binaryOp .Sub) (rOwn C sp E) := op_bin_own (op := .Sub) PySem.F.slot_int_rsub PySem.F.fills_int_sub c m mr F hr hb hx
theorem op_sub_int (c : OwnC X.K C) (m : Meth X.K C "__rsub__" f) (ml : Meth X.K C "__sub__" g) (F : FnOk X.prog X.w X.K X.mg X.base CX k f fd ps sp)
    (hr : Room k X.A) (hb : Binds X.K fd ps []) (hx : Passes CX X E) : OpR X (binaryOp .Sub) (rOwnR C sp E) := op_bin_int (op := .Sub) PySem.F.slot_int_sub PySem.F.fills_int_sub
  (fun s i t b dy Q' E' hb' q => call_meets PySem.F.slot_int_sub (typeIs_int s i t) PySem.F.entry_int_sub (PySem.F.args_int_sub_2 _ _) (int_sub_no i t b C dy) ⟨hb', q⟩) c m ml F hr hb hx

theorem op_mul_own (c : OwnC X.K C) (m : Meth X.K C "__mul__" f) (mr : Meth X.K C "__rmul__" g) (F : FnOk X.prog X.w X.K X.mg X.base CX k f fd ps sp)
    (hr : Room k X.A) (hb : Binds X.K fd ps []) (hx : Passes CX X E) : OpR X (binaryOp .Mult) (rOwn C sp E) := op_bin_own (op := .Mult) PySem.F.slot_int_rmul PySem.F.fills_int_mul c m mr F hr hb hx
theorem op_mul_int (c : OwnC X.K C) (m : Meth X.K C "__rmul__" f) (ml : Meth X.K C "__mul__" g) (F : FnOk X.prog X.w X.K X.mg X.base CX k f fd ps sp)
    (hr : Room k X.A) (hb : Binds X.K fd ps []) (hx : Passes CX X E) : OpR X (binaryOp .Mult) (rOwnR C sp E) := op_bin_int (op := .Mult) PySem.F.slot_int_mul PySem.F.fills_int_mul
  (fun s i t b dy Q' E' hb' q => call_meets PySem.F.slot_int_mul (typeIs_int s i t) PySem.F.entry_int_mul (PySem.F.args_int_mul_2 _ _) (int_mul_no i t b C dy) ⟨hb', q⟩) c m ml F hr hb hx

theorem op_mod_own (c : OwnC X.K C) (m : Meth X.K C "__mod__" f) (mr : Meth X.K C "__rmod__" g) (F : FnOk X.prog X.w X.K X.mg X.base CX k f fd ps sp)
    (hr : Room k X.A) (hb : Binds X.K fd ps []) (hx : Passes CX X E) : OpR X (binaryOp .Mod) (rOwn C sp E) := op_bin_own (op := .Mod) PySem.F.slot_int_rmod PySem.F.fills_int_mod c m mr F hr hb hx
theorem op_mod_int (c : OwnC X.K C) (m : Meth X.K C "__rmod__" f) (ml : Meth X.K C "__mod__" g) (F : FnOk X.prog X.w X.K X.mg X.base CX k f fd ps sp)
    (hr : Room k X.A) (hb : Binds X.K fd ps []) (hx : Passes CX X E) : OpR X (binaryOp .Mod) (rOwnR C sp E) := op_bin_int (op := .Mod) PySem.F.slot_int_mod PySem.F.fills_int_mod
  (fun s i t b dy Q' E' hb' q => call_meets PySem.F.slot_int_mod (typeIs_int s i t) PySem.F.entry_int_mod (PySem.F.args_int_mod_2 _ _) (int_mod_no i t b C dy) ⟨hb', q⟩) c m ml F hr hb hx
end
end MoL

/-! # Helpers: items of lists read by place, // by any number that is not 0, sizes, lowest terms -/
namespace MoL
open PySem PySem.Spec PyProof.Rows L2 MoW

section
variable {X : Cx}
def rGetL (K : PySem.W.Frag) : V → V → Hp → VK → Prop := fun x y H Q => ∃ p xs j v, x = .ref p ∧ y = .int ((j : Nat) : Int) ∧ SqL K H p xs ∧ xs[j]? = some v ∧ Q v H
theorem get_list : PGet X (rGetL X.K) := by
  intro pins s σ H x y v u Q I rx ry h
  obtain ⟨p, xs, j, z, rfl, rfl, hq, he, q⟩ := h
  cases rx
  obtain ⟨t, rfl⟩ := ry
  obtain ⟨its, r, pl, hz⟩ := I.list hq
  obtain ⟨w, ew, rw'⟩ := r.get he
  have hj : j < xs.length := (List.getElem?_eq_some_iff.mp he).1
  have hn := line63
  exact wpAny_getItem_list pl.isList (by omega) (by omega) (by simpa using ew) ⟨z, H, I, rw', q⟩
/-- // by any number but 0, below 2 ^ 9000 in size -/
def CDivA (_ j : Int) : Prop := j ≠ 0 ∧ j.natAbs.log2 < 9000
theorem op_fdivA : OpR X (binaryOp .FloorDiv) (rI CDivA fun i j => .int (i.fdiv j)) := opI fun i j _ _ _ _ _ hc q => floordiv_int hc.1 q (.inl (PyProof.noPylong_of_log2 hc.2))
end

/-! ### sizes -/
/-- below 2 ^ 4000 in size -/
def Sm (i : Int) : Prop := i.natAbs < 2 ^ 4000
theorem Sm.mul {i j : Int} (a : Sm i) (b : Sm j) : CMulW i j := wide_mul a b (by decide) (by decide) (by decide)
theorem Sm.mulr {i j : Int} (a : Sm i) (b : j.natAbs < 2 ^ 9000) : CMulW i j := wide_mul a b (by decide) (by decide) (by decide)
theorem Sm.div {i j : Int} (h : j ≠ 0) (a : Sm j) : CDivA i j := ⟨h, Nat.lt_of_lt_of_le (PySem.Flt.log2_lt_of (by decide) a) (by decide)⟩
theorem Sm.le {i j : Int} (a : Sm j) (h : i.natAbs ≤ j.natAbs) : Sm i := Nat.lt_of_le_of_lt h a
theorem pow_big {k : Nat} (h : k ≤ 4000) : 2 ^ k ≤ 2 ^ 4000 := Nat.pow_le_pow_right (by decide) h
theorem Sm.of {i : Int} {k : Nat} (h : i.natAbs < 2 ^ k) (hk : k ≤ 4000) : Sm i := Nat.lt_of_lt_of_le h (pow_big hk)

theorem Sm.ab {i : Int} (h1 : -(2 ^ 200) < i) (h2 : i < 2 ^ 200) : Sm i := Sm.of (k := 200) (by omega) (by decide)
theorem iteFe {c : Bool} {A B : Prop} (hc : c = false) (h : B) : if c = true then A else B := by rw [hc]; exact iteF h
theorem iteTe {c : Bool} {A B : Prop} (hc : c = true) (h : A) : if c = true then A else B := by rw [hc]; exact iteT h

/-! ### lowest terms -/
/-- t' / b' is t / b in lowest terms, the bottom above 0 -/
structure Norm (t b t' b' : Int) : Prop where
  ex : ∃ g : Int, t = g * t' ∧ b = g * b' ∧ g ≠ 0
  pos : 0 < b'
  cop : Nat.gcd t'.natAbs b'.natAbs = 1
theorem Norm.cross {t b t' b' : Int} (n : Norm t b t' b') : t' * b = t * b' := by
  obtain ⟨g, h1, h2, _⟩ := n.ex
  rw [h1, h2, Int.mul_comm g t', Int.mul_assoc]
theorem natAbs_le_mul {g x : Int} (h : g ≠ 0) : x.natAbs ≤ (g * x).natAbs := by
  rw [Int.natAbs_mul]
  exact Nat.le_mul_of_pos_left _ (Int.natAbs_pos.mpr h)
theorem Norm.le1 {t b t' b' : Int} (n : Norm t b t' b') : t'.natAbs ≤ t.natAbs := by
  obtain ⟨g, h1, h2, h⟩ := n.ex
  rw [h1]; exact natAbs_le_mul h
theorem Norm.le2 {t b t' b' : Int} (n : Norm t b t' b') : b'.natAbs ≤ b.natAbs := by
  obtain ⟨g, h1, h2, h⟩ := n.ex
  rw [h2]; exact natAbs_le_mul h
/-- what the making computes: g the signed common divisor -/
theorem fdiv_exact {g x y : Int} (h : g ≠ 0) (e : x = g * y) : x.fdiv g = y := by
  rw [e]
  exact Int.mul_fdiv_cancel_left y h
theorem Norm.make {t b : Int} (hb : b ≠ 0) : ∀ g : Int, g = (if b < 0 then -((Nat.gcd t.natAbs b.natAbs : Nat) : Int) else ((Nat.gcd t.natAbs b.natAbs : Nat) : Int)) →
    g ≠ 0 ∧ g.natAbs ≤ b.natAbs ∧ Norm t b (t.fdiv g) (b.fdiv g) := by
  intro g hg
  have hpos : 0 < Nat.gcd t.natAbs b.natAbs := Nat.gcd_pos_of_pos_right _ (Int.natAbs_pos.mpr hb)
  have hle : Nat.gcd t.natAbs b.natAbs ≤ b.natAbs := Nat.gcd_le_right _ (Int.natAbs_pos.mpr hb)
  generalize hd : Nat.gcd t.natAbs b.natAbs = d at hpos hle hg
  have gabs : g.natAbs = d := by
    rw [hg]; split <;> simp
  have g0 : g ≠ 0 := by
    intro z; rw [z] at gabs; simp at gabs; omega
  have d1 : d ∣ t.natAbs := hd ▸ Nat.gcd_dvd_left _ _
  have d2 : d ∣ b.natAbs := hd ▸ Nat.gcd_dvd_right _ _
  have e1 : g ∣ t := Int.natAbs_dvd_natAbs.mp (by rw [gabs]; exact d1)
  have e2 : g ∣ b := Int.natAbs_dvd_natAbs.mp (by rw [gabs]; exact d2)
  obtain ⟨t', ht⟩ := e1
  obtain ⟨b', hb'⟩ := e2
  refine ⟨g0, by rw [gabs]; exact hle, ?_⟩
  rw [fdiv_exact g0 ht, fdiv_exact g0 hb']
  refine ⟨⟨g, ht, hb', g0⟩, ?_, ?_⟩
  · by_cases hneg : b < 0
    · rw [if_pos hneg] at hg
      have gn : g < 0 := by omega
      rw [hb', Int.mul_comm] at hneg
      exact Int.pos_of_mul_neg_left hneg gn
    · rw [if_neg hneg] at hg
      have gp : 0 < g := by omega
      have bp : 0 < g * b' := by rw [← hb']; omega
      exact Int.pos_of_mul_pos_right bp (by omega)
  · have x1 : t.natAbs = d * t'.natAbs := by rw [ht, Int.natAbs_mul, gabs]
    have x2 : b.natAbs = d * b'.natAbs := by rw [hb', Int.natAbs_mul, gabs]
    rw [x1, x2, Nat.gcd_mul_left] at hd
    have : d * Nat.gcd t'.natAbs b'.natAbs = d * 1 := by rw [hd, Nat.mul_one]
    exact Nat.eq_of_mul_eq_mul_left hpos this
end MoL

namespace MoL
open PySem PySem.Spec PyProof.Rows L2 MoW
/-- what the written part says of a class of plain instances with operators and the fields top, bottom -/
structure OwnK (K : PySem.W.Frag) (C : Addr) : Prop where
  cl : Cls K C
  ow : OwnC K C
  ha : PySem.W.findIn K (.ref C) "__class__" = some (some (.builtin "object.__class__"))
  hn : PySem.W.specialIn K (.builtin "object.__class__") "__get__" = some (some (.builtin "getset_descriptor.__get__"))
  htk : PySem.W.takesIn K (.builtin "object.__class__") = some true
  hm : PySem.W.mroIn K C (.type "object") = some true
  ki : PySem.W.kitOne K (.ref C) (.type "int") = some false
  ik : PySem.W.kitOne K (.type "int") (.ref C) = some false
  n_top : NoAttr K C "top"
  n_bottom : NoAttr K C "bottom"
theorem kit_self {K : PySem.W.Frag} {C : Addr} : PySem.W.kitOne K (.ref C) (.ref C) = some true := by
  unfold PySem.W.kitOne
  rw [if_pos (by simp)]
theorem OwnK.ty {K : PySem.W.Frag} {C : Addr} {H : Hp} {a dx : Addr} {fs : List (Str × V)} (k : OwnK K C) (h : H a = some (.ins C dx fs)) : TyX K H (.ref a) (.ref C) :=
  .base (.ins h k.cl k.ha k.hn k.htk k.hm)

/-- a Ratio: an instance of the class at C with these two numbers -/
def RatAt (C : Addr) (H : Hp) (v : V) (t b : Int) : Prop := ∃ a dx, v = .ref a ∧ H a = some (.ins C dx [("top", .int t), ("bottom", .int b)])
theorem RatAt.ins {C : Addr} {H : Hp} {v : V} {t b : Int} (r : RatAt C H v t b) : Ins H v C := by
  obtain ⟨a, dx, e, h⟩ := r
  exact ⟨a, dx, _, e, h⟩
theorem RatAt.same {C : Addr} {H H' : Hp} {v : V} {t b : Int} (r : RatAt C H v t b) (s : Same H H') : RatAt C H' v t b := by
  obtain ⟨a, dx, e, h⟩ := r
  exact ⟨a, dx, e, s _ _ h⟩
theorem Ins.same {C : Addr} {H H' : Hp} {v : V} (r : Ins H v C) (s : Same H H') : Ins H' v C := by
  obtain ⟨a, dx, fs, e, h⟩ := r
  exact ⟨a, dx, fs, e, s _ _ h⟩
theorem same_upd {H : Hp} {p : Addr} {o : HO} (h : H p = none) : Same H (upd H p o) := fun b x e => by
  rw [upd_ne (ne_of_none e h)]
  exact e
theorem same_upd' {H H1 : Hp} {p : Addr} {o : HO} (s : Same H H1) (h : H p = none) : Same H (upd H1 p o) := fun b x e => by
  rw [upd_ne (ne_of_none e h)]
  exact s _ _ e
end MoL

/-! # Signs before an instance, abs of one; lowest terms are one -/
namespace MoL
open PySem PySem.Spec PyProof.Rows L2 MoW
section
variable {X : Cx} {CX : CXT} {k : Nat} {C f g : Addr} {fd : FuncData} {ps : List Str} {sp : Sp} {E : XK}
/-- -x of an instance with its own __neg__ -/
def rOwn1 (C : Addr) (sp : Sp) (E : XK) : V → Hp → VK → Prop := fun x H Q => Ins H x C ∧ sp [x] H Q E
theorem un_neg_own (m : Meth X.K C "__neg__" f) (F : FnOk X.prog X.w X.K X.mg X.base CX k f fd ps sp)
    (hr : Room k X.A) (hb : Binds X.K fd ps []) (hx : Passes CX X E) : UnR X (unaryOp .USub) (rOwn1 C sp E) := by
  intro pins s σ H x v Q I rx h
  obtain ⟨⟨a, dx, fs, rfl, ha⟩, hs⟩ := h
  cases (show v = Value.ref a from rx)
  obtain ⟨od, J⟩ := ins_at I ha
  have hrun : wpAny (model X.prog X.w) X.A (call (.ref f) [.ref a]) (EP X pins σ Q) X.xe s :=
    run_fn (us := [.ref a]) (vs := [.ref a]) F hr hb .nil hx I (.cons rfl .nil) hs
  unfold unaryOp
  refine wpAny_holding ?_
  have e : (UnaryOp.USub == UnaryOp.Not) = false := rfl
  simp only [e, Bool.false_eq_true, if_false]
  exact wpAny_bind (PySem.W.special_fn I.kIn J m.at_ (beq_iff_eq.mp m.fn) (wpAny_mono hrun (fun v s' q => wpAny_pure q) fun _ _ e => e))
theorem UnR.or {f : Value → Sem Value} {r r' : V → Hp → VK → Prop} (h : UnR X f r) (h' : UnR X f r') : UnR X f (fun x H Q => r x H Q ∨ r' x H Q) := by
  intro pins s σ H x v Q I rx q
  rcases q with q | q
  · exact h pins s σ H x v Q I rx q
  · exact h' pins s σ H x v Q I rx q
/-- the callee runs within a built-in -/
theorem run_fn1 {pins : List (Addr × Obj)} {σ : L2.St} {H : Hp} {s : Shared} {Q : VK} {us : List Value} {vs : List V} (F : FnOk X.prog X.w X.K X.mg X.base CX k f fd ps sp) (hr : Room (k + 1) X.A) (hb : Binds X.K fd ps []) (hx : Passes CX X E)
    (I : Inv X pins σ H s) (r : Vals vs us) (h : sp vs H Q E) : wpAny (model X.prog X.w) X.A.in1 (call (.ref f) us) (EP X pins σ Q) X.xe s := by
  have hl : us.length = ps.length := by rw [← r.length]; exact F.len _ _ _ _ h
  have hb' : BindsTo s fd ⟨us, []⟩ (ps.zip us) := by
    have := hb s us I.kIn (by simpa using hl)
    simpa using this
  refine wpAny_call (codeAny_mono (F.run X.A.in1 X.stack s H ⟨us, []⟩ us vs Q E hr.in1 I.env0.in1 hb' r h) fun r s' hq => ?_)
  cases r with
  | error e => exact hx pins σ H s e s' I hq
  | ok fl =>
    cases fl with
    | ret u => exact I.after hq
    | next => exact False.elim hq
    | brk => exact False.elim hq
    | cont => exact False.elim hq
theorem call_abs_own (m : Meth X.K C "__abs__" f) (F : FnOk X.prog X.w X.K X.mg X.base CX k f fd ps sp)
    (hr : Room (k + 1) X.A) (hb : Binds X.K fd ps []) (hx : Passes CX X E) : CallR X (.builtin "abs") (fun xs H Q => ∃ x, xs = [x] ∧ rOwn1 C sp E x H Q) := by
  intro pins s σ H xs us Q I r h
  obtain ⟨x, rfl, ⟨a, dx, fs, rfl, ha⟩, hs⟩ := h
  obtain ⟨u, rfl, ru⟩ := vals1 r
  cases (show u = Value.ref a from ru)
  obtain ⟨od, J⟩ := ins_at I ha
  have hrun := run_fn1 (us := [.ref a]) (vs := [.ref a]) F hr hb hx I (.cons rfl .nil) hs
  refine Calls.call_function_entry kind_abs plain_abs entry_abs (args_abs _) ?_
  unfold Builtin.«abs»
  refine wpAny_bind (m := oneArg "abs" _) (wpAny_pure ?_)
  refine wpAny_bind (m := callSpecial? (.ref a) (Str.ofString "__abs__")) ?_
  exact PySem.W.special_fn I.kIn J m.at_ (beq_iff_eq.mp m.fn) (wpAny_mono hrun (fun v s' q => wpAny_pure ⟨_, rfl, q⟩) fun _ _ e => e)
end
/-! ### lowest terms are one -/
theorem Norm.bne {t b t' b' : Int} (n : Norm t b t' b') : b ≠ 0 := by
  obtain ⟨g, _, h2, h⟩ := n.ex
  rw [h2]
  intro z
  rcases Int.mul_eq_zero.mp z with e | e
  · exact h e
  · have := n.pos; omega
theorem cop_one {t b u c : Int} (hb : 0 < b) (hc : 0 < c) (h1 : Nat.gcd t.natAbs b.natAbs = 1) (h2 : Nat.gcd u.natAbs c.natAbs = 1) (e : t * c = u * b) : t = u ∧ b = c := by
  have en : t.natAbs * c.natAbs = u.natAbs * b.natAbs := by rw [← Int.natAbs_mul, ← Int.natAbs_mul, e]
  have d1 : b.natAbs ∣ c.natAbs := by
    have h : b.natAbs ∣ t.natAbs * c.natAbs := ⟨u.natAbs, by rw [en, Nat.mul_comm]⟩
    exact Nat.Coprime.dvd_of_dvd_mul_left (Nat.Coprime.symm h1) h
  have d2 : c.natAbs ∣ b.natAbs := by
    have h : c.natAbs ∣ u.natAbs * b.natAbs := ⟨t.natAbs, by rw [← en, Nat.mul_comm]⟩
    exact Nat.Coprime.dvd_of_dvd_mul_left (Nat.Coprime.symm h2) h
  have ebc : b = c := by
    have := Nat.dvd_antisymm d1 d2
    omega
  subst ebc
  refine ⟨?_, rfl⟩
  exact Int.eq_of_mul_eq_mul_right (by omega) e
/-- two ways to one value: the same lowest terms -/
theorem Norm.uniq {p q t b p' q' t' b' : Int} (n : Norm p q t b) (m : Norm p' q' t' b') (e : p * q' = p' * q) : t = t' ∧ b = b' := by
  refine cop_one n.pos m.pos n.cop m.cop ?_
  have c1 := n.cross
  have c2 := m.cross
  have q0 := n.bne
  have q1 := m.bne
  have key : (t * b') * (q * q') = (t' * b) * (q * q') := by
    have e1 : (t * b') * (q * q') = (t * q) * (b' * q') := by
      rw [Int.mul_assoc, Int.mul_assoc, Int.mul_left_comm b' q q']
    have e2 : (t' * b) * (q * q') = (t' * q') * (b * q) := by
      rw [Int.mul_assoc, Int.mul_assoc, Int.mul_comm q q', Int.mul_left_comm b q' q]
    rw [e1, e2, c1, c2]
    have e3 : p * b * (b' * q') = (p * q') * (b * b') := by
      rw [Int.mul_assoc, Int.mul_assoc, Int.mul_comm b' q', Int.mul_left_comm b q' b']
    have e4 : p' * b' * (b * q) = (p' * q) * (b * b') := by
      rw [Int.mul_assoc, Int.mul_assoc, Int.mul_comm b q, Int.mul_left_comm b' q b, Int.mul_comm b' b]
    rw [e3, e4, e]
  have qq : q * q' ≠ 0 := fun z => by
    rcases Int.mul_eq_zero.mp z with e | e
    · exact q0 e
    · exact q1 e
  exact Int.eq_of_mul_eq_mul_right qq key
end MoL
namespace MoL
open PySem PySem.Spec PyProof.Rows L2 MoW
theorem call_or {X : Cx} {f : Value} {r r' : List V → Hp → VK → Prop} (h : CallR X f r) (h' : CallR X f r') : CallR X f (fun xs H Q => r xs H Q ∨ r' xs H Q) := by
  intro pins s σ H xs us Q I r q
  rcases q with q | q
  · exact h pins s σ H xs us Q I r q
  · exact h' pins s σ H xs us Q I r q
end MoL

/-! # Errors of the program: making one whose class keeps one field, and what a suite that caught it may ask -/
namespace MoL
open PySem PySem.Spec PyProof.Rows L2 MoW

/-! ### a class call in a body whose errors are caught: the wish speaks of the slots -/
def tMakeA (C : Addr) (sp : Sp) (dvs : List V) (W : L2.St → XK) (t : TA) : TE := fun σ H Q => t σ H fun vs G => ∀ x y, G x = none → G y = none → y ≠ x →
  sp (.ref x :: (vs ++ dvs)) (upd (upd G y (.own x)) x (.ins C y [])) (fun v G2 => v = .non ∧ Q (.ref x) G2) (W σ)
section
variable {X : Cx} {CX : CXT} {k : Nat} {f C : Addr} {fd : FuncData} {ps : List Str} {sp : Sp} {dvs : List V} {ds : List Value} {W : L2.St → XK} {x : Str} {p pos : Pos} {e : Expr} {es : List Expr} {t : TA}
theorem pe_makeA (M : Mk X.K C f) (F : FnOk X.prog X.w X.K X.mg X.base CX k f fd ps sp) (room : Room (k + 1) X.A) (hg : Gl X x) (hm : X.mg x = some (.ref C)) (hb : Binds X.K fd ps ds) (hd : Vals dvs ds) (hx : ∀ σ, PassesAt CX X σ (W σ)) (ha : PA X (e :: es) t)
    (hdb : (x == ("__debug__" : Str)) = false := by decide) (he : starEach (e :: es) X.env = (false, eval e X.env) :: starEach es X.env := by rfl) (hpl : (backTo pos (starEach es X.env)).any (·.1) = false := by rfl) :
    PE X (.Call (.Name x p) (e :: es) [] pos) (tMakeA C sp dvs W t) := by
  constructor
  intro pins s0 σ H0 Q I0 h
  refine wpAny_Call_Name_kw (ld_glob I0 hg hm ?_ hdb)
  refine PySem.W.callWith_K (h₀ := X.base) I0.ok.mod.kin M.kp ?_ he hpl
  refine thn (ha.run pos pins s0 σ H0 _ I0 h) ?_
  rintro us s ⟨vs, H, I, r, h⟩
  refine ⟨I.kIn, ?_⟩
  have hq := h (s.heap.objs.size + 1) s.heap.objs.size (I.hok.fresh (Nat.le_succ _)) (I.hok.fresh (Nat.le_refl _)) (Nat.ne_of_lt (Nat.lt_succ_self _))
  have I2 := Inv.made (C := C) I
  have r2 : Vals (V.ref (s.heap.objs.size + 1) :: (vs ++ dvs)) (Value.ref (s.heap.objs.size + 1) :: (us ++ ds)) := .cons rfl (r.append hd)
  have hl : (Value.ref (s.heap.objs.size + 1) :: us ++ ds).length = ps.length := (F.len _ _ _ _ hq ▸ r2.length).symm
  have run := F.run _ X.stack _ _ ⟨Value.ref (s.heap.objs.size + 1) :: us, []⟩ _ _ _ _ (room.make C us []) (I2.env0.make C us []) (hb _ (Value.ref (s.heap.objs.size + 1) :: us) I2.kIn hl) r2 hq
  refine wpAny_call (make_map (f := f) I.kIn M.makes M.init (beq_iff_eq.mp M.fn) (codeAny_mono run ?_))
  intro r s' hq'
  rcases r with fl | e
  · exact hx σ pins _ _ _ s' I2 hq'
  · cases e with
    | ret u =>
      obtain ⟨v, G, I3, rv, ev, q3⟩ := I2.after hq'
      cases ev
      exact ⟨rv, ⟨V.ref (s.heap.objs.size + 1), G, I3, rfl, q3⟩⟩
    | next => exact hq'.elim
    | brk => exact hq'.elim
    | cont => exact hq'.elim
end

/-! ### isinstance of a caught error that has fields -/
def rIsD (K : PySem.W.Frag) (a : Addr) (cls : Value) (d : Option Addr) (D : Addr) : List V → Hp → VK → Prop := fun xs H Q => ∃ (c : V) (cv : Value) (b : Bool) (y : Addr) (fs : List (Str × V)),
  xs = [.ref a, c] ∧ cls = .ref D ∧ d = some y ∧ H y = some (.xd fs) ∧ ClsV c cv ∧ PySem.W.kitOne K (.ref D) cv = some b ∧ Q (.bl b) H
theorem call_isD {X : Cx} {a D : Addr} {oe : Obj} {cls : Value} {d : Option Addr} {pn : List (Addr × Obj)} (C : ExcC X.K D) (hz : Zc cls d oe) (hf : ∃ vs, oe.data = .fields vs) : CallR (X.suite a ((a, oe) :: pn)) (.builtin "isinstance") (rIsD X.K a cls d D) := by
  intro pins s σ H xs us Q I r h
  obtain ⟨c, cv, b, y, fs, rfl, rfl, rfl, hy, hc, e, q⟩ := h
  obtain ⟨u1, u2, rfl, r1, r2⟩ := vals2 r
  cases (show u1 = Value.ref a from r1)
  have e2 := hc.eq r2
  subst e2
  have hget := (I.pin (a, oe) (List.mem_append_left _ List.mem_cons_self)).1
  have ho : ∃ o, s.heap.get? y = some o := by
    obtain ⟨m, ⟨o, _, _, z, _⟩, _⟩ := (show ObjOk X.prog X.w H s.heap y (.xd fs) from I.hok y _ hy)
    exact ⟨o, z⟩
  obtain ⟨od, ho⟩ := ho
  have J : PySem.W.InstAt s.heap a oe D (some od) := by
    obtain ⟨vs, hv⟩ := hf
    rcases oe with ⟨oc, odd, dt, sl⟩
    obtain ⟨z1, z2⟩ := hz
    dsimp only at z1 z2 hv
    subst z1 z2 hv
    exact ⟨hget, rfl, rfl, ho⟩
  have hcl : (PySem.W.clsIn X.K D).isSome = true := by
    obtain ⟨cd, hcd, _⟩ := PySem.W.any_some C.hd
    rw [hcd]
    rfl
  exact PySem.W.kia_one (PySem.W.kitx_exc hcl C.hg C.hk C.hs C.ha C.hn C.ht C.hm) I.kIn J e (fun z => nomatch z) fun tk => ⟨.bl b, H, I.kept (t' := tk) fun _ _ z => z, rfl, q⟩

/-! ### the making of an error with one field -/
/-- the __init__ of such a class: the field f is what was given -/
def sp_keep (K : PySem.W.Frag) (f : Str) : Sp := fun vs H Q _ => ∃ (e C : Addr) (v : V), vs = [.ref e, v] ∧ OexC K C ∧ PySem.W.findIn K (.ref C) f = some none ∧ H e = some (exo e C none) ∧
  ∀ y, H y = none → y ≠ e → Q .non (upd (upd H y (exd y [(f, v)])) e (exo e C (some y)))
/-- raise C(v): what follows when its __init__ keeps sp_keep -/
theorem mk_keep {K : PySem.W.Frag} {C : Addr} {f : Str} {v : V} {H : Hp} {Q : XK} (T : OexC K C) (hn : PySem.W.findIn K (.ref C) f = some none) (q : ∀ y, H y = none → Q (.ref C) (some y) (upd H y (.xd [(f, v)]))) :
    ([v] : List V).length ≤ 1000 ∧ ∀ a, H a = none → sp_keep K f (.ref a :: ([v] ++ [])) (upd H a (exo a C none))
      (fun w G => w = .non ∧ ∃ (d : Addr) (fs : List (Str × V)), G a = some (exo a C (some d)) ∧ G d = some (exd d fs) ∧ H d = none ∧ Q (.ref C) (some d) (upd (del G a) d (.xd fs))) (fun _ _ _ => False) := by
  refine ⟨by show 1 ≤ 1000; decide, fun a na => ⟨a, C, v, rfl, T, hn, upd_same, fun y ny yne => ⟨rfl, y, [(f, v)], upd_same, ?_, ?_, ?_⟩⟩⟩
  · rw [upd_ne yne, upd_same]
  · rw [upd_ne yne] at ny
    exact ny
  · rw [upd_ne yne] at ny
    have e : upd (del (upd (upd (upd H a (exo a C none)) y (exd y [(f, v)])) a (exo a C (some y))) a) y (.xd [(f, v)]) = upd H y (.xd [(f, v)]) := by
      funext b
      by_cases hb : b = y
      · subst hb
        rw [upd_same, upd_same]
      · rw [upd_ne hb, upd_ne hb]
        by_cases hba : b = a
        · subst hba
          rw [del_same, na]
        · rw [del_ne hba, upd_ne hba, upd_ne hb, upd_ne hba]
    rw [e]
    exact q y ny
end MoL

/-! # An error called with keywords, up to its own __init__ -/
namespace MoX
open PySem PySem.W PySem.Calls PyProof.Rows PySem.HandSPX Builtin Builtin.ObjectAttr
section
variable {M : Model} {A : Around} {E : Value → Shared → Prop} {h : Heap} {g : Array GenState} {d : Drawn} {t : Nat} {os : OsState}
variable {nm q : Str} {C N : Addr} {bs bm bmB : List Value} {hdct : Bool} {sn : List Str} {sub : List Value} {ab : Bool} {col : Option Bool} {dd : Option Addr} {k0 k1 k2 k3 k5 : Option Value} {B newId initId : String}
abbrev clsAt (h : Heap) (nm q : Str) (C N : Addr) (bs bm : List Value) (hdct : Bool) (sn : List Str) (sub : List Value) (ab : Bool) (col : Option Bool) (dd : Option Addr) (k0 k1 k2 k3 k5 : Option Value) (newId : String) : Prop :=
  h.get? C = some (excClassObj nm q C N bs bm hdct sn sub ab col dd k0 k1 k2 k3 k5 newId)
theorem kw_check (F : ExcBaseFacts B newId initId bmB) (hT : ∀ Y : String, bm.contains (.type Y) = bmB.contains (.type Y)) {kw : List (Str × Value)} {Q : Unit → Shared → Prop} (hC : clsAt h nm q C N bs bm hdct sn sub ab col dd k0 k1 k2 k3 k5 newId)
    (hq : Q () ⟨h, g, d, t, os⟩) : wpAny M A (checkBuiltinCall newId ⟨[.ref C], kw⟩) Q E ⟨h, g, d, t, os⟩ := by
  have c1 : (Value.ref C :: bm).contains (.type B) = true := by
    rw [List.contains_cons, hT, F.hasB, Bool.or_true]
  have c2 := F.noStar
  simp only [checkBuiltinCall, F.newKind, F.newSplit, F.newRow]
  repeat (first | refine wpAny_loadPart_at hC ?_ | (refine wpAny_isSubtype_exc hC ?_; rw [c1]) | refine wpAny_staticBase_exc hC ?_ | refine wpAny_madeBy_exc hC ?_ | simp only [bne_self_eq_false, Bool.false_eq_true, if_false] | wp_step)
  exact hq
end
section
variable {prog : Program} {w : World} {A : Around} {E : Value → Shared → Prop} {R : Result → Shared → Prop} {h : Heap} {g : Array GenState} {d : Drawn} {t : Nat} {os : OsState}
variable {nm q : Str} {C N : Addr} {bs bm bmB : List Value} {hdct : Bool} {sn : List Str} {sub : List Value} {ab : Bool} {col : Option Bool} {dd : Option Addr} {k0 k1 k2 k3 k5 : Option Value} {B newId initId : String} {kw : List (Str × Value)} {fI : Addr}
theorem kw_new (F : ExcBaseFacts B newId initId bmB) (hT : ∀ Y : String, bm.contains (.type Y) = bmB.contains (.type Y)) (hC : clsAt h nm q C N bs bm hdct sn sub ab col dd k0 k1 k2 k3 k5 newId)
    (hq : R (.ok (.ret (.ref (h.objs.size + 1)))) ⟨(h.push (W.kdv_tup [])).push (excO C h.objs.size), g, d, t, os⟩) : codeAny (model prog w) A (.builtin newId ⟨[.ref C], kw⟩) R ⟨h, g, d, t, os⟩ := by
  have c0 := F.ends
  have c1 : (Value.ref C :: bm).contains (.type B) = true := by
    rw [List.contains_cons, hT, F.hasB, Bool.or_true]
  have c2 : (Value.ref C :: bm).contains (.type "AttributeError") = false := by
    rw [List.contains_cons, hT, F.noAttr]
    rfl
  have c3 : (Value.ref C :: bm).contains (.type "NameError") = false := by
    rw [List.contains_cons, hT, F.noName]
    rfl
  refine codeAny_builtinAt F.entry ?_
  unfold Builtin.«BaseException.__new__»
  refine PySem.wpAt_bind ?_
  show PySem.wpAt _ _ _ (stack >>= _) _ _ _
  refine PySem.wpAt_bind (PySem.wpAt_stack fun below rest => PySem.wpAt_of_wpAny ?_)
  wp_walk
  refine PySem.wpAt_of_wpAny ?_
  rw [F.owner]
  repeat (first | with_reducible refine wpAny_madeHere_exc F.canon hC ?_ | with_reducible refine wpAny_loadPart_at hC ?_ | (with_reducible refine wpAny_isSubtype_exc hC ?_; first | rw [c1] | rw [c2] | rw [c3]) | wp_step)
  show R _ _
  rw [Heap.size_push]
  exact hq
theorem kw_type (F : ExcBaseFacts B newId initId bmB) (hT : ∀ Y : String, bm.contains (.type Y) = bmB.contains (.type Y)) {Q : Fin → Shared → Prop} (hC : clsAt h nm q C N bs bm hdct sn sub ab col dd k0 k1 k2 k3 k5 newId)
    (hi : W.Looks (model prog w) h (typeLookup (.ref C) "__init__") (some (.ref fI))) (hb : ∀ self, W.Looks (model prog w) h (bindSpecial (.ref fI) self) (.ref fI, [self]))
    (hq : codeAny (model prog w) A (.call (.ref fI) ⟨[.ref (h.objs.size + 1)], kw⟩)
      (fun r s' => match r with
        | .ok (.ret v) => v = .none ∧ Q (.done (.ret (.ref (h.objs.size + 1)))) s'
        | .ok _ => False
        | .error e => E e s')
      ⟨(h.push (W.kdv_tup [])).push (excO C h.objs.size), g, d, t, os⟩) : wpAny (model prog w) A (Builtin.«type.__call__» ⟨[.ref C], kw⟩) Q E ⟨h, g, d, t, os⟩ := by
  repeat (first | with_reducible refine wpAny_loadPart_at hC ?_ | with_reducible refine wpAny_madeBy_exc hC ?_ | wp_step)
  refine codeAny_call_builtin_code (Code.quiet_builtin _ F.quiet) (kw_check F hT hC ?_)
  refine kw_new F hT hC ?_
  show wpAny _ _ _ _ _ _
  have kp : ∀ b o, h.get? b = some o → ((h.push (W.kdv_tup [])).push (excO C h.objs.size)).get? b = some o := fun b o e => Heap.get?_push_of_some _ (Heap.get?_push_of_some _ e)
  have hC1 := kp _ _ hC
  have here : ((h.push (W.kdv_tup [])).push (excO C h.objs.size)).get? (h.objs.size + 1) = some (excO C h.objs.size) := by heap_get
  have cC : (Value.ref C :: bm).contains (.ref C) = true := by simp
  have hi1 := hi.keeps kp
  have hb1 := (hb (.ref (h.objs.size + 1))).keeps kp
  unfold isInstance
  repeat (first | with_reducible refine wpAny_loadPart_at here ?_ | (with_reducible refine wpAny_isSubtype_exc hC1 ?_; rw [cC]) | wp_step)
  show wpAny _ _ (typeLookup (.ref C) _) _ _ _
  refine hi1.at ?_
  refine wpAny_holding (wpAny_bind (hb1.at ?_))
  refine wpAny_bind (wpAny_call (codeAny_mono hq ?_))
  intro r s' z
  rcases r with e | (v | _ | _ | _) <;> first | exact z | exact z.elim | skip
  obtain ⟨rfl, z⟩ := z
  first
    | exact wpAny_pure (wpAny_pure z)
    | (wp_walk; exact z)
theorem kw_call (F : ExcBaseFacts B newId initId bmB) (hT : ∀ Y : String, bm.contains (.type Y) = bmB.contains (.type Y)) (hC : clsAt h nm q C N bs bm hdct sn sub ab col dd k0 k1 k2 k3 k5 newId)
    (hi : W.Looks (model prog w) h (typeLookup (.ref C) "__init__") (some (.ref fI))) (hb : ∀ self, W.Looks (model prog w) h (bindSpecial (.ref fI) self) (.ref fI, [self]))
    (hq : codeAny (model prog w) (A.under (.builtin "type.__call__" ⟨[.ref C], kw⟩)) (.call (.ref fI) ⟨[.ref (h.objs.size + 1)], kw⟩) (W.InitBack (h.objs.size + 1) R) ⟨(h.push (W.kdv_tup [])).push (excO C h.objs.size), g, d, t, os⟩) :
    codeAny (model prog w) A (.call (.ref C) ⟨[], kw⟩) R ⟨h, g, d, t, os⟩ := by
  have f1 := tc_lookup
  have f2 := tc_bind (.ref C)
  have ty : (⟨h, g, d, t, os⟩ : Shared).TypeIs (.ref C) "type" := ⟨_, hC, rfl⟩
  refine codeAny_of_tree ?_
  show wpAny _ _ (callAny (.ref C) _) _ _ _
  repeat (any_goals (first | assumption | with_reducible refine wpAny_loadPart_at hC ?_ | wp_step))
  refine ⟨rfl, ?_⟩
  refine codeAny_call_builtin_at (Code.quiet_builtin _ (by decide +kernel)) entry_typeCall (wpAny_check_type_call_sub hC (kw_type F hT hC hi hb ?_))
  refine codeAny_mono hq ?_
  intro r s' z
  rcases r with e | (v | _ | _ | _) <;> exact z
end
end MoX

/-! # Errors as values: made, held, asked -/
namespace MoL
open PySem PySem.Spec PyProof.Rows L2 MoW

/-! ### what the written part says of an error class over MeansError -/
abbrev veT : List Value := [.type "ValueError", .type "Exception", .type "BaseException", .type "object"]
def ClsRow (K : PySem.W.Frag) (C : Addr) (nm : Str) (bm : List Value) : Prop := ∃ q N bs sn sub ab col dd k0 k1 k2 k3 k5, K.lookup C = some (excClassObj nm q C N bs bm true sn sub ab col dd k0 k1 k2 k3 k5 "ValueError.__new__")
structure ErrC (K : PySem.W.Frag) (M C : Addr) (nm : Str) : Prop where
  row : ClsRow K C nm (.ref M :: veT)
  base : ClsRow K M "MeansError" veT
  sa : PySem.W.findIn K (.ref C) "__setattr__" = some (some (.builtin "object.__setattr__"))
  ga : PySem.W.findIn K (.ref C) "__getattribute__" = some (some (.builtin "BaseException.__getattribute__"))
  gg : PySem.W.findIn K (.ref C) "__getattr__" = some none
  ca : PySem.W.findIn K (.ref C) "__class__" = some (some (.builtin "object.__class__"))
  gd : PySem.W.specialIn K (.builtin "object.__class__") "__get__" = some (some (.builtin "getset_descriptor.__get__"))
  tk : PySem.W.takesIn K (.builtin "object.__class__") = some true
  kp : PySem.W.keepIn K (.ref C) = true
section
variable {K : PySem.W.Frag} {M C C' : Addr} {nm nm' : Str} {bm : List Value}
theorem ClsRow.cls (h : ClsRow K C nm bm) : ∃ cd : ClassData, PySem.W.clsIn K C = some cd ∧ cd.mro = .ref C :: bm ∧ cd.hasDict = true ∧ cd.name = nm := by
  obtain ⟨q, N, bs, sn, sub, ab, col, dd, k0, k1, k2, k3, k5, h⟩ := h
  refine ⟨{ name := nm, bases := bs, mro := .ref C :: bm, ns := N, qualname := q, hasDict := true, slotNames := sn, subclasses := sub, abstract := ab, collection := col, hasDel := false }, ?_, rfl, rfl, rfl⟩
  unfold PySem.W.clsIn
  rw [h] <;> rfl
theorem ClsRow.ty (h : ClsRow K C nm bm) : PySem.W.typeIn K (.ref C) = some (.type "type") := by
  obtain ⟨q, N, bs, sn, sub, ab, col, dd, k0, k1, k2, k3, k5, h⟩ := h
  show (K.lookup C).map _ = _
  rw [h]
  rfl
theorem ClsRow.sub (h : ClsRow K C nm bm) (v : Value) : PySem.W.subIn K (.ref C) v = some ((Value.ref C :: bm).contains v) := by
  obtain ⟨cd, e, m, _⟩ := h.cls
  show PySem.W.mroIn K C v = _
  unfold PySem.W.mroIn
  rw [e, Option.bind_some, m]
  rfl
theorem ClsRow.isC (h : ClsRow K C nm bm) : (PySem.W.clsIn K C).isSome = true := by
  obtain ⟨cd, e, _⟩ := h.cls
  rw [e]
  rfl
theorem ClsRow.dict (h : ClsRow K C nm bm) : PySem.W.hasDictIn K C = true := by
  obtain ⟨cd, e, _, d, _⟩ := h.cls
  unfold PySem.W.hasDictIn
  rw [e]
  exact d
theorem ClsRow.ne (h : ClsRow K C nm bm) (h' : ClsRow K C' nm' bm') (n : nm ≠ nm') : C ≠ C' := fun e => by
  subst e
  obtain ⟨cd, e1, _, _, n1⟩ := h.cls
  obtain ⟨cd', e2, _, _, n2⟩ := h'.cls
  rw [e1] at e2
  cases e2
  exact n (n1.symm.trans n2)
theorem ClsRow.kit (h : ClsRow K C nm bm) (h' : ClsRow K C' nm' bm') : PySem.W.kitOne K (.ref C) (.ref C') = some ((Value.ref C :: bm).contains (.ref C')) := by
  unfold PySem.W.kitOne
  by_cases e : C = C'
  · subst e
    rw [if_pos (by simp)]
    simp
  · rw [if_neg (by simpa using e)]
    show (if _ = true then PySem.W.subIn K (.ref C) (.ref C') else none) = _
    rw [h'.isC, h'.ty, if_pos (by rfl), h.sub]
theorem ErrC.exc (e : ErrC K M C nm) : PySem.W.subIn K (.ref C) (.type "BaseException") = some true := by
  rw [e.row.sub]
  rfl
theorem ErrC.o (e : ErrC K M C nm) : OexC K C := by
  refine ⟨?_, e.sa, e.exc, e.row.ty, e.kp⟩
  obtain ⟨q, N, bs, sn, sub, ab, col, dd, k0, k1, k2, k3, k5, h⟩ := e.row
  exact ⟨_, _, _, _, _, _, _, _, _, _, _, _, _, _, _, h, rfl⟩
theorem ErrC.x (e : ErrC K M C nm) : XfC K C := ⟨e.ga, e.gg, e.exc, e.row.dict⟩
theorem ErrC.c (e : ErrC K M C nm) : ExcC K C := by
  refine ⟨e.ga, e.gg, e.exc, e.row.dict, e.ca, e.gd, e.tk, ?_⟩
  have := e.row.sub (.type "object")
  exact this
theorem ErrC.kit_ne (e : ErrC K M C nm) (e' : ErrC K M C' nm') (n : nm ≠ nm') (n2 : nm' ≠ "MeansError") : PySem.W.kitOne K (.ref C) (.ref C') = some false := by
  rw [e.row.kit e'.row]
  have h1 : C' ≠ C := (e.row.ne e'.row n).symm
  have h2 : C' ≠ M := e'.row.ne e.base n2
  simp [h1, h2]
theorem ErrC.kit_self (e : ErrC K M C nm) : PySem.W.kitOne K (.ref C) (.ref C) = some true := by
  rw [e.row.kit e.row]
  simp
theorem ErrC.kit_base (e : ErrC K M C nm) : PySem.W.kitOne K (.ref C) (.ref M) = some true := by
  rw [e.row.kit e.base]
  simp
theorem ErrC.kit_ve (e : ErrC K M C nm) : PySem.W.kitOne K (.ref C) (.type "ValueError") = some true := by
  unfold PySem.W.kitOne
  rw [if_neg (by simp)]
  show (if PySem.W.kitMeta "ValueError" = true then PySem.W.subIn K (.ref C) (.type "ValueError") else none) = _
  rw [if_pos (by decide +kernel), e.row.sub]
  rfl
theorem ErrC.caught (e : ErrC K M C nm) : PySem.W.exmOne K (.ref C) (.ref M) = some true := by
  unfold PySem.W.exmOne
  have h1 : PySem.W.subIn K (.ref M) (.type "BaseException") = some true := by
    rw [e.base.sub]
    rfl
  rw [h1, if_pos (by rfl)]
  show (if _ = true then PySem.W.subIn K (.ref C) (.ref M) else none) = _
  rw [e.base.isC, e.base.ty, if_pos (by rfl), e.row.sub]
  simp
end

/-! ### an error that is held -/
def ErrAt (C : Addr) (H : Hp) (v : V) (fs : List (Str × V)) : Prop := ∃ a, v = .ref a ∧ ((fs = [] ∧ H a = some (exo a C none)) ∨ ∃ y, H a = some (exo a C (some y)) ∧ H y = some (exd y fs))
theorem ErrAt.same {C : Addr} {H H' : Hp} {v : V} {fs : List (Str × V)} (e : ErrAt C H v fs) (s : Same H H') : ErrAt C H' v fs := by
  obtain ⟨a, rfl, ⟨h1, h2⟩ | ⟨y, h1, h2⟩⟩ := e
  · exact ⟨a, rfl, .inl ⟨h1, s _ _ h2⟩⟩
  · exact ⟨a, rfl, .inr ⟨y, s _ _ h1, s _ _ h2⟩⟩
section
variable {X : Cx} {pins : List (Addr × Obj)} {σ : L2.St} {H : Hp} {s : Shared}
theorem ErrAt.inst {C a : Addr} {fs : List (Str × V)} (I : Inv X pins σ H s) (e : ErrAt C H (.ref a) fs) : ∃ oe od, PySem.W.InstAt s.heap a oe C od := by
  obtain ⟨b, eb, ⟨h1, h2⟩ | ⟨y, h1, h2⟩⟩ := e <;> cases eb
  · obtain ⟨t1, ho⟩ := exo_at I.hok h2
    exact ⟨_, none, ho, rfl, rfl, trivial⟩
  · obtain ⟨t1, ho⟩ := exo_at I.hok h1
    obtain ⟨m, ⟨o, _, _, z, _⟩, _⟩ := exd_at I.hok h2
    exact ⟨_, some o, ho, rfl, rfl, z⟩
end
/-- isinstance of it -/
def rIsO (K : PySem.W.Frag) : List V → Hp → VK → Prop := fun xs H Q => ∃ (v c : V) (cv : Value) (C : Addr) (fs : List (Str × V)) (b : Bool), xs = [v, c] ∧ ErrAt C H v fs ∧ ExcC K C ∧ ClsV c cv ∧ PySem.W.kitOne K (.ref C) cv = some b ∧ Q (.bl b) H
theorem call_isO {X : Cx} : CallR X (.builtin "isinstance") (rIsO X.K) := by
  intro pins s σ H xs us Q I r h
  obtain ⟨v, c, cv, C, fs, b, rfl, he, ce, hc, e, q⟩ := h
  obtain ⟨u1, u2, rfl, r1, r2⟩ := vals2 r
  have e2 := hc.eq r2
  subst e2
  obtain ⟨a, rfl, he'⟩ := id he
  cases (show u1 = Value.ref a from r1)
  obtain ⟨oe, od, J⟩ := he.inst I
  have hcl : (PySem.W.clsIn X.K C).isSome = true := by
    obtain ⟨cd, hcd, _⟩ := PySem.W.any_some ce.hd
    rw [hcd]
    rfl
  exact PySem.W.kia_one (PySem.W.kitx_exc hcl ce.hg ce.hk ce.hs ce.ha ce.hn ce.ht ce.hm) I.kIn J e (fun z => nomatch z) fun tk => ⟨.bl b, H, I.tok tk, rfl, q⟩
/-- a field of it -/
def tOxf (K : PySem.W.Frag) (f : Str) (te : TE) : TE := fun σ H Q => te σ H fun x G => ∃ (C : Addr) (fs : List (Str × V)) (v : V), ErrAt C G x fs ∧ XfC K C ∧ PySem.W.findIn K (.ref C) f = some none ∧ fs.lookup f = some v ∧ Q v G
theorem pe_oxf {X : Cx} {e : Expr} {te : TE} {pos : Pos} {n : Str} (he : PE X e te) (hb : attributeBase e n X.env (eval e X.env) = eval e X.env := by rfl) : PE X (.Attribute e n pos) (tOxf X.K n te) := by
  constructor
  intro pins s0 σ H0 Q I0 h
  refine attr_of hb (thn (he.run pins s0 σ H0 _ I0 h) ?_)
  rintro u s ⟨x, H, I, rx, C, fs, v, ea, T, hno, hl, q⟩
  obtain ⟨a, rfl, h2⟩ := ea
  cases (show u = Value.ref a from rx)
  rcases h2 with ⟨rfl, _⟩ | ⟨y, h1, h2⟩
  · cases hl
  · obtain ⟨t1, ho⟩ := exo_at I.hok h1
    obtain ⟨mA, hns, hr⟩ := exd_at I.hok h2
    obtain ⟨od, hod, hlk⟩ := lookIn_ns hns
    obtain ⟨u, hu, ru⟩ := RelO.some_of (v := v) (o := mA n) (by rw [← hl]; exact hr n)
    have J : PySem.W.InstAt s.heap a _ C (some od) := ⟨ho, rfl, rfl, hod⟩
    exact HandSPX.exc_get I.kIn J T.ga T.gg T.exC (PySem.W.findObj_own T.hdC hno rfl (by rw [hlk, hu])) (handed_of ru) ⟨v, H, I.tok _, ru, q⟩

/-! ### the making -/
theorem PE.imp {X : Cx} {e : Expr} {t t' : TE} (h : PE X e t) (i : ∀ σ H Q, t' σ H Q → t σ H Q) : PE X e t' := ⟨fun pins s σ H Q I q => h.run pins s σ H Q I (i σ H Q q)⟩
def tMkE (C : Addr) (sp : Sp) (g : List V → List V) (ta : TA) : TE := fun σ H Q => ta σ H fun vs G => vs.length ≤ 1000 ∧ ∀ a, G a = none → sp (g (.ref a :: vs)) (upd G a (exo a C none)) (fun v G2 => v = .non ∧ Q (.ref a) G2) (fun _ _ _ => False)
section
variable {X : Cx} {CX : CXT} {k : Nat} {fI C M : Addr} {fd : FuncData} {ps ks : List Str} {sp : Sp} {x nm : Str} {p pos : Pos} {e : Expr} {es : List Expr} {ta tk : TA} {kws : List Keyword}
theorem pe_mkE (T : ErrC X.K M C nm) (iC : PySem.W.findIn X.K (.ref C) "__init__" = some (some (.ref fI))) (tI : PySem.W.typeIn X.K (.ref fI) = some (.type "function")) (F : FnOk X.prog X.w X.K X.mg X.base CX k fI fd ps sp) (room : Room (k + 1) X.A) (hb : Binds X.K fd ps [])
    (hx : Passes CX X (fun _ _ _ => False)) (hg : Gl X x) (hm : X.mg x = some (.ref C)) (ha : PA X (e :: es) ta) (hdb : (x == ("__debug__" : Str)) = false := by decide) (he : starEach (e :: es) X.env = (false, eval e X.env) :: starEach es X.env := by rfl) (hpl : (backTo pos (starEach es X.env)).any (·.1) = false := by rfl) :
    PE X (.Call (.Name x p) (e :: es) [] pos) (tMkE C sp id ta) := by
  constructor
  intro pins s0 σ H0 Q I0 h
  obtain ⟨q, N, bs, sn, sub, ab, col, dd, k0, k1, k2, k3, k5, hC⟩ := T.row
  refine wpAny_Call_Name_kw (ld_glob I0 hg hm ?_ hdb)
  refine PySem.W.callWith_K (h₀ := X.base) I0.ok.mod.kin T.kp ?_ he hpl
  refine thn (ha.run pos pins s0 σ H0 _ I0 h) ?_
  rintro us s1 ⟨vs, H1, I1, r1, hz, q1⟩
  refine ⟨I1.kIn, ?_⟩
  show wpAny _ _ (call (.ref C) us) _ _ _
  obtain ⟨hp, g, dr, tk, os⟩ := s1
  have hsz : hp.objs.size ≤ hp.objs.size + 1 := Nat.le_succ _
  have hq := q1 (hp.objs.size + 1) (I1.hok.fresh hsz)
  have kk : ∀ b o, hp.get? b = some o → ((hp.push (PySem.W.kdv_tup us)).push (PySem.HandSPX.excO C hp.objs.size)).get? b = some o := fun b o z => Heap.get?_push_of_some _ (Heap.get?_push_of_some _ z)
  have here : ((hp.push (PySem.W.kdv_tup us)).push (PySem.HandSPX.excO C hp.objs.size)).get? (hp.objs.size + 1) = some (PySem.HandSPX.excO C hp.objs.size) := by heap_get
  have I2 : Inv X pins σ (upd H1 (hp.objs.size + 1) (exo (hp.objs.size + 1) C none)) ⟨(hp.push (PySem.W.kdv_tup us)).push (PySem.HandSPX.excO C hp.objs.size), g, dr, tk, os⟩ :=
    I1.laid (t' := tk) (a := hp.objs.size + 1) (o := exo (hp.objs.size + 1) C none) (h' := (hp.push (PySem.W.kdv_tup us)).push (PySem.HandSPX.excO C hp.objs.size)) kk hsz (exo_ok here)
  have r2 : Vals (V.ref (hp.objs.size + 1) :: vs) (Value.ref (hp.objs.size + 1) :: us) := .cons rfl r1
  have hl : (Value.ref (hp.objs.size + 1) :: us ++ []).length = ps.length := by
    rw [List.append_nil, ← r2.length]
    exact F.len _ _ _ _ hq
  have hus : us.length ≤ sizeLine := by
    rw [← Paired.length r1, sizeLine_eq]
    omega
  have bd := hb _ (Value.ref (hp.objs.size + 1) :: us) I2.kIn hl
  rw [List.append_nil] at bd
  have run := F.run _ X.stack _ _ ⟨Value.ref (hp.objs.size + 1) :: us, []⟩ _ _ _ _ (room.make C us []) (I2.env0.make C us []) bd r2 hq
  refine wpAny_call (PySem.HandSPX.call_own PySem.F.excBase_ValueError (fun Y => PySem.HandSPX.refsVE_contains Y (.ref M :: veT) rfl) (I1.kIn _ _ hC) (PySem.W.looks_findIn I1.kIn iC) (fun self => PySem.W.bind_fn I1.kIn self tI) hus (codeAny_mono run ?_))
  intro r s' hq'
  rcases r with er | fl
  · exact hx pins σ _ _ er s' I2 hq'
  · cases fl with
    | ret u =>
      obtain ⟨v, G, I3, rv, ev, q3⟩ := I2.after hq'
      cases ev
      exact ⟨rv, ⟨V.ref (hp.objs.size + 1), G, I3, rfl, q3⟩⟩
    | next => exact hq'.elim
    | brk => exact hq'.elim
    | cont => exact hq'.elim
/-- with keywords alone -/
theorem pe_mkEk {gL : List Value → List Value → List Value} {gV : List V → List V → List V} {tk : TA} (T : ErrC X.K M C nm) (iC : PySem.W.findIn X.K (.ref C) "__init__" = some (some (.ref fI))) (tI : PySem.W.typeIn X.K (.ref fI) = some (.type "function")) (F : FnOk X.prog X.w X.K X.mg X.base CX k fI fd ps sp)
    (room : Room (k + 1) X.A) (hb : KBn X.K fd ps 1 ks gL gV) (hx : Passes CX X (fun _ _ _ => False)) (hg : Gl X x) (hm : X.mg x = some (.ref C)) (hkw : PK X kws tk)
    (hall : (backToKw pos (keywordEach kws X.env)).all (·.1.isSome) = true := by rfl) (hks : (backToKw pos (keywordEach kws X.env)).filterMap (·.1) = ks := by rfl) (hdb : (x == ("__debug__" : Str)) = false := by decide)
    (hpl : ((backTo pos (starEach [] X.env)).any (·.1) || (backToKw pos (keywordEach kws X.env)).any (·.1.isNone)) = false := by rfl) :
    PE X (.Call (.Name x p) [] kws pos) (fun σ H Q => tk σ H fun zs G => zs.length = ks.length ∧ ∀ a, G a = none → sp (gV [.ref a] zs) (upd G a (exo a C none)) (fun v G2 => v = .non ∧ Q (.ref a) G2) (fun _ _ _ => False)) := by
  constructor
  intro pins s0 σ H0 Q I0 h
  obtain ⟨q, N, bs, sn, sub, ab, col, dd, k0, k1, k2, k3, k5, hC⟩ := T.row
  refine wpAny_Call_Name_kw (ld_glob I0 hg hm ?_ hdb)
  refine PySem.W.callWith_KW0 (h₀ := X.base) I0.ok.mod.kin T.kp hall ?_ hpl
  refine thn (hkw.run pos pins s0 σ H0 _ I0 h) ?_
  rintro ws s1 ⟨zs, H1, I1, rz, hz, q1⟩
  refine ⟨I1.kIn, ?_⟩
  rw [hks]
  show wpAny _ _ (call (.ref C) [] (ks.zip ws)) _ _ _
  obtain ⟨hp, g, dr, tk, os⟩ := s1
  have hsz : hp.objs.size ≤ hp.objs.size + 1 := Nat.le_succ _
  have hq := q1 (hp.objs.size + 1) (I1.hok.fresh hsz)
  have kk : ∀ b o, hp.get? b = some o → ((hp.push (PySem.W.kdv_tup [])).push (PySem.HandSPX.excO C hp.objs.size)).get? b = some o := fun b o z => Heap.get?_push_of_some _ (Heap.get?_push_of_some _ z)
  have here : ((hp.push (PySem.W.kdv_tup [])).push (PySem.HandSPX.excO C hp.objs.size)).get? (hp.objs.size + 1) = some (PySem.HandSPX.excO C hp.objs.size) := by heap_get
  have I2 : Inv X pins σ (upd H1 (hp.objs.size + 1) (exo (hp.objs.size + 1) C none)) ⟨(hp.push (PySem.W.kdv_tup [])).push (PySem.HandSPX.excO C hp.objs.size), g, dr, tk, os⟩ :=
    I1.laid (t' := tk) (a := hp.objs.size + 1) (o := exo (hp.objs.size + 1) C none) (h' := (hp.push (PySem.W.kdv_tup [])).push (PySem.HandSPX.excO C hp.objs.size)) kk hsz (exo_ok here)
  have r1 : Vals [V.ref (hp.objs.size + 1)] [Value.ref (hp.objs.size + 1)] := .cons rfl .nil
  have r2 := hb.rel r1 rz
  have run := F.run _ X.stack _ _ ⟨[Value.ref (hp.objs.size + 1)], ks.zip ws⟩ _ _ _ _ (room.make C [] (ks.zip ws)) (I2.env0.make C [] (ks.zip ws)) (hb.to _ _ ws I2.kIn rfl (rz.length.symm.trans hz)) r2 hq
  refine wpAny_call (MoX.kw_call PySem.F.excBase_ValueError (fun Y => PySem.HandSPX.refsVE_contains Y (.ref M :: veT) rfl) (I1.kIn _ _ hC) (PySem.W.looks_findIn I1.kIn iC) (fun self => PySem.W.bind_fn I1.kIn self tI) (codeAny_mono run ?_))
  intro r s' hq'
  rcases r with er | fl
  · exact hx pins σ _ _ er s' I2 hq'
  · cases fl with
    | ret u =>
      obtain ⟨v, G, I3, rv, ev, q3⟩ := I2.after hq'
      cases ev
      exact ⟨rv, ⟨V.ref (hp.objs.size + 1), G, I3, rfl, q3⟩⟩
    | next => exact hq'.elim
    | brk => exact hq'.elim
    | cont => exact hq'.elim
/-- an error class without own __init__, called with nothing -/
theorem bare_made {A : Around} {W : Value → Shared → Prop} {pins : List (Addr × Obj)} {σ : L2.St} {H : Hp} {s : Shared} {Q : Value → Shared → Prop} (xn : PySem.W.excIn X.K C [.type "ValueError", .type "Exception", .type "BaseException", .type "object"] "ValueError.__new__" = true) (I : Inv X pins σ H s)
    (h : ∀ h' a, Heap.MadeExcOf s.heap h' a (.ref C) [] → H a = none → Q (.ref a) { s with heap := h' }) : wpAny (model X.prog X.w) A (call (.ref C) []) Q W s := by
  obtain ⟨bm, N, nm, qn, bs, hdct, sn, sub, ab, col, dd, k0, k1, k2, k3, k5, mN, hC, hN, hni, T⟩ := exc_obj I.kIn xn
  obtain ⟨hp, g, dr, tk, os⟩ := s
  exact wpAny_call_exc_subT PySem.F.excBase_ValueError T hC hN hni (fun h' a hm => h h' a hm (I.hok.gone hm.new)) (Nat.zero_le _)
theorem pe_mk0 (T : ErrC X.K M C nm) (xn : PySem.W.excIn X.K C [.type "ValueError", .type "Exception", .type "BaseException", .type "object"] "ValueError.__new__" = true) (hg : Gl X x) (hm : X.mg x = some (.ref C)) (hdb : (x == ("__debug__" : Str)) = false := by decide) :
    PE X (.Call (.Name x p) [] [] pos) (fun σ H Q => ∀ H' v, Same H H' → ErrAt C H' v [] → Q v H') := by
  constructor
  intro pins s σ H Q I h
  refine wpAny_Call_Name_kw (ld_glob I hg hm ?_ hdb)
  refine PySem.W.callWith_K0 I.kIn T.kp ?_
  refine bare_made xn I fun h' a hmd ha => ?_
  obtain ⟨t, ht, _, _⟩ := hmd.there
  have J : Inv X pins σ (upd H a (exo a C none)) { s with heap := h' } := I.laidN hmd.keeps hmd.new ha (exo_ok ht)
  refine ⟨.ref a, _, J, rfl, h _ _ (fun b o q => ?_) ⟨a, rfl, .inl ⟨rfl, upd_same⟩⟩⟩
  rw [upd_ne (ne_of_none q ha)]
  exact q
/-- raise of it -/
theorem pmk_mk0 (T : ErrC X.K M C nm) (xn : PySem.W.excIn X.K C [.type "ValueError", .type "Exception", .type "BaseException", .type "object"] "ValueError.__new__" = true) (hg : Gl X x) (hm : X.mg x = some (.ref C)) (hdb : (x == ("__debug__" : Str)) = false := by decide) :
    PMk X (.Call (.Name x p) [] [] pos) (fun σ H Q => Q (.ref C) none H) := by
  intro pins s σ H Q I h
  refine wpAny_Call_Name_kw (ld_glob I hg hm ?_ hdb)
  refine PySem.W.callWith_K0 I.kIn T.kp ?_
  exact bare_made xn I fun h' a hmd ha => mk_of I hmd (raises_own T.exc T.row.ty) h ha
end
end MoL

/-! # // and ** of instances, and what leaves a def that may raise -/
namespace MoW
open PySem PySem.W
section
variable {prog : Program} {w : World} {A : Around} {E : Value → Shared → Prop} {s : Shared}
theorem int_floordiv_no (i : Int) (t : Tok) (l C dx : Addr) :
    Meets (Builtin.«int.__floordiv__» ⟨[.int i t, .ref l], []⟩) (fun _ R s => s.heap.get? l = some (PySem.W.instObj C dx) ∧ R (.ok (.ret .notImplemented)) s) :=
  .of_wp fun prog w A R s h => by obtain ⟨hp, g, d, tk, os⟩ := s; obtain ⟨hl, h⟩ := h; unfold PySem.W.instObj at hl; wp_walk using wpAny_loadPart' hl, wpAny_load hl; exact ⟨_, rfl, h⟩
end
end MoW
namespace MoW
open PySem PySem.W PyProof.Rows
section
variable {prog : Program} {w : World} {A : Around} {E : Value → Shared → Prop} {s : Shared} {K : Frag} {x C L f : Addr} {h₀ : Heap} {m : Str → Option Value} {dx : Addr} {od : Option Obj} {i : Int} {t : Tok}

theorem bin_own_int0 {op : Operator} {id : String} {Q : Value → Shared → Prop} (F : Fr h₀ L s.heap m) (X₀ : K.In h₀) (I : InstAt s.heap x (instObj C dx) C od)
    (hc : selfFirst K C = true) (hn : subIn K (.type "int") (.ref C) = some false) (h1 : Slot "int" (dunderR op.info.2) id) (hfi : fillsNumberSlot (.type "int") op.info.2 = pure true)
    (hs : findIn K (.ref C) (PySem.dunder op.info.2) = some (some (.ref f))) (hf : isFn K (.ref f) = true)
    (hd : findIn K (.ref C) (dunderR op.info.2) = some none)
    (h : wpAny (model prog w) A (call (.ref f) [.ref x, .int i t]) (W.CmpBack Q) E s) : wpAny (model prog w) A (binaryOp op (.ref x) (.int i t)) Q E s := by
  have X := X₀.keeps F.keep
  obtain ⟨cd, rest, hcd, hm⟩ := mro_first (K := K) (C := C) (cd := default) hc
  unfold binaryOp
  refine wpAny_holding (wpAny_bind ?_)
  unfold binaryOp1
  refine wpAny_bind (I.type.here (wpAny_bind (wpAny_typeOf (typeIs_int s i t) (wpAny_bind ((fills_K X hcd hm hs).here ?_)))))
  have hne : (Value.ref C == Value.type "int") = false := rfl
  simp only [hne, Bool.false_eq_true, if_false]
  refine wpAny_bind (wpAny_of_eq hfi ?_)
  simp only [Bool.and_self, if_true]
  refine wpAny_bind ((looks_subIn X hn).here ?_)
  have hpy : Looks (model prog w) s.heap (numberSlotInPython (.ref C) op.info.2) true := by
    unfold numberSlotInPython
    refine (looks_findIn X hs).andThen ?_
    refine Looks.andThen (a := true) .now ?_
    refine (looks_findIn X hd).andThen ?_
    refine Looks.andThen (a := false) .now ?_
    exact .now
  have hpi : numberSlotInPython (.type "int") op.info.2 = pure false := rfl
  simp only [Bool.false_eq_true, if_false, pure_bind, Bool.not_false, Bool.and_self, if_true]
  refine wpAny_bind (hpy.here ?_)
  simp only [if_true]
  refine wpAny_bind (wpAny_of_eq hpi ?_)
  simp only [Bool.not_false, if_true]
  refine wpAny_bind (wpAny_of_eq h1.lookup ?_)
  refine wpAny_bind (m := tryMethod (.ref x) _ (.int i t)) ?_
  unfold tryMethod
  refine wpAny_bind (special_fn X I hs (beq_iff_eq.mp hf) (wpAny_mono h (fun v s' hv => ?_) fun _ _ e => e))
  cases v <;> first | exact hv.elim | exact wpAny_pure (wpAny_pure (wpAny_pure hv))
end
end MoW

namespace MoL
open PySem PySem.Spec PyProof.Rows L2 MoW
section
variable {X : Cx} {CX : CXT} {k : Nat} {C f g : Addr} {fd : FuncData} {ps : List Str} {sp : Sp} {E : XK}
theorem op_floordiv_own (c : OwnC X.K C) (m : Meth X.K C "__floordiv__" f) (mr : Meth X.K C "__rfloordiv__" g) (run : FnOk X.prog X.w X.K X.mg X.base CX k f fd ps sp) (hr : Room k X.A) (hb : Binds X.K fd ps []) (hx : Passes CX X E) : OpR X (binaryOp .FloorDiv) (rOwn C sp E) :=
  op_bin_own (op := .FloorDiv) F.slot_int_rfloordiv F.fills_int_floordiv c m mr run hr hb hx
theorem op_floordiv_int (c : OwnC X.K C) (m : Meth X.K C "__rfloordiv__" f) (ml : Meth X.K C "__floordiv__" g) (run : FnOk X.prog X.w X.K X.mg X.base CX k f fd ps sp) (hr : Room k X.A) (hb : Binds X.K fd ps []) (hx : Passes CX X E) : OpR X (binaryOp .FloorDiv) (rOwnR C sp E) :=
  op_bin_int (op := .FloorDiv) F.slot_int_floordiv F.fills_int_floordiv (fun s i t b dy Q' E' hb' q => call_meets F.slot_int_floordiv (typeIs_int s i t) F.entry_int_floordiv (F.args_int_floordiv_2 _ _) (int_floordiv_no i t b C dy) ⟨hb', q⟩) c m ml run hr hb hx
/-- x ** i, the class has no mirrored one -/
theorem op_pow_own (c : OwnC X.K C) (m : Meth X.K C "__pow__" f) (no : PySem.W.findIn X.K (.ref C) "__rpow__" = some none) (run : FnOk X.prog X.w X.K X.mg X.base CX k f fd ps sp) (hr : Room k X.A) (hb : Binds X.K fd ps []) (hx : Passes CX X E) :
    OpR X (binaryOp .Pow) (fun x y H Q => Ins H x C ∧ (∃ i, y = .int i) ∧ sp [x, y] H Q E) := by
  intro pins s σ H x y v u Q I rx ry h
  obtain ⟨⟨a, dx, fs, rfl, ha⟩, ⟨i, rfl⟩, hs⟩ := h
  cases (show v = Value.ref a from rx)
  obtain ⟨t, rfl⟩ := (show ∃ t, u = Value.int i t from ry)
  obtain ⟨od, J⟩ := ins_at I ha
  obtain ⟨mm, hF⟩ := I.fr
  exact bin_own_int0 (op := .Pow) hF I.ok.mod.kin J c.first c.ic F.slot_int_rpow F.fills_int_pow m.at_ m.fn no
    (thn (run_fn (us := [.ref a, .int i t]) (vs := [.ref a, .int i]) run hr hb .nil hx I (.cons rfl (.cons ⟨t, rfl⟩ .nil)) hs) fun v s' q => ep_back q)
end
/-- a callee's error is this def's own way out -/
theorem passE {P : Program} {w : World} {K : PySem.W.Frag} {mg : Str → Option Value} {base : Heap} {N : List Str} {qual : Str} {scope : Scope} {f : Addr} {cdv : Value} {A : Around} {outer : List Env} {s : Shared} {H : Hp} {E : XK} :
    Passes (L2.CX P w) (cxOf (L2.CX P w) P w K mg base N qual scope f cdv A outer s H E) E :=
  passes_call (W := fun cls d _ H => E cls d H) (takes_of rfl rfl rfl rfl) fun _ _ _ _ h => h
end MoL

/-! # Defs that hand lambdas on, and the def that tells the word of what a lambda raises -/
namespace MoL
open PySem PySem.Spec PyProof.Rows L2 MoW LamX

/-- a def whose code object is known -/
structure FunC (K : PySem.W.Frag) (x qual : Str) (st : Stmt) (f : Addr) (fd : FuncData) (c : Addr) : Prop where
  ex : ∃ (oc : Value) (od : Option Addr) (kV doc pm : Value) (an : Option Addr) (ct : Value) (osl : Array (Option Value)),
    fd = PySem.W.fnOf x qual (defArgs st) (defBody st) (defScope st) .none kV doc pm an (.ref c) ct ∧ K.lookup f = some ⟨oc, od, .func fd, osl⟩ ∧ PySem.W.codeIn K (.ref c) qual = true
  kp : PySem.W.keepIn K (.ref f) = true
theorem FunC.ok {P : Program} {w : World} {K : PySem.W.Frag} {mg : Str → Option Value} {base : Heap} {x qual : Str} {st : Stmt} {f c : Addr} {fd : FuncData} {N ps : List Str} {k : Nat} {sp : Sp} (F : FunC K x qual st f fd c) (S : FnScope N ps (defScope st))
    (len : ∀ vs H Q E, sp vs H Q E → vs.length = ps.length)
    (h : ∀ (A : Around) (outer : List Env) (s : Shared) (H : Hp) (vs : List V) (Q : VK) (E : XK), Room k (A.deeper (envOfC qual (defScope st) s.heap.objs.size f (.ref c))) → sp vs H Q E →
      ∃ t, PSs (cxOf CX0 P w K mg base N qual (defScope st) f (.ref c) A outer s H E).nox (defBody st) t ∧ t { nx := fun _ G => Q .non G, rt := Q } (start N vs) H) : FnOk P w K mg base CX0 (k + 1) f fd ps sp := by
  obtain ⟨oc, od, kV, doc, pm, an, ct, osl, rfl, lk, hcd⟩ := F.ex
  refine fn_of lk hcd S len fun A outer s H vs Q E hr hsp => ?_
  obtain ⟨t, p, q⟩ := h A outer s H vs Q E hr hsp
  exact ⟨t, p.nox, q⟩

/-- the word of the error of the class at R that the lambda raises; nothing: the text "" -/
def TTw (R : Addr) : (XK → Hp → VK → Prop) → Hp → VK → Prop := fun tl H Q =>
  tl (fun cls d G => cls = .ref R ∧ ∃ y s, d = some y ∧ G y = some (.xd [("word", .str s)]) ∧ Q (.str s) G) H (fun _ G => ∃ v : V, (some (some (V.str "")) : Option (Option V)) = some (some v) ∧ Q v G)
/-- a wish needs to be told of slots of the right number alone -/
theorem takes_len {X : Cx} {W : WX} (tk : Takes X W) : Takes X (fun cls d σ H => σ.length = X.N.length → W cls d σ H) := fun u s' x => by
  obtain ⟨a, B, sI, pins, σ, H, cls, d, e, I, nb, up, sky, na, os, ag, w⟩ := x
  exact tk u s' ⟨a, B, sI, pins, σ, H, cls, d, e, I, nb, up, sky, na, os, ag, w I.len⟩
theorem FunC.fn {K : PySem.W.Frag} {x qual : Str} {st : Stmt} {f c : Addr} {fd : FuncData} (F : FunC K x qual st f fd c) : Fun K x qual st f fd := by
  obtain ⟨⟨oc, od, kV, doc, pm, an, ct, osl, e, lk, hcd⟩, kp⟩ := F
  exact ⟨⟨oc, od, kV, doc, pm, an, _, ct, osl, e, lk, hcd⟩, kp⟩
/-- what a lambda's body lets out is what is wished of the lambda -/
theorem passLam {X : Cx} {A : Around} {outer : List Env} {s : Shared} {H : Hp} {E : XK} {scope : Scope} {f c' : Addr} : Passes (L2.CX X.prog X.w) (lamCx X A outer s H E scope f c') E :=
  passes_call (X := lamCx X A outer s H E scope f c') (W := fun cls d _ H => E cls d H) (takes_of rfl rfl rfl rfl) fun _ _ _ _ h => h
/-- behind a lambda that raised: all but the tables is kept, and the tables stand -/
theorem after {T : List (Addr × Str)} {H H1 G : Hp} {y : Addr} {o : HO} (e1 : ExtN H H1) (t1 : Tabs T H1) (s1 : Same H1 G) (ny : G y = none) : ExtN H (upd G y o) ∧ Tabs T (upd G y o) := by
  have s2 := s1.trans (same_upd (o := o) ny)
  exact ⟨e1.trans (.of s2), t1.ext s2⟩
theorem RatAt.ext {C : Addr} {H H' : Hp} {v : V} {t b : Int} (r : RatAt C H v t b) (s : ExtN H H') : RatAt C H' v t b := by
  obtain ⟨a, dx, e, h⟩ := r
  exact ⟨a, dx, e, s _ _ h fun _ z => by cases z⟩
end MoL

/-! # A walk over a list or over a tuple; classes by their facts alone -/
namespace MoL
open PySem PySem.Spec PyProof.Rows L2 MoW
theorem pi_or {X : Cx} {tg e : Expr} {t t' : TI} (p : PI X tg e t) (q : PI X tg e t') : PI X tg e (fun σ H R => t σ H R ∨ t' σ H R) :=
  ⟨fun pins s σ H R I h => h.elim (p.run pins s σ H R I) (q.run pins s σ H R I)⟩
/-- what the written part says of a class of plain instances with operators; the fields' names apart -/
structure OwnB (K : PySem.W.Frag) (C : Addr) : Prop where
  cl : Cls K C
  ow : OwnC K C
  ha : PySem.W.findIn K (.ref C) "__class__" = some (some (.builtin "object.__class__"))
  hn : PySem.W.specialIn K (.builtin "object.__class__") "__get__" = some (some (.builtin "getset_descriptor.__get__"))
  htk : PySem.W.takesIn K (.builtin "object.__class__") = some true
  hm : PySem.W.mroIn K C (.type "object") = some true
  ki : PySem.W.kitOne K (.ref C) (.type "int") = some false
  ik : PySem.W.kitOne K (.type "int") (.ref C) = some false
theorem OwnB.ty {K : PySem.W.Frag} {C : Addr} {H : Hp} {a dx : Addr} {fs : List (Str × V)} (k : OwnB K C) (h : H a = some (.ins C dx fs)) : TyX K H (.ref a) (.ref C) :=
  .base (.ins h k.cl k.ha k.hn k.htk k.hm)

/-! ### a def that declines: its first row is «if not ..: return NotImplemented» -/
/-- behind such a call: the answer, and the heap as it was -/
def Declines (outer : List Env) (P : Program) (w : World) (H : Hp) (s : Shared) (r : Result) (s' : Shared) : Prop := r = .ok (.ret .notImplemented) ∧ CE outer P w H s (fun v G => v = .non ∧ G = H) .none s'
theorem fn_no {CX : CXT} {P : Program} {w : World} {K : PySem.W.Frag} {mg : Str → Option Value} {base : Heap} {k : Nat} {f : Addr} {name qual : Str} {params : Arguments} {scope : Scope} {dV kV doc pm cdv ct oc : Value} {an od : Option Addr} {osl : Array (Option Value)}
    {N ps : List Str} {test : Expr} {rest : List Stmt} {p1 p2 p3 : Pos}
    (lk : K.lookup f = some ⟨oc, od, .func (PySem.W.fnOf name qual params (.If test [.Return (some (.Name "NotImplemented" p1)) p2] [] p3 :: rest) scope dV kV doc pm an cdv ct), osl⟩) (hcd : PySem.W.codeIn K cdv qual = true) (S : FnScope N ps scope)
    (hg : scope.names.lookup ("NotImplemented" : Str) = some NameKind.globalImplicit) (hmg : mg "NotImplemented" = none) {A : Around} {outer : List Env} {s : Shared} {H : Hp} {args : Args} {us : List Value} {vs : List V} (hl : vs.length = ps.length) (room : Room (k + 1) A)
    (e0 : Env0 P w K mg base A outer s H) (hb : BindsTo s (PySem.W.fnOf name qual params (.If test [.Return (some (.Name "NotImplemented" p1)) p2] [] p3 :: rest) scope dV kV doc pm an cdv ct) args (ps.zip us)) (r : Vals vs us)
    (ht : Room k (A.deeper (envOfC qual scope s.heap.objs.size f cdv)) → ∃ t, PT (cxOf CX P w K mg base N qual scope f cdv A outer s H (fun _ _ _ => False)) test t ∧ t (start N vs) H (fun b G => b = true ∧ G = H)) :
    codeAny (model P w) A (.call (.ref f) args) (fun r s' => Declines outer P w H s r s' ∨ ∃ e, r = .error e ∧ CX outer H s (fun _ _ _ => False) e s') s := by
  have KX : K.In s.heap := e0.mod.kin.keeps fun b o z => (e0.bs b o z).1
  have lim : s.heap.NoLimit := e0.mod.nolimit.keeps fun b o z => (e0.bs b o z).1
  have kinds : ∀ y ∈ ps.zip us, scope.names.lookup y.1 = some .local ∨ (scope.names.lookup y.1 = some .cell ∧ ((cellsFrom (s.heap.objs.size + 1) scope.names []).lookup y.1).isSome = true) := by
    rintro ⟨n, v⟩ hy
    rcases S.par n (List.of_mem_zip hy).1 with q | q
    · exact .inl q
    · exact .inr ⟨q, PySem.W.cellsFrom_some _ _ _ (.inl q)⟩
  refine codeAny_call_function room.depth (KX _ _ lk) rfl S.co S.gen rfl (PySem.W.codeRec_of KX hcd) (hb _ _ _ _ ?_)
  refine wpAny_newFunctionEnv_cells S.kind kinds ?_
  rintro env rfl s1 x
  refine ⟨lim.keeps x.toInCall.keep, codeAny_func ?_⟩
  obtain ⟨t, pt, hq⟩ := ht (room.deeper _)
  have I : Inv (cxOf CX P w K mg base N qual scope f cdv A outer s H (fun _ _ _ => False)) [] (start N vs) H s1 := inv_start S room.hd e0 hl r x
  refine wpAny_mono (Q := fun fl s' => fl = .ret .notImplemented ∧ Inv (cxOf CX P w K mg base N qual scope f cdv A outer s H (fun _ _ _ => False)) [] (start N vs) H s') (wpAny_execs_cons (wpAny_If (thn (pt.run [] s1 _ H _ I hq) ?_))) ?_ ?_
  · rintro d s2 ⟨H2, I2, rfl, rfl⟩
    have g : Gl (cxOf CX P w K mg base N qual scope f cdv A outer s H2 (fun _ _ _ => False)) "NotImplemented" := hg
    exact wpAny_execs_cons (wpAny_Return_some (ld_blt I2 g hmg PyProof.Rows.Boot.«NotImplemented» ⟨rfl, I2⟩))
  · rintro fl s' ⟨rfl, J⟩
    exact .inl ⟨rfl, .non, H, J.os, J.bare, J.base, J.hok, rfl, rfl, rfl⟩
  · intro e s' hs
    exact wpAny_mono hs (fun _ s2 z => .inr ⟨e, rfl, z⟩) fun e2 s2 z => .inr ⟨e2, rfl, z⟩
end MoL

namespace MoW
open PySem PySem.W PyProof.Rows
section
variable {prog : Program} {w : World} {A : Around} {E : Value → Shared → Prop} {s : Shared} {K : Frag} {x y C D L f g fr : Addr} {ox oy : Obj} {od od' : Option Obj} {h₀ : Heap} {m : Str → Option Value}
/-- an instance beside one of another class: its own method declines, the other's mirrored one answers -/
theorem bin_own_other {op : Operator} {Q : Value → Shared → Prop} {R : Shared → Prop} {f' g' : Addr} (X : K.In s.heap) (I : W.InstAt s.heap x ox C od) (J : W.InstAt s.heap y oy D od') (hc : selfFirst K C = true) (hd : selfFirst K D = true) (hne : C ≠ D)
    (hn : subIn K (.ref D) (.ref C) = some false) (h1 : findIn K (.ref C) (PySem.dunder op.info.2) = some (some (.ref f))) (hf : isFn K (.ref f) = true) (h1r : findIn K (.ref C) (dunderR op.info.2) = some (some (.ref f')))
    (h2 : findIn K (.ref D) (PySem.dunder op.info.2) = some (some (.ref g'))) (h2r : findIn K (.ref D) (dunderR op.info.2) = some (some (.ref g))) (hg : isFn K (.ref g) = true)
    (a : wpAny (model prog w) A (call (.ref f) [.ref x, .ref y]) (fun v s' => v = .notImplemented ∧ R s') E s)
    (b : ∀ s', R s' → K.In s'.heap ∧ (∃ ox' o1, W.InstAt s'.heap x ox' C o1) ∧ (∃ oy' o2, W.InstAt s'.heap y oy' D o2) ∧ wpAny (model prog w) A (call (.ref g) [.ref y, .ref x]) (W.CmpBack Q) E s') : wpAny (model prog w) A (binaryOp op (.ref x) (.ref y)) Q E s := by
  obtain ⟨cd, rest, hcd, hm⟩ := mro_first (K := K) (C := C) (cd := default) hc
  obtain ⟨dd, rest2, hdd, hm2⟩ := mro_first (K := K) (C := D) (cd := default) hd
  unfold binaryOp
  refine wpAny_holding (wpAny_bind ?_)
  unfold binaryOp1
  refine wpAny_bind (I.type.here (wpAny_bind (J.type.here (wpAny_bind ((fills_K X hcd hm h1).here ?_)))))
  have ne : (Value.ref C == Value.ref D) = false := by simpa using hne
  simp only [ne, Bool.false_eq_true, if_false]
  refine wpAny_bind ((fills_K X hdd hm2 h2).here ?_)
  simp only [Bool.and_self, if_true]
  refine wpAny_bind ((looks_subIn X hn).here ?_)
  simp only [Bool.false_eq_true, if_false, pure_bind, Bool.not_false, Bool.and_self, if_true]
  have py : ∀ {Z p q : Addr}, findIn K (.ref Z) (PySem.dunder op.info.2) = some (some (.ref p)) → findIn K (.ref Z) (dunderR op.info.2) = some (some (.ref q)) → Looks (model prog w) s.heap (numberSlotInPython (.ref Z) op.info.2) true := by
    intro Z p q z1 z2
    unfold numberSlotInPython
    refine (looks_findIn X z1).andThen (Looks.andThen (a := true) .now ?_)
    exact (looks_findIn X z2).andThen (Looks.andThen (a := true) .now .now)
  refine wpAny_bind ((py h1 h1r).here ?_)
  simp only [if_true]
  refine wpAny_bind ((py h2 h2r).here ?_)
  simp only [Bool.not_true, Bool.false_eq_true, if_false]
  refine wpAny_bind (m := tryMethod (.ref x) _ (.ref y)) ?_
  unfold tryMethod
  refine wpAny_bind (special_fn X I h1 (beq_iff_eq.mp hf) (wpAny_mono a (fun v s' hv => ?_) fun _ _ e => e))
  obtain ⟨rfl, hR⟩ := hv
  obtain ⟨X2, ⟨ox', o1, I2⟩, ⟨oy', o2, J2⟩, b2⟩ := b s' hR
  refine wpAny_pure (wpAny_bind (I2.type.here (wpAny_bind (J2.type.here ?_))))
  rw [ne]
  simp only [Bool.false_eq_true, if_false]
  refine wpAny_bind (m := tryMethod (.ref y) _ (.ref x)) ?_
  unfold tryMethod
  refine wpAny_bind (special_fn X2 J2 h2r (beq_iff_eq.mp hg) (wpAny_mono b2 (fun v s' hv => ?_) fun _ _ e => e))
  cases v <;> first | exact hv.elim | exact wpAny_pure (wpAny_bind (wpAny_rule (wpAny_pure (wpAny_pure hv))))
end
end MoW
namespace MoL
open PySem PySem.Spec PyProof.Rows L2 MoW
/-- a def that declines these values -/
def FnNo (P : Program) (w : World) (K : PySem.W.Frag) (mg : Str → Option Value) (base : Heap) (CX : CXT) (k : Nat) (f : Addr) (pre : List V → Hp → Prop) : Prop :=
  ∀ (A : Around) (outer : List Env) (s : Shared) (H : Hp) (us : List Value) (vs : List V), Room k A → Env0 P w K mg base A outer s H → Vals vs us → pre vs H →
    codeAny (model P w) A (.call (.ref f) ⟨us, []⟩) (fun r s' => Declines outer P w H s r s' ∨ ∃ e, r = .error e ∧ CX outer H s (fun _ _ _ => False) e s') s
section
variable {X : Cx} {CX CX' : CXT} {k k' : Nat} {C D f f' g g' : Addr} {fd : FuncData} {ps : List Str} {sp : Sp} {E : XK} {pre : List V → Hp → Prop}
/-- x op y: x's own def declines, y's mirrored one answers -/
theorem op_other {op : Operator} (c : OwnC X.K C) (d : OwnC X.K D) (ne : C ≠ D) (sub : PySem.W.subIn X.K (.ref D) (.ref C) = some false) (m : Meth X.K C (PySem.dunder op.info.2) f) (mr : Meth X.K C (dunderR op.info.2) f') (m2 : Meth X.K D (PySem.dunder op.info.2) g')
    (m2r : Meth X.K D (dunderR op.info.2) g) (no : FnNo X.prog X.w X.K X.mg X.base CX' k' f pre) (hr' : Room k' X.A) (never : ∀ (H : Hp) s e s', CX' X.stack H s (fun _ _ _ => False) e s' → False) (run : FnOk X.prog X.w X.K X.mg X.base CX k g fd ps sp) (hr : Room k X.A)
    (hb : Binds X.K fd ps []) (hx : Passes CX X E) : OpR X (binaryOp op) (fun x y H Q => Ins H x C ∧ Ins H y D ∧ pre [x, y] H ∧ sp [y, x] H Q E) := by
  intro pins s σ H x y v u Q I rx ry h
  obtain ⟨⟨a, dx, fs, rfl, ha⟩, ⟨b, dy, gs, rfl, hb'⟩, hp, hs⟩ := h
  cases (show v = Value.ref a from rx)
  cases (show u = Value.ref b from ry)
  obtain ⟨od, J⟩ := ins_at I ha
  obtain ⟨od', J'⟩ := ins_at I hb'
  refine bin_own_other (R := fun s' => Inv X pins σ H s') I.kIn J J' c.first d.first ne sub m.at_ m.fn mr.at_ m2.at_ m2r.at_ m2r.fn ?_ ?_
  · refine wpAny_call (codeAny_mono (no X.A X.stack s H [.ref a, .ref b] [.ref a, .ref b] hr' I.env0 (.cons rfl (.cons rfl .nil)) hp) ?_)
    rintro r s' (⟨rfl, ce⟩ | ⟨e, rfl, z⟩)
    · obtain ⟨w0, G, I2, _, ⟨_, rfl⟩⟩ := I.after ce
      exact ⟨rfl, I2⟩
    · exact (never H s e s' z).elim
  · intro s' I2
    obtain ⟨o1, K1⟩ := ins_at I2 ha
    obtain ⟨o2, K2⟩ := ins_at I2 hb'
    exact ⟨I2.kIn, ⟨_, o1, K1⟩, ⟨_, o2, K2⟩, thn (run_fn (us := [.ref b, .ref a]) (vs := [.ref b, .ref a]) run hr hb .nil hx I2 (.cons rfl (.cons rfl .nil)) hs) fun v s' q => ep_back q⟩
end
/-- a def of the text that declines what its first row tells -/
theorem no_of {P : Program} {w : World} {K : PySem.W.Frag} {mg : Str → Option Value} {base : Heap} {x qual : Str} {st : Stmt} {f : Addr} {fd : FuncData} {N ps : List Str} {k : Nat} {test : Expr} {rest : List Stmt} {p1 p2 p3 : Pos} {pre : List V → Hp → Prop}
    (F : Fun K x qual st f fd) (S : FnScope N ps (defScope st)) (hst : defBody st = .If test [.Return (some (.Name "NotImplemented" p1)) p2] [] p3 :: rest) (hg : (defScope st).names.lookup ("NotImplemented" : Str) = some NameKind.globalImplicit) (hmg : mg "NotImplemented" = none)
    (hb : Binds K fd ps []) (len : ∀ vs H, pre vs H → vs.length = ps.length)
    (ht : ∀ (cdv : Value) (A : Around) (outer : List Env) (s : Shared) (H : Hp) (vs : List V), Room k (A.deeper (envOfC qual (defScope st) s.heap.objs.size f cdv)) → pre vs H →
      ∃ t, PT (cxOf CX0 P w K mg base N qual (defScope st) f cdv A outer s H (fun _ _ _ => False)) test t ∧ t (start N vs) H (fun b G => b = true ∧ G = H)) : FnNo P w K mg base CX0 (k + 1) f pre := by
  obtain ⟨oc, od, kV, doc, pm, an, cdv, ct, osl, rfl, lk, hcd⟩ := F.ex
  rw [hst] at lk hb
  intro A outer s H us vs room e0 r hp
  have hl := len vs H hp
  have KX : K.In s.heap := e0.mod.kin.keeps fun b o z => (e0.bs b o z).1
  have hlu : (us ++ []).length = ps.length := by
    rw [List.append_nil, ← r.length]
    exact hl
  have bd := hb s us KX hlu
  rw [List.append_nil] at bd
  exact fn_no lk hcd S hg hmg hl room e0 bd r fun rm => ht cdv A outer s H vs rm hp
end MoL

/-! # None beside an instance under ==, and x in an instance -/
namespace MoW
open PySem PySem.W PyProof.Rows
section
variable {prog : Program} {w : World} {A : Around} {E : Value → Shared → Prop} {s : Shared} {K : Frag} {x C f : Addr} {ox : Obj} {od : Option Obj}
theorem none_eq_no (l : Addr) : Gives (Builtin.«NoneType.__eq__» ⟨[.none, .ref l], []⟩) (.val (Value.notImplemented)) :=
  .of_wp fun M A E s Q h => by obtain ⟨hp, g, d, tk, os⟩ := s; wp_walk; exact ⟨_, rfl, h⟩
/-- None == x: both decline, they are not one thing -/
theorem cmp_none_own {Q : Value → Shared → Prop} {R : Shared → Prop} (hu : A.units < cLine) (X : K.In s.heap) (I : W.InstAt s.heap x ox C od) (hn : subIn K (.ref C) (.type "NoneType") = some false)
    (hs : findIn K (.ref C) "__eq__" = some (some (.ref f))) (hf : isFn K (.ref f) = true)
    (h : wpAny (model prog w) A (call (.ref f) [.ref x, .none]) (fun v s' => v = .notImplemented ∧ Q (.bool false) s') E s) : wpAny (model prog w) A (richCompare .Eq .none (.ref x)) Q E s := by
  have ty : ∀ s' : Shared, s'.TypeIs .none "NoneType" := fun _ => rfl
  unfold richCompare
  simp only [(ty s).oneThing_none]
  refine wpAny_holding (wpAny_bind (wpAny_cRoomFor hu ?_))
  refine wpAny_bind (wpAny_typeOf (ty s) (wpAny_bind (I.type.here ?_)))
  have hne : (Value.type "NoneType" != Value.ref C) = true := rfl
  simp only [hne, if_true]
  refine wpAny_bind ((looks_subIn X hn).here ?_)
  simp only [Bool.false_eq_true, if_false, Bool.not_false, if_true]
  refine wpAny_bind (m := tryCompare .none _ (.ref x)) (wpAny_tryCompare_declines (ty s) PySem.F.slot_NoneType_eq (call_gives PySem.F.slot_NoneType_eq rfl PySem.F.entry_NoneType_eq (PySem.F.args_NoneType_eq_2 _ _) (none_eq_no x) ⟨rfl, ?_⟩))
  refine wpAny_bind (m := tryCompare (.ref x) _ .none) ?_
  unfold tryCompare
  refine wpAny_bind (ifBound_K X I hs hf (wpAny_mono h (fun v s' hv => ?_) fun _ _ e => e))
  obtain ⟨rfl, q⟩ := hv
  exact wpAny_pure (wpAny_bind (wpAny_rule (wpAny_bind (wpAny_of_eq (show isSame .none (.ref x) = pure false from rfl) (wpAny_pure q)))))
/-- x == None, x's own method declines -/
theorem cmp_own_none {Q : Value → Shared → Prop} {R : Shared → Prop} (hu : A.units < cLine) (X : K.In s.heap) (I : W.InstAt s.heap x ox C od) (hn : subIn K (.type "NoneType") (.ref C) = some false)
    (hs : findIn K (.ref C) "__eq__" = some (some (.ref f))) (hf : isFn K (.ref f) = true)
    (h : wpAny (model prog w) A (call (.ref f) [.ref x, .none]) (fun v s' => v = .notImplemented ∧ Q (.bool false) s') E s) : wpAny (model prog w) A (richCompare .Eq (.ref x) .none) Q E s := by
  have ty : ∀ s' : Shared, s'.TypeIs .none "NoneType" := fun _ => rfl
  unfold richCompare
  simp only [oneThing_ref]
  refine wpAny_holding (wpAny_bind (wpAny_cRoomFor hu ?_))
  refine wpAny_bind (I.type.here (wpAny_bind (wpAny_typeOf (ty s) ?_)))
  have hne : (Value.ref C != Value.type "NoneType") = true := rfl
  simp only [hne, if_true]
  refine wpAny_bind ((looks_subIn X hn).here ?_)
  simp only [Bool.false_eq_true, if_false, Bool.not_false, if_true]
  refine wpAny_bind (m := tryCompare (.ref x) _ .none) ?_
  have one : wpAny (model prog w) A (tryCompare (.ref x) "__eq__" .none) (fun r s' => r = none ∧ Q (.bool false) s') E s := by
    unfold tryCompare
    refine wpAny_bind (ifBound_K X I hs hf (wpAny_mono h (fun v s' hv => ?_) fun _ _ e => e))
    obtain ⟨rfl, q⟩ := hv
    exact wpAny_pure ⟨rfl, q⟩
  refine wpAny_mono one (fun r s' z => ?_) fun _ _ e => e
  obtain ⟨rfl, q⟩ := z
  refine wpAny_bind (m := tryCompare .none _ (.ref x)) (wpAny_tryCompare_declines (ty s') PySem.F.slot_NoneType_eq_refl (call_gives PySem.F.slot_NoneType_eq_refl rfl PySem.F.entry_NoneType_eq (PySem.F.args_NoneType_eq_2 _ _) (none_eq_no x) ⟨rfl, ?_⟩))
  exact wpAny_bind (wpAny_rule (wpAny_bind (wpAny_of_eq (show isSame (.ref x) .none = pure false from rfl) (wpAny_pure q))))
end
end MoW
namespace MoL
open PySem PySem.Spec PyProof.Rows L2 MoW
section
variable {X : Cx} {CX CX' : CXT} {k k' : Nat} {C D f f' g g' : Addr} {fd : FuncData} {ps : List Str} {sp : Sp} {E : XK} {pre : List V → Hp → Prop}
/-- x == None and None == x: not equal, the instance's own method declines -/
theorem op_eq_none (h1 : PySem.W.subIn X.K (.ref C) (.type "NoneType") = some false) (h2 : PySem.W.subIn X.K (.type "NoneType") (.ref C) = some false) (m : Meth X.K C "__eq__" f)
    (no : FnNo X.prog X.w X.K X.mg X.base CX' k' f pre) (hr' : Room k' X.A) (never : ∀ (H : Hp) s e s', CX' X.stack H s (fun _ _ _ => False) e s' → False) :
    OpR X (compareOp .Eq) (fun x y H Q => ((x = .non ∧ Ins H y C ∧ pre [y, .non] H) ∨ (y = .non ∧ Ins H x C ∧ pre [x, .non] H)) ∧ Q (.bl false) H) := by
  intro pins s σ H x y v u Q I rx ry h
  obtain ⟨h, q⟩ := h
  have run : ∀ a : Addr, pre [.ref a, .non] H → wpAny (model X.prog X.w) X.A (call (.ref f) [.ref a, .none]) (fun v s' => v = .notImplemented ∧ EP X pins σ Q (.bool false) s') X.xe s := fun a hp => by
    refine wpAny_call (codeAny_mono (no X.A X.stack s H [.ref a, .none] [.ref a, .non] hr' I.env0 (.cons rfl (.cons rfl .nil)) hp) ?_)
    rintro r s' (⟨rfl, ce⟩ | ⟨e, rfl, z⟩)
    · obtain ⟨w0, G, I2, _, ⟨_, rfl⟩⟩ := I.after ce
      exact ⟨rfl, .bl false, _, I2, rfl, q⟩
    · exact (never H s e s' z).elim
  rcases h with ⟨rfl, ⟨a, dx, fs, rfl, ha⟩, hp⟩ | ⟨rfl, ⟨a, dx, fs, rfl, ha⟩, hp⟩
  · cases (show v = Value.none from rx)
    cases (show u = Value.ref a from ry)
    obtain ⟨od, J⟩ := ins_at I ha
    exact cmp_none_own (R := fun _ => True) hr'.units0 I.kIn J h1 m.at_ m.fn (run a hp)
  · cases (show v = Value.ref a from rx)
    cases (show u = Value.none from ry)
    obtain ⟨od, J⟩ := ins_at I ha
    exact cmp_own_none (R := fun _ => True) hr'.units0 I.kIn J h2 m.at_ m.fn (run a hp)
/-- x in an instance -/
theorem op_in_own (m : Meth X.K C "__contains__" f) (F : FnOk X.prog X.w X.K X.mg X.base CX k f fd ps sp) (hr : Room k X.A) (hb : Binds X.K fd ps []) (hx : Passes CX X E) :
    OpR X (compareOp .In) (fun x y H Q => Ins H y C ∧ sp [y, x] H (fun v H' => ∃ b, v = .bl b ∧ Q (.bl b) H') E) := by
  intro pins s σ H x y v u Q I rx ry h
  obtain ⟨⟨a, dx, fs, rfl, ha⟩, hs⟩ := h
  cases (show u = Value.ref a from ry)
  obtain ⟨od, J⟩ := ins_at I ha
  obtain ⟨mm, hF⟩ := I.fr
  refine PySem.W.in_K hF I.ok.mod.kin J m.at_ m.fn (thn (run_fn (us := [.ref a, v]) (vs := [.ref a, x]) F hr hb .nil hx I (.cons rfl (.cons rx .nil)) hs) fun r s' q => ?_)
  obtain ⟨z, H', I', r1, b, rfl, q⟩ := q
  cases (show r = Value.bool b from r1)
  exact wpAny_truthy_bool ⟨.bl b, H', I', rfl, q⟩
end
/-- a list read by place, the written part named (in a lambda's body the context must not show) -/
theorem ix_listK {X : Cx} {K : PySem.W.Frag} (h : X.K = K) : IxR X (rIxL K) := h ▸ ix_list
end MoL

/-! # math.lcm of long numbers, math.comb, a comprehension over zip -/
namespace MoL
open PySem PySem.Spec PyProof.Rows L2 MoW
section
variable {X : Cx}
def rLcm : List V → Hp → VK → Prop := fun vs H Q => ∃ a b : Int, vs = [.int a, .int b] ∧ Sm a ∧ Sm b ∧ Q (.int ((Nat.lcm a.natAbs b.natAbs : Nat) : Int)) H
theorem cr_lcm : CallR X (.builtin "math.lcm") rLcm := by
  intro pins s σ H vs us Q I r h
  obtain ⟨a, b, rfl, sa, sb, q⟩ := h
  obtain ⟨t, u, rfl⟩ := Vals.int2 r
  have la : a.natAbs.log2 < 4000 + 1 := Nat.lt_succ_of_le (Nat.le_of_lt_succ (Nat.lt_succ_of_lt (PySem.Flt.log2_lt_of (by decide) sa)))
  have lb : b.natAbs.log2 < 4000 + 1 := Nat.lt_succ_of_le (Nat.le_of_lt_succ (Nat.lt_succ_of_lt (PySem.Flt.log2_lt_of (by decide) sb)))
  have m1 : (max 1 a.natAbs).log2 < 4001 := by
    rcases Nat.le_total 1 a.natAbs with h | h
    · rw [Nat.max_eq_right h]; exact la
    · rw [Nat.max_eq_left h]; decide
  have m2 : (max a.natAbs b.natAbs).log2 < 4001 := by
    rcases Nat.le_total a.natAbs b.natAbs with h | h
    · rw [Nat.max_eq_right h]; exact lb
    · rw [Nat.max_eq_left h]; exact la
  have hsz : ((((Nat.lcm 1 a.natAbs).lcm b.natAbs : Nat) : Int)).natAbs.log2 < bitsLine := by
    rw [PySem.W.mc_lcm_one]
    have h1 : a.natAbs.lcm b.natAbs < 2 ^ 8000 := Nat.lt_of_le_of_lt (PySem.W.mc_lcm_le _ _) (Nat.lt_of_lt_of_le (Nat.mul_lt_mul'' sa sb) (by rw [← Nat.pow_add]; exact Nat.le_refl _))
    have h2 : ((a.natAbs.lcm b.natAbs : Nat) : Int).natAbs.log2 < 8000 := PySem.Flt.log2_lt_of (by decide) h1
    exact Nat.lt_of_lt_of_le h2 (by decide)
  have e : ((((Nat.lcm 1 a.natAbs).lcm b.natAbs : Nat) : Int)) = ((a.natAbs.lcm b.natAbs : Nat) : Int) := by rw [PySem.W.mc_lcm_one]
  exact call_function_meets PySem.W.MGF.kind_lcm PySem.W.MGF.plain_lcm PySem.W.MGF.entry_lcm (PySem.W.MGF.args_lcm _ _) (PySem.W.mg_run_lcm a t b u (by omega) (by omega) hsz).meets (e ▸ ⟨.int _, H, I.tok _, ⟨_, rfl⟩, q⟩)
def rComb : List V → Hp → VK → Prop := fun vs H Q => ∃ a b : Int, vs = [.int a, .int b] ∧ 0 ≤ a ∧ 0 ≤ b ∧ a < 1000 ∧ b < 1000 ∧ Q (.int (PySem.W.mcComb a b)) H
theorem cr_comb : CallR X (.builtin "math.comb") rComb := by
  intro pins s σ H vs us Q I r h
  obtain ⟨a, b, rfl, ha, hb, ha2, hb2, q⟩ := h
  obtain ⟨t, u, rfl⟩ := Vals.int2 r
  exact PySem.W.mc_comb ha hb (by omega) (.inl (by omega)) fun _ => ⟨.int _, H, I.tok _, ⟨_, rfl⟩, q⟩
end
/-- [e for a, b in zip(xs, ys)]: both lists stay -/
theorem lc_zip {K : PySem.W.Frag} {a b : Addr} {xs ys : List V} {g : TG} {tt : TT} {te : TE} {vs : List Nat} {σ : L2.St} {H1 : Hp} {D : Addr} {Qd : Hp → Prop} (Pv : Nat → Hp → Prop) (h0 : Pv 0 (upd H1 D (.lst [])))
    (hl : ∀ i H, i ≤ min xs.length ys.length → Pv i H → SqL K H a xs ∧ SqL K H b ys)
    (hs : ∀ i x y H T, xs[i]? = some x → ys[i]? = some y → H T = none → Pv i H → g (.ref T) (wipe σ vs) (upd H T (.tup [x, y])) fun σ2 H2 => wipe σ2 vs = wipe σ vs ∧ tt σ2 H2 fun b H3 =>
      if b = true then te σ2 H3 fun y H4 => ∃ acc, H4 D = some (.lst acc) ∧ acc.length < sizeLine ∧ Pv (i + 1) (upd H4 D (.lst (acc ++ [y]))) else Pv (i + 1) H3) (hd : ∀ H, Pv (min xs.length ys.length) H → Qd H) :
    ∃ W : Nat → Nat → Hp → Prop, (∃ m, W 0 m (upd H1 D (.lst []))) ∧ ∀ i m H, W i m H →
      ((Itz K a b).stop i H ∧ Qd H) ∨ ((Itz K a b).go i H ∧ ∃ Nx : Hp → Prop, (∀ H', Nx H' → ∃ m', m' < m ∧ W (i + 1) m' H') ∧ ∀ x H', (Itz K a b).yld i H x H' → g x (wipe σ vs) H' fun σ2 H2 => wipe σ2 vs = wipe σ vs ∧ tt σ2 H2 fun b H3 =>
        if b = true then te σ2 H3 fun y H4 => ∃ acc, H4 D = some (.lst acc) ∧ acc.length < sizeLine ∧ Nx (upd H4 D (.lst (acc ++ [y]))) else Nx H3) := by
  refine ⟨fun i m H => m = min xs.length ys.length - i ∧ i ≤ min xs.length ys.length ∧ Pv i H, ⟨min xs.length ys.length, by simp, Nat.zero_le _, h0⟩, ?_⟩
  rintro i m H ⟨rfl, hi, p⟩
  obtain ⟨q1, q2⟩ := hl i H hi p
  by_cases hlt : i < min xs.length ys.length
  · have l1 : i < xs.length := by omega
    have l2 : i < ys.length := by omega
    refine .inr ⟨⟨xs, ys, xs[i], ys[i], q1, q2, List.getElem?_eq_getElem l1, List.getElem?_eq_getElem l2⟩, Pv (i + 1), fun H' h => ⟨_, by omega, rfl, by omega, h⟩, ?_⟩
    rintro x H' ⟨T, u, v, rfl, hT, rfl, e1, e2⟩
    exact hs i u v H T (e1 _ q1) (e2 _ q2) hT p
  · have e : i = min xs.length ys.length := by omega
    subst e
    exact .inl ⟨⟨xs, ys, q1, q2, by omega⟩, hd H p⟩
/-! ### f(e, .., k = v) in a body whose errors are caught -/
def tCallNS (n m : Nat) (sp : Sp) (gV : List V → List V → List V) (W : L2.St → XK) (t tk : TA) : TE := fun σ H Q => t σ H fun vs H1 => tk σ H1 fun zs H2 => vs.length = n ∧ zs.length = m ∧ sp (gV vs zs) H2 Q (W σ)
section
variable {X : Cx} {CX : CXT} {k n : Nat} {f : Addr} {fd : FuncData} {ps ks : List Str} {sp : Sp} {W : L2.St → XK} {x : Str} {p pos : Pos} {e : Expr} {es : List Expr} {kws : List Keyword} {t tk : TA} {g : List Value → List Value → List Value} {gV : List V → List V → List V}
theorem pe_callNS (F : FnOk X.prog X.w X.K X.mg X.base CX k f fd ps sp) (hr : Room k X.A) (hg : Gl X x) (hm : X.mg x = some (.ref f)) (hk : PySem.W.keepIn X.K (.ref f) = true) (hb : KBn X.K fd ps n ks g gV) (hx : ∀ σ, PassesAt CX X σ (W σ))
    (ha : PA X (e :: es) t) (hkw : PK X kws tk) (hall : (backToKw pos (keywordEach kws X.env)).all (·.1.isSome) = true := by rfl) (hks : (backToKw pos (keywordEach kws X.env)).filterMap (·.1) = ks := by rfl)
    (hdb : (x == ("__debug__" : Str)) = false := by decide) (he : starEach (e :: es) X.env = (false, eval e X.env) :: starEach es X.env := by rfl)
    (hpl : ((backTo pos (starEach (e :: es) X.env)).any (·.1) || (backToKw pos (keywordEach kws X.env)).any (·.1.isNone)) = false := by rfl) :
    PE X (.Call (.Name x p) (e :: es) kws pos) (tCallNS n ks.length sp gV W t tk) := by
  refine ⟨fun pins s σ H Q I h => ?_⟩
  refine wpAny_Call_Name_kw (ld_glob I hg hm ?_ hdb)
  refine PySem.W.callWith_KW (h₀ := X.base) I.ok.mod.kin hk hall (thn (ha.run pos pins s σ H _ I h) fun us s1 ⟨vs, H1, I1, r, q⟩ => ?_) hpl he
  refine thn (hkw.run pos pins s1 σ H1 _ I1 q) fun ws s2 ⟨zs, H2, I2, rz, l1, l2, q2⟩ => ⟨I2.kIn, ?_⟩
  rw [hks]
  have r2 := hb.rel r rz
  refine wpAny_call (codeAny_mono (F.run X.A X.stack s2 H2 ⟨us, ks.zip ws⟩ (g us ws) (gV vs zs) Q (W σ) hr I2.env0 (hb.to s2 us ws I2.kIn (r.length.symm.trans l1) (rz.length.symm.trans l2)) r2 q2) fun r s' hq => ?_)
  cases r with
  | error e => exact hx σ pins _ _ e s' I2 hq
  | ok fl =>
    cases fl with
    | ret u => exact I2.after hq
    | next => exact False.elim hq
    | brk => exact False.elim hq
    | cont => exact False.elim hq
end
/-- a field, the written part named (in a comprehension's block the context must not show) -/
theorem pe_fldK {X : Cx} {K : PySem.W.Frag} {e : Expr} {f : Str} {pos : Pos} {ta : TE} (h : X.K = K) (he : PE X e ta) (hb : attributeBase e f X.env (eval e X.env) = eval e X.env) : PE X (.Attribute e f pos) (tFld K ta f) := h ▸ pe_fld he hb
theorem pg_tupK {X : Cx} {K : PySem.W.Frag} {es : List Expr} {k n : Nat} {pos : Pos} {t : TGs} (h : X.K = K) (hc : X.calm = true) (hp : PGs X es t)
    (hn : (assignEach es X.env).length = n := by rfl) (hst : (assignEach es X.env).findIdx? (·.1) = none := by rfl) : PG X (.Tuple es k pos) (gTup K n t) := h ▸ pg_tup hc hp hn hst
end MoL

/-! # Errors without fields that are caught, calls with keywords alone -/
namespace MoL
open PySem PySem.Spec PyProof.Rows L2 MoW
def rIsNo (K : PySem.W.Frag) (a : Addr) (cls : Value) (d : Option Addr) (D : Addr) : List V → Hp → VK → Prop := fun xs H Q => ∃ (c : V) (cv : Value) (b : Bool), xs = [.ref a, c] ∧ cls = .ref D ∧ d = none ∧ ClsV c cv ∧ PySem.W.kitOne K (.ref D) cv = some b ∧ Q (.bl b) H
theorem call_isN {X : Cx} {a D : Addr} {oe : Obj} {cls : Value} {d : Option Addr} {pn : List (Addr × Obj)} (C : ExcC X.K D) (hz : Zc cls d oe) (hf : ∃ vs, oe.data = .fields vs) : CallR (X.suite a ((a, oe) :: pn)) (.builtin "isinstance") (rIsNo X.K a cls d D) := by
  intro pins s σ H xs us Q I r h
  obtain ⟨c, cv, b, rfl, rfl, rfl, hc, e, q⟩ := h
  exact call_isE C hz hf pins s σ H _ us Q I r ⟨c, cv, b, rfl, fun u r => hc.eq r, e, q⟩
theorem ErrC.em {K : PySem.W.Frag} {M C : Addr} {nm : Str} (e : ErrC K M C nm) : PySem.W.exmOne K (.ref C) (.ref C) = some true := PySem.W.exm_ref e.exc e.row.dict e.row.ty (by rw [e.row.sub]; simp)
section
variable {X : Cx} {CX : CXT} {k : Nat} {f : Addr} {fd : FuncData} {ps ks : List Str} {sp : Sp} {E : XK} {x : Str} {p pos : Pos} {kws : List Keyword} {tk : TA} {g : List Value → List Value → List Value} {gV : List V → List V → List V}
theorem pe_callN0 (F : FnOk X.prog X.w X.K X.mg X.base CX k f fd ps sp) (hr : Room k X.A) (hg : Gl X x) (hm : X.mg x = some (.ref f)) (hk : PySem.W.keepIn X.K (.ref f) = true) (hb : KBn X.K fd ps 0 ks g gV) (hx : Passes CX X E) (hkw : PK X kws tk)
    (hall : (backToKw pos (keywordEach kws X.env)).all (·.1.isSome) = true := by rfl) (hks : (backToKw pos (keywordEach kws X.env)).filterMap (·.1) = ks := by rfl) (hdb : (x == ("__debug__" : Str)) = false := by decide)
    (hpl : ((backTo pos (starEach [] X.env)).any (·.1) || (backToKw pos (keywordEach kws X.env)).any (·.1.isNone)) = false := by rfl) :
    PE X (.Call (.Name x p) [] kws pos) (tCallN 0 ks.length sp gV E tNil tk) := by
  refine ⟨fun pins s σ H Q I h => ?_⟩
  refine wpAny_Call_Name_kw (ld_glob I hg hm ?_ hdb)
  refine PySem.W.callWith_KW0 (h₀ := X.base) I.ok.mod.kin hk hall ?_ hpl
  refine thn (hkw.run pos pins s σ H _ I h) fun ws s2 ⟨zs, H2, I2, rz, l1, l2, q2⟩ => ⟨I2.kIn, ?_⟩
  rw [hks]
  exact run_fnN (us := []) (vs := []) F hr hb hx I2 .nil rz rfl l2 q2
end
end MoL

namespace MoL
open PySem PySem.Spec PyProof.Rows L2 MoW
/-- a slice inside a comprehension -/
theorem sl_listK {X : Cx} {K : PySem.W.Frag} (h : X.K = K) : SlR X (rSlL K) := h ▸ sl_list
end MoL

/-! # Exact fractions as Rats: a Ratio's fields are the numerator and the denominator -/
namespace MoL
open PySem PySem.Spec PyProof.Rows L2 MoW
/-! # Exact fractions: the fields of a Ratio are the numerator and the denominator of a Rat -/
theorem den_pos (x : Rat) : (0 : Int) < (x.den : Int) := Int.natCast_pos.mpr x.den_pos
theorem ine (i : Int) (h : i ≠ 0) : (i : Rat) ≠ 0 := fun z => h (by exact_mod_cast z)
theorem den_ne (x : Rat) : (((x.den : Nat) : Int) : Rat) ≠ 0 := ine _ (by have := den_pos x; omega)
theorem num_is (x : Rat) : (x.num : Rat) = x * (((x.den : Nat) : Int) : Rat) := by
  have h := Rat.num_divInt_den x
  rw [Rat.divInt_eq_div] at h
  have h2 := den_ne x
  generalize (((x.den : Nat) : Int) : Rat) = d at *
  generalize (x.num : Rat) = n at *
  grind
theorem inj {a b : Int} (h : (a : Rat) = b) : a = b := by exact_mod_cast h
/-- lowest terms are one -/
theorem low_is {x : Rat} {t b : Int} (hb : 0 < b) (hc : Nat.gcd t.natAbs b.natAbs = 1) (h : x * (b : Rat) = t) : x.num = t ∧ (x.den : Int) = b := by
  have h0 : Rat.divInt t b = x := by
    rw [Rat.divInt_eq_div, ← h]
    have := ine b (by omega)
    generalize (b : Rat) = c at *
    grind
  have e : b = ((b.toNat : Nat) : Int) := by omega
  have hr : (⟨t, b.toNat, by omega, by rw [show b.toNat = b.natAbs by omega]; exact hc⟩ : Rat) = x := by
    rw [Rat.mk_eq_divInt, ← e]
    exact h0
  rw [← hr]
  exact ⟨rfl, e.symm⟩
/-- any way to write x has a top and a bottom that are not smaller -/
theorem le_of {x : Rat} {p q : Int} (hq : q ≠ 0) (h : x * (q : Rat) = p) : x.num.natAbs ≤ p.natAbs ∧ x.den ≤ q.natAbs := by
  have e : x.num * q = p * (x.den : Int) := inj (by
    rw [Rat.intCast_mul, Rat.intCast_mul, ← h, num_is]
    grind)
  have hc : Nat.Coprime x.num.natAbs x.den := x.reduced
  have e2 : x.num.natAbs * q.natAbs = p.natAbs * x.den := by
    have := congrArg Int.natAbs e
    rw [Int.natAbs_mul, Int.natAbs_mul] at this
    simpa using this
  have d1 : x.den ∣ q.natAbs := hc.symm.dvd_of_dvd_mul_left ⟨p.natAbs, by rw [e2, Nat.mul_comm]⟩
  have d2 : x.num.natAbs ∣ p.natAbs := hc.dvd_of_dvd_mul_right ⟨q.natAbs, e2.symm⟩
  refine ⟨?_, Nat.le_of_dvd (by omega) d1⟩
  rcases Nat.eq_zero_or_pos p.natAbs with h | h
  · rw [h, Nat.zero_mul] at e2
    rcases Nat.mul_eq_zero.mp e2 with h2 | h2
    · omega
    · omega
  · exact Nat.le_of_dvd h d2
/-- sizes: the top below 2 ^ n, the bottom below 2 ^ m -/
structure Bd (n m : Nat) (x : Rat) : Prop where
  top : x.num.natAbs < 2 ^ n
  bot : x.den < 2 ^ m
theorem two_le {a b : Nat} (h : a ≤ b) : 2 ^ a ≤ 2 ^ b := Nat.pow_le_pow_right (by decide) h
theorem lt_le {i a b : Nat} (h : i < 2 ^ a) (l : a ≤ b) : i < 2 ^ b := Nat.lt_of_lt_of_le h (two_le l)
theorem Bd.mono {n m n' m' : Nat} {x : Rat} (b : Bd n m x) (h : n ≤ n') (h2 : m ≤ m') : Bd n' m' x := ⟨lt_le b.top h, lt_le b.bot h2⟩
theorem Bd.of {n m : Nat} {x : Rat} {p q : Int} (hq : q ≠ 0) (h : x * (q : Rat) = p) (h1 : p.natAbs < 2 ^ n) (h2 : q.natAbs < 2 ^ m) : Bd n m x :=
  ⟨Nat.lt_of_le_of_lt (le_of hq h).1 h1, Nat.lt_of_le_of_lt (le_of hq h).2 h2⟩
theorem div_is {p q : Int} (hq : q ≠ 0) : ((p : Rat) / (q : Rat)) * (q : Rat) = p := by
  have := ine q hq
  generalize (q : Rat) = c at *
  grind
theorem Bd.div {n m : Nat} {p q : Int} (hq : q ≠ 0) (h1 : p.natAbs < 2 ^ n) (h2 : q.natAbs < 2 ^ m) : Bd n m ((p : Rat) / (q : Rat)) := .of hq (div_is hq) h1 h2
theorem Bd.int {n m : Nat} {i : Int} (h1 : i.natAbs < 2 ^ n) (h2 : 0 < m) : Bd n m (i : Rat) :=
  ⟨by rw [Rat.num_intCast]; exact h1, by rw [Rat.den_intCast]; exact Nat.one_lt_two_pow (by omega)⟩
theorem nmul {i j : Int} {m n : Nat} (a : i.natAbs < 2 ^ m) (b : j.natAbs < 2 ^ n) : (i * j).natAbs < 2 ^ (m + n) := by
  rw [Int.natAbs_mul, Nat.pow_add]
  exact Nat.mul_lt_mul'' a b
theorem nadd {i j : Int} {n : Nat} (a : i.natAbs < 2 ^ n) (b : j.natAbs < 2 ^ n) : (i + j).natAbs < 2 ^ (n + 1) := by
  rw [Nat.pow_succ]
  omega
theorem dabs (x : Rat) : ((x.den : Nat) : Int).natAbs = x.den := by simp
theorem mul_q (x y : Rat) : (x * y) * (((x.den : Int) * (y.den : Int) : Int) : Rat) = ((x.num * y.num : Int) : Rat) := by
  rw [Rat.intCast_mul, Rat.intCast_mul, num_is, num_is]
  grind
theorem add_q (x y : Rat) : (x + y) * (((x.den : Int) * (y.den : Int) : Int) : Rat) = ((x.num * (y.den : Int) + y.num * (x.den : Int) : Int) : Rat) := by
  rw [Rat.intCast_mul, Rat.intCast_add, Rat.intCast_mul, Rat.intCast_mul, num_is, num_is]
  grind
theorem sub_q (x y : Rat) : (x - y) * (((x.den : Int) * (y.den : Int) : Int) : Rat) = ((x.num * (y.den : Int) - y.num * (x.den : Int) : Int) : Rat) := by
  rw [Rat.intCast_mul, Rat.intCast_sub, Rat.intCast_mul, Rat.intCast_mul, num_is, num_is]
  grind
theorem dd_ne (x y : Rat) : (x.den : Int) * (y.den : Int) ≠ 0 := by
  have := Int.mul_pos (den_pos x) (den_pos y)
  omega
theorem Bd.mul {n m n' m' : Nat} {x y : Rat} (a : Bd n m x) (b : Bd n' m' y) : Bd (n + n') (m + m') (x * y) :=
  .of (dd_ne x y) (mul_q x y) (nmul a.top b.top) (nmul (by rw [dabs]; exact a.bot) (by rw [dabs]; exact b.bot))
theorem Bd.add {n m n' m' e : Nat} {x y : Rat} (a : Bd n m x) (b : Bd n' m' y) (h1 : n + m' ≤ e) (h2 : n' + m ≤ e) : Bd (e + 1) (m + m') (x + y) :=
  .of (dd_ne x y) (add_q x y) (nadd (lt_le (nmul a.top (by rw [dabs]; exact b.bot)) h1) (lt_le (nmul b.top (by rw [dabs]; exact a.bot)) h2)) (nmul (by rw [dabs]; exact a.bot) (by rw [dabs]; exact b.bot))
theorem Bd.neg {n m : Nat} {x : Rat} (a : Bd n m x) : Bd n m (-x) := ⟨by rw [Rat.neg_num, Int.natAbs_neg]; exact a.top, by rw [Rat.neg_den]; exact a.bot⟩
theorem Bd.sub {n m n' m' e : Nat} {x y : Rat} (a : Bd n m x) (b : Bd n' m' y) (h1 : n + m' ≤ e) (h2 : n' + m ≤ e) : Bd (e + 1) (m + m') (x - y) := by
  rw [Rat.sub_eq_add_neg]
  exact a.add b.neg h1 h2
theorem Bd.zero {n m : Nat} (h : 0 < m) : Bd n m 0 := ⟨Nat.two_pow_pos _, Nat.one_lt_two_pow (by omega)⟩
theorem Bd.one {n m : Nat} (h : 0 < n) (h : 0 < m) : Bd n m 1 := ⟨Nat.one_lt_two_pow (by omega), Nat.one_lt_two_pow (by omega)⟩
/-- the gap of two -/
theorem gap_lt (x y : Rat) : x < y ↔ x.num * (y.den : Int) - y.num * (x.den : Int) < 0 := by
  rw [Rat.lt_iff]
  omega
theorem gap_le (x y : Rat) : x ≤ y ↔ x.num * (y.den : Int) - y.num * (x.den : Int) ≤ 0 := by
  rw [Rat.le_iff]
  omega
theorem gap_eq (x y : Rat) : x = y ↔ x.num * (y.den : Int) - y.num * (x.den : Int) = 0 := by
  constructor
  · rintro rfl
    omega
  · intro h
    have h1 : x ≤ y := (gap_le x y).mpr (by omega)
    have h2 : y ≤ x := (gap_le y x).mpr (by omega)
    exact Rat.le_antisymm h1 h2
theorem num_zero {x : Rat} (h : x.num = 0) : x = 0 := by
  have := num_is x
  rw [h] at this
  have h2 := den_ne x
  generalize (((x.den : Nat) : Int) : Rat) = d at *
  grind
theorem num_ne {x : Rat} (h : x ≠ 0) : x.num ≠ 0 := fun z => h (num_zero z)
theorem int_parts (i : Int) : ((i : Rat)).num = i ∧ (((i : Rat)).den : Int) = 1 := ⟨Rat.num_intCast i, by rw [Rat.den_intCast]; rfl⟩

theorem Bd.d {n m : Nat} {x : Rat} (b : Bd n m x) : ((x.den : Int)).natAbs < 2 ^ m := by rw [dabs]; exact b.bot
theorem sm_of {i : Int} {n : Nat} (h : i.natAbs < 2 ^ n) (hn : n ≤ 4000) : Sm i := Sm.of h hn
theorem nle {i : Int} {m n : Nat} (a : i.natAbs < 2 ^ m) (h : m ≤ n) : i.natAbs < 2 ^ n := Nat.lt_of_lt_of_le a (Nat.pow_le_pow_right (by decide) h)
theorem Bd.s1 {n m : Nat} {x : Rat} (b : Bd n m x) (h : n ≤ 4000) : Sm x.num := sm_of b.top h
theorem Bd.s2 {n m : Nat} {x : Rat} (b : Bd n m x) (h : m ≤ 4000) : Sm (x.den : Int) := sm_of b.d h
/-- the value of a top and a bottom -/
def qv (p : Int × Int) : Rat := (p.1 : Rat) / (p.2 : Rat)
theorem qv_mul {p : Int × Int} (h : p.2 ≠ 0) : qv p * (p.2 : Rat) = p.1 := div_is h
theorem div_eq {x : Rat} {p q : Int} (hq : q ≠ 0) (h : x * (q : Rat) = p) : (p : Rat) / (q : Rat) = x := by
  have := ine q hq
  generalize (q : Rat) = c at *
  generalize (p : Rat) = d at *
  grind
/-- lowest terms as the making computes them -/
theorem Norm.rat {t b t' b' : Int} (n : Norm t b t' b') : ((t : Rat) / (b : Rat)).num = t' ∧ ((((t : Rat) / (b : Rat)).den : Nat) : Int) = b' := by
  have hb := n.bne
  have c := n.cross
  refine low_is n.pos n.cop ?_
  have c2 : (t' : Rat) * (b : Rat) = (t : Rat) * (b' : Rat) := by exact_mod_cast c
  have h1 := ine b hb
  have h2 := div_is (p := t) hb
  generalize (t : Rat) / (b : Rat) = z at *
  generalize (b : Rat) = bb at *
  generalize (t : Rat) = tt at *
  generalize (t' : Rat) = tt' at *
  generalize (b' : Rat) = bb' at *
  grind
/-! ### Ratios on the heap -/
abbrev ratO (C dx : Addr) (z : Rat) : HO := .ins C dx [("top", .int z.num), ("bottom", .int ((z.den : Nat) : Int))]
def RatV (C : Addr) (H : Hp) (v : V) (z : Rat) : Prop := ∃ a dx, v = .ref a ∧ H a = some (ratO C dx z)
def NumV (C : Addr) (H : Hp) (v : V) (z : Rat) : Prop := (∃ i : Int, v = .int i ∧ z = (i : Rat)) ∨ RatV C H v z
section
variable {C : Addr} {H H' : Hp} {v : V} {z : Rat}
theorem RatV.ins (r : RatV C H v z) : Ins H v C := by
  obtain ⟨a, dx, e, h⟩ := r
  exact ⟨a, dx, _, e, h⟩
theorem RatV.same (r : RatV C H v z) (s : Same H H') : RatV C H' v z := by
  obtain ⟨a, dx, e, h⟩ := r
  exact ⟨a, dx, e, s _ _ h⟩
theorem RatV.num (r : RatV C H v z) : NumV C H v z := .inr r
theorem NumV.same (n : NumV C H v z) (s : Same H H') : NumV C H' v z := n.imp id fun r => r.same s
theorem NumV.kind (n : NumV C H v z) : (∃ i, v = .int i) ∨ Ins H v C := n.imp (fun ⟨i, e, _⟩ => ⟨i, e⟩) fun r => r.ins
theorem NumV.int (i : Int) : NumV C H (.int i) (i : Rat) := .inl ⟨i, rfl, rfl⟩
theorem RatV.one {z' : Rat} (r : RatV C H v z) (r' : RatV C H v z') : z = z' := by
  obtain ⟨a, dx, rfl, e⟩ := r
  obtain ⟨a', dx', e0, e'⟩ := r'
  cases e0
  rw [e] at e'
  have h := (HO.ins.inj (Option.some.inj e')).2.2
  have h1 : z.num = z'.num := V.int.inj (congrArg Prod.snd (List.cons.inj h).1)
  have h2 : ((z.den : Nat) : Int) = ((z'.den : Nat) : Int) := V.int.inj (congrArg Prod.snd (List.cons.inj (List.cons.inj h).2).1)
  exact Rat.ext h1 (by omega)
theorem RatV.to {z' : Rat} (r : RatV C H v z) (e : z = z') : RatV C H v z' := e ▸ r
theorem RatV.put {d : Addr} {ys : List V} {o : HO} (r : RatV C H v z) (hd : H d = some (.lst ys)) : RatV C (upd H d o) v z := by
  obtain ⟨a, dx, e, h⟩ := r
  refine ⟨a, dx, e, ?_⟩
  rw [upd_ne fun z => by rw [z, hd] at h; cases h]
  exact h
/-- what is kept but at x, which is no Ratio -/
theorem RatV.keep {G G' : Hp} {x : Addr} {o : HO} (r : RatV C G v z) (hx : G x = some o) (ne : ∀ dx z, ratO C dx z ≠ o) (k : ∀ b u, b ≠ x → G b = some u → G' b = some u) : RatV C G' v z := by
  obtain ⟨a, dx, e, h⟩ := r
  exact ⟨a, dx, e, k _ _ (fun w => by subst w; rw [hx] at h; exact ne _ _ (Option.some.inj h).symm) h⟩
end
theorem NumV.put {C : Addr} {H : Hp} {v : V} {z : Rat} {d : Addr} {ys : List V} {o : HO} (r : NumV C H v z) (hd : H d = some (.lst ys)) : NumV C (upd H d o) v z := r.imp id fun r => r.put hd
/-- a new Ratio on the heap -/
theorem madeV {C : Addr} {H : Hp} {x dx : Addr} (nx : H x = none) (nd : H dx = none) (ne : dx ≠ x) (z : Rat) :
    Same H (upd (upd (upd H dx (.own x)) x (.ins C dx [])) x (ratO C dx z)) ∧ RatV C (upd (upd (upd H dx (.own x)) x (.ins C dx [])) x (ratO C dx z)) (.ref x) z := by
  refine ⟨?_, x, dx, rfl, upd_same⟩
  rw [upd_upd]
  exact same_upd' (same_upd nd) nx
/-- a list or a tuple of these things -/
def SeqAt (H : Hp) (v : V) (xs : List V) : Prop := ∃ a, v = .ref a ∧ (H a = some (.lst xs) ∨ H a = some (.tup xs))
theorem SeqAt.same {H H' : Hp} {v : V} {xs : List V} (h : SeqAt H v xs) (s : Same H H') : SeqAt H' v xs := by
  obtain ⟨a, e, h⟩ := h
  exact ⟨a, e, h.imp (s a _) (s a _)⟩
def RatsV (C : Addr) (H : Hp) (xs : List V) (f : Nat → Rat) : Prop := ∀ k x, xs[k]? = some x → RatV C H x (f k)
def NumsV (C : Addr) (H : Hp) (xs : List V) (f : Nat → Rat) : Prop := ∀ k x, xs[k]? = some x → NumV C H x (f k)
theorem push_get {α : Type} {ys : List α} {y x : α} {k : Nat} (h : (ys ++ [y])[k]? = some x) : (k < ys.length ∧ ys[k]? = some x) ∨ (k = ys.length ∧ x = y) := by
  rcases Nat.lt_trichotomy k ys.length with e | e | e
  · rw [List.getElem?_append_left e] at h
    exact .inl ⟨e, h⟩
  · subst e
    rw [List.getElem?_append_right (Nat.le_refl _), Nat.sub_self] at h
    cases h
    exact .inr ⟨rfl, rfl⟩
  · rw [List.getElem?_append_right (Nat.le_of_lt e)] at h
    obtain ⟨j, hj⟩ : ∃ j, k - ys.length = j + 1 := ⟨k - ys.length - 1, by omega⟩
    rw [hj] at h
    simp at h
theorem get_lt {α : Type} {xs : List α} {k : Nat} {x : α} (h : xs[k]? = some x) : k < xs.length := (List.getElem?_eq_some_iff.mp h).1
theorem at_get {xs : List V} {k : Nat} {x : V} (h : xs[k]? = some x) : atI xs (0 + (k : Int)) = some x := by
  rw [Int.zero_add]
  exact atI_nat h
section
variable {C : Addr} {H H' : Hp} {xs : List V} {f : Nat → Rat}
theorem RatsV.same (h : RatsV C H xs f) (s : Same H H') : RatsV C H' xs f := fun k x e => (h k x e).same s
theorem NumsV.same (h : NumsV C H xs f) (s : Same H H') : NumsV C H' xs f := fun k x e => (h k x e).same s
theorem RatsV.nums (h : RatsV C H xs f) : NumsV C H xs f := fun k x e => .inr (h k x e)
theorem RatsV.nil : RatsV C H [] f := fun k x h => by simp at h
theorem NumsV.nil : NumsV C H [] f := fun k x h => by simp at h
theorem RatsV.push {d : Addr} {ys : List V} {y : V} {o : HO} (r : RatsV C H xs f) (hd : H d = some (.lst ys)) (hy : RatV C H y (f xs.length)) : RatsV C (upd H d o) (xs ++ [y]) f := fun k x h => by
  rcases push_get h with ⟨_, h1⟩ | ⟨rfl, rfl⟩
  · exact (r k x h1).put hd
  · exact hy.put hd
theorem NumsV.push {d : Addr} {ys : List V} {y : V} {o : HO} (r : NumsV C H xs f) (hd : H d = some (.lst ys)) (hy : NumV C H y (f xs.length)) : NumsV C (upd H d o) (xs ++ [y]) f := fun k x h => by
  rcases push_get h with ⟨_, h1⟩ | ⟨rfl, rfl⟩
  · exact (r k x h1).put hd
  · exact hy.put hd
theorem RatsV.to {g : Nat → Rat} (h : RatsV C H xs f) (e : ∀ k, k < xs.length → f k = g k) : RatsV C H xs g := fun k x hx => e k (get_lt hx) ▸ h k x hx
theorem NumsV.to {g : Nat → Rat} (h : NumsV C H xs f) (e : ∀ k, k < xs.length → f k = g k) : NumsV C H xs g := fun k x hx => e k (get_lt hx) ▸ h k x hx
theorem RatsV.take {s : Nat} (h : RatsV C H xs f) : RatsV C H (xs.take s) f := fun k x e => by
  rw [List.getElem?_take] at e
  split at e
  · exact h k x e
  · cases e
theorem RatsV.keep {x : Addr} {o : HO} (r : RatsV C H xs f) (hx : H x = some o) (ne : ∀ dx z, ratO C dx z ≠ o) (k : ∀ b u, b ≠ x → H b = some u → H' b = some u) : RatsV C H' xs f := fun j y e => (r j y e).keep hx ne k
end
theorem same_push {H1 H : Hp} {d : Addr} {o : HO} (s : Same H1 H) (hd : H1 d = none) : Same H1 (upd H d o) := fun b u h => by
  rw [upd_ne (ne_of_none h hd)]
  exact s _ _ h
theorem upd_but {H : Hp} {a : Addr} {o : HO} : ∀ b u, b ≠ a → H b = some u → upd H a o b = some u := fun b u hb h => by rw [upd_ne hb]; exact h
/-- a list that grows at d, i items so far, Ratios with the values g -/
def Gro (C : Addr) (H : Hp) (d : Addr) (g : Nat → Rat) (i : Nat) (G : Hp) : Prop := Same H G ∧ ∃ zs : List V, zs.length = i ∧ G d = some (.lst zs) ∧ RatsV C G zs g
theorem Gro.start {C : Addr} {H : Hp} {d : Addr} {g : Nat → Rat} (nd : H d = none) : Gro C H d g 0 (upd H d (.lst [])) := ⟨same_upd nd, [], rfl, upd_same, RatsV.nil⟩
theorem Gro.push {C : Addr} {H G G2 : Hp} {d : Addr} {g : Nat → Rat} {i : Nat} {v : V} (p : Gro C H d g i G) (nd : H d = none) (hi : i ≤ 1000) (s : Same G G2) (r : RatV C G2 v (g i)) :
    ∃ acc, G2 d = some (.lst acc) ∧ acc.length < sizeLine ∧ Gro C H d g (i + 1) (upd G2 d (.lst (acc ++ [v]))) := by
  obtain ⟨sm, zs, rfl, hd, hr⟩ := p
  have hd2 := s _ _ hd
  exact ⟨zs, hd2, small1000 hi, same_push (sm.trans s) nd, zs ++ [v], by rw [List.length_append]; rfl, upd_same, (hr.same s).push hd2 r⟩
/-- a list of ints that grows -/
def GroI (H : Hp) (d : Addr) (g : Nat → Int) (i : Nat) (G : Hp) : Prop := Same H G ∧ G d = some (.lst (((List.range i).map g).map V.int))
theorem GroI.start {H : Hp} {d : Addr} {g : Nat → Int} (nd : H d = none) : GroI H d g 0 (upd H d (.lst [])) := ⟨same_upd nd, upd_same⟩
theorem GroI.push {H G G2 : Hp} {d : Addr} {g : Nat → Int} {i : Nat} (p : GroI H d g i G) (nd : H d = none) (hi : i ≤ 1000) (s : Same G G2) :
    ∃ acc, G2 d = some (.lst acc) ∧ acc.length < sizeLine ∧ GroI H d g (i + 1) (upd G2 d (.lst (acc ++ [V.int (g i)]))) := by
  obtain ⟨sm, hd⟩ := p
  have hd2 := s _ _ hd
  refine ⟨_, hd2, by rw [List.length_map, List.length_map, List.length_range]; exact small1000 hi, same_push (sm.trans s) nd, ?_⟩
  rw [upd_same, List.range_succ, List.map_append, List.map_append]
  rfl
/-- the first n values of g as a list on the heap -/
abbrev intsO (g : Nat → Int) (n : Nat) : HO := .lst (((List.range n).map g).map V.int)
theorem ints_at {g : Nat → Int} {n k : Nat} (h : k < n) : (((List.range n).map g).map V.int)[k]? = some (V.int (g k)) := by
  rw [List.getElem?_map, List.getElem?_map, List.getElem?_range h]
  rfl
theorem ints_len {g : Nat → Int} {n : Nat} : (((List.range n).map g).map V.int).length = n := by
  rw [List.length_map, List.length_map, List.length_range]
theorem ints_get {g : Nat → Int} {n k : Nat} (h : k < n) : atI (((List.range n).map g).map V.int) (0 + (k : Int)) = some (V.int (g k)) := at_get (ints_at h)
end MoL

/-! # Walks over a list or a tuple, the law's feed, lists of pairs -/
namespace MoL
open PySem PySem.Spec PyProof.Rows L2 MoW
section
variable {K : PySem.W.Frag}
theorem kit_seq {K : PySem.W.Frag} {H : Hp} {a : Addr} {xs : List V} (h : H a = some (.lst xs) ∨ H a = some (.tup xs)) : ∃ t, TyX K H (.ref a) t ∧ PySem.W.kitAny K t [.type "list", .type "tuple"] = some true := by
  rcases h with h | h
  · exact ⟨_, .base (.lst h), kitAny_cons (b := true) (kit_ty (by decide +kernel)) (fun z => nomatch z) fun _ => rfl⟩
  · exact ⟨_, .base (.tup h), kitAny_cons (b := false) (kit_ty (by decide +kernel)) (fun _ => kitAny_cons (b := true) (kit_ty (by decide +kernel)) (fun z => nomatch z) fun _ => rfl) (fun z => nomatch z)⟩
/-! ### walks over a list or a tuple -/
theorem for_seq {tl tl' : TE} {a : Addr} {xs : List V} {g : TG} {tb : TS} {D : Ends} {σ : L2.St} {H : Hp} (ha : H a = some (.lst xs) ∨ H a = some (.tup xs)) (h1 : ∀ R : VK, R (.ref a) H → tl σ H R) (h2 : ∀ R : VK, R (.ref a) H → tl' σ H R)
    (Pv : Nat → L2.St → Hp → Prop) (h0 : Pv 0 σ H) (hk : ∀ (i : Nat) (σ : L2.St) (G : Hp), i ≤ xs.length → Pv i σ G → Same H G)
    (step : ∀ (i : Nat) (x : V) (σ : L2.St) (G : Hp), xs[i]? = some x → Pv i σ G → g x σ G fun σ2 H2 => tb { nx := Pv (i + 1), rt := D.rt, bk := D.nx, ct := Pv (i + 1) } σ2 H2)
    (done : ∀ (σ : L2.St) (G : Hp), Pv xs.length σ G → D.nx σ G) : tFor (fun σ H R => iList K tl σ H R ∨ iTup K tl' σ H R) g tb D σ H := by
  rcases ha with h | h
  · exact .inl (h1 _ ⟨a, rfl, ⟨xs, .of h⟩, for_list Pv h0 (fun i σ G hi p => .of (hk i σ G hi p _ _ h)) step done⟩)
  · exact .inr (h2 _ ⟨a, rfl, ⟨xs, .of h⟩, for_tup Pv h0 (fun i σ G hi p => .of (hk i σ G hi p _ _ h)) step done⟩)
/-- what a comprehension asks of a walk -/
abbrev lcR (g : TG) (tt : TT) (te : TE) (vs : List Nat) (σ : L2.St) (Qd : Addr → Hp → Prop) : It → Hp → Prop := fun J H1 => ∀ (D : Addr), H1 D = none → ∃ W : Nat → Nat → Hp → Prop, (∃ m, W 0 m (upd H1 D (.lst []))) ∧ ∀ (i m : Nat) (H : Hp), W i m H →
  J.stop i H ∧ Qd D H ∨ J.go i H ∧ ∃ Nx : Hp → Prop, (∀ H' : Hp, Nx H' → ∃ m', m' < m ∧ W (i + 1) m' H') ∧ ∀ (x : V) (H' : Hp), J.yld i H x H' → g x (wipe σ vs) H' fun σ2 H2 => wipe σ2 vs = wipe σ vs ∧ tt σ2 H2 fun b H3 => if b = true then te σ2 H3 fun y H4 => ∃ acc, H4 D = some (.lst acc) ∧ acc.length < sizeLine ∧ Nx (upd H4 D (.lst (acc ++ [y]))) else Nx H3
theorem lc_seq {tl tl' : TE} {a : Addr} {xs : List V} {g : TG} {tt : TT} {te : TE} {vs : List Nat} {σ : L2.St} {H : Hp} {Qd : Addr → Hp → Prop} (ha : H a = some (.lst xs) ∨ H a = some (.tup xs)) (h1 : ∀ R : VK, R (.ref a) H → tl σ H R) (h2 : ∀ R : VK, R (.ref a) H → tl' σ H R)
    (Pv : Addr → Nat → Hp → Prop) (h0 : ∀ D, H D = none → Pv D 0 (upd H D (.lst []))) (hk : ∀ (D : Addr) (i : Nat) (G : Hp), i ≤ xs.length → Pv D i G → Same H G)
    (step : ∀ (D : Addr) (i : Nat) (x : V) (G : Hp), H D = none → xs[i]? = some x → Pv D i G → g x (wipe σ vs) G fun σ2 H2 => wipe σ2 vs = wipe σ vs ∧ tt σ2 H2 fun b H3 => if b = true then te σ2 H3 fun y H4 => ∃ acc, H4 D = some (.lst acc) ∧ acc.length < sizeLine ∧ Pv D (i + 1) (upd H4 D (.lst (acc ++ [y]))) else Pv D (i + 1) H3)
    (done : ∀ (D : Addr) (G : Hp), H D = none → Pv D xs.length G → Qd D G) : iList K tl σ H (lcR g tt te vs σ Qd) ∨ iTup K tl' σ H (lcR g tt te vs σ Qd) := by
  rcases ha with h | h
  · exact .inl (h1 _ ⟨a, rfl, ⟨xs, .of h⟩, fun D nd => lc_list (Pv D) (h0 D nd) (fun i G hi p => .of (hk D i G hi p _ _ h)) (fun i x G hx p => step D i x G nd hx p) (fun G p => done D G nd p)⟩)
  · exact .inr (h2 _ ⟨a, rfl, ⟨xs, .of h⟩, fun D nd => lc_tup (Pv D) (h0 D nd) (fun i G hi p => .of (hk D i G hi p _ _ h)) (fun i x G hx p => step D i x G nd hx p) (fun G p => done D G nd p)⟩)
theorem cut_drop (xs : List V) (k : Nat) (h : k ≤ xs.length) : cutV xs (some (k : Int)) none = xs.drop k := by
  unfold cutV
  have e1 : HT.sIx xs.length xs.length none = xs.length := rfl
  have e2 : HT.sIx xs.length 0 (some (k : Int)) = k := by
    show (if (k : Int) < 0 then ((k : Int) + (xs.length : Int)).toNat else min (k : Int).toNat xs.length) = _
    rw [if_neg (by omega)]
    omega
  rw [e1, e2]
  exact List.take_of_length_le (by rw [List.length_drop]; omega)
theorem rep_flat {x : V} : ∀ n : Nat, (List.replicate n [x]).flatten = List.replicate n x
  | 0 => rfl
  | n + 1 => by rw [List.replicate_succ, List.flatten_cons, rep_flat n, List.replicate_succ]; rfl
/-! ### the law's drawing of numbers -/
/-- the six places of the feed at f -/
abbrev six (l : Addr) (i r t n s : Int) : HO := .lst [.ref l, .int i, .int r, .int t, .int n, .int s]
def FeedAt (H : Hp) (f : Addr) : Prop := ∃ (l : Addr) (xs : List Int) (i : Nat) (r t n s : Int), H f = some (six l i r t n s) ∧ H l = some (.lst (xs.map V.int)) ∧ i ≤ xs.length ∧ xs.length ≤ 63 ∧ 0 ≤ r
/-- from H to H' only the feed has moved on, and new things have come -/
structure Stp (f : Addr) (H H' : Hp) : Prop where
  feed : FeedAt H' f
  keep : ∀ b o, b ≠ f → H b = some o → H' b = some o
  ls : ∀ l i r t n s, H f = some (six l i r t n s) → ∃ i' r' t' n' s', H' f = some (six l i' r' t' n' s')
theorem FeedAt.same {H H' : Hp} {f : Addr} (h : FeedAt H f) (s : Same H H') : FeedAt H' f := by
  obtain ⟨l, xs, i, r, t, n, z, h1, h2, h3⟩ := h
  exact ⟨l, xs, i, r, t, n, z, s _ _ h1, s _ _ h2, h3⟩
theorem Stp.refl {H : Hp} {f : Addr} (h : FeedAt H f) : Stp f H H := ⟨h, fun _ _ _ e => e, fun _ _ _ _ _ _ e => ⟨_, _, _, _, _, e⟩⟩
theorem Stp.trans {H H1 H2 : Hp} {f : Addr} (a : Stp f H H1) (b : Stp f H1 H2) : Stp f H H2 := ⟨b.feed, fun c o n e => b.keep c o n (a.keep c o n e), fun _ _ _ _ _ _ e => let ⟨_, _, _, _, _, e1⟩ := a.ls _ _ _ _ _ _ e; b.ls _ _ _ _ _ _ e1⟩
theorem Stp.of {H H1 H2 : Hp} {f : Addr} (a : Stp f H H1) (b : Same H1 H2) : Stp f H H2 := ⟨a.feed.same b, fun c o n e => b c o (a.keep c o n e), fun _ _ _ _ _ _ e => let ⟨i', r', t', n', s', e1⟩ := a.ls _ _ _ _ _ _ e; ⟨i', r', t', n', s', b _ _ e1⟩⟩
theorem FeedAt.ne {H : Hp} {f p : Addr} {o : HO} (h : FeedAt H f) (hp : H p = some o) (d : ∀ l i r t n s, six l i r t n s ≠ o) : p ≠ f := by
  obtain ⟨l, xs, i, r, t, n, z, h1, _⟩ := h
  exact ne_of hp h1 fun e => d _ _ _ _ _ _ e.symm
theorem FeedAt.lt {H : Hp} {f p : Addr} (h : FeedAt H f) (hp : H p = none) : f ≠ p := by
  obtain ⟨l, xs, i, r, t, n, z, h1, _⟩ := h
  exact ne_of_none h1 hp

theorem stp_none {H H1 : Hp} {f p : Addr} (st : Stp f H H1) (ne : p ≠ f) (h : H1 p = none) : H p = none := by
  cases e : H p with
  | none => rfl
  | some o => rw [st.keep p o ne e] at h; cases h
theorem Stp.push {H G : Hp} {f d : Addr} {o : HO} (st : Stp f H G) (F : FeedAt H f) (hd : H d = none) (hf : d ≠ f) : Stp f H (upd G d o) := by
  obtain ⟨l0, xs0, i0, r0, t0, n0, z0, e1, e2, _⟩ := F
  obtain ⟨i', r', t', n', s', e3⟩ := st.ls _ _ _ _ _ _ e1
  obtain ⟨l, xs, i, r, t, n, z, h1, h2, h3⟩ := st.feed
  rw [e3] at h1
  have el : l0 = l := by
    have := HO.lst.inj (Option.some.inj h1)
    cases this
    rfl
  subst el
  have dl : l0 ≠ d := fun z => by rw [z, hd] at e2; cases e2
  refine ⟨⟨l0, xs, i, r, t, n, z, ?_, ?_, h3⟩, fun b u hb e => ?_, fun l i r t n s e => ?_⟩
  · rw [upd_ne (Ne.symm hf), e3]
    exact h1
  · rw [upd_ne dl]
    exact h2
  · have : b ≠ d := fun z => by rw [z, hd] at e; cases e
    rw [upd_ne this]
    exact st.keep b u hb e
  · obtain ⟨i2, r2, t2, n2, s2, e4⟩ := st.ls _ _ _ _ _ _ e
    exact ⟨i2, r2, t2, n2, s2, by rw [upd_ne (Ne.symm hf)]; exact e4⟩
/-- the feed at f with these five, the rest as in H -/
structure Now (H H' : Hp) (f l : Addr) (i r t n s : Int) : Prop where
  at_ : H' f = some (six l i r t n s)
  oth : ∀ b, b ≠ f → H' b = H b
theorem Now.put {H H' : Hp} {f l : Addr} {i r t n s i' r' t' n' s' : Int} (h : Now H H' f l i r t n s) : Now H (upd H' f (six l i' r' t' n' s')) f l i' r' t' n' s' :=
  ⟨upd_same, fun b hb => by rw [upd_ne hb]; exact h.oth b hb⟩
theorem fdiv_nn {a b : Int} (h : 0 ≤ a) (h' : 0 < b) : 0 ≤ a.fdiv b := by
  rw [Int.fdiv_eq_ediv_of_nonneg a (by omega)]
  exact Int.ediv_nonneg h (by omega)
theorem lt_mod : (0 : Int) < 2147483647 := by decide
theorem lt_mod' : (0 : Int) < 2147483399 := by decide
/-! ### pairs, rows -/
abbrev two (x y : Int) : HO := .lst [.int x, .int y]
/-- these lists hold the pairs F 0, F 1, .. -/
def Prsd (H : Hp) (rs : List Addr) (F : Nat → Int × Int) : Prop := ∀ k r, rs[k]? = some r → H r = some (two (F k).1 (F k).2)
def PairsAt (H : Hp) (v : V) (n : Nat) (F : Nat → Int × Int) : Prop := ∃ a rs, v = .ref a ∧ H a = some (.lst (rs.map V.ref)) ∧ rs.length = n ∧ Prsd H rs F
theorem Prsd.same {H H' : Hp} {rs : List Addr} {F : Nat → Int × Int} (h : Prsd H rs F) (s : Same H H') : Prsd H' rs F := fun k r e => s _ _ (h k r e)
theorem PairsAt.same {H H' : Hp} {v : V} {n : Nat} {F : Nat → Int × Int} (h : PairsAt H v n F) (s : Same H H') : PairsAt H' v n F := by
  obtain ⟨a, rs, e, h, l, p⟩ := h
  exact ⟨a, rs, e, s _ _ h, l, p.same s⟩
theorem Prsd.nil {H : Hp} {F : Nat → Int × Int} : Prsd H [] F := fun k r h => by simp at h
theorem Prsd.push {H : Hp} {d r : Addr} {rs : List Addr} {F : Nat → Int × Int} {zs : List V} (h : Prsd H rs F) (hr : H r = some (two (F rs.length).1 (F rs.length).2)) (hd : H d = some (.lst (rs.map V.ref))) : Prsd (upd H d (.lst zs)) (rs ++ [r]) F := by
  have ne : ∀ {k : Nat} {x : Addr}, H x = some (two (F k).1 (F k).2) → x ≠ d := fun {k x} hx z => by
    rw [z, hd] at hx
    cases rs with
    | nil => cases hx
    | cons a rs => cases hx
  intro k x hx
  rcases push_get hx with ⟨_, h1⟩ | ⟨rfl, rfl⟩
  · rw [upd_ne (ne (h k x h1))]
    exact h k x h1
  · rw [upd_ne (ne hr)]
    exact hr
theorem pr_get {rs : List Addr} {k : Nat} (h : k < rs.length) : ∃ r, rs[k]? = some r ∧ (rs.map V.ref)[k]? = some (.ref r) := by
  refine ⟨rs[k], List.getElem?_eq_getElem h, ?_⟩
  rw [List.getElem?_map, List.getElem?_eq_getElem h]
  rfl
theorem PairsAt.stp {G G' : Hp} {f : Addr} {v : V} {n : Nat} {F : Nat → Int × Int} (h : PairsAt G v n F) (hF : FeedAt G f) (s : Stp f G G') : PairsAt G' v n F := by
  obtain ⟨a, rs, e, h1, l, p⟩ := h
  refine ⟨a, rs, e, s.keep _ _ (hF.ne h1 fun l i r t n s z => ?_) h1, l, fun k r e => s.keep _ _ (hF.ne (p k r e) fun _ _ _ _ _ _ w => by cases w) (p k r e)⟩
  cases rs with
  | nil => cases z
  | cons x rs =>
    cases rs with
    | nil => cases z
    | cons y rs => cases z
theorem Prsd.stp {G G' : Hp} {f : Addr} {rs : List Addr} {F : Nat → Int × Int} (h : Prsd G rs F) (hF : FeedAt G f) (s : Stp f G G') : Prsd G' rs F := fun k r e => s.keep _ _ (hF.ne (h k r e) fun _ _ _ _ _ _ w => by cases w) (h k r e)
/-- the pairs of a list, (0, 1) behind it -/
def LF (L : List (Int × Int)) : Nat → Int × Int := fun k => L.getD k (0, 1)
def Drw (n m : Nat) (L : List (Int × Int)) : Prop := ∀ x ∈ L, 0 < x.2 ∧ x.1.natAbs < 2 ^ n ∧ x.2.natAbs < 2 ^ m
theorem LF_in {L : List (Int × Int)} {k : Nat} (h : k < L.length) : LF L k = L[k] := by
  show L.getD k (0, 1) = _
  rw [List.getD_eq_getElem?_getD, List.getElem?_eq_getElem h]
  rfl
theorem LF_out {L : List (Int × Int)} {k : Nat} (h : L.length ≤ k) : LF L k = (0, 1) := by
  show L.getD k (0, 1) = _
  rw [List.getD_eq_getElem?_getD, List.getElem?_eq_none h]
  rfl
theorem LF_ok {n m : Nat} {L : List (Int × Int)} (h : Drw n m L) (hm : 1 ≤ m) (k : Nat) : 0 < (LF L k).2 ∧ (LF L k).1.natAbs < 2 ^ n ∧ (LF L k).2.natAbs < 2 ^ m := by
  rcases Nat.lt_or_ge k L.length with e | e
  · rw [LF_in e]
    exact h _ (List.getElem_mem e)
  · rw [LF_out e]
    exact ⟨by decide, Nat.two_pow_pos _, Nat.one_lt_two_pow (by omega)⟩
theorem LF_app {L : List (Int × Int)} {x : Int × Int} {k : Nat} (h : k < L.length) : LF (L ++ [x]) k = LF L k := by
  rw [LF_in h, LF_in (show k < (L ++ [x]).length by rw [List.length_append]; omega), List.getElem_append_left h]
theorem LF_last {L : List (Int × Int)} {x : Int × Int} : LF (L ++ [x]) L.length = x := by
  rw [LF_in (show L.length < (L ++ [x]).length by rw [List.length_append]; show L.length < L.length + 1; omega), List.getElem_append_right (Nat.le_refl _)]
  simp
theorem Prsd.app {H : Hp} {rs : List Addr} {L : List (Int × Int)} {x : Int × Int} (h : Prsd H rs (LF L)) (hl : rs.length ≤ L.length) : Prsd H rs (LF (L ++ [x])) := fun k r e => by
  have := (List.getElem?_eq_some_iff.mp e).1
  rw [LF_app (by omega)]
  exact h k r e
theorem Drw.app {n m : Nat} {L : List (Int × Int)} {x : Int × Int} (h : Drw n m L) (hx : 0 < x.2 ∧ x.1.natAbs < 2 ^ n ∧ x.2.natAbs < 2 ^ m) : Drw n m (L ++ [x]) := fun y hy => by
  rcases List.mem_append.mp hy with e | e
  · exact h y e
  · cases List.mem_singleton.mp e
    exact hx

theorem RatV.stp {C : Addr} {G G' : Hp} {f : Addr} {v : V} {z : Rat} (F : FeedAt G f) (s : Stp f G G') (r : RatV C G v z) : RatV C G' v z := by
  obtain ⟨a, dx, e, h⟩ := r
  exact ⟨a, dx, e, s.keep _ _ (F.ne h fun _ _ _ _ _ _ w => by cases w) h⟩
theorem NumV.stp {C : Addr} {G G' : Hp} {f : Addr} {v : V} {z : Rat} (F : FeedAt G f) (s : Stp f G G') (r : NumV C G v z) : NumV C G' v z := r.imp id fun r => r.stp F s
theorem RatsV.stp {C : Addr} {G G' : Hp} {f : Addr} {xs : List V} {g : Nat → Rat} (h : RatsV C G xs g) (F : FeedAt G f) (s : Stp f G G') : RatsV C G' xs g := fun k x e => (h k x e).stp F s
theorem NumsV.stp {C : Addr} {G G' : Hp} {f : Addr} {xs : List V} {g : Nat → Rat} (h : NumsV C G xs g) (F : FeedAt G f) (s : Stp f G G') : NumsV C G' xs g := fun k x e => (h k x e).stp F s
theorem rats_ne {C : Addr} {G : Hp} {f d : Addr} {xs : List V} {g : Nat → Rat} (h : RatsV C G xs g) (hF : FeedAt G f) (hd : G d = some (.lst xs)) : d ≠ f := hF.ne hd fun l i r t n s z => by
  have e := HO.lst.inj z
  subst e
  obtain ⟨a, dx, fs, e, _⟩ := (h 1 (.int i) rfl).ins
  cases e
end
end MoL

/-! # while by a number that rises, quotients, the last item -/
namespace MoL
open PySem PySem.Spec PyProof.Rows L2 MoW
theorem over_q {x y : Rat} (h : y ≠ 0) : (x / y) * (((x.den : Int) * y.num : Int) : Rat) = ((x.num * (y.den : Int) : Int) : Rat) := by
  rw [Rat.intCast_mul, Rat.intCast_mul, num_is, num_is]
  grind
theorem Bd.over {n m n' m' : Nat} {x y : Rat} (h : y ≠ 0) (a : Bd n m x) (b : Bd n' m' y) : Bd (n + m') (m + n') (x / y) :=
  .of (Int.mul_ne_zero (by have := den_pos x; omega) (num_ne h)) (over_q h) (nmul a.top b.d) (nmul a.d b.top)
abbrev upW (n : Nat) (Pv : Nat → L2.St → Hp → Prop) : Nat → L2.St → Hp → Prop := fun m σ H => ∃ j, m = n - j ∧ j ≤ n ∧ Pv j σ H
theorem while_up {c : TT} {tb : TS} {E : Ends} {σ : L2.St} {H : Hp} (n : Nat) (Pv : Nat → L2.St → Hp → Prop) (h0 : Pv 0 σ H)
    (hs : ∀ j σ H, j ≤ n → Pv j σ H → c σ H fun b H1 => if b = true then ∃ N : L2.St → Hp → Prop, (∀ σ' H', N σ' H' → ∃ m', m' < n - j ∧ upW n Pv m' σ' H') ∧ tb { E with nx := N, ct := N, bk := E.nx } σ H1 else E.nx σ H1) : tWhile c tb E σ H := by
  refine ⟨upW n Pv, ⟨n, 0, rfl, Nat.zero_le _, h0⟩, ?_⟩
  rintro m σ H ⟨j, rfl, hj, p⟩
  exact hs j σ H hj p
theorem up_next {n j : Nat} {Pv : Nat → L2.St → Hp → Prop} (h : j < n) : ∀ σ' H', Pv (j + 1) σ' H' → ∃ m', m' < n - j ∧ upW n Pv m' σ' H' := fun σ' H' p => ⟨n - (j + 1), by omega, j + 1, rfl, h, p⟩
theorem RatsV.upd {C : Addr} {H : Hp} {ys zs : List V} {f : Nat → Rat} {d : Addr} {o : HO} (h : RatsV C H ys f) (hd : H d = some (.lst zs)) : RatsV C (upd H d o) ys f := fun k x e => (h k x e).put hd
theorem at_last {xs : List V} {j : Nat} {v : V} (h : xs.length = j + 1) (hx : xs[j]? = some v) : atI xs (-1) = some v := by
  have e : ixN xs.length (-1) = some j := by
    unfold ixN
    rw [h, if_neg (by decide), if_pos (by omega)]
    congr 1
    omega
  unfold atI
  rw [e]
  exact hx
end MoL

/-! # Finite sums of fractions, rows of lots, tuples of two ints -/
namespace MoL
open PySem PySem.Spec PyProof.Rows L2 MoW
def sumR (f : Nat → Rat) : Nat → Rat
  | 0 => 0
  | n + 1 => sumR f n + f n
section
variable {f g : Nat → Rat} {n m : Nat}
theorem sumR_congr : ∀ {n : Nat}, (∀ k, k < n → f k = g k) → sumR f n = sumR g n
  | 0, _ => rfl
  | n + 1, h => by
    show sumR f n + f n = sumR g n + g n
    rw [sumR_congr (n := n) fun k hk => h k (by omega), h n (by omega)]
theorem sumR_add : ∀ n, sumR (fun k => f k + g k) n = sumR f n + sumR g n
  | 0 => by show (0 : Rat) = 0 + 0; grind
  | n + 1 => by
    show sumR (fun k => f k + g k) n + (f n + g n) = sumR f n + f n + (sumR g n + g n)
    rw [sumR_add n]
    grind
theorem sumR_sub : ∀ n, sumR (fun k => f k - g k) n = sumR f n - sumR g n
  | 0 => by show (0 : Rat) = 0 - 0; grind
  | n + 1 => by
    show sumR (fun k => f k - g k) n + (f n - g n) = sumR f n + f n - (sumR g n + g n)
    rw [sumR_sub n]
    grind
theorem sumR_mul (c : Rat) : ∀ n, sumR (fun k => c * f k) n = c * sumR f n
  | 0 => by show (0 : Rat) = c * 0; grind
  | n + 1 => by
    show sumR (fun k => c * f k) n + c * f n = c * (sumR f n + f n)
    rw [sumR_mul c n]
    grind
theorem sumR_mulr (c : Rat) : ∀ n, sumR (fun k => f k * c) n = sumR f n * c
  | 0 => by show (0 : Rat) = 0 * c; grind
  | n + 1 => by
    show sumR (fun k => f k * c) n + f n * c = (sumR f n + f n) * c
    rw [sumR_mulr c n]
    grind
theorem sumR_zero : ∀ {n : Nat}, (∀ k, k < n → f k = 0) → sumR f n = 0
  | 0, _ => rfl
  | n + 1, h => by
    show sumR f n + f n = 0
    rw [sumR_zero (n := n) fun k hk => h k (by omega), h n (by omega)]
    grind
theorem sumR_head : ∀ n, sumR f (n + 1) = f 0 + sumR (fun k => f (k + 1)) n
  | 0 => by show (0 : Rat) + f 0 = f 0 + 0; grind
  | n + 1 => by
    show sumR f (n + 1) + f (n + 1) = f 0 + (sumR (fun k => f (k + 1)) n + f (n + 1))
    rw [sumR_head n]
    grind
theorem sumR_more : ∀ (d : Nat), (∀ k, n ≤ k → k < n + d → f k = 0) → sumR f (n + d) = sumR f n
  | 0, _ => rfl
  | d + 1, h => by
    show sumR f (n + d) + f (n + d) = sumR f n
    rw [sumR_more d fun k h1 h2 => h k h1 (by omega), h (n + d) (by omega) (by omega)]
    grind
theorem sumR_swap (F : Nat → Nat → Rat) : ∀ n, sumR (fun i => sumR (F i) m) n = sumR (fun j => sumR (fun i => F i j) n) m
  | 0 => (sumR_zero fun _ _ => rfl).symm
  | n + 1 => by
    show sumR (fun i => sumR (F i) m) n + sumR (F n) m = sumR (fun j => sumR (fun i => F i j) n + F n j) m
    rw [sumR_swap F n, ← sumR_add]
theorem sumR_nonneg : ∀ {n : Nat}, (∀ k, k < n → 0 ≤ f k) → 0 ≤ sumR f n
  | 0, _ => Rat.le_refl
  | n + 1, h => Rat.add_nonneg (sumR_nonneg fun k hk => h k (by omega)) (h n (by omega))
end
/-- a sum of ints, as fractions -/
theorem sum_R : ∀ (xs : List Int), ((xs.sum : Int) : Rat) = sumR (fun k => ((xs.getD k 0 : Int) : Rat)) xs.length
  | [] => rfl
  | x :: xs => by
    rw [List.sum_cons, Rat.intCast_add, List.length_cons, sumR_head, sum_R xs]
    rfl
theorem pow_mul_R (x y : Rat) : ∀ n : Nat, (x * y) ^ n = x ^ n * y ^ n
  | 0 => by rw [Rat.pow_zero, Rat.pow_zero, Rat.pow_zero]; grind
  | n + 1 => by rw [Rat.pow_succ, Rat.pow_succ, Rat.pow_succ, pow_mul_R x y n]; grind
theorem pow_ne_R {x : Rat} (h : x ≠ 0) : ∀ n : Nat, x ^ n ≠ 0
  | 0 => by rw [Rat.pow_zero]; decide
  | n + 1 => by
    rw [Rat.pow_succ]
    intro z
    have := pow_ne_R h n
    grind
theorem div_pow_R {x y : Rat} (h : y ≠ 0) (n : Nat) : (x / y) ^ n * y ^ n = x ^ n := by
  rw [← pow_mul_R]
  congr 1
  grind
/-! ### means of rows of lots -/
/-- the row of the points x with the weights w -/
def lotF (w x : Nat → Rat) (n : Nat) (k : Nat) : Rat := sumR (fun j => w j * x j ^ k) n
/-- differences of neighbours, k times -/
def dfF (f : Nat → Rat) : Nat → Nat → Rat
  | 0, i => f i
  | k + 1, i => dfF f k i - dfF f k (i + 1)
theorem dfF_congr {f g : Nat → Rat} : ∀ (k i : Nat), (∀ j, i ≤ j → j ≤ i + k → f j = g j) → dfF f k i = dfF g k i
  | 0, i, h => h i (Nat.le_refl _) (Nat.le_refl _)
  | k + 1, i, h => by
    show dfF f k i - dfF f k (i + 1) = dfF g k i - dfF g k (i + 1)
    rw [dfF_congr k i fun j h1 h2 => h j h1 (by omega), dfF_congr k (i + 1) fun j h1 h2 => h j (by omega) (by omega)]
theorem dfF_lot (w x : Nat → Rat) (n : Nat) : ∀ k i, dfF (lotF w x n) k i = sumR (fun j => w j * x j ^ i * (1 - x j) ^ k) n
  | 0, i => sumR_congr fun j _ => by rw [Rat.pow_zero]; grind
  | k + 1, i => by
    show dfF (lotF w x n) k i - dfF (lotF w x n) k (i + 1) = _
    rw [dfF_lot w x n k i, dfF_lot w x n k (i + 1), ← sumR_sub]
    refine sumR_congr fun j _ => ?_
    rw [Rat.pow_succ, Rat.pow_succ]
    grind
theorem dfF_nonneg {w x : Nat → Rat} {n : Nat} (hw : ∀ j, j < n → 0 ≤ w j) (hx : ∀ j, j < n → 0 ≤ x j ∧ x j ≤ 1) (k i : Nat) : 0 ≤ dfF (lotF w x n) k i := by
  rw [dfF_lot]
  refine sumR_nonneg fun j hj => Rat.mul_nonneg (Rat.mul_nonneg (hw j hj) (Rat.pow_nonneg (hx j hj).1)) (Rat.pow_nonneg ?_)
  have := (hx j hj).2
  grind
/-- in turn j: the means of (x + c) ** j * x ** k -/
def mvL (f : Nat → Rat) (c : Rat) : Nat → Nat → Rat
  | 0, k => f k
  | j + 1, k => mvL f c j (k + 1) + mvL f c j k * c
def mvF (f : Nat → Rat) (c : Rat) (j : Nat) : Rat := mvL f c j 0
theorem mvL_congr {f g : Nat → Rat} {c : Rat} : ∀ (j k : Nat), (∀ i, k ≤ i → i ≤ k + j → f i = g i) → mvL f c j k = mvL g c j k
  | 0, k, h => h k (Nat.le_refl _) (Nat.le_refl _)
  | j + 1, k, h => by
    show mvL f c j (k + 1) + mvL f c j k * c = mvL g c j (k + 1) + mvL g c j k * c
    rw [mvL_congr j k fun i h1 h2 => h i h1 (by omega), mvL_congr j (k + 1) fun i h1 h2 => h i (by omega) (by omega)]
theorem mvF_congr {f g : Nat → Rat} {c : Rat} (j : Nat) (h : ∀ i, i ≤ j → f i = g i) : mvF f c j = mvF g c j := mvL_congr j 0 fun i _ h2 => h i (by omega)
theorem mvL_lot (w x : Nat → Rat) (n : Nat) (c : Rat) : ∀ j k, mvL (lotF w x n) c j k = sumR (fun i => w i * (x i + c) ^ j * x i ^ k) n
  | 0, k => sumR_congr fun i _ => by rw [Rat.pow_zero]; grind
  | j + 1, k => by
    show mvL (lotF w x n) c j (k + 1) + mvL (lotF w x n) c j k * c = _
    rw [mvL_lot w x n c j k, mvL_lot w x n c j (k + 1), ← sumR_mulr, ← sumR_add]
    refine sumR_congr fun i _ => ?_
    rw [Rat.pow_succ, Rat.pow_succ]
    grind
theorem mvF_lot (w x : Nat → Rat) (n : Nat) (c : Rat) (j : Nat) : mvF (lotF w x n) c j = lotF w (fun i => x i + c) n j := by
  show mvL _ _ j 0 = _
  rw [mvL_lot]
  exact sumR_congr fun i _ => by rw [Rat.pow_zero]; grind
theorem mv_step {a b : Int} {x y B c : Rat} (h1 : (a : Rat) = x * B) (h2 : (b : Rat) = y * B) : ((a * (c.den : Int) + b * c.num : Int) : Rat) = (x + y * c) * (B * ((c.den : Int) : Rat)) := by
  rw [Rat.intCast_add, Rat.intCast_mul, Rat.intCast_mul, h1, h2, num_is]
  grind
/-! ### the sums of powers of ints -/
/-- the weights times the k-th powers of the points -/
def powl (ts ps : List Int) (k : Nat) : List Int := List.zipWith (fun p t => p * t ^ k) ps ts
theorem powl_len {ts ps : List Int} (hl : ts.length = ps.length) (k : Nat) : (powl ts ps k).length = ts.length := by
  show (List.zipWith _ _ _).length = _
  rw [List.length_zipWith]
  omega
theorem powl_get {ts ps : List Int} (hl : ts.length = ps.length) {k j : Nat} (hj : j < ts.length) : (powl ts ps k)[j]? = some (ps.getD j 0 * ts.getD j 0 ^ k) := by
  show (List.zipWith _ _ _)[j]? = _
  rw [List.getElem?_zipWith, List.getD_eq_getElem?_getD, List.getD_eq_getElem?_getD, List.getElem?_eq_getElem hj, List.getElem?_eq_getElem (show j < ps.length by omega)]
  rfl
theorem powl_zero {ts ps : List Int} (hl : ts.length = ps.length) : powl ts ps 0 = ps := by
  refine List.ext_getElem? fun j => ?_
  by_cases hj : j < ts.length
  · rw [powl_get hl hj, Int.pow_zero, Int.mul_one, List.getD_eq_getElem?_getD, List.getElem?_eq_getElem (show j < ps.length by omega)]
    rfl
  · rw [List.getElem?_eq_none (by rw [powl_len hl]; omega), List.getElem?_eq_none (by omega)]
theorem lot_ring (p t c d : Rat) (hd : d ≠ 0) : p / d * t * (d * c) = p * (t * c) := by grind
theorem powl_lot {ts ps : List Int} (hl : ts.length = ps.length) {u b : Int} (hu : u ≠ 0) (hb : b ≠ 0) (k : Nat) :
    qv ((powl ts ps k).sum, u * b ^ k) = lotF (fun j => ((ps.getD j 0 : Int) : Rat) / (u : Rat)) (fun j => ((ts.getD j 0 : Int) : Rat) / (b : Rat)) ts.length k := by
  have hq : u * b ^ k ≠ 0 := Int.mul_ne_zero hu (Int.pow_ne_zero hb)
  refine div_eq hq ?_
  show lotF _ _ _ k * ((u * b ^ k : Int) : Rat) = _
  rw [sum_R, powl_len hl, Rat.intCast_mul, Rat.intCast_pow]
  show sumR _ _ * _ = _
  rw [← sumR_mulr]
  refine sumR_congr fun j hj => ?_
  have e : (powl ts ps k).getD j 0 = ps.getD j 0 * ts.getD j 0 ^ k := by
    rw [List.getD_eq_getElem?_getD, powl_get hl hj]
    rfl
  have hu' := ine u hu
  have hb' := ine b hb
  have h3 := div_pow_R (x := ((ts.getD j 0 : Int) : Rat)) hb' k
  rw [e, Rat.intCast_mul, Rat.intCast_pow, ← h3]
  exact lot_ring _ _ _ _ hu'
/-! ### tuples of two ints -/
abbrev tup2 (x y : Int) : HO := .tup [.int x, .int y]
/-- these tuples hold the pairs F 0, F 1, .. -/
def Tups (H : Hp) (rs : List Addr) (F : Nat → Int × Int) : Prop := ∀ k r, rs[k]? = some r → H r = some (tup2 (F k).1 (F k).2)
def TupsAt (H : Hp) (v : V) (n : Nat) (F : Nat → Int × Int) : Prop := ∃ a rs, v = .ref a ∧ H a = some (.lst (rs.map V.ref)) ∧ rs.length = n ∧ Tups H rs F
theorem Tups.same {H H' : Hp} {rs : List Addr} {F : Nat → Int × Int} (h : Tups H rs F) (s : Same H H') : Tups H' rs F := fun k r e => s _ _ (h k r e)
theorem TupsAt.same {H H' : Hp} {v : V} {n : Nat} {F : Nat → Int × Int} (h : TupsAt H v n F) (s : Same H H') : TupsAt H' v n F := by
  obtain ⟨a, rs, e, h, l, p⟩ := h
  exact ⟨a, rs, e, s _ _ h, l, p.same s⟩
theorem Tups.nil {H : Hp} {F : Nat → Int × Int} : Tups H [] F := fun k r h => by simp at h
/-- a list changes, the tuples stay -/
theorem Tups.put {H : Hp} {rs : List Addr} {F : Nat → Int × Int} {d : Addr} {ys : List V} {o : HO} (h : Tups H rs F) (hd : H d = some (.lst ys)) : Tups (upd H d o) rs F := fun k r e => by
  rw [upd_ne fun z => by have := h k r e; rw [z, hd] at this; cases this]
  exact h k r e
theorem Tups.push {H : Hp} {r : Addr} {rs : List Addr} {F : Nat → Int × Int} (h : Tups H rs F) (hr : H r = some (tup2 (F rs.length).1 (F rs.length).2)) : Tups H (rs ++ [r]) F := fun k x hx => by
  rcases push_get hx with ⟨_, h1⟩ | ⟨rfl, rfl⟩
  · exact h k x h1
  · exact hr
theorem Tups.to {H : Hp} {rs : List Addr} {F G : Nat → Int × Int} (h : Tups H rs F) (e : ∀ k, k < rs.length → F k = G k) : Tups H rs G := fun k r hr => e k (get_lt hr) ▸ h k r hr
/-- a list of tuples as data -/
def pdT (p : Int × Int) : PyData := .tuple [.int p.1, .int p.2]
def pdL (F : Nat → Int × Int) (n : Nat) : List PyData := (List.range n).map fun k => pdT (F k)
theorem pdT_eqv (p q : Int × Int) : PyData.eqv (pdT p) (pdT q) = decide (p = q) := by
  obtain ⟨a, b⟩ := p
  obtain ⟨c, d⟩ := q
  have e : PyData.eqv (pdT (a, b)) (pdT (c, d)) = ((a == c) && ((b == d) && true)) := by simp only [pdT, PyData.eqv, PyData.eqvAll]
  rw [e, Bool.eq_iff_iff]
  simp
theorem eqvAll_map {α : Type} (f g : α → Int × Int) : ∀ xs : List α, PyData.eqvAll (xs.map fun k => pdT (f k)) (xs.map fun k => pdT (g k)) = decide (∀ x ∈ xs, f x = g x)
  | [] => by simp [PyData.eqvAll]
  | x :: xs => by
    rw [List.map_cons, List.map_cons]
    simp only [PyData.eqvAll]
    rw [eqvAll_map f g xs, pdT_eqv, Bool.eq_iff_iff]
    simp
theorem pdL_eqv (F G : Nat → Int × Int) (n : Nat) : PyData.eqv (.list (pdL F n)) (.list (pdL G n)) = decide (∀ k, k < n → F k = G k) := by
  simp only [PyData.eqv]
  show PyData.eqvAll (List.map _ _) (List.map _ _) = _
  rw [eqvAll_map, Bool.eq_iff_iff]
  simp
theorem pdL_lay : ∀ (xs : List (Int × Int)), PyData.canLayAll0 (xs.map pdT) = true
  | [] => by simp [PyData.canLayAll0]
  | x :: xs => by
    rw [List.map_cons]
    simp only [PyData.canLayAll0, pdT, PyData.canLay0, pdL_lay xs]
    rfl
theorem pdL_depth : ∀ (xs : List (Int × Int)), PyData.depthAll (xs.map pdT) ≤ 10
  | [] => by simp [PyData.depthAll]
  | x :: xs => by
    rw [List.map_cons]
    have := pdL_depth xs
    simp only [PyData.depthAll, pdT, PyData.depth] at this ⊢
    omega
theorem pdL_shaped (F : Nat → Int × Int) (n : Nat) : PySem.SeqAt.shaped (.list (pdL F n)) = true := by
  have e : pdL F n = ((List.range n).map F).map pdT := by show List.map _ _ = _; rw [List.map_map]; rfl
  rw [e]
  have h1 := pdL_depth ((List.range n).map F)
  have h2 : PyData.depth (.list (((List.range n).map F).map pdT)) ≤ 64 := by
    simp only [PyData.depth]
    omega
  show (PyData.canLay0 (.list (((List.range n).map F).map pdT)) && decide (PyData.depth (.list (((List.range n).map F).map pdT)) ≤ 64)) = true
  rw [Bool.and_eq_true]
  exact ⟨by simp only [PyData.canLay0]; exact pdL_lay _, decide_eq_true h2⟩
theorem dpAll_tups {K : PySem.W.Frag} {H : Hp} {F : Nat → Int × Int} : ∀ (rs : List Addr) (j : Nat), (∀ k r, rs[k]? = some r → H r = some (tup2 (F (j + k)).1 (F (j + k)).2)) → DpAll K H (rs.map V.ref) ((List.range' j rs.length).map fun k => pdT (F k))
  | [], j, _ => .nil
  | r :: rs, j, h => by
    rw [List.map_cons, List.length_cons, List.range'_succ, List.map_cons]
    exact .cons (.tup (.of (h 0 r rfl)) (.cons (.int _) (.cons (.int _) .nil))) (dpAll_tups rs (j + 1) fun k x e => by have := h (k + 1) x e; rw [show j + 1 + k = j + (k + 1) by omega]; exact this)
theorem TupsAt.dp {K : PySem.W.Frag} {H : Hp} {v : V} {n : Nat} {F : Nat → Int × Int} (h : TupsAt H v n F) : Dp K H v (.list (pdL F n)) := by
  obtain ⟨a, rs, rfl, ha, rfl, hp⟩ := h
  refine .lst (.of ha) ?_
  have := dpAll_tups (K := K) (H := H) (F := F) rs 0 (fun k r e => (Nat.zero_add k).symm ▸ hp k r e)
  rw [← List.range_eq_range'] at this
  exact this
theorem ix_tupK {X : Cx} {K : PySem.W.Frag} (h : X.K = K) : IxR X (rIxT K) := h ▸ ix_tup
theorem ref_get {rs : List Addr} {i : Nat} {x : V} (hx : (rs.map V.ref)[i]? = some x) : ∃ r, rs[i]? = some r ∧ x = .ref r := by
  rw [List.getElem?_map] at hx
  cases h : rs[i]? with
  | none => rw [h] at hx; cases hx
  | some r => rw [h] at hx; exact ⟨r, rfl, (Option.some.inj hx).symm⟩
/-! ### the lines of the law's table of differences -/
def ln : Nat → Nat → Int
  | 0, i => if i = 0 then 1 else 0
  | _ + 1, 0 => 1
  | k + 1, i + 1 => ln k (i + 1) - ln k i
theorem ln_zero : ∀ k, ln k 0 = 1
  | 0 => rfl
  | _ + 1 => rfl
theorem ln_out : ∀ (k i : Nat), k < i → ln k i = 0
  | 0, i, h => if_neg (by omega)
  | k + 1, 0, h => absurd h (Nat.not_lt_zero _)
  | k + 1, i + 1, h => by
    show ln k (i + 1) - ln k i = 0
    rw [ln_out k (i + 1) (by omega), ln_out k i (by omega)]
    rfl
theorem ln_lt : ∀ (k i : Nat), (ln k i).natAbs ≤ 2 ^ k
  | 0, i => by
    show (if i = 0 then (1 : Int) else 0).natAbs ≤ 1
    split <;> decide
  | k + 1, 0 => by
    show (1 : Int).natAbs ≤ _
    exact Nat.one_le_two_pow
  | k + 1, i + 1 => by
    show (ln k (i + 1) - ln k i).natAbs ≤ _
    have h1 := ln_lt k (i + 1)
    have h2 := ln_lt k i
    rw [Nat.pow_succ]
    omega
theorem ln_sum (f : Nat → Rat) : ∀ k a, sumR (fun i => (ln k i : Rat) * f (a + i)) (k + 1) = dfF f k a
  | 0, a => by
    show (0 : Rat) + ((ln 0 0 : Int) : Rat) * f (a + 0) = f a
    rw [show ln 0 0 = 1 from rfl, Nat.add_zero, Rat.intCast_one]
    grind
  | k + 1, a => by
    show _ = dfF f k a - dfF f k (a + 1)
    rw [← ln_sum f k a, ← ln_sum f k (a + 1), sumR_head]
    have e1 : sumR (fun i => ((ln (k + 1) (i + 1) : Int) : Rat) * f (a + (i + 1))) (k + 1) = sumR (fun i => ((ln k (i + 1) : Int) : Rat) * f (a + (i + 1))) (k + 1) - sumR (fun i => ((ln k i : Int) : Rat) * f (a + 1 + i)) (k + 1) := by
      rw [← sumR_sub]
      refine sumR_congr fun i _ => ?_
      show ((ln k (i + 1) - ln k i : Int) : Rat) * _ = _
      rw [Rat.intCast_sub, show a + 1 + i = a + (i + 1) by omega]
      grind
    have e2 := sumR_head (f := fun i => ((ln k i : Int) : Rat) * f (a + i)) (k + 1)
    have e3 : sumR (fun i => ((ln k i : Int) : Rat) * f (a + i)) (k + 1 + 1) = sumR (fun i => ((ln k i : Int) : Rat) * f (a + i)) (k + 1) + ((ln k (k + 1) : Int) : Rat) * f (a + (k + 1)) := rfl
    rw [ln_out k (k + 1) (by omega), Rat.intCast_zero] at e3
    have e4 : ((ln (k + 1) 0 : Int) : Rat) = ((ln k 0 : Int) : Rat) := by rw [ln_zero, ln_zero]
    have e1' : sumR (fun k_1 => ((ln (k + 1) (k_1 + 1) : Int) : Rat) * f (a + (k_1 + 1))) (k + 1) = _ := e1
    rw [e1', e4]
    grind
/-- the line after a line -/
theorem ln_next {k : Nat} : ([1] ++ (List.range k).map (fun i => ln k (i + 1) - ln k i)) ++ [-ln k k] = (List.range (k + 2)).map (ln (k + 1)) := by
  refine List.ext_getElem? fun i => ?_
  rcases Nat.lt_or_ge i (k + 2) with h | h
  · rw [List.getElem?_map, List.getElem?_range h]
    rcases Nat.lt_or_ge i (k + 1) with h1 | h1
    · rw [List.getElem?_append_left (by simp; omega)]
      cases i with
      | zero => rfl
      | succ i =>
        rw [List.getElem?_append_right (by simp), List.length_singleton, Nat.add_sub_cancel, List.getElem?_map, List.getElem?_range (by omega)]
        rfl
    · have e : i = k + 1 := by omega
      subst e
      rw [List.getElem?_append_right (by simp)]
      have hlen : ([(1 : Int)] ++ (List.range k).map (fun i => ln k (i + 1) - ln k i)).length = k + 1 := by simp
      rw [hlen, Nat.sub_self]
      show some (-ln k k) = some (ln k (k + 1) - ln k k)
      rw [ln_out k (k + 1) (by omega)]
      congr 1
      omega
  · rw [List.getElem?_eq_none (by simp; omega), List.getElem?_eq_none (by simp; omega)]
/-- the product of m bottoms from a on -/
def WN (F : Nat → Int × Int) (a : Nat) : Nat → Int
  | 0 => 1
  | m + 1 => WN F a m * (F (a + m)).2
theorem WN_pos {F : Nat → Int × Int} {a : Nat} : ∀ m, (∀ k, k < a + m → 0 < (F k).2) → 0 < WN F a m
  | 0, _ => by show (0 : Int) < 1; decide
  | m + 1, h => Int.mul_pos (WN_pos m fun k hk => h k (by omega)) (h (a + m) (by omega))
theorem WN_app {F : Nat → Int × Int} {a : Nat} : ∀ m, WN F 0 (a + m) = WN F 0 a * WN F a m
  | 0 => by show WN F 0 a = WN F 0 a * 1; rw [Int.mul_one]
  | m + 1 => by
    show WN F 0 (a + m) * (F (0 + (a + m))).2 = WN F 0 a * (WN F a m * (F (a + m)).2)
    rw [WN_app m, Nat.zero_add, Int.mul_assoc]
theorem le_mul1 {x y : Int} (hx : 0 < x) (hy : 0 < y) : x ≤ x * y := by
  have : x * 1 ≤ x * y := Int.mul_le_mul_of_nonneg_left (by omega) (by omega)
  omega
theorem WN_le {F : Nat → Int × Int} {a n m : Nat} (h : ∀ k, k < n → 0 < (F k).2) (hm : a + m ≤ n) : WN F a m ≤ WN F 0 n := by
  have h1 : 0 < WN F a m := WN_pos m fun k hk => h k (by omega)
  have h2 : 0 < WN F 0 a := WN_pos a fun k hk => h k (by omega)
  have h3 : 0 < WN F (a + m) (n - (a + m)) := WN_pos _ fun k hk => h k (by omega)
  have e : WN F 0 n = WN F 0 a * WN F a m * WN F (a + m) (n - (a + m)) := by
    have := WN_app (F := F) (a := a + m) (n - (a + m))
    rw [show a + m + (n - (a + m)) = n by omega, WN_app] at this
    exact this
  have h4 : WN F a m ≤ WN F 0 a * WN F a m := by rw [Int.mul_comm]; exact le_mul1 h1 h2
  have h5 := le_mul1 (Int.mul_pos h2 h1) h3
  omega
theorem WN_set {F G : Nat → Int × Int} {a : Nat} {u : Int} (h : ∀ j, (G j).2 = if j = a then (F j).2 * u else (F j).2) : ∀ m, WN G 0 m = WN F 0 m * if a < m then u else 1
  | 0 => by show (1 : Int) = 1 * if a < 0 then u else 1; rw [if_neg (by omega)]; rfl
  | m + 1 => by
    show WN G 0 m * (G (0 + m)).2 = WN F 0 m * (F (0 + m)).2 * _
    rw [WN_set h m, h, Nat.zero_add]
    rcases Nat.lt_trichotomy a m with e | e | e
    · rw [if_pos e, if_neg (by omega), if_pos (by omega), Int.mul_assoc, Int.mul_assoc, Int.mul_comm u]
    · subst e
      rw [if_neg (by omega), if_pos rfl, if_pos (by omega), Int.mul_one, Int.mul_assoc]
    · rw [if_neg (by omega), if_neg (by omega), if_neg (by omega), Int.mul_one, Int.mul_one]
theorem WN_small {F : Nat → Int × Int} {c : Int} (hc : 0 < c) : ∀ m, (∀ k, k < m → 0 < (F k).2 ∧ (F k).2 ≤ c) → WN F 0 m ≤ c ^ m
  | 0, _ => by rw [Int.pow_zero]; exact Int.le_refl _
  | m + 1, h => by
    show WN F 0 m * (F (0 + m)).2 ≤ _
    rw [Nat.zero_add, Int.pow_succ]
    have h1 := WN_small hc m fun k hk => h k (by omega)
    have h2 := h m (by omega)
    have h3 : 0 < WN F 0 m := WN_pos m fun k hk => (h k (by omega)).1
    exact Int.le_trans (Int.mul_le_mul_of_nonneg_left h2.2 (by omega)) (Int.mul_le_mul_of_nonneg_right h1 (by omega))
end MoL

/-! # Polynomials over Rat on the heap, operators between two classes -/
namespace MoW
open PySem PySem.W PyProof.Rows
section
variable {prog : Program} {w : World} {A : Around} {E : Value → Shared → Prop} {s : Shared} {K : Frag} {x y C D L f g fr : Addr} {ox oy : Obj} {od od' : Option Obj} {h₀ : Heap} {m : Str → Option Value}
/-- an instance beside one of another class: its own method answers -/
theorem bin_own_two {op : Operator} {Q : Value → Shared → Prop} {f' g' : Addr} (X : K.In s.heap) (I : W.InstAt s.heap x ox C od) (J : W.InstAt s.heap y oy D od') (hc : selfFirst K C = true) (hd : selfFirst K D = true) (hne : C ≠ D)
    (hn : subIn K (.ref D) (.ref C) = some false) (h1 : findIn K (.ref C) (PySem.dunder op.info.2) = some (some (.ref f))) (hf : isFn K (.ref f) = true) (h1r : findIn K (.ref C) (dunderR op.info.2) = some (some (.ref f')))
    (h2 : findIn K (.ref D) (PySem.dunder op.info.2) = some (some (.ref g'))) (h2r : findIn K (.ref D) (dunderR op.info.2) = some (some (.ref g)))
    (a : wpAny (model prog w) A (call (.ref f) [.ref x, .ref y]) (W.CmpBack Q) E s) : wpAny (model prog w) A (binaryOp op (.ref x) (.ref y)) Q E s := by
  obtain ⟨cd, rest, hcd, hm⟩ := mro_first (K := K) (C := C) (cd := default) hc
  obtain ⟨dd, rest2, hdd, hm2⟩ := mro_first (K := K) (C := D) (cd := default) hd
  unfold binaryOp
  refine wpAny_holding (wpAny_bind ?_)
  unfold binaryOp1
  refine wpAny_bind (I.type.here (wpAny_bind (J.type.here (wpAny_bind ((fills_K X hcd hm h1).here ?_)))))
  have ne : (Value.ref C == Value.ref D) = false := by simpa using hne
  simp only [ne, Bool.false_eq_true, if_false]
  refine wpAny_bind ((fills_K X hdd hm2 h2).here ?_)
  simp only [Bool.and_self, if_true]
  refine wpAny_bind ((looks_subIn X hn).here ?_)
  simp only [Bool.false_eq_true, if_false, pure_bind, Bool.not_false, Bool.and_self, if_true]
  have py : ∀ {Z p q : Addr}, findIn K (.ref Z) (PySem.dunder op.info.2) = some (some (.ref p)) → findIn K (.ref Z) (dunderR op.info.2) = some (some (.ref q)) → Looks (model prog w) s.heap (numberSlotInPython (.ref Z) op.info.2) true := by
    intro Z p q z1 z2
    unfold numberSlotInPython
    refine (looks_findIn X z1).andThen (Looks.andThen (a := true) .now ?_)
    exact (looks_findIn X z2).andThen (Looks.andThen (a := true) .now .now)
  refine wpAny_bind ((py h1 h1r).here ?_)
  simp only [if_true]
  refine wpAny_bind ((py h2 h2r).here ?_)
  simp only [Bool.not_true, Bool.false_eq_true, if_false]
  refine wpAny_bind (m := tryMethod (.ref x) _ (.ref y)) ?_
  unfold tryMethod
  refine wpAny_bind (special_fn X I h1 (beq_iff_eq.mp hf) (wpAny_mono a (fun v s' hv => ?_) fun _ _ e => e))
  cases v <;> first | exact hv.elim | exact wpAny_pure (wpAny_pure (wpAny_pure hv))
end
end MoW
namespace MoL
open PySem PySem.Spec PyProof.Rows L2 MoW
section
variable {X : Cx} {CX CX' : CXT} {k k' : Nat} {C D f f' g g' : Addr} {fd : FuncData} {ps : List Str} {sp : Sp} {E : XK} {pre : List V → Hp → Prop}
/-- x op y, two classes: x's own def answers -/
theorem op_two {op : Operator} (c : OwnC X.K C) (d : OwnC X.K D) (ne : C ≠ D) (sub : PySem.W.subIn X.K (.ref D) (.ref C) = some false) (m : Meth X.K C (PySem.dunder op.info.2) f) (mr : Meth X.K C (dunderR op.info.2) f') (m2 : Meth X.K D (PySem.dunder op.info.2) g')
    (m2r : Meth X.K D (dunderR op.info.2) g) (run : FnOk X.prog X.w X.K X.mg X.base CX k f fd ps sp) (hr : Room k X.A)
    (hb : Binds X.K fd ps []) (hx : Passes CX X E) : OpR X (binaryOp op) (fun x y H Q => Ins H x C ∧ Ins H y D ∧ sp [x, y] H Q E) := by
  intro pins s σ H x y v u Q I rx ry h
  obtain ⟨⟨a, dx, fs, rfl, ha⟩, ⟨b, dy, gs, rfl, hb'⟩, hs⟩ := h
  cases (show v = Value.ref a from rx)
  cases (show u = Value.ref b from ry)
  obtain ⟨od, J⟩ := ins_at I ha
  obtain ⟨od', J'⟩ := ins_at I hb'
  exact bin_own_two I.kIn J J' c.first d.first ne sub m.at_ m.fn mr.at_ m2.at_ m2r.at_ (thn (run_fn (us := [.ref a, .ref b]) (vs := [.ref a, .ref b]) run hr hb .nil hx I (.cons rfl (.cons rfl .nil)) hs) fun v s' q => ep_back q)
end
/-! ### integers over one bottom -/
/-- these integers are the values f 0, f 1, .. times B -/
def TopsV (B : Int) (ts : List Int) (f : Nat → Rat) : Prop := ∀ (k : Nat) (t : Int), ts[k]? = some t → (t : Rat) = f k * (B : Rat)
theorem getD_at {ts : List Int} {i : Nat} (h : i < ts.length) : ts[i]? = some (ts.getD i 0) := by
  rw [List.getD_eq_getElem?_getD, List.getElem?_eq_getElem h]
  rfl
theorem TopsV.get {B : Int} {ts : List Int} {f : Nat → Rat} (h : TopsV B ts f) {i : Nat} (hi : i < ts.length) : ((ts.getD i 0 : Int) : Rat) = f i * (B : Rat) := h i _ (getD_at hi)
theorem getD_out {ts : List Int} {i : Nat} (h : ts.length ≤ i) : ts.getD i 0 = 0 := by
  rw [List.getD_eq_getElem?_getD, List.getElem?_eq_none h]
  rfl
theorem int_at {xs : List Int} {j : Nat} (h : j < xs.length) : (xs.map V.int)[j]? = some (V.int (xs.getD j 0)) := by
  rw [List.getElem?_map, getD_at h]
  rfl
theorem atI_getD {ts : List Int} {i : Nat} (h : i < ts.length) : atI (ts.map V.int) (0 + (i : Int)) = some (V.int (ts.getD i 0)) := at_get (int_at h)
/-- sizes of all of them -/
def TopsB (e : Nat) (ts : List Int) : Prop := ∀ k, (ts.getD k 0).natAbs < 2 ^ e
theorem TopsB.mono {e e' : Nat} {ts : List Int} (h : TopsB e ts) (l : e ≤ e') : TopsB e' ts := fun k => nle (h k) l
theorem TopsB.of {e : Nat} {ts : List Int} (h : ∀ (k : Nat) (t : Int), ts[k]? = some t → t.natAbs < 2 ^ e) : TopsB e ts := fun k => by
  rcases Nat.lt_or_ge k ts.length with c | c
  · exact h k _ (getD_at c)
  · rw [getD_out c]
    exact Nat.two_pow_pos _
/-- with zeros behind them -/
theorem TopsV.all {B : Int} {ts : List Int} {f : Nat → Rat} (h : TopsV B ts f) (hz : ∀ k, ts.length ≤ k → f k = 0) (i : Nat) : ((ts.getD i 0 : Int) : Rat) = f i * (B : Rat) := by
  rcases Nat.lt_or_ge i ts.length with c | c
  · exact h.get c
  · rw [getD_out c, hz i c, Rat.intCast_zero, Rat.zero_mul]
theorem sum_lt {xs : List Int} {e : Nat} (h : ∀ x ∈ xs, x.natAbs < 2 ^ e) : xs.sum.natAbs ≤ xs.length * 2 ^ e := by
  induction xs with
  | nil => simp
  | cons x xs ih =>
    rw [List.sum_cons, List.length_cons, Nat.add_mul]
    have h1 := h x (List.mem_cons_self ..)
    have h2 := ih fun y hy => h y (List.mem_cons_of_mem _ hy)
    have h3 := Int.natAbs_add_le x xs.sum
    omega
theorem range_sum (h : Nat → Int) : ∀ n, ((((List.range n).map h).sum : Int) : Rat) = sumR (fun a => ((h a : Int) : Rat)) n
  | 0 => rfl
  | n + 1 => by
    rw [List.range_succ, List.map_append, List.sum_append, Rat.intCast_add, range_sum h n]
    show _ + (((h n + 0 : Int)) : Rat) = _ + _
    rw [Int.add_zero]
theorem range_sum_lt {h : Nat → Int} {e n : Nat} (hh : ∀ a, a < n → (h a).natAbs < 2 ^ e) : ((List.range n).map h).sum.natAbs ≤ n * 2 ^ e := by
  have := sum_lt (xs := (List.range n).map h) (e := e) fun x hx => by
    obtain ⟨a, ha, rfl⟩ := List.mem_map.mp hx
    exact hh a (List.mem_range.mp ha)
  rw [List.length_map, List.length_range] at this
  exact this
/-- one term of a product -/
abbrev cvT (ts us : List Int) (i a : Nat) : Int := if a ≤ i then ts.getD a 0 * us.getD (i - a) 0 else 0
/-- coefficient i of the product -/
def cv (ts us : List Int) (i : Nat) : Int := ((List.range ts.length).map (cvT ts us i)).sum
/-- coefficient i when k rows and j places of the next are done -/
def cvP (ts us : List Int) (k j i : Nat) : Int := ((List.range k).map (cvT ts us i)).sum + (if k ≤ i ∧ i < k + j then ts.getD k 0 * us.getD (i - k) 0 else 0)
theorem cvP_zero {ts us : List Int} (i : Nat) : cvP ts us 0 0 i = 0 := by
  show (0 : Int) + _ = 0
  rw [if_neg (by omega)]
  rfl
theorem cvP_step {ts us : List Int} {k j : Nat} : cvP ts us k (j + 1) (k + j) = cvP ts us k j (k + j) + ts.getD k 0 * us.getD j 0 := by
  show _ + (if k ≤ k + j ∧ k + j < k + (j + 1) then _ else _) = _ + (if k ≤ k + j ∧ k + j < k + j then _ else _) + _
  rw [if_pos (by omega), if_neg (by omega), Nat.add_sub_cancel_left, Int.add_zero]
theorem cvP_else {ts us : List Int} {k j i : Nat} (h : i ≠ k + j) : cvP ts us k (j + 1) i = cvP ts us k j i := by
  show _ + (if k ≤ i ∧ i < k + (j + 1) then _ else _) = _ + (if k ≤ i ∧ i < k + j then _ else _)
  congr 1
  by_cases c : k ≤ i ∧ i < k + j
  · rw [if_pos c, if_pos (by omega)]
  · rw [if_neg c, if_neg (by omega)]
theorem cvP_next {ts us : List Int} {k i : Nat} : cvP ts us k us.length i = cvP ts us (k + 1) 0 i := by
  show ((List.range k).map (cvT ts us i)).sum + _ = ((List.range (k + 1)).map (cvT ts us i)).sum + _
  rw [List.range_succ, List.map_append, List.sum_append, if_neg (show ¬ (k + 1 ≤ i ∧ i < k + 1 + 0) by omega)]
  show _ + (if k ≤ i ∧ i < k + us.length then _ else _) = _ + ((if k ≤ i then ts.getD k 0 * us.getD (i - k) 0 else 0) + 0) + 0
  rw [Int.add_zero, Int.add_zero]
  congr 1
  by_cases c : k ≤ i
  · rw [if_pos c]
    by_cases c2 : i < k + us.length
    · rw [if_pos ⟨c, c2⟩]
    · rw [if_neg (by omega), show us.getD (i - k) 0 = 0 by rw [List.getD_eq_getElem?_getD, List.getElem?_eq_none (by omega)]; rfl, Int.mul_zero]
  · rw [if_neg c, if_neg (by omega)]
theorem cvP_all {ts us : List Int} {i : Nat} : cvP ts us ts.length 0 i = cv ts us i := by
  show ((List.range ts.length).map (cvT ts us i)).sum + (if ts.length ≤ i ∧ i < ts.length + 0 then _ else _) = _
  rw [if_neg (by omega), Int.add_zero]
  rfl
def cvL (ts us : List Int) (n k j : Nat) : List Int := (List.range n).map (cvP ts us k j)
theorem cvL_len {ts us : List Int} {n k j : Nat} : (cvL ts us n k j).length = n := by
  show (List.map _ _).length = n
  rw [List.length_map, List.length_range]
theorem cvL_at {ts us : List Int} {n k j i : Nat} (h : i < n) : (cvL ts us n k j)[i]? = some (cvP ts us k j i) := by
  show (List.map _ _)[i]? = _
  rw [List.getElem?_map, List.getElem?_range h]
  rfl
theorem cvL_set {ts us : List Int} {n k j : Nat} (h : k + j < n) : ((cvL ts us n k j).map V.int).set (k + j) (V.int (cvP ts us k j (k + j) + ts.getD k 0 * us.getD j 0)) = (cvL ts us n k (j + 1)).map V.int := by
  refine List.ext_getElem? fun i => ?_
  rw [List.getElem?_set, List.length_map, cvL_len, List.getElem?_map, List.getElem?_map]
  by_cases e : k + j = i
  · subst e
    rw [if_pos rfl, if_pos h, cvL_at h, ← cvP_step]
    rfl
  · rw [if_neg e]
    by_cases c : i < n
    · rw [cvL_at c, cvL_at c, cvP_else (Ne.symm e)]
    · rw [List.getElem?_eq_none (by rw [cvL_len]; omega), List.getElem?_eq_none (by rw [cvL_len]; omega)]
theorem cvL_next {ts us : List Int} {n k : Nat} : cvL ts us n k us.length = cvL ts us n (k + 1) 0 := List.map_congr_left fun i _ => cvP_next
theorem cvL_zero {ts us : List Int} {n : Nat} : (cvL ts us n 0 0).map V.int = List.replicate n (V.int 0) := by
  refine List.ext_getElem? fun i => ?_
  rw [List.getElem?_map, List.getElem?_replicate]
  by_cases c : i < n
  · rw [cvL_at c, if_pos c, cvP_zero]
    rfl
  · rw [List.getElem?_eq_none (by rw [cvL_len]; omega), if_neg c]
    rfl

theorem cvT_lt {ts us : List Int} {e : Nat} (h1 : TopsB e ts) (h2 : TopsB e us) (i a : Nat) : (cvT ts us i a).natAbs < 2 ^ (e + e) := by
  show (if a ≤ i then ts.getD a 0 * us.getD (i - a) 0 else 0).natAbs < _
  split
  · exact nmul (h1 _) (h2 _)
  · exact Nat.two_pow_pos _
theorem cvP_lt {ts us : List Int} {e : Nat} (h1 : TopsB e ts) (h2 : TopsB e us) {k j i : Nat} (hk : k ≤ 60) : (cvP ts us k j i).natAbs < 2 ^ (e + e + 6) := by
  have a := range_sum_lt (n := k) (h := cvT ts us i) (e := e + e) fun a _ => cvT_lt h1 h2 i a
  have b : (if k ≤ i ∧ i < k + j then ts.getD k 0 * us.getD (i - k) 0 else 0).natAbs < 2 ^ (e + e) := by
    split
    · exact nmul (h1 _) (h2 _)
    · exact Nat.two_pow_pos _
  have c := Int.natAbs_add_le ((List.range k).map (cvT ts us i)).sum (if k ≤ i ∧ i < k + j then ts.getD k 0 * us.getD (i - k) 0 else 0)
  have d : k * 2 ^ (e + e) ≤ 60 * 2 ^ (e + e) := Nat.mul_le_mul_right _ hk
  have f : 2 ^ (e + e + 6) = 64 * 2 ^ (e + e) := by rw [Nat.pow_add]; omega
  show (_ + _ : Int).natAbs < _
  omega
/-- the coefficients of a product -/
def mulF (f g : Nat → Rat) (i : Nat) : Rat := sumR (fun a => f a * g (i - a)) (i + 1)
theorem cv_val {U B : Int} {ts us : List Int} {f g : Nat → Rat} (hf : TopsV U ts f) (hg : TopsV B us g) (zf : ∀ k, ts.length ≤ k → f k = 0) (zg : ∀ k, us.length ≤ k → g k = 0) (i : Nat) : ((cv ts us i : Int) : Rat) = mulF f g i * ((U * B : Int) : Rat) := by
  have e1 : ((cv ts us i : Int) : Rat) = sumR (fun a => (if a ≤ i then f a * g (i - a) else 0) * ((U * B : Int) : Rat)) ts.length := by
    show ((((List.range ts.length).map (cvT ts us i)).sum : Int) : Rat) = _
    rw [range_sum]
    refine sumR_congr fun a _ => ?_
    show (((if a ≤ i then ts.getD a 0 * us.getD (i - a) 0 else 0 : Int)) : Rat) = _
    split
    · rw [Rat.intCast_mul, Rat.intCast_mul, hf.all zf, hg.all zg]
      grind
    · rw [Rat.intCast_zero, Rat.zero_mul]
  rw [e1, sumR_mulr]
  congr 1
  have a1 := sumR_more (f := fun a => if a ≤ i then f a * g (i - a) else 0) (n := ts.length) (i + 1) fun k h1 _ => by
    rw [zf k h1]
    split
    · exact Rat.zero_mul _
    · rfl
  have a2 := sumR_more (f := fun a => if a ≤ i then f a * g (i - a) else 0) (n := i + 1) ts.length fun k h1 _ => if_neg (by omega)
  rw [← a1, Nat.add_comm, a2]
  exact sumR_congr fun a ha => if_pos (by omega)
theorem mulF_out {f g : Nat → Rat} {s s2 : Nat} (zf : ∀ k, s ≤ k → f k = 0) (zg : ∀ k, s2 ≤ k → g k = 0) {i : Nat} (h : s + s2 ≤ i + 1) : mulF f g i = 0 := sumR_zero fun a ha => by
  rcases Nat.lt_or_ge a s with c | c
  · rw [zg (i - a) (by omega), Rat.mul_zero]
  · rw [zf a c, Rat.zero_mul]
/-! ### polynomials on the heap -/
/-- a Poly with the coefficients f 0, f 1, .., of which s count -/
structure PolyV (CP CR : Addr) (H : Hp) (v : V) (s : Nat) (f : Nat → Rat) : Prop where
  ex : ∃ a dx tp ys l, v = .ref a ∧ H a = some (.ins CP dx [("coefficients", .ref tp), ("degree", .int ((s : Int) - 1)), ("lead", l)]) ∧ H tp = some (.tup ys) ∧ ys.length = s ∧ RatsV CR H ys f ∧ RatV CR H l (f (s - 1))
  zero : ∀ k, s ≤ k → f k = 0
  last : 0 < s → f (s - 1) ≠ 0
section
variable {CP CR : Addr} {H H' : Hp} {v : V} {s : Nat} {f : Nat → Rat}
theorem PolyV.same (h : PolyV CP CR H v s f) (k : Same H H') : PolyV CP CR H' v s f := by
  obtain ⟨⟨a, dx, tp, ys, l, e, h1, h2, h3, h4, h5⟩, z, z2⟩ := h
  exact ⟨⟨a, dx, tp, ys, l, e, k _ _ h1, k _ _ h2, h3, h4.same k, h5.same k⟩, z, z2⟩
theorem PolyV.ins (h : PolyV CP CR H v s f) : Ins H v CP := by
  obtain ⟨⟨a, dx, tp, ys, l, e, h1, _⟩, _⟩ := h
  exact ⟨a, dx, _, e, h1⟩
theorem PolyV.to {g : Nat → Rat} (h : PolyV CP CR H v s f) (e : ∀ k, f k = g k) : PolyV CP CR H v s g := (funext e : f = g) ▸ h
/-- the count of the coefficients is told by them -/
theorem size_one {s s' : Nat} (z : ∀ k, s ≤ k → f k = 0) (l : 0 < s → f (s - 1) ≠ 0) (z' : ∀ k, s' ≤ k → f k = 0) (l' : 0 < s' → f (s' - 1) ≠ 0) : s = s' := by
  rcases Nat.lt_trichotomy s s' with h | h | h
  · exact absurd (z (s' - 1) (by omega)) (l' (by omega))
  · exact h
  · exact absurd (z' (s - 1) (by omega)) (l (by omega))
theorem PolyV.stp {fd : Addr} (h : PolyV CP CR H v s f) (F : FeedAt H fd) (k : Stp fd H H') : PolyV CP CR H' v s f := by
  obtain ⟨⟨a, dx, tp, ys, l, e, h1, h2, h3, h4, h5⟩, z, z2⟩ := h
  exact ⟨⟨a, dx, tp, ys, l, e, k.keep _ _ (F.ne h1 fun _ _ _ _ _ _ w => by cases w) h1, k.keep _ _ (F.ne h2 fun _ _ _ _ _ _ w => by cases w) h2, h3, h4.stp F k, h5.stp F k⟩, z, z2⟩
end
/-- a number as a Poly -/
abbrev numF (c : Rat) : Nat → Rat := fun k => if k = 0 then c else 0
/-- a Poly, or a number that means one -/
def OperV (CP CR : Addr) (H : Hp) (v : V) (s : Nat) (f : Nat → Rat) : Prop := PolyV CP CR H v s f ∨ ∃ c, NumV CR H v c ∧ s = (if c = 0 then 0 else 1) ∧ f = numF c
theorem OperV.same {CP CR : Addr} {H H' : Hp} {v : V} {s : Nat} {f : Nat → Rat} (h : OperV CP CR H v s f) (k : Same H H') : OperV CP CR H' v s f := h.imp (fun h => h.same k) fun ⟨c, h, r⟩ => ⟨c, h.same k, r⟩
theorem OperV.kind {CP CR : Addr} {H : Hp} {v : V} {s : Nat} {f : Nat → Rat} (h : OperV CP CR H v s f) : Ins H v CP ∨ ((∃ i, v = .int i) ∨ Ins H v CR) := h.imp (fun h => h.ins) fun ⟨c, h, _⟩ => h.kind
theorem OperV.zero {CP CR : Addr} {H : Hp} {v : V} {s : Nat} {f : Nat → Rat} (h : OperV CP CR H v s f) : ∀ k, s ≤ k → f k = 0 := by
  rcases h with h | ⟨c, h, rfl, rfl⟩
  · exact h.zero
  · intro k hk
    show (if k = 0 then c else 0) = 0
    split
    · rename_i e
      subst e
      split at hk
      · assumption
      · omega
    · rfl
theorem numF_bd {c : Rat} {n m : Nat} (h : Bd n m c) (hm : 0 < m) (k : Nat) : Bd n m (numF c k) := by
  show Bd n m (if k = 0 then c else 0)
  split
  · exact h
  · exact .zero hm
theorem made_but {H G : Hp} {x : Addr} {dx : Addr} {o : HO} (nx : H x = none) (nd : H dx = none) (k : ∀ b u, b ≠ x → upd (upd H dx (.own x)) x o b = some u → G b = some u) : Same H G := fun b u h => by
  have h1 : b ≠ x := fun z => by rw [z, nx] at h; cases h
  have h2 : b ≠ dx := fun z => by rw [z, nd] at h; cases h
  exact k b u h1 (by rw [upd_ne h1, upd_ne h2]; exact h)
theorem rat_ne_nil {C C' d : Addr} : ∀ dx z, ratO C dx z ≠ .ins C' d [] := fun _ _ w => by
  have := (HO.ins.inj w).2.2
  cases this
theorem rat_ne_co {C C' d : Addr} {v : V} {r : List (Str × V)} : ∀ dx z, ratO C dx z ≠ .ins C' d (("coefficients", v) :: r) := fun _ _ w => by
  have h : ("top" : Str) = "coefficients" := congrArg Prod.fst (List.cons.inj (HO.ins.inj w).2.2).1
  exact absurd h (by decide)
/-- no operand of one class is of the other -/
theorem ne_cls {K : PySem.W.Frag} {C D : Addr} (h : PySem.W.kitOne K (.ref C) (.ref D) = some false) : C ≠ D := fun e => by
  rw [e, kit_self] at h
  cases h
end MoL

/-! # A product of two rows of fractions, entry by entry; rows of pairs that change -/
namespace MoL
open PySem PySem.Spec PyProof.Rows L2 MoW
abbrev rvT (f g : Nat → Rat) (i a : Nat) : Rat := if a ≤ i then f a * g (i - a) else 0
/-- coefficient i when k rows and j places of the next are done -/
def rvP (f g : Nat → Rat) (k j i : Nat) : Rat := sumR (rvT f g i) k + (if k ≤ i ∧ i < k + j then f k * g (i - k) else 0)
section
variable {f g : Nat → Rat} {k j i n m : Nat}
theorem rvP_zero : rvP f g 0 0 i = 0 := by
  show (0 : Rat) + _ = 0
  rw [if_neg (by omega)]
  exact Rat.add_zero _
theorem rvP_step : rvP f g k (j + 1) (k + j) = rvP f g k j (k + j) + f k * g j := by
  show _ + (if k ≤ k + j ∧ k + j < k + (j + 1) then _ else _) = _ + (if k ≤ k + j ∧ k + j < k + j then _ else _) + _
  rw [if_pos (by omega), if_neg (by omega), Nat.add_sub_cancel_left, Rat.add_zero]
theorem rvP_else (h : i ≠ k + j) : rvP f g k (j + 1) i = rvP f g k j i := by
  show _ + (if k ≤ i ∧ i < k + (j + 1) then _ else _) = _ + (if k ≤ i ∧ i < k + j then _ else _)
  congr 1
  by_cases c : k ≤ i ∧ i < k + j
  · rw [if_pos c, if_pos (by omega)]
  · rw [if_neg c, if_neg (by omega)]
theorem rvP_next (zg : ∀ k, m ≤ k → g k = 0) : rvP f g k m i = rvP f g (k + 1) 0 i := by
  show sumR (rvT f g i) k + _ = sumR (rvT f g i) k + rvT f g i k + _
  rw [if_neg (show ¬ (k + 1 ≤ i ∧ i < k + 1 + 0) by omega), Rat.add_zero]
  congr 1
  show _ = if k ≤ i then _ else _
  by_cases c : k ≤ i
  · rw [if_pos c]
    by_cases c2 : i < k + m
    · rw [if_pos ⟨c, c2⟩]
    · rw [if_neg (by omega), zg (i - k) (by omega), Rat.mul_zero]
  · rw [if_neg c, if_neg (by omega)]
theorem rvP_all (zf : ∀ k, n ≤ k → f k = 0) : rvP f g n 0 i = mulF f g i := by
  show sumR (rvT f g i) n + (if n ≤ i ∧ i < n + 0 then _ else _) = _
  rw [if_neg (by omega), Rat.add_zero]
  have a1 := sumR_more (f := rvT f g i) (n := n) (i + 1) fun k h1 _ => by
    show (if k ≤ i then f k * g (i - k) else 0) = 0
    rw [zf k h1]
    split
    · exact Rat.zero_mul _
    · rfl
  have a2 := sumR_more (f := rvT f g i) (n := i + 1) n fun k h1 _ => if_neg (by omega)
  rw [← a1, Nat.add_comm, a2]
  exact sumR_congr fun a ha => if_pos (by omega)
end
theorem Prsd.put {H : Hp} {rs : List Addr} {F : Nat → Int × Int} {d : Addr} {qs : List Addr} {o : HO} (h : Prsd H rs F) (hd : H d = some (.lst (qs.map V.ref))) : Prsd (upd H d o) rs F := fun k x hx => by
  have e := h k x hx
  rw [upd_ne fun z => by
    rw [z, hd] at e
    cases qs with
    | nil => cases e
    | cons a qs => cases e]
  exact e
theorem Prsd.set {H : Hp} {r : Addr} {rs : List Addr} {F : Nat → Int × Int} {i : Nat} {x : Int × Int} (h : Prsd H rs F) (hr : H r = some (two x.1 x.2)) : Prsd H (rs.set i r) (fun k => if k = i then x else F k) := fun k y hy => by
  rw [List.getElem?_set] at hy
  dsimp only
  by_cases e : i = k
  · rw [if_pos e] at hy
    rw [if_pos e.symm]
    split at hy
    · cases hy
      exact hr
    · cases hy
  · rw [if_neg e] at hy
    rw [if_neg (Ne.symm e)]
    exact h k y hy
theorem Prsd.to {H : Hp} {rs : List Addr} {F G : Nat → Int × Int} (h : Prsd H rs F) (e : ∀ k, k < rs.length → F k = G k) : Prsd H rs G := fun k r hr => e k (get_lt hr) ▸ h k r hr
theorem PairsAt.to {H : Hp} {v : V} {n : Nat} {F G : Nat → Int × Int} (h : PairsAt H v n F) (e : ∀ k, k < n → F k = G k) : PairsAt H v n G := by
  obtain ⟨a, rs, e1, h1, l, p⟩ := h
  exact ⟨a, rs, e1, h1, l, p.to fun k hk => e k (by omega)⟩
/-- the place of a number from 0 on -/
theorem ix_nat {xs : List V} {i : Nat} (h : i < xs.length) : ixN xs.length (i : Int) = some i := by
  unfold ixN
  rw [if_pos (by omega), if_pos (by omega)]
  congr 1
end MoL

/-! # Common bottoms; the division of rows of fractions; walks with a step below 0 -/
namespace MoL
open PySem PySem.Spec PyProof.Rows L2 MoW
/-! ### common bottoms -/
theorem den_dvd {x : Rat} {p q : Int} (h : x * (q : Rat) = p) : x.den ∣ q.natAbs := by
  have e : x.num * q = p * (x.den : Int) := inj (by
    rw [Rat.intCast_mul, Rat.intCast_mul, ← h, num_is]
    grind)
  have hc : Nat.Coprime x.num.natAbs x.den := x.reduced
  have e2 : x.num.natAbs * q.natAbs = p.natAbs * x.den := by
    have := congrArg Int.natAbs e
    rw [Int.natAbs_mul, Int.natAbs_mul] at this
    simpa using this
  exact hc.symm.dvd_of_dvd_mul_left ⟨p.natAbs, by rw [e2, Nat.mul_comm]⟩
/-- N times z is an integer below 2 ^ e -/
def Cm (N : Int) (e : Nat) (z : Rat) : Prop := ∃ t : Int, z * (N : Rat) = t ∧ t.natAbs < 2 ^ e
section
variable {N M : Int} {e g : Nat} {z y : Rat}
theorem Cm.mono (h : Cm N e z) (l : e ≤ g) : Cm N g z := h.elim fun t h => ⟨t, h.1, nle h.2 l⟩
theorem Cm.den (h : Cm N e z) : z.den ∣ N.natAbs := h.elim fun t h => den_dvd h.1
theorem Cm.bd {m : Nat} (h : Cm N e z) (h0 : N ≠ 0) (hN : N.natAbs < 2 ^ m) : Bd e m z := h.elim fun t h => .of h0 h.1 h.2 hN
theorem Cm.zero : Cm N e 0 := ⟨0, by rw [Rat.zero_mul]; rfl, Nat.two_pow_pos _⟩
theorem Cm.neg (h : Cm N e z) : Cm N e (-z) := h.elim fun t h => ⟨-t, by rw [Rat.intCast_neg, ← h.1]; grind, by rw [Int.natAbs_neg]; exact h.2⟩
theorem Cm.add (h : Cm N e z) (h' : Cm N e y) : Cm N (e + 1) (z + y) := by
  obtain ⟨t, h1, h2⟩ := h
  obtain ⟨u, h3, h4⟩ := h'
  exact ⟨t + u, by rw [Rat.intCast_add, ← h1, ← h3]; grind, nadd h2 h4⟩
theorem Cm.mul (h : Cm N e z) (h' : Cm M g y) : Cm (N * M) (e + g) (z * y) := by
  obtain ⟨t, h1, h2⟩ := h
  obtain ⟨u, h3, h4⟩ := h'
  exact ⟨t * u, by rw [Rat.intCast_mul, Rat.intCast_mul, ← h1, ← h3]; grind, nmul h2 h4⟩
/-- over a bottom that is a multiple -/
theorem Cm.up {c : Int} {k : Nat} (h : Cm N e z) (hc : c.natAbs < 2 ^ k) : Cm (N * c) (e + k) z := by
  obtain ⟨t, h1, h2⟩ := h
  exact ⟨t * c, by rw [Rat.intCast_mul, Rat.intCast_mul, ← h1]; grind, nmul h2 hc⟩
theorem Cm.up' {c : Int} {k : Nat} (h : Cm N e z) (hc : c.natAbs < 2 ^ k) : Cm (c * N) (e + k) z := by rw [Int.mul_comm]; exact h.up hc
end
theorem Cm.sum {N : Int} {e : Nat} {f : Nat → Rat} : ∀ n : Nat, (∀ k, k < n → Cm N e (f k)) → ∃ t : Int, sumR f n * (N : Rat) = t ∧ t.natAbs ≤ n * 2 ^ e
  | 0, _ => ⟨0, by show (0 : Rat) * _ = _; rw [Rat.zero_mul]; rfl, by simp⟩
  | n + 1, h => by
    obtain ⟨t, h1, h2⟩ := Cm.sum n fun k hk => h k (by omega)
    obtain ⟨u, h3, h4⟩ := h n (by omega)
    refine ⟨t + u, ?_, ?_⟩
    · show (sumR f n + f n) * _ = _
      rw [Rat.intCast_add, ← h1, ← h3]
      grind
    · rw [Nat.succ_mul]
      omega
theorem Cm.mulF {N M : Int} {e g : Nat} {f h : Nat → Rat} (hf : ∀ k, Cm N e (f k)) (hh : ∀ k, Cm M g (h k)) {i : Nat} (hi : i < 63) : Cm (N * M) (e + g + 6) (mulF f h i) := by
  obtain ⟨t, h1, h2⟩ := Cm.sum (f := fun a => f a * h (i - a)) (N := N * M) (e := e + g) (i + 1) fun k _ => (hf k).mul (hh _)
  refine ⟨t, h1, ?_⟩
  have : (i + 1) * 2 ^ (e + g) ≤ 63 * 2 ^ (e + g) := Nat.mul_le_mul_right _ hi
  have := Nat.two_pow_pos (e + g)
  rw [Nat.pow_add]
  omega
/-! ### the product, linear in its second row -/
section
variable {g q r : Nat → Rat} {i k m n : Nat}
theorem sumR_one {F : Nat → Rat} {j : Nat} : ∀ {n : Nat}, j < n → (∀ a, a < n → a ≠ j → F a = 0) → sumR F n = F j
  | 0, h, _ => absurd h (Nat.not_lt_zero _)
  | n + 1, h, z => by
    show sumR F n + F n = _
    rcases (by omega : j < n ∨ j = n) with e | e
    · rw [sumR_one e fun a ha => z a (by omega), z n (by omega) (by omega), Rat.add_zero]
    · subst e
      rw [sumR_zero fun a ha => z a (by omega) (by omega), Rat.zero_add]
theorem mulF_add : mulF g (fun i => q i + r i) i = mulF g q i + mulF g r i := by
  show sumR _ _ = sumR _ _ + sumR _ _
  rw [← sumR_add]
  exact sumR_congr fun a _ => by grind
theorem mulF_smul {u : Rat} : mulF g (fun i => u * q i) i = u * mulF g q i := by
  show sumR _ _ = _ * sumR _ _
  rw [← sumR_mul]
  exact sumR_congr fun a _ => by grind
theorem mulF_one {t : Rat} : mulF g (fun i => if i = k then t else 0) i = if k ≤ i then g (i - k) * t else 0 := by
  show sumR _ _ = _
  split
  · rename_i h
    rw [sumR_one (j := i - k) (by omega) fun a ha ne => by show _ * (if _ then _ else _) = _; rw [if_neg (by omega), Rat.mul_zero]]
    show _ * (if _ then _ else _) = _
    rw [if_pos (by omega)]
  · exact sumR_zero fun a ha => by show _ * (if _ then _ else _) = _; rw [if_neg (by omega), Rat.mul_zero]
theorem mulF_next {t u : Rat} : mulF g (fun i => (if i = k then t else 0) + u * q i) i = (if k ≤ i then g (i - k) * t else 0) + u * mulF g q i := by
  rw [mulF_add (q := fun i => if i = k then t else 0) (r := fun i => u * q i), mulF_one, mulF_smul]
/-- quotient and remainder are told by the product -/
theorem div_one {q2 r2 : Nat → Rat} (gm : g m ≠ 0) (gz : ∀ k, m < k → g k = 0) (qz : ∀ k, n ≤ k → q k = 0) (qz2 : ∀ k, n ≤ k → q2 k = 0) (rz : ∀ k, m ≤ k → r k = 0) (rz2 : ∀ k, m ≤ k → r2 k = 0) (h : ∀ k, mulF g q k + r k = mulF g q2 k + r2 k) : (∀ k, q k = q2 k) ∧ ∀ k, r k = r2 k := by
  have main : ∀ d, d ≤ n → ∀ k, n - d ≤ k → q k = q2 k := by
    intro d
    induction d with
    | zero => exact fun _ k hk => by rw [qz k (by omega), qz2 k (by omega)]
    | succ d ih =>
      intro hd k hk
      rcases (by omega : n - d ≤ k ∨ k = n - (d + 1)) with e | e
      · exact ih (by omega) k e
      · have up := ih (by omega)
        have h0 := h (m + k)
        rw [rz _ (by omega), rz2 _ (by omega), Rat.add_zero, Rat.add_zero] at h0
        have h1 : mulF g q (m + k) - mulF g q2 (m + k) = g m * (q k - q2 k) := by
          show sumR _ _ - sumR _ _ = _
          rw [← sumR_sub, sumR_one (j := m) (by omega)]
          · rw [Nat.add_sub_cancel_left]
            grind
          · intro a ha ne
            rcases Nat.lt_or_ge m a with c | c
            · rw [gz a c, Rat.zero_mul, Rat.zero_mul]
              exact Rat.sub_self
            · rw [up (m + k - a) (by omega)]
              grind
        rw [h0] at h1
        have h2 : g m * (q k - q2 k) = 0 := by grind
        rcases Rat.mul_eq_zero.mp h2 with c | c
        · exact absurd c gm
        · grind
  have hq : ∀ k, q k = q2 k := fun k => main n (Nat.le_refl _) k (by omega)
  refine ⟨hq, fun k => ?_⟩
  have h0 := h k
  rw [show q = q2 from funext hq] at h0
  grind
end
/-! ### long division over integers -/
abbrev inF (ts : List Int) : Nat → Rat := fun i => ((ts.getD i 0 : Int) : Rat)
/-- the quotient so far, its last place at K -/
abbrev shF (K : Nat) (qs : List Int) : Nat → Rat := fun i => if K ≤ i then ((qs.getD (i - K) 0 : Int) : Rat) else 0
theorem getD_map {qs : List Int} {u : Int} {i : Nat} : (qs.map (fun q => u * q)).getD i 0 = u * qs.getD i 0 := by
  rw [List.getD_eq_getElem?_getD, List.getD_eq_getElem?_getD, List.getElem?_map]
  cases qs[i]? with
  | none => simp
  | some x => rfl
theorem shF_next {k : Nat} {qs : List Int} {tm up : Int} : shF k (tm :: qs.map (fun q => up * q)) = fun i => (if i = k then (tm : Rat) else 0) + (up : Rat) * shF (k + 1) qs i := funext fun i => by
  show (if k ≤ i then (((tm :: qs.map (fun q => up * q)).getD (i - k) 0 : Int) : Rat) else 0) = _ + _ * (if k + 1 ≤ i then _ else _)
  rcases Nat.lt_trichotomy i k with h | h | h
  · rw [if_neg (by omega), if_neg (by omega), if_neg (by omega), Rat.mul_zero, Rat.add_zero]
  · subst h
    rw [if_pos (Nat.le_refl _), if_pos rfl, if_neg (by omega), Nat.sub_self, Rat.mul_zero, Rat.add_zero]
    rfl
  · obtain ⟨j, rfl⟩ : ∃ j, i = k + 1 + j := ⟨i - (k + 1), by omega⟩
    rw [if_pos (by omega), if_neg (by omega), if_pos (by omega), show k + 1 + j - k = j + 1 by omega, Nat.add_sub_cancel_left, Rat.zero_add, ← Rat.intCast_mul, ← getD_map]
    rfl
theorem ld_step {ts ds rs rs' qs : List Int} {sc up tm : Int} {k : Nat} (h : ∀ i, (sc : Rat) * inF ts i = mulF (inF ds) (shF (k + 1) qs) i + inF rs i)
    (hr : ∀ i, rs'.getD i 0 = up * rs.getD i 0 - (if k ≤ i then tm * ds.getD (i - k) 0 else 0)) (i : Nat) : ((sc * up : Int) : Rat) * inF ts i = mulF (inF ds) (shF k (tm :: qs.map (fun q => up * q))) i + inF rs' i := by
  have h1 := h i
  rw [shF_next, mulF_next, show inF rs' i = (up : Rat) * inF rs i - (if k ≤ i then inF ds (i - k) * (tm : Rat) else 0) by
    show ((rs'.getD i 0 : Int) : Rat) = _
    rw [hr i, Rat.intCast_sub, Rat.intCast_mul]
    congr 1
    split
    · rw [Rat.intCast_mul, Rat.mul_comm]
    · rfl, Rat.intCast_mul]
  generalize (if k ≤ i then inF ds (i - k) * (tm : Rat) else 0) = z at *
  grind
theorem exact_div {x g : Int} (h : g ∣ x) (hg : g ≠ 0) : x.fdiv g * g = x := by
  obtain ⟨u, rfl⟩ := h
  rw [Int.mul_fdiv_cancel_left _ hg, Int.mul_comm]
theorem fdiv_le {x g : Int} (h : g ∣ x) (hg : g ≠ 0) : (x.fdiv g).natAbs ≤ x.natAbs := by
  have := congrArg Int.natAbs (exact_div h hg)
  rw [Int.natAbs_mul] at this
  rw [← this]
  exact Nat.le_mul_of_pos_right _ (by omega)
theorem cut_to (xs : List V) (s : Nat) : cutV xs none (some (s : Int)) = xs.take s := by
  unfold cutV
  have e1 : HT.sIx xs.length 0 none = 0 := rfl
  have e2 : HT.sIx xs.length xs.length (some (s : Int)) = min s xs.length := by
    show (if (s : Int) < 0 then ((s : Int) + (xs.length : Int)).toNat else min (s : Int).toNat xs.length) = _
    rw [if_neg (by omega)]
    omega
  rw [e1, e2, Nat.sub_zero, List.drop_zero]
  rcases Nat.le_total s xs.length with h | h
  · rw [Nat.min_eq_left h]
  · rw [Nat.min_eq_right h, List.take_length, List.take_of_length_le h]
end MoL

/-! # Operators of a class that has no mirrored def -/
namespace MoW
open PySem PySem.W PyProof PyProof.Rows
section
variable {prog : Program} {w : World} {A : Around} {E : Value → Shared → Prop} {s : Shared} {K : Frag} {x y C D L f g fr : Addr} {ox oy : Obj} {od od' : Option Obj} {h₀ : Heap} {m : Str → Option Value}
theorem bin_own_two0 {op : Operator} {Q : Value → Shared → Prop} {g' : Addr} (X : K.In s.heap) (I : W.InstAt s.heap x ox C od) (J : W.InstAt s.heap y oy D od') (hc : selfFirst K C = true) (hd : selfFirst K D = true) (hne : C ≠ D)
    (hn : subIn K (.ref D) (.ref C) = some false) (h1 : findIn K (.ref C) (PySem.dunder op.info.2) = some (some (.ref f))) (hf : isFn K (.ref f) = true) (h1r : findIn K (.ref C) (dunderR op.info.2) = some none)
    (h2 : findIn K (.ref D) (PySem.dunder op.info.2) = some (some (.ref g'))) (h2r : findIn K (.ref D) (dunderR op.info.2) = some (some (.ref g)))
    (a : wpAny (model prog w) A (call (.ref f) [.ref x, .ref y]) (W.CmpBack Q) E s) : wpAny (model prog w) A (binaryOp op (.ref x) (.ref y)) Q E s := by
  obtain ⟨cd, rest, hcd, hm⟩ := mro_first (K := K) (C := C) (cd := default) hc
  obtain ⟨dd, rest2, hdd, hm2⟩ := mro_first (K := K) (C := D) (cd := default) hd
  unfold binaryOp
  refine wpAny_holding (wpAny_bind ?_)
  unfold binaryOp1
  refine wpAny_bind (I.type.here (wpAny_bind (J.type.here (wpAny_bind ((fills_K X hcd hm h1).here ?_)))))
  have ne : (Value.ref C == Value.ref D) = false := by simpa using hne
  simp only [ne, Bool.false_eq_true, if_false]
  refine wpAny_bind ((fills_K X hdd hm2 h2).here ?_)
  simp only [Bool.and_self, if_true]
  refine wpAny_bind ((looks_subIn X hn).here ?_)
  simp only [Bool.false_eq_true, if_false, pure_bind, Bool.not_false, Bool.and_self, if_true]
  have py : ∀ {Z p q : Addr}, findIn K (.ref Z) (PySem.dunder op.info.2) = some (some (.ref p)) → findIn K (.ref Z) (dunderR op.info.2) = some (some (.ref q)) → Looks (model prog w) s.heap (numberSlotInPython (.ref Z) op.info.2) true := by
    intro Z p q z1 z2
    unfold numberSlotInPython
    refine (looks_findIn X z1).andThen (Looks.andThen (a := true) .now ?_)
    exact (looks_findIn X z2).andThen (Looks.andThen (a := true) .now .now)
  have py0 : ∀ {Z p : Addr}, findIn K (.ref Z) (PySem.dunder op.info.2) = some (some (.ref p)) → findIn K (.ref Z) (dunderR op.info.2) = some none → Looks (model prog w) s.heap (numberSlotInPython (.ref Z) op.info.2) true := by
    intro Z p z1 z2
    unfold numberSlotInPython
    refine (looks_findIn X z1).andThen (Looks.andThen (a := true) .now ?_)
    exact (looks_findIn X z2).andThen (Looks.andThen (a := false) .now .now)
  refine wpAny_bind ((py0 h1 h1r).here ?_)
  simp only [if_true]
  refine wpAny_bind ((py h2 h2r).here ?_)
  simp only [Bool.not_true, Bool.false_eq_true, if_false]
  refine wpAny_bind (m := tryMethod (.ref x) _ (.ref y)) ?_
  unfold tryMethod
  refine wpAny_bind (special_fn X I h1 (beq_iff_eq.mp hf) (wpAny_mono a (fun v s' hv => ?_) fun _ _ e => e))
  cases v <;> first | exact hv.elim | exact wpAny_pure (wpAny_pure (wpAny_pure hv))
end
end MoW
namespace MoL
open PySem PySem.Spec PyProof.Rows L2 MoW LamX
section
variable {X : Cx} {CX CX' : CXT} {k k' : Nat} {C D f f' g g' : Addr} {fd : FuncData} {ps : List Str} {sp : Sp} {E : XK} {pre : List V → Hp → Prop}
/-- x op y, two classes: x's own def answers, x's class has no mirrored one -/
theorem op_two0 {op : Operator} (c : OwnC X.K C) (d : OwnC X.K D) (ne : C ≠ D) (sub : PySem.W.subIn X.K (.ref D) (.ref C) = some false) (m : Meth X.K C (PySem.dunder op.info.2) f) (no : PySem.W.findIn X.K (.ref C) (dunderR op.info.2) = some none) (m2 : Meth X.K D (PySem.dunder op.info.2) g')
    (m2r : Meth X.K D (dunderR op.info.2) g) (run : FnOk X.prog X.w X.K X.mg X.base CX k f fd ps sp) (hr : Room k X.A)
    (hb : Binds X.K fd ps []) (hx : Passes CX X E) : OpR X (binaryOp op) (fun x y H Q => Ins H x C ∧ Ins H y D ∧ sp [x, y] H Q E) := by
  intro pins s σ H x y v u Q I rx ry h
  obtain ⟨⟨a, dx, fs, rfl, ha⟩, ⟨b, dy, gs, rfl, hb'⟩, hs⟩ := h
  cases (show v = Value.ref a from rx)
  cases (show u = Value.ref b from ry)
  obtain ⟨od, J⟩ := ins_at I ha
  obtain ⟨od', J'⟩ := ins_at I hb'
  exact bin_own_two0 I.kIn J J' c.first d.first ne sub m.at_ m.fn no m2.at_ m2r.at_ (thn (run_fn (us := [.ref a, .ref b]) (vs := [.ref a, .ref b]) run hr hb .nil hx I (.cons rfl (.cons rfl .nil)) hs) fun v s' q => ep_back q)
theorem op_bin_own0 {op : Operator} {id : String} (h1 : Slot "int" (dunderR op.info.2) id) (hfi : fillsNumberSlot (.type "int") op.info.2 = pure true) (c : OwnC X.K C)
    (m : Meth X.K C (PySem.dunder op.info.2) f) (no : PySem.W.findIn X.K (.ref C) (dunderR op.info.2) = some none) (F : FnOk X.prog X.w X.K X.mg X.base CX k f fd ps sp)
    (hr : Room k X.A) (hb : Binds X.K fd ps []) (hx : Passes CX X E) : OpR X (binaryOp op) (rOwn C sp E) := by
  intro pins s σ H x y v u Q I rx ry h
  obtain ⟨⟨a, dx, fs, rfl, ha⟩, hy, hs⟩ := h
  cases (show v = Value.ref a from rx)
  obtain ⟨od, J⟩ := ins_at I ha
  obtain ⟨mm, hF⟩ := I.fr
  have hrun : wpAny (model X.prog X.w) X.A (call (.ref f) [.ref a, u]) (PySem.W.CmpBack (EP X pins σ Q)) X.xe s :=
    thn (run_fn (us := [.ref a, u]) (vs := [.ref a, y]) F hr hb .nil hx I (.cons rfl (.cons ry .nil)) hs) fun v s' q => ep_back q
  rcases hy with ⟨i, rfl⟩ | ⟨b, dy, gs, rfl, hb'⟩
  · obtain ⟨t, rfl⟩ := (show ∃ t, u = Value.int i t from ry)
    exact bin_own_int0 (op := op) hF I.ok.mod.kin J c.first c.ic h1 hfi m.at_ m.fn no hrun
  · cases (show u = Value.ref b from ry)
    obtain ⟨od', J'⟩ := ins_at I hb'
    exact PySem.W.binop_K (op := op) hF I.ok.mod.kin J J'.type c.first m.at_ m.fn hrun
theorem op_floordiv_own0 (c : OwnC X.K C) (m : Meth X.K C "__floordiv__" f) (no : PySem.W.findIn X.K (.ref C) "__rfloordiv__" = some none) (run : FnOk X.prog X.w X.K X.mg X.base CX k f fd ps sp) (hr : Room k X.A) (hb : Binds X.K fd ps []) (hx : Passes CX X E) : OpR X (binaryOp .FloorDiv) (rOwn C sp E) :=
  op_bin_own0 (op := .FloorDiv) PySem.F.slot_int_rfloordiv PySem.F.fills_int_floordiv c m no run hr hb hx
theorem op_mod_own0 (c : OwnC X.K C) (m : Meth X.K C "__mod__" f) (no : PySem.W.findIn X.K (.ref C) "__rmod__" = some none) (run : FnOk X.prog X.w X.K X.mg X.base CX k f fd ps sp) (hr : Room k X.A) (hb : Binds X.K fd ps []) (hx : Passes CX X E) : OpR X (binaryOp .Mod) (rOwn C sp E) :=
  op_bin_own0 (op := .Mod) PySem.F.slot_int_rmod PySem.F.fills_int_mod c m no run hr hb hx
end
end MoL

/-! # A list from its end: xs[::-1] -/
namespace MoL
open PySem PySem.Spec PyProof.Rows L2 MoW LamX
section
variable {X : Cx} {e : Expr} {te : TE} {lo hi st : Option Expr} {tl th ts : TO} {pos p2 : Pos}
/-- xs[lo:hi:step] as lo, hi and step are read -/
def tSl3 (r : V → Option Int → Option Int → Option Int → Hp → VK → Prop) (te : TE) (tl th ts : TO) : TE := fun σ H Q => te σ H fun x H1 => tl σ H1 fun l H2 => th σ H2 fun u H3 => ts σ H3 fun t H4 => r x l u t H4 Q
/-- a list read from its end: a new list -/
def rRev (K : PySem.W.Frag) : V → Option Int → Option Int → Option Int → Hp → VK → Prop := fun x lo hi t H Q => ∃ a xs, x = .ref a ∧ lo = none ∧ hi = none ∧ t = some (-1) ∧ SqL K H a xs ∧ ∀ p, H p = none → Q (.ref p) (upd H p (.lst xs.reverse))
theorem pe_rev {st : Expr} (he : PE X e te) (hl : PO X none tl) (hu : PO X none th) (ht : PO X (some st) ts) : PE X (.Subscript e (.Slice none none (some st) p2) pos) (tSl3 (rRev X.K) te tl th ts) := by
  refine ⟨fun pins s σ H Q I h => ?_⟩
  refine Subscript_ (thn (he.run pins s σ H _ I h) fun v s1 ⟨x, H1, I1, r1, q1⟩ => ?_)
  refine wpAny_Slice (thn (hl.run pins s1 σ H1 _ I1 q1) fun vl s2 ⟨l, H2, I2, pl, q2⟩ => thn (hu.run pins s2 σ H2 _ I2 q2) fun vu s3 ⟨u, H3, I3, pu, q3⟩ => thn (ht.run pins s3 σ H3 _ I3 q3) fun vt s4 ⟨t, H4, I4, pt, q4⟩ => ?_)
  have I5 : Inv X pins σ H4 { s4 with heap := s4.heap.push { cls := .type "slice", data := .fields #[vl, vu, vt] } } := I4.kept (t' := s4.toks) fun b ob q => Heap.get?_push_of_some _ q
  obtain ⟨a, xs, rfl, rfl, rfl, rfl, hx, q⟩ := q4
  cases r1
  obtain ⟨its, r, hlist, hz⟩ := I5.list hx
  have hlen := r.length
  have hg : wpAny (model X.prog X.w) X.A (getItem (.ref a) (.ref s4.heap.objs.size)) (EP X pins σ Q) X.xe { s4 with heap := s4.heap.push { cls := .type "slice", data := .fields #[vl, vu, vt] } } := by
    refine wpAny_getItem_list_slice hlist.isList (Heap.IsSliceOf.new ..) pl pu pt (by simp) ?_ (by rw [List.size_toArray] <;> omega)
    rw [PySem.W.krv_pick]
    refine ⟨.ref _, _, I5.laid (t' := s4.toks) (o := .lst xs.reverse) (fun b ob q => Heap.get?_push_of_some _ q) (Nat.le_refl _) ?_, rfl, q _ (I5.hok.fresh (Nat.le_refl _))⟩
    exact ⟨by rw [List.length_reverse]; exact hz, _, 0, r.reverse, Heap.get?_push_size _ rfl⟩
  show wpAny (model X.prog X.w) X.A (subscriptTail e (.Slice none none (some st) p2) (.ref a) (.ref s4.heap.objs.size)) (EP X pins σ Q) X.xe { s4 with heap := s4.heap.push { cls := .type "slice", data := .fields #[vl, vu, vt] } }
  exact tail_any hlist.isList.typeIs slot_list_getitem.lookup hg (by with_unfolding_all rfl)
end
end MoL

/-! # Calling an instance -/
namespace MoL
open PySem PySem.Spec PyProof.Rows L2 MoW
theorem call_o {K : PySem.W.Frag} {C f : Addr} {x q : Str} {st : Stmt} {fd : FuncData} (m : Meth K C "__call__" f) (F : Fun K x q st f fd) : StX.CallO K C f := ⟨m.at_, m.fn, by
  obtain ⟨oc, od, kV, doc, pm, an, cdv, ct, osl, e, lk, hc⟩ := F.ex
  subst e
  unfold PySem.W.fnIn
  rw [lk]⟩
/-- f(e, ..), f gives an instance of C whose object is tracked; the reading names no context -/
def tCallI (C : Addr) (sp : Sp) (E : XK) (tf : TE) (t : TA) : TE := fun σ H Q => tf σ H fun y H1 => ∃ a, y = V.ref a ∧ t σ H1 fun vs H2 => (∃ dx fs, H2 a = some (.ins C dx fs)) ∧ sp (V.ref a :: vs) H2 Q E
section
variable {X : Cx} {CX : CXT} {k : Nat} {g C : Addr} {sp : Sp} {E : XK} {e fe : Expr} {es : List Expr} {tf : TE} {t : TA} {pos : Pos}
theorem pe_callI (hf : PE X fe tf) (c : StX.CallO X.K C g) (F : FnR X.prog X.w X.K X.mg X.base CX k g sp) (hr : Room k X.A) (hx : Passes CX X E) (ha : PA X (e :: es) t)
    (ht : eval (.Call fe (e :: es) [] pos) X.env = (do callWith pos (← eval fe X.env) [] (backTo pos (starEach (e :: es) X.env)) (backToKw pos (keywordEach [] X.env))) := by rfl)
    (he : starEach (e :: es) X.env = (false, eval e X.env) :: starEach es X.env := by rfl) (hpl : (backTo pos (starEach es X.env)).any (·.1) = false := by rfl) : PE X (.Call fe (e :: es) [] pos) (tCallI C sp E tf t) := by
  refine ⟨fun pins s σ H Q I h => ?_⟩
  refine Call_ (thn (hf.run pins s σ H _ I h) fun u s1 ⟨y, H1, I1, ry, a, ey, q⟩ => ?_) ht
  subst ey
  obtain rfl : u = Value.ref a := ry
  refine StX.callO_with (thn (ha.run pos pins s1 σ H1 _ I1 q) fun us s2 ⟨vs, H2, I2, r, hi, q2⟩ => ?_) he hpl
  have hi : StX.InsC X H2 a C := .inr hi
  obtain ⟨ox, od, J, hd⟩ := StX.insC_at I2 hi
  exact ⟨⟨C, ox, od, J, hd⟩, StX.run_callO c F hr hx I2 hi r q2⟩
end
end MoL

/-! # Methods called in a try's body, methods called with keywords, slices with a step -/
namespace MoL
open PySem PySem.Spec PyProof.Rows L2 MoW
section
variable {X : Cx} {CX : CXT} {k : Nat} {f C : Addr} {fd : FuncData} {ps : List Str} {sp : Sp} {E : L2.St → XK} {m : Str} {pos apos : Pos} {e o : Expr} {es : List Expr} {ta : TE} {t : TA}
/-- o.m(..), what is raised is wished for at the caller's slots -/
def tMethT (C : Addr) (m : Str) (sp : Sp) (E : L2.St → XK) (ta : TE) (t : TA) : TE := fun σ H Q => ta σ H fun x H1 => ∃ a dx fs, x = .ref a ∧ H1 a = some (.ins C dx fs) ∧ fs.lookup m = none ∧
  t σ H1 fun vs H2 => sp (x :: vs) H2 Q (E σ)
theorem pe_methT {pl : Sem Bool} (he : PE X o ta) (c : Cls X.K C) (hm : Meth X.K C m f) (F : FnOk X.prog X.w X.K X.mg X.base CX k f fd ps sp) (hr : Room k X.A) (hb : Binds X.K fd ps []) (hx : ∀ σ, PassesAt CX X σ (E σ)) (ha : PA X (e :: es) t)
    (hst : starEach (e :: es) X.env = (false, eval e X.env) :: starEach es X.env := by rfl) (hpl : (backTo pos (starEach es X.env)).any (·.1) = false := by rfl)
    (ht : eval (.Call (.Attribute o m apos) (e :: es) [] pos) X.env = (do
      let ov ← eval o X.env
      standAt apos.atName
      let (f, first) ← holding [ov] (getMethod ov m pl)
      callWith pos f first (backTo pos (starEach (e :: es) X.env)) (backToKw pos (keywordEach [] X.env))) := by rfl) :
    PE X (.Call (.Attribute o m apos) (e :: es) [] pos) (tMethT C m sp E ta t) := by
  refine ⟨fun pins s σ H Q I h => ?_⟩
  refine PySem.W.methodCall_KW (pl := pl) (thn (he.run pins s σ H _ I h) fun u s1 ⟨x, H1, I1, rx, a, dx, fs, ex, ea, l, q⟩ => ?_) ht
  subst ex
  obtain rfl : u = Value.ref a := rx
  refine getmeth_ok I1 ea c hm l ?_
  refine PySem.W.callWith_K (first := [.ref a]) (h₀ := X.base) I.ok.mod.kin hm.kp (thn (ha.run pos pins s1 σ H1 _ I1 q) fun us s2 ⟨vs, H2, I2, r, q2⟩ => ⟨I2.kIn, ?_⟩) hst hpl
  exact run_fnS (us := .ref a :: us) (vs := .ref a :: vs) F hr hb (hx σ) I2 (.cons rfl r) q2
end
section
variable {X : Cx} {CX : CXT} {k : Nat} {f C : Addr} {fd : FuncData} {ps ks : List Str} {sp : Sp} {E : XK} {m : Str} {pos apos : Pos} {o : Expr} {kws : List Keyword} {ta : TE} {tk : TA} {g : List Value → List Value → List Value} {gV : List V → List V → List V}
/-- o.m(k = v, ..) -/
def tMethK (C : Addr) (m : Str) (n : Nat) (sp : Sp) (gV : List V → List V → List V) (E : XK) (ta : TE) (tk : TA) : TE := fun σ H Q => ta σ H fun x H1 => ∃ a dx fs, x = .ref a ∧ H1 a = some (.ins C dx fs) ∧ fs.lookup m = none ∧
  tk σ H1 fun zs H2 => zs.length = n ∧ sp (gV [x] zs) H2 Q E
theorem pe_methK {pl : Sem Bool} (he : PE X o ta) (c : Cls X.K C) (hm : Meth X.K C m f) (F : FnOk X.prog X.w X.K X.mg X.base CX k f fd ps sp) (hr : Room k X.A) (hb : KBn X.K fd ps 1 ks g gV) (hx : Passes CX X E) (hkw : PK X kws tk)
    (hall : (backToKw pos (keywordEach kws X.env)).all (·.1.isSome) = true := by rfl) (hks : (backToKw pos (keywordEach kws X.env)).filterMap (·.1) = ks := by rfl)
    (hpl : ((backTo pos (starEach [] X.env)).any (·.1) || (backToKw pos (keywordEach kws X.env)).any (·.1.isNone)) = false := by rfl)
    (ht : eval (.Call (.Attribute o m apos) [] kws pos) X.env = (do
      let ov ← eval o X.env
      standAt apos.atName
      let (f, first) ← holding [ov] (getMethod ov m pl)
      callWith pos f first (backTo pos (starEach [] X.env)) (backToKw pos (keywordEach kws X.env))) := by rfl) :
    PE X (.Call (.Attribute o m apos) [] kws pos) (tMethK C m ks.length sp gV E ta tk) := by
  refine ⟨fun pins s σ H Q I h => ?_⟩
  refine PySem.W.methodCall_KW (pl := pl) (thn (he.run pins s σ H _ I h) fun u s1 ⟨x, H1, I1, rx, a, dx, fs, ex, ea, l, q⟩ => ?_) ht
  subst ex
  obtain rfl : u = Value.ref a := rx
  refine getmeth_ok I1 ea c hm l ?_
  refine PySem.W.callWith_KW0 (first := [.ref a]) (h₀ := X.base) I.ok.mod.kin hm.kp hall ?_ hpl
  refine thn (hkw.run pos pins s1 σ H1 _ I1 q) fun ws s2 ⟨zs, H2, I2, rz, l2, q2⟩ => ⟨I2.kIn, ?_⟩
  rw [hks]
  exact run_fnN (us := [.ref a]) (vs := [.ref a]) F hr hb hx I2 (.cons rfl .nil) rz rfl l2 q2
end
/-! ### xs[lo:hi:step] -/
/-- the items that a slice takes -/
def pickV (xs : List V) (lo hi st : Option Int) : List V := (sliceRange (sliceBounds lo hi st xs.length).1 (sliceBounds lo hi st xs.length).2.1 (sliceBounds lo hi st xs.length).2.2).filterMap fun k => xs[k]?
theorem pair_get {α β : Type} {F : α → β → Prop} : ∀ {l₁ : List α} {l₂ : List β} (k : Nat), Paired F l₁ l₂ → (l₁[k]? = none ∧ l₂[k]? = none) ∨ ∃ a b, l₁[k]? = some a ∧ l₂[k]? = some b ∧ F a b
  | _, _, k, .nil => .inl ⟨by simp, by simp⟩
  | _, _, 0, .cons h _ => .inr ⟨_, _, rfl, rfl, h⟩
  | _, _, k + 1, .cons _ h => by
    rcases pair_get k h with ⟨a, b⟩ | ⟨a, b, e1, e2, f⟩
    · exact .inl ⟨by simpa using a, by simpa using b⟩
    · exact .inr ⟨a, b, by simpa using e1, by simpa using e2, f⟩
theorem pair_pick {α β : Type} {F : α → β → Prop} {l₁ : List α} {l₂ : List β} (h : Paired F l₁ l₂) : ∀ ks : List Nat, Paired F (ks.filterMap fun k => l₁[k]?) (ks.filterMap fun k => l₂[k]?)
  | [] => .nil
  | k :: ks => by
    rcases pair_get k h with ⟨a, b⟩ | ⟨a, b, e1, e2, f⟩
    · rw [List.filterMap_cons_none a, List.filterMap_cons_none b]
      exact pair_pick h ks
    · rw [List.filterMap_cons_some e1, List.filterMap_cons_some e2]
      exact .cons f (pair_pick h ks)
section
variable {X : Cx} {e : Expr} {te : TE} {lo hi : Option Expr} {tl th ts : TO} {pos p2 : Pos}
def rStep (K : PySem.W.Frag) : V → Option Int → Option Int → Option Int → Hp → VK → Prop := fun x lo hi t H Q => ∃ a xs, x = .ref a ∧ t ≠ some 0 ∧ SqL K H a xs ∧ (pickV xs lo hi t).length ≤ sizeLine ∧ ∀ p, H p = none → Q (.ref p) (upd H p (.lst (pickV xs lo hi t)))
theorem pe_step {st : Expr} (he : PE X e te) (hl : PO X lo tl) (hu : PO X hi th) (ht : PO X (some st) ts) : PE X (.Subscript e (.Slice lo hi (some st) p2) pos) (tSl3 (rStep X.K) te tl th ts) := by
  refine ⟨fun pins s σ H Q I h => ?_⟩
  refine Subscript_ (thn (he.run pins s σ H _ I h) fun v s1 ⟨x, H1, I1, r1, q1⟩ => ?_)
  refine wpAny_Slice (thn (hl.run pins s1 σ H1 _ I1 q1) fun vl s2 ⟨l, H2, I2, pl, q2⟩ => thn (hu.run pins s2 σ H2 _ I2 q2) fun vu s3 ⟨u, H3, I3, pu, q3⟩ => thn (ht.run pins s3 σ H3 _ I3 q3) fun vt s4 ⟨t, H4, I4, pt, q4⟩ => ?_)
  have I5 : Inv X pins σ H4 { s4 with heap := s4.heap.push { cls := .type "slice", data := .fields #[vl, vu, vt] } } := I4.kept (t' := s4.toks) fun b ob q => Heap.get?_push_of_some _ q
  obtain ⟨a, xs, rfl, h0, hx, hsz, q⟩ := q4
  cases r1
  obtain ⟨its, r, hlist, hz⟩ := I5.list hx
  have hlen := r.length
  have hg : wpAny (model X.prog X.w) X.A (getItem (.ref a) (.ref s4.heap.objs.size)) (EP X pins σ Q) X.xe { s4 with heap := s4.heap.push { cls := .type "slice", data := .fields #[vl, vu, vt] } } := by
    refine wpAny_getItem_list_slice hlist.isList (Heap.IsSliceOf.new ..) pl pu pt h0 ?_ (by rw [List.size_toArray] <;> omega)
    have rp : Vals (pickV xs l u t) ((sliceRange (sliceBounds l u t its.length).1 (sliceBounds l u t its.length).2.1 (sliceBounds l u t its.length).2.2).filterMap fun k => its[k]?) := by
      unfold pickV
      rw [hlen]
      exact pair_pick r _
    have ep : slicePick its.toArray l u t = ((sliceRange (sliceBounds l u t its.length).1 (sliceBounds l u t its.length).2.1 (sliceBounds l u t its.length).2.2).filterMap fun k => its[k]?).toArray := by
      unfold slicePick
      simp only [List.size_toArray, List.getElem?_toArray]
    rw [ep]
    refine ⟨.ref _, _, I5.laid (t' := s4.toks) (o := .lst (pickV xs l u t)) (fun b ob q => Heap.get?_push_of_some _ q) (Nat.le_refl _) ?_, rfl, q _ (I5.hok.fresh (Nat.le_refl _))⟩
    exact ⟨hsz, _, 0, rp, Heap.get?_push_size _ rfl⟩
  show wpAny (model X.prog X.w) X.A (subscriptTail e (.Slice lo hi (some st) p2) (.ref a) (.ref s4.heap.objs.size)) (EP X pins σ Q) X.xe { s4 with heap := s4.heap.push { cls := .type "slice", data := .fields #[vl, vu, vt] } }
  exact tail_any hlist.isList.typeIs slot_list_getitem.lookup hg (by with_unfolding_all rfl)
end
end MoL

/-! # == by an own __eq__ that may answer False: tuples, != of instances, != of lists -/
namespace MoB
open PySem PySem.SeqAt
open AutoSeq1 (wpAny_loadPart')
open MeetsSeq MeetsSeq2 MeetsSeq3 SeqRoads2
section
variable {prog : Program} {w : World} {A : Around} {R : Result → Shared → Prop}
/-- two tuples, item by item: f i is what the i-th comparison gives -/
theorem tuple_eqB (l b : Addr) (items items2 : Array Value) (n n2 : Nat) (dd dd2 : Option Addr) (sl sl2 : Array (Option Value)) (f : Nat → Bool) (I : Nat → Shared → Prop)
    (turn : ∀ i (h1 : i < items.size) (h2 : i < items2.size) s, I i s → wpAny (model prog w) A.in1 (eqBool items[i] items2[i]) (fun r s' => r = f i ∧ I (i + 1) s') (fun e s' => R (.error e) s') s)
    (fin : ∀ i s, I i s → R (.ok (.ret (.bool ((List.range (min items.size items2.size)).all f && items.size == items2.size)))) s) {s : Shared} (hl1 : s.heap.get? l = some { cls := .type "tuple", dict := dd, data := .seq items n, slots := sl }) (hb1 : s.heap.get? b = some { cls := .type "tuple", dict := dd2, data := .seq items2 n2, slots := sl2 }) (h : I 0 s) :
    wpAny (model prog w) A.in1 (Builtin.«tuple.__eq__» ⟨[.ref l, .ref b], []⟩) (GQ.FinOf prog w A R) (fun e s' => R (.error e) s') s := by
  have f2 := AutoSeq1.sub_tuple_tuple
  have hZ : (items.toList.zip items2.toList).length = min items.size items2.size := by simp
  have h0 := h
  obtain ⟨hp, g, d, tk, os⟩ := s
  wp_walk using wpAny_loadPart' hl1, wpAny_loadPart' hb1, wpAny_forIn_list _ (fun rest b s' => b.1 = none ∧ ∃ i, rest = (items.toList.zip items2.toList).drop i ∧ (List.range (min items.size items2.size)).all f = ((List.range (min items.size items2.size)).drop i).all f ∧ I i s') _
  case turn =>
    rintro ⟨y, x⟩ rest b s' ⟨hb', i, hz, hR, hI⟩
    have hlt : i < (items.toList.zip items2.toList).length := by
      rcases Nat.lt_or_ge i (items.toList.zip items2.toList).length with h' | h'
      · exact h'
      · rw [List.drop_of_length_le h'] at hz; cases hz
    have hm : i < min items.size items2.size := hZ ▸ hlt
    have h1 : i < items.size := Nat.lt_of_lt_of_le hm (Nat.min_le_left _ _)
    have h2 : i < items2.size := Nat.lt_of_lt_of_le hm (Nat.min_le_right _ _)
    rw [List.drop_eq_getElem_cons hlt] at hz
    injection hz with hyx hrest
    have hy : y = items[i] := by have := congrArg Prod.fst hyx; simpa using this
    have hx : x = items2[i] := by have := congrArg Prod.snd hyx; simpa using this
    subst hy hx
    have hd : (List.range (min items.size items2.size)).drop i = i :: (List.range (min items.size items2.size)).drop (i + 1) := by simp [List.drop_eq_getElem_cons, hm]
    rw [hd, List.all_cons] at hR
    refine wpAny_bind (wpAny_mono (turn i h1 h2 s' hI) (fun r s2 q2 => ?_) fun _ _ x => x)
    obtain ⟨hr, q2⟩ := q2
    subst hr
    have hfin := fin _ _ q2
    cases hy : f i with
    | true =>
      rw [hy] at hR
      wp_walk
      exact ⟨rfl, i + 1, hrest, by simpa using hR, q2⟩
    | false =>
      rw [hy] at hR
      have e0 : (List.range (min items.size items2.size)).all f = false := by simpa using hR
      rw [e0] at hfin
      wp_walk
      simpa using hfin
  case fin =>
    rintro ⟨b1, b2⟩ s' ⟨hb', i, hz, hR, hI⟩
    simp only at hb'
    subst hb'
    have hge : min items.size items2.size ≤ i := by
      rcases Nat.lt_or_ge i (items.toList.zip items2.toList).length with h' | h'
      · rw [List.drop_eq_getElem_cons h'] at hz; cases hz
      · exact hZ ▸ h'
    rw [List.drop_of_length_le (by simpa using hge)] at hR
    have hfin := fin _ _ hI
    rw [hR] at hfin
    wp_walk
    simpa [Builtin.Tuple.tupleCompareSizes] using hfin
  case h =>
    exact ⟨rfl, 0, rfl, rfl, h0⟩
end
section
variable {prog : Program} {w : World} {A : Around} {E : Value → Shared → Prop} {s : Shared}
theorem rc_tupB {l b : Addr} {items items2 : Array Value} {Q : Value → Shared → Prop} (hu : A.units < cLine) (f : Nat → Bool) (I : Nat → Shared → Prop)
    (hl : s.heap.IsTuple l items) (hb : s.heap.IsTuple b items2)
    (turn : ∀ i (h1 : i < items.size) (h2 : i < items2.size) s, I i s → wpAny (model prog w) A.in1 (eqBool items[i] items2[i]) (fun r s' => r = f i ∧ I (i + 1) s') E s)
    (fin : ∀ i s, I i s → Q (.bool ((List.range (min items.size items2.size)).all f && items.size == items2.size)) s) (h : I 0 s) : wpAny (model prog w) A (richCompare .Eq (.ref l) (.ref b)) Q E s := by
  obtain ⟨⟨cls, dd, data, sl⟩, ho, hc, n, hd⟩ := id hl
  obtain ⟨⟨cls2, dd2, data2, sl2⟩, ho2, hc2, n2, hd2⟩ := id hb
  simp only at hc hd hc2 hd2
  subst hc hd hc2 hd2
  refine wpAny_richCompare_same_room (op := .Eq) ⟨_, ho, rfl⟩ ⟨_, ho2, rfl⟩ F.slot_tuple_eq (GQ.call_here F.slot_tuple_eq ⟨_, ho, rfl⟩ F.entry_tuple_eq (F.args_tuple_eq_2 _ _) ?_) hu
  exact tuple_eqB (R := wants (fun v s' => v ≠ .notImplemented ∧ Q v s') E) l b items items2 n n2 dd dd2 sl sl2 f I turn (fun i s' q => ⟨(fun x => nomatch x), fin i s' q⟩) ho ho2 h
end
end MoB
namespace MoW
open PySem PySem.W PyProof.Rows
section
variable {prog : Program} {w : World} {A : Around} {E : Value → Shared → Prop} {s : Shared} {K : Frag} {x y C f : Addr} {ox oy : Obj} {od od' : Option Obj}
theorem ne_slot : Slot "object" "__ne__" "object.__ne__" := Slot.of (T := "object") (name := "__ne__") (owner := "object") (n := "__ne__") (by rw [typeLookup_type, builtinLookup_eq_fast]; kernel_rfl) (by decide +kernel) (by decide +kernel) (by decide +kernel) (.inl (by decide +kernel)) (by rw [isSubtype_type]; kernel_rfl)
/-- x != y, the class has an own __eq__ and object's __ne__ -/
theorem ne_own {Q : Value → Shared → Prop} (hu : A.units + 1 < cLine) (X : K.In s.heap) (I : InstAt s.heap x ox C od) (J : InstAt s.heap y oy C od') (hm : mroIn K C (.type "object") = some true)
    (hn : findIn K (.ref C) "__ne__" = some (some (.builtin "object.__ne__"))) (he : findIn K (.ref C) "__eq__" = some (some (.ref f))) (hf : isFn K (.ref f) = true)
    (h : wpAny (model prog w) A.in1 (call (.ref f) [.ref x, .ref y]) (fun v s' => ∃ b, v = .bool b ∧ Q (.bool (!b)) s') E s) : wpAny (model prog w) A (richCompare .NotEq (.ref x) (.ref y)) Q E s := by
  have top : Looks (model prog w) s.heap (isInstance (.ref x) (.type "object")) true := I.type.andThen (looks_mroIn X hm)
  have body : wpAny (model prog w) A.in1 (Builtin.«object.__ne__» ⟨[.ref x, .ref y], []⟩) (fun fin s' => match fin with | .done f => wants (fun v s' => ∃ b, v = .bool b ∧ Q (.bool b) s') E (.ok f) s' | .again c' => c'.quiet = true ∧ codeAny (model prog w) A c' (wants (fun v s' => ∃ b, v = .bool b ∧ Q (.bool b) s') E) s') (fun e s' => wants (fun v s' => ∃ b, v = .bool b ∧ Q (.bool b) s') E (.error e) s') s := by
    unfold Builtin.«object.__ne__»
    repeat (first
      | with_reducible refine wpAny_cRoomFor hu ?_
      | (refine wpAny_bind (m := callSpecialIfBound? (.ref x) (Str.ofString "__eq__") [.ref y])
          (ifBound_K X I he hf (wpAny_mono h (fun r s' hr => by
            obtain ⟨b, rfl, hq⟩ := hr
            repeat (first | exact ⟨_, rfl, hq⟩ | exact wpAny_pure ⟨_, rfl, hq⟩ | (refine wpAny_bind (m := truthy (.bool _)) (wpAny_truthy_bool ?_)) | wp_step)) fun _ _ e => e)))
      | wp_step)
  have one : wpAny (model prog w) A (tryCompare (.ref x) "__ne__" (.ref y)) (fun r s' => ∃ v, r = some v ∧ Q v s') E s := by
    unfold tryCompare
    simp only [callSpecialIfBound?, bindSpecialIfBound?]
    have cl : wpAny (model prog w) A (call (.builtin "object.__ne__") ([.ref x] ++ [.ref y])) (fun v s' => ∃ b, v = .bool b ∧ Q (.bool b) s') E s :=
      wpAny_call (codeAny_call_builtin ne_slot.plain PySem.F.cmpEntry_ne (check_slot PySem.F.cmpKind_ne PySem.F.cmpSplit_ne top (PySem.F.cmpArgs_ne _ _) body))
    have fin : wpAny (model prog w) A (call (.builtin "object.__ne__") ([.ref x] ++ [.ref y]) >>= fun v => pure (some v)) (fun r s' => ∃ b, r = some (.bool b) ∧ Q (.bool b) s') E s := wpAny_bind (wpAny_mono cl (fun v s' h' => by
      obtain ⟨b, rfl, q⟩ := h'
      exact wpAny_pure ⟨b, rfl, q⟩) fun _ _ h' => h')
    have bnd : bindSpecial (.builtin "object.__ne__") (.ref x) = pure (.builtin "object.__ne__", [.ref x]) := ne_slot.bind _
    refine wpAny_bind (wpAny_mono (Q := fun r s' => ∃ b, r = some (.bool b) ∧ Q (.bool b) s') ?_ (fun r s' hr => ?_) fun _ _ e => e)
    · refine wpAny_holding (wpAny_bind (wpAny_bind (wpAny_bind (I.type.here ((looks_findIn X hn).here ?_)))))
      refine wpAny_bind (wpAny_askSetting (wpAny_ite ?_))
      split
      · exact wpAny_bind (wpAny_of_eq bnd (wpAny_pure (by exact fin)))
      · exact wpAny_tryCatch (wpAny_bind (wpAny_of_eq bnd (wpAny_pure (by exact fin))))
    · obtain ⟨b, rfl, q⟩ := hr
      exact wpAny_pure ⟨_, rfl, q⟩
  unfold richCompare
  simp only [oneThing_ref]
  refine wpAny_holding (wpAny_bind (wpAny_cRoomFor (Nat.lt_of_succ_lt hu) ?_))
  refine wpAny_bind (I.type.here (wpAny_bind (J.type.here ?_)))
  rw [show (Value.ref C != Value.ref C) = false from by simp]
  simp only [Bool.false_eq_true, if_false]
  refine wpAny_bind (wpAny_pure ?_)
  simp only [Bool.false_eq_true, if_false]
  refine wpAny_bind (wpAny_mono one (fun r s' z => ?_) fun _ _ e => e)
  obtain ⟨v, rfl, hq⟩ := z
  exact wpAny_pure hq
end
end MoW
namespace MoL
open PySem PySem.Spec PyProof.Rows L2 MoW
section
variable {X : Cx} {CX : CXT} {n : Nat} {C f : Addr} {fd : FuncData} {ps : List Str} {sp : Sp} {E : XK}
/-- the callee runs somewhere below the body -/
theorem run_sub {A : Around} {pins : List (Addr × Obj)} {σ : L2.St} {H : Hp} {s : Shared} {Q : VK} {us : List Value} {vs : List V} (F : FnOk X.prog X.w X.K X.mg X.base CX n f fd ps sp) (sb : Sub X n A) (hb : Binds X.K fd ps []) (hx : Passes CX X E)
    (I : Inv X pins σ H s) (r : Vals vs us) (h : sp vs H Q E) : wpAny (model X.prog X.w) A (call (.ref f) us) (EP X pins σ Q) X.xe s := by
  have e0 : Env0 X.prog X.w X.K X.mg X.base A X.stack s H := by
    have e := I.env0
    exact ⟨by rw [sb.fr]; exact e.frames, e.mod, e.bs, e.bsz, e.funs, e.frf, e.hok, e.bare⟩
  have hl := F.len _ _ _ _ h
  have hu : us.length = ps.length := by rw [← r.length]; exact hl
  refine wpAny_call (codeAny_mono (F.run A X.stack s H ⟨us, []⟩ us vs Q E sb.room e0 (by
    have := hb s us I.kIn (by simpa using hu)
    simpa using this) r h) fun r s' hq => ?_)
  cases r with
  | error e => exact hx pins σ H s e s' I hq
  | ok fl =>
    cases fl with
    | ret w => exact I.after hq
    | next => exact False.elim hq
    | brk => exact False.elim hq
    | cont => exact False.elim hq
/-- == gives what D says, and only makes objects -/
def EqB (X : Cx) (n : Nat) (D : V → V → Hp → Bool → Prop) : Prop :=
  ∀ (A : Around) (pins : List (Addr × Obj)) (s : Shared) (σ : L2.St) (H : Hp) (x y : V) (u v : Value) (b : Bool), Sub X n A → Inv X pins σ H s → RelV x u → RelV y v → D x y H b →
    wpAny (model X.prog X.w) A (eqBool u v) (fun r s' => r = b ∧ ∃ H', Inv X pins σ H' s' ∧ Ext H H') X.xe s
def RcB (X : Cx) (n : Nat) (D : V → V → Hp → Bool → Prop) : Prop :=
  ∀ (A : Around) (pins : List (Addr × Obj)) (s : Shared) (σ : L2.St) (H : Hp) (x y : V) (u v : Value) (b : Bool), Sub X n A → Inv X pins σ H s → RelV x u → RelV y v → D x y H b →
    wpAny (model X.prog X.w) A (richCompare .Eq u v) (fun r s' => r = .bool b ∧ ∃ H', Inv X pins σ H' s' ∧ Ext H H') X.xe s
def MonB (D : V → V → Hp → Bool → Prop) : Prop := ∀ x y H H' b, Ext H H' → D x y H b → D x y H' b
theorem RcB.eqB {D : V → V → Hp → Bool → Prop} (h : RcB X n D) (hr : ∀ x y H b, D x y H b → ∃ a c, x = .ref a ∧ y = .ref c ∧ (a = c → b = true)) : EqB X n D := by
  intro A pins s σ H x y u v b sb I rx ry d
  obtain ⟨a, c, rfl, rfl, same⟩ := hr _ _ _ _ d
  cases rx
  cases ry
  by_cases hab : a = c
  · have e := same hab
    subst hab
    subst e
    exact SeqAt.EqAt.same (A := A) (s := s) (.ref a) X.prog X.w X.xe _ ⟨rfl, H, I, Ext.rfl'⟩
  · refine GQ.eqBool_refG hab (wpAny_mono (h A pins s σ H (.ref a) (.ref c) _ _ b sb I rfl rfl d) (fun r s' q => ?_) fun _ _ x => x)
    obtain ⟨hr', q⟩ := q
    exact ⟨b, hr', rfl, q⟩
/-- instances of C with an own == -/
def InsB (C : Addr) (R : Addr → Addr → Hp → Bool → Prop) : V → V → Hp → Bool → Prop := fun x y H r => ∃ a b dx dy fs gs, x = .ref a ∧ y = .ref b ∧ H a = some (.ins C dx fs) ∧ H b = some (.ins C dy gs) ∧ R a b H r
def spEqB (R : Addr → Addr → Hp → Bool → Prop) : Sp := fun vs H Q _ => ∃ a b r, vs = [.ref a, .ref b] ∧ R a b H r ∧ ∀ H', Ext H H' → Q (.bl r) H'
theorem rcB_ins {R : Addr → Addr → Hp → Bool → Prop} (F : FnOk X.prog X.w X.K X.mg X.base CX n f fd ps (spEqB R)) (hs : PySem.W.findIn X.K (.ref C) "__eq__" = some (some (.ref f))) (hf : PySem.W.isFn X.K (.ref f) = true) (hb : Binds X.K fd ps []) (hx : Passes CX X E) : RcB X n (InsB C R) := by
  intro A pins s σ H x y u v r sb I rx ry d
  obtain ⟨a, b, dx, dy, fs, gs, rfl, rfl, ha, hb', hr⟩ := d
  cases rx
  cases ry
  obtain ⟨mA, J, _⟩ := ins_get I.hok ha
  obtain ⟨mB, J', _⟩ := ins_get I.hok hb'
  obtain ⟨od, J, _⟩ := J.look
  obtain ⟨od', J', _⟩ := J'.look
  obtain ⟨m, hF⟩ := I.fr
  refine PySem.W.cmp_K (op := .Eq) (tb := .ref C) sb.room.units0 hF I.ok.mod.kin J J'.type (by simp [PySem.W.notFirst]) hs hf ?_
  have hsp : spEqB R [.ref a, .ref b] H (fun v H' => v = .bl r ∧ Ext H H') E := ⟨a, b, r, rfl, hr, fun H' e => ⟨rfl, e⟩⟩
  refine wpAny_mono (run_sub (us := [.ref a, .ref b]) (vs := [.ref a, .ref b]) F sb hb hx I (.cons rfl (.cons rfl .nil)) hsp) (fun w s' q => ?_) fun _ _ e => e
  obtain ⟨z, H', I', rz, ez, ex⟩ := q
  subst ez
  cases rz
  exact ⟨rfl, H', I', ex⟩
/-- two tuples: f i tells of the i-th two -/
def TupB (K : PySem.W.Frag) (D : V → V → Hp → Bool → Prop) : V → V → Hp → Bool → Prop := fun x y H r => ∃ a b xs ys f, x = .ref a ∧ y = .ref b ∧ SqT K H a xs ∧ SqT K H b ys ∧ (∀ i u v, xs[i]? = some u → ys[i]? = some v → D u v H (f i)) ∧ r = ((List.range (min xs.length ys.length)).all f && xs.length == ys.length)
theorem rcB_tup {D : V → V → Hp → Bool → Prop} (hD : MonB D) (h : EqB X n D) : RcB X (n + 1) (TupB X.K D) := by
  intro A pins s σ H x y u v r sb I rx ry d
  obtain ⟨a, b, xs, ys, f, rfl, rfl, ha, hb, p, rfl⟩ := d
  cases rx
  cases ry
  obtain ⟨its, r, e, z⟩ := I.tuple ha
  obtain ⟨its2, r2, e2, z2⟩ := I.tuple hb
  have l1 := r.length
  have l2 := r2.length
  refine MoB.rc_tupB sb.room.units0 f (fun _ s' => LoopI X pins σ H s') e e2 (fun i h1 h2 s' l => ?_) (fun i s' q => ?_) ⟨H, I, Ext.rfl'⟩
  · obtain ⟨H1, I1, e1⟩ := l
    have g1 : its[i]? = some its.toArray[i] := by
      have h1' : i < its.length := by simpa using h1
      rw [List.getElem?_eq_getElem h1'] <;> simp
    have g2 : its2[i]? = some its2.toArray[i] := by
      have h2' : i < its2.length := by simpa using h2
      rw [List.getElem?_eq_getElem h2'] <;> simp
    have k1 : i < xs.length := by rw [l1]; simpa using h1
    have k2 : i < ys.length := by rw [l2]; simpa using h2
    obtain ⟨u, hu, ru⟩ := r.get (List.getElem?_eq_getElem k1)
    obtain ⟨v, hv, rv⟩ := r2.get (List.getElem?_eq_getElem k2)
    rw [g1] at hu
    rw [g2] at hv
    rw [Option.some.inj hu, Option.some.inj hv]
    refine wpAny_mono (h A.in1 pins s' σ H1 _ _ u v (f i) sb.in1 I1 ru rv (hD _ _ _ _ _ e1 (p i _ _ (List.getElem?_eq_getElem k1) (List.getElem?_eq_getElem k2)))) (fun r s2 q => ?_) fun _ _ x => x
    obtain ⟨hr, H2, I2, e2⟩ := q
    exact ⟨hr, H2, I2, e1.trans e2⟩
  · rw [List.size_toArray, List.size_toArray, ← l1, ← l2]
    exact ⟨rfl, q⟩
/-- x == y as an expression -/
theorem op_eqB {D : V → V → Hp → Bool → Prop} (h : RcB X n D) (hr : Room n X.A) : OpR X (compareOp .Eq) (fun x y H Q => ∃ r, D x y H r ∧ ∀ H', Ext H H' → Q (.bl r) H') := by
  intro pins s σ H x y v u Q I rx ry hq
  obtain ⟨r, d, q⟩ := hq
  show wpAny (model X.prog X.w) X.A (richCompare .Eq v u) (EP X pins σ Q) X.xe s
  refine wpAny_mono (h X.A pins s σ H x y v u r ⟨hr, rfl⟩ I rx ry d) (fun w s' z => ?_) fun _ _ x => x
  obtain ⟨hr', H', I', e⟩ := z
  subst hr'
  exact ⟨.bl r, H', I', rfl, q H' e⟩
/-- x != y, two instances of a class with an own == and object's != -/
theorem op_ne_own0 (hm : PySem.W.mroIn X.K C (.type "object") = some true) (hn : PySem.W.findIn X.K (.ref C) "__ne__" = some (some (.builtin "object.__ne__"))) (m : Meth X.K C "__eq__" f) (run : FnOk X.prog X.w X.K X.mg X.base CX n f fd ps sp) (hr : Room (n + 1) X.A) (hb : Binds X.K fd ps []) (hx : Passes CX X E) :
    OpR X (compareOp .NotEq) (fun x y H Q => Ins H x C ∧ Ins H y C ∧ sp [x, y] H (fun v H' => ∃ b, v = .bl b ∧ Q (.bl (!b)) H') E) := by
  intro pins s σ H x y v u Q I rx ry h
  obtain ⟨⟨a, dx, fs, rfl, ha⟩, ⟨b, dy, gs, rfl, hb'⟩, hs⟩ := h
  cases (show v = Value.ref a from rx)
  cases (show u = Value.ref b from ry)
  obtain ⟨mA, J, _⟩ := ins_get I.hok ha
  obtain ⟨mB, J', _⟩ := ins_get I.hok hb'
  obtain ⟨od, J, _⟩ := J.look
  obtain ⟨od', J', _⟩ := J'.look
  show wpAny (model X.prog X.w) X.A (richCompare .NotEq (.ref a) (.ref b)) (EP X pins σ Q) X.xe s
  have sb : Sub X (n + 1) X.A := ⟨hr, rfl⟩
  refine ne_own (Nat.lt_of_le_of_lt (by show X.A.units + 1 ≤ X.A.in1.units; first | exact Nat.le_refl _ | (simp [Around.in1, Around.units])) sb.in1.room.units0) I.kIn J J' hm hn m.at_ m.fn ?_
  refine wpAny_mono (run_sub (us := [.ref a, .ref b]) (vs := [.ref a, .ref b]) run sb.in1 hb hx I (.cons rfl (.cons rfl .nil)) hs) (fun w s' q => ?_) fun _ _ e => e
  obtain ⟨z, H', I', rz, c, rfl, q⟩ := q
  cases rz
  exact ⟨c, rfl, .bl (!c), H', I', rfl, q⟩
end
end MoL

/-! # != of two lists of the same things -/
namespace MoL
open PySem PySem.Spec PyProof.Rows L2 MoW
/-- what is seen to be equal to itself without a call -/
def selfV (x : V) : Prop := (∃ i, x = .int i) ∨ ∃ a, x = .ref a
theorem eqAt_self {A : Around} {s : Shared} {x : V} {u v : Value} (h : selfV x) (ru : RelV x u) (rv : RelV x v) : PySem.SeqAt.EqAt A s u v true := by
  rcases h with ⟨i, rfl⟩ | ⟨a, rfl⟩
  · have q := eqAt_V (A := A) (s := s) ru rv rfl rfl
    rw [show eqV (V.int i) (V.int i) = true by show (i == i) = true; simp] at q
    exact q
  · cases (show u = Value.ref a from ru)
    cases (show v = Value.ref a from rv)
    exact PySem.SeqAt.EqAt.same _
theorem op_neL {X : Cx} (hu : X.A.units + 64 < cLine) : OpR X (compareOp .NotEq) (fun x y H Q => ∃ a b xs, x = .ref a ∧ y = .ref b ∧ H a = some (.lst xs) ∧ H b = some (.lst xs) ∧ (∀ z ∈ xs, selfV z) ∧ Q (.bl false) H) := by
  intro pins s σ H x y v u Q I rx ry h
  obtain ⟨a, b, xs, rfl, rfl, ha, hb, hs, q⟩ := h
  cases rx
  cases ry
  obtain ⟨z, its, k, r, e⟩ := I.hok a _ ha
  obtain ⟨z2, its2, k2, r2, e2⟩ := I.hok b _ hb
  have l1 := r.length
  have l2 := r2.length
  show wpAny (model X.prog X.w) X.A (richCompare .NotEq (.ref a) (.ref b)) (EP X pins σ Q) X.xe s
  refine wpAny_richCompare_same_room (op := .NotEq) ⟨_, e, rfl⟩ ⟨_, e2, rfl⟩ F.slot_list_ne (GQ.call_here F.slot_list_ne ⟨_, e, rfl⟩ F.entry_list_ne (F.args_list_ne_2 _ _) ?_) (Nat.lt_of_le_of_lt (Nat.le_add_right _ 64) hu)
  have hm := PySem.SeqAt.list_neAt a b its.toArray its2.toArray k k2 none none #[] #[] (by rw [List.size_toArray, List.size_toArray]; omega) (fun _ => true) X.prog X.w X.A (wants (fun v s' => v ≠ .notImplemented ∧ EP X pins σ Q v s') X.xe) s
  refine hm ⟨e, e2, fun j h1 h2 => ?_, ?_⟩
  · have k1 : j < xs.length := by rw [l1]; simpa using h1
    obtain ⟨u1, hu1, ru⟩ := r.get (List.getElem?_eq_getElem k1)
    obtain ⟨v1, hv1, rv⟩ := r2.get (List.getElem?_eq_getElem k1)
    have g1 : its[j]? = some its.toArray[j] := by
      have h1' : j < its.length := by simpa using h1
      rw [List.getElem?_eq_getElem h1'] <;> simp
    have g2 : its2[j]? = some its2.toArray[j] := by
      have h2' : j < its2.length := by simpa using h2
      rw [List.getElem?_eq_getElem h2'] <;> simp
    rw [g1] at hu1
    rw [g2] at hv1
    rw [Option.some.inj hu1, Option.some.inj hv1]
    exact eqAt_self (hs _ (List.getElem_mem k1)) ru rv
  · have e0 : (List.range its.toArray.size).all (fun _ => true) = true := by simp
    rw [e0]
    exact ⟨(fun x => nomatch x), .bl false, H, I, rfl, q⟩
end MoL

namespace Mo
open PySem PySem.Spec PyProof.Rows L2 MoL MoW
open C8 (pss_cut tCut)
/-! ### the text -/
def topS (i : Nat) : Stmt := PySem.Challenge.pw_momentrows_k06_poly_fields.main.body.getD i (.Pass ⟨0, 0, 0, 0⟩)
abbrev s_Ratio___init__ : Stmt := inClass (topS 11) 0
abbrev N_Ratio___init__ : List Str := ["self", "top", "bottom", "shared"]
theorem sc_Ratio___init__ : FnScope N_Ratio___init__ ["self", "top", "bottom"] (defScope s_Ratio___init__) := ⟨rfl, rfl, rfl, by decide +kernel, rfl, by decide +kernel, by decide +kernel⟩
abbrev s_Ratio___add__ : Stmt := inClass (topS 11) 1
abbrev N_Ratio___add__ : List Str := ["self", "other"]
theorem sc_Ratio___add__ : FnScope N_Ratio___add__ ["self", "other"] (defScope s_Ratio___add__) := ⟨rfl, rfl, rfl, by decide +kernel, rfl, by decide +kernel, by decide +kernel⟩
abbrev s_Ratio___radd__ : Stmt := inClass (topS 11) 2
abbrev N_Ratio___radd__ : List Str := ["self", "other"]
theorem sc_Ratio___radd__ : FnScope N_Ratio___radd__ ["self", "other"] (defScope s_Ratio___radd__) := ⟨rfl, rfl, rfl, by decide +kernel, rfl, by decide +kernel, by decide +kernel⟩
abbrev s_Ratio___eq__ : Stmt := inClass (topS 11) 14
abbrev N_Ratio___eq__ : List Str := ["self", "other"]
theorem sc_Ratio___eq__ : FnScope N_Ratio___eq__ ["self", "other"] (defScope s_Ratio___eq__) := ⟨rfl, rfl, rfl, by decide +kernel, rfl, by decide +kernel, by decide +kernel⟩
abbrev s_is_whole : Stmt := topS 12
abbrev N_is_whole : List Str := ["x"]
theorem sc_is_whole : FnScope N_is_whole ["x"] (defScope s_is_whole) := ⟨rfl, rfl, rfl, by decide +kernel, rfl, by decide +kernel, by decide +kernel⟩
abbrev s_is_number : Stmt := topS 13
abbrev N_is_number : List Str := ["x"]
theorem sc_is_number : FnScope N_is_number ["x"] (defScope s_is_number) := ⟨rfl, rfl, rfl, by decide +kernel, rfl, by decide +kernel, by decide +kernel⟩
abbrev s_ratio_of : Stmt := topS 14
abbrev N_ratio_of : List Str := ["number"]
theorem sc_ratio_of : FnScope N_ratio_of ["number"] (defScope s_ratio_of) := ⟨rfl, rfl, rfl, by decide +kernel, rfl, by decide +kernel, by decide +kernel⟩
abbrev s_sum_ratios : Stmt := topS 16
abbrev N_sum_ratios : List Str := ["one", "other"]
theorem sc_sum_ratios : FnScope N_sum_ratios ["one", "other"] (defScope s_sum_ratios) := ⟨rfl, rfl, rfl, by decide +kernel, rfl, by decide +kernel, by decide +kernel⟩
abbrev s__gap : Stmt := topS 23
abbrev N__gap : List Str := ["one", "other"]
theorem sc__gap : FnScope N__gap ["one", "other"] (defScope s__gap) := ⟨rfl, rfl, rfl, by decide +kernel, rfl, by decide +kernel, by decide +kernel⟩
abbrev s_trimmed : Stmt := topS 26
abbrev N_trimmed : List Str := ["numbers", "size"]
theorem sc_trimmed : FnScope N_trimmed ["numbers"] (defScope s_trimmed) := ⟨rfl, rfl, rfl, by decide +kernel, rfl, by decide +kernel, by decide +kernel⟩
abbrev s_Poly___init__ : Stmt := inClass (topS 31) 0
abbrev N_Poly___init__ : List Str := ["self", "coefficients", "number"]
theorem sc_Poly___init__ : FnScope N_Poly___init__ ["self", "coefficients"] (defScope s_Poly___init__) := ⟨rfl, rfl, rfl, by decide +kernel, rfl, by decide +kernel, by decide +kernel⟩
abbrev s_Poly___eq__ : Stmt := inClass (topS 31) 2
abbrev N_Poly___eq__ : List Str := ["self", "other"]
theorem sc_Poly___eq__ : FnScope N_Poly___eq__ ["self", "other"] (defScope s_Poly___eq__) := ⟨rfl, rfl, rfl, by decide +kernel, rfl, by decide +kernel, by decide +kernel⟩
abbrev s__law_is_integer : Stmt := topS 41
abbrev N__law_is_integer : List Str := ["_law_value"]
theorem sc__law_is_integer : FnScope N__law_is_integer ["_law_value"] (defScope s__law_is_integer) := ⟨rfl, rfl, rfl, by decide +kernel, rfl, by decide +kernel, by decide +kernel⟩
abbrev s__law_feed : Stmt := topS 42
abbrev N__law_feed : List Str := ["_law_script", "_law_cell"]
theorem sc__law_feed : FnScope N__law_feed ["_law_script"] (defScope s__law_feed) := ⟨rfl, rfl, rfl, by decide +kernel, rfl, by decide +kernel, by decide +kernel⟩
abbrev s__law_take : Stmt := topS 43
abbrev N__law_take : List Str := ["_law_feed_here", "_law_size", "_law_cell", "_law_digit", "_law_number_here"]
theorem sc__law_take : FnScope N__law_take ["_law_feed_here", "_law_size"] (defScope s__law_take) := ⟨rfl, rfl, rfl, by decide +kernel, rfl, by decide +kernel, by decide +kernel⟩
abbrev s__law_number : Stmt := topS 44
abbrev N__law_number : List Str := ["_law_feed_here", "_law_size", "_law_sign"]
theorem sc__law_number : FnScope N__law_number ["_law_feed_here", "_law_size"] (defScope s__law_number) := ⟨rfl, rfl, rfl, by decide +kernel, rfl, by decide +kernel, by decide +kernel⟩
abbrev s__law_pair : Stmt := topS 45
abbrev N__law_pair : List Str := ["_law_feed_here", "_law_size"]
theorem sc__law_pair : FnScope N__law_pair ["_law_feed_here", "_law_size"] (defScope s__law_pair) := ⟨rfl, rfl, rfl, by decide +kernel, rfl, by decide +kernel, by decide +kernel⟩
abbrev s__law_is : Stmt := topS 46
abbrev N__law_is : List Str := ["_law_value", "_law_top", "_law_bottom"]
theorem sc__law_is : FnScope N__law_is ["_law_value", "_law_top", "_law_bottom"] (defScope s__law_is) := ⟨rfl, rfl, rfl, by decide +kernel, rfl, by decide +kernel, by decide +kernel⟩
abbrev s__law_poly_is : Stmt := topS 47
abbrev N__law_poly_is : List Str := ["_law_p", "_law_pairs_here", "_law_size", "_law_k"]
theorem sc__law_poly_is : FnScope N__law_poly_is ["_law_p", "_law_pairs_here"] (defScope s__law_poly_is) := ⟨rfl, rfl, rfl, by decide +kernel, rfl, by decide +kernel, by decide +kernel⟩
abbrev s__law_refused : Stmt := topS 48
abbrev N__law_refused : List Str := ["_law_value", "_law_found", "e"]
theorem sc__law_refused : FnScope N__law_refused ["_law_value"] (defScope s__law_refused) := ⟨rfl, rfl, rfl, by decide +kernel, rfl, by decide +kernel, by decide +kernel⟩
abbrev s__law_pairs : Stmt := topS 49
abbrev N__law_pairs : List Str := ["_law_feed_here", "_law_pairs_here", "_law_k", "_law_pair_here"]
theorem sc__law_pairs : FnScope N__law_pairs ["_law_feed_here"] (defScope s__law_pairs) := ⟨rfl, rfl, rfl, by decide +kernel, rfl, by decide +kernel, by decide +kernel⟩
abbrev s__law_items : Stmt := topS 50
abbrev N__law_items : List Str := ["_law_pairs_here", "_law_items_here", "_law_pair_here"]
theorem sc__law_items : FnScope N__law_items ["_law_pairs_here"] (defScope s__law_items) := ⟨rfl, rfl, rfl, by decide +kernel, rfl, by decide +kernel, by decide +kernel⟩
abbrev s_law : Stmt := topS 51
abbrev N_law : List Str := ["_law_script", "_law_feed_here", "_law_strange", "_law_k", "_law_pairs_here", "_law_zeros", "_law_items_here", "_law_handed", "_law_p", "_law_q", "_law_at", "_law_other", "_law_bad"]
theorem sc_law : FnScope N_law ["_law_script"] (defScope s_law) := ⟨rfl, rfl, rfl, by decide +kernel, rfl, by decide +kernel, by decide +kernel⟩
/-! ### addresses and function objects -/
structure Ad where
  Ratio : Addr
  Poly : Addr
  NoPoly : Addr
  MeansError : Addr
  NoRatio : Addr
  f_Ratio___init__ : Addr
  f_Ratio___add__ : Addr
  f_Ratio___radd__ : Addr
  f_Ratio___eq__ : Addr
  f_is_whole : Addr
  f_is_number : Addr
  f_ratio_of : Addr
  f_sum_ratios : Addr
  f__gap : Addr
  f_trimmed : Addr
  f_Poly___init__ : Addr
  f_Poly___eq__ : Addr
  f__law_is_integer : Addr
  f__law_feed : Addr
  f__law_take : Addr
  f__law_number : Addr
  f__law_pair : Addr
  f__law_is : Addr
  f__law_poly_is : Addr
  f__law_refused : Addr
  f__law_pairs : Addr
  f__law_items : Addr
  f_law : Addr
structure Fd where
  f_Ratio___init__ : FuncData
  f_Ratio___add__ : FuncData
  f_Ratio___radd__ : FuncData
  f_Ratio___eq__ : FuncData
  f_is_whole : FuncData
  f_is_number : FuncData
  f_ratio_of : FuncData
  f_sum_ratios : FuncData
  f__gap : FuncData
  f_trimmed : FuncData
  f_Poly___init__ : FuncData
  f_Poly___eq__ : FuncData
  f__law_is_integer : FuncData
  f__law_feed : FuncData
  f__law_take : FuncData
  f__law_number : FuncData
  f__law_pair : FuncData
  f__law_is : FuncData
  f__law_poly_is : FuncData
  f__law_refused : FuncData
  f__law_pairs : FuncData
  f__law_items : FuncData
  f_law : FuncData
/-- what the written part says -/
structure Txt (K : PySem.W.Frag) (mg : Str → Option Value) (A : Ad) (D : Fd) : Prop where
  g_Ratio : mg "Ratio" = some (.ref A.Ratio)
  k_Ratio : OwnK K A.Ratio
  kp_Ratio : PySem.W.keepIn K (.ref A.Ratio) = true
  M_Ratio : Mk K A.Ratio A.f_Ratio___init__
  g_Poly : mg "Poly" = some (.ref A.Poly)
  k_Poly : OwnB K A.Poly
  n_Poly_coefficients : NoAttr K A.Poly "coefficients"
  n_Poly_degree : NoAttr K A.Poly "degree"
  n_Poly_lead : NoAttr K A.Poly "lead"
  kp_Poly : PySem.W.keepIn K (.ref A.Poly) = true
  M_Poly : Mk K A.Poly A.f_Poly___init__
  g_MeansError : mg "MeansError" = some (.ref A.MeansError)
  g_NoRatio : mg "NoRatio" = some (.ref A.NoRatio)
  g_NoPoly : mg "NoPoly" = some (.ref A.NoPoly)
  e_NoPoly : ErrC K A.MeansError A.NoPoly "NoPoly"
  xn_NoPoly : PySem.W.excIn K A.NoPoly [.type "ValueError", .type "Exception", .type "BaseException", .type "object"] "ValueError.__new__" = true
  F_Ratio___init__ : FunD K "__init__" "Ratio.__init__" (defArgs s_Ratio___init__) (defBody s_Ratio___init__) (defScope s_Ratio___init__) [.int 1] [] A.f_Ratio___init__ D.f_Ratio___init__
  b_Ratio___init__ : Binds K D.f_Ratio___init__ ["self", "top", "bottom"] []
  b1_Ratio___init__ : ∃ ds, Vals [.int 1] ds ∧ Binds K D.f_Ratio___init__ ["self", "top", "bottom"] ds
  m_Ratio___init__ : Meth K A.Ratio "__init__" A.f_Ratio___init__
  F_Ratio___add__ : Fun K "__add__" "Ratio.__add__" s_Ratio___add__ A.f_Ratio___add__ D.f_Ratio___add__
  b_Ratio___add__ : Binds K D.f_Ratio___add__ ["self", "other"] []
  m_Ratio___add__ : Meth K A.Ratio "__add__" A.f_Ratio___add__
  F_Ratio___radd__ : Fun K "__radd__" "Ratio.__radd__" s_Ratio___radd__ A.f_Ratio___radd__ D.f_Ratio___radd__
  b_Ratio___radd__ : Binds K D.f_Ratio___radd__ ["self", "other"] []
  m_Ratio___radd__ : Meth K A.Ratio "__radd__" A.f_Ratio___radd__
  F_Ratio___eq__ : Fun K "__eq__" "Ratio.__eq__" s_Ratio___eq__ A.f_Ratio___eq__ D.f_Ratio___eq__
  b_Ratio___eq__ : Binds K D.f_Ratio___eq__ ["self", "other"] []
  m_Ratio___eq__ : Meth K A.Ratio "__eq__" A.f_Ratio___eq__
  F_is_whole : Fun K "is_whole" "is_whole" s_is_whole A.f_is_whole D.f_is_whole
  b_is_whole : Binds K D.f_is_whole ["x"] []
  g_is_whole : mg "is_whole" = some (.ref A.f_is_whole)
  F_is_number : Fun K "is_number" "is_number" s_is_number A.f_is_number D.f_is_number
  b_is_number : Binds K D.f_is_number ["x"] []
  g_is_number : mg "is_number" = some (.ref A.f_is_number)
  F_ratio_of : Fun K "ratio_of" "ratio_of" s_ratio_of A.f_ratio_of D.f_ratio_of
  b_ratio_of : Binds K D.f_ratio_of ["number"] []
  g_ratio_of : mg "ratio_of" = some (.ref A.f_ratio_of)
  F_sum_ratios : Fun K "_sum" "_sum" s_sum_ratios A.f_sum_ratios D.f_sum_ratios
  b_sum_ratios : Binds K D.f_sum_ratios ["one", "other"] []
  g_sum_ratios : mg "sum_ratios" = some (.ref A.f_sum_ratios)
  F__gap : Fun K "_gap" "_gap" s__gap A.f__gap D.f__gap
  b__gap : Binds K D.f__gap ["one", "other"] []
  g__gap : mg "_gap" = some (.ref A.f__gap)
  F_trimmed : Fun K "trimmed" "trimmed" s_trimmed A.f_trimmed D.f_trimmed
  b_trimmed : Binds K D.f_trimmed ["numbers"] []
  g_trimmed : mg "trimmed" = some (.ref A.f_trimmed)
  kb_Poly___init__ : ∃ its : List Value, KBn K D.f_Poly___init__ ["self", "coefficients"] 1 ["coefficients"] (fun us ws => us ++ ws ++ its.drop 1) (fun vs zs => vs ++ zs ++ [])
  F_Poly___init__ : Fun K "__init__" "Poly.__init__" s_Poly___init__ A.f_Poly___init__ D.f_Poly___init__
  b_Poly___init__ : Binds K D.f_Poly___init__ ["self", "coefficients"] []
  m_Poly___init__ : Meth K A.Poly "__init__" A.f_Poly___init__
  F_Poly___eq__ : Fun K "__eq__" "Poly.__eq__" s_Poly___eq__ A.f_Poly___eq__ D.f_Poly___eq__
  b_Poly___eq__ : Binds K D.f_Poly___eq__ ["self", "other"] []
  m_Poly___eq__ : Meth K A.Poly "__eq__" A.f_Poly___eq__
  F__law_is_integer : Fun K "_law_is_integer" "_law_is_integer" s__law_is_integer A.f__law_is_integer D.f__law_is_integer
  b__law_is_integer : Binds K D.f__law_is_integer ["_law_value"] []
  g__law_is_integer : mg "_law_is_integer" = some (.ref A.f__law_is_integer)
  F__law_feed : Fun K "_law_feed" "_law_feed" s__law_feed A.f__law_feed D.f__law_feed
  b__law_feed : Binds K D.f__law_feed ["_law_script"] []
  g__law_feed : mg "_law_feed" = some (.ref A.f__law_feed)
  F__law_take : Fun K "_law_take" "_law_take" s__law_take A.f__law_take D.f__law_take
  b__law_take : Binds K D.f__law_take ["_law_feed_here", "_law_size"] []
  g__law_take : mg "_law_take" = some (.ref A.f__law_take)
  F__law_number : Fun K "_law_number" "_law_number" s__law_number A.f__law_number D.f__law_number
  b__law_number : Binds K D.f__law_number ["_law_feed_here", "_law_size"] []
  g__law_number : mg "_law_number" = some (.ref A.f__law_number)
  F__law_pair : Fun K "_law_pair" "_law_pair" s__law_pair A.f__law_pair D.f__law_pair
  b__law_pair : Binds K D.f__law_pair ["_law_feed_here", "_law_size"] []
  g__law_pair : mg "_law_pair" = some (.ref A.f__law_pair)
  F__law_is : Fun K "_law_is" "_law_is" s__law_is A.f__law_is D.f__law_is
  b__law_is : Binds K D.f__law_is ["_law_value", "_law_top", "_law_bottom"] []
  g__law_is : mg "_law_is" = some (.ref A.f__law_is)
  F__law_poly_is : Fun K "_law_poly_is" "_law_poly_is" s__law_poly_is A.f__law_poly_is D.f__law_poly_is
  b__law_poly_is : Binds K D.f__law_poly_is ["_law_p", "_law_pairs_here"] []
  g__law_poly_is : mg "_law_poly_is" = some (.ref A.f__law_poly_is)
  F__law_refused : Fun K "_law_refused" "_law_refused" s__law_refused A.f__law_refused D.f__law_refused
  b__law_refused : Binds K D.f__law_refused ["_law_value"] []
  g__law_refused : mg "_law_refused" = some (.ref A.f__law_refused)
  F__law_pairs : Fun K "_law_pairs" "_law_pairs" s__law_pairs A.f__law_pairs D.f__law_pairs
  b__law_pairs : Binds K D.f__law_pairs ["_law_feed_here"] []
  g__law_pairs : mg "_law_pairs" = some (.ref A.f__law_pairs)
  F__law_items : Fun K "_law_items" "_law_items" s__law_items A.f__law_items D.f__law_items
  b__law_items : Binds K D.f__law_items ["_law_pairs_here"] []
  g__law_items : mg "_law_items" = some (.ref A.f__law_items)
  F_law : Fun K "law" "law" s_law A.f_law D.f_law
  b_law : Binds K D.f_law ["_law_script"] []
  g_law : mg "law" = some (.ref A.f_law)
  kit_RP : PySem.W.kitOne K (.ref A.Ratio) (.ref A.Poly) = some false
  sub_RP : PySem.W.subIn K (.ref A.Ratio) (.ref A.Poly) = some false
  sub_PR : PySem.W.subIn K (.ref A.Poly) (.ref A.Ratio) = some false
  kit_PR : PySem.W.kitOne K (.ref A.Poly) (.ref A.Ratio) = some false
  ik_str : PySem.W.kitOne K (.type "str") (.ref A.Ratio) = some false
  ik_bool : PySem.W.kitOne K (.type "bool") (.ref A.Ratio) = some false
  ik_NoneType : PySem.W.kitOne K (.type "NoneType") (.ref A.Ratio) = some false
  ik_list : PySem.W.kitOne K (.type "list") (.ref A.Ratio) = some false
  ik_tuple : PySem.W.kitOne K (.type "tuple") (.ref A.Ratio) = some false
  ik_dict : PySem.W.kitOne K (.type "dict") (.ref A.Ratio) = some false
  kit_rl_Ratio : PySem.W.kitOne K (.ref A.Ratio) (.type "list") = some false
  kit_rl_Poly : PySem.W.kitOne K (.ref A.Poly) (.type "list") = some false
  kit_rt_Ratio : PySem.W.kitOne K (.ref A.Ratio) (.type "tuple") = some false
  kit_rt_Poly : PySem.W.kitOne K (.ref A.Poly) (.type "tuple") = some false
  kit_NN : PySem.W.kitOne K (.ref A.NoPoly) (.ref A.NoRatio) = some false
  ne_Poly : PySem.W.findIn K (.ref A.Poly) "__ne__" = some (some (.builtin "object.__ne__"))
  z_isinstance : mg "isinstance" = none
  z_int : mg "int" = none
  z_bool : mg "bool" = none
  z_abs : mg "abs" = none
  z_len : mg "len" = none
  z_max : mg "max" = none
  z_range : mg "range" = none
  z_list : mg "list" = none
  z_tuple : mg "tuple" = none
  z_NotImplemented : mg "NotImplemented" = none
  g_gcd : mg "gcd" = some (.builtin "math.gcd")

section
variable {P : Program} {w : World} {K : PySem.W.Frag} {mg : Str → Option Value} {base : Heap} {A : Ad} {D : Fd}
/-- whether x is an int and no bool -/
def WholeV (K : PySem.W.Frag) (H : Hp) (x : V) (b : Bool) : Prop := ∃ t b1 b2, TyX K H x t ∧ PySem.W.kitOne K t (.type "int") = some b1 ∧ (b1 = true → PySem.W.kitOne K t (.type "bool") = some b2) ∧ b = (b1 && !b2)
theorem whole_int {K : PySem.W.Frag} (i : Int) {H : Hp} : WholeV K H (.int i) true := ⟨_, true, false, .base (.int i), kit_ty (by decide +kernel), fun _ => kit_ty (by decide +kernel), rfl⟩
def sp_is_whole (K : PySem.W.Frag) : Sp := fun vs H Q _ => ∃ x b, vs = [x] ∧ WholeV K H x b ∧ Q (.bl b) H
theorem ok_is_whole (T : Txt K mg A D) : FnOk P w K mg base CX0 1 A.f_is_whole D.f_is_whole ["x"] (sp_is_whole K) := by
  skip
  refine T.F_is_whole.ok sc_is_whole (fun vs H Q E h => ?_) (fun cdv A' outer s H vs Q E hr h => ?_)
  · obtain ⟨x, b, rfl, _⟩ := h
    rfl
  · obtain ⟨x, b, rfl, ⟨t, b1, b2, ty, e1, e2, rfl⟩, q⟩ := h
    refine ⟨_, (pss_one (ps_ret (pe_and (pe_callB call_isi rfl T.z_isinstance (by decide +kernel) (pa_cons (pv 0) (pa_cons (pe_bltn (v := .ty "int") rfl T.z_int (by decide +kernel) rfl) pa_nil))) (pe_one (pe_not (pe_callB call_isi rfl T.z_isinstance (by decide +kernel) (pa_cons (pv 0) (pa_cons (pe_bltn (v := .ty "bool") rfl T.z_bool (by decide +kernel) rfl) pa_nil)))))))), ?_⟩
    refine ⟨x, rfl, x, .ty "int", t, _, b1, rfl, .ty _, ty, e1, b1, rfl, ?_⟩
    cases b1 with
    | false => exact iteF q
    | true => exact iteT ⟨x, rfl, x, .ty "bool", t, _, b2, rfl, .ty _, ty, e2 rfl, b2, rfl, q⟩
theorem ty_same {H H' : Hp} {x : V} {t : Value} (s : Same H H') (h : TyX K H x t) : TyX K H' x t := by
  cases h with
  | base b =>
    refine .base ?_
    cases b with
    | non => exact .non
    | bl y => exact .bl y
    | int i => exact .int i
    | str y => exact .str y
    | flt y => exact .flt y
    | lst e => exact .lst (s _ _ e)
    | frz e => exact .frz (s _ _ e)
    | tup e => exact .tup (s _ _ e)
    | dK e => exact .dK (s _ _ e)
    | dT e => exact .dT (s _ _ e)
    | ins e a b c d f => exact .ins (s _ _ e) a b c d f
  | byt b => exact .byt b
  | set e => exact .set (s _ _ e)
  | kList e c => exact .kList e c
  | kTuple e c => exact .kTuple e c
  | kDict e c => exact .kDict e c
  | fTuple e => exact .fTuple (s _ _ e)
  | fDict e => exact .fDict (s _ _ e)
theorem WholeV.same {H H' : Hp} {x : V} {b : Bool} (h : WholeV K H x b) (s : Same H H') : WholeV K H' x b := by
  obtain ⟨t, b1, b2, ty, r⟩ := h
  exact ⟨t, b1, b2, ty_same s ty, r⟩
/-- neither a Ratio nor an integer -/
def NoNum (K : PySem.W.Frag) (C : Addr) (H : Hp) (x : V) : Prop := ∃ t, TyX K H x t ∧ PySem.W.kitOne K t (.ref C) = some false ∧ WholeV K H x false
theorem NoNum.same {C : Addr} {H H' : Hp} {x : V} (h : NoNum K C H x) (s : Same H H') : NoNum K C H' x := by
  obtain ⟨t, ty, e, w⟩ := h
  exact ⟨t, ty_same s ty, e, w.same s⟩
def sp_isnum (K : PySem.W.Frag) (C : Addr) : Sp := fun vs H Q _ => ∃ x, vs = [x] ∧ ((((∃ i, x = .int i) ∨ Ins H x C) ∧ Q (.bl true) H) ∨ (NoNum K C H x ∧ Q (.bl false) H))
theorem ok_is_number (T : Txt K mg A D) : FnOk P w K mg base CX0 2 A.f_is_number D.f_is_number ["x"] (sp_isnum K A.Ratio) := by
  have G_is_whole : FnOk P w K mg base CX0 1 A.f_is_whole D.f_is_whole ["x"] (sp_is_whole K) := ok_is_whole T
  refine T.F_is_number.ok sc_is_number (fun vs H Q E h => ?_) (fun cdv A' outer s H vs Q E hr h => ?_)
  · obtain ⟨x, rfl, _⟩ := h
    rfl
  · obtain ⟨x, rfl, hx⟩ := h
    refine ⟨_, (pss_one (ps_ret (pe_or (pe_callB call_isi rfl T.z_isinstance (by decide +kernel) (pa_cons (pv 0) (pa_cons (pe_glob (v := .ref A.Ratio) rfl T.g_Ratio rfl) pa_nil))) (pe_one (pe_call G_is_whole (hr.mono (by decide)) rfl T.g_is_whole T.F_is_whole.kp T.b_is_whole .nil pass0 (pa_cons (pv 0) pa_nil)))))), ?_⟩
    rcases hx with ⟨⟨i, rfl⟩ | ⟨a, dx, fs, rfl, ha⟩, q⟩ | ⟨⟨t, ty, e, w⟩, q⟩
    · exact ⟨.int i, rfl, .int i, .ref A.Ratio, _, _, false, rfl, .own _, .base (.int i), T.k_Ratio.ik, false, rfl, iteF ⟨.int i, rfl, _, _, rfl, whole_int i, q⟩⟩
    · exact ⟨.ref a, rfl, .ref a, .ref A.Ratio, _, _, true, rfl, .own _, T.k_Ratio.ty ha, kit_self, true, rfl, iteT q⟩
    · exact ⟨x, rfl, x, .ref A.Ratio, t, _, false, rfl, .own _, ty, e, false, rfl, iteF ⟨x, rfl, _, _, rfl, w, q⟩⟩
def sp_init (C : Addr) : Sp := fun vs H Q _ => ∃ x dx t b, vs = [.ref x, .int t, .int b] ∧ H x = some (.ins C dx []) ∧ b ≠ 0 ∧ Sm b ∧ Q .non (upd H x (ratO C dx ((t : Rat) / (b : Rat))))
theorem rat_make {C : Addr} {H : Hp} {t b : Int} {Q : Hp → Prop} {E : XK} {x dx : Addr} (hb : b ≠ 0) (sb : Sm b) (nx : H x = none) (nd : H dx = none) (ne : dx ≠ x) (q : ∀ G, Same H G → RatV C G (.ref x) ((t : Rat) / (b : Rat)) → Q G) :
    sp_init C [.ref x, .int t, .int b] (upd (upd H dx (.own x)) x (.ins C dx [])) (fun v G => v = .non ∧ Q G) E :=
  ⟨x, dx, t, b, rfl, upd_same, hb, sb, rfl, q _ (madeV nx nd ne _).1 (madeV nx nd ne _).2⟩
theorem ok_Ratio___init__ (T : Txt K mg A D) : FnOk P w K mg base CX0 2 A.f_Ratio___init__ D.f_Ratio___init__ ["self", "top", "bottom"] (sp_init A.Ratio) := by
  have G_is_whole : FnOk P w K mg base CX0 1 A.f_is_whole D.f_is_whole ["x"] (sp_is_whole K) := ok_is_whole T
  refine T.F_Ratio___init__.ok sc_Ratio___init__ (fun vs H Q E h => ?_) (fun cdv A' outer s H vs Q E hr h => ?_)
  · obtain ⟨x, dx, t, b, rfl, _⟩ := h
    rfl
  · obtain ⟨x, dx, t, b, rfl, hx, hb, sb, q⟩ := h
    refine ⟨_, (pss_cons (ps_if (pt_not (pt_val (pe_call G_is_whole (hr.mono (by decide)) rfl T.g_is_whole T.F_is_whole.kp T.b_is_whole .nil pass0 (pa_cons (pv 1) pa_nil)))) (pss_one ps_never) pss_nil)
  (pss_cons (ps_if (pt_not (pt_val (pe_call G_is_whole (hr.mono (by decide)) rfl T.g_is_whole T.F_is_whole.kp T.b_is_whole .nil pass0 (pa_cons (pv 2) pa_nil)))) (pss_one ps_never) pss_nil)
  (pss_cons (ps_if (pt_cmpR op_eq (pv 2) pe_int (nomark _)) (pss_one ps_never) pss_nil)
  (pss_cons (ps_set (i := 3) sc_Ratio___init__.nd rfl (.inl rfl) (pe_callBfun cr_gcd rfl T.g_gcd (pa_cons (pv 1) (pa_cons (pv 2) pa_nil))))
  (pss_cut (ps_if (pt_cmpR op_lt (pv 2) pe_int (nomark _)) (pss_one (ps_set (i := 3) sc_Ratio___init__.nd rfl (.inl rfl) (pe_un un_neg (pv 3)))) pss_nil)
  (pss_cons (ps_fld (pv 0) (pe_op op_fdivA (pv 1) (pv 3)) rfl)
  (pss_one (ps_fld (pv 0) (pe_op op_fdivA (pv 2) (pv 3)) rfl)))))))), ?_⟩
    refine ⟨_, rfl, _, _, rfl, whole_int t, true, rfl, iteF ?_⟩
    refine ⟨_, rfl, _, _, rfl, whole_int b, true, rfl, iteF ?_⟩
    have e0 : decide (V.int b = V.int 0) = false := decide_eq_false fun z => hb (V.int.inj z)
    refine ⟨_, rfl, rfl, _, rfl, ?_⟩
    rw [e0]
    refine iteF ⟨_, rfl, _, rfl, t, b, rfl, ?_⟩
    obtain ⟨g0, gl, nm⟩ := Norm.make (t := t) hb _ rfl
    refine ⟨fun σ' H' => H' = H ∧ ∃ g : Int, (g ≠ 0 ∧ g.natAbs ≤ b.natAbs ∧ Norm t b (t.fdiv g) (b.fdiv g)) ∧ σ' = [some (.ref x), some (.int t), some (.int b), some (.int g)], ?_, ?_⟩
    · refine ⟨_, rfl, _, _, rfl, rfl, _, rfl, ?_⟩
      by_cases hneg : b < 0
      · rw [if_pos hneg] at g0 gl nm
        rw [decide_eq_true hneg]
        exact iteT ⟨_, rfl, _, rfl, rfl, _, ⟨g0, gl, nm⟩, rfl⟩
      · rw [if_neg hneg] at g0 gl nm
        rw [decide_eq_false hneg]
        exact iteF ⟨rfl, _, ⟨g0, gl, nm⟩, rfl⟩
    · rintro σ' H' ⟨rfl, g, ⟨h0, h1, hn⟩, rfl⟩
      have sg : Sm g := sb.le h1
      refine ⟨_, rfl, _, rfl, t, g, rfl, rfl, Sm.div h0 sg, _, rfl, x, A.Ratio, dx, _, rfl, hx, T.k_Ratio.cl, T.k_Ratio.n_top, (by show 0 < 1000; decide), ?_⟩
      refine ⟨_, rfl, _, rfl, b, g, rfl, rfl, Sm.div h0 sg, _, rfl, x, A.Ratio, dx, _, rfl, upd_same, T.k_Ratio.cl, T.k_Ratio.n_bottom, (by show 1 < 1000; decide), ?_⟩
      show Q .non _
      rw [upd_upd]
      obtain ⟨e1, e2⟩ := hn.rat
      have e3 : (HO.ins A.Ratio dx [("top", .int (t.fdiv g)), ("bottom", .int (b.fdiv g))]) = ratO A.Ratio dx ((t : Rat) / (b : Rat)) := by
        show _ = HO.ins A.Ratio dx [("top", .int _), ("bottom", .int _)]
        rw [e1, e2]
      exact e3 ▸ q
def sp_gap (C : Addr) : Sp := fun vs H Q _ => ∃ x y a b, vs = [x, y] ∧ RatV C H x a ∧ NumV C H y b ∧ Bd 3900 3900 a ∧ Bd 3900 3900 b ∧ Q (.int (a.num * (b.den : Int) - b.num * (a.den : Int))) H
theorem ok__gap (T : Txt K mg A D) : FnOk P w K mg base CX0 1 A.f__gap D.f__gap ["one", "other"] (sp_gap A.Ratio) := by
  skip
  refine T.F__gap.ok sc__gap (fun vs H Q E h => ?_) (fun cdv A' outer s H vs Q E hr h => ?_)
  · obtain ⟨x, y, a, b, rfl, _⟩ := h
    rfl
  · obtain ⟨x, y, a, b, rfl, ⟨p, dx, rfl, hp⟩, hy, ba, bb, q⟩ := h
    refine ⟨_, (pss_cons (ps_if (pt_val (pe_callB call_isi rfl T.z_isinstance (by decide +kernel) (pa_cons (pv 1) (pa_cons (pe_glob (v := .ref A.Ratio) rfl T.g_Ratio rfl) pa_nil)))) (pss_one (ps_ret (pe_op op_sub (pe_op op_mulW (pe_fld (pv 0) rfl) (pe_fld (pv 1) rfl)) (pe_op op_mulW (pe_fld (pv 1) rfl) (pe_fld (pv 0) rfl))))) pss_nil)
  (pss_one (ps_ret (pe_op op_sub (pe_fld (pv 0) rfl) (pe_op op_mulW (pv 1) (pe_fld (pv 0) rfl)))))), ?_⟩
    have cl := T.k_Ratio.cl
    have nt := T.k_Ratio.n_top
    have nb := T.k_Ratio.n_bottom
    have s1 := ba.s1 (by decide)
    have s2 := ba.s2 (by decide)
    have s3 := bb.s1 (by decide)
    have s4 := bb.s2 (by decide)
    rcases hy with ⟨i, rfl, rfl⟩ | ⟨c, dy, rfl, hc⟩
    · refine ⟨_, rfl, .int i, .ref A.Ratio, _, _, false, rfl, .own _, .base (.int i), T.k_Ratio.ik, false, rfl, iteF ?_⟩
      refine ⟨_, rfl, p, A.Ratio, dx, _, _, rfl, hp, cl, nt, rfl, ?_⟩
      obtain ⟨e1, e2⟩ := int_parts i
      rw [e1] at s3
      refine ⟨_, rfl, _, rfl, p, A.Ratio, dx, _, _, rfl, hp, cl, nb, rfl, _, _, rfl, rfl, Sm.mul s3 s2, _, _, rfl, rfl, ?_⟩
      rw [e1, e2, Int.mul_one] at q
      exact q
    · refine ⟨_, rfl, .ref c, .ref A.Ratio, _, _, true, rfl, .own _, T.k_Ratio.ty hc, kit_self, true, rfl, iteT ?_⟩
      refine ⟨_, rfl, p, A.Ratio, dx, _, _, rfl, hp, cl, nt, rfl, _, rfl, c, A.Ratio, dy, _, _, rfl, hc, cl, nb, rfl, _, _, rfl, rfl, Sm.mul s1 s4, ?_⟩
      exact ⟨_, rfl, c, A.Ratio, dy, _, _, rfl, hc, cl, nt, rfl, _, rfl, p, A.Ratio, dx, _, _, rfl, hp, cl, nb, rfl, _, _, rfl, rfl, Sm.mul s3 s2, _, _, rfl, rfl, q⟩
/-- a comparison -/
def sp_cmp (C : Addr) (r : Rat → Rat → Bool) : Sp := fun vs H Q _ => ∃ x y a b, vs = [x, y] ∧ RatV C H x a ∧ NumV C H y b ∧ Bd 3900 3900 a ∧ Bd 3900 3900 b ∧ Q (.bl (r a b)) H
abbrev r_eq : Rat → Rat → Bool := fun a b => decide (a = b)
abbrev r_lt : Rat → Rat → Bool := fun a b => decide (a < b)
abbrev r_le : Rat → Rat → Bool := fun a b => decide (a ≤ b)
abbrev r_gt : Rat → Rat → Bool := fun a b => decide (b < a)
abbrev r_ge : Rat → Rat → Bool := fun a b => decide (b ≤ a)
theorem gap_eq' (x y : Rat) : decide (V.int (x.num * (y.den : Int) - y.num * (x.den : Int)) = V.int 0) = decide (x = y) := by
  rw [Bool.eq_iff_iff, decide_eq_true_iff, decide_eq_true_iff, gap_eq]
  exact ⟨V.int.inj, fun e => by rw [e]⟩
theorem gap_gt (x y : Rat) : y < x ↔ 0 < x.num * (y.den : Int) - y.num * (x.den : Int) := by
  rw [gap_lt]
  omega
theorem gap_ge (x y : Rat) : y ≤ x ↔ 0 ≤ x.num * (y.den : Int) - y.num * (x.den : Int) := by
  rw [gap_le]
  omega
theorem ok_Ratio___eq__ (T : Txt K mg A D) : FnOk P w K mg base CX0 3 A.f_Ratio___eq__ D.f_Ratio___eq__ ["self", "other"] (sp_cmp A.Ratio r_eq) := by
  have G__gap : FnOk P w K mg base CX0 1 A.f__gap D.f__gap ["one", "other"] (sp_gap A.Ratio) := ok__gap T
  have G_is_number : FnOk P w K mg base CX0 2 A.f_is_number D.f_is_number ["x"] (sp_isnum K A.Ratio) := ok_is_number T
  refine T.F_Ratio___eq__.ok sc_Ratio___eq__ (fun vs H Q E h => ?_) (fun cdv A' outer s H vs Q E hr h => ?_)
  · obtain ⟨x, y, a, b, rfl, _⟩ := h
    rfl
  · obtain ⟨x, y, a, b, rfl, hx, hy, ba, bb, q⟩ := h
    refine ⟨_, (pss_cons (ps_if (pt_not (pt_val (pe_call G_is_number (hr.mono (by decide)) rfl T.g_is_number T.F_is_number.kp T.b_is_number .nil pass0 (pa_cons (pv 1) pa_nil)))) (pss_one ps_never) pss_nil)
  (pss_one (ps_ret (pe_cmpR op_eq (pe_call G__gap (hr.mono (by decide)) rfl T.g__gap T.F__gap.kp T.b__gap .nil pass0 (pa_cons (pv 0) (pa_cons (pv 1) pa_nil))) pe_int (nomark _))))), ?_⟩
    refine ⟨_, rfl, _, rfl, .inl ⟨hy.kind, true, rfl, iteF ?_⟩⟩
    refine ⟨_, rfl, _, rfl, _, _, _, _, rfl, hx, hy, ba, bb, rfl, ?_⟩
    show Q (.bl (decide (V.int (a.num * (b.den : Int) - b.num * (a.den : Int)) = V.int 0))) H
    rw [gap_eq']
    exact q
def sp_ratio_of (C : Addr) : Sp := fun vs H Q _ => ∃ x a, vs = [x] ∧ NumV C H x a ∧ ∀ H' v, Same H H' → RatV C H' v a → Q v H'
theorem one_div (i : Int) : (i : Rat) / ((1 : Int) : Rat) = (i : Rat) := div_eq (by decide) (by rw [Rat.intCast_one, Rat.mul_one])
theorem so : Sm 1 := .ab (by decide) (by decide)
theorem ok_ratio_of (T : Txt K mg A D) : FnOk P w K mg base CX0 4 A.f_ratio_of D.f_ratio_of ["number"] (sp_ratio_of A.Ratio) := by
  have G_Ratio_init : FnOk P w K mg base CX0 2 A.f_Ratio___init__ D.f_Ratio___init__ ["self", "top", "bottom"] (sp_init A.Ratio) := ok_Ratio___init__ T
  obtain ⟨ds1, d_Ratio_init1, b_Ratio_init1⟩ := T.b1_Ratio___init__
  refine T.F_ratio_of.ok sc_ratio_of (fun vs H Q E h => ?_) (fun cdv A' outer s H vs Q E hr h => ?_)
  · obtain ⟨x, a, rfl, _⟩ := h
    rfl
  · obtain ⟨x, a, rfl, hx, q⟩ := h
    refine ⟨_, (pss_cons (ps_if (pt_val (pe_callB call_isi rfl T.z_isinstance (by decide +kernel) (pa_cons (pv 0) (pa_cons (pe_glob (v := .ref A.Ratio) rfl T.g_Ratio rfl) pa_nil)))) (pss_one (ps_ret (pv 0))) pss_nil)
  (pss_one (ps_ret (pe_make T.M_Ratio G_Ratio_init (hr.mono (by decide)) rfl T.g_Ratio b_Ratio_init1 d_Ratio_init1 pass0 (pa_cons (pv 0) pa_nil))))), ?_⟩
    rcases hx with ⟨i, rfl, rfl⟩ | ⟨c, dy, rfl, hc⟩
    · refine ⟨_, rfl, .int i, .ref A.Ratio, _, _, false, rfl, .own _, .base (.int i), T.k_Ratio.ik, false, rfl, iteF ?_⟩
      exact ⟨_, rfl, fun x dx nx nd ne => rat_make (by decide) so nx nd ne fun G s r => q G _ s (r.to (one_div i))⟩
    · refine ⟨_, rfl, .ref c, .ref A.Ratio, _, _, true, rfl, .own _, T.k_Ratio.ty hc, kit_self, true, rfl, iteT ?_⟩
      exact ⟨_, rfl, q _ _ (Same.refl H) ⟨c, dy, rfl, hc⟩⟩
/-- two Ratios in, a Ratio out -/
def sp_put (C : Addr) (f : Rat → Rat → Rat) : Sp := fun vs H Q _ => ∃ x y a b, vs = [x, y] ∧ RatV C H x a ∧ RatV C H y b ∧ Bd 1990 1990 a ∧ Bd 1990 1990 b ∧ ∀ H' v, Same H H' → RatV C H' v (f a b) → Q v H'
/-- a Ratio and a number in, a Ratio out -/
def sp_bin (C : Addr) (f : Rat → Rat → Rat) : Sp := fun vs H Q _ => ∃ x y a b, vs = [x, y] ∧ RatV C H x a ∧ NumV C H y b ∧ Bd 1990 1990 a ∧ Bd 1990 1990 b ∧ ∀ H' v, Same H H' → RatV C H' v (f a b) → Q v H'
/-- the same, the number on the left -/
def sp_rbin (C : Addr) (f : Rat → Rat → Rat) : Sp := fun vs H Q _ => ∃ x y a b, vs = [x, y] ∧ RatV C H x a ∧ NumV C H y b ∧ Bd 1990 1990 a ∧ Bd 1990 1990 b ∧ ∀ H' v, Same H H' → RatV C H' v (f b a) → Q v H'
abbrev f_sum : Rat → Rat → Rat := fun a b => a + b
abbrev f_dif : Rat → Rat → Rat := fun a b => a - b
abbrev f_pro : Rat → Rat → Rat := fun a b => a * b
theorem dd_sm {a b : Rat} (ba : Bd 1990 1990 a) (bb : Bd 1990 1990 b) : Sm ((a.den : Int) * (b.den : Int)) := sm_of (nmul ba.d bb.d) (by decide)
theorem ok_sum_ratios (T : Txt K mg A D) : FnOk P w K mg base CX0 4 A.f_sum_ratios D.f_sum_ratios ["one", "other"] (sp_put A.Ratio f_sum) := by
  have G_Ratio_init : FnOk P w K mg base CX0 2 A.f_Ratio___init__ D.f_Ratio___init__ ["self", "top", "bottom"] (sp_init A.Ratio) := ok_Ratio___init__ T
  have b_Ratio_init2 := T.b_Ratio___init__
  have d_Ratio_init2 : Vals [] [] := .nil
  refine T.F_sum_ratios.ok sc_sum_ratios (fun vs H Q E h => ?_) (fun cdv A' outer s H vs Q E hr h => ?_)
  · obtain ⟨x, y, a, b, rfl, _⟩ := h
    rfl
  · obtain ⟨x, y, a, b, rfl, ⟨p, dx, rfl, hp⟩, ⟨c, dy, rfl, hc⟩, ba, bb, q⟩ := h
    refine ⟨_, (pss_one (ps_ret (pe_make T.M_Ratio G_Ratio_init (hr.mono (by decide)) rfl T.g_Ratio b_Ratio_init2 d_Ratio_init2 pass0 (pa_cons (pe_op op_add (pe_op op_mulW (pe_fld (pv 0) rfl) (pe_fld (pv 1) rfl)) (pe_op op_mulW (pe_fld (pv 1) rfl) (pe_fld (pv 0) rfl))) (pa_cons (pe_op op_mulW (pe_fld (pv 0) rfl) (pe_fld (pv 1) rfl)) pa_nil))))), ?_⟩
    have cl := T.k_Ratio.cl
    have nt := T.k_Ratio.n_top
    have nb := T.k_Ratio.n_bottom
    have s1 := ba.s1 (by decide)
    have s2 := ba.s2 (by decide)
    have s3 := bb.s1 (by decide)
    have s4 := bb.s2 (by decide)
    refine ⟨_, rfl, p, A.Ratio, dx, _, _, rfl, hp, cl, nt, rfl, _, rfl, c, A.Ratio, dy, _, _, rfl, hc, cl, nb, rfl, _, _, rfl, rfl, s1.mul s4, ?_⟩
    refine ⟨_, rfl, c, A.Ratio, dy, _, _, rfl, hc, cl, nt, rfl, _, rfl, p, A.Ratio, dx, _, _, rfl, hp, cl, nb, rfl, _, _, rfl, rfl, s3.mul s2, _, _, rfl, rfl, ?_⟩
    refine ⟨_, rfl, p, A.Ratio, dx, _, _, rfl, hp, cl, nb, rfl, _, rfl, c, A.Ratio, dy, _, _, rfl, hc, cl, nb, rfl, _, _, rfl, rfl, s2.mul s4, ?_⟩
    exact fun x dx nx nd ne => rat_make (dd_ne a b) (dd_sm ba bb) nx nd ne fun G s r => q G _ s (r.to (div_eq (dd_ne a b) (add_q a b)))
theorem ok_Ratio___add__ (T : Txt K mg A D) : FnOk P w K mg base CX0 5 A.f_Ratio___add__ D.f_Ratio___add__ ["self", "other"] (sp_bin A.Ratio f_sum) := by
  have G_is_number : FnOk P w K mg base CX0 2 A.f_is_number D.f_is_number ["x"] (sp_isnum K A.Ratio) := ok_is_number T
  have G_ratio_of : FnOk P w K mg base CX0 4 A.f_ratio_of D.f_ratio_of ["number"] (sp_ratio_of A.Ratio) := ok_ratio_of T
  have G_sum_ratios : FnOk P w K mg base CX0 4 A.f_sum_ratios D.f_sum_ratios ["one", "other"] (sp_put A.Ratio f_sum) := ok_sum_ratios T
  refine T.F_Ratio___add__.ok sc_Ratio___add__ (fun vs H Q E h => ?_) (fun cdv A' outer s H vs Q E hr h => ?_)
  · obtain ⟨x, y, a, b, rfl, _⟩ := h
    rfl
  · obtain ⟨x, y, a, b, rfl, hx, hy, ba, bb, q⟩ := h
    refine ⟨_, (pss_cons (ps_if (pt_not (pt_val (pe_call G_is_number (hr.mono (by decide)) rfl T.g_is_number T.F_is_number.kp T.b_is_number .nil pass0 (pa_cons (pv 1) pa_nil)))) (pss_one ps_never) pss_nil)
  (pss_one (ps_ret (pe_call G_sum_ratios (hr.mono (by decide)) rfl T.g_sum_ratios T.F_sum_ratios.kp T.b_sum_ratios .nil pass0 (pa_cons (pv 0) (pa_cons (pe_call G_ratio_of (hr.mono (by decide)) rfl T.g_ratio_of T.F_ratio_of.kp T.b_ratio_of .nil pass0 (pa_cons (pv 1) pa_nil)) pa_nil)))))), ?_⟩
    refine ⟨_, rfl, _, rfl, .inl ⟨hy.kind, true, rfl, iteF ?_⟩⟩
    exact ⟨_, rfl, _, rfl, _, _, rfl, hy, fun H1 v s1 r1 => ⟨_, _, _, _, rfl, hx.same s1, r1, ba, bb, fun H' u s2 r2 => q _ _ (s1.trans s2) r2⟩⟩
end

end Mo

namespace Mo
open PySem PySem.Spec PyProof.Rows L2 MoL MoW
open C8 (pss_cut tCut)
section
variable {P : Program} {w : World} {K : PySem.W.Frag} {mg : Str → Option Value} {base : Heap} {A : Ad} {D : Fd}
/-! ### a list without the zeros at its end -/
def sp_trimmed (C : Addr) : Sp := fun vs H Q _ => ∃ a xs f, vs = [.ref a] ∧ H a = some (.lst xs) ∧ RatsV C H xs f ∧ xs.length ≤ 60 ∧ (∀ k, k < xs.length → Bd 3900 3900 (f k)) ∧
  ∀ H' d s, Same H H' → H' d = some (.lst (xs.take s)) → s ≤ xs.length → (∀ k, s ≤ k → k < xs.length → f k = 0) → (0 < s → f (s - 1) ≠ 0) → Q (.ref d) H'
theorem cut_take (xs : List V) (s : Nat) : cutV xs none (some (s : Int)) = xs.take s := by
  unfold cutV
  have e1 : HT.sIx xs.length 0 none = 0 := rfl
  rw [e1]
  rcases Nat.le_total s xs.length with h | h
  · have e2 : HT.sIx xs.length xs.length (some (s : Int)) = s := by
      show (if (s : Int) < 0 then ((s : Int) + (xs.length : Int)).toNat else min (s : Int).toNat xs.length) = s
      rw [if_neg (by omega)]
      omega
    rw [e2]
    rfl
  · have e2 : HT.sIx xs.length xs.length (some (s : Int)) = xs.length := by
      show (if (s : Int) < 0 then ((s : Int) + (xs.length : Int)).toNat else min (s : Int).toNat xs.length) = _
      rw [if_neg (by omega)]
      omega
    rw [e2, List.take_of_length_le h]
    show (List.drop 0 xs).take (xs.length - 0) = xs
    rw [List.drop_zero, Nat.sub_zero, List.take_length]
theorem ok_trimmed (T : Txt K mg A D) : FnOk P w K mg base CX0 4 A.f_trimmed D.f_trimmed ["numbers"] (sp_trimmed A.Ratio) := by
  have G_Ratio___eq__ : FnOk P w K mg base CX0 3 A.f_Ratio___eq__ D.f_Ratio___eq__ ["self", "other"] (sp_cmp A.Ratio r_eq) := ok_Ratio___eq__ T
  refine T.F_trimmed.ok sc_trimmed (fun vs H Q E h => ?_) (fun cdv A' outer s H vs Q E hr h => ?_)
  · obtain ⟨a, xs, f, rfl, _⟩ := h
    rfl
  · obtain ⟨a, xs, f, rfl, ha, rr, l1, hb, q⟩ := h
    refine ⟨_, (pss_cons (ps_set (i := 1) sc_trimmed.nd rfl (.inl rfl) (pe_callB call_len_seq rfl T.z_len (by decide +kernel) (pa_cons (pv 0) pa_nil)))
  (pss_cons (ps_while PassesOwn.never (PW.pt (pw_and (pt_cmpR op_gt (pv 1) pe_int (nomark _)) (pw_and1 (pt_cmpR (op_eq_own T.k_Ratio.ow T.m_Ratio___eq__ G_Ratio___eq__ (hr.mono (by decide)) T.b_Ratio___eq__ pass0) (pe_ix ix_list (pv 0) (pe_op op_sub (pv 1) pe_int) (fun _ _ => rfl)) pe_int (nomark _))))) (pss_one (ps_set (i := 1) sc_trimmed.nd rfl (.inl rfl) (pe_op op_sub (pv 1) pe_int))))
  (pss_one (ps_ret (pe_slice sl_list (pv 0) po_none (po_some (pv 1))))))), ?_⟩
    refine ⟨_, rfl, a, xs, rfl, .inl (.of ha), ?_⟩
    have fin : ∀ s : Nat, s ≤ xs.length → (∀ k, s ≤ k → k < xs.length → f k = 0) → ((s = 0) ∨ (0 < s ∧ f (s - 1) ≠ 0)) → tRet (tSl (rSlL K) (tVar 0) tNoPart (tPart (tVar 1))) { nx := fun x H' => Q V.non H', rt := Q } [some (.ref a), some (.int (s : Int))] H := fun s hs hz hc => by
      refine ⟨_, rfl, _, rfl, _, rfl, a, xs, rfl, .of ha, fun d nd => ?_⟩
      rw [cut_take]
      refine q _ d s (same_upd nd) upd_same hs hz fun h => ?_
      rcases hc with h2 | h2
      · omega
      · exact h2.2
    refine while_up xs.length (fun j σ H' => H' = H ∧ (∀ k, xs.length - j ≤ k → k < xs.length → f k = 0) ∧ σ = [some (.ref a), some (.int ((xs.length - j : Nat) : Int))]) ⟨rfl, fun k h1 h2 => absurd h2 (by omega), rfl⟩ ?_
    rintro j σ H' hj ⟨rfl, hz, rfl⟩
    obtain ⟨s, hs⟩ : ∃ s, xs.length - j = s := ⟨_, rfl⟩
    rw [hs] at hz ⊢
    refine ⟨_, rfl, _, _, rfl, rfl, _, rfl, ite2 (fun h0 => ?_) (fun h0 => ?_)⟩
    · have s0 : 0 < s := by
        have := of_decide_eq_true h0
        omega
      have hx := List.getElem?_eq_getElem (show s - 1 < xs.length by omega)
      have hat : atI xs ((s : Int) - 1) = some xs[s - 1] := by
        rw [show (s : Int) - 1 = ((s - 1 : Nat) : Int) by omega]
        exact atI_nat hx
      have hr := rr _ _ hx
      refine ⟨_, rfl, _, rfl, _, _, rfl, rfl, a, xs, _, _, rfl, rfl, .of ha, hat, hr.ins, .inl ⟨_, rfl⟩, _, _, f (s - 1), ((0 : Int) : Rat), rfl, hr, .int 0, hb _ (by omega), .int (by decide) (by decide), ?_⟩
      refine ⟨_, rfl, ite2 (fun c => ?_) (fun c => fin s (by omega) hz (.inr ⟨s0, fun z => c (decide_eq_true z)⟩))⟩
      have f0 : f (s - 1) = 0 := of_decide_eq_true c
      refine ⟨_, fun σ' H' p => ⟨xs.length - (j + 1), by omega, j + 1, rfl, by omega, p⟩, _, rfl, _, _, rfl, rfl, rfl, fun k h1 h2 => ?_, ?_⟩
      · rcases (by omega : k = s - 1 ∨ s ≤ k) with e | e
        · rw [e]; exact f0
        · exact hz k e h2
      · show [some (V.ref a), some (V.int ((s : Int) - 1))] = _
        rw [show (s : Int) - 1 = ((xs.length - (j + 1) : Nat) : Int) by omega]
    · refine fin s (by omega) hz (.inl ?_)
      rcases Nat.eq_zero_or_pos s with e | e
      · exact e
      · exact absurd (decide_eq_true (by omega)) h0
/-! ### a Poly, or NoPoly -/
def NoSeq (K : PySem.W.Frag) (H : Hp) (v : V) : Prop := ∃ t, TyX K H v t ∧ PySem.W.kitOne K t (.type "list") = some false ∧ PySem.W.kitOne K t (.type "tuple") = some false
theorem NoSeq.same {H H' : Hp} {v : V} (h : NoSeq K H v) (s : Same H H') : NoSeq K H' v := by
  obtain ⟨t, ty, r⟩ := h
  exact ⟨t, ty_same s ty, r⟩
def BadItem (K : PySem.W.Frag) (C : Addr) (H : Hp) (v : V) : Prop := ∃ (a : Addr) (xs : List V) (j : Nat) (x : V), v = .ref a ∧ (H a = some (.lst xs) ∨ H a = some (.tup xs)) ∧ xs[j]? = some x ∧ (∀ i y, i < j → xs[i]? = some y → (∃ n, y = .int n) ∨ Ins H y C) ∧ NoNum K C H x
theorem BadItem.same {C : Addr} {H H' : Hp} {v : V} (h : BadItem K C H v) (s : Same H H') : BadItem K C H' v := by
  obtain ⟨a, xs, j, x, e, ha, hx, hy, hn⟩ := h
  exact ⟨a, xs, j, x, e, ha.imp (s a _) (s a _), hx, fun i y hi h => (hy i y hi h).imp id fun ⟨b, dx, fs, e, hb⟩ => ⟨b, dx, fs, e, s _ _ hb⟩, hn.same s⟩
def sp_poly (K : PySem.W.Frag) (A : Ad) : Sp := fun vs H Q _ => ∃ (x dx a : Addr) (xs : List V) (f : Nat → Rat), vs = [.ref x, .ref a] ∧ H x = some (.ins A.Poly dx []) ∧ (H a = some (.lst xs) ∨ H a = some (.tup xs)) ∧ NumsV A.Ratio H xs f ∧ xs.length ≤ 60 ∧ (∀ k, k < xs.length → Bd 3900 3900 (f k)) ∧ (∀ k, xs.length ≤ k → f k = 0) ∧
  ∀ G s, (∀ b o, b ≠ x → H b = some o → G b = some o) → PolyV A.Poly A.Ratio G (.ref x) s f → s ≤ xs.length → Q .non G
def sp_polyX (K : PySem.W.Frag) (A : Ad) : Sp := fun vs H Q E => sp_poly K A vs H Q E ∨ ∃ x v, vs = [.ref x, v] ∧ (NoSeq K H v ∨ BadItem K A.Ratio H v) ∧ ∀ H', Same H H' → E (.ref A.NoPoly) none H'
theorem ok_Poly___init__ (T : Txt K mg A D) : FnOk P w K mg base (L2.CX P w) 6 A.f_Poly___init__ D.f_Poly___init__ ["self", "coefficients"] (sp_polyX K A) := by
  have G_Ratio_init : FnOk P w K mg base CX0 2 A.f_Ratio___init__ D.f_Ratio___init__ ["self", "top", "bottom"] (sp_init A.Ratio) := ok_Ratio___init__ T
  obtain ⟨ds1, d_Ratio_init1, b_Ratio_init1⟩ := T.b1_Ratio___init__
  have G_is_number : FnOk P w K mg base CX0 2 A.f_is_number D.f_is_number ["x"] (sp_isnum K A.Ratio) := ok_is_number T
  have G_ratio_of : FnOk P w K mg base CX0 4 A.f_ratio_of D.f_ratio_of ["number"] (sp_ratio_of A.Ratio) := ok_ratio_of T
  have G_trimmed : FnOk P w K mg base CX0 4 A.f_trimmed D.f_trimmed ["numbers"] (sp_trimmed A.Ratio) := ok_trimmed T
  refine T.F_Poly___init__.okX sc_Poly___init__ (fun vs H Q E h => ?_) (fun cdv A' outer s H vs Q E hr h => ?_)
  · rcases h with ⟨x, dx, a, xs, f, rfl, _⟩ | ⟨x, v, rfl, _⟩ <;> rfl
  · refine ⟨_, (pss_cons (ps_if (pt_not (pt_val (pe_callB call_isiT rfl T.z_isinstance (by decide +kernel) (pa_cons (pv 1) (pa_cons (pe_tup (pa_cons (pe_bltn (v := .ty "list") rfl T.z_list (by decide +kernel) rfl) (pa_cons (pe_bltn (v := .ty "tuple") rfl T.z_tuple (by decide +kernel) rfl) pa_nil))) pa_nil))))) (pss_one (ps_raise rfl (takes_of rfl rfl rfl rfl) (pmk_mk0 T.e_NoPoly T.xn_NoPoly rfl T.g_NoPoly))) pss_nil)
  (pss_cons (ps_for (passes_of rfl) rfl (pi_or (pi_list (pv 1)) (pi_tup (pv 1))) (pg_name (i := 2) sc_Poly___init__.nd rfl (.inl rfl)) (pss_one (ps_if (pt_not (pt_val (pe_call G_is_number (hr.mono (by decide)) rfl T.g_is_number T.F_is_number.kp T.b_is_number .nil pass0 (pa_cons (pv 2) pa_nil)))) (pss_one (ps_raise rfl (takes_of rfl rfl rfl rfl) (pmk_mk0 T.e_NoPoly T.xn_NoPoly rfl T.g_NoPoly))) pss_nil)))
  (pss_cons (ps_fld (pv 0) (pe_callTy call_tuple_of rfl T.z_tuple (by decide +kernel) (pa_cons (pe_call G_trimmed (hr.mono (by decide)) rfl T.g_trimmed T.F_trimmed.kp T.b_trimmed .nil pass0 (pa_cons (pe_lc (own := [("number", 2)]) (g := gName 2) (tt := tYes) rfl sc_Poly___init__.nd (pi_or (pi_list (pv 1)) (pi_tup (pv 1))) (blkOk_by (N := N_Poly___init__) (sc := defScope s_Poly___init__) (by decide +kernel)) (fun _ _ _ _ _ => (pg_name (i := 2) sc_Poly___init__.nd rfl (.inl rfl))) (fun _ _ _ _ _ => pts_nil) (fun _ _ _ _ _ => (pe_call G_ratio_of (hr.mono (by decide)) rfl T.g_ratio_of T.F_ratio_of.kp T.b_ratio_of .nil pass0 (pa_cons (pv 2) pa_nil)))) pa_nil)) pa_nil)) rfl)
  (pss_cons (ps_fld (pv 0) (pe_op op_sub (pe_callB call_len_seq rfl T.z_len (by decide +kernel) (pa_cons (pe_fld (pv 0) rfl) pa_nil)) pe_int) rfl)
  (pss_cons (ps_fld (pv 0) (pe_make T.M_Ratio G_Ratio_init (hr.mono (by decide)) rfl T.g_Ratio b_Ratio_init1 d_Ratio_init1 pass0 (pa_cons pe_int pa_nil)) rfl)
  (pss_one (ps_if (pt_cmpR op_ge (pe_fld (pv 0) rfl) pe_int (nomark _)) (pss_one (ps_fld (pv 0) (pe_ix ix_tup (pe_fld (pv 0) rfl) (pe_fld (pv 0) rfl) (fun _ _ => rfl)) rfl)) pss_nil))))))), ?_⟩
    rcases h with h | ⟨x, v, rfl, hb, q⟩
    rotate_left
    · refine ⟨_, rfl, by show 2 ≤ sizeLine; decide, fun tp nt => ?_⟩
      have s1 : Same H (upd H tp (.tup [.ty "list", .ty "tuple"])) := same_upd nt
      have hb := hb.imp (fun h => h.same s1) fun h => h.same s1
      rcases hb with ⟨t, ty, k1, k2⟩ | ⟨a, xs, j, y, rfl, ha, hy, hg, hn⟩
      · exact ⟨v, tp, _, t, _, false, rfl, upd_same, .cons (.ty _) (.cons (.ty _) .nil), ty, kitAny_cons (b := false) k1 (fun _ => kitAny_cons (b := false) k2 (fun _ => rfl) (fun z => nomatch z)) (fun z => nomatch z), false, rfl, iteT (q _ s1)⟩
      obtain ⟨t, ty, ka⟩ := kit_seq (K := K) ha
      refine ⟨.ref a, tp, _, t, _, true, rfl, upd_same, .cons (.ty _) (.cons (.ty _) .nil), ty, ka, true, rfl, iteF ?_⟩
      have jl := get_lt hy
      clear ty ka
      generalize upd H tp (.tup [.ty "list", .ty "tuple"]) = H1 at s1 ha hg hn
      refine for_seq ha (fun R r => ⟨_, rfl, r⟩) (fun R r => ⟨_, rfl, r⟩) (fun i σ G => G = H1 ∧ i ≤ j ∧ ∃ y : Option V, σ = [some (.ref x), some (.ref a), y]) ⟨rfl, Nat.zero_le _, _, rfl⟩ (fun i σ G _ p => p.1 ▸ Same.refl H1) ?_ (fun σ G p => absurd p.2.1 (by omega))
      rintro i y' σ G hy' ⟨rfl, hij, z, rfl⟩
      rcases (by omega : i < j ∨ i = j) with e | e
      · exact ⟨_, rfl, _, rfl, .inl ⟨hg i y' e hy', true, rfl, iteF ⟨rfl, e, _, rfl⟩⟩⟩
      · subst e
        rw [hy] at hy'
        cases hy'
        exact ⟨_, rfl, _, rfl, .inr ⟨hn, false, rfl, iteT (q _ s1)⟩⟩
    obtain ⟨x, dx, a, xs, f, rfl, hx, ha, rr, l1, hb, hz, q⟩ := h
    refine ⟨_, rfl, by show 2 ≤ sizeLine; decide, fun tp nt => ?_⟩
    have s1 : Same H (upd H tp (.tup [.ty "list", .ty "tuple"])) := same_upd nt
    have ha1 := ha.imp (s1 a _) (s1 a _)
    obtain ⟨t, ty, ka⟩ := kit_seq (K := K) ha1
    refine ⟨.ref a, tp, _, t, _, true, rfl, upd_same, .cons (.ty _) (.cons (.ty _) .nil), ty, ka, true, rfl, iteF ?_⟩
    have rr1 := rr.same s1
    have hx1 := s1 _ _ hx
    clear ty ka rr hx ha
    generalize upd H tp (.tup [.ty "list", .ty "tuple"]) = H1 at s1 ha1 rr1 hx1
    refine for_seq ha1 (fun R r => ⟨_, rfl, r⟩) (fun R r => ⟨_, rfl, r⟩) (fun i σ G => G = H1 ∧ ∃ y : Option V, σ = [some (.ref x), some (.ref a), y]) ⟨rfl, _, rfl⟩ (fun i σ G _ p => p.1 ▸ Same.refl H1) ?_ ?_
    · rintro i y σ G hy ⟨rfl, z, rfl⟩
      exact ⟨_, rfl, _, rfl, .inl ⟨(rr1 i y hy).kind, true, rfl, iteF ⟨rfl, _, rfl⟩⟩⟩
    · rintro σ G ⟨rfl, y, rfl⟩
      refine lc_seq ha1 (fun R r => ⟨_, rfl, r⟩) (fun R r => ⟨_, rfl, r⟩) (fun d i E => Gro A.Ratio G d f i E) (fun d nd => .start nd) (fun d i E _ p => p.1) ?_ ?_
      · rintro d i z E nd hz2 p
        exact ⟨rfl, _, rfl, z, _, rfl, (rr1 i z hz2).same p.1, fun G2 v s2 r2 => p.push nd (by have := get_lt hz2; omega) s2 r2⟩
      · rintro d E nd ⟨sm, ys, hy, hd, hr⟩
        refine ⟨d, ys, f, rfl, hd, hr, by omega, fun k hk => hb k (by omega), fun H2 d2 s s2 hd2 hs z1 z2 => ?_⟩
        rw [hy] at hs z1
        refine ⟨d2, ys.take s, rfl, .inl ⟨.of hd2, fun tp2 ntp2 => ?_⟩⟩
        have s3 := same_upd (o := .tup (ys.take s)) ntp2
        have sx := (sm.trans s2).trans s3
        have hx2 := sx _ _ hx1
        have hr2 : RatsV A.Ratio (upd H2 tp2 (.tup (ys.take s))) (ys.take s) f := ((hr.same s2).same s3).take
        have htp2 : upd H2 tp2 (.tup (ys.take s)) tp2 = some (.tup (ys.take s)) := upd_same
        have ls : (ys.take s).length = s := by rw [List.length_take]; omega
        have zz : ∀ k, s ≤ k → f k = 0 := fun k hk => by
          rcases Nat.lt_or_ge k xs.length with h | h
          · exact z1 k hk h
          · exact hz k h
        generalize ys.take s = zs at *
        generalize upd H2 tp2 (.tup zs) = H3 at *
        clear hr hd hd2 s3 s2 sm
        have cl := T.k_Poly.cl
        refine ⟨_, rfl, x, A.Poly, dx, _, rfl, hx2, cl, T.n_Poly_coefficients, (by show 0 < 1000; decide), ?_⟩
        have k4 : ∀ b o, b ≠ x → H3 b = some o → upd H3 x (.ins A.Poly dx [("coefficients", .ref tp2)]) b = some o := upd_but
        have hr4 := hr2.keep hx2 rat_ne_nil k4
        have ht4 := k4 _ _ (ne_of htp2 hx2 fun z => by cases z) htp2
        have hx4 : upd H3 x (.ins A.Poly dx [("coefficients", .ref tp2)]) x = some (.ins A.Poly dx [("coefficients", .ref tp2)]) := upd_same
        refine ⟨_, rfl, x, A.Poly, dx, _, _, rfl, hx4, cl, T.n_Poly_coefficients, rfl, tp2, zs, rfl, .inr (.of ht4), _, _, rfl, rfl, _, rfl, x, A.Poly, dx, _, rfl, hx4, cl, T.n_Poly_degree, (by show 1 < 1000; decide), ?_⟩
        rw [ls]
        have e5 : upd (upd H3 x (.ins A.Poly dx [("coefficients", .ref tp2)])) x (.ins A.Poly dx [("coefficients", .ref tp2), ("degree", .int ((s : Int) - 1))]) = upd H3 x (.ins A.Poly dx [("coefficients", .ref tp2), ("degree", .int ((s : Int) - 1))]) := upd_upd
        have k5 : ∀ b o, b ≠ x → H3 b = some o → upd H3 x (.ins A.Poly dx [("coefficients", .ref tp2), ("degree", .int ((s : Int) - 1))]) b = some o := upd_but
        have hr5 := hr2.keep hx2 rat_ne_nil k5
        have ht5 := k5 _ _ (ne_of htp2 hx2 fun z => by cases z) htp2
        have hx5 : upd H3 x (.ins A.Poly dx [("coefficients", .ref tp2), ("degree", .int ((s : Int) - 1))]) x = some (.ins A.Poly dx [("coefficients", .ref tp2), ("degree", .int ((s : Int) - 1))]) := upd_same
        show tSeq _ _ _ _ (upd (upd H3 x (.ins A.Poly dx [("coefficients", .ref tp2)])) x (.ins A.Poly dx [("coefficients", .ref tp2), ("degree", .int ((s : Int) - 1))]))
        rw [e5]
        clear hr4 ht4 hx4 k4 e5
        generalize upd H3 x (.ins A.Poly dx [("coefficients", .ref tp2), ("degree", .int ((s : Int) - 1))]) = H5 at *
        refine fun r dr nr nd2 ne => rat_make (by decide) so nr nd2 ne fun H6 s6 r6 => ?_
        have r6 := r6.to (one_div 0)
        have hx6 := s6 _ _ hx5
        have hr6 := hr5.same s6
        have ht6 := s6 _ _ ht5
        refine ⟨_, rfl, x, A.Poly, dx, _, rfl, hx6, cl, T.n_Poly_lead, (by show 2 < 1000; decide), ?_⟩
        have fd : ∀ (l : V) (b : Addr) (o : HO), b ≠ x → H b = some o → upd H6 x (.ins A.Poly dx [("coefficients", .ref tp2), ("degree", .int ((s : Int) - 1)), ("lead", l)]) b = some o := fun l b o hb h => upd_but _ _ hb (s6 _ _ (k5 _ _ hb (sx _ _ (s1 _ _ h))))
        have pl : ∀ l : V, RatV A.Ratio H6 l (f (s - 1)) → PolyV A.Poly A.Ratio (upd H6 x (.ins A.Poly dx [("coefficients", .ref tp2), ("degree", .int ((s : Int) - 1)), ("lead", l)])) (.ref x) s f := fun l hl =>
          ⟨⟨x, dx, tp2, zs, l, rfl, upd_same, upd_but _ _ (ne_of ht6 hx6 fun z => by cases z) ht6, ls, hr6.keep hx6 rat_ne_co upd_but, hl.keep hx6 rat_ne_co upd_but⟩, zz, z2⟩
        have hx7 : upd H6 x (.ins A.Poly dx [("coefficients", .ref tp2), ("degree", .int ((s : Int) - 1)), ("lead", .ref r)]) x = some (.ins A.Poly dx [("coefficients", .ref tp2), ("degree", .int ((s : Int) - 1)), ("lead", .ref r)]) := upd_same
        have ht7 : upd H6 x (.ins A.Poly dx [("coefficients", .ref tp2), ("degree", .int ((s : Int) - 1)), ("lead", .ref r)]) tp2 = some (.tup zs) := upd_but _ _ (ne_of ht6 hx6 fun z => by cases z) ht6
        refine ⟨_, rfl, x, A.Poly, dx, _, _, rfl, hx7, cl, T.n_Poly_degree, rfl, _, _, rfl, rfl, _, rfl, ?_⟩
        refine ite2 (fun c => ?_) (fun c => ?_)
        · have s0 : 0 < s := by
            have := of_decide_eq_true c
            omega
          have hg := List.getElem?_eq_getElem (show s - 1 < zs.length by omega)
          have hat : atI zs ((s : Int) - 1) = some zs[s - 1] := by
            rw [show (s : Int) - 1 = ((s - 1 : Nat) : Int) by omega]
            exact atI_nat hg
          refine ⟨_, rfl, x, A.Poly, dx, _, _, rfl, hx7, cl, T.n_Poly_coefficients, rfl, _, rfl, x, A.Poly, dx, _, _, rfl, hx7, cl, T.n_Poly_degree, rfl, tp2, zs, _, _, rfl, rfl, .of ht7, hat, _, rfl, x, A.Poly, dx, _, rfl, hx7, cl, T.n_Poly_lead, (by show 3 < 1000; decide), ?_⟩
          show Q .non (upd (upd H6 x (.ins A.Poly dx [("coefficients", .ref tp2), ("degree", .int ((s : Int) - 1)), ("lead", .ref r)])) x (.ins A.Poly dx [("coefficients", .ref tp2), ("degree", .int ((s : Int) - 1)), ("lead", zs[s - 1])]))
          rw [upd_upd]
          exact q _ s (fd _) (pl _ (hr6 _ _ hg)) hs
        · have s0 : s = 0 := by
            rcases Nat.eq_zero_or_pos s with e | e
            · exact e
            · exact absurd (decide_eq_true (by omega)) c
          exact q _ s (fd _) (pl _ (r6.to (by rw [s0, zz 0 (by omega), Rat.intCast_zero]))) hs
theorem poly_makeX {H : Hp} {E : XK} {x dx a : Addr} {xs : List V} {f : Nat → Rat} {Q : Hp → Prop} (nx : H x = none) (nd : H dx = none) (ha : H a = some (.lst xs) ∨ H a = some (.tup xs)) (hr : NumsV A.Ratio H xs f) (l1 : xs.length ≤ 60) (hb : ∀ k, k < xs.length → Bd 3900 3900 (f k)) (hz : ∀ k, xs.length ≤ k → f k = 0)
    (q : ∀ G s, Same H G → PolyV A.Poly A.Ratio G (.ref x) s f → s ≤ xs.length → Q G) : sp_polyX K A [.ref x, .ref a] (upd (upd H dx (.own x)) x (.ins A.Poly dx [])) (fun v G => v = .non ∧ Q G) E := by
  have s0 : Same H (upd (upd H dx (.own x)) x (.ins A.Poly dx [])) := same_upd' (same_upd nd) nx
  exact .inl ⟨x, dx, a, xs, f, rfl, upd_same, ha.imp (s0 a _) (s0 a _), hr.same s0, l1, hb, hz, fun G s k pl hs => ⟨rfl, q G s (made_but nx nd k) pl hs⟩⟩
def RatB (C : Addr) : Addr → Addr → Hp → Bool → Prop := fun a b H r => ∃ z w, RatV C H (.ref a) z ∧ RatV C H (.ref b) w ∧ Bd 3900 3900 z ∧ Bd 3900 3900 w ∧ r = decide (z = w)
theorem eqB_imp {C : Addr} : ∀ (vs : List V) (H : Hp) (Q : VK) (E : XK), spEqB (RatB C) vs H Q E → sp_cmp C r_eq vs H Q E := fun vs H Q E h => by
  obtain ⟨a, b, r, rfl, ⟨z, w, r1, r2, b1, b2, rfl⟩, q⟩ := h
  exact ⟨.ref a, .ref b, z, w, rfl, r1, r2.num, b1, b2, q H fun _ _ h => h⟩
theorem eqB_mon {C : Addr} : MonB (InsB C (RatB C)) := fun x y H H' b k h => by
  obtain ⟨a, c, dx, dy, fs, gs, e1, e2, h1, h2, z, w, r1, r2, s⟩ := h
  exact ⟨a, c, dx, dy, fs, gs, e1, e2, k _ _ h1, k _ _ h2, z, w, r1.same k, r2.same k, s⟩
theorem eqB_ref {C : Addr} : ∀ (x y : V) (H : Hp) (b : Bool), InsB C (RatB C) x y H b → ∃ a c, x = .ref a ∧ y = .ref c ∧ (a = c → b = true) := fun x y H b h => by
  obtain ⟨a, c, dx, dy, fs, gs, e1, e2, h1, h2, z, w, r1, r2, _, _, rfl⟩ := h
  refine ⟨a, c, e1, e2, fun e => ?_⟩
  subst e
  exact decide_eq_true (r1.one r2)
def sp_peqB (A : Ad) : Sp := fun vs H Q _ => ∃ p u s s2 f g, vs = [p, u] ∧ PolyV A.Poly A.Ratio H p s f ∧ PolyV A.Poly A.Ratio H u s2 g ∧ (∀ k, Bd 3900 3900 (f k)) ∧ (∀ k, Bd 3900 3900 (g k)) ∧ ∀ H' r, Same H H' → (r = true ↔ ∀ k, f k = g k) → Q (.bl r) H'
theorem ok_Poly___eq__ (T : Txt K mg A D) : FnOk P w K mg base CX0 6 A.f_Poly___eq__ D.f_Poly___eq__ ["self", "other"] (sp_peqB A) := by
  have G_Ratio___eq__ : FnOk P w K mg base CX0 3 A.f_Ratio___eq__ D.f_Ratio___eq__ ["self", "other"] (sp_cmp A.Ratio r_eq) := ok_Ratio___eq__ T
  refine T.F_Poly___eq__.ok sc_Poly___eq__ (fun vs H Q E h => ?_) (fun cdv A' outer s H vs Q E hr h => ?_)
  · obtain ⟨p, u, s, s2, f, g, rfl, _⟩ := h
    rfl
  · obtain ⟨p, u, s, s2, f, g, rfl, hp, hu, bf, bg, q⟩ := h
    refine ⟨_, (pss_one (ps_ret (pe_and (pe_callB call_isi rfl T.z_isinstance (by decide +kernel) (pa_cons (pv 1) (pa_cons (pe_glob (v := .ref A.Poly) rfl T.g_Poly rfl) pa_nil))) (pe_one (pe_cmpR (op_eqB (rcB_tup eqB_mon (RcB.eqB (rcB_ins (G_Ratio___eq__.imp eqB_imp) T.m_Ratio___eq__.at_ T.m_Ratio___eq__.fn T.b_Ratio___eq__ pass0) eqB_ref)) (hr.mono (by decide))) (pe_fld (pv 0) rfl) (pe_fld (pv 1) rfl) (nomark _)))))), ?_⟩
    have cl := T.k_Poly.cl
    obtain ⟨⟨a, dx, tp, ys, l, rfl, h1, h2, h3, h4, h5⟩, hz, z2⟩ := hp
    obtain ⟨⟨a', dx', tp', ys', l', rfl, h1', h2', h3', h4', h5'⟩, hz', z2'⟩ := hu
    refine ⟨_, rfl, .ref a', .ref A.Poly, _, _, true, rfl, .own _, T.k_Poly.ty h1', kit_self, true, rfl, iteT ?_⟩
    refine ⟨_, rfl, a, A.Poly, dx, _, _, rfl, h1, cl, T.n_Poly_coefficients, rfl, _, rfl, a', A.Poly, dx', _, _, rfl, h1', cl, T.n_Poly_coefficients, rfl, _, ⟨tp, tp', ys, ys', fun i => decide (f i = g i), rfl, rfl, .of h2, .of h2', fun i x y ex ey => ?_, rfl⟩, fun H' k => q H' _ k ?_⟩
    · have r1 := h4 i x ex
      have r2 := h4' i y ey
      have ⟨b, db, e1, g1⟩ := r1
      have ⟨c, dc, e2, g2⟩ := r2
      subst e1 e2
      exact ⟨b, c, db, dc, _, _, rfl, rfl, g1, g2, f i, g i, r1, r2, bf i, bg i, rfl⟩
    · rw [Bool.and_eq_true, List.all_eq_true, beq_iff_eq, h3, h3']
      constructor
      · rintro ⟨e1, e2⟩ k
        rcases Nat.lt_or_ge k s with c | c
        · exact of_decide_eq_true (e1 k (List.mem_range.mpr (by omega)))
        · rw [hz k c, hz' k (by omega)]
      · intro e
        have eg : f = g := funext e
        subst eg
        exact ⟨fun k _ => decide_eq_true rfl, size_one hz z2 hz' z2'⟩
theorem no_poly (T : Txt K mg A D) {H : Hp} {y : V} (h : Ins H y A.Poly) : NoNum K A.Ratio H y := by
  obtain ⟨a, dx, fs, rfl, ha⟩ := h
  exact ⟨_, T.k_Poly.ty ha, T.kit_PR, _, false, false, T.k_Poly.ty ha, T.k_Poly.ki, (fun z => nomatch z), rfl⟩
end

end Mo

namespace Mo
open PySem PySem.Spec PyProof.Rows L2 MoL MoW
open C8 (pss_cut tCut)
section
variable {P : Program} {w : World} {K : PySem.W.Frag} {mg : Str → Option Value} {base : Heap} {A : Ad} {D : Fd}
def sp_feed (K : PySem.W.Frag) : Sp := fun vs H Q _ => ∃ (a : Addr) (ns : List Int), vs = [.ref a] ∧ SqL K H a (ns.map V.int) ∧ ns.length ≤ 63 ∧ ∀ H' f, Same H H' → FeedAt H' f → H f = none → Q (.ref f) H'
theorem ok__law_feed (T : Txt K mg A D) : FnOk P w K mg base CX0 1 A.f__law_feed D.f__law_feed ["_law_script"] (sp_feed K) := by
  skip
  refine T.F__law_feed.ok sc__law_feed (fun vs H Q E h => ?_) (fun cdv A' outer s H vs Q E hr h => ?_)
  · obtain ⟨a, ns, rfl, _⟩ := h
    rfl
  · obtain ⟨a, ns, rfl, hS, hl, q⟩ := h
    refine ⟨_, (pss_one (ps_ret (pe_lst (pa_cons (pe_lc (own := [("_law_cell", 1)]) (g := gName 1) (tt := tYes) rfl sc__law_feed.nd (pi_list (pe_slice sl_list (pv 0) po_none (po_some pe_int))) (blkOk_by (N := N__law_feed) (sc := defScope s__law_feed) (by decide +kernel)) (fun _ _ _ _ _ => (pg_name (i := 1) sc__law_feed.nd rfl (.inl rfl))) (fun _ _ _ _ _ => pts_nil) (fun _ _ _ _ _ => (pe_callB call_abs rfl T.z_abs (by decide +kernel) (pa_cons (pe_callTy call_int1 rfl T.z_int (by decide +kernel) (pa_cons (pv 1) pa_nil)) pa_nil)))) (pa_cons pe_int (pa_cons pe_int (pa_cons pe_int (pa_cons pe_int (pa_cons pe_int pa_nil))))))))), ?_⟩
    refine ⟨_, rfl, 63, rfl, a, _, rfl, hS, fun p np => ?_⟩
    have s1 : Same H (upd H p (.lst (cutV (ns.map V.int) none (some 63)))) := same_upd np
    obtain ⟨zs, hz, hzl⟩ : ∃ zs : List Int, cutV (ns.map V.int) none (some 63) = zs.map V.int ∧ zs.length ≤ 63 := by
      refine ⟨(ns.drop (HT.sIx (ns.map V.int).length 0 none)).take (HT.sIx (ns.map V.int).length (ns.map V.int).length (some 63) - HT.sIx (ns.map V.int).length 0 none), ?_, ?_⟩
      · unfold cutV
        rw [List.map_take, List.map_drop]
      · rw [List.length_take, List.length_drop]
        omega
    rw [hz] at s1 ⊢
    refine ⟨p, rfl, ⟨_, .of upd_same⟩, fun d nd => ?_⟩
    have npd : p ≠ d := fun e => by rw [e, upd_same] at nd; cases nd
    refine lc_list (K := K) (a := p) (xs := zs.map V.int) (fun i H' => Same H H' ∧ H' p = some (.lst (zs.map V.int)) ∧ ∃ ys : List Int, ys.length = i ∧ H' d = some (.lst (ys.map V.int)))
      ⟨s1.trans (same_upd nd), by rw [upd_ne npd, upd_same], [], rfl, upd_same⟩ (fun i H' _ h => .of h.2.1) ?_ ?_
    · rintro i x H' hx ⟨sm, hp, ys, hy, hd⟩
      obtain ⟨z, hz', rfl⟩ : ∃ z, zs[i]? = some z ∧ x = .int z := by
        rw [List.getElem?_map] at hx
        cases e : zs[i]? with
        | none => rw [e] at hx; cases hx
        | some z => rw [e] at hx; exact ⟨z, rfl, (Option.some.inj hx).symm⟩
      have il : i < zs.length := (List.getElem?_eq_some_iff.mp hz').1
      refine ⟨rfl, ?_⟩
      refine ⟨_, rfl, .inl ⟨z, rfl, z, rfl, _, hd, ?_, ⟨fun b o e => ?_, ?_, ys ++ [if z < 0 then -z else z], ?_, ?_⟩⟩⟩
      · rw [List.length_map, hy]
        exact small1000 (by omega)
      · have nb : b ≠ d := fun e' => by
          subst e'
          rw [s1.free nd] at e
          cases e
        rw [upd_ne nb]
        exact sm _ _ e
      · rw [upd_ne npd]
        exact hp
      · rw [List.length_append, hy]
        rfl
      · rw [upd_same, List.map_append]
        rfl
    · rintro H' ⟨sm, hp, ys, hy, hd⟩
      rw [List.length_map] at hy
      refine ⟨by show 6 ≤ sizeLine; decide, fun f nf => ?_⟩
      have nfd : d ≠ f := ne_of_none hd nf
      refine q _ f (sm.trans (same_upd nf)) ⟨d, ys, 0, 0, 0, 0, 0, upd_same, by rw [upd_ne nfd]; exact hd, Nat.zero_le _, by omega, Int.le_refl _⟩ (sm.free nf)

theorem lt_mod : (0 : Int) < 2147483647 := by decide
theorem lt_mod' : (0 : Int) < 2147483399 := by decide
def sp_take : Sp := fun vs H Q _ => ∃ (f : Addr) (z : Int), vs = [.ref f, .int z] ∧ FeedAt H f ∧ 0 < z ∧ Sm z ∧ ∀ H' v, 0 ≤ v → v < z → Stp f H H' → Q (.int v) H'
theorem ok__law_take (T : Txt K mg A D) : FnOk P w K mg base CX0 1 A.f__law_take D.f__law_take ["_law_feed_here", "_law_size"] (sp_take) := by
  skip
  refine T.F__law_take.ok sc__law_take (fun vs H Q E h => ?_) (fun cdv A' outer s H vs Q E hr h => ?_)
  · obtain ⟨f, z, rfl, _⟩ := h
    rfl
  · obtain ⟨f, z, rfl, ⟨l, xs, i, r, t, n, c, hf, hl, hi, hx, hr0⟩, hz, sz, q⟩ := h
    refine ⟨_, (pss_cons (ps_augS (pv 0) pe_int get_list pe_int ip_add set_list)
  (pss_cut (ps_if (PW.pt (pw_and (pt_cmpR op_eq (pe_ix ix_list (pv 0) pe_int (fun _ _ => rfl)) pe_int (nomark _)) (pw_and (pt_cmpR op_eq (pe_ix ix_list (pv 0) pe_int (fun _ _ => rfl)) pe_int (nomark _)) (pw_and1 (pt_cmpR op_lt (pe_ix ix_list (pv 0) pe_int (fun _ _ => rfl)) (pe_callB call_len_seq rfl T.z_len (by decide +kernel) (pa_cons (pe_ix ix_list (pv 0) pe_int (fun _ _ => rfl)) pa_nil)) (nomark _)))))) (pss_cons (ps_set (i := 2) sc__law_take.nd rfl (.inl rfl) (pe_ix ix_list (pe_ix ix_list (pv 0) pe_int (fun _ _ => rfl)) (pe_ix ix_list (pv 0) pe_int (fun _ _ => rfl)) (fun _ _ => rfl)))
  (pss_cons (ps_augS (pv 0) pe_int get_list pe_int ip_add set_list)
  (pss_one (ps_if (pt_cmpR op_ge (pv 2) (pe_op op_pow pe_int pe_int) (nomark _)) (pss_one (ps_asg (pv 2) (pg_sub (pv 0) pe_int set_list))) (pss_cons (ps_asg pe_int (pg_sub (pv 0) pe_int set_list))
  (pss_one (ps_asg (pe_op op_add (pe_ix ix_list (pv 0) pe_int (fun _ _ => rfl)) (pv 2)) (pg_sub (pv 0) pe_int set_list)))))))) pss_nil)
  (pss_cons (ps_if (pt_cmpR op_gt (pe_ix ix_list (pv 0) pe_int (fun _ _ => rfl)) pe_int (nomark _)) (pss_cons (ps_set (i := 3) sc__law_take.nd rfl (.inl rfl) (pe_op op_mod (pe_callTy call_int1 rfl T.z_int (by decide +kernel) (pa_cons (pe_ix ix_list (pv 0) pe_int (fun _ _ => rfl)) pa_nil)) (pv 1)))
  (pss_cons (ps_asg (pe_op op_fdivA (pe_ix ix_list (pv 0) pe_int (fun _ _ => rfl)) (pv 1)) (pg_sub (pv 0) pe_int set_list))
  (pss_one (ps_ret (pv 3))))) pss_nil)
  (pss_cons (ps_asg (pe_callB (call_max2 rfl) rfl T.z_max (by decide +kernel) (pa_cons pe_int (pa_cons (pe_op op_sub (pe_ix ix_list (pv 0) pe_int (fun _ _ => rfl)) pe_int) pa_nil))) (pg_sub (pv 0) pe_int set_list))
  (pss_cons (ps_set (i := 4) sc__law_take.nd rfl (.inl rfl) (pe_op op_mod (pe_callTy call_int1 rfl T.z_int (by decide +kernel) (pa_cons (pe_op op_mul (pe_op op_add (pe_op op_add (pe_ix ix_list (pv 0) pe_int (fun _ _ => rfl)) (pe_op op_mul pe_int (pe_ix ix_list (pv 0) pe_int (fun _ _ => rfl)))) pe_int) pe_int) pa_nil)) pe_int))
  (pss_cons (ps_set (i := 4) sc__law_take.nd rfl (.inl rfl) (pe_op op_mod (pe_callTy call_int1 rfl T.z_int (by decide +kernel) (pa_cons (pe_op op_mul (pv 4) (pe_op op_add (pe_op op_fdivA (pv 4) pe_int) pe_int)) pa_nil)) pe_int))
  (pss_cons (ps_set (i := 4) sc__law_take.nd rfl (.inl rfl) (pe_op op_mod (pe_callTy call_int1 rfl T.z_int (by decide +kernel) (pa_cons (pe_op op_mul (pv 4) (pe_op op_add (pe_op op_fdivA (pv 4) pe_int) pe_int)) pa_nil)) pe_int))
  (pss_one (ps_ret (pe_op op_mod (pv 4) (pv 1))))))))))), ?_⟩
    have N0 : Now H H f l i r t n c := ⟨hf, fun _ _ => rfl⟩
    have lf : l ≠ f := ne_of hl hf fun e => by
      have := HO.lst.inj e
      cases xs with
      | nil => cases this
      | cons x xs => cases this
    have fin : ∀ {H' i' r' t' n' c'} (v : Int), Now H H' f l ((i' : Nat) : Int) r' t' n' c' → i' ≤ xs.length → 0 ≤ r' → 0 ≤ v → v < z → Q (.int v) H' := fun v N h1 h2 h3 h4 =>
      q _ v h3 h4 ⟨⟨l, xs, _, _, _, _, _, N.at_, by rw [N.oth l lf]; exact hl, h1, hx, h2⟩, fun b o hb e => by rw [N.oth b hb]; exact e, fun l' i0 r0 t0 n0 s0 e => by rw [hf] at e; cases e; exact ⟨_, _, _, _, _, N.at_⟩⟩
    -- feed[4] += 1
    refine ⟨_, rfl, f, _, 4, _, rfl, rfl, .of hf, rfl, n, 1, rfl, rfl, f, _, 4, 4, rfl, rfl, hf, rfl, ?_⟩
    have N1 : Now H (upd H f (six l i r t (n + 1) c)) f l i r t (n + 1) c := N0.put
    show tCut _ _ _ _ (upd H f (six l i r t (n + 1) c))
    generalize upd H f (six l i r t (n + 1) c) = H1 at N1
    -- the reading of a new cell
    refine ⟨fun σ H' => (∃ y, σ = [some (.ref f), some (.int z), y, none, none]) ∧ ∃ i' r' t' n' c', Now H H' f l ((i' : Nat) : Int) r' t' n' c' ∧ i' ≤ xs.length ∧ 0 ≤ r', ?_, ?_⟩
    · have skip : ∀ σ : L2.St, σ = [some (.ref f), some (.int z), none, none, none] → (∃ y, σ = [some (.ref f), some (.int z), y, none, none]) ∧ ∃ i' r' t' n' c', Now H H1 f l ((i' : Nat) : Int) r' t' n' c' ∧ i' ≤ xs.length ∧ 0 ≤ r' :=
        fun σ e => ⟨⟨_, e⟩, _, _, _, _, _, N1, hi, hr0⟩
      refine ⟨_, rfl, f, _, 2, _, rfl, rfl, .of N1.at_, rfl, rfl, _, rfl, ?_⟩
      refine ite2 (fun _ => ?_) (fun _ => iteF (skip _ rfl))
      refine ⟨_, rfl, f, _, 3, _, rfl, rfl, .of N1.at_, rfl, rfl, _, rfl, ?_⟩
      refine ite2 (fun _ => ?_) (fun _ => iteF (skip _ rfl))
      have hl1 : H1 l = some (.lst (xs.map V.int)) := by rw [N1.oth l lf]; exact hl
      refine ⟨_, rfl, f, _, 1, _, rfl, rfl, .of N1.at_, rfl, _, rfl, f, _, 0, _, rfl, rfl, .of N1.at_, rfl, l, _, rfl, .inl (.of hl1), _, _, rfl, rfl, _, rfl, ?_⟩
      refine ite2 (fun hlt => ?_) (fun _ => skip _ rfl)
      have hlt' : i < xs.length := by
        have := of_decide_eq_true hlt
        rw [List.length_map] at this
        omega
      have gi : (xs.map V.int)[i]? = some (.int xs[i]) := by
        rw [List.getElem?_map, List.getElem?_eq_getElem hlt']
        rfl
      refine ⟨_, rfl, f, _, 0, _, rfl, rfl, .of N1.at_, rfl, _, rfl, f, _, 1, _, rfl, rfl, .of N1.at_, rfl, l, _, i, _, rfl, rfl, .of hl1, atI_nat gi, ?_⟩
      refine ⟨_, rfl, f, _, 1, _, rfl, rfl, .of N1.at_, rfl, i, 1, rfl, rfl, f, _, 1, 1, rfl, rfl, N1.at_, rfl, ?_⟩
      have ei : ((i : Int) + 1) = ((i + 1 : Nat) : Int) := by omega
      have N2 : Now H (upd H1 f (six l ((i : Int) + 1) r t (n + 1) c)) f l ((i : Int) + 1) r t (n + 1) c := N1.put
      refine ⟨_, rfl, _, _, rfl, rfl, ⟨by decide, by decide, by decide⟩, _, _, rfl, rfl, _, rfl, ?_⟩
      refine ite2 (fun hbig => ?_) (fun hbig => ?_)
      · have hb : 0 ≤ xs[i] := by
          have := of_decide_eq_true hbig
          have e : (10 : Int) ^ (18 : Int).toNat = 1000000000000000000 := by decide
          rw [e] at this
          omega
        refine ⟨_, rfl, _, rfl, f, _, 2, 2, rfl, rfl, N2.at_, rfl, ⟨_, rfl⟩, ?_⟩
        exact ⟨i + 1, _, _, _, _, ei ▸ N2.put, hlt', hb⟩
      · refine ⟨_, rfl, f, _, 3, 3, rfl, rfl, N2.at_, rfl, ?_⟩
        have N3 : Now H (upd (upd H1 f (six l ((i : Int) + 1) r t (n + 1) c)) f (six l ((i : Int) + 1) r 7 (n + 1) c)) f l ((i : Int) + 1) r 7 (n + 1) c := N2.put
        refine ⟨_, rfl, f, _, 5, _, rfl, rfl, .of N3.at_, rfl, _, rfl, _, _, rfl, rfl, _, rfl, f, _, 5, 5, rfl, rfl, N3.at_, rfl, ⟨_, rfl⟩, ?_⟩
        exact ⟨i + 1, _, _, _, _, ei ▸ N3.put, hlt', hr0⟩
    -- a digit
    · rintro σ H2 ⟨⟨y, rfl⟩, i', r', t', n', c', N2, hi', hr'⟩
      refine ⟨_, rfl, f, _, 2, _, rfl, rfl, .of N2.at_, rfl, _, _, rfl, rfl, _, rfl, ?_⟩
      refine ite2 (fun _ => ?_) (fun _ => ?_)
      · refine ⟨_, rfl, f, _, 2, _, rfl, rfl, .of N2.at_, rfl, .inl ⟨_, rfl, _, rfl, _, _, rfl, rfl, hz, ?_⟩⟩
        refine ⟨_, rfl, f, _, 2, _, rfl, rfl, .of N2.at_, rfl, _, rfl, _, _, rfl, rfl, sz.div (by omega), _, rfl, f, _, 2, 2, rfl, rfl, N2.at_, rfl, ?_⟩
        exact ⟨_, rfl, fin _ N2.put hi' (fdiv_nn hr' hz) (Int.emod_nonneg _ (by omega)) (Int.emod_lt_of_pos _ hz)⟩
      · refine ⟨_, rfl, f, _, 3, _, rfl, rfl, .of N2.at_, rfl, _, _, rfl, rfl, _, _, rfl, _, rfl, f, _, 3, 3, rfl, rfl, N2.at_, rfl, ?_⟩
        have N3 : ∀ t'', Now H (upd H2 f (six l ((i' : Nat) : Int) r' t'' n' c')) f l ((i' : Nat) : Int) r' t'' n' c' := fun _ => N2.put
        show tSeq _ _ _ _ (upd H2 f (six l ((i' : Nat) : Int) r' _ n' c'))
        generalize hT : (if t' - 1 > 0 then t' - 1 else (0 : Int)) = t3
        have N3 := N3 t3
        generalize upd H2 f (six l ((i' : Nat) : Int) r' t3 n' c') = H3 at N3
        refine ⟨_, rfl, f, _, 5, _, rfl, rfl, .of N3.at_, rfl, _, rfl, f, _, 4, _, rfl, rfl, .of N3.at_, rfl, _, _, rfl, rfl, .inl ⟨by decide, by decide⟩, _, _, rfl, rfl, _, _, rfl, rfl, _, _, rfl, rfl, .inr ⟨by decide, by decide⟩, .inl ⟨_, rfl, _, _, rfl, rfl, lt_mod, ?_⟩⟩
        have b1 : ∀ x : Int, 0 ≤ x % 2147483647 ∧ x % 2147483647 < 2147483647 := fun x => ⟨Int.emod_nonneg _ (by decide), Int.emod_lt_of_pos _ (by decide)⟩
        generalize hA : ((c' + 7919 * n' + 1) * 48271) % 2147483647 = a1
        have a1b := b1 ((c' + 7919 * n' + 1) * 48271)
        rw [hA] at a1b
        refine ⟨_, rfl, _, rfl, _, _, rfl, rfl, ⟨by decide, by decide⟩, _, _, rfl, rfl, _, _, rfl, rfl, .inl ⟨by omega, by omega⟩, .inl ⟨_, rfl, _, _, rfl, rfl, lt_mod, ?_⟩⟩
        generalize hB : (a1 * (a1.fdiv 1009 + 69621)) % 2147483647 = a2
        have a2b := b1 (a1 * (a1.fdiv 1009 + 69621))
        rw [hB] at a2b
        refine ⟨_, rfl, _, rfl, _, _, rfl, rfl, ⟨by decide, by decide⟩, _, _, rfl, rfl, _, _, rfl, rfl, .inl ⟨by omega, by omega⟩, .inl ⟨_, rfl, _, _, rfl, rfl, lt_mod', ?_⟩⟩
        exact ⟨_, rfl, _, rfl, _, _, rfl, rfl, hz, fin _ N3 hi' hr' (Int.emod_nonneg _ (by omega)) (Int.emod_lt_of_pos _ hz)⟩
def sp_number : Sp := fun vs H Q _ => ∃ (f : Addr) (z : Int), vs = [.ref f, .int z] ∧ FeedAt H f ∧ 0 < z ∧ Sm z ∧ ∀ H' v, -z < v → v < z → Stp f H H' → Q (.int v) H'
theorem ok__law_number (T : Txt K mg A D) : FnOk P w K mg base CX0 2 A.f__law_number D.f__law_number ["_law_feed_here", "_law_size"] (sp_number) := by
  have G__law_take : FnOk P w K mg base CX0 1 A.f__law_take D.f__law_take ["_law_feed_here", "_law_size"] (sp_take) := ok__law_take T
  refine T.F__law_number.ok sc__law_number (fun vs H Q E h => ?_) (fun cdv A' outer s H vs Q E hr h => ?_)
  · obtain ⟨f, z, rfl, _⟩ := h
    rfl
  · obtain ⟨f, z, rfl, hf, hz, sz, q⟩ := h
    refine ⟨_, (pss_cons (ps_set (i := 2) sc__law_number.nd rfl (.inl rfl) (pe_op op_sub pe_int (pe_op op_mul pe_int (pe_call G__law_take (hr.mono (by decide)) rfl T.g__law_take T.F__law_take.kp T.b__law_take .nil pass0 (pa_cons (pv 0) (pa_cons pe_int pa_nil))))))
  (pss_one (ps_ret (pe_op op_mul (pv 2) (pe_call G__law_take (hr.mono (by decide)) rfl T.g__law_take T.F__law_take.kp T.b__law_take .nil pass0 (pa_cons (pv 0) (pa_cons (pv 1) pa_nil))))))), ?_⟩
    refine ⟨_, rfl, f, 2, rfl, hf, by decide, .ab (by decide) (by decide), fun H1 v v0 v1 st => ⟨_, _, rfl, rfl, .inl ⟨by decide, by decide⟩, _, _, rfl, rfl, ?_⟩⟩
    refine ⟨_, rfl, _, rfl, _, rfl, f, z, rfl, st.feed, hz, sz, fun H2 u u0 u1 st2 => ⟨_, _, rfl, rfl, .inl ⟨by omega, by omega⟩, q _ _ ?_ ?_ (st.trans st2)⟩⟩
    · rcases (by omega : v = 0 ∨ v = 1) with e | e <;> subst e <;> omega
    · rcases (by omega : v = 0 ∨ v = 1) with e | e <;> subst e <;> omega
theorem ok__law_is_integer (T : Txt K mg A D) : FnOk P w K mg base CX0 1 A.f__law_is_integer D.f__law_is_integer ["_law_value"] (sp_is_whole K) := by
  skip
  refine T.F__law_is_integer.ok sc__law_is_integer (fun vs H Q E h => ?_) (fun cdv A' outer s H vs Q E hr h => ?_)
  · obtain ⟨x, b, rfl, _⟩ := h
    rfl
  · obtain ⟨x, b, rfl, ⟨t, b1, b2, ty, e1, e2, rfl⟩, q⟩ := h
    refine ⟨_, (pss_one (ps_ret (pe_and (pe_callB call_isi rfl T.z_isinstance (by decide +kernel) (pa_cons (pv 0) (pa_cons (pe_bltn (v := .ty "int") rfl T.z_int (by decide +kernel) rfl) pa_nil))) (pe_one (pe_not (pe_callB call_isi rfl T.z_isinstance (by decide +kernel) (pa_cons (pv 0) (pa_cons (pe_bltn (v := .ty "bool") rfl T.z_bool (by decide +kernel) rfl) pa_nil)))))))), ?_⟩
    refine ⟨x, rfl, x, .ty "int", t, _, b1, rfl, .ty _, ty, e1, b1, rfl, ?_⟩
    cases b1 with
    | false => exact iteF q
    | true => exact iteT ⟨x, rfl, x, .ty "bool", t, _, b2, rfl, .ty _, ty, e2 rfl, b2, rfl, q⟩
def sp_is (C : Addr) : Sp := fun vs H Q _ => ∃ v z p q', vs = [v, .int p, .int q'] ∧ RatV C H v z ∧ q' ≠ 0 ∧ qv (p, q') = z ∧ Bd 3900 3900 z ∧ Sm p ∧ Sm q' ∧ Q (.bl true) H
theorem cross_of {x y : Int} {z : Rat} (hy : y ≠ 0) (h : qv (x, y) = z) : z.num * y = x * (z.den : Int) := inj (by
  have h1 : z * (y : Rat) = x := by rw [← h]; exact qv_mul (p := (x, y)) hy
  rw [Rat.intCast_mul, Rat.intCast_mul, ← h1, num_is]
  grind)
theorem ok__law_is (T : Txt K mg A D) : FnOk P w K mg base CX0 2 A.f__law_is D.f__law_is ["_law_value", "_law_top", "_law_bottom"] (sp_is A.Ratio) := by
  have G__law_is_integer : FnOk P w K mg base CX0 1 A.f__law_is_integer D.f__law_is_integer ["_law_value"] (sp_is_whole K) := ok__law_is_integer T
  refine T.F__law_is.ok sc__law_is (fun vs H Q E h => ?_) (fun cdv A' outer s H vs Q E hr h => ?_)
  · obtain ⟨v, z, p, q', rfl, _⟩ := h
    rfl
  · obtain ⟨v, z, p, q', rfl, ⟨a, dx, rfl, ha⟩, hq, hz, bz, sp, sq, q⟩ := h
    refine ⟨_, (pss_cons (ps_if (PW.pt (pw_or (pt_not (pt_val (pe_callB call_isi rfl T.z_isinstance (by decide +kernel) (pa_cons (pv 0) (pa_cons (pe_glob (v := .ref A.Ratio) rfl T.g_Ratio rfl) pa_nil))))) (pw_or (pt_not (pt_val (pe_call G__law_is_integer (hr.mono (by decide)) rfl T.g__law_is_integer T.F__law_is_integer.kp T.b__law_is_integer .nil pass0 (pa_cons (pe_fld (pv 0) rfl) pa_nil)))) (pw_or1 (pt_not (pt_val (pe_call G__law_is_integer (hr.mono (by decide)) rfl T.g__law_is_integer T.F__law_is_integer.kp T.b__law_is_integer .nil pass0 (pa_cons (pe_fld (pv 0) rfl) pa_nil)))))))) (pss_one (ps_ret pe_bl)) pss_nil)
  (pss_one (ps_ret (pe_and (pe_cmpR op_ge (pe_fld (pv 0) rfl) pe_int (nomark _)) (pe_one (pe_cmpR op_eq (pe_op op_mulW (pe_fld (pv 0) rfl) (pv 2)) (pe_op op_mulW (pv 1) (pe_fld (pv 0) rfl)) (nomark _))))))), ?_⟩
    have cl := T.k_Ratio.cl
    have nt := T.k_Ratio.n_top
    have nb := T.k_Ratio.n_bottom
    refine ⟨_, rfl, .ref a, .ref A.Ratio, _, _, true, rfl, .own _, T.k_Ratio.ty ha, kit_self, true, rfl, iteF ?_⟩
    refine ⟨_, rfl, a, A.Ratio, dx, _, _, rfl, ha, cl, nt, rfl, _, _, rfl, whole_int _, true, rfl, iteF ?_⟩
    refine ⟨_, rfl, a, A.Ratio, dx, _, _, rfl, ha, cl, nb, rfl, _, _, rfl, whole_int _, true, rfl, iteF ?_⟩
    refine ⟨_, rfl, a, A.Ratio, dx, _, _, rfl, ha, cl, nb, rfl, _, _, rfl, rfl, true, ?_, iteT ?_⟩
    · show V.bl (decide (1 ≤ (z.den : Int))) = .bl true
      rw [decide_eq_true (by have := den_pos z; omega)]
    refine ⟨_, rfl, a, A.Ratio, dx, _, _, rfl, ha, cl, nt, rfl, _, rfl, _, _, rfl, rfl, (bz.s1 (by decide)).mul sq, ?_⟩
    refine ⟨_, rfl, _, rfl, a, A.Ratio, dx, _, _, rfl, ha, cl, nb, rfl, _, _, rfl, rfl, sp.mul (bz.s2 (by decide)), rfl, ?_⟩
    have e : decide (V.int (z.num * q') = V.int (p * (z.den : Int))) = true := decide_eq_true (by rw [cross_of hq hz])
    exact e ▸ q
/-- pairs with bottoms above 0, tops below 2 ^ a, bottoms below 2 ^ b -/
structure FOk (F : Nat → Int × Int) (n a b : Nat) : Prop where
  pos : ∀ k, k < n → 0 < (F k).2
  top : ∀ k, k < n → (F k).1.natAbs < 2 ^ a
  bot : ∀ k, k < n → (F k).2.natAbs < 2 ^ b
/-- their values, 0 behind them -/
def cof (F : Nat → Int × Int) (n : Nat) : Nat → Rat := fun k => if k < n then qv (F k) else 0
theorem cof_in {F : Nat → Int × Int} {n k : Nat} (h : k < n) : cof F n k = qv (F k) := if_pos h
theorem cof_out {F : Nat → Int × Int} {n k : Nat} (h : n ≤ k) : cof F n k = 0 := if_neg (by omega)
theorem FOk.mono {F : Nat → Int × Int} {n a b a' b' : Nat} (h : FOk F n a b) (h1 : a ≤ a') (h2 : b ≤ b') : FOk F n a' b' := ⟨h.pos, fun k hk => lt_le (h.top k hk) h1, fun k hk => lt_le (h.bot k hk) h2⟩
theorem FOk.bd {F : Nat → Int × Int} {n a b : Nat} (h : FOk F n a b) (hb : 0 < b) (k : Nat) : Bd a b (cof F n k) := by
  show Bd a b (if k < n then qv (F k) else 0)
  split
  · rename_i hk
    exact .div (by have := h.pos k hk; omega) (h.top k hk) (h.bot k hk)
  · exact .zero hb
theorem FOk.sm {F : Nat → Int × Int} {n a b k : Nat} (h : FOk F n a b) (hk : k < n) (ha : a ≤ 4000) (hb : b ≤ 4000) : Sm (F k).1 ∧ Sm (F k).2 := ⟨sm_of (h.top k hk) ha, sm_of (h.bot k hk) hb⟩
/-- pairs with bottoms that are not 0 -/
structure FOn (F : Nat → Int × Int) (n a b : Nat) : Prop where
  ne : ∀ k, k < n → (F k).2 ≠ 0
  top : ∀ k, k < n → (F k).1.natAbs < 2 ^ a
  bot : ∀ k, k < n → (F k).2.natAbs < 2 ^ b
theorem FOk.n {F : Nat → Int × Int} {n a b : Nat} (h : FOk F n a b) : FOn F n a b := ⟨fun k hk => by have := h.pos k hk; omega, h.top, h.bot⟩
theorem FOn.bd {F : Nat → Int × Int} {n a b : Nat} (h : FOn F n a b) (hb : 0 < b) (k : Nat) : Bd a b (cof F n k) := by
  show Bd a b (if k < n then qv (F k) else 0)
  split
  · rename_i hk
    exact .div (h.ne k hk) (h.top k hk) (h.bot k hk)
  · exact .zero hb
theorem FOn.sm {F : Nat → Int × Int} {n a b k : Nat} (h : FOn F n a b) (hk : k < n) (ha : a ≤ 4000) (hb : b ≤ 4000) : Sm (F k).1 ∧ Sm (F k).2 := ⟨sm_of (h.top k hk) ha, sm_of (h.bot k hk) hb⟩
def sp_polyisn (A : Ad) : Sp := fun vs H Q _ => ∃ p v s f n F a b, vs = [p, v] ∧ PolyV A.Poly A.Ratio H p s f ∧ PairsAt H v n F ∧ FOn F n a b ∧ a ≤ 3900 ∧ b ≤ 3900 ∧ 0 < b ∧ n ≤ 60 ∧ (∀ k, f k = cof F n k) ∧ Q (.bl true) H
theorem qv_topn {p : Int × Int} (h : p.2 ≠ 0) : qv p = 0 ↔ p.1 = 0 := by
  have e := qv_mul (p := p) h
  constructor
  · intro z
    rw [z, Rat.zero_mul] at e
    exact (Rat.intCast_eq_zero_iff.mp e.symm)
  · intro z
    show ((p.1 : Int) : Rat) / _ = 0
    rw [z, Rat.intCast_zero, Rat.div_def, Rat.zero_mul]
theorem ok__law_poly_is (T : Txt K mg A D) : FnOk P w K mg base CX0 3 A.f__law_poly_is D.f__law_poly_is ["_law_p", "_law_pairs_here"] (sp_polyisn A) := by
  have G__law_is : FnOk P w K mg base CX0 2 A.f__law_is D.f__law_is ["_law_value", "_law_top", "_law_bottom"] (sp_is A.Ratio) := ok__law_is T
  have G__law_is_integer : FnOk P w K mg base CX0 1 A.f__law_is_integer D.f__law_is_integer ["_law_value"] (sp_is_whole K) := ok__law_is_integer T
  refine T.F__law_poly_is.ok sc__law_poly_is (fun vs H Q E h => ?_) (fun cdv A' outer s H vs Q E hr h => ?_)
  · obtain ⟨p, v, s, f, n, F, a, b, rfl, _⟩ := h
    rfl
  · obtain ⟨p, v, s, f, n, F, a, b, rfl, hp, ⟨la, rs, rfl, hla, lr, hP⟩, ok, ha, hb, hb0, hn, hf, q⟩ := h
    refine ⟨_, (pss_cons (ps_set (i := 2) sc__law_poly_is.nd rfl (.inl rfl) (pe_callB call_len_seq rfl T.z_len (by decide +kernel) (pa_cons (pv 1) pa_nil)))
  (pss_cons (ps_for PassesOwn.never rfl (pi_range1 rfl T.z_range (pa_cons (pe_callB call_len_seq rfl T.z_len (by decide +kernel) (pa_cons (pv 1) pa_nil)) pa_nil)) (pg_name (i := 3) sc__law_poly_is.nd rfl (.inl rfl)) (pss_one (ps_if (PW.pt (pw_and (pt_cmpR op_gt (pv 2) pe_int (nomark _)) (pw_and1 (pt_cmpR op_eq (pe_ix ix_list (pe_ix ix_list (pv 1) (pe_op op_sub (pv 2) pe_int) (fun _ _ => rfl)) pe_int (fun _ _ => rfl)) pe_int (nomark _))))) (pss_one (ps_aug (i := 2) sc__law_poly_is.nd rfl (.inl rfl) pe_int ip_sub)) pss_nil)))
  (pss_cons (ps_if (PW.pt (pw_or (pt_not (pt_val (pe_callB call_isi rfl T.z_isinstance (by decide +kernel) (pa_cons (pv 0) (pa_cons (pe_glob (v := .ref A.Poly) rfl T.g_Poly rfl) pa_nil))))) (pw_or (pt_not (pt_val (pe_callB call_isi rfl T.z_isinstance (by decide +kernel) (pa_cons (pe_fld (pv 0) rfl) (pa_cons (pe_bltn (v := .ty "tuple") rfl T.z_tuple (by decide +kernel) rfl) pa_nil))))) (pw_or1 (pt_cmpR op_ne (pe_callB call_len_seq rfl T.z_len (by decide +kernel) (pa_cons (pe_fld (pv 0) rfl) pa_nil)) (pv 2) (nomark _)))))) (pss_one (ps_ret pe_bl)) pss_nil)
  (pss_cons (ps_if (PW.pt (pw_or (pt_not (pt_val (pe_call G__law_is_integer (hr.mono (by decide)) rfl T.g__law_is_integer T.F__law_is_integer.kp T.b__law_is_integer .nil pass0 (pa_cons (pe_fld (pv 0) rfl) pa_nil)))) (pw_or1 (pt_cmpR op_ne (pe_fld (pv 0) rfl) (pe_op op_sub (pv 2) pe_int) (nomark _))))) (pss_one (ps_ret pe_bl)) pss_nil)
  (pss_cons (ps_for PassesOwn.never rfl (pi_range1 rfl T.z_range (pa_cons (pv 2) pa_nil)) (pg_name (i := 3) sc__law_poly_is.nd rfl (.inl rfl)) (pss_one (ps_if (pt_not (pt_val (pe_call G__law_is (hr.mono (by decide)) rfl T.g__law_is T.F__law_is.kp T.b__law_is .nil pass0 (pa_cons (pe_ix ix_tup (pe_fld (pv 0) rfl) (pv 3) (fun _ _ => rfl)) (pa_cons (pe_ix ix_list (pe_ix ix_list (pv 1) (pv 3) (fun _ _ => rfl)) pe_int (fun _ _ => rfl)) (pa_cons (pe_ix ix_list (pe_ix ix_list (pv 1) (pv 3) (fun _ _ => rfl)) pe_int (fun _ _ => rfl)) pa_nil)))))) (pss_one (ps_ret pe_bl)) pss_nil)))
  (pss_cons (ps_if (pt_cmpR op_eq (pv 2) pe_int (nomark _)) (pss_one (ps_ret (pe_call G__law_is (hr.mono (by decide)) rfl T.g__law_is T.F__law_is.kp T.b__law_is .nil pass0 (pa_cons (pe_fld (pv 0) rfl) (pa_cons pe_int (pa_cons pe_int pa_nil)))))) pss_nil)
  (pss_one (ps_ret (pe_call G__law_is (hr.mono (by decide)) rfl T.g__law_is T.F__law_is.kp T.b__law_is .nil pass0 (pa_cons (pe_fld (pv 0) rfl) (pa_cons (pe_ix ix_list (pe_ix ix_list (pv 1) (pe_op op_sub (pv 2) pe_int) (fun _ _ => rfl)) pe_int (fun _ _ => rfl)) (pa_cons (pe_ix ix_list (pe_ix ix_list (pv 1) (pe_op op_sub (pv 2) pe_int) (fun _ _ => rfl)) pe_int (fun _ _ => rfl)) pa_nil)))))))))))), ?_⟩
    have bd : ∀ k, Bd 3900 3900 (f k) := fun k => hf k ▸ (ok.bd hb0 k).mono ha hb
    obtain ⟨⟨pa, dx, tp, ys, l, rfl, h1, h2, h3, h4, h5⟩, z, z2⟩ := hp
    have sn : s ≤ n := by
      rcases Nat.lt_or_ge n s with h | h
      · have := z2 (by omega)
        rw [hf, cof_out (by omega)] at this
        exact absurd rfl this
      · exact h
    have cl := T.k_Poly.cl
    refine ⟨_, rfl, la, _, rfl, .inl (.of hla), ?_⟩
    refine ⟨_, rfl, la, _, rfl, .inl (.of hla), _, rfl, by rw [List.length_map]; omega, by rw [List.length_map]; omega, ?_⟩
    rw [show (((rs.map V.ref).length : Nat) : Int).toNat = n by rw [List.length_map]; omega]
    refine for_range (lo := 0) (fun i σ G => G = H ∧ ∃ y : Option V, σ = [some (.ref pa), some (.ref la), some (.int ((max s (n - i) : Nat) : Int)), y]) ⟨rfl, _, by rw [List.length_map, lr, Nat.sub_zero, Nat.max_eq_right sn]; rfl⟩ ?_ ?_
    · rintro i σ G hi ⟨rfl, y, rfl⟩
      refine ⟨_, rfl, _, _, rfl, rfl, _, rfl, ite2 (fun c => ?_) (fun c => iteF ?_)⟩
      · have c := of_decide_eq_true c
        obtain ⟨r, er, er2⟩ := pr_get (show max s (n - i) - 1 < rs.length by omega)
        have hat : atI (rs.map V.ref) (((max s (n - i) : Nat) : Int) - 1) = some (.ref r) := by
          rw [show ((max s (n - i) : Nat) : Int) - 1 = ((max s (n - i) - 1 : Nat) : Int) by omega]
          exact atI_nat er2
        have hr := hP _ r er
        refine ⟨_, rfl, _, rfl, _, _, rfl, rfl, la, _, _, _, rfl, rfl, .of hla, hat, r, _, 0, _, rfl, rfl, .of hr, rfl, rfl, _, rfl, ?_⟩
        have hpos := ok.ne (max s (n - i) - 1) (by omega)
        have hv := qv_topn hpos
        have hc := cof_in (F := F) (show max s (n - i) - 1 < n by omega)
        refine ite2 (fun c2 => ?_) (fun c2 => ?_)
        · have c2 : (F (max s (n - i) - 1)).1 = 0 := V.int.inj (of_decide_eq_true c2)
          have f0 : f (max s (n - i) - 1) = 0 := by rw [hf, hc]; exact hv.mpr c2
          have lt : s < max s (n - i) := by
            rcases Nat.lt_or_ge s (max s (n - i)) with h | h
            · exact h
            · have e : max s (n - i) = s := by omega
              rw [e] at f0
              exact absurd f0 (z2 (by omega))
          refine ⟨_, rfl, _, _, rfl, rfl, rfl, some (.int (0 + (i : Int))), ?_⟩
          rw [show ((max s (n - (i + 1)) : Nat) : Int) = ((max s (n - i) : Nat) : Int) - 1 by omega]
          rfl
        · have e : max s (n - i) = max s (n - (i + 1)) := by
            rcases Nat.lt_or_ge s (max s (n - i)) with h | h
            · have f0 := z (max s (n - i) - 1) (by omega)
              rw [hf, hc, hv] at f0
              exact absurd (decide_eq_true (congrArg V.int f0)) c2
            · omega
          exact ⟨rfl, some (.int (0 + (i : Int))), by rw [e]; rfl⟩
      · have c : ¬ ((max s (n - i) : Nat) : Int) > 0 := fun h => c (decide_eq_true h)
        exact ⟨rfl, some (.int (0 + (i : Int))), by rw [show max s (n - (i + 1)) = max s (n - i) by omega]; rfl⟩
    · rintro σ G ⟨rfl, y, rfl⟩
      rw [Nat.sub_self, Nat.max_eq_left (Nat.zero_le _)]
      refine ⟨_, rfl, .ref pa, .ref A.Poly, _, _, true, rfl, .own _, T.k_Poly.ty h1, kit_self, true, rfl, iteF ?_⟩
      refine ⟨_, rfl, pa, A.Poly, dx, _, _, rfl, h1, cl, T.n_Poly_coefficients, rfl, .ref tp, .ty "tuple", _, _, true, rfl, .ty _, .base (.tup h2), kit_ty (by decide +kernel), true, rfl, iteF ?_⟩
      refine ⟨_, rfl, pa, A.Poly, dx, _, _, rfl, h1, cl, T.n_Poly_coefficients, rfl, tp, ys, rfl, .inr (.of h2), _, rfl, rfl, _, rfl, iteFe (by rw [h3, decide_eq_true rfl]; rfl) ?_⟩
      refine ⟨_, rfl, pa, A.Poly, dx, _, _, rfl, h1, cl, T.n_Poly_degree, rfl, _, _, rfl, whole_int _, true, rfl, iteF ?_⟩
      refine ⟨_, rfl, pa, A.Poly, dx, _, _, rfl, h1, cl, T.n_Poly_degree, rfl, _, rfl, _, _, rfl, rfl, rfl, _, rfl, iteFe (by rw [decide_eq_true rfl]; rfl) ?_⟩
      refine ⟨_, rfl, _, rfl, by omega, by omega, ?_⟩
      rw [show ((s : Int)).toNat = s by omega]
      refine for_range (lo := 0) (fun i σ E => E = G ∧ ∃ y : Option V, σ = [some (.ref pa), some (.ref la), some (.int (s : Int)), y]) ⟨rfl, _, rfl⟩ ?_ ?_
      · rintro k σ E hk ⟨rfl, y, rfl⟩
        obtain ⟨r, er, er2⟩ := pr_get (show k < rs.length by omega)
        have hr := hP k r er
        have hx := List.getElem?_eq_getElem (show k < ys.length by omega)
        have hsm := ok.sm (show k < n by omega) (by omega) (by omega)
        have hpos := ok.ne k (by omega)
        refine ⟨_, rfl, pa, A.Poly, dx, _, _, rfl, h1, cl, T.n_Poly_coefficients, rfl, _, rfl, tp, ys, _, _, rfl, rfl, .of h2, at_get hx, _, rfl, _, rfl, la, _, _, _, rfl, rfl, .of hla, at_get er2, r, _, 0, _, rfl, rfl, .of hr, rfl, _, rfl, _, rfl, la, _, _, _, rfl, rfl, .of hla, at_get er2, r, _, 1, _, rfl, rfl, .of hr, rfl, ?_⟩
        exact ⟨_, f k, _, _, rfl, h4 k _ hx, hpos, by rw [hf, cof_in (show k < n by omega)], bd k, hsm.1, hsm.2, true, rfl, iteF ⟨rfl, _, rfl⟩⟩
      · rintro σ E ⟨rfl, y, rfl⟩
        refine ⟨_, rfl, rfl, _, rfl, ite2 (fun c => ?_) (fun c => ?_)⟩
        · have c : (s : Int) = 0 := V.int.inj (of_decide_eq_true c)
          refine ⟨_, rfl, pa, A.Poly, dx, _, _, rfl, h1, cl, T.n_Poly_lead, rfl, l, f (s - 1), 0, 1, rfl, h5, by decide, ?_, bd _, .ab (by decide) (by decide), .ab (by decide) (by decide), q⟩
          rw [z (s - 1) (by omega)]
          show ((0 : Int) : Rat) / _ = 0
          rw [Rat.intCast_zero, Rat.div_def, Rat.zero_mul]
        · have s0 : 0 < s := by
            rcases Nat.eq_zero_or_pos s with e | e
            · exact absurd (decide_eq_true (by rw [e]; rfl)) c
            · exact e
          obtain ⟨r, er, er2⟩ := pr_get (show s - 1 < rs.length by omega)
          have hat : atI (rs.map V.ref) ((s : Int) - 1) = some (.ref r) := by
            rw [show (s : Int) - 1 = ((s - 1 : Nat) : Int) by omega]
            exact atI_nat er2
          have hr := hP _ r er
          have hsm := ok.sm (show s - 1 < n by omega) (by omega) (by omega)
          have hpos := ok.ne (s - 1) (by omega)
          refine ⟨_, rfl, pa, A.Poly, dx, _, _, rfl, h1, cl, T.n_Poly_lead, rfl, _, rfl, _, rfl, _, _, rfl, rfl, la, _, _, _, rfl, rfl, .of hla, hat, r, _, 0, _, rfl, rfl, .of hr, rfl, _, rfl, _, rfl, _, _, rfl, rfl, la, _, _, _, rfl, rfl, .of hla, hat, r, _, 1, _, rfl, rfl, .of hr, rfl, ?_⟩
          exact ⟨l, f (s - 1), _, _, rfl, h5, hpos, by rw [hf, cof_in (show s - 1 < n by omega)], bd _, hsm.1, hsm.2, q⟩
end
section
variable {P : Program} {w : World} {K : PySem.W.Frag} {mg : Str → Option Value} {base : Heap} {A : Ad} {D : Fd}
theorem drw_ok {n m : Nat} {L : List (Int × Int)} (h : Drw n m L) (hm : 1 ≤ m) : FOk (LF L) L.length n m := ⟨fun k _ => (LF_ok h hm k).1, fun k _ => (LF_ok h hm k).2.1, fun k _ => (LF_ok h hm k).2.2⟩
theorem two_stp {G G' : Hp} {f r : Addr} {x y : Int} (F : FeedAt G f) (k : Stp f G G') (h : G r = some (two x y)) : G' r = some (two x y) := k.keep _ _ (F.ne h fun _ _ _ _ _ _ w => by cases w) h
def sp_lpair : Sp := fun vs H Q _ => ∃ (f : Addr) (z : Int), vs = [.ref f, .int z] ∧ FeedAt H f ∧ 0 < z ∧ z < 2 ^ 133 ∧ ∀ H' d (x : Int × Int), Stp f H H' → H' d = some (two x.1 x.2) → 0 < x.2 → x.1.natAbs < 2 ^ 134 → x.2.natAbs < 2 ^ 134 → Q (.ref d) H'
theorem ok__law_pair (T : Txt K mg A D) : FnOk P w K mg base CX0 3 A.f__law_pair D.f__law_pair ["_law_feed_here", "_law_size"] (sp_lpair) := by
  have G__law_number : FnOk P w K mg base CX0 2 A.f__law_number D.f__law_number ["_law_feed_here", "_law_size"] (sp_number) := ok__law_number T
  have G__law_take : FnOk P w K mg base CX0 1 A.f__law_take D.f__law_take ["_law_feed_here", "_law_size"] (sp_take) := ok__law_take T
  refine T.F__law_pair.ok sc__law_pair (fun vs H Q E h => ?_) (fun cdv A' outer s H vs Q E hr h => ?_)
  · obtain ⟨f, z, rfl, _⟩ := h
    rfl
  · obtain ⟨f, z, rfl, F0, z0, z1, q⟩ := h
    refine ⟨_, (pss_one (ps_ret (pe_lst (pa_cons (pe_call G__law_number (hr.mono (by decide)) rfl T.g__law_number T.F__law_number.kp T.b__law_number .nil pass0 (pa_cons (pv 0) (pa_cons (pv 1) pa_nil))) (pa_cons (pe_op op_add pe_int (pe_call G__law_take (hr.mono (by decide)) rfl T.g__law_take T.F__law_take.kp T.b__law_take .nil pass0 (pa_cons (pv 0) (pa_cons (pv 1) pa_nil)))) pa_nil))))), ?_⟩
    have sz : Sm z := sm_of (show z.natAbs < 2 ^ 133 by omega) (by decide)
    refine ⟨_, rfl, _, rfl, f, z, rfl, F0, z0, sz, fun H1 x x0 x1 st1 => ⟨_, rfl, _, rfl, f, z, rfl, st1.feed, z0, sz, fun H2 u u0 u1 st2 => ⟨_, _, rfl, rfl, by show 2 ≤ sizeLine; decide, fun d nd => ?_⟩⟩⟩
    exact q _ d (x, 1 + u) ((st1.trans st2).of (same_upd nd)) upd_same (by show 0 < 1 + u; omega) (by show x.natAbs < 2 ^ 134; omega) (by show (1 + u).natAbs < 2 ^ 134; omega)
def sp_lpairs : Sp := fun vs H Q _ => ∃ f : Addr, vs = [.ref f] ∧ FeedAt H f ∧ ∀ H' v L, Stp f H H' → PairsAt H' v L.length (LF L) → L.length ≤ 20 → Drw 134 134 L → Q v H'
theorem ok__law_pairs (T : Txt K mg A D) : FnOk P w K mg base CX0 4 A.f__law_pairs D.f__law_pairs ["_law_feed_here"] (sp_lpairs) := by
  have G__law_pair : FnOk P w K mg base CX0 3 A.f__law_pair D.f__law_pair ["_law_feed_here", "_law_size"] (sp_lpair) := ok__law_pair T
  have G__law_take : FnOk P w K mg base CX0 1 A.f__law_take D.f__law_take ["_law_feed_here", "_law_size"] (sp_take) := ok__law_take T
  refine T.F__law_pairs.ok sc__law_pairs (fun vs H Q E h => ?_) (fun cdv A' outer s H vs Q E hr h => ?_)
  · obtain ⟨f, rfl, _⟩ := h
    rfl
  · obtain ⟨f, rfl, F0, q⟩ := h
    refine ⟨_, (pss_cons (ps_set (i := 1) sc__law_pairs.nd rfl (.inl rfl) (pe_lst pa_nil))
  (pss_cons (ps_for PassesOwn.never rfl (pi_range1 rfl T.z_range (pa_cons (pe_call G__law_take (hr.mono (by decide)) rfl T.g__law_take T.F__law_take.kp T.b__law_take .nil pass0 (pa_cons (pv 0) (pa_cons pe_int pa_nil))) pa_nil)) (pg_name (i := 2) sc__law_pairs.nd rfl (.inl rfl)) (pss_cons (ps_set (i := 3) sc__law_pairs.nd rfl (.inl rfl) (pe_call G__law_pair (hr.mono (by decide)) rfl T.g__law_pair T.F__law_pair.kp T.b__law_pair .nil pass0 (pa_cons (pv 0) (pa_cons (pe_ix ix_list (pe_lst (pa_cons pe_int (pa_cons (pe_op op_pow pe_int pe_int) pa_nil))) (pe_call G__law_take (hr.mono (by decide)) rfl T.g__law_take T.F__law_take.kp T.b__law_take .nil pass0 (pa_cons (pv 0) (pa_cons pe_int pa_nil))) (fun _ _ => rfl)) pa_nil))))
  (pss_cut (ps_if (pt_cmpR op_eq (pe_call G__law_take (hr.mono (by decide)) rfl T.g__law_take T.F__law_take.kp T.b__law_take .nil pass0 (pa_cons (pv 0) (pa_cons pe_int pa_nil))) pe_int (nomark _)) (pss_one (ps_set (i := 3) sc__law_pairs.nd rfl (.inl rfl) (pe_lst (pa_cons pe_int (pa_cons pe_int pa_nil))))) pss_nil)
  (pss_one (ps_expr (pe_bm PySem.F.plainAttrs_list PySem.F.slot_list_append PySem.F.type_list_append mt_append (pv 1) (pa_cons (pv 3) pa_nil)))))))
  (pss_one (ps_ret (pv 1))))), ?_⟩
    refine ⟨by show 0 ≤ sizeLine; decide, fun d nd => ?_⟩
    have df : d ≠ f := (F0.lt nd).symm
    have st0 := (Stp.refl F0).push (o := .lst []) F0 nd df
    have hd0 : upd H d (.lst []) d = some (.lst []) := upd_same
    show tSeq _ _ _ _ (upd H d (.lst []))
    generalize upd H d (.lst []) = H0 at st0 hd0
    refine ⟨_, rfl, f, 21, rfl, st0.feed, by decide, .ab (by decide) (by decide), fun H1 c c0 c1 st1 => ⟨_, rfl, by omega, by omega, ?_⟩⟩
    have hd1 := st1.keep _ _ df hd0
    have st1 := st0.trans st1
    have c20 : c.toNat ≤ 20 := by omega
    refine for_range (lo := 0) (fun i σ G => Stp f H G ∧ (∃ y3 y4 : Option V, σ = [some (.ref f), some (.ref d), y3, y4]) ∧ ∃ (rs : List Addr) (L : List (Int × Int)), G d = some (.lst (rs.map V.ref)) ∧ rs.length = i ∧ L.length = i ∧ Prsd G rs (LF L) ∧ Drw 134 134 L) ⟨st1, ⟨_, _, rfl⟩, [], [], hd1, rfl, rfl, Prsd.nil, fun x h => by cases h⟩ ?_ ?_
    · rintro i σ G hi ⟨st, ⟨y3, y4, rfl⟩, rs, L, hd, l1, l2, hp, hw⟩
      refine ⟨_, rfl, _, _, rfl, rfl, ⟨by decide, by decide, by decide⟩, by show 2 ≤ sizeLine; decide, fun p np => ?_⟩
      have s1 := same_upd (o := .lst [V.int 5, .int (10 ^ (40 : Int).toNat)]) np
      refine ⟨_, rfl, f, 2, rfl, st.feed.same s1, by decide, .ab (by decide) (by decide), fun G1 k k0 k1 g1 => ?_⟩
      have pf : p ≠ f := (st.feed.lt np).symm
      have hp1 := g1.keep _ _ pf upd_same
      obtain ⟨z, hz, z0, z1⟩ : ∃ z : Int, atI [V.int 5, .int (10 ^ (40 : Int).toNat)] k = some (.int z) ∧ 0 < z ∧ z < 2 ^ 133 := by
        rcases (by omega : k = 0 ∨ k = 1) with e | e <;> subst e
        · exact ⟨_, rfl, by decide, by decide⟩
        · exact ⟨_, rfl, by decide, by decide⟩
      refine ⟨p, _, k, _, rfl, rfl, .of hp1, hz, ?_⟩
      have g1 : Stp f G G1 := ((Stp.refl st.feed).of s1).trans g1
      clear hp1 hz k0 k1 s1 np pf
      refine ⟨f, z, rfl, g1.feed, z0, z1, fun G2 r x g2 hr x0 x1 x2 => ?_⟩
      have g12 := g1.trans g2
      refine ⟨fun σ' E => ∃ (r : Addr) (x : Int × Int) (y3 : Option V), σ' = [some (.ref f), some (.ref d), y3, some (.ref r)] ∧ Stp f G E ∧ E r = some (two x.1 x.2) ∧ 0 < x.2 ∧ x.1.natAbs < 2 ^ 134 ∧ x.2.natAbs < 2 ^ 134, ?_, ?_⟩
      · refine ⟨_, rfl, f, 3, rfl, g12.feed, by decide, .ab (by decide) (by decide), fun G3 t t0 t1 g3 => ⟨rfl, _, rfl, ?_⟩⟩
        refine ite2 (fun _ => ?_) (fun _ => ⟨r, x, _, rfl, g12.trans g3, two_stp g12.feed g3 hr, x0, x1, x2⟩)
        exact ⟨by show 2 ≤ sizeLine; decide, fun r2 nr2 => ⟨r2, (0, 1), _, rfl, (g12.trans g3).of (same_upd nr2), upd_same, by decide, by decide, by decide⟩⟩
      · rintro σ E ⟨r, x, y3, rfl, gE, hr, x0, x1, x2⟩
        have hd2 := gE.keep _ _ df hd
        have stE := st.trans gE
        refine ⟨_, rfl, .inl ⟨rfl, _, .of hd2⟩, _, rfl, d, _, _, rfl, rfl, hd2, by rw [List.length_map]; exact small1000 (by omega), ?_⟩
        refine ⟨stE.push F0 nd df, ⟨_, _, rfl⟩, rs ++ [r], L ++ [x], by rw [upd_same, List.map_append]; rfl, by rw [List.length_append, l1]; rfl, by rw [List.length_append, l2]; rfl, ((hp.stp st.feed gE).app (by omega)).push ?_ hd2, hw.app ⟨x0, x1, x2⟩⟩
        rw [show rs.length = L.length by omega, LF_last]
        exact hr
    · rintro σ G ⟨st, ⟨y3, y4, rfl⟩, rs, L, hd, l1, l2, hp, hw⟩
      exact ⟨_, rfl, q G _ L st ⟨d, rs, rfl, hd, by omega, hp⟩ (by omega) hw⟩
theorem qv_int {x : Int} : qv (x, 1) = (x : Rat) := div_eq (show (1 : Int) ≠ 0 by decide) (show (x : Rat) * 1 = x from Rat.mul_one _)
def sp_litems (A : Ad) : Sp := fun vs H Q _ => ∃ v n F, vs = [v] ∧ PairsAt H v n F ∧ n ≤ 20 ∧ FOk F n 134 134 ∧ ∀ H' d xs, Same H H' → H d = none → H' d = some (.lst xs) → xs.length = n → NumsV A.Ratio H' xs (cof F n) → (∀ z ∈ xs, selfV z) → Q (.ref d) H'
theorem ok__law_items (T : Txt K mg A D) : FnOk P w K mg base CX0 4 A.f__law_items D.f__law_items ["_law_pairs_here"] (sp_litems A) := by
  have G_Ratio_init : FnOk P w K mg base CX0 2 A.f_Ratio___init__ D.f_Ratio___init__ ["self", "top", "bottom"] (sp_init A.Ratio) := ok_Ratio___init__ T
  have b_Ratio_init2 := T.b_Ratio___init__
  have d_Ratio_init2 : Vals [] [] := .nil
  refine T.F__law_items.ok sc__law_items (fun vs H Q E h => ?_) (fun cdv A' outer s H vs Q E hr h => ?_)
  · obtain ⟨v, n, F, rfl, _⟩ := h
    rfl
  · obtain ⟨v, n, F, rfl, ⟨l, rs, rfl, hl, lr, hp⟩, hn, ok, q⟩ := h
    refine ⟨_, (pss_cons (ps_set (i := 1) sc__law_items.nd rfl (.inl rfl) (pe_lst pa_nil))
  (pss_cons (ps_for PassesOwn.never rfl (pi_list (pv 0)) (pg_name (i := 2) sc__law_items.nd rfl (.inl rfl)) (pss_one (ps_if (pt_cmpR op_eq (pe_ix ix_list (pv 2) pe_int (fun _ _ => rfl)) pe_int (nomark _)) (pss_one (ps_expr (pe_bm PySem.F.plainAttrs_list PySem.F.slot_list_append PySem.F.type_list_append mt_append (pv 1) (pa_cons (pe_ix ix_list (pv 2) pe_int (fun _ _ => rfl)) pa_nil)))) (pss_one (ps_expr (pe_bm PySem.F.plainAttrs_list PySem.F.slot_list_append PySem.F.type_list_append mt_append (pv 1) (pa_cons (pe_make T.M_Ratio G_Ratio_init (hr.mono (by decide)) rfl T.g_Ratio b_Ratio_init2 d_Ratio_init2 pass0 (pa_cons (pe_ix ix_list (pv 2) pe_int (fun _ _ => rfl)) (pa_cons (pe_ix ix_list (pv 2) pe_int (fun _ _ => rfl)) pa_nil))) pa_nil)))))))
  (pss_one (ps_ret (pv 1))))), ?_⟩
    refine ⟨by show 0 ≤ sizeLine; decide, fun d nd => ?_⟩
    have s0 := same_upd (o := .lst []) nd
    have hd0 : upd H d (.lst []) d = some (.lst []) := upd_same
    show tSeq _ _ _ _ (upd H d (.lst []))
    generalize upd H d (.lst []) = H0 at s0 hd0
    refine ⟨_, rfl, l, rfl, ⟨_, .of (s0 _ _ hl)⟩, for_list (fun i σ G => Same H G ∧ (∃ y3 : Option V, σ = [some (.ref l), some (.ref d), y3]) ∧ ∃ xs, G d = some (.lst xs) ∧ xs.length = i ∧ NumsV A.Ratio G xs (cof F n) ∧ ∀ z ∈ xs, selfV z) ⟨s0, ⟨_, rfl⟩, [], hd0, rfl, .nil, fun z h => by cases h⟩ (fun i σ G _ p => .of (p.1 _ _ hl)) ?_ ?_⟩
    · rintro i x σ G hx ⟨sm, ⟨y3, rfl⟩, xs, hd, lx, hn2, hs⟩
      obtain ⟨r, er, rfl⟩ := ref_get hx
      have il := get_lt er
      have hr := sm _ _ (hp i r er)
      have h0 := ok.pos i (by omega)
      have fin : ∀ (G2 : Hp) (y : V), Same G G2 → NumV A.Ratio G2 y (qv (F i)) → selfV y → G2 d = some (.lst xs) ∧ xs.length < sizeLine ∧ (Same H (upd G2 d (.lst (xs ++ [y]))) ∧ ∃ zs, upd G2 d (.lst (xs ++ [y])) d = some (.lst zs) ∧ zs.length = i + 1 ∧ NumsV A.Ratio (upd G2 d (.lst (xs ++ [y]))) zs (cof F n) ∧ ∀ z ∈ zs, selfV z) := fun G2 y k2 hy sy => by
        have hd2 := k2 _ _ hd
        refine ⟨hd2, small1000 (by omega), same_push (sm.trans k2) nd, _, upd_same, by rw [List.length_append, lx]; rfl, (hn2.same k2).push hd2 ?_, fun z hz => ?_⟩
        · rw [lx, cof_in (show i < n by omega)]
          exact hy
        · rcases List.mem_append.mp hz with e | e
          · exact hs z e
          · cases List.mem_singleton.mp e
            exact sy
      refine ⟨_, rfl, r, _, 1, _, rfl, rfl, .of hr, rfl, rfl, _, rfl, ite2 (fun c => ?_) (fun c => ?_)⟩
      · have c : (F i).2 = 1 := V.int.inj (of_decide_eq_true c)
        obtain ⟨e1, e2, e3, zs, e4, e5, e6, e7⟩ := fin G (.int (F i).1) (Same.refl G) (.inl ⟨_, rfl, by rw [show F i = ((F i).1, 1) by rw [← c]]; exact qv_int⟩) (.inl ⟨_, rfl⟩)
        exact ⟨_, rfl, .inl ⟨rfl, _, .of hd⟩, _, rfl, r, _, 0, _, rfl, rfl, .of hr, rfl, d, _, _, rfl, rfl, e1, e2, e3, ⟨_, rfl⟩, zs, e4, e5, e6, e7⟩
      · refine ⟨_, rfl, .inl ⟨rfl, _, .of hd⟩, _, rfl, r, _, 0, _, rfl, rfl, .of hr, rfl, _, rfl, r, _, 1, _, rfl, rfl, .of hr, rfl, fun x dx nx nd2 ne => rat_make (by omega) (sm_of (ok.bot i (by omega)) (by decide)) nx nd2 ne fun G2 s2 r2 => ?_⟩
        obtain ⟨e1, e2, e3, zs, e4, e5, e6, e7⟩ := fin G2 (.ref x) s2 (.inr r2) (.inr ⟨_, rfl⟩)
        exact ⟨d, _, _, rfl, rfl, e1, e2, e3, ⟨_, rfl⟩, zs, e4, e5, e6, e7⟩
    · rintro σ G ⟨sm, ⟨y3, rfl⟩, xs, hd, lx, hn2, hs⟩
      rw [List.length_map] at lx
      exact ⟨_, rfl, q G d xs sm nd hd (by omega) hn2 hs⟩
def sp_refused (K : PySem.W.Frag) (A : Ad) : Sp := fun vs H Q _ => ∃ v, vs = [v] ∧ (NoSeq K H v ∨ BadItem K A.Ratio H v) ∧ ∀ H', Same H H' → Q (.bl true) H'
theorem ok__law_refused (T : Txt K mg A D) : FnOk P w K mg base CX0 8 A.f__law_refused D.f__law_refused ["_law_value"] (sp_refused K A) := by
  have G_Poly_init : FnOk P w K mg base (L2.CX P w) 6 A.f_Poly___init__ D.f_Poly___init__ ["self", "coefficients"] (sp_polyX K A) := ok_Poly___init__ T
  have b_Poly_init1 := T.b_Poly___init__
  have d_Poly_init1 : Vals [] [] := .nil
  refine T.F__law_refused.ok sc__law_refused (fun vs H Q E h => ?_) (fun cdv A' outer s H vs Q E hr h => ?_)
  · obtain ⟨v, rfl, _⟩ := h
    rfl
  · obtain ⟨v, rfl, hb, q⟩ := h
    refine ⟨_, (pss_cons (ps_set (i := 1) sc__law_refused.nd rfl (.inl rfl) pe_bl)
  (pss_cons (ps_try_as (i := 2) rfl rfl sc__law_refused.nd rfl rfl ⟨rfl, by decide, .inl T.g_NoPoly⟩ takes0 (fun W pn xe tk _ => (pss_one (ps_expr (pe_makeA T.M_Poly G_Poly_init (hr.mono (by decide)) rfl T.g_Poly b_Poly_init1 d_Poly_init1 (fun σ => passAt tk σ) (by exact (pa_cons (pv 0) pa_nil)))))) (fun oa oe cls d pn hz hf => (pss_one (ps_set (i := 1) sc__law_refused.nd rfl (.inl rfl) (pe_and (pe_callB (call_isN T.e_NoPoly.c hz hf) rfl T.z_isinstance (by decide +kernel) (pa_cons (pv 2) (pa_cons (pe_glob (v := .ref A.MeansError) rfl T.g_MeansError rfl) pa_nil))) (pe_one (pe_not (pe_callB (call_isN T.e_NoPoly.c hz hf) rfl T.z_isinstance (by decide +kernel) (pa_cons (pv 2) (pa_cons (pe_glob (v := .ref A.NoRatio) rfl T.g_NoRatio rfl) pa_nil))))))))))
  (pss_one (ps_ret (pv 1))))), ?_⟩
    refine ⟨_, rfl, fun r dx nr nd ne => ?_⟩
    have s1 : Same H (upd (upd H dx (.own r)) r (.ins A.Poly dx [])) := same_upd' (same_upd nd) nr
    refine .inr ⟨r, v, rfl, hb.imp (fun h => h.same s1) (fun h => h.same s1), fun H' k => ⟨true, T.e_NoPoly.em, fun _ _ _ => ?_, fun n => Bool.noConfusion n⟩⟩
    refine ⟨_, rfl, .ref A.MeansError, _, true, rfl, rfl, rfl, .own _, T.e_NoPoly.kit_base, true, rfl, iteT ?_⟩
    exact ⟨_, rfl, .ref A.NoRatio, _, false, rfl, rfl, rfl, .own _, T.kit_NN, false, rfl, _, rfl, q H' (s1.trans k)⟩
end

end Mo

namespace Mo
open PySem PySem.Spec PyProof.Rows L2 MoL MoW
open C8 (pss_cut tCut)
section
variable {P : Program} {w : World} {K : PySem.W.Frag} {mg : Str → Option Value} {base : Heap} {A : Ad} {D : Fd}
theorem poly_put {CP CR : Addr} {H : Hp} {v : V} {s : Nat} {f : Nat → Rat} {d : Addr} {ys : List V} {o : HO} (h : PolyV CP CR H v s f) (hd : H d = some (.lst ys)) : PolyV CP CR (upd H d o) v s f := by
  obtain ⟨⟨a, dx, tp, zs, l, e, h1, h2, h3, h4, h5⟩, z, z2⟩ := h
  refine ⟨⟨a, dx, tp, zs, l, e, ?_, ?_, h3, fun j x e => (h4 j x e).put hd, h5.put hd⟩, z, z2⟩
  · rw [upd_ne fun e => by rw [e, hd] at h1; cases h1]
    exact h1
  · rw [upd_ne fun e => by rw [e, hd] at h2; cases h2]
    exact h2
/-- zeros behind a row of numbers -/
theorem nums_zeros {C : Addr} {H : Hp} {xs : List V} {f : Nat → Rat} (h : NumsV C H xs f) (hz : ∀ k, xs.length ≤ k → f k = 0) (m : Nat) : NumsV C H (xs ++ List.replicate m (V.int 0)) f := fun k x e => by
  rcases Nat.lt_or_ge k xs.length with c | c
  · rw [List.getElem?_append_left c] at e
    exact h k x e
  · rw [List.getElem?_append_right c, List.getElem?_replicate] at e
    split at e
    · cases e
      exact .inl ⟨0, rfl, by rw [hz k c]; rfl⟩
    · cases e
theorem self_zeros {xs : List V} (h : ∀ z ∈ xs, selfV z) (m : Nat) : ∀ z ∈ xs ++ List.replicate m (V.int 0), selfV z := fun z hz => by
  rcases List.mem_append.mp hz with e | e
  · exact h z e
  · rw [(List.mem_replicate.mp e).2]
    exact .inl ⟨_, rfl⟩
/-- one number more at a place -/
abbrev addF (f : Nat → Rat) (j : Nat) : Nat → Rat := fun k => f k + if k = j then 1 else 0
theorem nums_set {C : Addr} {H : Hp} {xs : List V} {f : Nat → Rat} {j : Nat} {y : V} (h : NumsV C H xs f) (hy : NumV C H y (f j + 1)) : NumsV C H (xs.set j y) (addF f j) := fun k x e => by
  rw [List.getElem?_set] at e
  show NumV C H x (f k + if k = j then 1 else 0)
  by_cases c : j = k
  · rw [if_pos c] at e
    split at e
    · cases e
      rw [if_pos c.symm, ← c]
      exact hy
    · cases e
  · rw [if_neg c] at e
    rw [if_neg (Ne.symm c), Rat.add_zero]
    exact h k x e
theorem nums_set0 {C : Addr} {H : Hp} {xs : List V} {f : Nat → Rat} (h : NumsV C H xs f) (G : Hp) (k : Same H G) : NumsV C G xs f := h.same k
/-- a bad item behind good ones -/
theorem bad_list {C : Addr} {H : Hp} {d : Addr} {xs ys : List V} {x : V} {f : Nat → Rat} (hd : H d = some (.lst (xs ++ [x] ++ ys)) ∨ H d = some (.tup (xs ++ [x] ++ ys))) (h : NumsV C H xs f) (hx : NoNum K C H x) : BadItem K C H (.ref d) := by
  refine ⟨d, _, xs.length, x, rfl, hd, ?_, fun i y hi e => ?_, hx⟩
  · rw [List.append_assoc, List.getElem?_append_right (Nat.le_refl _), Nat.sub_self]
    rfl
  · rw [List.append_assoc, List.getElem?_append_left hi] at e
    exact (h i y e).kind
theorem nums_take {C : Addr} {H : Hp} {xs : List V} {f : Nat → Rat} {s : Nat} (h : NumsV C H xs f) : NumsV C H (xs.take s) f := fun k x e => by
  rw [List.getElem?_take] at e
  split at e
  · exact h k x e
  · cases e
structure Odd (A : Ad) (G : Hp) (ls l1 t1 pz : Addr) : Prop where
  hs : G ls = some (.lst [.non, .str "1", .bl true, .bl false, .ref l1, .ref t1, .ref pz])
  h1 : G l1 = some (.lst [.int 1])
  h2 : G t1 = some (.tup [.int 2])
  hp : ∃ s, PolyV A.Poly A.Ratio G (.ref pz) s (numF 1)
section
variable {G G' : Hp} {ls l1 t1 pz f : Addr}
theorem Odd.same (h : Odd A G ls l1 t1 pz) (k : Same G G') : Odd A G' ls l1 t1 pz := ⟨k _ _ h.hs, k _ _ h.h1, k _ _ h.h2, h.hp.elim fun s h => ⟨s, h.same k⟩⟩
theorem Odd.stp (h : Odd A G ls l1 t1 pz) (F : FeedAt G f) (k : Stp f G G') : Odd A G' ls l1 t1 pz := ⟨k.keep _ _ (F.ne h.hs fun _ _ _ _ _ _ w => by cases w) h.hs, k.keep _ _ (F.ne h.h1 fun _ _ _ _ _ _ w => by cases w) h.h1, k.keep _ _ (F.ne h.h2 fun _ _ _ _ _ _ w => by cases w) h.h2, h.hp.elim fun s h => ⟨s, h.stp F k⟩⟩
theorem Odd.bad (T : Txt K mg A D) (h : Odd A G ls l1 t1 pz) {k : Int} (k0 : 0 ≤ k) (k1 : k < 7) : ∃ v, atI [V.non, .str "1", .bl true, .bl false, .ref l1, .ref t1, .ref pz] k = some v ∧ NoNum K A.Ratio G v := by
  rcases (by omega : k = 0 ∨ k = 1 ∨ k = 2 ∨ k = 3 ∨ k = 4 ∨ k = 5 ∨ k = 6) with e | e | e | e | e | e | e <;> subst e
  · exact ⟨_, rfl, _, .base .non, T.ik_NoneType, _, false, false, .base .non, kit_ty (by decide +kernel), (fun z => nomatch z), rfl⟩
  · exact ⟨_, rfl, _, .base (.str _), T.ik_str, _, false, false, .base (.str _), kit_ty (by decide +kernel), (fun z => nomatch z), rfl⟩
  · exact ⟨_, rfl, _, .base (.bl true), T.ik_bool, _, true, true, .base (.bl true), kit_ty (by decide +kernel), fun _ => kit_ty (by decide +kernel), rfl⟩
  · exact ⟨_, rfl, _, .base (.bl false), T.ik_bool, _, true, true, .base (.bl false), kit_ty (by decide +kernel), fun _ => kit_ty (by decide +kernel), rfl⟩
  · exact ⟨_, rfl, _, .base (.lst h.h1), T.ik_list, _, false, false, .base (.lst h.h1), kit_ty (by decide +kernel), (fun z => nomatch z), rfl⟩
  · exact ⟨_, rfl, _, .base (.tup h.h2), T.ik_tuple, _, false, false, .base (.tup h.h2), kit_ty (by decide +kernel), (fun z => nomatch z), rfl⟩
  · obtain ⟨s, hp⟩ := h.hp
    exact ⟨_, rfl, no_poly T hp.ins⟩
end
/-- one number more -/
theorem add_one {C : Addr} {H : Hp} {x : V} {a : Rat} {Q : VK} {E : XK} (h : NumV C H x a) (b : Bd 1990 1990 a) (q : ∀ G v, Same H G → NumV C G v (a + 1) → Q v G) : rI0 (fun i j => V.int (i + j)) x (.int 1) H Q ∨ rOwn C (sp_bin C f_sum) E x (.int 1) H Q := by
  rcases h with ⟨i, rfl, rfl⟩ | h
  · exact .inl ⟨_, _, rfl, rfl, q _ _ (Same.refl _) (.inl ⟨_, rfl, by rw [Rat.intCast_add]; rfl⟩)⟩
  · exact .inr ⟨h.ins, .inl ⟨_, rfl⟩, _, _, _, _, rfl, h, .inl ⟨1, rfl, rfl⟩, b, .one (by decide) (by decide), fun G v k r => q G v k (.inr r)⟩
theorem cat_one {H : Hp} {a b : Addr} {xs : List V} {v : V} {Q : VK} (ha : H a = some (.tup xs)) (hb : H b = some (.tup [v])) (hz : xs.length + 1 ≤ sizeLine) (q : ∀ c G, Same H G → G c = some (.tup (xs ++ [v])) → Q (.ref c) G) : rCatA K (.ref a) (.ref b) H Q :=
  ⟨a, b, xs, [v], rfl, rfl, .of ha, .of hb, hz, fun e => q b H (Same.refl _) (by rw [e]; exact hb), (fun _ e => nomatch e), fun _ _ c nc => q c _ (same_upd nc) upd_same⟩
structure Odd2 (A : Ad) (G : Hp) (ls d x p : Addr) : Prop where
  hs : G ls = some (.lst [.non, .int 3, .bl true, .str "12", .ref d, .ref x, .ref p])
  h1 : G d = some (.dK [])
  h2 : ∃ z, RatV A.Ratio G (.ref x) z
  hp : ∃ s g, PolyV A.Poly A.Ratio G (.ref p) s g
section
variable {G G' : Hp} {ls d x p f : Addr}
theorem Odd2.stp (h : Odd2 A G ls d x p) (F : FeedAt G f) (k : Stp f G G') : Odd2 A G' ls d x p := ⟨k.keep _ _ (F.ne h.hs fun _ _ _ _ _ _ w => by cases w) h.hs, k.keep _ _ (F.ne h.h1 fun _ _ _ _ _ _ w => by cases w) h.h1, h.h2.elim fun z h => ⟨z, h.stp F k⟩, h.hp.elim fun s h => h.elim fun g h => ⟨s, g, h.stp F k⟩⟩
theorem Odd2.bad (T : Txt K mg A D) (h : Odd2 A G ls d x p) {k : Int} (k0 : 0 ≤ k) (k1 : k < 7) : ∃ v, atI [V.non, .int 3, .bl true, .str "12", .ref d, .ref x, .ref p] k = some v ∧ NoSeq K G v := by
  rcases (by omega : k = 0 ∨ k = 1 ∨ k = 2 ∨ k = 3 ∨ k = 4 ∨ k = 5 ∨ k = 6) with e | e | e | e | e | e | e <;> subst e
  · exact ⟨_, rfl, _, .base .non, kit_ty (by decide +kernel), kit_ty (by decide +kernel)⟩
  · exact ⟨_, rfl, _, .base (.int _), kit_ty (by decide +kernel), kit_ty (by decide +kernel)⟩
  · exact ⟨_, rfl, _, .base (.bl _), kit_ty (by decide +kernel), kit_ty (by decide +kernel)⟩
  · exact ⟨_, rfl, _, .base (.str _), kit_ty (by decide +kernel), kit_ty (by decide +kernel)⟩
  · exact ⟨_, rfl, _, .base (.dK h.h1), kit_ty (by decide +kernel), kit_ty (by decide +kernel)⟩
  · obtain ⟨z, a, dx, e, hx⟩ := h.h2
    cases e
    exact ⟨_, rfl, _, T.k_Ratio.ty hx, T.kit_rl_Ratio, T.kit_rt_Ratio⟩
  · obtain ⟨s, g, hp⟩ := h.hp
    obtain ⟨a, dx, fs, e, hx⟩ := hp.ins
    cases e
    exact ⟨_, rfl, _, T.k_Poly.ty hx, T.kit_rl_Poly, T.kit_rt_Poly⟩
end
theorem one_num {C : Addr} {H : Hp} {x : Int} : NumsV C H [V.int x] (numF (x : Rat)) := fun k v e => by
  cases k with
  | zero =>
    cases e
    exact .int x
  | succ k => simp at e
def sp_law (K : PySem.W.Frag) : Sp := fun vs H Q _ => ∃ (a : Addr) (ns : List Int), vs = [.ref a] ∧ SqL K H a (ns.map V.int) ∧ ns.length ≤ 63 ∧ ∀ H', Q (.bl true) H'
theorem ok_law (T : Txt K mg A D) : FnOk P w K mg base CX0 10 A.f_law D.f_law ["_law_script"] (sp_law K) := by
  have G_Poly_init : FnOk P w K mg base (L2.CX P w) 6 A.f_Poly___init__ D.f_Poly___init__ ["self", "coefficients"] (sp_polyX K A) := ok_Poly___init__ T
  have b_Poly_init1 := T.b_Poly___init__
  have d_Poly_init1 : Vals [] [] := .nil
  obtain ⟨kits_Poly, kb_Poly⟩ := T.kb_Poly___init__
  have G_Poly___eq__ : FnOk P w K mg base CX0 6 A.f_Poly___eq__ D.f_Poly___eq__ ["self", "other"] (sp_peqB A) := ok_Poly___eq__ T
  have G_Ratio_init : FnOk P w K mg base CX0 2 A.f_Ratio___init__ D.f_Ratio___init__ ["self", "top", "bottom"] (sp_init A.Ratio) := ok_Ratio___init__ T
  obtain ⟨ds1, d_Ratio_init1, b_Ratio_init1⟩ := T.b1_Ratio___init__
  have G_Ratio___add__ : FnOk P w K mg base CX0 5 A.f_Ratio___add__ D.f_Ratio___add__ ["self", "other"] (sp_bin A.Ratio f_sum) := ok_Ratio___add__ T
  have G__law_feed : FnOk P w K mg base CX0 1 A.f__law_feed D.f__law_feed ["_law_script"] (sp_feed K) := ok__law_feed T
  have G__law_items : FnOk P w K mg base CX0 4 A.f__law_items D.f__law_items ["_law_pairs_here"] (sp_litems A) := ok__law_items T
  have G__law_pairs : FnOk P w K mg base CX0 4 A.f__law_pairs D.f__law_pairs ["_law_feed_here"] (sp_lpairs) := ok__law_pairs T
  have G__law_poly_is : FnOk P w K mg base CX0 3 A.f__law_poly_is D.f__law_poly_is ["_law_p", "_law_pairs_here"] (sp_polyisn A) := ok__law_poly_is T
  have G__law_refused : FnOk P w K mg base CX0 8 A.f__law_refused D.f__law_refused ["_law_value"] (sp_refused K A) := ok__law_refused T
  have G__law_take : FnOk P w K mg base CX0 1 A.f__law_take D.f__law_take ["_law_feed_here", "_law_size"] (sp_take) := ok__law_take T
  refine T.F_law.ok sc_law (fun vs H Q E h => ?_) (fun cdv A' outer s H vs Q E hr h => ?_)
  · obtain ⟨a, ns, rfl, _⟩ := h
    rfl
  · obtain ⟨a, ns, rfl, hS, hl, q⟩ := h
    refine ⟨_, (pss_cons (ps_set (i := 1) sc_law.nd rfl (.inl rfl) (pe_call G__law_feed (hr.mono (by decide)) rfl T.g__law_feed T.F__law_feed.kp T.b__law_feed .nil pass0 (pa_cons (pv 0) pa_nil)))
  (pss_cons (ps_set (i := 2) sc_law.nd rfl (.inl rfl) (pe_lst (pa_cons pe_non (pa_cons pe_str (pa_cons pe_bl (pa_cons pe_bl (pa_cons (pe_lst (pa_cons pe_int pa_nil)) (pa_cons (pe_tup (pa_cons pe_int pa_nil)) (pa_cons (pe_make T.M_Poly G_Poly_init (hr.mono (by decide)) rfl T.g_Poly b_Poly_init1 d_Poly_init1 passL (pa_cons (pe_lst (pa_cons pe_int pa_nil)) pa_nil)) pa_nil)))))))))
  (pss_cons (ps_for PassesOwn.never rfl (pi_range1 rfl T.z_range (pa_cons (pe_op op_add pe_int (pe_call G__law_take (hr.mono (by decide)) rfl T.g__law_take T.F__law_take.kp T.b__law_take .nil pass0 (pa_cons (pv 1) (pa_cons pe_int pa_nil)))) pa_nil)) (pg_name (i := 3) sc_law.nd rfl (.inl rfl)) (pss_cons (ps_set (i := 4) sc_law.nd rfl (.inl rfl) (pe_call G__law_pairs (hr.mono (by decide)) rfl T.g__law_pairs T.F__law_pairs.kp T.b__law_pairs .nil pass0 (pa_cons (pv 1) pa_nil)))
  (pss_cons (ps_set (i := 5) sc_law.nd rfl (.inl rfl) (pe_call G__law_take (hr.mono (by decide)) rfl T.g__law_take T.F__law_take.kp T.b__law_take .nil pass0 (pa_cons (pv 1) (pa_cons pe_int pa_nil))))
  (pss_cons (ps_set (i := 6) sc_law.nd rfl (.inl rfl) (pe_call G__law_items (hr.mono (by decide)) rfl T.g__law_items T.F__law_items.kp T.b__law_items .nil pass0 (pa_cons (pv 4) pa_nil)))
  (pss_cons (ps_set (i := 7) sc_law.nd rfl (.inl rfl) (pe_op op_cat (pe_callTy call_list_of rfl T.z_list (by decide +kernel) (pa_cons (pv 6) pa_nil)) (pe_op op_rep (pe_lst (pa_cons pe_int pa_nil)) (pv 5))))
  (pss_cons (ps_set (i := 8) sc_law.nd rfl (.inl rfl) (pe_make T.M_Poly G_Poly_init (hr.mono (by decide)) rfl T.g_Poly b_Poly_init1 d_Poly_init1 passL (pa_cons (pv 7) pa_nil)))
  (pss_cons (ps_set (i := 9) sc_law.nd rfl (.inl rfl) (pe_make T.M_Poly G_Poly_init (hr.mono (by decide)) rfl T.g_Poly b_Poly_init1 d_Poly_init1 passL (pa_cons (pe_callTy call_tuple_of rfl T.z_tuple (by decide +kernel) (pa_cons (pv 6) pa_nil)) pa_nil)))
  (pss_cons (ps_if (pt_cmpR (op_neL hr.units) (pv 7) (pe_op op_cat (pv 6) (pe_op op_rep (pe_lst (pa_cons pe_int pa_nil)) (pv 5))) (nomark _)) (pss_one (ps_ret pe_bl)) pss_nil)
  (pss_cons (ps_expr (pe_bm PySem.F.plainAttrs_list PySem.F.slot_list_append PySem.F.type_list_append mt_append (pv 7) (pa_cons pe_int pa_nil)))
  (pss_cons (ps_asg pe_int (pg_sub (pv 7) pe_int set_list))
  (pss_cons (ps_if (PW.pt (pw_or (pt_not (pt_val (pe_call G__law_poly_is (hr.mono (by decide)) rfl T.g__law_poly_is T.F__law_poly_is.kp T.b__law_poly_is .nil pass0 (pa_cons (pv 8) (pa_cons (pv 4) pa_nil))))) (pw_or (pt_not (pt_val (pe_call G__law_poly_is (hr.mono (by decide)) rfl T.g__law_poly_is T.F__law_poly_is.kp T.b__law_poly_is .nil pass0 (pa_cons (pv 9) (pa_cons (pv 4) pa_nil))))) (pw_or (pt_cmpR op_notBl (pe_cmpR (op_eq_own T.k_Poly.ow T.m_Poly___eq__ G_Poly___eq__ (hr.mono (by decide)) T.b_Poly___eq__ pass0) (pv 8) (pv 9) (nomark _)) pe_bl (nomark _)) (pw_or1 (pt_cmpR op_notBl (pe_cmpR (op_ne_own0 T.k_Poly.hm T.ne_Poly T.m_Poly___eq__ G_Poly___eq__ (hr.mono (by decide)) T.b_Poly___eq__ pass0) (pv 8) (pv 9) (nomark _)) pe_bl (nomark _))))))) (pss_one (ps_ret pe_bl)) pss_nil)
  (pss_cons (ps_set (i := 10) sc_law.nd rfl (.inl rfl) (pe_call G__law_take (hr.mono (by decide)) rfl T.g__law_take T.F__law_take.kp T.b__law_take .nil pass0 (pa_cons (pv 1) (pa_cons pe_int pa_nil))))
  (pss_cons (ps_set (i := 11) sc_law.nd rfl (.inl rfl) (pe_op op_cat (pv 6) (pe_op op_rep (pe_lst (pa_cons pe_int pa_nil)) (pe_op op_sub pe_int (pe_callB call_len_seq rfl T.z_len (by decide +kernel) (pa_cons (pv 6) pa_nil))))))
  (pss_cons (ps_asg (pe_op (op_add.or (op_add_own T.k_Ratio.ow T.m_Ratio___add__ T.m_Ratio___radd__ G_Ratio___add__ (hr.mono (by decide)) T.b_Ratio___add__ pass0)) (pe_ix ix_list (pv 11) (pv 10) (fun _ _ => rfl)) pe_int) (pg_sub (pv 11) (pv 10) set_list))
  (pss_cons (ps_if (PW.pt (pw_or (pt_cmpR op_notBl (pe_cmpR (op_eq_own T.k_Poly.ow T.m_Poly___eq__ G_Poly___eq__ (hr.mono (by decide)) T.b_Poly___eq__ pass0) (pv 8) (pe_make T.M_Poly G_Poly_init (hr.mono (by decide)) rfl T.g_Poly b_Poly_init1 d_Poly_init1 passL (pa_cons (pv 11) pa_nil)) (nomark _)) pe_bl (nomark _)) (pw_or1 (pt_cmpR op_notBl (pe_cmpR (op_eq_own T.k_Poly.ow T.m_Poly___eq__ G_Poly___eq__ (hr.mono (by decide)) T.b_Poly___eq__ pass0) (pe_makeK0 T.M_Poly G_Poly_init (hr.mono (by decide)) rfl T.g_Poly kb_Poly passL (pk_cons (pv 11) pk_nil)) (pv 9) (nomark _)) pe_bl (nomark _))))) (pss_one (ps_ret pe_bl)) pss_nil)
  (pss_cons (ps_set (i := 12) sc_law.nd rfl (.inl rfl) (pe_ix ix_list (pv 2) (pe_call G__law_take (hr.mono (by decide)) rfl T.g__law_take T.F__law_take.kp T.b__law_take .nil pass0 (pa_cons (pv 1) (pa_cons pe_int pa_nil))) (fun _ _ => rfl)))
  (pss_cons (ps_set (i := 10) sc_law.nd rfl (.inl rfl) (pe_call G__law_take (hr.mono (by decide)) rfl T.g__law_take T.F__law_take.kp T.b__law_take .nil pass0 (pa_cons (pv 1) (pa_cons (pe_op op_add (pe_callB call_len_seq rfl T.z_len (by decide +kernel) (pa_cons (pv 6) pa_nil)) pe_int) pa_nil))))
  (pss_cons (ps_if (PW.pt (pw_or (pt_not (pt_val (pe_call G__law_refused (hr.mono (by decide)) rfl T.g__law_refused T.F__law_refused.kp T.b__law_refused .nil pass0 (pa_cons (pe_op op_cat (pe_op op_cat (pe_slice sl_list (pv 6) po_none (po_some (pv 10))) (pe_lst (pa_cons (pv 12) pa_nil))) (pe_slice sl_list (pv 6) (po_some (pv 10)) po_none)) pa_nil)))) (pw_or1 (pt_not (pt_val (pe_call G__law_refused (hr.mono (by decide)) rfl T.g__law_refused T.F__law_refused.kp T.b__law_refused .nil pass0 (pa_cons (pe_op op_catA (pe_callTy call_tuple_of rfl T.z_tuple (by decide +kernel) (pa_cons (pe_slice sl_list (pv 6) po_none (po_some (pv 10))) pa_nil)) (pe_tup (pa_cons (pv 12) pa_nil))) pa_nil))))))) (pss_one (ps_ret pe_bl)) pss_nil)
  (pss_one (ps_if (pt_not (pt_val (pe_call G__law_refused (hr.mono (by decide)) rfl T.g__law_refused T.F__law_refused.kp T.b__law_refused .nil pass0 (pa_cons (pe_ix ix_list (pe_lst (pa_cons pe_non (pa_cons pe_int (pa_cons pe_bl (pa_cons pe_str (pa_cons pe_dnewK (pa_cons (pe_make T.M_Ratio G_Ratio_init (hr.mono (by decide)) rfl T.g_Ratio b_Ratio_init1 d_Ratio_init1 pass0 (pa_cons pe_int pa_nil)) (pa_cons (pv 8) pa_nil)))))))) (pe_call G__law_take (hr.mono (by decide)) rfl T.g__law_take T.F__law_take.kp T.b__law_take .nil pass0 (pa_cons (pv 1) (pa_cons pe_int pa_nil))) (fun _ _ => rfl)) pa_nil)))) (pss_one (ps_ret pe_bl)) pss_nil))))))))))))))))))))
  (pss_one (ps_ret (pe_and (pe_call G__law_poly_is (hr.mono (by decide)) rfl T.g__law_poly_is T.F__law_poly_is.kp T.b__law_poly_is .nil pass0 (pa_cons (pe_make T.M_Poly G_Poly_init (hr.mono (by decide)) rfl T.g_Poly b_Poly_init1 d_Poly_init1 passL (pa_cons (pe_lst pa_nil) pa_nil)) (pa_cons (pe_lst pa_nil) pa_nil))) (pe_and (pe_call G__law_poly_is (hr.mono (by decide)) rfl T.g__law_poly_is T.F__law_poly_is.kp T.b__law_poly_is .nil pass0 (pa_cons (pe_make T.M_Poly G_Poly_init (hr.mono (by decide)) rfl T.g_Poly b_Poly_init1 d_Poly_init1 passL (pa_cons (pe_lst (pa_cons pe_int (pa_cons (pe_make T.M_Ratio G_Ratio_init (hr.mono (by decide)) rfl T.g_Ratio b_Ratio_init1 d_Ratio_init1 pass0 (pa_cons pe_int pa_nil)) pa_nil))) pa_nil)) (pa_cons (pe_lst pa_nil) pa_nil))) (pe_one (pe_cmpR (op_eq_own T.k_Poly.ow T.m_Poly___eq__ G_Poly___eq__ (hr.mono (by decide)) T.b_Poly___eq__ pass0) (pe_make T.M_Poly G_Poly_init (hr.mono (by decide)) rfl T.g_Poly b_Poly_init1 d_Poly_init1 passL (pa_cons (pe_lst (pa_cons pe_int pa_nil)) pa_nil)) (pe_make T.M_Poly G_Poly_init (hr.mono (by decide)) rfl T.g_Poly b_Poly_init1 d_Poly_init1 passL (pa_cons (pe_tup pa_nil) pa_nil)) (nomark _)))))))))), ?_⟩
    refine ⟨_, rfl, a, ns, rfl, hS, hl, fun H1 f s1 F1 _ => ?_⟩
    -- strange things
    refine ⟨by show 1 ≤ sizeLine; decide, fun l1 nl1 => ⟨by show 1 ≤ sizeLine; decide, fun t1 nt1 => ⟨by show 1 ≤ sizeLine; decide, fun l3 nl3 => ?_⟩⟩⟩
    have k1 := same_upd (o := .lst [V.int 1]) nl1
    have k2 := same_upd (o := .tup [V.int 2]) nt1
    have k3 := same_upd (o := .lst [V.int 1]) nl3
    have h1 := k3 _ _ (k2 _ _ (show upd H1 l1 (.lst [V.int 1]) l1 = some (.lst [V.int 1]) from upd_same))
    have h2 := k3 _ _ (show upd (upd H1 l1 (.lst [V.int 1])) t1 (.tup [V.int 2]) t1 = some (.tup [V.int 2]) from upd_same)
    have h3 : upd (upd (upd H1 l1 (.lst [V.int 1])) t1 (.tup [V.int 2])) l3 (.lst [V.int 1]) l3 = some (.lst [V.int 1]) := upd_same
    have n1 : NumsV A.Ratio (upd (upd (upd H1 l1 (.lst [V.int 1])) t1 (.tup [V.int 2])) l3 (.lst [V.int 1])) [V.int 1] (numF 1) := one_num
    refine fun pz dz nz ndz nez => poly_makeX nz ndz (.inl h3) n1 (by show 1 ≤ 60; decide) (fun k _ => numF_bd (.one (by decide) (by decide)) (by decide) k) (fun k hk => if_neg (by have : 1 ≤ k := hk; omega)) fun H2 sz k4 hpz _ => ?_
    refine ⟨by show 7 ≤ sizeLine; decide, fun ls nls => ?_⟩
    have k5 := same_upd (o := .lst [V.non, .str "1", .bl true, .bl false, .ref l1, .ref t1, .ref pz]) nls
    have od : Odd A (upd H2 ls (.lst [V.non, .str "1", .bl true, .bl false, .ref l1, .ref t1, .ref pz])) ls l1 t1 pz := ⟨upd_same, k5 _ _ (k4 _ _ h1), k5 _ _ (k4 _ _ h2), sz, hpz.same k5⟩
    have F2 := F1.same ((((k1.trans k2).trans k3).trans k4).trans k5)
    generalize upd H2 ls (.lst [V.non, .str "1", .bl true, .bl false, .ref l1, .ref t1, .ref pz]) = H3 at *
    clear k1 k2 k3 k4 k5 h1 h2 h3 n1 nl1 nt1 nl3 nz ndz nez nls hpz hS F1 s1
    refine ⟨_, rfl, f, 8, rfl, F2, by decide, .ab (by decide) (by decide), fun H4 v v0 v1 st => ⟨_, _, rfl, rfl, _, rfl, by omega, by omega, ?_⟩⟩
    refine for_range (lo := 0) (fun i σ H' => (∃ y3 y4 y5 y6 y7 y8 y9 y10 y11 y12, σ = [some (.ref a), some (.ref f), some (.ref ls), y3, y4, y5, y6, y7, y8, y9, y10, y11, y12]) ∧ FeedAt H' f ∧ Odd A H' ls l1 t1 pz) ⟨⟨_, _, _, _, _, _, _, _, _, _, rfl⟩, st.feed, od.stp F2 st⟩ ?_ ?_
    rotate_left
    · rintro σ H5 ⟨_, F5, od5⟩
      refine ⟨by show 0 ≤ sizeLine; decide, fun r1 n1 => ?_⟩
      have k1 := same_upd (o := .lst []) n1
      refine fun x dx nx ndx ne => poly_makeX (f := fun _ => 0) nx ndx (.inl (show upd H5 r1 (.lst []) r1 = some (.lst []) from upd_same)) .nil (by decide) (fun k hk => absurd hk (Nat.not_lt_zero _)) (fun k hk => rfl) fun G1 s1 k2 hp1 _ => ?_
      refine ⟨by show 0 ≤ sizeLine; decide, fun r2 n2 => ?_⟩
      have k3 := same_upd (o := .lst []) n2
      have emp : ∀ (G : Hp) (r : Addr), G r = some (.lst []) → PairsAt G (.ref r) 0 (fun _ => (0, 1)) := fun G r h => ⟨r, [], rfl, h, rfl, Prsd.nil⟩
      have ok0 : FOn (fun _ => ((0 : Int), (1 : Int))) 0 1 1 := ⟨fun k hk => absurd hk (Nat.not_lt_zero _), fun k hk => absurd hk (Nat.not_lt_zero _), fun k hk => absurd hk (Nat.not_lt_zero _)⟩
      refine ⟨_, _, s1, _, 0, _, 1, 1, rfl, hp1.same k3, emp _ _ upd_same, ok0, by decide, by decide, by decide, by decide, fun k => (cof_out (Nat.zero_le _)).symm, true, rfl, iteT ?_⟩
      refine fun xr dxr nxr ndr ner => rat_make (by decide) (.ab (by decide) (by decide)) nxr ndr ner fun G2 k4 r4 => ?_
      refine ⟨by show 2 ≤ sizeLine; decide, fun r5 n5 => ?_⟩
      have k5 := same_upd (o := .lst [V.int 0, .ref xr]) n5
      have r4 : RatV A.Ratio G2 (.ref xr) 0 := r4.to (by rw [Rat.intCast_zero, Rat.div_def, Rat.zero_mul])
      have nn : NumsV A.Ratio (upd G2 r5 (.lst [V.int 0, .ref xr])) [V.int 0, .ref xr] (fun _ => 0) := fun k x e => by
        match k, e with
        | 0, e => cases e; exact .inl ⟨0, rfl, rfl⟩
        | 1, e => cases e; exact .inr (r4.same k5)
        | k + 2, e => simp at e
      refine fun x dx nx ndx ne => poly_makeX (f := fun _ => 0) nx ndx (.inl (show upd G2 r5 (.lst [V.int 0, .ref xr]) r5 = some (.lst [V.int 0, .ref xr]) from upd_same)) nn (by show 2 ≤ 60; decide) (fun k hk => .zero (by decide)) (fun k hk => rfl) fun G3 s3 k6 hp3 _ => ?_
      refine ⟨by show 0 ≤ sizeLine; decide, fun r6 n6 => ?_⟩
      have k7 := same_upd (o := .lst []) n6
      refine ⟨_, _, s3, _, 0, _, 1, 1, rfl, hp3.same k7, emp _ _ upd_same, ok0, by decide, by decide, by decide, by decide, fun k => (cof_out (Nat.zero_le _)).symm, true, rfl, iteT ?_⟩
      refine ⟨by show 1 ≤ sizeLine; decide, fun r8 n8 => ?_⟩
      have nn2 : ∀ G : Hp, NumsV A.Ratio G [V.int 0] (fun _ => 0) := fun G k x e => by
        match k, e with
        | 0, e => cases e; exact .inl ⟨0, rfl, rfl⟩
        | k + 1, e => simp at e
      refine fun x dx nx ndx ne => poly_makeX (f := fun _ => 0) nx ndx (.inl (show upd _ r8 (.lst [V.int 0]) r8 = some (.lst [V.int 0]) from upd_same)) (nn2 _) (by show 1 ≤ 60; decide) (fun k hk => .zero (by decide)) (fun k hk => rfl) fun G4 s4 k8 hp4 _ => ?_
      refine ⟨by show 0 ≤ sizeLine; decide, fun r9 n9 => ?_⟩
      have k9 := same_upd (o := .tup []) n9
      refine fun x dx nx ndx ne => poly_makeX (f := fun _ => 0) nx ndx (.inr (show upd G4 r9 (.tup []) r9 = some (.tup []) from upd_same)) .nil (by decide) (fun k hk => absurd hk (Nat.not_lt_zero _)) (fun k hk => rfl) fun G5 s5 k10 hp5 _ => ?_
      have hp4 := hp4.same (k9.trans k10)
      refine ⟨hp4.ins, .inr hp5.ins, _, _, s4, s5, _, _, rfl, hp4, hp5, fun k => .zero (by decide), fun k => .zero (by decide), fun G6 r k11 hr => ?_⟩
      rw [hr.mpr fun _ => rfl]
      exact q _
    clear st F2 od
    rintro i σ H0 hi ⟨⟨y3, y4, y5, y6, y7, y8, y9, y10, y11, y12, rfl⟩, F0, od0⟩
    -- the numbers
    refine ⟨_, rfl, f, rfl, F0, fun H1 va L st1 pa l20 wd => ?_⟩
    have oka := drw_ok wd (by decide)
    have bda := oka.bd (show 0 < 134 by decide)
    have od1 := od0.stp F0 st1
    have F1 := st1.feed
    generalize LF L = F at *
    generalize L.length = n at *
    clear wd st1 od0 F0
    refine ⟨_, rfl, f, 10, rfl, F1, by decide, .ab (by decide) (by decide), fun H2 z0 z1 z2 st2 => ?_⟩
    have od2 := od1.stp F1 st2
    have pa2 := pa.stp F1 st2
    have F2 := st2.feed
    clear st2 od1 pa F1
    obtain ⟨z, rfl⟩ : ∃ z : Nat, z0 = (z : Int) := ⟨z0.toNat, by omega⟩
    have z10 : z < 10 := by omega
    clear z1 z2
    refine ⟨_, rfl, va, n, F, rfl, pa2, l20, oka, fun H3 di xs k3 _ hdi lx nx sx => ?_⟩
    have od3 := od2.same k3
    have pa3 := pa2.same k3
    have F3 := F2.same k3
    clear od2 pa2 F2 k3
    have zF : ∀ k, xs.length ≤ k → cof F n k = 0 := fun k hk => cof_out (by omega)
    -- what is handed
    refine ⟨_, rfl, di, xs, rfl, .inl (.of hdi), fun l nl => ⟨by show 1 ≤ sizeLine; decide, fun pz' npz => ⟨_, rfl, pz', (z : Int), _, rfl, rfl, upd_same, by omega, by omega, by show 1 * _ ≤ sizeLine; rw [Nat.one_mul]; exact Nat.le_of_lt (small1000 (by omega)), fun dz ndz => ?_⟩⟩⟩
    rw [show ((z : Int)).toNat = z by omega, rep_flat]
    have j1 := same_upd (o := .lst xs) nl
    have j2 := same_upd (o := .lst [V.int 0]) npz
    have j3 := same_upd (o := .lst (List.replicate z (V.int 0))) ndz
    have hl1 := j3 _ _ (j2 _ _ (show upd H3 l (.lst xs) l = some (.lst xs) from upd_same))
    have hdz : upd (upd (upd H3 l (.lst xs)) pz' (.lst [V.int 0])) dz (.lst (List.replicate z (V.int 0))) dz = some (.lst (List.replicate z (V.int 0))) := upd_same
    refine ⟨l, dz, _, _, rfl, rfl, hl1, hdz, Nat.le_of_lt (by rw [List.length_replicate]; exact small1000 (by omega)), fun h nh => ?_⟩
    have j4 := same_upd (o := .lst (xs ++ List.replicate z (V.int 0))) nh
    have j123 := (j1.trans j2).trans j3
    have nh3 : H3 h = none := j123.free nh
    have hh : upd (upd (upd (upd H3 l (.lst xs)) pz' (.lst [V.int 0])) dz (.lst (List.replicate z (V.int 0)))) h (.lst (xs ++ List.replicate z (V.int 0))) h = some (.lst (xs ++ List.replicate z (V.int 0))) := upd_same
    have j14 := j123.trans j4
    generalize upd (upd (upd (upd H3 l (.lst xs)) pz' (.lst [V.int 0])) dz (.lst (List.replicate z (V.int 0)))) h (.lst (xs ++ List.replicate z (V.int 0))) = H4 at *
    clear j1 j2 j3 j4 j123 hl1 hdz nl npz ndz nh
    have nh4 := nums_zeros (nx.same j14) zF z
    -- the two Polys
    have l30 : (xs ++ List.replicate z (V.int 0)).length ≤ 60 := by rw [List.length_append, List.length_replicate]; omega
    refine ⟨_, rfl, fun p dx np ndx ne => poly_makeX np ndx (.inl hh) nh4 l30 (fun k _ => (bda k).mono (by decide) (by decide)) (fun k hk => cof_out (by rw [List.length_append] at hk; omega)) fun H5 s k5 hp es => ?_⟩
    have hh5 := k5 _ _ hh
    have j15 := j14.trans k5
    refine ⟨_, rfl, di, xs, rfl, .inl ⟨.of (j15 _ _ hdi), fun t nt => ?_⟩⟩
    have k6 := same_upd (o := .tup xs) nt
    refine fun p2 dx2 np2 ndx2 ne2 => poly_makeX np2 ndx2 (.inr (show upd H5 t (.tup xs) t = some (.tup xs) from upd_same)) ((nx.same j15).same k6) (by omega) (fun k _ => (bda k).mono (by decide) (by decide)) (fun k hk => cof_out (by omega)) fun H7 s2 k7 hp2 es2 => ?_
    have k67 := k6.trans k7
    have hp := hp.same k67
    have hh7 := k67 _ _ hh5
    have j17 := j15.trans k67
    have ess := size_one hp.zero hp.last hp2.zero hp2.last
    subst ess
    clear nh4 hh k5 hh5 j15 k6 k7 k67 np ndx ne np2 ndx2 ne2 nt es j14
    -- the list that was handed is as it was
    refine ⟨_, rfl, _, rfl, by show 1 ≤ sizeLine; decide, fun pz' npz => ⟨_, rfl, pz', (z : Int), _, rfl, rfl, upd_same, by omega, by omega, by show 1 * _ ≤ sizeLine; rw [Nat.one_mul]; exact Nat.le_of_lt (small1000 (by omega)), fun dz ndz => ?_⟩⟩
    rw [show ((z : Int)).toNat = z by omega, rep_flat]
    have j2 := same_upd (o := .lst [V.int 0]) npz
    have j3 := same_upd (o := .lst (List.replicate z (V.int 0))) ndz
    have hdi8 := j3 _ _ (j2 _ _ (j17 _ _ hdi))
    have hdz : upd (upd H7 pz' (.lst [V.int 0])) dz (.lst (List.replicate z (V.int 0))) dz = some (.lst (List.replicate z (V.int 0))) := upd_same
    refine ⟨di, dz, _, _, rfl, rfl, hdi8, hdz, Nat.le_of_lt (by rw [List.length_replicate]; exact small1000 (by omega)), fun h2 nh2 => ?_⟩
    have j4 := same_upd (o := .lst (xs ++ List.replicate z (V.int 0))) nh2
    have j24 := (j2.trans j3).trans j4
    have hh8 := j24 _ _ hh7
    refine ⟨h, h2, _, rfl, rfl, hh8, upd_same, self_zeros sx z, _, rfl, iteF ?_⟩
    have j18 := j17.trans j24
    have hp := hp.same j24
    have hp2 := hp2.same j24
    generalize upd (upd (upd H7 pz' (.lst [V.int 0])) dz (.lst (List.replicate z (V.int 0)))) h2 (.lst (xs ++ List.replicate z (V.int 0))) = H8 at *
    clear j2 j3 j4 j24 hdi8 hdz npz ndz nh2 hh7 j17
    -- it changes
    refine ⟨_, rfl, .inl ⟨rfl, _, .of hh8⟩, h, _, _, rfl, rfl, hh8, by exact small1000 (by rw [List.length_append, List.length_replicate]; omega), ?_⟩
    have m1 := same_push (o := .lst (xs ++ List.replicate z (V.int 0) ++ [V.int 5])) j18 nh3
    have hp := poly_put (o := .lst (xs ++ List.replicate z (V.int 0) ++ [V.int 5])) hp hh8
    have hp2 := poly_put (o := .lst (xs ++ List.replicate z (V.int 0) ++ [V.int 5])) hp2 hh8
    have hh9 : upd H8 h (.lst (xs ++ List.replicate z (V.int 0) ++ [V.int 5])) h = some (.lst (xs ++ List.replicate z (V.int 0) ++ [V.int 5])) := upd_same
    show tSeq _ _ _ _ (upd H8 h (.lst (xs ++ List.replicate z (V.int 0) ++ [V.int 5])))
    generalize upd H8 h (.lst (xs ++ List.replicate z (V.int 0) ++ [V.int 5])) = H9 at *
    have hix : ixN (xs ++ List.replicate z (V.int 0) ++ [V.int 5]).length 0 = some 0 := by
      have := ix_nat (xs := xs ++ List.replicate z (V.int 0) ++ [V.int 5]) (i := 0) (by rw [List.length_append]; show 0 < _ + 1; omega)
      exact this
    refine ⟨_, rfl, h, _, _, _, rfl, rfl, hh9, hix, ?_⟩
    have m2 := same_push (o := .lst ((xs ++ List.replicate z (V.int 0) ++ [V.int 5]).set 0 (V.int 7))) m1 nh3
    have hp := poly_put (o := .lst ((xs ++ List.replicate z (V.int 0) ++ [V.int 5]).set 0 (V.int 7))) hp hh9
    have hp2 := poly_put (o := .lst ((xs ++ List.replicate z (V.int 0) ++ [V.int 5]).set 0 (V.int 7))) hp2 hh9
    show tSeq _ _ _ _ (upd H9 h (.lst ((xs ++ List.replicate z (V.int 0) ++ [V.int 5]).set 0 (V.int 7))))
    generalize upd H9 h (.lst ((xs ++ List.replicate z (V.int 0) ++ [V.int 5]).set 0 (V.int 7))) = H10 at *
    have od10 := od3.same m2
    have pa10 := pa3.same m2
    have F10 := F3.same m2
    have hdi10 := m2 _ _ hdi
    have nx10 := nx.same m2
    clear od3 pa3 F3 hdi nx m1 m2 j18 hh8 hh9 hix nh3
    refine ⟨_, rfl, _, rfl, .ref p, va, s, _, n, F, 134, 134, rfl, hp, pa10, oka.n, by decide, by decide, by decide, by omega, fun k => rfl, true, rfl, iteF ?_⟩
    refine ⟨_, rfl, _, rfl, .ref p2, va, s, _, n, F, 134, 134, rfl, hp2, pa10, oka.n, by decide, by decide, by decide, by omega, fun k => rfl, true, rfl, iteF ?_⟩
    have b39 : ∀ k, Bd 3900 3900 (cof F n k) := fun k => (bda k).mono (by decide) (by decide)
    refine ⟨_, rfl, _, rfl, hp.ins, .inr hp2.ins, _, _, s, s, _, _, rfl, hp, hp2, b39, b39, fun H11 r k11 hr => ?_⟩
    rw [hr.mpr fun _ => rfl]
    refine ⟨_, _, rfl, rfl, _, rfl, iteF ?_⟩
    have hp := hp.same k11
    have hp2 := hp2.same k11
    refine ⟨_, rfl, _, rfl, hp.ins, hp2.ins, _, _, s, s, _, _, rfl, hp, hp2, b39, b39, fun H12 r k12 hr => ?_⟩
    rw [hr.mpr fun _ => rfl]
    refine ⟨_, rfl, _, _, rfl, rfl, _, rfl, iteF ?_⟩
    have hp := hp.same k12
    have hp2 := hp2.same k12
    have k13 := k11.trans k12
    have od12 := od10.same k13
    have F12 := F10.same k13
    have hdi12 := k13 _ _ hdi10
    have nx12 := nx10.same k13
    clear od10 pa10 F10 hdi10 nx10 k11 k12 k13
    -- another one
    refine ⟨_, rfl, f, 25, rfl, F12, by decide, .ab (by decide) (by decide), fun H13 at0 a0 a1 st => ?_⟩
    obtain ⟨j, rfl⟩ : ∃ j : Nat, at0 = (j : Int) := ⟨at0.toNat, by omega⟩
    have j25 : j < 25 := by omega
    have hp := hp.stp F12 st
    have hp2 := hp2.stp F12 st
    have od13 := od12.stp F12 st
    have nx13 := nx12.stp F12 st
    have dif : di ≠ f := by
      intro e
      subst e
      obtain ⟨l, ns, i, r, t, n', s', e1, e2, _⟩ := F12
      rw [hdi12] at e1
      have e1 := HO.lst.inj (Option.some.inj e1)
      rcases nx12 0 (.ref l) (by rw [e1]; rfl) with ⟨i, e, _⟩ | ⟨a, dx, e, h⟩
      · cases e
      · cases e
        rw [e2] at h
        cases h
    have hdi13 := st.keep _ _ dif hdi12
    have F13 := st.feed
    clear st hdi12 nx12 F12 od12
    refine ⟨_, rfl, by show 1 ≤ sizeLine; decide, fun qz nqz => ⟨_, rfl, di, xs, rfl, .inl (.of (same_upd nqz _ _ hdi13)), _, _, rfl, rfl, qz, (26 : Int) - (xs.length : Int), _, rfl, rfl, upd_same, by omega, by omega, by show 1 * _ ≤ sizeLine; rw [Nat.one_mul]; exact Nat.le_of_lt (small1000 (by omega)), fun dz' ndz' => ?_⟩⟩
    rw [show ((26 : Int) - (xs.length : Int)).toNat = 26 - xs.length by omega, rep_flat]
    have j1 := same_upd (o := .lst [V.int 0]) nqz
    have j2 := same_upd (o := .lst (List.replicate (26 - xs.length) (V.int 0))) ndz'
    have hdz' : upd (upd H13 qz (.lst [V.int 0])) dz' (.lst (List.replicate (26 - xs.length) (V.int 0))) dz' = some (.lst (List.replicate (26 - xs.length) (V.int 0))) := upd_same
    refine ⟨di, dz', _, _, rfl, rfl, j2 _ _ (j1 _ _ hdi13), hdz', Nat.le_of_lt (by rw [List.length_replicate]; exact small1000 (by omega)), fun o no => ?_⟩
    have j12 := j1.trans j2
    have no13 := j12.free no
    have j13 := j12.trans (same_upd (o := .lst (xs ++ List.replicate (26 - xs.length) (V.int 0))) no)
    have ho : upd (upd (upd H13 qz (.lst [V.int 0])) dz' (.lst (List.replicate (26 - xs.length) (V.int 0)))) o (.lst (xs ++ List.replicate (26 - xs.length) (V.int 0))) o = some (.lst (xs ++ List.replicate (26 - xs.length) (V.int 0))) := upd_same
    have lo : (xs ++ List.replicate (26 - xs.length) (V.int 0)).length = 26 := by rw [List.length_append, List.length_replicate]; omega
    generalize upd (upd (upd H13 qz (.lst [V.int 0])) dz' (.lst (List.replicate (26 - xs.length) (V.int 0)))) o (.lst (xs ++ List.replicate (26 - xs.length) (V.int 0))) = H14 at *
    have nz := nums_zeros (nx13.same j13) zF (26 - xs.length)
    clear j1 j2 j12 hdz' nqz ndz' no
    generalize xs ++ List.replicate (26 - xs.length) (V.int 0) = os at *
    obtain ⟨y, ey⟩ : ∃ y, os[j]? = some y := ⟨_, List.getElem?_eq_getElem (by omega)⟩
    have hat : atI os (j : Int) = some y := by
      unfold atI
      rw [ix_nat (by omega)]
      exact ey
    refine ⟨_, rfl, _, rfl, o, os, _, y, rfl, rfl, .of ho, hat, add_one (nz j y ey) ((bda j).mono (by decide) (by decide)) fun G v k nv => ?_⟩
    have hoG := k _ _ ho
    refine ⟨_, rfl, _, rfl, o, _, _, _, rfl, rfl, hoG, ix_nat (by omega), ?_⟩
    have m3 := same_push (o := .lst (os.set j v)) (j13.trans k) no13
    have nz2 := nums_set (f := cof F n) (j := j) (fun i x e => ((nz.same k) i x e).put (o := .lst (os.set j v)) hoG) (nv.put (o := .lst (os.set j v)) hoG)
    have ho2 : upd G o (.lst (os.set j v)) o = some (.lst (os.set j v)) := upd_same
    show tSeq _ _ _ _ (upd G o (.lst (os.set j v)))
    generalize upd G o (.lst (os.set j v)) = H15 at *
    have lo2 : (os.set j v).length = 26 := by rw [List.length_set]; exact lo
    generalize os.set j v = ot at *
    have bo : ∀ i, Bd 3900 3900 (addF (cof F n) j i) := fun i => by
      show Bd _ _ (cof F n i + if i = j then 1 else 0)
      split
      · exact ((bda i).add (.one (n := 1) (m := 1) (by decide) (by decide)) (e := 135) (by decide) (by decide)).mono (by decide) (by decide)
      · rw [Rat.add_zero]; exact b39 i
    have zo : ∀ i, ot.length ≤ i → addF (cof F n) j i = 0 := fun i hi => by
      show cof F n i + (if i = j then 1 else 0) = 0
      rw [if_neg (by omega), Rat.add_zero]
      exact cof_out (by omega)
    have neq : ¬ ∀ i, cof F n i = addF (cof F n) j i := fun h => by
      have h : cof F n j = cof F n j + (if j = j then 1 else 0) := h j
      rw [if_pos rfl] at h
      grind
    have hp := hp.same m3
    have hp2 := hp2.same m3
    have od15 := od13.same m3
    have F15 := F13.same m3
    have hdi15 := m3 _ _ hdi13
    have nx15 := nx13.same m3
    clear od13 F13 hdi13 nx13 m3 k nv hoG nz ho j13 no13 ey hat
    refine ⟨_, rfl, _, rfl, fun p3 dx3 np3 ndx3 ne3 => poly_makeX np3 ndx3 (.inl ho2) nz2 (by omega) (fun i _ => bo i) zo fun H16 s3 k16 hp3 _ => ?_⟩
    have hp := hp.same k16
    have hp2 := hp2.same k16
    refine ⟨hp.ins, .inr hp3.ins, _, _, s, s3, _, _, rfl, hp, hp3, b39, bo, fun H17 r k17 hr => ?_⟩
    obtain rfl : r = false := by
      cases r
      · rfl
      · exact absurd (hr.mp rfl) neq
    refine ⟨_, _, rfl, rfl, _, rfl, iteF ?_⟩
    have hp := hp.same k17
    have hp2 := hp2.same k17
    have ho3 := k17 _ _ (k16 _ _ ho2)
    have nz3 := (nz2.same k16).same k17
    refine ⟨_, rfl, rfl, rfl, fun p4 dx4 np4 ndx4 ne4 => poly_makeX np4 ndx4 (.inl ho3) nz3 (by omega) (fun i _ => bo i) zo fun H18 s4 k18 hp4 _ => ?_⟩
    have hp := hp.same k18
    have hp2 := hp2.same k18
    refine ⟨_, rfl, hp4.ins, .inr hp2.ins, _, _, s4, s, _, _, rfl, hp4, hp2, bo, b39, fun H19 r k19 hr => ?_⟩
    obtain rfl : r = false := by
      cases r
      · rfl
      · exact absurd (fun i => ((hr.mp rfl) i).symm) neq
    refine ⟨_, _, rfl, rfl, _, rfl, iteF ?_⟩
    have k4 := ((k16.trans k17).trans k18).trans k19
    have hp := hp.same k19
    have od := od15.same k4
    have F19 := F15.same k4
    have hdi := k4 _ _ hdi15
    have nx := nx15.same k4
    clear hp2 hp3 hp4 od15 F15 hdi15 nx15 k16 k17 k18 k19 k4 ho2 ho3 nz2 nz3 bo zo neq lo lo2 np3 ndx3 ne3 np4 ndx4 ne4
    -- a bad one
    refine ⟨_, rfl, _, rfl, f, 7, rfl, F19, by decide, .ab (by decide) (by decide), fun H20 b b0 b1 st => ?_⟩
    have hp := hp.stp F19 st
    have od := od.stp F19 st
    have F20 := st.feed
    have nx := nx.stp F19 st
    have hdi := st.keep _ _ dif hdi
    obtain ⟨bv, eb, _⟩ := od.bad T b0 b1
    refine ⟨ls, _, b, bv, rfl, rfl, .of od.hs, eb, ?_⟩
    clear st F19
    refine ⟨_, rfl, _, rfl, di, xs, rfl, .inl (.of hdi), _, _, rfl, rfl, f, (xs.length : Int) + 1, rfl, F20, by omega, sm_of (show ((xs.length : Int) + 1).natAbs < 2 ^ 6 by omega) (by decide), fun H21 m0 c0 c1 st => ?_⟩
    have hp := hp.stp F20 st
    have od := od.stp F20 st
    have F21 := st.feed
    have nx := nx.stp F20 st
    have hdi := st.keep _ _ dif hdi
    obtain ⟨bw, eb', nb⟩ := od.bad T b0 b1
    cases Option.some.inj (eb.symm.trans eb')
    clear st F20 eb eb'
    obtain ⟨m, rfl⟩ : ∃ m : Nat, m0 = (m : Int) := ⟨m0.toNat, by omega⟩
    have lm : m ≤ xs.length := by omega
    clear c0 c1
    -- the first refusal
    refine ⟨_, rfl, _, rfl, _, rfl, di, xs, rfl, .of hdi, fun w1 nw1 => ?_⟩
    have t1 := same_upd (o := .lst (cutV xs none (some (m : Int)))) nw1
    have hw1 : upd H21 w1 (.lst (cutV xs none (some (m : Int)))) w1 = some (.lst (xs.take m)) := by rw [upd_same, cut_to]
    generalize upd H21 w1 (.lst (cutV xs none (some (m : Int)))) = I1 at *
    refine ⟨_, rfl, by show 1 ≤ sizeLine; decide, fun w2 nw2 => ?_⟩
    have t2 := same_upd (o := .lst [bv]) nw2
    have hw2 : upd I1 w2 (.lst [bv]) w2 = some (.lst [bv]) := upd_same
    have hw1 := t2 _ _ hw1
    have t2 := t1.trans t2
    generalize upd I1 w2 (.lst [bv]) = I2 at *
    refine ⟨w1, w2, _, _, rfl, rfl, hw1, hw2, Nat.le_of_lt (small1000 (by rw [List.length_take]; show _ + 1 ≤ _; omega)), fun w3 nw3 => ?_⟩
    have t3 := t2.trans (same_upd (o := .lst (xs.take m ++ [bv])) nw3)
    have hw3 : upd I2 w3 (.lst (xs.take m ++ [bv])) w3 = some (.lst (xs.take m ++ [bv])) := upd_same
    generalize upd I2 w3 (.lst (xs.take m ++ [bv])) = I3 at *
    refine ⟨_, rfl, _, rfl, _, rfl, di, xs, rfl, .of (t3 _ _ hdi), fun w4 nw4 => ?_⟩
    have t4 := same_upd (o := .lst (cutV xs (some (m : Int)) none)) nw4
    have hw4 : upd I3 w4 (.lst (cutV xs (some (m : Int)) none)) w4 = some (.lst (xs.drop m)) := by rw [upd_same, cut_drop xs m lm]
    have hw3 := t4 _ _ hw3
    have t4 := t3.trans t4
    generalize upd I3 w4 (.lst (cutV xs (some (m : Int)) none)) = I4 at *
    refine ⟨w3, w4, _, _, rfl, rfl, hw3, hw4, Nat.le_of_lt (small1000 (by rw [List.length_append, List.length_take, List.length_drop]; show _ + 1 + _ ≤ _; omega)), fun w5 nw5 => ?_⟩
    have t5 := t4.trans (same_upd (o := .lst (xs.take m ++ [bv] ++ xs.drop m)) nw5)
    have hw5 : upd I4 w5 (.lst (xs.take m ++ [bv] ++ xs.drop m)) w5 = some (.lst (xs.take m ++ [bv] ++ xs.drop m)) := upd_same
    generalize upd I4 w5 (.lst (xs.take m ++ [bv] ++ xs.drop m)) = I5 at *
    refine ⟨_, rfl, .inr (bad_list (.inl hw5) (nums_take (nx.same t5)) (nb.same t5)), fun I6 t6 => ⟨true, rfl, iteF ?_⟩⟩
    have t6 := t5.trans t6
    clear t1 t2 t3 t4 t5 hw1 hw2 hw3 hw4 hw5 nw1 nw2 nw3 nw4 nw5
    -- the second
    have hdi6 := t6 _ _ hdi
    refine ⟨_, rfl, _, rfl, _, rfl, di, xs, rfl, .of hdi6, fun u1 nu1 => ?_⟩
    have g1 := same_upd (o := .lst (cutV xs none (some (m : Int)))) nu1
    have hu1 : upd I6 u1 (.lst (cutV xs none (some (m : Int)))) u1 = some (.lst (xs.take m)) := by rw [upd_same, cut_to]
    generalize upd I6 u1 (.lst (cutV xs none (some (m : Int)))) = J1 at *
    refine ⟨u1, _, rfl, .inl ⟨.of hu1, fun u2 nu2 => ?_⟩⟩
    have g2 := g1.trans (same_upd (o := .tup (xs.take m)) nu2)
    have hu2 : upd J1 u2 (.tup (xs.take m)) u2 = some (.tup (xs.take m)) := upd_same
    generalize upd J1 u2 (.tup (xs.take m)) = J2 at *
    refine ⟨_, rfl, by show 1 ≤ sizeLine; decide, fun u3 nu3 => ?_⟩
    have g3 := same_upd (o := .tup [bv]) nu3
    have hu3 : upd J2 u3 (.tup [bv]) u3 = some (.tup [bv]) := upd_same
    have hu2 := g3 _ _ hu2
    have g3 := g2.trans g3
    generalize upd J2 u3 (.tup [bv]) = J3 at *
    refine cat_one hu2 hu3 (Nat.le_of_lt (small1000 (by rw [List.length_take]; omega))) fun c J4 g4 hc => ?_
    have g4 := t6.trans (g3.trans g4)
    refine ⟨_, rfl, .inr (bad_list (ys := []) (.inr (by rw [List.append_nil]; exact hc)) (nums_take (nx.same g4)) (nb.same g4)), fun J5 g5 => ⟨true, rfl, iteF ?_⟩⟩
    have g5 := g4.trans g5
    have hp := hp.same g5
    have od := od.same g5
    have F5 := F21.same g5
    clear g1 g2 g3 g4 g5 t6 hdi6 hu1 hu2 hu3 hc nu1 nu2 nu3 F21 nb nx hdi
    -- the third
    refine fun e ne => fun xr dxr nxr ndr ner => rat_make (by decide) (.ab (by decide) (by decide)) nxr ndr ner fun L1 t1 r1 => ?_
    have s1 := same_upd (o := .dK []) ne
    have he := t1 _ _ (show upd J5 e (.dK []) e = some (.dK []) from upd_same)
    have t1 := s1.trans t1
    refine ⟨_, rfl, by show 7 ≤ sizeLine; decide, fun ll nll => ?_⟩
    have s2 := same_upd (o := .lst [V.non, .int 3, .bl true, .str "12", .ref e, .ref xr, .ref p]) nll
    have od2 : Odd2 A (upd L1 ll (.lst [V.non, .int 3, .bl true, .str "12", .ref e, .ref xr, .ref p])) ll e xr p := ⟨upd_same, s2 _ _ he, ⟨_, r1.same s2⟩, ⟨_, _, (hp.same t1).same s2⟩⟩
    have t1 := t1.trans s2
    have od := od.same t1
    have F6 := F5.same t1
    generalize upd L1 ll (.lst [V.non, .int 3, .bl true, .str "12", .ref e, .ref xr, .ref p]) = L2 at *
    refine ⟨_, rfl, f, 7, rfl, F6, by decide, .ab (by decide) (by decide), fun L3 b b0 b1 st => ?_⟩
    obtain ⟨bv, eb, nb⟩ := (od2.stp F6 st).bad T b0 b1
    refine ⟨ll, _, b, bv, rfl, rfl, .of (od2.stp F6 st).hs, eb, ?_⟩
    refine ⟨_, rfl, .inl nb, fun L4 t4 => ⟨true, rfl, iteF ?_⟩⟩
    exact ⟨⟨_, _, _, _, _, _, _, _, _, _, rfl⟩, st.feed.same t4, (od.stp F6 st).same t4⟩
end

end Mo

namespace Mo
open PySem PySem.Spec PyProof.Rows L2 MoL MoW
open C8 (pss_cut tCut)
/-! ### what the top has written -/
theorem all_mk {l : PySem.W.OpenLaw} {w : World} {K : PySem.W.Frag} {h : Heap} {mg : Str → Option Value} {fa C_Ratio C_Poly C_NoPoly C_MeansError C_NoRatio f0 f1 f2 f3 f4 f5 f6 f7 f8 f9 f10 f11 f12 f13 f14 f15 f16 f17 f18 f19 f20 f21 f22 : Addr} (X : K.In h) (G : h.Ns mainGlobals mg) (hfa : mg "law" = some (.ref fa))
    {od0 an0 od1 an1 od2 an2 od3 an3 od4 an4 od5 an5 od6 an6 od7 an7 od8 an8 od9 an9 od10 an10 od11 an11 od12 an12 od13 an13 od14 an14 od15 an15 od16 an16 od17 an17 od18 an18 od19 an19 od20 an20 od21 an21 od22 an22 : Option Addr} {sl0 sl1 sl2 sl3 sl4 sl5 sl6 sl7 sl8 sl9 sl10 sl11 sl12 sl13 sl14 sl15 sl16 sl17 sl18 sl19 sl20 sl21 sl22 : Array (Option Value)} {oc0 kV0 dc0 pm0 ct0 cd0 oc1 kV1 dc1 pm1 ct1 cd1 oc2 kV2 dc2 pm2 ct2 cd2 oc3 kV3 dc3 pm3 ct3 cd3 oc4 kV4 dc4 pm4 ct4 cd4 oc5 kV5 dc5 pm5 ct5 cd5 oc6 kV6 dc6 pm6 ct6 cd6 oc7 kV7 dc7 pm7 ct7 cd7 oc8 kV8 dc8 pm8 ct8 cd8 oc9 kV9 dc9 pm9 ct9 cd9 oc10 kV10 dc10 pm10 ct10 cd10 oc11 kV11 dc11 pm11 ct11 cd11 oc12 kV12 dc12 pm12 ct12 cd12 oc13 kV13 dc13 pm13 ct13 cd13 oc14 kV14 dc14 pm14 ct14 cd14 oc15 kV15 dc15 pm15 ct15 cd15 oc16 kV16 dc16 pm16 ct16 cd16 oc17 kV17 dc17 pm17 ct17 cd17 oc18 kV18 dc18 pm18 ct18 cd18 oc19 kV19 dc19 pm19 ct19 cd19 oc20 kV20 dc20 pm20 ct20 cd20 oc21 kV21 dc21 pm21 ct21 cd21 oc22 kV22 dc22 pm22 ct22 cd22 : Value} {T0 : Addr} {td0 : Option Addr} {tn0 : Nat} {ts0 : Array (Option Value)} {tt0_0 : Tok} {q_MeansError : Str} {N_MeansError : Addr} {bs_MeansError sub_MeansError : List Value} {sn_MeansError : List Str} {ab_MeansError : Bool} {col_MeansError : Option Bool} {dd_MeansError : Option Addr} {m0_MeansError m1_MeansError m2_MeansError m3_MeansError m5_MeansError : Option Value} {q_NoPoly : Str} {N_NoPoly : Addr} {bs_NoPoly sub_NoPoly : List Value} {sn_NoPoly : List Str} {ab_NoPoly : Bool} {col_NoPoly : Option Bool} {dd_NoPoly : Option Addr} {m0_NoPoly m1_NoPoly m2_NoPoly m3_NoPoly m5_NoPoly : Option Value}
    (g_Ratio : PySem.W.nsIn K mainGlobals "Ratio" = some (some (.ref C_Ratio)))
    (g_Poly : PySem.W.nsIn K mainGlobals "Poly" = some (some (.ref C_Poly)))
    (g_MeansError : PySem.W.nsIn K mainGlobals "MeansError" = some (some (.ref C_MeansError)))
    (g_NoRatio : PySem.W.nsIn K mainGlobals "NoRatio" = some (some (.ref C_NoRatio)))
    (g_NoPoly : PySem.W.nsIn K mainGlobals "NoPoly" = some (some (.ref C_NoPoly)))
    (xL_MeansError : K.lookup C_MeansError = some (excClassObj "MeansError" q_MeansError C_MeansError N_MeansError bs_MeansError [.type "ValueError", .type "Exception", .type "BaseException", .type "object"] true sn_MeansError sub_MeansError ab_MeansError col_MeansError dd_MeansError m0_MeansError m1_MeansError m2_MeansError m3_MeansError m5_MeansError "ValueError.__new__"))
    (xL_NoPoly : K.lookup C_NoPoly = some (excClassObj "NoPoly" q_NoPoly C_NoPoly N_NoPoly bs_NoPoly [.ref C_MeansError, .type "ValueError", .type "Exception", .type "BaseException", .type "object"] true sn_NoPoly sub_NoPoly ab_NoPoly col_NoPoly dd_NoPoly m0_NoPoly m1_NoPoly m2_NoPoly m3_NoPoly m5_NoPoly "ValueError.__new__"))
    (a0 : PySem.W.findIn K (.ref C_Ratio) "__init__" = some (some (.ref f0)))
    (i0 : PySem.W.isFn K (.ref f0) = true)
    (l0 : K.lookup f0 = some ⟨oc0, od0, .func (PySem.W.fnOf "__init__" "Ratio.__init__" (defArgs s_Ratio___init__) (defBody s_Ratio___init__) (defScope s_Ratio___init__) (.ref T0) kV0 dc0 pm0 an0 cd0 ct0), sl0⟩)
    (c0 : PySem.W.codeIn K cd0 "Ratio.__init__" = true)
    (k0 : PySem.W.keepIn K (.ref f0) = true)
    (t0 : K.lookup T0 = some ⟨.type "tuple", td0, .seq #[.int 1 tt0_0] tn0, ts0⟩)
    (a1 : PySem.W.findIn K (.ref C_Ratio) "__add__" = some (some (.ref f1)))
    (i1 : PySem.W.isFn K (.ref f1) = true)
    (l1 : K.lookup f1 = some ⟨oc1, od1, .func (PySem.W.fnOf "__add__" "Ratio.__add__" (defArgs s_Ratio___add__) (defBody s_Ratio___add__) (defScope s_Ratio___add__) .none kV1 dc1 pm1 an1 cd1 ct1), sl1⟩)
    (c1 : PySem.W.codeIn K cd1 "Ratio.__add__" = true)
    (k1 : PySem.W.keepIn K (.ref f1) = true)
    (a2 : PySem.W.findIn K (.ref C_Ratio) "__radd__" = some (some (.ref f2)))
    (i2 : PySem.W.isFn K (.ref f2) = true)
    (l2 : K.lookup f2 = some ⟨oc2, od2, .func (PySem.W.fnOf "__radd__" "Ratio.__radd__" (defArgs s_Ratio___radd__) (defBody s_Ratio___radd__) (defScope s_Ratio___radd__) .none kV2 dc2 pm2 an2 cd2 ct2), sl2⟩)
    (c2 : PySem.W.codeIn K cd2 "Ratio.__radd__" = true)
    (k2 : PySem.W.keepIn K (.ref f2) = true)
    (a3 : PySem.W.findIn K (.ref C_Ratio) "__eq__" = some (some (.ref f3)))
    (i3 : PySem.W.isFn K (.ref f3) = true)
    (l3 : K.lookup f3 = some ⟨oc3, od3, .func (PySem.W.fnOf "__eq__" "Ratio.__eq__" (defArgs s_Ratio___eq__) (defBody s_Ratio___eq__) (defScope s_Ratio___eq__) .none kV3 dc3 pm3 an3 cd3 ct3), sl3⟩)
    (c3 : PySem.W.codeIn K cd3 "Ratio.__eq__" = true)
    (k3 : PySem.W.keepIn K (.ref f3) = true)
    (a4 : PySem.W.nsIn K mainGlobals "is_whole" = some (some (.ref f4)))
    (l4 : K.lookup f4 = some ⟨oc4, od4, .func (PySem.W.fnOf "is_whole" "is_whole" (defArgs s_is_whole) (defBody s_is_whole) (defScope s_is_whole) .none kV4 dc4 pm4 an4 cd4 ct4), sl4⟩)
    (c4 : PySem.W.codeIn K cd4 "is_whole" = true)
    (k4 : PySem.W.keepIn K (.ref f4) = true)
    (a5 : PySem.W.nsIn K mainGlobals "is_number" = some (some (.ref f5)))
    (l5 : K.lookup f5 = some ⟨oc5, od5, .func (PySem.W.fnOf "is_number" "is_number" (defArgs s_is_number) (defBody s_is_number) (defScope s_is_number) .none kV5 dc5 pm5 an5 cd5 ct5), sl5⟩)
    (c5 : PySem.W.codeIn K cd5 "is_number" = true)
    (k5 : PySem.W.keepIn K (.ref f5) = true)
    (a6 : PySem.W.nsIn K mainGlobals "ratio_of" = some (some (.ref f6)))
    (l6 : K.lookup f6 = some ⟨oc6, od6, .func (PySem.W.fnOf "ratio_of" "ratio_of" (defArgs s_ratio_of) (defBody s_ratio_of) (defScope s_ratio_of) .none kV6 dc6 pm6 an6 cd6 ct6), sl6⟩)
    (c6 : PySem.W.codeIn K cd6 "ratio_of" = true)
    (k6 : PySem.W.keepIn K (.ref f6) = true)
    (a7 : PySem.W.nsIn K mainGlobals "sum_ratios" = some (some (.ref f7)))
    (l7 : K.lookup f7 = some ⟨oc7, od7, .func (PySem.W.fnOf "_sum" "_sum" (defArgs s_sum_ratios) (defBody s_sum_ratios) (defScope s_sum_ratios) .none kV7 dc7 pm7 an7 cd7 ct7), sl7⟩)
    (c7 : PySem.W.codeIn K cd7 "_sum" = true)
    (k7 : PySem.W.keepIn K (.ref f7) = true)
    (a8 : PySem.W.nsIn K mainGlobals "_gap" = some (some (.ref f8)))
    (l8 : K.lookup f8 = some ⟨oc8, od8, .func (PySem.W.fnOf "_gap" "_gap" (defArgs s__gap) (defBody s__gap) (defScope s__gap) .none kV8 dc8 pm8 an8 cd8 ct8), sl8⟩)
    (c8 : PySem.W.codeIn K cd8 "_gap" = true)
    (k8 : PySem.W.keepIn K (.ref f8) = true)
    (a9 : PySem.W.nsIn K mainGlobals "trimmed" = some (some (.ref f9)))
    (l9 : K.lookup f9 = some ⟨oc9, od9, .func (PySem.W.fnOf "trimmed" "trimmed" (defArgs s_trimmed) (defBody s_trimmed) (defScope s_trimmed) .none kV9 dc9 pm9 an9 cd9 ct9), sl9⟩)
    (c9 : PySem.W.codeIn K cd9 "trimmed" = true)
    (k9 : PySem.W.keepIn K (.ref f9) = true)
    (a10 : PySem.W.findIn K (.ref C_Poly) "__init__" = some (some (.ref f10)))
    (i10 : PySem.W.isFn K (.ref f10) = true)
    (l10 : K.lookup f10 = some ⟨oc10, od10, .func (PySem.W.fnOf "__init__" "Poly.__init__" (defArgs s_Poly___init__) (defBody s_Poly___init__) (defScope s_Poly___init__) .none kV10 dc10 pm10 an10 cd10 ct10), sl10⟩)
    (c10 : PySem.W.codeIn K cd10 "Poly.__init__" = true)
    (k10 : PySem.W.keepIn K (.ref f10) = true)
    (a11 : PySem.W.findIn K (.ref C_Poly) "__eq__" = some (some (.ref f11)))
    (i11 : PySem.W.isFn K (.ref f11) = true)
    (l11 : K.lookup f11 = some ⟨oc11, od11, .func (PySem.W.fnOf "__eq__" "Poly.__eq__" (defArgs s_Poly___eq__) (defBody s_Poly___eq__) (defScope s_Poly___eq__) .none kV11 dc11 pm11 an11 cd11 ct11), sl11⟩)
    (c11 : PySem.W.codeIn K cd11 "Poly.__eq__" = true)
    (k11 : PySem.W.keepIn K (.ref f11) = true)
    (a12 : PySem.W.nsIn K mainGlobals "_law_is_integer" = some (some (.ref f12)))
    (l12 : K.lookup f12 = some ⟨oc12, od12, .func (PySem.W.fnOf "_law_is_integer" "_law_is_integer" (defArgs s__law_is_integer) (defBody s__law_is_integer) (defScope s__law_is_integer) .none kV12 dc12 pm12 an12 cd12 ct12), sl12⟩)
    (c12 : PySem.W.codeIn K cd12 "_law_is_integer" = true)
    (k12 : PySem.W.keepIn K (.ref f12) = true)
    (a13 : PySem.W.nsIn K mainGlobals "_law_feed" = some (some (.ref f13)))
    (l13 : K.lookup f13 = some ⟨oc13, od13, .func (PySem.W.fnOf "_law_feed" "_law_feed" (defArgs s__law_feed) (defBody s__law_feed) (defScope s__law_feed) .none kV13 dc13 pm13 an13 cd13 ct13), sl13⟩)
    (c13 : PySem.W.codeIn K cd13 "_law_feed" = true)
    (k13 : PySem.W.keepIn K (.ref f13) = true)
    (a14 : PySem.W.nsIn K mainGlobals "_law_take" = some (some (.ref f14)))
    (l14 : K.lookup f14 = some ⟨oc14, od14, .func (PySem.W.fnOf "_law_take" "_law_take" (defArgs s__law_take) (defBody s__law_take) (defScope s__law_take) .none kV14 dc14 pm14 an14 cd14 ct14), sl14⟩)
    (c14 : PySem.W.codeIn K cd14 "_law_take" = true)
    (k14 : PySem.W.keepIn K (.ref f14) = true)
    (a15 : PySem.W.nsIn K mainGlobals "_law_number" = some (some (.ref f15)))
    (l15 : K.lookup f15 = some ⟨oc15, od15, .func (PySem.W.fnOf "_law_number" "_law_number" (defArgs s__law_number) (defBody s__law_number) (defScope s__law_number) .none kV15 dc15 pm15 an15 cd15 ct15), sl15⟩)
    (c15 : PySem.W.codeIn K cd15 "_law_number" = true)
    (k15 : PySem.W.keepIn K (.ref f15) = true)
    (a16 : PySem.W.nsIn K mainGlobals "_law_pair" = some (some (.ref f16)))
    (l16 : K.lookup f16 = some ⟨oc16, od16, .func (PySem.W.fnOf "_law_pair" "_law_pair" (defArgs s__law_pair) (defBody s__law_pair) (defScope s__law_pair) .none kV16 dc16 pm16 an16 cd16 ct16), sl16⟩)
    (c16 : PySem.W.codeIn K cd16 "_law_pair" = true)
    (k16 : PySem.W.keepIn K (.ref f16) = true)
    (a17 : PySem.W.nsIn K mainGlobals "_law_is" = some (some (.ref f17)))
    (l17 : K.lookup f17 = some ⟨oc17, od17, .func (PySem.W.fnOf "_law_is" "_law_is" (defArgs s__law_is) (defBody s__law_is) (defScope s__law_is) .none kV17 dc17 pm17 an17 cd17 ct17), sl17⟩)
    (c17 : PySem.W.codeIn K cd17 "_law_is" = true)
    (k17 : PySem.W.keepIn K (.ref f17) = true)
    (a18 : PySem.W.nsIn K mainGlobals "_law_poly_is" = some (some (.ref f18)))
    (l18 : K.lookup f18 = some ⟨oc18, od18, .func (PySem.W.fnOf "_law_poly_is" "_law_poly_is" (defArgs s__law_poly_is) (defBody s__law_poly_is) (defScope s__law_poly_is) .none kV18 dc18 pm18 an18 cd18 ct18), sl18⟩)
    (c18 : PySem.W.codeIn K cd18 "_law_poly_is" = true)
    (k18 : PySem.W.keepIn K (.ref f18) = true)
    (a19 : PySem.W.nsIn K mainGlobals "_law_refused" = some (some (.ref f19)))
    (l19 : K.lookup f19 = some ⟨oc19, od19, .func (PySem.W.fnOf "_law_refused" "_law_refused" (defArgs s__law_refused) (defBody s__law_refused) (defScope s__law_refused) .none kV19 dc19 pm19 an19 cd19 ct19), sl19⟩)
    (c19 : PySem.W.codeIn K cd19 "_law_refused" = true)
    (k19 : PySem.W.keepIn K (.ref f19) = true)
    (a20 : PySem.W.nsIn K mainGlobals "_law_pairs" = some (some (.ref f20)))
    (l20 : K.lookup f20 = some ⟨oc20, od20, .func (PySem.W.fnOf "_law_pairs" "_law_pairs" (defArgs s__law_pairs) (defBody s__law_pairs) (defScope s__law_pairs) .none kV20 dc20 pm20 an20 cd20 ct20), sl20⟩)
    (c20 : PySem.W.codeIn K cd20 "_law_pairs" = true)
    (k20 : PySem.W.keepIn K (.ref f20) = true)
    (a21 : PySem.W.nsIn K mainGlobals "_law_items" = some (some (.ref f21)))
    (l21 : K.lookup f21 = some ⟨oc21, od21, .func (PySem.W.fnOf "_law_items" "_law_items" (defArgs s__law_items) (defBody s__law_items) (defScope s__law_items) .none kV21 dc21 pm21 an21 cd21 ct21), sl21⟩)
    (c21 : PySem.W.codeIn K cd21 "_law_items" = true)
    (k21 : PySem.W.keepIn K (.ref f21) = true)
    (a22 : PySem.W.nsIn K mainGlobals "law" = some (some (.ref f22)))
    (l22 : K.lookup f22 = some ⟨oc22, od22, .func (PySem.W.fnOf "law" "law" (defArgs s_law) (defBody s_law) (defScope s_law) .none kV22 dc22 pm22 an22 cd22 ct22), sl22⟩)
    (c22 : PySem.W.codeIn K cd22 "law" = true)
    (k22 : PySem.W.keepIn K (.ref f22) = true)
    (pg_Ratio : PySem.W.plainGet K C_Ratio Str.empty = true)
    (hd_Ratio : PySem.W.hasDictIn K C_Ratio = true)
    (po_Ratio : PySem.W.plainOver K C_Ratio = true)
    (sa_Ratio : PySem.W.findIn K (.ref C_Ratio) "__setattr__" = some (some (.builtin "object.__setattr__")))
    (mk_Ratio : PySem.W.makesIn K C_Ratio = true)
    (kc_Ratio : PySem.W.keepIn K (.ref C_Ratio) = true)
    (sf_Ratio : PySem.W.selfFirst K C_Ratio = true)
    (s1_Ratio : PySem.W.subIn K (.ref C_Ratio) (.type "int") = some false)
    (s2_Ratio : PySem.W.subIn K (.type "int") (.ref C_Ratio) = some false)
    (cls_Ratio : PySem.W.findIn K (.ref C_Ratio) "__class__" = some (some (.builtin "object.__class__")))
    (gsd_Ratio : PySem.W.specialIn K (.builtin "object.__class__") "__get__" = some (some (.builtin "getset_descriptor.__get__")))
    (tks_Ratio : PySem.W.takesIn K (.builtin "object.__class__") = some true)
    (mro_Ratio : PySem.W.mroIn K C_Ratio (.type "object") = some true)
    (ki_Ratio : PySem.W.kitOne K (.ref C_Ratio) (.type "int") = some false)
    (ik_Ratio : PySem.W.kitOne K (.type "int") (.ref C_Ratio) = some false)
    (n_top_Ratio : PySem.W.findIn K (.ref C_Ratio) "top" = some none)
    (n_bottom_Ratio : PySem.W.findIn K (.ref C_Ratio) "bottom" = some none)
    (pg_Poly : PySem.W.plainGet K C_Poly Str.empty = true)
    (hd_Poly : PySem.W.hasDictIn K C_Poly = true)
    (po_Poly : PySem.W.plainOver K C_Poly = true)
    (sa_Poly : PySem.W.findIn K (.ref C_Poly) "__setattr__" = some (some (.builtin "object.__setattr__")))
    (mk_Poly : PySem.W.makesIn K C_Poly = true)
    (kc_Poly : PySem.W.keepIn K (.ref C_Poly) = true)
    (sf_Poly : PySem.W.selfFirst K C_Poly = true)
    (s1_Poly : PySem.W.subIn K (.ref C_Poly) (.type "int") = some false)
    (s2_Poly : PySem.W.subIn K (.type "int") (.ref C_Poly) = some false)
    (cls_Poly : PySem.W.findIn K (.ref C_Poly) "__class__" = some (some (.builtin "object.__class__")))
    (gsd_Poly : PySem.W.specialIn K (.builtin "object.__class__") "__get__" = some (some (.builtin "getset_descriptor.__get__")))
    (tks_Poly : PySem.W.takesIn K (.builtin "object.__class__") = some true)
    (mro_Poly : PySem.W.mroIn K C_Poly (.type "object") = some true)
    (ki_Poly : PySem.W.kitOne K (.ref C_Poly) (.type "int") = some false)
    (ik_Poly : PySem.W.kitOne K (.type "int") (.ref C_Poly) = some false)
    (n_coefficients_Poly : PySem.W.findIn K (.ref C_Poly) "coefficients" = some none)
    (n_degree_Poly : PySem.W.findIn K (.ref C_Poly) "degree" = some none)
    (n_lead_Poly : PySem.W.findIn K (.ref C_Poly) "lead" = some none)
    (sa_NoPoly : PySem.W.findIn K (.ref C_NoPoly) "__setattr__" = some (some (.builtin "object.__setattr__")))
    (ga_NoPoly : PySem.W.findIn K (.ref C_NoPoly) "__getattribute__" = some (some (.builtin "BaseException.__getattribute__")))
    (gg_NoPoly : PySem.W.findIn K (.ref C_NoPoly) "__getattr__" = some none)
    (cls_NoPoly : PySem.W.findIn K (.ref C_NoPoly) "__class__" = some (some (.builtin "object.__class__")))
    (kC_NoPoly : PySem.W.keepIn K (.ref C_NoPoly) = true)
    (xn_NoPoly : PySem.W.excIn K C_NoPoly [.type "ValueError", .type "Exception", .type "BaseException", .type "object"] "ValueError.__new__" = true)
    (gsd_all : PySem.W.specialIn K (.builtin "object.__class__") "__get__" = some (some (.builtin "getset_descriptor.__get__")))
    (tks_all : PySem.W.takesIn K (.builtin "object.__class__") = some true)
    (fa_kit_RP : PySem.W.kitOne K (.ref C_Ratio) (.ref C_Poly) = some false)
    (fa_sub_RP : PySem.W.subIn K (.ref C_Ratio) (.ref C_Poly) = some false)
    (fa_sub_PR : PySem.W.subIn K (.ref C_Poly) (.ref C_Ratio) = some false)
    (fa_kit_PR : PySem.W.kitOne K (.ref C_Poly) (.ref C_Ratio) = some false)
    (fa_ik_str : PySem.W.kitOne K (.type "str") (.ref C_Ratio) = some false)
    (fa_ik_bool : PySem.W.kitOne K (.type "bool") (.ref C_Ratio) = some false)
    (fa_ik_NoneType : PySem.W.kitOne K (.type "NoneType") (.ref C_Ratio) = some false)
    (fa_ik_list : PySem.W.kitOne K (.type "list") (.ref C_Ratio) = some false)
    (fa_ik_tuple : PySem.W.kitOne K (.type "tuple") (.ref C_Ratio) = some false)
    (fa_ik_dict : PySem.W.kitOne K (.type "dict") (.ref C_Ratio) = some false)
    (fa_kit_rl_Ratio : PySem.W.kitOne K (.ref C_Ratio) (.type "list") = some false)
    (fa_kit_rl_Poly : PySem.W.kitOne K (.ref C_Poly) (.type "list") = some false)
    (fa_kit_rt_Ratio : PySem.W.kitOne K (.ref C_Ratio) (.type "tuple") = some false)
    (fa_kit_rt_Poly : PySem.W.kitOne K (.ref C_Poly) (.type "tuple") = some false)
    (fa_kit_NN : PySem.W.kitOne K (.ref C_NoPoly) (.ref C_NoRatio) = some false)
    (fa_ne_Poly : PySem.W.findIn K (.ref C_Poly) "__ne__" = some (some (.builtin "object.__ne__")))
    (z_isinstance : PySem.W.nsIn K mainGlobals "isinstance" = some none)
    (z_int : PySem.W.nsIn K mainGlobals "int" = some none)
    (z_bool : PySem.W.nsIn K mainGlobals "bool" = some none)
    (z_abs : PySem.W.nsIn K mainGlobals "abs" = some none)
    (z_len : PySem.W.nsIn K mainGlobals "len" = some none)
    (z_max : PySem.W.nsIn K mainGlobals "max" = some none)
    (z_range : PySem.W.nsIn K mainGlobals "range" = some none)
    (z_list : PySem.W.nsIn K mainGlobals "list" = some none)
    (z_tuple : PySem.W.nsIn K mainGlobals "tuple" = some none)
    (z_NotImplemented : PySem.W.nsIn K mainGlobals "NotImplemented" = some none)
    (j_gcd : PySem.W.nsIn K mainGlobals "gcd" = some (some (.builtin "math.gcd")))
    : ∃ fd : FuncData, (∀ (s : Shared) (v : Value), BindsTo s fd ⟨[v], []⟩ [("_law_script", v)]) ∧ ∀ base : Heap, K.In base → base.Ns mainGlobals mg → FnOk l.prog w K mg base CX0 10 fa fd ["_law_script"] (sp_law K) := by
  have e := hfa.symm.trans (PySem.W.mg_of X G a22)
  cases e
  have F0 : FunD K "__init__" "Ratio.__init__" (defArgs s_Ratio___init__) (defBody s_Ratio___init__) (defScope s_Ratio___init__) [.int 1] [] f0 _ := ⟨⟨_, _, _, _, _, _, _, _, _, _, rfl, l0, c0, .inr ⟨by simp, _, _, [.int 1 tt0_0], _, rfl, t0, rfl, .cons ⟨_, rfl⟩ (.nil)⟩, .inl rfl⟩, k0⟩
  have F1 := fun_mk (st := s_Ratio___add__) l1 c1 k1
  have F2 := fun_mk (st := s_Ratio___radd__) l2 c2 k2
  have F3 := fun_mk (st := s_Ratio___eq__) l3 c3 k3
  have F4 := fun_mk (st := s_is_whole) l4 c4 k4
  have F5 := fun_mk (st := s_is_number) l5 c5 k5
  have F6 := fun_mk (st := s_ratio_of) l6 c6 k6
  have F7 := fun_mk (st := s_sum_ratios) l7 c7 k7
  have F8 := fun_mk (st := s__gap) l8 c8 k8
  have F9 := fun_mk (st := s_trimmed) l9 c9 k9
  have F10 := fun_mk (st := s_Poly___init__) l10 c10 k10
  have F11 := fun_mk (st := s_Poly___eq__) l11 c11 k11
  have F12 := fun_mk (st := s__law_is_integer) l12 c12 k12
  have F13 := fun_mk (st := s__law_feed) l13 c13 k13
  have F14 := fun_mk (st := s__law_take) l14 c14 k14
  have F15 := fun_mk (st := s__law_number) l15 c15 k15
  have F16 := fun_mk (st := s__law_pair) l16 c16 k16
  have F17 := fun_mk (st := s__law_is) l17 c17 k17
  have F18 := fun_mk (st := s__law_poly_is) l18 c18 k18
  have F19 := fun_mk (st := s__law_refused) l19 c19 k19
  have F20 := fun_mk (st := s__law_pairs) l20 c20 k20
  have F21 := fun_mk (st := s__law_items) l21 c21 k21
  have F22 := fun_mk (st := s_law) l22 c22 k22
  let A : Ad := { Ratio := C_Ratio, Poly := C_Poly, NoPoly := C_NoPoly, MeansError := C_MeansError, NoRatio := C_NoRatio, f_Ratio___init__ := f0, f_Ratio___add__ := f1, f_Ratio___radd__ := f2, f_Ratio___eq__ := f3, f_is_whole := f4, f_is_number := f5, f_ratio_of := f6, f_sum_ratios := f7, f__gap := f8, f_trimmed := f9, f_Poly___init__ := f10, f_Poly___eq__ := f11, f__law_is_integer := f12, f__law_feed := f13, f__law_take := f14, f__law_number := f15, f__law_pair := f16, f__law_is := f17, f__law_poly_is := f18, f__law_refused := f19, f__law_pairs := f20, f__law_items := f21, f_law := fa }
  let D : Fd := { f_Ratio___init__ := PySem.W.fnOf "__init__" "Ratio.__init__" (defArgs s_Ratio___init__) (defBody s_Ratio___init__) (defScope s_Ratio___init__) (.ref T0) kV0 dc0 pm0 an0 cd0 ct0, f_Ratio___add__ := PySem.W.fnOf "__add__" "Ratio.__add__" (defArgs s_Ratio___add__) (defBody s_Ratio___add__) (defScope s_Ratio___add__) .none kV1 dc1 pm1 an1 cd1 ct1, f_Ratio___radd__ := PySem.W.fnOf "__radd__" "Ratio.__radd__" (defArgs s_Ratio___radd__) (defBody s_Ratio___radd__) (defScope s_Ratio___radd__) .none kV2 dc2 pm2 an2 cd2 ct2, f_Ratio___eq__ := PySem.W.fnOf "__eq__" "Ratio.__eq__" (defArgs s_Ratio___eq__) (defBody s_Ratio___eq__) (defScope s_Ratio___eq__) .none kV3 dc3 pm3 an3 cd3 ct3, f_is_whole := PySem.W.fnOf "is_whole" "is_whole" (defArgs s_is_whole) (defBody s_is_whole) (defScope s_is_whole) .none kV4 dc4 pm4 an4 cd4 ct4, f_is_number := PySem.W.fnOf "is_number" "is_number" (defArgs s_is_number) (defBody s_is_number) (defScope s_is_number) .none kV5 dc5 pm5 an5 cd5 ct5, f_ratio_of := PySem.W.fnOf "ratio_of" "ratio_of" (defArgs s_ratio_of) (defBody s_ratio_of) (defScope s_ratio_of) .none kV6 dc6 pm6 an6 cd6 ct6, f_sum_ratios := PySem.W.fnOf "_sum" "_sum" (defArgs s_sum_ratios) (defBody s_sum_ratios) (defScope s_sum_ratios) .none kV7 dc7 pm7 an7 cd7 ct7, f__gap := PySem.W.fnOf "_gap" "_gap" (defArgs s__gap) (defBody s__gap) (defScope s__gap) .none kV8 dc8 pm8 an8 cd8 ct8, f_trimmed := PySem.W.fnOf "trimmed" "trimmed" (defArgs s_trimmed) (defBody s_trimmed) (defScope s_trimmed) .none kV9 dc9 pm9 an9 cd9 ct9, f_Poly___init__ := PySem.W.fnOf "__init__" "Poly.__init__" (defArgs s_Poly___init__) (defBody s_Poly___init__) (defScope s_Poly___init__) .none kV10 dc10 pm10 an10 cd10 ct10, f_Poly___eq__ := PySem.W.fnOf "__eq__" "Poly.__eq__" (defArgs s_Poly___eq__) (defBody s_Poly___eq__) (defScope s_Poly___eq__) .none kV11 dc11 pm11 an11 cd11 ct11, f__law_is_integer := PySem.W.fnOf "_law_is_integer" "_law_is_integer" (defArgs s__law_is_integer) (defBody s__law_is_integer) (defScope s__law_is_integer) .none kV12 dc12 pm12 an12 cd12 ct12, f__law_feed := PySem.W.fnOf "_law_feed" "_law_feed" (defArgs s__law_feed) (defBody s__law_feed) (defScope s__law_feed) .none kV13 dc13 pm13 an13 cd13 ct13, f__law_take := PySem.W.fnOf "_law_take" "_law_take" (defArgs s__law_take) (defBody s__law_take) (defScope s__law_take) .none kV14 dc14 pm14 an14 cd14 ct14, f__law_number := PySem.W.fnOf "_law_number" "_law_number" (defArgs s__law_number) (defBody s__law_number) (defScope s__law_number) .none kV15 dc15 pm15 an15 cd15 ct15, f__law_pair := PySem.W.fnOf "_law_pair" "_law_pair" (defArgs s__law_pair) (defBody s__law_pair) (defScope s__law_pair) .none kV16 dc16 pm16 an16 cd16 ct16, f__law_is := PySem.W.fnOf "_law_is" "_law_is" (defArgs s__law_is) (defBody s__law_is) (defScope s__law_is) .none kV17 dc17 pm17 an17 cd17 ct17, f__law_poly_is := PySem.W.fnOf "_law_poly_is" "_law_poly_is" (defArgs s__law_poly_is) (defBody s__law_poly_is) (defScope s__law_poly_is) .none kV18 dc18 pm18 an18 cd18 ct18, f__law_refused := PySem.W.fnOf "_law_refused" "_law_refused" (defArgs s__law_refused) (defBody s__law_refused) (defScope s__law_refused) .none kV19 dc19 pm19 an19 cd19 ct19, f__law_pairs := PySem.W.fnOf "_law_pairs" "_law_pairs" (defArgs s__law_pairs) (defBody s__law_pairs) (defScope s__law_pairs) .none kV20 dc20 pm20 an20 cd20 ct20, f__law_items := PySem.W.fnOf "_law_items" "_law_items" (defArgs s__law_items) (defBody s__law_items) (defScope s__law_items) .none kV21 dc21 pm21 an21 cd21 ct21, f_law := PySem.W.fnOf "law" "law" (defArgs s_law) (defBody s_law) (defScope s_law) .none kV22 dc22 pm22 an22 cd22 ct22 }
  have T : Txt K mg A D := {
    g_Ratio := PySem.W.mg_of X G g_Ratio,
    kp_Ratio := kc_Ratio,
    M_Ratio := ⟨mk_Ratio, a0, i0, kc_Ratio⟩,
    k_Ratio := ⟨⟨pg_Ratio, hd_Ratio, po_Ratio, sa_Ratio⟩, ⟨sf_Ratio, s1_Ratio, s2_Ratio⟩, cls_Ratio, gsd_Ratio, tks_Ratio, mro_Ratio, ki_Ratio, ik_Ratio, n_top_Ratio, n_bottom_Ratio⟩,
    g_Poly := PySem.W.mg_of X G g_Poly,
    kp_Poly := kc_Poly,
    M_Poly := ⟨mk_Poly, a10, i10, kc_Poly⟩,
    k_Poly := ⟨⟨pg_Poly, hd_Poly, po_Poly, sa_Poly⟩, ⟨sf_Poly, s1_Poly, s2_Poly⟩, cls_Poly, gsd_Poly, tks_Poly, mro_Poly, ki_Poly, ik_Poly⟩,
    n_Poly_coefficients := n_coefficients_Poly,
    n_Poly_degree := n_degree_Poly,
    n_Poly_lead := n_lead_Poly,
    g_MeansError := PySem.W.mg_of X G g_MeansError,
    g_NoRatio := PySem.W.mg_of X G g_NoRatio,
    g_NoPoly := PySem.W.mg_of X G g_NoPoly,
    e_NoPoly := ⟨⟨_, _, _, _, _, _, _, _, _, _, _, _, _, xL_NoPoly⟩, ⟨_, _, _, _, _, _, _, _, _, _, _, _, _, xL_MeansError⟩, sa_NoPoly, ga_NoPoly, gg_NoPoly, cls_NoPoly, gsd_all, tks_all, kC_NoPoly⟩,
    xn_NoPoly := xn_NoPoly,
    kit_RP := fa_kit_RP,
    sub_RP := fa_sub_RP,
    sub_PR := fa_sub_PR,
    kit_PR := fa_kit_PR,
    ik_str := fa_ik_str,
    ik_bool := fa_ik_bool,
    ik_NoneType := fa_ik_NoneType,
    ik_list := fa_ik_list,
    ik_tuple := fa_ik_tuple,
    ik_dict := fa_ik_dict,
    kit_rl_Ratio := fa_kit_rl_Ratio,
    kit_rl_Poly := fa_kit_rl_Poly,
    kit_rt_Ratio := fa_kit_rt_Ratio,
    kit_rt_Poly := fa_kit_rt_Poly,
    kit_NN := fa_kit_NN,
    ne_Poly := fa_ne_Poly,
    F_Ratio___init__ := F0,
    b_Ratio___init__ := by obtain ⟨ds, r, b⟩ := F0.binds1 (ps := ["self", "top", "bottom"]) 3 1 (by simp) rfl (fun _ _ _ _ _ _ _ us its h1 h2 => match us, h1, its, h2 with | [_, _, _], _, [_], _ => ⟨_, rfl, by first | rfl | with_unfolding_all rfl | kernel_rfl⟩); cases r; exact b,
    b1_Ratio___init__ := F0.binds1 (ps := ["self", "top", "bottom"]) 2 0 (by simp) rfl (fun _ _ _ _ _ _ _ us its h1 h2 => match us, h1, its, h2 with | [_, _], _, [_], _ => ⟨_, rfl, by first | rfl | with_unfolding_all rfl | kernel_rfl⟩),
    m_Ratio___init__ := ⟨a0, i0, k0⟩,
    F_Ratio___add__ := F1,
    b_Ratio___add__ := F1.binds fun _ _ _ _ _ _ us hl => match us, hl with | [_, _], _ => rfl,
    m_Ratio___add__ := ⟨a1, i1, k1⟩,
    F_Ratio___radd__ := F2,
    b_Ratio___radd__ := F2.binds fun _ _ _ _ _ _ us hl => match us, hl with | [_, _], _ => rfl,
    m_Ratio___radd__ := ⟨a2, i2, k2⟩,
    F_Ratio___eq__ := F3,
    b_Ratio___eq__ := F3.binds fun _ _ _ _ _ _ us hl => match us, hl with | [_, _], _ => rfl,
    m_Ratio___eq__ := ⟨a3, i3, k3⟩,
    F_is_whole := F4,
    b_is_whole := F4.binds fun _ _ _ _ _ _ us hl => match us, hl with | [_], _ => rfl,
    g_is_whole := PySem.W.mg_of X G a4,
    F_is_number := F5,
    b_is_number := F5.binds fun _ _ _ _ _ _ us hl => match us, hl with | [_], _ => rfl,
    g_is_number := PySem.W.mg_of X G a5,
    F_ratio_of := F6,
    b_ratio_of := F6.binds fun _ _ _ _ _ _ us hl => match us, hl with | [_], _ => rfl,
    g_ratio_of := PySem.W.mg_of X G a6,
    F_sum_ratios := F7,
    b_sum_ratios := F7.binds fun _ _ _ _ _ _ us hl => match us, hl with | [_, _], _ => rfl,
    g_sum_ratios := PySem.W.mg_of X G a7,
    F__gap := F8,
    b__gap := F8.binds fun _ _ _ _ _ _ us hl => match us, hl with | [_, _], _ => rfl,
    g__gap := PySem.W.mg_of X G a8,
    F_trimmed := F9,
    b_trimmed := F9.binds fun _ _ _ _ _ _ us hl => match us, hl with | [_], _ => rfl,
    g_trimmed := PySem.W.mg_of X G a9,
    F_Poly___init__ := F10,
    kb_Poly___init__ := ⟨[], ⟨fun s us ws _ l1 l2 => match us, l1, ws, l2 with | [_], _, [_], _ => .of_eq (by first | rfl | with_unfolding_all rfl), fun r1 r2 => (r1.append r2).append .nil⟩⟩,
    b_Poly___init__ := F10.binds fun _ _ _ _ _ _ us hl => match us, hl with | [_, _], _ => rfl,
    m_Poly___init__ := ⟨a10, i10, k10⟩,
    F_Poly___eq__ := F11,
    b_Poly___eq__ := F11.binds fun _ _ _ _ _ _ us hl => match us, hl with | [_, _], _ => rfl,
    m_Poly___eq__ := ⟨a11, i11, k11⟩,
    F__law_is_integer := F12,
    b__law_is_integer := F12.binds fun _ _ _ _ _ _ us hl => match us, hl with | [_], _ => rfl,
    g__law_is_integer := PySem.W.mg_of X G a12,
    F__law_feed := F13,
    b__law_feed := F13.binds fun _ _ _ _ _ _ us hl => match us, hl with | [_], _ => rfl,
    g__law_feed := PySem.W.mg_of X G a13,
    F__law_take := F14,
    b__law_take := F14.binds fun _ _ _ _ _ _ us hl => match us, hl with | [_, _], _ => rfl,
    g__law_take := PySem.W.mg_of X G a14,
    F__law_number := F15,
    b__law_number := F15.binds fun _ _ _ _ _ _ us hl => match us, hl with | [_, _], _ => rfl,
    g__law_number := PySem.W.mg_of X G a15,
    F__law_pair := F16,
    b__law_pair := F16.binds fun _ _ _ _ _ _ us hl => match us, hl with | [_, _], _ => rfl,
    g__law_pair := PySem.W.mg_of X G a16,
    F__law_is := F17,
    b__law_is := F17.binds fun _ _ _ _ _ _ us hl => match us, hl with | [_, _, _], _ => rfl,
    g__law_is := PySem.W.mg_of X G a17,
    F__law_poly_is := F18,
    b__law_poly_is := F18.binds fun _ _ _ _ _ _ us hl => match us, hl with | [_, _], _ => rfl,
    g__law_poly_is := PySem.W.mg_of X G a18,
    F__law_refused := F19,
    b__law_refused := F19.binds fun _ _ _ _ _ _ us hl => match us, hl with | [_], _ => rfl,
    g__law_refused := PySem.W.mg_of X G a19,
    F__law_pairs := F20,
    b__law_pairs := F20.binds fun _ _ _ _ _ _ us hl => match us, hl with | [_], _ => rfl,
    g__law_pairs := PySem.W.mg_of X G a20,
    F__law_items := F21,
    b__law_items := F21.binds fun _ _ _ _ _ _ us hl => match us, hl with | [_], _ => rfl,
    g__law_items := PySem.W.mg_of X G a21,
    F_law := F22,
    b_law := F22.binds fun _ _ _ _ _ _ us hl => match us, hl with | [_], _ => rfl,
    g_law := PySem.W.mg_of X G a22,
    z_isinstance := PySem.W.mg_none_of X G z_isinstance,
    z_int := PySem.W.mg_none_of X G z_int,
    z_bool := PySem.W.mg_none_of X G z_bool,
    z_abs := PySem.W.mg_none_of X G z_abs,
    z_len := PySem.W.mg_none_of X G z_len,
    z_max := PySem.W.mg_none_of X G z_max,
    z_range := PySem.W.mg_none_of X G z_range,
    z_list := PySem.W.mg_none_of X G z_list,
    z_tuple := PySem.W.mg_none_of X G z_tuple,
    z_NotImplemented := PySem.W.mg_none_of X G z_NotImplemented,
    g_gcd := PySem.W.mg_of X G j_gcd }
  exact ⟨PySem.W.fnOf "law" "law" (defArgs s_law) (defBody s_law) (defScope s_law) .none kV22 dc22 pm22 an22 cd22 ct22, fun s v => .of_eq rfl, fun base _ _ => ok_law (A := A) (D := D) T⟩
end Mo
open PySem PySem.W PyProof.Rows
set_option maxRecDepth 100000 in
set_option maxHeartbeats 0 in
theorem PySem.Challenge.cw_momentrows_k06_poly_fields_holds : PySem.Challenge.rw_momentrows_k06_poly_fields.Holds := by
  w_on; o_law; k_head; (case hw => w_witness2)
  k_fill
  refine L2.walk_of (l := PySem.Challenge.rw_momentrows_k06_poly_fields) (n := 63) (k := 10) (x := "_law_script") (CX := fun _ => L2.CX0) (sp := fun w => Mo.sp_law _) rfl (by decide) rfl ⟨rfl, by decide, by decide⟩ (fun w h Y => PySem.W.kIn_of Y) ?F (fun _ _ a ns hl _ hS => ⟨a, ns, rfl, hS, hl, fun _ => rfl⟩) (fun _ _ _ _ _ h => h)
  case F =>
    intro w mg fa h KX G hmg
    refine' Mo.all_mk KX G hmg ?g_Ratio ?g_Poly ?g_MeansError ?g_NoRatio ?g_NoPoly ?xL_MeansError ?xL_NoPoly ?a0 ?i0 ?l0 ?c0 ?k0 ?t0 ?a1 ?i1 ?l1 ?c1 ?k1 ?a2 ?i2 ?l2 ?c2 ?k2 ?a3 ?i3 ?l3 ?c3 ?k3 ?a4 ?l4 ?c4 ?k4 ?a5 ?l5 ?c5 ?k5 ?a6 ?l6 ?c6 ?k6 ?a7 ?l7 ?c7 ?k7 ?a8 ?l8 ?c8 ?k8 ?a9 ?l9 ?c9 ?k9 ?a10 ?i10 ?l10 ?c10 ?k10 ?a11 ?i11 ?l11 ?c11 ?k11 ?a12 ?l12 ?c12 ?k12 ?a13 ?l13 ?c13 ?k13 ?a14 ?l14 ?c14 ?k14 ?a15 ?l15 ?c15 ?k15 ?a16 ?l16 ?c16 ?k16 ?a17 ?l17 ?c17 ?k17 ?a18 ?l18 ?c18 ?k18 ?a19 ?l19 ?c19 ?k19 ?a20 ?l20 ?c20 ?k20 ?a21 ?l21 ?c21 ?k21 ?a22 ?l22 ?c22 ?k22 ?pg_Ratio ?hd_Ratio ?po_Ratio ?sa_Ratio ?mk_Ratio ?kc_Ratio ?sf_Ratio ?s1_Ratio ?s2_Ratio ?cls_Ratio ?gsd_Ratio ?tks_Ratio ?mro_Ratio ?ki_Ratio ?ik_Ratio ?n_top_Ratio ?n_bottom_Ratio ?pg_Poly ?hd_Poly ?po_Poly ?sa_Poly ?mk_Poly ?kc_Poly ?sf_Poly ?s1_Poly ?s2_Poly ?cls_Poly ?gsd_Poly ?tks_Poly ?mro_Poly ?ki_Poly ?ik_Poly ?n_coefficients_Poly ?n_degree_Poly ?n_lead_Poly ?sa_NoPoly ?ga_NoPoly ?gg_NoPoly ?cls_NoPoly ?kC_NoPoly ?xn_NoPoly ?gsd_all ?tks_all ?fa_kit_RP ?fa_sub_RP ?fa_sub_PR ?fa_kit_PR ?fa_ik_str ?fa_ik_bool ?fa_ik_NoneType ?fa_ik_list ?fa_ik_tuple ?fa_ik_dict ?fa_kit_rl_Ratio ?fa_kit_rl_Poly ?fa_kit_rt_Ratio ?fa_kit_rt_Poly ?fa_kit_NN ?fa_ne_Poly ?z_isinstance ?z_int ?z_bool ?z_abs ?z_len ?z_max ?z_range ?z_list ?z_tuple ?z_NotImplemented ?j_gcd
    (case g_Ratio => k_is)
    (case g_Poly => k_is)
    (case g_MeansError => k_is)
    (case g_NoRatio => k_is)
    (case g_NoPoly => k_is)
    (case xL_MeansError => k_is)
    (case xL_NoPoly => k_is)
    (case a0 => k_is)
    (case i0 => k_is)
    (case l0 => k_is)
    (case c0 => k_is)
    (case k0 => k_is)
    (case t0 => k_is)
    (case a1 => k_is)
    (case i1 => k_is)
    (case l1 => k_is)
    (case c1 => k_is)
    (case k1 => k_is)
    (case a2 => k_is)
    (case i2 => k_is)
    (case l2 => k_is)
    (case c2 => k_is)
    (case k2 => k_is)
    (case a3 => k_is)
    (case i3 => k_is)
    (case l3 => k_is)
    (case c3 => k_is)
    (case k3 => k_is)
    (case a4 => k_is)
    (case l4 => k_is)
    (case c4 => k_is)
    (case k4 => k_is)
    (case a5 => k_is)
    (case l5 => k_is)
    (case c5 => k_is)
    (case k5 => k_is)
    (case a6 => k_is)
    (case l6 => k_is)
    (case c6 => k_is)
    (case k6 => k_is)
    (case a7 => k_is)
    (case l7 => k_is)
    (case c7 => k_is)
    (case k7 => k_is)
    (case a8 => k_is)
    (case l8 => k_is)
    (case c8 => k_is)
    (case k8 => k_is)
    (case a9 => k_is)
    (case l9 => k_is)
    (case c9 => k_is)
    (case k9 => k_is)
    (case a10 => k_is)
    (case i10 => k_is)
    (case l10 => k_is)
    (case c10 => k_is)
    (case k10 => k_is)
    (case a11 => k_is)
    (case i11 => k_is)
    (case l11 => k_is)
    (case c11 => k_is)
    (case k11 => k_is)
    (case a12 => k_is)
    (case l12 => k_is)
    (case c12 => k_is)
    (case k12 => k_is)
    (case a13 => k_is)
    (case l13 => k_is)
    (case c13 => k_is)
    (case k13 => k_is)
    (case a14 => k_is)
    (case l14 => k_is)
    (case c14 => k_is)
    (case k14 => k_is)
    (case a15 => k_is)
    (case l15 => k_is)
    (case c15 => k_is)
    (case k15 => k_is)
    (case a16 => k_is)
    (case l16 => k_is)
    (case c16 => k_is)
    (case k16 => k_is)
    (case a17 => k_is)
    (case l17 => k_is)
    (case c17 => k_is)
    (case k17 => k_is)
    (case a18 => k_is)
    (case l18 => k_is)
    (case c18 => k_is)
    (case k18 => k_is)
    (case a19 => k_is)
    (case l19 => k_is)
    (case c19 => k_is)
    (case k19 => k_is)
    (case a20 => k_is)
    (case l20 => k_is)
    (case c20 => k_is)
    (case k20 => k_is)
    (case a21 => k_is)
    (case l21 => k_is)
    (case c21 => k_is)
    (case k21 => k_is)
    (case a22 => k_is)
    (case l22 => k_is)
    (case c22 => k_is)
    (case k22 => k_is)
    (case pg_Ratio => k_is)
    (case hd_Ratio => k_is)
    (case po_Ratio => k_is)
    (case sa_Ratio => k_is)
    (case mk_Ratio => k_is)
    (case kc_Ratio => k_is)
    (case sf_Ratio => k_is)
    (case s1_Ratio => k_is)
    (case s2_Ratio => k_is)
    (case cls_Ratio => k_is)
    (case gsd_Ratio => k_is)
    (case tks_Ratio => k_is)
    (case mro_Ratio => k_is)
    (case ki_Ratio => first | kit_is | k_is)
    (case ik_Ratio => first | kit_is | k_is)
    (case n_top_Ratio => k_is)
    (case n_bottom_Ratio => k_is)
    (case pg_Poly => k_is)
    (case hd_Poly => k_is)
    (case po_Poly => k_is)
    (case sa_Poly => k_is)
    (case mk_Poly => k_is)
    (case kc_Poly => k_is)
    (case sf_Poly => k_is)
    (case s1_Poly => k_is)
    (case s2_Poly => k_is)
    (case cls_Poly => k_is)
    (case gsd_Poly => k_is)
    (case tks_Poly => k_is)
    (case mro_Poly => k_is)
    (case ki_Poly => first | kit_is | k_is)
    (case ik_Poly => first | kit_is | k_is)
    (case n_coefficients_Poly => k_is)
    (case n_degree_Poly => k_is)
    (case n_lead_Poly => k_is)
    (case sa_NoPoly => k_is)
    (case ga_NoPoly => k_is)
    (case gg_NoPoly => k_is)
    (case cls_NoPoly => k_is)
    (case kC_NoPoly => k_is)
    (case xn_NoPoly => k_exc)
    (case gsd_all => k_is)
    (case tks_all => k_is)
    (case fa_kit_RP => first | kit_is | k_is)
    (case fa_sub_RP => k_is)
    (case fa_sub_PR => k_is)
    (case fa_kit_PR => first | kit_is | k_is)
    (case fa_ik_str => first | kit_is | k_is)
    (case fa_ik_bool => first | kit_is | k_is)
    (case fa_ik_NoneType => first | kit_is | k_is)
    (case fa_ik_list => first | kit_is | k_is)
    (case fa_ik_tuple => first | kit_is | k_is)
    (case fa_ik_dict => first | kit_is | k_is)
    (case fa_kit_rl_Ratio => first | kit_is | k_is)
    (case fa_kit_rl_Poly => first | kit_is | k_is)
    (case fa_kit_rt_Ratio => first | kit_is | k_is)
    (case fa_kit_rt_Poly => first | kit_is | k_is)
    (case fa_kit_NN => first | kit_is | k_is)
    (case fa_ne_Poly => k_is)
    (case z_isinstance => k_is)
    (case z_int => k_is)
    (case z_bool => k_is)
    (case z_abs => k_is)
    (case z_len => k_is)
    (case z_max => k_is)
    (case z_range => k_is)
    (case z_list => k_is)
    (case z_tuple => k_is)
    (case z_NotImplemented => k_is)
    (case j_gcd => k_is)

