import PyProof.Rows.All
import Wide.All
import OpenK.AllK
import Wide.FinOn
import HandS.Comp
import HandS.Words
import HandS.WordsList
import HandS.Exc
import HandS.Wide
import HandS.IsInst
import HandS.OwnEq
import HandS.Gcd
import HandS.Style
import HandS.Defaults
import HandS.Codes
import HandS.WordsExc
import HandS.ExcInit
import HandS.ExcOwn
import HandS.ExcField
import HandS.ExcIs
import HandS.MakeKw
import HandS.MakeKwOnly
import KE.KExcIs
import HandS.ExcValue
import HandS.EndTab
import HandS.Iter
import KE.KMathGC
import PySem.Challenge.RW_momentrows_k21_shifted_rows
set_option Elab.async false
set_option linter.all false
set_option maxRecDepth 100000
set_option maxHeartbeats 4000000
/-! # Operators of own classes, on either side of an int (my own layer over HandS) -/
namespace MoW
open PySem PySem.W
section
variable {prog : Program} {w : World} {A : Around} {E : Value → Shared → Prop} {s : Shared}
theorem int_eq_no (i : Int) (t : Tok) (l C dx : Addr) :
    Meets (Builtin.«int.__eq__» ⟨[.int i t, .ref l], []⟩) (fun _ R s => s.heap.get? l = some (PySem.W.instObj C dx) ∧ R (.ok (.ret .notImplemented)) s) :=
  .of_wp fun prog w A R s h => by obtain ⟨hp, g, d, tk, os⟩ := s; obtain ⟨hl, h⟩ := h; unfold PySem.W.instObj at hl; wp_walk using wpAny_loadPart' hl, wpAny_load hl; exact ⟨_, rfl, h⟩
theorem int_ne_no (i : Int) (t : Tok) (l C dx : Addr) :
    Meets (Builtin.«int.__ne__» ⟨[.int i t, .ref l], []⟩) (fun _ R s => s.heap.get? l = some (PySem.W.instObj C dx) ∧ R (.ok (.ret .notImplemented)) s) :=
  .of_wp fun prog w A R s h => by obtain ⟨hp, g, d, tk, os⟩ := s; obtain ⟨hl, h⟩ := h; unfold PySem.W.instObj at hl; wp_walk using wpAny_loadPart' hl, wpAny_load hl; exact ⟨_, rfl, h⟩
theorem int_lt_no (i : Int) (t : Tok) (l C dx : Addr) :
    Meets (Builtin.«int.__lt__» ⟨[.int i t, .ref l], []⟩) (fun _ R s => s.heap.get? l = some (PySem.W.instObj C dx) ∧ R (.ok (.ret .notImplemented)) s) :=
  .of_wp fun prog w A R s h => by obtain ⟨hp, g, d, tk, os⟩ := s; obtain ⟨hl, h⟩ := h; unfold PySem.W.instObj at hl; wp_walk using wpAny_loadPart' hl, wpAny_load hl; exact ⟨_, rfl, h⟩
theorem int_le_no (i : Int) (t : Tok) (l C dx : Addr) :
    Meets (Builtin.«int.__le__» ⟨[.int i t, .ref l], []⟩) (fun _ R s => s.heap.get? l = some (PySem.W.instObj C dx) ∧ R (.ok (.ret .notImplemented)) s) :=
  .of_wp fun prog w A R s h => by obtain ⟨hp, g, d, tk, os⟩ := s; obtain ⟨hl, h⟩ := h; unfold PySem.W.instObj at hl; wp_walk using wpAny_loadPart' hl, wpAny_load hl; exact ⟨_, rfl, h⟩
theorem int_gt_no (i : Int) (t : Tok) (l C dx : Addr) :
    Meets (Builtin.«int.__gt__» ⟨[.int i t, .ref l], []⟩) (fun _ R s => s.heap.get? l = some (PySem.W.instObj C dx) ∧ R (.ok (.ret .notImplemented)) s) :=
  .of_wp fun prog w A R s h => by obtain ⟨hp, g, d, tk, os⟩ := s; obtain ⟨hl, h⟩ := h; unfold PySem.W.instObj at hl; wp_walk using wpAny_loadPart' hl, wpAny_load hl; exact ⟨_, rfl, h⟩
theorem int_ge_no (i : Int) (t : Tok) (l C dx : Addr) :
    Meets (Builtin.«int.__ge__» ⟨[.int i t, .ref l], []⟩) (fun _ R s => s.heap.get? l = some (PySem.W.instObj C dx) ∧ R (.ok (.ret .notImplemented)) s) :=
  .of_wp fun prog w A R s h => by obtain ⟨hp, g, d, tk, os⟩ := s; obtain ⟨hl, h⟩ := h; unfold PySem.W.instObj at hl; wp_walk using wpAny_loadPart' hl, wpAny_load hl; exact ⟨_, rfl, h⟩
theorem int_add_no (i : Int) (t : Tok) (l C dx : Addr) :
    Meets (Builtin.«int.__add__» ⟨[.int i t, .ref l], []⟩) (fun _ R s => s.heap.get? l = some (PySem.W.instObj C dx) ∧ R (.ok (.ret .notImplemented)) s) :=
  .of_wp fun prog w A R s h => by obtain ⟨hp, g, d, tk, os⟩ := s; obtain ⟨hl, h⟩ := h; unfold PySem.W.instObj at hl; wp_walk using wpAny_loadPart' hl, wpAny_load hl; exact ⟨_, rfl, h⟩
theorem int_sub_no (i : Int) (t : Tok) (l C dx : Addr) :
    Meets (Builtin.«int.__sub__» ⟨[.int i t, .ref l], []⟩) (fun _ R s => s.heap.get? l = some (PySem.W.instObj C dx) ∧ R (.ok (.ret .notImplemented)) s) :=
  .of_wp fun prog w A R s h => by obtain ⟨hp, g, d, tk, os⟩ := s; obtain ⟨hl, h⟩ := h; unfold PySem.W.instObj at hl; wp_walk using wpAny_loadPart' hl, wpAny_load hl; exact ⟨_, rfl, h⟩
theorem int_mul_no (i : Int) (t : Tok) (l C dx : Addr) :
    Meets (Builtin.«int.__mul__» ⟨[.int i t, .ref l], []⟩) (fun _ R s => s.heap.get? l = some (PySem.W.instObj C dx) ∧ R (.ok (.ret .notImplemented)) s) :=
  .of_wp fun prog w A R s h => by obtain ⟨hp, g, d, tk, os⟩ := s; obtain ⟨hl, h⟩ := h; unfold PySem.W.instObj at hl; wp_walk using wpAny_loadPart' hl, wpAny_load hl; exact ⟨_, rfl, h⟩
theorem int_mod_no (i : Int) (t : Tok) (l C dx : Addr) :
    Meets (Builtin.«int.__mod__» ⟨[.int i t, .ref l], []⟩) (fun _ R s => s.heap.get? l = some (PySem.W.instObj C dx) ∧ R (.ok (.ret .notImplemented)) s) :=
  .of_wp fun prog w A R s h => by obtain ⟨hp, g, d, tk, os⟩ := s; obtain ⟨hl, h⟩ := h; unfold PySem.W.instObj at hl; wp_walk using wpAny_loadPart' hl, wpAny_load hl; exact ⟨_, rfl, h⟩
end
end MoW

namespace MoW
open PySem PySem.W PyProof.Rows
section
variable {prog : Program} {w : World} {A : Around} {E : Value → Shared → Prop} {s : Shared} {K : Frag} {x C L f : Addr} {h₀ : Heap} {m : Str → Option Value} {dx : Addr} {od : Option Obj} {i : Int} {t : Tok}

theorem looks_int {M : Model} {h : Heap} : Looks M h (typeOf (.int i t)) (.type "int") := Looks.of_pure rfl

/-- an int compared with an instance: int says it can't, the instance's own mirrored method answers -/
theorem cmp_int_own {op : CmpOp} {id : String} {Q : Value → Shared → Prop} (hu : A.units < cLine) (F : Fr h₀ L s.heap m) (X₀ : K.In h₀) (I : InstAt s.heap x (instObj C dx) C od)
    (hn : subIn K (.ref C) (.type "int") = some false) (h1 : Slot "int" (cmpInfo op).2.1 id)
    (hno : ∀ Q' : Value → Shared → Prop, Q' .notImplemented s → wpAny (model prog w) A (call (.builtin id) [.int i t, .ref x]) Q' E s)
    (hs : findIn K (.ref C) (cmpInfo op).2.2 = some (some (.ref f))) (hf : isFn K (.ref f) = true)
    (h : wpAny (model prog w) A (call (.ref f) [.ref x, .int i t]) (W.CmpBack Q) E s) : wpAny (model prog w) A (richCompare op (.int i t) (.ref x)) Q E s := by
  have X := X₀.keeps F.keep
  have one : wpAny (model prog w) A (tryCompare (.ref x) (cmpInfo op).2.2 (.int i t)) (fun r s' => ∃ v, r = some v ∧ Q v s') E s := by
    unfold tryCompare
    refine wpAny_bind (ifBound_K X I hs hf (wpAny_mono h (fun v s' hv => ?_) fun _ _ e => e))
    cases v <;> first | exact hv.elim | exact wpAny_pure ⟨_, rfl, hv⟩
  unfold richCompare
  simp only [(typeIs_int s i t).oneThing_none]
  refine wpAny_holding (wpAny_bind (wpAny_cRoomFor hu ?_))
  refine wpAny_bind (wpAny_typeOf (typeIs_int s i t) (wpAny_bind (I.type.here ?_)))
  have hne : (Value.type "int" != Value.ref C) = true := rfl
  simp only [hne, if_true]
  refine wpAny_bind ((looks_subIn X hn).here ?_)
  simp only [Bool.false_eq_true, if_false, Bool.not_false, if_true]
  refine wpAny_bind (m := tryCompare (.int i t) _ (.ref x)) (wpAny_tryCompare_declines (typeIs_int s i t) h1 (hno _ ⟨rfl, ?_⟩))
  refine wpAny_bind (m := tryCompare (.ref x) _ (.int i t)) (wpAny_mono one (fun r s' z => ?_) fun _ _ e => e)
  obtain ⟨v, rfl, hq⟩ := z
  exact wpAny_pure hq

theorem mro_first {cd : ClassData} (hc : selfFirst K C = true) : ∃ cd rest, clsIn K C = some cd ∧ cd.mro = .ref C :: rest := by
  obtain ⟨cd, hcd, hm⟩ := any_some hc
  refine ⟨cd, ?_⟩
  cases q : cd.mro with
  | nil => rw [q] at hm; cases hm
  | cons a r => rw [q] at hm; exact ⟨r, hcd, by rw [List.head?_cons] at hm; cases (beq_iff_eq.mp hm); rfl⟩

/-- an int beside an instance: int says it can't, the instance's own reflected method answers -/
theorem bin_int_own {op : Operator} {id : String} {g : Addr} {Q : Value → Shared → Prop} (F : Fr h₀ L s.heap m) (X₀ : K.In h₀) (I : InstAt s.heap x (instObj C dx) C od)
    (hc : selfFirst K C = true) (hn : subIn K (.ref C) (.type "int") = some false) (h1 : Slot "int" (PySem.dunder op.info.2) id) (hfi : fillsNumberSlot (.type "int") op.info.2 = pure true)
    (hno : ∀ Q' : Value → Shared → Prop, Q' .notImplemented s → wpAny (model prog w) A (call (.builtin id) [.int i t, .ref x]) Q' E s)
    (hd : findIn K (.ref C) (PySem.dunder op.info.2) = some (some (.ref g)))
    (hs : findIn K (.ref C) (dunderR op.info.2) = some (some (.ref f))) (hf : isFn K (.ref f) = true)
    (h : wpAny (model prog w) A (call (.ref f) [.ref x, .int i t]) (W.CmpBack Q) E s) : wpAny (model prog w) A (binaryOp op (.int i t) (.ref x)) Q E s := by
  have X := X₀.keeps F.keep
  obtain ⟨cd, rest, hcd, hm⟩ := mro_first (K := K) (C := C) (cd := default) hc
  unfold binaryOp
  refine wpAny_holding (wpAny_bind ?_)
  unfold binaryOp1
  refine wpAny_bind (wpAny_typeOf (typeIs_int s i t) (wpAny_bind (I.type.here (wpAny_bind (wpAny_of_eq hfi ?_)))))
  have hne : (Value.type "int" == Value.ref C) = false := rfl
  simp only [hne, Bool.false_eq_true, if_false]
  refine wpAny_bind ((fills_K X hcd hm hd).here ?_)
  simp only [Bool.and_self, if_true]
  refine wpAny_bind ((looks_subIn X hn).here ?_)
  have hpy : numberSlotInPython (.type "int") op.info.2 = pure false := rfl
  simp only [Bool.false_eq_true, if_false, pure_bind, Bool.not_false, Bool.and_self, if_true, hpy]
  refine wpAny_bind (m := tryMethod (.int i t) _ (.ref x)) (wpAny_tryMethod_declines (typeIs_int s i t) h1 (hno _ ⟨rfl, ?_⟩))
  refine wpAny_bind (m := tryMethod (.ref x) _ (.int i t)) ?_
  unfold tryMethod
  refine wpAny_bind (special_fn X I hs (beq_iff_eq.mp hf) (wpAny_mono h (fun v s' hv => ?_) fun _ _ e => e))
  cases v <;> first | exact hv.elim | exact wpAny_pure (wpAny_bind (wpAny_rule (wpAny_pure (wpAny_pure hv))))

/-- an instance beside an int: its own method answers -/
theorem bin_own_int {op : Operator} {id : String} {g : Addr} {Q : Value → Shared → Prop} (F : Fr h₀ L s.heap m) (X₀ : K.In h₀) (I : InstAt s.heap x (instObj C dx) C od)
    (hc : selfFirst K C = true) (hn : subIn K (.type "int") (.ref C) = some false) (h1 : Slot "int" (dunderR op.info.2) id) (hfi : fillsNumberSlot (.type "int") op.info.2 = pure true)
    (hs : findIn K (.ref C) (PySem.dunder op.info.2) = some (some (.ref f))) (hf : isFn K (.ref f) = true)
    (hd : findIn K (.ref C) (dunderR op.info.2) = some (some (.ref g)))
    (h : wpAny (model prog w) A (call (.ref f) [.ref x, .int i t]) (W.CmpBack Q) E s) : wpAny (model prog w) A (binaryOp op (.ref x) (.int i t)) Q E s := by
  have X := X₀.keeps F.keep
  obtain ⟨cd, rest, hcd, hm⟩ := mro_first (K := K) (C := C) (cd := default) hc
  unfold binaryOp
  refine wpAny_holding (wpAny_bind ?_)
  unfold binaryOp1
  refine wpAny_bind (I.type.here (wpAny_bind (wpAny_typeOf (typeIs_int s i t) (wpAny_bind ((fills_K X hcd hm hs).here ?_)))))
  have hne : (Value.ref C == Value.type "int") = false := rfl
  simp only [hne, Bool.false_eq_true, if_false]
  refine wpAny_bind (wpAny_of_eq hfi ?_)
  simp only [Bool.and_self, if_true]
  refine wpAny_bind ((looks_subIn X hn).here ?_)
  have hpy : Looks (model prog w) s.heap (numberSlotInPython (.ref C) op.info.2) true := by
    unfold numberSlotInPython
    refine (looks_findIn X hs).andThen ?_
    refine Looks.andThen (a := true) .now ?_
    refine (looks_findIn X hd).andThen ?_
    refine Looks.andThen (a := true) .now ?_
    exact .now
  have hpi : numberSlotInPython (.type "int") op.info.2 = pure false := rfl
  simp only [Bool.false_eq_true, if_false, pure_bind, Bool.not_false, Bool.and_self, if_true]
  refine wpAny_bind (hpy.here ?_)
  simp only [if_true]
  refine wpAny_bind (wpAny_of_eq hpi ?_)
  simp only [Bool.not_false, if_true]
  refine wpAny_bind (wpAny_of_eq h1.lookup ?_)
  refine wpAny_bind (m := tryMethod (.ref x) _ (.int i t)) ?_
  unfold tryMethod
  refine wpAny_bind (special_fn X I hs (beq_iff_eq.mp hf) (wpAny_mono h (fun v s' hv => ?_) fun _ _ e => e))
  cases v <;> first | exact hv.elim | exact wpAny_pure (wpAny_pure (wpAny_pure hv))
end
end MoW

namespace MoL
open PySem PySem.Spec PyProof.Rows L2 MoW

/-- an instance of the class at C -/
def Ins (H : Hp) (v : V) (C : Addr) : Prop := ∃ a dx fs, v = .ref a ∧ H a = some (.ins C dx fs)
/-- what the written part says of a class with operators -/
structure OwnC (K : PySem.W.Frag) (C : Addr) : Prop where
  first : PySem.W.selfFirst K C = true
  ci : PySem.W.subIn K (.ref C) (.type "int") = some false
  ic : PySem.W.subIn K (.type "int") (.ref C) = some false

section
variable {X : Cx} {pins : List (Addr × Obj)} {σ : L2.St} {H : Hp} {s : Shared}
theorem ep_back {Q : VK} {u : Value} {s' : Shared} (h : EP X pins σ Q u s') : PySem.W.CmpBack (EP X pins σ Q) u s' := by
  cases u with
  | notImplemented =>
    obtain ⟨v, H', I, r, q⟩ := h
    exfalso
    cases v <;> first | exact nomatch r | (obtain ⟨_, e⟩ := r; exact nomatch e)
  | _ => exact h
theorem ins_at {a C dx : Addr} {fs : List (Str × V)} (I : Inv X pins σ H s) (ha : H a = some (.ins C dx fs)) : ∃ od, PySem.W.InstAt s.heap a (PySem.W.instObj C dx) C od := by
  obtain ⟨mA, J, _⟩ := ins_get I.hok ha
  obtain ⟨od, J, _⟩ := J.look
  exact ⟨_, J⟩
theorem ins_obj {a C dx : Addr} {fs : List (Str × V)} (I : Inv X pins σ H s) (ha : H a = some (.ins C dx fs)) : s.heap.get? a = some (PySem.W.instObj C dx) := by
  obtain ⟨mA, J, _⟩ := ins_get I.hok ha
  exact J.obj
end

section
variable {X : Cx} {CX : CXT} {k : Nat} {C f g : Addr} {fd : FuncData} {ps : List Str} {sp : Sp} {E : XK}
/-- x op y, x an instance, y another one or an int: x's own method answers -/
def rOwn (C : Addr) (sp : Sp) (E : XK) : R2 := fun x y H Q => Ins H x C ∧ ((∃ i, y = .int i) ∨ Ins H y C) ∧ sp [x, y] H Q E
/-- i op y, y an instance: y's own mirrored method answers -/
def rOwnR (C : Addr) (sp : Sp) (E : XK) : R2 := fun x y H Q => (∃ i, x = .int i) ∧ Ins H y C ∧ sp [y, x] H Q E

theorem op_cmp_own {op : CmpOp} (hop : ∀ v u, compareOp op v u = richCompare op v u) (c : OwnC X.K C) (m : Meth X.K C (cmpInfo op).2.1 f) (F : FnOk X.prog X.w X.K X.mg X.base CX k f fd ps sp)
    (hr : Room k X.A) (hb : Binds X.K fd ps []) (hx : Passes CX X E) : OpR X (compareOp op) (rOwn C sp E) := by
  intro pins s σ H x y v u Q I rx ry h
  obtain ⟨⟨a, dx, fs, rfl, ha⟩, hy, hs⟩ := h
  cases (show v = Value.ref a from rx)
  obtain ⟨od, J⟩ := ins_at I ha
  obtain ⟨mm, hF⟩ := I.fr
  rw [hop]
  have hrun : wpAny (model X.prog X.w) X.A (call (.ref f) [.ref a, u]) (PySem.W.CmpBack (EP X pins σ Q)) X.xe s :=
    thn (run_fn (us := [.ref a, u]) (vs := [.ref a, y]) F hr hb .nil hx I (.cons rfl (.cons ry .nil)) hs) fun v s' q => ep_back q
  rcases hy with ⟨i, rfl⟩ | ⟨b, dy, gs, rfl, hb'⟩
  · obtain ⟨t, rfl⟩ := (show ∃ t, u = Value.int i t from ry)
    exact PySem.W.cmp_K (op := op) (tb := .type "int") hr.units0 hF I.ok.mod.kin J looks_int (by unfold PySem.W.notFirst; rw [c.ic]; rfl) m.at_ m.fn hrun
  · cases (show u = Value.ref b from ry)
    obtain ⟨od', J'⟩ := ins_at I hb'
    exact PySem.W.cmp_K (op := op) (tb := .ref C) hr.units0 hF I.ok.mod.kin J J'.type (by simp [PySem.W.notFirst]) m.at_ m.fn hrun

theorem op_cmp_int {op : CmpOp} {id : String} (hop : ∀ v u, compareOp op v u = richCompare op v u) (h1 : Slot "int" (cmpInfo op).2.1 id)
    (hno : ∀ (s : Shared) (i : Int) (t : Tok) (b dy : Addr) (Q' E' : Value → Shared → Prop), s.heap.get? b = some (PySem.W.instObj C dy) → Q' .notImplemented s → wpAny (model X.prog X.w) X.A (call (.builtin id) [.int i t, .ref b]) Q' E' s)
    (c : OwnC X.K C) (m : Meth X.K C (cmpInfo op).2.2 f) (F : FnOk X.prog X.w X.K X.mg X.base CX k f fd ps sp)
    (hr : Room k X.A) (hb : Binds X.K fd ps []) (hx : Passes CX X E) : OpR X (compareOp op) (rOwnR C sp E) := by
  intro pins s σ H x y v u Q I rx ry h
  obtain ⟨⟨i, rfl⟩, ⟨b, dy, gs, rfl, hb'⟩, hs⟩ := h
  obtain ⟨t, rfl⟩ := (show ∃ t, v = Value.int i t from rx)
  cases (show u = Value.ref b from ry)
  obtain ⟨od, J⟩ := ins_at I hb'
  obtain ⟨mm, hF⟩ := I.fr
  rw [hop]
  exact cmp_int_own (op := op) hr.units0 hF I.ok.mod.kin J c.ci h1 (fun Q' q => hno s i t b dy Q' _ (ins_obj I hb') q) m.at_ m.fn
    (thn (run_fn (us := [.ref b, .int i t]) (vs := [.ref b, .int i]) F hr hb .nil hx I (.cons rfl (.cons ⟨t, rfl⟩ .nil)) hs) fun v s' q => ep_back q)

theorem op_bin_own {op : Operator} {id : String} (h1 : Slot "int" (dunderR op.info.2) id) (hfi : fillsNumberSlot (.type "int") op.info.2 = pure true) (c : OwnC X.K C)
    (m : Meth X.K C (PySem.dunder op.info.2) f) (mr : Meth X.K C (dunderR op.info.2) g) (F : FnOk X.prog X.w X.K X.mg X.base CX k f fd ps sp)
    (hr : Room k X.A) (hb : Binds X.K fd ps []) (hx : Passes CX X E) : OpR X (binaryOp op) (rOwn C sp E) := by
  intro pins s σ H x y v u Q I rx ry h
  obtain ⟨⟨a, dx, fs, rfl, ha⟩, hy, hs⟩ := h
  cases (show v = Value.ref a from rx)
  obtain ⟨od, J⟩ := ins_at I ha
  obtain ⟨mm, hF⟩ := I.fr
  have hrun : wpAny (model X.prog X.w) X.A (call (.ref f) [.ref a, u]) (PySem.W.CmpBack (EP X pins σ Q)) X.xe s :=
    thn (run_fn (us := [.ref a, u]) (vs := [.ref a, y]) F hr hb .nil hx I (.cons rfl (.cons ry .nil)) hs) fun v s' q => ep_back q
  rcases hy with ⟨i, rfl⟩ | ⟨b, dy, gs, rfl, hb'⟩
  · obtain ⟨t, rfl⟩ := (show ∃ t, u = Value.int i t from ry)
    exact bin_own_int (op := op) hF I.ok.mod.kin J c.first c.ic h1 hfi m.at_ m.fn mr.at_ hrun
  · cases (show u = Value.ref b from ry)
    obtain ⟨od', J'⟩ := ins_at I hb'
    exact PySem.W.binop_K (op := op) hF I.ok.mod.kin J J'.type c.first m.at_ m.fn hrun

theorem op_bin_int {op : Operator} {id : String} (h1 : Slot "int" (PySem.dunder op.info.2) id) (hfi : fillsNumberSlot (.type "int") op.info.2 = pure true)
    (hno : ∀ (s : Shared) (i : Int) (t : Tok) (b dy : Addr) (Q' E' : Value → Shared → Prop), s.heap.get? b = some (PySem.W.instObj C dy) → Q' .notImplemented s → wpAny (model X.prog X.w) X.A (call (.builtin id) [.int i t, .ref b]) Q' E' s)
    (c : OwnC X.K C) (m : Meth X.K C (dunderR op.info.2) f) (ml : Meth X.K C (PySem.dunder op.info.2) g) (F : FnOk X.prog X.w X.K X.mg X.base CX k f fd ps sp)
    (hr : Room k X.A) (hb : Binds X.K fd ps []) (hx : Passes CX X E) : OpR X (binaryOp op) (rOwnR C sp E) := by
  intro pins s σ H x y v u Q I rx ry h
  obtain ⟨⟨i, rfl⟩, ⟨b, dy, gs, rfl, hb'⟩, hs⟩ := h
  obtain ⟨t, rfl⟩ := (show ∃ t, v = Value.int i t from rx)
  cases (show u = Value.ref b from ry)
  obtain ⟨od, J⟩ := ins_at I hb'
  obtain ⟨mm, hF⟩ := I.fr
  exact bin_int_own (op := op) hF I.ok.mod.kin J c.first c.ci h1 hfi (fun Q' q => hno s i t b dy Q' _ (ins_obj I hb') q) ml.at_ m.at_ m.fn
    (thn (run_fn (us := [.ref b, .int i t]) (vs := [.ref b, .int i]) F hr hb .nil hx I (.cons rfl (.cons ⟨t, rfl⟩ .nil)) hs) fun v s' q => ep_back q)

theorem op_eq_own (c : OwnC X.K C) (m : Meth X.K C "__eq__" f) (F : FnOk X.prog X.w X.K X.mg X.base CX k f fd ps sp)
    (hr : Room k X.A) (hb : Binds X.K fd ps []) (hx : Passes CX X E) : OpR X (compareOp .Eq) (rOwn C sp E) := op_cmp_own (op := .Eq) (fun _ _ => rfl) c m F hr hb hx
theorem op_eq_int (c : OwnC X.K C) (m : Meth X.K C "__eq__" f) (F : FnOk X.prog X.w X.K X.mg X.base CX k f fd ps sp)
    (hr : Room k X.A) (hb : Binds X.K fd ps []) (hx : Passes CX X E) : OpR X (compareOp .Eq) (rOwnR C sp E) := op_cmp_int (op := .Eq) (fun _ _ => rfl) PySem.F.slot_int_eq
  (fun s i t b dy Q' E' hb' q => call_meets PySem.F.slot_int_eq (typeIs_int s i t) PySem.F.entry_int_eq (PySem.F.args_int_eq_2 _ _) (int_eq_no i t b C dy) ⟨hb', q⟩) c m F hr hb hx

theorem op_ne_own (c : OwnC X.K C) (m : Meth X.K C "__ne__" f) (F : FnOk X.prog X.w X.K X.mg X.base CX k f fd ps sp)
    (hr : Room k X.A) (hb : Binds X.K fd ps []) (hx : Passes CX X E) : OpR X (compareOp .NotEq) (rOwn C sp E) := op_cmp_own (op := .NotEq) (fun _ _ => rfl) c m F hr hb hx
theorem op_ne_int (c : OwnC X.K C) (m : Meth X.K C "__ne__" f) (F : FnOk X.prog X.w X.K X.mg X.base CX k f fd ps sp)
    (hr : Room k X.A) (hb : Binds X.K fd ps []) (hx : Passes CX X E) : OpR X (compareOp .NotEq) (rOwnR C sp E) := op_cmp_int (op := .NotEq) (fun _ _ => rfl) PySem.F.slot_int_ne
  (fun s i t b dy Q' E' hb' q => call_meets PySem.F.slot_int_ne (typeIs_int s i t) PySem.F.entry_int_ne (PySem.F.args_int_ne_2 _ _) (int_ne_no i t b C dy) ⟨hb', q⟩) c m F hr hb hx

theorem op_lt_own (c : OwnC X.K C) (m : Meth X.K C "__lt__" f) (F : FnOk X.prog X.w X.K X.mg X.base CX k f fd ps sp)
    (hr : Room k X.A) (hb : Binds X.K fd ps []) (hx : Passes CX X E) : OpR X (compareOp .Lt) (rOwn C sp E) := op_cmp_own (op := .Lt) (fun _ _ => rfl) c m F hr hb hx
theorem op_lt_int (c : OwnC X.K C) (m : Meth X.K C "__gt__" f) (F : FnOk X.prog X.w X.K X.mg X.base CX k f fd ps sp)
    (hr : Room k X.A) (hb : Binds X.K fd ps []) (hx : Passes CX X E) : OpR X (compareOp .Lt) (rOwnR C sp E) := op_cmp_int (op := .Lt) (fun _ _ => rfl) PySem.F.slot_int_lt
  (fun s i t b dy Q' E' hb' q => call_meets PySem.F.slot_int_lt (typeIs_int s i t) PySem.F.entry_int_lt (PySem.F.args_int_lt_2 _ _) (int_lt_no i t b C dy) ⟨hb', q⟩) c m F hr hb hx

theorem op_le_own (c : OwnC X.K C) (m : Meth X.K C "__le__" f) (F : FnOk X.prog X.w X.K X.mg X.base CX k f fd ps sp)
    (hr : Room k X.A) (hb : Binds X.K fd ps []) (hx : Passes CX X E) : OpR X (compareOp .LtE) (rOwn C sp E) := op_cmp_own (op := .LtE) (fun _ _ => rfl) c m F hr hb hx
theorem op_le_int (c : OwnC X.K C) (m : Meth X.K C "__ge__" f) (F : FnOk X.prog X.w X.K X.mg X.base CX k f fd ps sp)
    (hr : Room k X.A) (hb : Binds X.K fd ps []) (hx : Passes CX X E) : OpR X (compareOp .LtE) (rOwnR C sp E) := op_cmp_int (op := .LtE) (fun _ _ => rfl) PySem.F.slot_int_le
  (fun s i t b dy Q' E' hb' q => call_meets PySem.F.slot_int_le (typeIs_int s i t) PySem.F.entry_int_le (PySem.F.args_int_le_2 _ _) (int_le_no i t b C dy) ⟨hb', q⟩) c m F hr hb hx

theorem op_gt_own (c : OwnC X.K C) (m : Meth X.K C "__gt__" f) (F : FnOk X.prog X.w X.K X.mg X.base CX k f fd ps sp)
    (hr : Room k X.A) (hb : Binds X.K fd ps []) (hx : Passes CX X E) : OpR X (compareOp .Gt) (rOwn C sp E) := op_cmp_own (op := .Gt) (fun _ _ => rfl) c m F hr hb hx
theorem op_gt_int (c : OwnC X.K C) (m : Meth X.K C "__lt__" f) (F : FnOk X.prog X.w X.K X.mg X.base CX k f fd ps sp)
    (hr : Room k X.A) (hb : Binds X.K fd ps []) (hx : Passes CX X E) : OpR X (compareOp .Gt) (rOwnR C sp E) := op_cmp_int (op := .Gt) (fun _ _ => rfl) PySem.F.slot_int_gt
  (fun s i t b dy Q' E' hb' q => call_meets PySem.F.slot_int_gt (typeIs_int s i t) PySem.F.entry_int_gt (PySem.F.args_int_gt_2 _ _) (int_gt_no i t b C dy) ⟨hb', q⟩) c m F hr hb hx

theorem op_ge_own (c : OwnC X.K C) (m : Meth X.K C "__ge__" f) (F : FnOk X.prog X.w X.K X.mg X.base CX k f fd ps sp)
    (hr : Room k X.A) (hb : Binds X.K fd ps []) (hx : Passes CX X E) : OpR X (compareOp .GtE) (rOwn C sp E) := op_cmp_own (op := .GtE) (fun _ _ => rfl) c m F hr hb hx
theorem op_ge_int (c : OwnC X.K C) (m : Meth X.K C "__le__" f) (F : FnOk X.prog X.w X.K X.mg X.base CX k f fd ps sp)
    (hr : Room k X.A) (hb : Binds X.K fd ps []) (hx : Passes CX X E) : OpR X (compareOp .GtE) (rOwnR C sp E) := op_cmp_int (op := .GtE) (fun _ _ => rfl) PySem.F.slot_int_ge
  (fun s i t b dy Q' E' hb' q => call_meets PySem.F.slot_int_ge (typeIs_int s i t) PySem.F.entry_int_ge (PySem.F.args_int_ge_2 _ _) (int_ge_no i t b C dy) ⟨hb', q⟩) c m F hr hb hx

theorem op_add_own (c : OwnC X.K C) (m : Meth X.K C "__add__" f) (mr : Meth X.K C "__radd__" g) (F : FnOk X.prog X.w X.K X.mg X.base CX k f fd ps sp)
    (hr : Room k X.A) (hb : Binds X.K fd ps []) (hx : Passes CX X E) : OpR X (binaryOp .Add) (rOwn C sp E) := op_bin_own (op := .Add) PySem.F.slot_int_radd PySem.F.fills_int_add c m mr F hr hb hx
theorem op_add_int (c : OwnC X.K C) (m : Meth X.K C "__radd__" f) (ml : Meth X.K C "__add__" g) (F : FnOk X.prog X.w X.K X.mg X.base CX k f fd ps sp)
    (hr : Room k X.A) (hb : Binds X.K fd ps []) (hx : Passes CX X E) : OpR X (binaryOp .Add) (rOwnR C sp E) := op_bin_int (op := .Add) PySem.F.slot_int_add PySem.F.fills_int_add
  (fun s i t b dy Q' E' hb' q => call_meets PySem.F.slot_int_add (typeIs_int s i t) PySem.F.entry_int_add (PySem.F.args_int_add_2 _ _) (int_add_no i t b C dy) ⟨hb', q⟩) c m ml F hr hb hx

theorem op_sub_own (c : OwnC X.K C) (m : Meth X.K C "__sub__" f) (mr : Meth X.K C "__rsub__" g) (F : FnOk X.prog X.w X.K X.mg X.base CX k f fd ps sp)
    (hr : Room k X.A) (hb : Binds X.K fd ps []) (hx : Passes CX X E) : OpR X (binaryOp .Sub) (rOwn C sp E) := op_bin_own (op := .Sub) PySem.F.slot_int_rsub PySem.F.fills_int_sub c m mr F hr hb hx
theorem op_sub_int (c : OwnC X.K C) (m : Meth X.K C "__rsub__" f) (ml : Meth X.K C "__sub__" g) (F : FnOk X.prog X.w X.K X.mg X.base CX k f fd ps sp)
    (hr : Room k X.A) (hb : Binds X.K fd ps []) (hx : Passes CX X E) : OpR X (binaryOp .Sub) (rOwnR C sp E) := op_bin_int (op := .Sub) PySem.F.slot_int_sub PySem.F.fills_int_sub
  (fun s i t b dy Q' E' hb' q => call_meets PySem.F.slot_int_sub (typeIs_int s i t) PySem.F.entry_int_sub (PySem.F.args_int_sub_2 _ _) (int_sub_no i t b C dy) ⟨hb', q⟩) c m ml F hr hb hx

theorem op_mul_own (c : OwnC X.K C) (m : Meth X.K C "__mul__" f) (mr : Meth X.K C "__rmul__" g) (F : FnOk X.prog X.w X.K X.mg X.base CX k f fd ps sp)
    (hr : Room k X.A) (hb : Binds X.K fd ps []) (hx : Passes CX X E) : OpR X (binaryOp .Mult) (rOwn C sp E) := op_bin_own (op := .Mult) PySem.F.slot_int_rmul PySem.F.fills_int_mul c m mr F hr hb hx
theorem op_mul_int (c : OwnC X.K C) (m : Meth X.K C "__rmul__" f) (ml : Meth X.K C "__mul__" g) (F : FnOk X.prog X.w X.K X.mg X.base CX k f fd ps sp)
    (hr : Room k X.A) (hb : Binds X.K fd ps []) (hx : Passes CX X E) : OpR X (binaryOp .Mult) (rOwnR C sp E) := op_bin_int (op := .Mult) PySem.F.slot_int_mul PySem.F.fills_int_mul
  (fun s i t b dy Q' E' hb' q => call_meets PySem.F.slot_int_mul (typeIs_int s i t) PySem.F.entry_int_mul (PySem.F.args_int_mul_2 _ _) (int_mul_no i t b C dy) ⟨hb', q⟩) c m ml F hr hb hx

theorem op_mod_own (c : OwnC X.K C) (m : Meth X.K C "__mod__" f) (mr : Meth X.K C "__rmod__" g) (F : FnOk X.prog X.w X.K X.mg X.base CX k f fd ps sp)
    (hr : Room k X.A) (hb : Binds X.K fd ps []) (hx : Passes CX X E) : OpR X (binaryOp .Mod) (rOwn C sp E) := op_bin_own (op := .Mod) PySem.F.slot_int_rmod PySem.F.fills_int_mod c m mr F hr hb hx
theorem op_mod_int (c : OwnC X.K C) (m : Meth X.K C "__rmod__" f) (ml : Meth X.K C "__mod__" g) (F : FnOk X.prog X.w X.K X.mg X.base CX k f fd ps sp)
    (hr : Room k X.A) (hb : Binds X.K fd ps []) (hx : Passes CX X E) : OpR X (binaryOp .Mod) (rOwnR C sp E) := op_bin_int (op := .Mod) PySem.F.slot_int_mod PySem.F.fills_int_mod
  (fun s i t b dy Q' E' hb' q => call_meets PySem.F.slot_int_mod (typeIs_int s i t) PySem.F.entry_int_mod (PySem.F.args_int_mod_2 _ _) (int_mod_no i t b C dy) ⟨hb', q⟩) c m ml F hr hb hx
end
end MoL

/-! # Helpers: items of lists read by place, // by any number that is not 0, sizes, lowest terms -/
namespace MoL
open PySem PySem.Spec PyProof.Rows L2 MoW

section
variable {X : Cx}
def rGetL (K : PySem.W.Frag) : V → V → Hp → VK → Prop := fun x y H Q => ∃ p xs j v, x = .ref p ∧ y = .int ((j : Nat) : Int) ∧ SqL K H p xs ∧ xs[j]? = some v ∧ Q v H
theorem get_list : PGet X (rGetL X.K) := by
  intro pins s σ H x y v u Q I rx ry h
  obtain ⟨p, xs, j, z, rfl, rfl, hq, he, q⟩ := h
  cases rx
  obtain ⟨t, rfl⟩ := ry
  obtain ⟨its, r, pl, hz⟩ := I.list hq
  obtain ⟨w, ew, rw'⟩ := r.get he
  have hj : j < xs.length := (List.getElem?_eq_some_iff.mp he).1
  have hn := line63
  exact wpAny_getItem_list pl.isList (by omega) (by omega) (by simpa using ew) ⟨z, H, I, rw', q⟩
/-- // by any number but 0, below 2 ^ 9000 in size -/
def CDivA (_ j : Int) : Prop := j ≠ 0 ∧ j.natAbs.log2 < 9000
theorem op_fdivA : OpR X (binaryOp .FloorDiv) (rI CDivA fun i j => .int (i.fdiv j)) := opI fun i j _ _ _ _ _ hc q => floordiv_int hc.1 q (.inl (PyProof.noPylong_of_log2 hc.2))
end

/-! ### sizes -/
/-- below 2 ^ 4000 in size -/
def Sm (i : Int) : Prop := i.natAbs < 2 ^ 4000
theorem Sm.mul {i j : Int} (a : Sm i) (b : Sm j) : CMulW i j := wide_mul a b (by decide) (by decide) (by decide)
theorem Sm.mulr {i j : Int} (a : Sm i) (b : j.natAbs < 2 ^ 9000) : CMulW i j := wide_mul a b (by decide) (by decide) (by decide)
theorem Sm.div {i j : Int} (h : j ≠ 0) (a : Sm j) : CDivA i j := ⟨h, Nat.lt_of_lt_of_le (PySem.Flt.log2_lt_of (by decide) a) (by decide)⟩
theorem Sm.le {i j : Int} (a : Sm j) (h : i.natAbs ≤ j.natAbs) : Sm i := Nat.lt_of_le_of_lt h a
theorem pow_big {k : Nat} (h : k ≤ 4000) : 2 ^ k ≤ 2 ^ 4000 := Nat.pow_le_pow_right (by decide) h
theorem Sm.of {i : Int} {k : Nat} (h : i.natAbs < 2 ^ k) (hk : k ≤ 4000) : Sm i := Nat.lt_of_lt_of_le h (pow_big hk)

theorem Sm.ab {i : Int} (h1 : -(2 ^ 200) < i) (h2 : i < 2 ^ 200) : Sm i := Sm.of (k := 200) (by omega) (by decide)
theorem iteFe {c : Bool} {A B : Prop} (hc : c = false) (h : B) : if c = true then A else B := by rw [hc]; exact iteF h
theorem iteTe {c : Bool} {A B : Prop} (hc : c = true) (h : A) : if c = true then A else B := by rw [hc]; exact iteT h

/-! ### lowest terms -/
/-- t' / b' is t / b in lowest terms, the bottom above 0 -/
structure Norm (t b t' b' : Int) : Prop where
  ex : ∃ g : Int, t = g * t' ∧ b = g * b' ∧ g ≠ 0
  pos : 0 < b'
  cop : Nat.gcd t'.natAbs b'.natAbs = 1
theorem Norm.cross {t b t' b' : Int} (n : Norm t b t' b') : t' * b = t * b' := by
  obtain ⟨g, h1, h2, _⟩ := n.ex
  rw [h1, h2, Int.mul_comm g t', Int.mul_assoc]
theorem natAbs_le_mul {g x : Int} (h : g ≠ 0) : x.natAbs ≤ (g * x).natAbs := by
  rw [Int.natAbs_mul]
  exact Nat.le_mul_of_pos_left _ (Int.natAbs_pos.mpr h)
theorem Norm.le1 {t b t' b' : Int} (n : Norm t b t' b') : t'.natAbs ≤ t.natAbs := by
  obtain ⟨g, h1, h2, h⟩ := n.ex
  rw [h1]; exact natAbs_le_mul h
theorem Norm.le2 {t b t' b' : Int} (n : Norm t b t' b') : b'.natAbs ≤ b.natAbs := by
  obtain ⟨g, h1, h2, h⟩ := n.ex
  rw [h2]; exact natAbs_le_mul h
/-- what the making computes: g the signed common divisor -/
theorem fdiv_exact {g x y : Int} (h : g ≠ 0) (e : x = g * y) : x.fdiv g = y := by
  rw [e]
  exact Int.mul_fdiv_cancel_left y h
theorem Norm.make {t b : Int} (hb : b ≠ 0) : ∀ g : Int, g = (if b < 0 then -((Nat.gcd t.natAbs b.natAbs : Nat) : Int) else ((Nat.gcd t.natAbs b.natAbs : Nat) : Int)) →
    g ≠ 0 ∧ g.natAbs ≤ b.natAbs ∧ Norm t b (t.fdiv g) (b.fdiv g) := by
  intro g hg
  have hpos : 0 < Nat.gcd t.natAbs b.natAbs := Nat.gcd_pos_of_pos_right _ (Int.natAbs_pos.mpr hb)
  have hle : Nat.gcd t.natAbs b.natAbs ≤ b.natAbs := Nat.gcd_le_right _ (Int.natAbs_pos.mpr hb)
  generalize hd : Nat.gcd t.natAbs b.natAbs = d at hpos hle hg
  have gabs : g.natAbs = d := by
    rw [hg]; split <;> simp
  have g0 : g ≠ 0 := by
    intro z; rw [z] at gabs; simp at gabs; omega
  have d1 : d ∣ t.natAbs := hd ▸ Nat.gcd_dvd_left _ _
  have d2 : d ∣ b.natAbs := hd ▸ Nat.gcd_dvd_right _ _
  have e1 : g ∣ t := Int.natAbs_dvd_natAbs.mp (by rw [gabs]; exact d1)
  have e2 : g ∣ b := Int.natAbs_dvd_natAbs.mp (by rw [gabs]; exact d2)
  obtain ⟨t', ht⟩ := e1
  obtain ⟨b', hb'⟩ := e2
  refine ⟨g0, by rw [gabs]; exact hle, ?_⟩
  rw [fdiv_exact g0 ht, fdiv_exact g0 hb']
  refine ⟨⟨g, ht, hb', g0⟩, ?_, ?_⟩
  · by_cases hneg : b < 0
    · rw [if_pos hneg] at hg
      have gn : g < 0 := by omega
      rw [hb', Int.mul_comm] at hneg
      exact Int.pos_of_mul_neg_left hneg gn
    · rw [if_neg hneg] at hg
      have gp : 0 < g := by omega
      have bp : 0 < g * b' := by rw [← hb']; omega
      exact Int.pos_of_mul_pos_right bp (by omega)
  · have x1 : t.natAbs = d * t'.natAbs := by rw [ht, Int.natAbs_mul, gabs]
    have x2 : b.natAbs = d * b'.natAbs := by rw [hb', Int.natAbs_mul, gabs]
    rw [x1, x2, Nat.gcd_mul_left] at hd
    have : d * Nat.gcd t'.natAbs b'.natAbs = d * 1 := by rw [hd, Nat.mul_one]
    exact Nat.eq_of_mul_eq_mul_left hpos this
end MoL

namespace MoL
open PySem PySem.Spec PyProof.Rows L2 MoW
/-- what the written part says of a class of plain instances with operators and the fields top, bottom -/
structure OwnK (K : PySem.W.Frag) (C : Addr) : Prop where
  cl : Cls K C
  ow : OwnC K C
  ha : PySem.W.findIn K (.ref C) "__class__" = some (some (.builtin "object.__class__"))
  hn : PySem.W.specialIn K (.builtin "object.__class__") "__get__" = some (some (.builtin "getset_descriptor.__get__"))
  htk : PySem.W.takesIn K (.builtin "object.__class__") = some true
  hm : PySem.W.mroIn K C (.type "object") = some true
  ki : PySem.W.kitOne K (.ref C) (.type "int") = some false
  ik : PySem.W.kitOne K (.type "int") (.ref C) = some false
  n_top : NoAttr K C "top"
  n_bottom : NoAttr K C "bottom"
theorem kit_self {K : PySem.W.Frag} {C : Addr} : PySem.W.kitOne K (.ref C) (.ref C) = some true := by
  unfold PySem.W.kitOne
  rw [if_pos (by simp)]
theorem OwnK.ty {K : PySem.W.Frag} {C : Addr} {H : Hp} {a dx : Addr} {fs : List (Str × V)} (k : OwnK K C) (h : H a = some (.ins C dx fs)) : TyX K H (.ref a) (.ref C) :=
  .base (.ins h k.cl k.ha k.hn k.htk k.hm)

/-- a Ratio: an instance of the class at C with these two numbers -/
def RatAt (C : Addr) (H : Hp) (v : V) (t b : Int) : Prop := ∃ a dx, v = .ref a ∧ H a = some (.ins C dx [("top", .int t), ("bottom", .int b)])
theorem RatAt.ins {C : Addr} {H : Hp} {v : V} {t b : Int} (r : RatAt C H v t b) : Ins H v C := by
  obtain ⟨a, dx, e, h⟩ := r
  exact ⟨a, dx, _, e, h⟩
theorem RatAt.same {C : Addr} {H H' : Hp} {v : V} {t b : Int} (r : RatAt C H v t b) (s : Same H H') : RatAt C H' v t b := by
  obtain ⟨a, dx, e, h⟩ := r
  exact ⟨a, dx, e, s _ _ h⟩
theorem Ins.same {C : Addr} {H H' : Hp} {v : V} (r : Ins H v C) (s : Same H H') : Ins H' v C := by
  obtain ⟨a, dx, fs, e, h⟩ := r
  exact ⟨a, dx, fs, e, s _ _ h⟩
theorem same_upd {H : Hp} {p : Addr} {o : HO} (h : H p = none) : Same H (upd H p o) := fun b x e => by
  rw [upd_ne (ne_of_none e h)]
  exact e
theorem same_upd' {H H1 : Hp} {p : Addr} {o : HO} (s : Same H H1) (h : H p = none) : Same H (upd H1 p o) := fun b x e => by
  rw [upd_ne (ne_of_none e h)]
  exact s _ _ e
end MoL

/-! # Signs before an instance, abs of one; lowest terms are one -/
namespace MoL
open PySem PySem.Spec PyProof.Rows L2 MoW
section
variable {X : Cx} {CX : CXT} {k : Nat} {C f g : Addr} {fd : FuncData} {ps : List Str} {sp : Sp} {E : XK}
/-- -x of an instance with its own __neg__ -/
def rOwn1 (C : Addr) (sp : Sp) (E : XK) : V → Hp → VK → Prop := fun x H Q => Ins H x C ∧ sp [x] H Q E
theorem un_neg_own (m : Meth X.K C "__neg__" f) (F : FnOk X.prog X.w X.K X.mg X.base CX k f fd ps sp)
    (hr : Room k X.A) (hb : Binds X.K fd ps []) (hx : Passes CX X E) : UnR X (unaryOp .USub) (rOwn1 C sp E) := by
  intro pins s σ H x v Q I rx h
  obtain ⟨⟨a, dx, fs, rfl, ha⟩, hs⟩ := h
  cases (show v = Value.ref a from rx)
  obtain ⟨od, J⟩ := ins_at I ha
  have hrun : wpAny (model X.prog X.w) X.A (call (.ref f) [.ref a]) (EP X pins σ Q) X.xe s :=
    run_fn (us := [.ref a]) (vs := [.ref a]) F hr hb .nil hx I (.cons rfl .nil) hs
  unfold unaryOp
  refine wpAny_holding ?_
  have e : (UnaryOp.USub == UnaryOp.Not) = false := rfl
  simp only [e, Bool.false_eq_true, if_false]
  exact wpAny_bind (PySem.W.special_fn I.kIn J m.at_ (beq_iff_eq.mp m.fn) (wpAny_mono hrun (fun v s' q => wpAny_pure q) fun _ _ e => e))
theorem UnR.or {f : Value → Sem Value} {r r' : V → Hp → VK → Prop} (h : UnR X f r) (h' : UnR X f r') : UnR X f (fun x H Q => r x H Q ∨ r' x H Q) := by
  intro pins s σ H x v Q I rx q
  rcases q with q | q
  · exact h pins s σ H x v Q I rx q
  · exact h' pins s σ H x v Q I rx q
/-- the callee runs within a built-in -/
theorem run_fn1 {pins : List (Addr × Obj)} {σ : L2.St} {H : Hp} {s : Shared} {Q : VK} {us : List Value} {vs : List V} (F : FnOk X.prog X.w X.K X.mg X.base CX k f fd ps sp) (hr : Room (k + 1) X.A) (hb : Binds X.K fd ps []) (hx : Passes CX X E)
    (I : Inv X pins σ H s) (r : Vals vs us) (h : sp vs H Q E) : wpAny (model X.prog X.w) X.A.in1 (call (.ref f) us) (EP X pins σ Q) X.xe s := by
  have hl : us.length = ps.length := by rw [← r.length]; exact F.len _ _ _ _ h
  have hb' : BindsTo s fd ⟨us, []⟩ (ps.zip us) := by
    have := hb s us I.kIn (by simpa using hl)
    simpa using this
  refine wpAny_call (codeAny_mono (F.run X.A.in1 X.stack s H ⟨us, []⟩ us vs Q E hr.in1 I.env0.in1 hb' r h) fun r s' hq => ?_)
  cases r with
  | error e => exact hx pins σ H s e s' I hq
  | ok fl =>
    cases fl with
    | ret u => exact I.after hq
    | next => exact False.elim hq
    | brk => exact False.elim hq
    | cont => exact False.elim hq
theorem call_abs_own (m : Meth X.K C "__abs__" f) (F : FnOk X.prog X.w X.K X.mg X.base CX k f fd ps sp)
    (hr : Room (k + 1) X.A) (hb : Binds X.K fd ps []) (hx : Passes CX X E) : CallR X (.builtin "abs") (fun xs H Q => ∃ x, xs = [x] ∧ rOwn1 C sp E x H Q) := by
  intro pins s σ H xs us Q I r h
  obtain ⟨x, rfl, ⟨a, dx, fs, rfl, ha⟩, hs⟩ := h
  obtain ⟨u, rfl, ru⟩ := vals1 r
  cases (show u = Value.ref a from ru)
  obtain ⟨od, J⟩ := ins_at I ha
  have hrun := run_fn1 (us := [.ref a]) (vs := [.ref a]) F hr hb hx I (.cons rfl .nil) hs
  refine Calls.call_function_entry kind_abs plain_abs entry_abs (args_abs _) ?_
  unfold Builtin.«abs»
  refine wpAny_bind (m := oneArg "abs" _) (wpAny_pure ?_)
  refine wpAny_bind (m := callSpecial? (.ref a) (Str.ofString "__abs__")) ?_
  exact PySem.W.special_fn I.kIn J m.at_ (beq_iff_eq.mp m.fn) (wpAny_mono hrun (fun v s' q => wpAny_pure ⟨_, rfl, q⟩) fun _ _ e => e)
end
/-! ### lowest terms are one -/
theorem Norm.bne {t b t' b' : Int} (n : Norm t b t' b') : b ≠ 0 := by
  obtain ⟨g, _, h2, h⟩ := n.ex
  rw [h2]
  intro z
  rcases Int.mul_eq_zero.mp z with e | e
  · exact h e
  · have := n.pos; omega
theorem cop_one {t b u c : Int} (hb : 0 < b) (hc : 0 < c) (h1 : Nat.gcd t.natAbs b.natAbs = 1) (h2 : Nat.gcd u.natAbs c.natAbs = 1) (e : t * c = u * b) : t = u ∧ b = c := by
  have en : t.natAbs * c.natAbs = u.natAbs * b.natAbs := by rw [← Int.natAbs_mul, ← Int.natAbs_mul, e]
  have d1 : b.natAbs ∣ c.natAbs := by
    have h : b.natAbs ∣ t.natAbs * c.natAbs := ⟨u.natAbs, by rw [en, Nat.mul_comm]⟩
    exact Nat.Coprime.dvd_of_dvd_mul_left (Nat.Coprime.symm h1) h
  have d2 : c.natAbs ∣ b.natAbs := by
    have h : c.natAbs ∣ u.natAbs * b.natAbs := ⟨t.natAbs, by rw [← en, Nat.mul_comm]⟩
    exact Nat.Coprime.dvd_of_dvd_mul_left (Nat.Coprime.symm h2) h
  have ebc : b = c := by
    have := Nat.dvd_antisymm d1 d2
    omega
  subst ebc
  refine ⟨?_, rfl⟩
  exact Int.eq_of_mul_eq_mul_right (by omega) e
/-- two ways to one value: the same lowest terms -/
theorem Norm.uniq {p q t b p' q' t' b' : Int} (n : Norm p q t b) (m : Norm p' q' t' b') (e : p * q' = p' * q) : t = t' ∧ b = b' := by
  refine cop_one n.pos m.pos n.cop m.cop ?_
  have c1 := n.cross
  have c2 := m.cross
  have q0 := n.bne
  have q1 := m.bne
  have key : (t * b') * (q * q') = (t' * b) * (q * q') := by
    have e1 : (t * b') * (q * q') = (t * q) * (b' * q') := by
      rw [Int.mul_assoc, Int.mul_assoc, Int.mul_left_comm b' q q']
    have e2 : (t' * b) * (q * q') = (t' * q') * (b * q) := by
      rw [Int.mul_assoc, Int.mul_assoc, Int.mul_comm q q', Int.mul_left_comm b q' q]
    rw [e1, e2, c1, c2]
    have e3 : p * b * (b' * q') = (p * q') * (b * b') := by
      rw [Int.mul_assoc, Int.mul_assoc, Int.mul_comm b' q', Int.mul_left_comm b q' b']
    have e4 : p' * b' * (b * q) = (p' * q) * (b * b') := by
      rw [Int.mul_assoc, Int.mul_assoc, Int.mul_comm b q, Int.mul_left_comm b' q b, Int.mul_comm b' b]
    rw [e3, e4, e]
  have qq : q * q' ≠ 0 := fun z => by
    rcases Int.mul_eq_zero.mp z with e | e
    · exact q0 e
    · exact q1 e
  exact Int.eq_of_mul_eq_mul_right qq key
end MoL
namespace MoL
open PySem PySem.Spec PyProof.Rows L2 MoW
theorem call_or {X : Cx} {f : Value} {r r' : List V → Hp → VK → Prop} (h : CallR X f r) (h' : CallR X f r') : CallR X f (fun xs H Q => r xs H Q ∨ r' xs H Q) := by
  intro pins s σ H xs us Q I r q
  rcases q with q | q
  · exact h pins s σ H xs us Q I r q
  · exact h' pins s σ H xs us Q I r q
end MoL

/-! # Errors of the program: making one whose class keeps one field, and what a suite that caught it may ask -/
namespace MoL
open PySem PySem.Spec PyProof.Rows L2 MoW

/-! ### a class call in a body whose errors are caught: the wish speaks of the slots -/
def tMakeA (C : Addr) (sp : Sp) (dvs : List V) (W : L2.St → XK) (t : TA) : TE := fun σ H Q => t σ H fun vs G => ∀ x y, G x = none → G y = none → y ≠ x →
  sp (.ref x :: (vs ++ dvs)) (upd (upd G y (.own x)) x (.ins C y [])) (fun v G2 => v = .non ∧ Q (.ref x) G2) (W σ)
section
variable {X : Cx} {CX : CXT} {k : Nat} {f C : Addr} {fd : FuncData} {ps : List Str} {sp : Sp} {dvs : List V} {ds : List Value} {W : L2.St → XK} {x : Str} {p pos : Pos} {e : Expr} {es : List Expr} {t : TA}
theorem pe_makeA (M : Mk X.K C f) (F : FnOk X.prog X.w X.K X.mg X.base CX k f fd ps sp) (room : Room (k + 1) X.A) (hg : Gl X x) (hm : X.mg x = some (.ref C)) (hb : Binds X.K fd ps ds) (hd : Vals dvs ds) (hx : ∀ σ, PassesAt CX X σ (W σ)) (ha : PA X (e :: es) t)
    (hdb : (x == ("__debug__" : Str)) = false := by decide) (he : starEach (e :: es) X.env = (false, eval e X.env) :: starEach es X.env := by rfl) (hpl : (backTo pos (starEach es X.env)).any (·.1) = false := by rfl) :
    PE X (.Call (.Name x p) (e :: es) [] pos) (tMakeA C sp dvs W t) := by
  constructor
  intro pins s0 σ H0 Q I0 h
  refine wpAny_Call_Name_kw (ld_glob I0 hg hm ?_ hdb)
  refine PySem.W.callWith_K (h₀ := X.base) I0.ok.mod.kin M.kp ?_ he hpl
  refine thn (ha.run pos pins s0 σ H0 _ I0 h) ?_
  rintro us s ⟨vs, H, I, r, h⟩
  refine ⟨I.kIn, ?_⟩
  have hq := h (s.heap.objs.size + 1) s.heap.objs.size (I.hok.fresh (Nat.le_succ _)) (I.hok.fresh (Nat.le_refl _)) (Nat.ne_of_lt (Nat.lt_succ_self _))
  have I2 := Inv.made (C := C) I
  have r2 : Vals (V.ref (s.heap.objs.size + 1) :: (vs ++ dvs)) (Value.ref (s.heap.objs.size + 1) :: (us ++ ds)) := .cons rfl (r.append hd)
  have hl : (Value.ref (s.heap.objs.size + 1) :: us ++ ds).length = ps.length := (F.len _ _ _ _ hq ▸ r2.length).symm
  have run := F.run _ X.stack _ _ ⟨Value.ref (s.heap.objs.size + 1) :: us, []⟩ _ _ _ _ (room.make C us []) (I2.env0.make C us []) (hb _ (Value.ref (s.heap.objs.size + 1) :: us) I2.kIn hl) r2 hq
  refine wpAny_call (make_map (f := f) I.kIn M.makes M.init (beq_iff_eq.mp M.fn) (codeAny_mono run ?_))
  intro r s' hq'
  rcases r with fl | e
  · exact hx σ pins _ _ _ s' I2 hq'
  · cases e with
    | ret u =>
      obtain ⟨v, G, I3, rv, ev, q3⟩ := I2.after hq'
      cases ev
      exact ⟨rv, ⟨V.ref (s.heap.objs.size + 1), G, I3, rfl, q3⟩⟩
    | next => exact hq'.elim
    | brk => exact hq'.elim
    | cont => exact hq'.elim
end

/-! ### isinstance of a caught error that has fields -/
def rIsD (K : PySem.W.Frag) (a : Addr) (cls : Value) (d : Option Addr) (D : Addr) : List V → Hp → VK → Prop := fun xs H Q => ∃ (c : V) (cv : Value) (b : Bool) (y : Addr) (fs : List (Str × V)),
  xs = [.ref a, c] ∧ cls = .ref D ∧ d = some y ∧ H y = some (.xd fs) ∧ ClsV c cv ∧ PySem.W.kitOne K (.ref D) cv = some b ∧ Q (.bl b) H
theorem call_isD {X : Cx} {a D : Addr} {oe : Obj} {cls : Value} {d : Option Addr} {pn : List (Addr × Obj)} (C : ExcC X.K D) (hz : Zc cls d oe) (hf : ∃ vs, oe.data = .fields vs) : CallR (X.suite a ((a, oe) :: pn)) (.builtin "isinstance") (rIsD X.K a cls d D) := by
  intro pins s σ H xs us Q I r h
  obtain ⟨c, cv, b, y, fs, rfl, rfl, rfl, hy, hc, e, q⟩ := h
  obtain ⟨u1, u2, rfl, r1, r2⟩ := vals2 r
  cases (show u1 = Value.ref a from r1)
  have e2 := hc.eq r2
  subst e2
  have hget := (I.pin (a, oe) (List.mem_append_left _ List.mem_cons_self)).1
  have ho : ∃ o, s.heap.get? y = some o := by
    obtain ⟨m, ⟨o, _, _, z, _⟩, _⟩ := (show ObjOk X.prog X.w H s.heap y (.xd fs) from I.hok y _ hy)
    exact ⟨o, z⟩
  obtain ⟨od, ho⟩ := ho
  have J : PySem.W.InstAt s.heap a oe D (some od) := by
    obtain ⟨vs, hv⟩ := hf
    rcases oe with ⟨oc, odd, dt, sl⟩
    obtain ⟨z1, z2⟩ := hz
    dsimp only at z1 z2 hv
    subst z1 z2 hv
    exact ⟨hget, rfl, rfl, ho⟩
  have hcl : (PySem.W.clsIn X.K D).isSome = true := by
    obtain ⟨cd, hcd, _⟩ := PySem.W.any_some C.hd
    rw [hcd]
    rfl
  exact PySem.W.kia_one (PySem.W.kitx_exc hcl C.hg C.hk C.hs C.ha C.hn C.ht C.hm) I.kIn J e (fun z => nomatch z) fun tk => ⟨.bl b, H, I.kept (t' := tk) fun _ _ z => z, rfl, q⟩

/-! ### the making of an error with one field -/
/-- the __init__ of such a class: the field f is what was given -/
def sp_keep (K : PySem.W.Frag) (f : Str) : Sp := fun vs H Q _ => ∃ (e C : Addr) (v : V), vs = [.ref e, v] ∧ OexC K C ∧ PySem.W.findIn K (.ref C) f = some none ∧ H e = some (exo e C none) ∧
  ∀ y, H y = none → y ≠ e → Q .non (upd (upd H y (exd y [(f, v)])) e (exo e C (some y)))
/-- raise C(v): what follows when its __init__ keeps sp_keep -/
theorem mk_keep {K : PySem.W.Frag} {C : Addr} {f : Str} {v : V} {H : Hp} {Q : XK} (T : OexC K C) (hn : PySem.W.findIn K (.ref C) f = some none) (q : ∀ y, H y = none → Q (.ref C) (some y) (upd H y (.xd [(f, v)]))) :
    ([v] : List V).length ≤ 1000 ∧ ∀ a, H a = none → sp_keep K f (.ref a :: ([v] ++ [])) (upd H a (exo a C none))
      (fun w G => w = .non ∧ ∃ (d : Addr) (fs : List (Str × V)), G a = some (exo a C (some d)) ∧ G d = some (exd d fs) ∧ H d = none ∧ Q (.ref C) (some d) (upd (del G a) d (.xd fs))) (fun _ _ _ => False) := by
  refine ⟨by show 1 ≤ 1000; decide, fun a na => ⟨a, C, v, rfl, T, hn, upd_same, fun y ny yne => ⟨rfl, y, [(f, v)], upd_same, ?_, ?_, ?_⟩⟩⟩
  · rw [upd_ne yne, upd_same]
  · rw [upd_ne yne] at ny
    exact ny
  · rw [upd_ne yne] at ny
    have e : upd (del (upd (upd (upd H a (exo a C none)) y (exd y [(f, v)])) a (exo a C (some y))) a) y (.xd [(f, v)]) = upd H y (.xd [(f, v)]) := by
      funext b
      by_cases hb : b = y
      · subst hb
        rw [upd_same, upd_same]
      · rw [upd_ne hb, upd_ne hb]
        by_cases hba : b = a
        · subst hba
          rw [del_same, na]
        · rw [del_ne hba, upd_ne hba, upd_ne hb, upd_ne hba]
    rw [e]
    exact q y ny
end MoL

/-! # An error called with keywords, up to its own __init__ -/
namespace MoX
open PySem PySem.W PySem.Calls PyProof.Rows PySem.HandSPX Builtin Builtin.ObjectAttr
section
variable {M : Model} {A : Around} {E : Value → Shared → Prop} {h : Heap} {g : Array GenState} {d : Drawn} {t : Nat} {os : OsState}
variable {nm q : Str} {C N : Addr} {bs bm bmB : List Value} {hdct : Bool} {sn : List Str} {sub : List Value} {ab : Bool} {col : Option Bool} {dd : Option Addr} {k0 k1 k2 k3 k5 : Option Value} {B newId initId : String}
abbrev clsAt (h : Heap) (nm q : Str) (C N : Addr) (bs bm : List Value) (hdct : Bool) (sn : List Str) (sub : List Value) (ab : Bool) (col : Option Bool) (dd : Option Addr) (k0 k1 k2 k3 k5 : Option Value) (newId : String) : Prop :=
  h.get? C = some (excClassObj nm q C N bs bm hdct sn sub ab col dd k0 k1 k2 k3 k5 newId)
theorem kw_check (F : ExcBaseFacts B newId initId bmB) (hT : ∀ Y : String, bm.contains (.type Y) = bmB.contains (.type Y)) {kw : List (Str × Value)} {Q : Unit → Shared → Prop} (hC : clsAt h nm q C N bs bm hdct sn sub ab col dd k0 k1 k2 k3 k5 newId)
    (hq : Q () ⟨h, g, d, t, os⟩) : wpAny M A (checkBuiltinCall newId ⟨[.ref C], kw⟩) Q E ⟨h, g, d, t, os⟩ := by
  have c1 : (Value.ref C :: bm).contains (.type B) = true := by
    rw [List.contains_cons, hT, F.hasB, Bool.or_true]
  have c2 := F.noStar
  simp only [checkBuiltinCall, F.newKind, F.newSplit, F.newRow]
  repeat (first | refine wpAny_loadPart_at hC ?_ | (refine wpAny_isSubtype_exc hC ?_; rw [c1]) | refine wpAny_staticBase_exc hC ?_ | refine wpAny_madeBy_exc hC ?_ | simp only [bne_self_eq_false, Bool.false_eq_true, if_false] | wp_step)
  exact hq
end
section
variable {prog : Program} {w : World} {A : Around} {E : Value → Shared → Prop} {R : Result → Shared → Prop} {h : Heap} {g : Array GenState} {d : Drawn} {t : Nat} {os : OsState}
variable {nm q : Str} {C N : Addr} {bs bm bmB : List Value} {hdct : Bool} {sn : List Str} {sub : List Value} {ab : Bool} {col : Option Bool} {dd : Option Addr} {k0 k1 k2 k3 k5 : Option Value} {B newId initId : String} {kw : List (Str × Value)} {fI : Addr}
theorem kw_new (F : ExcBaseFacts B newId initId bmB) (hT : ∀ Y : String, bm.contains (.type Y) = bmB.contains (.type Y)) (hC : clsAt h nm q C N bs bm hdct sn sub ab col dd k0 k1 k2 k3 k5 newId)
    (hq : R (.ok (.ret (.ref (h.objs.size + 1)))) ⟨(h.push (W.kdv_tup [])).push (excO C h.objs.size), g, d, t, os⟩) : codeAny (model prog w) A (.builtin newId ⟨[.ref C], kw⟩) R ⟨h, g, d, t, os⟩ := by
  have c0 := F.ends
  have c1 : (Value.ref C :: bm).contains (.type B) = true := by
    rw [List.contains_cons, hT, F.hasB, Bool.or_true]
  have c2 : (Value.ref C :: bm).contains (.type "AttributeError") = false := by
    rw [List.contains_cons, hT, F.noAttr]
    rfl
  have c3 : (Value.ref C :: bm).contains (.type "NameError") = false := by
    rw [List.contains_cons, hT, F.noName]
    rfl
  refine codeAny_builtinAt F.entry ?_
  unfold Builtin.«BaseException.__new__»
  refine PySem.wpAt_bind ?_
  show PySem.wpAt _ _ _ (stack >>= _) _ _ _
  refine PySem.wpAt_bind (PySem.wpAt_stack fun below rest => PySem.wpAt_of_wpAny ?_)
  wp_walk
  refine PySem.wpAt_of_wpAny ?_
  rw [F.owner]
  repeat (first | with_reducible refine wpAny_madeHere_exc F.canon hC ?_ | with_reducible refine wpAny_loadPart_at hC ?_ | (with_reducible refine wpAny_isSubtype_exc hC ?_; first | rw [c1] | rw [c2] | rw [c3]) | wp_step)
  show R _ _
  rw [Heap.size_push]
  exact hq
theorem kw_type (F : ExcBaseFacts B newId initId bmB) (hT : ∀ Y : String, bm.contains (.type Y) = bmB.contains (.type Y)) {Q : Fin → Shared → Prop} (hC : clsAt h nm q C N bs bm hdct sn sub ab col dd k0 k1 k2 k3 k5 newId)
    (hi : W.Looks (model prog w) h (typeLookup (.ref C) "__init__") (some (.ref fI))) (hb : ∀ self, W.Looks (model prog w) h (bindSpecial (.ref fI) self) (.ref fI, [self]))
    (hq : codeAny (model prog w) A (.call (.ref fI) ⟨[.ref (h.objs.size + 1)], kw⟩)
      (fun r s' => match r with
        | .ok (.ret v) => v = .none ∧ Q (.done (.ret (.ref (h.objs.size + 1)))) s'
        | .ok _ => False
        | .error e => E e s')
      ⟨(h.push (W.kdv_tup [])).push (excO C h.objs.size), g, d, t, os⟩) : wpAny (model prog w) A (Builtin.«type.__call__» ⟨[.ref C], kw⟩) Q E ⟨h, g, d, t, os⟩ := by
  repeat (first | with_reducible refine wpAny_loadPart_at hC ?_ | with_reducible refine wpAny_madeBy_exc hC ?_ | wp_step)
  refine codeAny_call_builtin_code (Code.quiet_builtin _ F.quiet) (kw_check F hT hC ?_)
  refine kw_new F hT hC ?_
  show wpAny _ _ _ _ _ _
  have kp : ∀ b o, h.get? b = some o → ((h.push (W.kdv_tup [])).push (excO C h.objs.size)).get? b = some o := fun b o e => Heap.get?_push_of_some _ (Heap.get?_push_of_some _ e)
  have hC1 := kp _ _ hC
  have here : ((h.push (W.kdv_tup [])).push (excO C h.objs.size)).get? (h.objs.size + 1) = some (excO C h.objs.size) := by heap_get
  have cC : (Value.ref C :: bm).contains (.ref C) = true := by simp
  have hi1 := hi.keeps kp
  have hb1 := (hb (.ref (h.objs.size + 1))).keeps kp
  unfold isInstance
  repeat (first | with_reducible refine wpAny_loadPart_at here ?_ | (with_reducible refine wpAny_isSubtype_exc hC1 ?_; rw [cC]) | wp_step)
  show wpAny _ _ (typeLookup (.ref C) _) _ _ _
  refine hi1.at ?_
  refine wpAny_holding (wpAny_bind (hb1.at ?_))
  refine wpAny_bind (wpAny_call (codeAny_mono hq ?_))
  intro r s' z
  rcases r with e | (v | _ | _ | _) <;> first | exact z | exact z.elim | skip
  obtain ⟨rfl, z⟩ := z
  first
    | exact wpAny_pure (wpAny_pure z)
    | (wp_walk; exact z)
theorem kw_call (F : ExcBaseFacts B newId initId bmB) (hT : ∀ Y : String, bm.contains (.type Y) = bmB.contains (.type Y)) (hC : clsAt h nm q C N bs bm hdct sn sub ab col dd k0 k1 k2 k3 k5 newId)
    (hi : W.Looks (model prog w) h (typeLookup (.ref C) "__init__") (some (.ref fI))) (hb : ∀ self, W.Looks (model prog w) h (bindSpecial (.ref fI) self) (.ref fI, [self]))
    (hq : codeAny (model prog w) (A.under (.builtin "type.__call__" ⟨[.ref C], kw⟩)) (.call (.ref fI) ⟨[.ref (h.objs.size + 1)], kw⟩) (W.InitBack (h.objs.size + 1) R) ⟨(h.push (W.kdv_tup [])).push (excO C h.objs.size), g, d, t, os⟩) :
    codeAny (model prog w) A (.call (.ref C) ⟨[], kw⟩) R ⟨h, g, d, t, os⟩ := by
  have f1 := tc_lookup
  have f2 := tc_bind (.ref C)
  have ty : (⟨h, g, d, t, os⟩ : Shared).TypeIs (.ref C) "type" := ⟨_, hC, rfl⟩
  refine codeAny_of_tree ?_
  show wpAny _ _ (callAny (.ref C) _) _ _ _
  repeat (any_goals (first | assumption | with_reducible refine wpAny_loadPart_at hC ?_ | wp_step))
  refine ⟨rfl, ?_⟩
  refine codeAny_call_builtin_at (Code.quiet_builtin _ (by decide +kernel)) entry_typeCall (wpAny_check_type_call_sub hC (kw_type F hT hC hi hb ?_))
  refine codeAny_mono hq ?_
  intro r s' z
  rcases r with e | (v | _ | _ | _) <;> exact z
end
end MoX

/-! # Errors as values: made, held, asked -/
namespace MoL
open PySem PySem.Spec PyProof.Rows L2 MoW

/-! ### what the written part says of an error class over MeansError -/
abbrev veT : List Value := [.type "ValueError", .type "Exception", .type "BaseException", .type "object"]
def ClsRow (K : PySem.W.Frag) (C : Addr) (nm : Str) (bm : List Value) : Prop := ∃ q N bs sn sub ab col dd k0 k1 k2 k3 k5, K.lookup C = some (excClassObj nm q C N bs bm true sn sub ab col dd k0 k1 k2 k3 k5 "ValueError.__new__")
structure ErrC (K : PySem.W.Frag) (M C : Addr) (nm : Str) : Prop where
  row : ClsRow K C nm (.ref M :: veT)
  base : ClsRow K M "MeansError" veT
  sa : PySem.W.findIn K (.ref C) "__setattr__" = some (some (.builtin "object.__setattr__"))
  ga : PySem.W.findIn K (.ref C) "__getattribute__" = some (some (.builtin "BaseException.__getattribute__"))
  gg : PySem.W.findIn K (.ref C) "__getattr__" = some none
  ca : PySem.W.findIn K (.ref C) "__class__" = some (some (.builtin "object.__class__"))
  gd : PySem.W.specialIn K (.builtin "object.__class__") "__get__" = some (some (.builtin "getset_descriptor.__get__"))
  tk : PySem.W.takesIn K (.builtin "object.__class__") = some true
  kp : PySem.W.keepIn K (.ref C) = true
section
variable {K : PySem.W.Frag} {M C C' : Addr} {nm nm' : Str} {bm : List Value}
theorem ClsRow.cls (h : ClsRow K C nm bm) : ∃ cd : ClassData, PySem.W.clsIn K C = some cd ∧ cd.mro = .ref C :: bm ∧ cd.hasDict = true ∧ cd.name = nm := by
  obtain ⟨q, N, bs, sn, sub, ab, col, dd, k0, k1, k2, k3, k5, h⟩ := h
  refine ⟨{ name := nm, bases := bs, mro := .ref C :: bm, ns := N, qualname := q, hasDict := true, slotNames := sn, subclasses := sub, abstract := ab, collection := col, hasDel := false }, ?_, rfl, rfl, rfl⟩
  unfold PySem.W.clsIn
  rw [h] <;> rfl
theorem ClsRow.ty (h : ClsRow K C nm bm) : PySem.W.typeIn K (.ref C) = some (.type "type") := by
  obtain ⟨q, N, bs, sn, sub, ab, col, dd, k0, k1, k2, k3, k5, h⟩ := h
  show (K.lookup C).map _ = _
  rw [h]
  rfl
theorem ClsRow.sub (h : ClsRow K C nm bm) (v : Value) : PySem.W.subIn K (.ref C) v = some ((Value.ref C :: bm).contains v) := by
  obtain ⟨cd, e, m, _⟩ := h.cls
  show PySem.W.mroIn K C v = _
  unfold PySem.W.mroIn
  rw [e, Option.bind_some, m]
  rfl
theorem ClsRow.isC (h : ClsRow K C nm bm) : (PySem.W.clsIn K C).isSome = true := by
  obtain ⟨cd, e, _⟩ := h.cls
  rw [e]
  rfl
theorem ClsRow.dict (h : ClsRow K C nm bm) : PySem.W.hasDictIn K C = true := by
  obtain ⟨cd, e, _, d, _⟩ := h.cls
  unfold PySem.W.hasDictIn
  rw [e]
  exact d
theorem ClsRow.ne (h : ClsRow K C nm bm) (h' : ClsRow K C' nm' bm') (n : nm ≠ nm') : C ≠ C' := fun e => by
  subst e
  obtain ⟨cd, e1, _, _, n1⟩ := h.cls
  obtain ⟨cd', e2, _, _, n2⟩ := h'.cls
  rw [e1] at e2
  cases e2
  exact n (n1.symm.trans n2)
theorem ClsRow.kit (h : ClsRow K C nm bm) (h' : ClsRow K C' nm' bm') : PySem.W.kitOne K (.ref C) (.ref C') = some ((Value.ref C :: bm).contains (.ref C')) := by
  unfold PySem.W.kitOne
  by_cases e : C = C'
  · subst e
    rw [if_pos (by simp)]
    simp
  · rw [if_neg (by simpa using e)]
    show (if _ = true then PySem.W.subIn K (.ref C) (.ref C') else none) = _
    rw [h'.isC, h'.ty, if_pos (by rfl), h.sub]
theorem ErrC.exc (e : ErrC K M C nm) : PySem.W.subIn K (.ref C) (.type "BaseException") = some true := by
  rw [e.row.sub]
  rfl
theorem ErrC.o (e : ErrC K M C nm) : OexC K C := by
  refine ⟨?_, e.sa, e.exc, e.row.ty, e.kp⟩
  obtain ⟨q, N, bs, sn, sub, ab, col, dd, k0, k1, k2, k3, k5, h⟩ := e.row
  exact ⟨_, _, _, _, _, _, _, _, _, _, _, _, _, _, _, h, rfl⟩
theorem ErrC.x (e : ErrC K M C nm) : XfC K C := ⟨e.ga, e.gg, e.exc, e.row.dict⟩
theorem ErrC.c (e : ErrC K M C nm) : ExcC K C := by
  refine ⟨e.ga, e.gg, e.exc, e.row.dict, e.ca, e.gd, e.tk, ?_⟩
  have := e.row.sub (.type "object")
  exact this
theorem ErrC.kit_ne (e : ErrC K M C nm) (e' : ErrC K M C' nm') (n : nm ≠ nm') (n2 : nm' ≠ "MeansError") : PySem.W.kitOne K (.ref C) (.ref C') = some false := by
  rw [e.row.kit e'.row]
  have h1 : C' ≠ C := (e.row.ne e'.row n).symm
  have h2 : C' ≠ M := e'.row.ne e.base n2
  simp [h1, h2]
theorem ErrC.kit_self (e : ErrC K M C nm) : PySem.W.kitOne K (.ref C) (.ref C) = some true := by
  rw [e.row.kit e.row]
  simp
theorem ErrC.kit_base (e : ErrC K M C nm) : PySem.W.kitOne K (.ref C) (.ref M) = some true := by
  rw [e.row.kit e.base]
  simp
theorem ErrC.kit_ve (e : ErrC K M C nm) : PySem.W.kitOne K (.ref C) (.type "ValueError") = some true := by
  unfold PySem.W.kitOne
  rw [if_neg (by simp)]
  show (if PySem.W.kitMeta "ValueError" = true then PySem.W.subIn K (.ref C) (.type "ValueError") else none) = _
  rw [if_pos (by decide +kernel), e.row.sub]
  rfl
theorem ErrC.caught (e : ErrC K M C nm) : PySem.W.exmOne K (.ref C) (.ref M) = some true := by
  unfold PySem.W.exmOne
  have h1 : PySem.W.subIn K (.ref M) (.type "BaseException") = some true := by
    rw [e.base.sub]
    rfl
  rw [h1, if_pos (by rfl)]
  show (if _ = true then PySem.W.subIn K (.ref C) (.ref M) else none) = _
  rw [e.base.isC, e.base.ty, if_pos (by rfl), e.row.sub]
  simp
end

/-! ### an error that is held -/
def ErrAt (C : Addr) (H : Hp) (v : V) (fs : List (Str × V)) : Prop := ∃ a, v = .ref a ∧ ((fs = [] ∧ H a = some (exo a C none)) ∨ ∃ y, H a = some (exo a C (some y)) ∧ H y = some (exd y fs))
theorem ErrAt.same {C : Addr} {H H' : Hp} {v : V} {fs : List (Str × V)} (e : ErrAt C H v fs) (s : Same H H') : ErrAt C H' v fs := by
  obtain ⟨a, rfl, ⟨h1, h2⟩ | ⟨y, h1, h2⟩⟩ := e
  · exact ⟨a, rfl, .inl ⟨h1, s _ _ h2⟩⟩
  · exact ⟨a, rfl, .inr ⟨y, s _ _ h1, s _ _ h2⟩⟩
section
variable {X : Cx} {pins : List (Addr × Obj)} {σ : L2.St} {H : Hp} {s : Shared}
theorem ErrAt.inst {C a : Addr} {fs : List (Str × V)} (I : Inv X pins σ H s) (e : ErrAt C H (.ref a) fs) : ∃ oe od, PySem.W.InstAt s.heap a oe C od := by
  obtain ⟨b, eb, ⟨h1, h2⟩ | ⟨y, h1, h2⟩⟩ := e <;> cases eb
  · obtain ⟨t1, ho⟩ := exo_at I.hok h2
    exact ⟨_, none, ho, rfl, rfl, trivial⟩
  · obtain ⟨t1, ho⟩ := exo_at I.hok h1
    obtain ⟨m, ⟨o, _, _, z, _⟩, _⟩ := exd_at I.hok h2
    exact ⟨_, some o, ho, rfl, rfl, z⟩
end
/-- isinstance of it -/
def rIsO (K : PySem.W.Frag) : List V → Hp → VK → Prop := fun xs H Q => ∃ (v c : V) (cv : Value) (C : Addr) (fs : List (Str × V)) (b : Bool), xs = [v, c] ∧ ErrAt C H v fs ∧ ExcC K C ∧ ClsV c cv ∧ PySem.W.kitOne K (.ref C) cv = some b ∧ Q (.bl b) H
theorem call_isO {X : Cx} : CallR X (.builtin "isinstance") (rIsO X.K) := by
  intro pins s σ H xs us Q I r h
  obtain ⟨v, c, cv, C, fs, b, rfl, he, ce, hc, e, q⟩ := h
  obtain ⟨u1, u2, rfl, r1, r2⟩ := vals2 r
  have e2 := hc.eq r2
  subst e2
  obtain ⟨a, rfl, he'⟩ := id he
  cases (show u1 = Value.ref a from r1)
  obtain ⟨oe, od, J⟩ := he.inst I
  have hcl : (PySem.W.clsIn X.K C).isSome = true := by
    obtain ⟨cd, hcd, _⟩ := PySem.W.any_some ce.hd
    rw [hcd]
    rfl
  exact PySem.W.kia_one (PySem.W.kitx_exc hcl ce.hg ce.hk ce.hs ce.ha ce.hn ce.ht ce.hm) I.kIn J e (fun z => nomatch z) fun tk => ⟨.bl b, H, I.tok tk, rfl, q⟩
/-- a field of it -/
def tOxf (K : PySem.W.Frag) (f : Str) (te : TE) : TE := fun σ H Q => te σ H fun x G => ∃ (C : Addr) (fs : List (Str × V)) (v : V), ErrAt C G x fs ∧ XfC K C ∧ PySem.W.findIn K (.ref C) f = some none ∧ fs.lookup f = some v ∧ Q v G
theorem pe_oxf {X : Cx} {e : Expr} {te : TE} {pos : Pos} {n : Str} (he : PE X e te) (hb : attributeBase e n X.env (eval e X.env) = eval e X.env := by rfl) : PE X (.Attribute e n pos) (tOxf X.K n te) := by
  constructor
  intro pins s0 σ H0 Q I0 h
  refine attr_of hb (thn (he.run pins s0 σ H0 _ I0 h) ?_)
  rintro u s ⟨x, H, I, rx, C, fs, v, ea, T, hno, hl, q⟩
  obtain ⟨a, rfl, h2⟩ := ea
  cases (show u = Value.ref a from rx)
  rcases h2 with ⟨rfl, _⟩ | ⟨y, h1, h2⟩
  · cases hl
  · obtain ⟨t1, ho⟩ := exo_at I.hok h1
    obtain ⟨mA, hns, hr⟩ := exd_at I.hok h2
    obtain ⟨od, hod, hlk⟩ := lookIn_ns hns
    obtain ⟨u, hu, ru⟩ := RelO.some_of (v := v) (o := mA n) (by rw [← hl]; exact hr n)
    have J : PySem.W.InstAt s.heap a _ C (some od) := ⟨ho, rfl, rfl, hod⟩
    exact HandSPX.exc_get I.kIn J T.ga T.gg T.exC (PySem.W.findObj_own T.hdC hno rfl (by rw [hlk, hu])) (handed_of ru) ⟨v, H, I.tok _, ru, q⟩

/-! ### the making -/
theorem PE.imp {X : Cx} {e : Expr} {t t' : TE} (h : PE X e t) (i : ∀ σ H Q, t' σ H Q → t σ H Q) : PE X e t' := ⟨fun pins s σ H Q I q => h.run pins s σ H Q I (i σ H Q q)⟩
def tMkE (C : Addr) (sp : Sp) (g : List V → List V) (ta : TA) : TE := fun σ H Q => ta σ H fun vs G => vs.length ≤ 1000 ∧ ∀ a, G a = none → sp (g (.ref a :: vs)) (upd G a (exo a C none)) (fun v G2 => v = .non ∧ Q (.ref a) G2) (fun _ _ _ => False)
section
variable {X : Cx} {CX : CXT} {k : Nat} {fI C M : Addr} {fd : FuncData} {ps ks : List Str} {sp : Sp} {x nm : Str} {p pos : Pos} {e : Expr} {es : List Expr} {ta tk : TA} {kws : List Keyword}
theorem pe_mkE (T : ErrC X.K M C nm) (iC : PySem.W.findIn X.K (.ref C) "__init__" = some (some (.ref fI))) (tI : PySem.W.typeIn X.K (.ref fI) = some (.type "function")) (F : FnOk X.prog X.w X.K X.mg X.base CX k fI fd ps sp) (room : Room (k + 1) X.A) (hb : Binds X.K fd ps [])
    (hx : Passes CX X (fun _ _ _ => False)) (hg : Gl X x) (hm : X.mg x = some (.ref C)) (ha : PA X (e :: es) ta) (hdb : (x == ("__debug__" : Str)) = false := by decide) (he : starEach (e :: es) X.env = (false, eval e X.env) :: starEach es X.env := by rfl) (hpl : (backTo pos (starEach es X.env)).any (·.1) = false := by rfl) :
    PE X (.Call (.Name x p) (e :: es) [] pos) (tMkE C sp id ta) := by
  constructor
  intro pins s0 σ H0 Q I0 h
  obtain ⟨q, N, bs, sn, sub, ab, col, dd, k0, k1, k2, k3, k5, hC⟩ := T.row
  refine wpAny_Call_Name_kw (ld_glob I0 hg hm ?_ hdb)
  refine PySem.W.callWith_K (h₀ := X.base) I0.ok.mod.kin T.kp ?_ he hpl
  refine thn (ha.run pos pins s0 σ H0 _ I0 h) ?_
  rintro us s1 ⟨vs, H1, I1, r1, hz, q1⟩
  refine ⟨I1.kIn, ?_⟩
  show wpAny _ _ (call (.ref C) us) _ _ _
  obtain ⟨hp, g, dr, tk, os⟩ := s1
  have hsz : hp.objs.size ≤ hp.objs.size + 1 := Nat.le_succ _
  have hq := q1 (hp.objs.size + 1) (I1.hok.fresh hsz)
  have kk : ∀ b o, hp.get? b = some o → ((hp.push (PySem.W.kdv_tup us)).push (PySem.HandSPX.excO C hp.objs.size)).get? b = some o := fun b o z => Heap.get?_push_of_some _ (Heap.get?_push_of_some _ z)
  have here : ((hp.push (PySem.W.kdv_tup us)).push (PySem.HandSPX.excO C hp.objs.size)).get? (hp.objs.size + 1) = some (PySem.HandSPX.excO C hp.objs.size) := by heap_get
  have I2 : Inv X pins σ (upd H1 (hp.objs.size + 1) (exo (hp.objs.size + 1) C none)) ⟨(hp.push (PySem.W.kdv_tup us)).push (PySem.HandSPX.excO C hp.objs.size), g, dr, tk, os⟩ :=
    I1.laid (t' := tk) (a := hp.objs.size + 1) (o := exo (hp.objs.size + 1) C none) (h' := (hp.push (PySem.W.kdv_tup us)).push (PySem.HandSPX.excO C hp.objs.size)) kk hsz (exo_ok here)
  have r2 : Vals (V.ref (hp.objs.size + 1) :: vs) (Value.ref (hp.objs.size + 1) :: us) := .cons rfl r1
  have hl : (Value.ref (hp.objs.size + 1) :: us ++ []).length = ps.length := by
    rw [List.append_nil, ← r2.length]
    exact F.len _ _ _ _ hq
  have hus : us.length ≤ sizeLine := by
    rw [← Paired.length r1, sizeLine_eq]
    omega
  have bd := hb _ (Value.ref (hp.objs.size + 1) :: us) I2.kIn hl
  rw [List.append_nil] at bd
  have run := F.run _ X.stack _ _ ⟨Value.ref (hp.objs.size + 1) :: us, []⟩ _ _ _ _ (room.make C us []) (I2.env0.make C us []) bd r2 hq
  refine wpAny_call (PySem.HandSPX.call_own PySem.F.excBase_ValueError (fun Y => PySem.HandSPX.refsVE_contains Y (.ref M :: veT) rfl) (I1.kIn _ _ hC) (PySem.W.looks_findIn I1.kIn iC) (fun self => PySem.W.bind_fn I1.kIn self tI) hus (codeAny_mono run ?_))
  intro r s' hq'
  rcases r with er | fl
  · exact hx pins σ _ _ er s' I2 hq'
  · cases fl with
    | ret u =>
      obtain ⟨v, G, I3, rv, ev, q3⟩ := I2.after hq'
      cases ev
      exact ⟨rv, ⟨V.ref (hp.objs.size + 1), G, I3, rfl, q3⟩⟩
    | next => exact hq'.elim
    | brk => exact hq'.elim
    | cont => exact hq'.elim
/-- with keywords alone -/
theorem pe_mkEk {gL : List Value → List Value → List Value} {gV : List V → List V → List V} {tk : TA} (T : ErrC X.K M C nm) (iC : PySem.W.findIn X.K (.ref C) "__init__" = some (some (.ref fI))) (tI : PySem.W.typeIn X.K (.ref fI) = some (.type "function")) (F : FnOk X.prog X.w X.K X.mg X.base CX k fI fd ps sp)
    (room : Room (k + 1) X.A) (hb : KBn X.K fd ps 1 ks gL gV) (hx : Passes CX X (fun _ _ _ => False)) (hg : Gl X x) (hm : X.mg x = some (.ref C)) (hkw : PK X kws tk)
    (hall : (backToKw pos (keywordEach kws X.env)).all (·.1.isSome) = true := by rfl) (hks : (backToKw pos (keywordEach kws X.env)).filterMap (·.1) = ks := by rfl) (hdb : (x == ("__debug__" : Str)) = false := by decide)
    (hpl : ((backTo pos (starEach [] X.env)).any (·.1) || (backToKw pos (keywordEach kws X.env)).any (·.1.isNone)) = false := by rfl) :
    PE X (.Call (.Name x p) [] kws pos) (fun σ H Q => tk σ H fun zs G => zs.length = ks.length ∧ ∀ a, G a = none → sp (gV [.ref a] zs) (upd G a (exo a C none)) (fun v G2 => v = .non ∧ Q (.ref a) G2) (fun _ _ _ => False)) := by
  constructor
  intro pins s0 σ H0 Q I0 h
  obtain ⟨q, N, bs, sn, sub, ab, col, dd, k0, k1, k2, k3, k5, hC⟩ := T.row
  refine wpAny_Call_Name_kw (ld_glob I0 hg hm ?_ hdb)
  refine PySem.W.callWith_KW0 (h₀ := X.base) I0.ok.mod.kin T.kp hall ?_ hpl
  refine thn (hkw.run pos pins s0 σ H0 _ I0 h) ?_
  rintro ws s1 ⟨zs, H1, I1, rz, hz, q1⟩
  refine ⟨I1.kIn, ?_⟩
  rw [hks]
  show wpAny _ _ (call (.ref C) [] (ks.zip ws)) _ _ _
  obtain ⟨hp, g, dr, tk, os⟩ := s1
  have hsz : hp.objs.size ≤ hp.objs.size + 1 := Nat.le_succ _
  have hq := q1 (hp.objs.size + 1) (I1.hok.fresh hsz)
  have kk : ∀ b o, hp.get? b = some o → ((hp.push (PySem.W.kdv_tup [])).push (PySem.HandSPX.excO C hp.objs.size)).get? b = some o := fun b o z => Heap.get?_push_of_some _ (Heap.get?_push_of_some _ z)
  have here : ((hp.push (PySem.W.kdv_tup [])).push (PySem.HandSPX.excO C hp.objs.size)).get? (hp.objs.size + 1) = some (PySem.HandSPX.excO C hp.objs.size) := by heap_get
  have I2 : Inv X pins σ (upd H1 (hp.objs.size + 1) (exo (hp.objs.size + 1) C none)) ⟨(hp.push (PySem.W.kdv_tup [])).push (PySem.HandSPX.excO C hp.objs.size), g, dr, tk, os⟩ :=
    I1.laid (t' := tk) (a := hp.objs.size + 1) (o := exo (hp.objs.size + 1) C none) (h' := (hp.push (PySem.W.kdv_tup [])).push (PySem.HandSPX.excO C hp.objs.size)) kk hsz (exo_ok here)
  have r1 : Vals [V.ref (hp.objs.size + 1)] [Value.ref (hp.objs.size + 1)] := .cons rfl .nil
  have r2 := hb.rel r1 rz
  have run := F.run _ X.stack _ _ ⟨[Value.ref (hp.objs.size + 1)], ks.zip ws⟩ _ _ _ _ (room.make C [] (ks.zip ws)) (I2.env0.make C [] (ks.zip ws)) (hb.to _ _ ws I2.kIn rfl (rz.length.symm.trans hz)) r2 hq
  refine wpAny_call (MoX.kw_call PySem.F.excBase_ValueError (fun Y => PySem.HandSPX.refsVE_contains Y (.ref M :: veT) rfl) (I1.kIn _ _ hC) (PySem.W.looks_findIn I1.kIn iC) (fun self => PySem.W.bind_fn I1.kIn self tI) (codeAny_mono run ?_))
  intro r s' hq'
  rcases r with er | fl
  · exact hx pins σ _ _ er s' I2 hq'
  · cases fl with
    | ret u =>
      obtain ⟨v, G, I3, rv, ev, q3⟩ := I2.after hq'
      cases ev
      exact ⟨rv, ⟨V.ref (hp.objs.size + 1), G, I3, rfl, q3⟩⟩
    | next => exact hq'.elim
    | brk => exact hq'.elim
    | cont => exact hq'.elim
/-- an error class without own __init__, called with nothing -/
theorem bare_made {A : Around} {W : Value → Shared → Prop} {pins : List (Addr × Obj)} {σ : L2.St} {H : Hp} {s : Shared} {Q : Value → Shared → Prop} (xn : PySem.W.excIn X.K C [.type "ValueError", .type "Exception", .type "BaseException", .type "object"] "ValueError.__new__" = true) (I : Inv X pins σ H s)
    (h : ∀ h' a, Heap.MadeExcOf s.heap h' a (.ref C) [] → H a = none → Q (.ref a) { s with heap := h' }) : wpAny (model X.prog X.w) A (call (.ref C) []) Q W s := by
  obtain ⟨bm, N, nm, qn, bs, hdct, sn, sub, ab, col, dd, k0, k1, k2, k3, k5, mN, hC, hN, hni, T⟩ := exc_obj I.kIn xn
  obtain ⟨hp, g, dr, tk, os⟩ := s
  exact wpAny_call_exc_subT PySem.F.excBase_ValueError T hC hN hni (fun h' a hm => h h' a hm (I.hok.gone hm.new)) (Nat.zero_le _)
theorem pe_mk0 (T : ErrC X.K M C nm) (xn : PySem.W.excIn X.K C [.type "ValueError", .type "Exception", .type "BaseException", .type "object"] "ValueError.__new__" = true) (hg : Gl X x) (hm : X.mg x = some (.ref C)) (hdb : (x == ("__debug__" : Str)) = false := by decide) :
    PE X (.Call (.Name x p) [] [] pos) (fun σ H Q => ∀ H' v, Same H H' → ErrAt C H' v [] → Q v H') := by
  constructor
  intro pins s σ H Q I h
  refine wpAny_Call_Name_kw (ld_glob I hg hm ?_ hdb)
  refine PySem.W.callWith_K0 I.kIn T.kp ?_
  refine bare_made xn I fun h' a hmd ha => ?_
  obtain ⟨t, ht, _, _⟩ := hmd.there
  have J : Inv X pins σ (upd H a (exo a C none)) { s with heap := h' } := I.laidN hmd.keeps hmd.new ha (exo_ok ht)
  refine ⟨.ref a, _, J, rfl, h _ _ (fun b o q => ?_) ⟨a, rfl, .inl ⟨rfl, upd_same⟩⟩⟩
  rw [upd_ne (ne_of_none q ha)]
  exact q
/-- raise of it -/
theorem pmk_mk0 (T : ErrC X.K M C nm) (xn : PySem.W.excIn X.K C [.type "ValueError", .type "Exception", .type "BaseException", .type "object"] "ValueError.__new__" = true) (hg : Gl X x) (hm : X.mg x = some (.ref C)) (hdb : (x == ("__debug__" : Str)) = false := by decide) :
    PMk X (.Call (.Name x p) [] [] pos) (fun σ H Q => Q (.ref C) none H) := by
  intro pins s σ H Q I h
  refine wpAny_Call_Name_kw (ld_glob I hg hm ?_ hdb)
  refine PySem.W.callWith_K0 I.kIn T.kp ?_
  exact bare_made xn I fun h' a hmd ha => mk_of I hmd (raises_own T.exc T.row.ty) h ha
end
end MoL

/-! # // and ** of instances, and what leaves a def that may raise -/
namespace MoW
open PySem PySem.W
section
variable {prog : Program} {w : World} {A : Around} {E : Value → Shared → Prop} {s : Shared}
theorem int_floordiv_no (i : Int) (t : Tok) (l C dx : Addr) :
    Meets (Builtin.«int.__floordiv__» ⟨[.int i t, .ref l], []⟩) (fun _ R s => s.heap.get? l = some (PySem.W.instObj C dx) ∧ R (.ok (.ret .notImplemented)) s) :=
  .of_wp fun prog w A R s h => by obtain ⟨hp, g, d, tk, os⟩ := s; obtain ⟨hl, h⟩ := h; unfold PySem.W.instObj at hl; wp_walk using wpAny_loadPart' hl, wpAny_load hl; exact ⟨_, rfl, h⟩
end
end MoW
namespace MoW
open PySem PySem.W PyProof.Rows
section
variable {prog : Program} {w : World} {A : Around} {E : Value → Shared → Prop} {s : Shared} {K : Frag} {x C L f : Addr} {h₀ : Heap} {m : Str → Option Value} {dx : Addr} {od : Option Obj} {i : Int} {t : Tok}

theorem bin_own_int0 {op : Operator} {id : String} {Q : Value → Shared → Prop} (F : Fr h₀ L s.heap m) (X₀ : K.In h₀) (I : InstAt s.heap x (instObj C dx) C od)
    (hc : selfFirst K C = true) (hn : subIn K (.type "int") (.ref C) = some false) (h1 : Slot "int" (dunderR op.info.2) id) (hfi : fillsNumberSlot (.type "int") op.info.2 = pure true)
    (hs : findIn K (.ref C) (PySem.dunder op.info.2) = some (some (.ref f))) (hf : isFn K (.ref f) = true)
    (hd : findIn K (.ref C) (dunderR op.info.2) = some none)
    (h : wpAny (model prog w) A (call (.ref f) [.ref x, .int i t]) (W.CmpBack Q) E s) : wpAny (model prog w) A (binaryOp op (.ref x) (.int i t)) Q E s := by
  have X := X₀.keeps F.keep
  obtain ⟨cd, rest, hcd, hm⟩ := mro_first (K := K) (C := C) (cd := default) hc
  unfold binaryOp
  refine wpAny_holding (wpAny_bind ?_)
  unfold binaryOp1
  refine wpAny_bind (I.type.here (wpAny_bind (wpAny_typeOf (typeIs_int s i t) (wpAny_bind ((fills_K X hcd hm hs).here ?_)))))
  have hne : (Value.ref C == Value.type "int") = false := rfl
  simp only [hne, Bool.false_eq_true, if_false]
  refine wpAny_bind (wpAny_of_eq hfi ?_)
  simp only [Bool.and_self, if_true]
  refine wpAny_bind ((looks_subIn X hn).here ?_)
  have hpy : Looks (model prog w) s.heap (numberSlotInPython (.ref C) op.info.2) true := by
    unfold numberSlotInPython
    refine (looks_findIn X hs).andThen ?_
    refine Looks.andThen (a := true) .now ?_
    refine (looks_findIn X hd).andThen ?_
    refine Looks.andThen (a := false) .now ?_
    exact .now
  have hpi : numberSlotInPython (.type "int") op.info.2 = pure false := rfl
  simp only [Bool.false_eq_true, if_false, pure_bind, Bool.not_false, Bool.and_self, if_true]
  refine wpAny_bind (hpy.here ?_)
  simp only [if_true]
  refine wpAny_bind (wpAny_of_eq hpi ?_)
  simp only [Bool.not_false, if_true]
  refine wpAny_bind (wpAny_of_eq h1.lookup ?_)
  refine wpAny_bind (m := tryMethod (.ref x) _ (.int i t)) ?_
  unfold tryMethod
  refine wpAny_bind (special_fn X I hs (beq_iff_eq.mp hf) (wpAny_mono h (fun v s' hv => ?_) fun _ _ e => e))
  cases v <;> first | exact hv.elim | exact wpAny_pure (wpAny_pure (wpAny_pure hv))
end
end MoW

namespace MoL
open PySem PySem.Spec PyProof.Rows L2 MoW
section
variable {X : Cx} {CX : CXT} {k : Nat} {C f g : Addr} {fd : FuncData} {ps : List Str} {sp : Sp} {E : XK}
theorem op_floordiv_own (c : OwnC X.K C) (m : Meth X.K C "__floordiv__" f) (mr : Meth X.K C "__rfloordiv__" g) (run : FnOk X.prog X.w X.K X.mg X.base CX k f fd ps sp) (hr : Room k X.A) (hb : Binds X.K fd ps []) (hx : Passes CX X E) : OpR X (binaryOp .FloorDiv) (rOwn C sp E) :=
  op_bin_own (op := .FloorDiv) F.slot_int_rfloordiv F.fills_int_floordiv c m mr run hr hb hx
theorem op_floordiv_int (c : OwnC X.K C) (m : Meth X.K C "__rfloordiv__" f) (ml : Meth X.K C "__floordiv__" g) (run : FnOk X.prog X.w X.K X.mg X.base CX k f fd ps sp) (hr : Room k X.A) (hb : Binds X.K fd ps []) (hx : Passes CX X E) : OpR X (binaryOp .FloorDiv) (rOwnR C sp E) :=
  op_bin_int (op := .FloorDiv) F.slot_int_floordiv F.fills_int_floordiv (fun s i t b dy Q' E' hb' q => call_meets F.slot_int_floordiv (typeIs_int s i t) F.entry_int_floordiv (F.args_int_floordiv_2 _ _) (int_floordiv_no i t b C dy) ⟨hb', q⟩) c m ml run hr hb hx
/-- x ** i, the class has no mirrored one -/
theorem op_pow_own (c : OwnC X.K C) (m : Meth X.K C "__pow__" f) (no : PySem.W.findIn X.K (.ref C) "__rpow__" = some none) (run : FnOk X.prog X.w X.K X.mg X.base CX k f fd ps sp) (hr : Room k X.A) (hb : Binds X.K fd ps []) (hx : Passes CX X E) :
    OpR X (binaryOp .Pow) (fun x y H Q => Ins H x C ∧ (∃ i, y = .int i) ∧ sp [x, y] H Q E) := by
  intro pins s σ H x y v u Q I rx ry h
  obtain ⟨⟨a, dx, fs, rfl, ha⟩, ⟨i, rfl⟩, hs⟩ := h
  cases (show v = Value.ref a from rx)
  obtain ⟨t, rfl⟩ := (show ∃ t, u = Value.int i t from ry)
  obtain ⟨od, J⟩ := ins_at I ha
  obtain ⟨mm, hF⟩ := I.fr
  exact bin_own_int0 (op := .Pow) hF I.ok.mod.kin J c.first c.ic F.slot_int_rpow F.fills_int_pow m.at_ m.fn no
    (thn (run_fn (us := [.ref a, .int i t]) (vs := [.ref a, .int i]) run hr hb .nil hx I (.cons rfl (.cons ⟨t, rfl⟩ .nil)) hs) fun v s' q => ep_back q)
end
/-- a callee's error is this def's own way out -/
theorem passE {P : Program} {w : World} {K : PySem.W.Frag} {mg : Str → Option Value} {base : Heap} {N : List Str} {qual : Str} {scope : Scope} {f : Addr} {cdv : Value} {A : Around} {outer : List Env} {s : Shared} {H : Hp} {E : XK} :
    Passes (L2.CX P w) (cxOf (L2.CX P w) P w K mg base N qual scope f cdv A outer s H E) E :=
  passes_call (W := fun cls d _ H => E cls d H) (takes_of rfl rfl rfl rfl) fun _ _ _ _ h => h
end MoL

/-! # Defs that hand lambdas on, and the def that tells the word of what a lambda raises -/
namespace MoL
open PySem PySem.Spec PyProof.Rows L2 MoW LamX

/-- a def whose code object is known -/
structure FunC (K : PySem.W.Frag) (x qual : Str) (st : Stmt) (f : Addr) (fd : FuncData) (c : Addr) : Prop where
  ex : ∃ (oc : Value) (od : Option Addr) (kV doc pm : Value) (an : Option Addr) (ct : Value) (osl : Array (Option Value)),
    fd = PySem.W.fnOf x qual (defArgs st) (defBody st) (defScope st) .none kV doc pm an (.ref c) ct ∧ K.lookup f = some ⟨oc, od, .func fd, osl⟩ ∧ PySem.W.codeIn K (.ref c) qual = true
  kp : PySem.W.keepIn K (.ref f) = true
theorem FunC.ok {P : Program} {w : World} {K : PySem.W.Frag} {mg : Str → Option Value} {base : Heap} {x qual : Str} {st : Stmt} {f c : Addr} {fd : FuncData} {N ps : List Str} {k : Nat} {sp : Sp} (F : FunC K x qual st f fd c) (S : FnScope N ps (defScope st))
    (len : ∀ vs H Q E, sp vs H Q E → vs.length = ps.length)
    (h : ∀ (A : Around) (outer : List Env) (s : Shared) (H : Hp) (vs : List V) (Q : VK) (E : XK), Room k (A.deeper (envOfC qual (defScope st) s.heap.objs.size f (.ref c))) → sp vs H Q E →
      ∃ t, PSs (cxOf CX0 P w K mg base N qual (defScope st) f (.ref c) A outer s H E).nox (defBody st) t ∧ t { nx := fun _ G => Q .non G, rt := Q } (start N vs) H) : FnOk P w K mg base CX0 (k + 1) f fd ps sp := by
  obtain ⟨oc, od, kV, doc, pm, an, ct, osl, rfl, lk, hcd⟩ := F.ex
  refine fn_of lk hcd S len fun A outer s H vs Q E hr hsp => ?_
  obtain ⟨t, p, q⟩ := h A outer s H vs Q E hr hsp
  exact ⟨t, p.nox, q⟩

/-- the word of the error of the class at R that the lambda raises; nothing: the text "" -/
def TTw (R : Addr) : (XK → Hp → VK → Prop) → Hp → VK → Prop := fun tl H Q =>
  tl (fun cls d G => cls = .ref R ∧ ∃ y s, d = some y ∧ G y = some (.xd [("word", .str s)]) ∧ Q (.str s) G) H (fun _ G => ∃ v : V, (some (some (V.str "")) : Option (Option V)) = some (some v) ∧ Q v G)
/-- a wish needs to be told of slots of the right number alone -/
theorem takes_len {X : Cx} {W : WX} (tk : Takes X W) : Takes X (fun cls d σ H => σ.length = X.N.length → W cls d σ H) := fun u s' x => by
  obtain ⟨a, B, sI, pins, σ, H, cls, d, e, I, nb, up, sky, na, os, ag, w⟩ := x
  exact tk u s' ⟨a, B, sI, pins, σ, H, cls, d, e, I, nb, up, sky, na, os, ag, w I.len⟩
theorem FunC.fn {K : PySem.W.Frag} {x qual : Str} {st : Stmt} {f c : Addr} {fd : FuncData} (F : FunC K x qual st f fd c) : Fun K x qual st f fd := by
  obtain ⟨⟨oc, od, kV, doc, pm, an, ct, osl, e, lk, hcd⟩, kp⟩ := F
  exact ⟨⟨oc, od, kV, doc, pm, an, _, ct, osl, e, lk, hcd⟩, kp⟩
/-- what a lambda's body lets out is what is wished of the lambda -/
theorem passLam {X : Cx} {A : Around} {outer : List Env} {s : Shared} {H : Hp} {E : XK} {scope : Scope} {f c' : Addr} : Passes (L2.CX X.prog X.w) (lamCx X A outer s H E scope f c') E :=
  passes_call (X := lamCx X A outer s H E scope f c') (W := fun cls d _ H => E cls d H) (takes_of rfl rfl rfl rfl) fun _ _ _ _ h => h
/-- behind a lambda that raised: all but the tables is kept, and the tables stand -/
theorem after {T : List (Addr × Str)} {H H1 G : Hp} {y : Addr} {o : HO} (e1 : ExtN H H1) (t1 : Tabs T H1) (s1 : Same H1 G) (ny : G y = none) : ExtN H (upd G y o) ∧ Tabs T (upd G y o) := by
  have s2 := s1.trans (same_upd (o := o) ny)
  exact ⟨e1.trans (.of s2), t1.ext s2⟩
theorem RatAt.ext {C : Addr} {H H' : Hp} {v : V} {t b : Int} (r : RatAt C H v t b) (s : ExtN H H') : RatAt C H' v t b := by
  obtain ⟨a, dx, e, h⟩ := r
  exact ⟨a, dx, e, s _ _ h fun _ z => by cases z⟩
end MoL

/-! # A walk over a list or over a tuple; classes by their facts alone -/
namespace MoL
open PySem PySem.Spec PyProof.Rows L2 MoW
theorem pi_or {X : Cx} {tg e : Expr} {t t' : TI} (p : PI X tg e t) (q : PI X tg e t') : PI X tg e (fun σ H R => t σ H R ∨ t' σ H R) :=
  ⟨fun pins s σ H R I h => h.elim (p.run pins s σ H R I) (q.run pins s σ H R I)⟩
/-- what the written part says of a class of plain instances with operators; the fields' names apart -/
structure OwnB (K : PySem.W.Frag) (C : Addr) : Prop where
  cl : Cls K C
  ow : OwnC K C
  ha : PySem.W.findIn K (.ref C) "__class__" = some (some (.builtin "object.__class__"))
  hn : PySem.W.specialIn K (.builtin "object.__class__") "__get__" = some (some (.builtin "getset_descriptor.__get__"))
  htk : PySem.W.takesIn K (.builtin "object.__class__") = some true
  hm : PySem.W.mroIn K C (.type "object") = some true
  ki : PySem.W.kitOne K (.ref C) (.type "int") = some false
  ik : PySem.W.kitOne K (.type "int") (.ref C) = some false
theorem OwnB.ty {K : PySem.W.Frag} {C : Addr} {H : Hp} {a dx : Addr} {fs : List (Str × V)} (k : OwnB K C) (h : H a = some (.ins C dx fs)) : TyX K H (.ref a) (.ref C) :=
  .base (.ins h k.cl k.ha k.hn k.htk k.hm)

/-! ### a def that declines: its first row is «if not ..: return NotImplemented» -/
/-- behind such a call: the answer, and the heap as it was -/
def Declines (outer : List Env) (P : Program) (w : World) (H : Hp) (s : Shared) (r : Result) (s' : Shared) : Prop := r = .ok (.ret .notImplemented) ∧ CE outer P w H s (fun v G => v = .non ∧ G = H) .none s'
theorem fn_no {CX : CXT} {P : Program} {w : World} {K : PySem.W.Frag} {mg : Str → Option Value} {base : Heap} {k : Nat} {f : Addr} {name qual : Str} {params : Arguments} {scope : Scope} {dV kV doc pm cdv ct oc : Value} {an od : Option Addr} {osl : Array (Option Value)}
    {N ps : List Str} {test : Expr} {rest : List Stmt} {p1 p2 p3 : Pos}
    (lk : K.lookup f = some ⟨oc, od, .func (PySem.W.fnOf name qual params (.If test [.Return (some (.Name "NotImplemented" p1)) p2] [] p3 :: rest) scope dV kV doc pm an cdv ct), osl⟩) (hcd : PySem.W.codeIn K cdv qual = true) (S : FnScope N ps scope)
    (hg : scope.names.lookup ("NotImplemented" : Str) = some NameKind.globalImplicit) (hmg : mg "NotImplemented" = none) {A : Around} {outer : List Env} {s : Shared} {H : Hp} {args : Args} {us : List Value} {vs : List V} (hl : vs.length = ps.length) (room : Room (k + 1) A)
    (e0 : Env0 P w K mg base A outer s H) (hb : BindsTo s (PySem.W.fnOf name qual params (.If test [.Return (some (.Name "NotImplemented" p1)) p2] [] p3 :: rest) scope dV kV doc pm an cdv ct) args (ps.zip us)) (r : Vals vs us)
    (ht : Room k (A.deeper (envOfC qual scope s.heap.objs.size f cdv)) → ∃ t, PT (cxOf CX P w K mg base N qual scope f cdv A outer s H (fun _ _ _ => False)) test t ∧ t (start N vs) H (fun b G => b = true ∧ G = H)) :
    codeAny (model P w) A (.call (.ref f) args) (fun r s' => Declines outer P w H s r s' ∨ ∃ e, r = .error e ∧ CX outer H s (fun _ _ _ => False) e s') s := by
  have KX : K.In s.heap := e0.mod.kin.keeps fun b o z => (e0.bs b o z).1
  have lim : s.heap.NoLimit := e0.mod.nolimit.keeps fun b o z => (e0.bs b o z).1
  have kinds : ∀ y ∈ ps.zip us, scope.names.lookup y.1 = some .local ∨ (scope.names.lookup y.1 = some .cell ∧ ((cellsFrom (s.heap.objs.size + 1) scope.names []).lookup y.1).isSome = true) := by
    rintro ⟨n, v⟩ hy
    rcases S.par n (List.of_mem_zip hy).1 with q | q
    · exact .inl q
    · exact .inr ⟨q, PySem.W.cellsFrom_some _ _ _ (.inl q)⟩
  refine codeAny_call_function room.depth (KX _ _ lk) rfl S.co S.gen rfl (PySem.W.codeRec_of KX hcd) (hb _ _ _ _ ?_)
  refine wpAny_newFunctionEnv_cells S.kind kinds ?_
  rintro env rfl s1 x
  refine ⟨lim.keeps x.toInCall.keep, codeAny_func ?_⟩
  obtain ⟨t, pt, hq⟩ := ht (room.deeper _)
  have I : Inv (cxOf CX P w K mg base N qual scope f cdv A outer s H (fun _ _ _ => False)) [] (start N vs) H s1 := inv_start S room.hd e0 hl r x
  refine wpAny_mono (Q := fun fl s' => fl = .ret .notImplemented ∧ Inv (cxOf CX P w K mg base N qual scope f cdv A outer s H (fun _ _ _ => False)) [] (start N vs) H s') (wpAny_execs_cons (wpAny_If (thn (pt.run [] s1 _ H _ I hq) ?_))) ?_ ?_
  · rintro d s2 ⟨H2, I2, rfl, rfl⟩
    have g : Gl (cxOf CX P w K mg base N qual scope f cdv A outer s H2 (fun _ _ _ => False)) "NotImplemented" := hg
    exact wpAny_execs_cons (wpAny_Return_some (ld_blt I2 g hmg PyProof.Rows.Boot.«NotImplemented» ⟨rfl, I2⟩))
  · rintro fl s' ⟨rfl, J⟩
    exact .inl ⟨rfl, .non, H, J.os, J.bare, J.base, J.hok, rfl, rfl, rfl⟩
  · intro e s' hs
    exact wpAny_mono hs (fun _ s2 z => .inr ⟨e, rfl, z⟩) fun e2 s2 z => .inr ⟨e2, rfl, z⟩
end MoL

namespace MoW
open PySem PySem.W PyProof.Rows
section
variable {prog : Program} {w : World} {A : Around} {E : Value → Shared → Prop} {s : Shared} {K : Frag} {x y C D L f g fr : Addr} {ox oy : Obj} {od od' : Option Obj} {h₀ : Heap} {m : Str → Option Value}
/-- an instance beside one of another class: its own method declines, the other's mirrored one answers -/
theorem bin_own_other {op : Operator} {Q : Value → Shared → Prop} {R : Shared → Prop} {f' g' : Addr} (X : K.In s.heap) (I : W.InstAt s.heap x ox C od) (J : W.InstAt s.heap y oy D od') (hc : selfFirst K C = true) (hd : selfFirst K D = true) (hne : C ≠ D)
    (hn : subIn K (.ref D) (.ref C) = some false) (h1 : findIn K (.ref C) (PySem.dunder op.info.2) = some (some (.ref f))) (hf : isFn K (.ref f) = true) (h1r : findIn K (.ref C) (dunderR op.info.2) = some (some (.ref f')))
    (h2 : findIn K (.ref D) (PySem.dunder op.info.2) = some (some (.ref g'))) (h2r : findIn K (.ref D) (dunderR op.info.2) = some (some (.ref g))) (hg : isFn K (.ref g) = true)
    (a : wpAny (model prog w) A (call (.ref f) [.ref x, .ref y]) (fun v s' => v = .notImplemented ∧ R s') E s)
    (b : ∀ s', R s' → K.In s'.heap ∧ (∃ ox' o1, W.InstAt s'.heap x ox' C o1) ∧ (∃ oy' o2, W.InstAt s'.heap y oy' D o2) ∧ wpAny (model prog w) A (call (.ref g) [.ref y, .ref x]) (W.CmpBack Q) E s') : wpAny (model prog w) A (binaryOp op (.ref x) (.ref y)) Q E s := by
  obtain ⟨cd, rest, hcd, hm⟩ := mro_first (K := K) (C := C) (cd := default) hc
  obtain ⟨dd, rest2, hdd, hm2⟩ := mro_first (K := K) (C := D) (cd := default) hd
  unfold binaryOp
  refine wpAny_holding (wpAny_bind ?_)
  unfold binaryOp1
  refine wpAny_bind (I.type.here (wpAny_bind (J.type.here (wpAny_bind ((fills_K X hcd hm h1).here ?_)))))
  have ne : (Value.ref C == Value.ref D) = false := by simpa using hne
  simp only [ne, Bool.false_eq_true, if_false]
  refine wpAny_bind ((fills_K X hdd hm2 h2).here ?_)
  simp only [Bool.and_self, if_true]
  refine wpAny_bind ((looks_subIn X hn).here ?_)
  simp only [Bool.false_eq_true, if_false, pure_bind, Bool.not_false, Bool.and_self, if_true]
  have py : ∀ {Z p q : Addr}, findIn K (.ref Z) (PySem.dunder op.info.2) = some (some (.ref p)) → findIn K (.ref Z) (dunderR op.info.2) = some (some (.ref q)) → Looks (model prog w) s.heap (numberSlotInPython (.ref Z) op.info.2) true := by
    intro Z p q z1 z2
    unfold numberSlotInPython
    refine (looks_findIn X z1).andThen (Looks.andThen (a := true) .now ?_)
    exact (looks_findIn X z2).andThen (Looks.andThen (a := true) .now .now)
  refine wpAny_bind ((py h1 h1r).here ?_)
  simp only [if_true]
  refine wpAny_bind ((py h2 h2r).here ?_)
  simp only [Bool.not_true, Bool.false_eq_true, if_false]
  refine wpAny_bind (m := tryMethod (.ref x) _ (.ref y)) ?_
  unfold tryMethod
  refine wpAny_bind (special_fn X I h1 (beq_iff_eq.mp hf) (wpAny_mono a (fun v s' hv => ?_) fun _ _ e => e))
  obtain ⟨rfl, hR⟩ := hv
  obtain ⟨X2, ⟨ox', o1, I2⟩, ⟨oy', o2, J2⟩, b2⟩ := b s' hR
  refine wpAny_pure (wpAny_bind (I2.type.here (wpAny_bind (J2.type.here ?_))))
  rw [ne]
  simp only [Bool.false_eq_true, if_false]
  refine wpAny_bind (m := tryMethod (.ref y) _ (.ref x)) ?_
  unfold tryMethod
  refine wpAny_bind (special_fn X2 J2 h2r (beq_iff_eq.mp hg) (wpAny_mono b2 (fun v s' hv => ?_) fun _ _ e => e))
  cases v <;> first | exact hv.elim | exact wpAny_pure (wpAny_bind (wpAny_rule (wpAny_pure (wpAny_pure hv))))
end
end MoW
namespace MoL
open PySem PySem.Spec PyProof.Rows L2 MoW
/-- a def that declines these values -/
def FnNo (P : Program) (w : World) (K : PySem.W.Frag) (mg : Str → Option Value) (base : Heap) (CX : CXT) (k : Nat) (f : Addr) (pre : List V → Hp → Prop) : Prop :=
  ∀ (A : Around) (outer : List Env) (s : Shared) (H : Hp) (us : List Value) (vs : List V), Room k A → Env0 P w K mg base A outer s H → Vals vs us → pre vs H →
    codeAny (model P w) A (.call (.ref f) ⟨us, []⟩) (fun r s' => Declines outer P w H s r s' ∨ ∃ e, r = .error e ∧ CX outer H s (fun _ _ _ => False) e s') s
section
variable {X : Cx} {CX CX' : CXT} {k k' : Nat} {C D f f' g g' : Addr} {fd : FuncData} {ps : List Str} {sp : Sp} {E : XK} {pre : List V → Hp → Prop}
/-- x op y: x's own def declines, y's mirrored one answers -/
theorem op_other {op : Operator} (c : OwnC X.K C) (d : OwnC X.K D) (ne : C ≠ D) (sub : PySem.W.subIn X.K (.ref D) (.ref C) = some false) (m : Meth X.K C (PySem.dunder op.info.2) f) (mr : Meth X.K C (dunderR op.info.2) f') (m2 : Meth X.K D (PySem.dunder op.info.2) g')
    (m2r : Meth X.K D (dunderR op.info.2) g) (no : FnNo X.prog X.w X.K X.mg X.base CX' k' f pre) (hr' : Room k' X.A) (never : ∀ (H : Hp) s e s', CX' X.stack H s (fun _ _ _ => False) e s' → False) (run : FnOk X.prog X.w X.K X.mg X.base CX k g fd ps sp) (hr : Room k X.A)
    (hb : Binds X.K fd ps []) (hx : Passes CX X E) : OpR X (binaryOp op) (fun x y H Q => Ins H x C ∧ Ins H y D ∧ pre [x, y] H ∧ sp [y, x] H Q E) := by
  intro pins s σ H x y v u Q I rx ry h
  obtain ⟨⟨a, dx, fs, rfl, ha⟩, ⟨b, dy, gs, rfl, hb'⟩, hp, hs⟩ := h
  cases (show v = Value.ref a from rx)
  cases (show u = Value.ref b from ry)
  obtain ⟨od, J⟩ := ins_at I ha
  obtain ⟨od', J'⟩ := ins_at I hb'
  refine bin_own_other (R := fun s' => Inv X pins σ H s') I.kIn J J' c.first d.first ne sub m.at_ m.fn mr.at_ m2.at_ m2r.at_ m2r.fn ?_ ?_
  · refine wpAny_call (codeAny_mono (no X.A X.stack s H [.ref a, .ref b] [.ref a, .ref b] hr' I.env0 (.cons rfl (.cons rfl .nil)) hp) ?_)
    rintro r s' (⟨rfl, ce⟩ | ⟨e, rfl, z⟩)
    · obtain ⟨w0, G, I2, _, ⟨_, rfl⟩⟩ := I.after ce
      exact ⟨rfl, I2⟩
    · exact (never H s e s' z).elim
  · intro s' I2
    obtain ⟨o1, K1⟩ := ins_at I2 ha
    obtain ⟨o2, K2⟩ := ins_at I2 hb'
    exact ⟨I2.kIn, ⟨_, o1, K1⟩, ⟨_, o2, K2⟩, thn (run_fn (us := [.ref b, .ref a]) (vs := [.ref b, .ref a]) run hr hb .nil hx I2 (.cons rfl (.cons rfl .nil)) hs) fun v s' q => ep_back q⟩
end
/-- a def of the text that declines what its first row tells -/
theorem no_of {P : Program} {w : World} {K : PySem.W.Frag} {mg : Str → Option Value} {base : Heap} {x qual : Str} {st : Stmt} {f : Addr} {fd : FuncData} {N ps : List Str} {k : Nat} {test : Expr} {rest : List Stmt} {p1 p2 p3 : Pos} {pre : List V → Hp → Prop}
    (F : Fun K x qual st f fd) (S : FnScope N ps (defScope st)) (hst : defBody st = .If test [.Return (some (.Name "NotImplemented" p1)) p2] [] p3 :: rest) (hg : (defScope st).names.lookup ("NotImplemented" : Str) = some NameKind.globalImplicit) (hmg : mg "NotImplemented" = none)
    (hb : Binds K fd ps []) (len : ∀ vs H, pre vs H → vs.length = ps.length)
    (ht : ∀ (cdv : Value) (A : Around) (outer : List Env) (s : Shared) (H : Hp) (vs : List V), Room k (A.deeper (envOfC qual (defScope st) s.heap.objs.size f cdv)) → pre vs H →
      ∃ t, PT (cxOf CX0 P w K mg base N qual (defScope st) f cdv A outer s H (fun _ _ _ => False)) test t ∧ t (start N vs) H (fun b G => b = true ∧ G = H)) : FnNo P w K mg base CX0 (k + 1) f pre := by
  obtain ⟨oc, od, kV, doc, pm, an, cdv, ct, osl, rfl, lk, hcd⟩ := F.ex
  rw [hst] at lk hb
  intro A outer s H us vs room e0 r hp
  have hl := len vs H hp
  have KX : K.In s.heap := e0.mod.kin.keeps fun b o z => (e0.bs b o z).1
  have hlu : (us ++ []).length = ps.length := by
    rw [List.append_nil, ← r.length]
    exact hl
  have bd := hb s us KX hlu
  rw [List.append_nil] at bd
  exact fn_no lk hcd S hg hmg hl room e0 bd r fun rm => ht cdv A outer s H vs rm hp
end MoL

/-! # None beside an instance under ==, and x in an instance -/
namespace MoW
open PySem PySem.W PyProof.Rows
section
variable {prog : Program} {w : World} {A : Around} {E : Value → Shared → Prop} {s : Shared} {K : Frag} {x C f : Addr} {ox : Obj} {od : Option Obj}
theorem none_eq_no (l : Addr) : Gives (Builtin.«NoneType.__eq__» ⟨[.none, .ref l], []⟩) (.val (Value.notImplemented)) :=
  .of_wp fun M A E s Q h => by obtain ⟨hp, g, d, tk, os⟩ := s; wp_walk; exact ⟨_, rfl, h⟩
/-- None == x: both decline, they are not one thing -/
theorem cmp_none_own {Q : Value → Shared → Prop} {R : Shared → Prop} (hu : A.units < cLine) (X : K.In s.heap) (I : W.InstAt s.heap x ox C od) (hn : subIn K (.ref C) (.type "NoneType") = some false)
    (hs : findIn K (.ref C) "__eq__" = some (some (.ref f))) (hf : isFn K (.ref f) = true)
    (h : wpAny (model prog w) A (call (.ref f) [.ref x, .none]) (fun v s' => v = .notImplemented ∧ Q (.bool false) s') E s) : wpAny (model prog w) A (richCompare .Eq .none (.ref x)) Q E s := by
  have ty : ∀ s' : Shared, s'.TypeIs .none "NoneType" := fun _ => rfl
  unfold richCompare
  simp only [(ty s).oneThing_none]
  refine wpAny_holding (wpAny_bind (wpAny_cRoomFor hu ?_))
  refine wpAny_bind (wpAny_typeOf (ty s) (wpAny_bind (I.type.here ?_)))
  have hne : (Value.type "NoneType" != Value.ref C) = true := rfl
  simp only [hne, if_true]
  refine wpAny_bind ((looks_subIn X hn).here ?_)
  simp only [Bool.false_eq_true, if_false, Bool.not_false, if_true]
  refine wpAny_bind (m := tryCompare .none _ (.ref x)) (wpAny_tryCompare_declines (ty s) PySem.F.slot_NoneType_eq (call_gives PySem.F.slot_NoneType_eq rfl PySem.F.entry_NoneType_eq (PySem.F.args_NoneType_eq_2 _ _) (none_eq_no x) ⟨rfl, ?_⟩))
  refine wpAny_bind (m := tryCompare (.ref x) _ .none) ?_
  unfold tryCompare
  refine wpAny_bind (ifBound_K X I hs hf (wpAny_mono h (fun v s' hv => ?_) fun _ _ e => e))
  obtain ⟨rfl, q⟩ := hv
  exact wpAny_pure (wpAny_bind (wpAny_rule (wpAny_bind (wpAny_of_eq (show isSame .none (.ref x) = pure false from rfl) (wpAny_pure q)))))
/-- x == None, x's own method declines -/
theorem cmp_own_none {Q : Value → Shared → Prop} {R : Shared → Prop} (hu : A.units < cLine) (X : K.In s.heap) (I : W.InstAt s.heap x ox C od) (hn : subIn K (.type "NoneType") (.ref C) = some false)
    (hs : findIn K (.ref C) "__eq__" = some (some (.ref f))) (hf : isFn K (.ref f) = true)
    (h : wpAny (model prog w) A (call (.ref f) [.ref x, .none]) (fun v s' => v = .notImplemented ∧ Q (.bool false) s') E s) : wpAny (model prog w) A (richCompare .Eq (.ref x) .none) Q E s := by
  have ty : ∀ s' : Shared, s'.TypeIs .none "NoneType" := fun _ => rfl
  unfold richCompare
  simp only [oneThing_ref]
  refine wpAny_holding (wpAny_bind (wpAny_cRoomFor hu ?_))
  refine wpAny_bind (I.type.here (wpAny_bind (wpAny_typeOf (ty s) ?_)))
  have hne : (Value.ref C != Value.type "NoneType") = true := rfl
  simp only [hne, if_true]
  refine wpAny_bind ((looks_subIn X hn).here ?_)
  simp only [Bool.false_eq_true, if_false, Bool.not_false, if_true]
  refine wpAny_bind (m := tryCompare (.ref x) _ .none) ?_
  have one : wpAny (model prog w) A (tryCompare (.ref x) "__eq__" .none) (fun r s' => r = none ∧ Q (.bool false) s') E s := by
    unfold tryCompare
    refine wpAny_bind (ifBound_K X I hs hf (wpAny_mono h (fun v s' hv => ?_) fun _ _ e => e))
    obtain ⟨rfl, q⟩ := hv
    exact wpAny_pure ⟨rfl, q⟩
  refine wpAny_mono one (fun r s' z => ?_) fun _ _ e => e
  obtain ⟨rfl, q⟩ := z
  refine wpAny_bind (m := tryCompare .none _ (.ref x)) (wpAny_tryCompare_declines (ty s') PySem.F.slot_NoneType_eq_refl (call_gives PySem.F.slot_NoneType_eq_refl rfl PySem.F.entry_NoneType_eq (PySem.F.args_NoneType_eq_2 _ _) (none_eq_no x) ⟨rfl, ?_⟩))
  exact wpAny_bind (wpAny_rule (wpAny_bind (wpAny_of_eq (show isSame (.ref x) .none = pure false from rfl) (wpAny_pure q))))
end
end MoW
namespace MoL
open PySem PySem.Spec PyProof.Rows L2 MoW
section
variable {X : Cx} {CX CX' : CXT} {k k' : Nat} {C D f f' g g' : Addr} {fd : FuncData} {ps : List Str} {sp : Sp} {E : XK} {pre : List V → Hp → Prop}
/-- x == None and None == x: not equal, the instance's own method declines -/
theorem op_eq_none (h1 : PySem.W.subIn X.K (.ref C) (.type "NoneType") = some false) (h2 : PySem.W.subIn X.K (.type "NoneType") (.ref C) = some false) (m : Meth X.K C "__eq__" f)
    (no : FnNo X.prog X.w X.K X.mg X.base CX' k' f pre) (hr' : Room k' X.A) (never : ∀ (H : Hp) s e s', CX' X.stack H s (fun _ _ _ => False) e s' → False) :
    OpR X (compareOp .Eq) (fun x y H Q => ((x = .non ∧ Ins H y C ∧ pre [y, .non] H) ∨ (y = .non ∧ Ins H x C ∧ pre [x, .non] H)) ∧ Q (.bl false) H) := by
  intro pins s σ H x y v u Q I rx ry h
  obtain ⟨h, q⟩ := h
  have run : ∀ a : Addr, pre [.ref a, .non] H → wpAny (model X.prog X.w) X.A (call (.ref f) [.ref a, .none]) (fun v s' => v = .notImplemented ∧ EP X pins σ Q (.bool false) s') X.xe s := fun a hp => by
    refine wpAny_call (codeAny_mono (no X.A X.stack s H [.ref a, .none] [.ref a, .non] hr' I.env0 (.cons rfl (.cons rfl .nil)) hp) ?_)
    rintro r s' (⟨rfl, ce⟩ | ⟨e, rfl, z⟩)
    · obtain ⟨w0, G, I2, _, ⟨_, rfl⟩⟩ := I.after ce
      exact ⟨rfl, .bl false, _, I2, rfl, q⟩
    · exact (never H s e s' z).elim
  rcases h with ⟨rfl, ⟨a, dx, fs, rfl, ha⟩, hp⟩ | ⟨rfl, ⟨a, dx, fs, rfl, ha⟩, hp⟩
  · cases (show v = Value.none from rx)
    cases (show u = Value.ref a from ry)
    obtain ⟨od, J⟩ := ins_at I ha
    exact cmp_none_own (R := fun _ => True) hr'.units0 I.kIn J h1 m.at_ m.fn (run a hp)
  · cases (show v = Value.ref a from rx)
    cases (show u = Value.none from ry)
    obtain ⟨od, J⟩ := ins_at I ha
    exact cmp_own_none (R := fun _ => True) hr'.units0 I.kIn J h2 m.at_ m.fn (run a hp)
/-- x in an instance -/
theorem op_in_own (m : Meth X.K C "__contains__" f) (F : FnOk X.prog X.w X.K X.mg X.base CX k f fd ps sp) (hr : Room k X.A) (hb : Binds X.K fd ps []) (hx : Passes CX X E) :
    OpR X (compareOp .In) (fun x y H Q => Ins H y C ∧ sp [y, x] H (fun v H' => ∃ b, v = .bl b ∧ Q (.bl b) H') E) := by
  intro pins s σ H x y v u Q I rx ry h
  obtain ⟨⟨a, dx, fs, rfl, ha⟩, hs⟩ := h
  cases (show u = Value.ref a from ry)
  obtain ⟨od, J⟩ := ins_at I ha
  obtain ⟨mm, hF⟩ := I.fr
  refine PySem.W.in_K hF I.ok.mod.kin J m.at_ m.fn (thn (run_fn (us := [.ref a, v]) (vs := [.ref a, x]) F hr hb .nil hx I (.cons rfl (.cons rx .nil)) hs) fun r s' q => ?_)
  obtain ⟨z, H', I', r1, b, rfl, q⟩ := q
  cases (show r = Value.bool b from r1)
  exact wpAny_truthy_bool ⟨.bl b, H', I', rfl, q⟩
end
/-- a list read by place, the written part named (in a lambda's body the context must not show) -/
theorem ix_listK {X : Cx} {K : PySem.W.Frag} (h : X.K = K) : IxR X (rIxL K) := h ▸ ix_list
end MoL

/-! # math.lcm of long numbers, math.comb, a comprehension over zip -/
namespace MoL
open PySem PySem.Spec PyProof.Rows L2 MoW
section
variable {X : Cx}
def rLcm : List V → Hp → VK → Prop := fun vs H Q => ∃ a b : Int, vs = [.int a, .int b] ∧ Sm a ∧ Sm b ∧ Q (.int ((Nat.lcm a.natAbs b.natAbs : Nat) : Int)) H
theorem cr_lcm : CallR X (.builtin "math.lcm") rLcm := by
  intro pins s σ H vs us Q I r h
  obtain ⟨a, b, rfl, sa, sb, q⟩ := h
  obtain ⟨t, u, rfl⟩ := Vals.int2 r
  have la : a.natAbs.log2 < 4000 + 1 := Nat.lt_succ_of_le (Nat.le_of_lt_succ (Nat.lt_succ_of_lt (PySem.Flt.log2_lt_of (by decide) sa)))
  have lb : b.natAbs.log2 < 4000 + 1 := Nat.lt_succ_of_le (Nat.le_of_lt_succ (Nat.lt_succ_of_lt (PySem.Flt.log2_lt_of (by decide) sb)))
  have m1 : (max 1 a.natAbs).log2 < 4001 := by
    rcases Nat.le_total 1 a.natAbs with h | h
    · rw [Nat.max_eq_right h]; exact la
    · rw [Nat.max_eq_left h]; decide
  have m2 : (max a.natAbs b.natAbs).log2 < 4001 := by
    rcases Nat.le_total a.natAbs b.natAbs with h | h
    · rw [Nat.max_eq_right h]; exact lb
    · rw [Nat.max_eq_left h]; exact la
  have hsz : ((((Nat.lcm 1 a.natAbs).lcm b.natAbs : Nat) : Int)).natAbs.log2 < bitsLine := by
    rw [PySem.W.mc_lcm_one]
    have h1 : a.natAbs.lcm b.natAbs < 2 ^ 8000 := Nat.lt_of_le_of_lt (PySem.W.mc_lcm_le _ _) (Nat.lt_of_lt_of_le (Nat.mul_lt_mul'' sa sb) (by rw [← Nat.pow_add]; exact Nat.le_refl _))
    have h2 : ((a.natAbs.lcm b.natAbs : Nat) : Int).natAbs.log2 < 8000 := PySem.Flt.log2_lt_of (by decide) h1
    exact Nat.lt_of_lt_of_le h2 (by decide)
  have e : ((((Nat.lcm 1 a.natAbs).lcm b.natAbs : Nat) : Int)) = ((a.natAbs.lcm b.natAbs : Nat) : Int) := by rw [PySem.W.mc_lcm_one]
  exact call_function_meets PySem.W.MGF.kind_lcm PySem.W.MGF.plain_lcm PySem.W.MGF.entry_lcm (PySem.W.MGF.args_lcm _ _) (PySem.W.mg_run_lcm a t b u (by omega) (by omega) hsz).meets (e ▸ ⟨.int _, H, I.tok _, ⟨_, rfl⟩, q⟩)
def rComb : List V → Hp → VK → Prop := fun vs H Q => ∃ a b : Int, vs = [.int a, .int b] ∧ 0 ≤ a ∧ 0 ≤ b ∧ a < 1000 ∧ b < 1000 ∧ Q (.int (PySem.W.mcComb a b)) H
theorem cr_comb : CallR X (.builtin "math.comb") rComb := by
  intro pins s σ H vs us Q I r h
  obtain ⟨a, b, rfl, ha, hb, ha2, hb2, q⟩ := h
  obtain ⟨t, u, rfl⟩ := Vals.int2 r
  exact PySem.W.mc_comb ha hb (by omega) (.inl (by omega)) fun _ => ⟨.int _, H, I.tok _, ⟨_, rfl⟩, q⟩
end
/-- [e for a, b in zip(xs, ys)]: both lists stay -/
theorem lc_zip {K : PySem.W.Frag} {a b : Addr} {xs ys : List V} {g : TG} {tt : TT} {te : TE} {vs : List Nat} {σ : L2.St} {H1 : Hp} {D : Addr} {Qd : Hp → Prop} (Pv : Nat → Hp → Prop) (h0 : Pv 0 (upd H1 D (.lst [])))
    (hl : ∀ i H, i ≤ min xs.length ys.length → Pv i H → SqL K H a xs ∧ SqL K H b ys)
    (hs : ∀ i x y H T, xs[i]? = some x → ys[i]? = some y → H T = none → Pv i H → g (.ref T) (wipe σ vs) (upd H T (.tup [x, y])) fun σ2 H2 => wipe σ2 vs = wipe σ vs ∧ tt σ2 H2 fun b H3 =>
      if b = true then te σ2 H3 fun y H4 => ∃ acc, H4 D = some (.lst acc) ∧ acc.length < sizeLine ∧ Pv (i + 1) (upd H4 D (.lst (acc ++ [y]))) else Pv (i + 1) H3) (hd : ∀ H, Pv (min xs.length ys.length) H → Qd H) :
    ∃ W : Nat → Nat → Hp → Prop, (∃ m, W 0 m (upd H1 D (.lst []))) ∧ ∀ i m H, W i m H →
      ((Itz K a b).stop i H ∧ Qd H) ∨ ((Itz K a b).go i H ∧ ∃ Nx : Hp → Prop, (∀ H', Nx H' → ∃ m', m' < m ∧ W (i + 1) m' H') ∧ ∀ x H', (Itz K a b).yld i H x H' → g x (wipe σ vs) H' fun σ2 H2 => wipe σ2 vs = wipe σ vs ∧ tt σ2 H2 fun b H3 =>
        if b = true then te σ2 H3 fun y H4 => ∃ acc, H4 D = some (.lst acc) ∧ acc.length < sizeLine ∧ Nx (upd H4 D (.lst (acc ++ [y]))) else Nx H3) := by
  refine ⟨fun i m H => m = min xs.length ys.length - i ∧ i ≤ min xs.length ys.length ∧ Pv i H, ⟨min xs.length ys.length, by simp, Nat.zero_le _, h0⟩, ?_⟩
  rintro i m H ⟨rfl, hi, p⟩
  obtain ⟨q1, q2⟩ := hl i H hi p
  by_cases hlt : i < min xs.length ys.length
  · have l1 : i < xs.length := by omega
    have l2 : i < ys.length := by omega
    refine .inr ⟨⟨xs, ys, xs[i], ys[i], q1, q2, List.getElem?_eq_getElem l1, List.getElem?_eq_getElem l2⟩, Pv (i + 1), fun H' h => ⟨_, by omega, rfl, by omega, h⟩, ?_⟩
    rintro x H' ⟨T, u, v, rfl, hT, rfl, e1, e2⟩
    exact hs i u v H T (e1 _ q1) (e2 _ q2) hT p
  · have e : i = min xs.length ys.length := by omega
    subst e
    exact .inl ⟨⟨xs, ys, q1, q2, by omega⟩, hd H p⟩
/-! ### f(e, .., k = v) in a body whose errors are caught -/
def tCallNS (n m : Nat) (sp : Sp) (gV : List V → List V → List V) (W : L2.St → XK) (t tk : TA) : TE := fun σ H Q => t σ H fun vs H1 => tk σ H1 fun zs H2 => vs.length = n ∧ zs.length = m ∧ sp (gV vs zs) H2 Q (W σ)
section
variable {X : Cx} {CX : CXT} {k n : Nat} {f : Addr} {fd : FuncData} {ps ks : List Str} {sp : Sp} {W : L2.St → XK} {x : Str} {p pos : Pos} {e : Expr} {es : List Expr} {kws : List Keyword} {t tk : TA} {g : List Value → List Value → List Value} {gV : List V → List V → List V}
theorem pe_callNS (F : FnOk X.prog X.w X.K X.mg X.base CX k f fd ps sp) (hr : Room k X.A) (hg : Gl X x) (hm : X.mg x = some (.ref f)) (hk : PySem.W.keepIn X.K (.ref f) = true) (hb : KBn X.K fd ps n ks g gV) (hx : ∀ σ, PassesAt CX X σ (W σ))
    (ha : PA X (e :: es) t) (hkw : PK X kws tk) (hall : (backToKw pos (keywordEach kws X.env)).all (·.1.isSome) = true := by rfl) (hks : (backToKw pos (keywordEach kws X.env)).filterMap (·.1) = ks := by rfl)
    (hdb : (x == ("__debug__" : Str)) = false := by decide) (he : starEach (e :: es) X.env = (false, eval e X.env) :: starEach es X.env := by rfl)
    (hpl : ((backTo pos (starEach (e :: es) X.env)).any (·.1) || (backToKw pos (keywordEach kws X.env)).any (·.1.isNone)) = false := by rfl) :
    PE X (.Call (.Name x p) (e :: es) kws pos) (tCallNS n ks.length sp gV W t tk) := by
  refine ⟨fun pins s σ H Q I h => ?_⟩
  refine wpAny_Call_Name_kw (ld_glob I hg hm ?_ hdb)
  refine PySem.W.callWith_KW (h₀ := X.base) I.ok.mod.kin hk hall (thn (ha.run pos pins s σ H _ I h) fun us s1 ⟨vs, H1, I1, r, q⟩ => ?_) hpl he
  refine thn (hkw.run pos pins s1 σ H1 _ I1 q) fun ws s2 ⟨zs, H2, I2, rz, l1, l2, q2⟩ => ⟨I2.kIn, ?_⟩
  rw [hks]
  have r2 := hb.rel r rz
  refine wpAny_call (codeAny_mono (F.run X.A X.stack s2 H2 ⟨us, ks.zip ws⟩ (g us ws) (gV vs zs) Q (W σ) hr I2.env0 (hb.to s2 us ws I2.kIn (r.length.symm.trans l1) (rz.length.symm.trans l2)) r2 q2) fun r s' hq => ?_)
  cases r with
  | error e => exact hx σ pins _ _ e s' I2 hq
  | ok fl =>
    cases fl with
    | ret u => exact I2.after hq
    | next => exact False.elim hq
    | brk => exact False.elim hq
    | cont => exact False.elim hq
end
/-- a field, the written part named (in a comprehension's block the context must not show) -/
theorem pe_fldK {X : Cx} {K : PySem.W.Frag} {e : Expr} {f : Str} {pos : Pos} {ta : TE} (h : X.K = K) (he : PE X e ta) (hb : attributeBase e f X.env (eval e X.env) = eval e X.env) : PE X (.Attribute e f pos) (tFld K ta f) := h ▸ pe_fld he hb
theorem pg_tupK {X : Cx} {K : PySem.W.Frag} {es : List Expr} {k n : Nat} {pos : Pos} {t : TGs} (h : X.K = K) (hc : X.calm = true) (hp : PGs X es t)
    (hn : (assignEach es X.env).length = n := by rfl) (hst : (assignEach es X.env).findIdx? (·.1) = none := by rfl) : PG X (.Tuple es k pos) (gTup K n t) := h ▸ pg_tup hc hp hn hst
end MoL

/-! # Errors without fields that are caught, calls with keywords alone -/
namespace MoL
open PySem PySem.Spec PyProof.Rows L2 MoW
def rIsNo (K : PySem.W.Frag) (a : Addr) (cls : Value) (d : Option Addr) (D : Addr) : List V → Hp → VK → Prop := fun xs H Q => ∃ (c : V) (cv : Value) (b : Bool), xs = [.ref a, c] ∧ cls = .ref D ∧ d = none ∧ ClsV c cv ∧ PySem.W.kitOne K (.ref D) cv = some b ∧ Q (.bl b) H
theorem call_isN {X : Cx} {a D : Addr} {oe : Obj} {cls : Value} {d : Option Addr} {pn : List (Addr × Obj)} (C : ExcC X.K D) (hz : Zc cls d oe) (hf : ∃ vs, oe.data = .fields vs) : CallR (X.suite a ((a, oe) :: pn)) (.builtin "isinstance") (rIsNo X.K a cls d D) := by
  intro pins s σ H xs us Q I r h
  obtain ⟨c, cv, b, rfl, rfl, rfl, hc, e, q⟩ := h
  exact call_isE C hz hf pins s σ H _ us Q I r ⟨c, cv, b, rfl, fun u r => hc.eq r, e, q⟩
theorem ErrC.em {K : PySem.W.Frag} {M C : Addr} {nm : Str} (e : ErrC K M C nm) : PySem.W.exmOne K (.ref C) (.ref C) = some true := PySem.W.exm_ref e.exc e.row.dict e.row.ty (by rw [e.row.sub]; simp)
section
variable {X : Cx} {CX : CXT} {k : Nat} {f : Addr} {fd : FuncData} {ps ks : List Str} {sp : Sp} {E : XK} {x : Str} {p pos : Pos} {kws : List Keyword} {tk : TA} {g : List Value → List Value → List Value} {gV : List V → List V → List V}
theorem pe_callN0 (F : FnOk X.prog X.w X.K X.mg X.base CX k f fd ps sp) (hr : Room k X.A) (hg : Gl X x) (hm : X.mg x = some (.ref f)) (hk : PySem.W.keepIn X.K (.ref f) = true) (hb : KBn X.K fd ps 0 ks g gV) (hx : Passes CX X E) (hkw : PK X kws tk)
    (hall : (backToKw pos (keywordEach kws X.env)).all (·.1.isSome) = true := by rfl) (hks : (backToKw pos (keywordEach kws X.env)).filterMap (·.1) = ks := by rfl) (hdb : (x == ("__debug__" : Str)) = false := by decide)
    (hpl : ((backTo pos (starEach [] X.env)).any (·.1) || (backToKw pos (keywordEach kws X.env)).any (·.1.isNone)) = false := by rfl) :
    PE X (.Call (.Name x p) [] kws pos) (tCallN 0 ks.length sp gV E tNil tk) := by
  refine ⟨fun pins s σ H Q I h => ?_⟩
  refine wpAny_Call_Name_kw (ld_glob I hg hm ?_ hdb)
  refine PySem.W.callWith_KW0 (h₀ := X.base) I.ok.mod.kin hk hall ?_ hpl
  refine thn (hkw.run pos pins s σ H _ I h) fun ws s2 ⟨zs, H2, I2, rz, l1, l2, q2⟩ => ⟨I2.kIn, ?_⟩
  rw [hks]
  exact run_fnN (us := []) (vs := []) F hr hb hx I2 .nil rz rfl l2 q2
end
end MoL

namespace MoL
open PySem PySem.Spec PyProof.Rows L2 MoW
/-- a slice inside a comprehension -/
theorem sl_listK {X : Cx} {K : PySem.W.Frag} (h : X.K = K) : SlR X (rSlL K) := h ▸ sl_list
end MoL

namespace Mo
open PySem PySem.Spec PyProof.Rows L2 MoL MoW
open C8 (pss_cut tCut)
/-! ### the text -/
def topS (i : Nat) : Stmt := PySem.Challenge.pw_momentrows_k21_shifted_rows.main.body.getD i (.Pass ⟨0, 0, 0, 0⟩)
abbrev s_Ratio___init__ : Stmt := inClass (topS 13) 0
abbrev N_Ratio___init__ : List Str := ["self", "top", "bottom", "shared"]
theorem sc_Ratio___init__ : FnScope N_Ratio___init__ ["self", "top", "bottom"] (defScope s_Ratio___init__) := ⟨rfl, rfl, rfl, by decide +kernel, rfl, by decide +kernel, by decide +kernel⟩
abbrev s_Ratio___eq__ : Stmt := inClass (topS 13) 14
abbrev N_Ratio___eq__ : List Str := ["self", "other"]
theorem sc_Ratio___eq__ : FnScope N_Ratio___eq__ ["self", "other"] (defScope s_Ratio___eq__) := ⟨rfl, rfl, rfl, by decide +kernel, rfl, by decide +kernel, by decide +kernel⟩
abbrev s_is_whole : Stmt := topS 14
abbrev N_is_whole : List Str := ["x"]
theorem sc_is_whole : FnScope N_is_whole ["x"] (defScope s_is_whole) := ⟨rfl, rfl, rfl, by decide +kernel, rfl, by decide +kernel, by decide +kernel⟩
abbrev s_is_number : Stmt := topS 15
abbrev N_is_number : List Str := ["x"]
theorem sc_is_number : FnScope N_is_number ["x"] (defScope s_is_number) := ⟨rfl, rfl, rfl, by decide +kernel, rfl, by decide +kernel, by decide +kernel⟩
abbrev s_ratio_of : Stmt := topS 16
abbrev N_ratio_of : List Str := ["number"]
theorem sc_ratio_of : FnScope N_ratio_of ["number"] (defScope s_ratio_of) := ⟨rfl, rfl, rfl, by decide +kernel, rfl, by decide +kernel, by decide +kernel⟩
abbrev s_whole_parts : Stmt := topS 17
abbrev N_whole_parts : List Str := ["ratios", "bottom", "number"]
theorem sc_whole_parts : FnScope N_whole_parts ["ratios"] (defScope s_whole_parts) := ⟨rfl, rfl, rfl, by decide +kernel, rfl, by decide +kernel, by decide +kernel⟩
abbrev s__gap : Stmt := topS 25
abbrev N__gap : List Str := ["one", "other"]
theorem sc__gap : FnScope N__gap ["one", "other"] (defScope s__gap) := ⟨rfl, rfl, rfl, by decide +kernel, rfl, by decide +kernel, by decide +kernel⟩
abbrev s_trimmed : Stmt := topS 28
abbrev N_trimmed : List Str := ["numbers", "size"]
theorem sc_trimmed : FnScope N_trimmed ["numbers"] (defScope s_trimmed) := ⟨rfl, rfl, rfl, by decide +kernel, rfl, by decide +kernel, by decide +kernel⟩
abbrev s_shifted_row : Stmt := topS 33
abbrev N_shifted_row : List Str := ["row", "p", "factors", "tops", "bottom", "size", "k"]
theorem sc_shifted_row : FnScope N_shifted_row ["row", "p"] (defScope s_shifted_row) := ⟨rfl, rfl, rfl, by decide +kernel, rfl, by decide +kernel, by decide +kernel⟩
abbrev s_row_numbers : Stmt := topS 34
abbrev N_row_numbers : List Str := ["row", "k", "number"]
theorem sc_row_numbers : FnScope N_row_numbers ["row"] (defScope s_row_numbers) := ⟨rfl, rfl, rfl, by decide +kernel, rfl, by decide +kernel, by decide +kernel⟩
abbrev s_paired : Stmt := topS 35
abbrev N_paired : List Str := ["factors", "tops", "k"]
theorem sc_paired : FnScope N_paired ["factors", "tops"] (defScope s_paired) := ⟨rfl, rfl, rfl, by decide +kernel, rfl, by decide +kernel, by decide +kernel⟩
abbrev s__over_one_bottom : Stmt := topS 36
abbrev N__over_one_bottom : List Str := ["row", "p", "numbers", "factors", "under", "tops", "bottom"]
theorem sc__over_one_bottom : FnScope N__over_one_bottom ["row", "p"] (defScope s__over_one_bottom) := ⟨rfl, rfl, rfl, by decide +kernel, rfl, by decide +kernel, by decide +kernel⟩
abbrev s_Poly___init__ : Stmt := inClass (topS 39) 0
abbrev N_Poly___init__ : List Str := ["self", "coefficients", "number"]
theorem sc_Poly___init__ : FnScope N_Poly___init__ ["self", "coefficients"] (defScope s_Poly___init__) := ⟨rfl, rfl, rfl, by decide +kernel, rfl, by decide +kernel, by decide +kernel⟩
abbrev s_Poly___mul__ : Stmt := inClass (topS 39) 7
abbrev N_Poly___mul__ : List Str := ["self", "other"]
theorem sc_Poly___mul__ : FnScope N_Poly___mul__ ["self", "other"] (defScope s_Poly___mul__) := ⟨rfl, rfl, rfl, by decide +kernel, rfl, by decide +kernel, by decide +kernel⟩
abbrev s_Poly___rmul__ : Stmt := inClass (topS 39) 8
abbrev N_Poly___rmul__ : List Str := ["self", "other"]
theorem sc_Poly___rmul__ : FnScope N_Poly___rmul__ ["self", "other"] (defScope s_Poly___rmul__) := ⟨rfl, rfl, rfl, by decide +kernel, rfl, by decide +kernel, by decide +kernel⟩
abbrev s_poly_of : Stmt := topS 40
abbrev N_poly_of : List Str := ["q"]
theorem sc_poly_of : FnScope N_poly_of ["q"] (defScope s_poly_of) := ⟨rfl, rfl, rfl, by decide +kernel, rfl, by decide +kernel, by decide +kernel⟩
abbrev s__is_operand : Stmt := topS 41
abbrev N__is_operand : List Str := ["x"]
theorem sc__is_operand : FnScope N__is_operand ["x"] (defScope s__is_operand) := ⟨rfl, rfl, rfl, by decide +kernel, rfl, by decide +kernel, by decide +kernel⟩
abbrev s_product_polys : Stmt := topS 45
abbrev N_product_polys : List Str := ["one", "other", "tops", "bottom", "factors", "under", "size", "found", "k", "j", "top"]
theorem sc_product_polys : FnScope N_product_polys ["one", "other"] (defScope s_product_polys) := ⟨rfl, rfl, rfl, by decide +kernel, rfl, by decide +kernel, by decide +kernel⟩
abbrev s__law_is_integer : Stmt := topS 49
abbrev N__law_is_integer : List Str := ["_law_value"]
theorem sc__law_is_integer : FnScope N__law_is_integer ["_law_value"] (defScope s__law_is_integer) := ⟨rfl, rfl, rfl, by decide +kernel, rfl, by decide +kernel, by decide +kernel⟩
abbrev s__law_feed : Stmt := topS 50
abbrev N__law_feed : List Str := ["_law_script", "_law_cell"]
theorem sc__law_feed : FnScope N__law_feed ["_law_script"] (defScope s__law_feed) := ⟨rfl, rfl, rfl, by decide +kernel, rfl, by decide +kernel, by decide +kernel⟩
abbrev s__law_take : Stmt := topS 51
abbrev N__law_take : List Str := ["_law_feed_here", "_law_size", "_law_cell", "_law_digit", "_law_number_here"]
theorem sc__law_take : FnScope N__law_take ["_law_feed_here", "_law_size"] (defScope s__law_take) := ⟨rfl, rfl, rfl, by decide +kernel, rfl, by decide +kernel, by decide +kernel⟩
abbrev s__law_number : Stmt := topS 52
abbrev N__law_number : List Str := ["_law_feed_here", "_law_size", "_law_sign"]
theorem sc__law_number : FnScope N__law_number ["_law_feed_here", "_law_size"] (defScope s__law_number) := ⟨rfl, rfl, rfl, by decide +kernel, rfl, by decide +kernel, by decide +kernel⟩
abbrev s__law_is : Stmt := topS 53
abbrev N__law_is : List Str := ["_law_value", "_law_top", "_law_bottom"]
theorem sc__law_is : FnScope N__law_is ["_law_value", "_law_top", "_law_bottom"] (defScope s__law_is) := ⟨rfl, rfl, rfl, by decide +kernel, rfl, by decide +kernel, by decide +kernel⟩
abbrev s__law_row_is : Stmt := topS 54
abbrev N__law_row_is : List Str := ["_law_values", "_law_pairs", "_law_k"]
theorem sc__law_row_is : FnScope N__law_row_is ["_law_values", "_law_pairs"] (defScope s__law_row_is) := ⟨rfl, rfl, rfl, by decide +kernel, rfl, by decide +kernel, by decide +kernel⟩
abbrev s__law_add : Stmt := topS 55
abbrev N__law_add : List Str := ["_law_a", "_law_b"]
theorem sc__law_add : FnScope N__law_add ["_law_a", "_law_b"] (defScope s__law_add) := ⟨rfl, rfl, rfl, by decide +kernel, rfl, by decide +kernel, by decide +kernel⟩
abbrev s__law_times : Stmt := topS 56
abbrev N__law_times : List Str := ["_law_a", "_law_b"]
theorem sc__law_times : FnScope N__law_times ["_law_a", "_law_b"] (defScope s__law_times) := ⟨rfl, rfl, rfl, by decide +kernel, rfl, by decide +kernel, by decide +kernel⟩
abbrev s__law_ratios : Stmt := topS 57
abbrev N__law_ratios : List Str := ["_law_pairs", "_law_pair"]
theorem sc__law_ratios : FnScope N__law_ratios ["_law_pairs"] (defScope s__law_ratios) := ⟨rfl, rfl, rfl, by decide +kernel, rfl, by decide +kernel, by decide +kernel⟩
abbrev s__law_row : Stmt := topS 58
abbrev N__law_row : List Str := ["_law_feed_here", "_law_most", "_law_size", "_law_bottom", "_law_row_here", "_law_k"]
theorem sc__law_row : FnScope N__law_row ["_law_feed_here", "_law_most"] (defScope s__law_row) := ⟨rfl, rfl, rfl, by decide +kernel, rfl, by decide +kernel, by decide +kernel⟩
abbrev s__law_coefficients : Stmt := topS 59
abbrev N__law_coefficients : List Str := ["_law_feed_here", "_law_most", "_law_row_here", "_law_size", "_law_bottom", "_law_k"]
theorem sc__law_coefficients : FnScope N__law_coefficients ["_law_feed_here", "_law_most"] (defScope s__law_coefficients) := ⟨rfl, rfl, rfl, by decide +kernel, rfl, by decide +kernel, by decide +kernel⟩
abbrev s__law_lot : Stmt := topS 60
abbrev N__law_lot : List Str := ["_law_feed_here", "_law_most", "_law_size", "_law_top", "_law_points", "_law_weights", "_law_k"]
theorem sc__law_lot : FnScope N__law_lot ["_law_feed_here", "_law_most"] (defScope s__law_lot) := ⟨rfl, rfl, rfl, by decide +kernel, rfl, by decide +kernel, by decide +kernel⟩
abbrev s__law_numbers : Stmt := topS 61
abbrev N__law_numbers : List Str := ["_law_lot_here", "_law_d", "_law_row_here", "_law_powers", "_law_bottom", "_law_k", "_law_power", "_law_j"]
theorem sc__law_numbers : FnScope N__law_numbers ["_law_lot_here", "_law_d"] (defScope s__law_numbers) := ⟨rfl, rfl, rfl, by decide +kernel, rfl, by decide +kernel, by decide +kernel⟩
abbrev s__law_degree : Stmt := topS 62
abbrev N__law_degree : List Str := ["_law_coefficients_here", "_law_degree_here", "_law_k"]
theorem sc__law_degree : FnScope N__law_degree ["_law_coefficients_here"] (defScope s__law_degree) := ⟨rfl, rfl, rfl, by decide +kernel, rfl, by decide +kernel, by decide +kernel⟩
abbrev s__law_due : Stmt := topS 63
abbrev N__law_due : List Str := ["_law_row_here", "_law_coefficients_here", "_law_degree_here", "_law_due_here", "_law_k", "_law_total", "_law_j"]
theorem sc__law_due : FnScope N__law_due ["_law_row_here", "_law_coefficients_here"] (defScope s__law_due) := ⟨rfl, rfl, rfl, by decide +kernel, rfl, by decide +kernel, by decide +kernel⟩
abbrev s__law_refused : Stmt := topS 64
abbrev N__law_refused : List Str := ["_law_row_here", "_law_p", "_law_found"]
theorem sc__law_refused : FnScope N__law_refused ["_law_row_here", "_law_p"] (defScope s__law_refused) := ⟨rfl, rfl, rfl, by decide +kernel, rfl, by decide +kernel, by decide +kernel⟩
abbrev s__law_of_lot : Stmt := topS 65
abbrev N__law_of_lot : List Str := ["_law_feed_here", "_law_lot_here", "_law_coefficients_here", "_law_k", "_law_degree_here", "_law_weights", "_law_value", "_law_power", "_law_j", "_law_rest", "_law_i", "_law_bottom", "_law_due_here"]
theorem sc__law_of_lot : FnScope N__law_of_lot ["_law_feed_here"] (defScope s__law_of_lot) := ⟨rfl, rfl, rfl, by decide +kernel, rfl, by decide +kernel, by decide +kernel⟩
abbrev s_law : Stmt := topS 66
abbrev N_law : List Str := ["_law_script", "_law_feed_here", "_law_k", "_law_row_here", "_law_coefficients_here", "_law_numbers_here", "_law_p", "_law_q", "_law_r", "_law_pair"]
theorem sc_law : FnScope N_law ["_law_script"] (defScope s_law) := ⟨rfl, rfl, rfl, by decide +kernel, rfl, by decide +kernel, by decide +kernel⟩
/-! ### addresses and function objects -/
structure Ad where
  Ratio : Addr
  Poly : Addr
  NoMean : Addr
  MeansError : Addr
  NoRow : Addr
  f_Ratio___init__ : Addr
  f_Ratio___eq__ : Addr
  f_is_whole : Addr
  f_is_number : Addr
  f_ratio_of : Addr
  f_whole_parts : Addr
  f__gap : Addr
  f_trimmed : Addr
  f_shifted_row : Addr
  f_row_numbers : Addr
  f_paired : Addr
  f__over_one_bottom : Addr
  f_Poly___init__ : Addr
  f_Poly___mul__ : Addr
  f_Poly___rmul__ : Addr
  f_poly_of : Addr
  f__is_operand : Addr
  f_product_polys : Addr
  f__law_is_integer : Addr
  f__law_feed : Addr
  f__law_take : Addr
  f__law_number : Addr
  f__law_is : Addr
  f__law_row_is : Addr
  f__law_add : Addr
  f__law_times : Addr
  f__law_ratios : Addr
  f__law_row : Addr
  f__law_coefficients : Addr
  f__law_lot : Addr
  f__law_numbers : Addr
  f__law_degree : Addr
  f__law_due : Addr
  f__law_refused : Addr
  f__law_of_lot : Addr
  f_law : Addr
structure Fd where
  f_Ratio___init__ : FuncData
  f_Ratio___eq__ : FuncData
  f_is_whole : FuncData
  f_is_number : FuncData
  f_ratio_of : FuncData
  f_whole_parts : FuncData
  f__gap : FuncData
  f_trimmed : FuncData
  f_shifted_row : FuncData
  f_row_numbers : FuncData
  f_paired : FuncData
  f__over_one_bottom : FuncData
  f_Poly___init__ : FuncData
  f_Poly___mul__ : FuncData
  f_Poly___rmul__ : FuncData
  f_poly_of : FuncData
  f__is_operand : FuncData
  f_product_polys : FuncData
  f__law_is_integer : FuncData
  f__law_feed : FuncData
  f__law_take : FuncData
  f__law_number : FuncData
  f__law_is : FuncData
  f__law_row_is : FuncData
  f__law_add : FuncData
  f__law_times : FuncData
  f__law_ratios : FuncData
  f__law_row : FuncData
  f__law_coefficients : FuncData
  f__law_lot : FuncData
  f__law_numbers : FuncData
  f__law_degree : FuncData
  f__law_due : FuncData
  f__law_refused : FuncData
  f__law_of_lot : FuncData
  f_law : FuncData
/-- what the written part says -/
structure Txt (K : PySem.W.Frag) (mg : Str → Option Value) (A : Ad) (D : Fd) : Prop where
  g_Ratio : mg "Ratio" = some (.ref A.Ratio)
  k_Ratio : OwnK K A.Ratio
  kp_Ratio : PySem.W.keepIn K (.ref A.Ratio) = true
  M_Ratio : Mk K A.Ratio A.f_Ratio___init__
  g_Poly : mg "Poly" = some (.ref A.Poly)
  k_Poly : OwnB K A.Poly
  n_Poly_coefficients : NoAttr K A.Poly "coefficients"
  n_Poly_degree : NoAttr K A.Poly "degree"
  n_Poly_lead : NoAttr K A.Poly "lead"
  kp_Poly : PySem.W.keepIn K (.ref A.Poly) = true
  M_Poly : Mk K A.Poly A.f_Poly___init__
  g_MeansError : mg "MeansError" = some (.ref A.MeansError)
  g_NoRow : mg "NoRow" = some (.ref A.NoRow)
  g_NoMean : mg "NoMean" = some (.ref A.NoMean)
  e_NoMean : ErrC K A.MeansError A.NoMean "NoMean"
  xn_NoMean : PySem.W.excIn K A.NoMean [.type "ValueError", .type "Exception", .type "BaseException", .type "object"] "ValueError.__new__" = true
  F_Ratio___init__ : FunD K "__init__" "Ratio.__init__" (defArgs s_Ratio___init__) (defBody s_Ratio___init__) (defScope s_Ratio___init__) [.int 1] [] A.f_Ratio___init__ D.f_Ratio___init__
  b_Ratio___init__ : Binds K D.f_Ratio___init__ ["self", "top", "bottom"] []
  b1_Ratio___init__ : ∃ ds, Vals [.int 1] ds ∧ Binds K D.f_Ratio___init__ ["self", "top", "bottom"] ds
  m_Ratio___init__ : Meth K A.Ratio "__init__" A.f_Ratio___init__
  F_Ratio___eq__ : Fun K "__eq__" "Ratio.__eq__" s_Ratio___eq__ A.f_Ratio___eq__ D.f_Ratio___eq__
  b_Ratio___eq__ : Binds K D.f_Ratio___eq__ ["self", "other"] []
  m_Ratio___eq__ : Meth K A.Ratio "__eq__" A.f_Ratio___eq__
  F_is_whole : Fun K "is_whole" "is_whole" s_is_whole A.f_is_whole D.f_is_whole
  b_is_whole : Binds K D.f_is_whole ["x"] []
  g_is_whole : mg "is_whole" = some (.ref A.f_is_whole)
  F_is_number : Fun K "is_number" "is_number" s_is_number A.f_is_number D.f_is_number
  b_is_number : Binds K D.f_is_number ["x"] []
  g_is_number : mg "is_number" = some (.ref A.f_is_number)
  F_ratio_of : Fun K "ratio_of" "ratio_of" s_ratio_of A.f_ratio_of D.f_ratio_of
  b_ratio_of : Binds K D.f_ratio_of ["number"] []
  g_ratio_of : mg "ratio_of" = some (.ref A.f_ratio_of)
  F_whole_parts : Fun K "whole_parts" "whole_parts" s_whole_parts A.f_whole_parts D.f_whole_parts
  b_whole_parts : Binds K D.f_whole_parts ["ratios"] []
  g_whole_parts : mg "whole_parts" = some (.ref A.f_whole_parts)
  F__gap : Fun K "_gap" "_gap" s__gap A.f__gap D.f__gap
  b__gap : Binds K D.f__gap ["one", "other"] []
  g__gap : mg "_gap" = some (.ref A.f__gap)
  F_trimmed : Fun K "trimmed" "trimmed" s_trimmed A.f_trimmed D.f_trimmed
  b_trimmed : Binds K D.f_trimmed ["numbers"] []
  g_trimmed : mg "trimmed" = some (.ref A.f_trimmed)
  F_shifted_row : Fun K "shifted_row" "shifted_row" s_shifted_row A.f_shifted_row D.f_shifted_row
  b_shifted_row : Binds K D.f_shifted_row ["row", "p"] []
  kb0_shifted_row : KBn K D.f_shifted_row ["row", "p"] 0 ["row", "p"] (fun us ws => us ++ ws) (fun vs zs => vs ++ zs)
  g_shifted_row : mg "shifted_row" = some (.ref A.f_shifted_row)
  F_row_numbers : Fun K "row_numbers" "row_numbers" s_row_numbers A.f_row_numbers D.f_row_numbers
  b_row_numbers : Binds K D.f_row_numbers ["row"] []
  g_row_numbers : mg "row_numbers" = some (.ref A.f_row_numbers)
  F_paired : Fun K "paired" "paired" s_paired A.f_paired D.f_paired
  b_paired : Binds K D.f_paired ["factors", "tops"] []
  g_paired : mg "paired" = some (.ref A.f_paired)
  F__over_one_bottom : Fun K "_over_one_bottom" "_over_one_bottom" s__over_one_bottom A.f__over_one_bottom D.f__over_one_bottom
  b__over_one_bottom : Binds K D.f__over_one_bottom ["row", "p"] []
  g__over_one_bottom : mg "_over_one_bottom" = some (.ref A.f__over_one_bottom)
  F_Poly___init__ : Fun K "__init__" "Poly.__init__" s_Poly___init__ A.f_Poly___init__ D.f_Poly___init__
  b_Poly___init__ : Binds K D.f_Poly___init__ ["self", "coefficients"] []
  m_Poly___init__ : Meth K A.Poly "__init__" A.f_Poly___init__
  F_Poly___mul__ : Fun K "__mul__" "Poly.__mul__" s_Poly___mul__ A.f_Poly___mul__ D.f_Poly___mul__
  b_Poly___mul__ : Binds K D.f_Poly___mul__ ["self", "other"] []
  m_Poly___mul__ : Meth K A.Poly "__mul__" A.f_Poly___mul__
  F_Poly___rmul__ : Fun K "__rmul__" "Poly.__rmul__" s_Poly___rmul__ A.f_Poly___rmul__ D.f_Poly___rmul__
  b_Poly___rmul__ : Binds K D.f_Poly___rmul__ ["self", "other"] []
  m_Poly___rmul__ : Meth K A.Poly "__rmul__" A.f_Poly___rmul__
  F_poly_of : Fun K "poly_of" "poly_of" s_poly_of A.f_poly_of D.f_poly_of
  b_poly_of : Binds K D.f_poly_of ["q"] []
  g_poly_of : mg "poly_of" = some (.ref A.f_poly_of)
  F__is_operand : Fun K "_is_operand" "_is_operand" s__is_operand A.f__is_operand D.f__is_operand
  b__is_operand : Binds K D.f__is_operand ["x"] []
  g__is_operand : mg "_is_operand" = some (.ref A.f__is_operand)
  F_product_polys : Fun K "_product" "_product" s_product_polys A.f_product_polys D.f_product_polys
  b_product_polys : Binds K D.f_product_polys ["one", "other"] []
  g_product_polys : mg "product_polys" = some (.ref A.f_product_polys)
  F__law_is_integer : Fun K "_law_is_integer" "_law_is_integer" s__law_is_integer A.f__law_is_integer D.f__law_is_integer
  b__law_is_integer : Binds K D.f__law_is_integer ["_law_value"] []
  g__law_is_integer : mg "_law_is_integer" = some (.ref A.f__law_is_integer)
  F__law_feed : Fun K "_law_feed" "_law_feed" s__law_feed A.f__law_feed D.f__law_feed
  b__law_feed : Binds K D.f__law_feed ["_law_script"] []
  g__law_feed : mg "_law_feed" = some (.ref A.f__law_feed)
  F__law_take : Fun K "_law_take" "_law_take" s__law_take A.f__law_take D.f__law_take
  b__law_take : Binds K D.f__law_take ["_law_feed_here", "_law_size"] []
  g__law_take : mg "_law_take" = some (.ref A.f__law_take)
  F__law_number : Fun K "_law_number" "_law_number" s__law_number A.f__law_number D.f__law_number
  b__law_number : Binds K D.f__law_number ["_law_feed_here", "_law_size"] []
  g__law_number : mg "_law_number" = some (.ref A.f__law_number)
  F__law_is : Fun K "_law_is" "_law_is" s__law_is A.f__law_is D.f__law_is
  b__law_is : Binds K D.f__law_is ["_law_value", "_law_top", "_law_bottom"] []
  g__law_is : mg "_law_is" = some (.ref A.f__law_is)
  F__law_row_is : Fun K "_law_row_is" "_law_row_is" s__law_row_is A.f__law_row_is D.f__law_row_is
  b__law_row_is : Binds K D.f__law_row_is ["_law_values", "_law_pairs"] []
  g__law_row_is : mg "_law_row_is" = some (.ref A.f__law_row_is)
  F__law_add : Fun K "_law_add" "_law_add" s__law_add A.f__law_add D.f__law_add
  b__law_add : Binds K D.f__law_add ["_law_a", "_law_b"] []
  g__law_add : mg "_law_add" = some (.ref A.f__law_add)
  F__law_times : Fun K "_law_times" "_law_times" s__law_times A.f__law_times D.f__law_times
  b__law_times : Binds K D.f__law_times ["_law_a", "_law_b"] []
  g__law_times : mg "_law_times" = some (.ref A.f__law_times)
  F__law_ratios : Fun K "_law_ratios" "_law_ratios" s__law_ratios A.f__law_ratios D.f__law_ratios
  b__law_ratios : Binds K D.f__law_ratios ["_law_pairs"] []
  g__law_ratios : mg "_law_ratios" = some (.ref A.f__law_ratios)
  F__law_row : Fun K "_law_row" "_law_row" s__law_row A.f__law_row D.f__law_row
  b__law_row : Binds K D.f__law_row ["_law_feed_here", "_law_most"] []
  g__law_row : mg "_law_row" = some (.ref A.f__law_row)
  F__law_coefficients : Fun K "_law_coefficients" "_law_coefficients" s__law_coefficients A.f__law_coefficients D.f__law_coefficients
  b__law_coefficients : Binds K D.f__law_coefficients ["_law_feed_here", "_law_most"] []
  g__law_coefficients : mg "_law_coefficients" = some (.ref A.f__law_coefficients)
  F__law_lot : Fun K "_law_lot" "_law_lot" s__law_lot A.f__law_lot D.f__law_lot
  b__law_lot : Binds K D.f__law_lot ["_law_feed_here", "_law_most"] []
  g__law_lot : mg "_law_lot" = some (.ref A.f__law_lot)
  F__law_numbers : Fun K "_law_numbers" "_law_numbers" s__law_numbers A.f__law_numbers D.f__law_numbers
  b__law_numbers : Binds K D.f__law_numbers ["_law_lot_here", "_law_d"] []
  g__law_numbers : mg "_law_numbers" = some (.ref A.f__law_numbers)
  F__law_degree : Fun K "_law_degree" "_law_degree" s__law_degree A.f__law_degree D.f__law_degree
  b__law_degree : Binds K D.f__law_degree ["_law_coefficients_here"] []
  g__law_degree : mg "_law_degree" = some (.ref A.f__law_degree)
  F__law_due : Fun K "_law_due" "_law_due" s__law_due A.f__law_due D.f__law_due
  b__law_due : Binds K D.f__law_due ["_law_row_here", "_law_coefficients_here"] []
  g__law_due : mg "_law_due" = some (.ref A.f__law_due)
  F__law_refused : Fun K "_law_refused" "_law_refused" s__law_refused A.f__law_refused D.f__law_refused
  b__law_refused : Binds K D.f__law_refused ["_law_row_here", "_law_p"] []
  g__law_refused : mg "_law_refused" = some (.ref A.f__law_refused)
  F__law_of_lot : Fun K "_law_of_lot" "_law_of_lot" s__law_of_lot A.f__law_of_lot D.f__law_of_lot
  b__law_of_lot : Binds K D.f__law_of_lot ["_law_feed_here"] []
  g__law_of_lot : mg "_law_of_lot" = some (.ref A.f__law_of_lot)
  F_law : Fun K "law" "law" s_law A.f_law D.f_law
  b_law : Binds K D.f_law ["_law_script"] []
  g_law : mg "law" = some (.ref A.f_law)
  z_isinstance : mg "isinstance" = none
  z_int : mg "int" = none
  z_bool : mg "bool" = none
  z_abs : mg "abs" = none
  z_len : mg "len" = none
  z_max : mg "max" = none
  z_range : mg "range" = none
  z_min : mg "min" = none
  z_list : mg "list" = none
  z_tuple : mg "tuple" = none
  z_sum : mg "sum" = none
  g_MOST_NUMBERS : ∃ t, mg "MOST_NUMBERS" = some (.int 13 t)
  g_gcd : mg "gcd" = some (.builtin "math.gcd")
  g_lcm : mg "lcm" = some (.builtin "math.lcm")

section
variable {P : Program} {w : World} {K : PySem.W.Frag} {mg : Str → Option Value} {base : Heap} {A : Ad} {D : Fd}
/-! ### kinds of values -/
/-- whether x is an int and no bool -/
def WholeV (K : PySem.W.Frag) (H : Hp) (x : V) (b : Bool) : Prop := ∃ t b1 b2, TyX K H x t ∧ PySem.W.kitOne K t (.type "int") = some b1 ∧ (b1 = true → PySem.W.kitOne K t (.type "bool") = some b2) ∧ b = (b1 && !b2)
theorem whole_int {K : PySem.W.Frag} (i : Int) {H : Hp} : WholeV K H (.int i) true := ⟨_, true, false, .base (.int i), kit_ty (by decide +kernel), fun _ => kit_ty (by decide +kernel), rfl⟩
def sp_is_whole (K : PySem.W.Frag) : Sp := fun vs H Q _ => ∃ x b, vs = [x] ∧ WholeV K H x b ∧ Q (.bl b) H
theorem ok_is_whole (T : Txt K mg A D) : FnOk P w K mg base CX0 1 A.f_is_whole D.f_is_whole ["x"] (sp_is_whole K) := by
  skip
  refine T.F_is_whole.ok sc_is_whole (fun vs H Q E h => ?_) (fun cdv A' outer s H vs Q E hr h => ?_)
  · obtain ⟨x, b, rfl, _⟩ := h
    rfl
  · obtain ⟨x, b, rfl, ⟨t, b1, b2, ty, e1, e2, rfl⟩, q⟩ := h
    refine ⟨_, (pss_one (ps_ret (pe_and (pe_callB call_isi rfl T.z_isinstance (by decide +kernel) (pa_cons (pv 0) (pa_cons (pe_bltn (v := .ty "int") rfl T.z_int (by decide +kernel) rfl) pa_nil))) (pe_one (pe_not (pe_callB call_isi rfl T.z_isinstance (by decide +kernel) (pa_cons (pv 0) (pa_cons (pe_bltn (v := .ty "bool") rfl T.z_bool (by decide +kernel) rfl) pa_nil)))))))), ?_⟩
    refine ⟨x, rfl, x, .ty "int", t, _, b1, rfl, .ty _, ty, e1, b1, rfl, ?_⟩
    cases b1 with
    | false => exact iteF q
    | true => exact iteT ⟨x, rfl, x, .ty "bool", t, _, b2, rfl, .ty _, ty, e2 rfl, b2, rfl, q⟩

/-- neither a Ratio nor an integer -/
def NoNum (K : PySem.W.Frag) (C : Addr) (H : Hp) (x : V) : Prop := ∃ t, TyX K H x t ∧ PySem.W.kitOne K t (.ref C) = some false ∧ WholeV K H x false
def sp_isnum (K : PySem.W.Frag) (C : Addr) : Sp := fun vs H Q _ => ∃ x, vs = [x] ∧ ((((∃ i, x = .int i) ∨ Ins H x C) ∧ Q (.bl true) H) ∨ (NoNum K C H x ∧ Q (.bl false) H))
theorem ok_is_number (T : Txt K mg A D) : FnOk P w K mg base CX0 2 A.f_is_number D.f_is_number ["x"] (sp_isnum K A.Ratio) := by
  have G_is_whole : FnOk P w K mg base CX0 1 A.f_is_whole D.f_is_whole ["x"] (sp_is_whole K) := ok_is_whole T
  refine T.F_is_number.ok sc_is_number (fun vs H Q E h => ?_) (fun cdv A' outer s H vs Q E hr h => ?_)
  · obtain ⟨x, rfl, _⟩ := h
    rfl
  · obtain ⟨x, rfl, hx⟩ := h
    refine ⟨_, (pss_one (ps_ret (pe_or (pe_callB call_isi rfl T.z_isinstance (by decide +kernel) (pa_cons (pv 0) (pa_cons (pe_glob (v := .ref A.Ratio) rfl T.g_Ratio rfl) pa_nil))) (pe_one (pe_call G_is_whole (hr.mono (by decide)) rfl T.g_is_whole T.F_is_whole.kp T.b_is_whole .nil pass0 (pa_cons (pv 0) pa_nil)))))), ?_⟩
    rcases hx with ⟨⟨i, rfl⟩ | ⟨a, dx, fs, rfl, ha⟩, q⟩ | ⟨⟨t, ty, e, w⟩, q⟩
    · exact ⟨.int i, rfl, .int i, .ref A.Ratio, _, _, false, rfl, .own _, .base (.int i), T.k_Ratio.ik, false, rfl, iteF ⟨.int i, rfl, _, _, rfl, whole_int i, q⟩⟩
    · exact ⟨.ref a, rfl, .ref a, .ref A.Ratio, _, _, true, rfl, .own _, T.k_Ratio.ty ha, kit_self, true, rfl, iteT q⟩
    · exact ⟨x, rfl, x, .ref A.Ratio, t, _, false, rfl, .own _, ty, e, false, rfl, iteF ⟨x, rfl, _, _, rfl, w, q⟩⟩

/-! ### the making -/
def sp_init (C : Addr) : Sp := fun vs H Q _ => ∃ x dx t b, vs = [.ref x, .int t, .int b] ∧ H x = some (.ins C dx []) ∧ b ≠ 0 ∧ Sm b ∧ ∀ t' b', Norm t b t' b' → Q .non (upd H x (.ins C dx [("top", .int t'), ("bottom", .int b')]))
theorem ok_Ratio___init__ (T : Txt K mg A D) : FnOk P w K mg base CX0 2 A.f_Ratio___init__ D.f_Ratio___init__ ["self", "top", "bottom"] (sp_init A.Ratio) := by
  have G_is_whole : FnOk P w K mg base CX0 1 A.f_is_whole D.f_is_whole ["x"] (sp_is_whole K) := ok_is_whole T
  refine T.F_Ratio___init__.ok sc_Ratio___init__ (fun vs H Q E h => ?_) (fun cdv A' outer s H vs Q E hr h => ?_)
  · obtain ⟨x, dx, t, b, rfl, _⟩ := h
    rfl
  · obtain ⟨x, dx, t, b, rfl, hx, hb, sb, q⟩ := h
    refine ⟨_, (pss_cons (ps_if (pt_not (pt_val (pe_call G_is_whole (hr.mono (by decide)) rfl T.g_is_whole T.F_is_whole.kp T.b_is_whole .nil pass0 (pa_cons (pv 1) pa_nil)))) (pss_one ps_never) pss_nil)
  (pss_cons (ps_if (pt_not (pt_val (pe_call G_is_whole (hr.mono (by decide)) rfl T.g_is_whole T.F_is_whole.kp T.b_is_whole .nil pass0 (pa_cons (pv 2) pa_nil)))) (pss_one ps_never) pss_nil)
  (pss_cons (ps_if (pt_cmpR op_eq (pv 2) pe_int (nomark _)) (pss_one ps_never) pss_nil)
  (pss_cons (ps_set (i := 3) sc_Ratio___init__.nd rfl (.inl rfl) (pe_callBfun cr_gcd rfl T.g_gcd (pa_cons (pv 1) (pa_cons (pv 2) pa_nil))))
  (pss_cut (ps_if (pt_cmpR op_lt (pv 2) pe_int (nomark _)) (pss_one (ps_set (i := 3) sc_Ratio___init__.nd rfl (.inl rfl) (pe_un un_neg (pv 3)))) pss_nil)
  (pss_cons (ps_fld (pv 0) (pe_op op_fdivA (pv 1) (pv 3)) rfl)
  (pss_one (ps_fld (pv 0) (pe_op op_fdivA (pv 2) (pv 3)) rfl)))))))), ?_⟩
    refine ⟨_, rfl, _, _, rfl, whole_int t, true, rfl, iteF ?_⟩
    refine ⟨_, rfl, _, _, rfl, whole_int b, true, rfl, iteF ?_⟩
    have e0 : decide (V.int b = V.int 0) = false := decide_eq_false fun z => hb (V.int.inj z)
    refine ⟨_, rfl, rfl, _, rfl, ?_⟩
    rw [e0]
    refine iteF ⟨_, rfl, _, rfl, t, b, rfl, ?_⟩
    obtain ⟨g0, gl, nm⟩ := Norm.make (t := t) hb _ rfl
    refine ⟨fun σ' H' => H' = H ∧ ∃ g : Int, (g ≠ 0 ∧ g.natAbs ≤ b.natAbs ∧ Norm t b (t.fdiv g) (b.fdiv g)) ∧ σ' = [some (.ref x), some (.int t), some (.int b), some (.int g)], ?_, ?_⟩
    · refine ⟨_, rfl, _, _, rfl, rfl, _, rfl, ?_⟩
      by_cases hneg : b < 0
      · rw [if_pos hneg] at g0 gl nm
        rw [decide_eq_true hneg]
        exact iteT ⟨_, rfl, _, rfl, rfl, _, ⟨g0, gl, nm⟩, rfl⟩
      · rw [if_neg hneg] at g0 gl nm
        rw [decide_eq_false hneg]
        exact iteF ⟨rfl, _, ⟨g0, gl, nm⟩, rfl⟩
    · rintro σ' H' ⟨rfl, g, ⟨h0, h1, hn⟩, rfl⟩
      have sg : Sm g := sb.le h1
      refine ⟨_, rfl, _, rfl, t, g, rfl, rfl, Sm.div h0 sg, _, rfl, x, A.Ratio, dx, _, rfl, hx, T.k_Ratio.cl, T.k_Ratio.n_top, (by show 0 < 1000; decide), ?_⟩
      refine ⟨_, rfl, _, rfl, b, g, rfl, rfl, Sm.div h0 sg, _, rfl, x, A.Ratio, dx, _, rfl, upd_same, T.k_Ratio.cl, T.k_Ratio.n_bottom, (by show 1 < 1000; decide), ?_⟩
      show Q .non _
      rw [upd_upd]
      exact q _ _ hn

/-! ### gaps and comparisons -/
/-- the number t / b: an int, or a Ratio of the class at C; b above 0 -/
def NumAt (C : Addr) (H : Hp) (v : V) (t b : Int) : Prop := (v = .int t ∧ b = 1) ∨ RatAt C H v t b
theorem NumAt.kind {C : Addr} {H : Hp} {v : V} {t b : Int} (n : NumAt C H v t b) : (∃ i, v = .int i) ∨ Ins H v C := by
  rcases n with ⟨h, _⟩ | h
  · exact .inl ⟨_, h⟩
  · exact .inr h.ins
def sp_gap (C : Addr) : Sp := fun vs H Q _ => ∃ x y t b t2 b2, vs = [x, y] ∧ RatAt C H x t b ∧ NumAt C H y t2 b2 ∧ Sm t ∧ Sm b ∧ Sm t2 ∧ Sm b2 ∧ Q (.int (t * b2 - t2 * b)) H
theorem ok__gap (T : Txt K mg A D) : FnOk P w K mg base CX0 1 A.f__gap D.f__gap ["one", "other"] (sp_gap A.Ratio) := by
  skip
  refine T.F__gap.ok sc__gap (fun vs H Q E h => ?_) (fun cdv A' outer s H vs Q E hr h => ?_)
  · obtain ⟨x, y, t, b, t2, b2, rfl, _⟩ := h
    rfl
  · obtain ⟨x, y, t, b, t2, b2, rfl, ⟨a, dx, rfl, ha⟩, hy, s1, s2, s3, s4, q⟩ := h
    refine ⟨_, (pss_cons (ps_if (pt_val (pe_callB call_isi rfl T.z_isinstance (by decide +kernel) (pa_cons (pv 1) (pa_cons (pe_glob (v := .ref A.Ratio) rfl T.g_Ratio rfl) pa_nil)))) (pss_one (ps_ret (pe_op op_sub (pe_op op_mulW (pe_fld (pv 0) rfl) (pe_fld (pv 1) rfl)) (pe_op op_mulW (pe_fld (pv 1) rfl) (pe_fld (pv 0) rfl))))) pss_nil)
  (pss_one (ps_ret (pe_op op_sub (pe_fld (pv 0) rfl) (pe_op op_mulW (pv 1) (pe_fld (pv 0) rfl)))))), ?_⟩
    have cl := T.k_Ratio.cl
    have nt := T.k_Ratio.n_top
    have nb := T.k_Ratio.n_bottom
    rcases hy with ⟨rfl, rfl⟩ | ⟨c, dy, rfl, hc⟩
    · refine ⟨_, rfl, .int t2, .ref A.Ratio, _, _, false, rfl, .own _, .base (.int t2), T.k_Ratio.ik, false, rfl, iteF ?_⟩
      refine ⟨_, rfl, a, A.Ratio, dx, _, _, rfl, ha, cl, nt, rfl, ?_⟩
      refine ⟨_, rfl, _, rfl, a, A.Ratio, dx, _, _, rfl, ha, cl, nb, rfl, _, _, rfl, rfl, Sm.mul s3 s2, _, _, rfl, rfl, ?_⟩
      rw [Int.mul_one] at q
      exact q
    · refine ⟨_, rfl, .ref c, .ref A.Ratio, _, _, true, rfl, .own _, T.k_Ratio.ty hc, kit_self, true, rfl, iteT ?_⟩
      refine ⟨_, rfl, a, A.Ratio, dx, _, _, rfl, ha, cl, nt, rfl, _, rfl, c, A.Ratio, dy, _, _, rfl, hc, cl, nb, rfl, _, _, rfl, rfl, Sm.mul s1 s4, ?_⟩
      exact ⟨_, rfl, c, A.Ratio, dy, _, _, rfl, hc, cl, nt, rfl, _, rfl, a, A.Ratio, dx, _, _, rfl, ha, cl, nb, rfl, _, _, rfl, rfl, Sm.mul s3 s2, _, _, rfl, rfl, q⟩

/-- a comparison: r says of the gap what is answered -/
def sp_cmp (C : Addr) (r : Int → Bool) : Sp := fun vs H Q _ => ∃ x y t b t2 b2, vs = [x, y] ∧ RatAt C H x t b ∧ NumAt C H y t2 b2 ∧ Sm t ∧ Sm b ∧ Sm t2 ∧ Sm b2 ∧ Q (.bl (r (t * b2 - t2 * b))) H
abbrev r_eq : Int → Bool := fun d => decide (d = 0)
abbrev r_ne : Int → Bool := fun d => !decide (d = 0)
abbrev r_lt : Int → Bool := fun d => decide (d < 0)
abbrev r_le : Int → Bool := fun d => decide (d ≤ 0)
abbrev r_gt : Int → Bool := fun d => decide (0 < d)
abbrev r_ge : Int → Bool := fun d => decide (0 ≤ d)
theorem ok_Ratio___eq__ (T : Txt K mg A D) : FnOk P w K mg base CX0 3 A.f_Ratio___eq__ D.f_Ratio___eq__ ["self", "other"] (sp_cmp A.Ratio r_eq) := by
  have G__gap : FnOk P w K mg base CX0 1 A.f__gap D.f__gap ["one", "other"] (sp_gap A.Ratio) := ok__gap T
  have G_is_number : FnOk P w K mg base CX0 2 A.f_is_number D.f_is_number ["x"] (sp_isnum K A.Ratio) := ok_is_number T
  refine T.F_Ratio___eq__.ok sc_Ratio___eq__ (fun vs H Q E h => ?_) (fun cdv A' outer s H vs Q E hr h => ?_)
  · obtain ⟨x, y, t, b, t2, b2, rfl, _⟩ := h
    rfl
  · obtain ⟨x, y, t, b, t2, b2, rfl, hx, hy, s1, s2, s3, s4, q⟩ := h
    refine ⟨_, (pss_cons (ps_if (pt_not (pt_val (pe_call G_is_number (hr.mono (by decide)) rfl T.g_is_number T.F_is_number.kp T.b_is_number .nil pass0 (pa_cons (pv 1) pa_nil)))) (pss_one ps_never) pss_nil)
  (pss_one (ps_ret (pe_cmpR op_eq (pe_call G__gap (hr.mono (by decide)) rfl T.g__gap T.F__gap.kp T.b__gap .nil pass0 (pa_cons (pv 0) (pa_cons (pv 1) pa_nil))) pe_int (nomark _))))), ?_⟩
    refine ⟨_, rfl, _, rfl, .inl ⟨hy.kind, true, rfl, iteF ?_⟩⟩
    refine ⟨_, rfl, _, rfl, _, _, _, _, _, _, rfl, hx, hy, s1, s2, s3, s4, rfl, ?_⟩
    show Q (.bl (decide (V.int (t * b2 - t2 * b) = V.int 0))) H
    rw [show decide (V.int (t * b2 - t2 * b) = V.int 0) = r_eq (t * b2 - t2 * b) by rw [Bool.eq_iff_iff]; simp]
    exact q
end

section
variable {P : Program} {w : World} {K : PySem.W.Frag} {mg : Str → Option Value} {base : Heap} {A : Ad} {D : Fd}
/-- a new Ratio on the heap -/
theorem made {C : Addr} {H : Hp} {x dx : Addr} (nx : H x = none) (nd : H dx = none) (ne : dx ≠ x) (t b : Int) :
    Same H (upd (upd (upd H dx (.own x)) x (.ins C dx [])) x (.ins C dx [("top", .int t), ("bottom", .int b)])) ∧
    RatAt C (upd (upd (upd H dx (.own x)) x (.ins C dx [])) x (.ins C dx [("top", .int t), ("bottom", .int b)])) (.ref x) t b := by
  refine ⟨?_, x, dx, rfl, upd_same⟩
  rw [upd_upd]
  exact same_upd' (same_upd nd) nx
theorem norm_sm {t b t' b' : Int} (n : Norm t b t' b') (h1 : Sm t) (h2 : Sm b) : Sm t' ∧ Sm b' := ⟨h1.le n.le1, h2.le n.le2⟩
/-- the sign of the gap stays in lowest terms -/
theorem gap_sign {t b t' b' u c u' c' : Int} (n : Norm t b t' b') (m : Norm u c u' c') (hb : 0 < b) (hc : 0 < c) :
    (t * c - u * b < 0 ↔ t' * c' - u' * b' < 0) ∧ (0 < t * c - u * b ↔ 0 < t' * c' - u' * b') := by
  obtain ⟨g, h1, h2, _⟩ := n.ex
  obtain ⟨k, k1, k2, _⟩ := m.ex
  have gp : 0 < g := by
    rw [h2] at hb
    exact Int.pos_of_mul_pos_left hb n.pos
  have kp : 0 < k := by
    rw [k2] at hc
    exact Int.pos_of_mul_pos_left hc m.pos
  have gk : 0 < g * k := Int.mul_pos gp kp
  have e : t * c - u * b = (g * k) * (t' * c' - u' * b') := by
    rw [h1, h2, k1, k2, Int.mul_sub]
    congr 1
    · rw [Int.mul_assoc, Int.mul_assoc, Int.mul_left_comm t' k c']
    · rw [Int.mul_assoc, Int.mul_comm g k, Int.mul_assoc k g, Int.mul_left_comm u' g b']
  rw [e]
  generalize t' * c' - u' * b' = d
  constructor
  · constructor
    · intro h
      by_cases hd : d < 0
      · exact hd
      · have := Int.mul_nonneg (Int.le_of_lt gk) (Int.not_lt.mp hd)
        omega
    · intro h
      exact Int.mul_neg_of_pos_of_neg gk h
  · constructor
    · intro h
      exact Int.pos_of_mul_pos_right h gk
    · intro h
      exact Int.mul_pos gk h
theorem norm_one (n : Int) : Norm n 1 n 1 := ⟨⟨1, by omega, by omega, by decide⟩, by decide, by simp⟩
theorem norm_is_one {n t' b' : Int} (h : Norm n 1 t' b') : t' = n ∧ b' = 1 := by
  obtain ⟨g, h1, h2, h3⟩ := h.ex
  have hb := h.pos
  have gp : 0 < g := by
    have : 0 < g * b' := by omega
    exact Int.pos_of_mul_pos_left this hb
  have g1 : g = 1 := by
    have : g ∣ 1 := ⟨b', h2⟩
    exact Int.eq_one_of_dvd_one (Int.le_of_lt gp) this
  subst g1
  omega
theorem fdiv_abs {a b : Int} (h : 0 < b) : (a.fdiv b).natAbs ≤ a.natAbs + 1 := by
  rw [Int.fdiv_eq_ediv_of_nonneg a (by omega)]
  have h1 := Int.emod_add_mul_ediv a b
  have h2 := Int.emod_nonneg a (by omega : b ≠ 0)
  have h3 := Int.emod_lt_of_pos a h
  generalize a / b = q at *
  generalize a % b = r at *
  rcases Int.lt_or_le q 0 with hq | hq
  · have : b * (q + 1) ≤ q + 1 := by
      have : b * (q + 1) ≤ 1 * (q + 1) := Int.mul_le_mul_of_nonpos_right (by omega) (by omega)
      omega
    have : b * (q + 1) = b * q + b := by rw [Int.mul_add, Int.mul_one]
    omega
  · have : q ≤ b * q := by
      have : 1 * q ≤ b * q := Int.mul_le_mul_of_nonneg_right (by omega) hq
      omega
    omega

/-- what the law draws: a top below 2 ^ 140 in size, a bottom from 1 to 2 ^ 140 -/
structure Drawn (x y : Int) : Prop where
  top : x.natAbs < 2 ^ 140
  pos : 0 < y
  bot : y.natAbs < 2 ^ 140
theorem Drawn.s1 {x y : Int} (d : Drawn x y) : Sm x := .of d.top (by decide)
theorem Drawn.s2 {x y : Int} (d : Drawn x y) : Sm y := .of d.bot (by decide)

end

section
variable {P : Program} {w : World} {K : PySem.W.Frag} {mg : Str → Option Value} {base : Heap} {A : Ad} {D : Fd}
/-! ### sums, differences, products -/
theorem so : Sm 1 := .ab (by decide) (by decide)
def sp_ratio_of (C : Addr) : Sp := fun vs H Q _ => ∃ x t b, vs = [x] ∧ NumAt C H x t b ∧ ∀ H' v, Same H H' → RatAt C H' v t b → Q v H'
theorem ok_ratio_of (T : Txt K mg A D) : FnOk P w K mg base CX0 4 A.f_ratio_of D.f_ratio_of ["number"] (sp_ratio_of A.Ratio) := by
  have G_Ratio_init : FnOk P w K mg base CX0 2 A.f_Ratio___init__ D.f_Ratio___init__ ["self", "top", "bottom"] (sp_init A.Ratio) := ok_Ratio___init__ T
  obtain ⟨ds1, d_Ratio_init1, b_Ratio_init1⟩ := T.b1_Ratio___init__
  refine T.F_ratio_of.ok sc_ratio_of (fun vs H Q E h => ?_) (fun cdv A' outer s H vs Q E hr h => ?_)
  · obtain ⟨x, t, b, rfl, _⟩ := h
    rfl
  · obtain ⟨x, t, b, rfl, hx, q⟩ := h
    refine ⟨_, (pss_cons (ps_if (pt_val (pe_callB call_isi rfl T.z_isinstance (by decide +kernel) (pa_cons (pv 0) (pa_cons (pe_glob (v := .ref A.Ratio) rfl T.g_Ratio rfl) pa_nil)))) (pss_one (ps_ret (pv 0))) pss_nil)
  (pss_one (ps_ret (pe_make T.M_Ratio G_Ratio_init (hr.mono (by decide)) rfl T.g_Ratio b_Ratio_init1 d_Ratio_init1 pass0 (pa_cons (pv 0) pa_nil))))), ?_⟩
    rcases hx with ⟨rfl, rfl⟩ | ⟨c, dy, rfl, hc⟩
    · refine ⟨_, rfl, .int t, .ref A.Ratio, _, _, false, rfl, .own _, .base (.int t), T.k_Ratio.ik, false, rfl, iteF ?_⟩
      refine ⟨_, rfl, fun x dx nx nd ne => ⟨x, dx, t, 1, rfl, upd_same, by decide, so, fun t' b' nm => ⟨rfl, ?_⟩⟩⟩
      obtain ⟨e4, e5⟩ := norm_is_one nm
      subst e4 e5
      obtain ⟨sd, rd⟩ := made (C := A.Ratio) nx nd ne t' 1
      exact q _ _ sd rd
    · refine ⟨_, rfl, .ref c, .ref A.Ratio, _, _, true, rfl, .own _, T.k_Ratio.ty hc, kit_self, true, rfl, iteT ?_⟩
      exact ⟨_, rfl, q _ _ (Same.refl H) ⟨c, dy, rfl, hc⟩⟩
abbrev f_sum : Int → Int → Int → Int → Int := fun t b t2 b2 => t * b2 + t2 * b
abbrev f_dif : Int → Int → Int → Int → Int := fun t b t2 b2 => t * b2 - t2 * b
abbrev f_pro : Int → Int → Int → Int → Int := fun t b t2 b2 => t * t2
/-- what is asked of two numbers that are put together -/
structure Fit (t b t2 b2 : Int) : Prop where
  s1 : Sm t
  s2 : Sm b
  s3 : Sm t2
  s4 : Sm b2
  n2 : b ≠ 0
  n4 : b2 ≠ 0
  sb : Sm (b * b2)
theorem Fit.swap {t b t2 b2 : Int} (h : Fit t b t2 b2) : Fit t2 b2 t b := ⟨h.s3, h.s4, h.s1, h.s2, h.n4, h.n2, by rw [Int.mul_comm]; exact h.sb⟩
theorem Fit.nb {t b t2 b2 : Int} (h : Fit t b t2 b2) : b * b2 ≠ 0 := fun z => by
  rcases Int.mul_eq_zero.mp z with e | e
  · exact h.n2 e
  · exact h.n4 e
/-- two Ratios in, a Ratio out -/
def sp_put (C : Addr) (f : Int → Int → Int → Int → Int) : Sp := fun vs H Q _ => ∃ x y t b t2 b2, vs = [x, y] ∧ RatAt C H x t b ∧ RatAt C H y t2 b2 ∧ Fit t b t2 b2 ∧ ∀ H' v t' b', Same H H' → RatAt C H' v t' b' → Norm (f t b t2 b2) (b * b2) t' b' → Q v H'
/-- a Ratio and a number in, a Ratio out -/
def sp_bin (C : Addr) (f : Int → Int → Int → Int → Int) : Sp := fun vs H Q _ => ∃ x y t b t2 b2, vs = [x, y] ∧ RatAt C H x t b ∧ NumAt C H y t2 b2 ∧ Fit t b t2 b2 ∧ ∀ H' v t' b', Same H H' → RatAt C H' v t' b' → Norm (f t b t2 b2) (b * b2) t' b' → Q v H'
/-- the same, the number on the left -/
def sp_rbin (C : Addr) (f : Int → Int → Int → Int → Int) : Sp := fun vs H Q _ => ∃ x y t b t2 b2, vs = [x, y] ∧ RatAt C H x t b ∧ NumAt C H y t2 b2 ∧ Fit t b t2 b2 ∧ ∀ H' v t' b', Same H H' → RatAt C H' v t' b' → Norm (f t2 b2 t b) (b2 * b) t' b' → Q v H'
end

end Mo

namespace Mo
open PySem PySem.Spec PyProof.Rows L2 MoL MoW
open C8 (pss_cut tCut)
section
variable {P : Program} {w : World} {K : PySem.W.Frag} {mg : Str → Option Value} {base : Heap} {A : Ad} {D : Fd}
theorem nmul {i j : Int} {m n : Nat} (a : i.natAbs < 2 ^ m) (b : j.natAbs < 2 ^ n) : (i * j).natAbs < 2 ^ (m + n) := by
  rw [Int.natAbs_mul, Nat.pow_add]
  exact Nat.mul_lt_mul'' a b
theorem nadd {i j : Int} {n : Nat} (a : i.natAbs < 2 ^ n) (b : j.natAbs < 2 ^ n) : (i + j).natAbs < 2 ^ (n + 1) := by
  rw [Nat.pow_succ]
  omega
theorem nle {i : Int} {m n : Nat} (a : i.natAbs < 2 ^ m) (h : m ≤ n) : i.natAbs < 2 ^ n := Nat.lt_of_lt_of_le a (Nat.pow_le_pow_right (by decide) h)
theorem sm_of {i : Int} {n : Nat} (h : i.natAbs < 2 ^ n) (hn : n ≤ 4000) : Sm i := Sm.of h hn
/-- the Ratio v is p / q; its top is below 2 ^ n, its bottom below 2 ^ m -/
def IsF (C : Addr) (n m : Nat) (H : Hp) (v : V) (p q : Int) : Prop := ∃ t b, RatAt C H v t b ∧ 0 < b ∧ 0 < q ∧ t * q = p * b ∧ t.natAbs < 2 ^ n ∧ b.natAbs < 2 ^ m
section
variable {C : Addr} {n m n' m' : Nat} {H H' : Hp} {v : V} {p q : Int}
theorem IsF.same (r : IsF C n m H v p q) (s : Same H H') : IsF C n m H' v p q := by
  obtain ⟨t, b, h, r⟩ := r
  exact ⟨t, b, h.same s, r⟩
theorem IsF.ins (r : IsF C n m H v p q) : Ins H v C := by
  obtain ⟨t, b, h, r⟩ := r
  exact h.ins
theorem IsF.mono (r : IsF C n m H v p q) (h : n ≤ n') (h2 : m ≤ m') : IsF C n' m' H v p q := by
  obtain ⟨t, b, r, h1, h3, h4, h5, h6⟩ := r
  exact ⟨t, b, r, h1, h3, h4, nle h5 h, nle h6 h2⟩
theorem IsF.to {p' q' : Int} (r : IsF C n m H v p q) (h : 0 < q') (e : p * q' = p' * q) : IsF C n m H v p' q' := by
  obtain ⟨t, b, r, h1, h2, h3, h4, h5⟩ := r
  refine ⟨t, b, r, h1, h, ?_, h4, h5⟩
  refine Int.eq_of_mul_eq_mul_right (show q ≠ 0 by omega) ?_
  grind
end
theorem ty_same {H H' : Hp} {x : V} {t : Value} (s : Same H H') (h : TyX K H x t) : TyX K H' x t := by
  cases h with
  | base b =>
    refine .base ?_
    cases b with
    | non => exact .non
    | bl y => exact .bl y
    | int i => exact .int i
    | str y => exact .str y
    | flt y => exact .flt y
    | lst e => exact .lst (s _ _ e)
    | frz e => exact .frz (s _ _ e)
    | tup e => exact .tup (s _ _ e)
    | dK e => exact .dK (s _ _ e)
    | dT e => exact .dT (s _ _ e)
    | ins e a b c d f => exact .ins (s _ _ e) a b c d f
  | byt b => exact .byt b
  | set e => exact .set (s _ _ e)
  | kList e c => exact .kList e c
  | kTuple e c => exact .kTuple e c
  | kDict e c => exact .kDict e c
  | fTuple e => exact .fTuple (s _ _ e)
  | fDict e => exact .fDict (s _ _ e)
theorem WholeV.same {H H' : Hp} {x : V} {b : Bool} (h : WholeV K H x b) (s : Same H H') : WholeV K H' x b := by
  obtain ⟨t, b1, b2, ty, r⟩ := h
  exact ⟨t, b1, b2, ty_same s ty, r⟩
theorem NoNum.same {C : Addr} {H H' : Hp} {x : V} (h : NoNum K C H x) (s : Same H H') : NoNum K C H' x := by
  obtain ⟨t, ty, e, w⟩ := h
  exact ⟨t, ty_same s ty, e, w.same s⟩
/-- a list or a tuple of these things -/
def SeqAt' (H : Hp) (v : V) (xs : List V) : Prop := ∃ a, v = .ref a ∧ (H a = some (.lst xs) ∨ H a = some (.tup xs))
/-- these things are Ratios with the values f 0, f 1, .. -/
def Rats (C : Addr) (n m : Nat) (H : Hp) (xs : List V) (f : Nat → Int × Int) : Prop := ∀ k x, xs[k]? = some x → IsF C n m H x (f k).1 (f k).2
theorem Rats.same {C : Addr} {n m : Nat} {H H' : Hp} {xs : List V} {f : Nat → Int × Int} (h : Rats C n m H xs f) (s : Same H H') : Rats C n m H' xs f := fun k x e => (h k x e).same s
/-! ### a row's numbers -/
theorem kit_seq {K : PySem.W.Frag} {H : Hp} {a : Addr} {xs : List V} (h : H a = some (.lst xs) ∨ H a = some (.tup xs)) : ∃ t, TyX K H (.ref a) t ∧ PySem.W.kitAny K t [.type "list", .type "tuple"] = some true := by
  rcases h with h | h
  · exact ⟨_, .base (.lst h), kitAny_cons (b := true) (kit_ty (by decide +kernel)) (fun z => nomatch z) fun _ => rfl⟩
  · exact ⟨_, .base (.tup h), kitAny_cons (b := false) (kit_ty (by decide +kernel)) (fun _ => kitAny_cons (b := true) (kit_ty (by decide +kernel)) (fun z => nomatch z) fun _ => rfl) (fun z => nomatch z)⟩
theorem RatAt.put {C : Addr} {H : Hp} {v : V} {t b : Int} {d : Addr} {ys : List V} {o : HO} (r : RatAt C H v t b) (hd : H d = some (.lst ys)) : RatAt C (upd H d o) v t b := by
  obtain ⟨a, dx, e, h⟩ := r
  refine ⟨a, dx, e, ?_⟩
  rw [upd_ne fun z => by rw [z, hd] at h; cases h]
  exact h
theorem IsF.put {C : Addr} {n m : Nat} {H : Hp} {v : V} {p q : Int} {d : Addr} {ys : List V} {o : HO} (r : IsF C n m H v p q) (hd : H d = some (.lst ys)) : IsF C n m (upd H d o) v p q := by
  obtain ⟨t, b, r, k⟩ := r
  exact ⟨t, b, RatAt.put r hd, k⟩
theorem Rats.nil {C : Addr} {n m : Nat} {H : Hp} {f : Nat → Int × Int} : Rats C n m H [] f := fun k x h => by simp at h
theorem Rats.push {C : Addr} {n m : Nat} {H : Hp} {d : Addr} {ys : List V} {f : Nat → Int × Int} {y : V} {o : HO} (r : Rats C n m H ys f) (hd : H d = some (.lst ys)) (hy : IsF C n m H y (f ys.length).1 (f ys.length).2) : Rats C n m (upd H d o) (ys ++ [y]) f := fun k x h => by
  rcases Nat.lt_trichotomy k ys.length with e | e | e
  · rw [List.getElem?_append_left e] at h
    exact (r k x h).put hd
  · subst e
    rw [List.getElem?_append_right (Nat.le_refl _), Nat.sub_self] at h
    cases h
    exact hy.put hd
  · rw [List.getElem?_append_right (Nat.le_of_lt e)] at h
    have : k - ys.length ≠ 0 := by omega
    obtain ⟨j, hj⟩ : ∃ j, k - ys.length = j + 1 := ⟨k - ys.length - 1, by omega⟩
    rw [hj] at h
    simp at h
/-- a list that grows, the rest of the heap stays -/
theorem same_push {H1 H : Hp} {d : Addr} {o : HO} (s : Same H1 H) (hd : H1 d = none) : Same H1 (upd H d o) := fun b u h => by
  rw [upd_ne (ne_of_none h hd)]
  exact s _ _ h
/-- the number v is p / q; its top is below 2 ^ n, its bottom below 2 ^ m -/
def IsN (C : Addr) (n m : Nat) (H : Hp) (v : V) (p q : Int) : Prop := ∃ t b, NumAt C H v t b ∧ 0 < b ∧ 0 < q ∧ t * q = p * b ∧ t.natAbs < 2 ^ n ∧ b.natAbs < 2 ^ m
theorem NumAt.same {C : Addr} {H H' : Hp} {v : V} {t b : Int} (n : NumAt C H v t b) (s : Same H H') : NumAt C H' v t b := by
  rcases n with h | h
  · exact .inl h
  · exact .inr (h.same s)
theorem IsN.same {C : Addr} {n m : Nat} {H H' : Hp} {v : V} {p q : Int} (r : IsN C n m H v p q) (s : Same H H') : IsN C n m H' v p q := by
  obtain ⟨t, b, h, r⟩ := r
  exact ⟨t, b, h.same s, r⟩
theorem IsN.kind {C : Addr} {n m : Nat} {H : Hp} {v : V} {p q : Int} (r : IsN C n m H v p q) : (∃ i, v = .int i) ∨ Ins H v C := by
  obtain ⟨t, b, h, r⟩ := r
  exact h.kind
/-- these things are numbers with the values f 0, f 1, .. -/
def Nums (C : Addr) (n m : Nat) (H : Hp) (xs : List V) (f : Nat → Int × Int) : Prop := ∀ k x, xs[k]? = some x → IsN C n m H x (f k).1 (f k).2
theorem Nums.same {C : Addr} {n m : Nat} {H H' : Hp} {xs : List V} {f : Nat → Int × Int} (h : Nums C n m H xs f) (s : Same H H') : Nums C n m H' xs f := fun k x e => (h k x e).same s
theorem Rats.nums {C : Addr} {n m : Nat} {H : Hp} {xs : List V} {f : Nat → Int × Int} (h : Rats C n m H xs f) : Nums C n m H xs f := fun k x e => by
  obtain ⟨t, b, r, k⟩ := h k x e
  exact ⟨t, b, .inr r, k⟩
def sp_rown (C : Addr) : Sp := fun vs H Q _ => ∃ v xs f n m, vs = [v] ∧ SeqAt' H v xs ∧ Nums C n m H xs f ∧ 0 < xs.length ∧ xs.length ≤ 13 ∧
  ∀ H' d ys, Same H H' → H' d = some (.lst ys) → ys.length = xs.length → Rats C n m H' ys f → Q (.ref d) H'
theorem ok_row_numbers (T : Txt K mg A D) : FnOk P w K mg base CX0 6 A.f_row_numbers D.f_row_numbers ["row"] (sp_rown A.Ratio) := by
  obtain ⟨tok_MOST_NUMBERS, gc_MOST_NUMBERS⟩ := T.g_MOST_NUMBERS
  have G_is_number : FnOk P w K mg base CX0 2 A.f_is_number D.f_is_number ["x"] (sp_isnum K A.Ratio) := ok_is_number T
  have G_ratio_of : FnOk P w K mg base CX0 4 A.f_ratio_of D.f_ratio_of ["number"] (sp_ratio_of A.Ratio) := ok_ratio_of T
  refine T.F_row_numbers.ok sc_row_numbers (fun vs H Q E h => ?_) (fun cdv A' outer s H vs Q E hr h => ?_)
  · obtain ⟨v, xs, f, n, m, rfl, _⟩ := h
    rfl
  · obtain ⟨v, xs, f, n, m, rfl, ⟨a, rfl, ha⟩, rr, l0, l1, q⟩ := h
    refine ⟨_, (pss_cons (ps_if (PW.pt (pw_or (pt_not (pt_val (pe_callB call_isiT rfl T.z_isinstance (by decide +kernel) (pa_cons (pv 0) (pa_cons (pe_tup (pa_cons (pe_bltn (v := .ty "list") rfl T.z_list (by decide +kernel) rfl) (pa_cons (pe_bltn (v := .ty "tuple") rfl T.z_tuple (by decide +kernel) rfl) pa_nil))) pa_nil))))) (pw_or (pt_cmpR op_eq (pe_callB call_len_seq rfl T.z_len (by decide +kernel) (pa_cons (pv 0) pa_nil)) pe_int (nomark _)) (pw_or1 (pt_cmpR op_gt (pe_callB call_len_seq rfl T.z_len (by decide +kernel) (pa_cons (pv 0) pa_nil)) (pe_glob (v := .int 13) rfl gc_MOST_NUMBERS ⟨_, rfl⟩) (nomark _)))))) (pss_one ps_never) pss_nil)
  (pss_cons (ps_for PassesOwn.never rfl (pi_range1 rfl T.z_range (pa_cons (pe_callB call_len_seq rfl T.z_len (by decide +kernel) (pa_cons (pv 0) pa_nil)) pa_nil)) (pg_name (i := 1) sc_row_numbers.nd rfl (.inl rfl)) (pss_one (ps_if (pt_not (pt_val (pe_call G_is_number (hr.mono (by decide)) rfl T.g_is_number T.F_is_number.kp T.b_is_number .nil pass0 (pa_cons (pe_ix (ix_list.or ix_tup) (pv 0) (pv 1) (fun _ _ => rfl)) pa_nil)))) (pss_one ps_never) pss_nil)))
  (pss_one (ps_ret (pe_lc (own := [("number", 2)]) (g := gName 2) (tt := tYes) rfl sc_row_numbers.nd (pi_or (pi_list (pv 0)) (pi_tup (pv 0))) (blkOk_by (N := N_row_numbers) (sc := defScope s_row_numbers) (by decide +kernel)) (fun _ _ _ _ _ => (pg_name (i := 2) sc_row_numbers.nd rfl (.inl rfl))) (fun _ _ _ _ _ => pts_nil) (fun _ _ _ _ _ => (pe_call G_ratio_of (hr.mono (by decide)) rfl T.g_ratio_of T.F_ratio_of.kp T.b_ratio_of .nil pass0 (pa_cons (pv 2) pa_nil)))))))), ?_⟩
    refine ⟨_, rfl, by show 2 ≤ sizeLine; decide, fun tp nt => ?_⟩
    have s1 : Same H (upd H tp (.tup [.ty "list", .ty "tuple"])) := same_upd nt
    have ha1 := ha.imp (s1 a _) (s1 a _)
    obtain ⟨t, ty, ka⟩ := kit_seq (K := K) ha1
    refine ⟨.ref a, tp, _, t, _, true, rfl, upd_same, .cons (.ty _) (.cons (.ty _) .nil), ty, ka, true, rfl, iteF ?_⟩
    have rr1 := rr.same s1
    clear ty ka rr
    generalize upd H tp (.tup [.ty "list", .ty "tuple"]) = H1 at s1 ha1 rr1
    have sq : SqL K H1 a xs ∨ SqT K H1 a xs := ha1.imp SqL.of SqT.of
    refine ⟨_, rfl, a, xs, rfl, sq, rfl, _, rfl, iteFe (decide_eq_false fun z => by have := V.int.inj z; omega) ?_⟩
    refine ⟨_, rfl, a, xs, rfl, sq, _, _, rfl, rfl, _, rfl, iteFe (decide_eq_false (by omega)) ?_⟩
    refine ⟨_, rfl, a, xs, rfl, sq, _, rfl, by omega, by omega, ?_⟩
    refine for_range (lo := 0) (fun i σ H' => H' = H1 ∧ ∃ y : Option V, σ = [some (.ref a), y, none]) ⟨rfl, _, rfl⟩ ?_ ?_
    · rintro i σ H' hi ⟨rfl, y, rfl⟩
      have hl : i < xs.length := by omega
      have hx := List.getElem?_eq_getElem hl
      have hat : atI xs (0 + (i : Int)) = some xs[i] := by rw [Int.zero_add]; exact atI_nat hx
      have hk := (rr1 i _ hx).kind
      rcases ha1 with h | h
      · exact ⟨_, rfl, _, rfl, .inl ⟨a, xs, _, _, rfl, rfl, .of h, hat, _, rfl, .inl ⟨hk, true, rfl, iteF ⟨rfl, _, rfl⟩⟩⟩⟩
      · exact ⟨_, rfl, _, rfl, .inr ⟨a, xs, _, _, rfl, rfl, .of h, hat, _, rfl, .inl ⟨hk, true, rfl, iteF ⟨rfl, _, rfl⟩⟩⟩⟩
    · rintro σ H' ⟨rfl, y, rfl⟩
      have turn : ∀ {G : Hp} {d : Addr} {ys : List V} {j : Nat} {x v : V} {t b : Int} {G2 : Hp}, H' d = none → Same H' G → G d = some (.lst ys) → ys.length = j → Rats A.Ratio n m G ys f → IsF A.Ratio n m G2 v (f j).1 (f j).2 → Same G G2 → j < xs.length →
          ∃ acc, G2 d = some (.lst acc) ∧ acc.length < sizeLine ∧ Same H' (upd G2 d (.lst (acc ++ [v]))) ∧ ∃ zs : List V, zs.length = j + 1 ∧ upd G2 d (.lst (acc ++ [v])) d = some (.lst zs) ∧ Rats A.Ratio n m (upd G2 d (.lst (acc ++ [v]))) zs f := fun nd sm hd hy hr hv s2 hj => by
        subst hy
        exact ⟨_, s2 _ _ hd, small1000 (by omega), same_push (sm.trans s2) nd, _, by rw [List.length_append]; rfl, upd_same, (hr.same s2).push (s2 _ _ hd) hv⟩
      rcases ha1 with h | h
      · refine .inl ⟨_, rfl, a, rfl, ⟨xs, .of h⟩, fun d nd => ?_⟩
        refine lc_list (K := K) (a := a) (xs := xs) (fun i G => Same H' G ∧ ∃ ys : List V, ys.length = i ∧ G d = some (.lst ys) ∧ Rats A.Ratio n m G ys f) ⟨same_upd nd, [], rfl, upd_same, Rats.nil⟩ (fun i G _ p => .of (p.1 _ _ h)) ?_ ?_
        · rintro i x G hx ⟨sm, ys, hy, hd, hr⟩
          have hl := (List.getElem?_eq_some_iff.mp hx).1
          obtain ⟨t, b, r, k⟩ := (rr1 i x hx).same sm
          exact ⟨rfl, _, rfl, x, t, b, rfl, r, fun G2 v s2 r2 => turn (x := x) (t := t) (b := b) nd sm hd hy hr ⟨t, b, r2, k⟩ s2 hl⟩
        · rintro G ⟨sm, ys, hy, hd, hr⟩
          exact q _ d ys (s1.trans sm) hd hy hr
      · refine .inr ⟨_, rfl, a, rfl, ⟨xs, .of h⟩, fun d nd => ?_⟩
        refine lc_tup (K := K) (a := a) (xs := xs) (fun i G => Same H' G ∧ ∃ ys : List V, ys.length = i ∧ G d = some (.lst ys) ∧ Rats A.Ratio n m G ys f) ⟨same_upd nd, [], rfl, upd_same, Rats.nil⟩ (fun i G _ p => .of (p.1 _ _ h)) ?_ ?_
        · rintro i x G hx ⟨sm, ys, hy, hd, hr⟩
          have hl := (List.getElem?_eq_some_iff.mp hx).1
          obtain ⟨t, b, r, k⟩ := (rr1 i x hx).same sm
          exact ⟨rfl, _, rfl, x, t, b, rfl, r, fun G2 v s2 r2 => turn (x := x) (t := t) (b := b) nd sm hd hy hr ⟨t, b, r2, k⟩ s2 hl⟩
        · rintro G ⟨sm, ys, hy, hd, hr⟩
          exact q _ d ys (s1.trans sm) hd hy hr
/-! ### one bottom for all -/
/-- these integers are the values f 0, f 1, .. times B -/
def Tops (B : Int) (e : Nat) (ts : List Int) (f : Nat → Int × Int) : Prop := ∀ k t, ts[k]? = some t → t * (f k).2 = (f k).1 * B ∧ t.natAbs < 2 ^ e
theorem Tops.nil {B : Int} {e : Nat} {f : Nat → Int × Int} : Tops B e [] f := fun k t h => by simp at h
theorem push_get {α : Type} {ys : List α} {y x : α} {k : Nat} (h : (ys ++ [y])[k]? = some x) : (k < ys.length ∧ ys[k]? = some x) ∨ (k = ys.length ∧ x = y) := by
  rcases Nat.lt_trichotomy k ys.length with e | e | e
  · rw [List.getElem?_append_left e] at h
    exact .inl ⟨e, h⟩
  · subst e
    rw [List.getElem?_append_right (Nat.le_refl _), Nat.sub_self] at h
    cases h
    exact .inr ⟨rfl, rfl⟩
  · rw [List.getElem?_append_right (Nat.le_of_lt e)] at h
    obtain ⟨j, hj⟩ : ∃ j, k - ys.length = j + 1 := ⟨k - ys.length - 1, by omega⟩
    rw [hj] at h
    simp at h
theorem Tops.push {B : Int} {e : Nat} {ts : List Int} {f : Nat → Int × Int} {t : Int} (h : Tops B e ts f) (ht : t * (f ts.length).2 = (f ts.length).1 * B) (hs : t.natAbs < 2 ^ e) : Tops B e (ts ++ [t]) f := fun k x hx => by
  rcases push_get hx with ⟨_, h1⟩ | ⟨rfl, rfl⟩
  · exact h k x h1
  · exact ⟨ht, hs⟩
theorem rat_one {C : Addr} {H : Hp} {v : V} {t b t' b' : Int} (h : RatAt C H v t b) (h' : RatAt C H v t' b') : t = t' ∧ b = b' := by
  obtain ⟨a, dx, rfl, e⟩ := h
  obtain ⟨a', dx', e0, e'⟩ := h'
  cases e0
  rw [e] at e'
  cases e'
  exact ⟨rfl, rfl⟩
def sp_parts (C : Addr) : Sp := fun vs H Q _ => ∃ a xs f n m, vs = [.ref a] ∧ (H a = some (.lst xs) ∨ H a = some (.tup xs)) ∧ Rats C n m H xs f ∧ xs.length ≤ 13 ∧ n ≤ 1900 ∧ m ≤ 1900 ∧ n + m * xs.length ≤ 1900 ∧
  ∀ H' tp l ts B, Same H H' → H' tp = some (.tup [.ref l, .int B]) → H' l = some (.lst (ts.map V.int)) → ts.length = xs.length → 0 < B → B.natAbs < 2 ^ (m * xs.length + 1) → Tops B (n + m * xs.length + 1) ts f → Q (.ref tp) H'
theorem ok_whole_parts (T : Txt K mg A D) : FnOk P w K mg base CX0 2 A.f_whole_parts D.f_whole_parts ["ratios"] (sp_parts A.Ratio) := by
  skip
  refine T.F_whole_parts.ok sc_whole_parts (fun vs H Q E h => ?_) (fun cdv A' outer s H vs Q E hr h => ?_)
  · obtain ⟨a, xs, f, n, m, rfl, _⟩ := h
    rfl
  · obtain ⟨a, xs, f, n, m, rfl, ha, rr, l1, hn, hm, hnm, q⟩ := h
    refine ⟨_, (pss_cons (ps_set (i := 1) sc_whole_parts.nd rfl (.inr rfl) pe_int)
  (pss_cons (ps_for PassesOwn.never rfl (pi_or (pi_list (pv 0)) (pi_tup (pv 0))) (pg_name (i := 2) sc_whole_parts.nd rfl (.inl rfl)) (pss_one (ps_set (i := 1) sc_whole_parts.nd rfl (.inr rfl) (pe_callBfun cr_lcm rfl T.g_lcm (pa_cons (pv 1) (pa_cons (pe_fld (pv 2) rfl) pa_nil))))))
  (pss_one (ps_ret (pe_tup (pa_cons (pe_lc (own := [("number", 2)]) (g := gName 2) (tt := tYes) rfl sc_whole_parts.nd (pi_or (pi_list (pv 0)) (pi_tup (pv 0))) (blkOk_by (N := N_whole_parts) (sc := defScope s_whole_parts) (by decide +kernel)) (fun _ _ _ _ _ => (pg_name (i := 2) sc_whole_parts.nd rfl (.inl rfl))) (fun _ _ _ _ _ => pts_nil) (fun _ _ _ _ _ => (pe_op op_mulW (pe_fldK (K := K) rfl (pv 2) rfl) (pe_op op_fdivA (pv 1) (pe_fldK (K := K) rfl (pv 2) rfl))))) (pa_cons (pv 1) pa_nil))))))), ?_⟩
    have cl := T.k_Ratio.cl
    have nt := T.k_Ratio.n_top
    have nb := T.k_Ratio.n_bottom
    rcases ha with ha | ha
    · refine .inl ⟨_, rfl, a, rfl, ⟨xs, .of ha⟩, ?_⟩
      refine for_list (K := K) (a := a) (xs := xs) (fun i σ H' => H' = H ∧ ∃ (B : Nat) (y : Option V), σ = [some (.ref a), some (.int (B : Int)), y] ∧ 0 < B ∧ B ≤ 2 ^ (m * i) ∧ ∀ j x t b, j < i → xs[j]? = some x → RatAt A.Ratio H x t b → b.natAbs ∣ B)
        ⟨rfl, 1, _, rfl, by decide, by simp, fun j _ _ _ h => absurd h (Nat.not_lt_zero _)⟩ (fun i σ H' _ h => by rw [h.1]; exact .of ha) ?_ ?_
      · rintro i x σ H' hx ⟨rfl, B, y, rfl, b0, b1, hd⟩
        have hl := (List.getElem?_eq_some_iff.mp hx).1
        obtain ⟨t, b, ⟨c, dx, rfl, hc⟩, p1, p2, p3, p4, p5⟩ := rr i x hx
        have bi : 2 ^ (m * i) ≤ 2 ^ 1900 := Nat.pow_le_pow_right (by decide) (by
          have : m * i ≤ m * xs.length := Nat.mul_le_mul_left m (by omega)
          omega)
        have sB : Sm (B : Int) := Sm.of (k := 1901) (by
          show B < 2 ^ 1901
          have : 2 ^ 1900 < 2 ^ 1901 := Nat.pow_lt_pow_right (by decide) (by decide)
          omega) (by decide)
        refine ⟨_, rfl, _, rfl, c, A.Ratio, dx, _, _, rfl, hc, cl, nb, rfl, (B : Int), b, rfl, sB, sm_of p5 (by omega), rfl, Nat.lcm B b.natAbs, _, rfl, ?_, ?_, ?_⟩
        · exact Nat.lcm_pos b0 (by omega)
        · refine Nat.le_trans (PySem.W.mc_lcm_le _ _) ?_
          rw [Nat.mul_add, Nat.mul_one, Nat.pow_add]
          exact Nat.mul_le_mul b1 (Nat.le_of_lt p5)
        · intro j x' t' b' hj hx' hr
          rcases (by omega : j < i ∨ j = i) with e | e
          · exact Nat.dvd_trans (hd j x' t' b' e hx' hr) (Nat.dvd_lcm_left _ _)
          · subst e
            rw [hx] at hx'
            cases hx'
            obtain ⟨e1, e2⟩ := rat_one hr ⟨c, dx, rfl, hc⟩
            subst e2
            exact Nat.dvd_lcm_right _ _
      · rintro σ H' ⟨rfl, B, y, rfl, b0, b1, hd⟩
        have hB : B < 2 ^ (m * xs.length + 1) := Nat.lt_of_le_of_lt b1 (Nat.pow_lt_pow_right (by decide) (Nat.lt_succ_self _))
        refine .inl ⟨_, rfl, a, rfl, ⟨xs, .of ha⟩, fun d nd => ?_⟩
        refine lc_list (K := K) (a := a) (xs := xs) (fun i G => Same H' G ∧ ∃ ts : List Int, ts.length = i ∧ G d = some (.lst (ts.map V.int)) ∧ Tops (B : Int) (n + m * xs.length + 1) ts f) ⟨same_upd nd, [], rfl, upd_same, Tops.nil⟩ (fun i G _ p => .of (p.1 _ _ ha)) ?_ ?_
        · rintro i x G hx ⟨sm, ts, hy, hd', hr⟩
          have hl := (List.getElem?_eq_some_iff.mp hx).1
          obtain ⟨t, b, hrat, p1, p2, p3, p4, p5⟩ := rr i x hx
          have hdv := hd i x t b hl hx hrat
          obtain ⟨c, dx, rfl, hc⟩ := hrat.same sm
          obtain ⟨g, hg⟩ := hdv
          have eB : (B : Int) = b * (g : Int) := by
            rw [hg, Int.natCast_mul]
            congr 1
            omega
          have ef : (B : Int).fdiv b = (g : Int) := by rw [eB]; exact Int.mul_fdiv_cancel_left _ (by omega)
          have hgB : g ≤ B := by
            rw [hg]
            exact Nat.le_mul_of_pos_left _ (by omega)
          refine ⟨rfl, _, rfl, c, A.Ratio, dx, _, _, rfl, hc, cl, nt, rfl, _, rfl, _, rfl, c, A.Ratio, dx, _, _, rfl, hc, cl, nb, rfl, _, _, rfl, rfl, Sm.div (by omega) (sm_of p5 (by omega)), ?_⟩
          subst hy
          have g14 : ((g : Int)).natAbs < 2 ^ (m * xs.length + 1) := Nat.lt_of_le_of_lt hgB hB
          refine ⟨_, _, rfl, rfl, (sm_of p4 (by omega)).mul (by rw [ef]; exact sm_of g14 (by omega)), _, hd', by rw [List.length_map]; exact small1000 (by omega), same_push sm nd, ts ++ [t * (B : Int).fdiv b], by rw [List.length_append]; rfl, by rw [upd_same, List.map_append]; rfl, hr.push ?_ ?_⟩
          · rw [ef, eB]
            grind
          · rw [ef]
            exact nle (nmul p4 g14) (by omega)
        · rintro G ⟨sm, ts, hy, hd', hr⟩
          refine ⟨_, rfl, by show 2 ≤ sizeLine; decide, fun tp ntp => ?_⟩
          have s2 := same_upd (o := .tup [.ref d, .int (B : Int)]) ntp
          exact q _ tp d ts (B : Int) (sm.trans s2) upd_same (s2 _ _ hd') hy (by omega) hB hr
    · refine .inr ⟨_, rfl, a, rfl, ⟨xs, .of ha⟩, ?_⟩
      refine for_tup (K := K) (a := a) (xs := xs) (fun i σ H' => H' = H ∧ ∃ (B : Nat) (y : Option V), σ = [some (.ref a), some (.int (B : Int)), y] ∧ 0 < B ∧ B ≤ 2 ^ (m * i) ∧ ∀ j x t b, j < i → xs[j]? = some x → RatAt A.Ratio H x t b → b.natAbs ∣ B)
        ⟨rfl, 1, _, rfl, by decide, by simp, fun j _ _ _ h => absurd h (Nat.not_lt_zero _)⟩ (fun i σ H' _ h => by rw [h.1]; exact .of ha) ?_ ?_
      · rintro i x σ H' hx ⟨rfl, B, y, rfl, b0, b1, hd⟩
        have hl := (List.getElem?_eq_some_iff.mp hx).1
        obtain ⟨t, b, ⟨c, dx, rfl, hc⟩, p1, p2, p3, p4, p5⟩ := rr i x hx
        have bi : 2 ^ (m * i) ≤ 2 ^ 1900 := Nat.pow_le_pow_right (by decide) (by
          have : m * i ≤ m * xs.length := Nat.mul_le_mul_left m (by omega)
          omega)
        have sB : Sm (B : Int) := Sm.of (k := 1901) (by
          show B < 2 ^ 1901
          have : 2 ^ 1900 < 2 ^ 1901 := Nat.pow_lt_pow_right (by decide) (by decide)
          omega) (by decide)
        refine ⟨_, rfl, _, rfl, c, A.Ratio, dx, _, _, rfl, hc, cl, nb, rfl, (B : Int), b, rfl, sB, sm_of p5 (by omega), rfl, Nat.lcm B b.natAbs, _, rfl, ?_, ?_, ?_⟩
        · exact Nat.lcm_pos b0 (by omega)
        · refine Nat.le_trans (PySem.W.mc_lcm_le _ _) ?_
          rw [Nat.mul_add, Nat.mul_one, Nat.pow_add]
          exact Nat.mul_le_mul b1 (Nat.le_of_lt p5)
        · intro j x' t' b' hj hx' hr
          rcases (by omega : j < i ∨ j = i) with e | e
          · exact Nat.dvd_trans (hd j x' t' b' e hx' hr) (Nat.dvd_lcm_left _ _)
          · subst e
            rw [hx] at hx'
            cases hx'
            obtain ⟨e1, e2⟩ := rat_one hr ⟨c, dx, rfl, hc⟩
            subst e2
            exact Nat.dvd_lcm_right _ _
      · rintro σ H' ⟨rfl, B, y, rfl, b0, b1, hd⟩
        have hB : B < 2 ^ (m * xs.length + 1) := Nat.lt_of_le_of_lt b1 (Nat.pow_lt_pow_right (by decide) (Nat.lt_succ_self _))
        refine .inr ⟨_, rfl, a, rfl, ⟨xs, .of ha⟩, fun d nd => ?_⟩
        refine lc_tup (K := K) (a := a) (xs := xs) (fun i G => Same H' G ∧ ∃ ts : List Int, ts.length = i ∧ G d = some (.lst (ts.map V.int)) ∧ Tops (B : Int) (n + m * xs.length + 1) ts f) ⟨same_upd nd, [], rfl, upd_same, Tops.nil⟩ (fun i G _ p => .of (p.1 _ _ ha)) ?_ ?_
        · rintro i x G hx ⟨sm, ts, hy, hd', hr⟩
          have hl := (List.getElem?_eq_some_iff.mp hx).1
          obtain ⟨t, b, hrat, p1, p2, p3, p4, p5⟩ := rr i x hx
          have hdv := hd i x t b hl hx hrat
          obtain ⟨c, dx, rfl, hc⟩ := hrat.same sm
          obtain ⟨g, hg⟩ := hdv
          have eB : (B : Int) = b * (g : Int) := by
            rw [hg, Int.natCast_mul]
            congr 1
            omega
          have ef : (B : Int).fdiv b = (g : Int) := by rw [eB]; exact Int.mul_fdiv_cancel_left _ (by omega)
          have hgB : g ≤ B := by
            rw [hg]
            exact Nat.le_mul_of_pos_left _ (by omega)
          refine ⟨rfl, _, rfl, c, A.Ratio, dx, _, _, rfl, hc, cl, nt, rfl, _, rfl, _, rfl, c, A.Ratio, dx, _, _, rfl, hc, cl, nb, rfl, _, _, rfl, rfl, Sm.div (by omega) (sm_of p5 (by omega)), ?_⟩
          subst hy
          have g14 : ((g : Int)).natAbs < 2 ^ (m * xs.length + 1) := Nat.lt_of_le_of_lt hgB hB
          refine ⟨_, _, rfl, rfl, (sm_of p4 (by omega)).mul (by rw [ef]; exact sm_of g14 (by omega)), _, hd', by rw [List.length_map]; exact small1000 (by omega), same_push sm nd, ts ++ [t * (B : Int).fdiv b], by rw [List.length_append]; rfl, by rw [upd_same, List.map_append]; rfl, hr.push ?_ ?_⟩
          · rw [ef, eB]
            grind
          · rw [ef]
            exact nle (nmul p4 g14) (by omega)
        · rintro G ⟨sm, ts, hy, hd', hr⟩
          refine ⟨_, rfl, by show 2 ≤ sizeLine; decide, fun tp ntp => ?_⟩
          have s2 := same_upd (o := .tup [.ref d, .int (B : Int)]) ntp
          exact q _ tp d ts (B : Int) (sm.trans s2) upd_same (s2 _ _ hd') hy (by omega) hB hr
theorem Tops.mono {B : Int} {e e' : Nat} {ts : List Int} {f : Nat → Int × Int} (h : Tops B e ts f) (l : e ≤ e') : Tops B e' ts f := fun k t x => ⟨(h k t x).1, nle (h k t x).2 l⟩

end

section
variable {P : Program} {w : World} {K : PySem.W.Frag} {mg : Str → Option Value} {base : Heap} {A : Ad} {D : Fd}
theorem so0 : Sm 0 := .ab (by decide) (by decide)
/-! ### a list without the zeros at its end -/
def sp_trimmed (C : Addr) : Sp := fun vs H Q _ => ∃ a xs f n m, vs = [.ref a] ∧ H a = some (.lst xs) ∧ Rats C n m H xs f ∧ xs.length ≤ 20 ∧ n ≤ 1000 ∧ m ≤ 1000 ∧
  ∀ H' d s, Same H H' → H' d = some (.lst (xs.take s)) → s ≤ xs.length → (∀ k, s ≤ k → k < xs.length → (f k).1 = 0) → (0 < s → (f (s - 1)).1 ≠ 0) → Q (.ref d) H'
theorem ok_trimmed (T : Txt K mg A D) : FnOk P w K mg base CX0 4 A.f_trimmed D.f_trimmed ["numbers"] (sp_trimmed A.Ratio) := by
  have G_Ratio___eq__ : FnOk P w K mg base CX0 3 A.f_Ratio___eq__ D.f_Ratio___eq__ ["self", "other"] (sp_cmp A.Ratio r_eq) := ok_Ratio___eq__ T
  refine T.F_trimmed.ok sc_trimmed (fun vs H Q E h => ?_) (fun cdv A' outer s H vs Q E hr h => ?_)
  · obtain ⟨a, xs, f, n, m, rfl, _⟩ := h
    rfl
  · obtain ⟨a, xs, f, n, m, rfl, ha, rr, l1, hn, hm, q⟩ := h
    refine ⟨_, (pss_cons (ps_set (i := 1) sc_trimmed.nd rfl (.inl rfl) (pe_callB call_len_seq rfl T.z_len (by decide +kernel) (pa_cons (pv 0) pa_nil)))
  (pss_cons (ps_while PassesOwn.never (PW.pt (pw_and (pt_cmpR op_gt (pv 1) pe_int (nomark _)) (pw_and1 (pt_cmpR (op_eq_own T.k_Ratio.ow T.m_Ratio___eq__ G_Ratio___eq__ (hr.mono (by decide)) T.b_Ratio___eq__ pass0) (pe_ix ix_list (pv 0) (pe_op op_sub (pv 1) pe_int) (fun _ _ => rfl)) pe_int (nomark _))))) (pss_one (ps_set (i := 1) sc_trimmed.nd rfl (.inl rfl) (pe_op op_sub (pv 1) pe_int))))
  (pss_one (ps_ret (pe_slice sl_list (pv 0) po_none (po_some (pv 1))))))), ?_⟩
    refine ⟨_, rfl, a, xs, rfl, .inl (.of ha), ?_⟩
    have hn4 : n ≤ 4000 := by omega
    have hm4 : m ≤ 4000 := by omega
    refine while_by (fun σ H' => H' = H ∧ ∃ s : Nat, s ≤ xs.length ∧ (∀ k, s ≤ k → k < xs.length → (f k).1 = 0) ∧ σ = [some (.ref a), some (.int (s : Int))]) (fun σ _ => match σ with | [_, some (.int i)] => i.toNat | _ => 0)
      ⟨rfl, xs.length, Nat.le_refl _, fun k h1 h2 => absurd h2 (by omega), rfl⟩ ?_ ?_
    · rintro σ H' ⟨rfl, s, hs, hz, rfl⟩
      refine ⟨_, rfl, _, _, rfl, rfl, _, rfl, ?_⟩
      have fin : ((s = 0) ∨ (0 < s ∧ (f (s - 1)).1 ≠ 0)) → tRet (tSl (rSlL K) (tVar 0) tNoPart (tPart (tVar 1))) { nx := fun x H' => Q V.non H', rt := Q } [some (.ref a), some (.int (s : Int))] H' := fun hc => by
        refine ⟨_, rfl, _, rfl, _, rfl, a, xs, rfl, .of ha, fun d nd => ?_⟩
        have ec : cutV xs none (some (s : Int)) = xs.take s := by
          unfold cutV
          have e1 : HT.sIx xs.length 0 none = 0 := rfl
          have e2 : HT.sIx xs.length xs.length (some (s : Int)) = s := by
            show (if (s : Int) < 0 then ((s : Int) + (xs.length : Int)).toNat else min (s : Int).toNat xs.length) = s
            rw [if_neg (by omega)]
            omega
          rw [e1, e2]
          rfl
        rw [ec]
        refine q _ d s (same_upd nd) upd_same hs hz fun h => ?_
        rcases hc with h2 | h2
        · omega
        · exact h2.2
      refine ite2 (fun h0 => ?_) (fun h0 => ?_)
      · have s0 : 0 < s := by
          have := of_decide_eq_true h0
          omega
        have hx := List.getElem?_eq_getElem (show s - 1 < xs.length by omega)
        have hat : atI xs ((s : Int) - 1) = some xs[s - 1] := by
          have e : (s : Int) - 1 = ((s - 1 : Nat) : Int) := by omega
          rw [e]
          exact atI_nat hx
        obtain ⟨t, b, hr, p1, p2, p3, p4, p5⟩ := rr _ _ hx
        refine ⟨_, rfl, _, rfl, _, _, rfl, rfl, a, xs, _, _, rfl, rfl, .of ha, hat, hr.ins, .inl ⟨_, rfl⟩, _, _, t, b, 0, 1, rfl, hr, .inl ⟨rfl, rfl⟩, sm_of p4 hn4, sm_of p5 hm4, so0, so, ?_⟩
        refine ⟨_, rfl, ite2 (fun c => ?_) (fun c => ?_)⟩
        · have t0 : t = 0 := by
            have := of_decide_eq_true c
            omega
          have f0 : (f (s - 1)).1 = 0 := by
            rw [t0, Int.zero_mul] at p3
            rcases Int.mul_eq_zero.mp p3.symm with e | e
            · exact e
            · omega
          refine ⟨_, rfl, _, _, rfl, rfl, ⟨rfl, s - 1, by omega, fun k h1 h2 => ?_, ?_⟩, ?_⟩
          · rcases (by omega : k = s - 1 ∨ s ≤ k) with e | e
            · rw [e]; exact f0
            · exact hz k e h2
          · show [some (V.ref a), some (V.int ((s : Int) - 1))] = _
            rw [show (s : Int) - 1 = ((s - 1 : Nat) : Int) by omega]
          · show ((s : Int) - 1).toNat < (s : Int).toNat
            omega
        · refine fin (.inr ⟨s0, fun z => c (decide_eq_true ?_)⟩)
          rw [z, Int.zero_mul] at p3
          rcases Int.mul_eq_zero.mp p3 with e | e
          · rw [e]; simp
          · omega
      · have s0 : s = 0 := by
          rcases Nat.eq_zero_or_pos s with e | e
          · exact e
          · exact absurd (decide_eq_true (by omega)) h0
        exact fin (.inl s0)
    · intro σ H' Q Q' hq h
      obtain ⟨v, hv, i, j, e1, e2, c, ec, h⟩ := h
      refine ⟨v, hv, i, j, e1, e2, c, ec, ?_⟩
      cases c with
      | false => exact hq _ _ h
      | true =>
        obtain ⟨w1, hw, w2, h2, i2, j2, a1, a2, a3, xs2, i3, x3, b1, b2, b3, b4, b5, b6, x4, x5, t4, t5, t6, t7, c1, c2, c3, c4, c5, c6, c7, k, e8, h⟩ := h
        exact ⟨w1, hw, w2, h2, i2, j2, a1, a2, a3, xs2, i3, x3, b1, b2, b3, b4, b5, b6, x4, x5, t4, t5, t6, t7, c1, c2, c3, c4, c5, c6, c7, k, e8, hq _ _ h⟩
/-! ### walks over a list or a tuple -/
theorem for_seq {tl tl' : TE} {a : Addr} {xs : List V} {g : TG} {tb : TS} {D : Ends} {σ : L2.St} {H : Hp} (ha : H a = some (.lst xs) ∨ H a = some (.tup xs)) (h1 : ∀ R : VK, R (.ref a) H → tl σ H R) (h2 : ∀ R : VK, R (.ref a) H → tl' σ H R)
    (Pv : Nat → L2.St → Hp → Prop) (h0 : Pv 0 σ H) (hk : ∀ (i : Nat) (σ : L2.St) (G : Hp), i ≤ xs.length → Pv i σ G → Same H G)
    (step : ∀ (i : Nat) (x : V) (σ : L2.St) (G : Hp), xs[i]? = some x → Pv i σ G → g x σ G fun σ2 H2 => tb { nx := Pv (i + 1), rt := D.rt, bk := D.nx, ct := Pv (i + 1) } σ2 H2)
    (done : ∀ (σ : L2.St) (G : Hp), Pv xs.length σ G → D.nx σ G) : tFor (fun σ H R => iList K tl σ H R ∨ iTup K tl' σ H R) g tb D σ H := by
  rcases ha with h | h
  · exact .inl (h1 _ ⟨a, rfl, ⟨xs, .of h⟩, for_list Pv h0 (fun i σ G hi p => .of (hk i σ G hi p _ _ h)) step done⟩)
  · exact .inr (h2 _ ⟨a, rfl, ⟨xs, .of h⟩, for_tup Pv h0 (fun i σ G hi p => .of (hk i σ G hi p _ _ h)) step done⟩)
/-- what a comprehension asks of a walk -/
abbrev lcR (g : TG) (tt : TT) (te : TE) (vs : List Nat) (σ : L2.St) (Qd : Addr → Hp → Prop) : It → Hp → Prop := fun J H1 => ∀ (D : Addr), H1 D = none → ∃ W : Nat → Nat → Hp → Prop, (∃ m, W 0 m (upd H1 D (.lst []))) ∧ ∀ (i m : Nat) (H : Hp), W i m H →
  J.stop i H ∧ Qd D H ∨ J.go i H ∧ ∃ Nx : Hp → Prop, (∀ H' : Hp, Nx H' → ∃ m', m' < m ∧ W (i + 1) m' H') ∧ ∀ (x : V) (H' : Hp), J.yld i H x H' → g x (wipe σ vs) H' fun σ2 H2 => wipe σ2 vs = wipe σ vs ∧ tt σ2 H2 fun b H3 => if b = true then te σ2 H3 fun y H4 => ∃ acc, H4 D = some (.lst acc) ∧ acc.length < sizeLine ∧ Nx (upd H4 D (.lst (acc ++ [y]))) else Nx H3
theorem lc_seq {tl tl' : TE} {a : Addr} {xs : List V} {g : TG} {tt : TT} {te : TE} {vs : List Nat} {σ : L2.St} {H : Hp} {Qd : Addr → Hp → Prop} (ha : H a = some (.lst xs) ∨ H a = some (.tup xs)) (h1 : ∀ R : VK, R (.ref a) H → tl σ H R) (h2 : ∀ R : VK, R (.ref a) H → tl' σ H R)
    (Pv : Addr → Nat → Hp → Prop) (h0 : ∀ D, H D = none → Pv D 0 (upd H D (.lst []))) (hk : ∀ (D : Addr) (i : Nat) (G : Hp), i ≤ xs.length → Pv D i G → Same H G)
    (step : ∀ (D : Addr) (i : Nat) (x : V) (G : Hp), H D = none → xs[i]? = some x → Pv D i G → g x (wipe σ vs) G fun σ2 H2 => wipe σ2 vs = wipe σ vs ∧ tt σ2 H2 fun b H3 => if b = true then te σ2 H3 fun y H4 => ∃ acc, H4 D = some (.lst acc) ∧ acc.length < sizeLine ∧ Pv D (i + 1) (upd H4 D (.lst (acc ++ [y]))) else Pv D (i + 1) H3)
    (done : ∀ (D : Addr) (G : Hp), H D = none → Pv D xs.length G → Qd D G) : iList K tl σ H (lcR g tt te vs σ Qd) ∨ iTup K tl' σ H (lcR g tt te vs σ Qd) := by
  rcases ha with h | h
  · exact .inl (h1 _ ⟨a, rfl, ⟨xs, .of h⟩, fun D nd => lc_list (Pv D) (h0 D nd) (fun i G hi p => .of (hk D i G hi p _ _ h)) (fun i x G hx p => step D i x G nd hx p) (fun G p => done D G nd p)⟩)
  · exact .inr (h2 _ ⟨a, rfl, ⟨xs, .of h⟩, fun D nd => lc_tup (Pv D) (h0 D nd) (fun i G hi p => .of (hk D i G hi p _ _ h)) (fun i x G hx p => step D i x G nd hx p) (fun G p => done D G nd p)⟩)
/-! ### polynomials -/
theorem RatAt.keep {C : Addr} {G G' : Hp} {v : V} {t b : Int} {x : Addr} {o : HO} (r : RatAt C G v t b) (hx : G x = some o) (ne : ∀ dx t b, HO.ins C dx [("top", .int t), ("bottom", .int b)] ≠ o) (k : ∀ b u, b ≠ x → G b = some u → G' b = some u) : RatAt C G' v t b := by
  obtain ⟨a, dx, e, h⟩ := r
  exact ⟨a, dx, e, k _ _ (fun z => by subst z; rw [hx] at h; exact ne _ _ _ (Option.some.inj h).symm) h⟩
theorem Rats.keep {C : Addr} {n m : Nat} {G G' : Hp} {xs : List V} {f : Nat → Int × Int} {x : Addr} {o : HO} (r : Rats C n m G xs f) (hx : G x = some o) (ne : ∀ dx t b, HO.ins C dx [("top", .int t), ("bottom", .int b)] ≠ o) (k : ∀ b u, b ≠ x → G b = some u → G' b = some u) : Rats C n m G' xs f := fun j y e => by
  obtain ⟨t, b, r, p⟩ := r j y e
  exact ⟨t, b, RatAt.keep r hx ne k, p⟩
theorem rat_ne_nil {C C' d : Addr} : ∀ dx t b, HO.ins C dx [("top", .int t), ("bottom", .int b)] ≠ .ins C' d [] := fun _ _ _ z => by
  have := (HO.ins.inj z).2.2
  cases this
theorem rat_ne_co {C C' d : Addr} {v : V} {r : List (Str × V)} : ∀ dx t b, HO.ins C dx [("top", .int t), ("bottom", .int b)] ≠ .ins C' d (("coefficients", v) :: r) := fun _ _ _ z => by
  have h : ("top" : Str) = "coefficients" := congrArg Prod.fst (List.cons.inj (HO.ins.inj z).2.2).1
  exact absurd h (by decide)
theorem upd_but {H : Hp} {a : Addr} {o : HO} : ∀ b u, b ≠ a → H b = some u → upd H a o b = some u := fun b u hb h => by rw [upd_ne hb]; exact h
/-- a Poly with the first s of the values f 0, f 1, .., the others are 0 -/
structure PolyAt (A : Ad) (n m : Nat) (H : Hp) (v : V) (s : Nat) (f : Nat → Int × Int) : Prop where
  ex : ∃ a dx tp ys l, v = .ref a ∧ H a = some (.ins A.Poly dx [("coefficients", .ref tp), ("degree", .int ((s : Int) - 1)), ("lead", l)]) ∧ H tp = some (.tup ys) ∧ ys.length = s ∧ Rats A.Ratio n m H ys f
  zero : ∀ k, s ≤ k → (f k).1 = 0
  pos : ∀ k, 0 < (f k).2
  last : 0 < s → (f (s - 1)).1 ≠ 0
theorem PolyAt.same {n m : Nat} {H H' : Hp} {v : V} {s : Nat} {f : Nat → Int × Int} (h : PolyAt A n m H v s f) (k : Same H H') : PolyAt A n m H' v s f := by
  obtain ⟨⟨a, dx, tp, ys, l, e, h1, h2, h3, h4⟩, z, z1, z2⟩ := h
  exact ⟨⟨a, dx, tp, ys, l, e, k _ _ h1, k _ _ h2, h3, h4.same k⟩, z, z1, z2⟩
theorem PolyAt.ins {n m : Nat} {H : Hp} {v : V} {s : Nat} {f : Nat → Int × Int} (h : PolyAt A n m H v s f) : Ins H v A.Poly := by
  obtain ⟨⟨a, dx, tp, ys, l, e, h1, h2, h3, h4⟩, _⟩ := h
  exact ⟨a, dx, _, e, h1⟩
theorem rats_take {C : Addr} {n m s : Nat} {H : Hp} {xs : List V} {f : Nat → Int × Int} (h : Rats C n m H xs f) : Rats C n m H (xs.take s) f := fun k x e => by
  rw [List.getElem?_take] at e
  split at e
  · exact h k x e
  · cases e
def sp_poly (K : PySem.W.Frag) (A : Ad) : Sp := fun vs H Q _ => ∃ (x dx a : Addr) (xs : List V) (f : Nat → Int × Int) (n m : Nat), vs = [.ref x, .ref a] ∧ H x = some (.ins A.Poly dx []) ∧ (H a = some (.lst xs) ∨ H a = some (.tup xs)) ∧ Nums A.Ratio n m H xs f ∧ xs.length ≤ 20 ∧ n ≤ 1000 ∧ m ≤ 1000 ∧ (∀ k, xs.length ≤ k → (f k).1 = 0) ∧ (∀ k, 0 < (f k).2) ∧
  ∀ G s, (∀ b o, b ≠ x → H b = some o → G b = some o) → PolyAt A n m G (.ref x) s f → s ≤ xs.length → Q .non G
theorem ok_Poly___init__ (T : Txt K mg A D) : FnOk P w K mg base CX0 6 A.f_Poly___init__ D.f_Poly___init__ ["self", "coefficients"] (sp_poly K A) := by
  have G_Ratio_init : FnOk P w K mg base CX0 2 A.f_Ratio___init__ D.f_Ratio___init__ ["self", "top", "bottom"] (sp_init A.Ratio) := ok_Ratio___init__ T
  obtain ⟨ds1, d_Ratio_init1, b_Ratio_init1⟩ := T.b1_Ratio___init__
  have G_is_number : FnOk P w K mg base CX0 2 A.f_is_number D.f_is_number ["x"] (sp_isnum K A.Ratio) := ok_is_number T
  have G_ratio_of : FnOk P w K mg base CX0 4 A.f_ratio_of D.f_ratio_of ["number"] (sp_ratio_of A.Ratio) := ok_ratio_of T
  have G_trimmed : FnOk P w K mg base CX0 4 A.f_trimmed D.f_trimmed ["numbers"] (sp_trimmed A.Ratio) := ok_trimmed T
  refine T.F_Poly___init__.ok sc_Poly___init__ (fun vs H Q E h => ?_) (fun cdv A' outer s H vs Q E hr h => ?_)
  · obtain ⟨x, dx, a, xs, f, n, m, rfl, _⟩ := h
    rfl
  · obtain ⟨x, dx, a, xs, f, n, m, rfl, hx, ha, rr, l1, hn, hm, hz, hp, q⟩ := h
    refine ⟨_, (pss_cons (ps_if (pt_not (pt_val (pe_callB call_isiT rfl T.z_isinstance (by decide +kernel) (pa_cons (pv 1) (pa_cons (pe_tup (pa_cons (pe_bltn (v := .ty "list") rfl T.z_list (by decide +kernel) rfl) (pa_cons (pe_bltn (v := .ty "tuple") rfl T.z_tuple (by decide +kernel) rfl) pa_nil))) pa_nil))))) (pss_one ps_never) pss_nil)
  (pss_cons (ps_for PassesOwn.never rfl (pi_or (pi_list (pv 1)) (pi_tup (pv 1))) (pg_name (i := 2) sc_Poly___init__.nd rfl (.inl rfl)) (pss_one (ps_if (pt_not (pt_val (pe_call G_is_number (hr.mono (by decide)) rfl T.g_is_number T.F_is_number.kp T.b_is_number .nil pass0 (pa_cons (pv 2) pa_nil)))) (pss_one ps_never) pss_nil)))
  (pss_cons (ps_fld (pv 0) (pe_callTy call_tuple_of rfl T.z_tuple (by decide +kernel) (pa_cons (pe_call G_trimmed (hr.mono (by decide)) rfl T.g_trimmed T.F_trimmed.kp T.b_trimmed .nil pass0 (pa_cons (pe_lc (own := [("number", 2)]) (g := gName 2) (tt := tYes) rfl sc_Poly___init__.nd (pi_or (pi_list (pv 1)) (pi_tup (pv 1))) (blkOk_by (N := N_Poly___init__) (sc := defScope s_Poly___init__) (by decide +kernel)) (fun _ _ _ _ _ => (pg_name (i := 2) sc_Poly___init__.nd rfl (.inl rfl))) (fun _ _ _ _ _ => pts_nil) (fun _ _ _ _ _ => (pe_call G_ratio_of (hr.mono (by decide)) rfl T.g_ratio_of T.F_ratio_of.kp T.b_ratio_of .nil pass0 (pa_cons (pv 2) pa_nil)))) pa_nil)) pa_nil)) rfl)
  (pss_cons (ps_fld (pv 0) (pe_op op_sub (pe_callB call_len_seq rfl T.z_len (by decide +kernel) (pa_cons (pe_fld (pv 0) rfl) pa_nil)) pe_int) rfl)
  (pss_cons (ps_fld (pv 0) (pe_make T.M_Ratio G_Ratio_init (hr.mono (by decide)) rfl T.g_Ratio b_Ratio_init1 d_Ratio_init1 pass0 (pa_cons pe_int pa_nil)) rfl)
  (pss_one (ps_if (pt_cmpR op_ge (pe_fld (pv 0) rfl) pe_int (nomark _)) (pss_one (ps_fld (pv 0) (pe_ix ix_tup (pe_fld (pv 0) rfl) (pe_fld (pv 0) rfl) (fun _ _ => rfl)) rfl)) pss_nil))))))), ?_⟩
    refine ⟨_, rfl, by show 2 ≤ sizeLine; decide, fun tp nt => ?_⟩
    have s1 : Same H (upd H tp (.tup [.ty "list", .ty "tuple"])) := same_upd nt
    have ha1 := ha.imp (s1 a _) (s1 a _)
    obtain ⟨t, ty, ka⟩ := kit_seq (K := K) ha1
    refine ⟨.ref a, tp, _, t, _, true, rfl, upd_same, .cons (.ty _) (.cons (.ty _) .nil), ty, ka, true, rfl, iteF ?_⟩
    have rr1 := rr.same s1
    have hx1 := s1 _ _ hx
    clear ty ka rr hx ha
    generalize upd H tp (.tup [.ty "list", .ty "tuple"]) = H1 at s1 ha1 rr1 hx1
    refine for_seq ha1 (fun R r => ⟨_, rfl, r⟩) (fun R r => ⟨_, rfl, r⟩) (fun i σ G => G = H1 ∧ ∃ y : Option V, σ = [some (.ref x), some (.ref a), y]) ⟨rfl, _, rfl⟩ (fun i σ G _ p => p.1 ▸ Same.refl H1) ?_ ?_
    · rintro i y σ G hy ⟨rfl, z, rfl⟩
      exact ⟨_, rfl, _, rfl, .inl ⟨(rr1 i y hy).kind, true, rfl, iteF ⟨rfl, _, rfl⟩⟩⟩
    · rintro σ G ⟨rfl, y, rfl⟩
      refine lc_seq ha1 (fun R r => ⟨_, rfl, r⟩) (fun R r => ⟨_, rfl, r⟩) (fun d i E => Same G E ∧ ∃ ys : List V, ys.length = i ∧ E d = some (.lst ys) ∧ Rats A.Ratio n m E ys f) (fun d nd => ⟨same_upd nd, [], rfl, upd_same, Rats.nil⟩) (fun d i E _ p => p.1) ?_ ?_
      · rintro d i z E nd hz2 ⟨sm, ys, hy, hd, hr⟩
        have hl := (List.getElem?_eq_some_iff.mp hz2).1
        obtain ⟨t, b, r, k⟩ := (rr1 i z hz2).same sm
        subst hy
        exact ⟨rfl, _, rfl, z, t, b, rfl, r, fun G2 v s2 r2 => ⟨_, s2 _ _ hd, small1000 (by omega), same_push (sm.trans s2) nd, _, by rw [List.length_append]; rfl, upd_same, (hr.same s2).push (s2 _ _ hd) ⟨t, b, r2, k⟩⟩⟩
      · rintro d E nd ⟨sm, ys, hy, hd, hr⟩
        refine ⟨d, ys, f, n, m, rfl, hd, hr, by omega, hn, hm, fun H2 d2 s s2 hd2 hs z1 z2 => ?_⟩
        rw [hy] at hs z1
        refine ⟨d2, ys.take s, rfl, .inl ⟨.of hd2, fun tp2 ntp2 => ?_⟩⟩
        have s3 := same_upd (o := .tup (ys.take s)) ntp2
        have sx := (sm.trans s2).trans s3
        have hx2 := sx _ _ hx1
        have hr2 : Rats A.Ratio n m (upd H2 tp2 (.tup (ys.take s))) (ys.take s) f := rats_take ((hr.same s2).same s3)
        have htp2 : upd H2 tp2 (.tup (ys.take s)) tp2 = some (.tup (ys.take s)) := upd_same
        have ls : (ys.take s).length = s := by rw [List.length_take]; omega
        generalize ys.take s = zs at *
        generalize upd H2 tp2 (.tup zs) = H3 at *
        clear hr hd hd2 s3 s2 sm
        have cl := T.k_Poly.cl
        refine ⟨_, rfl, x, A.Poly, dx, _, rfl, hx2, cl, T.n_Poly_coefficients, (by show 0 < 1000; decide), ?_⟩
        have k4 : ∀ b o, b ≠ x → H3 b = some o → upd H3 x (.ins A.Poly dx [("coefficients", .ref tp2)]) b = some o := upd_but
        have hr4 := hr2.keep hx2 rat_ne_nil k4
        have ht4 := k4 _ _ (ne_of htp2 hx2 fun z => by cases z) htp2
        have hx4 : upd H3 x (.ins A.Poly dx [("coefficients", .ref tp2)]) x = some (.ins A.Poly dx [("coefficients", .ref tp2)]) := upd_same
        refine ⟨_, rfl, x, A.Poly, dx, _, _, rfl, hx4, cl, T.n_Poly_coefficients, rfl, tp2, zs, rfl, .inr (.of ht4), _, _, rfl, rfl, _, rfl, x, A.Poly, dx, _, rfl, hx4, cl, T.n_Poly_degree, (by show 1 < 1000; decide), ?_⟩
        rw [ls]
        have e5 : upd (upd H3 x (.ins A.Poly dx [("coefficients", .ref tp2)])) x (.ins A.Poly dx [("coefficients", .ref tp2), ("degree", .int ((s : Int) - 1))]) = upd H3 x (.ins A.Poly dx [("coefficients", .ref tp2), ("degree", .int ((s : Int) - 1))]) := upd_upd
        have k5 : ∀ b o, b ≠ x → H3 b = some o → upd H3 x (.ins A.Poly dx [("coefficients", .ref tp2), ("degree", .int ((s : Int) - 1))]) b = some o := upd_but
        have hr5 := hr2.keep hx2 rat_ne_nil k5
        have ht5 := k5 _ _ (ne_of htp2 hx2 fun z => by cases z) htp2
        have hx5 : upd H3 x (.ins A.Poly dx [("coefficients", .ref tp2), ("degree", .int ((s : Int) - 1))]) x = some (.ins A.Poly dx [("coefficients", .ref tp2), ("degree", .int ((s : Int) - 1))]) := upd_same
        show tSeq _ _ _ _ (upd (upd H3 x (.ins A.Poly dx [("coefficients", .ref tp2)])) x (.ins A.Poly dx [("coefficients", .ref tp2), ("degree", .int ((s : Int) - 1))]))
        rw [e5]
        clear hr4 ht4 hx4 k4 e5
        generalize upd H3 x (.ins A.Poly dx [("coefficients", .ref tp2), ("degree", .int ((s : Int) - 1))]) = H5 at *
        refine fun r dr nr nd2 ne => ⟨r, dr, 0, 1, rfl, upd_same, by decide, so, fun t' b' nm => ⟨rfl, ?_⟩⟩
        obtain ⟨s6, r6⟩ := made (C := A.Ratio) nr nd2 ne t' b'
        have hx6 := s6 _ _ hx5
        have hr6 := hr5.same s6
        have ht6 := s6 _ _ ht5
        generalize upd (upd (upd H5 dr (.own r)) r (.ins A.Ratio dr [])) r (.ins A.Ratio dr [("top", .int t'), ("bottom", .int b')]) = H6 at *
        refine ⟨_, rfl, x, A.Poly, dx, _, rfl, hx6, cl, T.n_Poly_lead, (by show 2 < 1000; decide), ?_⟩
        have fd : ∀ (l : V) (b : Addr) (o : HO), b ≠ x → H b = some o → upd H6 x (.ins A.Poly dx [("coefficients", .ref tp2), ("degree", .int ((s : Int) - 1)), ("lead", l)]) b = some o := fun l b o hb h => upd_but _ _ hb (s6 _ _ (k5 _ _ hb (sx _ _ (s1 _ _ h))))
        have pl : ∀ l : V, PolyAt A n m (upd H6 x (.ins A.Poly dx [("coefficients", .ref tp2), ("degree", .int ((s : Int) - 1)), ("lead", l)])) (.ref x) s f := fun l =>
          ⟨⟨x, dx, tp2, zs, l, rfl, upd_same, upd_but _ _ (ne_of ht6 hx6 fun z => by cases z) ht6, ls, hr6.keep hx6 rat_ne_co upd_but⟩, fun k hk => by
            rcases Nat.lt_or_ge k xs.length with h | h
            · exact z1 k hk h
            · exact hz k h, hp, z2⟩
        have hx7 : upd H6 x (.ins A.Poly dx [("coefficients", .ref tp2), ("degree", .int ((s : Int) - 1)), ("lead", .ref r)]) x = some (.ins A.Poly dx [("coefficients", .ref tp2), ("degree", .int ((s : Int) - 1)), ("lead", .ref r)]) := upd_same
        have ht7 : upd H6 x (.ins A.Poly dx [("coefficients", .ref tp2), ("degree", .int ((s : Int) - 1)), ("lead", .ref r)]) tp2 = some (.tup zs) := upd_but _ _ (ne_of ht6 hx6 fun z => by cases z) ht6
        refine ⟨_, rfl, x, A.Poly, dx, _, _, rfl, hx7, cl, T.n_Poly_degree, rfl, _, _, rfl, rfl, _, rfl, ?_⟩
        refine ite2 (fun c => ?_) (fun c => q _ s (fd _) (pl _) hs)
        have s0 : 0 < s := by
          have := of_decide_eq_true c
          omega
        have hg := List.getElem?_eq_getElem (show s - 1 < zs.length by omega)
        have hat : atI zs ((s : Int) - 1) = some zs[s - 1] := by
          rw [show (s : Int) - 1 = ((s - 1 : Nat) : Int) by omega]
          exact atI_nat hg
        refine ⟨_, rfl, x, A.Poly, dx, _, _, rfl, hx7, cl, T.n_Poly_coefficients, rfl, _, rfl, x, A.Poly, dx, _, _, rfl, hx7, cl, T.n_Poly_degree, rfl, tp2, zs, _, _, rfl, rfl, .of ht7, hat, _, rfl, x, A.Poly, dx, _, rfl, hx7, cl, T.n_Poly_lead, (by show 3 < 1000; decide), ?_⟩
        show Q .non (upd (upd H6 x (.ins A.Poly dx [("coefficients", .ref tp2), ("degree", .int ((s : Int) - 1)), ("lead", .ref r)])) x (.ins A.Poly dx [("coefficients", .ref tp2), ("degree", .int ((s : Int) - 1)), ("lead", zs[s - 1])]))
        rw [upd_upd]
        exact q _ s (fd _) (pl _) hs
theorem made_but {H G : Hp} {x : Addr} {dx : Addr} {o : HO} (nx : H x = none) (nd : H dx = none) (k : ∀ b u, b ≠ x → upd (upd H dx (.own x)) x o b = some u → G b = some u) : Same H G := fun b u h => by
  have h1 : b ≠ x := fun z => by rw [z, nx] at h; cases h
  have h2 : b ≠ dx := fun z => by rw [z, nd] at h; cases h
  exact k b u h1 (by rw [upd_ne h1, upd_ne h2]; exact h)
/-- the making of a Poly -/
theorem poly_make {H : Hp} {E : XK} {x dx a : Addr} {xs : List V} {f : Nat → Int × Int} {n m : Nat} {R : VK} (nx : H x = none) (nd : H dx = none) (ha : H a = some (.lst xs) ∨ H a = some (.tup xs)) (hr : Nums A.Ratio n m H xs f) (l1 : xs.length ≤ 20) (hn : n ≤ 1000) (hm : m ≤ 1000) (hz : ∀ k, xs.length ≤ k → (f k).1 = 0) (hp : ∀ k, 0 < (f k).2)
    (q : ∀ G s, Same H G → PolyAt A n m G (.ref x) s f → s ≤ xs.length → R .non G) : sp_poly K A [.ref x, .ref a] (upd (upd H dx (.own x)) x (.ins A.Poly dx [])) R E := by
  have s0 : Same H (upd (upd H dx (.own x)) x (.ins A.Poly dx [])) := same_upd' (same_upd nd) nx
  exact ⟨x, dx, a, xs, f, n, m, rfl, upd_same, ha.imp (s0 a _) (s0 a _), hr.same s0, l1, hn, hm, hz, hp, fun G s k pl hs => q G s (made_but nx nd k) pl hs⟩
/-- the values of a number as a Poly -/
abbrev oneF (i : Int) : Nat → Int × Int := fun k => if k = 0 then (i, 1) else (0, 1)
theorem fit_of {t b t2 b2 : Int} {n m n2 m2 : Nat} (h : n ≤ 2000) (h2 : n2 ≤ 2000) (h3 : m ≤ 2000) (h4 : m2 ≤ 2000) (s1 : t.natAbs < 2 ^ n) (s2 : b.natAbs < 2 ^ m) (s3 : t2.natAbs < 2 ^ n2) (s4 : b2.natAbs < 2 ^ m2) (p1 : 0 < b) (p2 : 0 < b2) : Fit t b t2 b2 :=
  ⟨sm_of s1 (by omega), sm_of s2 (by omega), sm_of s3 (by omega), sm_of s4 (by omega), by omega, by omega, sm_of (nmul s2 s4) (by omega)⟩
theorem sum_lt {xs : List Int} {e : Nat} (h : ∀ x ∈ xs, x.natAbs < 2 ^ e) (hl : xs.length ≤ 16) : xs.sum.natAbs ≤ xs.length * 2 ^ e := by
  clear hl
  induction xs with
  | nil => simp
  | cons x xs ih =>
    rw [List.sum_cons, List.length_cons, Nat.add_mul]
    have h1 := h x (List.mem_cons_self ..)
    have h2 := ih fun y hy => h y (List.mem_cons_of_mem _ hy)
    have h3 := Int.natAbs_add_le x xs.sum
    omega
theorem getD_tops {B : Int} {e : Nat} {ts : List Int} {f : Nat → Int × Int} (h : Tops B e ts f) {i : Nat} (hi : i < ts.length) : (ts.getD i 0).natAbs < 2 ^ e ∧ ts.getD i 0 * (f i).2 = (f i).1 * B := by
  have e1 : ts[i]? = some (ts.getD i 0) := by
    rw [List.getD_eq_getElem?_getD, List.getElem?_eq_getElem hi]
    rfl
  obtain ⟨a, b⟩ := h i _ e1
  exact ⟨b, a⟩
theorem atI_getD {ts : List Int} {i : Nat} (h : i < ts.length) : atI (ts.map V.int) (0 + (i : Int)) = some (V.int (ts.getD i 0)) := by
  rw [Int.zero_add]
  refine atI_nat ?_
  rw [List.getElem?_map, List.getD_eq_getElem?_getD, List.getElem?_eq_getElem h]
  rfl
theorem add_of {C : Addr} {n m n2 m2 e : Nat} {G : Hp} {w : V} {t b t2 b2 t' b' p q p2 q2 : Int} (hb : 0 < b) (hq : 0 < q) (e1 : t * q = p * b) (s1 : t.natAbs < 2 ^ n) (s2 : b.natAbs < 2 ^ m) (hb2 : 0 < b2) (hq2 : 0 < q2) (e2 : t2 * q2 = p2 * b2) (s3 : t2.natAbs < 2 ^ n2) (s4 : b2.natAbs < 2 ^ m2)
    (h1 : n + m2 ≤ e) (h2 : n2 + m ≤ e) (r : RatAt C G w t' b') (nm : Norm (t * b2 + t2 * b) (b * b2) t' b') : IsF C (e + 1) (m + m2) G w (p * q2 + p2 * q) (q * q2) := by
  refine ⟨t', b', r, nm.pos, Int.mul_pos hq hq2, ?_, Nat.lt_of_le_of_lt nm.le1 (nadd (nle (nmul s1 s4) h1) (nle (nmul s3 s2) h2)), Nat.lt_of_le_of_lt nm.le2 (nmul s2 s4)⟩
  have c := nm.cross
  have z : b * b2 ≠ 0 := by have := Int.mul_pos hb hb2; omega
  refine Int.eq_of_mul_eq_mul_right z ?_
  have k1 : t' * (q * q2) * (b * b2) = (t' * (b * b2)) * (q * q2) := by grind
  rw [k1, c]
  grind
/-! ### coefficients, sums -/
abbrev addF (f g : Nat → Int × Int) : Nat → Int × Int := fun k => ((f k).1 * (g k).2 + (g k).1 * (f k).2, (f k).2 * (g k).2)
/-! ### means -/
abbrev mulAt (fs ts : List Int) (k : Nat) : Int := fs.getD k 0 * ts.getD k 0
def dot (fs ts : List Int) : Int := ((List.range fs.length).map (mulAt fs ts)).sum
def sp_paired : Sp := fun vs H Q _ => ∃ (a b : Addr) (fs ts : List Int) (e : Nat), e ≤ 1950 ∧ vs = [.ref a, .ref b] ∧ H a = some (.lst (fs.map V.int)) ∧ H b = some (.lst (ts.map V.int)) ∧ fs.length ≤ ts.length ∧ fs.length ≤ 13 ∧ (∀ k, k < fs.length → (fs.getD k 0).natAbs < 2 ^ e ∧ (ts.getD k 0).natAbs < 2 ^ e) ∧ ∀ H', Same H H' → Q (.int (dot fs ts)) H'
theorem ok_paired (T : Txt K mg A D) : FnOk P w K mg base CX0 1 A.f_paired D.f_paired ["factors", "tops"] (sp_paired) := by
  skip
  refine T.F_paired.ok sc_paired (fun vs H Q E h => ?_) (fun cdv A' outer s H vs Q E hr h => ?_)
  · obtain ⟨a, b, fs, ts, e, he, rfl, _⟩ := h
    rfl
  · obtain ⟨a, b, fs, ts, e, he, rfl, ha, hb, l1, l2, hs, q⟩ := h
    refine ⟨_, (pss_one (ps_ret (pe_callB (cr_sum rfl) rfl T.z_sum (by decide +kernel) (pa_cons (pe_lc (own := [("k", 2)]) (g := gName 2) (tt := tYes) rfl sc_paired.nd (pi_range1 rfl T.z_range (pa_cons (pe_callB call_len_seq rfl T.z_len (by decide +kernel) (pa_cons (pv 0) pa_nil)) pa_nil)) (blkOk_by (N := N_paired) (sc := defScope s_paired) (by decide +kernel)) (fun _ _ _ _ _ => (pg_name (i := 2) sc_paired.nd rfl (.inl rfl))) (fun _ _ _ _ _ => pts_nil) (fun _ _ _ _ _ => (pe_op op_mulW (pe_ix (ix_listK (K := K) rfl) (pv 0) (pv 2) (fun _ _ => rfl)) (pe_ix (ix_listK (K := K) rfl) (pv 1) (pv 2) (fun _ _ => rfl))))) pa_nil)))), ?_⟩
    refine ⟨_, rfl, a, _, rfl, .inl (.of ha), _, rfl, by rw [List.length_map]; omega, by rw [List.length_map]; omega, fun d nd => ?_⟩
    have e1 : (((fs.map V.int).length : Nat) : Int).toNat = fs.length := by
      rw [List.length_map]
      omega
    rw [e1]
    refine lc_range (lo := 0) (fun i G => Same H G ∧ G d = some (.lst (((List.range i).map (mulAt fs ts)).map V.int))) ⟨same_upd nd, upd_same⟩ ?_ ?_
    · rintro i G hi ⟨sm, hd⟩
      obtain ⟨c1, c2⟩ := hs i hi
      refine ⟨rfl, _, rfl, _, rfl, a, _, _, _, rfl, rfl, .of (sm _ _ ha), atI_getD hi, _, rfl, _, rfl, b, _, _, _, rfl, rfl, .of (sm _ _ hb), atI_getD (show i < ts.length by omega), _, _, rfl, rfl, (sm_of c1 (by omega)).mul (sm_of c2 (by omega)), ?_⟩
      refine ⟨_, hd, by rw [List.length_map, List.length_map, List.length_range]; exact small1000 (by omega), same_push sm nd, ?_⟩
      rw [upd_same, List.range_succ, List.map_append, List.map_append]
      rfl
    · rintro G ⟨sm, hd⟩
      exact ⟨d, _, rfl, .of hd, q G sm⟩
/-- the sum of the products of two series of values -/
def sumQ (f g : Nat → Int × Int) : Nat → Int × Int
  | 0 => (0, 1)
  | k + 1 => ((sumQ f g k).1 * ((f k).2 * (g k).2) + (f k).1 * (g k).1 * (sumQ f g k).2, (sumQ f g k).2 * ((f k).2 * (g k).2))
theorem sumQ_pos {f g : Nat → Int × Int} (hf : ∀ k, 0 < (f k).2) (hg : ∀ k, 0 < (g k).2) : ∀ k, 0 < (sumQ f g k).2
  | 0 => by show (0 : Int) < 1; decide
  | k + 1 => Int.mul_pos (sumQ_pos hf hg k) (Int.mul_pos (hf k) (hg k))
theorem dot_is {U B : Int} {e : Nat} {fs ts : List Int} {f g : Nat → Int × Int} (hf : Tops U e fs f) (hg : Tops B e ts g) : ∀ k, k ≤ fs.length → k ≤ ts.length → ((List.range k).map (mulAt fs ts)).sum * (sumQ f g k).2 = (sumQ f g k).1 * (B * U)
  | 0, _, _ => by
    show (0 : Int) * 1 = 0 * (B * U)
    simp
  | k + 1, h1, h2 => by
    have ih := dot_is hf hg k (by omega) (by omega)
    have a1 := (getD_tops hf (show k < fs.length by omega)).2
    have a2 := (getD_tops hg (show k < ts.length by omega)).2
    rw [List.range_succ, List.map_append, List.sum_append]
    show (((List.range k).map (mulAt fs ts)).sum + (fs.getD k 0 * ts.getD k 0 + 0)) * ((sumQ f g k).2 * ((f k).2 * (g k).2)) = ((sumQ f g k).1 * ((f k).2 * (g k).2) + (f k).1 * (g k).1 * (sumQ f g k).2) * (B * U)
    generalize ((List.range k).map (mulAt fs ts)).sum = S at *
    generalize fs.getD k 0 = x at *
    generalize ts.getD k 0 = y at *
    generalize sumQ f g k = w at *
    grind

end

section
variable {P : Program} {w : World} {K : PySem.W.Frag} {mg : Str → Option Value} {base : Heap} {A : Ad} {D : Fd}
/-! ### products of Polys -/
def sp_operand (K : PySem.W.Frag) (A : Ad) : Sp := fun vs H Q _ => ∃ x, vs = [x] ∧ Ins H x A.Poly ∧ Q (.bl true) H
theorem ok__is_operand (T : Txt K mg A D) : FnOk P w K mg base CX0 3 A.f__is_operand D.f__is_operand ["x"] (sp_operand K A) := by
  have G_is_number : FnOk P w K mg base CX0 2 A.f_is_number D.f_is_number ["x"] (sp_isnum K A.Ratio) := ok_is_number T
  refine T.F__is_operand.ok sc__is_operand (fun vs H Q E h => ?_) (fun cdv A' outer s H vs Q E hr h => ?_)
  · obtain ⟨x, rfl, _⟩ := h
    rfl
  · obtain ⟨x, rfl, ⟨a, dx, fs, rfl, ha⟩, q⟩ := h
    refine ⟨_, (pss_one (ps_ret (pe_or (pe_callB call_isi rfl T.z_isinstance (by decide +kernel) (pa_cons (pv 0) (pa_cons (pe_glob (v := .ref A.Poly) rfl T.g_Poly rfl) pa_nil))) (pe_one (pe_call G_is_number (hr.mono (by decide)) rfl T.g_is_number T.F_is_number.kp T.b_is_number .nil pass0 (pa_cons (pv 0) pa_nil)))))), ?_⟩
    exact ⟨_, rfl, .ref a, .ref A.Poly, _, _, true, rfl, .own _, T.k_Poly.ty ha, kit_self, true, rfl, iteT q⟩
def sp_polyof (A : Ad) : Sp := fun vs H Q _ => ∃ x, vs = [x] ∧ Ins H x A.Poly ∧ Q x H
theorem ok_poly_of (T : Txt K mg A D) : FnOk P w K mg base CX0 8 A.f_poly_of D.f_poly_of ["q"] (sp_polyof A) := by
  have G_Poly_init : FnOk P w K mg base CX0 6 A.f_Poly___init__ D.f_Poly___init__ ["self", "coefficients"] (sp_poly K A) := ok_Poly___init__ T
  have b_Poly_init1 := T.b_Poly___init__
  have d_Poly_init1 : Vals [] [] := .nil
  refine T.F_poly_of.ok sc_poly_of (fun vs H Q E h => ?_) (fun cdv A' outer s H vs Q E hr h => ?_)
  · obtain ⟨x, rfl, _⟩ := h
    rfl
  · obtain ⟨x, rfl, ⟨a, dx, fs, rfl, ha⟩, q⟩ := h
    refine ⟨_, (pss_cons (ps_if (pt_val (pe_callB call_isi rfl T.z_isinstance (by decide +kernel) (pa_cons (pv 0) (pa_cons (pe_glob (v := .ref A.Poly) rfl T.g_Poly rfl) pa_nil)))) (pss_one (ps_ret (pv 0))) pss_nil)
  (pss_one (ps_ret (pe_make T.M_Poly G_Poly_init (hr.mono (by decide)) rfl T.g_Poly b_Poly_init1 d_Poly_init1 pass0 (pa_cons (pe_lst (pa_cons (pv 0) pa_nil)) pa_nil))))), ?_⟩
    exact ⟨_, rfl, .ref a, .ref A.Poly, _, _, true, rfl, .own _, T.k_Poly.ty ha, kit_self, true, rfl, iteT ⟨_, rfl, q⟩⟩
/-- one term of a product -/
abbrev cvT (ts us : List Int) (i a : Nat) : Int := if a ≤ i then ts.getD a 0 * us.getD (i - a) 0 else 0
/-- coefficient i of the product -/
def cv (ts us : List Int) (i : Nat) : Int := ((List.range ts.length).map (cvT ts us i)).sum
/-- coefficient i when k rows and j places of the next are done -/
def cvP (ts us : List Int) (k j i : Nat) : Int := ((List.range k).map (cvT ts us i)).sum + (if k ≤ i ∧ i < k + j then ts.getD k 0 * us.getD (i - k) 0 else 0)
theorem cvP_zero {ts us : List Int} (i : Nat) : cvP ts us 0 0 i = 0 := by
  show (0 : Int) + _ = 0
  rw [if_neg (by omega)]
  rfl
theorem cvP_step {ts us : List Int} {k j : Nat} : cvP ts us k (j + 1) (k + j) = cvP ts us k j (k + j) + ts.getD k 0 * us.getD j 0 := by
  show _ + (if k ≤ k + j ∧ k + j < k + (j + 1) then _ else _) = _ + (if k ≤ k + j ∧ k + j < k + j then _ else _) + _
  rw [if_pos (by omega), if_neg (by omega), Nat.add_sub_cancel_left, Int.add_zero]
theorem cvP_else {ts us : List Int} {k j i : Nat} (h : i ≠ k + j) : cvP ts us k (j + 1) i = cvP ts us k j i := by
  show _ + (if k ≤ i ∧ i < k + (j + 1) then _ else _) = _ + (if k ≤ i ∧ i < k + j then _ else _)
  congr 1
  by_cases c : k ≤ i ∧ i < k + j
  · rw [if_pos c, if_pos (by omega)]
  · rw [if_neg c, if_neg (by omega)]
theorem cvP_next {ts us : List Int} {k i : Nat} : cvP ts us k us.length i = cvP ts us (k + 1) 0 i := by
  show ((List.range k).map (cvT ts us i)).sum + _ = ((List.range (k + 1)).map (cvT ts us i)).sum + _
  rw [List.range_succ, List.map_append, List.sum_append, if_neg (show ¬ (k + 1 ≤ i ∧ i < k + 1 + 0) by omega)]
  show _ + (if k ≤ i ∧ i < k + us.length then _ else _) = _ + ((if k ≤ i then ts.getD k 0 * us.getD (i - k) 0 else 0) + 0) + 0
  rw [Int.add_zero, Int.add_zero]
  congr 1
  by_cases c : k ≤ i
  · rw [if_pos c]
    by_cases c2 : i < k + us.length
    · rw [if_pos ⟨c, c2⟩]
    · rw [if_neg (by omega), show us.getD (i - k) 0 = 0 by rw [List.getD_eq_getElem?_getD, List.getElem?_eq_none (by omega)]; rfl, Int.mul_zero]
  · rw [if_neg c, if_neg (by omega)]
theorem cvP_all {ts us : List Int} {i : Nat} : cvP ts us ts.length 0 i = cv ts us i := by
  show ((List.range ts.length).map (cvT ts us i)).sum + (if ts.length ≤ i ∧ i < ts.length + 0 then _ else _) = _
  rw [if_neg (by omega), Int.add_zero]
  rfl
def cvL (ts us : List Int) (n k j : Nat) : List Int := (List.range n).map (cvP ts us k j)
theorem cvL_len {ts us : List Int} {n k j : Nat} : (cvL ts us n k j).length = n := by
  show (List.map _ _).length = n
  rw [List.length_map, List.length_range]
theorem cvL_at {ts us : List Int} {n k j i : Nat} (h : i < n) : (cvL ts us n k j)[i]? = some (cvP ts us k j i) := by
  show (List.map _ _)[i]? = _
  rw [List.getElem?_map, List.getElem?_range h]
  rfl
theorem cvL_set {ts us : List Int} {n k j : Nat} (h : k + j < n) : ((cvL ts us n k j).map V.int).set (k + j) (V.int (cvP ts us k j (k + j) + ts.getD k 0 * us.getD j 0)) = (cvL ts us n k (j + 1)).map V.int := by
  refine List.ext_getElem? fun i => ?_
  rw [List.getElem?_set, List.length_map, cvL_len, List.getElem?_map, List.getElem?_map]
  by_cases e : k + j = i
  · subst e
    rw [if_pos rfl, if_pos h, cvL_at h, ← cvP_step]
    rfl
  · rw [if_neg e]
    by_cases c : i < n
    · rw [cvL_at c, cvL_at c, cvP_else (Ne.symm e)]
    · rw [List.getElem?_eq_none (by rw [cvL_len]; omega), List.getElem?_eq_none (by rw [cvL_len]; omega)]
theorem cvL_next {ts us : List Int} {n k : Nat} : cvL ts us n k us.length = cvL ts us n (k + 1) 0 := List.map_congr_left fun i _ => cvP_next
theorem cvL_zero {ts us : List Int} {n : Nat} : (cvL ts us n 0 0).map V.int = List.replicate n (V.int 0) := by
  refine List.ext_getElem? fun i => ?_
  rw [List.getElem?_map, List.getElem?_replicate]
  by_cases c : i < n
  · rw [cvL_at c, if_pos c, cvP_zero]
    rfl
  · rw [List.getElem?_eq_none (by rw [cvL_len]; omega), if_neg c]
    rfl
theorem rep_flat {x : V} : ∀ n : Nat, (List.replicate n [x]).flatten = List.replicate n x
  | 0 => rfl
  | n + 1 => by rw [List.replicate_succ, List.flatten_cons, rep_flat n, List.replicate_succ]; rfl
theorem cvT_lt {ts us : List Int} {e : Nat} (h1 : ∀ k, (ts.getD k 0).natAbs < 2 ^ e) (h2 : ∀ k, (us.getD k 0).natAbs < 2 ^ e) (i a : Nat) : (cvT ts us i a).natAbs < 2 ^ (e + e) := by
  show (if a ≤ i then ts.getD a 0 * us.getD (i - a) 0 else 0).natAbs < _
  split
  · exact nmul (h1 _) (h2 _)
  · exact Nat.two_pow_pos _
theorem cvP_lt {ts us : List Int} {e : Nat} (h1 : ∀ k, (ts.getD k 0).natAbs < 2 ^ e) (h2 : ∀ k, (us.getD k 0).natAbs < 2 ^ e) {k j i : Nat} (hk : k ≤ 13) : (cvP ts us k j i).natAbs < 2 ^ (e + e + 5) := by
  have a := sum_lt (xs := (List.range k).map (cvT ts us i)) (e := e + e) (fun x hx => by
    obtain ⟨a, _, rfl⟩ := List.mem_map.mp hx
    exact cvT_lt h1 h2 i a) (by simp; omega)
  rw [List.length_map, List.length_range] at a
  have b : (if k ≤ i ∧ i < k + j then ts.getD k 0 * us.getD (i - k) 0 else 0).natAbs < 2 ^ (e + e) := by
    split
    · exact nmul (h1 _) (h2 _)
    · exact Nat.two_pow_pos _
  have c := Int.natAbs_add_le ((List.range k).map (cvT ts us i)).sum (if k ≤ i ∧ i < k + j then ts.getD k 0 * us.getD (i - k) 0 else 0)
  have d : k * 2 ^ (e + e) ≤ 13 * 2 ^ (e + e) := Nat.mul_le_mul_right _ hk
  have f : 2 ^ (e + e + 5) = 32 * 2 ^ (e + e) := by rw [Nat.pow_add]; omega
  show (_ + _ : Int).natAbs < _
  omega
theorem getD_small {B : Int} {e : Nat} {ts : List Int} {f : Nat → Int × Int} (h : Tops B e ts f) (k : Nat) : (ts.getD k 0).natAbs < 2 ^ e := by
  rcases Nat.lt_or_ge k ts.length with c | c
  · exact (getD_tops h c).1
  · rw [List.getD_eq_getElem?_getD, List.getElem?_eq_none c]
    exact Nat.two_pow_pos _
theorem sum_zero {xs : List Int} (h : ∀ x ∈ xs, x = 0) : xs.sum = 0 := by
  induction xs with
  | nil => rfl
  | cons x xs ih => rw [List.sum_cons, h x (List.mem_cons_self ..), ih fun y hy => h y (List.mem_cons_of_mem _ hy)]; rfl
theorem cv_out {ts us : List Int} {i : Nat} (h : ts.length + us.length ≤ i) : cv ts us i = 0 := sum_zero fun x hx => by
  obtain ⟨a, ha, rfl⟩ := List.mem_map.mp hx
  have := List.mem_range.mp ha
  show (if a ≤ i then ts.getD a 0 * us.getD (i - a) 0 else 0) = 0
  rw [if_pos (by omega), show us.getD (i - a) 0 = 0 by rw [List.getD_eq_getElem?_getD, List.getElem?_eq_none (by omega)]; rfl, Int.mul_zero]
def sp_pprod (A : Ad) : Sp := fun vs H Q _ => ∃ (p u : V) (n m n2 m2 s s2 e2 b2 : Nat) (f g : Nat → Int × Int), vs = [p, u] ∧ PolyAt A n m H p s f ∧ PolyAt A n2 m2 H u s2 g ∧ s + s2 ≤ 13 ∧ n ≤ 480 ∧ m ≤ 480 ∧ n2 ≤ 480 ∧ m2 ≤ 480 ∧ n + m * s + 1 ≤ e2 ∧ n2 + m2 * s2 + 1 ≤ e2 ∧ m * s + m2 * s2 + 2 ≤ b2 ∧ e2 ≤ 490 ∧ b2 ≤ 1000 ∧
  ∀ H' v s3 ts us U B, Same H H' → Tops U e2 ts f → Tops B e2 us g → ts.length = s → us.length = s2 → 0 < U → 0 < B → PolyAt A (e2 + e2 + 5) b2 H' v s3 (fun k => (cv ts us k, U * B)) → s3 ≤ s + s2 → Q v H'
theorem ok_product_polys (T : Txt K mg A D) : FnOk P w K mg base CX0 9 A.f_product_polys D.f_product_polys ["one", "other"] (sp_pprod A) := by
  have G_Poly_init : FnOk P w K mg base CX0 6 A.f_Poly___init__ D.f_Poly___init__ ["self", "coefficients"] (sp_poly K A) := ok_Poly___init__ T
  have b_Poly_init1 := T.b_Poly___init__
  have d_Poly_init1 : Vals [] [] := .nil
  have G_Ratio_init : FnOk P w K mg base CX0 2 A.f_Ratio___init__ D.f_Ratio___init__ ["self", "top", "bottom"] (sp_init A.Ratio) := ok_Ratio___init__ T
  have b_Ratio_init2 := T.b_Ratio___init__
  have d_Ratio_init2 : Vals [] [] := .nil
  have G_whole_parts : FnOk P w K mg base CX0 2 A.f_whole_parts D.f_whole_parts ["ratios"] (sp_parts A.Ratio) := ok_whole_parts T
  refine T.F_product_polys.ok sc_product_polys (fun vs H Q E h => ?_) (fun cdv A' outer s H vs Q E hr h => ?_)
  · obtain ⟨p, u, n, m, n2, m2, s, s2, e2, b2, f, g, rfl, _⟩ := h
    rfl
  · obtain ⟨p, u, n, m, n2, m2, s, s2, e2, b2, f, g, rfl, hp, hu, hs, hn, hm, hn2, hm2, he1, he2, hb, he, hb2, q⟩ := h
    refine ⟨_, (pss_cons (ps_asg (pe_call G_whole_parts (hr.mono (by decide)) rfl T.g_whole_parts T.F_whole_parts.kp T.b_whole_parts .nil pass0 (pa_cons (pe_fld (pv 0) rfl) pa_nil)) (pg_tup rfl (pgs_cons (pg_name (i := 2) sc_product_polys.nd rfl (.inl rfl)) (pgs_cons (pg_name (i := 3) sc_product_polys.nd rfl (.inr rfl)) pgs_nil))))
  (pss_cons (ps_asg (pe_call G_whole_parts (hr.mono (by decide)) rfl T.g_whole_parts T.F_whole_parts.kp T.b_whole_parts .nil pass0 (pa_cons (pe_fld (pv 1) rfl) pa_nil)) (pg_tup rfl (pgs_cons (pg_name (i := 4) sc_product_polys.nd rfl (.inl rfl)) (pgs_cons (pg_name (i := 5) sc_product_polys.nd rfl (.inr rfl)) pgs_nil))))
  (pss_cons (ps_set (i := 6) sc_product_polys.nd rfl (.inl rfl) (pe_op op_add (pe_callB call_len_seq rfl T.z_len (by decide +kernel) (pa_cons (pv 2) pa_nil)) (pe_callB call_len_seq rfl T.z_len (by decide +kernel) (pa_cons (pv 4) pa_nil))))
  (pss_cons (ps_set (i := 7) sc_product_polys.nd rfl (.inl rfl) (pe_op op_rep (pe_lst (pa_cons pe_int pa_nil)) (pv 6)))
  (pss_cons (ps_for PassesOwn.never rfl (pi_range1 rfl T.z_range (pa_cons (pe_callB call_len_seq rfl T.z_len (by decide +kernel) (pa_cons (pv 2) pa_nil)) pa_nil)) (pg_name (i := 8) sc_product_polys.nd rfl (.inl rfl)) (pss_one (ps_for PassesOwn.never rfl (pi_range1 rfl T.z_range (pa_cons (pe_callB call_len_seq rfl T.z_len (by decide +kernel) (pa_cons (pv 4) pa_nil)) pa_nil)) (pg_name (i := 9) sc_product_polys.nd rfl (.inl rfl)) (pss_one (ps_asg (pe_op op_add (pe_ix ix_list (pv 7) (pe_op op_add (pv 8) (pv 9)) (fun _ _ => rfl)) (pe_op op_mulW (pe_ix ix_list (pv 2) (pv 8) (fun _ _ => rfl)) (pe_ix ix_list (pv 4) (pv 9) (fun _ _ => rfl)))) (pg_sub (pv 7) (pe_op op_add (pv 8) (pv 9)) set_list))))))
  (pss_one (ps_ret (pe_make T.M_Poly G_Poly_init (hr.mono (by decide)) rfl T.g_Poly b_Poly_init1 d_Poly_init1 pass0 (pa_cons (pe_lc (own := [("top", 10)]) (g := gName 10) (tt := tYes) rfl sc_product_polys.nd (pi_list (pv 7)) (blkOk_by (N := N_product_polys) (sc := defScope s_product_polys) (by decide +kernel)) (fun _ _ _ _ _ => (pg_name (i := 10) sc_product_polys.nd rfl (.inl rfl))) (fun _ _ _ _ _ => pts_nil) (fun _ _ _ _ _ => (pe_make T.M_Ratio G_Ratio_init (hr.mono (by decide)) rfl T.g_Ratio b_Ratio_init2 d_Ratio_init2 pass0 (pa_cons (pv 10) (pa_cons (pe_op op_mulW (pv 3) (pv 5)) pa_nil))))) pa_nil))))))))), ?_⟩
    have cl := T.k_Poly.cl
    obtain ⟨⟨a, dx, tp, ys, l, rfl, h1, h2, h3, h4⟩, z, z1, z2⟩ := hp
    obtain ⟨⟨a', dx', tp', ys', l', rfl, h1', h2', h3', h4'⟩, z', z1', z2'⟩ := hu
    refine ⟨_, rfl, a, A.Poly, dx, _, _, rfl, h1, cl, T.n_Poly_coefficients, rfl, tp, ys, f, n, m, rfl, .inr h2, h4, by omega, by omega, by omega, by rw [h3]; omega, fun H1 pt lt ts U k1 hpt hlt ln u0 u1 hts => ?_⟩
    refine ⟨pt, _, rfl, .of hpt, rfl, _, _, rfl, _, _, rfl, rfl, ?_⟩
    refine ⟨_, rfl, a', A.Poly, dx', _, _, rfl, k1 _ _ h1', cl, T.n_Poly_coefficients, rfl, tp', ys', g, n2, m2, rfl, .inr (k1 _ _ h2'), h4'.same k1, by omega, by omega, by omega, by rw [h3']; omega, fun H2 pu lu us B k2 hpu hlu lm b0 b1 hus => ?_⟩
    refine ⟨pu, _, rfl, .of hpu, rfl, _, _, rfl, _, _, rfl, rfl, ?_⟩
    rw [h3] at ln u1 hts
    rw [h3'] at lm b1 hus
    have hts := hts.mono he1
    have hus := hus.mono he2
    have hlt2 := k2 _ _ hlt
    have k12 := k1.trans k2
    clear k1 k2 hlt hpt hpu h1 h2 h4 h1' h2' h4'
    refine ⟨_, rfl, lt, _, rfl, .inl (.of hlt2), _, rfl, lu, _, rfl, .inl (.of hlu), _, _, rfl, rfl, ?_⟩
    refine ⟨by show 1 ≤ sizeLine; decide, fun pz nz => ?_⟩
    have k3 := same_upd (o := .lst [.int 0]) nz
    have el : (((ts.map V.int).length : Nat) : Int) + (((us.map V.int).length : Nat) : Int) = ((s + s2 : Nat) : Int) := by
      rw [List.length_map, List.length_map]
      omega
    refine ⟨_, rfl, pz, ((s + s2 : Nat) : Int), _, rfl, by show V.int ((((ts.map V.int).length : Nat) : Int) + (((us.map V.int).length : Nat) : Int)) = _; rw [el], upd_same, by omega, by omega, by show 1 * _ ≤ sizeLine; rw [Nat.one_mul]; exact Nat.le_of_lt (small1000 (by omega)), fun d nd => ?_⟩
    rw [show (((s + s2 : Nat) : Int)).toNat = s + s2 by omega, rep_flat, ← cvL_zero (ts := ts) (us := us)]
    have k4 := same_upd (o := .lst ((cvL ts us (s + s2) 0 0).map V.int)) nd
    have nd2 : H2 d = none := k3.free nd
    have k34 := k3.trans k4
    have hd := upd_same (a := d) (o := HO.lst ((cvL ts us (s + s2) 0 0).map V.int)) (H := upd H2 pz (.lst [.int 0]))
    have hlt4 := k34 _ _ hlt2
    generalize upd (upd H2 pz (.lst [.int 0])) d (.lst ((cvL ts us (s + s2) 0 0).map V.int)) = H4 at *
    clear k3 k4 nz nd
    refine ⟨_, rfl, lt, _, rfl, .inl (.of hlt4), _, rfl, by rw [List.length_map]; omega, by rw [List.length_map]; omega, ?_⟩
    have en : (((ts.map V.int).length : Nat) : Int).toNat = s := by
      rw [List.length_map]
      omega
    have em : (((us.map V.int).length : Nat) : Int).toNat = s2 := by
      rw [List.length_map]
      omega
    rw [en]
    refine for_range (lo := 0) (fun k σ G => Same H2 G ∧ G d = some (.lst ((cvL ts us (s + s2) k 0).map V.int)) ∧ ∃ (y6 : Option V) (y8 y9 : Option V), σ = [some (.ref a), some (.ref a'), some (.ref lt), some (.int U), some (.ref lu), some (.int B), y6, some (.ref d), y8, y9, none]) ⟨k34, hd, _, _, _, rfl⟩ ?_ ?_
    · rintro k σ G hk ⟨sm, hd, y6, y8, y9, rfl⟩
      refine ⟨_, rfl, lu, _, rfl, .inl (.of (sm _ _ hlu)), _, rfl, by rw [List.length_map]; omega, by rw [List.length_map]; omega, ?_⟩
      rw [em]
      refine for_range (lo := 0) (fun j σ G => Same H2 G ∧ G d = some (.lst ((cvL ts us (s + s2) k j).map V.int)) ∧ ∃ (y9 : Option V), σ = [some (.ref a), some (.ref a'), some (.ref lt), some (.int U), some (.ref lu), some (.int B), y6, some (.ref d), some (.int (0 + (k : Int))), y9, none]) ⟨sm, hd, _, rfl⟩ ?_ ?_
      · rintro j σ G hj ⟨sm, hd, y9, rfl⟩
        have ei : (0 + (k : Int)) + (0 + (j : Int)) = ((k + j : Nat) : Int) := by omega
        have hi : k + j < s + s2 := by omega
        have hat : atI ((cvL ts us (s + s2) k j).map V.int) ((0 + (k : Int)) + (0 + (j : Int))) = some (V.int (cvP ts us k j (k + j))) := by
          rw [ei]
          refine atI_nat ?_
          rw [List.getElem?_map, cvL_at hi]
          rfl
        have hix : ixN ((cvL ts us (s + s2) k j).map V.int).length ((0 + (k : Int)) + (0 + (j : Int))) = some (k + j) := by
          rw [ei, List.length_map, cvL_len]
          show (if (0 : Int) ≤ ((k + j : Nat) : Int) then if ((k + j : Nat) : Int) < ((s + s2 : Nat) : Int) then some (((k + j : Nat) : Int)).toNat else none else _) = _
          rw [if_pos (by omega), if_pos (by omega)]
          congr 1
        refine ⟨_, rfl, _, rfl, _, rfl, _, _, rfl, rfl, d, _, _, _, rfl, rfl, .of hd, hat, _, rfl, _, rfl, lt, _, _, _, rfl, rfl, .of (sm _ _ hlt2), atI_getD (show k < ts.length by omega), _, rfl, _, rfl, lu, _, _, _, rfl, rfl, .of (sm _ _ hlu), atI_getD (show j < us.length by omega), _, _, rfl, rfl, (sm_of (getD_small hts k) (by omega)).mul (sm_of (getD_small hus j) (by omega)), _, _, rfl, rfl, ?_⟩
        refine ⟨_, rfl, _, rfl, _, rfl, _, _, rfl, rfl, d, _, _, _, rfl, rfl, hd, hix, ?_⟩
        exact ⟨same_push sm nd2, by rw [upd_same]; exact congrArg (fun z => some (HO.lst z)) (cvL_set hi), _, rfl⟩
      · rintro σ G ⟨sm, hd, y9, rfl⟩
        refine ⟨sm, ?_, _, _, _, rfl⟩
        rw [← cvL_next, lm]
        exact hd
    · rintro σ G ⟨sm, hd, y6, y8, y9, rfl⟩
      refine ⟨_, rfl, d, rfl, ⟨_, .of hd⟩, fun dn ndn => ?_⟩
      refine lc_list (K := K) (a := d) (xs := (cvL ts us (s + s2) s 0).map V.int) (fun i E => Same G E ∧ ∃ zs : List V, zs.length = i ∧ E dn = some (.lst zs) ∧ Rats A.Ratio (e2 + e2 + 5) b2 E zs (fun k => (cv ts us k, U * B))) ⟨same_upd ndn, [], rfl, upd_same, Rats.nil⟩ (fun i E _ p => .of (p.1 _ _ hd)) ?_ ?_
      · rintro i x E hx ⟨sm2, zs, hz, hdn, hr⟩
        have hi : i < s + s2 := by
          have := (List.getElem?_eq_some_iff.mp hx).1
          rw [List.length_map, cvL_len] at this
          exact this
        rw [List.getElem?_map, cvL_at hi] at hx
        cases hx
        have ecv : cvP ts us s 0 i = cv ts us i := by rw [← ln]; exact cvP_all
        have ub : (U * B).natAbs < 2 ^ b2 := nle (nmul u1 b1) (by omega)
        have ub0 := Int.mul_pos u0 b0
        have sz : (cvP ts us s 0 i).natAbs < 2 ^ (e2 + e2 + 5) := cvP_lt (getD_small hts) (getD_small hus) (by omega)
        refine ⟨rfl, _, rfl, _, rfl, _, rfl, _, _, rfl, rfl, (sm_of u1 (by omega)).mul (sm_of b1 (by omega)), fun r dr nr nd3 ne => ⟨r, dr, _, _, rfl, upd_same, by omega, sm_of ub (by omega), fun t' b' nm => ⟨rfl, ?_⟩⟩⟩
        obtain ⟨k6, r6⟩ := made (C := A.Ratio) nr nd3 ne t' b'
        have hd6 := k6 _ _ hdn
        subst hz
        refine ⟨zs, hd6, small1000 (by omega), same_push (sm2.trans k6) ndn, zs ++ [.ref r], by rw [List.length_append]; rfl, upd_same, (hr.same k6).push hd6 ⟨t', b', r6, nm.pos, ub0, ?_, Nat.lt_of_le_of_lt nm.le1 sz, Nat.lt_of_le_of_lt nm.le2 ub⟩⟩
        show t' * (U * B) = cv ts us zs.length * b'
        rw [← ecv]
        exact nm.cross
      · rintro E ⟨sm2, zs, hz, hdn, hr⟩
        rw [List.length_map, cvL_len] at hz
        refine fun x dx nx ndx ne => poly_make nx ndx (.inl hdn) hr.nums (by omega) (by omega) hb2 (fun k hk => cv_out (by omega)) (fun k => Int.mul_pos u0 b0) fun G7 s7 k7 pl hs7 => ⟨rfl, q G7 _ s7 ts us U B ((k12.trans sm).trans (sm2.trans k7)) hts hus ln lm u0 b0 pl (by omega)⟩
def sp_pmul (A : Ad) : Sp := fun vs H Q E => sp_pprod A vs H Q E
theorem ok_Poly___mul__ (T : Txt K mg A D) : FnOk P w K mg base CX0 10 A.f_Poly___mul__ D.f_Poly___mul__ ["self", "other"] (sp_pmul A) := by
  have G__is_operand : FnOk P w K mg base CX0 3 A.f__is_operand D.f__is_operand ["x"] (sp_operand K A) := ok__is_operand T
  have G_poly_of : FnOk P w K mg base CX0 8 A.f_poly_of D.f_poly_of ["q"] (sp_polyof A) := ok_poly_of T
  have G_product_polys : FnOk P w K mg base CX0 9 A.f_product_polys D.f_product_polys ["one", "other"] (sp_pprod A) := ok_product_polys T
  refine T.F_Poly___mul__.ok sc_Poly___mul__ (fun vs H Q E h => ?_) (fun cdv A' outer s H vs Q E hr h => ?_)
  · obtain ⟨p, u, n, m, n2, m2, s, s2, e2, b2, f, g, rfl, _⟩ := h
    rfl
  · obtain ⟨p, u, n, m, n2, m2, s, s2, e2, b2, f, g, rfl, hp, hu, r⟩ := h
    refine ⟨_, (pss_cons (ps_if (pt_not (pt_val (pe_call G__is_operand (hr.mono (by decide)) rfl T.g__is_operand T.F__is_operand.kp T.b__is_operand .nil pass0 (pa_cons (pv 1) pa_nil)))) (pss_one ps_never) pss_nil)
  (pss_one (ps_ret (pe_call G_product_polys (hr.mono (by decide)) rfl T.g_product_polys T.F_product_polys.kp T.b_product_polys .nil pass0 (pa_cons (pv 0) (pa_cons (pe_call G_poly_of (hr.mono (by decide)) rfl T.g_poly_of T.F_poly_of.kp T.b_poly_of .nil pass0 (pa_cons (pv 1) pa_nil)) pa_nil)))))), ?_⟩
    refine ⟨_, rfl, u, rfl, hu.ins, true, rfl, iteF ?_⟩
    exact ⟨_, rfl, _, rfl, u, rfl, hu.ins, ⟨p, u, n, m, n2, m2, s, s2, e2, b2, f, g, rfl, hp, hu, r⟩⟩
/-! ### lowest terms -/
/-- the Ratio v is p / q, in lowest terms -/
def IsL (C : Addr) (H : Hp) (v : V) (p q : Int) : Prop := ∃ t b, RatAt C H v t b ∧ 0 < b ∧ 0 < q ∧ t * q = p * b ∧ Int.gcd t b = 1
theorem low_le {t b p q : Int} (hg : Int.gcd t b = 1) (hb : 0 < b) (hq : 0 < q) (e : t * q = p * b) : t.natAbs ≤ p.natAbs ∧ b.natAbs ≤ q.natAbs := by
  have hc : Nat.Coprime t.natAbs b.natAbs := hg
  have e2 : t.natAbs * q.natAbs = p.natAbs * b.natAbs := by rw [← Int.natAbs_mul, ← Int.natAbs_mul, e]
  have d1 : b.natAbs ∣ q.natAbs := hc.symm.dvd_of_dvd_mul_left ⟨p.natAbs, by rw [e2, Nat.mul_comm]⟩
  have d2 : t.natAbs ∣ p.natAbs := hc.dvd_of_dvd_mul_right ⟨q.natAbs, e2.symm⟩
  refine ⟨?_, Nat.le_of_dvd (by omega) d1⟩
  rcases Nat.eq_zero_or_pos p.natAbs with h | h
  · rw [h, Nat.zero_mul] at e2
    rcases Nat.mul_eq_zero.mp e2 with h2 | h2
    · omega
    · omega
  · exact Nat.le_of_dvd h d2
theorem IsL.isF {C : Addr} {H : Hp} {v : V} {p q : Int} {n m : Nat} (h : IsL C H v p q) (hp : p.natAbs < 2 ^ n) (hq : q.natAbs < 2 ^ m) : IsF C n m H v p q := by
  obtain ⟨t, b, r, h1, h2, h3, h4⟩ := h
  obtain ⟨l1, l2⟩ := low_le h4 h1 h2 h3
  exact ⟨t, b, r, h1, h2, h3, Nat.lt_of_le_of_lt l1 hp, Nat.lt_of_le_of_lt l2 hq⟩
theorem IsL.same {C : Addr} {H H' : Hp} {v : V} {p q : Int} (h : IsL C H v p q) (s : Same H H') : IsL C H' v p q := by
  obtain ⟨t, b, r, k⟩ := h
  exact ⟨t, b, r.same s, k⟩
/-- these things are Ratios in lowest terms with the values f 0, f 1, .. -/
def Lows (C : Addr) (H : Hp) (xs : List V) (f : Nat → Int × Int) : Prop := ∀ k x, xs[k]? = some x → IsL C H x (f k).1 (f k).2
theorem Lows.same {C : Addr} {H H' : Hp} {xs : List V} {f : Nat → Int × Int} (h : Lows C H xs f) (s : Same H H') : Lows C H' xs f := fun k x e => (h k x e).same s
theorem Lows.nil {C : Addr} {H : Hp} {f : Nat → Int × Int} : Lows C H [] f := fun k x h => by simp at h
theorem Lows.push {C : Addr} {H : Hp} {d : Addr} {ys zs : List V} {f : Nat → Int × Int} {y : V} {o : HO} (r : Lows C H ys f) (hd : H d = some (.lst zs)) (hy : IsL C H y (f ys.length).1 (f ys.length).2) : Lows C (upd H d o) (ys ++ [y]) f := fun k x h => by
  rcases push_get h with ⟨_, h1⟩ | ⟨rfl, rfl⟩
  · obtain ⟨t, b, q, k⟩ := r k x h1
    exact ⟨t, b, RatAt.put q hd, k⟩
  · obtain ⟨t, b, q, k⟩ := hy
    exact ⟨t, b, RatAt.put q hd, k⟩
theorem Lows.rats {C : Addr} {H : Hp} {xs : List V} {f : Nat → Int × Int} {n m : Nat} (h : Lows C H xs f) (hf : ∀ k, k < xs.length → (f k).1.natAbs < 2 ^ n ∧ (f k).2.natAbs < 2 ^ m) : Rats C n m H xs f := fun k x e => by
  have hk := (List.getElem?_eq_some_iff.mp e).1
  exact (h k x e).isF (hf k hk).1 (hf k hk).2
/-! ### rows shifted by a Poly -/
def sp_over1 (A : Ad) : Sp := fun vs H Q E => ∃ (v p : V) (xs : List V) (g : Nat → Int × Int) (n m n2 m2 s : Nat) (f : Nat → Int × Int), vs = [v, p] ∧ SeqAt' H v xs ∧ Nums A.Ratio n m H xs g ∧ 0 < xs.length ∧ xs.length ≤ 13 ∧ n ≤ 1900 ∧ m ≤ 1900 ∧ n + m * xs.length ≤ 1900 ∧ PolyAt A n2 m2 H p s f ∧ n2 ≤ 1900 ∧ m2 ≤ 1900 ∧ n2 + m2 * s ≤ 1900 ∧
  ((s ≤ xs.length ∧ ∀ H' tp l l2 fs ts U B, Same H H' → H' tp = some (.tup [.ref l, .ref l2, .int (B * U)]) → H' l = some (.lst (fs.map V.int)) → H' l2 = some (.lst (ts.map V.int)) → fs.length = s → ts.length = xs.length → 0 < U → 0 < B → U.natAbs < 2 ^ 1901 → B.natAbs < 2 ^ 1901 → Tops U 1901 fs f → Tops B 1901 ts g → Q (.ref tp) H') ∨
    (xs.length < s ∧ ∀ H', Same H H' → E (.ref A.NoMean) none H'))
theorem ok__over_one_bottom (T : Txt K mg A D) : FnOk P w K mg base (L2.CX P w) 7 A.f__over_one_bottom D.f__over_one_bottom ["row", "p"] (sp_over1 A) := by
  have G_row_numbers : FnOk P w K mg base CX0 6 A.f_row_numbers D.f_row_numbers ["row"] (sp_rown A.Ratio) := ok_row_numbers T
  have G_whole_parts : FnOk P w K mg base CX0 2 A.f_whole_parts D.f_whole_parts ["ratios"] (sp_parts A.Ratio) := ok_whole_parts T
  refine T.F__over_one_bottom.okX sc__over_one_bottom (fun vs H Q E h => ?_) (fun cdv A' outer s H vs Q E hr h => ?_)
  · obtain ⟨v, p, xs, g, n, m, n2, m2, s, f, rfl, _⟩ := h
    rfl
  · obtain ⟨v, p, xs, g, n, m, n2, m2, s, f, rfl, hv, hg, x0, x1, hn, hm, hnm, hp, hn2, hm2, hnm2, h⟩ := h
    refine ⟨_, (pss_cons (ps_set (i := 2) sc__over_one_bottom.nd rfl (.inl rfl) (pe_call G_row_numbers (hr.mono (by decide)) rfl T.g_row_numbers T.F_row_numbers.kp T.b_row_numbers .nil pass0 (pa_cons (pv 0) pa_nil)))
  (pss_cons (ps_if (pt_cmpR op_ge (pe_fld (pv 1) rfl) (pe_callB call_len_seq rfl T.z_len (by decide +kernel) (pa_cons (pv 2) pa_nil)) (nomark _)) (pss_one (ps_raise rfl (takes_of rfl rfl rfl rfl) (pmk_mk0 T.e_NoMean T.xn_NoMean rfl T.g_NoMean))) pss_nil)
  (pss_cons (ps_asg (pe_call G_whole_parts (hr.mono (by decide)) rfl T.g_whole_parts T.F_whole_parts.kp T.b_whole_parts .nil pass0 (pa_cons (pe_fld (pv 1) rfl) pa_nil)) (pg_tup rfl (pgs_cons (pg_name (i := 3) sc__over_one_bottom.nd rfl (.inl rfl)) (pgs_cons (pg_name (i := 4) sc__over_one_bottom.nd rfl (.inl rfl)) pgs_nil))))
  (pss_cons (ps_asg (pe_call G_whole_parts (hr.mono (by decide)) rfl T.g_whole_parts T.F_whole_parts.kp T.b_whole_parts .nil pass0 (pa_cons (pv 2) pa_nil)) (pg_tup rfl (pgs_cons (pg_name (i := 5) sc__over_one_bottom.nd rfl (.inl rfl)) (pgs_cons (pg_name (i := 6) sc__over_one_bottom.nd rfl (.inl rfl)) pgs_nil))))
  (pss_one (ps_ret (pe_tup (pa_cons (pv 3) (pa_cons (pv 5) (pa_cons (pe_op op_mulW (pv 6) (pv 4)) pa_nil)))))))))), ?_⟩
    refine ⟨_, rfl, v, xs, g, n, m, rfl, hv, hg, x0, x1, fun H1 d ys k1 hd hy hr => ?_⟩
    have hp1 := hp.same k1
    have ⟨⟨a, dx, tp, zs, l, ea, h1, h2, h3, h4⟩, z, z1, z2⟩ := hp1
    subst ea
    have cl := T.k_Poly.cl
    refine ⟨_, rfl, a, A.Poly, dx, _, _, rfl, h1, cl, T.n_Poly_degree, rfl, _, rfl, d, _, rfl, .inl (.of hd), _, _, rfl, rfl, _, rfl, ?_⟩
    rcases h with ⟨hl, q⟩ | ⟨hl, q⟩
    · refine iteFe (decide_eq_false (by omega)) ?_
      refine ⟨_, rfl, a, A.Poly, dx, _, _, rfl, h1, cl, T.n_Poly_coefficients, rfl, tp, zs, f, n2, m2, rfl, .inr h2, h4, by omega, hn2, hm2, by rw [h3]; exact hnm2, fun H2 tp2 l2 fs U k2 htp hfs lf u0 u1 hf => ?_⟩
      rw [h3] at u1 hf
      have u1 := nle u1 (show m2 * s + 1 ≤ 1901 by omega)
      have hf := hf.mono (show n2 + m2 * s + 1 ≤ 1901 by omega)
      refine ⟨tp2, _, rfl, .of htp, rfl, _, _, rfl, _, _, rfl, rfl, ?_⟩
      refine ⟨_, rfl, d, ys, g, n, m, rfl, .inl (k2 _ _ hd), hr.same k2, by omega, hn, hm, by rw [hy]; exact hnm, fun H3 tp3 l3 ts B k3 htp3 hts lt b0 b1 ht => ?_⟩
      rw [hy] at b1 ht
      have b1 := nle b1 (show m * xs.length + 1 ≤ 1901 by omega)
      have ht := ht.mono (show n + m * xs.length + 1 ≤ 1901 by omega)
      refine ⟨tp3, _, rfl, .of htp3, rfl, _, _, rfl, _, _, rfl, rfl, ?_⟩
      refine ⟨_, rfl, _, rfl, _, rfl, _, rfl, _, _, rfl, rfl, (sm_of b1 (by decide)).mul (sm_of u1 (by decide)), by show 3 ≤ sizeLine; decide, fun tp4 n4 => ?_⟩
      have k4 := same_upd (o := .tup [.ref l2, .ref l3, .int (B * U)]) n4
      exact q _ tp4 l2 l3 fs ts U B (((k1.trans k2).trans k3).trans k4) upd_same (k4 _ _ (k3 _ _ hfs)) (k4 _ _ hts) (by omega) (by omega) u0 b0 u1 b1 hf ht
    · refine iteTe (decide_eq_true (by omega)) ?_
      exact q _ k1
/-- value k of the row shifted by the Poly -/
abbrev shF (f g : Nat → Int × Int) (s k : Nat) : Int × Int := sumQ f (fun j => g (k + j)) s
def sp_shifted (A : Ad) : Sp := fun vs H Q E => ∃ (v p : V) (xs : List V) (g : Nat → Int × Int) (n m n2 m2 s : Nat) (f : Nat → Int × Int), vs = [v, p] ∧ SeqAt' H v xs ∧ Nums A.Ratio n m H xs g ∧ (∀ k, 0 < (g k).2) ∧ 0 < xs.length ∧ xs.length ≤ 13 ∧ n ≤ 1900 ∧ m ≤ 1900 ∧ n + m * xs.length ≤ 1900 ∧ PolyAt A n2 m2 H p s f ∧ n2 ≤ 1900 ∧ m2 ≤ 1900 ∧ n2 + m2 * s ≤ 1900 ∧
  ((s ≤ xs.length ∧ ∀ H' d zs, Same H H' → H' d = some (.lst zs) → zs.length = xs.length + 1 - max s 1 → Lows A.Ratio H' zs (shF f g s) → Q (.ref d) H') ∨ (xs.length < s ∧ ∀ H', Same H H' → E (.ref A.NoMean) none H'))
theorem tops_drop {B : Int} {e : Nat} {ts : List Int} {g : Nat → Int × Int} (h : Tops B e ts g) (k : Nat) : Tops B e (ts.drop k) (fun j => g (k + j)) := fun j t x => by
  rw [List.getElem?_drop] at x
  exact h _ t x
theorem cut_drop (xs : List V) (k : Nat) (h : k ≤ xs.length) : cutV xs (some (k : Int)) none = xs.drop k := by
  unfold cutV
  have e1 : HT.sIx xs.length xs.length none = xs.length := rfl
  have e2 : HT.sIx xs.length 0 (some (k : Int)) = k := by
    show (if (k : Int) < 0 then ((k : Int) + (xs.length : Int)).toNat else min (k : Int).toNat xs.length) = _
    rw [if_neg (by omega)]
    omega
  rw [e1, e2]
  exact List.take_of_length_le (by rw [List.length_drop]; omega)
theorem ok_shifted_row (T : Txt K mg A D) : FnOk P w K mg base (L2.CX P w) 8 A.f_shifted_row D.f_shifted_row ["row", "p"] (sp_shifted A) := by
  have G_Ratio_init : FnOk P w K mg base CX0 2 A.f_Ratio___init__ D.f_Ratio___init__ ["self", "top", "bottom"] (sp_init A.Ratio) := ok_Ratio___init__ T
  have b_Ratio_init2 := T.b_Ratio___init__
  have d_Ratio_init2 : Vals [] [] := .nil
  have G__over_one_bottom : FnOk P w K mg base (L2.CX P w) 7 A.f__over_one_bottom D.f__over_one_bottom ["row", "p"] (sp_over1 A) := ok__over_one_bottom T
  have G_paired : FnOk P w K mg base CX0 1 A.f_paired D.f_paired ["factors", "tops"] (sp_paired) := ok_paired T
  refine T.F_shifted_row.okX sc_shifted_row (fun vs H Q E h => ?_) (fun cdv A' outer s H vs Q E hr h => ?_)
  · obtain ⟨v, p, xs, g, n, m, n2, m2, s, f, rfl, _⟩ := h
    rfl
  · obtain ⟨v, p, xs, g, n, m, n2, m2, s, f, rfl, hv, hg, g0, x0, x1, hn, hm, hnm, hp, hn2, hm2, hnm2, h⟩ := h
    refine ⟨_, (pss_cons (ps_asg (pe_call G__over_one_bottom (hr.mono (by decide)) rfl T.g__over_one_bottom T.F__over_one_bottom.kp T.b__over_one_bottom .nil passE (pa_cons (pv 0) (pa_cons (pv 1) pa_nil))) (pg_tup rfl (pgs_cons (pg_name (i := 2) sc_shifted_row.nd rfl (.inr rfl)) (pgs_cons (pg_name (i := 3) sc_shifted_row.nd rfl (.inr rfl)) (pgs_cons (pg_name (i := 4) sc_shifted_row.nd rfl (.inr rfl)) pgs_nil)))))
  (pss_cons (ps_set (i := 5) sc_shifted_row.nd rfl (.inl rfl) (pe_op op_sub (pe_callB call_len_seq rfl T.z_len (by decide +kernel) (pa_cons (pv 3) pa_nil)) (pe_callB (call_max2 rfl) rfl T.z_max (by decide +kernel) (pa_cons pe_int (pa_cons (pe_fld (pv 1) rfl) pa_nil)))))
  (pss_one (ps_ret (pe_lc (own := [("k", 6)]) (g := gName 6) (tt := tYes) rfl sc_shifted_row.nd (pi_range1 rfl T.z_range (pa_cons (pv 5) pa_nil)) (blkOk_by (N := N_shifted_row) (sc := defScope s_shifted_row) (by decide +kernel)) (fun _ _ _ _ _ => (pg_name (i := 6) sc_shifted_row.nd rfl (.inl rfl))) (fun _ _ _ _ _ => pts_nil) (fun _ _ _ _ _ => (pe_make T.M_Ratio G_Ratio_init (hr.mono (by decide)) rfl T.g_Ratio b_Ratio_init2 d_Ratio_init2 pass0 (pa_cons (pe_call G_paired (hr.mono (by decide)) rfl T.g_paired T.F_paired.kp T.b_paired .nil pass0 (pa_cons (pv 2) (pa_cons (pe_slice (sl_listK (K := K) rfl) (pv 3) (po_some (pv 6)) po_none) pa_nil))) (pa_cons (pv 4) pa_nil))))))))), ?_⟩
    refine ⟨_, rfl, _, rfl, v, p, xs, g, n, m, n2, m2, s, f, rfl, hv, hg, x0, x1, hn, hm, hnm, hp, hn2, hm2, hnm2, ?_⟩
    rcases h with ⟨hl, q⟩ | ⟨hl, q⟩
    · refine .inl ⟨hl, fun H1 tp l l2 fs ts U B k1 htp hfs hts lf lt u0 b0 u1 b1 hf ht => ?_⟩
      refine ⟨tp, _, rfl, .of htp, rfl, _, _, rfl, _, _, rfl, _, _, rfl, rfl, ?_⟩
      have hp1 := hp.same k1
      have ⟨⟨a, dx, tp2, zs, l3, ea, h1, h2, h3, h4⟩, z, z1, z2⟩ := hp1
      subst ea
      have cl := T.k_Poly.cl
      refine ⟨_, rfl, l2, _, rfl, .inl (.of hts), _, rfl, a, A.Poly, dx, _, _, rfl, h1, cl, T.n_Poly_degree, rfl, _, _, rfl, _, _, rfl, rfl, ?_⟩
      have hN : ∀ z : Int, ((((ts.map V.int).length : Nat) : Int) - (if (s : Int) - 1 > 0 then (s : Int) - 1 else 0)) = z → z.toNat = xs.length + 1 - max s 1 ∧ z ≤ 13 ∧ 0 ≤ z := fun z e => by
        rw [List.length_map] at e
        split at e <;> omega
      obtain ⟨e1, e2, e3⟩ := hN _ rfl
      refine ⟨_, rfl, _, rfl, ?_, ?_, fun d nd => ?_⟩
      · show -2 ^ 62 ≤ ((((ts.map V.int).length : Nat) : Int) - (if (s : Int) - 1 > 0 then (s : Int) - 1 else 0))
        omega
      · show ((((ts.map V.int).length : Nat) : Int) - (if (s : Int) - 1 > 0 then (s : Int) - 1 else 0)) < 2 ^ 62
        omega
      have e1 : (((((ts.map V.int).length : Nat) : Int) - (if (s : Int) - 1 > 0 then (s : Int) - 1 else 0))).toNat = xs.length + 1 - max s 1 := e1
      rw [e1]
      clear hN
      refine lc_range (lo := 0) (fun i G => Same H1 G ∧ ∃ zs : List V, zs.length = i ∧ G d = some (.lst zs) ∧ Lows A.Ratio G zs (shF f g s)) ⟨same_upd nd, [], rfl, upd_same, Lows.nil⟩ ?_ ?_
      · rintro k G hk ⟨sm, zs', hz, hd, hr⟩
        have ks : k + s ≤ xs.length := by omega
        have hts2 := sm _ _ hts
        have ec : cutV (ts.map V.int) (some (0 + (k : Int))) none = (ts.drop k).map V.int := by
          rw [Int.zero_add, cut_drop _ _ (by rw [List.length_map]; omega), List.map_drop]
        refine ⟨rfl, _, rfl, _, rfl, _, rfl, _, rfl, l2, _, rfl, .of hts2, fun d5 nd5 => ?_⟩
        rw [ec]
        have k5 := same_upd (o := .lst ((ts.drop k).map V.int)) nd5
        have hf' := getD_small hf
        have ht' := getD_small (tops_drop ht k)
        refine ⟨l, d5, fs, ts.drop k, 1901, by decide, rfl, k5 _ _ (sm _ _ hfs), upd_same, by rw [List.length_drop]; omega, by omega, fun j _ => ⟨hf' j, ht' j⟩, fun H6 k6 => ?_⟩
        have bu := Int.mul_pos b0 u0
        refine ⟨_, rfl, fun r dr nr nd7 ne => ⟨r, dr, _, _, rfl, upd_same, by omega, sm_of (nmul b1 u1) (by decide), fun t' b' nm => ⟨rfl, ?_⟩⟩⟩
        obtain ⟨k7, r7⟩ := made (C := A.Ratio) nr nd7 ne t' b'
        have kk := (k5.trans k6).trans k7
        have hd7 := kk _ _ hd
        have gp : ∀ j, 0 < (g (k + j)).2 := fun j => g0 (k + j)
        have sp := sumQ_pos (f := f) (g := fun j => g (k + j)) z1 gp s
        subst hz
        refine ⟨zs', hd7, small1000 (by omega), same_push (sm.trans kk) nd, zs' ++ [.ref r], by rw [List.length_append]; rfl, upd_same, (hr.same kk).push hd7 ⟨t', b', r7, nm.pos, sp, ?_, nm.cop⟩⟩
        have e1 := dot_is hf (tops_drop ht zs'.length) s (by omega) (by rw [List.length_drop]; omega)
        have e2 := nm.cross
        have e3 : dot fs (ts.drop zs'.length) = ((List.range s).map (mulAt fs (ts.drop zs'.length))).sum := by rw [← lf]; rfl
        rw [e3] at e2
        show t' * (sumQ f (fun j => g (zs'.length + j)) s).2 = (sumQ f (fun j => g (zs'.length + j)) s).1 * b'
        refine Int.eq_of_mul_eq_mul_right (show B * U ≠ 0 by omega) ?_
        generalize ((List.range s).map (mulAt fs (ts.drop zs'.length))).sum = S at *
        generalize sumQ f (fun j => g (zs'.length + j)) s = y at *
        generalize B * U = z at *
        grind
      · rintro G ⟨sm, zs', hz, hd, hr⟩
        exact q G d zs' (k1.trans sm) hd hz hr
    · exact .inr ⟨hl, fun H' k => q H' k⟩

end

end Mo

namespace Mo
open PySem PySem.Spec PyProof.Rows L2 MoL MoW
open C8 (pss_cut tCut)
section
variable {P : Program} {w : World} {K : PySem.W.Frag} {mg : Str → Option Value} {base : Heap} {A : Ad} {D : Fd}
/-! ### the law's drawing of numbers -/
/-- the six places of the feed at f -/
abbrev six (l : Addr) (i r t n s : Int) : HO := .lst [.ref l, .int i, .int r, .int t, .int n, .int s]
def FeedAt (H : Hp) (f : Addr) : Prop := ∃ (l : Addr) (xs : List Int) (i : Nat) (r t n s : Int), H f = some (six l i r t n s) ∧ H l = some (.lst (xs.map V.int)) ∧ i ≤ xs.length ∧ xs.length ≤ 63 ∧ 0 ≤ r
/-- from H to H' only the feed has moved on, and new things have come -/
structure Stp (f : Addr) (H H' : Hp) : Prop where
  feed : FeedAt H' f
  keep : ∀ b o, b ≠ f → H b = some o → H' b = some o
  ls : ∀ l i r t n s, H f = some (six l i r t n s) → ∃ i' r' t' n' s', H' f = some (six l i' r' t' n' s')
theorem FeedAt.same {H H' : Hp} {f : Addr} (h : FeedAt H f) (s : Same H H') : FeedAt H' f := by
  obtain ⟨l, xs, i, r, t, n, z, h1, h2, h3⟩ := h
  exact ⟨l, xs, i, r, t, n, z, s _ _ h1, s _ _ h2, h3⟩
theorem Stp.refl {H : Hp} {f : Addr} (h : FeedAt H f) : Stp f H H := ⟨h, fun _ _ _ e => e, fun _ _ _ _ _ _ e => ⟨_, _, _, _, _, e⟩⟩
theorem Stp.trans {H H1 H2 : Hp} {f : Addr} (a : Stp f H H1) (b : Stp f H1 H2) : Stp f H H2 := ⟨b.feed, fun c o n e => b.keep c o n (a.keep c o n e), fun _ _ _ _ _ _ e => let ⟨_, _, _, _, _, e1⟩ := a.ls _ _ _ _ _ _ e; b.ls _ _ _ _ _ _ e1⟩
theorem Stp.of {H H1 H2 : Hp} {f : Addr} (a : Stp f H H1) (b : Same H1 H2) : Stp f H H2 := ⟨a.feed.same b, fun c o n e => b c o (a.keep c o n e), fun _ _ _ _ _ _ e => let ⟨i', r', t', n', s', e1⟩ := a.ls _ _ _ _ _ _ e; ⟨i', r', t', n', s', b _ _ e1⟩⟩
theorem FeedAt.ne {H : Hp} {f p : Addr} {o : HO} (h : FeedAt H f) (hp : H p = some o) (d : ∀ l i r t n s, six l i r t n s ≠ o) : p ≠ f := by
  obtain ⟨l, xs, i, r, t, n, z, h1, _⟩ := h
  exact ne_of hp h1 fun e => d _ _ _ _ _ _ e.symm
theorem FeedAt.lt {H : Hp} {f p : Addr} (h : FeedAt H f) (hp : H p = none) : f ≠ p := by
  obtain ⟨l, xs, i, r, t, n, z, h1, _⟩ := h
  exact ne_of_none h1 hp

theorem stp_none {H H1 : Hp} {f p : Addr} (st : Stp f H H1) (ne : p ≠ f) (h : H1 p = none) : H p = none := by
  cases e : H p with
  | none => rfl
  | some o => rw [st.keep p o ne e] at h; cases h
theorem Stp.push {H G : Hp} {f d : Addr} {o : HO} (st : Stp f H G) (F : FeedAt H f) (hd : H d = none) (hf : d ≠ f) : Stp f H (upd G d o) := by
  obtain ⟨l0, xs0, i0, r0, t0, n0, z0, e1, e2, _⟩ := F
  obtain ⟨i', r', t', n', s', e3⟩ := st.ls _ _ _ _ _ _ e1
  obtain ⟨l, xs, i, r, t, n, z, h1, h2, h3⟩ := st.feed
  rw [e3] at h1
  have el : l0 = l := by
    have := HO.lst.inj (Option.some.inj h1)
    cases this
    rfl
  subst el
  have dl : l0 ≠ d := fun z => by rw [z, hd] at e2; cases e2
  refine ⟨⟨l0, xs, i, r, t, n, z, ?_, ?_, h3⟩, fun b u hb e => ?_, fun l i r t n s e => ?_⟩
  · rw [upd_ne (Ne.symm hf), e3]
    exact h1
  · rw [upd_ne dl]
    exact h2
  · have : b ≠ d := fun z => by rw [z, hd] at e; cases e
    rw [upd_ne this]
    exact st.keep b u hb e
  · obtain ⟨i2, r2, t2, n2, s2, e4⟩ := st.ls _ _ _ _ _ _ e
    exact ⟨i2, r2, t2, n2, s2, by rw [upd_ne (Ne.symm hf)]; exact e4⟩
def sp_feed (K : PySem.W.Frag) : Sp := fun vs H Q _ => ∃ (a : Addr) (ns : List Int), vs = [.ref a] ∧ SqL K H a (ns.map V.int) ∧ ns.length ≤ 63 ∧ ∀ H' f, Same H H' → FeedAt H' f → H f = none → Q (.ref f) H'
theorem ok__law_feed (T : Txt K mg A D) : FnOk P w K mg base CX0 1 A.f__law_feed D.f__law_feed ["_law_script"] (sp_feed K) := by
  skip
  refine T.F__law_feed.ok sc__law_feed (fun vs H Q E h => ?_) (fun cdv A' outer s H vs Q E hr h => ?_)
  · obtain ⟨a, ns, rfl, _⟩ := h
    rfl
  · obtain ⟨a, ns, rfl, hS, hl, q⟩ := h
    refine ⟨_, (pss_one (ps_ret (pe_lst (pa_cons (pe_lc (own := [("_law_cell", 1)]) (g := gName 1) (tt := tYes) rfl sc__law_feed.nd (pi_list (pe_slice sl_list (pv 0) po_none (po_some pe_int))) (blkOk_by (N := N__law_feed) (sc := defScope s__law_feed) (by decide +kernel)) (fun _ _ _ _ _ => (pg_name (i := 1) sc__law_feed.nd rfl (.inl rfl))) (fun _ _ _ _ _ => pts_nil) (fun _ _ _ _ _ => (pe_callB call_abs rfl T.z_abs (by decide +kernel) (pa_cons (pe_callTy call_int1 rfl T.z_int (by decide +kernel) (pa_cons (pv 1) pa_nil)) pa_nil)))) (pa_cons pe_int (pa_cons pe_int (pa_cons pe_int (pa_cons pe_int (pa_cons pe_int pa_nil))))))))), ?_⟩
    refine ⟨_, rfl, 63, rfl, a, _, rfl, hS, fun p np => ?_⟩
    have s1 : Same H (upd H p (.lst (cutV (ns.map V.int) none (some 63)))) := same_upd np
    obtain ⟨zs, hz, hzl⟩ : ∃ zs : List Int, cutV (ns.map V.int) none (some 63) = zs.map V.int ∧ zs.length ≤ 63 := by
      refine ⟨(ns.drop (HT.sIx (ns.map V.int).length 0 none)).take (HT.sIx (ns.map V.int).length (ns.map V.int).length (some 63) - HT.sIx (ns.map V.int).length 0 none), ?_, ?_⟩
      · unfold cutV
        rw [List.map_take, List.map_drop]
      · rw [List.length_take, List.length_drop]
        omega
    rw [hz] at s1 ⊢
    refine ⟨p, rfl, ⟨_, .of upd_same⟩, fun d nd => ?_⟩
    have npd : p ≠ d := fun e => by rw [e, upd_same] at nd; cases nd
    refine lc_list (K := K) (a := p) (xs := zs.map V.int) (fun i H' => Same H H' ∧ H' p = some (.lst (zs.map V.int)) ∧ ∃ ys : List Int, ys.length = i ∧ H' d = some (.lst (ys.map V.int)))
      ⟨s1.trans (same_upd nd), by rw [upd_ne npd, upd_same], [], rfl, upd_same⟩ (fun i H' _ h => .of h.2.1) ?_ ?_
    · rintro i x H' hx ⟨sm, hp, ys, hy, hd⟩
      obtain ⟨z, hz', rfl⟩ : ∃ z, zs[i]? = some z ∧ x = .int z := by
        rw [List.getElem?_map] at hx
        cases e : zs[i]? with
        | none => rw [e] at hx; cases hx
        | some z => rw [e] at hx; exact ⟨z, rfl, (Option.some.inj hx).symm⟩
      have il : i < zs.length := (List.getElem?_eq_some_iff.mp hz').1
      refine ⟨rfl, ?_⟩
      refine ⟨_, rfl, .inl ⟨z, rfl, z, rfl, _, hd, ?_, ⟨fun b o e => ?_, ?_, ys ++ [if z < 0 then -z else z], ?_, ?_⟩⟩⟩
      · rw [List.length_map, hy]
        exact small1000 (by omega)
      · have nb : b ≠ d := fun e' => by
          subst e'
          rw [s1.free nd] at e
          cases e
        rw [upd_ne nb]
        exact sm _ _ e
      · rw [upd_ne npd]
        exact hp
      · rw [List.length_append, hy]
        rfl
      · rw [upd_same, List.map_append]
        rfl
    · rintro H' ⟨sm, hp, ys, hy, hd⟩
      rw [List.length_map] at hy
      refine ⟨by show 6 ≤ sizeLine; decide, fun f nf => ?_⟩
      have nfd : d ≠ f := ne_of_none hd nf
      refine q _ f (sm.trans (same_upd nf)) ⟨d, ys, 0, 0, 0, 0, 0, upd_same, by rw [upd_ne nfd]; exact hd, Nat.zero_le _, by omega, Int.le_refl _⟩ (sm.free nf)

/-- the feed at f with these five, the rest as in H -/
structure Now (H H' : Hp) (f l : Addr) (i r t n s : Int) : Prop where
  at_ : H' f = some (six l i r t n s)
  oth : ∀ b, b ≠ f → H' b = H b
theorem Now.put {H H' : Hp} {f l : Addr} {i r t n s i' r' t' n' s' : Int} (h : Now H H' f l i r t n s) : Now H (upd H' f (six l i' r' t' n' s')) f l i' r' t' n' s' :=
  ⟨upd_same, fun b hb => by rw [upd_ne hb]; exact h.oth b hb⟩
theorem fdiv_nn {a b : Int} (h : 0 ≤ a) (h' : 0 < b) : 0 ≤ a.fdiv b := by
  rw [Int.fdiv_eq_ediv_of_nonneg a (by omega)]
  exact Int.ediv_nonneg h (by omega)
theorem lt_mod : (0 : Int) < 2147483647 := by decide
theorem lt_mod' : (0 : Int) < 2147483399 := by decide
def sp_take : Sp := fun vs H Q _ => ∃ (f : Addr) (z : Int), vs = [.ref f, .int z] ∧ FeedAt H f ∧ 0 < z ∧ Sm z ∧ ∀ H' v, 0 ≤ v → v < z → Stp f H H' → Q (.int v) H'
theorem ok__law_take (T : Txt K mg A D) : FnOk P w K mg base CX0 1 A.f__law_take D.f__law_take ["_law_feed_here", "_law_size"] (sp_take) := by
  skip
  refine T.F__law_take.ok sc__law_take (fun vs H Q E h => ?_) (fun cdv A' outer s H vs Q E hr h => ?_)
  · obtain ⟨f, z, rfl, _⟩ := h
    rfl
  · obtain ⟨f, z, rfl, ⟨l, xs, i, r, t, n, c, hf, hl, hi, hx, hr0⟩, hz, sz, q⟩ := h
    refine ⟨_, (pss_cons (ps_augS (pv 0) pe_int get_list pe_int ip_add set_list)
  (pss_cut (ps_if (PW.pt (pw_and (pt_cmpR op_eq (pe_ix ix_list (pv 0) pe_int (fun _ _ => rfl)) pe_int (nomark _)) (pw_and (pt_cmpR op_eq (pe_ix ix_list (pv 0) pe_int (fun _ _ => rfl)) pe_int (nomark _)) (pw_and1 (pt_cmpR op_lt (pe_ix ix_list (pv 0) pe_int (fun _ _ => rfl)) (pe_callB call_len_seq rfl T.z_len (by decide +kernel) (pa_cons (pe_ix ix_list (pv 0) pe_int (fun _ _ => rfl)) pa_nil)) (nomark _)))))) (pss_cons (ps_set (i := 2) sc__law_take.nd rfl (.inl rfl) (pe_ix ix_list (pe_ix ix_list (pv 0) pe_int (fun _ _ => rfl)) (pe_ix ix_list (pv 0) pe_int (fun _ _ => rfl)) (fun _ _ => rfl)))
  (pss_cons (ps_augS (pv 0) pe_int get_list pe_int ip_add set_list)
  (pss_one (ps_if (pt_cmpR op_ge (pv 2) (pe_op op_pow pe_int pe_int) (nomark _)) (pss_one (ps_asg (pv 2) (pg_sub (pv 0) pe_int set_list))) (pss_cons (ps_asg pe_int (pg_sub (pv 0) pe_int set_list))
  (pss_one (ps_asg (pe_op op_add (pe_ix ix_list (pv 0) pe_int (fun _ _ => rfl)) (pv 2)) (pg_sub (pv 0) pe_int set_list)))))))) pss_nil)
  (pss_cons (ps_if (pt_cmpR op_gt (pe_ix ix_list (pv 0) pe_int (fun _ _ => rfl)) pe_int (nomark _)) (pss_cons (ps_set (i := 3) sc__law_take.nd rfl (.inl rfl) (pe_op op_mod (pe_callTy call_int1 rfl T.z_int (by decide +kernel) (pa_cons (pe_ix ix_list (pv 0) pe_int (fun _ _ => rfl)) pa_nil)) (pv 1)))
  (pss_cons (ps_asg (pe_op op_fdivA (pe_ix ix_list (pv 0) pe_int (fun _ _ => rfl)) (pv 1)) (pg_sub (pv 0) pe_int set_list))
  (pss_one (ps_ret (pv 3))))) pss_nil)
  (pss_cons (ps_asg (pe_callB (call_max2 rfl) rfl T.z_max (by decide +kernel) (pa_cons pe_int (pa_cons (pe_op op_sub (pe_ix ix_list (pv 0) pe_int (fun _ _ => rfl)) pe_int) pa_nil))) (pg_sub (pv 0) pe_int set_list))
  (pss_cons (ps_set (i := 4) sc__law_take.nd rfl (.inl rfl) (pe_op op_mod (pe_callTy call_int1 rfl T.z_int (by decide +kernel) (pa_cons (pe_op op_mul (pe_op op_add (pe_op op_add (pe_ix ix_list (pv 0) pe_int (fun _ _ => rfl)) (pe_op op_mul pe_int (pe_ix ix_list (pv 0) pe_int (fun _ _ => rfl)))) pe_int) pe_int) pa_nil)) pe_int))
  (pss_cons (ps_set (i := 4) sc__law_take.nd rfl (.inl rfl) (pe_op op_mod (pe_callTy call_int1 rfl T.z_int (by decide +kernel) (pa_cons (pe_op op_mul (pv 4) (pe_op op_add (pe_op op_fdivA (pv 4) pe_int) pe_int)) pa_nil)) pe_int))
  (pss_cons (ps_set (i := 4) sc__law_take.nd rfl (.inl rfl) (pe_op op_mod (pe_callTy call_int1 rfl T.z_int (by decide +kernel) (pa_cons (pe_op op_mul (pv 4) (pe_op op_add (pe_op op_fdivA (pv 4) pe_int) pe_int)) pa_nil)) pe_int))
  (pss_one (ps_ret (pe_op op_mod (pv 4) (pv 1))))))))))), ?_⟩
    have N0 : Now H H f l i r t n c := ⟨hf, fun _ _ => rfl⟩
    have lf : l ≠ f := ne_of hl hf fun e => by
      have := HO.lst.inj e
      cases xs with
      | nil => cases this
      | cons x xs => cases this
    have fin : ∀ {H' i' r' t' n' c'} (v : Int), Now H H' f l ((i' : Nat) : Int) r' t' n' c' → i' ≤ xs.length → 0 ≤ r' → 0 ≤ v → v < z → Q (.int v) H' := fun v N h1 h2 h3 h4 =>
      q _ v h3 h4 ⟨⟨l, xs, _, _, _, _, _, N.at_, by rw [N.oth l lf]; exact hl, h1, hx, h2⟩, fun b o hb e => by rw [N.oth b hb]; exact e, fun l' i0 r0 t0 n0 s0 e => by rw [hf] at e; cases e; exact ⟨_, _, _, _, _, N.at_⟩⟩
    -- feed[4] += 1
    refine ⟨_, rfl, f, _, 4, _, rfl, rfl, .of hf, rfl, n, 1, rfl, rfl, f, _, 4, 4, rfl, rfl, hf, rfl, ?_⟩
    have N1 : Now H (upd H f (six l i r t (n + 1) c)) f l i r t (n + 1) c := N0.put
    show tCut _ _ _ _ (upd H f (six l i r t (n + 1) c))
    generalize upd H f (six l i r t (n + 1) c) = H1 at N1
    -- the reading of a new cell
    refine ⟨fun σ H' => (∃ y, σ = [some (.ref f), some (.int z), y, none, none]) ∧ ∃ i' r' t' n' c', Now H H' f l ((i' : Nat) : Int) r' t' n' c' ∧ i' ≤ xs.length ∧ 0 ≤ r', ?_, ?_⟩
    · have skip : ∀ σ : L2.St, σ = [some (.ref f), some (.int z), none, none, none] → (∃ y, σ = [some (.ref f), some (.int z), y, none, none]) ∧ ∃ i' r' t' n' c', Now H H1 f l ((i' : Nat) : Int) r' t' n' c' ∧ i' ≤ xs.length ∧ 0 ≤ r' :=
        fun σ e => ⟨⟨_, e⟩, _, _, _, _, _, N1, hi, hr0⟩
      refine ⟨_, rfl, f, _, 2, _, rfl, rfl, .of N1.at_, rfl, rfl, _, rfl, ?_⟩
      refine ite2 (fun _ => ?_) (fun _ => iteF (skip _ rfl))
      refine ⟨_, rfl, f, _, 3, _, rfl, rfl, .of N1.at_, rfl, rfl, _, rfl, ?_⟩
      refine ite2 (fun _ => ?_) (fun _ => iteF (skip _ rfl))
      have hl1 : H1 l = some (.lst (xs.map V.int)) := by rw [N1.oth l lf]; exact hl
      refine ⟨_, rfl, f, _, 1, _, rfl, rfl, .of N1.at_, rfl, _, rfl, f, _, 0, _, rfl, rfl, .of N1.at_, rfl, l, _, rfl, .inl (.of hl1), _, _, rfl, rfl, _, rfl, ?_⟩
      refine ite2 (fun hlt => ?_) (fun _ => skip _ rfl)
      have hlt' : i < xs.length := by
        have := of_decide_eq_true hlt
        rw [List.length_map] at this
        omega
      have gi : (xs.map V.int)[i]? = some (.int xs[i]) := by
        rw [List.getElem?_map, List.getElem?_eq_getElem hlt']
        rfl
      refine ⟨_, rfl, f, _, 0, _, rfl, rfl, .of N1.at_, rfl, _, rfl, f, _, 1, _, rfl, rfl, .of N1.at_, rfl, l, _, i, _, rfl, rfl, .of hl1, atI_nat gi, ?_⟩
      refine ⟨_, rfl, f, _, 1, _, rfl, rfl, .of N1.at_, rfl, i, 1, rfl, rfl, f, _, 1, 1, rfl, rfl, N1.at_, rfl, ?_⟩
      have ei : ((i : Int) + 1) = ((i + 1 : Nat) : Int) := by omega
      have N2 : Now H (upd H1 f (six l ((i : Int) + 1) r t (n + 1) c)) f l ((i : Int) + 1) r t (n + 1) c := N1.put
      refine ⟨_, rfl, _, _, rfl, rfl, ⟨by decide, by decide, by decide⟩, _, _, rfl, rfl, _, rfl, ?_⟩
      refine ite2 (fun hbig => ?_) (fun hbig => ?_)
      · have hb : 0 ≤ xs[i] := by
          have := of_decide_eq_true hbig
          have e : (10 : Int) ^ (18 : Int).toNat = 1000000000000000000 := by decide
          rw [e] at this
          omega
        refine ⟨_, rfl, _, rfl, f, _, 2, 2, rfl, rfl, N2.at_, rfl, ⟨_, rfl⟩, ?_⟩
        exact ⟨i + 1, _, _, _, _, ei ▸ N2.put, hlt', hb⟩
      · refine ⟨_, rfl, f, _, 3, 3, rfl, rfl, N2.at_, rfl, ?_⟩
        have N3 : Now H (upd (upd H1 f (six l ((i : Int) + 1) r t (n + 1) c)) f (six l ((i : Int) + 1) r 7 (n + 1) c)) f l ((i : Int) + 1) r 7 (n + 1) c := N2.put
        refine ⟨_, rfl, f, _, 5, _, rfl, rfl, .of N3.at_, rfl, _, rfl, _, _, rfl, rfl, _, rfl, f, _, 5, 5, rfl, rfl, N3.at_, rfl, ⟨_, rfl⟩, ?_⟩
        exact ⟨i + 1, _, _, _, _, ei ▸ N3.put, hlt', hr0⟩
    -- a digit
    · rintro σ H2 ⟨⟨y, rfl⟩, i', r', t', n', c', N2, hi', hr'⟩
      refine ⟨_, rfl, f, _, 2, _, rfl, rfl, .of N2.at_, rfl, _, _, rfl, rfl, _, rfl, ?_⟩
      refine ite2 (fun _ => ?_) (fun _ => ?_)
      · refine ⟨_, rfl, f, _, 2, _, rfl, rfl, .of N2.at_, rfl, .inl ⟨_, rfl, _, rfl, _, _, rfl, rfl, hz, ?_⟩⟩
        refine ⟨_, rfl, f, _, 2, _, rfl, rfl, .of N2.at_, rfl, _, rfl, _, _, rfl, rfl, sz.div (by omega), _, rfl, f, _, 2, 2, rfl, rfl, N2.at_, rfl, ?_⟩
        exact ⟨_, rfl, fin _ N2.put hi' (fdiv_nn hr' hz) (Int.emod_nonneg _ (by omega)) (Int.emod_lt_of_pos _ hz)⟩
      · refine ⟨_, rfl, f, _, 3, _, rfl, rfl, .of N2.at_, rfl, _, _, rfl, rfl, _, _, rfl, _, rfl, f, _, 3, 3, rfl, rfl, N2.at_, rfl, ?_⟩
        have N3 : ∀ t'', Now H (upd H2 f (six l ((i' : Nat) : Int) r' t'' n' c')) f l ((i' : Nat) : Int) r' t'' n' c' := fun _ => N2.put
        show tSeq _ _ _ _ (upd H2 f (six l ((i' : Nat) : Int) r' _ n' c'))
        generalize hT : (if t' - 1 > 0 then t' - 1 else (0 : Int)) = t3
        have N3 := N3 t3
        generalize upd H2 f (six l ((i' : Nat) : Int) r' t3 n' c') = H3 at N3
        refine ⟨_, rfl, f, _, 5, _, rfl, rfl, .of N3.at_, rfl, _, rfl, f, _, 4, _, rfl, rfl, .of N3.at_, rfl, _, _, rfl, rfl, .inl ⟨by decide, by decide⟩, _, _, rfl, rfl, _, _, rfl, rfl, _, _, rfl, rfl, .inr ⟨by decide, by decide⟩, .inl ⟨_, rfl, _, _, rfl, rfl, lt_mod, ?_⟩⟩
        have b1 : ∀ x : Int, 0 ≤ x % 2147483647 ∧ x % 2147483647 < 2147483647 := fun x => ⟨Int.emod_nonneg _ (by decide), Int.emod_lt_of_pos _ (by decide)⟩
        generalize hA : ((c' + 7919 * n' + 1) * 48271) % 2147483647 = a1
        have a1b := b1 ((c' + 7919 * n' + 1) * 48271)
        rw [hA] at a1b
        refine ⟨_, rfl, _, rfl, _, _, rfl, rfl, ⟨by decide, by decide⟩, _, _, rfl, rfl, _, _, rfl, rfl, .inl ⟨by omega, by omega⟩, .inl ⟨_, rfl, _, _, rfl, rfl, lt_mod, ?_⟩⟩
        generalize hB : (a1 * (a1.fdiv 1009 + 69621)) % 2147483647 = a2
        have a2b := b1 (a1 * (a1.fdiv 1009 + 69621))
        rw [hB] at a2b
        refine ⟨_, rfl, _, rfl, _, _, rfl, rfl, ⟨by decide, by decide⟩, _, _, rfl, rfl, _, _, rfl, rfl, .inl ⟨by omega, by omega⟩, .inl ⟨_, rfl, _, _, rfl, rfl, lt_mod', ?_⟩⟩
        exact ⟨_, rfl, _, rfl, _, _, rfl, rfl, hz, fin _ N3 hi' hr' (Int.emod_nonneg _ (by omega)) (Int.emod_lt_of_pos _ hz)⟩
def sp_number : Sp := fun vs H Q _ => ∃ (f : Addr) (z : Int), vs = [.ref f, .int z] ∧ FeedAt H f ∧ 0 < z ∧ Sm z ∧ ∀ H' v, -z < v → v < z → Stp f H H' → Q (.int v) H'
theorem ok__law_number (T : Txt K mg A D) : FnOk P w K mg base CX0 2 A.f__law_number D.f__law_number ["_law_feed_here", "_law_size"] (sp_number) := by
  have G__law_take : FnOk P w K mg base CX0 1 A.f__law_take D.f__law_take ["_law_feed_here", "_law_size"] (sp_take) := ok__law_take T
  refine T.F__law_number.ok sc__law_number (fun vs H Q E h => ?_) (fun cdv A' outer s H vs Q E hr h => ?_)
  · obtain ⟨f, z, rfl, _⟩ := h
    rfl
  · obtain ⟨f, z, rfl, hf, hz, sz, q⟩ := h
    refine ⟨_, (pss_cons (ps_set (i := 2) sc__law_number.nd rfl (.inl rfl) (pe_op op_sub pe_int (pe_op op_mul pe_int (pe_call G__law_take (hr.mono (by decide)) rfl T.g__law_take T.F__law_take.kp T.b__law_take .nil pass0 (pa_cons (pv 0) (pa_cons pe_int pa_nil))))))
  (pss_one (ps_ret (pe_op op_mul (pv 2) (pe_call G__law_take (hr.mono (by decide)) rfl T.g__law_take T.F__law_take.kp T.b__law_take .nil pass0 (pa_cons (pv 0) (pa_cons (pv 1) pa_nil))))))), ?_⟩
    refine ⟨_, rfl, f, 2, rfl, hf, by decide, .ab (by decide) (by decide), fun H1 v v0 v1 st => ⟨_, _, rfl, rfl, .inl ⟨by decide, by decide⟩, _, _, rfl, rfl, ?_⟩⟩
    refine ⟨_, rfl, _, rfl, _, rfl, f, z, rfl, st.feed, hz, sz, fun H2 u u0 u1 st2 => ⟨_, _, rfl, rfl, .inl ⟨by omega, by omega⟩, q _ _ ?_ ?_ (st.trans st2)⟩⟩
    · rcases (by omega : v = 0 ∨ v = 1) with e | e <;> subst e <;> omega
    · rcases (by omega : v = 0 ∨ v = 1) with e | e <;> subst e <;> omega

end

section
variable {P : Program} {w : World} {K : PySem.W.Frag} {mg : Str → Option Value} {base : Heap} {A : Ad} {D : Fd}
theorem ok__law_is_integer (T : Txt K mg A D) : FnOk P w K mg base CX0 1 A.f__law_is_integer D.f__law_is_integer ["_law_value"] (sp_is_whole K) := by
  skip
  refine T.F__law_is_integer.ok sc__law_is_integer (fun vs H Q E h => ?_) (fun cdv A' outer s H vs Q E hr h => ?_)
  · obtain ⟨x, b, rfl, _⟩ := h
    rfl
  · obtain ⟨x, b, rfl, ⟨t, b1, b2, ty, e1, e2, rfl⟩, q⟩ := h
    refine ⟨_, (pss_one (ps_ret (pe_and (pe_callB call_isi rfl T.z_isinstance (by decide +kernel) (pa_cons (pv 0) (pa_cons (pe_bltn (v := .ty "int") rfl T.z_int (by decide +kernel) rfl) pa_nil))) (pe_one (pe_not (pe_callB call_isi rfl T.z_isinstance (by decide +kernel) (pa_cons (pv 0) (pa_cons (pe_bltn (v := .ty "bool") rfl T.z_bool (by decide +kernel) rfl) pa_nil)))))))), ?_⟩
    refine ⟨x, rfl, x, .ty "int", t, _, b1, rfl, .ty _, ty, e1, b1, rfl, ?_⟩
    cases b1 with
    | false => exact iteF q
    | true => exact iteT ⟨x, rfl, x, .ty "bool", t, _, b2, rfl, .ty _, ty, e2 rfl, b2, rfl, q⟩
def sp_is (C : Addr) : Sp := fun vs H Q _ => ∃ v t b p q', vs = [v, .int p, .int q'] ∧ RatAt C H v t b ∧ 0 < b ∧ t * q' = p * b ∧ Sm t ∧ Sm b ∧ Sm p ∧ Sm q' ∧ Q (.bl true) H
theorem ok__law_is (T : Txt K mg A D) : FnOk P w K mg base CX0 2 A.f__law_is D.f__law_is ["_law_value", "_law_top", "_law_bottom"] (sp_is A.Ratio) := by
  have G__law_is_integer : FnOk P w K mg base CX0 1 A.f__law_is_integer D.f__law_is_integer ["_law_value"] (sp_is_whole K) := ok__law_is_integer T
  refine T.F__law_is.ok sc__law_is (fun vs H Q E h => ?_) (fun cdv A' outer s H vs Q E hr h => ?_)
  · obtain ⟨v, t, b, p, q', rfl, _⟩ := h
    rfl
  · obtain ⟨v, t, b, p, q', rfl, ⟨a, dx, rfl, ha⟩, hb, hc, st, sb, sp, sq, q⟩ := h
    refine ⟨_, (pss_cons (ps_if (PW.pt (pw_or (pt_not (pt_val (pe_callB call_isi rfl T.z_isinstance (by decide +kernel) (pa_cons (pv 0) (pa_cons (pe_glob (v := .ref A.Ratio) rfl T.g_Ratio rfl) pa_nil))))) (pw_or (pt_not (pt_val (pe_call G__law_is_integer (hr.mono (by decide)) rfl T.g__law_is_integer T.F__law_is_integer.kp T.b__law_is_integer .nil pass0 (pa_cons (pe_fld (pv 0) rfl) pa_nil)))) (pw_or1 (pt_not (pt_val (pe_call G__law_is_integer (hr.mono (by decide)) rfl T.g__law_is_integer T.F__law_is_integer.kp T.b__law_is_integer .nil pass0 (pa_cons (pe_fld (pv 0) rfl) pa_nil)))))))) (pss_one (ps_ret pe_bl)) pss_nil)
  (pss_one (ps_ret (pe_and (pe_cmpR op_ge (pe_fld (pv 0) rfl) pe_int (nomark _)) (pe_one (pe_cmpR op_eq (pe_op op_mulW (pe_fld (pv 0) rfl) (pv 2)) (pe_op op_mulW (pv 1) (pe_fld (pv 0) rfl)) (nomark _))))))), ?_⟩
    have cl := T.k_Ratio.cl
    have nt := T.k_Ratio.n_top
    have nb := T.k_Ratio.n_bottom
    refine ⟨_, rfl, .ref a, .ref A.Ratio, _, _, true, rfl, .own _, T.k_Ratio.ty ha, kit_self, true, rfl, iteF ?_⟩
    refine ⟨_, rfl, a, A.Ratio, dx, _, _, rfl, ha, cl, nt, rfl, _, _, rfl, whole_int t, true, rfl, iteF ?_⟩
    refine ⟨_, rfl, a, A.Ratio, dx, _, _, rfl, ha, cl, nb, rfl, _, _, rfl, whole_int b, true, rfl, iteF ?_⟩
    refine ⟨_, rfl, a, A.Ratio, dx, _, _, rfl, ha, cl, nb, rfl, _, _, rfl, rfl, true, ?_, iteT ?_⟩
    · show V.bl (decide (1 ≤ b)) = .bl true
      rw [decide_eq_true (by omega)]
    refine ⟨_, rfl, a, A.Ratio, dx, _, _, rfl, ha, cl, nt, rfl, _, rfl, _, _, rfl, rfl, st.mul sq, ?_⟩
    refine ⟨_, rfl, _, rfl, a, A.Ratio, dx, _, _, rfl, ha, cl, nb, rfl, _, _, rfl, rfl, sp.mul sb, rfl, ?_⟩
    have e : decide (V.int (t * q') = V.int (p * b)) = true := decide_eq_true (by rw [hc])
    exact e ▸ q
/-! ### pairs, rows -/
abbrev two (x y : Int) : HO := .lst [.int x, .int y]
/-- these lists hold the pairs F 0, F 1, .. -/
def Prsd (H : Hp) (rs : List Addr) (F : Nat → Int × Int) : Prop := ∀ k r, rs[k]? = some r → H r = some (two (F k).1 (F k).2)
def PairsAt (H : Hp) (v : V) (n : Nat) (F : Nat → Int × Int) : Prop := ∃ a rs, v = .ref a ∧ H a = some (.lst (rs.map V.ref)) ∧ rs.length = n ∧ Prsd H rs F
theorem Prsd.same {H H' : Hp} {rs : List Addr} {F : Nat → Int × Int} (h : Prsd H rs F) (s : Same H H') : Prsd H' rs F := fun k r e => s _ _ (h k r e)
theorem PairsAt.same {H H' : Hp} {v : V} {n : Nat} {F : Nat → Int × Int} (h : PairsAt H v n F) (s : Same H H') : PairsAt H' v n F := by
  obtain ⟨a, rs, e, h, l, p⟩ := h
  exact ⟨a, rs, e, s _ _ h, l, p.same s⟩
theorem Prsd.nil {H : Hp} {F : Nat → Int × Int} : Prsd H [] F := fun k r h => by simp at h
theorem Prsd.push {H : Hp} {d r : Addr} {rs : List Addr} {F : Nat → Int × Int} {zs : List V} (h : Prsd H rs F) (hr : H r = some (two (F rs.length).1 (F rs.length).2)) (hd : H d = some (.lst (rs.map V.ref))) : Prsd (upd H d (.lst zs)) (rs ++ [r]) F := by
  have ne : ∀ {k : Nat} {x : Addr}, H x = some (two (F k).1 (F k).2) → x ≠ d := fun {k x} hx z => by
    rw [z, hd] at hx
    cases rs with
    | nil => cases hx
    | cons a rs => cases hx
  intro k x hx
  rcases push_get hx with ⟨_, h1⟩ | ⟨rfl, rfl⟩
  · rw [upd_ne (ne (h k x h1))]
    exact h k x h1
  · rw [upd_ne (ne hr)]
    exact hr
theorem pr_get {rs : List Addr} {k : Nat} (h : k < rs.length) : ∃ r, rs[k]? = some r ∧ (rs.map V.ref)[k]? = some (.ref r) := by
  refine ⟨rs[k], List.getElem?_eq_getElem h, ?_⟩
  rw [List.getElem?_map, List.getElem?_eq_getElem h]
  rfl
theorem at_get {xs : List V} {k : Nat} {x : V} (h : xs[k]? = some x) : atI xs (0 + (k : Int)) = some x := by
  rw [Int.zero_add]
  exact atI_nat h
def sp_rowis (C : Addr) : Sp := fun vs H Q _ => ∃ d pv xs f n F, vs = [.ref d, pv] ∧ H d = some (.lst xs) ∧ Rats C 2500 1000 H xs f ∧ xs.length = n ∧ n ≤ 13 ∧ PairsAt H pv n F ∧ (∀ k, k < n → (f k).1 * (F k).2 = (F k).1 * (f k).2 ∧ (F k).1.natAbs < 2 ^ 1500 ∧ (F k).2.natAbs < 2 ^ 1500) ∧ Q (.bl true) H
theorem ok__law_row_is (T : Txt K mg A D) : FnOk P w K mg base CX0 3 A.f__law_row_is D.f__law_row_is ["_law_values", "_law_pairs"] (sp_rowis A.Ratio) := by
  have G__law_is : FnOk P w K mg base CX0 2 A.f__law_is D.f__law_is ["_law_value", "_law_top", "_law_bottom"] (sp_is A.Ratio) := ok__law_is T
  refine T.F__law_row_is.ok sc__law_row_is (fun vs H Q E h => ?_) (fun cdv A' outer s H vs Q E hr h => ?_)
  · obtain ⟨d, pv, xs, f, n, F, rfl, _⟩ := h
    rfl
  · obtain ⟨d, pv, xs, f, n, F, rfl, hd, rt, hl, hn, ⟨a, rs, rfl, ha, lr, hp⟩, hc, q⟩ := h
    refine ⟨_, (pss_cons (ps_if (PW.pt (pw_or (pt_not (pt_val (pe_callB call_isi rfl T.z_isinstance (by decide +kernel) (pa_cons (pv 0) (pa_cons (pe_bltn (v := .ty "list") rfl T.z_list (by decide +kernel) rfl) pa_nil))))) (pw_or1 (pt_cmpR op_ne (pe_callB call_len_seq rfl T.z_len (by decide +kernel) (pa_cons (pv 0) pa_nil)) (pe_callB call_len_seq rfl T.z_len (by decide +kernel) (pa_cons (pv 1) pa_nil)) (nomark _))))) (pss_one (ps_ret pe_bl)) pss_nil)
  (pss_cons (ps_for PassesOwn.never rfl (pi_range1 rfl T.z_range (pa_cons (pe_callB call_len_seq rfl T.z_len (by decide +kernel) (pa_cons (pv 1) pa_nil)) pa_nil)) (pg_name (i := 2) sc__law_row_is.nd rfl (.inl rfl)) (pss_one (ps_if (pt_not (pt_val (pe_call G__law_is (hr.mono (by decide)) rfl T.g__law_is T.F__law_is.kp T.b__law_is .nil pass0 (pa_cons (pe_ix ix_list (pv 0) (pv 2) (fun _ _ => rfl)) (pa_cons (pe_ix ix_list (pe_ix ix_list (pv 1) (pv 2) (fun _ _ => rfl)) pe_int (fun _ _ => rfl)) (pa_cons (pe_ix ix_list (pe_ix ix_list (pv 1) (pv 2) (fun _ _ => rfl)) pe_int (fun _ _ => rfl)) pa_nil)))))) (pss_one (ps_ret pe_bl)) pss_nil)))
  (pss_one (ps_ret pe_bl)))), ?_⟩
    have e1 : ((xs.length : Int)) = ((rs.map V.ref).length : Int) := by rw [List.length_map]; omega
    refine ⟨_, rfl, .ref d, .ty "list", _, _, true, rfl, .ty _, .base (.lst hd), kit_ty (by decide +kernel), true, rfl, iteF ?_⟩
    refine ⟨_, rfl, d, xs, rfl, .inl (.of hd), _, rfl, a, _, rfl, .inl (.of ha), rfl, _, rfl, iteFe (by rw [e1, decide_eq_true rfl]; rfl) ?_⟩
    refine ⟨_, rfl, a, _, rfl, .inl (.of ha), _, rfl, by omega, by rw [List.length_map]; omega, ?_⟩
    refine for_range (lo := 0) (fun i σ H' => H' = H ∧ ∃ y : Option V, σ = [some (.ref d), some (.ref a), y]) ⟨rfl, _, rfl⟩ ?_ ?_
    · rintro k σ H' hk ⟨rfl, y, rfl⟩
      rw [List.length_map] at hk
      have k1 : k < rs.length := by omega
      have k2 : k < xs.length := by omega
      obtain ⟨r, er, er2⟩ := pr_get k1
      have hx := List.getElem?_eq_getElem k2
      obtain ⟨t, b, ra, p1, p2, p3, p4, p5⟩ := rt k _ hx
      obtain ⟨c1, c2, c3⟩ := hc k (by omega)
      have hrr := hp k r er
      refine ⟨_, rfl, _, rfl, d, xs, _, _, rfl, rfl, .of hd, at_get hx, _, rfl, _, rfl, a, _, _, _, rfl, rfl, .of ha, at_get er2, r, _, 0, _, rfl, rfl, .of hrr, rfl, ?_⟩
      refine ⟨_, rfl, _, rfl, a, _, _, _, rfl, rfl, .of ha, at_get er2, r, _, 1, _, rfl, rfl, .of hrr, rfl, ?_⟩
      refine ⟨_, t, b, _, _, rfl, ra, p1, ?_, sm_of p4 (by decide), sm_of p5 (by decide), sm_of c2 (by decide), sm_of c3 (by decide), true, rfl, iteF ⟨rfl, _, rfl⟩⟩
      refine Int.eq_of_mul_eq_mul_right (show (f k).2 ≠ 0 by omega) ?_
      grind
    · rintro σ H' ⟨rfl, y, rfl⟩
      exact q
def sp_ratios (C : Addr) : Sp := fun vs H Q _ => ∃ pv n F e m, vs = [pv] ∧ PairsAt H pv n F ∧ n ≤ 15 ∧ e ≤ 1000 ∧ m ≤ 1000 ∧ (∀ k, k < n → 0 < (F k).2 ∧ (F k).1.natAbs < 2 ^ e ∧ (F k).2.natAbs < 2 ^ m) ∧
  ∀ H' d xs, Same H H' → H' d = some (.lst xs) → xs.length = n → Rats C e m H' xs F → Q (.ref d) H'
theorem ok__law_ratios (T : Txt K mg A D) : FnOk P w K mg base CX0 4 A.f__law_ratios D.f__law_ratios ["_law_pairs"] (sp_ratios A.Ratio) := by
  have G_Ratio_init : FnOk P w K mg base CX0 2 A.f_Ratio___init__ D.f_Ratio___init__ ["self", "top", "bottom"] (sp_init A.Ratio) := ok_Ratio___init__ T
  have b_Ratio_init2 := T.b_Ratio___init__
  have d_Ratio_init2 : Vals [] [] := .nil
  refine T.F__law_ratios.ok sc__law_ratios (fun vs H Q E h => ?_) (fun cdv A' outer s H vs Q E hr h => ?_)
  · obtain ⟨pv, n, F, e, m, rfl, _⟩ := h
    rfl
  · obtain ⟨pv, n, F, e, m, rfl, ⟨a, rs, rfl, ha, lr, hp⟩, hn, he, hm, hc, q⟩ := h
    refine ⟨_, (pss_one (ps_ret (pe_lc (own := [("_law_pair", 1)]) (g := gName 1) (tt := tYes) rfl sc__law_ratios.nd (pi_list (pv 0)) (blkOk_by (N := N__law_ratios) (sc := defScope s__law_ratios) (by decide +kernel)) (fun _ _ _ _ _ => (pg_name (i := 1) sc__law_ratios.nd rfl (.inl rfl))) (fun _ _ _ _ _ => pts_nil) (fun _ _ _ _ _ => (pe_make T.M_Ratio G_Ratio_init (hr.mono (by decide)) rfl T.g_Ratio b_Ratio_init2 d_Ratio_init2 pass0 (pa_cons (pe_ix (ix_listK (K := K) rfl) (pv 1) pe_int (fun _ _ => rfl)) (pa_cons (pe_ix (ix_listK (K := K) rfl) (pv 1) pe_int (fun _ _ => rfl)) pa_nil))))))), ?_⟩
    refine ⟨_, rfl, a, rfl, ⟨_, .of ha⟩, fun d nd => ?_⟩
    refine lc_list (K := K) (a := a) (xs := rs.map V.ref) (fun i G => Same H G ∧ ∃ xs : List V, xs.length = i ∧ G d = some (.lst xs) ∧ Rats A.Ratio e m G xs F) ⟨same_upd nd, [], rfl, upd_same, Rats.nil⟩ (fun i G _ p => .of (p.1 _ _ ha)) ?_ ?_
    · rintro i x G hx ⟨sm, xs, hl, hd, hr⟩
      obtain ⟨r, er, rfl⟩ : ∃ r, rs[i]? = some r ∧ x = .ref r := by
        rw [List.getElem?_map] at hx
        cases h : rs[i]? with
        | none => rw [h] at hx; cases hx
        | some r => rw [h] at hx; exact ⟨r, rfl, (Option.some.inj hx).symm⟩
      have il := (List.getElem?_eq_some_iff.mp er).1
      have hrr := sm _ _ (hp i r er)
      obtain ⟨c1, c2, c3⟩ := hc i (by omega)
      refine ⟨rfl, _, rfl, r, _, 0, _, rfl, rfl, .of hrr, rfl, _, rfl, r, _, 1, _, rfl, rfl, .of hrr, rfl, fun x dx nx nx2 ne => ⟨x, dx, _, _, rfl, upd_same, by omega, sm_of c3 (by omega), fun t' b' nm => ⟨rfl, ?_⟩⟩⟩
      obtain ⟨s6, r6⟩ := made (C := A.Ratio) nx nx2 ne t' b'
      have hd6 := s6 _ _ hd
      subst hl
      exact ⟨xs, hd6, small1000 (by omega), same_push (sm.trans s6) nd, xs ++ [.ref x], by rw [List.length_append]; rfl, upd_same, (hr.same s6).push hd6 ⟨t', b', r6, nm.pos, c1, nm.cross, Nat.lt_of_le_of_lt nm.le1 c2, Nat.lt_of_le_of_lt nm.le2 c3⟩⟩
    · rintro G ⟨sm, xs, hl, hd, hr⟩
      rw [List.length_map] at hl
      exact q G d xs sm hd (by omega) hr
theorem rat_stp {C : Addr} {G G' : Hp} {f : Addr} {v : V} {t b : Int} (F : FeedAt G f) (s : Stp f G G') (r : RatAt C G v t b) : RatAt C G' v t b := by
  obtain ⟨a, dx, e, h⟩ := r
  exact ⟨a, dx, e, s.keep _ _ (F.ne h fun _ _ _ _ _ _ w => by cases w) h⟩
theorem Rats.stp {C : Addr} {n m : Nat} {G G' : Hp} {f : Addr} {xs : List V} {F : Nat → Int × Int} (h : Rats C n m G xs F) (hF : FeedAt G f) (s : Stp f G G') : Rats C n m G' xs F := fun k x e => by
  obtain ⟨t, b, r, p⟩ := h k x e
  exact ⟨t, b, rat_stp hF s r, p⟩
theorem Rats.mono {C : Addr} {n m n' m' : Nat} {G : Hp} {xs : List V} {F : Nat → Int × Int} (h : Rats C n m G xs F) (h1 : n ≤ n') (h2 : m ≤ m') : Rats C n' m' G xs F := fun k x e => (h k x e).mono h1 h2
theorem rats_ne {C : Addr} {n m : Nat} {G : Hp} {f d : Addr} {xs : List V} {F : Nat → Int × Int} (h : Rats C n m G xs F) (hF : FeedAt G f) (hd : G d = some (.lst xs)) : d ≠ f := hF.ne hd fun l i r t n s z => by
  have e := HO.lst.inj z
  subst e
  obtain ⟨a, dx, fs, e, _⟩ := (h 1 (.int i) rfl).ins
  cases e
theorem PairsAt.stp {G G' : Hp} {f : Addr} {v : V} {n : Nat} {F : Nat → Int × Int} (h : PairsAt G v n F) (hF : FeedAt G f) (s : Stp f G G') : PairsAt G' v n F := by
  obtain ⟨a, rs, e, h1, l, p⟩ := h
  refine ⟨a, rs, e, s.keep _ _ (hF.ne h1 fun l i r t n s z => ?_) h1, l, fun k r e => s.keep _ _ (hF.ne (p k r e) fun _ _ _ _ _ _ w => by cases w) (p k r e)⟩
  cases rs with
  | nil => cases z
  | cons x rs =>
    cases rs with
    | nil => cases z
    | cons y rs => cases z
/-! ### lots -/
structure Lot where
  ps : List Int
  ws : List Int
  q : Int
  s : Int
def LotAt (H : Hp) (v : V) (L : Lot) : Prop := ∃ a pa wa, v = .ref a ∧ H a = some (.lst [.ref pa, .ref wa, .int L.q, .int L.s]) ∧ H pa = some (.lst (L.ps.map V.int)) ∧ H wa = some (.lst (L.ws.map V.int)) ∧ L.ps.length = L.ws.length
/-- what the law draws -/
structure LotOk (e g : Nat) (L : Lot) : Prop where
  ps : ∀ p ∈ L.ps, p.natAbs < 2 ^ e
  ws : ∀ w ∈ L.ws, w.natAbs < 2 ^ g
  q0 : 0 < L.q
  q1 : L.q ≤ 25
  s0 : 0 < L.s
  s1 : L.s ≤ 10000
  len : L.ps.length ≤ 16
theorem LotAt.same {H H' : Hp} {v : V} {L : Lot} (h : LotAt H v L) (s : Same H H') : LotAt H' v L := by
  obtain ⟨a, pa, wa, e, h1, h2, h3, h4⟩ := h
  exact ⟨a, pa, wa, e, s _ _ h1, s _ _ h2, s _ _ h3, h4⟩
theorem ints_ne {H : Hp} {f d : Addr} {xs : List Int} (F : FeedAt H f) (h : H d = some (.lst (xs.map V.int))) : d ≠ f := F.ne h fun l i r t n s z => by
  cases xs with
  | nil => cases z
  | cons x xs => cases z
def sp_lot : Sp := fun vs H Q _ => ∃ f : Addr, vs = [.ref f, .int 5] ∧ FeedAt H f ∧ ∀ H' v L, Stp f H H' → LotAt H' v L → LotOk 30 27 L → L.ps.length ≤ 5 → L.q ≤ 5 → L.s ≤ 9 → Q v H'
theorem ok__law_lot (T : Txt K mg A D) : FnOk P w K mg base CX0 3 A.f__law_lot D.f__law_lot ["_law_feed_here", "_law_most"] (sp_lot) := by
  have G__law_number : FnOk P w K mg base CX0 2 A.f__law_number D.f__law_number ["_law_feed_here", "_law_size"] (sp_number) := ok__law_number T
  have G__law_take : FnOk P w K mg base CX0 1 A.f__law_take D.f__law_take ["_law_feed_here", "_law_size"] (sp_take) := ok__law_take T
  refine T.F__law_lot.ok sc__law_lot (fun vs H Q E h => ?_) (fun cdv A' outer s H vs Q E hr h => ?_)
  · obtain ⟨f, rfl, _⟩ := h
    rfl
  · obtain ⟨f, rfl, F0, q⟩ := h
    refine ⟨_, (pss_cons (ps_set (i := 2) sc__law_lot.nd rfl (.inl rfl) (pe_ix ix_list (pe_lst (pa_cons pe_int (pa_cons pe_int (pa_cons (pe_op op_pow pe_int pe_int) pa_nil)))) (pe_call G__law_take (hr.mono (by decide)) rfl T.g__law_take T.F__law_take.kp T.b__law_take .nil pass0 (pa_cons (pv 0) (pa_cons pe_int pa_nil))) (fun _ _ => rfl)))
  (pss_cons (ps_set (i := 3) sc__law_lot.nd rfl (.inl rfl) (pe_call G__law_number (hr.mono (by decide)) rfl T.g__law_number T.F__law_number.kp T.b__law_number .nil pass0 (pa_cons (pv 0) (pa_cons (pv 2) pa_nil))))
  (pss_cons (ps_set (i := 4) sc__law_lot.nd rfl (.inl rfl) (pe_lst pa_nil))
  (pss_cons (ps_set (i := 5) sc__law_lot.nd rfl (.inl rfl) (pe_lst pa_nil))
  (pss_cons (ps_for PassesOwn.never rfl (pi_range1 rfl T.z_range (pa_cons (pe_call G__law_take (hr.mono (by decide)) rfl T.g__law_take T.F__law_take.kp T.b__law_take .nil pass0 (pa_cons (pv 0) (pa_cons (pe_op op_add (pv 1) pe_int) pa_nil))) pa_nil)) (pg_name (i := 6) sc__law_lot.nd rfl (.inl rfl)) (pss_cons (ps_expr (pe_bm PySem.F.plainAttrs_list PySem.F.slot_list_append PySem.F.type_list_append mt_append (pv 4) (pa_cons (pv 3) pa_nil)))
  (pss_cons (ps_expr (pe_bm PySem.F.plainAttrs_list PySem.F.slot_list_append PySem.F.type_list_append mt_append (pv 5) (pa_cons (pe_op op_add pe_int (pe_call G__law_take (hr.mono (by decide)) rfl T.g__law_take T.F__law_take.kp T.b__law_take .nil pass0 (pa_cons (pv 0) (pa_cons (pv 2) pa_nil)))) pa_nil)))
  (pss_one (ps_set (i := 3) sc__law_lot.nd rfl (.inl rfl) (pe_op op_add (pe_op op_add (pv 3) pe_int) (pe_call G__law_take (hr.mono (by decide)) rfl T.g__law_take T.F__law_take.kp T.b__law_take .nil pass0 (pa_cons (pv 0) (pa_cons (pv 2) pa_nil)))))))))
  (pss_one (ps_ret (pe_lst (pa_cons (pv 4) (pa_cons (pv 5) (pa_cons (pe_op op_add pe_int (pe_call G__law_take (hr.mono (by decide)) rfl T.g__law_take T.F__law_take.kp T.b__law_take .nil pass0 (pa_cons (pv 0) (pa_cons pe_int pa_nil)))) (pa_cons (pe_op op_add pe_int (pe_call G__law_take (hr.mono (by decide)) rfl T.g__law_take T.F__law_take.kp T.b__law_take .nil pass0 (pa_cons (pv 0) (pa_cons pe_int pa_nil)))) pa_nil)))))))))))), ?_⟩
    refine ⟨_, _, rfl, rfl, ⟨by decide, by decide, by decide⟩, by show 3 ≤ sizeLine; decide, fun p np => ?_⟩
    have s1 := same_upd (o := .lst [V.int 2, .int 40, .int (10 ^ (8 : Int).toNat)]) np
    refine ⟨_, rfl, f, 3, rfl, F0.same s1, by decide, .ab (by decide) (by decide), fun H1 k k0 k1 st1 => ?_⟩
    have pf : p ≠ f := (F0.lt np).symm
    have hp1 := st1.keep _ _ pf upd_same
    obtain ⟨z, hz, z0, z1⟩ : ∃ z : Int, atI [V.int 2, .int 40, .int (10 ^ (8 : Int).toNat)] k = some (.int z) ∧ 0 < z ∧ z ≤ 100000000 := by
      rcases (by omega : k = 0 ∨ k = 1 ∨ k = 2) with e | e | e <;> subst e
      · exact ⟨_, rfl, by decide, by decide⟩
      · exact ⟨_, rfl, by decide, by decide⟩
      · exact ⟨_, rfl, by decide, by decide⟩
    refine ⟨p, _, k, _, rfl, rfl, .of hp1, hz, ?_⟩
    have st1 : Stp f H H1 := (Stp.refl F0).of s1 |>.trans st1
    have sz : Sm z := .ab (by omega) (by omega)
    refine ⟨_, rfl, _, rfl, f, z, rfl, st1.feed, z0, sz, fun H2 top t0 t1 st2 => ?_⟩
    have st2 := st1.trans st2
    refine ⟨by show 0 ≤ sizeLine; decide, fun pa na => ⟨by show 0 ≤ sizeLine; decide, fun wa nw => ?_⟩⟩
    have af : pa ≠ f := (st2.feed.lt na).symm
    have sa := same_upd (o := .lst []) na
    have wf : wa ≠ f := ((st2.feed.same sa).lt nw).symm
    have aw : pa ≠ wa := fun z => by rw [← z, upd_same] at nw; cases nw
    have nw2 : H2 wa = none := by rw [upd_ne (Ne.symm aw)] at nw; exact nw
    have a0 := stp_none st2 af na
    have w0 := stp_none st2 wf nw2
    have st3 := (st2.push (o := .lst []) F0 a0 af).push (o := .lst []) F0 w0 wf
    have ha3 : upd (upd H2 pa (.lst [])) wa (.lst []) pa = some (.lst []) := by rw [upd_ne aw, upd_same]
    have hw3 : upd (upd H2 pa (.lst [])) wa (.lst []) wa = some (.lst []) := upd_same
    refine ⟨_, rfl, _, rfl, _, _, rfl, rfl, f, 5 + 1, rfl, st3.feed, by decide, .ab (by decide) (by decide), fun H4 m m0 m1 st4 => ⟨_, rfl, by omega, by omega, ?_⟩⟩
    have ha4 := st4.keep _ _ af ha3
    have hw4 := st4.keep _ _ wf hw3
    have st4 := st3.trans st4
    refine for_range (lo := 0) (fun i σ G => Stp f H G ∧ ∃ (ps ws : List Int) (top : Int) (y : Option V), σ = [some (.ref f), some (.int 5), some (.int z), some (.int top), some (.ref pa), some (.ref wa), y] ∧ G pa = some (.lst (ps.map V.int)) ∧ G wa = some (.lst (ws.map V.int)) ∧ ps.length = i ∧ ws.length = i ∧
        top.natAbs ≤ 100000000 * (i + 1) ∧ (∀ p ∈ ps, p.natAbs < 2 ^ 30) ∧ ∀ w ∈ ws, w.natAbs < 2 ^ 27) ⟨st4, [], [], top, _, rfl, ha4, hw4, rfl, rfl, by omega, (fun p h => by cases h), (fun p h => by cases h)⟩ ?_ ?_
    · rintro i σ G hi ⟨st, ps, ws, top, y, rfl, hpa, hwa, l1, l2, bt, bp, bw⟩
      have i5 : i < 5 := by omega
      refine ⟨_, rfl, .inl ⟨rfl, _, .of hpa⟩, _, rfl, pa, _, _, rfl, rfl, hpa, by rw [List.length_map]; exact small1000 (by omega), ?_⟩
      have st5 := st.push (o := .lst (ps.map V.int ++ [.int top])) F0 a0 af
      have hpa5 : upd G pa (.lst (ps.map V.int ++ [.int top])) pa = some (.lst ((ps ++ [top]).map V.int)) := by rw [upd_same, List.map_append]; rfl
      have hwa5 : upd G pa (.lst (ps.map V.int ++ [.int top])) wa = some (.lst (ws.map V.int)) := by rw [upd_ne (Ne.symm aw)]; exact hwa
      refine ⟨_, rfl, .inl ⟨rfl, _, .of hwa5⟩, _, rfl, _, rfl, f, z, rfl, st5.feed, z0, sz, fun G6 u u0 u1 st6 => ?_⟩
      have hpa6 := st6.keep _ _ af hpa5
      have hwa6 := st6.keep _ _ wf hwa5
      have st6 := st5.trans st6
      refine ⟨_, _, rfl, rfl, wa, _, _, rfl, rfl, hwa6, by rw [List.length_map]; exact small1000 (by omega), ?_⟩
      have st7 := st6.push (o := .lst (ws.map V.int ++ [.int (1 + u)])) F0 w0 wf
      have hwa7 : upd G6 wa (.lst (ws.map V.int ++ [.int (1 + u)])) wa = some (.lst ((ws ++ [1 + u]).map V.int)) := by rw [upd_same, List.map_append]; rfl
      have hpa7 : upd G6 wa (.lst (ws.map V.int ++ [.int (1 + u)])) pa = some (.lst ((ps ++ [top]).map V.int)) := by rw [upd_ne aw]; exact hpa6
      refine ⟨_, rfl, _, _, rfl, rfl, _, rfl, _, rfl, f, z, rfl, st7.feed, z0, sz, fun G8 e e0 e1 st8 => ⟨_, _, rfl, rfl, ?_⟩⟩
      refine ⟨st7.trans st8, ps ++ [top], ws ++ [1 + u], _, _, rfl, st8.keep _ _ af hpa7, st8.keep _ _ wf hwa7, by rw [List.length_append, l1]; rfl, by rw [List.length_append, l2]; rfl, by omega, fun p hp => ?_, fun p hp => ?_⟩
      · rcases List.mem_append.mp hp with h | h
        · exact bp p h
        · cases List.mem_singleton.mp h
          omega
      · rcases List.mem_append.mp hp with h | h
        · exact bw p h
        · cases List.mem_singleton.mp h
          omega
    · rintro σ G ⟨st, ps, ws, top, y, rfl, hpa, hwa, l1, l2, bt, bp, bw⟩
      refine ⟨_, rfl, _, rfl, _, rfl, f, 5, rfl, st.feed, by decide, .ab (by decide) (by decide), fun G6 u u0 u1 st6 => ⟨_, _, rfl, rfl, ?_⟩⟩
      have hpa6 := st6.keep _ _ af hpa
      have hwa6 := st6.keep _ _ wf hwa
      refine ⟨_, rfl, f, 9, rfl, st6.feed, by decide, .ab (by decide) (by decide), fun G7 u2 u20 u21 st7 => ⟨_, _, rfl, rfl, by show 4 ≤ sizeLine; decide, fun pl npl => ?_⟩⟩
      have hpa7 := st7.keep _ _ af hpa6
      have hwa7 := st7.keep _ _ wf hwa6
      have s8 := same_upd (o := .lst [.ref pa, .ref wa, .int (1 + u), .int (1 + u2)]) npl
      exact q _ _ ⟨ps, ws, 1 + u, 1 + u2⟩ (((st.trans st6).trans st7).of s8) ⟨pl, pa, wa, rfl, upd_same, s8 _ _ hpa7, s8 _ _ hwa7, by show ps.length = ws.length; omega⟩ ⟨bp, bw, by show 0 < 1 + u; omega, by show 1 + u ≤ 25; omega, by show 0 < 1 + u2; omega, by show 1 + u2 ≤ 10000; omega, by show ps.length ≤ 16; omega⟩ (by show ps.length ≤ 5; omega) (by show 1 + u ≤ 5; omega) (by show 1 + u2 ≤ 9; omega)
/-! ### the rows of lots -/
/-- the sum of the weights times the k-th powers of the points -/
def pw (L : Lot) (k : Nat) : Int := (List.zipWith (fun w p => w * p ^ k) L.ws L.ps).sum
def rowF (L : Lot) (k : Nat) : Int × Int := (pw L k, L.s * L.q ^ k)
def powL (L : Lot) (k : Nat) : List Int := List.zipWith (fun w p => w * p ^ k) L.ws L.ps
theorem powL_len {L : Lot} (hl : L.ps.length = L.ws.length) (k : Nat) : (powL L k).length = L.ps.length := by
  show (List.zipWith _ _ _).length = _
  rw [List.length_zipWith]
  omega
theorem powL_get {L : Lot} (hl : L.ps.length = L.ws.length) {k j : Nat} (hj : j < L.ps.length) : (powL L k)[j]? = some (L.ws.getD j 0 * L.ps.getD j 0 ^ k) := by
  show (List.zipWith _ _ _)[j]? = _
  rw [List.getElem?_zipWith, List.getD_eq_getElem?_getD, List.getD_eq_getElem?_getD, List.getElem?_eq_getElem hj, List.getElem?_eq_getElem (show j < L.ws.length by omega)]
  rfl
theorem powL_zero {L : Lot} (hl : L.ps.length = L.ws.length) : powL L 0 = L.ws := by
  refine List.ext_getElem? fun j => ?_
  by_cases hj : j < L.ps.length
  · rw [powL_get hl hj, Int.pow_zero, Int.mul_one, List.getD_eq_getElem?_getD, List.getElem?_eq_getElem (show j < L.ws.length by omega)]
    rfl
  · rw [List.getElem?_eq_none (by rw [powL_len hl]; omega), List.getElem?_eq_none (by omega)]
theorem getD_mem {xs : List Int} {j : Nat} (hj : j < xs.length) : xs.getD j 0 ∈ xs := by
  rw [List.getD_eq_getElem?_getD, List.getElem?_eq_getElem hj]
  exact List.getElem_mem hj
theorem npow {i : Int} {e : Nat} (h : i.natAbs < 2 ^ e) (k : Nat) : (i ^ k).natAbs < 2 ^ (e * k + 1) := by
  rw [Int.natAbs_pow]
  have : i.natAbs ^ k ≤ (2 ^ e) ^ k := Nat.pow_le_pow_left (Nat.le_of_lt h) k
  rw [← Nat.pow_mul] at this
  exact Nat.lt_of_le_of_lt this (Nat.pow_lt_pow_right (by decide) (by omega))
theorem powL_lt {L : Lot} {e g : Nat} (ok : LotOk e g L) (hl : L.ps.length = L.ws.length) {k j : Nat} (hj : j < L.ps.length) : (L.ws.getD j 0 * L.ps.getD j 0 ^ k).natAbs < 2 ^ (g + (e * k + 1)) :=
  nmul (ok.ws _ (getD_mem (show j < L.ws.length by omega))) (npow (ok.ps _ (getD_mem hj)) k)
theorem take_map_push {xs : List Int} {j : Nat} {x : Int} (h : xs[j]? = some x) : (xs.take j).map V.int ++ [V.int x] = (xs.take (j + 1)).map V.int := by
  have hj := (List.getElem?_eq_some_iff.mp h).1
  rw [List.take_add_one, h, List.map_append]
  rfl
theorem int_at {xs : List Int} {j : Nat} (h : j < xs.length) : (xs.map V.int)[j]? = some (V.int (xs.getD j 0)) := by
  rw [List.getElem?_map, List.getD_eq_getElem?_getD, List.getElem?_eq_getElem h]
  rfl
theorem bot_lt {L : Lot} {e g : Nat} (ok : LotOk e g L) {k : Nat} (hk : k ≤ 13) : (L.s * L.q ^ k).natAbs < 2 ^ 80 := by
  have h1 : L.s.natAbs < 2 ^ 14 := by have := ok.s0; have := ok.s1; omega
  have h2 : L.q.natAbs < 2 ^ 5 := by have := ok.q0; have := ok.q1; omega
  exact nle (nmul h1 (npow h2 k)) (by omega)
def sp_nums : Sp := fun vs H Q _ => ∃ v L e g d, vs = [v, .int ((d : Nat) : Int)] ∧ LotAt H v L ∧ LotOk e g L ∧ d ≤ 12 ∧ e ≤ 62 ∧ g ≤ 200 ∧ ∀ H' u, Same H H' → PairsAt H' u (d + 1) (rowF L) → Q u H'
theorem ok__law_numbers (T : Txt K mg A D) : FnOk P w K mg base CX0 2 A.f__law_numbers D.f__law_numbers ["_law_lot_here", "_law_d"] (sp_nums) := by
  skip
  refine T.F__law_numbers.ok sc__law_numbers (fun vs H Q E h => ?_) (fun cdv A' outer s H vs Q E hr h => ?_)
  · obtain ⟨v, L, e, g, d, rfl, _⟩ := h
    rfl
  · obtain ⟨v, L, e, g, d, rfl, ⟨a, pa, wa, rfl, ha, hpa, hwa, hl⟩, ok, hd, he, hg, q⟩ := h
    refine ⟨_, (pss_cons (ps_set (i := 2) sc__law_numbers.nd rfl (.inl rfl) (pe_lst pa_nil))
  (pss_cons (ps_set (i := 3) sc__law_numbers.nd rfl (.inr rfl) (pe_callTy call_list_of rfl T.z_list (by decide +kernel) (pa_cons (pe_ix ix_list (pv 0) pe_int (fun _ _ => rfl)) pa_nil)))
  (pss_cons (ps_set (i := 4) sc__law_numbers.nd rfl (.inl rfl) (pe_ix ix_list (pv 0) pe_int (fun _ _ => rfl)))
  (pss_cons (ps_for PassesOwn.never rfl (pi_range1 rfl T.z_range (pa_cons (pe_op op_add (pv 1) pe_int) pa_nil)) (pg_name (i := 5) sc__law_numbers.nd rfl (.inl rfl)) (pss_cons (ps_expr (pe_bm PySem.F.plainAttrs_list PySem.F.slot_list_append PySem.F.type_list_append mt_append (pv 2) (pa_cons (pe_lst (pa_cons (pe_callB (cr_sum rfl) rfl T.z_sum (by decide +kernel) (pa_cons (pe_lc (own := [("_law_power", 6)]) (g := gName 6) (tt := tYes) rfl sc__law_numbers.nd (pi_list (pv 3)) (blkOk_by (N := N__law_numbers) (sc := defScope s__law_numbers) (by decide +kernel)) (fun _ _ _ _ _ => (pg_name (i := 6) sc__law_numbers.nd rfl (.inl rfl))) (fun _ _ _ _ _ => pts_nil) (fun _ _ _ _ _ => (pe_callTy call_int1 rfl T.z_int (by decide +kernel) (pa_cons (pv 6) pa_nil)))) pa_nil)) (pa_cons (pv 4) pa_nil))) pa_nil)))
  (pss_cons (ps_set (i := 3) sc__law_numbers.nd rfl (.inr rfl) (pe_lc (own := [("_law_j", 7)]) (g := gName 7) (tt := tYes) rfl sc__law_numbers.nd (pi_range1 rfl T.z_range (pa_cons (pe_callB call_len_seq rfl T.z_len (by decide +kernel) (pa_cons (pv 3) pa_nil)) pa_nil)) (blkOk_by (N := N__law_numbers) (sc := defScope s__law_numbers) (by decide +kernel)) (fun _ _ _ _ _ => (pg_name (i := 7) sc__law_numbers.nd rfl (.inl rfl))) (fun _ _ _ _ _ => pts_nil) (fun _ _ _ _ _ => (pe_op op_mulW (pe_ix (ix_listK (K := K) rfl) (pv 3) (pv 7) (fun _ _ => rfl)) (pe_ix (ix_listK (K := K) rfl) (pe_ix (ix_listK (K := K) rfl) (pv 0) pe_int (fun _ _ => rfl)) (pv 7) (fun _ _ => rfl))))))
  (pss_one (ps_set (i := 4) sc__law_numbers.nd rfl (.inl rfl) (pe_op op_mulW (pv 4) (pe_ix ix_list (pv 0) pe_int (fun _ _ => rfl))))))))
  (pss_one (ps_ret (pv 2))))))), ?_⟩
    refine ⟨by show 0 ≤ sizeLine; decide, fun r nr => ?_⟩
    have s1 := same_upd (o := .lst []) nr
    refine ⟨_, rfl, a, _, 1, _, rfl, rfl, .of (s1 _ _ ha), rfl, wa, _, rfl, .inl (.of (s1 _ _ hwa)), fun pp npp => ?_⟩
    have s2 := same_upd (o := .lst (L.ws.map V.int)) npp
    have s12 := s1.trans s2
    refine ⟨_, rfl, a, _, 3, _, rfl, rfl, .of (s12 _ _ ha), rfl, ?_⟩
    refine ⟨_, rfl, _, _, rfl, rfl, _, rfl, by omega, by omega, ?_⟩
    have hn : ((d : Int) + 1).toNat = d + 1 := by omega
    rw [hn]
    have hr2 : upd (upd H r (.lst [])) pp (.lst (L.ws.map V.int)) r = some (.lst []) := s2 _ _ upd_same
    refine for_range (lo := 0) (fun i σ G => Same H G ∧ ∃ (pp : Addr) (rs : List Addr) (y : Option V), σ = [some (.ref a), some (.int (d : Int)), some (.ref r), some (.ref pp), some (.int (L.s * L.q ^ i)), y, none, none] ∧ G pp = some (.lst ((powL L i).map V.int)) ∧ G r = some (.lst (rs.map V.ref)) ∧ rs.length = i ∧ Prsd G rs (rowF L) ∧ pp ≠ r)
      ⟨s12, pp, [], _, by rw [Int.pow_zero, Int.mul_one]; rfl, by rw [powL_zero hl]; exact upd_same, hr2, rfl, Prsd.nil, fun z => by rw [z, upd_same] at npp; cases npp⟩ ?_ ?_
    · rintro i σ G hi ⟨sm, pp, rs, y, rfl, hpp, hr', lr, hp, ne⟩
      have ll := powL_len hl i
      refine ⟨_, rfl, .inl ⟨rfl, _, .of hr'⟩, _, rfl, pp, rfl, ⟨_, .of hpp⟩, fun d1 nd1 => ?_⟩
      refine lc_list (K := K) (a := pp) (xs := (powL L i).map V.int) (fun j G2 => Same G G2 ∧ G2 d1 = some (.lst (((powL L i).take j).map V.int))) ⟨same_upd nd1, upd_same⟩ (fun j G2 _ p => .of (p.1 _ _ hpp)) ?_ ?_
      · rintro j x G2 hx ⟨sm2, hd1⟩
        have hj : j < L.ps.length := by
          have := (List.getElem?_eq_some_iff.mp hx).1
          rw [List.length_map] at this
          omega
        have hg := powL_get hl (k := i) hj
        rw [List.getElem?_map, hg] at hx
        cases hx
        refine ⟨rfl, _, rfl, .inl ⟨_, rfl, _, hd1, ?_, same_push sm2 nd1, ?_⟩⟩
        · rw [List.length_map, List.length_take]
          have := ok.len
          exact small1000 (by omega)
        · rw [upd_same, take_map_push hg]
      · rintro G2 ⟨sm2, hd1⟩
        rw [List.length_map, List.take_length] at hd1
        refine ⟨d1, powL L i, rfl, .of hd1, _, rfl, by show 2 ≤ sizeLine; decide, fun pr npr => ?_⟩
        have s3 := same_upd (o := two (powL L i).sum (L.s * L.q ^ i)) npr
        have hr3 := s3 _ _ (sm2 _ _ hr')
        refine ⟨r, _, _, rfl, rfl, hr3, by rw [List.length_map]; exact small1000 (by omega), ?_⟩
        have sm3 : Same H (upd (upd G2 pr (two (powL L i).sum (L.s * L.q ^ i))) r (.lst (rs.map V.ref ++ [.ref pr]))) := same_push ((sm.trans sm2).trans s3) nr
        have hp3 : Prsd (upd (upd G2 pr (two (powL L i).sum (L.s * L.q ^ i))) r (.lst (rs.map V.ref ++ [.ref pr]))) (rs ++ [pr]) (rowF L) := ((hp.same sm2).same s3).push (by rw [lr]; exact upd_same) hr3
        have hpp3 : upd (upd G2 pr (two (powL L i).sum (L.s * L.q ^ i))) r (.lst (rs.map V.ref ++ [.ref pr])) pp = some (.lst ((powL L i).map V.int)) := by
          rw [upd_ne ne]
          exact s3 _ _ (sm2 _ _ hpp)
        have hr4 : upd (upd G2 pr (two (powL L i).sum (L.s * L.q ^ i))) r (.lst (rs.map V.ref ++ [.ref pr])) r = some (.lst ((rs ++ [pr]).map V.ref)) := by rw [upd_same, List.map_append]; rfl
        generalize upd (upd G2 pr (two (powL L i).sum (L.s * L.q ^ i))) r (.lst (rs.map V.ref ++ [.ref pr])) = G4 at sm3 hp3 hpp3 hr4
        refine ⟨_, rfl, pp, _, rfl, .inl (.of hpp3), _, rfl, ?_, ?_, fun d2 nd2 => ?_⟩
        · rw [List.length_map]
          have := ok.len
          omega
        · rw [List.length_map]
          have := ok.len
          omega
        have hn2 : (((powL L i).map V.int).length : Int).toNat = L.ps.length := by
          rw [List.length_map]
          omega
        rw [hn2]
        refine lc_range (lo := 0) (fun j G2 => Same G4 G2 ∧ G2 d2 = some (.lst (((powL L (i + 1)).take j).map V.int))) ⟨same_upd nd2, upd_same⟩ ?_ ?_
        · rintro j G5 hj ⟨sm5, hd2⟩
          have hg := powL_get hl (k := i) hj
          have hg1 := powL_get hl (k := i + 1) hj
          have hgv : ((powL L i).map V.int)[j]? = some (.int (L.ws.getD j 0 * L.ps.getD j 0 ^ i)) := by
            rw [List.getElem?_map, hg]
            rfl
          have b1 := powL_lt ok hl (k := i) hj
          have b2 := ok.ps _ (getD_mem hj)
          have ei : e * i ≤ 62 * 13 := Nat.mul_le_mul he (by omega)
          refine ⟨rfl, _, rfl, _, rfl, pp, _, _, _, rfl, rfl, .of (sm5 _ _ hpp3), at_get hgv, _, rfl, a, _, 0, _, rfl, rfl, .of (sm5 _ _ (sm3 _ _ ha)), rfl, _, rfl, pa, _, _, _, rfl, rfl, .of (sm5 _ _ (sm3 _ _ hpa)), at_get (int_at hj), _, _, rfl, rfl, (sm_of b1 (by omega)).mul (sm_of b2 (by omega)), _, hd2, ?_, same_push sm5 nd2, ?_⟩
          · rw [List.length_map, List.length_take]
            have := ok.len
            exact small1000 (by omega)
          · have e1 : L.ws.getD j 0 * L.ps.getD j 0 ^ i * L.ps.getD j 0 = L.ws.getD j 0 * L.ps.getD j 0 ^ (i + 1) := by
              rw [Int.pow_succ, Int.mul_assoc]
            rw [upd_same, ← take_map_push hg1, ← e1]
        · rintro G5 ⟨sm5, hd2⟩
          have l2 := powL_len hl (i + 1)
          rw [List.take_of_length_le (by omega)] at hd2
          have bb := bot_lt ok (k := i) (by omega)
          refine ⟨_, rfl, _, rfl, a, _, 2, _, rfl, rfl, .of (sm5 _ _ (sm3 _ _ ha)), rfl, _, _, rfl, rfl, (sm_of bb (by decide)).mul (sm_of (n := 5) (by have := ok.q0; have := ok.q1; omega) (by decide)), ?_⟩
          refine ⟨sm3.trans sm5, d2, rs ++ [pr], _, by rw [Int.pow_succ, ← Int.mul_assoc]; rfl, hd2, sm5 _ _ hr4, by rw [List.length_append, lr]; rfl, hp3.same sm5, fun z => ?_⟩
          rw [z, hr4] at nd2
          cases nd2
    · rintro σ G ⟨sm, pp, rs, y, rfl, hpp, hr', lr, hp, ne⟩
      exact ⟨_, rfl, q G _ sm ⟨r, rs, rfl, hr', lr, hp⟩⟩
/-! ### drawn rows -/
theorem Prsd.stp {G G' : Hp} {f : Addr} {rs : List Addr} {F : Nat → Int × Int} (h : Prsd G rs F) (hF : FeedAt G f) (s : Stp f G G') : Prsd G' rs F := fun k r e => s.keep _ _ (hF.ne (h k r e) fun _ _ _ _ _ _ w => by cases w) (h k r e)
/-- the pairs of a list, (0, 1) behind it -/
def LF (L : List (Int × Int)) : Nat → Int × Int := fun k => L.getD k (0, 1)
def Drw (n m : Nat) (L : List (Int × Int)) : Prop := ∀ x ∈ L, 0 < x.2 ∧ x.1.natAbs < 2 ^ n ∧ x.2.natAbs < 2 ^ m
theorem LF_in {L : List (Int × Int)} {k : Nat} (h : k < L.length) : LF L k = L[k] := by
  show L.getD k (0, 1) = _
  rw [List.getD_eq_getElem?_getD, List.getElem?_eq_getElem h]
  rfl
theorem LF_out {L : List (Int × Int)} {k : Nat} (h : L.length ≤ k) : LF L k = (0, 1) := by
  show L.getD k (0, 1) = _
  rw [List.getD_eq_getElem?_getD, List.getElem?_eq_none h]
  rfl
theorem LF_ok {n m : Nat} {L : List (Int × Int)} (h : Drw n m L) (hm : 1 ≤ m) (k : Nat) : 0 < (LF L k).2 ∧ (LF L k).1.natAbs < 2 ^ n ∧ (LF L k).2.natAbs < 2 ^ m := by
  rcases Nat.lt_or_ge k L.length with e | e
  · rw [LF_in e]
    exact h _ (List.getElem_mem e)
  · rw [LF_out e]
    exact ⟨by decide, Nat.two_pow_pos _, Nat.one_lt_two_pow (by omega)⟩
theorem LF_app {L : List (Int × Int)} {x : Int × Int} {k : Nat} (h : k < L.length) : LF (L ++ [x]) k = LF L k := by
  rw [LF_in h, LF_in (show k < (L ++ [x]).length by rw [List.length_append]; omega), List.getElem_append_left h]
theorem LF_last {L : List (Int × Int)} {x : Int × Int} : LF (L ++ [x]) L.length = x := by
  rw [LF_in (show L.length < (L ++ [x]).length by rw [List.length_append]; show L.length < L.length + 1; omega), List.getElem_append_right (Nat.le_refl _)]
  simp
theorem Prsd.app {H : Hp} {rs : List Addr} {L : List (Int × Int)} {x : Int × Int} (h : Prsd H rs (LF L)) (hl : rs.length ≤ L.length) : Prsd H rs (LF (L ++ [x])) := fun k r e => by
  have := (List.getElem?_eq_some_iff.mp e).1
  rw [LF_app (by omega)]
  exact h k r e
theorem Drw.app {n m : Nat} {L : List (Int × Int)} {x : Int × Int} (h : Drw n m L) (hx : 0 < x.2 ∧ x.1.natAbs < 2 ^ n ∧ x.2.natAbs < 2 ^ m) : Drw n m (L ++ [x]) := fun y hy => by
  rcases List.mem_append.mp hy with e | e
  · exact h y e
  · cases List.mem_singleton.mp e
    exact hx
def sp_lrow : Sp := fun vs H Q _ => ∃ f : Addr, vs = [.ref f, .int 13] ∧ FeedAt H f ∧ ∀ H' v L, Stp f H H' → PairsAt H' v L.length (LF L) → 0 < L.length → L.length ≤ 13 → Drw 100 40 L → Q v H'
theorem ok__law_row (T : Txt K mg A D) : FnOk P w K mg base CX0 3 A.f__law_row D.f__law_row ["_law_feed_here", "_law_most"] (sp_lrow) := by
  have G__law_number : FnOk P w K mg base CX0 2 A.f__law_number D.f__law_number ["_law_feed_here", "_law_size"] (sp_number) := ok__law_number T
  have G__law_take : FnOk P w K mg base CX0 1 A.f__law_take D.f__law_take ["_law_feed_here", "_law_size"] (sp_take) := ok__law_take T
  refine T.F__law_row.ok sc__law_row (fun vs H Q E h => ?_) (fun cdv A' outer s H vs Q E hr h => ?_)
  · obtain ⟨f, rfl, _⟩ := h
    rfl
  · obtain ⟨f, rfl, F0, q⟩ := h
    refine ⟨_, (pss_cons (ps_set (i := 2) sc__law_row.nd rfl (.inl rfl) (pe_ix ix_list (pe_lst (pa_cons pe_int (pa_cons pe_int (pa_cons (pe_op op_pow pe_int pe_int) pa_nil)))) (pe_call G__law_take (hr.mono (by decide)) rfl T.g__law_take T.F__law_take.kp T.b__law_take .nil pass0 (pa_cons (pv 0) (pa_cons pe_int pa_nil))) (fun _ _ => rfl)))
  (pss_cons (ps_set (i := 3) sc__law_row.nd rfl (.inl rfl) (pe_ix ix_list (pe_lst (pa_cons pe_int (pa_cons pe_int (pa_cons (pe_op op_pow pe_int pe_int) pa_nil)))) (pe_call G__law_take (hr.mono (by decide)) rfl T.g__law_take T.F__law_take.kp T.b__law_take .nil pass0 (pa_cons (pv 0) (pa_cons pe_int pa_nil))) (fun _ _ => rfl)))
  (pss_cons (ps_set (i := 4) sc__law_row.nd rfl (.inl rfl) (pe_lst pa_nil))
  (pss_cons (ps_for PassesOwn.never rfl (pi_range1 rfl T.z_range (pa_cons (pe_op op_add pe_int (pe_call G__law_take (hr.mono (by decide)) rfl T.g__law_take T.F__law_take.kp T.b__law_take .nil pass0 (pa_cons (pv 0) (pa_cons (pv 1) pa_nil)))) pa_nil)) (pg_name (i := 5) sc__law_row.nd rfl (.inl rfl)) (pss_one (ps_expr (pe_bm PySem.F.plainAttrs_list PySem.F.slot_list_append PySem.F.type_list_append mt_append (pv 4) (pa_cons (pe_lst (pa_cons (pe_call G__law_number (hr.mono (by decide)) rfl T.g__law_number T.F__law_number.kp T.b__law_number .nil pass0 (pa_cons (pv 0) (pa_cons (pv 2) pa_nil))) (pa_cons (pe_op op_add pe_int (pe_call G__law_take (hr.mono (by decide)) rfl T.g__law_take T.F__law_take.kp T.b__law_take .nil pass0 (pa_cons (pv 0) (pa_cons (pv 3) pa_nil)))) pa_nil))) pa_nil)))))
  (pss_one (ps_ret (pv 4))))))), ?_⟩
    refine ⟨_, _, rfl, rfl, ⟨by decide, by decide, by decide⟩, by show 3 ≤ sizeLine; decide, fun p np => ?_⟩
    have s1 := same_upd (o := .lst [V.int 3, .int 100, .int (10 ^ (30 : Int).toNat)]) np
    refine ⟨_, rfl, f, 3, rfl, F0.same s1, by decide, .ab (by decide) (by decide), fun H1 k k0 k1 st1 => ?_⟩
    have pf : p ≠ f := (F0.lt np).symm
    have hp1 := st1.keep _ _ pf upd_same
    have st1 : Stp f H H1 := ((Stp.refl F0).of s1).trans st1
    obtain ⟨z, hz, z0, z1⟩ : ∃ z : Int, atI [V.int 3, .int 100, .int (10 ^ (30 : Int).toNat)] k = some (.int z) ∧ 0 < z ∧ z < 2 ^ 100 := by
      rcases (by omega : k = 0 ∨ k = 1 ∨ k = 2) with e | e | e <;> subst e
      · exact ⟨_, rfl, by decide, by decide⟩
      · exact ⟨_, rfl, by decide, by decide⟩
      · exact ⟨_, rfl, by decide, by decide⟩
    refine ⟨p, _, k, _, rfl, rfl, .of hp1, hz, ?_⟩
    clear s1 np pf hp1 hz k0 k1
    refine ⟨_, _, rfl, rfl, ⟨by decide, by decide, by decide⟩, by show 3 ≤ sizeLine; decide, fun p np => ?_⟩
    have s1 := same_upd (o := .lst [V.int 1, .int 9, .int (10 ^ (12 : Int).toNat)]) np
    refine ⟨_, rfl, f, 3, rfl, st1.feed.same s1, by decide, .ab (by decide) (by decide), fun H2 k k0 k1 st2 => ?_⟩
    have pf : p ≠ f := (st1.feed.lt np).symm
    have hp1 := st2.keep _ _ pf upd_same
    have st2 : Stp f H H2 := (st1.of s1).trans st2
    obtain ⟨b, hb, b0, b1⟩ : ∃ z : Int, atI [V.int 1, .int 9, .int (10 ^ (12 : Int).toNat)] k = some (.int z) ∧ 0 < z ∧ z < 2 ^ 40 := by
      rcases (by omega : k = 0 ∨ k = 1 ∨ k = 2) with e | e | e <;> subst e
      · exact ⟨_, rfl, by decide, by decide⟩
      · exact ⟨_, rfl, by decide, by decide⟩
      · exact ⟨_, rfl, by decide, by decide⟩
    refine ⟨p, _, k, _, rfl, rfl, .of hp1, hb, ?_⟩
    clear s1 np pf hp1 hb k0 k1 st1
    have sz : Sm z := sm_of (show z.natAbs < 2 ^ 100 by omega) (by decide)
    have sb : Sm b := sm_of (show b.natAbs < 2 ^ 40 by omega) (by decide)
    refine ⟨by show 0 ≤ sizeLine; decide, fun d nd => ?_⟩
    have df : d ≠ f := (st2.feed.lt nd).symm
    have d0 := stp_none st2 df nd
    have st3 := st2.push (o := .lst []) F0 d0 df
    have hd3 : upd H2 d (.lst []) d = some (.lst []) := upd_same
    refine ⟨_, rfl, _, rfl, f, 13, rfl, st3.feed, by decide, .ab (by decide) (by decide), fun H4 c c0 c1 st4 => ⟨_, _, rfl, rfl, _, rfl, by omega, by omega, ?_⟩⟩
    have hd4 := st4.keep _ _ df hd3
    have st4 := st3.trans st4
    refine for_range (lo := 0) (fun i σ G => Stp f H G ∧ (∃ y : Option V, σ = [some (.ref f), some (.int 13), some (.int z), some (.int b), some (.ref d), y]) ∧ ∃ (rs : List Addr) (L : List (Int × Int)), G d = some (.lst (rs.map V.ref)) ∧ rs.length = i ∧ L.length = i ∧ Prsd G rs (LF L) ∧ Drw 100 40 L) ⟨st4, ⟨_, rfl⟩, [], [], hd4, rfl, rfl, Prsd.nil, fun x h => by cases h⟩ ?_ ?_
    · rintro i σ G hi ⟨st, ⟨y, rfl⟩, rs, L, hd, l1, l2, hp, hw⟩
      refine ⟨_, rfl, .inl ⟨rfl, _, .of hd⟩, _, rfl, _, rfl, f, z, rfl, st.feed, z0, sz, fun G1 x x0 x1 g1 => ⟨_, rfl, _, rfl, f, b, rfl, g1.feed, b0, sb, fun G2 u u0 u1 g2 => ⟨_, _, rfl, rfl, by show 2 ≤ sizeLine; decide, fun r nr => ?_⟩⟩⟩
      have g12 := g1.trans g2
      have k3 := same_upd (o := two x (1 + u)) nr
      have hd2 := k3 _ _ (g12.keep _ _ df hd)
      have hp2 := (hp.stp st.feed g12).same k3
      have hr2 : upd G2 r (two x (1 + u)) r = some (two x (1 + u)) := upd_same
      have st2 := (st.trans g12).of k3
      refine ⟨d, _, _, rfl, rfl, hd2, by rw [List.length_map]; exact small1000 (by omega), ?_⟩
      refine ⟨st2.push F0 d0 df, ⟨_, rfl⟩, rs ++ [r], L ++ [(x, 1 + u)], by rw [upd_same, List.map_append]; rfl, by rw [List.length_append, l1]; rfl, by rw [List.length_append, l2]; rfl, (hp2.app (by omega)).push ?_ hd2, hw.app ⟨by show 0 < 1 + u; omega, by show x.natAbs < 2 ^ 100; omega, by show (1 + u).natAbs < 2 ^ 40; omega⟩⟩
      rw [show rs.length = L.length by omega, LF_last]
      exact hr2
    · rintro σ G ⟨st, ⟨y, rfl⟩, rs, L, hd, l1, l2, hp, hw⟩
      exact ⟨_, rfl, q G _ L st ⟨d, rs, rfl, hd, by omega, hp⟩ (by omega) (by omega) hw⟩
def sp_lcoefs : Sp := fun vs H Q _ => ∃ f : Addr, vs = [.ref f, .int 13] ∧ FeedAt H f ∧ ∀ H' v L, Stp f H H' → PairsAt H' v L.length (LF L) → L.length ≤ 14 → Drw 70 20 L → Q v H'
theorem ok__law_coefficients (T : Txt K mg A D) : FnOk P w K mg base CX0 3 A.f__law_coefficients D.f__law_coefficients ["_law_feed_here", "_law_most"] (sp_lcoefs) := by
  have G__law_number : FnOk P w K mg base CX0 2 A.f__law_number D.f__law_number ["_law_feed_here", "_law_size"] (sp_number) := ok__law_number T
  have G__law_take : FnOk P w K mg base CX0 1 A.f__law_take D.f__law_take ["_law_feed_here", "_law_size"] (sp_take) := ok__law_take T
  refine T.F__law_coefficients.ok sc__law_coefficients (fun vs H Q E h => ?_) (fun cdv A' outer s H vs Q E hr h => ?_)
  · obtain ⟨f, rfl, _⟩ := h
    rfl
  · obtain ⟨f, rfl, F0, q⟩ := h
    refine ⟨_, (pss_cons (ps_set (i := 2) sc__law_coefficients.nd rfl (.inl rfl) (pe_lst pa_nil))
  (pss_cons (ps_set (i := 3) sc__law_coefficients.nd rfl (.inl rfl) (pe_ix ix_list (pe_lst (pa_cons pe_int (pa_cons pe_int (pa_cons (pe_op op_pow pe_int pe_int) pa_nil)))) (pe_call G__law_take (hr.mono (by decide)) rfl T.g__law_take T.F__law_take.kp T.b__law_take .nil pass0 (pa_cons (pv 0) (pa_cons pe_int pa_nil))) (fun _ _ => rfl)))
  (pss_cons (ps_set (i := 4) sc__law_coefficients.nd rfl (.inl rfl) (pe_ix ix_list (pe_lst (pa_cons pe_int (pa_cons pe_int (pa_cons (pe_op op_pow pe_int pe_int) pa_nil)))) (pe_call G__law_take (hr.mono (by decide)) rfl T.g__law_take T.F__law_take.kp T.b__law_take .nil pass0 (pa_cons (pv 0) (pa_cons pe_int pa_nil))) (fun _ _ => rfl)))
  (pss_cons (ps_for PassesOwn.never rfl (pi_range1 rfl T.z_range (pa_cons (pe_call G__law_take (hr.mono (by decide)) rfl T.g__law_take T.F__law_take.kp T.b__law_take .nil pass0 (pa_cons (pv 0) (pa_cons (pe_op op_add (pv 1) pe_int) pa_nil))) pa_nil)) (pg_name (i := 5) sc__law_coefficients.nd rfl (.inl rfl)) (pss_one (ps_expr (pe_bm PySem.F.plainAttrs_list PySem.F.slot_list_append PySem.F.type_list_append mt_append (pv 2) (pa_cons (pe_lst (pa_cons (pe_op op_mulW (pe_call G__law_number (hr.mono (by decide)) rfl T.g__law_number T.F__law_number.kp T.b__law_number .nil pass0 (pa_cons (pv 0) (pa_cons (pv 3) pa_nil))) (pe_callB (call_min2 rfl) rfl T.z_min (by decide +kernel) (pa_cons pe_int (pa_cons (pe_call G__law_take (hr.mono (by decide)) rfl T.g__law_take T.F__law_take.kp T.b__law_take .nil pass0 (pa_cons (pv 0) (pa_cons pe_int pa_nil))) pa_nil)))) (pa_cons (pe_op op_add pe_int (pe_call G__law_take (hr.mono (by decide)) rfl T.g__law_take T.F__law_take.kp T.b__law_take .nil pass0 (pa_cons (pv 0) (pa_cons (pv 4) pa_nil)))) pa_nil))) pa_nil)))))
  (pss_one (ps_ret (pv 2))))))), ?_⟩
    refine ⟨by show 0 ≤ sizeLine; decide, fun d nd => ?_⟩
    have df : d ≠ f := (F0.lt nd).symm
    have st0 := (Stp.refl F0).push (o := .lst []) F0 nd df
    have hd0 : upd H d (.lst []) d = some (.lst []) := upd_same
    show tSeq _ _ _ _ (upd H d (.lst []))
    generalize upd H d (.lst []) = H0 at st0 hd0
    refine ⟨_, _, rfl, rfl, ⟨by decide, by decide, by decide⟩, by show 3 ≤ sizeLine; decide, fun p np => ?_⟩
    have s1 := same_upd (o := .lst [V.int 4, .int 30, .int (10 ^ (20 : Int).toNat)]) np
    refine ⟨_, rfl, f, 3, rfl, st0.feed.same s1, by decide, .ab (by decide) (by decide), fun H1 k k0 k1 st1 => ?_⟩
    have pf : p ≠ f := (st0.feed.lt np).symm
    have hp1 := st1.keep _ _ pf upd_same
    have hd1 := st1.keep _ _ df (s1 _ _ hd0)
    have st1 : Stp f H H1 := (st0.of s1).trans st1
    obtain ⟨z, hz, z0, z1⟩ : ∃ z : Int, atI [V.int 4, .int 30, .int (10 ^ (20 : Int).toNat)] k = some (.int z) ∧ 0 < z ∧ z < 2 ^ 69 := by
      rcases (by omega : k = 0 ∨ k = 1 ∨ k = 2) with e | e | e <;> subst e
      · exact ⟨_, rfl, by decide, by decide⟩
      · exact ⟨_, rfl, by decide, by decide⟩
      · exact ⟨_, rfl, by decide, by decide⟩
    refine ⟨p, _, k, _, rfl, rfl, .of hp1, hz, ?_⟩
    clear s1 np pf hp1 hz k0 k1
    refine ⟨_, _, rfl, rfl, ⟨by decide, by decide, by decide⟩, by show 3 ≤ sizeLine; decide, fun p np => ?_⟩
    have s1 := same_upd (o := .lst [V.int 1, .int 12, .int (10 ^ (6 : Int).toNat)]) np
    refine ⟨_, rfl, f, 3, rfl, st1.feed.same s1, by decide, .ab (by decide) (by decide), fun H2 k k0 k1 st2 => ?_⟩
    have pf : p ≠ f := (st1.feed.lt np).symm
    have hp1 := st2.keep _ _ pf upd_same
    have hd2 := st2.keep _ _ df (s1 _ _ hd1)
    have st2 : Stp f H H2 := (st1.of s1).trans st2
    obtain ⟨b, hb, b0, b1⟩ : ∃ z : Int, atI [V.int 1, .int 12, .int (10 ^ (6 : Int).toNat)] k = some (.int z) ∧ 0 < z ∧ z ≤ 1000000 := by
      rcases (by omega : k = 0 ∨ k = 1 ∨ k = 2) with e | e | e <;> subst e
      · exact ⟨_, rfl, by decide, by decide⟩
      · exact ⟨_, rfl, by decide, by decide⟩
      · exact ⟨_, rfl, by decide, by decide⟩
    refine ⟨p, _, k, _, rfl, rfl, .of hp1, hb, ?_⟩
    clear s1 np pf hp1 hb k0 k1 st1
    have sz : Sm z := sm_of (show z.natAbs < 2 ^ 69 by omega) (by decide)
    have sb : Sm b := sm_of (show b.natAbs < 2 ^ 40 by omega) (by decide)
    refine ⟨_, rfl, _, rfl, _, _, rfl, rfl, f, _, rfl, st2.feed, by decide, .ab (by decide) (by decide), fun H4 c c0 c1 st4 => ⟨_, rfl, by omega, by omega, ?_⟩⟩
    have hd4 := st4.keep _ _ df hd2
    have st4 := st2.trans st4
    have c15 : c.toNat ≤ 14 := by
      have : c < 15 := c1
      omega
    refine for_range (lo := 0) (fun i σ G => Stp f H G ∧ (∃ y : Option V, σ = [some (.ref f), some (.int 13), some (.ref d), some (.int z), some (.int b), y]) ∧ ∃ (rs : List Addr) (L : List (Int × Int)), G d = some (.lst (rs.map V.ref)) ∧ rs.length = i ∧ L.length = i ∧ Prsd G rs (LF L) ∧ Drw 70 20 L) ⟨st4, ⟨_, rfl⟩, [], [], hd4, rfl, rfl, Prsd.nil, fun x h => by cases h⟩ ?_ ?_
    · rintro i σ G hi ⟨st, ⟨y, rfl⟩, rs, L, hd, l1, l2, hp, hw⟩
      refine ⟨_, rfl, .inl ⟨rfl, _, .of hd⟩, _, rfl, _, rfl, f, z, rfl, st.feed, z0, sz, fun G1 x x0 x1 g1 => ⟨_, rfl, f, 4, rfl, g1.feed, by decide, .ab (by decide) (by decide), fun G3 e e0 e1 g3 => ⟨_, _, rfl, ?_⟩⟩⟩
      obtain ⟨me, hme, m0, m1⟩ : ∃ m : Int, (if e < 1 then e else 1) = m ∧ 0 ≤ m ∧ m ≤ 1 := ⟨_, rfl, by split <;> omega, by split <;> omega⟩
      have xb : x.natAbs < 2 ^ 69 := by omega
      have mb : me.natAbs < 2 ^ 1 := by omega
      rw [hme]
      refine ⟨_, _, rfl, rfl, (sm_of xb (by decide)).mul (sm_of mb (by decide)), ?_⟩
      refine ⟨_, rfl, _, rfl, f, b, rfl, (g1.trans g3).feed, b0, sb, fun G2 u u0 u1 g2 => ⟨_, _, rfl, rfl, by show 2 ≤ sizeLine; decide, fun r nr => ?_⟩⟩
      have g12 := (g1.trans g3).trans g2
      have k3 := same_upd (o := two (x * me) (1 + u)) nr
      have hd2 := k3 _ _ (g12.keep _ _ df hd)
      have hp2 := (hp.stp st.feed g12).same k3
      have hr2 : upd G2 r (two (x * me) (1 + u)) r = some (two (x * me) (1 + u)) := upd_same
      have st2 := (st.trans g12).of k3
      refine ⟨d, _, _, rfl, rfl, hd2, by rw [List.length_map]; exact small1000 (by omega), ?_⟩
      refine ⟨st2.push F0 nd df, ⟨_, rfl⟩, rs ++ [r], L ++ [(x * me, 1 + u)], by rw [upd_same, List.map_append]; rfl, by rw [List.length_append, l1]; rfl, by rw [List.length_append, l2]; rfl, (hp2.app (by omega)).push ?_ hd2, hw.app ⟨by show 0 < 1 + u; omega, nmul xb mb, by show (1 + u).natAbs < 2 ^ 20; omega⟩⟩
      rw [show rs.length = L.length by omega, LF_last]
      exact hr2
    · rintro σ G ⟨st, ⟨y, rfl⟩, rs, L, hd, l1, l2, hp, hw⟩
      exact ⟨_, rfl, q G _ L st ⟨d, rs, rfl, hd, by omega, hp⟩ (by omega) hw⟩
/-! ### what is due -/
def sp_ladd : Sp := fun vs H Q _ => ∃ (a b : Addr) (p q r s : Int) (n m : Nat), vs = [.ref a, .ref b] ∧ H a = some (two p q) ∧ H b = some (two r s) ∧ 0 < q ∧ 0 < s ∧ p.natAbs < 2 ^ n ∧ q.natAbs < 2 ^ m ∧ r.natAbs < 2 ^ 170 ∧ s.natAbs < 2 ^ 60 ∧ 170 + m ≤ n + 60 ∧ n ≤ 1500 ∧ m ≤ 1500 ∧
  ∀ H' d x y, Same H H' → H' d = some (two x y) → 0 < y → x * (q * s) = (p * s + r * q) * y → x.natAbs < 2 ^ (n + 61) → y.natAbs < 2 ^ (m + 60) → Q (.ref d) H'
theorem ok__law_add (T : Txt K mg A D) : FnOk P w K mg base CX0 1 A.f__law_add D.f__law_add ["_law_a", "_law_b"] (sp_ladd) := by
  skip
  refine T.F__law_add.ok sc__law_add (fun vs H Q E h => ?_) (fun cdv A' outer s H vs Q E hr h => ?_)
  · obtain ⟨a, b, p, q, r, s, n, m, rfl, _⟩ := h
    rfl
  · obtain ⟨a, b, p, q, r, s', n, m, rfl, ha, hb, q0, s0, pb, qb, rb, sb, nm, hn, hm, k⟩ := h
    refine ⟨_, (pss_cons (ps_if (pt_cmpR op_eq (pe_ix ix_list (pv 0) pe_int (fun _ _ => rfl)) pe_int (nomark _)) (pss_one (ps_ret (pv 1))) pss_nil)
  (pss_cons (ps_if (pt_cmpR op_eq (pe_ix ix_list (pv 1) pe_int (fun _ _ => rfl)) pe_int (nomark _)) (pss_one (ps_ret (pv 0))) pss_nil)
  (pss_cons (ps_if (pt_cmpR op_eq (pe_ix ix_list (pv 0) pe_int (fun _ _ => rfl)) (pe_ix ix_list (pv 1) pe_int (fun _ _ => rfl)) (nomark _)) (pss_one (ps_ret (pe_lst (pa_cons (pe_op op_add (pe_ix ix_list (pv 0) pe_int (fun _ _ => rfl)) (pe_ix ix_list (pv 1) pe_int (fun _ _ => rfl))) (pa_cons (pe_ix ix_list (pv 0) pe_int (fun _ _ => rfl)) pa_nil))))) pss_nil)
  (pss_one (ps_ret (pe_lst (pa_cons (pe_op op_add (pe_op op_mulW (pe_ix ix_list (pv 0) pe_int (fun _ _ => rfl)) (pe_ix ix_list (pv 1) pe_int (fun _ _ => rfl))) (pe_op op_mulW (pe_ix ix_list (pv 1) pe_int (fun _ _ => rfl)) (pe_ix ix_list (pv 0) pe_int (fun _ _ => rfl)))) (pa_cons (pe_op op_mulW (pe_ix ix_list (pv 0) pe_int (fun _ _ => rfl)) (pe_ix ix_list (pv 1) pe_int (fun _ _ => rfl))) pa_nil)))))))), ?_⟩
    refine ⟨_, rfl, a, _, 0, _, rfl, rfl, .of ha, rfl, rfl, _, rfl, ite2 (fun c => ?_) (fun c => ?_)⟩
    · have e : p = 0 := V.int.inj (of_decide_eq_true c)
      subst e
      exact ⟨_, rfl, k H b r s' (Same.refl H) hb s0 (by rw [Int.zero_mul, Int.zero_add, Int.mul_assoc]) (nle rb (by omega)) (nle sb (by omega))⟩
    refine ⟨_, rfl, b, _, 0, _, rfl, rfl, .of hb, rfl, rfl, _, rfl, ite2 (fun c => ?_) (fun c => ?_)⟩
    · have e : r = 0 := V.int.inj (of_decide_eq_true c)
      subst e
      exact ⟨_, rfl, k H a p q (Same.refl H) ha q0 (by rw [Int.zero_mul, Int.add_zero, Int.mul_comm q, Int.mul_assoc]) (nle pb (by omega)) (nle qb (by omega))⟩
    refine ⟨_, rfl, a, _, 1, _, rfl, rfl, .of ha, rfl, _, rfl, b, _, 1, _, rfl, rfl, .of hb, rfl, rfl, _, rfl, ite2 (fun c => ?_) (fun c => ?_)⟩
    · have e : q = s' := V.int.inj (of_decide_eq_true c)
      subst e
      refine ⟨_, rfl, a, _, 0, _, rfl, rfl, .of ha, rfl, _, rfl, b, _, 0, _, rfl, rfl, .of hb, rfl, _, _, rfl, rfl, _, rfl, a, _, 1, _, rfl, rfl, .of ha, rfl, by show 2 ≤ sizeLine; decide, fun d nd => ?_⟩
      exact k _ d (p + r) q (same_upd nd) upd_same q0 (by grind) (nadd (nle pb (show n ≤ n + 60 by omega)) (nle rb (by omega))) (nle qb (by omega))
    · have w1 := sm_of pb (show n ≤ 4000 by omega)
      have w2 := sm_of qb (show m ≤ 4000 by omega)
      have w3 := sm_of rb (by decide)
      have w4 := sm_of sb (by decide)
      refine ⟨_, rfl, a, _, 0, _, rfl, rfl, .of ha, rfl, _, rfl, b, _, 1, _, rfl, rfl, .of hb, rfl, _, _, rfl, rfl, w1.mul w4, _, rfl, b, _, 0, _, rfl, rfl, .of hb, rfl, _, rfl, a, _, 1, _, rfl, rfl, .of ha, rfl, _, _, rfl, rfl, w3.mul w2, _, _, rfl, rfl, _, rfl, a, _, 1, _, rfl, rfl, .of ha, rfl, _, rfl, b, _, 1, _, rfl, rfl, .of hb, rfl, _, _, rfl, rfl, w2.mul w4, by show 2 ≤ sizeLine; decide, fun d nd => ?_⟩
      exact k _ d _ _ (same_upd nd) upd_same (Int.mul_pos q0 s0) rfl (nadd (nmul pb sb) (nle (nmul rb qb) (by omega))) (nmul qb sb)
def sp_ltimes : Sp := fun vs H Q _ => ∃ (a b : Addr) (p q r s : Int), vs = [.ref a, .ref b] ∧ H a = some (two p q) ∧ H b = some (two r s) ∧ Sm p ∧ Sm q ∧ Sm r ∧ Sm s ∧ ∀ H' d, Same H H' → H' d = some (two (p * r) (q * s)) → Q (.ref d) H'
theorem ok__law_times (T : Txt K mg A D) : FnOk P w K mg base CX0 1 A.f__law_times D.f__law_times ["_law_a", "_law_b"] (sp_ltimes) := by
  skip
  refine T.F__law_times.ok sc__law_times (fun vs H Q E h => ?_) (fun cdv A' outer s H vs Q E hr h => ?_)
  · obtain ⟨a, b, p, q, r, s, rfl, _⟩ := h
    rfl
  · obtain ⟨a, b, p, q, r, s', rfl, ha, hb, w1, w2, w3, w4, k⟩ := h
    refine ⟨_, (pss_one (ps_ret (pe_lst (pa_cons (pe_op op_mulW (pe_ix ix_list (pv 0) pe_int (fun _ _ => rfl)) (pe_ix ix_list (pv 1) pe_int (fun _ _ => rfl))) (pa_cons (pe_op op_mulW (pe_ix ix_list (pv 0) pe_int (fun _ _ => rfl)) (pe_ix ix_list (pv 1) pe_int (fun _ _ => rfl))) pa_nil))))), ?_⟩
    refine ⟨_, rfl, a, _, 0, _, rfl, rfl, .of ha, rfl, _, rfl, b, _, 0, _, rfl, rfl, .of hb, rfl, _, _, rfl, rfl, w1.mul w3, _, rfl, a, _, 1, _, rfl, rfl, .of ha, rfl, _, rfl, b, _, 1, _, rfl, rfl, .of hb, rfl, _, _, rfl, rfl, w2.mul w4, by show 2 ≤ sizeLine; decide, fun d nd => ?_⟩
    exact k _ d (same_upd nd) upd_same
def sp_ldeg : Sp := fun vs H Q _ => ∃ (u : V) (m : Nat) (F : Nat → Int × Int), vs = [u] ∧ PairsAt H u m F ∧ m ≤ 14 ∧ ∀ s : Nat, s ≤ m → (∀ k, s ≤ k → k < m → (F k).1 = 0) → (0 < s → (F (s - 1)).1 ≠ 0) → Q (.int ((s : Int) - 1)) H
theorem ok__law_degree (T : Txt K mg A D) : FnOk P w K mg base CX0 1 A.f__law_degree D.f__law_degree ["_law_coefficients_here"] (sp_ldeg) := by
  skip
  refine T.F__law_degree.ok sc__law_degree (fun vs H Q E h => ?_) (fun cdv A' outer s H vs Q E hr h => ?_)
  · obtain ⟨u, m, F, rfl, _⟩ := h
    rfl
  · obtain ⟨u, m, F, rfl, ⟨b, ss, rfl, hb, ls, hq⟩, hm, q⟩ := h
    refine ⟨_, (pss_cons (ps_set (i := 1) sc__law_degree.nd rfl (.inl rfl) (pe_un un_neg pe_int))
  (pss_cons (ps_for PassesOwn.never rfl (pi_range1 rfl T.z_range (pa_cons (pe_callB call_len_seq rfl T.z_len (by decide +kernel) (pa_cons (pv 0) pa_nil)) pa_nil)) (pg_name (i := 2) sc__law_degree.nd rfl (.inl rfl)) (pss_one (ps_if (pt_cmpR op_ne (pe_ix ix_list (pe_ix ix_list (pv 0) (pv 2) (fun _ _ => rfl)) pe_int (fun _ _ => rfl)) pe_int (nomark _)) (pss_one (ps_set (i := 1) sc__law_degree.nd rfl (.inl rfl) (pv 2))) pss_nil)))
  (pss_one (ps_ret (pv 1))))), ?_⟩
    refine ⟨_, rfl, ?_⟩
    refine ⟨_, rfl, b, _, rfl, .inl (.of hb), _, rfl, by rw [List.length_map]; omega, by rw [List.length_map]; omega, ?_⟩
    have e1 : (((ss.map V.ref).length : Nat) : Int).toNat = m := by
      rw [List.length_map]
      omega
    rw [e1]
    refine for_range (lo := 0) (fun i σ E => E = H ∧ ∃ (s : Nat) (y : Option V), σ = [some (.ref b), some (.int ((s : Int) - 1)), y] ∧ s ≤ i ∧ (∀ k, s ≤ k → k < i → (F k).1 = 0) ∧ (0 < s → (F (s - 1)).1 ≠ 0)) ⟨rfl, 0, _, rfl, Nat.le_refl _, fun k _ h => absurd h (Nat.not_lt_zero _), fun h => absurd h (Nat.lt_irrefl _)⟩ ?_ ?_
    · rintro i σ E hi ⟨rfl, s, y, rfl, hs, hz, hl⟩
      obtain ⟨r2, er2, er3⟩ := pr_get (show i < ss.length by omega)
      have h2 := hq i r2 er2
      refine ⟨_, rfl, _, rfl, b, _, _, _, rfl, rfl, .of hb, at_get er3, r2, _, 0, _, rfl, rfl, .of h2, rfl, ?_⟩
      refine ⟨rfl, _, rfl, ite2 (fun c => ?_) (fun c => ?_)⟩
      · have fn : (F i).1 ≠ 0 := fun z => by
          rw [z] at c
          cases c
        refine ⟨_, rfl, rfl, i + 1, some (.int (0 + (i : Int))), ?_, Nat.le_refl _, fun k h1 h2 => absurd h2 (by omega), fun _ => fn⟩
        show [some (V.ref b), some (V.int (0 + (i : Int))), some (V.int (0 + (i : Int)))] = [some (V.ref b), some (V.int (((i + 1 : Nat) : Int) - 1)), some (V.int (0 + (i : Int)))]
        rw [show ((i + 1 : Nat) : Int) - 1 = 0 + (i : Int) by omega]
      · have fz : (F i).1 = 0 := by
          by_cases z : (F i).1 = 0
          · exact z
          · refine absurd ?_ c
            show (!decide (V.int (F i).1 = V.int 0)) = true
            rw [decide_eq_false fun h => z (V.int.inj h)]
            rfl
        refine ⟨rfl, s, _, rfl, by omega, fun k h1 h2 => ?_, hl⟩
        rcases (by omega : k < i ∨ k = i) with e | e
        · exact hz k h1 e
        · rw [e]; exact fz
    · rintro σ E ⟨rfl, s, y, rfl, hs, hz, hl⟩
      exact ⟨_, rfl, q s hs hz hl⟩

end

end Mo

namespace Mo
open PySem PySem.Spec PyProof.Rows L2 MoL MoW
open C8 (pss_cut tCut)
section
variable {P : Program} {w : World} {K : PySem.W.Frag} {mg : Str → Option Value} {base : Heap} {A : Ad} {D : Fd}
/-! ### the row that is due -/
/-- what the law's own sums tell -/
def DueOk (F G : Nat → Int × Int) (s : Nat) (X : List (Int × Int)) : Prop := ∀ k, k < X.length → 0 < (LF X k).2 ∧ (LF X k).1 * (shF F G s k).2 = (shF F G s k).1 * (LF X k).2 ∧ (LF X k).1.natAbs < 2 ^ 1100 ∧ (LF X k).2.natAbs < 2 ^ 1000
def sp_ldue : Sp := fun vs H Q _ => ∃ (v u : V) (n m : Nat) (G F : Nat → Int × Int), vs = [v, u] ∧ PairsAt H v n G ∧ PairsAt H u m F ∧ m ≤ 14 ∧ n ≤ 13 ∧ (∀ k, 0 < (G k).2 ∧ (G k).1.natAbs < 2 ^ 100 ∧ (G k).2.natAbs < 2 ^ 40) ∧ (∀ k, 0 < (F k).2 ∧ (F k).1.natAbs < 2 ^ 70 ∧ (F k).2.natAbs < 2 ^ 20) ∧
  ∀ H' d s X, Same H H' → s ≤ m → (∀ k, s ≤ k → k < m → (F k).1 = 0) → (0 < s → (F (s - 1)).1 ≠ 0) → (s ≤ n → X.length = n + 1 - max s 1) → DueOk F G s X → PairsAt H' d X.length (LF X) → Q d H'
theorem ok__law_due (T : Txt K mg A D) : FnOk P w K mg base CX0 2 A.f__law_due D.f__law_due ["_law_row_here", "_law_coefficients_here"] (sp_ldue) := by
  have G__law_add : FnOk P w K mg base CX0 1 A.f__law_add D.f__law_add ["_law_a", "_law_b"] (sp_ladd) := ok__law_add T
  have G__law_degree : FnOk P w K mg base CX0 1 A.f__law_degree D.f__law_degree ["_law_coefficients_here"] (sp_ldeg) := ok__law_degree T
  have G__law_times : FnOk P w K mg base CX0 1 A.f__law_times D.f__law_times ["_law_a", "_law_b"] (sp_ltimes) := ok__law_times T
  refine T.F__law_due.ok sc__law_due (fun vs H Q E h => ?_) (fun cdv A' outer s H vs Q E hr h => ?_)
  · obtain ⟨v, u, n, m, G, F, rfl, _⟩ := h
    rfl
  · obtain ⟨v, u, n, m, G, F, rfl, ⟨a, rs, rfl, ha, lr, hp⟩, hu, hm, hn, hG, hF, q⟩ := h
    refine ⟨_, (pss_cons (ps_set (i := 2) sc__law_due.nd rfl (.inl rfl) (pe_call G__law_degree (hr.mono (by decide)) rfl T.g__law_degree T.F__law_degree.kp T.b__law_degree .nil pass0 (pa_cons (pv 1) pa_nil)))
  (pss_cons (ps_set (i := 3) sc__law_due.nd rfl (.inl rfl) (pe_lst pa_nil))
  (pss_cons (ps_for PassesOwn.never rfl (pi_range1 rfl T.z_range (pa_cons (pe_callB call_len_seq rfl T.z_len (by decide +kernel) (pa_cons (pv 0) pa_nil)) pa_nil)) (pg_name (i := 4) sc__law_due.nd rfl (.inl rfl)) (pss_cons (ps_set (i := 5) sc__law_due.nd rfl (.inl rfl) (pe_lst (pa_cons pe_int (pa_cons pe_int pa_nil))))
  (pss_cons (ps_for PassesOwn.never rfl (pi_range1 rfl T.z_range (pa_cons (pe_op op_add (pv 2) pe_int) pa_nil)) (pg_name (i := 6) sc__law_due.nd rfl (.inl rfl)) (pss_one (ps_if (pt_cmpR op_lt (pe_op op_add (pv 4) (pv 6)) (pe_callB call_len_seq rfl T.z_len (by decide +kernel) (pa_cons (pv 0) pa_nil)) (nomark _)) (pss_one (ps_set (i := 5) sc__law_due.nd rfl (.inl rfl) (pe_call G__law_add (hr.mono (by decide)) rfl T.g__law_add T.F__law_add.kp T.b__law_add .nil pass0 (pa_cons (pv 5) (pa_cons (pe_call G__law_times (hr.mono (by decide)) rfl T.g__law_times T.F__law_times.kp T.b__law_times .nil pass0 (pa_cons (pe_ix ix_list (pv 0) (pe_op op_add (pv 4) (pv 6)) (fun _ _ => rfl)) (pa_cons (pe_ix ix_list (pv 1) (pv 6) (fun _ _ => rfl)) pa_nil))) pa_nil))))) pss_nil)))
  (pss_one (ps_if (PW.pt (pw_or (pt_cmpR op_lt (pv 2) pe_int (nomark _)) (pw_or1 (pt_cmpR op_lt (pe_op op_add (pv 4) (pv 2)) (pe_callB call_len_seq rfl T.z_len (by decide +kernel) (pa_cons (pv 0) pa_nil)) (nomark _))))) (pss_one (ps_expr (pe_bm PySem.F.plainAttrs_list PySem.F.slot_list_append PySem.F.type_list_append mt_append (pv 3) (pa_cons (pv 5) pa_nil)))) pss_nil)))))
  (pss_one (ps_ret (pv 3)))))), ?_⟩
    refine ⟨_, rfl, u, m, F, rfl, hu, hm, fun s h1 h2 h3 => ?_⟩
    obtain ⟨b, ss, rfl, hb, ls, hq⟩ := hu
    refine ⟨by show 0 ≤ sizeLine; decide, fun d nd => ?_⟩
    have s1 := same_upd (o := .lst []) nd
    have hd1 : upd H d (.lst []) d = some (.lst []) := upd_same
    refine ⟨_, rfl, a, _, rfl, .inl (.of (s1 _ _ ha)), _, rfl, by rw [List.length_map]; omega, by rw [List.length_map]; omega, ?_⟩
    have e1 : (((rs.map V.ref).length : Nat) : Int).toNat = n := by
      rw [List.length_map]
      omega
    rw [e1]
    refine for_range (lo := 0) (fun k σ E => Same H E ∧ (∃ y4 y5 y6 : Option V, σ = [some (.ref a), some (.ref b), some (.int ((s : Int) - 1)), some (.ref d), y4, y5, y6]) ∧ ∃ (ts : List Addr) (X : List (Int × Int)), E d = some (.lst (ts.map V.ref)) ∧ ts.length = X.length ∧ Prsd E ts (LF X) ∧ DueOk F G s X ∧ X.length = min k (n + 1 - max s 1)) ⟨s1, ⟨_, _, _, rfl⟩, [], [], hd1, rfl, Prsd.nil, (fun k h => absurd h (Nat.not_lt_zero _)), by show 0 = _; omega⟩ ?_ ?_
    · rintro k σ E hk ⟨sm, ⟨y4, y5, y6, rfl⟩, ts, X, hd, lt, ht, hX, lX⟩
      refine ⟨by show 2 ≤ sizeLine; decide, fun r0 nr0 => ?_⟩
      have k0 := same_upd (o := two 0 1) nr0
      have hr0 : upd E r0 (two 0 1) r0 = some (two 0 1) := upd_same
      have sm0 := sm.trans k0
      have hd0 := k0 _ _ hd
      have ht0 := ht.same k0
      show tSeq _ _ _ _ (upd E r0 (two 0 1))
      generalize upd E r0 (two 0 1) = E0 at *
      clear k0 nr0 sm hd ht
      refine ⟨_, rfl, _, _, rfl, rfl, _, rfl, by omega, by omega, ?_⟩
      rw [show ((s : Int) - 1 + 1).toNat = s by omega]
      refine for_range (lo := 0) (fun j σ E => Same H E ∧ E d = some (.lst (ts.map V.ref)) ∧ Prsd E ts (LF X) ∧ ∃ (r : Addr) (y6 : Option V) (x y : Int), σ = [some (.ref a), some (.ref b), some (.int ((s : Int) - 1)), some (.ref d), some (.int (0 + (k : Int))), some (.ref r), y6] ∧ E r = some (two x y) ∧ 0 < y ∧ (k + s ≤ n → x * (shF F G j k).2 = (shF F G j k).1 * y) ∧ x.natAbs < 2 ^ (170 + 61 * j) ∧ y.natAbs < 2 ^ (60 * j + 1)) ⟨sm0, hd0, ht0, r0, _, 0, 1, rfl, hr0, by decide, fun _ => rfl, Nat.two_pow_pos _, by show (1 : Int).natAbs < 2 ^ (60 * 0 + 1); decide⟩ ?_ ?_
      · rintro j σ E hj ⟨sm, hd, ht, r, y6, x, y, rfl, hr, y0, hv, xb, yb⟩
        obtain ⟨r2, er2, er3⟩ := pr_get (show j < ss.length by omega)
        have c2 := sm _ _ (hq j r2 er2)
        obtain ⟨f0, f1, f2⟩ := hF j
        obtain ⟨g0, g1, g2⟩ := hG (k + j)
        have eij : (0 + (k : Int)) + (0 + (j : Int)) = 0 + ((k + j : Nat) : Int) := by omega
        refine ⟨_, rfl, _, rfl, _, _, rfl, rfl, _, rfl, a, _, rfl, .inl (.of (sm _ _ ha)), _, _, rfl, rfl, _, rfl, ite2 (fun c => ?_) (fun c => ?_)⟩
        · have kj : k + j < n := by
            have := of_decide_eq_true c
            rw [List.length_map] at this
            omega
          obtain ⟨r1, er1, er4⟩ := pr_get (show k + j < rs.length by omega)
          have c1 := sm _ _ (hp (k + j) r1 er1)
          have hat : atI (rs.map V.ref) ((0 + (k : Int)) + (0 + (j : Int))) = some (.ref r1) := by
            rw [eij]
            exact at_get er4
          refine ⟨_, rfl, _, rfl, _, rfl, _, rfl, _, _, rfl, rfl, a, _, _, _, rfl, rfl, .of (sm _ _ ha), hat, _, rfl, _, rfl, b, _, _, _, rfl, rfl, .of (sm _ _ hb), at_get er3, r1, r2, _, _, _, _, rfl, c1, c2, sm_of g1 (by decide), sm_of g2 (by decide), sm_of f1 (by decide), sm_of f2 (by decide), fun E2 d2 k2 hd2 => ?_⟩
          refine ⟨r, d2, x, y, _, _, 170 + 61 * j, 60 * j + 1, rfl, k2 _ _ hr, hd2, y0, Int.mul_pos g0 f0, xb, yb, nmul g1 f1, nmul g2 f2, by omega, by omega, by omega, fun E3 d3 x3 y3 k3 hd3 y03 e3 xb3 yb3 => ?_⟩
          have k23 := k2.trans k3
          refine ⟨sm.trans k23, k23 _ _ hd, ht.same k23, d3, _, x3, y3, rfl, hd3, y03, fun hk2 => ?_, nle xb3 (by omega), nle yb3 (by omega)⟩
          have hv := hv hk2
          show x3 * ((shF F G j k).2 * ((F j).2 * (G (k + j)).2)) = ((shF F G j k).1 * ((F j).2 * (G (k + j)).2) + (F j).1 * (G (k + j)).1 * (shF F G j k).2) * y3
          refine Int.eq_of_mul_eq_mul_right (show y ≠ 0 by omega) ?_
          generalize shF F G j k = w at *
          generalize F j = fi at *
          generalize G (k + j) = gi at *
          grind
        · have kj : n ≤ k + j := by
            rcases Nat.lt_or_ge (k + j) n with e | e
            · exact absurd (decide_eq_true (by rw [List.length_map]; omega)) c
            · exact e
          exact ⟨sm, hd, ht, r, _, x, y, rfl, hr, y0, fun h => absurd h (by omega), nle xb (by omega), nle yb (by omega)⟩
      · rintro σ E ⟨sm, hd, ht, r, y6, x, y, rfl, hr, y0, hv, xb, yb⟩
        have app : k + s ≤ n → tDrop (tBM K "list" rAppend (tVar 3) (tCons (tVar 5) tNil)) { nx := fun σ E => Same H E ∧ (∃ y4 y5 y6 : Option V, σ = [some (.ref a), some (.ref b), some (.int ((s : Int) - 1)), some (.ref d), y4, y5, y6]) ∧ ∃ (ts : List Addr) (X : List (Int × Int)), E d = some (.lst (ts.map V.ref)) ∧ ts.length = X.length ∧ Prsd E ts (LF X) ∧ DueOk F G s X ∧ X.length = min (k + 1) (n + 1 - max s 1), rt := Q } [some (.ref a), some (.ref b), some (.int ((s : Int) - 1)), some (.ref d), some (.int (0 + (k : Int))), some (.ref r), y6] E := fun hks => by
          refine ⟨_, rfl, .inl ⟨rfl, _, .of hd⟩, _, rfl, d, _, _, rfl, rfl, hd, by rw [List.length_map]; exact small1000 (by omega), ?_⟩
          refine ⟨same_push sm nd, ⟨_, _, _, rfl⟩, ts ++ [r], X ++ [(x, y)], by rw [upd_same, List.map_append]; rfl, by rw [List.length_append, List.length_append, lt]; rfl, (ht.app (by omega)).push (by rw [lt, LF_last]; exact hr) hd, fun j hj => ?_, by rw [List.length_append, lX]; show _ + 1 = _; omega⟩
          rw [List.length_append] at hj
          have hj : j < X.length + 1 := hj
          rcases (by omega : j < X.length ∨ j = X.length) with e | e
          · rw [LF_app e]
            exact hX j e
          · have ek : X.length = k := by omega
            rw [e, LF_last, ek]
            exact ⟨y0, hv hks, nle xb (by omega), nle yb (by omega)⟩
        have fin : ¬ k + s ≤ n → s ≠ 0 → Same H E ∧ (∃ y4 y5 y6' : Option V, [some (V.ref a), some (.ref b), some (.int ((s : Int) - 1)), some (.ref d), some (.int (0 + (k : Int))), some (.ref r), y6] = [some (.ref a), some (.ref b), some (.int ((s : Int) - 1)), some (.ref d), y4, y5, y6']) ∧ ∃ (ts : List Addr) (X : List (Int × Int)), E d = some (.lst (ts.map V.ref)) ∧ ts.length = X.length ∧ Prsd E ts (LF X) ∧ DueOk F G s X ∧ X.length = min (k + 1) (n + 1 - max s 1) := fun h h0 => ⟨sm, ⟨_, _, _, rfl⟩, ts, X, hd, lt, ht, hX, by omega⟩
        refine ⟨_, rfl, _, _, rfl, rfl, _, rfl, ite2 (fun c => ?_) (fun c => ?_)⟩
        · have s0 : s = 0 := by
            have := of_decide_eq_true c
            omega
          exact app (by omega)
        · have s0 : s ≠ 0 := fun z => c (decide_eq_true (by omega))
          refine ⟨_, rfl, _, rfl, _, _, rfl, rfl, _, rfl, a, _, rfl, .inl (.of (sm _ _ ha)), _, _, rfl, rfl, _, rfl, ite2 (fun c => ?_) (fun c => ?_)⟩
          · have := of_decide_eq_true c
            rw [List.length_map] at this
            exact app (by omega)
          · refine fin (fun z => c (decide_eq_true ?_)) s0
            rw [List.length_map]
            omega
    · rintro σ E ⟨sm, ⟨y4, y5, y6, rfl⟩, ts, X, hd, lt, ht, hX, lX⟩
      exact ⟨_, rfl, q E _ s X sm h1 h2 h3 (fun h => by omega) hX ⟨d, ts, rfl, hd, lt, ht⟩⟩
def sp_lref (A : Ad) : Sp := fun vs H Q _ => ∃ (v p : V) (xs : List V) (g : Nat → Int × Int) (n m n2 m2 s : Nat) (f : Nat → Int × Int), vs = [v, p] ∧ SeqAt' H v xs ∧ Nums A.Ratio n m H xs g ∧ (∀ k, 0 < (g k).2) ∧ 0 < xs.length ∧ xs.length ≤ 13 ∧ n ≤ 1900 ∧ m ≤ 1900 ∧ n + m * xs.length ≤ 1900 ∧ PolyAt A n2 m2 H p s f ∧ n2 ≤ 1900 ∧ m2 ≤ 1900 ∧ n2 + m2 * s ≤ 1900 ∧ xs.length < s ∧ ∀ H', Same H H' → Q (.bl true) H'
theorem ok__law_refused (T : Txt K mg A D) : FnOk P w K mg base CX0 9 A.f__law_refused D.f__law_refused ["_law_row_here", "_law_p"] (sp_lref A) := by
  have G_shifted_row : FnOk P w K mg base (L2.CX P w) 8 A.f_shifted_row D.f_shifted_row ["row", "p"] (sp_shifted A) := ok_shifted_row T
  refine T.F__law_refused.ok sc__law_refused (fun vs H Q E h => ?_) (fun cdv A' outer s H vs Q E hr h => ?_)
  · obtain ⟨v, p, xs, g, n, m, n2, m2, s, f, rfl, _⟩ := h
    rfl
  · obtain ⟨v, p, xs, g, n, m, n2, m2, s, f, rfl, hv, hg, g0, x0, x1, hn, hm, hnm, hp, hn2, hm2, hnm2, hl, q⟩ := h
    refine ⟨_, (pss_cons (ps_set (i := 2) sc__law_refused.nd rfl (.inl rfl) pe_bl)
  (pss_cons (ps_try_only rfl rfl ⟨rfl, by decide, .inl T.g_NoMean⟩ takes0 (fun W pn xe tk _ => (pss_one (ps_expr (pe_callS G_shifted_row (hr.mono (by decide)) rfl T.g_shifted_row T.F_shifted_row.kp T.b_shifted_row (fun σ => passAt tk σ) (by exact (pa_cons (pv 0) (pa_cons (pv 1) pa_nil))))))) (fun oa oe cls d pn _ _ => (pss_one (ps_set (i := 2) sc__law_refused.nd rfl (.inl rfl) pe_bl))))
  (pss_one (ps_ret (pv 2))))), ?_⟩
    refine ⟨_, rfl, _, rfl, v, p, xs, g, n, m, n2, m2, s, f, rfl, hv, hg, g0, x0, x1, hn, hm, hnm, hp, hn2, hm2, hnm2, .inr ⟨hl, fun H' k => ?_⟩⟩
    exact ⟨true, T.e_NoMean.em, fun _ _ _ => ⟨_, rfl, q _ k⟩, fun n => Bool.noConfusion n⟩
end

section
variable {P : Program} {w : World} {K : PySem.W.Frag} {mg : Str → Option Value} {base : Heap} {A : Ad} {D : Fd}
/-! ### a lot's weights times the values of a Poly -/
abbrev zS (h : Int → Int → Int) (ws ps : List Int) : Int := (List.zipWith h ws ps).sum
theorem zS_add (h1 h2 : Int → Int → Int) : ∀ ws ps : List Int, zS (fun w p => h1 w p + h2 w p) ws ps = zS h1 ws ps + zS h2 ws ps
  | [], _ => by simp [zS]
  | _ :: _, [] => by simp [zS]
  | w :: ws, p :: ps => by
    have ih := zS_add h1 h2 ws ps
    show (h1 w p + h2 w p) + zS (fun w p => h1 w p + h2 w p) ws ps = (h1 w p + zS h1 ws ps) + (h2 w p + zS h2 ws ps)
    omega
theorem zS_mul (c : Int) (h : Int → Int → Int) : ∀ ws ps : List Int, zS (fun w p => c * h w p) ws ps = c * zS h ws ps
  | [], _ => by simp [zS]
  | _ :: _, [] => by simp [zS]
  | w :: ws, p :: ps => by
    have ih := zS_mul c h ws ps
    show c * h w p + zS (fun w p => c * h w p) ws ps = c * (h w p + zS h ws ps)
    rw [ih, Int.mul_add]
theorem zS_zero : ∀ ws ps : List Int, zS (fun _ _ => 0) ws ps = 0
  | [], _ => by simp [zS]
  | _ :: _, [] => by simp [zS]
  | w :: ws, p :: ps => by
    have ih := zS_zero ws ps
    show 0 + zS (fun _ _ => 0) ws ps = 0
    omega
/-- the value at p / q times q ^ deg, the first j terms -/
def vS (c : List Int) (q : Int) (deg : Nat) (p : Int) : Nat → Int
  | 0 => 0
  | j + 1 => vS c q deg p j + c.getD j 0 * p ^ j * q ^ (deg - j)
/-- the same over the lot's points with their weights -/
def pS (L : Lot) (c : List Int) (deg k : Nat) : Nat → Int
  | 0 => 0
  | j + 1 => pS L c deg k j + c.getD j 0 * L.q ^ (deg - j) * pw L (k + j)
theorem vS_sum {L : Lot} {c : List Int} {deg k : Nat} : ∀ J, zS (fun w p => w * vS c L.q deg p J * p ^ k) L.ws L.ps = pS L c deg k J
  | 0 => by
    have e : (fun w p : Int => w * vS c L.q deg p 0 * p ^ k) = fun _ _ => 0 := by
      funext w p
      show w * 0 * p ^ k = 0
      simp
    rw [e]
    exact zS_zero _ _
  | J + 1 => by
    have ih := vS_sum (L := L) (c := c) (deg := deg) (k := k) J
    have e : (fun w p : Int => w * vS c L.q deg p (J + 1) * p ^ k) = fun w p => w * vS c L.q deg p J * p ^ k + (c.getD J 0 * L.q ^ (deg - J)) * (w * p ^ (k + J)) := by
      funext w p
      show w * (vS c L.q deg p J + c.getD J 0 * p ^ J * L.q ^ (deg - J)) * p ^ k = _
      rw [Int.pow_add]
      generalize p ^ J = x
      generalize p ^ k = y
      generalize vS c L.q deg p J = z
      generalize L.q ^ (deg - J) = u
      generalize c.getD J 0 = v
      grind
    rw [e, zS_add, ih, zS_mul]
    rfl
abbrev intF (c : List Int) : Nat → Int × Int := fun k => (c.getD k 0, 1)
theorem lot_sum {L : Lot} {c : List Int} {deg k : Nat} : ∀ J, J ≤ deg + 1 → (shF (intF c) (rowF L) J k).1 * (L.s * L.q ^ deg * L.q ^ k) = pS L c deg k J * (shF (intF c) (rowF L) J k).2
  | 0, _ => by
    show (0 : Int) * _ = 0 * 1
    simp
  | J + 1, h => by
    have ih := lot_sum (L := L) (c := c) (deg := deg) (k := k) J (by omega)
    show ((shF (intF c) (rowF L) J k).1 * (1 * (L.s * L.q ^ (k + J))) + c.getD J 0 * pw L (k + J) * (shF (intF c) (rowF L) J k).2) * (L.s * L.q ^ deg * L.q ^ k)
      = (pS L c deg k J + c.getD J 0 * L.q ^ (deg - J) * pw L (k + J)) * ((shF (intF c) (rowF L) J k).2 * (1 * (L.s * L.q ^ (k + J))))
    have ed : L.q ^ deg = L.q ^ (deg - J) * L.q ^ J := by
      rw [← Int.pow_add]
      congr 1
      omega
    rw [ed] at ih ⊢
    rw [Int.pow_add]
    generalize L.q ^ (deg - J) = u at *
    generalize L.q ^ J = x at *
    generalize L.q ^ k = y at *
    generalize shF (intF c) (rowF L) J k = z at *
    generalize pw L (k + J) = v at *
    generalize c.getD J 0 = b at *
    generalize pS L c deg k J = r at *
    have k1 : (z.1 * (1 * (L.s * (y * x))) + b * v * z.2) * (L.s * (u * x) * y) = (z.1 * (L.s * (u * x) * y)) * (L.s * (y * x)) + b * v * z.2 * (L.s * (u * x) * y) := by grind
    rw [k1, ih]
    grind
/-- the weights that the law makes -/
def wV (L : Lot) (c : List Int) (deg : Nat) : List Int := List.zipWith (fun w p => w * vS c L.q deg p (deg + 1)) L.ws L.ps
def lotV (L : Lot) (c : List Int) (deg : Nat) : Lot := ⟨L.ps, wV L c deg, L.q, L.s * L.q ^ deg⟩
theorem zip_zip (h : Int → Int → Int) (V : Int → Int) : ∀ ws ps : List Int, List.zipWith h (List.zipWith (fun w p => w * V p) ws ps) ps = List.zipWith (fun w p => h (w * V p) p) ws ps
  | [], _ => by simp
  | _ :: _, [] => by simp
  | w :: ws, p :: ps => by
    show h (w * V p) p :: _ = h (w * V p) p :: _
    rw [zip_zip h V ws ps]
theorem lotV_pw {L : Lot} {c : List Int} {deg k : Nat} : pw (lotV L c deg) k = pS L c deg k (deg + 1) := by
  show (List.zipWith (fun w p => w * p ^ k) (List.zipWith (fun w p => w * vS c L.q deg p (deg + 1)) L.ws L.ps) L.ps).sum = _
  rw [zip_zip (fun w p => w * p ^ k) (fun p => vS c L.q deg p (deg + 1))]
  exact vS_sum (deg + 1)
theorem lotV_is {L : Lot} {c : List Int} {deg k : Nat} : (shF (intF c) (rowF L) (deg + 1) k).1 * (rowF (lotV L c deg) k).2 = (rowF (lotV L c deg) k).1 * (shF (intF c) (rowF L) (deg + 1) k).2 := by
  have h := lot_sum (L := L) (c := c) (deg := deg) (k := k) (deg + 1) (Nat.le_refl _)
  show _ * (L.s * L.q ^ deg * L.q ^ k) = pw (lotV L c deg) k * _
  rw [lotV_pw]
  exact h
theorem wV_get {L : Lot} {c : List Int} {deg j : Nat} (hl : L.ps.length = L.ws.length) (hj : j < L.ps.length) : (wV L c deg)[j]? = some (L.ws.getD j 0 * vS c L.q deg (L.ps.getD j 0) (deg + 1)) := by
  show (List.zipWith _ _ _)[j]? = _
  rw [List.getElem?_zipWith, List.getD_eq_getElem?_getD, List.getD_eq_getElem?_getD, List.getElem?_eq_getElem hj, List.getElem?_eq_getElem (show j < L.ws.length by omega)]
  rfl
theorem wV_len {L : Lot} {c : List Int} {deg : Nat} (hl : L.ps.length = L.ws.length) : (wV L c deg).length = L.ps.length := by
  show (List.zipWith _ _ _).length = _
  rw [List.length_zipWith]
  omega
theorem pw_lt {e g : Nat} {L : Lot} (ok : LotOk e g L) (hl : L.ps.length = L.ws.length) (k : Nat) : (pw L k).natAbs ≤ L.ps.length * 2 ^ (g + (e * k + 1)) := by
  have h := sum_lt (xs := powL L k) (e := g + (e * k + 1)) (fun x hx => by
    obtain ⟨j, hj, rfl⟩ := List.getElem_of_mem hx
    have hj' : j < L.ps.length := by rw [powL_len hl] at hj; exact hj
    have h1 := powL_get hl (k := k) hj'
    rw [List.getElem?_eq_getElem hj] at h1
    rw [Option.some.inj h1]
    exact powL_lt ok hl hj') (by rw [powL_len hl]; exact ok.len)
  rw [powL_len hl] at h
  exact h
theorem LotAt.stp {G G' : Hp} {f : Addr} {v : V} {L : Lot} (h : LotAt G v L) (hF : FeedAt G f) (s : Stp f G G') : LotAt G' v L := by
  obtain ⟨a, pa, wa, e, h1, h2, h3, h4⟩ := h
  exact ⟨a, pa, wa, e, s.keep _ _ (hF.ne h1 fun _ _ _ _ _ _ w => by cases w) h1, s.keep _ _ (ints_ne hF h2) h2, s.keep _ _ (ints_ne hF h3) h3, h4⟩
theorem IsL.to {C : Addr} {H : Hp} {v : V} {p q p' q' : Int} (r : IsL C H v p q) (h : 0 < q') (e : p * q' = p' * q) : IsL C H v p' q' := by
  obtain ⟨t, b, r, h1, h2, h3, h4⟩ := r
  refine ⟨t, b, r, h1, h, ?_, h4⟩
  refine Int.eq_of_mul_eq_mul_right (show q ≠ 0 by omega) ?_
  grind
theorem vS_lt {c : List Int} {q p : Int} {deg : Nat} (hc : ∀ j, (c.getD j 0).natAbs < 2 ^ 6) (hq : q.natAbs < 2 ^ 3) (hp : p.natAbs < 2 ^ 30) (hd : deg ≤ 4) : ∀ j, j ≤ 5 → (vS c q deg p j).natAbs ≤ j * 2 ^ 150
  | 0, _ => Nat.zero_le _
  | j + 1, h => by
    have ih := vS_lt (c := c) (q := q) (p := p) (deg := deg) hc hq hp hd j (by omega)
    have b := nle (nmul (nmul (hc j) (npow hp j)) (npow hq (deg - j))) (show 6 + (30 * j + 1) + (3 * (deg - j) + 1) ≤ 150 by omega)
    have t := Int.natAbs_add_le (vS c q deg p j) (c.getD j 0 * p ^ j * q ^ (deg - j))
    show (vS c q deg p j + c.getD j 0 * p ^ j * q ^ (deg - j)).natAbs ≤ (j + 1) * 2 ^ 150
    rw [Nat.add_mul]
    omega
theorem getD_lt {c : List Int} {e : Nat} (h : ∀ x ∈ c, x.natAbs < 2 ^ e) (j : Nat) : (c.getD j 0).natAbs < 2 ^ e := by
  rcases Nat.lt_or_ge j c.length with k | k
  · exact h _ (getD_mem k)
  · rw [List.getD_eq_getElem?_getD, List.getElem?_eq_none k]
    exact Nat.two_pow_pos _
theorem wV_small {L : Lot} {c : List Int} {deg : Nat} (ok : LotOk 30 27 L) (hq : L.q ≤ 5) (hc : ∀ j, (c.getD j 0).natAbs < 2 ^ 6) (hd : deg ≤ 4) (hl : L.ps.length = L.ws.length) : ∀ x ∈ wV L c deg, x.natAbs < 2 ^ 200 := fun x hx => by
  obtain ⟨j, hj, rfl⟩ := List.getElem_of_mem hx
  have hj' : j < L.ps.length := by rw [wV_len hl] at hj; exact hj
  have h1 := wV_get (c := c) (deg := deg) hl hj'
  rw [List.getElem?_eq_getElem hj] at h1
  rw [Option.some.inj h1]
  have q3 : L.q.natAbs < 2 ^ 3 := by have := ok.q0; omega
  have v := vS_lt (c := c) (q := L.q) (p := L.ps.getD j 0) (deg := deg) hc q3 (ok.ps _ (getD_mem hj')) hd (deg + 1) (by omega)
  have v2 : (vS c L.q deg (L.ps.getD j 0) (deg + 1)).natAbs < 2 ^ 160 := by
    have : (deg + 1) * 2 ^ 150 ≤ 5 * 2 ^ 150 := Nat.mul_le_mul_right _ (by omega)
    have : 5 * 2 ^ 150 < 2 ^ 160 := by decide
    omega
  exact nle (nmul (ok.ws _ (getD_mem (show j < L.ws.length by omega))) v2) (by decide)
theorem lotV_ok {L : Lot} {c : List Int} {deg : Nat} (ok : LotOk 30 27 L) (hq : L.q ≤ 5) (hs : L.s ≤ 9) (hc : ∀ j, (c.getD j 0).natAbs < 2 ^ 6) (hd : deg ≤ 4) (hl : L.ps.length = L.ws.length) : LotOk 30 200 (lotV L c deg) := by
  have b1 : L.q ^ deg ≤ 625 := by
    have q0 := ok.q0
    have hq' : L.q = 1 ∨ L.q = 2 ∨ L.q = 3 ∨ L.q = 4 ∨ L.q = 5 := by omega
    have hd' : deg = 0 ∨ deg = 1 ∨ deg = 2 ∨ deg = 3 ∨ deg = 4 := by omega
    rcases hq' with e | e | e | e | e <;> rcases hd' with e2 | e2 | e2 | e2 | e2 <;> rw [e, e2] <;> decide
  have b0 : 0 < L.q ^ deg := Int.pow_pos ok.q0
  refine ⟨ok.ps, wV_small ok hq hc hd hl, ok.q0, ok.q1, Int.mul_pos ok.s0 b0, ?_, ok.len⟩
  show L.s * L.q ^ deg ≤ 10000
  have := Int.mul_le_mul hs b1 (Int.le_of_lt b0) (by decide)
  omega
def sp_oflot (A : Ad) : Sp := fun vs H Q _ => ∃ f : Addr, vs = [.ref f] ∧ FeedAt H f ∧ ∀ H', Stp f H H' → Q (.bl true) H'
theorem ok__law_of_lot (T : Txt K mg A D) : FnOk P w K mg base CX0 11 A.f__law_of_lot D.f__law_of_lot ["_law_feed_here"] (sp_oflot A) := by
  have G_Poly_init : FnOk P w K mg base CX0 6 A.f_Poly___init__ D.f_Poly___init__ ["self", "coefficients"] (sp_poly K A) := ok_Poly___init__ T
  have b_Poly_init1 := T.b_Poly___init__
  have d_Poly_init1 : Vals [] [] := .nil
  have G__law_lot : FnOk P w K mg base CX0 3 A.f__law_lot D.f__law_lot ["_law_feed_here", "_law_most"] (sp_lot) := ok__law_lot T
  have G__law_number : FnOk P w K mg base CX0 2 A.f__law_number D.f__law_number ["_law_feed_here", "_law_size"] (sp_number) := ok__law_number T
  have G__law_numbers : FnOk P w K mg base CX0 2 A.f__law_numbers D.f__law_numbers ["_law_lot_here", "_law_d"] (sp_nums) := ok__law_numbers T
  have G__law_ratios : FnOk P w K mg base CX0 4 A.f__law_ratios D.f__law_ratios ["_law_pairs"] (sp_ratios A.Ratio) := ok__law_ratios T
  have G__law_row_is : FnOk P w K mg base CX0 3 A.f__law_row_is D.f__law_row_is ["_law_values", "_law_pairs"] (sp_rowis A.Ratio) := ok__law_row_is T
  have G__law_take : FnOk P w K mg base CX0 1 A.f__law_take D.f__law_take ["_law_feed_here", "_law_size"] (sp_take) := ok__law_take T
  have G_shifted_row : FnOk P w K mg base (L2.CX P w) 8 A.f_shifted_row D.f_shifted_row ["row", "p"] (sp_shifted A) := ok_shifted_row T
  refine T.F__law_of_lot.ok sc__law_of_lot (fun vs H Q E h => ?_) (fun cdv A' outer s H vs Q E hr h => ?_)
  · obtain ⟨f, rfl, _⟩ := h
    rfl
  · obtain ⟨f, rfl, F0, q⟩ := h
    refine ⟨_, (pss_cons (ps_set (i := 1) sc__law_of_lot.nd rfl (.inl rfl) (pe_call G__law_lot (hr.mono (by decide)) rfl T.g__law_lot T.F__law_lot.kp T.b__law_lot .nil pass0 (pa_cons (pv 0) (pa_cons pe_int pa_nil))))
  (pss_cons (ps_setLc (i := 2) (own := [("_law_k", 3)]) (g := gName 3) (tt := tYes) rfl sc__law_of_lot.nd rfl rfl rfl (pi_range1 rfl T.z_range (pa_cons (pe_op op_add pe_int (pe_call G__law_take (hr.mono (by decide)) rfl T.g__law_take T.F__law_take.kp T.b__law_take .nil pass0 (pa_cons (pv 0) (pa_cons pe_int pa_nil)))) pa_nil)) (blkOk_by (N := N__law_of_lot) (sc := defScope s__law_of_lot) (by decide +kernel)) (fun _ _ _ _ _ => (pg_name (i := 3) sc__law_of_lot.nd rfl (.inl rfl))) (fun _ _ _ _ _ => pts_nil) (fun _ _ _ _ _ => (pe_call G__law_number (hr.mono (by decide)) rfl T.g__law_number T.F__law_number.kp T.b__law_number .nil pass0 (pa_cons (pv 0) (pa_cons pe_int pa_nil)))))
  (pss_cons (ps_expr (pe_bm PySem.F.plainAttrs_list PySem.F.slot_list_append PySem.F.type_list_append mt_append (pv 2) (pa_cons (pe_op op_add pe_int (pe_call G__law_take (hr.mono (by decide)) rfl T.g__law_take T.F__law_take.kp T.b__law_take .nil pass0 (pa_cons (pv 0) (pa_cons pe_int pa_nil)))) pa_nil)))
  (pss_cons (ps_set (i := 4) sc__law_of_lot.nd rfl (.inl rfl) (pe_op op_sub (pe_callB call_len_seq rfl T.z_len (by decide +kernel) (pa_cons (pv 2) pa_nil)) pe_int))
  (pss_cons (ps_set (i := 5) sc__law_of_lot.nd rfl (.inl rfl) (pe_lst pa_nil))
  (pss_cons (ps_for PassesOwn.never rfl (pi_range1 rfl T.z_range (pa_cons (pe_callB call_len_seq rfl T.z_len (by decide +kernel) (pa_cons (pe_ix ix_list (pv 1) pe_int (fun _ _ => rfl)) pa_nil)) pa_nil)) (pg_name (i := 3) sc__law_of_lot.nd rfl (.inl rfl)) (pss_cons (ps_set (i := 6) sc__law_of_lot.nd rfl (.inl rfl) pe_int)
  (pss_cons (ps_set (i := 7) sc__law_of_lot.nd rfl (.inl rfl) pe_int)
  (pss_cons (ps_for PassesOwn.never rfl (pi_range1 rfl T.z_range (pa_cons (pe_op op_add (pv 4) pe_int) pa_nil)) (pg_name (i := 8) sc__law_of_lot.nd rfl (.inl rfl)) (pss_cons (ps_set (i := 9) sc__law_of_lot.nd rfl (.inl rfl) pe_int)
  (pss_cons (ps_for PassesOwn.never rfl (pi_range1 rfl T.z_range (pa_cons (pe_op op_sub (pv 4) (pv 8)) pa_nil)) (pg_name (i := 10) sc__law_of_lot.nd rfl (.inl rfl)) (pss_one (ps_set (i := 9) sc__law_of_lot.nd rfl (.inl rfl) (pe_op op_mulW (pv 9) (pe_ix ix_list (pv 1) pe_int (fun _ _ => rfl))))))
  (pss_cons (ps_set (i := 6) sc__law_of_lot.nd rfl (.inl rfl) (pe_op op_add (pv 6) (pe_op op_mulW (pe_op op_mulW (pe_ix ix_list (pv 2) (pv 8) (fun _ _ => rfl)) (pv 7)) (pv 9))))
  (pss_one (ps_set (i := 7) sc__law_of_lot.nd rfl (.inl rfl) (pe_op op_mulW (pv 7) (pe_ix ix_list (pe_ix ix_list (pv 1) pe_int (fun _ _ => rfl)) (pv 3) (fun _ _ => rfl)))))))))
  (pss_one (ps_expr (pe_bm PySem.F.plainAttrs_list PySem.F.slot_list_append PySem.F.type_list_append mt_append (pv 5) (pa_cons (pe_op op_mulW (pe_ix ix_list (pe_ix ix_list (pv 1) pe_int (fun _ _ => rfl)) (pv 3) (fun _ _ => rfl)) (pv 6)) pa_nil))))))))
  (pss_cons (ps_set (i := 11) sc__law_of_lot.nd rfl (.inl rfl) (pe_ix ix_list (pv 1) pe_int (fun _ _ => rfl)))
  (pss_cons (ps_for PassesOwn.never rfl (pi_range1 rfl T.z_range (pa_cons (pv 4) pa_nil)) (pg_name (i := 10) sc__law_of_lot.nd rfl (.inl rfl)) (pss_one (ps_set (i := 11) sc__law_of_lot.nd rfl (.inl rfl) (pe_op op_mulW (pv 11) (pe_ix ix_list (pv 1) pe_int (fun _ _ => rfl))))))
  (pss_cons (ps_set (i := 12) sc__law_of_lot.nd rfl (.inl rfl) (pe_call G__law_numbers (hr.mono (by decide)) rfl T.g__law_numbers T.F__law_numbers.kp T.b__law_numbers .nil pass0 (pa_cons (pe_lst (pa_cons (pe_ix ix_list (pv 1) pe_int (fun _ _ => rfl)) (pa_cons (pv 5) (pa_cons (pe_ix ix_list (pv 1) pe_int (fun _ _ => rfl)) (pa_cons (pv 11) pa_nil))))) (pa_cons (pe_op op_sub pe_int (pv 4)) pa_nil))))
  (pss_one (ps_ret (pe_call G__law_row_is (hr.mono (by decide)) rfl T.g__law_row_is T.F__law_row_is.kp T.b__law_row_is .nil pass0 (pa_cons (pe_call G_shifted_row (hr.mono (by decide)) rfl T.g_shifted_row T.F_shifted_row.kp T.b_shifted_row .nil passL (pa_cons (pe_call G__law_ratios (hr.mono (by decide)) rfl T.g__law_ratios T.F__law_ratios.kp T.b__law_ratios .nil pass0 (pa_cons (pe_call G__law_numbers (hr.mono (by decide)) rfl T.g__law_numbers T.F__law_numbers.kp T.b__law_numbers .nil pass0 (pa_cons (pv 1) (pa_cons pe_int pa_nil))) pa_nil)) (pa_cons (pe_make T.M_Poly G_Poly_init (hr.mono (by decide)) rfl T.g_Poly b_Poly_init1 d_Poly_init1 pass0 (pa_cons (pv 2) pa_nil)) pa_nil))) (pa_cons (pv 12) pa_nil)))))))))))))), ?_⟩
    refine ⟨_, rfl, f, rfl, F0, fun H1 vl L st1 hL okL l5 q5 s9 => ?_⟩
    refine ⟨_, rfl, f, 4, rfl, st1.feed, by decide, .ab (by decide) (by decide), fun H2 c c0 c1 st2 => ⟨_, _, rfl, rfl, _, rfl, by omega, by omega, fun d nd => ?_⟩⟩
    have df : d ≠ f := (st2.feed.lt nd).symm
    have d0 := stp_none st2 df nd
    obtain ⟨nn, hnn, n1, n4⟩ : ∃ nn : Nat, (1 + c).toNat = nn ∧ 1 ≤ nn ∧ nn ≤ 4 := ⟨_, rfl, by omega, by omega⟩
    rw [hnn]
    refine lc_range (lo := 0) (fun i G => Stp f H1 G ∧ ∃ ns : List Int, ns.length = i ∧ G d = some (.lst (ns.map V.int)) ∧ ∀ x ∈ ns, x.natAbs < 2 ^ 6) ⟨st2.push st1.feed d0 df, [], rfl, upd_same, fun x h => by cases h⟩ ?_ ?_
    · rintro i G hi ⟨st, ns, hl, hd, hb⟩
      refine ⟨rfl, _, rfl, f, 50, rfl, st.feed, by decide, .ab (by decide) (by decide), fun G2 x x0 x1 g2 => ⟨_, g2.keep _ _ df hd, by rw [List.length_map]; exact small1000 (by omega), (st.trans g2).push st1.feed d0 df, ns ++ [x], by rw [List.length_append, hl]; rfl, by rw [upd_same, List.map_append]; rfl, fun y hy => ?_⟩⟩
      rcases List.mem_append.mp hy with h | h
      · exact hb y h
      · cases List.mem_singleton.mp h
        omega
    rintro G ⟨st, ns, hl, hd, hb⟩
    refine ⟨_, rfl, .inl ⟨rfl, _, .of hd⟩, _, rfl, f, 9, rfl, st.feed, by decide, .ab (by decide) (by decide), fun G2 u u0 u1 g2 => ⟨_, _, rfl, rfl, d, _, _, rfl, rfl, g2.keep _ _ df hd, by rw [List.length_map]; exact small1000 (by omega), ?_⟩⟩
    have st3 := (st.trans g2).push (o := .lst ((ns ++ [1 + u]).map V.int)) st1.feed d0 df
    have hd3 : upd G2 d (.lst ((ns ++ [1 + u]).map V.int)) d = some (.lst ((ns ++ [1 + u]).map V.int)) := upd_same
    have ecs : ns.map V.int ++ [V.int (1 + u)] = (ns ++ [1 + u]).map V.int := by rw [List.map_append]; rfl
    rw [ecs]
    have hlast : (ns ++ [1 + u]).getD nn 0 = 1 + u := by
      rw [List.getD_eq_getElem?_getD, List.getElem?_append_right (by omega), hl, Nat.sub_self]
      rfl
    have hcs : ∀ x ∈ ns ++ [1 + u], x.natAbs < 2 ^ 6 := fun y hy => by
      rcases List.mem_append.mp hy with h | h
      · exact hb y h
      · cases List.mem_singleton.mp h
        omega
    have lcs : (ns ++ [1 + u]).length = nn + 1 := by rw [List.length_append, hl]; rfl
    have hL3 := hL.stp st1.feed st3
    have st03 := st1.trans st3
    generalize ns ++ [1 + u] = cs at *
    generalize upd G2 d (.lst (cs.map V.int)) = G3 at *
    clear st3 st st2 g2 hd hb nd ecs
    have hcd := getD_lt hcs
    obtain ⟨a, pa, wa, rfl, ha, hpa, hwa, hlw⟩ := hL3
    have q0 := okL.q0
    have s0 := okL.s0
    have sq : Sm L.q := .ab (by omega) (by omega)
    have q3 : L.q.natAbs < 2 ^ 3 := by omega
    have len := okL.len
    refine ⟨_, rfl, d, _, rfl, .inl (.of hd3), _, _, rfl, rfl, ?_⟩
    have edeg : (((cs.map V.int).length : Nat) : Int) - 1 = ((nn : Nat) : Int) := by
      rw [List.length_map]
      omega
    show tSeq _ _ _ (([some (V.ref f), some (V.ref a), some (V.ref d), none, none, none, none, none, none, none, none, none, none] : L2.St).set 4 (some (V.int ((((cs.map V.int).length : Nat) : Int) - 1)))) G3
    rw [edeg]
    refine ⟨by show 0 ≤ sizeLine; decide, fun w nw => ?_⟩
    have kw := same_upd (o := .lst []) nw
    refine ⟨_, rfl, a, _, 0, _, rfl, rfl, .of (kw _ _ ha), rfl, pa, _, rfl, .inl (.of (kw _ _ hpa)), _, rfl, by rw [List.length_map]; omega, by rw [List.length_map]; omega, ?_⟩
    have e1 : (((L.ps.map V.int).length : Nat) : Int).toNat = L.ps.length := by
      rw [List.length_map]
      omega
    rw [e1]
    refine for_range (lo := 0) (fun k σ G => Same G3 G ∧ G w = some (.lst (((wV L cs nn).take k).map V.int)) ∧ ∃ y3 y6 y7 y8 y9 y10 : Option V, σ = [some (.ref f), some (.ref a), some (.ref d), y3, some (.int (nn : Int)), some (.ref w), y6, y7, y8, y9, y10, none, none]) ⟨kw, upd_same, _, _, _, _, _, _, rfl⟩ ?_ ?_
    · rintro k σ G hk ⟨sm, hw, y3, y6, y7, y8, y9, y10, rfl⟩
      have ha2 := sm _ _ ha
      have hpa2 := sm _ _ hpa
      have hwa2 := sm _ _ hwa
      have hd2 := sm _ _ hd3
      have pb := okL.ps _ (getD_mem hk)
      refine ⟨_, rfl, _, _, rfl, rfl, _, rfl, by omega, by omega, ?_⟩
      rw [show ((nn : Int) + 1).toNat = nn + 1 by omega]
      refine for_range (lo := 0) (fun j σ E => E = G ∧ ∃ y8 y9 y10 : Option V, σ = [some (.ref f), some (.ref a), some (.ref d), some (.int (0 + (k : Int))), some (.int (nn : Int)), some (.ref w), some (.int (vS cs L.q nn (L.ps.getD k 0) j)), some (.int (L.ps.getD k 0 ^ j)), y8, y9, y10, none, none]) ⟨rfl, _, _, _, by rw [Int.pow_zero]; rfl⟩ ?_ ?_
      · rintro j σ E hj ⟨rfl, y8, y9, y10, rfl⟩
        refine ⟨_, rfl, _, rfl, _, _, rfl, rfl, _, rfl, by omega, by omega, ?_⟩
        rw [show ((nn : Int) - (0 + (j : Int))).toNat = nn - j by omega]
        refine for_range (lo := 0) (fun i σ E' => E' = E ∧ ∃ y10 : Option V, σ = [some (.ref f), some (.ref a), some (.ref d), some (.int (0 + (k : Int))), some (.int (nn : Int)), some (.ref w), some (.int (vS cs L.q nn (L.ps.getD k 0) j)), some (.int (L.ps.getD k 0 ^ j)), some (.int (0 + (j : Int))), some (.int (L.q ^ i)), y10, none, none]) ⟨rfl, _, by rw [Int.pow_zero]; rfl⟩ ?_ ?_
        · rintro i σ E' hi ⟨rfl, y10, rfl⟩
          refine ⟨_, rfl, _, rfl, a, _, 2, _, rfl, rfl, .of ha2, rfl, _, _, rfl, rfl, (sm_of (npow q3 i) (by omega)).mul sq, ?_⟩
          exact ⟨rfl, _, by rw [Int.pow_succ]; rfl⟩
        · rintro σ E' ⟨rfl, y10, rfl⟩
          have w1 := hcd j
          have w2 := npow pb j
          have w3 := npow q3 (nn - j)
          refine ⟨_, rfl, _, rfl, _, rfl, d, _, _, _, rfl, rfl, .of hd2, at_get (int_at (show j < cs.length by omega)), _, rfl, _, _, rfl, rfl, (sm_of w1 (by decide)).mul (sm_of w2 (by omega)), _, rfl, _, _, rfl, rfl, (sm_of (nmul w1 w2) (by omega)).mul (sm_of w3 (by omega)), _, _, rfl, rfl, ?_⟩
          refine ⟨_, rfl, _, rfl, a, _, 0, _, rfl, rfl, .of ha2, rfl, _, rfl, pa, _, _, _, rfl, rfl, .of hpa2, at_get (int_at hk), _, _, rfl, rfl, (sm_of w2 (by omega)).mul (sm_of pb (by decide)), ?_⟩
          exact ⟨rfl, _, _, _, by rw [Int.pow_succ]; rfl⟩
      · rintro σ E ⟨rfl, y8, y9, y10, rfl⟩
        have v := vS_lt (c := cs) (q := L.q) (p := L.ps.getD k 0) (deg := nn) hcd q3 pb n4 (nn + 1) (by omega)
        have v2 : (vS cs L.q nn (L.ps.getD k 0) (nn + 1)).natAbs < 2 ^ 160 := by
          have : (nn + 1) * 2 ^ 150 ≤ 5 * 2 ^ 150 := Nat.mul_le_mul_right _ (by omega)
          have : 5 * 2 ^ 150 < 2 ^ 160 := by decide
          omega
        have bw := okL.ws _ (getD_mem (show k < L.ws.length by omega))
        refine ⟨_, rfl, .inl ⟨rfl, _, .of hw⟩, _, rfl, a, _, 1, _, rfl, rfl, .of ha2, rfl, _, rfl, wa, _, _, _, rfl, rfl, .of hwa2, at_get (int_at (show k < L.ws.length by omega)), _, rfl, _, _, rfl, rfl, (sm_of bw (by decide)).mul (sm_of v2 (by decide)), w, _, _, rfl, rfl, hw, by rw [List.length_map, List.length_take]; exact small1000 (by omega), ?_⟩
        exact ⟨same_push sm nw, by rw [upd_same, take_map_push (wV_get hlw hk)], _, _, _, _, _, _, rfl⟩
    · rintro σ G ⟨sm, hw, y3, y6, y7, y8, y9, y10, rfl⟩
      rw [List.take_of_length_le (by rw [wV_len hlw]; omega)] at hw
      have ha2 := sm _ _ ha
      refine ⟨_, rfl, a, _, 3, _, rfl, rfl, .of ha2, rfl, ?_⟩
      refine ⟨_, rfl, _, rfl, by omega, by omega, ?_⟩
      rw [show ((nn : Int)).toNat = nn by omega]
      refine for_range (lo := 0) (fun i σ E => E = G ∧ ∃ y10 : Option V, σ = [some (.ref f), some (.ref a), some (.ref d), y3, some (.int (nn : Int)), some (.ref w), y6, y7, y8, y9, y10, some (.int (L.s * L.q ^ i)), none]) ⟨rfl, _, by rw [Int.pow_zero, Int.mul_one]; rfl⟩ ?_ ?_
      · rintro i σ E hi ⟨rfl, y10, rfl⟩
        have bs : L.s.natAbs < 2 ^ 4 := by omega
        refine ⟨_, rfl, _, rfl, a, _, 2, _, rfl, rfl, .of ha2, rfl, _, _, rfl, rfl, (sm_of (nmul bs (npow q3 i)) (by omega)).mul sq, ?_⟩
        exact ⟨rfl, _, by rw [Int.pow_succ, ← Int.mul_assoc]; rfl⟩
      · rintro σ E ⟨rfl, y10, rfl⟩
        have okV := lotV_ok (c := cs) (deg := nn) okL q5 s9 hcd n4 hlw
        have lV : (lotV L cs nn).ps.length = (lotV L cs nn).ws.length := (wV_len hlw).symm
        refine ⟨_, rfl, a, _, 0, _, rfl, rfl, .of ha2, rfl, _, rfl, _, rfl, a, _, 2, _, rfl, rfl, .of ha2, rfl, _, rfl, by show 4 ≤ sizeLine; decide, fun pl npl => ?_⟩
        have k5 := same_upd (o := .lst [.ref pa, .ref w, .int L.q, .int (L.s * L.q ^ nn)]) npl
        have hlV : LotAt (upd E pl (.lst [.ref pa, .ref w, .int L.q, .int (L.s * L.q ^ nn)])) (.ref pl) (lotV L cs nn) := ⟨pl, pa, w, rfl, upd_same, k5 _ _ (sm _ _ hpa), k5 _ _ hw, lV⟩
        refine ⟨_, rfl, _, _, rfl, rfl, .ref pl, lotV L cs nn, 30, 200, 12 - nn, ?_, hlV, okV, by omega, by decide, by decide, fun G6 u6 k6 p6 => ?_⟩
        · show [V.ref pl, V.int (12 - (nn : Int))] = _
          rw [show (12 : Int) - (nn : Int) = ((12 - nn : Nat) : Int) by omega]
        have hL6 : LotAt G6 (.ref a) L := ⟨a, pa, wa, rfl, k6 _ _ (k5 _ _ ha2), k6 _ _ (k5 _ _ (sm _ _ hpa)), k6 _ _ (k5 _ _ (sm _ _ hwa)), hlw⟩
        have hd6 := k6 _ _ (k5 _ _ (sm _ _ hd3))
        have st6 := ((st03.of sm).of k5).of k6
        clear k5 k6 hlV npl ha2 hw sm
        refine ⟨_, rfl, .ref a, L, 30, 27, 12, rfl, hL6, okL, by decide, by decide, by decide, fun G7 u7 k7 p7 => ?_⟩
        have bL : ∀ k, k < 12 + 1 → 0 < (rowF L k).2 ∧ (rowF L k).1.natAbs < 2 ^ 400 ∧ (rowF L k).2.natAbs < 2 ^ 80 := fun k hk => ⟨Int.mul_pos s0 (Int.pow_pos q0), ?_, bot_lt okL (by omega)⟩
        · refine ⟨u7, 13, rowF L, 400, 80, rfl, p7, by decide, by decide, by decide, bL, fun G8 d8 xs k8 hd8 lx hx => ?_⟩
          have k78 := k7.trans k8
          have fz : ∀ k, (cs.map V.int).length ≤ k → (intF cs k).1 = 0 := fun k hk => by
            rw [List.length_map] at hk
            show cs.getD k 0 = 0
            rw [List.getD_eq_getElem?_getD, List.getElem?_eq_none hk]
            rfl
          have fn : Nums A.Ratio 6 1 G8 (cs.map V.int) (intF cs) := fun k x e => by
            have hk := (List.getElem?_eq_some_iff.mp e).1
            rw [List.length_map] at hk
            rw [int_at hk] at e
            cases e
            exact ⟨_, 1, .inl ⟨rfl, rfl⟩, by decide, by show (0 : Int) < 1; decide, rfl, hcd k, by decide⟩
          refine ⟨_, rfl, fun x dx nx ndx ne => poly_make nx ndx (.inl (k78 _ _ hd6)) fn (by rw [List.length_map]; omega) (by decide) (by decide) fz (fun k => by show (0 : Int) < 1; decide) fun G9 s3 k9 hp9 l9 => ⟨rfl, ?_⟩⟩
          rw [List.length_map] at l9
          have es : s3 = nn + 1 := by
            rcases Nat.lt_or_ge nn s3 with e | e
            · omega
            · have z := hp9.zero nn e
              have z : cs.getD nn 0 = 0 := z
              omega
          subst es
          refine ⟨.ref d8, .ref x, xs, rowF L, 400, 80, 6, 1, nn + 1, intF cs, rfl, ⟨d8, rfl, .inl (k9 _ _ hd8)⟩, (hx.same k9).nums, fun k => Int.mul_pos s0 (Int.pow_pos q0), by omega, by omega, by decide, by decide, by omega, hp9, by decide, by decide, by omega, .inl ⟨by omega, fun G10 d10 zs k10 hd10 lz hz => ?_⟩⟩
          have tz : Lows A.Ratio G10 zs (rowF (lotV L cs nn)) := fun k y e => (hz k y e).to (Int.mul_pos okV.s0 (Int.pow_pos q0)) lotV_is
          have bV : ∀ k, k < 12 - nn + 1 → (rowF (lotV L cs nn) k).1.natAbs < 2 ^ 1500 ∧ (rowF (lotV L cs nn) k).2.natAbs < 2 ^ 1000 := fun k hk => ⟨?_, nle (bot_lt okV (by omega)) (by decide)⟩
          · refine ⟨_, rfl, d10, u6, zs, _, 12 - nn + 1, rowF (lotV L cs nn), rfl, hd10, (tz.rats (n := 1500) (m := 1000) fun k hk => bV k (by omega)).mono (by decide) (by decide), by omega, by omega, ((p6.same k78).same k9).same k10, fun k hk => ⟨rfl, (bV k hk).1, nle (bV k hk).2 (by decide)⟩, q _ (((st6.of k78).of k9).of k10)⟩
          · have h := pw_lt okV lV k
            have h2 : (lotV L cs nn).ps.length * 2 ^ (200 + (30 * k + 1)) ≤ 16 * 2 ^ 561 := Nat.mul_le_mul okV.len (Nat.pow_le_pow_right (by decide) (by omega))
            have h3 : 16 * 2 ^ 561 < 2 ^ 1500 := by decide
            show (pw (lotV L cs nn) k).natAbs < _
            omega
        · have h := pw_lt okL hlw k
          have h2 : L.ps.length * 2 ^ (27 + (30 * k + 1)) ≤ 16 * 2 ^ 388 := Nat.mul_le_mul okL.len (Nat.pow_le_pow_right (by decide) (by omega))
          have h3 : 16 * 2 ^ 388 < 2 ^ 400 := by decide
          show (pw L k).natAbs < _
          omega
end

end Mo

namespace Mo
open PySem PySem.Spec PyProof.Rows L2 MoL MoW
open C8 (pss_cut tCut)
section
/-! ### shifting twice -/
abbrev sm2 (a b : Nat → Int) (k : Nat) : Nat → Int
  | 0 => 0
  | j + 1 => sm2 a b k j + a j * b (k + j)
theorem shF_is {f g : Nat → Int × Int} {a b : Nat → Int} {U B : Int} {n k : Nat} (hf : ∀ j, a j * (f j).2 = (f j).1 * U) (hg : ∀ j, j < n → b j * (g j).2 = (g j).1 * B) : ∀ J, k + J ≤ n → sm2 a b k J * (shF f g J k).2 = (shF f g J k).1 * (B * U)
  | 0, _ => by
    show (0 : Int) * 1 = 0 * (B * U)
    simp
  | J + 1, h => by
    have ih := shF_is (f := f) (g := g) (a := a) (b := b) (U := U) (B := B) (n := n) (k := k) hf hg J (by omega)
    have a1 := hf J
    have a2 := hg (k + J) (by omega)
    show (sm2 a b k J + a J * b (k + J)) * ((shF f g J k).2 * ((f J).2 * (g (k + J)).2)) = ((shF f g J k).1 * ((f J).2 * (g (k + J)).2) + (f J).1 * (g (k + J)).1 * (shF f g J k).2) * (B * U)
    generalize sm2 a b k J = S at *
    generalize a J = x at *
    generalize b (k + J) = y at *
    generalize shF f g J k = w at *
    generalize f J = u at *
    generalize g (k + J) = v at *
    grind
/-- one bottom for the first n values -/
theorem one_bottom {g : Nat → Int × Int} (hg : ∀ k, 0 < (g k).2) : ∀ n, ∃ (B : Int) (b : Nat → Int), 0 < B ∧ ∀ j, j < n → b j * (g j).2 = (g j).1 * B
  | 0 => ⟨1, fun _ => 0, by decide, fun j h => absurd h (Nat.not_lt_zero _)⟩
  | n + 1 => by
    obtain ⟨B, b, h0, hb⟩ := one_bottom hg n
    refine ⟨B * (g n).2, fun j => if j = n then (g n).1 * B else b j * (g n).2, Int.mul_pos h0 (hg n), fun j hj => ?_⟩
    by_cases e : j = n
    · subst e
      show (if j = j then (g j).1 * B else b j * (g j).2) * (g j).2 = (g j).1 * (B * (g j).2)
      rw [if_pos rfl, Int.mul_assoc]
    · have := hb j (by omega)
      show (if j = n then (g n).1 * B else b j * (g n).2) * (g j).2 = (g j).1 * (B * (g n).2)
      rw [if_neg e]
      generalize g n = u at *
      generalize g j = v at *
      generalize b j = x at *
      grind
/-- the shift by a Poly of three coefficients and then by one of two is the shift by their product -/
theorem shift_twice {g : Nat → Int × Int} {c d ts us : List Int} {U B : Int} {n k : Nat} (hg : ∀ k, 0 < (g k).2) (lt : ts.length = 3) (lu : us.length = 2) (u0 : 0 < U) (b0 : 0 < B) (ht : ∀ j, ts.getD j 0 = c.getD j 0 * U) (hu : ∀ j, us.getD j 0 = d.getD j 0 * B) (hk : k + 4 ≤ n) :
    (shF (intF d) (shF (intF c) g 3) 2 k).1 * (shF (fun j => (cv ts us j, U * B)) g 4 k).2 = (shF (fun j => (cv ts us j, U * B)) g 4 k).1 * (shF (intF d) (shF (intF c) g 3) 2 k).2 := by
  obtain ⟨W, h, w0, hh⟩ := one_bottom hg n
  have e1 : ∀ j, j < n - 2 → sm2 (fun j => c.getD j 0) h j 3 * (shF (intF c) g 3 j).2 = (shF (intF c) g 3 j).1 * W := fun j hj => by
    have := shF_is (f := intF c) (g := g) (a := fun j => c.getD j 0) (b := h) (U := 1) (B := W) (n := n) (k := j) (fun j => by show c.getD j 0 * 1 = c.getD j 0 * 1; rfl) hh 3 (by omega)
    rw [Int.mul_one] at this
    exact this
  have e2 := shF_is (f := intF d) (g := shF (intF c) g 3) (a := fun j => d.getD j 0) (b := fun j => sm2 (fun j => c.getD j 0) h j 3) (U := 1) (B := W) (n := n - 2) (k := k) (fun j => by show d.getD j 0 * 1 = d.getD j 0 * 1; rfl) e1 2 (by omega)
  have e3 := shF_is (f := fun j => (cv ts us j, U * B)) (g := g) (a := fun j => cv ts us j) (b := h) (U := U * B) (B := W) (n := n) (k := k) (fun j => rfl) hh 4 (by omega)
  have key : sm2 (fun j => cv ts us j) h k 4 = sm2 (fun j => d.getD j 0) (fun j => sm2 (fun j => c.getD j 0) h j 3) k 2 * (U * B) := by
    have c0 : cv ts us 0 = ts.getD 0 0 * us.getD 0 0 := by
      show ((List.range ts.length).map (cvT ts us 0)).sum = _
      rw [lt]
      show (ts.getD 0 0 * us.getD 0 0) + (0 + (0 + 0)) = _
      omega
    have c1 : cv ts us 1 = ts.getD 0 0 * us.getD 1 0 + ts.getD 1 0 * us.getD 0 0 := by
      show ((List.range ts.length).map (cvT ts us 1)).sum = _
      rw [lt]
      show (ts.getD 0 0 * us.getD 1 0) + ((ts.getD 1 0 * us.getD 0 0) + (0 + 0)) = _
      omega
    have z2 : us.getD 2 0 = 0 := by rw [List.getD_eq_getElem?_getD, List.getElem?_eq_none (by omega)]; rfl
    have z3 : us.getD 3 0 = 0 := by rw [List.getD_eq_getElem?_getD, List.getElem?_eq_none (by omega)]; rfl
    have c2 : cv ts us 2 = ts.getD 1 0 * us.getD 1 0 + ts.getD 2 0 * us.getD 0 0 := by
      show ((List.range ts.length).map (cvT ts us 2)).sum = _
      rw [lt]
      show (ts.getD 0 0 * us.getD 2 0) + ((ts.getD 1 0 * us.getD 1 0) + (ts.getD 2 0 * us.getD 0 0 + 0)) = _
      rw [z2]
      omega
    have c3 : cv ts us 3 = ts.getD 2 0 * us.getD 1 0 := by
      show ((List.range ts.length).map (cvT ts us 3)).sum = _
      rw [lt]
      show (ts.getD 0 0 * us.getD 3 0) + ((ts.getD 1 0 * us.getD 2 0) + (ts.getD 2 0 * us.getD 1 0 + 0)) = _
      rw [z2, z3]
      omega
    show 0 + cv ts us 0 * h (k + 0) + cv ts us 1 * h (k + 1) + cv ts us 2 * h (k + 2) + cv ts us 3 * h (k + 3) = (0 + d.getD 0 0 * (0 + c.getD 0 0 * h (k + 0 + 0) + c.getD 1 0 * h (k + 0 + 1) + c.getD 2 0 * h (k + 0 + 2)) + d.getD 1 0 * (0 + c.getD 0 0 * h (k + 1 + 0) + c.getD 1 0 * h (k + 1 + 1) + c.getD 2 0 * h (k + 1 + 2))) * (U * B)
    rw [c0, c1, c2, c3, ht 0, ht 1, ht 2, hu 0, hu 1]
    simp only [Nat.add_zero, Nat.add_assoc]
    grind
  have p3 : 0 < (shF (fun j => (cv ts us j, U * B)) g 4 k).2 := sumQ_pos (fun _ => Int.mul_pos u0 b0) (fun _ => hg _) 4
  rw [key] at e3
  rw [Int.mul_one] at e2
  generalize shF (intF d) (shF (intF c) g 3) 2 k = x at *
  generalize shF (fun j => (cv ts us j, U * B)) g 4 k = y at *
  generalize sm2 (fun j => d.getD j 0) (fun j => sm2 (fun j => c.getD j 0) h j 3) k 2 = S at *
  have z : W * (U * B) ≠ 0 := by
    have := Int.mul_pos w0 (Int.mul_pos u0 b0)
    omega
  refine Int.eq_of_mul_eq_mul_right z ?_
  have k1 : x.1 * y.2 * (W * (U * B)) = (x.1 * W) * y.2 * (U * B) := by grind
  have k2 : y.1 * x.2 * (W * (U * B)) = (y.1 * (W * (U * B))) * x.2 := by grind
  rw [k1, k2, ← e2, ← e3]
  grind
end

section
variable {P : Program} {w : World} {K : PySem.W.Frag} {mg : Str → Option Value} {base : Heap} {A : Ad} {D : Fd}
/-- an end is told by what stands before and behind it -/
theorem deg_eq {f : Nat → Int × Int} {s s' m : Nat} (h1 : ∀ k, s ≤ k → (f k).1 = 0) (h2 : 0 < s → (f (s - 1)).1 ≠ 0) (h3 : ∀ k, s' ≤ k → k < m → (f k).1 = 0) (h4 : 0 < s' → (f (s' - 1)).1 ≠ 0) (h5 : s ≤ m) (h6 : s' ≤ m) : s = s' := by
  rcases Nat.lt_trichotomy s s' with e | e | e
  · exact absurd (h1 (s' - 1) (by omega)) (h4 (by omega))
  · exact e
  · exact absurd (h3 (s - 1) (by omega) (by omega)) (h2 (by omega))
theorem cut_take (xs : List V) (n : Nat) : cutV xs none (some (n : Int)) = xs.take n := by
  unfold cutV
  have e1 : HT.sIx xs.length 0 none = 0 := rfl
  have e2 : HT.sIx xs.length xs.length (some (n : Int)) = min n xs.length := by
    show (if (n : Int) < 0 then ((n : Int) + (xs.length : Int)).toNat else min (n : Int).toNat xs.length) = _
    rw [if_neg (by omega)]
    omega
  rw [e1, e2, Nat.sub_zero, List.drop_zero]
  rcases Nat.le_total n xs.length with h | h
  · rw [Nat.min_eq_left h]
  · rw [Nat.min_eq_right h, List.take_length, List.take_of_length_le h]
theorem LF_take {M : List (Int × Int)} {k n : Nat} (h : k < n) : LF (M.take n) k = LF M k := by
  show (M.take n).getD k (0, 1) = M.getD k (0, 1)
  rw [List.getD_eq_getElem?_getD, List.getD_eq_getElem?_getD, List.getElem?_take, if_pos h]
theorem PolyAt.mono {n m n' m' : Nat} {H : Hp} {v : V} {s : Nat} {f : Nat → Int × Int} (h : PolyAt A n m H v s f) (h1 : n ≤ n') (h2 : m ≤ m') : PolyAt A n' m' H v s f := by
  obtain ⟨⟨a, dx, tp, ys, l, e, k1, k2, k3, k4⟩, z, z1, z2⟩ := h
  exact ⟨⟨a, dx, tp, ys, l, e, k1, k2, k3, k4.mono h1 h2⟩, z, z1, z2⟩
structure Bun (A : Ad) (G : Hp) (f d : Addr) (vr : V) (L : List (Int × Int)) (ys : List V) : Prop where
  F : FeedAt G f
  pL : PairsAt G vr L.length (LF L)
  hd : G d = some (.lst ys)
  hy : Rats A.Ratio 100 40 G ys (LF L)
theorem Bun.same {G G' : Hp} {f d : Addr} {vr : V} {L : List (Int × Int)} {ys : List V} (h : Bun A G f d vr L ys) (s : Same G G') : Bun A G' f d vr L ys := ⟨h.F.same s, h.pL.same s, s _ _ h.hd, h.hy.same s⟩
theorem Bun.stp {G G' : Hp} {f d : Addr} {vr : V} {L : List (Int × Int)} {ys : List V} (h : Bun A G f d vr L ys) (s : Stp f G G') : Bun A G' f d vr L ys := ⟨s.feed, h.pL.stp h.F s, s.keep _ _ (rats_ne h.hy h.F h.hd) h.hd, h.hy.stp h.F s⟩
/-! ### Ratios of the same value -/
def EqR (C : Addr) (a b : Addr) (H : Hp) : Prop := ∃ t1 b1 t2 b2, RatAt C H (.ref a) t1 b1 ∧ RatAt C H (.ref b) t2 b2 ∧ Sm t1 ∧ Sm b1 ∧ Sm t2 ∧ Sm b2 ∧ t1 * b2 - t2 * b1 = 0
theorem eq_imp {C : Addr} : ∀ (vs : List V) (H : Hp) (Q : VK) (E : XK), spEq (EqR C) vs H Q E → sp_cmp C r_eq vs H Q E := fun vs H Q E h => by
  obtain ⟨a, b, rfl, ⟨t1, b1, t2, b2, r1, r2, s1, s2, s3, s4, e⟩, q⟩ := h
  refine ⟨.ref a, .ref b, t1, b1, t2, b2, rfl, r1, .inr r2, s1, s2, s3, s4, ?_⟩
  rw [e]
  exact q H fun _ _ h => h
theorem eq_mon {C : Addr} : Mon (DIns C (EqR C)) := fun x y H H' k h => by
  obtain ⟨a, b, dx, dy, fs, gs, e1, e2, h1, h2, t1, b1, t2, b2, r1, r2, s⟩ := h
  exact ⟨a, b, dx, dy, fs, gs, e1, e2, k _ _ h1, k _ _ h2, t1, b1, t2, b2, r1.same k, r2.same k, s⟩
theorem eq_ref {C : Addr} : ∀ (x y : V) (H : Hp), DIns C (EqR C) x y H → ∃ a b, x = .ref a ∧ y = .ref b := fun x y H h => by
  obtain ⟨a, b, dx, dy, fs, gs, e1, e2, _⟩ := h
  exact ⟨a, b, e1, e2⟩
theorem eq_dins {C : Addr} {H : Hp} {x y : V} {p q p2 q2 : Int} {n m n2 m2 : Nat} (h1 : IsF C n m H x p q) (h2 : IsF C n2 m2 H y p2 q2) (w1 : n ≤ 4000) (w2 : m ≤ 4000) (w3 : n2 ≤ 4000) (w4 : m2 ≤ 4000) (e : p * q2 = p2 * q) : DIns C (EqR C) x y H := by
  obtain ⟨t, b, ⟨a, dx, rfl, ha⟩, c1, c2, c3, c4, c5⟩ := h1
  obtain ⟨t2, b2, ⟨a2, dy, rfl, ha2⟩, d1, d2, d3, d4, d5⟩ := h2
  refine ⟨a, a2, dx, dy, _, _, rfl, rfl, ha, ha2, t, b, t2, b2, ⟨a, dx, rfl, ha⟩, ⟨a2, dy, rfl, ha2⟩, sm_of c4 w1, sm_of c5 w2, sm_of d4 w3, sm_of d5 w4, ?_⟩
  have : t * b2 = t2 * b := by
    refine Int.eq_of_mul_eq_mul_right (show q * q2 ≠ 0 by have := Int.mul_pos c2 d2; omega) ?_
    have k1 : t * b2 * (q * q2) = (t * q) * b2 * q2 := by grind
    have k2 : t2 * b * (q * q2) = (t2 * q2) * b * q := by grind
    rw [k1, k2, c3, d3]
    have k3 : p * b * b2 * q2 = (p * q2) * (b * b2) := by grind
    rw [k3, e]
    grind
  omega
theorem sumQ_lt {c : List Int} {g : Nat → Int × Int} {a b : Nat} (hc : ∀ j, (c.getD j 0).natAbs < 2 ^ 4) (hg : ∀ k, (g k).1.natAbs < 2 ^ a ∧ (g k).2.natAbs < 2 ^ b) (k : Nat) : ∀ J, (shF (intF c) g J k).1.natAbs < 2 ^ (a + 5 + (b + 2) * J) ∧ (shF (intF c) g J k).2.natAbs < 2 ^ ((b + 1) * J + 1)
  | 0 => ⟨Nat.two_pow_pos _, by show (1 : Int).natAbs < 2 ^ ((b + 1) * 0 + 1); rw [Nat.mul_zero]; decide⟩
  | J + 1 => by
    obtain ⟨x, y⟩ := sumQ_lt hc hg k J
    obtain ⟨g1, g2⟩ := hg (k + J)
    have e1 : (b + 2) * (J + 1) = (b + 2) * J + (b + 2) := Nat.mul_succ _ _
    have e2 : (b + 1) * (J + 1) = (b + 1) * J + (b + 1) := Nat.mul_succ _ _
    have e3 : (b + 1) * J ≤ (b + 2) * J := Nat.mul_le_mul_right _ (by omega)
    constructor
    · show ((shF (intF c) g J k).1 * (1 * (g (k + J)).2) + c.getD J 0 * (g (k + J)).1 * (shF (intF c) g J k).2).natAbs < _
      rw [Int.one_mul]
      exact nle (nadd (nle (nmul x g2) (show a + 5 + (b + 2) * J + b ≤ a + 5 + b + (b + 2) * J by omega)) (nle (nmul (nmul (hc J) g1) y) (by omega))) (by omega)
    · show ((shF (intF c) g J k).2 * (1 * (g (k + J)).2)).natAbs < _
      rw [Int.one_mul]
      exact nle (nmul y g2) (by omega)
def sp_law (K : PySem.W.Frag) : Sp := fun vs H Q _ => ∃ (a : Addr) (ns : List Int), vs = [.ref a] ∧ SqL K H a (ns.map V.int) ∧ ns.length ≤ 63 ∧ ∀ H', Q (.bl true) H'
theorem ok_law (T : Txt K mg A D) : FnOk P w K mg base CX0 12 A.f_law D.f_law ["_law_script"] (sp_law K) := by
  have G_Poly_init : FnOk P w K mg base CX0 6 A.f_Poly___init__ D.f_Poly___init__ ["self", "coefficients"] (sp_poly K A) := ok_Poly___init__ T
  have b_Poly_init1 := T.b_Poly___init__
  have d_Poly_init1 : Vals [] [] := .nil
  have G_Poly___mul__ : FnOk P w K mg base CX0 10 A.f_Poly___mul__ D.f_Poly___mul__ ["self", "other"] (sp_pmul A) := ok_Poly___mul__ T
  have G_Ratio___eq__ : FnOk P w K mg base CX0 3 A.f_Ratio___eq__ D.f_Ratio___eq__ ["self", "other"] (sp_cmp A.Ratio r_eq) := ok_Ratio___eq__ T
  have G__law_coefficients : FnOk P w K mg base CX0 3 A.f__law_coefficients D.f__law_coefficients ["_law_feed_here", "_law_most"] (sp_lcoefs) := ok__law_coefficients T
  have G__law_degree : FnOk P w K mg base CX0 1 A.f__law_degree D.f__law_degree ["_law_coefficients_here"] (sp_ldeg) := ok__law_degree T
  have G__law_due : FnOk P w K mg base CX0 2 A.f__law_due D.f__law_due ["_law_row_here", "_law_coefficients_here"] (sp_ldue) := ok__law_due T
  have G__law_feed : FnOk P w K mg base CX0 1 A.f__law_feed D.f__law_feed ["_law_script"] (sp_feed K) := ok__law_feed T
  have G__law_number : FnOk P w K mg base CX0 2 A.f__law_number D.f__law_number ["_law_feed_here", "_law_size"] (sp_number) := ok__law_number T
  have G__law_of_lot : FnOk P w K mg base CX0 11 A.f__law_of_lot D.f__law_of_lot ["_law_feed_here"] (sp_oflot A) := ok__law_of_lot T
  have G__law_ratios : FnOk P w K mg base CX0 4 A.f__law_ratios D.f__law_ratios ["_law_pairs"] (sp_ratios A.Ratio) := ok__law_ratios T
  have G__law_refused : FnOk P w K mg base CX0 9 A.f__law_refused D.f__law_refused ["_law_row_here", "_law_p"] (sp_lref A) := ok__law_refused T
  have G__law_row : FnOk P w K mg base CX0 3 A.f__law_row D.f__law_row ["_law_feed_here", "_law_most"] (sp_lrow) := ok__law_row T
  have G__law_row_is : FnOk P w K mg base CX0 3 A.f__law_row_is D.f__law_row_is ["_law_values", "_law_pairs"] (sp_rowis A.Ratio) := ok__law_row_is T
  have G__law_take : FnOk P w K mg base CX0 1 A.f__law_take D.f__law_take ["_law_feed_here", "_law_size"] (sp_take) := ok__law_take T
  have G_shifted_row : FnOk P w K mg base (L2.CX P w) 8 A.f_shifted_row D.f_shifted_row ["row", "p"] (sp_shifted A) := ok_shifted_row T
  refine T.F_law.ok sc_law (fun vs H Q E h => ?_) (fun cdv A' outer s H vs Q E hr h => ?_)
  · obtain ⟨a, ns, rfl, _⟩ := h
    rfl
  · obtain ⟨a, ns, rfl, hS, hl, q⟩ := h
    refine ⟨_, (pss_cons (ps_set (i := 1) sc_law.nd rfl (.inl rfl) (pe_call G__law_feed (hr.mono (by decide)) rfl T.g__law_feed T.F__law_feed.kp T.b__law_feed .nil pass0 (pa_cons (pv 0) pa_nil)))
  (pss_cons (ps_for PassesOwn.never rfl (pi_range1 rfl T.z_range (pa_cons (pe_op op_add pe_int (pe_call G__law_take (hr.mono (by decide)) rfl T.g__law_take T.F__law_take.kp T.b__law_take .nil pass0 (pa_cons (pv 1) (pa_cons pe_int pa_nil)))) pa_nil)) (pg_name (i := 2) sc_law.nd rfl (.inl rfl)) (pss_cons (ps_set (i := 3) sc_law.nd rfl (.inl rfl) (pe_call G__law_row (hr.mono (by decide)) rfl T.g__law_row T.F__law_row.kp T.b__law_row .nil pass0 (pa_cons (pv 1) (pa_cons pe_int pa_nil))))
  (pss_cons (ps_set (i := 4) sc_law.nd rfl (.inl rfl) (pe_call G__law_coefficients (hr.mono (by decide)) rfl T.g__law_coefficients T.F__law_coefficients.kp T.b__law_coefficients .nil pass0 (pa_cons (pv 1) (pa_cons pe_int pa_nil))))
  (pss_cut (ps_if (pt_cmpR op_gt (pe_call G__law_take (hr.mono (by decide)) rfl T.g__law_take T.F__law_take.kp T.b__law_take .nil pass0 (pa_cons (pv 1) (pa_cons pe_int pa_nil))) pe_int (nomark _)) (pss_one (ps_set (i := 4) sc_law.nd rfl (.inl rfl) (pe_slice sl_list (pv 4) po_none (po_some (pe_callB call_len_seq rfl T.z_len (by decide +kernel) (pa_cons (pv 3) pa_nil)))))) pss_nil)
  (pss_cons (ps_set (i := 5) sc_law.nd rfl (.inl rfl) (pe_call G__law_ratios (hr.mono (by decide)) rfl T.g__law_ratios T.F__law_ratios.kp T.b__law_ratios .nil pass0 (pa_cons (pv 3) pa_nil)))
  (pss_cons (ps_set (i := 6) sc_law.nd rfl (.inl rfl) (pe_make T.M_Poly G_Poly_init (hr.mono (by decide)) rfl T.g_Poly b_Poly_init1 d_Poly_init1 pass0 (pa_cons (pe_call G__law_ratios (hr.mono (by decide)) rfl T.g__law_ratios T.F__law_ratios.kp T.b__law_ratios .nil pass0 (pa_cons (pv 4) pa_nil)) pa_nil)))
  (pss_cut (ps_if (pt_cmpR op_ge (pe_call G__law_degree (hr.mono (by decide)) rfl T.g__law_degree T.F__law_degree.kp T.b__law_degree .nil pass0 (pa_cons (pv 4) pa_nil)) (pe_callB call_len_seq rfl T.z_len (by decide +kernel) (pa_cons (pv 3) pa_nil)) (nomark _)) (pss_one (ps_if (pt_not (pt_val (pe_call G__law_refused (hr.mono (by decide)) rfl T.g__law_refused T.F__law_refused.kp T.b__law_refused .nil pass0 (pa_cons (pv 5) (pa_cons (pv 6) pa_nil))))) (pss_one (ps_ret pe_bl)) pss_nil)) (pss_one (ps_if (pt_not (pt_val (pe_call G__law_row_is (hr.mono (by decide)) rfl T.g__law_row_is T.F__law_row_is.kp T.b__law_row_is .nil pass0 (pa_cons (pe_call G_shifted_row (hr.mono (by decide)) rfl T.g_shifted_row T.F_shifted_row.kp T.b_shifted_row .nil passL (pa_cons (pv 5) (pa_cons (pv 6) pa_nil))) (pa_cons (pe_call G__law_due (hr.mono (by decide)) rfl T.g__law_due T.F__law_due.kp T.b__law_due .nil pass0 (pa_cons (pv 3) (pa_cons (pv 4) pa_nil))) pa_nil))))) (pss_one (ps_ret pe_bl)) pss_nil)))
  (pss_cons (ps_set (i := 7) sc_law.nd rfl (.inl rfl) (pe_make T.M_Poly G_Poly_init (hr.mono (by decide)) rfl T.g_Poly b_Poly_init1 d_Poly_init1 pass0 (pa_cons (pe_lst (pa_cons (pe_call G__law_number (hr.mono (by decide)) rfl T.g__law_number T.F__law_number.kp T.b__law_number .nil pass0 (pa_cons (pv 1) (pa_cons pe_int pa_nil))) (pa_cons (pe_call G__law_number (hr.mono (by decide)) rfl T.g__law_number T.F__law_number.kp T.b__law_number .nil pass0 (pa_cons (pv 1) (pa_cons pe_int pa_nil))) (pa_cons pe_int pa_nil)))) pa_nil)))
  (pss_cons (ps_set (i := 8) sc_law.nd rfl (.inl rfl) (pe_make T.M_Poly G_Poly_init (hr.mono (by decide)) rfl T.g_Poly b_Poly_init1 d_Poly_init1 pass0 (pa_cons (pe_lst (pa_cons (pe_call G__law_number (hr.mono (by decide)) rfl T.g__law_number T.F__law_number.kp T.b__law_number .nil pass0 (pa_cons (pv 1) (pa_cons pe_int pa_nil))) (pa_cons pe_int pa_nil))) pa_nil)))
  (pss_cut (ps_if (pt_cmpR op_gt (pe_callB call_len_seq rfl T.z_len (by decide +kernel) (pa_cons (pv 3) pa_nil)) pe_int (nomark _)) (pss_one (ps_if (pt_not (pt_cmpR (op_eqG (rcG_list eq_mon (RcG.eqG (rcG_ins (G_Ratio___eq__.imp eq_imp) T.m_Ratio___eq__.at_ T.m_Ratio___eq__.fn T.b_Ratio___eq__ pass0) eq_ref)) (hr.mono (by decide))) (pe_call G_shifted_row (hr.mono (by decide)) rfl T.g_shifted_row T.F_shifted_row.kp T.b_shifted_row .nil passL (pa_cons (pe_call G_shifted_row (hr.mono (by decide)) rfl T.g_shifted_row T.F_shifted_row.kp T.b_shifted_row .nil passL (pa_cons (pe_callTy call_tuple_of rfl T.z_tuple (by decide +kernel) (pa_cons (pv 5) pa_nil)) (pa_cons (pv 7) pa_nil))) (pa_cons (pv 8) pa_nil))) (pe_callN0 G_shifted_row (hr.mono (by decide)) rfl T.g_shifted_row T.F_shifted_row.kp T.kb0_shifted_row passL (pk_cons (pv 5) (pk_cons (pe_op (op_mul_own T.k_Poly.ow T.m_Poly___mul__ T.m_Poly___rmul__ G_Poly___mul__ (hr.mono (by decide)) T.b_Poly___mul__ pass0) (pv 7) (pv 8)) pk_nil))) (nomark _))) (pss_one (ps_ret pe_bl)) pss_nil)) (pss_one (ps_if (pt_not (pt_val (pe_call G__law_refused (hr.mono (by decide)) rfl T.g__law_refused T.F__law_refused.kp T.b__law_refused .nil pass0 (pa_cons (pv 5) (pa_cons (pe_op (op_mul_own T.k_Poly.ow T.m_Poly___mul__ T.m_Poly___rmul__ G_Poly___mul__ (hr.mono (by decide)) T.b_Poly___mul__ pass0) (pv 7) (pv 8)) pa_nil))))) (pss_one (ps_ret pe_bl)) pss_nil)))
  (pss_cons (ps_if (pt_not (pt_val (pe_call G__law_row_is (hr.mono (by decide)) rfl T.g__law_row_is T.F__law_row_is.kp T.b__law_row_is .nil pass0 (pa_cons (pe_call G_shifted_row (hr.mono (by decide)) rfl T.g_shifted_row T.F_shifted_row.kp T.b_shifted_row .nil passL (pa_cons (pv 5) (pa_cons (pe_make T.M_Poly G_Poly_init (hr.mono (by decide)) rfl T.g_Poly b_Poly_init1 d_Poly_init1 pass0 (pa_cons (pe_lst pa_nil) pa_nil)) pa_nil))) (pa_cons (pe_lc (own := [("_law_pair", 9)]) (g := gName 9) (tt := tYes) rfl sc_law.nd (pi_list (pv 3)) (blkOk_by (N := N_law) (sc := defScope s_law) (by decide +kernel)) (fun _ _ _ _ _ => (pg_name (i := 9) sc_law.nd rfl (.inl rfl))) (fun _ _ _ _ _ => pts_nil) (fun _ _ _ _ _ => (pe_lst (pa_cons pe_int (pa_cons pe_int pa_nil))))) pa_nil))))) (pss_one (ps_ret pe_bl)) pss_nil)
  (pss_one (ps_if (PW.pt (pw_or (pt_not (pt_val (pe_call G__law_row_is (hr.mono (by decide)) rfl T.g__law_row_is T.F__law_row_is.kp T.b__law_row_is .nil pass0 (pa_cons (pv 5) (pa_cons (pv 3) pa_nil))))) (pw_or1 (pt_not (pt_val (pe_call G__law_of_lot (hr.mono (by decide)) rfl T.g__law_of_lot T.F__law_of_lot.kp T.b__law_of_lot .nil pass0 (pa_cons (pv 1) pa_nil))))))) (pss_one (ps_ret pe_bl)) pss_nil)))))))))))))
  (pss_one (ps_ret pe_bl)))), ?_⟩
    refine ⟨_, rfl, a, ns, rfl, hS, hl, fun H1 f s1 F1 _ => ?_⟩
    refine ⟨_, rfl, f, 3, rfl, F1, by decide, .ab (by decide) (by decide), fun H2 v v0 v1 st => ⟨_, _, rfl, rfl, _, rfl, by omega, by omega, ?_⟩⟩
    refine for_range (lo := 0) (fun i σ H' => (∃ y2 y3 y4 y5 y6 y7 y8, σ = [some (.ref a), some (.ref f), y2, y3, y4, y5, y6, y7, y8, none]) ∧ FeedAt H' f) ⟨⟨_, _, _, _, _, _, _, rfl⟩, st.feed⟩ ?_ (fun σ H' _ => q H')
    clear st F1 hS s1
    rintro i σ H0 hi ⟨⟨y2, y3, y4, y5, y6, y7, y8, rfl⟩, F0⟩
    refine ⟨_, rfl, f, rfl, F0, fun H1 vr L st1 pL l0 l1 wL => ?_⟩
    refine ⟨_, rfl, f, rfl, st1.feed, fun H2 vc M0 st2 pM0 m1 wM0 => ?_⟩
    have pL2 := pL.stp st1.feed st2
    have F2 := st2.feed
    clear pL st1 st2 F0
    refine ⟨fun σ' G => ∃ (vc : V) (M : List (Int × Int)), FeedAt G f ∧ PairsAt G vr L.length (LF L) ∧ PairsAt G vc M.length (LF M) ∧ M.length ≤ 14 ∧ Drw 70 20 M ∧ σ' = [some (.ref a), some (.ref f), some (.int (0 + i)), some vr, some vc, y5, y6, y7, y8, none], ?_, ?_⟩
    · refine ⟨_, rfl, f, 3, rfl, F2, by decide, .ab (by decide) (by decide), fun H3 u u0 u1 st3 => ⟨_, _, rfl, rfl, _, rfl, ?_⟩⟩
      have pL3 := pL2.stp F2 st3
      have pM3 := pM0.stp F2 st3
      refine ite2 (fun _ => ?_) (fun _ => ⟨vc, M0, st3.feed, pL3, pM3, m1, wM0, rfl⟩)
      have pLk := pL3
      obtain ⟨ar, rs, rfl, har, lr, hpr⟩ := pL3
      obtain ⟨ac, ss, rfl, hac, lc, hpc⟩ := pM3
      refine ⟨_, rfl, _, rfl, ar, _, rfl, .inl (.of har), _, rfl, ac, _, rfl, .of hac, fun d nd => ?_⟩
      have k4 := same_upd (o := .lst ((ss.take L.length).map V.ref)) nd
      rw [List.length_map, lr, cut_take, ← List.map_take]
      refine ⟨.ref d, M0.take L.length, st3.feed.same k4, pLk.same k4, ⟨d, ss.take L.length, rfl, upd_same, by rw [List.length_take, List.length_take, lc], fun k r e => ?_⟩, by rw [List.length_take]; omega, fun x hx => wM0 x (List.mem_of_mem_take hx), rfl⟩
      rw [List.getElem?_take] at e
      split at e
      · rename_i hk
        rw [LF_take hk]
        exact k4 _ _ (hpc k r e)
      · cases e
    clear pL2 pM0 m1 wM0 F2
    rintro σ' G ⟨vc, M, F, pL, pM, m1, wM, rfl⟩
    have bL := LF_ok wL (by decide)
    have bM := LF_ok wM (by decide)
    have g0 : ∀ k, 0 < (LF L k).2 := fun k => (bL k).1
    refine ⟨_, rfl, vr, L.length, LF L, 100, 40, rfl, pL, by omega, by decide, by decide, fun k _ => bL k, fun G1 d ys k1 hd ly hy => ?_⟩
    refine ⟨_, rfl, vc, M.length, LF M, 70, 20, rfl, pM.same k1, by omega, by decide, by decide, fun k _ => bM k, fun G2 d1 xs k2 hd1 lx hx => ?_⟩
    refine fun x dx nx ndx ne => poly_make nx ndx (.inl hd1) hx.nums (by omega) (by decide) (by decide) (fun k hk => ?_) (fun k => (bM k).1) fun G3 s k3 hp hs => ⟨rfl, ?_⟩
    · rw [LF_out (by omega)]
    have k13 := (k1.trans k2).trans k3
    have B : Bun A G3 f d vr L ys := ⟨F.same k13, pL.same k13, k3 _ _ (k2 _ _ hd), (hy.same k2).same k3⟩
    have pM3 := pM.same k13
    have hs : s ≤ M.length := by omega
    clear hd1 hx k1 k2 k3 k13 nx ndx pL pM F lx hd hy
    refine ⟨fun σ' G => ∃ y6 : Option V, Bun A G f d vr L ys ∧ σ' = [some (.ref a), some (.ref f), some (.int (0 + i)), some vr, some vc, some (.ref d), y6, y7, y8, none], ?_, ?_⟩
    · have pLk := B.pL
      obtain ⟨ar, rs, rfl, har, lr, hpr⟩ := pLk
      refine ⟨_, rfl, vc, M.length, LF M, rfl, pM3, m1, fun s' h1 h2 h3 => ?_⟩
      have es : s = s' := deg_eq hp.zero hp.last h2 h3 hs h1
      subst es
      refine ⟨_, rfl, ar, _, rfl, .inl (.of har), _, _, rfl, rfl, _, rfl, ?_⟩
      rw [List.length_map, lr]
      refine ite2 (fun c => ?_) (fun c => ?_)
      · have hl : L.length < s := by
          have := of_decide_eq_true c
          omega
        refine ⟨_, rfl, _, rfl, .ref d, .ref x, ys, LF L, 100, 40, 70, 20, s, LF M, rfl, ⟨d, rfl, .inl B.hd⟩, B.hy.nums, g0, by omega, by omega, by decide, by decide, by omega, hp, by decide, by decide, by omega, by omega, fun G4 k4 => ⟨true, rfl, iteF ?_⟩⟩
        exact ⟨_, B.same k4, rfl⟩
      · have hl : s ≤ L.length := by
          rcases Nat.lt_or_ge L.length s with e | e
          · exact absurd (decide_eq_true (by omega)) c
          · exact e
        refine ⟨_, rfl, _, rfl, .ref d, .ref x, ys, LF L, 100, 40, 70, 20, s, LF M, rfl, ⟨d, rfl, .inl B.hd⟩, B.hy.nums, g0, by omega, by omega, by decide, by decide, by omega, hp, by decide, by decide, by omega, .inl ⟨by omega, fun G4 d4 zs k4 hd4 lz hz => ?_⟩⟩
        have B4 := B.same k4
        refine ⟨_, rfl, _, rfl, .ref ar, vc, L.length, M.length, LF L, LF M, rfl, B4.pL, pM3.same k4, m1, l1, bL, bM, fun G5 v5 s' X k5 h1' h2' h3' lX hX pX => ?_⟩
        have es : s = s' := deg_eq hp.zero hp.last h2' h3' hs h1'
        subst es
        have lX := lX hl
        refine ⟨d4, v5, zs, LF X, X.length, LF X, rfl, k5 _ _ hd4, fun k y e => ?_, by omega, by omega, pX, fun k hk => ?_, true, rfl, iteF ?_⟩
        · have hk := (List.getElem?_eq_some_iff.mp e).1
          obtain ⟨x1, x2, x3, x4⟩ := hX k (by omega)
          exact (((hz k y e).same k5).to x1 x2.symm).isF (nle x3 (by decide)) x4
        · obtain ⟨x1, x2, x3, x4⟩ := hX k hk
          exact ⟨rfl, nle x3 (by decide), nle x4 (by decide)⟩
        · exact ⟨_, B4.same k5, rfl⟩
    clear B hp pM3
    rintro σ' G4 ⟨y6, B, rfl⟩
    -- two Polys
    have cn : ∀ {c : List Int}, (∀ x ∈ c, x.natAbs < 2 ^ 4) → ∀ {H : Hp}, Nums A.Ratio 4 1 H (c.map V.int) (intF c) := by
      intro c hc H k y e
      have hk := (List.getElem?_eq_some_iff.mp e).1
      rw [List.length_map] at hk
      rw [int_at hk] at e
      cases e
      exact ⟨_, 1, .inl ⟨rfl, rfl⟩, by decide, by show (0 : Int) < 1; decide, rfl, getD_lt hc k, by decide⟩
    have cz : ∀ {c : List Int} (k : Nat), (c.map V.int).length ≤ k → (intF c k).1 = 0 := fun {c} k hk => by
      rw [List.length_map] at hk
      show c.getD k 0 = 0
      rw [List.getD_eq_getElem?_getD, List.getElem?_eq_none hk]
      rfl
    refine ⟨_, rfl, f, 9, rfl, B.F, by decide, .ab (by decide) (by decide), fun G5 c0 c00 c01 t5 => ⟨_, rfl, f, 9, rfl, t5.feed, by decide, .ab (by decide) (by decide), fun G6 c1 c10 c11 t6 => ⟨by show 3 ≤ sizeLine; decide, fun pq npq => ?_⟩⟩⟩
    have k7 := same_upd (o := .lst ([c0, c1, 1].map V.int)) npq
    have B7 := ((B.stp t5).stp t6).same k7
    have hcq : ∀ y ∈ [c0, c1, 1], y.natAbs < 2 ^ 4 := fun y hy => by
      rcases List.mem_cons.mp hy with e | hy
      · omega
      rcases List.mem_cons.mp hy with e | hy
      · omega
      rcases List.mem_cons.mp hy with e | hy
      · rw [e]; decide
      · cases hy
    refine fun xq dq n1 n2 n3 => poly_make n1 n2 (.inl upd_same) (cn hcq) (by show 3 ≤ 20; decide) (by decide) (by decide) (@cz [c0, c1, 1]) (fun k => by show (0 : Int) < 1; decide) fun G8 sq k8 hq lq => ⟨rfl, ?_⟩
    have esq : sq = 3 := by
      have lq : sq ≤ 3 := lq
      rcases Nat.lt_or_ge 2 sq with e | e
      · omega
      · have z : (1 : Int) = 0 := hq.zero 2 e
        omega
    subst esq
    have B8 := B7.same k8
    clear B B7 k7 k8 t5 t6 n1 n2 n3 npq lq
    refine ⟨_, rfl, f, 9, rfl, B8.F, by decide, .ab (by decide) (by decide), fun G9 e0 e00 e01 t9 => ⟨by show 2 ≤ sizeLine; decide, fun pr npr => ?_⟩⟩
    have k10 := same_upd (o := .lst ([e0, 2].map V.int)) npr
    have B10 := (B8.stp t9).same k10
    have hq9 : PolyAt A 4 1 G9 (.ref xq) 3 (intF [c0, c1, 1]) := by
      obtain ⟨⟨a2, dx2, tp2, ys2, l2, e2, h2, h3, h4, h5⟩, z, z1, z2⟩ := hq
      refine ⟨⟨a2, dx2, tp2, ys2, l2, e2, t9.keep _ _ (B8.F.ne h2 fun _ _ _ _ _ _ w => by cases w) h2, t9.keep _ _ (B8.F.ne h3 fun _ _ _ _ _ _ w => by cases w) h3, h4, fun k y e => ?_⟩, z, z1, z2⟩
      obtain ⟨t, b, r, p⟩ := h5 k y e
      exact ⟨t, b, rat_stp B8.F t9 r, p⟩
    have hcr : ∀ y ∈ [e0, 2], y.natAbs < 2 ^ 4 := fun y hy => by
      rcases List.mem_cons.mp hy with e | hy
      · omega
      rcases List.mem_cons.mp hy with e | hy
      · rw [e]; decide
      · cases hy
    refine fun xr dr n1 n2 n3 => poly_make n1 n2 (.inl upd_same) (cn hcr) (by show 2 ≤ 20; decide) (by decide) (by decide) (@cz [e0, 2]) (fun k => by show (0 : Int) < 1; decide) fun G11 sr k11 hr lr' => ⟨rfl, ?_⟩
    have esr : sr = 2 := by
      have lr' : sr ≤ 2 := lr'
      rcases Nat.lt_or_ge 1 sr with e | e
      · omega
      · have z : (2 : Int) = 0 := hr.zero 1 e
        omega
    subst esr
    have B11 := B10.same k11
    have hq11 := (hq9.same k10).same k11
    clear B8 B10 hq hq9 k10 k11 t9 n1 n2 n3 npr lr'
    -- the product
    have prod : ∀ {G : Hp} {Q : VK} {E : XK}, PolyAt A 4 1 G (.ref xq) 3 (intF [c0, c1, 1]) → PolyAt A 4 1 G (.ref xr) 2 (intF [e0, 2]) → (∀ H' v ts us U B, Same G H' → ts.length = 3 → us.length = 2 → 0 < U → 0 < B → (∀ j, ts.getD j 0 = [c0, c1, 1].getD j 0 * U) → (∀ j, us.getD j 0 = [e0, 2].getD j 0 * B) → PolyAt A 21 7 H' v 4 (fun k => (cv ts us k, U * B)) → Q v H') → sp_pprod A [.ref xq, .ref xr] G Q E := fun {G Q E} hq hr hQ => by
      refine ⟨.ref xq, .ref xr, 4, 1, 4, 1, 3, 2, 8, 7, _, _, rfl, hq, hr, by decide, by decide, by decide, by decide, by decide, by decide, by decide, by decide, by decide, by decide, fun H' v s3 ts us U B k ht hu lt lu u0 b0 hp l3 => ?_⟩
      have et : ∀ j, ts.getD j 0 = [c0, c1, 1].getD j 0 * U := fun j => by
        rcases Nat.lt_or_ge j 3 with e | e
        · have := (getD_tops ht (show j < ts.length by omega)).2
          have h : ts.getD j 0 * 1 = [c0, c1, 1].getD j 0 * U := this
          rw [Int.mul_one] at h
          exact h
        · rw [List.getD_eq_getElem?_getD, List.getElem?_eq_none (by omega), List.getD_eq_getElem?_getD, List.getElem?_eq_none (show [c0, c1, 1].length ≤ j from e)]
          simp
      have eu : ∀ j, us.getD j 0 = [e0, 2].getD j 0 * B := fun j => by
        rcases Nat.lt_or_ge j 2 with e | e
        · have := (getD_tops hu (show j < us.length by omega)).2
          have h : us.getD j 0 * 1 = [e0, 2].getD j 0 * B := this
          rw [Int.mul_one] at h
          exact h
        · rw [List.getD_eq_getElem?_getD, List.getElem?_eq_none (by omega), List.getD_eq_getElem?_getD, List.getElem?_eq_none (show [e0, 2].length ≤ j from e)]
          simp
      have z2 : us.getD 2 0 = 0 := by rw [List.getD_eq_getElem?_getD, List.getElem?_eq_none (by omega)]; rfl
      have z3 : us.getD 3 0 = 0 := by rw [List.getD_eq_getElem?_getD, List.getElem?_eq_none (by omega)]; rfl
      have z4 : us.getD 4 0 = 0 := by rw [List.getD_eq_getElem?_getD, List.getElem?_eq_none (by omega)]; rfl
      have c3 : cv ts us 3 = ts.getD 2 0 * us.getD 1 0 := by
        show ((List.range ts.length).map (cvT ts us 3)).sum = _
        rw [lt]
        show (ts.getD 0 0 * us.getD 3 0) + ((ts.getD 1 0 * us.getD 2 0) + (ts.getD 2 0 * us.getD 1 0 + 0)) = _
        rw [z2, z3]
        omega
      have c4 : cv ts us 4 = 0 := by
        show ((List.range ts.length).map (cvT ts us 4)).sum = _
        rw [lt]
        show (ts.getD 0 0 * us.getD 4 0) + ((ts.getD 1 0 * us.getD 3 0) + (ts.getD 2 0 * us.getD 2 0 + 0)) = _
        rw [z2, z3, z4]
        omega
      have c3' : cv ts us 3 ≠ 0 := by
        rw [c3, et 2, eu 1]
        show 1 * U * (2 * B) ≠ 0
        have := Int.mul_pos (show 0 < 1 * U by omega) (show 0 < 2 * B by omega)
        omega
      have e3 : s3 = 4 := by
        rcases Nat.lt_trichotomy s3 4 with e | e | e
        · exact absurd (hp.zero 3 (by omega)) c3'
        · exact e
        · have : s3 = 5 := by omega
          subst this
          exact absurd c4 (hp.last (by decide))
      subst e3
      exact hQ H' v ts us U B k lt lu u0 b0 et eu hp
    have pos1 : ∀ k, 0 < (shF (intF [c0, c1, 1]) (LF L) 3 k).2 := fun k => sumQ_pos (fun _ => by show (0 : Int) < 1; decide) (fun _ => g0 _) 3
    have pos2 : ∀ k, 0 < (shF (intF [e0, 2]) (shF (intF [c0, c1, 1]) (LF L) 3) 2 k).2 := fun k => sumQ_pos (fun _ => by show (0 : Int) < 1; decide) (fun _ => pos1 _) 2
    have b1 : ∀ k, (shF (intF [c0, c1, 1]) (LF L) 3 k).1.natAbs < 2 ^ 231 ∧ (shF (intF [c0, c1, 1]) (LF L) 3 k).2.natAbs < 2 ^ 124 := fun k => sumQ_lt (a := 100) (b := 40) (getD_lt hcq) (fun k => ⟨(bL k).2.1, (bL k).2.2⟩) k 3
    have b2 : ∀ k, (shF (intF [e0, 2]) (shF (intF [c0, c1, 1]) (LF L) 3) 2 k).1.natAbs < 2 ^ 488 ∧ (shF (intF [e0, 2]) (shF (intF [c0, c1, 1]) (LF L) 3) 2 k).2.natAbs < 2 ^ 251 := fun k => sumQ_lt (a := 231) (b := 124) (getD_lt hcr) b1 k 2
    refine ⟨fun σ' G => Bun A G f d vr L ys ∧ σ' = [some (.ref a), some (.ref f), some (.int (0 + i)), some vr, some vc, some (.ref d), y6, some (.ref xq), some (.ref xr), none], ?_, ?_⟩
    · have pLk := B11.pL
      obtain ⟨ar, rs, rfl, har, lr, hpr⟩ := pLk
      refine ⟨_, rfl, ar, _, rfl, .inl (.of har), _, _, rfl, rfl, _, rfl, ?_⟩
      rw [List.length_map, lr]
      refine ite2 (fun c => ?_) (fun c => ?_)
      · have l4 : 4 ≤ L.length := by
          have := of_decide_eq_true c
          omega
        refine ⟨_, rfl, d, ys, rfl, .inl ⟨.of B11.hd, fun tl ntl => ?_⟩⟩
        have k12 := same_upd (o := .tup ys) ntl
        have B12 := B11.same k12
        refine ⟨_, rfl, .ref tl, .ref xq, ys, LF L, 100, 40, 4, 1, 3, intF [c0, c1, 1], rfl, ⟨tl, rfl, .inr upd_same⟩, B12.hy.nums, g0, by omega, by omega, by decide, by decide, by omega, hq11.same k12, by decide, by decide, by decide, .inl ⟨by omega, fun G13 d13 zs k13 hd13 lz hz => ?_⟩⟩
        have B13 := B12.same k13
        have hq13 := (hq11.same k12).same k13
        have hr13 := (hr.same k12).same k13
        refine ⟨_, rfl, .ref d13, .ref xr, zs, shF (intF [c0, c1, 1]) (LF L) 3, 231, 124, 4, 1, 2, intF [e0, 2], rfl, ⟨d13, rfl, .inl hd13⟩, (hz.rats fun k _ => b1 k).nums, pos1, by omega, by omega, by decide, by decide, by omega, hr13, by decide, by decide, by decide, .inl ⟨by omega, fun G14 d14 ws k14 hd14 lw hw => ?_⟩⟩
        have B14 := B13.same k14
        refine ⟨_, rfl, _, rfl, _, rfl, (hq13.same k14).ins, .inr (hr13.same k14).ins, prod (hq13.same k14) (hr13.same k14) fun G15 v15 ts us U Bt k15 lt lu u0 b0 et eu hp15 => ?_⟩
        have B15 := B14.same k15
        refine ⟨rfl, rfl, .ref d, v15, ys, LF L, 100, 40, 21, 7, 4, _, rfl, ⟨d, rfl, .inl B15.hd⟩, B15.hy.nums, g0, by omega, by omega, by decide, by decide, by omega, hp15, by decide, by decide, by decide, .inl ⟨by omega, fun G16 d16 vs k16 hd16 lv hv => ?_⟩⟩
        have k456 := k15.trans k16
        refine ⟨⟨d14, d16, ws, vs, rfl, rfl, k456 _ _ hd14, hd16, by omega, fun j x y ex ey => ?_⟩, fun G17 k17 => ⟨_, rfl, iteF ⟨(B15.same k16).same k17, rfl⟩⟩⟩
        have hj := (List.getElem?_eq_some_iff.mp ex).1
        have tw := shift_twice (g := LF L) (c := [c0, c1, 1]) (d := [e0, 2]) (n := L.length) (k := j) g0 lt lu u0 b0 et eu (by omega)
        exact eq_dins (((hw j x ex).same k456).isF (b2 j).1 (b2 j).2) (((hv j y ey).to (pos2 j) tw.symm).isF (b2 j).1 (b2 j).2) (by decide) (by decide) (by decide) (by decide) rfl
      · have l4 : L.length < 4 := by
          rcases Nat.lt_or_ge L.length 4 with e | e
          · exact e
          · exact absurd (decide_eq_true (by omega)) c
        refine ⟨_, rfl, _, rfl, _, rfl, hq11.ins, .inr hr.ins, prod hq11 hr fun G15 v15 ts us U Bt k15 lt lu u0 b0 et eu hp15 => ?_⟩
        have B15 := B11.same k15
        refine ⟨.ref d, v15, ys, LF L, 100, 40, 21, 7, 4, _, rfl, ⟨d, rfl, .inl B15.hd⟩, B15.hy.nums, g0, by omega, by omega, by decide, by decide, by omega, hp15, by decide, by decide, by decide, by omega, fun G16 k16 => ⟨true, rfl, iteF ⟨B15.same k16, rfl⟩⟩⟩
    clear B11 hq11 hr prod pos1 pos2 b1 b2 cn cz hcq hcr
    rintro σ' G12 ⟨B, rfl⟩
    have pLk := B.pL
    obtain ⟨ar, rs, rfl, har, lr, hpr⟩ := pLk
    -- no coefficient
    refine ⟨_, rfl, by show 0 ≤ sizeLine; decide, fun pn npn => ?_⟩
    have k10 := same_upd (o := .lst []) npn
    refine fun x dx nx ndx ne => poly_make (xs := []) (f := fun _ => (0, 1)) (n := 100) (m := 1) nx ndx (.inl upd_same) (fun k y e => by simp at e) (by show 0 ≤ 20; decide) (by decide) (by decide) (fun k hk => rfl) (fun k => by show (0 : Int) < 1; decide) fun G13 s13 k11 hp11 l11 => ⟨rfl, ?_⟩
    have e11 : s13 = 0 := Nat.le_zero.mp l11
    subst e11
    have B13 := (B.same k10).same k11
    have har13 := k11 _ _ (k10 _ _ har)
    refine ⟨.ref d, .ref x, ys, LF L, 100, 40, 100, 1, 0, _, rfl, ⟨d, rfl, .inl B13.hd⟩, B13.hy.nums, g0, by omega, by omega, by decide, by decide, by omega, hp11, by decide, by decide, by decide, .inl ⟨by omega, fun G14 d14 zs k14 hd14 lz hz => ?_⟩⟩
    have B14 := B13.same k14
    have har14 := k14 _ _ har13
    refine ⟨_, rfl, ar, rfl, ⟨_, .of har14⟩, fun dn ndn => ?_⟩
    refine lc_list (K := K) (a := ar) (xs := rs.map V.ref) (fun j E => Same G14 E ∧ ∃ ts : List Addr, E dn = some (.lst (ts.map V.ref)) ∧ ts.length = j ∧ Prsd E ts (fun _ => (0, 1))) ⟨same_upd ndn, [], upd_same, rfl, Prsd.nil⟩ (fun j E _ p => .of (p.1 _ _ har14)) ?_ ?_
    · rintro j y E hy ⟨sm, ts, hdn, lt, ht⟩
      have hj := (List.getElem?_eq_some_iff.mp hy).1
      rw [List.length_map] at hj
      refine ⟨rfl, by show 2 ≤ sizeLine; decide, fun r nr => ?_⟩
      have kr := same_upd (o := two 0 1) nr
      have hdn2 := kr _ _ hdn
      exact ⟨_, hdn2, by rw [List.length_map]; exact small1000 (by omega), same_push (sm.trans kr) ndn, ts ++ [r], by rw [upd_same, List.map_append]; rfl, by rw [List.length_append, lt]; rfl, (ht.same kr).push upd_same hdn2⟩
    rintro E ⟨sm, ts, hdn, lt, ht⟩
    rw [List.length_map] at lt
    have B15 := B14.same sm
    refine ⟨d14, .ref dn, zs, fun _ => (0, 1), L.length, fun _ => (0, 1), rfl, sm _ _ hd14, fun k y e => ((hz k y e).same sm).isF (Nat.two_pow_pos _) (by show (1 : Int).natAbs < 2 ^ 1000; exact Nat.one_lt_two_pow (by decide)), by omega, by omega, ⟨dn, ts, rfl, hdn, by omega, ht⟩, fun k hk => ⟨rfl, Nat.two_pow_pos _, Nat.one_lt_two_pow (by decide)⟩, true, rfl, iteF ?_⟩
    refine ⟨_, rfl, _, rfl, d, .ref ar, ys, LF L, L.length, LF L, rfl, B15.hd, B15.hy.mono (by decide) (by decide), ly, by omega, B15.pL, fun k hk => ⟨rfl, nle (bL k).2.1 (by decide), nle (bL k).2.2 (by decide)⟩, true, rfl, iteF ?_⟩
    refine ⟨_, rfl, f, rfl, B15.F, fun G16 st => ⟨true, rfl, iteF ?_⟩⟩
    exact ⟨⟨_, _, _, _, _, _, _, rfl⟩, st.feed⟩
end

end Mo

namespace Mo
open PySem PySem.Spec PyProof.Rows L2 MoL MoW
open C8 (pss_cut tCut)
/-! ### what the top has written -/
theorem all_mk {l : PySem.W.OpenLaw} {w : World} {K : PySem.W.Frag} {h : Heap} {mg : Str → Option Value} {fa C_Ratio C_Poly C_NoMean C_MeansError C_NoRow f0 f1 f2 f3 f4 f5 f6 f7 f8 f9 f10 f11 f12 f13 f14 f15 f16 f17 f18 f19 f20 f21 f22 f23 f24 f25 f26 f27 f28 f29 f30 f31 f32 f33 f34 f35 : Addr} (X : K.In h) (G : h.Ns mainGlobals mg) (hfa : mg "law" = some (.ref fa))
    {od0 an0 od1 an1 od2 an2 od3 an3 od4 an4 od5 an5 od6 an6 od7 an7 od8 an8 od9 an9 od10 an10 od11 an11 od12 an12 od13 an13 od14 an14 od15 an15 od16 an16 od17 an17 od18 an18 od19 an19 od20 an20 od21 an21 od22 an22 od23 an23 od24 an24 od25 an25 od26 an26 od27 an27 od28 an28 od29 an29 od30 an30 od31 an31 od32 an32 od33 an33 od34 an34 od35 an35 : Option Addr} {sl0 sl1 sl2 sl3 sl4 sl5 sl6 sl7 sl8 sl9 sl10 sl11 sl12 sl13 sl14 sl15 sl16 sl17 sl18 sl19 sl20 sl21 sl22 sl23 sl24 sl25 sl26 sl27 sl28 sl29 sl30 sl31 sl32 sl33 sl34 sl35 : Array (Option Value)} {oc0 kV0 dc0 pm0 ct0 cd0 oc1 kV1 dc1 pm1 ct1 cd1 oc2 kV2 dc2 pm2 ct2 cd2 oc3 kV3 dc3 pm3 ct3 cd3 oc4 kV4 dc4 pm4 ct4 cd4 oc5 kV5 dc5 pm5 ct5 cd5 oc6 kV6 dc6 pm6 ct6 cd6 oc7 kV7 dc7 pm7 ct7 cd7 oc8 kV8 dc8 pm8 ct8 cd8 oc9 kV9 dc9 pm9 ct9 cd9 oc10 kV10 dc10 pm10 ct10 cd10 oc11 kV11 dc11 pm11 ct11 cd11 oc12 kV12 dc12 pm12 ct12 cd12 oc13 kV13 dc13 pm13 ct13 cd13 oc14 kV14 dc14 pm14 ct14 cd14 oc15 kV15 dc15 pm15 ct15 cd15 oc16 kV16 dc16 pm16 ct16 cd16 oc17 kV17 dc17 pm17 ct17 cd17 oc18 kV18 dc18 pm18 ct18 cd18 oc19 kV19 dc19 pm19 ct19 cd19 oc20 kV20 dc20 pm20 ct20 cd20 oc21 kV21 dc21 pm21 ct21 cd21 oc22 kV22 dc22 pm22 ct22 cd22 oc23 kV23 dc23 pm23 ct23 cd23 oc24 kV24 dc24 pm24 ct24 cd24 oc25 kV25 dc25 pm25 ct25 cd25 oc26 kV26 dc26 pm26 ct26 cd26 oc27 kV27 dc27 pm27 ct27 cd27 oc28 kV28 dc28 pm28 ct28 cd28 oc29 kV29 dc29 pm29 ct29 cd29 oc30 kV30 dc30 pm30 ct30 cd30 oc31 kV31 dc31 pm31 ct31 cd31 oc32 kV32 dc32 pm32 ct32 cd32 oc33 kV33 dc33 pm33 ct33 cd33 oc34 kV34 dc34 pm34 ct34 cd34 oc35 kV35 dc35 pm35 ct35 cd35 : Value} {T0 : Addr} {td0 : Option Addr} {tn0 : Nat} {ts0 : Array (Option Value)} {tt0_0 : Tok} {tok_MOST_NUMBERS : Tok} {q_MeansError : Str} {N_MeansError : Addr} {bs_MeansError sub_MeansError : List Value} {sn_MeansError : List Str} {ab_MeansError : Bool} {col_MeansError : Option Bool} {dd_MeansError : Option Addr} {m0_MeansError m1_MeansError m2_MeansError m3_MeansError m5_MeansError : Option Value} {q_NoMean : Str} {N_NoMean : Addr} {bs_NoMean sub_NoMean : List Value} {sn_NoMean : List Str} {ab_NoMean : Bool} {col_NoMean : Option Bool} {dd_NoMean : Option Addr} {m0_NoMean m1_NoMean m2_NoMean m3_NoMean m5_NoMean : Option Value}
    (g_Ratio : PySem.W.nsIn K mainGlobals "Ratio" = some (some (.ref C_Ratio)))
    (g_Poly : PySem.W.nsIn K mainGlobals "Poly" = some (some (.ref C_Poly)))
    (g_MeansError : PySem.W.nsIn K mainGlobals "MeansError" = some (some (.ref C_MeansError)))
    (g_NoRow : PySem.W.nsIn K mainGlobals "NoRow" = some (some (.ref C_NoRow)))
    (g_NoMean : PySem.W.nsIn K mainGlobals "NoMean" = some (some (.ref C_NoMean)))
    (xL_MeansError : K.lookup C_MeansError = some (excClassObj "MeansError" q_MeansError C_MeansError N_MeansError bs_MeansError [.type "ValueError", .type "Exception", .type "BaseException", .type "object"] true sn_MeansError sub_MeansError ab_MeansError col_MeansError dd_MeansError m0_MeansError m1_MeansError m2_MeansError m3_MeansError m5_MeansError "ValueError.__new__"))
    (xL_NoMean : K.lookup C_NoMean = some (excClassObj "NoMean" q_NoMean C_NoMean N_NoMean bs_NoMean [.ref C_MeansError, .type "ValueError", .type "Exception", .type "BaseException", .type "object"] true sn_NoMean sub_NoMean ab_NoMean col_NoMean dd_NoMean m0_NoMean m1_NoMean m2_NoMean m3_NoMean m5_NoMean "ValueError.__new__"))
    (a0 : PySem.W.findIn K (.ref C_Ratio) "__init__" = some (some (.ref f0)))
    (i0 : PySem.W.isFn K (.ref f0) = true)
    (l0 : K.lookup f0 = some ⟨oc0, od0, .func (PySem.W.fnOf "__init__" "Ratio.__init__" (defArgs s_Ratio___init__) (defBody s_Ratio___init__) (defScope s_Ratio___init__) (.ref T0) kV0 dc0 pm0 an0 cd0 ct0), sl0⟩)
    (c0 : PySem.W.codeIn K cd0 "Ratio.__init__" = true)
    (k0 : PySem.W.keepIn K (.ref f0) = true)
    (t0 : K.lookup T0 = some ⟨.type "tuple", td0, .seq #[.int 1 tt0_0] tn0, ts0⟩)
    (a1 : PySem.W.findIn K (.ref C_Ratio) "__eq__" = some (some (.ref f1)))
    (i1 : PySem.W.isFn K (.ref f1) = true)
    (l1 : K.lookup f1 = some ⟨oc1, od1, .func (PySem.W.fnOf "__eq__" "Ratio.__eq__" (defArgs s_Ratio___eq__) (defBody s_Ratio___eq__) (defScope s_Ratio___eq__) .none kV1 dc1 pm1 an1 cd1 ct1), sl1⟩)
    (c1 : PySem.W.codeIn K cd1 "Ratio.__eq__" = true)
    (k1 : PySem.W.keepIn K (.ref f1) = true)
    (a2 : PySem.W.nsIn K mainGlobals "is_whole" = some (some (.ref f2)))
    (l2 : K.lookup f2 = some ⟨oc2, od2, .func (PySem.W.fnOf "is_whole" "is_whole" (defArgs s_is_whole) (defBody s_is_whole) (defScope s_is_whole) .none kV2 dc2 pm2 an2 cd2 ct2), sl2⟩)
    (c2 : PySem.W.codeIn K cd2 "is_whole" = true)
    (k2 : PySem.W.keepIn K (.ref f2) = true)
    (a3 : PySem.W.nsIn K mainGlobals "is_number" = some (some (.ref f3)))
    (l3 : K.lookup f3 = some ⟨oc3, od3, .func (PySem.W.fnOf "is_number" "is_number" (defArgs s_is_number) (defBody s_is_number) (defScope s_is_number) .none kV3 dc3 pm3 an3 cd3 ct3), sl3⟩)
    (c3 : PySem.W.codeIn K cd3 "is_number" = true)
    (k3 : PySem.W.keepIn K (.ref f3) = true)
    (a4 : PySem.W.nsIn K mainGlobals "ratio_of" = some (some (.ref f4)))
    (l4 : K.lookup f4 = some ⟨oc4, od4, .func (PySem.W.fnOf "ratio_of" "ratio_of" (defArgs s_ratio_of) (defBody s_ratio_of) (defScope s_ratio_of) .none kV4 dc4 pm4 an4 cd4 ct4), sl4⟩)
    (c4 : PySem.W.codeIn K cd4 "ratio_of" = true)
    (k4 : PySem.W.keepIn K (.ref f4) = true)
    (a5 : PySem.W.nsIn K mainGlobals "whole_parts" = some (some (.ref f5)))
    (l5 : K.lookup f5 = some ⟨oc5, od5, .func (PySem.W.fnOf "whole_parts" "whole_parts" (defArgs s_whole_parts) (defBody s_whole_parts) (defScope s_whole_parts) .none kV5 dc5 pm5 an5 cd5 ct5), sl5⟩)
    (c5 : PySem.W.codeIn K cd5 "whole_parts" = true)
    (k5 : PySem.W.keepIn K (.ref f5) = true)
    (a6 : PySem.W.nsIn K mainGlobals "_gap" = some (some (.ref f6)))
    (l6 : K.lookup f6 = some ⟨oc6, od6, .func (PySem.W.fnOf "_gap" "_gap" (defArgs s__gap) (defBody s__gap) (defScope s__gap) .none kV6 dc6 pm6 an6 cd6 ct6), sl6⟩)
    (c6 : PySem.W.codeIn K cd6 "_gap" = true)
    (k6 : PySem.W.keepIn K (.ref f6) = true)
    (a7 : PySem.W.nsIn K mainGlobals "trimmed" = some (some (.ref f7)))
    (l7 : K.lookup f7 = some ⟨oc7, od7, .func (PySem.W.fnOf "trimmed" "trimmed" (defArgs s_trimmed) (defBody s_trimmed) (defScope s_trimmed) .none kV7 dc7 pm7 an7 cd7 ct7), sl7⟩)
    (c7 : PySem.W.codeIn K cd7 "trimmed" = true)
    (k7 : PySem.W.keepIn K (.ref f7) = true)
    (a8 : PySem.W.nsIn K mainGlobals "shifted_row" = some (some (.ref f8)))
    (l8 : K.lookup f8 = some ⟨oc8, od8, .func (PySem.W.fnOf "shifted_row" "shifted_row" (defArgs s_shifted_row) (defBody s_shifted_row) (defScope s_shifted_row) .none kV8 dc8 pm8 an8 cd8 ct8), sl8⟩)
    (c8 : PySem.W.codeIn K cd8 "shifted_row" = true)
    (k8 : PySem.W.keepIn K (.ref f8) = true)
    (a9 : PySem.W.nsIn K mainGlobals "row_numbers" = some (some (.ref f9)))
    (l9 : K.lookup f9 = some ⟨oc9, od9, .func (PySem.W.fnOf "row_numbers" "row_numbers" (defArgs s_row_numbers) (defBody s_row_numbers) (defScope s_row_numbers) .none kV9 dc9 pm9 an9 cd9 ct9), sl9⟩)
    (c9 : PySem.W.codeIn K cd9 "row_numbers" = true)
    (k9 : PySem.W.keepIn K (.ref f9) = true)
    (a10 : PySem.W.nsIn K mainGlobals "paired" = some (some (.ref f10)))
    (l10 : K.lookup f10 = some ⟨oc10, od10, .func (PySem.W.fnOf "paired" "paired" (defArgs s_paired) (defBody s_paired) (defScope s_paired) .none kV10 dc10 pm10 an10 cd10 ct10), sl10⟩)
    (c10 : PySem.W.codeIn K cd10 "paired" = true)
    (k10 : PySem.W.keepIn K (.ref f10) = true)
    (a11 : PySem.W.nsIn K mainGlobals "_over_one_bottom" = some (some (.ref f11)))
    (l11 : K.lookup f11 = some ⟨oc11, od11, .func (PySem.W.fnOf "_over_one_bottom" "_over_one_bottom" (defArgs s__over_one_bottom) (defBody s__over_one_bottom) (defScope s__over_one_bottom) .none kV11 dc11 pm11 an11 cd11 ct11), sl11⟩)
    (c11 : PySem.W.codeIn K cd11 "_over_one_bottom" = true)
    (k11 : PySem.W.keepIn K (.ref f11) = true)
    (a12 : PySem.W.findIn K (.ref C_Poly) "__init__" = some (some (.ref f12)))
    (i12 : PySem.W.isFn K (.ref f12) = true)
    (l12 : K.lookup f12 = some ⟨oc12, od12, .func (PySem.W.fnOf "__init__" "Poly.__init__" (defArgs s_Poly___init__) (defBody s_Poly___init__) (defScope s_Poly___init__) .none kV12 dc12 pm12 an12 cd12 ct12), sl12⟩)
    (c12 : PySem.W.codeIn K cd12 "Poly.__init__" = true)
    (k12 : PySem.W.keepIn K (.ref f12) = true)
    (a13 : PySem.W.findIn K (.ref C_Poly) "__mul__" = some (some (.ref f13)))
    (i13 : PySem.W.isFn K (.ref f13) = true)
    (l13 : K.lookup f13 = some ⟨oc13, od13, .func (PySem.W.fnOf "__mul__" "Poly.__mul__" (defArgs s_Poly___mul__) (defBody s_Poly___mul__) (defScope s_Poly___mul__) .none kV13 dc13 pm13 an13 cd13 ct13), sl13⟩)
    (c13 : PySem.W.codeIn K cd13 "Poly.__mul__" = true)
    (k13 : PySem.W.keepIn K (.ref f13) = true)
    (a14 : PySem.W.findIn K (.ref C_Poly) "__rmul__" = some (some (.ref f14)))
    (i14 : PySem.W.isFn K (.ref f14) = true)
    (l14 : K.lookup f14 = some ⟨oc14, od14, .func (PySem.W.fnOf "__rmul__" "Poly.__rmul__" (defArgs s_Poly___rmul__) (defBody s_Poly___rmul__) (defScope s_Poly___rmul__) .none kV14 dc14 pm14 an14 cd14 ct14), sl14⟩)
    (c14 : PySem.W.codeIn K cd14 "Poly.__rmul__" = true)
    (k14 : PySem.W.keepIn K (.ref f14) = true)
    (a15 : PySem.W.nsIn K mainGlobals "poly_of" = some (some (.ref f15)))
    (l15 : K.lookup f15 = some ⟨oc15, od15, .func (PySem.W.fnOf "poly_of" "poly_of" (defArgs s_poly_of) (defBody s_poly_of) (defScope s_poly_of) .none kV15 dc15 pm15 an15 cd15 ct15), sl15⟩)
    (c15 : PySem.W.codeIn K cd15 "poly_of" = true)
    (k15 : PySem.W.keepIn K (.ref f15) = true)
    (a16 : PySem.W.nsIn K mainGlobals "_is_operand" = some (some (.ref f16)))
    (l16 : K.lookup f16 = some ⟨oc16, od16, .func (PySem.W.fnOf "_is_operand" "_is_operand" (defArgs s__is_operand) (defBody s__is_operand) (defScope s__is_operand) .none kV16 dc16 pm16 an16 cd16 ct16), sl16⟩)
    (c16 : PySem.W.codeIn K cd16 "_is_operand" = true)
    (k16 : PySem.W.keepIn K (.ref f16) = true)
    (a17 : PySem.W.nsIn K mainGlobals "product_polys" = some (some (.ref f17)))
    (l17 : K.lookup f17 = some ⟨oc17, od17, .func (PySem.W.fnOf "_product" "_product" (defArgs s_product_polys) (defBody s_product_polys) (defScope s_product_polys) .none kV17 dc17 pm17 an17 cd17 ct17), sl17⟩)
    (c17 : PySem.W.codeIn K cd17 "_product" = true)
    (k17 : PySem.W.keepIn K (.ref f17) = true)
    (a18 : PySem.W.nsIn K mainGlobals "_law_is_integer" = some (some (.ref f18)))
    (l18 : K.lookup f18 = some ⟨oc18, od18, .func (PySem.W.fnOf "_law_is_integer" "_law_is_integer" (defArgs s__law_is_integer) (defBody s__law_is_integer) (defScope s__law_is_integer) .none kV18 dc18 pm18 an18 cd18 ct18), sl18⟩)
    (c18 : PySem.W.codeIn K cd18 "_law_is_integer" = true)
    (k18 : PySem.W.keepIn K (.ref f18) = true)
    (a19 : PySem.W.nsIn K mainGlobals "_law_feed" = some (some (.ref f19)))
    (l19 : K.lookup f19 = some ⟨oc19, od19, .func (PySem.W.fnOf "_law_feed" "_law_feed" (defArgs s__law_feed) (defBody s__law_feed) (defScope s__law_feed) .none kV19 dc19 pm19 an19 cd19 ct19), sl19⟩)
    (c19 : PySem.W.codeIn K cd19 "_law_feed" = true)
    (k19 : PySem.W.keepIn K (.ref f19) = true)
    (a20 : PySem.W.nsIn K mainGlobals "_law_take" = some (some (.ref f20)))
    (l20 : K.lookup f20 = some ⟨oc20, od20, .func (PySem.W.fnOf "_law_take" "_law_take" (defArgs s__law_take) (defBody s__law_take) (defScope s__law_take) .none kV20 dc20 pm20 an20 cd20 ct20), sl20⟩)
    (c20 : PySem.W.codeIn K cd20 "_law_take" = true)
    (k20 : PySem.W.keepIn K (.ref f20) = true)
    (a21 : PySem.W.nsIn K mainGlobals "_law_number" = some (some (.ref f21)))
    (l21 : K.lookup f21 = some ⟨oc21, od21, .func (PySem.W.fnOf "_law_number" "_law_number" (defArgs s__law_number) (defBody s__law_number) (defScope s__law_number) .none kV21 dc21 pm21 an21 cd21 ct21), sl21⟩)
    (c21 : PySem.W.codeIn K cd21 "_law_number" = true)
    (k21 : PySem.W.keepIn K (.ref f21) = true)
    (a22 : PySem.W.nsIn K mainGlobals "_law_is" = some (some (.ref f22)))
    (l22 : K.lookup f22 = some ⟨oc22, od22, .func (PySem.W.fnOf "_law_is" "_law_is" (defArgs s__law_is) (defBody s__law_is) (defScope s__law_is) .none kV22 dc22 pm22 an22 cd22 ct22), sl22⟩)
    (c22 : PySem.W.codeIn K cd22 "_law_is" = true)
    (k22 : PySem.W.keepIn K (.ref f22) = true)
    (a23 : PySem.W.nsIn K mainGlobals "_law_row_is" = some (some (.ref f23)))
    (l23 : K.lookup f23 = some ⟨oc23, od23, .func (PySem.W.fnOf "_law_row_is" "_law_row_is" (defArgs s__law_row_is) (defBody s__law_row_is) (defScope s__law_row_is) .none kV23 dc23 pm23 an23 cd23 ct23), sl23⟩)
    (c23 : PySem.W.codeIn K cd23 "_law_row_is" = true)
    (k23 : PySem.W.keepIn K (.ref f23) = true)
    (a24 : PySem.W.nsIn K mainGlobals "_law_add" = some (some (.ref f24)))
    (l24 : K.lookup f24 = some ⟨oc24, od24, .func (PySem.W.fnOf "_law_add" "_law_add" (defArgs s__law_add) (defBody s__law_add) (defScope s__law_add) .none kV24 dc24 pm24 an24 cd24 ct24), sl24⟩)
    (c24 : PySem.W.codeIn K cd24 "_law_add" = true)
    (k24 : PySem.W.keepIn K (.ref f24) = true)
    (a25 : PySem.W.nsIn K mainGlobals "_law_times" = some (some (.ref f25)))
    (l25 : K.lookup f25 = some ⟨oc25, od25, .func (PySem.W.fnOf "_law_times" "_law_times" (defArgs s__law_times) (defBody s__law_times) (defScope s__law_times) .none kV25 dc25 pm25 an25 cd25 ct25), sl25⟩)
    (c25 : PySem.W.codeIn K cd25 "_law_times" = true)
    (k25 : PySem.W.keepIn K (.ref f25) = true)
    (a26 : PySem.W.nsIn K mainGlobals "_law_ratios" = some (some (.ref f26)))
    (l26 : K.lookup f26 = some ⟨oc26, od26, .func (PySem.W.fnOf "_law_ratios" "_law_ratios" (defArgs s__law_ratios) (defBody s__law_ratios) (defScope s__law_ratios) .none kV26 dc26 pm26 an26 cd26 ct26), sl26⟩)
    (c26 : PySem.W.codeIn K cd26 "_law_ratios" = true)
    (k26 : PySem.W.keepIn K (.ref f26) = true)
    (a27 : PySem.W.nsIn K mainGlobals "_law_row" = some (some (.ref f27)))
    (l27 : K.lookup f27 = some ⟨oc27, od27, .func (PySem.W.fnOf "_law_row" "_law_row" (defArgs s__law_row) (defBody s__law_row) (defScope s__law_row) .none kV27 dc27 pm27 an27 cd27 ct27), sl27⟩)
    (c27 : PySem.W.codeIn K cd27 "_law_row" = true)
    (k27 : PySem.W.keepIn K (.ref f27) = true)
    (a28 : PySem.W.nsIn K mainGlobals "_law_coefficients" = some (some (.ref f28)))
    (l28 : K.lookup f28 = some ⟨oc28, od28, .func (PySem.W.fnOf "_law_coefficients" "_law_coefficients" (defArgs s__law_coefficients) (defBody s__law_coefficients) (defScope s__law_coefficients) .none kV28 dc28 pm28 an28 cd28 ct28), sl28⟩)
    (c28 : PySem.W.codeIn K cd28 "_law_coefficients" = true)
    (k28 : PySem.W.keepIn K (.ref f28) = true)
    (a29 : PySem.W.nsIn K mainGlobals "_law_lot" = some (some (.ref f29)))
    (l29 : K.lookup f29 = some ⟨oc29, od29, .func (PySem.W.fnOf "_law_lot" "_law_lot" (defArgs s__law_lot) (defBody s__law_lot) (defScope s__law_lot) .none kV29 dc29 pm29 an29 cd29 ct29), sl29⟩)
    (c29 : PySem.W.codeIn K cd29 "_law_lot" = true)
    (k29 : PySem.W.keepIn K (.ref f29) = true)
    (a30 : PySem.W.nsIn K mainGlobals "_law_numbers" = some (some (.ref f30)))
    (l30 : K.lookup f30 = some ⟨oc30, od30, .func (PySem.W.fnOf "_law_numbers" "_law_numbers" (defArgs s__law_numbers) (defBody s__law_numbers) (defScope s__law_numbers) .none kV30 dc30 pm30 an30 cd30 ct30), sl30⟩)
    (c30 : PySem.W.codeIn K cd30 "_law_numbers" = true)
    (k30 : PySem.W.keepIn K (.ref f30) = true)
    (a31 : PySem.W.nsIn K mainGlobals "_law_degree" = some (some (.ref f31)))
    (l31 : K.lookup f31 = some ⟨oc31, od31, .func (PySem.W.fnOf "_law_degree" "_law_degree" (defArgs s__law_degree) (defBody s__law_degree) (defScope s__law_degree) .none kV31 dc31 pm31 an31 cd31 ct31), sl31⟩)
    (c31 : PySem.W.codeIn K cd31 "_law_degree" = true)
    (k31 : PySem.W.keepIn K (.ref f31) = true)
    (a32 : PySem.W.nsIn K mainGlobals "_law_due" = some (some (.ref f32)))
    (l32 : K.lookup f32 = some ⟨oc32, od32, .func (PySem.W.fnOf "_law_due" "_law_due" (defArgs s__law_due) (defBody s__law_due) (defScope s__law_due) .none kV32 dc32 pm32 an32 cd32 ct32), sl32⟩)
    (c32 : PySem.W.codeIn K cd32 "_law_due" = true)
    (k32 : PySem.W.keepIn K (.ref f32) = true)
    (a33 : PySem.W.nsIn K mainGlobals "_law_refused" = some (some (.ref f33)))
    (l33 : K.lookup f33 = some ⟨oc33, od33, .func (PySem.W.fnOf "_law_refused" "_law_refused" (defArgs s__law_refused) (defBody s__law_refused) (defScope s__law_refused) .none kV33 dc33 pm33 an33 cd33 ct33), sl33⟩)
    (c33 : PySem.W.codeIn K cd33 "_law_refused" = true)
    (k33 : PySem.W.keepIn K (.ref f33) = true)
    (a34 : PySem.W.nsIn K mainGlobals "_law_of_lot" = some (some (.ref f34)))
    (l34 : K.lookup f34 = some ⟨oc34, od34, .func (PySem.W.fnOf "_law_of_lot" "_law_of_lot" (defArgs s__law_of_lot) (defBody s__law_of_lot) (defScope s__law_of_lot) .none kV34 dc34 pm34 an34 cd34 ct34), sl34⟩)
    (c34 : PySem.W.codeIn K cd34 "_law_of_lot" = true)
    (k34 : PySem.W.keepIn K (.ref f34) = true)
    (a35 : PySem.W.nsIn K mainGlobals "law" = some (some (.ref f35)))
    (l35 : K.lookup f35 = some ⟨oc35, od35, .func (PySem.W.fnOf "law" "law" (defArgs s_law) (defBody s_law) (defScope s_law) .none kV35 dc35 pm35 an35 cd35 ct35), sl35⟩)
    (c35 : PySem.W.codeIn K cd35 "law" = true)
    (k35 : PySem.W.keepIn K (.ref f35) = true)
    (pg_Ratio : PySem.W.plainGet K C_Ratio Str.empty = true)
    (hd_Ratio : PySem.W.hasDictIn K C_Ratio = true)
    (po_Ratio : PySem.W.plainOver K C_Ratio = true)
    (sa_Ratio : PySem.W.findIn K (.ref C_Ratio) "__setattr__" = some (some (.builtin "object.__setattr__")))
    (mk_Ratio : PySem.W.makesIn K C_Ratio = true)
    (kc_Ratio : PySem.W.keepIn K (.ref C_Ratio) = true)
    (sf_Ratio : PySem.W.selfFirst K C_Ratio = true)
    (s1_Ratio : PySem.W.subIn K (.ref C_Ratio) (.type "int") = some false)
    (s2_Ratio : PySem.W.subIn K (.type "int") (.ref C_Ratio) = some false)
    (cls_Ratio : PySem.W.findIn K (.ref C_Ratio) "__class__" = some (some (.builtin "object.__class__")))
    (gsd_Ratio : PySem.W.specialIn K (.builtin "object.__class__") "__get__" = some (some (.builtin "getset_descriptor.__get__")))
    (tks_Ratio : PySem.W.takesIn K (.builtin "object.__class__") = some true)
    (mro_Ratio : PySem.W.mroIn K C_Ratio (.type "object") = some true)
    (ki_Ratio : PySem.W.kitOne K (.ref C_Ratio) (.type "int") = some false)
    (ik_Ratio : PySem.W.kitOne K (.type "int") (.ref C_Ratio) = some false)
    (n_top_Ratio : PySem.W.findIn K (.ref C_Ratio) "top" = some none)
    (n_bottom_Ratio : PySem.W.findIn K (.ref C_Ratio) "bottom" = some none)
    (pg_Poly : PySem.W.plainGet K C_Poly Str.empty = true)
    (hd_Poly : PySem.W.hasDictIn K C_Poly = true)
    (po_Poly : PySem.W.plainOver K C_Poly = true)
    (sa_Poly : PySem.W.findIn K (.ref C_Poly) "__setattr__" = some (some (.builtin "object.__setattr__")))
    (mk_Poly : PySem.W.makesIn K C_Poly = true)
    (kc_Poly : PySem.W.keepIn K (.ref C_Poly) = true)
    (sf_Poly : PySem.W.selfFirst K C_Poly = true)
    (s1_Poly : PySem.W.subIn K (.ref C_Poly) (.type "int") = some false)
    (s2_Poly : PySem.W.subIn K (.type "int") (.ref C_Poly) = some false)
    (cls_Poly : PySem.W.findIn K (.ref C_Poly) "__class__" = some (some (.builtin "object.__class__")))
    (gsd_Poly : PySem.W.specialIn K (.builtin "object.__class__") "__get__" = some (some (.builtin "getset_descriptor.__get__")))
    (tks_Poly : PySem.W.takesIn K (.builtin "object.__class__") = some true)
    (mro_Poly : PySem.W.mroIn K C_Poly (.type "object") = some true)
    (ki_Poly : PySem.W.kitOne K (.ref C_Poly) (.type "int") = some false)
    (ik_Poly : PySem.W.kitOne K (.type "int") (.ref C_Poly) = some false)
    (n_coefficients_Poly : PySem.W.findIn K (.ref C_Poly) "coefficients" = some none)
    (n_degree_Poly : PySem.W.findIn K (.ref C_Poly) "degree" = some none)
    (n_lead_Poly : PySem.W.findIn K (.ref C_Poly) "lead" = some none)
    (sa_NoMean : PySem.W.findIn K (.ref C_NoMean) "__setattr__" = some (some (.builtin "object.__setattr__")))
    (ga_NoMean : PySem.W.findIn K (.ref C_NoMean) "__getattribute__" = some (some (.builtin "BaseException.__getattribute__")))
    (gg_NoMean : PySem.W.findIn K (.ref C_NoMean) "__getattr__" = some none)
    (cls_NoMean : PySem.W.findIn K (.ref C_NoMean) "__class__" = some (some (.builtin "object.__class__")))
    (kC_NoMean : PySem.W.keepIn K (.ref C_NoMean) = true)
    (xn_NoMean : PySem.W.excIn K C_NoMean [.type "ValueError", .type "Exception", .type "BaseException", .type "object"] "ValueError.__new__" = true)
    (gsd_all : PySem.W.specialIn K (.builtin "object.__class__") "__get__" = some (some (.builtin "getset_descriptor.__get__")))
    (tks_all : PySem.W.takesIn K (.builtin "object.__class__") = some true)
    (z_isinstance : PySem.W.nsIn K mainGlobals "isinstance" = some none)
    (z_int : PySem.W.nsIn K mainGlobals "int" = some none)
    (z_bool : PySem.W.nsIn K mainGlobals "bool" = some none)
    (z_abs : PySem.W.nsIn K mainGlobals "abs" = some none)
    (z_len : PySem.W.nsIn K mainGlobals "len" = some none)
    (z_max : PySem.W.nsIn K mainGlobals "max" = some none)
    (z_range : PySem.W.nsIn K mainGlobals "range" = some none)
    (z_min : PySem.W.nsIn K mainGlobals "min" = some none)
    (z_list : PySem.W.nsIn K mainGlobals "list" = some none)
    (z_tuple : PySem.W.nsIn K mainGlobals "tuple" = some none)
    (z_sum : PySem.W.nsIn K mainGlobals "sum" = some none)
    (gc_MOST_NUMBERS : PySem.W.nsIn K mainGlobals "MOST_NUMBERS" = some (some (.int 13 tok_MOST_NUMBERS)))
    (j_gcd : PySem.W.nsIn K mainGlobals "gcd" = some (some (.builtin "math.gcd")))
    (j_lcm : PySem.W.nsIn K mainGlobals "lcm" = some (some (.builtin "math.lcm")))
    : ∃ fd : FuncData, (∀ (s : Shared) (v : Value), BindsTo s fd ⟨[v], []⟩ [("_law_script", v)]) ∧ ∀ base : Heap, K.In base → base.Ns mainGlobals mg → FnOk l.prog w K mg base CX0 12 fa fd ["_law_script"] (sp_law K) := by
  have e := hfa.symm.trans (PySem.W.mg_of X G a35)
  cases e
  have F0 : FunD K "__init__" "Ratio.__init__" (defArgs s_Ratio___init__) (defBody s_Ratio___init__) (defScope s_Ratio___init__) [.int 1] [] f0 _ := ⟨⟨_, _, _, _, _, _, _, _, _, _, rfl, l0, c0, .inr ⟨by simp, _, _, [.int 1 tt0_0], _, rfl, t0, rfl, .cons ⟨_, rfl⟩ (.nil)⟩, .inl rfl⟩, k0⟩
  have F1 := fun_mk (st := s_Ratio___eq__) l1 c1 k1
  have F2 := fun_mk (st := s_is_whole) l2 c2 k2
  have F3 := fun_mk (st := s_is_number) l3 c3 k3
  have F4 := fun_mk (st := s_ratio_of) l4 c4 k4
  have F5 := fun_mk (st := s_whole_parts) l5 c5 k5
  have F6 := fun_mk (st := s__gap) l6 c6 k6
  have F7 := fun_mk (st := s_trimmed) l7 c7 k7
  have F8 := fun_mk (st := s_shifted_row) l8 c8 k8
  have F9 := fun_mk (st := s_row_numbers) l9 c9 k9
  have F10 := fun_mk (st := s_paired) l10 c10 k10
  have F11 := fun_mk (st := s__over_one_bottom) l11 c11 k11
  have F12 := fun_mk (st := s_Poly___init__) l12 c12 k12
  have F13 := fun_mk (st := s_Poly___mul__) l13 c13 k13
  have F14 := fun_mk (st := s_Poly___rmul__) l14 c14 k14
  have F15 := fun_mk (st := s_poly_of) l15 c15 k15
  have F16 := fun_mk (st := s__is_operand) l16 c16 k16
  have F17 := fun_mk (st := s_product_polys) l17 c17 k17
  have F18 := fun_mk (st := s__law_is_integer) l18 c18 k18
  have F19 := fun_mk (st := s__law_feed) l19 c19 k19
  have F20 := fun_mk (st := s__law_take) l20 c20 k20
  have F21 := fun_mk (st := s__law_number) l21 c21 k21
  have F22 := fun_mk (st := s__law_is) l22 c22 k22
  have F23 := fun_mk (st := s__law_row_is) l23 c23 k23
  have F24 := fun_mk (st := s__law_add) l24 c24 k24
  have F25 := fun_mk (st := s__law_times) l25 c25 k25
  have F26 := fun_mk (st := s__law_ratios) l26 c26 k26
  have F27 := fun_mk (st := s__law_row) l27 c27 k27
  have F28 := fun_mk (st := s__law_coefficients) l28 c28 k28
  have F29 := fun_mk (st := s__law_lot) l29 c29 k29
  have F30 := fun_mk (st := s__law_numbers) l30 c30 k30
  have F31 := fun_mk (st := s__law_degree) l31 c31 k31
  have F32 := fun_mk (st := s__law_due) l32 c32 k32
  have F33 := fun_mk (st := s__law_refused) l33 c33 k33
  have F34 := fun_mk (st := s__law_of_lot) l34 c34 k34
  have F35 := fun_mk (st := s_law) l35 c35 k35
  let A : Ad := { Ratio := C_Ratio, Poly := C_Poly, NoMean := C_NoMean, MeansError := C_MeansError, NoRow := C_NoRow, f_Ratio___init__ := f0, f_Ratio___eq__ := f1, f_is_whole := f2, f_is_number := f3, f_ratio_of := f4, f_whole_parts := f5, f__gap := f6, f_trimmed := f7, f_shifted_row := f8, f_row_numbers := f9, f_paired := f10, f__over_one_bottom := f11, f_Poly___init__ := f12, f_Poly___mul__ := f13, f_Poly___rmul__ := f14, f_poly_of := f15, f__is_operand := f16, f_product_polys := f17, f__law_is_integer := f18, f__law_feed := f19, f__law_take := f20, f__law_number := f21, f__law_is := f22, f__law_row_is := f23, f__law_add := f24, f__law_times := f25, f__law_ratios := f26, f__law_row := f27, f__law_coefficients := f28, f__law_lot := f29, f__law_numbers := f30, f__law_degree := f31, f__law_due := f32, f__law_refused := f33, f__law_of_lot := f34, f_law := fa }
  let D : Fd := { f_Ratio___init__ := PySem.W.fnOf "__init__" "Ratio.__init__" (defArgs s_Ratio___init__) (defBody s_Ratio___init__) (defScope s_Ratio___init__) (.ref T0) kV0 dc0 pm0 an0 cd0 ct0, f_Ratio___eq__ := PySem.W.fnOf "__eq__" "Ratio.__eq__" (defArgs s_Ratio___eq__) (defBody s_Ratio___eq__) (defScope s_Ratio___eq__) .none kV1 dc1 pm1 an1 cd1 ct1, f_is_whole := PySem.W.fnOf "is_whole" "is_whole" (defArgs s_is_whole) (defBody s_is_whole) (defScope s_is_whole) .none kV2 dc2 pm2 an2 cd2 ct2, f_is_number := PySem.W.fnOf "is_number" "is_number" (defArgs s_is_number) (defBody s_is_number) (defScope s_is_number) .none kV3 dc3 pm3 an3 cd3 ct3, f_ratio_of := PySem.W.fnOf "ratio_of" "ratio_of" (defArgs s_ratio_of) (defBody s_ratio_of) (defScope s_ratio_of) .none kV4 dc4 pm4 an4 cd4 ct4, f_whole_parts := PySem.W.fnOf "whole_parts" "whole_parts" (defArgs s_whole_parts) (defBody s_whole_parts) (defScope s_whole_parts) .none kV5 dc5 pm5 an5 cd5 ct5, f__gap := PySem.W.fnOf "_gap" "_gap" (defArgs s__gap) (defBody s__gap) (defScope s__gap) .none kV6 dc6 pm6 an6 cd6 ct6, f_trimmed := PySem.W.fnOf "trimmed" "trimmed" (defArgs s_trimmed) (defBody s_trimmed) (defScope s_trimmed) .none kV7 dc7 pm7 an7 cd7 ct7, f_shifted_row := PySem.W.fnOf "shifted_row" "shifted_row" (defArgs s_shifted_row) (defBody s_shifted_row) (defScope s_shifted_row) .none kV8 dc8 pm8 an8 cd8 ct8, f_row_numbers := PySem.W.fnOf "row_numbers" "row_numbers" (defArgs s_row_numbers) (defBody s_row_numbers) (defScope s_row_numbers) .none kV9 dc9 pm9 an9 cd9 ct9, f_paired := PySem.W.fnOf "paired" "paired" (defArgs s_paired) (defBody s_paired) (defScope s_paired) .none kV10 dc10 pm10 an10 cd10 ct10, f__over_one_bottom := PySem.W.fnOf "_over_one_bottom" "_over_one_bottom" (defArgs s__over_one_bottom) (defBody s__over_one_bottom) (defScope s__over_one_bottom) .none kV11 dc11 pm11 an11 cd11 ct11, f_Poly___init__ := PySem.W.fnOf "__init__" "Poly.__init__" (defArgs s_Poly___init__) (defBody s_Poly___init__) (defScope s_Poly___init__) .none kV12 dc12 pm12 an12 cd12 ct12, f_Poly___mul__ := PySem.W.fnOf "__mul__" "Poly.__mul__" (defArgs s_Poly___mul__) (defBody s_Poly___mul__) (defScope s_Poly___mul__) .none kV13 dc13 pm13 an13 cd13 ct13, f_Poly___rmul__ := PySem.W.fnOf "__rmul__" "Poly.__rmul__" (defArgs s_Poly___rmul__) (defBody s_Poly___rmul__) (defScope s_Poly___rmul__) .none kV14 dc14 pm14 an14 cd14 ct14, f_poly_of := PySem.W.fnOf "poly_of" "poly_of" (defArgs s_poly_of) (defBody s_poly_of) (defScope s_poly_of) .none kV15 dc15 pm15 an15 cd15 ct15, f__is_operand := PySem.W.fnOf "_is_operand" "_is_operand" (defArgs s__is_operand) (defBody s__is_operand) (defScope s__is_operand) .none kV16 dc16 pm16 an16 cd16 ct16, f_product_polys := PySem.W.fnOf "_product" "_product" (defArgs s_product_polys) (defBody s_product_polys) (defScope s_product_polys) .none kV17 dc17 pm17 an17 cd17 ct17, f__law_is_integer := PySem.W.fnOf "_law_is_integer" "_law_is_integer" (defArgs s__law_is_integer) (defBody s__law_is_integer) (defScope s__law_is_integer) .none kV18 dc18 pm18 an18 cd18 ct18, f__law_feed := PySem.W.fnOf "_law_feed" "_law_feed" (defArgs s__law_feed) (defBody s__law_feed) (defScope s__law_feed) .none kV19 dc19 pm19 an19 cd19 ct19, f__law_take := PySem.W.fnOf "_law_take" "_law_take" (defArgs s__law_take) (defBody s__law_take) (defScope s__law_take) .none kV20 dc20 pm20 an20 cd20 ct20, f__law_number := PySem.W.fnOf "_law_number" "_law_number" (defArgs s__law_number) (defBody s__law_number) (defScope s__law_number) .none kV21 dc21 pm21 an21 cd21 ct21, f__law_is := PySem.W.fnOf "_law_is" "_law_is" (defArgs s__law_is) (defBody s__law_is) (defScope s__law_is) .none kV22 dc22 pm22 an22 cd22 ct22, f__law_row_is := PySem.W.fnOf "_law_row_is" "_law_row_is" (defArgs s__law_row_is) (defBody s__law_row_is) (defScope s__law_row_is) .none kV23 dc23 pm23 an23 cd23 ct23, f__law_add := PySem.W.fnOf "_law_add" "_law_add" (defArgs s__law_add) (defBody s__law_add) (defScope s__law_add) .none kV24 dc24 pm24 an24 cd24 ct24, f__law_times := PySem.W.fnOf "_law_times" "_law_times" (defArgs s__law_times) (defBody s__law_times) (defScope s__law_times) .none kV25 dc25 pm25 an25 cd25 ct25, f__law_ratios := PySem.W.fnOf "_law_ratios" "_law_ratios" (defArgs s__law_ratios) (defBody s__law_ratios) (defScope s__law_ratios) .none kV26 dc26 pm26 an26 cd26 ct26, f__law_row := PySem.W.fnOf "_law_row" "_law_row" (defArgs s__law_row) (defBody s__law_row) (defScope s__law_row) .none kV27 dc27 pm27 an27 cd27 ct27, f__law_coefficients := PySem.W.fnOf "_law_coefficients" "_law_coefficients" (defArgs s__law_coefficients) (defBody s__law_coefficients) (defScope s__law_coefficients) .none kV28 dc28 pm28 an28 cd28 ct28, f__law_lot := PySem.W.fnOf "_law_lot" "_law_lot" (defArgs s__law_lot) (defBody s__law_lot) (defScope s__law_lot) .none kV29 dc29 pm29 an29 cd29 ct29, f__law_numbers := PySem.W.fnOf "_law_numbers" "_law_numbers" (defArgs s__law_numbers) (defBody s__law_numbers) (defScope s__law_numbers) .none kV30 dc30 pm30 an30 cd30 ct30, f__law_degree := PySem.W.fnOf "_law_degree" "_law_degree" (defArgs s__law_degree) (defBody s__law_degree) (defScope s__law_degree) .none kV31 dc31 pm31 an31 cd31 ct31, f__law_due := PySem.W.fnOf "_law_due" "_law_due" (defArgs s__law_due) (defBody s__law_due) (defScope s__law_due) .none kV32 dc32 pm32 an32 cd32 ct32, f__law_refused := PySem.W.fnOf "_law_refused" "_law_refused" (defArgs s__law_refused) (defBody s__law_refused) (defScope s__law_refused) .none kV33 dc33 pm33 an33 cd33 ct33, f__law_of_lot := PySem.W.fnOf "_law_of_lot" "_law_of_lot" (defArgs s__law_of_lot) (defBody s__law_of_lot) (defScope s__law_of_lot) .none kV34 dc34 pm34 an34 cd34 ct34, f_law := PySem.W.fnOf "law" "law" (defArgs s_law) (defBody s_law) (defScope s_law) .none kV35 dc35 pm35 an35 cd35 ct35 }
  have T : Txt K mg A D := {
    g_Ratio := PySem.W.mg_of X G g_Ratio,
    kp_Ratio := kc_Ratio,
    M_Ratio := ⟨mk_Ratio, a0, i0, kc_Ratio⟩,
    k_Ratio := ⟨⟨pg_Ratio, hd_Ratio, po_Ratio, sa_Ratio⟩, ⟨sf_Ratio, s1_Ratio, s2_Ratio⟩, cls_Ratio, gsd_Ratio, tks_Ratio, mro_Ratio, ki_Ratio, ik_Ratio, n_top_Ratio, n_bottom_Ratio⟩,
    g_Poly := PySem.W.mg_of X G g_Poly,
    kp_Poly := kc_Poly,
    M_Poly := ⟨mk_Poly, a12, i12, kc_Poly⟩,
    k_Poly := ⟨⟨pg_Poly, hd_Poly, po_Poly, sa_Poly⟩, ⟨sf_Poly, s1_Poly, s2_Poly⟩, cls_Poly, gsd_Poly, tks_Poly, mro_Poly, ki_Poly, ik_Poly⟩,
    n_Poly_coefficients := n_coefficients_Poly,
    n_Poly_degree := n_degree_Poly,
    n_Poly_lead := n_lead_Poly,
    g_MeansError := PySem.W.mg_of X G g_MeansError,
    g_NoRow := PySem.W.mg_of X G g_NoRow,
    g_NoMean := PySem.W.mg_of X G g_NoMean,
    e_NoMean := ⟨⟨_, _, _, _, _, _, _, _, _, _, _, _, _, xL_NoMean⟩, ⟨_, _, _, _, _, _, _, _, _, _, _, _, _, xL_MeansError⟩, sa_NoMean, ga_NoMean, gg_NoMean, cls_NoMean, gsd_all, tks_all, kC_NoMean⟩,
    xn_NoMean := xn_NoMean,
    F_Ratio___init__ := F0,
    b_Ratio___init__ := by obtain ⟨ds, r, b⟩ := F0.binds1 (ps := ["self", "top", "bottom"]) 3 1 (by simp) rfl (fun _ _ _ _ _ _ _ us its h1 h2 => match us, h1, its, h2 with | [_, _, _], _, [_], _ => ⟨_, rfl, by first | rfl | with_unfolding_all rfl | kernel_rfl⟩); cases r; exact b,
    b1_Ratio___init__ := F0.binds1 (ps := ["self", "top", "bottom"]) 2 0 (by simp) rfl (fun _ _ _ _ _ _ _ us its h1 h2 => match us, h1, its, h2 with | [_, _], _, [_], _ => ⟨_, rfl, by first | rfl | with_unfolding_all rfl | kernel_rfl⟩),
    m_Ratio___init__ := ⟨a0, i0, k0⟩,
    F_Ratio___eq__ := F1,
    b_Ratio___eq__ := F1.binds fun _ _ _ _ _ _ us hl => match us, hl with | [_, _], _ => rfl,
    m_Ratio___eq__ := ⟨a1, i1, k1⟩,
    F_is_whole := F2,
    b_is_whole := F2.binds fun _ _ _ _ _ _ us hl => match us, hl with | [_], _ => rfl,
    g_is_whole := PySem.W.mg_of X G a2,
    F_is_number := F3,
    b_is_number := F3.binds fun _ _ _ _ _ _ us hl => match us, hl with | [_], _ => rfl,
    g_is_number := PySem.W.mg_of X G a3,
    F_ratio_of := F4,
    b_ratio_of := F4.binds fun _ _ _ _ _ _ us hl => match us, hl with | [_], _ => rfl,
    g_ratio_of := PySem.W.mg_of X G a4,
    F_whole_parts := F5,
    b_whole_parts := F5.binds fun _ _ _ _ _ _ us hl => match us, hl with | [_], _ => rfl,
    g_whole_parts := PySem.W.mg_of X G a5,
    F__gap := F6,
    b__gap := F6.binds fun _ _ _ _ _ _ us hl => match us, hl with | [_, _], _ => rfl,
    g__gap := PySem.W.mg_of X G a6,
    F_trimmed := F7,
    b_trimmed := F7.binds fun _ _ _ _ _ _ us hl => match us, hl with | [_], _ => rfl,
    g_trimmed := PySem.W.mg_of X G a7,
    F_shifted_row := F8,
    kb0_shifted_row := by
      obtain ⟨oc, od, kV, doc, pm, an, cdv, ct, osl, e, lk, hc⟩ := F8.ex
      cases e
      exact ⟨fun s us ws _ l1 l2 => match us, l1, ws, l2 with | [], _, [_, _], _ => .of_eq rfl, fun r1 r2 => r1.append r2⟩,
    b_shifted_row := F8.binds fun _ _ _ _ _ _ us hl => match us, hl with | [_, _], _ => rfl,
    g_shifted_row := PySem.W.mg_of X G a8,
    F_row_numbers := F9,
    b_row_numbers := F9.binds fun _ _ _ _ _ _ us hl => match us, hl with | [_], _ => rfl,
    g_row_numbers := PySem.W.mg_of X G a9,
    F_paired := F10,
    b_paired := F10.binds fun _ _ _ _ _ _ us hl => match us, hl with | [_, _], _ => rfl,
    g_paired := PySem.W.mg_of X G a10,
    F__over_one_bottom := F11,
    b__over_one_bottom := F11.binds fun _ _ _ _ _ _ us hl => match us, hl with | [_, _], _ => rfl,
    g__over_one_bottom := PySem.W.mg_of X G a11,
    F_Poly___init__ := F12,
    b_Poly___init__ := F12.binds fun _ _ _ _ _ _ us hl => match us, hl with | [_, _], _ => rfl,
    m_Poly___init__ := ⟨a12, i12, k12⟩,
    F_Poly___mul__ := F13,
    b_Poly___mul__ := F13.binds fun _ _ _ _ _ _ us hl => match us, hl with | [_, _], _ => rfl,
    m_Poly___mul__ := ⟨a13, i13, k13⟩,
    F_Poly___rmul__ := F14,
    b_Poly___rmul__ := F14.binds fun _ _ _ _ _ _ us hl => match us, hl with | [_, _], _ => rfl,
    m_Poly___rmul__ := ⟨a14, i14, k14⟩,
    F_poly_of := F15,
    b_poly_of := F15.binds fun _ _ _ _ _ _ us hl => match us, hl with | [_], _ => rfl,
    g_poly_of := PySem.W.mg_of X G a15,
    F__is_operand := F16,
    b__is_operand := F16.binds fun _ _ _ _ _ _ us hl => match us, hl with | [_], _ => rfl,
    g__is_operand := PySem.W.mg_of X G a16,
    F_product_polys := F17,
    b_product_polys := F17.binds fun _ _ _ _ _ _ us hl => match us, hl with | [_, _], _ => rfl,
    g_product_polys := PySem.W.mg_of X G a17,
    F__law_is_integer := F18,
    b__law_is_integer := F18.binds fun _ _ _ _ _ _ us hl => match us, hl with | [_], _ => rfl,
    g__law_is_integer := PySem.W.mg_of X G a18,
    F__law_feed := F19,
    b__law_feed := F19.binds fun _ _ _ _ _ _ us hl => match us, hl with | [_], _ => rfl,
    g__law_feed := PySem.W.mg_of X G a19,
    F__law_take := F20,
    b__law_take := F20.binds fun _ _ _ _ _ _ us hl => match us, hl with | [_, _], _ => rfl,
    g__law_take := PySem.W.mg_of X G a20,
    F__law_number := F21,
    b__law_number := F21.binds fun _ _ _ _ _ _ us hl => match us, hl with | [_, _], _ => rfl,
    g__law_number := PySem.W.mg_of X G a21,
    F__law_is := F22,
    b__law_is := F22.binds fun _ _ _ _ _ _ us hl => match us, hl with | [_, _, _], _ => rfl,
    g__law_is := PySem.W.mg_of X G a22,
    F__law_row_is := F23,
    b__law_row_is := F23.binds fun _ _ _ _ _ _ us hl => match us, hl with | [_, _], _ => rfl,
    g__law_row_is := PySem.W.mg_of X G a23,
    F__law_add := F24,
    b__law_add := F24.binds fun _ _ _ _ _ _ us hl => match us, hl with | [_, _], _ => rfl,
    g__law_add := PySem.W.mg_of X G a24,
    F__law_times := F25,
    b__law_times := F25.binds fun _ _ _ _ _ _ us hl => match us, hl with | [_, _], _ => rfl,
    g__law_times := PySem.W.mg_of X G a25,
    F__law_ratios := F26,
    b__law_ratios := F26.binds fun _ _ _ _ _ _ us hl => match us, hl with | [_], _ => rfl,
    g__law_ratios := PySem.W.mg_of X G a26,
    F__law_row := F27,
    b__law_row := F27.binds fun _ _ _ _ _ _ us hl => match us, hl with | [_, _], _ => rfl,
    g__law_row := PySem.W.mg_of X G a27,
    F__law_coefficients := F28,
    b__law_coefficients := F28.binds fun _ _ _ _ _ _ us hl => match us, hl with | [_, _], _ => rfl,
    g__law_coefficients := PySem.W.mg_of X G a28,
    F__law_lot := F29,
    b__law_lot := F29.binds fun _ _ _ _ _ _ us hl => match us, hl with | [_, _], _ => rfl,
    g__law_lot := PySem.W.mg_of X G a29,
    F__law_numbers := F30,
    b__law_numbers := F30.binds fun _ _ _ _ _ _ us hl => match us, hl with | [_, _], _ => rfl,
    g__law_numbers := PySem.W.mg_of X G a30,
    F__law_degree := F31,
    b__law_degree := F31.binds fun _ _ _ _ _ _ us hl => match us, hl with | [_], _ => rfl,
    g__law_degree := PySem.W.mg_of X G a31,
    F__law_due := F32,
    b__law_due := F32.binds fun _ _ _ _ _ _ us hl => match us, hl with | [_, _], _ => rfl,
    g__law_due := PySem.W.mg_of X G a32,
    F__law_refused := F33,
    b__law_refused := F33.binds fun _ _ _ _ _ _ us hl => match us, hl with | [_, _], _ => rfl,
    g__law_refused := PySem.W.mg_of X G a33,
    F__law_of_lot := F34,
    b__law_of_lot := F34.binds fun _ _ _ _ _ _ us hl => match us, hl with | [_], _ => rfl,
    g__law_of_lot := PySem.W.mg_of X G a34,
    F_law := F35,
    b_law := F35.binds fun _ _ _ _ _ _ us hl => match us, hl with | [_], _ => rfl,
    g_law := PySem.W.mg_of X G a35,
    z_isinstance := PySem.W.mg_none_of X G z_isinstance,
    z_int := PySem.W.mg_none_of X G z_int,
    z_bool := PySem.W.mg_none_of X G z_bool,
    z_abs := PySem.W.mg_none_of X G z_abs,
    z_len := PySem.W.mg_none_of X G z_len,
    z_max := PySem.W.mg_none_of X G z_max,
    z_range := PySem.W.mg_none_of X G z_range,
    z_min := PySem.W.mg_none_of X G z_min,
    z_list := PySem.W.mg_none_of X G z_list,
    z_tuple := PySem.W.mg_none_of X G z_tuple,
    z_sum := PySem.W.mg_none_of X G z_sum,
    g_MOST_NUMBERS := ⟨_, PySem.W.mg_of X G gc_MOST_NUMBERS⟩,
    g_gcd := PySem.W.mg_of X G j_gcd,
    g_lcm := PySem.W.mg_of X G j_lcm }
  exact ⟨PySem.W.fnOf "law" "law" (defArgs s_law) (defBody s_law) (defScope s_law) .none kV35 dc35 pm35 an35 cd35 ct35, fun s v => .of_eq rfl, fun base _ _ => ok_law (A := A) (D := D) T⟩
end Mo
open PySem PySem.W PyProof.Rows
set_option maxRecDepth 100000 in
set_option maxHeartbeats 0 in
theorem PySem.Challenge.cw_momentrows_k21_shifted_rows_holds : PySem.Challenge.rw_momentrows_k21_shifted_rows.Holds := by
  w_on; o_law; k_head; (case hw => w_witness2)
  k_fill
  refine L2.walk_of (l := PySem.Challenge.rw_momentrows_k21_shifted_rows) (n := 63) (k := 12) (x := "_law_script") (CX := fun _ => L2.CX0) (sp := fun w => Mo.sp_law _) rfl (by decide) rfl ⟨rfl, by decide, by decide⟩ (fun w h Y => PySem.W.kIn_of Y) ?F (fun _ _ a ns hl _ hS => ⟨a, ns, rfl, hS, hl, fun _ => rfl⟩) (fun _ _ _ _ _ h => h)
  case F =>
    intro w mg fa h KX G hmg
    refine' Mo.all_mk KX G hmg ?g_Ratio ?g_Poly ?g_MeansError ?g_NoRow ?g_NoMean ?xL_MeansError ?xL_NoMean ?a0 ?i0 ?l0 ?c0 ?k0 ?t0 ?a1 ?i1 ?l1 ?c1 ?k1 ?a2 ?l2 ?c2 ?k2 ?a3 ?l3 ?c3 ?k3 ?a4 ?l4 ?c4 ?k4 ?a5 ?l5 ?c5 ?k5 ?a6 ?l6 ?c6 ?k6 ?a7 ?l7 ?c7 ?k7 ?a8 ?l8 ?c8 ?k8 ?a9 ?l9 ?c9 ?k9 ?a10 ?l10 ?c10 ?k10 ?a11 ?l11 ?c11 ?k11 ?a12 ?i12 ?l12 ?c12 ?k12 ?a13 ?i13 ?l13 ?c13 ?k13 ?a14 ?i14 ?l14 ?c14 ?k14 ?a15 ?l15 ?c15 ?k15 ?a16 ?l16 ?c16 ?k16 ?a17 ?l17 ?c17 ?k17 ?a18 ?l18 ?c18 ?k18 ?a19 ?l19 ?c19 ?k19 ?a20 ?l20 ?c20 ?k20 ?a21 ?l21 ?c21 ?k21 ?a22 ?l22 ?c22 ?k22 ?a23 ?l23 ?c23 ?k23 ?a24 ?l24 ?c24 ?k24 ?a25 ?l25 ?c25 ?k25 ?a26 ?l26 ?c26 ?k26 ?a27 ?l27 ?c27 ?k27 ?a28 ?l28 ?c28 ?k28 ?a29 ?l29 ?c29 ?k29 ?a30 ?l30 ?c30 ?k30 ?a31 ?l31 ?c31 ?k31 ?a32 ?l32 ?c32 ?k32 ?a33 ?l33 ?c33 ?k33 ?a34 ?l34 ?c34 ?k34 ?a35 ?l35 ?c35 ?k35 ?pg_Ratio ?hd_Ratio ?po_Ratio ?sa_Ratio ?mk_Ratio ?kc_Ratio ?sf_Ratio ?s1_Ratio ?s2_Ratio ?cls_Ratio ?gsd_Ratio ?tks_Ratio ?mro_Ratio ?ki_Ratio ?ik_Ratio ?n_top_Ratio ?n_bottom_Ratio ?pg_Poly ?hd_Poly ?po_Poly ?sa_Poly ?mk_Poly ?kc_Poly ?sf_Poly ?s1_Poly ?s2_Poly ?cls_Poly ?gsd_Poly ?tks_Poly ?mro_Poly ?ki_Poly ?ik_Poly ?n_coefficients_Poly ?n_degree_Poly ?n_lead_Poly ?sa_NoMean ?ga_NoMean ?gg_NoMean ?cls_NoMean ?kC_NoMean ?xn_NoMean ?gsd_all ?tks_all ?z_isinstance ?z_int ?z_bool ?z_abs ?z_len ?z_max ?z_range ?z_min ?z_list ?z_tuple ?z_sum ?gc_MOST_NUMBERS ?j_gcd ?j_lcm
    (case g_Ratio => k_is)
    (case g_Poly => k_is)
    (case g_MeansError => k_is)
    (case g_NoRow => k_is)
    (case g_NoMean => k_is)
    (case xL_MeansError => k_is)
    (case xL_NoMean => k_is)
    (case a0 => k_is)
    (case i0 => k_is)
    (case l0 => k_is)
    (case c0 => k_is)
    (case k0 => k_is)
    (case t0 => k_is)
    (case a1 => k_is)
    (case i1 => k_is)
    (case l1 => k_is)
    (case c1 => k_is)
    (case k1 => k_is)
    (case a2 => k_is)
    (case l2 => k_is)
    (case c2 => k_is)
    (case k2 => k_is)
    (case a3 => k_is)
    (case l3 => k_is)
    (case c3 => k_is)
    (case k3 => k_is)
    (case a4 => k_is)
    (case l4 => k_is)
    (case c4 => k_is)
    (case k4 => k_is)
    (case a5 => k_is)
    (case l5 => k_is)
    (case c5 => k_is)
    (case k5 => k_is)
    (case a6 => k_is)
    (case l6 => k_is)
    (case c6 => k_is)
    (case k6 => k_is)
    (case a7 => k_is)
    (case l7 => k_is)
    (case c7 => k_is)
    (case k7 => k_is)
    (case a8 => k_is)
    (case l8 => k_is)
    (case c8 => k_is)
    (case k8 => k_is)
    (case a9 => k_is)
    (case l9 => k_is)
    (case c9 => k_is)
    (case k9 => k_is)
    (case a10 => k_is)
    (case l10 => k_is)
    (case c10 => k_is)
    (case k10 => k_is)
    (case a11 => k_is)
    (case l11 => k_is)
    (case c11 => k_is)
    (case k11 => k_is)
    (case a12 => k_is)
    (case i12 => k_is)
    (case l12 => k_is)
    (case c12 => k_is)
    (case k12 => k_is)
    (case a13 => k_is)
    (case i13 => k_is)
    (case l13 => k_is)
    (case c13 => k_is)
    (case k13 => k_is)
    (case a14 => k_is)
    (case i14 => k_is)
    (case l14 => k_is)
    (case c14 => k_is)
    (case k14 => k_is)
    (case a15 => k_is)
    (case l15 => k_is)
    (case c15 => k_is)
    (case k15 => k_is)
    (case a16 => k_is)
    (case l16 => k_is)
    (case c16 => k_is)
    (case k16 => k_is)
    (case a17 => k_is)
    (case l17 => k_is)
    (case c17 => k_is)
    (case k17 => k_is)
    (case a18 => k_is)
    (case l18 => k_is)
    (case c18 => k_is)
    (case k18 => k_is)
    (case a19 => k_is)
    (case l19 => k_is)
    (case c19 => k_is)
    (case k19 => k_is)
    (case a20 => k_is)
    (case l20 => k_is)
    (case c20 => k_is)
    (case k20 => k_is)
    (case a21 => k_is)
    (case l21 => k_is)
    (case c21 => k_is)
    (case k21 => k_is)
    (case a22 => k_is)
    (case l22 => k_is)
    (case c22 => k_is)
    (case k22 => k_is)
    (case a23 => k_is)
    (case l23 => k_is)
    (case c23 => k_is)
    (case k23 => k_is)
    (case a24 => k_is)
    (case l24 => k_is)
    (case c24 => k_is)
    (case k24 => k_is)
    (case a25 => k_is)
    (case l25 => k_is)
    (case c25 => k_is)
    (case k25 => k_is)
    (case a26 => k_is)
    (case l26 => k_is)
    (case c26 => k_is)
    (case k26 => k_is)
    (case a27 => k_is)
    (case l27 => k_is)
    (case c27 => k_is)
    (case k27 => k_is)
    (case a28 => k_is)
    (case l28 => k_is)
    (case c28 => k_is)
    (case k28 => k_is)
    (case a29 => k_is)
    (case l29 => k_is)
    (case c29 => k_is)
    (case k29 => k_is)
    (case a30 => k_is)
    (case l30 => k_is)
    (case c30 => k_is)
    (case k30 => k_is)
    (case a31 => k_is)
    (case l31 => k_is)
    (case c31 => k_is)
    (case k31 => k_is)
    (case a32 => k_is)
    (case l32 => k_is)
    (case c32 => k_is)
    (case k32 => k_is)
    (case a33 => k_is)
    (case l33 => k_is)
    (case c33 => k_is)
    (case k33 => k_is)
    (case a34 => k_is)
    (case l34 => k_is)
    (case c34 => k_is)
    (case k34 => k_is)
    (case a35 => k_is)
    (case l35 => k_is)
    (case c35 => k_is)
    (case k35 => k_is)
    (case pg_Ratio => k_is)
    (case hd_Ratio => k_is)
    (case po_Ratio => k_is)
    (case sa_Ratio => k_is)
    (case mk_Ratio => k_is)
    (case kc_Ratio => k_is)
    (case sf_Ratio => k_is)
    (case s1_Ratio => k_is)
    (case s2_Ratio => k_is)
    (case cls_Ratio => k_is)
    (case gsd_Ratio => k_is)
    (case tks_Ratio => k_is)
    (case mro_Ratio => k_is)
    (case ki_Ratio => first | kit_is | k_is)
    (case ik_Ratio => first | kit_is | k_is)
    (case n_top_Ratio => k_is)
    (case n_bottom_Ratio => k_is)
    (case pg_Poly => k_is)
    (case hd_Poly => k_is)
    (case po_Poly => k_is)
    (case sa_Poly => k_is)
    (case mk_Poly => k_is)
    (case kc_Poly => k_is)
    (case sf_Poly => k_is)
    (case s1_Poly => k_is)
    (case s2_Poly => k_is)
    (case cls_Poly => k_is)
    (case gsd_Poly => k_is)
    (case tks_Poly => k_is)
    (case mro_Poly => k_is)
    (case ki_Poly => first | kit_is | k_is)
    (case ik_Poly => first | kit_is | k_is)
    (case n_coefficients_Poly => k_is)
    (case n_degree_Poly => k_is)
    (case n_lead_Poly => k_is)
    (case sa_NoMean => k_is)
    (case ga_NoMean => k_is)
    (case gg_NoMean => k_is)
    (case cls_NoMean => k_is)
    (case kC_NoMean => k_is)
    (case xn_NoMean => k_exc)
    (case gsd_all => k_is)
    (case tks_all => k_is)
    (case z_isinstance => k_is)
    (case z_int => k_is)
    (case z_bool => k_is)
    (case z_abs => k_is)
    (case z_len => k_is)
    (case z_max => k_is)
    (case z_range => k_is)
    (case z_min => k_is)
    (case z_list => k_is)
    (case z_tuple => k_is)
    (case z_sum => k_is)
    (case gc_MOST_NUMBERS => k_is)
    (case j_gcd => k_is)
    (case j_lcm => k_is)

