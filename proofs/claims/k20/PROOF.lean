import PyProof.Rows.All
import Wide.All
import OpenK.AllK
import Wide.FinOn
import HandS.Comp
import HandS.Words
import HandS.WordsList
import HandS.Exc
import HandS.Wide
import HandS.IsInst
import HandS.OwnEq
import HandS.Gcd
import HandS.Style
import HandS.Defaults
import HandS.Codes
import HandS.WordsExc
import HandS.ExcInit
import HandS.ExcOwn
import HandS.ExcField
import HandS.ExcIs
import HandS.MakeKw
import HandS.MakeKwOnly
import KE.KExcIs
import HandS.EndTab
import HandS.Iter
import KE.KMathGC
import PySem.Challenge.RW_momentrows_k20_rows_of_two_lots
set_option Elab.async false
set_option linter.all false
set_option maxRecDepth 100000
set_option maxHeartbeats 4000000
/-! # Operators of own classes, on either side of an int (my own layer over HandS) -/
namespace MoW
open PySem PySem.W
section
variable {prog : Program} {w : World} {A : Around} {E : Value → Shared → Prop} {s : Shared}
theorem int_eq_no (i : Int) (t : Tok) (l C dx : Addr) :
    Meets (Builtin.«int.__eq__» ⟨[.int i t, .ref l], []⟩) (fun _ R s => s.heap.get? l = some (PySem.W.instObj C dx) ∧ R (.ok (.ret .notImplemented)) s) :=
  .of_wp fun prog w A R s h => by obtain ⟨hp, g, d, tk, os⟩ := s; obtain ⟨hl, h⟩ := h; unfold PySem.W.instObj at hl; wp_walk using wpAny_loadPart' hl, wpAny_load hl; exact ⟨_, rfl, h⟩
theorem int_ne_no (i : Int) (t : Tok) (l C dx : Addr) :
    Meets (Builtin.«int.__ne__» ⟨[.int i t, .ref l], []⟩) (fun _ R s => s.heap.get? l = some (PySem.W.instObj C dx) ∧ R (.ok (.ret .notImplemented)) s) :=
  .of_wp fun prog w A R s h => by obtain ⟨hp, g, d, tk, os⟩ := s; obtain ⟨hl, h⟩ := h; unfold PySem.W.instObj at hl; wp_walk using wpAny_loadPart' hl, wpAny_load hl; exact ⟨_, rfl, h⟩
theorem int_lt_no (i : Int) (t : Tok) (l C dx : Addr) :
    Meets (Builtin.«int.__lt__» ⟨[.int i t, .ref l], []⟩) (fun _ R s => s.heap.get? l = some (PySem.W.instObj C dx) ∧ R (.ok (.ret .notImplemented)) s) :=
  .of_wp fun prog w A R s h => by obtain ⟨hp, g, d, tk, os⟩ := s; obtain ⟨hl, h⟩ := h; unfold PySem.W.instObj at hl; wp_walk using wpAny_loadPart' hl, wpAny_load hl; exact ⟨_, rfl, h⟩
theorem int_le_no (i : Int) (t : Tok) (l C dx : Addr) :
    Meets (Builtin.«int.__le__» ⟨[.int i t, .ref l], []⟩) (fun _ R s => s.heap.get? l = some (PySem.W.instObj C dx) ∧ R (.ok (.ret .notImplemented)) s) :=
  .of_wp fun prog w A R s h => by obtain ⟨hp, g, d, tk, os⟩ := s; obtain ⟨hl, h⟩ := h; unfold PySem.W.instObj at hl; wp_walk using wpAny_loadPart' hl, wpAny_load hl; exact ⟨_, rfl, h⟩
theorem int_gt_no (i : Int) (t : Tok) (l C dx : Addr) :
    Meets (Builtin.«int.__gt__» ⟨[.int i t, .ref l], []⟩) (fun _ R s => s.heap.get? l = some (PySem.W.instObj C dx) ∧ R (.ok (.ret .notImplemented)) s) :=
  .of_wp fun prog w A R s h => by obtain ⟨hp, g, d, tk, os⟩ := s; obtain ⟨hl, h⟩ := h; unfold PySem.W.instObj at hl; wp_walk using wpAny_loadPart' hl, wpAny_load hl; exact ⟨_, rfl, h⟩
theorem int_ge_no (i : Int) (t : Tok) (l C dx : Addr) :
    Meets (Builtin.«int.__ge__» ⟨[.int i t, .ref l], []⟩) (fun _ R s => s.heap.get? l = some (PySem.W.instObj C dx) ∧ R (.ok (.ret .notImplemented)) s) :=
  .of_wp fun prog w A R s h => by obtain ⟨hp, g, d, tk, os⟩ := s; obtain ⟨hl, h⟩ := h; unfold PySem.W.instObj at hl; wp_walk using wpAny_loadPart' hl, wpAny_load hl; exact ⟨_, rfl, h⟩
theorem int_add_no (i : Int) (t : Tok) (l C dx : Addr) :
    Meets (Builtin.«int.__add__» ⟨[.int i t, .ref l], []⟩) (fun _ R s => s.heap.get? l = some (PySem.W.instObj C dx) ∧ R (.ok (.ret .notImplemented)) s) :=
  .of_wp fun prog w A R s h => by obtain ⟨hp, g, d, tk, os⟩ := s; obtain ⟨hl, h⟩ := h; unfold PySem.W.instObj at hl; wp_walk using wpAny_loadPart' hl, wpAny_load hl; exact ⟨_, rfl, h⟩
theorem int_sub_no (i : Int) (t : Tok) (l C dx : Addr) :
    Meets (Builtin.«int.__sub__» ⟨[.int i t, .ref l], []⟩) (fun _ R s => s.heap.get? l = some (PySem.W.instObj C dx) ∧ R (.ok (.ret .notImplemented)) s) :=
  .of_wp fun prog w A R s h => by obtain ⟨hp, g, d, tk, os⟩ := s; obtain ⟨hl, h⟩ := h; unfold PySem.W.instObj at hl; wp_walk using wpAny_loadPart' hl, wpAny_load hl; exact ⟨_, rfl, h⟩
theorem int_mul_no (i : Int) (t : Tok) (l C dx : Addr) :
    Meets (Builtin.«int.__mul__» ⟨[.int i t, .ref l], []⟩) (fun _ R s => s.heap.get? l = some (PySem.W.instObj C dx) ∧ R (.ok (.ret .notImplemented)) s) :=
  .of_wp fun prog w A R s h => by obtain ⟨hp, g, d, tk, os⟩ := s; obtain ⟨hl, h⟩ := h; unfold PySem.W.instObj at hl; wp_walk using wpAny_loadPart' hl, wpAny_load hl; exact ⟨_, rfl, h⟩
theorem int_mod_no (i : Int) (t : Tok) (l C dx : Addr) :
    Meets (Builtin.«int.__mod__» ⟨[.int i t, .ref l], []⟩) (fun _ R s => s.heap.get? l = some (PySem.W.instObj C dx) ∧ R (.ok (.ret .notImplemented)) s) :=
  .of_wp fun prog w A R s h => by obtain ⟨hp, g, d, tk, os⟩ := s; obtain ⟨hl, h⟩ := h; unfold PySem.W.instObj at hl; wp_walk using wpAny_loadPart' hl, wpAny_load hl; exact ⟨_, rfl, h⟩
end
end MoW

namespace MoW
open PySem PySem.W PyProof.Rows
section
variable {prog : Program} {w : World} {A : Around} {E : Value → Shared → Prop} {s : Shared} {K : Frag} {x C L f : Addr} {h₀ : Heap} {m : Str → Option Value} {dx : Addr} {od : Option Obj} {i : Int} {t : Tok}

theorem looks_int {M : Model} {h : Heap} : Looks M h (typeOf (.int i t)) (.type "int") := Looks.of_pure rfl

/-- an int compared with an instance: int says it can't, the instance's own mirrored method answers -/
theorem cmp_int_own {op : CmpOp} {id : String} {Q : Value → Shared → Prop} (hu : A.units < cLine) (F : Fr h₀ L s.heap m) (X₀ : K.In h₀) (I : InstAt s.heap x (instObj C dx) C od)
    (hn : subIn K (.ref C) (.type "int") = some false) (h1 : Slot "int" (cmpInfo op).2.1 id)
    (hno : ∀ Q' : Value → Shared → Prop, Q' .notImplemented s → wpAny (model prog w) A (call (.builtin id) [.int i t, .ref x]) Q' E s)
    (hs : findIn K (.ref C) (cmpInfo op).2.2 = some (some (.ref f))) (hf : isFn K (.ref f) = true)
    (h : wpAny (model prog w) A (call (.ref f) [.ref x, .int i t]) (W.CmpBack Q) E s) : wpAny (model prog w) A (richCompare op (.int i t) (.ref x)) Q E s := by
  have X := X₀.keeps F.keep
  have one : wpAny (model prog w) A (tryCompare (.ref x) (cmpInfo op).2.2 (.int i t)) (fun r s' => ∃ v, r = some v ∧ Q v s') E s := by
    unfold tryCompare
    refine wpAny_bind (ifBound_K X I hs hf (wpAny_mono h (fun v s' hv => ?_) fun _ _ e => e))
    cases v <;> first | exact hv.elim | exact wpAny_pure ⟨_, rfl, hv⟩
  unfold richCompare
  simp only [(typeIs_int s i t).oneThing_none]
  refine wpAny_holding (wpAny_bind (wpAny_cRoomFor hu ?_))
  refine wpAny_bind (wpAny_typeOf (typeIs_int s i t) (wpAny_bind (I.type.here ?_)))
  have hne : (Value.type "int" != Value.ref C) = true := rfl
  simp only [hne, if_true]
  refine wpAny_bind ((looks_subIn X hn).here ?_)
  simp only [Bool.false_eq_true, if_false, Bool.not_false, if_true]
  refine wpAny_bind (m := tryCompare (.int i t) _ (.ref x)) (wpAny_tryCompare_declines (typeIs_int s i t) h1 (hno _ ⟨rfl, ?_⟩))
  refine wpAny_bind (m := tryCompare (.ref x) _ (.int i t)) (wpAny_mono one (fun r s' z => ?_) fun _ _ e => e)
  obtain ⟨v, rfl, hq⟩ := z
  exact wpAny_pure hq

theorem mro_first {cd : ClassData} (hc : selfFirst K C = true) : ∃ cd rest, clsIn K C = some cd ∧ cd.mro = .ref C :: rest := by
  obtain ⟨cd, hcd, hm⟩ := any_some hc
  refine ⟨cd, ?_⟩
  cases q : cd.mro with
  | nil => rw [q] at hm; cases hm
  | cons a r => rw [q] at hm; exact ⟨r, hcd, by rw [List.head?_cons] at hm; cases (beq_iff_eq.mp hm); rfl⟩

/-- an int beside an instance: int says it can't, the instance's own reflected method answers -/
theorem bin_int_own {op : Operator} {id : String} {g : Addr} {Q : Value → Shared → Prop} (F : Fr h₀ L s.heap m) (X₀ : K.In h₀) (I : InstAt s.heap x (instObj C dx) C od)
    (hc : selfFirst K C = true) (hn : subIn K (.ref C) (.type "int") = some false) (h1 : Slot "int" (PySem.dunder op.info.2) id) (hfi : fillsNumberSlot (.type "int") op.info.2 = pure true)
    (hno : ∀ Q' : Value → Shared → Prop, Q' .notImplemented s → wpAny (model prog w) A (call (.builtin id) [.int i t, .ref x]) Q' E s)
    (hd : findIn K (.ref C) (PySem.dunder op.info.2) = some (some (.ref g)))
    (hs : findIn K (.ref C) (dunderR op.info.2) = some (some (.ref f))) (hf : isFn K (.ref f) = true)
    (h : wpAny (model prog w) A (call (.ref f) [.ref x, .int i t]) (W.CmpBack Q) E s) : wpAny (model prog w) A (binaryOp op (.int i t) (.ref x)) Q E s := by
  have X := X₀.keeps F.keep
  obtain ⟨cd, rest, hcd, hm⟩ := mro_first (K := K) (C := C) (cd := default) hc
  unfold binaryOp
  refine wpAny_holding (wpAny_bind ?_)
  unfold binaryOp1
  refine wpAny_bind (wpAny_typeOf (typeIs_int s i t) (wpAny_bind (I.type.here (wpAny_bind (wpAny_of_eq hfi ?_)))))
  have hne : (Value.type "int" == Value.ref C) = false := rfl
  simp only [hne, Bool.false_eq_true, if_false]
  refine wpAny_bind ((fills_K X hcd hm hd).here ?_)
  simp only [Bool.and_self, if_true]
  refine wpAny_bind ((looks_subIn X hn).here ?_)
  have hpy : numberSlotInPython (.type "int") op.info.2 = pure false := rfl
  simp only [Bool.false_eq_true, if_false, pure_bind, Bool.not_false, Bool.and_self, if_true, hpy]
  refine wpAny_bind (m := tryMethod (.int i t) _ (.ref x)) (wpAny_tryMethod_declines (typeIs_int s i t) h1 (hno _ ⟨rfl, ?_⟩))
  refine wpAny_bind (m := tryMethod (.ref x) _ (.int i t)) ?_
  unfold tryMethod
  refine wpAny_bind (special_fn X I hs (beq_iff_eq.mp hf) (wpAny_mono h (fun v s' hv => ?_) fun _ _ e => e))
  cases v <;> first | exact hv.elim | exact wpAny_pure (wpAny_bind (wpAny_rule (wpAny_pure (wpAny_pure hv))))

/-- an instance beside an int: its own method answers -/
theorem bin_own_int {op : Operator} {id : String} {g : Addr} {Q : Value → Shared → Prop} (F : Fr h₀ L s.heap m) (X₀ : K.In h₀) (I : InstAt s.heap x (instObj C dx) C od)
    (hc : selfFirst K C = true) (hn : subIn K (.type "int") (.ref C) = some false) (h1 : Slot "int" (dunderR op.info.2) id) (hfi : fillsNumberSlot (.type "int") op.info.2 = pure true)
    (hs : findIn K (.ref C) (PySem.dunder op.info.2) = some (some (.ref f))) (hf : isFn K (.ref f) = true)
    (hd : findIn K (.ref C) (dunderR op.info.2) = some (some (.ref g)))
    (h : wpAny (model prog w) A (call (.ref f) [.ref x, .int i t]) (W.CmpBack Q) E s) : wpAny (model prog w) A (binaryOp op (.ref x) (.int i t)) Q E s := by
  have X := X₀.keeps F.keep
  obtain ⟨cd, rest, hcd, hm⟩ := mro_first (K := K) (C := C) (cd := default) hc
  unfold binaryOp
  refine wpAny_holding (wpAny_bind ?_)
  unfold binaryOp1
  refine wpAny_bind (I.type.here (wpAny_bind (wpAny_typeOf (typeIs_int s i t) (wpAny_bind ((fills_K X hcd hm hs).here ?_)))))
  have hne : (Value.ref C == Value.type "int") = false := rfl
  simp only [hne, Bool.false_eq_true, if_false]
  refine wpAny_bind (wpAny_of_eq hfi ?_)
  simp only [Bool.and_self, if_true]
  refine wpAny_bind ((looks_subIn X hn).here ?_)
  have hpy : Looks (model prog w) s.heap (numberSlotInPython (.ref C) op.info.2) true := by
    unfold numberSlotInPython
    refine (looks_findIn X hs).andThen ?_
    refine Looks.andThen (a := true) .now ?_
    refine (looks_findIn X hd).andThen ?_
    refine Looks.andThen (a := true) .now ?_
    exact .now
  have hpi : numberSlotInPython (.type "int") op.info.2 = pure false := rfl
  simp only [Bool.false_eq_true, if_false, pure_bind, Bool.not_false, Bool.and_self, if_true]
  refine wpAny_bind (hpy.here ?_)
  simp only [if_true]
  refine wpAny_bind (wpAny_of_eq hpi ?_)
  simp only [Bool.not_false, if_true]
  refine wpAny_bind (wpAny_of_eq h1.lookup ?_)
  refine wpAny_bind (m := tryMethod (.ref x) _ (.int i t)) ?_
  unfold tryMethod
  refine wpAny_bind (special_fn X I hs (beq_iff_eq.mp hf) (wpAny_mono h (fun v s' hv => ?_) fun _ _ e => e))
  cases v <;> first | exact hv.elim | exact wpAny_pure (wpAny_pure (wpAny_pure hv))
end
end MoW

namespace MoL
open PySem PySem.Spec PyProof.Rows L2 MoW

/-- an instance of the class at C -/
def Ins (H : Hp) (v : V) (C : Addr) : Prop := ∃ a dx fs, v = .ref a ∧ H a = some (.ins C dx fs)
/-- what the written part says of a class with operators -/
structure OwnC (K : PySem.W.Frag) (C : Addr) : Prop where
  first : PySem.W.selfFirst K C = true
  ci : PySem.W.subIn K (.ref C) (.type "int") = some false
  ic : PySem.W.subIn K (.type "int") (.ref C) = some false

section
variable {X : Cx} {pins : List (Addr × Obj)} {σ : L2.St} {H : Hp} {s : Shared}
theorem ep_back {Q : VK} {u : Value} {s' : Shared} (h : EP X pins σ Q u s') : PySem.W.CmpBack (EP X pins σ Q) u s' := by
  cases u with
  | notImplemented =>
    obtain ⟨v, H', I, r, q⟩ := h
    exfalso
    cases v <;> first | exact nomatch r | (obtain ⟨_, e⟩ := r; exact nomatch e)
  | _ => exact h
theorem ins_at {a C dx : Addr} {fs : List (Str × V)} (I : Inv X pins σ H s) (ha : H a = some (.ins C dx fs)) : ∃ od, PySem.W.InstAt s.heap a (PySem.W.instObj C dx) C od := by
  obtain ⟨mA, J, _⟩ := ins_get I.hok ha
  obtain ⟨od, J, _⟩ := J.look
  exact ⟨_, J⟩
theorem ins_obj {a C dx : Addr} {fs : List (Str × V)} (I : Inv X pins σ H s) (ha : H a = some (.ins C dx fs)) : s.heap.get? a = some (PySem.W.instObj C dx) := by
  obtain ⟨mA, J, _⟩ := ins_get I.hok ha
  exact J.obj
end

section
variable {X : Cx} {CX : CXT} {k : Nat} {C f g : Addr} {fd : FuncData} {ps : List Str} {sp : Sp} {E : XK}
/-- x op y, x an instance, y another one or an int: x's own method answers -/
def rOwn (C : Addr) (sp : Sp) (E : XK) : R2 := fun x y H Q => Ins H x C ∧ ((∃ i, y = .int i) ∨ Ins H y C) ∧ sp [x, y] H Q E
/-- i op y, y an instance: y's own mirrored method answers -/
def rOwnR (C : Addr) (sp : Sp) (E : XK) : R2 := fun x y H Q => (∃ i, x = .int i) ∧ Ins H y C ∧ sp [y, x] H Q E

theorem op_cmp_own {op : CmpOp} (hop : ∀ v u, compareOp op v u = richCompare op v u) (c : OwnC X.K C) (m : Meth X.K C (cmpInfo op).2.1 f) (F : FnOk X.prog X.w X.K X.mg X.base CX k f fd ps sp)
    (hr : Room k X.A) (hb : Binds X.K fd ps []) (hx : Passes CX X E) : OpR X (compareOp op) (rOwn C sp E) := by
  intro pins s σ H x y v u Q I rx ry h
  obtain ⟨⟨a, dx, fs, rfl, ha⟩, hy, hs⟩ := h
  cases (show v = Value.ref a from rx)
  obtain ⟨od, J⟩ := ins_at I ha
  obtain ⟨mm, hF⟩ := I.fr
  rw [hop]
  have hrun : wpAny (model X.prog X.w) X.A (call (.ref f) [.ref a, u]) (PySem.W.CmpBack (EP X pins σ Q)) X.xe s :=
    thn (run_fn (us := [.ref a, u]) (vs := [.ref a, y]) F hr hb .nil hx I (.cons rfl (.cons ry .nil)) hs) fun v s' q => ep_back q
  rcases hy with ⟨i, rfl⟩ | ⟨b, dy, gs, rfl, hb'⟩
  · obtain ⟨t, rfl⟩ := (show ∃ t, u = Value.int i t from ry)
    exact PySem.W.cmp_K (op := op) (tb := .type "int") hr.units0 hF I.ok.mod.kin J looks_int (by unfold PySem.W.notFirst; rw [c.ic]; rfl) m.at_ m.fn hrun
  · cases (show u = Value.ref b from ry)
    obtain ⟨od', J'⟩ := ins_at I hb'
    exact PySem.W.cmp_K (op := op) (tb := .ref C) hr.units0 hF I.ok.mod.kin J J'.type (by simp [PySem.W.notFirst]) m.at_ m.fn hrun

theorem op_cmp_int {op : CmpOp} {id : String} (hop : ∀ v u, compareOp op v u = richCompare op v u) (h1 : Slot "int" (cmpInfo op).2.1 id)
    (hno : ∀ (s : Shared) (i : Int) (t : Tok) (b dy : Addr) (Q' E' : Value → Shared → Prop), s.heap.get? b = some (PySem.W.instObj C dy) → Q' .notImplemented s → wpAny (model X.prog X.w) X.A (call (.builtin id) [.int i t, .ref b]) Q' E' s)
    (c : OwnC X.K C) (m : Meth X.K C (cmpInfo op).2.2 f) (F : FnOk X.prog X.w X.K X.mg X.base CX k f fd ps sp)
    (hr : Room k X.A) (hb : Binds X.K fd ps []) (hx : Passes CX X E) : OpR X (compareOp op) (rOwnR C sp E) := by
  intro pins s σ H x y v u Q I rx ry h
  obtain ⟨⟨i, rfl⟩, ⟨b, dy, gs, rfl, hb'⟩, hs⟩ := h
  obtain ⟨t, rfl⟩ := (show ∃ t, v = Value.int i t from rx)
  cases (show u = Value.ref b from ry)
  obtain ⟨od, J⟩ := ins_at I hb'
  obtain ⟨mm, hF⟩ := I.fr
  rw [hop]
  exact cmp_int_own (op := op) hr.units0 hF I.ok.mod.kin J c.ci h1 (fun Q' q => hno s i t b dy Q' _ (ins_obj I hb') q) m.at_ m.fn
    (thn (run_fn (us := [.ref b, .int i t]) (vs := [.ref b, .int i]) F hr hb .nil hx I (.cons rfl (.cons ⟨t, rfl⟩ .nil)) hs) fun v s' q => ep_back q)

theorem op_bin_own {op : Operator} {id : String} (h1 : Slot "int" (dunderR op.info.2) id) (hfi : fillsNumberSlot (.type "int") op.info.2 = pure true) (c : OwnC X.K C)
    (m : Meth X.K C (PySem.dunder op.info.2) f) (mr : Meth X.K C (dunderR op.info.2) g) (F : FnOk X.prog X.w X.K X.mg X.base CX k f fd ps sp)
    (hr : Room k X.A) (hb : Binds X.K fd ps []) (hx : Passes CX X E) : OpR X (binaryOp op) (rOwn C sp E) := by
  intro pins s σ H x y v u Q I rx ry h
  obtain ⟨⟨a, dx, fs, rfl, ha⟩, hy, hs⟩ := h
  cases (show v = Value.ref a from rx)
  obtain ⟨od, J⟩ := ins_at I ha
  obtain ⟨mm, hF⟩ := I.fr
  have hrun : wpAny (model X.prog X.w) X.A (call (.ref f) [.ref a, u]) (PySem.W.CmpBack (EP X pins σ Q)) X.xe s :=
    thn (run_fn (us := [.ref a, u]) (vs := [.ref a, y]) F hr hb .nil hx I (.cons rfl (.cons ry .nil)) hs) fun v s' q => ep_back q
  rcases hy with ⟨i, rfl⟩ | ⟨b, dy, gs, rfl, hb'⟩
  · obtain ⟨t, rfl⟩ := (show ∃ t, u = Value.int i t from ry)
    exact bin_own_int (op := op) hF I.ok.mod.kin J c.first c.ic h1 hfi m.at_ m.fn mr.at_ hrun
  · cases (show u = Value.ref b from ry)
    obtain ⟨od', J'⟩ := ins_at I hb'
    exact PySem.W.binop_K (op := op) hF I.ok.mod.kin J J'.type c.first m.at_ m.fn hrun

theorem op_bin_int {op : Operator} {id : String} (h1 : Slot "int" (PySem.dunder op.info.2) id) (hfi : fillsNumberSlot (.type "int") op.info.2 = pure true)
    (hno : ∀ (s : Shared) (i : Int) (t : Tok) (b dy : Addr) (Q' E' : Value → Shared → Prop), s.heap.get? b = some (PySem.W.instObj C dy) → Q' .notImplemented s → wpAny (model X.prog X.w) X.A (call (.builtin id) [.int i t, .ref b]) Q' E' s)
    (c : OwnC X.K C) (m : Meth X.K C (dunderR op.info.2) f) (ml : Meth X.K C (PySem.dunder op.info.2) g) (F : FnOk X.prog X.w X.K X.mg X.base CX k f fd ps sp)
    (hr : Room k X.A) (hb : Binds X.K fd ps []) (hx : Passes CX X E) : OpR X (binaryOp op) (rOwnR C sp E) := by
  intro pins s σ H x y v u Q I rx ry h
  obtain ⟨⟨i, rfl⟩, ⟨b, dy, gs, rfl, hb'⟩, hs⟩ := h
  obtain ⟨t, rfl⟩ := (show ∃ t, v = Value.int i t from rx)
  cases (show u = Value.ref b from ry)
  obtain ⟨od, J⟩ := ins_at I hb'
  obtain ⟨mm, hF⟩ := I.fr
  exact bin_int_own (op := op) hF I.ok.mod.kin J c.first c.ci h1 hfi (fun Q' q => hno s i t b dy Q' _ (ins_obj I hb') q) ml.at_ m.at_ m.fn
    (thn (run_fn (us := [.ref b, .int i t]) (vs := [.ref b, .int i]) F hr hb .nil hx I (.cons rfl (.cons ⟨t, rfl⟩ .nil)) hs) fun v s' q => ep_back q)

theorem op_eq_own (c : OwnC X.K C) (m : Meth X.K C "__eq__" f) (F : FnOk X.prog X.w X.K X.mg X.base CX k f fd ps sp)
    (hr : Room k X.A) (hb : Binds X.K fd ps []) (hx : Passes CX X E) : OpR X (compareOp .Eq) (rOwn C sp E) := op_cmp_own (op := .Eq) (fun _ _ => rfl) c m F hr hb hx
theorem op_eq_int (c : OwnC X.K C) (m : Meth X.K C "__eq__" f) (F : FnOk X.prog X.w X.K X.mg X.base CX k f fd ps sp)
    (hr : Room k X.A) (hb : Binds X.K fd ps []) (hx : Passes CX X E) : OpR X (compareOp .Eq) (rOwnR C sp E) := op_cmp_int (op := .Eq) (fun _ _ => rfl) PySem.F.slot_int_eq
  (fun s i t b dy Q' E' hb' q => call_meets PySem.F.slot_int_eq (typeIs_int s i t) PySem.F.entry_int_eq (PySem.F.args_int_eq_2 _ _) (int_eq_no i t b C dy) ⟨hb', q⟩) c m F hr hb hx

theorem op_ne_own (c : OwnC X.K C) (m : Meth X.K C "__ne__" f) (F : FnOk X.prog X.w X.K X.mg X.base CX k f fd ps sp)
    (hr : Room k X.A) (hb : Binds X.K fd ps []) (hx : Passes CX X E) : OpR X (compareOp .NotEq) (rOwn C sp E) := op_cmp_own (op := .NotEq) (fun _ _ => rfl) c m F hr hb hx
theorem op_ne_int (c : OwnC X.K C) (m : Meth X.K C "__ne__" f) (F : FnOk X.prog X.w X.K X.mg X.base CX k f fd ps sp)
    (hr : Room k X.A) (hb : Binds X.K fd ps []) (hx : Passes CX X E) : OpR X (compareOp .NotEq) (rOwnR C sp E) := op_cmp_int (op := .NotEq) (fun _ _ => rfl) PySem.F.slot_int_ne
  (fun s i t b dy Q' E' hb' q => call_meets PySem.F.slot_int_ne (typeIs_int s i t) PySem.F.entry_int_ne (PySem.F.args_int_ne_2 _ _) (int_ne_no i t b C dy) ⟨hb', q⟩) c m F hr hb hx

theorem op_lt_own (c : OwnC X.K C) (m : Meth X.K C "__lt__" f) (F : FnOk X.prog X.w X.K X.mg X.base CX k f fd ps sp)
    (hr : Room k X.A) (hb : Binds X.K fd ps []) (hx : Passes CX X E) : OpR X (compareOp .Lt) (rOwn C sp E) := op_cmp_own (op := .Lt) (fun _ _ => rfl) c m F hr hb hx
theorem op_lt_int (c : OwnC X.K C) (m : Meth X.K C "__gt__" f) (F : FnOk X.prog X.w X.K X.mg X.base CX k f fd ps sp)
    (hr : Room k X.A) (hb : Binds X.K fd ps []) (hx : Passes CX X E) : OpR X (compareOp .Lt) (rOwnR C sp E) := op_cmp_int (op := .Lt) (fun _ _ => rfl) PySem.F.slot_int_lt
  (fun s i t b dy Q' E' hb' q => call_meets PySem.F.slot_int_lt (typeIs_int s i t) PySem.F.entry_int_lt (PySem.F.args_int_lt_2 _ _) (int_lt_no i t b C dy) ⟨hb', q⟩) c m F hr hb hx

theorem op_le_own (c : OwnC X.K C) (m : Meth X.K C "__le__" f) (F : FnOk X.prog X.w X.K X.mg X.base CX k f fd ps sp)
    (hr : Room k X.A) (hb : Binds X.K fd ps []) (hx : Passes CX X E) : OpR X (compareOp .LtE) (rOwn C sp E) := op_cmp_own (op := .LtE) (fun _ _ => rfl) c m F hr hb hx
theorem op_le_int (c : OwnC X.K C) (m : Meth X.K C "__ge__" f) (F : FnOk X.prog X.w X.K X.mg X.base CX k f fd ps sp)
    (hr : Room k X.A) (hb : Binds X.K fd ps []) (hx : Passes CX X E) : OpR X (compareOp .LtE) (rOwnR C sp E) := op_cmp_int (op := .LtE) (fun _ _ => rfl) PySem.F.slot_int_le
  (fun s i t b dy Q' E' hb' q => call_meets PySem.F.slot_int_le (typeIs_int s i t) PySem.F.entry_int_le (PySem.F.args_int_le_2 _ _) (int_le_no i t b C dy) ⟨hb', q⟩) c m F hr hb hx

theorem op_gt_own (c : OwnC X.K C) (m : Meth X.K C "__gt__" f) (F : FnOk X.prog X.w X.K X.mg X.base CX k f fd ps sp)
    (hr : Room k X.A) (hb : Binds X.K fd ps []) (hx : Passes CX X E) : OpR X (compareOp .Gt) (rOwn C sp E) := op_cmp_own (op := .Gt) (fun _ _ => rfl) c m F hr hb hx
theorem op_gt_int (c : OwnC X.K C) (m : Meth X.K C "__lt__" f) (F : FnOk X.prog X.w X.K X.mg X.base CX k f fd ps sp)
    (hr : Room k X.A) (hb : Binds X.K fd ps []) (hx : Passes CX X E) : OpR X (compareOp .Gt) (rOwnR C sp E) := op_cmp_int (op := .Gt) (fun _ _ => rfl) PySem.F.slot_int_gt
  (fun s i t b dy Q' E' hb' q => call_meets PySem.F.slot_int_gt (typeIs_int s i t) PySem.F.entry_int_gt (PySem.F.args_int_gt_2 _ _) (int_gt_no i t b C dy) ⟨hb', q⟩) c m F hr hb hx

theorem op_ge_own (c : OwnC X.K C) (m : Meth X.K C "__ge__" f) (F : FnOk X.prog X.w X.K X.mg X.base CX k f fd ps sp)
    (hr : Room k X.A) (hb : Binds X.K fd ps []) (hx : Passes CX X E) : OpR X (compareOp .GtE) (rOwn C sp E) := op_cmp_own (op := .GtE) (fun _ _ => rfl) c m F hr hb hx
theorem op_ge_int (c : OwnC X.K C) (m : Meth X.K C "__le__" f) (F : FnOk X.prog X.w X.K X.mg X.base CX k f fd ps sp)
    (hr : Room k X.A) (hb : Binds X.K fd ps []) (hx : Passes CX X E) : OpR X (compareOp .GtE) (rOwnR C sp E) := op_cmp_int (op := .GtE) (fun _ _ => rfl) PySem.F.slot_int_ge
  (fun s i t b dy Q' E' hb' q => call_meets PySem.F.slot_int_ge (typeIs_int s i t) PySem.F.entry_int_ge (PySem.F.args_int_ge_2 _ _) (int_ge_no i t b C dy) ⟨hb', q⟩) c m F hr hb hx

theorem op_add_own (c : OwnC X.K C) (m : Meth X.K C "__add__" f) (mr : Meth X.K C "__radd__" g) (F : FnOk X.prog X.w X.K X.mg X.base CX k f fd ps sp)
    (hr : Room k X.A) (hb : Binds X.K fd ps []) (hx : Passes CX X E) : OpR X (binaryOp .Add) (rOwn C sp E) := op_bin_own (op := .Add) PySem.F.slot_int_radd PySem.F.fills_int_add c m mr F hr hb hx
theorem op_add_int (c : OwnC X.K C) (m : Meth X.K C "__radd__" f) (ml : Meth X.K C "__add__" g) (F : FnOk X.prog X.w X.K X.mg X.base CX k f fd ps sp)
    (hr : Room k X.A) (hb : Binds X.K fd ps []) (hx : Passes CX X E) : OpR X (binaryOp .Add) (rOwnR C sp E) := op_bin_int (op := .Add) PySem.F.slot_int_add PySem.F.fills_int_add
  (fun s i t b dy Q' E' hb' q => call_meets PySem.F.slot_int_add (typeIs_int s i t) PySem.F.entry_int_add (PySem.F.args_int_add_2 _ _) (int_add_no i t b C dy) ⟨hb', q⟩) c m ml F hr hb hx

theorem op_sub_own (c : OwnC X.K C) (m : Meth X.K C "__sub__" f) (mr : Meth X.K C "__rsub__" g) (F : FnOk X.prog X.w X.K X.mg X.base CX k f fd ps sp)
    (hr : Room k X.A) (hb : Binds X.K fd ps []) (hx : Passes CX X E) : OpR X (binaryOp .Sub) (rOwn C sp E) := op_bin_own (op := .Sub) PySem.F.slot_int_rsub PySem.F.fills_int_sub c m mr F hr hb hx
theorem op_sub_int (c : OwnC X.K C) (m : Meth X.K C "__rsub__" f) (ml : Meth X.K C "__sub__" g) (F : FnOk X.prog X.w X.K X.mg X.base CX k f fd ps sp)
    (hr : Room k X.A) (hb : Binds X.K fd ps []) (hx : Passes CX X E) : OpR X (binaryOp .Sub) (rOwnR C sp E) := op_bin_int (op := .Sub) PySem.F.slot_int_sub PySem.F.fills_int_sub
  (fun s i t b dy Q' E' hb' q => call_meets PySem.F.slot_int_sub (typeIs_int s i t) PySem.F.entry_int_sub (PySem.F.args_int_sub_2 _ _) (int_sub_no i t b C dy) ⟨hb', q⟩) c m ml F hr hb hx

theorem op_mul_own (c : OwnC X.K C) (m : Meth X.K C "__mul__" f) (mr : Meth X.K C "__rmul__" g) (F : FnOk X.prog X.w X.K X.mg X.base CX k f fd ps sp)
    (hr : Room k X.A) (hb : Binds X.K fd ps []) (hx : Passes CX X E) : OpR X (binaryOp .Mult) (rOwn C sp E) := op_bin_own (op := .Mult) PySem.F.slot_int_rmul PySem.F.fills_int_mul c m mr F hr hb hx
theorem op_mul_int (c : OwnC X.K C) (m : Meth X.K C "__rmul__" f) (ml : Meth X.K C "__mul__" g) (F : FnOk X.prog X.w X.K X.mg X.base CX k f fd ps sp)
    (hr : Room k X.A) (hb : Binds X.K fd ps []) (hx : Passes CX X E) : OpR X (binaryOp .Mult) (rOwnR C sp E) := op_bin_int (op := .Mult) PySem.F.slot_int_mul PySem.F.fills_int_mul
  (fun s i t b dy Q' E' hb' q => call_meets PySem.F.slot_int_mul (typeIs_int s i t) PySem.F.entry_int_mul (PySem.F.args_int_mul_2 _ _) (int_mul_no i t b C dy) ⟨hb', q⟩) c m ml F hr hb hx

theorem op_mod_own (c : OwnC X.K C) (m : Meth X.K C "__mod__" f) (mr : Meth X.K C "__rmod__" g) (F : FnOk X.prog X.w X.K X.mg X.base CX k f fd ps sp)
    (hr : Room k X.A) (hb : Binds X.K fd ps []) (hx : Passes CX X E) : OpR X (binaryOp .Mod) (rOwn C sp E) := op_bin_own (op := .Mod) PySem.F.slot_int_rmod PySem.F.fills_int_mod c m mr F hr hb hx
theorem op_mod_int (c : OwnC X.K C) (m : Meth X.K C "__rmod__" f) (ml : Meth X.K C "__mod__" g) (F : FnOk X.prog X.w X.K X.mg X.base CX k f fd ps sp)
    (hr : Room k X.A) (hb : Binds X.K fd ps []) (hx : Passes CX X E) : OpR X (binaryOp .Mod) (rOwnR C sp E) := op_bin_int (op := .Mod) PySem.F.slot_int_mod PySem.F.fills_int_mod
  (fun s i t b dy Q' E' hb' q => call_meets PySem.F.slot_int_mod (typeIs_int s i t) PySem.F.entry_int_mod (PySem.F.args_int_mod_2 _ _) (int_mod_no i t b C dy) ⟨hb', q⟩) c m ml F hr hb hx
end
end MoL

/-! # Helpers: items of lists read by place, // by any number that is not 0, sizes, lowest terms -/
namespace MoL
open PySem PySem.Spec PyProof.Rows L2 MoW

section
variable {X : Cx}
def rGetL (K : PySem.W.Frag) : V → V → Hp → VK → Prop := fun x y H Q => ∃ p xs j v, x = .ref p ∧ y = .int ((j : Nat) : Int) ∧ SqL K H p xs ∧ xs[j]? = some v ∧ Q v H
theorem get_list : PGet X (rGetL X.K) := by
  intro pins s σ H x y v u Q I rx ry h
  obtain ⟨p, xs, j, z, rfl, rfl, hq, he, q⟩ := h
  cases rx
  obtain ⟨t, rfl⟩ := ry
  obtain ⟨its, r, pl, hz⟩ := I.list hq
  obtain ⟨w, ew, rw'⟩ := r.get he
  have hj : j < xs.length := (List.getElem?_eq_some_iff.mp he).1
  have hn := line63
  exact wpAny_getItem_list pl.isList (by omega) (by omega) (by simpa using ew) ⟨z, H, I, rw', q⟩
/-- // by any number but 0, below 2 ^ 9000 in size -/
def CDivA (_ j : Int) : Prop := j ≠ 0 ∧ j.natAbs.log2 < 9000
theorem op_fdivA : OpR X (binaryOp .FloorDiv) (rI CDivA fun i j => .int (i.fdiv j)) := opI fun i j _ _ _ _ _ hc q => floordiv_int hc.1 q (.inl (PyProof.noPylong_of_log2 hc.2))
end

/-! ### sizes -/
/-- below 2 ^ 4000 in size -/
def Sm (i : Int) : Prop := i.natAbs < 2 ^ 4000
theorem Sm.mul {i j : Int} (a : Sm i) (b : Sm j) : CMulW i j := wide_mul a b (by decide) (by decide) (by decide)
theorem Sm.mulr {i j : Int} (a : Sm i) (b : j.natAbs < 2 ^ 9000) : CMulW i j := wide_mul a b (by decide) (by decide) (by decide)
theorem Sm.div {i j : Int} (h : j ≠ 0) (a : Sm j) : CDivA i j := ⟨h, Nat.lt_of_lt_of_le (PySem.Flt.log2_lt_of (by decide) a) (by decide)⟩
theorem Sm.le {i j : Int} (a : Sm j) (h : i.natAbs ≤ j.natAbs) : Sm i := Nat.lt_of_le_of_lt h a
theorem pow_big {k : Nat} (h : k ≤ 4000) : 2 ^ k ≤ 2 ^ 4000 := Nat.pow_le_pow_right (by decide) h
theorem Sm.of {i : Int} {k : Nat} (h : i.natAbs < 2 ^ k) (hk : k ≤ 4000) : Sm i := Nat.lt_of_lt_of_le h (pow_big hk)

theorem Sm.ab {i : Int} (h1 : -(2 ^ 200) < i) (h2 : i < 2 ^ 200) : Sm i := Sm.of (k := 200) (by omega) (by decide)
theorem iteFe {c : Bool} {A B : Prop} (hc : c = false) (h : B) : if c = true then A else B := by rw [hc]; exact iteF h
theorem iteTe {c : Bool} {A B : Prop} (hc : c = true) (h : A) : if c = true then A else B := by rw [hc]; exact iteT h

/-! ### lowest terms -/
/-- t' / b' is t / b in lowest terms, the bottom above 0 -/
structure Norm (t b t' b' : Int) : Prop where
  ex : ∃ g : Int, t = g * t' ∧ b = g * b' ∧ g ≠ 0
  pos : 0 < b'
  cop : Nat.gcd t'.natAbs b'.natAbs = 1
theorem Norm.cross {t b t' b' : Int} (n : Norm t b t' b') : t' * b = t * b' := by
  obtain ⟨g, h1, h2, _⟩ := n.ex
  rw [h1, h2, Int.mul_comm g t', Int.mul_assoc]
theorem natAbs_le_mul {g x : Int} (h : g ≠ 0) : x.natAbs ≤ (g * x).natAbs := by
  rw [Int.natAbs_mul]
  exact Nat.le_mul_of_pos_left _ (Int.natAbs_pos.mpr h)
theorem Norm.le1 {t b t' b' : Int} (n : Norm t b t' b') : t'.natAbs ≤ t.natAbs := by
  obtain ⟨g, h1, h2, h⟩ := n.ex
  rw [h1]; exact natAbs_le_mul h
theorem Norm.le2 {t b t' b' : Int} (n : Norm t b t' b') : b'.natAbs ≤ b.natAbs := by
  obtain ⟨g, h1, h2, h⟩ := n.ex
  rw [h2]; exact natAbs_le_mul h
/-- what the making computes: g the signed common divisor -/
theorem fdiv_exact {g x y : Int} (h : g ≠ 0) (e : x = g * y) : x.fdiv g = y := by
  rw [e]
  exact Int.mul_fdiv_cancel_left y h
theorem Norm.make {t b : Int} (hb : b ≠ 0) : ∀ g : Int, g = (if b < 0 then -((Nat.gcd t.natAbs b.natAbs : Nat) : Int) else ((Nat.gcd t.natAbs b.natAbs : Nat) : Int)) →
    g ≠ 0 ∧ g.natAbs ≤ b.natAbs ∧ Norm t b (t.fdiv g) (b.fdiv g) := by
  intro g hg
  have hpos : 0 < Nat.gcd t.natAbs b.natAbs := Nat.gcd_pos_of_pos_right _ (Int.natAbs_pos.mpr hb)
  have hle : Nat.gcd t.natAbs b.natAbs ≤ b.natAbs := Nat.gcd_le_right _ (Int.natAbs_pos.mpr hb)
  generalize hd : Nat.gcd t.natAbs b.natAbs = d at hpos hle hg
  have gabs : g.natAbs = d := by
    rw [hg]; split <;> simp
  have g0 : g ≠ 0 := by
    intro z; rw [z] at gabs; simp at gabs; omega
  have d1 : d ∣ t.natAbs := hd ▸ Nat.gcd_dvd_left _ _
  have d2 : d ∣ b.natAbs := hd ▸ Nat.gcd_dvd_right _ _
  have e1 : g ∣ t := Int.natAbs_dvd_natAbs.mp (by rw [gabs]; exact d1)
  have e2 : g ∣ b := Int.natAbs_dvd_natAbs.mp (by rw [gabs]; exact d2)
  obtain ⟨t', ht⟩ := e1
  obtain ⟨b', hb'⟩ := e2
  refine ⟨g0, by rw [gabs]; exact hle, ?_⟩
  rw [fdiv_exact g0 ht, fdiv_exact g0 hb']
  refine ⟨⟨g, ht, hb', g0⟩, ?_, ?_⟩
  · by_cases hneg : b < 0
    · rw [if_pos hneg] at hg
      have gn : g < 0 := by omega
      rw [hb', Int.mul_comm] at hneg
      exact Int.pos_of_mul_neg_left hneg gn
    · rw [if_neg hneg] at hg
      have gp : 0 < g := by omega
      have bp : 0 < g * b' := by rw [← hb']; omega
      exact Int.pos_of_mul_pos_right bp (by omega)
  · have x1 : t.natAbs = d * t'.natAbs := by rw [ht, Int.natAbs_mul, gabs]
    have x2 : b.natAbs = d * b'.natAbs := by rw [hb', Int.natAbs_mul, gabs]
    rw [x1, x2, Nat.gcd_mul_left] at hd
    have : d * Nat.gcd t'.natAbs b'.natAbs = d * 1 := by rw [hd, Nat.mul_one]
    exact Nat.eq_of_mul_eq_mul_left hpos this
end MoL

namespace MoL
open PySem PySem.Spec PyProof.Rows L2 MoW
/-- what the written part says of a class of plain instances with operators and the fields top, bottom -/
structure OwnK (K : PySem.W.Frag) (C : Addr) : Prop where
  cl : Cls K C
  ow : OwnC K C
  ha : PySem.W.findIn K (.ref C) "__class__" = some (some (.builtin "object.__class__"))
  hn : PySem.W.specialIn K (.builtin "object.__class__") "__get__" = some (some (.builtin "getset_descriptor.__get__"))
  htk : PySem.W.takesIn K (.builtin "object.__class__") = some true
  hm : PySem.W.mroIn K C (.type "object") = some true
  ki : PySem.W.kitOne K (.ref C) (.type "int") = some false
  ik : PySem.W.kitOne K (.type "int") (.ref C) = some false
  n_top : NoAttr K C "top"
  n_bottom : NoAttr K C "bottom"
theorem kit_self {K : PySem.W.Frag} {C : Addr} : PySem.W.kitOne K (.ref C) (.ref C) = some true := by
  unfold PySem.W.kitOne
  rw [if_pos (by simp)]
theorem OwnK.ty {K : PySem.W.Frag} {C : Addr} {H : Hp} {a dx : Addr} {fs : List (Str × V)} (k : OwnK K C) (h : H a = some (.ins C dx fs)) : TyX K H (.ref a) (.ref C) :=
  .base (.ins h k.cl k.ha k.hn k.htk k.hm)

/-- a Ratio: an instance of the class at C with these two numbers -/
def RatAt (C : Addr) (H : Hp) (v : V) (t b : Int) : Prop := ∃ a dx, v = .ref a ∧ H a = some (.ins C dx [("top", .int t), ("bottom", .int b)])
theorem RatAt.ins {C : Addr} {H : Hp} {v : V} {t b : Int} (r : RatAt C H v t b) : Ins H v C := by
  obtain ⟨a, dx, e, h⟩ := r
  exact ⟨a, dx, _, e, h⟩
theorem RatAt.same {C : Addr} {H H' : Hp} {v : V} {t b : Int} (r : RatAt C H v t b) (s : Same H H') : RatAt C H' v t b := by
  obtain ⟨a, dx, e, h⟩ := r
  exact ⟨a, dx, e, s _ _ h⟩
theorem Ins.same {C : Addr} {H H' : Hp} {v : V} (r : Ins H v C) (s : Same H H') : Ins H' v C := by
  obtain ⟨a, dx, fs, e, h⟩ := r
  exact ⟨a, dx, fs, e, s _ _ h⟩
theorem same_upd {H : Hp} {p : Addr} {o : HO} (h : H p = none) : Same H (upd H p o) := fun b x e => by
  rw [upd_ne (ne_of_none e h)]
  exact e
theorem same_upd' {H H1 : Hp} {p : Addr} {o : HO} (s : Same H H1) (h : H p = none) : Same H (upd H1 p o) := fun b x e => by
  rw [upd_ne (ne_of_none e h)]
  exact s _ _ e
end MoL

/-! # Signs before an instance, abs of one; lowest terms are one -/
namespace MoL
open PySem PySem.Spec PyProof.Rows L2 MoW
section
variable {X : Cx} {CX : CXT} {k : Nat} {C f g : Addr} {fd : FuncData} {ps : List Str} {sp : Sp} {E : XK}
/-- -x of an instance with its own __neg__ -/
def rOwn1 (C : Addr) (sp : Sp) (E : XK) : V → Hp → VK → Prop := fun x H Q => Ins H x C ∧ sp [x] H Q E
theorem un_neg_own (m : Meth X.K C "__neg__" f) (F : FnOk X.prog X.w X.K X.mg X.base CX k f fd ps sp)
    (hr : Room k X.A) (hb : Binds X.K fd ps []) (hx : Passes CX X E) : UnR X (unaryOp .USub) (rOwn1 C sp E) := by
  intro pins s σ H x v Q I rx h
  obtain ⟨⟨a, dx, fs, rfl, ha⟩, hs⟩ := h
  cases (show v = Value.ref a from rx)
  obtain ⟨od, J⟩ := ins_at I ha
  have hrun : wpAny (model X.prog X.w) X.A (call (.ref f) [.ref a]) (EP X pins σ Q) X.xe s :=
    run_fn (us := [.ref a]) (vs := [.ref a]) F hr hb .nil hx I (.cons rfl .nil) hs
  unfold unaryOp
  refine wpAny_holding ?_
  have e : (UnaryOp.USub == UnaryOp.Not) = false := rfl
  simp only [e, Bool.false_eq_true, if_false]
  exact wpAny_bind (PySem.W.special_fn I.kIn J m.at_ (beq_iff_eq.mp m.fn) (wpAny_mono hrun (fun v s' q => wpAny_pure q) fun _ _ e => e))
theorem UnR.or {f : Value → Sem Value} {r r' : V → Hp → VK → Prop} (h : UnR X f r) (h' : UnR X f r') : UnR X f (fun x H Q => r x H Q ∨ r' x H Q) := by
  intro pins s σ H x v Q I rx q
  rcases q with q | q
  · exact h pins s σ H x v Q I rx q
  · exact h' pins s σ H x v Q I rx q
/-- the callee runs within a built-in -/
theorem run_fn1 {pins : List (Addr × Obj)} {σ : L2.St} {H : Hp} {s : Shared} {Q : VK} {us : List Value} {vs : List V} (F : FnOk X.prog X.w X.K X.mg X.base CX k f fd ps sp) (hr : Room (k + 1) X.A) (hb : Binds X.K fd ps []) (hx : Passes CX X E)
    (I : Inv X pins σ H s) (r : Vals vs us) (h : sp vs H Q E) : wpAny (model X.prog X.w) X.A.in1 (call (.ref f) us) (EP X pins σ Q) X.xe s := by
  have hl : us.length = ps.length := by rw [← r.length]; exact F.len _ _ _ _ h
  have hb' : BindsTo s fd ⟨us, []⟩ (ps.zip us) := by
    have := hb s us I.kIn (by simpa using hl)
    simpa using this
  refine wpAny_call (codeAny_mono (F.run X.A.in1 X.stack s H ⟨us, []⟩ us vs Q E hr.in1 I.env0.in1 hb' r h) fun r s' hq => ?_)
  cases r with
  | error e => exact hx pins σ H s e s' I hq
  | ok fl =>
    cases fl with
    | ret u => exact I.after hq
    | next => exact False.elim hq
    | brk => exact False.elim hq
    | cont => exact False.elim hq
theorem call_abs_own (m : Meth X.K C "__abs__" f) (F : FnOk X.prog X.w X.K X.mg X.base CX k f fd ps sp)
    (hr : Room (k + 1) X.A) (hb : Binds X.K fd ps []) (hx : Passes CX X E) : CallR X (.builtin "abs") (fun xs H Q => ∃ x, xs = [x] ∧ rOwn1 C sp E x H Q) := by
  intro pins s σ H xs us Q I r h
  obtain ⟨x, rfl, ⟨a, dx, fs, rfl, ha⟩, hs⟩ := h
  obtain ⟨u, rfl, ru⟩ := vals1 r
  cases (show u = Value.ref a from ru)
  obtain ⟨od, J⟩ := ins_at I ha
  have hrun := run_fn1 (us := [.ref a]) (vs := [.ref a]) F hr hb hx I (.cons rfl .nil) hs
  refine Calls.call_function_entry kind_abs plain_abs entry_abs (args_abs _) ?_
  unfold Builtin.«abs»
  refine wpAny_bind (m := oneArg "abs" _) (wpAny_pure ?_)
  refine wpAny_bind (m := callSpecial? (.ref a) (Str.ofString "__abs__")) ?_
  exact PySem.W.special_fn I.kIn J m.at_ (beq_iff_eq.mp m.fn) (wpAny_mono hrun (fun v s' q => wpAny_pure ⟨_, rfl, q⟩) fun _ _ e => e)
end
/-! ### lowest terms are one -/
theorem Norm.bne {t b t' b' : Int} (n : Norm t b t' b') : b ≠ 0 := by
  obtain ⟨g, _, h2, h⟩ := n.ex
  rw [h2]
  intro z
  rcases Int.mul_eq_zero.mp z with e | e
  · exact h e
  · have := n.pos; omega
theorem cop_one {t b u c : Int} (hb : 0 < b) (hc : 0 < c) (h1 : Nat.gcd t.natAbs b.natAbs = 1) (h2 : Nat.gcd u.natAbs c.natAbs = 1) (e : t * c = u * b) : t = u ∧ b = c := by
  have en : t.natAbs * c.natAbs = u.natAbs * b.natAbs := by rw [← Int.natAbs_mul, ← Int.natAbs_mul, e]
  have d1 : b.natAbs ∣ c.natAbs := by
    have h : b.natAbs ∣ t.natAbs * c.natAbs := ⟨u.natAbs, by rw [en, Nat.mul_comm]⟩
    exact Nat.Coprime.dvd_of_dvd_mul_left (Nat.Coprime.symm h1) h
  have d2 : c.natAbs ∣ b.natAbs := by
    have h : c.natAbs ∣ u.natAbs * b.natAbs := ⟨t.natAbs, by rw [← en, Nat.mul_comm]⟩
    exact Nat.Coprime.dvd_of_dvd_mul_left (Nat.Coprime.symm h2) h
  have ebc : b = c := by
    have := Nat.dvd_antisymm d1 d2
    omega
  subst ebc
  refine ⟨?_, rfl⟩
  exact Int.eq_of_mul_eq_mul_right (by omega) e
/-- two ways to one value: the same lowest terms -/
theorem Norm.uniq {p q t b p' q' t' b' : Int} (n : Norm p q t b) (m : Norm p' q' t' b') (e : p * q' = p' * q) : t = t' ∧ b = b' := by
  refine cop_one n.pos m.pos n.cop m.cop ?_
  have c1 := n.cross
  have c2 := m.cross
  have q0 := n.bne
  have q1 := m.bne
  have key : (t * b') * (q * q') = (t' * b) * (q * q') := by
    have e1 : (t * b') * (q * q') = (t * q) * (b' * q') := by
      rw [Int.mul_assoc, Int.mul_assoc, Int.mul_left_comm b' q q']
    have e2 : (t' * b) * (q * q') = (t' * q') * (b * q) := by
      rw [Int.mul_assoc, Int.mul_assoc, Int.mul_comm q q', Int.mul_left_comm b q' q]
    rw [e1, e2, c1, c2]
    have e3 : p * b * (b' * q') = (p * q') * (b * b') := by
      rw [Int.mul_assoc, Int.mul_assoc, Int.mul_comm b' q', Int.mul_left_comm b q' b']
    have e4 : p' * b' * (b * q) = (p' * q) * (b * b') := by
      rw [Int.mul_assoc, Int.mul_assoc, Int.mul_comm b q, Int.mul_left_comm b' q b, Int.mul_comm b' b]
    rw [e3, e4, e]
  have qq : q * q' ≠ 0 := fun z => by
    rcases Int.mul_eq_zero.mp z with e | e
    · exact q0 e
    · exact q1 e
  exact Int.eq_of_mul_eq_mul_right qq key
end MoL
namespace MoL
open PySem PySem.Spec PyProof.Rows L2 MoW
theorem call_or {X : Cx} {f : Value} {r r' : List V → Hp → VK → Prop} (h : CallR X f r) (h' : CallR X f r') : CallR X f (fun xs H Q => r xs H Q ∨ r' xs H Q) := by
  intro pins s σ H xs us Q I r q
  rcases q with q | q
  · exact h pins s σ H xs us Q I r q
  · exact h' pins s σ H xs us Q I r q
end MoL

/-! # Errors of the program: making one whose class keeps one field, and what a suite that caught it may ask -/
namespace MoL
open PySem PySem.Spec PyProof.Rows L2 MoW

/-! ### a class call in a body whose errors are caught: the wish speaks of the slots -/
def tMakeA (C : Addr) (sp : Sp) (dvs : List V) (W : L2.St → XK) (t : TA) : TE := fun σ H Q => t σ H fun vs G => ∀ x y, G x = none → G y = none → y ≠ x →
  sp (.ref x :: (vs ++ dvs)) (upd (upd G y (.own x)) x (.ins C y [])) (fun v G2 => v = .non ∧ Q (.ref x) G2) (W σ)
section
variable {X : Cx} {CX : CXT} {k : Nat} {f C : Addr} {fd : FuncData} {ps : List Str} {sp : Sp} {dvs : List V} {ds : List Value} {W : L2.St → XK} {x : Str} {p pos : Pos} {e : Expr} {es : List Expr} {t : TA}
theorem pe_makeA (M : Mk X.K C f) (F : FnOk X.prog X.w X.K X.mg X.base CX k f fd ps sp) (room : Room (k + 1) X.A) (hg : Gl X x) (hm : X.mg x = some (.ref C)) (hb : Binds X.K fd ps ds) (hd : Vals dvs ds) (hx : ∀ σ, PassesAt CX X σ (W σ)) (ha : PA X (e :: es) t)
    (hdb : (x == ("__debug__" : Str)) = false := by decide) (he : starEach (e :: es) X.env = (false, eval e X.env) :: starEach es X.env := by rfl) (hpl : (backTo pos (starEach es X.env)).any (·.1) = false := by rfl) :
    PE X (.Call (.Name x p) (e :: es) [] pos) (tMakeA C sp dvs W t) := by
  constructor
  intro pins s0 σ H0 Q I0 h
  refine wpAny_Call_Name_kw (ld_glob I0 hg hm ?_ hdb)
  refine PySem.W.callWith_K (h₀ := X.base) I0.ok.mod.kin M.kp ?_ he hpl
  refine thn (ha.run pos pins s0 σ H0 _ I0 h) ?_
  rintro us s ⟨vs, H, I, r, h⟩
  refine ⟨I.kIn, ?_⟩
  have hq := h (s.heap.objs.size + 1) s.heap.objs.size (I.hok.fresh (Nat.le_succ _)) (I.hok.fresh (Nat.le_refl _)) (Nat.ne_of_lt (Nat.lt_succ_self _))
  have I2 := Inv.made (C := C) I
  have r2 : Vals (V.ref (s.heap.objs.size + 1) :: (vs ++ dvs)) (Value.ref (s.heap.objs.size + 1) :: (us ++ ds)) := .cons rfl (r.append hd)
  have hl : (Value.ref (s.heap.objs.size + 1) :: us ++ ds).length = ps.length := (F.len _ _ _ _ hq ▸ r2.length).symm
  have run := F.run _ X.stack _ _ ⟨Value.ref (s.heap.objs.size + 1) :: us, []⟩ _ _ _ _ (room.make C us []) (I2.env0.make C us []) (hb _ (Value.ref (s.heap.objs.size + 1) :: us) I2.kIn hl) r2 hq
  refine wpAny_call (make_map (f := f) I.kIn M.makes M.init (beq_iff_eq.mp M.fn) (codeAny_mono run ?_))
  intro r s' hq'
  rcases r with fl | e
  · exact hx σ pins _ _ _ s' I2 hq'
  · cases e with
    | ret u =>
      obtain ⟨v, G, I3, rv, ev, q3⟩ := I2.after hq'
      cases ev
      exact ⟨rv, ⟨V.ref (s.heap.objs.size + 1), G, I3, rfl, q3⟩⟩
    | next => exact hq'.elim
    | brk => exact hq'.elim
    | cont => exact hq'.elim
end

/-! ### isinstance of a caught error that has fields -/
def rIsD (K : PySem.W.Frag) (a : Addr) (cls : Value) (d : Option Addr) (D : Addr) : List V → Hp → VK → Prop := fun xs H Q => ∃ (c : V) (cv : Value) (b : Bool) (y : Addr) (fs : List (Str × V)),
  xs = [.ref a, c] ∧ cls = .ref D ∧ d = some y ∧ H y = some (.xd fs) ∧ ClsV c cv ∧ PySem.W.kitOne K (.ref D) cv = some b ∧ Q (.bl b) H
theorem call_isD {X : Cx} {a D : Addr} {oe : Obj} {cls : Value} {d : Option Addr} {pn : List (Addr × Obj)} (C : ExcC X.K D) (hz : Zc cls d oe) (hf : ∃ vs, oe.data = .fields vs) : CallR (X.suite a ((a, oe) :: pn)) (.builtin "isinstance") (rIsD X.K a cls d D) := by
  intro pins s σ H xs us Q I r h
  obtain ⟨c, cv, b, y, fs, rfl, rfl, rfl, hy, hc, e, q⟩ := h
  obtain ⟨u1, u2, rfl, r1, r2⟩ := vals2 r
  cases (show u1 = Value.ref a from r1)
  have e2 := hc.eq r2
  subst e2
  have hget := (I.pin (a, oe) (List.mem_append_left _ List.mem_cons_self)).1
  have ho : ∃ o, s.heap.get? y = some o := by
    obtain ⟨m, ⟨o, _, _, z, _⟩, _⟩ := (show ObjOk X.prog X.w H s.heap y (.xd fs) from I.hok y _ hy)
    exact ⟨o, z⟩
  obtain ⟨od, ho⟩ := ho
  have J : PySem.W.InstAt s.heap a oe D (some od) := by
    obtain ⟨vs, hv⟩ := hf
    rcases oe with ⟨oc, odd, dt, sl⟩
    obtain ⟨z1, z2⟩ := hz
    dsimp only at z1 z2 hv
    subst z1 z2 hv
    exact ⟨hget, rfl, rfl, ho⟩
  have hcl : (PySem.W.clsIn X.K D).isSome = true := by
    obtain ⟨cd, hcd, _⟩ := PySem.W.any_some C.hd
    rw [hcd]
    rfl
  exact PySem.W.kia_one (PySem.W.kitx_exc hcl C.hg C.hk C.hs C.ha C.hn C.ht C.hm) I.kIn J e (fun z => nomatch z) fun tk => ⟨.bl b, H, I.kept (t' := tk) fun _ _ z => z, rfl, q⟩

/-! ### the making of an error with one field -/
/-- the __init__ of such a class: the field f is what was given -/
def sp_keep (K : PySem.W.Frag) (f : Str) : Sp := fun vs H Q _ => ∃ (e C : Addr) (v : V), vs = [.ref e, v] ∧ OexC K C ∧ PySem.W.findIn K (.ref C) f = some none ∧ H e = some (exo e C none) ∧
  ∀ y, H y = none → y ≠ e → Q .non (upd (upd H y (exd y [(f, v)])) e (exo e C (some y)))
/-- raise C(v): what follows when its __init__ keeps sp_keep -/
theorem mk_keep {K : PySem.W.Frag} {C : Addr} {f : Str} {v : V} {H : Hp} {Q : XK} (T : OexC K C) (hn : PySem.W.findIn K (.ref C) f = some none) (q : ∀ y, H y = none → Q (.ref C) (some y) (upd H y (.xd [(f, v)]))) :
    ([v] : List V).length ≤ 1000 ∧ ∀ a, H a = none → sp_keep K f (.ref a :: ([v] ++ [])) (upd H a (exo a C none))
      (fun w G => w = .non ∧ ∃ (d : Addr) (fs : List (Str × V)), G a = some (exo a C (some d)) ∧ G d = some (exd d fs) ∧ H d = none ∧ Q (.ref C) (some d) (upd (del G a) d (.xd fs))) (fun _ _ _ => False) := by
  refine ⟨by show 1 ≤ 1000; decide, fun a na => ⟨a, C, v, rfl, T, hn, upd_same, fun y ny yne => ⟨rfl, y, [(f, v)], upd_same, ?_, ?_, ?_⟩⟩⟩
  · rw [upd_ne yne, upd_same]
  · rw [upd_ne yne] at ny
    exact ny
  · rw [upd_ne yne] at ny
    have e : upd (del (upd (upd (upd H a (exo a C none)) y (exd y [(f, v)])) a (exo a C (some y))) a) y (.xd [(f, v)]) = upd H y (.xd [(f, v)]) := by
      funext b
      by_cases hb : b = y
      · subst hb
        rw [upd_same, upd_same]
      · rw [upd_ne hb, upd_ne hb]
        by_cases hba : b = a
        · subst hba
          rw [del_same, na]
        · rw [del_ne hba, upd_ne hba, upd_ne hb, upd_ne hba]
    rw [e]
    exact q y ny
end MoL

/-! # // and ** of instances, and what leaves a def that may raise -/
namespace MoW
open PySem PySem.W
section
variable {prog : Program} {w : World} {A : Around} {E : Value → Shared → Prop} {s : Shared}
theorem int_floordiv_no (i : Int) (t : Tok) (l C dx : Addr) :
    Meets (Builtin.«int.__floordiv__» ⟨[.int i t, .ref l], []⟩) (fun _ R s => s.heap.get? l = some (PySem.W.instObj C dx) ∧ R (.ok (.ret .notImplemented)) s) :=
  .of_wp fun prog w A R s h => by obtain ⟨hp, g, d, tk, os⟩ := s; obtain ⟨hl, h⟩ := h; unfold PySem.W.instObj at hl; wp_walk using wpAny_loadPart' hl, wpAny_load hl; exact ⟨_, rfl, h⟩
end
end MoW
namespace MoW
open PySem PySem.W PyProof.Rows
section
variable {prog : Program} {w : World} {A : Around} {E : Value → Shared → Prop} {s : Shared} {K : Frag} {x C L f : Addr} {h₀ : Heap} {m : Str → Option Value} {dx : Addr} {od : Option Obj} {i : Int} {t : Tok}

theorem bin_own_int0 {op : Operator} {id : String} {Q : Value → Shared → Prop} (F : Fr h₀ L s.heap m) (X₀ : K.In h₀) (I : InstAt s.heap x (instObj C dx) C od)
    (hc : selfFirst K C = true) (hn : subIn K (.type "int") (.ref C) = some false) (h1 : Slot "int" (dunderR op.info.2) id) (hfi : fillsNumberSlot (.type "int") op.info.2 = pure true)
    (hs : findIn K (.ref C) (PySem.dunder op.info.2) = some (some (.ref f))) (hf : isFn K (.ref f) = true)
    (hd : findIn K (.ref C) (dunderR op.info.2) = some none)
    (h : wpAny (model prog w) A (call (.ref f) [.ref x, .int i t]) (W.CmpBack Q) E s) : wpAny (model prog w) A (binaryOp op (.ref x) (.int i t)) Q E s := by
  have X := X₀.keeps F.keep
  obtain ⟨cd, rest, hcd, hm⟩ := mro_first (K := K) (C := C) (cd := default) hc
  unfold binaryOp
  refine wpAny_holding (wpAny_bind ?_)
  unfold binaryOp1
  refine wpAny_bind (I.type.here (wpAny_bind (wpAny_typeOf (typeIs_int s i t) (wpAny_bind ((fills_K X hcd hm hs).here ?_)))))
  have hne : (Value.ref C == Value.type "int") = false := rfl
  simp only [hne, Bool.false_eq_true, if_false]
  refine wpAny_bind (wpAny_of_eq hfi ?_)
  simp only [Bool.and_self, if_true]
  refine wpAny_bind ((looks_subIn X hn).here ?_)
  have hpy : Looks (model prog w) s.heap (numberSlotInPython (.ref C) op.info.2) true := by
    unfold numberSlotInPython
    refine (looks_findIn X hs).andThen ?_
    refine Looks.andThen (a := true) .now ?_
    refine (looks_findIn X hd).andThen ?_
    refine Looks.andThen (a := false) .now ?_
    exact .now
  have hpi : numberSlotInPython (.type "int") op.info.2 = pure false := rfl
  simp only [Bool.false_eq_true, if_false, pure_bind, Bool.not_false, Bool.and_self, if_true]
  refine wpAny_bind (hpy.here ?_)
  simp only [if_true]
  refine wpAny_bind (wpAny_of_eq hpi ?_)
  simp only [Bool.not_false, if_true]
  refine wpAny_bind (wpAny_of_eq h1.lookup ?_)
  refine wpAny_bind (m := tryMethod (.ref x) _ (.int i t)) ?_
  unfold tryMethod
  refine wpAny_bind (special_fn X I hs (beq_iff_eq.mp hf) (wpAny_mono h (fun v s' hv => ?_) fun _ _ e => e))
  cases v <;> first | exact hv.elim | exact wpAny_pure (wpAny_pure (wpAny_pure hv))
end
end MoW

namespace MoL
open PySem PySem.Spec PyProof.Rows L2 MoW
section
variable {X : Cx} {CX : CXT} {k : Nat} {C f g : Addr} {fd : FuncData} {ps : List Str} {sp : Sp} {E : XK}
theorem op_floordiv_own (c : OwnC X.K C) (m : Meth X.K C "__floordiv__" f) (mr : Meth X.K C "__rfloordiv__" g) (run : FnOk X.prog X.w X.K X.mg X.base CX k f fd ps sp) (hr : Room k X.A) (hb : Binds X.K fd ps []) (hx : Passes CX X E) : OpR X (binaryOp .FloorDiv) (rOwn C sp E) :=
  op_bin_own (op := .FloorDiv) F.slot_int_rfloordiv F.fills_int_floordiv c m mr run hr hb hx
theorem op_floordiv_int (c : OwnC X.K C) (m : Meth X.K C "__rfloordiv__" f) (ml : Meth X.K C "__floordiv__" g) (run : FnOk X.prog X.w X.K X.mg X.base CX k f fd ps sp) (hr : Room k X.A) (hb : Binds X.K fd ps []) (hx : Passes CX X E) : OpR X (binaryOp .FloorDiv) (rOwnR C sp E) :=
  op_bin_int (op := .FloorDiv) F.slot_int_floordiv F.fills_int_floordiv (fun s i t b dy Q' E' hb' q => call_meets F.slot_int_floordiv (typeIs_int s i t) F.entry_int_floordiv (F.args_int_floordiv_2 _ _) (int_floordiv_no i t b C dy) ⟨hb', q⟩) c m ml run hr hb hx
/-- x ** i, the class has no mirrored one -/
theorem op_pow_own (c : OwnC X.K C) (m : Meth X.K C "__pow__" f) (no : PySem.W.findIn X.K (.ref C) "__rpow__" = some none) (run : FnOk X.prog X.w X.K X.mg X.base CX k f fd ps sp) (hr : Room k X.A) (hb : Binds X.K fd ps []) (hx : Passes CX X E) :
    OpR X (binaryOp .Pow) (fun x y H Q => Ins H x C ∧ (∃ i, y = .int i) ∧ sp [x, y] H Q E) := by
  intro pins s σ H x y v u Q I rx ry h
  obtain ⟨⟨a, dx, fs, rfl, ha⟩, ⟨i, rfl⟩, hs⟩ := h
  cases (show v = Value.ref a from rx)
  obtain ⟨t, rfl⟩ := (show ∃ t, u = Value.int i t from ry)
  obtain ⟨od, J⟩ := ins_at I ha
  obtain ⟨mm, hF⟩ := I.fr
  exact bin_own_int0 (op := .Pow) hF I.ok.mod.kin J c.first c.ic F.slot_int_rpow F.fills_int_pow m.at_ m.fn no
    (thn (run_fn (us := [.ref a, .int i t]) (vs := [.ref a, .int i]) run hr hb .nil hx I (.cons rfl (.cons ⟨t, rfl⟩ .nil)) hs) fun v s' q => ep_back q)
end
/-- a callee's error is this def's own way out -/
theorem passE {P : Program} {w : World} {K : PySem.W.Frag} {mg : Str → Option Value} {base : Heap} {N : List Str} {qual : Str} {scope : Scope} {f : Addr} {cdv : Value} {A : Around} {outer : List Env} {s : Shared} {H : Hp} {E : XK} :
    Passes (L2.CX P w) (cxOf (L2.CX P w) P w K mg base N qual scope f cdv A outer s H E) E :=
  passes_call (W := fun cls d _ H => E cls d H) (takes_of rfl rfl rfl rfl) fun _ _ _ _ h => h
end MoL

/-! # Defs that hand lambdas on, and the def that tells the word of what a lambda raises -/
namespace MoL
open PySem PySem.Spec PyProof.Rows L2 MoW LamX

/-- a def whose code object is known -/
structure FunC (K : PySem.W.Frag) (x qual : Str) (st : Stmt) (f : Addr) (fd : FuncData) (c : Addr) : Prop where
  ex : ∃ (oc : Value) (od : Option Addr) (kV doc pm : Value) (an : Option Addr) (ct : Value) (osl : Array (Option Value)),
    fd = PySem.W.fnOf x qual (defArgs st) (defBody st) (defScope st) .none kV doc pm an (.ref c) ct ∧ K.lookup f = some ⟨oc, od, .func fd, osl⟩ ∧ PySem.W.codeIn K (.ref c) qual = true
  kp : PySem.W.keepIn K (.ref f) = true
theorem FunC.ok {P : Program} {w : World} {K : PySem.W.Frag} {mg : Str → Option Value} {base : Heap} {x qual : Str} {st : Stmt} {f c : Addr} {fd : FuncData} {N ps : List Str} {k : Nat} {sp : Sp} (F : FunC K x qual st f fd c) (S : FnScope N ps (defScope st))
    (len : ∀ vs H Q E, sp vs H Q E → vs.length = ps.length)
    (h : ∀ (A : Around) (outer : List Env) (s : Shared) (H : Hp) (vs : List V) (Q : VK) (E : XK), Room k (A.deeper (envOfC qual (defScope st) s.heap.objs.size f (.ref c))) → sp vs H Q E →
      ∃ t, PSs (cxOf CX0 P w K mg base N qual (defScope st) f (.ref c) A outer s H E).nox (defBody st) t ∧ t { nx := fun _ G => Q .non G, rt := Q } (start N vs) H) : FnOk P w K mg base CX0 (k + 1) f fd ps sp := by
  obtain ⟨oc, od, kV, doc, pm, an, ct, osl, rfl, lk, hcd⟩ := F.ex
  refine fn_of lk hcd S len fun A outer s H vs Q E hr hsp => ?_
  obtain ⟨t, p, q⟩ := h A outer s H vs Q E hr hsp
  exact ⟨t, p.nox, q⟩

/-- the word of the error of the class at R that the lambda raises; nothing: the text "" -/
def TTw (R : Addr) : (XK → Hp → VK → Prop) → Hp → VK → Prop := fun tl H Q =>
  tl (fun cls d G => cls = .ref R ∧ ∃ y s, d = some y ∧ G y = some (.xd [("word", .str s)]) ∧ Q (.str s) G) H (fun _ G => ∃ v : V, (some (some (V.str "")) : Option (Option V)) = some (some v) ∧ Q v G)
/-- a wish needs to be told of slots of the right number alone -/
theorem takes_len {X : Cx} {W : WX} (tk : Takes X W) : Takes X (fun cls d σ H => σ.length = X.N.length → W cls d σ H) := fun u s' x => by
  obtain ⟨a, B, sI, pins, σ, H, cls, d, e, I, nb, up, sky, na, os, ag, w⟩ := x
  exact tk u s' ⟨a, B, sI, pins, σ, H, cls, d, e, I, nb, up, sky, na, os, ag, w I.len⟩
theorem FunC.fn {K : PySem.W.Frag} {x qual : Str} {st : Stmt} {f c : Addr} {fd : FuncData} (F : FunC K x qual st f fd c) : Fun K x qual st f fd := by
  obtain ⟨⟨oc, od, kV, doc, pm, an, ct, osl, e, lk, hcd⟩, kp⟩ := F
  exact ⟨⟨oc, od, kV, doc, pm, an, _, ct, osl, e, lk, hcd⟩, kp⟩
/-- what a lambda's body lets out is what is wished of the lambda -/
theorem passLam {X : Cx} {A : Around} {outer : List Env} {s : Shared} {H : Hp} {E : XK} {scope : Scope} {f c' : Addr} : Passes (L2.CX X.prog X.w) (lamCx X A outer s H E scope f c') E :=
  passes_call (X := lamCx X A outer s H E scope f c') (W := fun cls d _ H => E cls d H) (takes_of rfl rfl rfl rfl) fun _ _ _ _ h => h
/-- behind a lambda that raised: all but the tables is kept, and the tables stand -/
theorem after {T : List (Addr × Str)} {H H1 G : Hp} {y : Addr} {o : HO} (e1 : ExtN H H1) (t1 : Tabs T H1) (s1 : Same H1 G) (ny : G y = none) : ExtN H (upd G y o) ∧ Tabs T (upd G y o) := by
  have s2 := s1.trans (same_upd (o := o) ny)
  exact ⟨e1.trans (.of s2), t1.ext s2⟩
theorem RatAt.ext {C : Addr} {H H' : Hp} {v : V} {t b : Int} (r : RatAt C H v t b) (s : ExtN H H') : RatAt C H' v t b := by
  obtain ⟨a, dx, e, h⟩ := r
  exact ⟨a, dx, e, s _ _ h fun _ z => by cases z⟩
end MoL

/-! # A walk over a list or over a tuple; classes by their facts alone -/
namespace MoL
open PySem PySem.Spec PyProof.Rows L2 MoW
theorem pi_or {X : Cx} {tg e : Expr} {t t' : TI} (p : PI X tg e t) (q : PI X tg e t') : PI X tg e (fun σ H R => t σ H R ∨ t' σ H R) :=
  ⟨fun pins s σ H R I h => h.elim (p.run pins s σ H R I) (q.run pins s σ H R I)⟩
/-- what the written part says of a class of plain instances with operators; the fields' names apart -/
structure OwnB (K : PySem.W.Frag) (C : Addr) : Prop where
  cl : Cls K C
  ow : OwnC K C
  ha : PySem.W.findIn K (.ref C) "__class__" = some (some (.builtin "object.__class__"))
  hn : PySem.W.specialIn K (.builtin "object.__class__") "__get__" = some (some (.builtin "getset_descriptor.__get__"))
  htk : PySem.W.takesIn K (.builtin "object.__class__") = some true
  hm : PySem.W.mroIn K C (.type "object") = some true
  ki : PySem.W.kitOne K (.ref C) (.type "int") = some false
  ik : PySem.W.kitOne K (.type "int") (.ref C) = some false
theorem OwnB.ty {K : PySem.W.Frag} {C : Addr} {H : Hp} {a dx : Addr} {fs : List (Str × V)} (k : OwnB K C) (h : H a = some (.ins C dx fs)) : TyX K H (.ref a) (.ref C) :=
  .base (.ins h k.cl k.ha k.hn k.htk k.hm)

/-! ### a def that declines: its first row is «if not ..: return NotImplemented» -/
/-- behind such a call: the answer, and the heap as it was -/
def Declines (outer : List Env) (P : Program) (w : World) (H : Hp) (s : Shared) (r : Result) (s' : Shared) : Prop := r = .ok (.ret .notImplemented) ∧ CE outer P w H s (fun v G => v = .non ∧ G = H) .none s'
theorem fn_no {CX : CXT} {P : Program} {w : World} {K : PySem.W.Frag} {mg : Str → Option Value} {base : Heap} {k : Nat} {f : Addr} {name qual : Str} {params : Arguments} {scope : Scope} {dV kV doc pm cdv ct oc : Value} {an od : Option Addr} {osl : Array (Option Value)}
    {N ps : List Str} {test : Expr} {rest : List Stmt} {p1 p2 p3 : Pos}
    (lk : K.lookup f = some ⟨oc, od, .func (PySem.W.fnOf name qual params (.If test [.Return (some (.Name "NotImplemented" p1)) p2] [] p3 :: rest) scope dV kV doc pm an cdv ct), osl⟩) (hcd : PySem.W.codeIn K cdv qual = true) (S : FnScope N ps scope)
    (hg : scope.names.lookup ("NotImplemented" : Str) = some NameKind.globalImplicit) (hmg : mg "NotImplemented" = none) {A : Around} {outer : List Env} {s : Shared} {H : Hp} {args : Args} {us : List Value} {vs : List V} (hl : vs.length = ps.length) (room : Room (k + 1) A)
    (e0 : Env0 P w K mg base A outer s H) (hb : BindsTo s (PySem.W.fnOf name qual params (.If test [.Return (some (.Name "NotImplemented" p1)) p2] [] p3 :: rest) scope dV kV doc pm an cdv ct) args (ps.zip us)) (r : Vals vs us)
    (ht : Room k (A.deeper (envOfC qual scope s.heap.objs.size f cdv)) → ∃ t, PT (cxOf CX P w K mg base N qual scope f cdv A outer s H (fun _ _ _ => False)) test t ∧ t (start N vs) H (fun b G => b = true ∧ G = H)) :
    codeAny (model P w) A (.call (.ref f) args) (fun r s' => Declines outer P w H s r s' ∨ ∃ e, r = .error e ∧ CX outer H s (fun _ _ _ => False) e s') s := by
  have KX : K.In s.heap := e0.mod.kin.keeps fun b o z => (e0.bs b o z).1
  have lim : s.heap.NoLimit := e0.mod.nolimit.keeps fun b o z => (e0.bs b o z).1
  have kinds : ∀ y ∈ ps.zip us, scope.names.lookup y.1 = some .local ∨ (scope.names.lookup y.1 = some .cell ∧ ((cellsFrom (s.heap.objs.size + 1) scope.names []).lookup y.1).isSome = true) := by
    rintro ⟨n, v⟩ hy
    rcases S.par n (List.of_mem_zip hy).1 with q | q
    · exact .inl q
    · exact .inr ⟨q, PySem.W.cellsFrom_some _ _ _ (.inl q)⟩
  refine codeAny_call_function room.depth (KX _ _ lk) rfl S.co S.gen rfl (PySem.W.codeRec_of KX hcd) (hb _ _ _ _ ?_)
  refine wpAny_newFunctionEnv_cells S.kind kinds ?_
  rintro env rfl s1 x
  refine ⟨lim.keeps x.toInCall.keep, codeAny_func ?_⟩
  obtain ⟨t, pt, hq⟩ := ht (room.deeper _)
  have I : Inv (cxOf CX P w K mg base N qual scope f cdv A outer s H (fun _ _ _ => False)) [] (start N vs) H s1 := inv_start S room.hd e0 hl r x
  refine wpAny_mono (Q := fun fl s' => fl = .ret .notImplemented ∧ Inv (cxOf CX P w K mg base N qual scope f cdv A outer s H (fun _ _ _ => False)) [] (start N vs) H s') (wpAny_execs_cons (wpAny_If (thn (pt.run [] s1 _ H _ I hq) ?_))) ?_ ?_
  · rintro d s2 ⟨H2, I2, rfl, rfl⟩
    have g : Gl (cxOf CX P w K mg base N qual scope f cdv A outer s H2 (fun _ _ _ => False)) "NotImplemented" := hg
    exact wpAny_execs_cons (wpAny_Return_some (ld_blt I2 g hmg PyProof.Rows.Boot.«NotImplemented» ⟨rfl, I2⟩))
  · rintro fl s' ⟨rfl, J⟩
    exact .inl ⟨rfl, .non, H, J.os, J.bare, J.base, J.hok, rfl, rfl, rfl⟩
  · intro e s' hs
    exact wpAny_mono hs (fun _ s2 z => .inr ⟨e, rfl, z⟩) fun e2 s2 z => .inr ⟨e2, rfl, z⟩
end MoL

namespace MoW
open PySem PySem.W PyProof.Rows
section
variable {prog : Program} {w : World} {A : Around} {E : Value → Shared → Prop} {s : Shared} {K : Frag} {x y C D L f g fr : Addr} {ox oy : Obj} {od od' : Option Obj} {h₀ : Heap} {m : Str → Option Value}
/-- an instance beside one of another class: its own method declines, the other's mirrored one answers -/
theorem bin_own_other {op : Operator} {Q : Value → Shared → Prop} {R : Shared → Prop} {f' g' : Addr} (X : K.In s.heap) (I : W.InstAt s.heap x ox C od) (J : W.InstAt s.heap y oy D od') (hc : selfFirst K C = true) (hd : selfFirst K D = true) (hne : C ≠ D)
    (hn : subIn K (.ref D) (.ref C) = some false) (h1 : findIn K (.ref C) (PySem.dunder op.info.2) = some (some (.ref f))) (hf : isFn K (.ref f) = true) (h1r : findIn K (.ref C) (dunderR op.info.2) = some (some (.ref f')))
    (h2 : findIn K (.ref D) (PySem.dunder op.info.2) = some (some (.ref g'))) (h2r : findIn K (.ref D) (dunderR op.info.2) = some (some (.ref g))) (hg : isFn K (.ref g) = true)
    (a : wpAny (model prog w) A (call (.ref f) [.ref x, .ref y]) (fun v s' => v = .notImplemented ∧ R s') E s)
    (b : ∀ s', R s' → K.In s'.heap ∧ (∃ ox' o1, W.InstAt s'.heap x ox' C o1) ∧ (∃ oy' o2, W.InstAt s'.heap y oy' D o2) ∧ wpAny (model prog w) A (call (.ref g) [.ref y, .ref x]) (W.CmpBack Q) E s') : wpAny (model prog w) A (binaryOp op (.ref x) (.ref y)) Q E s := by
  obtain ⟨cd, rest, hcd, hm⟩ := mro_first (K := K) (C := C) (cd := default) hc
  obtain ⟨dd, rest2, hdd, hm2⟩ := mro_first (K := K) (C := D) (cd := default) hd
  unfold binaryOp
  refine wpAny_holding (wpAny_bind ?_)
  unfold binaryOp1
  refine wpAny_bind (I.type.here (wpAny_bind (J.type.here (wpAny_bind ((fills_K X hcd hm h1).here ?_)))))
  have ne : (Value.ref C == Value.ref D) = false := by simpa using hne
  simp only [ne, Bool.false_eq_true, if_false]
  refine wpAny_bind ((fills_K X hdd hm2 h2).here ?_)
  simp only [Bool.and_self, if_true]
  refine wpAny_bind ((looks_subIn X hn).here ?_)
  simp only [Bool.false_eq_true, if_false, pure_bind, Bool.not_false, Bool.and_self, if_true]
  have py : ∀ {Z p q : Addr}, findIn K (.ref Z) (PySem.dunder op.info.2) = some (some (.ref p)) → findIn K (.ref Z) (dunderR op.info.2) = some (some (.ref q)) → Looks (model prog w) s.heap (numberSlotInPython (.ref Z) op.info.2) true := by
    intro Z p q z1 z2
    unfold numberSlotInPython
    refine (looks_findIn X z1).andThen (Looks.andThen (a := true) .now ?_)
    exact (looks_findIn X z2).andThen (Looks.andThen (a := true) .now .now)
  refine wpAny_bind ((py h1 h1r).here ?_)
  simp only [if_true]
  refine wpAny_bind ((py h2 h2r).here ?_)
  simp only [Bool.not_true, Bool.false_eq_true, if_false]
  refine wpAny_bind (m := tryMethod (.ref x) _ (.ref y)) ?_
  unfold tryMethod
  refine wpAny_bind (special_fn X I h1 (beq_iff_eq.mp hf) (wpAny_mono a (fun v s' hv => ?_) fun _ _ e => e))
  obtain ⟨rfl, hR⟩ := hv
  obtain ⟨X2, ⟨ox', o1, I2⟩, ⟨oy', o2, J2⟩, b2⟩ := b s' hR
  refine wpAny_pure (wpAny_bind (I2.type.here (wpAny_bind (J2.type.here ?_))))
  rw [ne]
  simp only [Bool.false_eq_true, if_false]
  refine wpAny_bind (m := tryMethod (.ref y) _ (.ref x)) ?_
  unfold tryMethod
  refine wpAny_bind (special_fn X2 J2 h2r (beq_iff_eq.mp hg) (wpAny_mono b2 (fun v s' hv => ?_) fun _ _ e => e))
  cases v <;> first | exact hv.elim | exact wpAny_pure (wpAny_bind (wpAny_rule (wpAny_pure (wpAny_pure hv))))
end
end MoW
namespace MoL
open PySem PySem.Spec PyProof.Rows L2 MoW
/-- a def that declines these values -/
def FnNo (P : Program) (w : World) (K : PySem.W.Frag) (mg : Str → Option Value) (base : Heap) (CX : CXT) (k : Nat) (f : Addr) (pre : List V → Hp → Prop) : Prop :=
  ∀ (A : Around) (outer : List Env) (s : Shared) (H : Hp) (us : List Value) (vs : List V), Room k A → Env0 P w K mg base A outer s H → Vals vs us → pre vs H →
    codeAny (model P w) A (.call (.ref f) ⟨us, []⟩) (fun r s' => Declines outer P w H s r s' ∨ ∃ e, r = .error e ∧ CX outer H s (fun _ _ _ => False) e s') s
section
variable {X : Cx} {CX CX' : CXT} {k k' : Nat} {C D f f' g g' : Addr} {fd : FuncData} {ps : List Str} {sp : Sp} {E : XK} {pre : List V → Hp → Prop}
/-- x op y: x's own def declines, y's mirrored one answers -/
theorem op_other {op : Operator} (c : OwnC X.K C) (d : OwnC X.K D) (ne : C ≠ D) (sub : PySem.W.subIn X.K (.ref D) (.ref C) = some false) (m : Meth X.K C (PySem.dunder op.info.2) f) (mr : Meth X.K C (dunderR op.info.2) f') (m2 : Meth X.K D (PySem.dunder op.info.2) g')
    (m2r : Meth X.K D (dunderR op.info.2) g) (no : FnNo X.prog X.w X.K X.mg X.base CX' k' f pre) (hr' : Room k' X.A) (never : ∀ (H : Hp) s e s', CX' X.stack H s (fun _ _ _ => False) e s' → False) (run : FnOk X.prog X.w X.K X.mg X.base CX k g fd ps sp) (hr : Room k X.A)
    (hb : Binds X.K fd ps []) (hx : Passes CX X E) : OpR X (binaryOp op) (fun x y H Q => Ins H x C ∧ Ins H y D ∧ pre [x, y] H ∧ sp [y, x] H Q E) := by
  intro pins s σ H x y v u Q I rx ry h
  obtain ⟨⟨a, dx, fs, rfl, ha⟩, ⟨b, dy, gs, rfl, hb'⟩, hp, hs⟩ := h
  cases (show v = Value.ref a from rx)
  cases (show u = Value.ref b from ry)
  obtain ⟨od, J⟩ := ins_at I ha
  obtain ⟨od', J'⟩ := ins_at I hb'
  refine bin_own_other (R := fun s' => Inv X pins σ H s') I.kIn J J' c.first d.first ne sub m.at_ m.fn mr.at_ m2.at_ m2r.at_ m2r.fn ?_ ?_
  · refine wpAny_call (codeAny_mono (no X.A X.stack s H [.ref a, .ref b] [.ref a, .ref b] hr' I.env0 (.cons rfl (.cons rfl .nil)) hp) ?_)
    rintro r s' (⟨rfl, ce⟩ | ⟨e, rfl, z⟩)
    · obtain ⟨w0, G, I2, _, ⟨_, rfl⟩⟩ := I.after ce
      exact ⟨rfl, I2⟩
    · exact (never H s e s' z).elim
  · intro s' I2
    obtain ⟨o1, K1⟩ := ins_at I2 ha
    obtain ⟨o2, K2⟩ := ins_at I2 hb'
    exact ⟨I2.kIn, ⟨_, o1, K1⟩, ⟨_, o2, K2⟩, thn (run_fn (us := [.ref b, .ref a]) (vs := [.ref b, .ref a]) run hr hb .nil hx I2 (.cons rfl (.cons rfl .nil)) hs) fun v s' q => ep_back q⟩
end
/-- a def of the text that declines what its first row tells -/
theorem no_of {P : Program} {w : World} {K : PySem.W.Frag} {mg : Str → Option Value} {base : Heap} {x qual : Str} {st : Stmt} {f : Addr} {fd : FuncData} {N ps : List Str} {k : Nat} {test : Expr} {rest : List Stmt} {p1 p2 p3 : Pos} {pre : List V → Hp → Prop}
    (F : Fun K x qual st f fd) (S : FnScope N ps (defScope st)) (hst : defBody st = .If test [.Return (some (.Name "NotImplemented" p1)) p2] [] p3 :: rest) (hg : (defScope st).names.lookup ("NotImplemented" : Str) = some NameKind.globalImplicit) (hmg : mg "NotImplemented" = none)
    (hb : Binds K fd ps []) (len : ∀ vs H, pre vs H → vs.length = ps.length)
    (ht : ∀ (cdv : Value) (A : Around) (outer : List Env) (s : Shared) (H : Hp) (vs : List V), Room k (A.deeper (envOfC qual (defScope st) s.heap.objs.size f cdv)) → pre vs H →
      ∃ t, PT (cxOf CX0 P w K mg base N qual (defScope st) f cdv A outer s H (fun _ _ _ => False)) test t ∧ t (start N vs) H (fun b G => b = true ∧ G = H)) : FnNo P w K mg base CX0 (k + 1) f pre := by
  obtain ⟨oc, od, kV, doc, pm, an, cdv, ct, osl, rfl, lk, hcd⟩ := F.ex
  rw [hst] at lk hb
  intro A outer s H us vs room e0 r hp
  have hl := len vs H hp
  have KX : K.In s.heap := e0.mod.kin.keeps fun b o z => (e0.bs b o z).1
  have hlu : (us ++ []).length = ps.length := by
    rw [List.append_nil, ← r.length]
    exact hl
  have bd := hb s us KX hlu
  rw [List.append_nil] at bd
  exact fn_no lk hcd S hg hmg hl room e0 bd r fun rm => ht cdv A outer s H vs rm hp
end MoL

/-! # None beside an instance under ==, and x in an instance -/
namespace MoW
open PySem PySem.W PyProof.Rows
section
variable {prog : Program} {w : World} {A : Around} {E : Value → Shared → Prop} {s : Shared} {K : Frag} {x C f : Addr} {ox : Obj} {od : Option Obj}
theorem none_eq_no (l : Addr) : Gives (Builtin.«NoneType.__eq__» ⟨[.none, .ref l], []⟩) (.val (Value.notImplemented)) :=
  .of_wp fun M A E s Q h => by obtain ⟨hp, g, d, tk, os⟩ := s; wp_walk; exact ⟨_, rfl, h⟩
/-- None == x: both decline, they are not one thing -/
theorem cmp_none_own {Q : Value → Shared → Prop} {R : Shared → Prop} (hu : A.units < cLine) (X : K.In s.heap) (I : W.InstAt s.heap x ox C od) (hn : subIn K (.ref C) (.type "NoneType") = some false)
    (hs : findIn K (.ref C) "__eq__" = some (some (.ref f))) (hf : isFn K (.ref f) = true)
    (h : wpAny (model prog w) A (call (.ref f) [.ref x, .none]) (fun v s' => v = .notImplemented ∧ Q (.bool false) s') E s) : wpAny (model prog w) A (richCompare .Eq .none (.ref x)) Q E s := by
  have ty : ∀ s' : Shared, s'.TypeIs .none "NoneType" := fun _ => rfl
  unfold richCompare
  simp only [(ty s).oneThing_none]
  refine wpAny_holding (wpAny_bind (wpAny_cRoomFor hu ?_))
  refine wpAny_bind (wpAny_typeOf (ty s) (wpAny_bind (I.type.here ?_)))
  have hne : (Value.type "NoneType" != Value.ref C) = true := rfl
  simp only [hne, if_true]
  refine wpAny_bind ((looks_subIn X hn).here ?_)
  simp only [Bool.false_eq_true, if_false, Bool.not_false, if_true]
  refine wpAny_bind (m := tryCompare .none _ (.ref x)) (wpAny_tryCompare_declines (ty s) PySem.F.slot_NoneType_eq (call_gives PySem.F.slot_NoneType_eq rfl PySem.F.entry_NoneType_eq (PySem.F.args_NoneType_eq_2 _ _) (none_eq_no x) ⟨rfl, ?_⟩))
  refine wpAny_bind (m := tryCompare (.ref x) _ .none) ?_
  unfold tryCompare
  refine wpAny_bind (ifBound_K X I hs hf (wpAny_mono h (fun v s' hv => ?_) fun _ _ e => e))
  obtain ⟨rfl, q⟩ := hv
  exact wpAny_pure (wpAny_bind (wpAny_rule (wpAny_bind (wpAny_of_eq (show isSame .none (.ref x) = pure false from rfl) (wpAny_pure q)))))
/-- x == None, x's own method declines -/
theorem cmp_own_none {Q : Value → Shared → Prop} {R : Shared → Prop} (hu : A.units < cLine) (X : K.In s.heap) (I : W.InstAt s.heap x ox C od) (hn : subIn K (.type "NoneType") (.ref C) = some false)
    (hs : findIn K (.ref C) "__eq__" = some (some (.ref f))) (hf : isFn K (.ref f) = true)
    (h : wpAny (model prog w) A (call (.ref f) [.ref x, .none]) (fun v s' => v = .notImplemented ∧ Q (.bool false) s') E s) : wpAny (model prog w) A (richCompare .Eq (.ref x) .none) Q E s := by
  have ty : ∀ s' : Shared, s'.TypeIs .none "NoneType" := fun _ => rfl
  unfold richCompare
  simp only [oneThing_ref]
  refine wpAny_holding (wpAny_bind (wpAny_cRoomFor hu ?_))
  refine wpAny_bind (I.type.here (wpAny_bind (wpAny_typeOf (ty s) ?_)))
  have hne : (Value.ref C != Value.type "NoneType") = true := rfl
  simp only [hne, if_true]
  refine wpAny_bind ((looks_subIn X hn).here ?_)
  simp only [Bool.false_eq_true, if_false, Bool.not_false, if_true]
  refine wpAny_bind (m := tryCompare (.ref x) _ .none) ?_
  have one : wpAny (model prog w) A (tryCompare (.ref x) "__eq__" .none) (fun r s' => r = none ∧ Q (.bool false) s') E s := by
    unfold tryCompare
    refine wpAny_bind (ifBound_K X I hs hf (wpAny_mono h (fun v s' hv => ?_) fun _ _ e => e))
    obtain ⟨rfl, q⟩ := hv
    exact wpAny_pure ⟨rfl, q⟩
  refine wpAny_mono one (fun r s' z => ?_) fun _ _ e => e
  obtain ⟨rfl, q⟩ := z
  refine wpAny_bind (m := tryCompare .none _ (.ref x)) (wpAny_tryCompare_declines (ty s') PySem.F.slot_NoneType_eq_refl (call_gives PySem.F.slot_NoneType_eq_refl rfl PySem.F.entry_NoneType_eq (PySem.F.args_NoneType_eq_2 _ _) (none_eq_no x) ⟨rfl, ?_⟩))
  exact wpAny_bind (wpAny_rule (wpAny_bind (wpAny_of_eq (show isSame (.ref x) .none = pure false from rfl) (wpAny_pure q))))
end
end MoW
namespace MoL
open PySem PySem.Spec PyProof.Rows L2 MoW
section
variable {X : Cx} {CX CX' : CXT} {k k' : Nat} {C D f f' g g' : Addr} {fd : FuncData} {ps : List Str} {sp : Sp} {E : XK} {pre : List V → Hp → Prop}
/-- x == None and None == x: not equal, the instance's own method declines -/
theorem op_eq_none (h1 : PySem.W.subIn X.K (.ref C) (.type "NoneType") = some false) (h2 : PySem.W.subIn X.K (.type "NoneType") (.ref C) = some false) (m : Meth X.K C "__eq__" f)
    (no : FnNo X.prog X.w X.K X.mg X.base CX' k' f pre) (hr' : Room k' X.A) (never : ∀ (H : Hp) s e s', CX' X.stack H s (fun _ _ _ => False) e s' → False) :
    OpR X (compareOp .Eq) (fun x y H Q => ((x = .non ∧ Ins H y C ∧ pre [y, .non] H) ∨ (y = .non ∧ Ins H x C ∧ pre [x, .non] H)) ∧ Q (.bl false) H) := by
  intro pins s σ H x y v u Q I rx ry h
  obtain ⟨h, q⟩ := h
  have run : ∀ a : Addr, pre [.ref a, .non] H → wpAny (model X.prog X.w) X.A (call (.ref f) [.ref a, .none]) (fun v s' => v = .notImplemented ∧ EP X pins σ Q (.bool false) s') X.xe s := fun a hp => by
    refine wpAny_call (codeAny_mono (no X.A X.stack s H [.ref a, .none] [.ref a, .non] hr' I.env0 (.cons rfl (.cons rfl .nil)) hp) ?_)
    rintro r s' (⟨rfl, ce⟩ | ⟨e, rfl, z⟩)
    · obtain ⟨w0, G, I2, _, ⟨_, rfl⟩⟩ := I.after ce
      exact ⟨rfl, .bl false, _, I2, rfl, q⟩
    · exact (never H s e s' z).elim
  rcases h with ⟨rfl, ⟨a, dx, fs, rfl, ha⟩, hp⟩ | ⟨rfl, ⟨a, dx, fs, rfl, ha⟩, hp⟩
  · cases (show v = Value.none from rx)
    cases (show u = Value.ref a from ry)
    obtain ⟨od, J⟩ := ins_at I ha
    exact cmp_none_own (R := fun _ => True) hr'.units0 I.kIn J h1 m.at_ m.fn (run a hp)
  · cases (show v = Value.ref a from rx)
    cases (show u = Value.none from ry)
    obtain ⟨od, J⟩ := ins_at I ha
    exact cmp_own_none (R := fun _ => True) hr'.units0 I.kIn J h2 m.at_ m.fn (run a hp)
/-- x in an instance -/
theorem op_in_own (m : Meth X.K C "__contains__" f) (F : FnOk X.prog X.w X.K X.mg X.base CX k f fd ps sp) (hr : Room k X.A) (hb : Binds X.K fd ps []) (hx : Passes CX X E) :
    OpR X (compareOp .In) (fun x y H Q => Ins H y C ∧ sp [y, x] H (fun v H' => ∃ b, v = .bl b ∧ Q (.bl b) H') E) := by
  intro pins s σ H x y v u Q I rx ry h
  obtain ⟨⟨a, dx, fs, rfl, ha⟩, hs⟩ := h
  cases (show u = Value.ref a from ry)
  obtain ⟨od, J⟩ := ins_at I ha
  obtain ⟨mm, hF⟩ := I.fr
  refine PySem.W.in_K hF I.ok.mod.kin J m.at_ m.fn (thn (run_fn (us := [.ref a, v]) (vs := [.ref a, x]) F hr hb .nil hx I (.cons rfl (.cons rx .nil)) hs) fun r s' q => ?_)
  obtain ⟨z, H', I', r1, b, rfl, q⟩ := q
  cases (show r = Value.bool b from r1)
  exact wpAny_truthy_bool ⟨.bl b, H', I', rfl, q⟩
end
/-- a list read by place, the written part named (in a lambda's body the context must not show) -/
theorem ix_listK {X : Cx} {K : PySem.W.Frag} (h : X.K = K) : IxR X (rIxL K) := h ▸ ix_list
end MoL

/-! # math.lcm of long numbers, math.comb, a comprehension over zip -/
namespace MoL
open PySem PySem.Spec PyProof.Rows L2 MoW
section
variable {X : Cx}
def rLcm : List V → Hp → VK → Prop := fun vs H Q => ∃ a b : Int, vs = [.int a, .int b] ∧ Sm a ∧ Sm b ∧ Q (.int ((Nat.lcm a.natAbs b.natAbs : Nat) : Int)) H
theorem cr_lcm : CallR X (.builtin "math.lcm") rLcm := by
  intro pins s σ H vs us Q I r h
  obtain ⟨a, b, rfl, sa, sb, q⟩ := h
  obtain ⟨t, u, rfl⟩ := Vals.int2 r
  have la : a.natAbs.log2 < 4000 + 1 := Nat.lt_succ_of_le (Nat.le_of_lt_succ (Nat.lt_succ_of_lt (PySem.Flt.log2_lt_of (by decide) sa)))
  have lb : b.natAbs.log2 < 4000 + 1 := Nat.lt_succ_of_le (Nat.le_of_lt_succ (Nat.lt_succ_of_lt (PySem.Flt.log2_lt_of (by decide) sb)))
  have m1 : (max 1 a.natAbs).log2 < 4001 := by
    rcases Nat.le_total 1 a.natAbs with h | h
    · rw [Nat.max_eq_right h]; exact la
    · rw [Nat.max_eq_left h]; decide
  have m2 : (max a.natAbs b.natAbs).log2 < 4001 := by
    rcases Nat.le_total a.natAbs b.natAbs with h | h
    · rw [Nat.max_eq_right h]; exact lb
    · rw [Nat.max_eq_left h]; exact la
  have hsz : ((((Nat.lcm 1 a.natAbs).lcm b.natAbs : Nat) : Int)).natAbs.log2 < bitsLine := by
    rw [PySem.W.mc_lcm_one]
    have h1 : a.natAbs.lcm b.natAbs < 2 ^ 8000 := Nat.lt_of_le_of_lt (PySem.W.mc_lcm_le _ _) (Nat.lt_of_lt_of_le (Nat.mul_lt_mul'' sa sb) (by rw [← Nat.pow_add]; exact Nat.le_refl _))
    have h2 : ((a.natAbs.lcm b.natAbs : Nat) : Int).natAbs.log2 < 8000 := PySem.Flt.log2_lt_of (by decide) h1
    exact Nat.lt_of_lt_of_le h2 (by decide)
  have e : ((((Nat.lcm 1 a.natAbs).lcm b.natAbs : Nat) : Int)) = ((a.natAbs.lcm b.natAbs : Nat) : Int) := by rw [PySem.W.mc_lcm_one]
  exact call_function_meets PySem.W.MGF.kind_lcm PySem.W.MGF.plain_lcm PySem.W.MGF.entry_lcm (PySem.W.MGF.args_lcm _ _) (PySem.W.mg_run_lcm a t b u (by omega) (by omega) hsz).meets (e ▸ ⟨.int _, H, I.tok _, ⟨_, rfl⟩, q⟩)
def rComb : List V → Hp → VK → Prop := fun vs H Q => ∃ a b : Int, vs = [.int a, .int b] ∧ 0 ≤ a ∧ 0 ≤ b ∧ a < 1000 ∧ b < 1000 ∧ Q (.int (PySem.W.mcComb a b)) H
theorem cr_comb : CallR X (.builtin "math.comb") rComb := by
  intro pins s σ H vs us Q I r h
  obtain ⟨a, b, rfl, ha, hb, ha2, hb2, q⟩ := h
  obtain ⟨t, u, rfl⟩ := Vals.int2 r
  exact PySem.W.mc_comb ha hb (by omega) (.inl (by omega)) fun _ => ⟨.int _, H, I.tok _, ⟨_, rfl⟩, q⟩
end
/-- [e for a, b in zip(xs, ys)]: both lists stay -/
theorem lc_zip {K : PySem.W.Frag} {a b : Addr} {xs ys : List V} {g : TG} {tt : TT} {te : TE} {vs : List Nat} {σ : L2.St} {H1 : Hp} {D : Addr} {Qd : Hp → Prop} (Pv : Nat → Hp → Prop) (h0 : Pv 0 (upd H1 D (.lst [])))
    (hl : ∀ i H, i ≤ min xs.length ys.length → Pv i H → SqL K H a xs ∧ SqL K H b ys)
    (hs : ∀ i x y H T, xs[i]? = some x → ys[i]? = some y → H T = none → Pv i H → g (.ref T) (wipe σ vs) (upd H T (.tup [x, y])) fun σ2 H2 => wipe σ2 vs = wipe σ vs ∧ tt σ2 H2 fun b H3 =>
      if b = true then te σ2 H3 fun y H4 => ∃ acc, H4 D = some (.lst acc) ∧ acc.length < sizeLine ∧ Pv (i + 1) (upd H4 D (.lst (acc ++ [y]))) else Pv (i + 1) H3) (hd : ∀ H, Pv (min xs.length ys.length) H → Qd H) :
    ∃ W : Nat → Nat → Hp → Prop, (∃ m, W 0 m (upd H1 D (.lst []))) ∧ ∀ i m H, W i m H →
      ((Itz K a b).stop i H ∧ Qd H) ∨ ((Itz K a b).go i H ∧ ∃ Nx : Hp → Prop, (∀ H', Nx H' → ∃ m', m' < m ∧ W (i + 1) m' H') ∧ ∀ x H', (Itz K a b).yld i H x H' → g x (wipe σ vs) H' fun σ2 H2 => wipe σ2 vs = wipe σ vs ∧ tt σ2 H2 fun b H3 =>
        if b = true then te σ2 H3 fun y H4 => ∃ acc, H4 D = some (.lst acc) ∧ acc.length < sizeLine ∧ Nx (upd H4 D (.lst (acc ++ [y]))) else Nx H3) := by
  refine ⟨fun i m H => m = min xs.length ys.length - i ∧ i ≤ min xs.length ys.length ∧ Pv i H, ⟨min xs.length ys.length, by simp, Nat.zero_le _, h0⟩, ?_⟩
  rintro i m H ⟨rfl, hi, p⟩
  obtain ⟨q1, q2⟩ := hl i H hi p
  by_cases hlt : i < min xs.length ys.length
  · have l1 : i < xs.length := by omega
    have l2 : i < ys.length := by omega
    refine .inr ⟨⟨xs, ys, xs[i], ys[i], q1, q2, List.getElem?_eq_getElem l1, List.getElem?_eq_getElem l2⟩, Pv (i + 1), fun H' h => ⟨_, by omega, rfl, by omega, h⟩, ?_⟩
    rintro x H' ⟨T, u, v, rfl, hT, rfl, e1, e2⟩
    exact hs i u v H T (e1 _ q1) (e2 _ q2) hT p
  · have e : i = min xs.length ys.length := by omega
    subst e
    exact .inl ⟨⟨xs, ys, q1, q2, by omega⟩, hd H p⟩
/-! ### f(e, .., k = v) in a body whose errors are caught -/
def tCallNS (n m : Nat) (sp : Sp) (gV : List V → List V → List V) (W : L2.St → XK) (t tk : TA) : TE := fun σ H Q => t σ H fun vs H1 => tk σ H1 fun zs H2 => vs.length = n ∧ zs.length = m ∧ sp (gV vs zs) H2 Q (W σ)
section
variable {X : Cx} {CX : CXT} {k n : Nat} {f : Addr} {fd : FuncData} {ps ks : List Str} {sp : Sp} {W : L2.St → XK} {x : Str} {p pos : Pos} {e : Expr} {es : List Expr} {kws : List Keyword} {t tk : TA} {g : List Value → List Value → List Value} {gV : List V → List V → List V}
theorem pe_callNS (F : FnOk X.prog X.w X.K X.mg X.base CX k f fd ps sp) (hr : Room k X.A) (hg : Gl X x) (hm : X.mg x = some (.ref f)) (hk : PySem.W.keepIn X.K (.ref f) = true) (hb : KBn X.K fd ps n ks g gV) (hx : ∀ σ, PassesAt CX X σ (W σ))
    (ha : PA X (e :: es) t) (hkw : PK X kws tk) (hall : (backToKw pos (keywordEach kws X.env)).all (·.1.isSome) = true := by rfl) (hks : (backToKw pos (keywordEach kws X.env)).filterMap (·.1) = ks := by rfl)
    (hdb : (x == ("__debug__" : Str)) = false := by decide) (he : starEach (e :: es) X.env = (false, eval e X.env) :: starEach es X.env := by rfl)
    (hpl : ((backTo pos (starEach (e :: es) X.env)).any (·.1) || (backToKw pos (keywordEach kws X.env)).any (·.1.isNone)) = false := by rfl) :
    PE X (.Call (.Name x p) (e :: es) kws pos) (tCallNS n ks.length sp gV W t tk) := by
  refine ⟨fun pins s σ H Q I h => ?_⟩
  refine wpAny_Call_Name_kw (ld_glob I hg hm ?_ hdb)
  refine PySem.W.callWith_KW (h₀ := X.base) I.ok.mod.kin hk hall (thn (ha.run pos pins s σ H _ I h) fun us s1 ⟨vs, H1, I1, r, q⟩ => ?_) hpl he
  refine thn (hkw.run pos pins s1 σ H1 _ I1 q) fun ws s2 ⟨zs, H2, I2, rz, l1, l2, q2⟩ => ⟨I2.kIn, ?_⟩
  rw [hks]
  have r2 := hb.rel r rz
  refine wpAny_call (codeAny_mono (F.run X.A X.stack s2 H2 ⟨us, ks.zip ws⟩ (g us ws) (gV vs zs) Q (W σ) hr I2.env0 (hb.to s2 us ws I2.kIn (r.length.symm.trans l1) (rz.length.symm.trans l2)) r2 q2) fun r s' hq => ?_)
  cases r with
  | error e => exact hx σ pins _ _ e s' I2 hq
  | ok fl =>
    cases fl with
    | ret u => exact I2.after hq
    | next => exact False.elim hq
    | brk => exact False.elim hq
    | cont => exact False.elim hq
end
/-- a field, the written part named (in a comprehension's block the context must not show) -/
theorem pe_fldK {X : Cx} {K : PySem.W.Frag} {e : Expr} {f : Str} {pos : Pos} {ta : TE} (h : X.K = K) (he : PE X e ta) (hb : attributeBase e f X.env (eval e X.env) = eval e X.env) : PE X (.Attribute e f pos) (tFld K ta f) := h ▸ pe_fld he hb
theorem pg_tupK {X : Cx} {K : PySem.W.Frag} {es : List Expr} {k n : Nat} {pos : Pos} {t : TGs} (h : X.K = K) (hc : X.calm = true) (hp : PGs X es t)
    (hn : (assignEach es X.env).length = n := by rfl) (hst : (assignEach es X.env).findIdx? (·.1) = none := by rfl) : PG X (.Tuple es k pos) (gTup K n t) := h ▸ pg_tup hc hp hn hst
end MoL

namespace Mo
open PySem PySem.Spec PyProof.Rows L2 MoL MoW
open C8 (pss_cut tCut)
/-! ### the text -/
def topS (i : Nat) : Stmt := PySem.Challenge.pw_momentrows_k20_rows_of_two_lots.main.body.getD i (.Pass ⟨0, 0, 0, 0⟩)
abbrev s_NoNumber___init__ : Stmt := inClass (topS 5) 0
abbrev N_NoNumber___init__ : List Str := ["self", "word"]
theorem sc_NoNumber___init__ : FnScope N_NoNumber___init__ ["self", "word"] (defScope s_NoNumber___init__) := ⟨rfl, rfl, rfl, by decide +kernel, rfl, by decide +kernel, by decide +kernel⟩
abbrev s_Ratio___init__ : Stmt := inClass (topS 10) 0
abbrev N_Ratio___init__ : List Str := ["self", "top", "bottom", "shared"]
theorem sc_Ratio___init__ : FnScope N_Ratio___init__ ["self", "top", "bottom"] (defScope s_Ratio___init__) := ⟨rfl, rfl, rfl, by decide +kernel, rfl, by decide +kernel, by decide +kernel⟩
abbrev s_Ratio___add__ : Stmt := inClass (topS 10) 1
abbrev N_Ratio___add__ : List Str := ["self", "other"]
theorem sc_Ratio___add__ : FnScope N_Ratio___add__ ["self", "other"] (defScope s_Ratio___add__) := ⟨rfl, rfl, rfl, by decide +kernel, rfl, by decide +kernel, by decide +kernel⟩
abbrev s_Ratio___radd__ : Stmt := inClass (topS 10) 2
abbrev N_Ratio___radd__ : List Str := ["self", "other"]
theorem sc_Ratio___radd__ : FnScope N_Ratio___radd__ ["self", "other"] (defScope s_Ratio___radd__) := ⟨rfl, rfl, rfl, by decide +kernel, rfl, by decide +kernel, by decide +kernel⟩
abbrev s_Ratio___sub__ : Stmt := inClass (topS 10) 3
abbrev N_Ratio___sub__ : List Str := ["self", "other"]
theorem sc_Ratio___sub__ : FnScope N_Ratio___sub__ ["self", "other"] (defScope s_Ratio___sub__) := ⟨rfl, rfl, rfl, by decide +kernel, rfl, by decide +kernel, by decide +kernel⟩
abbrev s_Ratio___rsub__ : Stmt := inClass (topS 10) 4
abbrev N_Ratio___rsub__ : List Str := ["self", "other"]
theorem sc_Ratio___rsub__ : FnScope N_Ratio___rsub__ ["self", "other"] (defScope s_Ratio___rsub__) := ⟨rfl, rfl, rfl, by decide +kernel, rfl, by decide +kernel, by decide +kernel⟩
abbrev s_Ratio___mul__ : Stmt := inClass (topS 10) 5
abbrev N_Ratio___mul__ : List Str := ["self", "other"]
theorem sc_Ratio___mul__ : FnScope N_Ratio___mul__ ["self", "other"] (defScope s_Ratio___mul__) := ⟨rfl, rfl, rfl, by decide +kernel, rfl, by decide +kernel, by decide +kernel⟩
abbrev s_Ratio___rmul__ : Stmt := inClass (topS 10) 6
abbrev N_Ratio___rmul__ : List Str := ["self", "other"]
theorem sc_Ratio___rmul__ : FnScope N_Ratio___rmul__ ["self", "other"] (defScope s_Ratio___rmul__) := ⟨rfl, rfl, rfl, by decide +kernel, rfl, by decide +kernel, by decide +kernel⟩
abbrev s_Ratio___lt__ : Stmt := inClass (topS 10) 16
abbrev N_Ratio___lt__ : List Str := ["self", "other"]
theorem sc_Ratio___lt__ : FnScope N_Ratio___lt__ ["self", "other"] (defScope s_Ratio___lt__) := ⟨rfl, rfl, rfl, by decide +kernel, rfl, by decide +kernel, by decide +kernel⟩
abbrev s_Ratio___gt__ : Stmt := inClass (topS 10) 18
abbrev N_Ratio___gt__ : List Str := ["self", "other"]
theorem sc_Ratio___gt__ : FnScope N_Ratio___gt__ ["self", "other"] (defScope s_Ratio___gt__) := ⟨rfl, rfl, rfl, by decide +kernel, rfl, by decide +kernel, by decide +kernel⟩
abbrev s_is_whole : Stmt := topS 11
abbrev N_is_whole : List Str := ["x"]
theorem sc_is_whole : FnScope N_is_whole ["x"] (defScope s_is_whole) := ⟨rfl, rfl, rfl, by decide +kernel, rfl, by decide +kernel, by decide +kernel⟩
abbrev s_is_number : Stmt := topS 12
abbrev N_is_number : List Str := ["x"]
theorem sc_is_number : FnScope N_is_number ["x"] (defScope s_is_number) := ⟨rfl, rfl, rfl, by decide +kernel, rfl, by decide +kernel, by decide +kernel⟩
abbrev s_ratio_of : Stmt := topS 13
abbrev N_ratio_of : List Str := ["number"]
theorem sc_ratio_of : FnScope N_ratio_of ["number"] (defScope s_ratio_of) := ⟨rfl, rfl, rfl, by decide +kernel, rfl, by decide +kernel, by decide +kernel⟩
abbrev s_whole_parts : Stmt := topS 14
abbrev N_whole_parts : List Str := ["ratios", "bottom", "number"]
theorem sc_whole_parts : FnScope N_whole_parts ["ratios"] (defScope s_whole_parts) := ⟨rfl, rfl, rfl, by decide +kernel, rfl, by decide +kernel, by decide +kernel⟩
abbrev s__sum : Stmt := topS 15
abbrev N__sum : List Str := ["one", "other"]
theorem sc__sum : FnScope N__sum ["one", "other"] (defScope s__sum) := ⟨rfl, rfl, rfl, by decide +kernel, rfl, by decide +kernel, by decide +kernel⟩
abbrev s__difference : Stmt := topS 16
abbrev N__difference : List Str := ["one", "other"]
theorem sc__difference : FnScope N__difference ["one", "other"] (defScope s__difference) := ⟨rfl, rfl, rfl, by decide +kernel, rfl, by decide +kernel, by decide +kernel⟩
abbrev s__product : Stmt := topS 17
abbrev N__product : List Str := ["one", "other"]
theorem sc__product : FnScope N__product ["one", "other"] (defScope s__product) := ⟨rfl, rfl, rfl, by decide +kernel, rfl, by decide +kernel, by decide +kernel⟩
abbrev s__gap : Stmt := topS 20
abbrev N__gap : List Str := ["one", "other"]
theorem sc__gap : FnScope N__gap ["one", "other"] (defScope s__gap) := ⟨rfl, rfl, rfl, by decide +kernel, rfl, by decide +kernel, by decide +kernel⟩
abbrev s_mixed_row : Stmt := topS 24
abbrev N_mixed_row : List Str := ["one", "other", "share", "numbers", "others", "a", "b"]
theorem sc_mixed_row : FnScope N_mixed_row ["one", "other", "share"] (defScope s_mixed_row) := ⟨rfl, rfl, rfl, by decide +kernel, rfl, by decide +kernel, by decide +kernel⟩
abbrev s_sum_row : Stmt := topS 25
abbrev N_sum_row : List Str := ["one", "other", "tops", "bottom", "others", "under", "found", "k", "total", "i"]
theorem sc_sum_row : FnScope N_sum_row ["one", "other"] (defScope s_sum_row) := ⟨rfl, rfl, rfl, by decide +kernel, rfl, by decide +kernel, by decide +kernel⟩
abbrev s_product_row : Stmt := topS 26
abbrev N_product_row : List Str := ["one", "other", "numbers", "others", "a", "b"]
theorem sc_product_row : FnScope N_product_row ["one", "other"] (defScope s_product_row) := ⟨rfl, rfl, rfl, by decide +kernel, rfl, by decide +kernel, by decide +kernel⟩
abbrev s_row_numbers : Stmt := topS 27
abbrev N_row_numbers : List Str := ["row", "k", "number"]
theorem sc_row_numbers : FnScope N_row_numbers ["row"] (defScope s_row_numbers) := ⟨rfl, rfl, rfl, by decide +kernel, rfl, by decide +kernel, by decide +kernel⟩
abbrev s__law_is_integer : Stmt := topS 29
abbrev N__law_is_integer : List Str := ["_law_value"]
theorem sc__law_is_integer : FnScope N__law_is_integer ["_law_value"] (defScope s__law_is_integer) := ⟨rfl, rfl, rfl, by decide +kernel, rfl, by decide +kernel, by decide +kernel⟩
abbrev s__law_feed : Stmt := topS 30
abbrev N__law_feed : List Str := ["_law_script", "_law_cell"]
theorem sc__law_feed : FnScope N__law_feed ["_law_script"] (defScope s__law_feed) := ⟨rfl, rfl, rfl, by decide +kernel, rfl, by decide +kernel, by decide +kernel⟩
abbrev s__law_take : Stmt := topS 31
abbrev N__law_take : List Str := ["_law_feed_here", "_law_size", "_law_cell", "_law_digit", "_law_number_here"]
theorem sc__law_take : FnScope N__law_take ["_law_feed_here", "_law_size"] (defScope s__law_take) := ⟨rfl, rfl, rfl, by decide +kernel, rfl, by decide +kernel, by decide +kernel⟩
abbrev s__law_number : Stmt := topS 32
abbrev N__law_number : List Str := ["_law_feed_here", "_law_size", "_law_sign"]
theorem sc__law_number : FnScope N__law_number ["_law_feed_here", "_law_size"] (defScope s__law_number) := ⟨rfl, rfl, rfl, by decide +kernel, rfl, by decide +kernel, by decide +kernel⟩
abbrev s__law_is : Stmt := topS 33
abbrev N__law_is : List Str := ["_law_value", "_law_top", "_law_bottom"]
theorem sc__law_is : FnScope N__law_is ["_law_value", "_law_top", "_law_bottom"] (defScope s__law_is) := ⟨rfl, rfl, rfl, by decide +kernel, rfl, by decide +kernel, by decide +kernel⟩
abbrev s__law_row_is : Stmt := topS 34
abbrev N__law_row_is : List Str := ["_law_values", "_law_pairs", "_law_k"]
theorem sc__law_row_is : FnScope N__law_row_is ["_law_values", "_law_pairs"] (defScope s__law_row_is) := ⟨rfl, rfl, rfl, by decide +kernel, rfl, by decide +kernel, by decide +kernel⟩
abbrev s__law_ratios : Stmt := topS 35
abbrev N__law_ratios : List Str := ["_law_pairs", "_law_pair"]
theorem sc__law_ratios : FnScope N__law_ratios ["_law_pairs"] (defScope s__law_ratios) := ⟨rfl, rfl, rfl, by decide +kernel, rfl, by decide +kernel, by decide +kernel⟩
abbrev s__law_lot : Stmt := topS 36
abbrev N__law_lot : List Str := ["_law_feed_here", "_law_most", "_law_size", "_law_top", "_law_points", "_law_weights", "_law_k"]
theorem sc__law_lot : FnScope N__law_lot ["_law_feed_here", "_law_most"] (defScope s__law_lot) := ⟨rfl, rfl, rfl, by decide +kernel, rfl, by decide +kernel, by decide +kernel⟩
abbrev s__law_numbers : Stmt := topS 37
abbrev N__law_numbers : List Str := ["_law_lot_here", "_law_d", "_law_row", "_law_powers", "_law_bottom", "_law_k", "_law_power", "_law_j"]
theorem sc__law_numbers : FnScope N__law_numbers ["_law_lot_here", "_law_d"] (defScope s__law_numbers) := ⟨rfl, rfl, rfl, by decide +kernel, rfl, by decide +kernel, by decide +kernel⟩
abbrev s__law_sums : Stmt := topS 38
abbrev N__law_sums : List Str := ["_law_one", "_law_other", "_law_points", "_law_weights", "_law_i", "_law_j"]
theorem sc__law_sums : FnScope N__law_sums ["_law_one", "_law_other"] (defScope s__law_sums) := ⟨rfl, rfl, rfl, by decide +kernel, rfl, by decide +kernel, by decide +kernel⟩
abbrev s__law_products : Stmt := topS 39
abbrev N__law_products : List Str := ["_law_one", "_law_other", "_law_points", "_law_weights", "_law_i", "_law_j"]
theorem sc__law_products : FnScope N__law_products ["_law_one", "_law_other"] (defScope s__law_products) := ⟨rfl, rfl, rfl, by decide +kernel, rfl, by decide +kernel, by decide +kernel⟩
abbrev s__law_mixed : Stmt := topS 40
abbrev N__law_mixed : List Str := ["_law_first", "_law_second", "_law_part", "_law_row", "_law_k", "_law_top"]
theorem sc__law_mixed : FnScope N__law_mixed ["_law_first", "_law_second", "_law_part"] (defScope s__law_mixed) := ⟨rfl, rfl, rfl, by decide +kernel, rfl, by decide +kernel, by decide +kernel⟩
abbrev s__law_word : Stmt := topS 41
abbrev N__law_word : List Str := ["_law_first", "_law_second", "_law_value", "_law_word_here", "e"]
theorem sc__law_word : FnScope N__law_word ["_law_first", "_law_second", "_law_value"] (defScope s__law_word) := ⟨rfl, rfl, rfl, by decide +kernel, rfl, by decide +kernel, by decide +kernel⟩
abbrev s_law : Stmt := topS 42
abbrev N_law : List Str := ["_law_script", "_law_feed_here", "_law_k", "_law_one", "_law_other", "_law_d", "_law_least", "_law_rows", "_law_first", "_law_second", "_law_due", "_law_bottom", "_law_part", "_law_mixture", "_law_bad"]
theorem sc_law : FnScope N_law ["_law_script"] (defScope s_law) := ⟨rfl, rfl, rfl, by decide +kernel, rfl, by decide +kernel, by decide +kernel⟩
/-! ### addresses and function objects -/
structure Ad where
  Ratio : Addr
  NoNumber : Addr
  MeansError : Addr
  f_NoNumber___init__ : Addr
  f_Ratio___init__ : Addr
  f_Ratio___add__ : Addr
  f_Ratio___radd__ : Addr
  f_Ratio___sub__ : Addr
  f_Ratio___rsub__ : Addr
  f_Ratio___mul__ : Addr
  f_Ratio___rmul__ : Addr
  f_Ratio___lt__ : Addr
  f_Ratio___gt__ : Addr
  f_is_whole : Addr
  f_is_number : Addr
  f_ratio_of : Addr
  f_whole_parts : Addr
  f__sum : Addr
  f__difference : Addr
  f__product : Addr
  f__gap : Addr
  f_mixed_row : Addr
  f_sum_row : Addr
  f_product_row : Addr
  f_row_numbers : Addr
  f__law_is_integer : Addr
  f__law_feed : Addr
  f__law_take : Addr
  f__law_number : Addr
  f__law_is : Addr
  f__law_row_is : Addr
  f__law_ratios : Addr
  f__law_lot : Addr
  f__law_numbers : Addr
  f__law_sums : Addr
  f__law_products : Addr
  f__law_mixed : Addr
  f__law_word : Addr
  f_law : Addr
structure Fd where
  f_NoNumber___init__ : FuncData
  f_Ratio___init__ : FuncData
  f_Ratio___add__ : FuncData
  f_Ratio___radd__ : FuncData
  f_Ratio___sub__ : FuncData
  f_Ratio___rsub__ : FuncData
  f_Ratio___mul__ : FuncData
  f_Ratio___rmul__ : FuncData
  f_Ratio___lt__ : FuncData
  f_Ratio___gt__ : FuncData
  f_is_whole : FuncData
  f_is_number : FuncData
  f_ratio_of : FuncData
  f_whole_parts : FuncData
  f__sum : FuncData
  f__difference : FuncData
  f__product : FuncData
  f__gap : FuncData
  f_mixed_row : FuncData
  f_sum_row : FuncData
  f_product_row : FuncData
  f_row_numbers : FuncData
  f__law_is_integer : FuncData
  f__law_feed : FuncData
  f__law_take : FuncData
  f__law_number : FuncData
  f__law_is : FuncData
  f__law_row_is : FuncData
  f__law_ratios : FuncData
  f__law_lot : FuncData
  f__law_numbers : FuncData
  f__law_sums : FuncData
  f__law_products : FuncData
  f__law_mixed : FuncData
  f__law_word : FuncData
  f_law : FuncData
/-- what the written part says -/
structure Txt (K : PySem.W.Frag) (mg : Str → Option Value) (A : Ad) (D : Fd) : Prop where
  g_Ratio : mg "Ratio" = some (.ref A.Ratio)
  k_Ratio : OwnK K A.Ratio
  kp_Ratio : PySem.W.keepIn K (.ref A.Ratio) = true
  M_Ratio : Mk K A.Ratio A.f_Ratio___init__
  g_MeansError : mg "MeansError" = some (.ref A.MeansError)
  g_NoNumber : mg "NoNumber" = some (.ref A.NoNumber)
  o_NoNumber : OexC K A.NoNumber
  x_NoNumber : XfC K A.NoNumber
  c_NoNumber : ExcC K A.NoNumber
  em_NoNumber : PySem.W.exmOne K (.ref A.NoNumber) (.ref A.NoNumber) = some true
  n_NoNumber_word : PySem.W.findIn K (.ref A.NoNumber) "word" = some none
  i_NoNumber : PySem.W.findIn K (.ref A.NoNumber) "__init__" = some (some (.ref A.f_NoNumber___init__))
  ti_NoNumber : PySem.W.typeIn K (.ref A.f_NoNumber___init__) = some (.type "function")
  F_NoNumber___init__ : Fun K "__init__" "NoNumber.__init__" s_NoNumber___init__ A.f_NoNumber___init__ D.f_NoNumber___init__
  b_NoNumber___init__ : Binds K D.f_NoNumber___init__ ["self", "word"] []
  m_NoNumber___init__ : Meth K A.NoNumber "__init__" A.f_NoNumber___init__
  F_Ratio___init__ : FunD K "__init__" "Ratio.__init__" (defArgs s_Ratio___init__) (defBody s_Ratio___init__) (defScope s_Ratio___init__) [.int 1] [] A.f_Ratio___init__ D.f_Ratio___init__
  b_Ratio___init__ : Binds K D.f_Ratio___init__ ["self", "top", "bottom"] []
  b1_Ratio___init__ : ∃ ds, Vals [.int 1] ds ∧ Binds K D.f_Ratio___init__ ["self", "top", "bottom"] ds
  m_Ratio___init__ : Meth K A.Ratio "__init__" A.f_Ratio___init__
  F_Ratio___add__ : Fun K "__add__" "Ratio.__add__" s_Ratio___add__ A.f_Ratio___add__ D.f_Ratio___add__
  b_Ratio___add__ : Binds K D.f_Ratio___add__ ["self", "other"] []
  m_Ratio___add__ : Meth K A.Ratio "__add__" A.f_Ratio___add__
  F_Ratio___radd__ : Fun K "__radd__" "Ratio.__radd__" s_Ratio___radd__ A.f_Ratio___radd__ D.f_Ratio___radd__
  b_Ratio___radd__ : Binds K D.f_Ratio___radd__ ["self", "other"] []
  m_Ratio___radd__ : Meth K A.Ratio "__radd__" A.f_Ratio___radd__
  F_Ratio___sub__ : Fun K "__sub__" "Ratio.__sub__" s_Ratio___sub__ A.f_Ratio___sub__ D.f_Ratio___sub__
  b_Ratio___sub__ : Binds K D.f_Ratio___sub__ ["self", "other"] []
  m_Ratio___sub__ : Meth K A.Ratio "__sub__" A.f_Ratio___sub__
  F_Ratio___rsub__ : Fun K "__rsub__" "Ratio.__rsub__" s_Ratio___rsub__ A.f_Ratio___rsub__ D.f_Ratio___rsub__
  b_Ratio___rsub__ : Binds K D.f_Ratio___rsub__ ["self", "other"] []
  m_Ratio___rsub__ : Meth K A.Ratio "__rsub__" A.f_Ratio___rsub__
  F_Ratio___mul__ : Fun K "__mul__" "Ratio.__mul__" s_Ratio___mul__ A.f_Ratio___mul__ D.f_Ratio___mul__
  b_Ratio___mul__ : Binds K D.f_Ratio___mul__ ["self", "other"] []
  m_Ratio___mul__ : Meth K A.Ratio "__mul__" A.f_Ratio___mul__
  F_Ratio___rmul__ : Fun K "__rmul__" "Ratio.__rmul__" s_Ratio___rmul__ A.f_Ratio___rmul__ D.f_Ratio___rmul__
  b_Ratio___rmul__ : Binds K D.f_Ratio___rmul__ ["self", "other"] []
  m_Ratio___rmul__ : Meth K A.Ratio "__rmul__" A.f_Ratio___rmul__
  F_Ratio___lt__ : Fun K "__lt__" "Ratio.__lt__" s_Ratio___lt__ A.f_Ratio___lt__ D.f_Ratio___lt__
  b_Ratio___lt__ : Binds K D.f_Ratio___lt__ ["self", "other"] []
  m_Ratio___lt__ : Meth K A.Ratio "__lt__" A.f_Ratio___lt__
  F_Ratio___gt__ : Fun K "__gt__" "Ratio.__gt__" s_Ratio___gt__ A.f_Ratio___gt__ D.f_Ratio___gt__
  b_Ratio___gt__ : Binds K D.f_Ratio___gt__ ["self", "other"] []
  m_Ratio___gt__ : Meth K A.Ratio "__gt__" A.f_Ratio___gt__
  F_is_whole : Fun K "is_whole" "is_whole" s_is_whole A.f_is_whole D.f_is_whole
  b_is_whole : Binds K D.f_is_whole ["x"] []
  g_is_whole : mg "is_whole" = some (.ref A.f_is_whole)
  F_is_number : Fun K "is_number" "is_number" s_is_number A.f_is_number D.f_is_number
  b_is_number : Binds K D.f_is_number ["x"] []
  g_is_number : mg "is_number" = some (.ref A.f_is_number)
  F_ratio_of : Fun K "ratio_of" "ratio_of" s_ratio_of A.f_ratio_of D.f_ratio_of
  b_ratio_of : Binds K D.f_ratio_of ["number"] []
  g_ratio_of : mg "ratio_of" = some (.ref A.f_ratio_of)
  F_whole_parts : Fun K "whole_parts" "whole_parts" s_whole_parts A.f_whole_parts D.f_whole_parts
  b_whole_parts : Binds K D.f_whole_parts ["ratios"] []
  g_whole_parts : mg "whole_parts" = some (.ref A.f_whole_parts)
  F__sum : Fun K "_sum" "_sum" s__sum A.f__sum D.f__sum
  b__sum : Binds K D.f__sum ["one", "other"] []
  g__sum : mg "_sum" = some (.ref A.f__sum)
  F__difference : Fun K "_difference" "_difference" s__difference A.f__difference D.f__difference
  b__difference : Binds K D.f__difference ["one", "other"] []
  g__difference : mg "_difference" = some (.ref A.f__difference)
  F__product : Fun K "_product" "_product" s__product A.f__product D.f__product
  b__product : Binds K D.f__product ["one", "other"] []
  g__product : mg "_product" = some (.ref A.f__product)
  F__gap : Fun K "_gap" "_gap" s__gap A.f__gap D.f__gap
  b__gap : Binds K D.f__gap ["one", "other"] []
  g__gap : mg "_gap" = some (.ref A.f__gap)
  F_mixed_row : Fun K "mixed_row" "mixed_row" s_mixed_row A.f_mixed_row D.f_mixed_row
  kb_mixed_row : KBn K D.f_mixed_row ["one", "other", "share"] 2 ["share"] (fun us ws => us ++ ws) (fun vs zs => vs ++ zs)
  g_mixed_row : mg "mixed_row" = some (.ref A.f_mixed_row)
  F_sum_row : Fun K "sum_row" "sum_row" s_sum_row A.f_sum_row D.f_sum_row
  b_sum_row : Binds K D.f_sum_row ["one", "other"] []
  g_sum_row : mg "sum_row" = some (.ref A.f_sum_row)
  F_product_row : Fun K "product_row" "product_row" s_product_row A.f_product_row D.f_product_row
  b_product_row : Binds K D.f_product_row ["one", "other"] []
  g_product_row : mg "product_row" = some (.ref A.f_product_row)
  F_row_numbers : Fun K "row_numbers" "row_numbers" s_row_numbers A.f_row_numbers D.f_row_numbers
  b_row_numbers : Binds K D.f_row_numbers ["row"] []
  g_row_numbers : mg "row_numbers" = some (.ref A.f_row_numbers)
  F__law_is_integer : Fun K "_law_is_integer" "_law_is_integer" s__law_is_integer A.f__law_is_integer D.f__law_is_integer
  b__law_is_integer : Binds K D.f__law_is_integer ["_law_value"] []
  g__law_is_integer : mg "_law_is_integer" = some (.ref A.f__law_is_integer)
  F__law_feed : Fun K "_law_feed" "_law_feed" s__law_feed A.f__law_feed D.f__law_feed
  b__law_feed : Binds K D.f__law_feed ["_law_script"] []
  g__law_feed : mg "_law_feed" = some (.ref A.f__law_feed)
  F__law_take : Fun K "_law_take" "_law_take" s__law_take A.f__law_take D.f__law_take
  b__law_take : Binds K D.f__law_take ["_law_feed_here", "_law_size"] []
  g__law_take : mg "_law_take" = some (.ref A.f__law_take)
  F__law_number : Fun K "_law_number" "_law_number" s__law_number A.f__law_number D.f__law_number
  b__law_number : Binds K D.f__law_number ["_law_feed_here", "_law_size"] []
  g__law_number : mg "_law_number" = some (.ref A.f__law_number)
  F__law_is : Fun K "_law_is" "_law_is" s__law_is A.f__law_is D.f__law_is
  b__law_is : Binds K D.f__law_is ["_law_value", "_law_top", "_law_bottom"] []
  g__law_is : mg "_law_is" = some (.ref A.f__law_is)
  F__law_row_is : Fun K "_law_row_is" "_law_row_is" s__law_row_is A.f__law_row_is D.f__law_row_is
  b__law_row_is : Binds K D.f__law_row_is ["_law_values", "_law_pairs"] []
  g__law_row_is : mg "_law_row_is" = some (.ref A.f__law_row_is)
  F__law_ratios : Fun K "_law_ratios" "_law_ratios" s__law_ratios A.f__law_ratios D.f__law_ratios
  b__law_ratios : Binds K D.f__law_ratios ["_law_pairs"] []
  g__law_ratios : mg "_law_ratios" = some (.ref A.f__law_ratios)
  F__law_lot : Fun K "_law_lot" "_law_lot" s__law_lot A.f__law_lot D.f__law_lot
  b__law_lot : Binds K D.f__law_lot ["_law_feed_here", "_law_most"] []
  g__law_lot : mg "_law_lot" = some (.ref A.f__law_lot)
  F__law_numbers : Fun K "_law_numbers" "_law_numbers" s__law_numbers A.f__law_numbers D.f__law_numbers
  b__law_numbers : Binds K D.f__law_numbers ["_law_lot_here", "_law_d"] []
  g__law_numbers : mg "_law_numbers" = some (.ref A.f__law_numbers)
  F__law_sums : Fun K "_law_sums" "_law_sums" s__law_sums A.f__law_sums D.f__law_sums
  b__law_sums : Binds K D.f__law_sums ["_law_one", "_law_other"] []
  g__law_sums : mg "_law_sums" = some (.ref A.f__law_sums)
  F__law_products : Fun K "_law_products" "_law_products" s__law_products A.f__law_products D.f__law_products
  b__law_products : Binds K D.f__law_products ["_law_one", "_law_other"] []
  g__law_products : mg "_law_products" = some (.ref A.f__law_products)
  F__law_mixed : Fun K "_law_mixed" "_law_mixed" s__law_mixed A.f__law_mixed D.f__law_mixed
  b__law_mixed : Binds K D.f__law_mixed ["_law_first", "_law_second", "_law_part"] []
  g__law_mixed : mg "_law_mixed" = some (.ref A.f__law_mixed)
  F__law_word : Fun K "_law_word" "_law_word" s__law_word A.f__law_word D.f__law_word
  b__law_word : Binds K D.f__law_word ["_law_first", "_law_second", "_law_value"] []
  g__law_word : mg "_law_word" = some (.ref A.f__law_word)
  F_law : Fun K "law" "law" s_law A.f_law D.f_law
  b_law : Binds K D.f_law ["_law_script"] []
  g_law : mg "law" = some (.ref A.f_law)
  ik_str : PySem.W.kitOne K (.type "str") (.ref A.Ratio) = some false
  ik_bool : PySem.W.kitOne K (.type "bool") (.ref A.Ratio) = some false
  ik_NoneType : PySem.W.kitOne K (.type "NoneType") (.ref A.Ratio) = some false
  z_isinstance : mg "isinstance" = none
  z_int : mg "int" = none
  z_bool : mg "bool" = none
  z_abs : mg "abs" = none
  z_len : mg "len" = none
  z_max : mg "max" = none
  z_range : mg "range" = none
  z_min : mg "min" = none
  z_list : mg "list" = none
  z_tuple : mg "tuple" = none
  z_zip : mg "zip" = none
  z_sum : mg "sum" = none
  g_MOST_NUMBERS : ∃ t, mg "MOST_NUMBERS" = some (.int 13 t)
  g_gcd : mg "gcd" = some (.builtin "math.gcd")
  g_lcm : mg "lcm" = some (.builtin "math.lcm")
  g_comb : mg "comb" = some (.builtin "math.comb")

section
variable {P : Program} {w : World} {K : PySem.W.Frag} {mg : Str → Option Value} {base : Heap} {A : Ad} {D : Fd}
/-! ### kinds of values -/
/-- whether x is an int and no bool -/
def WholeV (K : PySem.W.Frag) (H : Hp) (x : V) (b : Bool) : Prop := ∃ t b1 b2, TyX K H x t ∧ PySem.W.kitOne K t (.type "int") = some b1 ∧ (b1 = true → PySem.W.kitOne K t (.type "bool") = some b2) ∧ b = (b1 && !b2)
theorem whole_int {K : PySem.W.Frag} (i : Int) {H : Hp} : WholeV K H (.int i) true := ⟨_, true, false, .base (.int i), kit_ty (by decide +kernel), fun _ => kit_ty (by decide +kernel), rfl⟩
def sp_is_whole (K : PySem.W.Frag) : Sp := fun vs H Q _ => ∃ x b, vs = [x] ∧ WholeV K H x b ∧ Q (.bl b) H
theorem ok_is_whole (T : Txt K mg A D) : FnOk P w K mg base CX0 1 A.f_is_whole D.f_is_whole ["x"] (sp_is_whole K) := by
  skip
  refine T.F_is_whole.ok sc_is_whole (fun vs H Q E h => ?_) (fun cdv A' outer s H vs Q E hr h => ?_)
  · obtain ⟨x, b, rfl, _⟩ := h
    rfl
  · obtain ⟨x, b, rfl, ⟨t, b1, b2, ty, e1, e2, rfl⟩, q⟩ := h
    refine ⟨_, (pss_one (ps_ret (pe_and (pe_callB call_isi rfl T.z_isinstance (by decide +kernel) (pa_cons (pv 0) (pa_cons (pe_bltn (v := .ty "int") rfl T.z_int (by decide +kernel) rfl) pa_nil))) (pe_one (pe_not (pe_callB call_isi rfl T.z_isinstance (by decide +kernel) (pa_cons (pv 0) (pa_cons (pe_bltn (v := .ty "bool") rfl T.z_bool (by decide +kernel) rfl) pa_nil)))))))), ?_⟩
    refine ⟨x, rfl, x, .ty "int", t, _, b1, rfl, .ty _, ty, e1, b1, rfl, ?_⟩
    cases b1 with
    | false => exact iteF q
    | true => exact iteT ⟨x, rfl, x, .ty "bool", t, _, b2, rfl, .ty _, ty, e2 rfl, b2, rfl, q⟩

/-- neither a Ratio nor an integer -/
def NoNum (K : PySem.W.Frag) (C : Addr) (H : Hp) (x : V) : Prop := ∃ t, TyX K H x t ∧ PySem.W.kitOne K t (.ref C) = some false ∧ WholeV K H x false
def sp_isnum (K : PySem.W.Frag) (C : Addr) : Sp := fun vs H Q _ => ∃ x, vs = [x] ∧ ((((∃ i, x = .int i) ∨ Ins H x C) ∧ Q (.bl true) H) ∨ (NoNum K C H x ∧ Q (.bl false) H))
theorem ok_is_number (T : Txt K mg A D) : FnOk P w K mg base CX0 2 A.f_is_number D.f_is_number ["x"] (sp_isnum K A.Ratio) := by
  have G_is_whole : FnOk P w K mg base CX0 1 A.f_is_whole D.f_is_whole ["x"] (sp_is_whole K) := ok_is_whole T
  refine T.F_is_number.ok sc_is_number (fun vs H Q E h => ?_) (fun cdv A' outer s H vs Q E hr h => ?_)
  · obtain ⟨x, rfl, _⟩ := h
    rfl
  · obtain ⟨x, rfl, hx⟩ := h
    refine ⟨_, (pss_one (ps_ret (pe_or (pe_callB call_isi rfl T.z_isinstance (by decide +kernel) (pa_cons (pv 0) (pa_cons (pe_glob (v := .ref A.Ratio) rfl T.g_Ratio rfl) pa_nil))) (pe_one (pe_call G_is_whole (hr.mono (by decide)) rfl T.g_is_whole T.F_is_whole.kp T.b_is_whole .nil pass0 (pa_cons (pv 0) pa_nil)))))), ?_⟩
    rcases hx with ⟨⟨i, rfl⟩ | ⟨a, dx, fs, rfl, ha⟩, q⟩ | ⟨⟨t, ty, e, w⟩, q⟩
    · exact ⟨.int i, rfl, .int i, .ref A.Ratio, _, _, false, rfl, .own _, .base (.int i), T.k_Ratio.ik, false, rfl, iteF ⟨.int i, rfl, _, _, rfl, whole_int i, q⟩⟩
    · exact ⟨.ref a, rfl, .ref a, .ref A.Ratio, _, _, true, rfl, .own _, T.k_Ratio.ty ha, kit_self, true, rfl, iteT q⟩
    · exact ⟨x, rfl, x, .ref A.Ratio, t, _, false, rfl, .own _, ty, e, false, rfl, iteF ⟨x, rfl, _, _, rfl, w, q⟩⟩

/-! ### the making -/
def sp_init (C : Addr) : Sp := fun vs H Q _ => ∃ x dx t b, vs = [.ref x, .int t, .int b] ∧ H x = some (.ins C dx []) ∧ b ≠ 0 ∧ Sm b ∧ ∀ t' b', Norm t b t' b' → Q .non (upd H x (.ins C dx [("top", .int t'), ("bottom", .int b')]))
theorem ok_Ratio___init__ (T : Txt K mg A D) : FnOk P w K mg base CX0 2 A.f_Ratio___init__ D.f_Ratio___init__ ["self", "top", "bottom"] (sp_init A.Ratio) := by
  have G_is_whole : FnOk P w K mg base CX0 1 A.f_is_whole D.f_is_whole ["x"] (sp_is_whole K) := ok_is_whole T
  refine T.F_Ratio___init__.ok sc_Ratio___init__ (fun vs H Q E h => ?_) (fun cdv A' outer s H vs Q E hr h => ?_)
  · obtain ⟨x, dx, t, b, rfl, _⟩ := h
    rfl
  · obtain ⟨x, dx, t, b, rfl, hx, hb, sb, q⟩ := h
    refine ⟨_, (pss_cons (ps_if (pt_not (pt_val (pe_call G_is_whole (hr.mono (by decide)) rfl T.g_is_whole T.F_is_whole.kp T.b_is_whole .nil pass0 (pa_cons (pv 1) pa_nil)))) (pss_one ps_never) pss_nil)
  (pss_cons (ps_if (pt_not (pt_val (pe_call G_is_whole (hr.mono (by decide)) rfl T.g_is_whole T.F_is_whole.kp T.b_is_whole .nil pass0 (pa_cons (pv 2) pa_nil)))) (pss_one ps_never) pss_nil)
  (pss_cons (ps_if (pt_cmpR op_eq (pv 2) pe_int (nomark _)) (pss_one ps_never) pss_nil)
  (pss_cons (ps_set (i := 3) sc_Ratio___init__.nd rfl (.inl rfl) (pe_callBfun cr_gcd rfl T.g_gcd (pa_cons (pv 1) (pa_cons (pv 2) pa_nil))))
  (pss_cut (ps_if (pt_cmpR op_lt (pv 2) pe_int (nomark _)) (pss_one (ps_set (i := 3) sc_Ratio___init__.nd rfl (.inl rfl) (pe_un un_neg (pv 3)))) pss_nil)
  (pss_cons (ps_fld (pv 0) (pe_op op_fdivA (pv 1) (pv 3)) rfl)
  (pss_one (ps_fld (pv 0) (pe_op op_fdivA (pv 2) (pv 3)) rfl)))))))), ?_⟩
    refine ⟨_, rfl, _, _, rfl, whole_int t, true, rfl, iteF ?_⟩
    refine ⟨_, rfl, _, _, rfl, whole_int b, true, rfl, iteF ?_⟩
    have e0 : decide (V.int b = V.int 0) = false := decide_eq_false fun z => hb (V.int.inj z)
    refine ⟨_, rfl, rfl, _, rfl, ?_⟩
    rw [e0]
    refine iteF ⟨_, rfl, _, rfl, t, b, rfl, ?_⟩
    obtain ⟨g0, gl, nm⟩ := Norm.make (t := t) hb _ rfl
    refine ⟨fun σ' H' => H' = H ∧ ∃ g : Int, (g ≠ 0 ∧ g.natAbs ≤ b.natAbs ∧ Norm t b (t.fdiv g) (b.fdiv g)) ∧ σ' = [some (.ref x), some (.int t), some (.int b), some (.int g)], ?_, ?_⟩
    · refine ⟨_, rfl, _, _, rfl, rfl, _, rfl, ?_⟩
      by_cases hneg : b < 0
      · rw [if_pos hneg] at g0 gl nm
        rw [decide_eq_true hneg]
        exact iteT ⟨_, rfl, _, rfl, rfl, _, ⟨g0, gl, nm⟩, rfl⟩
      · rw [if_neg hneg] at g0 gl nm
        rw [decide_eq_false hneg]
        exact iteF ⟨rfl, _, ⟨g0, gl, nm⟩, rfl⟩
    · rintro σ' H' ⟨rfl, g, ⟨h0, h1, hn⟩, rfl⟩
      have sg : Sm g := sb.le h1
      refine ⟨_, rfl, _, rfl, t, g, rfl, rfl, Sm.div h0 sg, _, rfl, x, A.Ratio, dx, _, rfl, hx, T.k_Ratio.cl, T.k_Ratio.n_top, (by show 0 < 1000; decide), ?_⟩
      refine ⟨_, rfl, _, rfl, b, g, rfl, rfl, Sm.div h0 sg, _, rfl, x, A.Ratio, dx, _, rfl, upd_same, T.k_Ratio.cl, T.k_Ratio.n_bottom, (by show 1 < 1000; decide), ?_⟩
      show Q .non _
      rw [upd_upd]
      exact q _ _ hn

/-! ### gaps and comparisons -/
/-- the number t / b: an int, or a Ratio of the class at C; b above 0 -/
def NumAt (C : Addr) (H : Hp) (v : V) (t b : Int) : Prop := (v = .int t ∧ b = 1) ∨ RatAt C H v t b
theorem NumAt.kind {C : Addr} {H : Hp} {v : V} {t b : Int} (n : NumAt C H v t b) : (∃ i, v = .int i) ∨ Ins H v C := by
  rcases n with ⟨h, _⟩ | h
  · exact .inl ⟨_, h⟩
  · exact .inr h.ins
def sp_gap (C : Addr) : Sp := fun vs H Q _ => ∃ x y t b t2 b2, vs = [x, y] ∧ RatAt C H x t b ∧ NumAt C H y t2 b2 ∧ Sm t ∧ Sm b ∧ Sm t2 ∧ Sm b2 ∧ Q (.int (t * b2 - t2 * b)) H
theorem ok__gap (T : Txt K mg A D) : FnOk P w K mg base CX0 1 A.f__gap D.f__gap ["one", "other"] (sp_gap A.Ratio) := by
  skip
  refine T.F__gap.ok sc__gap (fun vs H Q E h => ?_) (fun cdv A' outer s H vs Q E hr h => ?_)
  · obtain ⟨x, y, t, b, t2, b2, rfl, _⟩ := h
    rfl
  · obtain ⟨x, y, t, b, t2, b2, rfl, ⟨a, dx, rfl, ha⟩, hy, s1, s2, s3, s4, q⟩ := h
    refine ⟨_, (pss_cons (ps_if (pt_val (pe_callB call_isi rfl T.z_isinstance (by decide +kernel) (pa_cons (pv 1) (pa_cons (pe_glob (v := .ref A.Ratio) rfl T.g_Ratio rfl) pa_nil)))) (pss_one (ps_ret (pe_op op_sub (pe_op op_mulW (pe_fld (pv 0) rfl) (pe_fld (pv 1) rfl)) (pe_op op_mulW (pe_fld (pv 1) rfl) (pe_fld (pv 0) rfl))))) pss_nil)
  (pss_one (ps_ret (pe_op op_sub (pe_fld (pv 0) rfl) (pe_op op_mulW (pv 1) (pe_fld (pv 0) rfl)))))), ?_⟩
    have cl := T.k_Ratio.cl
    have nt := T.k_Ratio.n_top
    have nb := T.k_Ratio.n_bottom
    rcases hy with ⟨rfl, rfl⟩ | ⟨c, dy, rfl, hc⟩
    · refine ⟨_, rfl, .int t2, .ref A.Ratio, _, _, false, rfl, .own _, .base (.int t2), T.k_Ratio.ik, false, rfl, iteF ?_⟩
      refine ⟨_, rfl, a, A.Ratio, dx, _, _, rfl, ha, cl, nt, rfl, ?_⟩
      refine ⟨_, rfl, _, rfl, a, A.Ratio, dx, _, _, rfl, ha, cl, nb, rfl, _, _, rfl, rfl, Sm.mul s3 s2, _, _, rfl, rfl, ?_⟩
      rw [Int.mul_one] at q
      exact q
    · refine ⟨_, rfl, .ref c, .ref A.Ratio, _, _, true, rfl, .own _, T.k_Ratio.ty hc, kit_self, true, rfl, iteT ?_⟩
      refine ⟨_, rfl, a, A.Ratio, dx, _, _, rfl, ha, cl, nt, rfl, _, rfl, c, A.Ratio, dy, _, _, rfl, hc, cl, nb, rfl, _, _, rfl, rfl, Sm.mul s1 s4, ?_⟩
      exact ⟨_, rfl, c, A.Ratio, dy, _, _, rfl, hc, cl, nt, rfl, _, rfl, a, A.Ratio, dx, _, _, rfl, ha, cl, nb, rfl, _, _, rfl, rfl, Sm.mul s3 s2, _, _, rfl, rfl, q⟩

/-- a comparison: r says of the gap what is answered -/
def sp_cmp (C : Addr) (r : Int → Bool) : Sp := fun vs H Q _ => ∃ x y t b t2 b2, vs = [x, y] ∧ RatAt C H x t b ∧ NumAt C H y t2 b2 ∧ Sm t ∧ Sm b ∧ Sm t2 ∧ Sm b2 ∧ Q (.bl (r (t * b2 - t2 * b))) H
abbrev r_eq : Int → Bool := fun d => decide (d = 0)
abbrev r_ne : Int → Bool := fun d => !decide (d = 0)
abbrev r_lt : Int → Bool := fun d => decide (d < 0)
abbrev r_le : Int → Bool := fun d => decide (d ≤ 0)
abbrev r_gt : Int → Bool := fun d => decide (0 < d)
abbrev r_ge : Int → Bool := fun d => decide (0 ≤ d)
theorem ok_Ratio___lt__ (T : Txt K mg A D) : FnOk P w K mg base CX0 3 A.f_Ratio___lt__ D.f_Ratio___lt__ ["self", "other"] (sp_cmp A.Ratio r_lt) := by
  have G__gap : FnOk P w K mg base CX0 1 A.f__gap D.f__gap ["one", "other"] (sp_gap A.Ratio) := ok__gap T
  have G_is_number : FnOk P w K mg base CX0 2 A.f_is_number D.f_is_number ["x"] (sp_isnum K A.Ratio) := ok_is_number T
  refine T.F_Ratio___lt__.ok sc_Ratio___lt__ (fun vs H Q E h => ?_) (fun cdv A' outer s H vs Q E hr h => ?_)
  · obtain ⟨x, y, t, b, t2, b2, rfl, _⟩ := h
    rfl
  · obtain ⟨x, y, t, b, t2, b2, rfl, hx, hy, s1, s2, s3, s4, q⟩ := h
    refine ⟨_, (pss_cons (ps_if (pt_not (pt_val (pe_call G_is_number (hr.mono (by decide)) rfl T.g_is_number T.F_is_number.kp T.b_is_number .nil pass0 (pa_cons (pv 1) pa_nil)))) (pss_one ps_never) pss_nil)
  (pss_one (ps_ret (pe_cmpR op_lt (pe_call G__gap (hr.mono (by decide)) rfl T.g__gap T.F__gap.kp T.b__gap .nil pass0 (pa_cons (pv 0) (pa_cons (pv 1) pa_nil))) pe_int (nomark _))))), ?_⟩
    refine ⟨_, rfl, _, rfl, .inl ⟨hy.kind, true, rfl, iteF ?_⟩⟩
    exact ⟨_, rfl, _, rfl, _, _, _, _, _, _, rfl, hx, hy, s1, s2, s3, s4, _, _, rfl, rfl, q⟩
theorem ok_Ratio___gt__ (T : Txt K mg A D) : FnOk P w K mg base CX0 3 A.f_Ratio___gt__ D.f_Ratio___gt__ ["self", "other"] (sp_cmp A.Ratio r_gt) := by
  have G__gap : FnOk P w K mg base CX0 1 A.f__gap D.f__gap ["one", "other"] (sp_gap A.Ratio) := ok__gap T
  have G_is_number : FnOk P w K mg base CX0 2 A.f_is_number D.f_is_number ["x"] (sp_isnum K A.Ratio) := ok_is_number T
  refine T.F_Ratio___gt__.ok sc_Ratio___gt__ (fun vs H Q E h => ?_) (fun cdv A' outer s H vs Q E hr h => ?_)
  · obtain ⟨x, y, t, b, t2, b2, rfl, _⟩ := h
    rfl
  · obtain ⟨x, y, t, b, t2, b2, rfl, hx, hy, s1, s2, s3, s4, q⟩ := h
    refine ⟨_, (pss_cons (ps_if (pt_not (pt_val (pe_call G_is_number (hr.mono (by decide)) rfl T.g_is_number T.F_is_number.kp T.b_is_number .nil pass0 (pa_cons (pv 1) pa_nil)))) (pss_one ps_never) pss_nil)
  (pss_one (ps_ret (pe_cmpR op_gt (pe_call G__gap (hr.mono (by decide)) rfl T.g__gap T.F__gap.kp T.b__gap .nil pass0 (pa_cons (pv 0) (pa_cons (pv 1) pa_nil))) pe_int (nomark _))))), ?_⟩
    refine ⟨_, rfl, _, rfl, .inl ⟨hy.kind, true, rfl, iteF ?_⟩⟩
    exact ⟨_, rfl, _, rfl, _, _, _, _, _, _, rfl, hx, hy, s1, s2, s3, s4, _, _, rfl, rfl, q⟩
end

section
variable {P : Program} {w : World} {K : PySem.W.Frag} {mg : Str → Option Value} {base : Heap} {A : Ad} {D : Fd}
/-- a new Ratio on the heap -/
theorem made {C : Addr} {H : Hp} {x dx : Addr} (nx : H x = none) (nd : H dx = none) (ne : dx ≠ x) (t b : Int) :
    Same H (upd (upd (upd H dx (.own x)) x (.ins C dx [])) x (.ins C dx [("top", .int t), ("bottom", .int b)])) ∧
    RatAt C (upd (upd (upd H dx (.own x)) x (.ins C dx [])) x (.ins C dx [("top", .int t), ("bottom", .int b)])) (.ref x) t b := by
  refine ⟨?_, x, dx, rfl, upd_same⟩
  rw [upd_upd]
  exact same_upd' (same_upd nd) nx
theorem norm_sm {t b t' b' : Int} (n : Norm t b t' b') (h1 : Sm t) (h2 : Sm b) : Sm t' ∧ Sm b' := ⟨h1.le n.le1, h2.le n.le2⟩
/-- the sign of the gap stays in lowest terms -/
theorem gap_sign {t b t' b' u c u' c' : Int} (n : Norm t b t' b') (m : Norm u c u' c') (hb : 0 < b) (hc : 0 < c) :
    (t * c - u * b < 0 ↔ t' * c' - u' * b' < 0) ∧ (0 < t * c - u * b ↔ 0 < t' * c' - u' * b') := by
  obtain ⟨g, h1, h2, _⟩ := n.ex
  obtain ⟨k, k1, k2, _⟩ := m.ex
  have gp : 0 < g := by
    rw [h2] at hb
    exact Int.pos_of_mul_pos_left hb n.pos
  have kp : 0 < k := by
    rw [k2] at hc
    exact Int.pos_of_mul_pos_left hc m.pos
  have gk : 0 < g * k := Int.mul_pos gp kp
  have e : t * c - u * b = (g * k) * (t' * c' - u' * b') := by
    rw [h1, h2, k1, k2, Int.mul_sub]
    congr 1
    · rw [Int.mul_assoc, Int.mul_assoc, Int.mul_left_comm t' k c']
    · rw [Int.mul_assoc, Int.mul_comm g k, Int.mul_assoc k g, Int.mul_left_comm u' g b']
  rw [e]
  generalize t' * c' - u' * b' = d
  constructor
  · constructor
    · intro h
      by_cases hd : d < 0
      · exact hd
      · have := Int.mul_nonneg (Int.le_of_lt gk) (Int.not_lt.mp hd)
        omega
    · intro h
      exact Int.mul_neg_of_pos_of_neg gk h
  · constructor
    · intro h
      exact Int.pos_of_mul_pos_right h gk
    · intro h
      exact Int.mul_pos gk h
theorem norm_one (n : Int) : Norm n 1 n 1 := ⟨⟨1, by omega, by omega, by decide⟩, by decide, by simp⟩
theorem norm_is_one {n t' b' : Int} (h : Norm n 1 t' b') : t' = n ∧ b' = 1 := by
  obtain ⟨g, h1, h2, h3⟩ := h.ex
  have hb := h.pos
  have gp : 0 < g := by
    have : 0 < g * b' := by omega
    exact Int.pos_of_mul_pos_left this hb
  have g1 : g = 1 := by
    have : g ∣ 1 := ⟨b', h2⟩
    exact Int.eq_one_of_dvd_one (Int.le_of_lt gp) this
  subst g1
  omega
theorem fdiv_abs {a b : Int} (h : 0 < b) : (a.fdiv b).natAbs ≤ a.natAbs + 1 := by
  rw [Int.fdiv_eq_ediv_of_nonneg a (by omega)]
  have h1 := Int.emod_add_mul_ediv a b
  have h2 := Int.emod_nonneg a (by omega : b ≠ 0)
  have h3 := Int.emod_lt_of_pos a h
  generalize a / b = q at *
  generalize a % b = r at *
  rcases Int.lt_or_le q 0 with hq | hq
  · have : b * (q + 1) ≤ q + 1 := by
      have : b * (q + 1) ≤ 1 * (q + 1) := Int.mul_le_mul_of_nonpos_right (by omega) (by omega)
      omega
    have : b * (q + 1) = b * q + b := by rw [Int.mul_add, Int.mul_one]
    omega
  · have : q ≤ b * q := by
      have : 1 * q ≤ b * q := Int.mul_le_mul_of_nonneg_right (by omega) hq
      omega
    omega

/-- what the law draws: a top below 2 ^ 140 in size, a bottom from 1 to 2 ^ 140 -/
structure Drawn (x y : Int) : Prop where
  top : x.natAbs < 2 ^ 140
  pos : 0 < y
  bot : y.natAbs < 2 ^ 140
theorem Drawn.s1 {x y : Int} (d : Drawn x y) : Sm x := .of d.top (by decide)
theorem Drawn.s2 {x y : Int} (d : Drawn x y) : Sm y := .of d.bot (by decide)

end

section
variable {P : Program} {w : World} {K : PySem.W.Frag} {mg : Str → Option Value} {base : Heap} {A : Ad} {D : Fd}
/-! ### sums, differences, products -/
theorem so : Sm 1 := .ab (by decide) (by decide)
def sp_ratio_of (C : Addr) : Sp := fun vs H Q _ => ∃ x t b, vs = [x] ∧ NumAt C H x t b ∧ ∀ H' v, Same H H' → RatAt C H' v t b → Q v H'
theorem ok_ratio_of (T : Txt K mg A D) : FnOk P w K mg base CX0 4 A.f_ratio_of D.f_ratio_of ["number"] (sp_ratio_of A.Ratio) := by
  have G_Ratio_init : FnOk P w K mg base CX0 2 A.f_Ratio___init__ D.f_Ratio___init__ ["self", "top", "bottom"] (sp_init A.Ratio) := ok_Ratio___init__ T
  obtain ⟨ds1, d_Ratio_init1, b_Ratio_init1⟩ := T.b1_Ratio___init__
  refine T.F_ratio_of.ok sc_ratio_of (fun vs H Q E h => ?_) (fun cdv A' outer s H vs Q E hr h => ?_)
  · obtain ⟨x, t, b, rfl, _⟩ := h
    rfl
  · obtain ⟨x, t, b, rfl, hx, q⟩ := h
    refine ⟨_, (pss_cons (ps_if (pt_val (pe_callB call_isi rfl T.z_isinstance (by decide +kernel) (pa_cons (pv 0) (pa_cons (pe_glob (v := .ref A.Ratio) rfl T.g_Ratio rfl) pa_nil)))) (pss_one (ps_ret (pv 0))) pss_nil)
  (pss_one (ps_ret (pe_make T.M_Ratio G_Ratio_init (hr.mono (by decide)) rfl T.g_Ratio b_Ratio_init1 d_Ratio_init1 pass0 (pa_cons (pv 0) pa_nil))))), ?_⟩
    rcases hx with ⟨rfl, rfl⟩ | ⟨c, dy, rfl, hc⟩
    · refine ⟨_, rfl, .int t, .ref A.Ratio, _, _, false, rfl, .own _, .base (.int t), T.k_Ratio.ik, false, rfl, iteF ?_⟩
      refine ⟨_, rfl, fun x dx nx nd ne => ⟨x, dx, t, 1, rfl, upd_same, by decide, so, fun t' b' nm => ⟨rfl, ?_⟩⟩⟩
      obtain ⟨e4, e5⟩ := norm_is_one nm
      subst e4 e5
      obtain ⟨sd, rd⟩ := made (C := A.Ratio) nx nd ne t' 1
      exact q _ _ sd rd
    · refine ⟨_, rfl, .ref c, .ref A.Ratio, _, _, true, rfl, .own _, T.k_Ratio.ty hc, kit_self, true, rfl, iteT ?_⟩
      exact ⟨_, rfl, q _ _ (Same.refl H) ⟨c, dy, rfl, hc⟩⟩
abbrev f_sum : Int → Int → Int → Int → Int := fun t b t2 b2 => t * b2 + t2 * b
abbrev f_dif : Int → Int → Int → Int → Int := fun t b t2 b2 => t * b2 - t2 * b
abbrev f_pro : Int → Int → Int → Int → Int := fun t b t2 b2 => t * t2
/-- what is asked of two numbers that are put together -/
structure Fit (t b t2 b2 : Int) : Prop where
  s1 : Sm t
  s2 : Sm b
  s3 : Sm t2
  s4 : Sm b2
  n2 : b ≠ 0
  n4 : b2 ≠ 0
  sb : Sm (b * b2)
theorem Fit.swap {t b t2 b2 : Int} (h : Fit t b t2 b2) : Fit t2 b2 t b := ⟨h.s3, h.s4, h.s1, h.s2, h.n4, h.n2, by rw [Int.mul_comm]; exact h.sb⟩
theorem Fit.nb {t b t2 b2 : Int} (h : Fit t b t2 b2) : b * b2 ≠ 0 := fun z => by
  rcases Int.mul_eq_zero.mp z with e | e
  · exact h.n2 e
  · exact h.n4 e
/-- two Ratios in, a Ratio out -/
def sp_put (C : Addr) (f : Int → Int → Int → Int → Int) : Sp := fun vs H Q _ => ∃ x y t b t2 b2, vs = [x, y] ∧ RatAt C H x t b ∧ RatAt C H y t2 b2 ∧ Fit t b t2 b2 ∧ ∀ H' v t' b', Same H H' → RatAt C H' v t' b' → Norm (f t b t2 b2) (b * b2) t' b' → Q v H'
theorem ok__sum (T : Txt K mg A D) : FnOk P w K mg base CX0 4 A.f__sum D.f__sum ["one", "other"] (sp_put A.Ratio f_sum) := by
  have G_Ratio_init : FnOk P w K mg base CX0 2 A.f_Ratio___init__ D.f_Ratio___init__ ["self", "top", "bottom"] (sp_init A.Ratio) := ok_Ratio___init__ T
  have b_Ratio_init2 := T.b_Ratio___init__
  have d_Ratio_init2 : Vals [] [] := .nil
  refine T.F__sum.ok sc__sum (fun vs H Q E h => ?_) (fun cdv A' outer s H vs Q E hr h => ?_)
  · obtain ⟨x, y, t, b, t2, b2, rfl, _⟩ := h
    rfl
  · obtain ⟨x, y, t, b, t2, b2, rfl, ⟨a, dx, rfl, ha⟩, ⟨c, dy, rfl, hc⟩, ft, q⟩ := h
    refine ⟨_, (pss_one (ps_ret (pe_make T.M_Ratio G_Ratio_init (hr.mono (by decide)) rfl T.g_Ratio b_Ratio_init2 d_Ratio_init2 pass0 (pa_cons (pe_op op_add (pe_op op_mulW (pe_fld (pv 0) rfl) (pe_fld (pv 1) rfl)) (pe_op op_mulW (pe_fld (pv 1) rfl) (pe_fld (pv 0) rfl))) (pa_cons (pe_op op_mulW (pe_fld (pv 0) rfl) (pe_fld (pv 1) rfl)) pa_nil))))), ?_⟩
    have cl := T.k_Ratio.cl
    have nt := T.k_Ratio.n_top
    have nb := T.k_Ratio.n_bottom
    refine ⟨_, rfl, a, A.Ratio, dx, _, _, rfl, ha, cl, nt, rfl, _, rfl, c, A.Ratio, dy, _, _, rfl, hc, cl, nb, rfl, _, _, rfl, rfl, ft.s1.mul ft.s4, ?_⟩
    refine ⟨_, rfl, c, A.Ratio, dy, _, _, rfl, hc, cl, nt, rfl, _, rfl, a, A.Ratio, dx, _, _, rfl, ha, cl, nb, rfl, _, _, rfl, rfl, ft.s3.mul ft.s2, _, _, rfl, rfl, ?_⟩
    refine ⟨_, rfl, a, A.Ratio, dx, _, _, rfl, ha, cl, nb, rfl, _, rfl, c, A.Ratio, dy, _, _, rfl, hc, cl, nb, rfl, _, _, rfl, rfl, ft.s2.mul ft.s4, ?_⟩
    refine fun x dx nx nd ne => ⟨x, dx, _, _, rfl, upd_same, ft.nb, ft.sb, fun t' b' nm => ⟨rfl, ?_⟩⟩
    obtain ⟨sd, rd⟩ := made (C := A.Ratio) nx nd ne t' b'
    exact q _ _ _ _ sd rd nm
theorem ok__difference (T : Txt K mg A D) : FnOk P w K mg base CX0 4 A.f__difference D.f__difference ["one", "other"] (sp_put A.Ratio f_dif) := by
  have G_Ratio_init : FnOk P w K mg base CX0 2 A.f_Ratio___init__ D.f_Ratio___init__ ["self", "top", "bottom"] (sp_init A.Ratio) := ok_Ratio___init__ T
  have b_Ratio_init2 := T.b_Ratio___init__
  have d_Ratio_init2 : Vals [] [] := .nil
  refine T.F__difference.ok sc__difference (fun vs H Q E h => ?_) (fun cdv A' outer s H vs Q E hr h => ?_)
  · obtain ⟨x, y, t, b, t2, b2, rfl, _⟩ := h
    rfl
  · obtain ⟨x, y, t, b, t2, b2, rfl, ⟨a, dx, rfl, ha⟩, ⟨c, dy, rfl, hc⟩, ft, q⟩ := h
    refine ⟨_, (pss_one (ps_ret (pe_make T.M_Ratio G_Ratio_init (hr.mono (by decide)) rfl T.g_Ratio b_Ratio_init2 d_Ratio_init2 pass0 (pa_cons (pe_op op_sub (pe_op op_mulW (pe_fld (pv 0) rfl) (pe_fld (pv 1) rfl)) (pe_op op_mulW (pe_fld (pv 1) rfl) (pe_fld (pv 0) rfl))) (pa_cons (pe_op op_mulW (pe_fld (pv 0) rfl) (pe_fld (pv 1) rfl)) pa_nil))))), ?_⟩
    have cl := T.k_Ratio.cl
    have nt := T.k_Ratio.n_top
    have nb := T.k_Ratio.n_bottom
    refine ⟨_, rfl, a, A.Ratio, dx, _, _, rfl, ha, cl, nt, rfl, _, rfl, c, A.Ratio, dy, _, _, rfl, hc, cl, nb, rfl, _, _, rfl, rfl, ft.s1.mul ft.s4, ?_⟩
    refine ⟨_, rfl, c, A.Ratio, dy, _, _, rfl, hc, cl, nt, rfl, _, rfl, a, A.Ratio, dx, _, _, rfl, ha, cl, nb, rfl, _, _, rfl, rfl, ft.s3.mul ft.s2, _, _, rfl, rfl, ?_⟩
    refine ⟨_, rfl, a, A.Ratio, dx, _, _, rfl, ha, cl, nb, rfl, _, rfl, c, A.Ratio, dy, _, _, rfl, hc, cl, nb, rfl, _, _, rfl, rfl, ft.s2.mul ft.s4, ?_⟩
    refine fun x dx nx nd ne => ⟨x, dx, _, _, rfl, upd_same, ft.nb, ft.sb, fun t' b' nm => ⟨rfl, ?_⟩⟩
    obtain ⟨sd, rd⟩ := made (C := A.Ratio) nx nd ne t' b'
    exact q _ _ _ _ sd rd nm
theorem ok__product (T : Txt K mg A D) : FnOk P w K mg base CX0 4 A.f__product D.f__product ["one", "other"] (sp_put A.Ratio f_pro) := by
  have G_Ratio_init : FnOk P w K mg base CX0 2 A.f_Ratio___init__ D.f_Ratio___init__ ["self", "top", "bottom"] (sp_init A.Ratio) := ok_Ratio___init__ T
  have b_Ratio_init2 := T.b_Ratio___init__
  have d_Ratio_init2 : Vals [] [] := .nil
  refine T.F__product.ok sc__product (fun vs H Q E h => ?_) (fun cdv A' outer s H vs Q E hr h => ?_)
  · obtain ⟨x, y, t, b, t2, b2, rfl, _⟩ := h
    rfl
  · obtain ⟨x, y, t, b, t2, b2, rfl, ⟨a, dx, rfl, ha⟩, ⟨c, dy, rfl, hc⟩, ft, q⟩ := h
    refine ⟨_, (pss_one (ps_ret (pe_make T.M_Ratio G_Ratio_init (hr.mono (by decide)) rfl T.g_Ratio b_Ratio_init2 d_Ratio_init2 pass0 (pa_cons (pe_op op_mulW (pe_fld (pv 0) rfl) (pe_fld (pv 1) rfl)) (pa_cons (pe_op op_mulW (pe_fld (pv 0) rfl) (pe_fld (pv 1) rfl)) pa_nil))))), ?_⟩
    have cl := T.k_Ratio.cl
    have nt := T.k_Ratio.n_top
    have nb := T.k_Ratio.n_bottom
    refine ⟨_, rfl, a, A.Ratio, dx, _, _, rfl, ha, cl, nt, rfl, _, rfl, c, A.Ratio, dy, _, _, rfl, hc, cl, nt, rfl, _, _, rfl, rfl, ft.s1.mul ft.s3, ?_⟩
    refine ⟨_, rfl, a, A.Ratio, dx, _, _, rfl, ha, cl, nb, rfl, _, rfl, c, A.Ratio, dy, _, _, rfl, hc, cl, nb, rfl, _, _, rfl, rfl, ft.s2.mul ft.s4, ?_⟩
    refine fun x dx nx nd ne => ⟨x, dx, _, _, rfl, upd_same, ft.nb, ft.sb, fun t' b' nm => ⟨rfl, ?_⟩⟩
    obtain ⟨sd, rd⟩ := made (C := A.Ratio) nx nd ne t' b'
    exact q _ _ _ _ sd rd nm
/-- a Ratio and a number in, a Ratio out -/
def sp_bin (C : Addr) (f : Int → Int → Int → Int → Int) : Sp := fun vs H Q _ => ∃ x y t b t2 b2, vs = [x, y] ∧ RatAt C H x t b ∧ NumAt C H y t2 b2 ∧ Fit t b t2 b2 ∧ ∀ H' v t' b', Same H H' → RatAt C H' v t' b' → Norm (f t b t2 b2) (b * b2) t' b' → Q v H'
/-- the same, the number on the left -/
def sp_rbin (C : Addr) (f : Int → Int → Int → Int → Int) : Sp := fun vs H Q _ => ∃ x y t b t2 b2, vs = [x, y] ∧ RatAt C H x t b ∧ NumAt C H y t2 b2 ∧ Fit t b t2 b2 ∧ ∀ H' v t' b', Same H H' → RatAt C H' v t' b' → Norm (f t2 b2 t b) (b2 * b) t' b' → Q v H'
theorem ok_Ratio___add__ (T : Txt K mg A D) : FnOk P w K mg base CX0 5 A.f_Ratio___add__ D.f_Ratio___add__ ["self", "other"] (sp_bin A.Ratio f_sum) := by
  have G__sum : FnOk P w K mg base CX0 4 A.f__sum D.f__sum ["one", "other"] (sp_put A.Ratio f_sum) := ok__sum T
  have G_is_number : FnOk P w K mg base CX0 2 A.f_is_number D.f_is_number ["x"] (sp_isnum K A.Ratio) := ok_is_number T
  have G_ratio_of : FnOk P w K mg base CX0 4 A.f_ratio_of D.f_ratio_of ["number"] (sp_ratio_of A.Ratio) := ok_ratio_of T
  refine T.F_Ratio___add__.ok sc_Ratio___add__ (fun vs H Q E h => ?_) (fun cdv A' outer s H vs Q E hr h => ?_)
  · obtain ⟨x, y, t, b, t2, b2, rfl, _⟩ := h
    rfl
  · obtain ⟨x, y, t, b, t2, b2, rfl, hx, hy, ft, q⟩ := h
    refine ⟨_, (pss_cons (ps_if (pt_not (pt_val (pe_call G_is_number (hr.mono (by decide)) rfl T.g_is_number T.F_is_number.kp T.b_is_number .nil pass0 (pa_cons (pv 1) pa_nil)))) (pss_one ps_never) pss_nil)
  (pss_one (ps_ret (pe_call G__sum (hr.mono (by decide)) rfl T.g__sum T.F__sum.kp T.b__sum .nil pass0 (pa_cons (pv 0) (pa_cons (pe_call G_ratio_of (hr.mono (by decide)) rfl T.g_ratio_of T.F_ratio_of.kp T.b_ratio_of .nil pass0 (pa_cons (pv 1) pa_nil)) pa_nil)))))), ?_⟩
    refine ⟨_, rfl, _, rfl, .inl ⟨hy.kind, true, rfl, iteF ?_⟩⟩
    exact ⟨_, rfl, _, rfl, _, _, _, rfl, hy, fun H1 v s1 r1 => ⟨_, _, _, _, _, _, rfl, hx.same s1, r1, ft, fun H' u t' b' s2 r2 nm => q _ _ _ _ (s1.trans s2) r2 nm⟩⟩
theorem ok_Ratio___mul__ (T : Txt K mg A D) : FnOk P w K mg base CX0 5 A.f_Ratio___mul__ D.f_Ratio___mul__ ["self", "other"] (sp_bin A.Ratio f_pro) := by
  have G__product : FnOk P w K mg base CX0 4 A.f__product D.f__product ["one", "other"] (sp_put A.Ratio f_pro) := ok__product T
  have G_is_number : FnOk P w K mg base CX0 2 A.f_is_number D.f_is_number ["x"] (sp_isnum K A.Ratio) := ok_is_number T
  have G_ratio_of : FnOk P w K mg base CX0 4 A.f_ratio_of D.f_ratio_of ["number"] (sp_ratio_of A.Ratio) := ok_ratio_of T
  refine T.F_Ratio___mul__.ok sc_Ratio___mul__ (fun vs H Q E h => ?_) (fun cdv A' outer s H vs Q E hr h => ?_)
  · obtain ⟨x, y, t, b, t2, b2, rfl, _⟩ := h
    rfl
  · obtain ⟨x, y, t, b, t2, b2, rfl, hx, hy, ft, q⟩ := h
    refine ⟨_, (pss_cons (ps_if (pt_not (pt_val (pe_call G_is_number (hr.mono (by decide)) rfl T.g_is_number T.F_is_number.kp T.b_is_number .nil pass0 (pa_cons (pv 1) pa_nil)))) (pss_one ps_never) pss_nil)
  (pss_one (ps_ret (pe_call G__product (hr.mono (by decide)) rfl T.g__product T.F__product.kp T.b__product .nil pass0 (pa_cons (pv 0) (pa_cons (pe_call G_ratio_of (hr.mono (by decide)) rfl T.g_ratio_of T.F_ratio_of.kp T.b_ratio_of .nil pass0 (pa_cons (pv 1) pa_nil)) pa_nil)))))), ?_⟩
    refine ⟨_, rfl, _, rfl, .inl ⟨hy.kind, true, rfl, iteF ?_⟩⟩
    exact ⟨_, rfl, _, rfl, _, _, _, rfl, hy, fun H1 v s1 r1 => ⟨_, _, _, _, _, _, rfl, hx.same s1, r1, ft, fun H' u t' b' s2 r2 nm => q _ _ _ _ (s1.trans s2) r2 nm⟩⟩
theorem ok_Ratio___rsub__ (T : Txt K mg A D) : FnOk P w K mg base CX0 5 A.f_Ratio___rsub__ D.f_Ratio___rsub__ ["self", "other"] (sp_rbin A.Ratio f_dif) := by
  have G__difference : FnOk P w K mg base CX0 4 A.f__difference D.f__difference ["one", "other"] (sp_put A.Ratio f_dif) := ok__difference T
  have G_is_number : FnOk P w K mg base CX0 2 A.f_is_number D.f_is_number ["x"] (sp_isnum K A.Ratio) := ok_is_number T
  have G_ratio_of : FnOk P w K mg base CX0 4 A.f_ratio_of D.f_ratio_of ["number"] (sp_ratio_of A.Ratio) := ok_ratio_of T
  refine T.F_Ratio___rsub__.ok sc_Ratio___rsub__ (fun vs H Q E h => ?_) (fun cdv A' outer s H vs Q E hr h => ?_)
  · obtain ⟨x, y, t, b, t2, b2, rfl, _⟩ := h
    rfl
  · obtain ⟨x, y, t, b, t2, b2, rfl, hx, hy, ft, q⟩ := h
    refine ⟨_, (pss_cons (ps_if (pt_not (pt_val (pe_call G_is_number (hr.mono (by decide)) rfl T.g_is_number T.F_is_number.kp T.b_is_number .nil pass0 (pa_cons (pv 1) pa_nil)))) (pss_one ps_never) pss_nil)
  (pss_one (ps_ret (pe_call G__difference (hr.mono (by decide)) rfl T.g__difference T.F__difference.kp T.b__difference .nil pass0 (pa_cons (pe_call G_ratio_of (hr.mono (by decide)) rfl T.g_ratio_of T.F_ratio_of.kp T.b_ratio_of .nil pass0 (pa_cons (pv 1) pa_nil)) (pa_cons (pv 0) pa_nil)))))), ?_⟩
    refine ⟨_, rfl, _, rfl, .inl ⟨hy.kind, true, rfl, iteF ?_⟩⟩
    exact ⟨_, rfl, _, _, _, rfl, hy, fun H1 v s1 r1 => ⟨_, rfl, _, _, _, _, _, _, rfl, r1, hx.same s1, ft.swap, fun H' u t' b' s2 r2 nm => q _ _ _ _ (s1.trans s2) r2 nm⟩⟩
end

end Mo

namespace Mo
open PySem PySem.Spec PyProof.Rows L2 MoL MoW
open C8 (pss_cut tCut)
section
variable {P : Program} {w : World} {K : PySem.W.Frag} {mg : Str → Option Value} {base : Heap} {A : Ad} {D : Fd}
theorem nmul {i j : Int} {m n : Nat} (a : i.natAbs < 2 ^ m) (b : j.natAbs < 2 ^ n) : (i * j).natAbs < 2 ^ (m + n) := by
  rw [Int.natAbs_mul, Nat.pow_add]
  exact Nat.mul_lt_mul'' a b
theorem nadd {i j : Int} {n : Nat} (a : i.natAbs < 2 ^ n) (b : j.natAbs < 2 ^ n) : (i + j).natAbs < 2 ^ (n + 1) := by
  rw [Nat.pow_succ]
  omega
theorem nle {i : Int} {m n : Nat} (a : i.natAbs < 2 ^ m) (h : m ≤ n) : i.natAbs < 2 ^ n := Nat.lt_of_lt_of_le a (Nat.pow_le_pow_right (by decide) h)
theorem sm_of {i : Int} {n : Nat} (h : i.natAbs < 2 ^ n) (hn : n ≤ 4000) : Sm i := Sm.of h hn
/-- the Ratio v is p / q; its top is below 2 ^ n, its bottom below 2 ^ m -/
def IsF (C : Addr) (n m : Nat) (H : Hp) (v : V) (p q : Int) : Prop := ∃ t b, RatAt C H v t b ∧ 0 < b ∧ 0 < q ∧ t * q = p * b ∧ t.natAbs < 2 ^ n ∧ b.natAbs < 2 ^ m
section
variable {C : Addr} {n m n' m' : Nat} {H H' : Hp} {v : V} {p q : Int}
theorem IsF.same (r : IsF C n m H v p q) (s : Same H H') : IsF C n m H' v p q := by
  obtain ⟨t, b, h, r⟩ := r
  exact ⟨t, b, h.same s, r⟩
theorem IsF.ins (r : IsF C n m H v p q) : Ins H v C := by
  obtain ⟨t, b, h, r⟩ := r
  exact h.ins
theorem IsF.mono (r : IsF C n m H v p q) (h : n ≤ n') (h2 : m ≤ m') : IsF C n' m' H v p q := by
  obtain ⟨t, b, r, h1, h3, h4, h5, h6⟩ := r
  exact ⟨t, b, r, h1, h3, h4, nle h5 h, nle h6 h2⟩
theorem IsF.to {p' q' : Int} (r : IsF C n m H v p q) (h : 0 < q') (e : p * q' = p' * q) : IsF C n m H v p' q' := by
  obtain ⟨t, b, r, h1, h2, h3, h4, h5⟩ := r
  refine ⟨t, b, r, h1, h, ?_, h4, h5⟩
  refine Int.eq_of_mul_eq_mul_right (show q ≠ 0 by omega) ?_
  grind
end
theorem ty_same {H H' : Hp} {x : V} {t : Value} (s : Same H H') (h : TyX K H x t) : TyX K H' x t := by
  cases h with
  | base b =>
    refine .base ?_
    cases b with
    | non => exact .non
    | bl y => exact .bl y
    | int i => exact .int i
    | str y => exact .str y
    | flt y => exact .flt y
    | lst e => exact .lst (s _ _ e)
    | frz e => exact .frz (s _ _ e)
    | tup e => exact .tup (s _ _ e)
    | dK e => exact .dK (s _ _ e)
    | dT e => exact .dT (s _ _ e)
    | ins e a b c d f => exact .ins (s _ _ e) a b c d f
  | byt b => exact .byt b
  | set e => exact .set (s _ _ e)
  | kList e c => exact .kList e c
  | kTuple e c => exact .kTuple e c
  | kDict e c => exact .kDict e c
  | fTuple e => exact .fTuple (s _ _ e)
  | fDict e => exact .fDict (s _ _ e)
theorem WholeV.same {H H' : Hp} {x : V} {b : Bool} (h : WholeV K H x b) (s : Same H H') : WholeV K H' x b := by
  obtain ⟨t, b1, b2, ty, r⟩ := h
  exact ⟨t, b1, b2, ty_same s ty, r⟩
theorem NoNum.same {C : Addr} {H H' : Hp} {x : V} (h : NoNum K C H x) (s : Same H H') : NoNum K C H' x := by
  obtain ⟨t, ty, e, w⟩ := h
  exact ⟨t, ty_same s ty, e, w.same s⟩
/-- a list or a tuple of these things -/
def SeqAt' (H : Hp) (v : V) (xs : List V) : Prop := ∃ a, v = .ref a ∧ (H a = some (.lst xs) ∨ H a = some (.tup xs))
/-- these things are Ratios with the values f 0, f 1, .. -/
def Rats (C : Addr) (n m : Nat) (H : Hp) (xs : List V) (f : Nat → Int × Int) : Prop := ∀ k x, xs[k]? = some x → IsF C n m H x (f k).1 (f k).2
theorem Rats.same {C : Addr} {n m : Nat} {H H' : Hp} {xs : List V} {f : Nat → Int × Int} (h : Rats C n m H xs f) (s : Same H H') : Rats C n m H' xs f := fun k x e => (h k x e).same s
/-! ### a row's numbers -/
theorem kit_seq {K : PySem.W.Frag} {H : Hp} {a : Addr} {xs : List V} (h : H a = some (.lst xs) ∨ H a = some (.tup xs)) : ∃ t, TyX K H (.ref a) t ∧ PySem.W.kitAny K t [.type "list", .type "tuple"] = some true := by
  rcases h with h | h
  · exact ⟨_, .base (.lst h), kitAny_cons (b := true) (kit_ty (by decide +kernel)) (fun z => nomatch z) fun _ => rfl⟩
  · exact ⟨_, .base (.tup h), kitAny_cons (b := false) (kit_ty (by decide +kernel)) (fun _ => kitAny_cons (b := true) (kit_ty (by decide +kernel)) (fun z => nomatch z) fun _ => rfl) (fun z => nomatch z)⟩
theorem RatAt.put {C : Addr} {H : Hp} {v : V} {t b : Int} {d : Addr} {ys : List V} {o : HO} (r : RatAt C H v t b) (hd : H d = some (.lst ys)) : RatAt C (upd H d o) v t b := by
  obtain ⟨a, dx, e, h⟩ := r
  refine ⟨a, dx, e, ?_⟩
  rw [upd_ne fun z => by rw [z, hd] at h; cases h]
  exact h
theorem IsF.put {C : Addr} {n m : Nat} {H : Hp} {v : V} {p q : Int} {d : Addr} {ys : List V} {o : HO} (r : IsF C n m H v p q) (hd : H d = some (.lst ys)) : IsF C n m (upd H d o) v p q := by
  obtain ⟨t, b, r, k⟩ := r
  exact ⟨t, b, RatAt.put r hd, k⟩
theorem Rats.nil {C : Addr} {n m : Nat} {H : Hp} {f : Nat → Int × Int} : Rats C n m H [] f := fun k x h => by simp at h
theorem Rats.push {C : Addr} {n m : Nat} {H : Hp} {d : Addr} {ys : List V} {f : Nat → Int × Int} {y : V} {o : HO} (r : Rats C n m H ys f) (hd : H d = some (.lst ys)) (hy : IsF C n m H y (f ys.length).1 (f ys.length).2) : Rats C n m (upd H d o) (ys ++ [y]) f := fun k x h => by
  rcases Nat.lt_trichotomy k ys.length with e | e | e
  · rw [List.getElem?_append_left e] at h
    exact (r k x h).put hd
  · subst e
    rw [List.getElem?_append_right (Nat.le_refl _), Nat.sub_self] at h
    cases h
    exact hy.put hd
  · rw [List.getElem?_append_right (Nat.le_of_lt e)] at h
    have : k - ys.length ≠ 0 := by omega
    obtain ⟨j, hj⟩ : ∃ j, k - ys.length = j + 1 := ⟨k - ys.length - 1, by omega⟩
    rw [hj] at h
    simp at h
/-- a list that grows, the rest of the heap stays -/
theorem same_push {H1 H : Hp} {d : Addr} {o : HO} (s : Same H1 H) (hd : H1 d = none) : Same H1 (upd H d o) := fun b u h => by
  rw [upd_ne (ne_of_none h hd)]
  exact s _ _ h
def sp_rown (C : Addr) : Sp := fun vs H Q _ => ∃ v xs f n m, vs = [v] ∧ SeqAt' H v xs ∧ Rats C n m H xs f ∧ 0 < xs.length ∧ xs.length ≤ 13 ∧
  ∀ H' d ys, Same H H' → H' d = some (.lst ys) → ys.length = xs.length → Rats C n m H' ys f → Q (.ref d) H'
theorem ok_row_numbers (T : Txt K mg A D) : FnOk P w K mg base CX0 6 A.f_row_numbers D.f_row_numbers ["row"] (sp_rown A.Ratio) := by
  obtain ⟨tok_MOST_NUMBERS, gc_MOST_NUMBERS⟩ := T.g_MOST_NUMBERS
  have G_is_number : FnOk P w K mg base CX0 2 A.f_is_number D.f_is_number ["x"] (sp_isnum K A.Ratio) := ok_is_number T
  have G_ratio_of : FnOk P w K mg base CX0 4 A.f_ratio_of D.f_ratio_of ["number"] (sp_ratio_of A.Ratio) := ok_ratio_of T
  refine T.F_row_numbers.ok sc_row_numbers (fun vs H Q E h => ?_) (fun cdv A' outer s H vs Q E hr h => ?_)
  · obtain ⟨v, xs, f, n, m, rfl, _⟩ := h
    rfl
  · obtain ⟨v, xs, f, n, m, rfl, ⟨a, rfl, ha⟩, rr, l0, l1, q⟩ := h
    refine ⟨_, (pss_cons (ps_if (PW.pt (pw_or (pt_not (pt_val (pe_callB call_isiT rfl T.z_isinstance (by decide +kernel) (pa_cons (pv 0) (pa_cons (pe_tup (pa_cons (pe_bltn (v := .ty "list") rfl T.z_list (by decide +kernel) rfl) (pa_cons (pe_bltn (v := .ty "tuple") rfl T.z_tuple (by decide +kernel) rfl) pa_nil))) pa_nil))))) (pw_or (pt_cmpR op_eq (pe_callB call_len_seq rfl T.z_len (by decide +kernel) (pa_cons (pv 0) pa_nil)) pe_int (nomark _)) (pw_or1 (pt_cmpR op_gt (pe_callB call_len_seq rfl T.z_len (by decide +kernel) (pa_cons (pv 0) pa_nil)) (pe_glob (v := .int 13) rfl gc_MOST_NUMBERS ⟨_, rfl⟩) (nomark _)))))) (pss_one ps_never) pss_nil)
  (pss_cons (ps_for PassesOwn.never rfl (pi_range1 rfl T.z_range (pa_cons (pe_callB call_len_seq rfl T.z_len (by decide +kernel) (pa_cons (pv 0) pa_nil)) pa_nil)) (pg_name (i := 1) sc_row_numbers.nd rfl (.inl rfl)) (pss_one (ps_if (pt_not (pt_val (pe_call G_is_number (hr.mono (by decide)) rfl T.g_is_number T.F_is_number.kp T.b_is_number .nil pass0 (pa_cons (pe_ix (ix_list.or ix_tup) (pv 0) (pv 1) (fun _ _ => rfl)) pa_nil)))) (pss_one ps_never) pss_nil)))
  (pss_one (ps_ret (pe_lc (own := [("number", 2)]) (g := gName 2) (tt := tYes) rfl sc_row_numbers.nd (pi_or (pi_list (pv 0)) (pi_tup (pv 0))) (blkOk_by (N := N_row_numbers) (sc := defScope s_row_numbers) (by decide +kernel)) (fun _ _ _ _ _ => (pg_name (i := 2) sc_row_numbers.nd rfl (.inl rfl))) (fun _ _ _ _ _ => pts_nil) (fun _ _ _ _ _ => (pe_call G_ratio_of (hr.mono (by decide)) rfl T.g_ratio_of T.F_ratio_of.kp T.b_ratio_of .nil pass0 (pa_cons (pv 2) pa_nil)))))))), ?_⟩
    refine ⟨_, rfl, by show 2 ≤ sizeLine; decide, fun tp nt => ?_⟩
    have s1 : Same H (upd H tp (.tup [.ty "list", .ty "tuple"])) := same_upd nt
    have ha1 := ha.imp (s1 a _) (s1 a _)
    obtain ⟨t, ty, ka⟩ := kit_seq (K := K) ha1
    refine ⟨.ref a, tp, _, t, _, true, rfl, upd_same, .cons (.ty _) (.cons (.ty _) .nil), ty, ka, true, rfl, iteF ?_⟩
    have rr1 := rr.same s1
    clear ty ka rr
    generalize upd H tp (.tup [.ty "list", .ty "tuple"]) = H1 at s1 ha1 rr1
    have sq : SqL K H1 a xs ∨ SqT K H1 a xs := ha1.imp SqL.of SqT.of
    refine ⟨_, rfl, a, xs, rfl, sq, rfl, _, rfl, iteFe (decide_eq_false fun z => by have := V.int.inj z; omega) ?_⟩
    refine ⟨_, rfl, a, xs, rfl, sq, _, _, rfl, rfl, _, rfl, iteFe (decide_eq_false (by omega)) ?_⟩
    refine ⟨_, rfl, a, xs, rfl, sq, _, rfl, by omega, by omega, ?_⟩
    refine for_range (lo := 0) (fun i σ H' => H' = H1 ∧ ∃ y : Option V, σ = [some (.ref a), y, none]) ⟨rfl, _, rfl⟩ ?_ ?_
    · rintro i σ H' hi ⟨rfl, y, rfl⟩
      have hl : i < xs.length := by omega
      have hx := List.getElem?_eq_getElem hl
      have hat : atI xs (0 + (i : Int)) = some xs[i] := by rw [Int.zero_add]; exact atI_nat hx
      have hk := (rr1 i _ hx).ins
      rcases ha1 with h | h
      · exact ⟨_, rfl, _, rfl, .inl ⟨a, xs, _, _, rfl, rfl, .of h, hat, _, rfl, .inl ⟨.inr hk, true, rfl, iteF ⟨rfl, _, rfl⟩⟩⟩⟩
      · exact ⟨_, rfl, _, rfl, .inr ⟨a, xs, _, _, rfl, rfl, .of h, hat, _, rfl, .inl ⟨.inr hk, true, rfl, iteF ⟨rfl, _, rfl⟩⟩⟩⟩
    · rintro σ H' ⟨rfl, y, rfl⟩
      have turn : ∀ {G : Hp} {d : Addr} {ys : List V} {j : Nat} {x v : V} {t b : Int} {G2 : Hp}, H' d = none → Same H' G → G d = some (.lst ys) → ys.length = j → Rats A.Ratio n m G ys f → IsF A.Ratio n m G2 v (f j).1 (f j).2 → Same G G2 → j < xs.length →
          ∃ acc, G2 d = some (.lst acc) ∧ acc.length < sizeLine ∧ Same H' (upd G2 d (.lst (acc ++ [v]))) ∧ ∃ zs : List V, zs.length = j + 1 ∧ upd G2 d (.lst (acc ++ [v])) d = some (.lst zs) ∧ Rats A.Ratio n m (upd G2 d (.lst (acc ++ [v]))) zs f := fun nd sm hd hy hr hv s2 hj => by
        subst hy
        exact ⟨_, s2 _ _ hd, small1000 (by omega), same_push (sm.trans s2) nd, _, by rw [List.length_append]; rfl, upd_same, (hr.same s2).push (s2 _ _ hd) hv⟩
      rcases ha1 with h | h
      · refine .inl ⟨_, rfl, a, rfl, ⟨xs, .of h⟩, fun d nd => ?_⟩
        refine lc_list (K := K) (a := a) (xs := xs) (fun i G => Same H' G ∧ ∃ ys : List V, ys.length = i ∧ G d = some (.lst ys) ∧ Rats A.Ratio n m G ys f) ⟨same_upd nd, [], rfl, upd_same, Rats.nil⟩ (fun i G _ p => .of (p.1 _ _ h)) ?_ ?_
        · rintro i x G hx ⟨sm, ys, hy, hd, hr⟩
          have hl := (List.getElem?_eq_some_iff.mp hx).1
          obtain ⟨t, b, r, k⟩ := (rr1 i x hx).same sm
          exact ⟨rfl, _, rfl, x, t, b, rfl, .inr r, fun G2 v s2 r2 => turn (x := x) (t := t) (b := b) nd sm hd hy hr ⟨t, b, r2, k⟩ s2 hl⟩
        · rintro G ⟨sm, ys, hy, hd, hr⟩
          exact q _ d ys (s1.trans sm) hd hy hr
      · refine .inr ⟨_, rfl, a, rfl, ⟨xs, .of h⟩, fun d nd => ?_⟩
        refine lc_tup (K := K) (a := a) (xs := xs) (fun i G => Same H' G ∧ ∃ ys : List V, ys.length = i ∧ G d = some (.lst ys) ∧ Rats A.Ratio n m G ys f) ⟨same_upd nd, [], rfl, upd_same, Rats.nil⟩ (fun i G _ p => .of (p.1 _ _ h)) ?_ ?_
        · rintro i x G hx ⟨sm, ys, hy, hd, hr⟩
          have hl := (List.getElem?_eq_some_iff.mp hx).1
          obtain ⟨t, b, r, k⟩ := (rr1 i x hx).same sm
          exact ⟨rfl, _, rfl, x, t, b, rfl, .inr r, fun G2 v s2 r2 => turn (x := x) (t := t) (b := b) nd sm hd hy hr ⟨t, b, r2, k⟩ s2 hl⟩
        · rintro G ⟨sm, ys, hy, hd, hr⟩
          exact q _ d ys (s1.trans sm) hd hy hr
/-! ### one bottom for all -/
/-- these integers are the values f 0, f 1, .. times B -/
def Tops (B : Int) (e : Nat) (ts : List Int) (f : Nat → Int × Int) : Prop := ∀ k t, ts[k]? = some t → t * (f k).2 = (f k).1 * B ∧ t.natAbs < 2 ^ e
theorem Tops.nil {B : Int} {e : Nat} {f : Nat → Int × Int} : Tops B e [] f := fun k t h => by simp at h
theorem push_get {α : Type} {ys : List α} {y x : α} {k : Nat} (h : (ys ++ [y])[k]? = some x) : (k < ys.length ∧ ys[k]? = some x) ∨ (k = ys.length ∧ x = y) := by
  rcases Nat.lt_trichotomy k ys.length with e | e | e
  · rw [List.getElem?_append_left e] at h
    exact .inl ⟨e, h⟩
  · subst e
    rw [List.getElem?_append_right (Nat.le_refl _), Nat.sub_self] at h
    cases h
    exact .inr ⟨rfl, rfl⟩
  · rw [List.getElem?_append_right (Nat.le_of_lt e)] at h
    obtain ⟨j, hj⟩ : ∃ j, k - ys.length = j + 1 := ⟨k - ys.length - 1, by omega⟩
    rw [hj] at h
    simp at h
theorem Tops.push {B : Int} {e : Nat} {ts : List Int} {f : Nat → Int × Int} {t : Int} (h : Tops B e ts f) (ht : t * (f ts.length).2 = (f ts.length).1 * B) (hs : t.natAbs < 2 ^ e) : Tops B e (ts ++ [t]) f := fun k x hx => by
  rcases push_get hx with ⟨_, h1⟩ | ⟨rfl, rfl⟩
  · exact h k x h1
  · exact ⟨ht, hs⟩
theorem rat_one {C : Addr} {H : Hp} {v : V} {t b t' b' : Int} (h : RatAt C H v t b) (h' : RatAt C H v t' b') : t = t' ∧ b = b' := by
  obtain ⟨a, dx, rfl, e⟩ := h
  obtain ⟨a', dx', e0, e'⟩ := h'
  cases e0
  rw [e] at e'
  cases e'
  exact ⟨rfl, rfl⟩
def sp_parts (C : Addr) : Sp := fun vs H Q _ => ∃ a xs f n m, vs = [.ref a] ∧ H a = some (.lst xs) ∧ Rats C n m H xs f ∧ xs.length ≤ 13 ∧ n ≤ 500 ∧ m ≤ 38 ∧
  ∀ H' tp l ts B, Same H H' → H' tp = some (.tup [.ref l, .int B]) → H' l = some (.lst (ts.map V.int)) → ts.length = xs.length → 0 < B → B.natAbs < 2 ^ 500 → Tops B 1000 ts f → Q (.ref tp) H'
theorem ok_whole_parts (T : Txt K mg A D) : FnOk P w K mg base CX0 2 A.f_whole_parts D.f_whole_parts ["ratios"] (sp_parts A.Ratio) := by
  skip
  refine T.F_whole_parts.ok sc_whole_parts (fun vs H Q E h => ?_) (fun cdv A' outer s H vs Q E hr h => ?_)
  · obtain ⟨a, xs, f, n, m, rfl, _⟩ := h
    rfl
  · obtain ⟨a, xs, f, n, m, rfl, ha, rr, l1, hn, hm, q⟩ := h
    refine ⟨_, (pss_cons (ps_set (i := 1) sc_whole_parts.nd rfl (.inr rfl) pe_int)
  (pss_cons (ps_for PassesOwn.never rfl (pi_list (pv 0)) (pg_name (i := 2) sc_whole_parts.nd rfl (.inl rfl)) (pss_one (ps_set (i := 1) sc_whole_parts.nd rfl (.inr rfl) (pe_callBfun cr_lcm rfl T.g_lcm (pa_cons (pv 1) (pa_cons (pe_fld (pv 2) rfl) pa_nil))))))
  (pss_one (ps_ret (pe_tup (pa_cons (pe_lc (own := [("number", 2)]) (g := gName 2) (tt := tYes) rfl sc_whole_parts.nd (pi_list (pv 0)) (blkOk_by (N := N_whole_parts) (sc := defScope s_whole_parts) (by decide +kernel)) (fun _ _ _ _ _ => (pg_name (i := 2) sc_whole_parts.nd rfl (.inl rfl))) (fun _ _ _ _ _ => pts_nil) (fun _ _ _ _ _ => (pe_op op_mulW (pe_fldK (K := K) rfl (pv 2) rfl) (pe_op op_fdivA (pv 1) (pe_fldK (K := K) rfl (pv 2) rfl))))) (pa_cons (pv 1) pa_nil))))))), ?_⟩
    have cl := T.k_Ratio.cl
    have nt := T.k_Ratio.n_top
    have nb := T.k_Ratio.n_bottom
    refine ⟨_, rfl, a, rfl, ⟨xs, .of ha⟩, ?_⟩
    refine for_list (K := K) (a := a) (xs := xs) (fun i σ H' => H' = H ∧ ∃ (B : Nat) (y : Option V), σ = [some (.ref a), some (.int (B : Int)), y] ∧ 0 < B ∧ B ≤ 2 ^ (m * i) ∧ ∀ j x t b, j < i → xs[j]? = some x → RatAt A.Ratio H x t b → b.natAbs ∣ B)
      ⟨rfl, 1, _, rfl, by decide, by simp, fun j _ _ _ h => absurd h (Nat.not_lt_zero _)⟩ (fun i σ H' _ h => by rw [h.1]; exact .of ha) ?_ ?_
    · rintro i x σ H' hx ⟨rfl, B, y, rfl, b0, b1, hd⟩
      have hl := (List.getElem?_eq_some_iff.mp hx).1
      obtain ⟨t, b, ⟨c, dx, rfl, hc⟩, p1, p2, p3, p4, p5⟩ := rr i x hx
      have bi : 2 ^ (m * i) ≤ 2 ^ 494 := Nat.pow_le_pow_right (by decide) (by
        have : m * i ≤ 38 * 13 := Nat.mul_le_mul hm (by omega)
        omega)
      have sB : Sm (B : Int) := Sm.of (k := 495) (by
        show B < 2 ^ 495
        have : 2 ^ 494 < 2 ^ 495 := Nat.pow_lt_pow_right (by decide) (by decide)
        omega) (by decide)
      refine ⟨_, rfl, _, rfl, c, A.Ratio, dx, _, _, rfl, hc, cl, nb, rfl, (B : Int), b, rfl, sB, sm_of p5 (by omega), rfl, Nat.lcm B b.natAbs, _, rfl, ?_, ?_, ?_⟩
      · exact Nat.lcm_pos b0 (by omega)
      · refine Nat.le_trans (PySem.W.mc_lcm_le _ _) ?_
        rw [Nat.mul_add, Nat.mul_one, Nat.pow_add]
        exact Nat.mul_le_mul b1 (Nat.le_of_lt p5)
      · intro j x' t' b' hj hx' hr
        rcases (by omega : j < i ∨ j = i) with e | e
        · exact Nat.dvd_trans (hd j x' t' b' e hx' hr) (Nat.dvd_lcm_left _ _)
        · subst e
          rw [hx] at hx'
          cases hx'
          obtain ⟨e1, e2⟩ := rat_one hr ⟨c, dx, rfl, hc⟩
          subst e2
          exact Nat.dvd_lcm_right _ _
    · rintro σ H' ⟨rfl, B, y, rfl, b0, b1, hd⟩
      have bi : 2 ^ (m * xs.length) ≤ 2 ^ 494 := Nat.pow_le_pow_right (by decide) (by
        have : m * xs.length ≤ 38 * 13 := Nat.mul_le_mul hm l1
        omega)
      have hB : B < 2 ^ 500 := by
        have : 2 ^ 494 < 2 ^ 500 := Nat.pow_lt_pow_right (by decide) (by decide)
        omega
      refine ⟨_, rfl, a, rfl, ⟨xs, .of ha⟩, fun d nd => ?_⟩
      refine lc_list (K := K) (a := a) (xs := xs) (fun i G => Same H' G ∧ ∃ ts : List Int, ts.length = i ∧ G d = some (.lst (ts.map V.int)) ∧ Tops (B : Int) 1000 ts f) ⟨same_upd nd, [], rfl, upd_same, Tops.nil⟩ (fun i G _ p => .of (p.1 _ _ ha)) ?_ ?_
      · rintro i x G hx ⟨sm, ts, hy, hd', hr⟩
        have hl := (List.getElem?_eq_some_iff.mp hx).1
        obtain ⟨t, b, hrat, p1, p2, p3, p4, p5⟩ := rr i x hx
        have hdv := hd i x t b hl hx hrat
        obtain ⟨c, dx, rfl, hc⟩ := hrat.same sm
        obtain ⟨g, hg⟩ := hdv
        have eB : (B : Int) = b * (g : Int) := by
          rw [hg, Int.natCast_mul]
          congr 1
          omega
        have ef : (B : Int).fdiv b = (g : Int) := by rw [eB]; exact Int.mul_fdiv_cancel_left _ (by omega)
        have hgB : g ≤ B := by
          rw [hg]
          exact Nat.le_mul_of_pos_left _ (by omega)
        refine ⟨rfl, _, rfl, c, A.Ratio, dx, _, _, rfl, hc, cl, nt, rfl, _, rfl, _, rfl, c, A.Ratio, dx, _, _, rfl, hc, cl, nb, rfl, _, _, rfl, rfl, Sm.div (by omega) (sm_of p5 (by omega)), ?_⟩
        subst hy
        have g14 : ((g : Int)).natAbs < 2 ^ 500 := by
          show g < 2 ^ 500
          omega
        refine ⟨_, _, rfl, rfl, (sm_of p4 (by omega)).mul (by rw [ef]; exact sm_of g14 (by decide)), _, hd', by rw [List.length_map]; exact small1000 (by omega), same_push sm nd, ts ++ [t * (B : Int).fdiv b], by rw [List.length_append]; rfl, by rw [upd_same, List.map_append]; rfl, hr.push ?_ ?_⟩
        · rw [ef, eB]
          grind
        · rw [ef]
          exact nle (nmul (nle p4 hn) g14) (by decide)
      · rintro G ⟨sm, ts, hy, hd', hr⟩
        refine ⟨_, rfl, by show 2 ≤ sizeLine; decide, fun tp ntp => ?_⟩
        have s2 := same_upd (o := .tup [.ref d, .int (B : Int)]) ntp
        exact q _ tp d ts (B : Int) (sm.trans s2) upd_same (s2 _ _ hd') hy (by omega) hB hr
/-! ### products, mixtures -/
def sp_prodrow (C : Addr) : Sp := fun vs H Q _ => ∃ v u xs ys f g, vs = [v, u] ∧ SeqAt' H v xs ∧ SeqAt' H u ys ∧ Rats C 600 100 H xs f ∧ Rats C 600 100 H ys g ∧ 0 < xs.length ∧ xs.length ≤ 13 ∧ 0 < ys.length ∧ ys.length ≤ 13 ∧
  ∀ H' d zs, Same H H' → H' d = some (.lst zs) → zs.length = min xs.length ys.length → Rats C 1300 300 H' zs (fun k => ((f k).1 * (g k).1, (f k).2 * (g k).2)) → Q (.ref d) H'
theorem SeqAt'.same {H H' : Hp} {v : V} {xs : List V} (h : SeqAt' H v xs) (s : Same H H') : SeqAt' H' v xs := by
  obtain ⟨a, e, h⟩ := h
  exact ⟨a, e, h.imp (s a _) (s a _)⟩
theorem fit_of {t b t2 b2 : Int} {n m n2 m2 : Nat} (h : n ≤ 2000) (h2 : n2 ≤ 2000) (h3 : m ≤ 2000) (h4 : m2 ≤ 2000) (s1 : t.natAbs < 2 ^ n) (s2 : b.natAbs < 2 ^ m) (s3 : t2.natAbs < 2 ^ n2) (s4 : b2.natAbs < 2 ^ m2) (p1 : 0 < b) (p2 : 0 < b2) : Fit t b t2 b2 :=
  ⟨sm_of s1 (by omega), sm_of s2 (by omega), sm_of s3 (by omega), sm_of s4 (by omega), by omega, by omega, sm_of (nmul s2 s4) (by omega)⟩
theorem mul_is {C : Addr} {n m n2 m2 : Nat} {G : Hp} {w : V} {t b t2 b2 t' b' p q p2 q2 : Int} (hb : 0 < b) (hq : 0 < q) (e1 : t * q = p * b) (s1 : t.natAbs < 2 ^ n) (s2 : b.natAbs < 2 ^ m) (hb2 : 0 < b2) (hq2 : 0 < q2) (e2 : t2 * q2 = p2 * b2) (s3 : t2.natAbs < 2 ^ n2) (s4 : b2.natAbs < 2 ^ m2)
    (r : RatAt C G w t' b') (nm : Norm (t * t2) (b * b2) t' b') : IsF C (n + n2) (m + m2) G w (p * p2) (q * q2) := by
  refine ⟨t', b', r, nm.pos, Int.mul_pos hq hq2, ?_, Nat.lt_of_le_of_lt nm.le1 (nmul s1 s3), Nat.lt_of_le_of_lt nm.le2 (nmul s2 s4)⟩
  have c := nm.cross
  have z : b * b2 ≠ 0 := by have := Int.mul_pos hb hb2; omega
  refine Int.eq_of_mul_eq_mul_right z ?_
  have k1 : t' * (q * q2) * (b * b2) = (t' * (b * b2)) * (q * q2) := by grind
  rw [k1, c]
  grind
theorem ok_product_row (T : Txt K mg A D) : FnOk P w K mg base CX0 8 A.f_product_row D.f_product_row ["one", "other"] (sp_prodrow A.Ratio) := by
  have G_Ratio___mul__ : FnOk P w K mg base CX0 5 A.f_Ratio___mul__ D.f_Ratio___mul__ ["self", "other"] (sp_bin A.Ratio f_pro) := ok_Ratio___mul__ T
  have G_row_numbers : FnOk P w K mg base CX0 6 A.f_row_numbers D.f_row_numbers ["row"] (sp_rown A.Ratio) := ok_row_numbers T
  refine T.F_product_row.ok sc_product_row (fun vs H Q E h => ?_) (fun cdv A' outer s H vs Q E hr h => ?_)
  · obtain ⟨v, u, xs, ys, f, g, rfl, _⟩ := h
    rfl
  · obtain ⟨v, u, xs, ys, f, g, rfl, hv, hu, rx, ry, x0, x1, y0, y1, q⟩ := h
    refine ⟨_, (pss_cons (ps_set (i := 2) sc_product_row.nd rfl (.inl rfl) (pe_call G_row_numbers (hr.mono (by decide)) rfl T.g_row_numbers T.F_row_numbers.kp T.b_row_numbers .nil pass0 (pa_cons (pv 0) pa_nil)))
  (pss_cons (ps_set (i := 3) sc_product_row.nd rfl (.inl rfl) (pe_call G_row_numbers (hr.mono (by decide)) rfl T.g_row_numbers T.F_row_numbers.kp T.b_row_numbers .nil pass0 (pa_cons (pv 1) pa_nil)))
  (pss_one (ps_ret (pe_lc (own := [("a", 4), ("b", 5)]) (g := gTup K 2 (gCons (gName 4) (gCons (gName 5) (gNil)))) (tt := tYes) rfl sc_product_row.nd (pi_zip rfl T.z_zip (pa_cons (pv 2) (pa_cons (pv 3) pa_nil))) (blkOk_by (N := N_product_row) (sc := defScope s_product_row) (by decide +kernel)) (fun _ _ _ _ _ => (pg_tupK (K := K) rfl rfl (pgs_cons (pg_name (i := 4) sc_product_row.nd rfl (.inl rfl)) (pgs_cons (pg_name (i := 5) sc_product_row.nd rfl (.inl rfl)) pgs_nil)))) (fun _ _ _ _ _ => pts_nil) (fun _ _ _ _ _ => (pe_op (op_mul_own T.k_Ratio.ow T.m_Ratio___mul__ T.m_Ratio___rmul__ G_Ratio___mul__ (hr.mono (by decide)) T.b_Ratio___mul__ pass0) (pv 4) (pv 5)))))))), ?_⟩
    refine ⟨_, rfl, v, xs, f, 600, 100, rfl, hv, rx, x0, x1, fun H1 d1 xs1 s1 h1 l1 r1 => ?_⟩
    refine ⟨_, rfl, u, ys, g, 600, 100, rfl, hu.same s1, ry.same s1, y0, y1, fun H2 d2 ys2 s2 h2 l2 r2 => ?_⟩
    have h1 := s2 _ _ h1
    have r1 := r1.same s2
    refine ⟨_, rfl, _, rfl, d1, d2, xs1, ys2, rfl, .of h1, .of h2, fun d nd => ?_⟩
    refine lc_zip (K := K) (a := d1) (b := d2) (xs := xs1) (ys := ys2) (fun i G => Same H2 G ∧ ∃ zs : List V, zs.length = i ∧ G d = some (.lst zs) ∧ Rats A.Ratio 1300 300 G zs (fun k => ((f k).1 * (g k).1, (f k).2 * (g k).2))) ⟨same_upd nd, [], rfl, upd_same, Rats.nil⟩ (fun i G _ p => ⟨.of (p.1 _ _ h1), .of (p.1 _ _ h2)⟩) ?_ ?_
    · rintro i x y G tq hx hy nt ⟨sm, zs, hz, hd, hr⟩
      have sq := same_upd (o := .tup [x, y]) nt
      have smq := sm.trans sq
      obtain ⟨t, b, ra, p1, p2, p3, p4, p5⟩ := ((r1 i x hx).same sm).same sq
      obtain ⟨t2, b2, rb, q1, q2, q3, q4, q5⟩ := ((r2 i y hy).same sm).same sq
      have hl := (List.getElem?_eq_some_iff.mp hx).1
      refine ⟨tq, [x, y], rfl, .of upd_same, rfl, x, [y], rfl, y, [], rfl, rfl, rfl, ?_⟩
      refine ⟨_, rfl, _, rfl, ra.ins, .inr rb.ins, x, y, t, b, t2, b2, rfl, ra, .inr rb, fit_of (by decide) (by decide) (by decide) (by decide) p4 p5 q4 q5 p1 q1, fun G2 v2 t' b' s2 r2' nm => ?_⟩
      subst hz
      have hv := (mul_is p1 p2 p3 p4 p5 q1 q2 q3 q4 q5 r2' nm).mono (n' := 1300) (m' := 300) (by decide) (by decide)
      have hd2 := s2 _ _ (sq _ _ hd)
      exact ⟨zs, hd2, small1000 (by omega), same_push (smq.trans s2) nd, zs ++ [v2], by rw [List.length_append]; rfl, upd_same, ((hr.same sq).same s2).push hd2 hv⟩
    · rintro G ⟨sm, zs, hz, hd, hr⟩
      exact q G d zs ((s1.trans s2).trans sm) hd (by omega) hr
/-- a number that is a Ratio or an integer -/
def IsN (C : Addr) (n m : Nat) (H : Hp) (v : V) (p q : Int) : Prop := ∃ t b, NumAt C H v t b ∧ 0 < b ∧ 0 < q ∧ t * q = p * b ∧ t.natAbs < 2 ^ n ∧ b.natAbs < 2 ^ m
theorem NumAt.same {C : Addr} {H H' : Hp} {v : V} {t b : Int} (n : NumAt C H v t b) (s : Same H H') : NumAt C H' v t b := by
  rcases n with h | h
  · exact .inl h
  · exact .inr (h.same s)
theorem IsN.same {C : Addr} {n m : Nat} {H H' : Hp} {v : V} {p q : Int} (r : IsN C n m H v p q) (s : Same H H') : IsN C n m H' v p q := by
  obtain ⟨t, b, h, r⟩ := r
  exact ⟨t, b, h.same s, r⟩
/-- what is no share: neither a number, or one below 0 or above 1 -/
def NoShare (K : PySem.W.Frag) (C : Addr) (H : Hp) (v : V) : Prop := NoNum K C H v ∨ ∃ t b, NumAt C H v t b ∧ 0 < b ∧ t.natAbs < 2 ^ 100 ∧ b.natAbs < 2 ^ 100 ∧ (t < 0 ∨ b < t)
def sp_mixed (K : PySem.W.Frag) (A : Ad) : Sp := fun vs H Q E => ∃ v u s xs ys f g, vs = [v, u, s] ∧ SeqAt' H v xs ∧ SeqAt' H u ys ∧ Rats A.Ratio 600 100 H xs f ∧ Rats A.Ratio 600 100 H ys g ∧ 0 < xs.length ∧ xs.length ≤ 13 ∧ 0 < ys.length ∧ ys.length ≤ 13 ∧
  ((∃ p q, IsN A.Ratio 100 100 H s p q ∧ 0 ≤ p ∧ p ≤ q ∧ ∀ H' d zs, Same H H' → H' d = some (.lst zs) → zs.length = min xs.length ys.length → Rats A.Ratio 1300 600 H' zs (fun k => ((f k).1 * (q - p) * ((g k).2 * q) + (g k).1 * p * ((f k).2 * q), (f k).2 * q * ((g k).2 * q))) → Q (.ref d) H') ∨
    (NoShare K A.Ratio H s ∧ ∀ H' y, Same H H' → H' y = none → E (.ref A.NoNumber) (some y) (upd H' y (.xd [("word", .str "share")]))))
theorem ok_NoNumber___init__ (T : Txt K mg A D) : FnOk P w K mg base CX0 1 A.f_NoNumber___init__ D.f_NoNumber___init__ ["self", "word"] (sp_keep K "word") := by
  skip
  refine T.F_NoNumber___init__.ok sc_NoNumber___init__ (fun vs H Q E h => ?_) (fun cdv A' outer s H vs Q E hr h => ?_)
  · obtain ⟨e, C, v, rfl, _⟩ := h
    rfl
  · obtain ⟨e, C, v, rfl, hT, hn, he, q⟩ := h
    refine ⟨_, pss_one (ps_ost (pv 0) (pv 1)), ?_⟩
    exact ⟨_, rfl, _, rfl, e, C, rfl, hT, hn, .inl ⟨he, q⟩⟩
theorem IsN.kind {C : Addr} {n m : Nat} {H : Hp} {v : V} {p q : Int} (r : IsN C n m H v p q) : (∃ i, v = .int i) ∨ Ins H v C := by
  obtain ⟨t, b, h, _⟩ := r
  exact h.kind
theorem NumAt.cmp0 {C : Addr} {H : Hp} {x : V} {t b j : Int} {n m : Nat} {r : Int → Bool} {g : Int → Int → Bool} {Q : VK} (h : NumAt C H x t b) (hj : j.natAbs < 2 ^ 10) (s1 : t.natAbs < 2 ^ n) (s2 : b.natAbs < 2 ^ m) (hn : n ≤ 4000) (hm : m ≤ 4000)
    (hg : ∀ i, g i j = r (i * 1 - j * 1)) (q : Q (.bl (r (t * 1 - j * b))) H) : rI0 (fun i k => .bl (g i k)) x (.int j) H Q ∨ rOwn C (sp_cmp C r) E0 x (.int j) H Q := by
  rcases h with ⟨rfl, rfl⟩ | h
  · refine .inl ⟨t, j, rfl, rfl, ?_⟩
    show Q (.bl (g t j)) H
    rw [hg]
    exact q
  · exact .inr ⟨h.ins, .inl ⟨j, rfl⟩, x, .int j, t, b, j, 1, rfl, h, .inl ⟨rfl, rfl⟩, sm_of s1 hn, sm_of s2 hm, sm_of hj (by decide), so, q⟩
theorem sub_read {C : Addr} {H : Hp} {s : V} {p q : Int} {Q : VK} (h : IsN C 100 100 H s p q) (k : ∀ H' w, Same H H' → IsN C 101 100 H' w (q - p) q → Q w H') :
    rI0 (fun i j => .int (i - j)) (.int 1) s H Q ∨ rOwnR C (sp_rbin C f_dif) E0 (.int 1) s H Q := by
  obtain ⟨t, b, h, hb, hq, e, s1, s2⟩ := h
  rcases h with ⟨rfl, rfl⟩ | h
  · refine .inl ⟨1, t, rfl, rfl, k _ _ (Same.refl H) ⟨1 - t, 1, .inl ⟨rfl, rfl⟩, by decide, hq, by grind, ?_, by decide⟩⟩
    rw [show (2 : Nat) ^ 101 = 2 ^ 100 + 2 ^ 100 by decide]
    have : (1 : Int).natAbs < 2 ^ 100 := by decide
    omega
  · refine .inr ⟨⟨1, rfl⟩, h.ins, s, .int 1, t, b, 1, 1, rfl, h, .inl ⟨rfl, rfl⟩, ⟨sm_of s1 (by decide), sm_of s2 (by decide), so, so, by omega, by decide, by rw [Int.mul_one]; exact sm_of s2 (by decide)⟩, fun H' w t' b' s r nm => k _ _ s ⟨t', b', .inr r, nm.pos, hq, ?_, ?_, ?_⟩⟩
    · have c := nm.cross
      have c : t' * (1 * b) = (1 * b - t * 1) * b' := c
      refine Int.eq_of_mul_eq_mul_right (show b ≠ 0 by omega) ?_
      have k1 : t' * q * b = (t' * (1 * b)) * q := by grind
      rw [k1, c]
      grind
    · refine Nat.lt_of_le_of_lt nm.le1 ?_
      show (1 * b - t * 1).natAbs < 2 ^ 101
      rw [show (2 : Nat) ^ 101 = 2 ^ 100 + 2 ^ 100 by decide]
      omega
    · refine Nat.lt_of_le_of_lt nm.le2 ?_
      rw [Int.one_mul]
      exact s2
theorem add_is {C : Addr} {n m : Nat} {G : Hp} {w : V} {t b t2 b2 t' b' p q p2 q2 : Int} (hb : 0 < b) (hq : 0 < q) (e1 : t * q = p * b) (s1 : t.natAbs < 2 ^ n) (s2 : b.natAbs < 2 ^ m) (hb2 : 0 < b2) (hq2 : 0 < q2) (e2 : t2 * q2 = p2 * b2) (s3 : t2.natAbs < 2 ^ n) (s4 : b2.natAbs < 2 ^ m)
    (r : RatAt C G w t' b') (nm : Norm (t * b2 + t2 * b) (b * b2) t' b') : IsF C (n + m + 1) (m + m) G w (p * q2 + p2 * q) (q * q2) := by
  refine ⟨t', b', r, nm.pos, Int.mul_pos hq hq2, ?_, Nat.lt_of_le_of_lt nm.le1 (nadd (nmul s1 s4) (nmul s3 s2)), Nat.lt_of_le_of_lt nm.le2 (nmul s2 s4)⟩
  have c := nm.cross
  have z : b * b2 ≠ 0 := by have := Int.mul_pos hb hb2; omega
  refine Int.eq_of_mul_eq_mul_right z ?_
  have k1 : t' * (q * q2) * (b * b2) = (t' * (b * b2)) * (q * q2) := by grind
  rw [k1, c]
  grind
theorem ok_mixed_row (T : Txt K mg A D) : FnOk P w K mg base (L2.CX P w) 8 A.f_mixed_row D.f_mixed_row ["one", "other", "share"] (sp_mixed K A) := by
  have G_NoNumber___init__ : FnOk P w K mg base CX0 1 A.f_NoNumber___init__ D.f_NoNumber___init__ ["self", "word"] (sp_keep K "word") := ok_NoNumber___init__ T
  have G_Ratio___add__ : FnOk P w K mg base CX0 5 A.f_Ratio___add__ D.f_Ratio___add__ ["self", "other"] (sp_bin A.Ratio f_sum) := ok_Ratio___add__ T
  have G_Ratio___gt__ : FnOk P w K mg base CX0 3 A.f_Ratio___gt__ D.f_Ratio___gt__ ["self", "other"] (sp_cmp A.Ratio r_gt) := ok_Ratio___gt__ T
  have G_Ratio___lt__ : FnOk P w K mg base CX0 3 A.f_Ratio___lt__ D.f_Ratio___lt__ ["self", "other"] (sp_cmp A.Ratio r_lt) := ok_Ratio___lt__ T
  have G_Ratio___mul__ : FnOk P w K mg base CX0 5 A.f_Ratio___mul__ D.f_Ratio___mul__ ["self", "other"] (sp_bin A.Ratio f_pro) := ok_Ratio___mul__ T
  have G_Ratio___rsub__ : FnOk P w K mg base CX0 5 A.f_Ratio___rsub__ D.f_Ratio___rsub__ ["self", "other"] (sp_rbin A.Ratio f_dif) := ok_Ratio___rsub__ T
  have G_is_number : FnOk P w K mg base CX0 2 A.f_is_number D.f_is_number ["x"] (sp_isnum K A.Ratio) := ok_is_number T
  have G_row_numbers : FnOk P w K mg base CX0 6 A.f_row_numbers D.f_row_numbers ["row"] (sp_rown A.Ratio) := ok_row_numbers T
  refine T.F_mixed_row.okX sc_mixed_row (fun vs H Q E h => ?_) (fun cdv A' outer s H vs Q E hr h => ?_)
  · obtain ⟨v, u, s, xs, ys, f, g, rfl, _⟩ := h
    rfl
  · obtain ⟨v, u, s', xs, ys, f, g, rfl, hv, hu, rx, ry, x0, x1, y0, y1, h⟩ := h
    refine ⟨_, (pss_cons (ps_set (i := 3) sc_mixed_row.nd rfl (.inl rfl) (pe_call G_row_numbers (hr.mono (by decide)) rfl T.g_row_numbers T.F_row_numbers.kp T.b_row_numbers .nil pass0 (pa_cons (pv 0) pa_nil)))
  (pss_cons (ps_set (i := 4) sc_mixed_row.nd rfl (.inl rfl) (pe_call G_row_numbers (hr.mono (by decide)) rfl T.g_row_numbers T.F_row_numbers.kp T.b_row_numbers .nil pass0 (pa_cons (pv 1) pa_nil)))
  (pss_cons (ps_if (PW.pt (pw_or (pt_not (pt_val (pe_call G_is_number (hr.mono (by decide)) rfl T.g_is_number T.F_is_number.kp T.b_is_number .nil pass0 (pa_cons (pv 2) pa_nil)))) (pw_or (pt_cmpR (op_lt.or (op_lt_own T.k_Ratio.ow T.m_Ratio___lt__ G_Ratio___lt__ (hr.mono (by decide)) T.b_Ratio___lt__ pass0)) (pv 2) pe_int (nomark _)) (pw_or1 (pt_cmpR (op_gt.or (op_gt_own T.k_Ratio.ow T.m_Ratio___gt__ G_Ratio___gt__ (hr.mono (by decide)) T.b_Ratio___gt__ pass0)) (pv 2) pe_int (nomark _)))))) (pss_one (ps_raise rfl (takes_of rfl rfl rfl rfl) (pmk_oex T.o_NoNumber T.i_NoNumber T.ti_NoNumber G_NoNumber___init__ (hr.mono (by decide)) T.b_NoNumber___init__ .nil pass0 rfl T.g_NoNumber (by exact (pa_cons pe_str pa_nil))))) pss_nil)
  (pss_one (ps_ret (pe_lc (own := [("a", 5), ("b", 6)]) (g := gTup K 2 (gCons (gName 5) (gCons (gName 6) (gNil)))) (tt := tYes) rfl sc_mixed_row.nd (pi_zip rfl T.z_zip (pa_cons (pv 3) (pa_cons (pv 4) pa_nil))) (blkOk_by (N := N_mixed_row) (sc := defScope s_mixed_row) (by decide +kernel)) (fun _ _ _ _ _ => (pg_tupK (K := K) rfl rfl (pgs_cons (pg_name (i := 5) sc_mixed_row.nd rfl (.inl rfl)) (pgs_cons (pg_name (i := 6) sc_mixed_row.nd rfl (.inl rfl)) pgs_nil)))) (fun _ _ _ _ _ => pts_nil) (fun _ _ _ _ _ => (pe_op (op_add_own T.k_Ratio.ow T.m_Ratio___add__ T.m_Ratio___radd__ G_Ratio___add__ (hr.mono (by decide)) T.b_Ratio___add__ pass0) (pe_op (op_mul_own T.k_Ratio.ow T.m_Ratio___mul__ T.m_Ratio___rmul__ G_Ratio___mul__ (hr.mono (by decide)) T.b_Ratio___mul__ pass0) (pv 5) (pe_op (op_sub.or (op_sub_int T.k_Ratio.ow T.m_Ratio___rsub__ T.m_Ratio___sub__ G_Ratio___rsub__ (hr.mono (by decide)) T.b_Ratio___rsub__ pass0)) pe_int (pv 2))) (pe_op (op_mul_own T.k_Ratio.ow T.m_Ratio___mul__ T.m_Ratio___rmul__ G_Ratio___mul__ (hr.mono (by decide)) T.b_Ratio___mul__ pass0) (pv 6) (pv 2)))))))))), ?_⟩
    refine ⟨_, rfl, v, xs, f, 600, 100, rfl, hv, rx, x0, x1, fun H1 d1 xs1 s1 h1 l1 r1 => ?_⟩
    refine ⟨_, rfl, u, ys, g, 600, 100, rfl, hu.same s1, ry.same s1, y0, y1, fun H2 d2 ys2 s2 h2 l2 r2 => ?_⟩
    have h1 := s2 _ _ h1
    have r1 := r1.same s2
    have s12 := s1.trans s2
    have g0 : ∀ i : Int, (decide (i < 0)) = r_lt (i * 1 - 0 * 1) := fun i => by
      rw [Bool.eq_iff_iff]
      simp only [r_lt, decide_eq_true_eq]
      omega
    have g1 : ∀ i : Int, (decide (1 < i)) = r_gt (i * 1 - 1 * 1) := fun i => by
      rw [Bool.eq_iff_iff]
      simp only [r_gt, decide_eq_true_eq]
      omega
    rcases h with ⟨p, q, hs, p0, p1, k⟩ | ⟨hs | ⟨t, b, hs, hb, b1, b2, hw⟩, k⟩
    · have hs := hs.same s12
      obtain ⟨t, b, hn, hb, hq, e, e1, e2⟩ := id hs
      have t0 : 0 ≤ t := Int.le_of_mul_le_mul_right (show 0 * q ≤ t * q by rw [e, Int.zero_mul]; exact Int.mul_nonneg p0 (by omega)) hq
      have t1 : t ≤ b := Int.le_of_mul_le_mul_right (show t * q ≤ b * q by rw [e, Int.mul_comm b q]; exact Int.mul_le_mul_of_nonneg_right p1 (by omega)) hq
      refine ⟨_, rfl, _, rfl, .inl ⟨hs.kind, true, rfl, iteF ?_⟩⟩
      refine ⟨_, rfl, hn.cmp0 (by decide) e1 e2 (by decide) (by decide) g0 ⟨_, rfl, iteFe (decide_eq_false (by omega)) ?_⟩⟩
      refine ⟨_, rfl, hn.cmp0 (by decide) e1 e2 (by decide) (by decide) g1 ⟨_, rfl, iteFe (decide_eq_false (by omega)) ?_⟩⟩
      refine ⟨_, rfl, _, rfl, d1, d2, xs1, ys2, rfl, .of h1, .of h2, fun d nd => ?_⟩
      refine lc_zip (K := K) (a := d1) (b := d2) (xs := xs1) (ys := ys2) (fun i G => Same H2 G ∧ ∃ zs : List V, zs.length = i ∧ G d = some (.lst zs) ∧ Rats A.Ratio 1300 600 G zs (fun k => ((f k).1 * (q - p) * ((g k).2 * q) + (g k).1 * p * ((f k).2 * q), (f k).2 * q * ((g k).2 * q))))
        ⟨same_upd nd, [], rfl, upd_same, Rats.nil⟩ (fun i G _ p => ⟨.of (p.1 _ _ h1), .of (p.1 _ _ h2)⟩) ?_ ?_
      · rintro i x y G tq hx hy nt ⟨sm, zs, hz, hd, hr⟩
        have sq := same_upd (o := .tup [x, y]) nt
        have smq := sm.trans sq
        have hl := (List.getElem?_eq_some_iff.mp hx).1
        have fx := (r1 i x hx).same smq
        have fy := (r2 i y hy).same smq
        refine ⟨tq, [x, y], rfl, .of upd_same, rfl, x, [y], rfl, y, [], rfl, rfl, rfl, ?_⟩
        refine ⟨_, rfl, _, rfl, sub_read (hs.same smq) fun G2 w' sw hw => ?_⟩
        obtain ⟨ta, ba, ra, a1, a2, a3, a4, a5⟩ := fx.same sw
        obtain ⟨tw, bw, rw', w1, w2, w3, w4, w5⟩ := id hw
        refine ⟨ra.ins, hw.kind, x, w', ta, ba, tw, bw, rfl, ra, rw', fit_of (by decide) (by decide) (by decide) (by decide) a4 a5 w4 w5 a1 w1, fun G3 v3 t3 b3 s3 r3 nm3 => ?_⟩
        have f3 := (mul_is a1 a2 a3 a4 a5 w1 w2 w3 w4 w5 r3 nm3).mono (n' := 701) (m' := 200) (by decide) (by decide)
        obtain ⟨tb, bb, rb, c1, c2, c3, c4, c5⟩ := (fy.same sw).same s3
        have hs3 := ((hs.same smq).same sw).same s3
        obtain ⟨ts, bs, rs, z1, z2, z3, z4, z5⟩ := id hs3
        refine ⟨_, rfl, _, rfl, rb.ins, hs3.kind, y, s', tb, bb, ts, bs, rfl, rb, rs, fit_of (by decide) (by decide) (by decide) (by decide) c4 c5 z4 z5 c1 z1, fun G4 v4 t4 b4 s4 r4 nm4 => ?_⟩
        have f4 := (mul_is c1 c2 c3 c4 c5 z1 z2 z3 z4 z5 r4 nm4).mono (n' := 701) (m' := 200) (by decide) (by decide)
        obtain ⟨t5, b5, r5, d1', d2', d3, d4, d5⟩ := f3.same s4
        obtain ⟨t6, b6, r6, e1', e2', e3, e4, e5⟩ := f4
        refine ⟨r5.ins, .inr r6.ins, v3, v4, t5, b5, t6, b6, rfl, r5, .inr r6, fit_of (by decide) (by decide) (by decide) (by decide) d4 d5 e4 e5 d1' e1', fun G5 v5 t7 b7 s5 r7 nm5 => ?_⟩
        have f5 := (add_is d1' d2' d3 d4 d5 e1' e2' e3 e4 e5 r7 nm5).mono (n' := 1300) (m' := 600) (by decide) (by decide)
        have ss := (((sq.trans sw).trans s3).trans s4).trans s5
        have hd2 := ss _ _ hd
        subst hz
        exact ⟨zs, hd2, small1000 (by omega), same_push (sm.trans ss) nd, zs ++ [v5], by rw [List.length_append]; rfl, upd_same, (hr.same ss).push hd2 f5⟩
      · rintro G ⟨sm, zs, hz, hd, hr⟩
        exact k G d zs (s12.trans sm) hd (by omega) hr
    · exact ⟨_, rfl, _, rfl, .inr ⟨hs.same s12, false, rfl, iteT (iteT (mk_keep T.o_NoNumber T.n_NoNumber_word fun y ny => k _ y s12 ny))⟩⟩
    · have hs := hs.same s12
      refine ⟨_, rfl, _, rfl, .inl ⟨hs.kind, true, rfl, iteF ?_⟩⟩
      have e0 : r_lt (t * 1 - 0 * b) = decide (t < 0) := by
        rw [Bool.eq_iff_iff]
        simp only [r_lt, decide_eq_true_eq]
        omega
      by_cases c : t < 0
      · exact ⟨_, rfl, hs.cmp0 (by decide) b1 b2 (by decide) (by decide) g0 ⟨_, rfl, iteTe (by rw [e0]; exact decide_eq_true c) (iteT (mk_keep T.o_NoNumber T.n_NoNumber_word fun y ny => k _ y s12 ny))⟩⟩
      · refine ⟨_, rfl, hs.cmp0 (by decide) b1 b2 (by decide) (by decide) g0 ⟨_, rfl, iteFe (by rw [e0]; exact decide_eq_false c) ?_⟩⟩
        exact ⟨_, rfl, hs.cmp0 (by decide) b1 b2 (by decide) (by decide) g1 ⟨_, rfl, iteTe (decide_eq_true (by omega)) (mk_keep T.o_NoNumber T.n_NoNumber_word fun y ny => k _ y s12 ny)⟩⟩
/-! ### sums -/
abbrev term (k : Nat) (ts us : List Int) (i : Nat) : Int := PySem.W.mcComb (k : Int) (i : Int) * ts.getD i 0 * us.getD (k - i) 0
def conv (ts us : List Int) (k : Nat) : Int := ((List.range (k + 1)).map (term k ts us)).sum
theorem comb_small : ∀ k : Nat, k < 13 → ∀ i : Nat, i < 13 → (PySem.W.mcComb (k : Int) (i : Int)).natAbs < 2 ^ 10 := by
  intro k hk i hi
  have : ∀ k : Fin 13, ∀ i : Fin 13, (PySem.W.mcComb ((k : Nat) : Int) ((i : Nat) : Int)).natAbs < 2 ^ 10 := by decide +kernel
  exact this ⟨k, hk⟩ ⟨i, hi⟩
theorem sum_lt {xs : List Int} {e : Nat} (h : ∀ x ∈ xs, x.natAbs < 2 ^ e) (hl : xs.length ≤ 16) : xs.sum.natAbs ≤ xs.length * 2 ^ e := by
  clear hl
  induction xs with
  | nil => simp
  | cons x xs ih =>
    rw [List.sum_cons, List.length_cons, Nat.add_mul]
    have h1 := h x (List.mem_cons_self ..)
    have h2 := ih fun y hy => h y (List.mem_cons_of_mem _ hy)
    have h3 := Int.natAbs_add_le x xs.sum
    omega
theorem getD_tops {B : Int} {e : Nat} {ts : List Int} {f : Nat → Int × Int} (h : Tops B e ts f) {i : Nat} (hi : i < ts.length) : (ts.getD i 0).natAbs < 2 ^ e ∧ ts.getD i 0 * (f i).2 = (f i).1 * B := by
  have e1 : ts[i]? = some (ts.getD i 0) := by
    rw [List.getD_eq_getElem?_getD, List.getElem?_eq_getElem hi]
    rfl
  obtain ⟨a, b⟩ := h i _ e1
  exact ⟨b, a⟩
theorem term_lt {B B2 : Int} {ts us : List Int} {f g : Nat → Int × Int} {k i : Nat} (h1 : Tops B 1000 ts f) (h2 : Tops B2 1000 us g) (hk : k < 13) (hi : i ≤ k) (l1 : k < ts.length) (l2 : k < us.length) : (term k ts us i).natAbs < 2 ^ 2010 :=
  nmul (nmul (comb_small k hk i (by omega)) (getD_tops h1 (by omega)).1) (getD_tops h2 (show k - i < us.length by omega)).1
theorem conv_lt {B B2 : Int} {ts us : List Int} {f g : Nat → Int × Int} {k : Nat} (h1 : Tops B 1000 ts f) (h2 : Tops B2 1000 us g) (hk : k < 13) (l1 : k < ts.length) (l2 : k < us.length) : (conv ts us k).natAbs < 2 ^ 2015 := by
  have h := sum_lt (xs := (List.range (k + 1)).map (term k ts us)) (e := 2010) (fun x hx => by
    obtain ⟨i, hi, rfl⟩ := List.mem_map.mp hx
    exact term_lt h1 h2 hk (by have := List.mem_range.mp hi; omega) l1 l2) (by simp; omega)
  rw [List.length_map, List.length_range] at h
  have h3 : (k + 1) * 2 ^ 2010 < 2 ^ 5 * 2 ^ 2010 := Nat.mul_lt_mul_of_pos_right (by omega) (Nat.two_pow_pos _)
  rw [← Nat.pow_add] at h3
  exact Nat.lt_of_le_of_lt h h3
theorem atI_getD {ts : List Int} {i : Nat} (h : i < ts.length) : atI (ts.map V.int) (0 + (i : Int)) = some (V.int (ts.getD i 0)) := by
  rw [Int.zero_add]
  refine atI_nat ?_
  rw [List.getElem?_map, List.getD_eq_getElem?_getD, List.getElem?_eq_getElem h]
  rfl
def sp_sumrow (C : Addr) : Sp := fun vs H Q _ => ∃ v u xs ys f g, vs = [v, u] ∧ SeqAt' H v xs ∧ SeqAt' H u ys ∧ Rats C 500 38 H xs f ∧ Rats C 500 38 H ys g ∧ 0 < xs.length ∧ xs.length ≤ 13 ∧ 0 < ys.length ∧ ys.length ≤ 13 ∧
  ∀ H' d zs ts us B B2, Same H H' → H' d = some (.lst zs) → zs.length = min xs.length ys.length → Tops B 1000 ts f → Tops B2 1000 us g → ts.length = xs.length → us.length = ys.length → 0 < B → 0 < B2 → Rats C 2015 1000 H' zs (fun k => (conv ts us k, B * B2)) → Q (.ref d) H'
theorem ok_sum_row (T : Txt K mg A D) : FnOk P w K mg base CX0 8 A.f_sum_row D.f_sum_row ["one", "other"] (sp_sumrow A.Ratio) := by
  have G_Ratio_init : FnOk P w K mg base CX0 2 A.f_Ratio___init__ D.f_Ratio___init__ ["self", "top", "bottom"] (sp_init A.Ratio) := ok_Ratio___init__ T
  have b_Ratio_init2 := T.b_Ratio___init__
  have d_Ratio_init2 : Vals [] [] := .nil
  have G_row_numbers : FnOk P w K mg base CX0 6 A.f_row_numbers D.f_row_numbers ["row"] (sp_rown A.Ratio) := ok_row_numbers T
  have G_whole_parts : FnOk P w K mg base CX0 2 A.f_whole_parts D.f_whole_parts ["ratios"] (sp_parts A.Ratio) := ok_whole_parts T
  refine T.F_sum_row.ok sc_sum_row (fun vs H Q E h => ?_) (fun cdv A' outer s H vs Q E hr h => ?_)
  · obtain ⟨v, u, xs, ys, f, g, rfl, _⟩ := h
    rfl
  · obtain ⟨v, u, xs, ys, f, g, rfl, hv, hu, rx, ry, x0, x1, y0, y1, q⟩ := h
    refine ⟨_, (pss_cons (ps_asg (pe_call G_whole_parts (hr.mono (by decide)) rfl T.g_whole_parts T.F_whole_parts.kp T.b_whole_parts .nil pass0 (pa_cons (pe_call G_row_numbers (hr.mono (by decide)) rfl T.g_row_numbers T.F_row_numbers.kp T.b_row_numbers .nil pass0 (pa_cons (pv 0) pa_nil)) pa_nil)) (pg_tup rfl (pgs_cons (pg_name (i := 2) sc_sum_row.nd rfl (.inr rfl)) (pgs_cons (pg_name (i := 3) sc_sum_row.nd rfl (.inl rfl)) pgs_nil))))
  (pss_cons (ps_asg (pe_call G_whole_parts (hr.mono (by decide)) rfl T.g_whole_parts T.F_whole_parts.kp T.b_whole_parts .nil pass0 (pa_cons (pe_call G_row_numbers (hr.mono (by decide)) rfl T.g_row_numbers T.F_row_numbers.kp T.b_row_numbers .nil pass0 (pa_cons (pv 1) pa_nil)) pa_nil)) (pg_tup rfl (pgs_cons (pg_name (i := 4) sc_sum_row.nd rfl (.inr rfl)) (pgs_cons (pg_name (i := 5) sc_sum_row.nd rfl (.inl rfl)) pgs_nil))))
  (pss_cons (ps_set (i := 6) sc_sum_row.nd rfl (.inl rfl) (pe_lst pa_nil))
  (pss_cons (ps_for PassesOwn.never rfl (pi_range1 rfl T.z_range (pa_cons (pe_callB (call_min2 rfl) rfl T.z_min (by decide +kernel) (pa_cons (pe_callB call_len_seq rfl T.z_len (by decide +kernel) (pa_cons (pv 2) pa_nil)) (pa_cons (pe_callB call_len_seq rfl T.z_len (by decide +kernel) (pa_cons (pv 4) pa_nil)) pa_nil))) pa_nil)) (pg_name (i := 7) sc_sum_row.nd rfl (.inr rfl)) (pss_cons (ps_set (i := 8) sc_sum_row.nd rfl (.inl rfl) (pe_callB (cr_sum rfl) rfl T.z_sum (by decide +kernel) (pa_cons (pe_lc (own := [("i", 9)]) (g := gName 9) (tt := tYes) rfl sc_sum_row.nd (pi_range1 rfl T.z_range (pa_cons (pe_op op_add (pv 7) pe_int) pa_nil)) (blkOk_by (N := N_sum_row) (sc := defScope s_sum_row) (by decide +kernel)) (fun _ _ _ _ _ => (pg_name (i := 9) sc_sum_row.nd rfl (.inl rfl))) (fun _ _ _ _ _ => pts_nil) (fun _ _ _ _ _ => (pe_op op_mulW (pe_op op_mulW (pe_callBfun cr_comb rfl T.g_comb (pa_cons (pv 7) (pa_cons (pv 9) pa_nil))) (pe_ix (ix_listK (K := K) rfl) (pv 2) (pv 9) (fun _ _ => rfl))) (pe_ix (ix_listK (K := K) rfl) (pv 4) (pe_op op_sub (pv 7) (pv 9)) (fun _ _ => rfl))))) pa_nil)))
  (pss_one (ps_expr (pe_bm PySem.F.plainAttrs_list PySem.F.slot_list_append PySem.F.type_list_append mt_append (pv 6) (pa_cons (pe_make T.M_Ratio G_Ratio_init (hr.mono (by decide)) rfl T.g_Ratio b_Ratio_init2 d_Ratio_init2 pass0 (pa_cons (pv 8) (pa_cons (pe_op op_mulW (pv 3) (pv 5)) pa_nil))) pa_nil))))))
  (pss_one (ps_ret (pv 6))))))), ?_⟩
    refine ⟨_, rfl, v, xs, f, 500, 38, rfl, hv, rx, x0, x1, fun H1 d1 xs1 s1 h1 l1 r1 => ?_⟩
    refine ⟨d1, xs1, f, 500, 38, rfl, h1, r1, by omega, by decide, by decide, fun H2 tp l ts B s2 htp hts lt b0 b1 ht => ?_⟩
    refine ⟨tp, _, rfl, .of htp, rfl, _, _, rfl, _, _, rfl, rfl, ?_⟩
    have s12 := s1.trans s2
    refine ⟨_, rfl, u, ys, g, 500, 38, rfl, hu.same s12, ry.same s12, y0, y1, fun H3 d3 ys3 s3 h3 l3 r3 => ?_⟩
    refine ⟨d3, ys3, g, 500, 38, rfl, h3, r3, by omega, by decide, by decide, fun H4 tp4 l4 us B2 s4 htp4 hus lu b20 b21 hu4 => ?_⟩
    refine ⟨tp4, _, rfl, .of htp4, rfl, _, _, rfl, _, _, rfl, rfl, ?_⟩
    have hts4 := s4 _ _ (s3 _ _ hts)
    have s14 := (s12.trans s3).trans s4
    have e1 : (0 : Int) + 0 = 0 := rfl
    refine ⟨by show 0 ≤ sizeLine; decide, fun d nd => ?_⟩
    refine ⟨_, rfl, l, _, rfl, .inl (.of ((same_upd nd) _ _ hts4)), _, rfl, l4, _, rfl, .inl (.of ((same_upd nd) _ _ hus)), _, _, rfl, _, rfl, ?_, ?_, ?_⟩
    · rw [List.length_map, List.length_map]
      split <;> omega
    · rw [List.length_map, List.length_map]
      split <;> omega
    have hn : (if ((us.map V.int).length : Int) < ((ts.map V.int).length : Int) then ((us.map V.int).length : Int) else ((ts.map V.int).length : Int)).toNat = min xs.length ys.length := by
      rw [List.length_map, List.length_map]
      split <;> omega
    rw [hn]
    refine for_range (lo := 0) (fun k σ G => Same H4 G ∧ (∃ y7 y8 : Option V, σ = [some v, some u, some (.ref l), some (.int B), some (.ref l4), some (.int B2), some (.ref d), y7, y8, none]) ∧ ∃ zs : List V, zs.length = k ∧ G d = some (.lst zs) ∧ Rats A.Ratio 2015 1000 G zs (fun k => (conv ts us k, B * B2)))
      ⟨same_upd nd, ⟨_, _, rfl⟩, [], rfl, upd_same, Rats.nil⟩ ?_ ?_
    · rintro k σ G hk ⟨sm, ⟨y7, y8, rfl⟩, zs, hz, hd, hr⟩
      have k1 : k < ts.length := by omega
      have k2 : k < us.length := by omega
      have k3 : k < 13 := by omega
      refine ⟨_, rfl, _, _, rfl, rfl, _, rfl, by omega, by omega, fun d5 nd5 => ?_⟩
      have hm : (0 + (k : Int) + 1).toNat = k + 1 := by omega
      rw [hm]
      refine lc_range (lo := 0) (fun i G2 => Same G G2 ∧ G2 d5 = some (.lst (((List.range i).map (term k ts us)).map V.int))) ⟨same_upd nd5, upd_same⟩ ?_ ?_
      · rintro i G2 hi ⟨sm2, hd5⟩
        have hts2 := sm2 _ _ (sm _ _ hts4)
        have hus2 := sm2 _ _ (sm _ _ hus)
        have ek : 0 + (k : Int) - (0 + (i : Int)) = 0 + ((k - i : Nat) : Int) := by omega
        have ht1 := (getD_tops ht (show i < ts.length by omega)).1
        have hu1 := (getD_tops hu4 (show k - i < us.length by omega)).1
        have hc := comb_small k k3 i (by omega)
        have ez : PySem.W.mcComb (0 + (k : Int)) (0 + (i : Int)) = PySem.W.mcComb (k : Int) (i : Int) := by rw [Int.zero_add, Int.zero_add]
        refine ⟨rfl, _, rfl, _, rfl, _, _, rfl, by omega, by omega, by omega, by omega, _, rfl, _, rfl, l, _, _, _, rfl, rfl, .of hts2, atI_getD (show i < ts.length by omega), _, _, rfl, rfl, ?_, ?_⟩
        · rw [ez]
          exact (sm_of hc (by decide)).mul (sm_of ht1 (by decide))
        refine ⟨_, rfl, _, rfl, _, rfl, _, _, rfl, rfl, l4, _, _, _, rfl, rfl, .of hus2, by rw [ek]; exact atI_getD (show k - i < us.length by omega), _, _, rfl, rfl, ?_, ?_⟩
        · rw [ez]
          exact (sm_of (nmul hc ht1) (by decide)).mul (sm_of hu1 (by decide))
        refine ⟨_, hd5, by rw [List.length_map, List.length_map, List.length_range]; exact small1000 (by omega), same_push sm2 nd5, ?_⟩
        rw [upd_same, ez, List.range_succ, List.map_append, List.map_append]
        rfl
      · rintro G2 ⟨sm2, hd5⟩
        refine ⟨d5, (List.range (k + 1)).map (term k ts us), rfl, .of hd5, ?_⟩
        have cb := conv_lt ht hu4 k3 k1 k2
        refine ⟨_, rfl, .inl ⟨rfl, _, .of (sm2 _ _ hd)⟩, _, rfl, _, rfl, _, rfl, _, _, rfl, rfl, (sm_of b1 (by decide)).mul (sm_of b21 (by decide)), fun x dx nx nx2 ne => ⟨x, dx, _, _, rfl, upd_same, ?_, ?_, fun t' b' nm => ⟨rfl, ?_⟩⟩⟩
        · have := Int.mul_pos b0 b20
          omega
        · exact sm_of (nmul b1 b21) (by decide)
        obtain ⟨s6, r6⟩ := made (C := A.Ratio) nx nx2 ne t' b'
        have hd6 := s6 _ _ (sm2 _ _ hd)
        refine ⟨d, zs, _, rfl, rfl, hd6, small1000 (by omega), ?_⟩
        subst hz
        have fv : IsF A.Ratio 2015 1000 _ (.ref x) (conv ts us zs.length) (B * B2) := ⟨t', b', r6, nm.pos, Int.mul_pos b0 b20, nm.cross, Nat.lt_of_le_of_lt nm.le1 cb, Nat.lt_of_le_of_lt nm.le2 (nmul b1 b21)⟩
        exact ⟨same_push ((sm.trans sm2).trans s6) nd, ⟨_, _, rfl⟩, zs ++ [.ref x], by rw [List.length_append]; rfl, upd_same, ((hr.same sm2).same s6).push hd6 fv⟩
    · rintro σ G ⟨sm, ⟨y7, y8, rfl⟩, zs, hz, hd, hr⟩
      exact ⟨_, rfl, q G d zs ts us B B2 (s14.trans sm) hd hz ht hu4 (by omega) (by omega) b0 b20 hr⟩

end

end Mo

namespace Mo
open PySem PySem.Spec PyProof.Rows L2 MoL MoW
open C8 (pss_cut tCut)
section
variable {P : Program} {w : World} {K : PySem.W.Frag} {mg : Str → Option Value} {base : Heap} {A : Ad} {D : Fd}
/-! ### the law's drawing of numbers -/
/-- the six places of the feed at f -/
abbrev six (l : Addr) (i r t n s : Int) : HO := .lst [.ref l, .int i, .int r, .int t, .int n, .int s]
def FeedAt (H : Hp) (f : Addr) : Prop := ∃ (l : Addr) (xs : List Int) (i : Nat) (r t n s : Int), H f = some (six l i r t n s) ∧ H l = some (.lst (xs.map V.int)) ∧ i ≤ xs.length ∧ xs.length ≤ 63 ∧ 0 ≤ r
/-- from H to H' only the feed has moved on, and new things have come -/
structure Stp (f : Addr) (H H' : Hp) : Prop where
  feed : FeedAt H' f
  keep : ∀ b o, b ≠ f → H b = some o → H' b = some o
  ls : ∀ l i r t n s, H f = some (six l i r t n s) → ∃ i' r' t' n' s', H' f = some (six l i' r' t' n' s')
theorem FeedAt.same {H H' : Hp} {f : Addr} (h : FeedAt H f) (s : Same H H') : FeedAt H' f := by
  obtain ⟨l, xs, i, r, t, n, z, h1, h2, h3⟩ := h
  exact ⟨l, xs, i, r, t, n, z, s _ _ h1, s _ _ h2, h3⟩
theorem Stp.refl {H : Hp} {f : Addr} (h : FeedAt H f) : Stp f H H := ⟨h, fun _ _ _ e => e, fun _ _ _ _ _ _ e => ⟨_, _, _, _, _, e⟩⟩
theorem Stp.trans {H H1 H2 : Hp} {f : Addr} (a : Stp f H H1) (b : Stp f H1 H2) : Stp f H H2 := ⟨b.feed, fun c o n e => b.keep c o n (a.keep c o n e), fun _ _ _ _ _ _ e => let ⟨_, _, _, _, _, e1⟩ := a.ls _ _ _ _ _ _ e; b.ls _ _ _ _ _ _ e1⟩
theorem Stp.of {H H1 H2 : Hp} {f : Addr} (a : Stp f H H1) (b : Same H1 H2) : Stp f H H2 := ⟨a.feed.same b, fun c o n e => b c o (a.keep c o n e), fun _ _ _ _ _ _ e => let ⟨i', r', t', n', s', e1⟩ := a.ls _ _ _ _ _ _ e; ⟨i', r', t', n', s', b _ _ e1⟩⟩
theorem FeedAt.ne {H : Hp} {f p : Addr} {o : HO} (h : FeedAt H f) (hp : H p = some o) (d : ∀ l i r t n s, six l i r t n s ≠ o) : p ≠ f := by
  obtain ⟨l, xs, i, r, t, n, z, h1, _⟩ := h
  exact ne_of hp h1 fun e => d _ _ _ _ _ _ e.symm
theorem FeedAt.lt {H : Hp} {f p : Addr} (h : FeedAt H f) (hp : H p = none) : f ≠ p := by
  obtain ⟨l, xs, i, r, t, n, z, h1, _⟩ := h
  exact ne_of_none h1 hp

theorem stp_none {H H1 : Hp} {f p : Addr} (st : Stp f H H1) (ne : p ≠ f) (h : H1 p = none) : H p = none := by
  cases e : H p with
  | none => rfl
  | some o => rw [st.keep p o ne e] at h; cases h
theorem Stp.push {H G : Hp} {f d : Addr} {o : HO} (st : Stp f H G) (F : FeedAt H f) (hd : H d = none) (hf : d ≠ f) : Stp f H (upd G d o) := by
  obtain ⟨l0, xs0, i0, r0, t0, n0, z0, e1, e2, _⟩ := F
  obtain ⟨i', r', t', n', s', e3⟩ := st.ls _ _ _ _ _ _ e1
  obtain ⟨l, xs, i, r, t, n, z, h1, h2, h3⟩ := st.feed
  rw [e3] at h1
  have el : l0 = l := by
    have := HO.lst.inj (Option.some.inj h1)
    cases this
    rfl
  subst el
  have dl : l0 ≠ d := fun z => by rw [z, hd] at e2; cases e2
  refine ⟨⟨l0, xs, i, r, t, n, z, ?_, ?_, h3⟩, fun b u hb e => ?_, fun l i r t n s e => ?_⟩
  · rw [upd_ne (Ne.symm hf), e3]
    exact h1
  · rw [upd_ne dl]
    exact h2
  · have : b ≠ d := fun z => by rw [z, hd] at e; cases e
    rw [upd_ne this]
    exact st.keep b u hb e
  · obtain ⟨i2, r2, t2, n2, s2, e4⟩ := st.ls _ _ _ _ _ _ e
    exact ⟨i2, r2, t2, n2, s2, by rw [upd_ne (Ne.symm hf)]; exact e4⟩
def sp_feed (K : PySem.W.Frag) : Sp := fun vs H Q _ => ∃ (a : Addr) (ns : List Int), vs = [.ref a] ∧ SqL K H a (ns.map V.int) ∧ ns.length ≤ 63 ∧ ∀ H' f, Same H H' → FeedAt H' f → H f = none → Q (.ref f) H'
theorem ok__law_feed (T : Txt K mg A D) : FnOk P w K mg base CX0 1 A.f__law_feed D.f__law_feed ["_law_script"] (sp_feed K) := by
  skip
  refine T.F__law_feed.ok sc__law_feed (fun vs H Q E h => ?_) (fun cdv A' outer s H vs Q E hr h => ?_)
  · obtain ⟨a, ns, rfl, _⟩ := h
    rfl
  · obtain ⟨a, ns, rfl, hS, hl, q⟩ := h
    refine ⟨_, (pss_one (ps_ret (pe_lst (pa_cons (pe_lc (own := [("_law_cell", 1)]) (g := gName 1) (tt := tYes) rfl sc__law_feed.nd (pi_list (pe_slice sl_list (pv 0) po_none (po_some pe_int))) (blkOk_by (N := N__law_feed) (sc := defScope s__law_feed) (by decide +kernel)) (fun _ _ _ _ _ => (pg_name (i := 1) sc__law_feed.nd rfl (.inl rfl))) (fun _ _ _ _ _ => pts_nil) (fun _ _ _ _ _ => (pe_callB call_abs rfl T.z_abs (by decide +kernel) (pa_cons (pe_callTy call_int1 rfl T.z_int (by decide +kernel) (pa_cons (pv 1) pa_nil)) pa_nil)))) (pa_cons pe_int (pa_cons pe_int (pa_cons pe_int (pa_cons pe_int (pa_cons pe_int pa_nil))))))))), ?_⟩
    refine ⟨_, rfl, 63, rfl, a, _, rfl, hS, fun p np => ?_⟩
    have s1 : Same H (upd H p (.lst (cutV (ns.map V.int) none (some 63)))) := same_upd np
    obtain ⟨zs, hz, hzl⟩ : ∃ zs : List Int, cutV (ns.map V.int) none (some 63) = zs.map V.int ∧ zs.length ≤ 63 := by
      refine ⟨(ns.drop (HT.sIx (ns.map V.int).length 0 none)).take (HT.sIx (ns.map V.int).length (ns.map V.int).length (some 63) - HT.sIx (ns.map V.int).length 0 none), ?_, ?_⟩
      · unfold cutV
        rw [List.map_take, List.map_drop]
      · rw [List.length_take, List.length_drop]
        omega
    rw [hz] at s1 ⊢
    refine ⟨p, rfl, ⟨_, .of upd_same⟩, fun d nd => ?_⟩
    have npd : p ≠ d := fun e => by rw [e, upd_same] at nd; cases nd
    refine lc_list (K := K) (a := p) (xs := zs.map V.int) (fun i H' => Same H H' ∧ H' p = some (.lst (zs.map V.int)) ∧ ∃ ys : List Int, ys.length = i ∧ H' d = some (.lst (ys.map V.int)))
      ⟨s1.trans (same_upd nd), by rw [upd_ne npd, upd_same], [], rfl, upd_same⟩ (fun i H' _ h => .of h.2.1) ?_ ?_
    · rintro i x H' hx ⟨sm, hp, ys, hy, hd⟩
      obtain ⟨z, hz', rfl⟩ : ∃ z, zs[i]? = some z ∧ x = .int z := by
        rw [List.getElem?_map] at hx
        cases e : zs[i]? with
        | none => rw [e] at hx; cases hx
        | some z => rw [e] at hx; exact ⟨z, rfl, (Option.some.inj hx).symm⟩
      have il : i < zs.length := (List.getElem?_eq_some_iff.mp hz').1
      refine ⟨rfl, ?_⟩
      refine ⟨_, rfl, .inl ⟨z, rfl, z, rfl, _, hd, ?_, ⟨fun b o e => ?_, ?_, ys ++ [if z < 0 then -z else z], ?_, ?_⟩⟩⟩
      · rw [List.length_map, hy]
        exact small1000 (by omega)
      · have nb : b ≠ d := fun e' => by
          subst e'
          rw [s1.free nd] at e
          cases e
        rw [upd_ne nb]
        exact sm _ _ e
      · rw [upd_ne npd]
        exact hp
      · rw [List.length_append, hy]
        rfl
      · rw [upd_same, List.map_append]
        rfl
    · rintro H' ⟨sm, hp, ys, hy, hd⟩
      rw [List.length_map] at hy
      refine ⟨by show 6 ≤ sizeLine; decide, fun f nf => ?_⟩
      have nfd : d ≠ f := ne_of_none hd nf
      refine q _ f (sm.trans (same_upd nf)) ⟨d, ys, 0, 0, 0, 0, 0, upd_same, by rw [upd_ne nfd]; exact hd, Nat.zero_le _, by omega, Int.le_refl _⟩ (sm.free nf)

/-- the feed at f with these five, the rest as in H -/
structure Now (H H' : Hp) (f l : Addr) (i r t n s : Int) : Prop where
  at_ : H' f = some (six l i r t n s)
  oth : ∀ b, b ≠ f → H' b = H b
theorem Now.put {H H' : Hp} {f l : Addr} {i r t n s i' r' t' n' s' : Int} (h : Now H H' f l i r t n s) : Now H (upd H' f (six l i' r' t' n' s')) f l i' r' t' n' s' :=
  ⟨upd_same, fun b hb => by rw [upd_ne hb]; exact h.oth b hb⟩
theorem fdiv_nn {a b : Int} (h : 0 ≤ a) (h' : 0 < b) : 0 ≤ a.fdiv b := by
  rw [Int.fdiv_eq_ediv_of_nonneg a (by omega)]
  exact Int.ediv_nonneg h (by omega)
theorem lt_mod : (0 : Int) < 2147483647 := by decide
theorem lt_mod' : (0 : Int) < 2147483399 := by decide
def sp_take : Sp := fun vs H Q _ => ∃ (f : Addr) (z : Int), vs = [.ref f, .int z] ∧ FeedAt H f ∧ 0 < z ∧ Sm z ∧ ∀ H' v, 0 ≤ v → v < z → Stp f H H' → Q (.int v) H'
theorem ok__law_take (T : Txt K mg A D) : FnOk P w K mg base CX0 1 A.f__law_take D.f__law_take ["_law_feed_here", "_law_size"] (sp_take) := by
  skip
  refine T.F__law_take.ok sc__law_take (fun vs H Q E h => ?_) (fun cdv A' outer s H vs Q E hr h => ?_)
  · obtain ⟨f, z, rfl, _⟩ := h
    rfl
  · obtain ⟨f, z, rfl, ⟨l, xs, i, r, t, n, c, hf, hl, hi, hx, hr0⟩, hz, sz, q⟩ := h
    refine ⟨_, (pss_cons (ps_augS (pv 0) pe_int get_list pe_int ip_add set_list)
  (pss_cut (ps_if (PW.pt (pw_and (pt_cmpR op_eq (pe_ix ix_list (pv 0) pe_int (fun _ _ => rfl)) pe_int (nomark _)) (pw_and (pt_cmpR op_eq (pe_ix ix_list (pv 0) pe_int (fun _ _ => rfl)) pe_int (nomark _)) (pw_and1 (pt_cmpR op_lt (pe_ix ix_list (pv 0) pe_int (fun _ _ => rfl)) (pe_callB call_len_seq rfl T.z_len (by decide +kernel) (pa_cons (pe_ix ix_list (pv 0) pe_int (fun _ _ => rfl)) pa_nil)) (nomark _)))))) (pss_cons (ps_set (i := 2) sc__law_take.nd rfl (.inl rfl) (pe_ix ix_list (pe_ix ix_list (pv 0) pe_int (fun _ _ => rfl)) (pe_ix ix_list (pv 0) pe_int (fun _ _ => rfl)) (fun _ _ => rfl)))
  (pss_cons (ps_augS (pv 0) pe_int get_list pe_int ip_add set_list)
  (pss_one (ps_if (pt_cmpR op_ge (pv 2) (pe_op op_pow pe_int pe_int) (nomark _)) (pss_one (ps_asg (pv 2) (pg_sub (pv 0) pe_int set_list))) (pss_cons (ps_asg pe_int (pg_sub (pv 0) pe_int set_list))
  (pss_one (ps_asg (pe_op op_add (pe_ix ix_list (pv 0) pe_int (fun _ _ => rfl)) (pv 2)) (pg_sub (pv 0) pe_int set_list)))))))) pss_nil)
  (pss_cons (ps_if (pt_cmpR op_gt (pe_ix ix_list (pv 0) pe_int (fun _ _ => rfl)) pe_int (nomark _)) (pss_cons (ps_set (i := 3) sc__law_take.nd rfl (.inl rfl) (pe_op op_mod (pe_callTy call_int1 rfl T.z_int (by decide +kernel) (pa_cons (pe_ix ix_list (pv 0) pe_int (fun _ _ => rfl)) pa_nil)) (pv 1)))
  (pss_cons (ps_asg (pe_op op_fdivA (pe_ix ix_list (pv 0) pe_int (fun _ _ => rfl)) (pv 1)) (pg_sub (pv 0) pe_int set_list))
  (pss_one (ps_ret (pv 3))))) pss_nil)
  (pss_cons (ps_asg (pe_callB (call_max2 rfl) rfl T.z_max (by decide +kernel) (pa_cons pe_int (pa_cons (pe_op op_sub (pe_ix ix_list (pv 0) pe_int (fun _ _ => rfl)) pe_int) pa_nil))) (pg_sub (pv 0) pe_int set_list))
  (pss_cons (ps_set (i := 4) sc__law_take.nd rfl (.inl rfl) (pe_op op_mod (pe_callTy call_int1 rfl T.z_int (by decide +kernel) (pa_cons (pe_op op_mul (pe_op op_add (pe_op op_add (pe_ix ix_list (pv 0) pe_int (fun _ _ => rfl)) (pe_op op_mul pe_int (pe_ix ix_list (pv 0) pe_int (fun _ _ => rfl)))) pe_int) pe_int) pa_nil)) pe_int))
  (pss_cons (ps_set (i := 4) sc__law_take.nd rfl (.inl rfl) (pe_op op_mod (pe_callTy call_int1 rfl T.z_int (by decide +kernel) (pa_cons (pe_op op_mul (pv 4) (pe_op op_add (pe_op op_fdivA (pv 4) pe_int) pe_int)) pa_nil)) pe_int))
  (pss_cons (ps_set (i := 4) sc__law_take.nd rfl (.inl rfl) (pe_op op_mod (pe_callTy call_int1 rfl T.z_int (by decide +kernel) (pa_cons (pe_op op_mul (pv 4) (pe_op op_add (pe_op op_fdivA (pv 4) pe_int) pe_int)) pa_nil)) pe_int))
  (pss_one (ps_ret (pe_op op_mod (pv 4) (pv 1))))))))))), ?_⟩
    have N0 : Now H H f l i r t n c := ⟨hf, fun _ _ => rfl⟩
    have lf : l ≠ f := ne_of hl hf fun e => by
      have := HO.lst.inj e
      cases xs with
      | nil => cases this
      | cons x xs => cases this
    have fin : ∀ {H' i' r' t' n' c'} (v : Int), Now H H' f l ((i' : Nat) : Int) r' t' n' c' → i' ≤ xs.length → 0 ≤ r' → 0 ≤ v → v < z → Q (.int v) H' := fun v N h1 h2 h3 h4 =>
      q _ v h3 h4 ⟨⟨l, xs, _, _, _, _, _, N.at_, by rw [N.oth l lf]; exact hl, h1, hx, h2⟩, fun b o hb e => by rw [N.oth b hb]; exact e, fun l' i0 r0 t0 n0 s0 e => by rw [hf] at e; cases e; exact ⟨_, _, _, _, _, N.at_⟩⟩
    -- feed[4] += 1
    refine ⟨_, rfl, f, _, 4, _, rfl, rfl, .of hf, rfl, n, 1, rfl, rfl, f, _, 4, 4, rfl, rfl, hf, rfl, ?_⟩
    have N1 : Now H (upd H f (six l i r t (n + 1) c)) f l i r t (n + 1) c := N0.put
    show tCut _ _ _ _ (upd H f (six l i r t (n + 1) c))
    generalize upd H f (six l i r t (n + 1) c) = H1 at N1
    -- the reading of a new cell
    refine ⟨fun σ H' => (∃ y, σ = [some (.ref f), some (.int z), y, none, none]) ∧ ∃ i' r' t' n' c', Now H H' f l ((i' : Nat) : Int) r' t' n' c' ∧ i' ≤ xs.length ∧ 0 ≤ r', ?_, ?_⟩
    · have skip : ∀ σ : L2.St, σ = [some (.ref f), some (.int z), none, none, none] → (∃ y, σ = [some (.ref f), some (.int z), y, none, none]) ∧ ∃ i' r' t' n' c', Now H H1 f l ((i' : Nat) : Int) r' t' n' c' ∧ i' ≤ xs.length ∧ 0 ≤ r' :=
        fun σ e => ⟨⟨_, e⟩, _, _, _, _, _, N1, hi, hr0⟩
      refine ⟨_, rfl, f, _, 2, _, rfl, rfl, .of N1.at_, rfl, rfl, _, rfl, ?_⟩
      refine ite2 (fun _ => ?_) (fun _ => iteF (skip _ rfl))
      refine ⟨_, rfl, f, _, 3, _, rfl, rfl, .of N1.at_, rfl, rfl, _, rfl, ?_⟩
      refine ite2 (fun _ => ?_) (fun _ => iteF (skip _ rfl))
      have hl1 : H1 l = some (.lst (xs.map V.int)) := by rw [N1.oth l lf]; exact hl
      refine ⟨_, rfl, f, _, 1, _, rfl, rfl, .of N1.at_, rfl, _, rfl, f, _, 0, _, rfl, rfl, .of N1.at_, rfl, l, _, rfl, .inl (.of hl1), _, _, rfl, rfl, _, rfl, ?_⟩
      refine ite2 (fun hlt => ?_) (fun _ => skip _ rfl)
      have hlt' : i < xs.length := by
        have := of_decide_eq_true hlt
        rw [List.length_map] at this
        omega
      have gi : (xs.map V.int)[i]? = some (.int xs[i]) := by
        rw [List.getElem?_map, List.getElem?_eq_getElem hlt']
        rfl
      refine ⟨_, rfl, f, _, 0, _, rfl, rfl, .of N1.at_, rfl, _, rfl, f, _, 1, _, rfl, rfl, .of N1.at_, rfl, l, _, i, _, rfl, rfl, .of hl1, atI_nat gi, ?_⟩
      refine ⟨_, rfl, f, _, 1, _, rfl, rfl, .of N1.at_, rfl, i, 1, rfl, rfl, f, _, 1, 1, rfl, rfl, N1.at_, rfl, ?_⟩
      have ei : ((i : Int) + 1) = ((i + 1 : Nat) : Int) := by omega
      have N2 : Now H (upd H1 f (six l ((i : Int) + 1) r t (n + 1) c)) f l ((i : Int) + 1) r t (n + 1) c := N1.put
      refine ⟨_, rfl, _, _, rfl, rfl, ⟨by decide, by decide, by decide⟩, _, _, rfl, rfl, _, rfl, ?_⟩
      refine ite2 (fun hbig => ?_) (fun hbig => ?_)
      · have hb : 0 ≤ xs[i] := by
          have := of_decide_eq_true hbig
          have e : (10 : Int) ^ (18 : Int).toNat = 1000000000000000000 := by decide
          rw [e] at this
          omega
        refine ⟨_, rfl, _, rfl, f, _, 2, 2, rfl, rfl, N2.at_, rfl, ⟨_, rfl⟩, ?_⟩
        exact ⟨i + 1, _, _, _, _, ei ▸ N2.put, hlt', hb⟩
      · refine ⟨_, rfl, f, _, 3, 3, rfl, rfl, N2.at_, rfl, ?_⟩
        have N3 : Now H (upd (upd H1 f (six l ((i : Int) + 1) r t (n + 1) c)) f (six l ((i : Int) + 1) r 7 (n + 1) c)) f l ((i : Int) + 1) r 7 (n + 1) c := N2.put
        refine ⟨_, rfl, f, _, 5, _, rfl, rfl, .of N3.at_, rfl, _, rfl, _, _, rfl, rfl, _, rfl, f, _, 5, 5, rfl, rfl, N3.at_, rfl, ⟨_, rfl⟩, ?_⟩
        exact ⟨i + 1, _, _, _, _, ei ▸ N3.put, hlt', hr0⟩
    -- a digit
    · rintro σ H2 ⟨⟨y, rfl⟩, i', r', t', n', c', N2, hi', hr'⟩
      refine ⟨_, rfl, f, _, 2, _, rfl, rfl, .of N2.at_, rfl, _, _, rfl, rfl, _, rfl, ?_⟩
      refine ite2 (fun _ => ?_) (fun _ => ?_)
      · refine ⟨_, rfl, f, _, 2, _, rfl, rfl, .of N2.at_, rfl, .inl ⟨_, rfl, _, rfl, _, _, rfl, rfl, hz, ?_⟩⟩
        refine ⟨_, rfl, f, _, 2, _, rfl, rfl, .of N2.at_, rfl, _, rfl, _, _, rfl, rfl, sz.div (by omega), _, rfl, f, _, 2, 2, rfl, rfl, N2.at_, rfl, ?_⟩
        exact ⟨_, rfl, fin _ N2.put hi' (fdiv_nn hr' hz) (Int.emod_nonneg _ (by omega)) (Int.emod_lt_of_pos _ hz)⟩
      · refine ⟨_, rfl, f, _, 3, _, rfl, rfl, .of N2.at_, rfl, _, _, rfl, rfl, _, _, rfl, _, rfl, f, _, 3, 3, rfl, rfl, N2.at_, rfl, ?_⟩
        have N3 : ∀ t'', Now H (upd H2 f (six l ((i' : Nat) : Int) r' t'' n' c')) f l ((i' : Nat) : Int) r' t'' n' c' := fun _ => N2.put
        show tSeq _ _ _ _ (upd H2 f (six l ((i' : Nat) : Int) r' _ n' c'))
        generalize hT : (if t' - 1 > 0 then t' - 1 else (0 : Int)) = t3
        have N3 := N3 t3
        generalize upd H2 f (six l ((i' : Nat) : Int) r' t3 n' c') = H3 at N3
        refine ⟨_, rfl, f, _, 5, _, rfl, rfl, .of N3.at_, rfl, _, rfl, f, _, 4, _, rfl, rfl, .of N3.at_, rfl, _, _, rfl, rfl, .inl ⟨by decide, by decide⟩, _, _, rfl, rfl, _, _, rfl, rfl, _, _, rfl, rfl, .inr ⟨by decide, by decide⟩, .inl ⟨_, rfl, _, _, rfl, rfl, lt_mod, ?_⟩⟩
        have b1 : ∀ x : Int, 0 ≤ x % 2147483647 ∧ x % 2147483647 < 2147483647 := fun x => ⟨Int.emod_nonneg _ (by decide), Int.emod_lt_of_pos _ (by decide)⟩
        generalize hA : ((c' + 7919 * n' + 1) * 48271) % 2147483647 = a1
        have a1b := b1 ((c' + 7919 * n' + 1) * 48271)
        rw [hA] at a1b
        refine ⟨_, rfl, _, rfl, _, _, rfl, rfl, ⟨by decide, by decide⟩, _, _, rfl, rfl, _, _, rfl, rfl, .inl ⟨by omega, by omega⟩, .inl ⟨_, rfl, _, _, rfl, rfl, lt_mod, ?_⟩⟩
        generalize hB : (a1 * (a1.fdiv 1009 + 69621)) % 2147483647 = a2
        have a2b := b1 (a1 * (a1.fdiv 1009 + 69621))
        rw [hB] at a2b
        refine ⟨_, rfl, _, rfl, _, _, rfl, rfl, ⟨by decide, by decide⟩, _, _, rfl, rfl, _, _, rfl, rfl, .inl ⟨by omega, by omega⟩, .inl ⟨_, rfl, _, _, rfl, rfl, lt_mod', ?_⟩⟩
        exact ⟨_, rfl, _, rfl, _, _, rfl, rfl, hz, fin _ N3 hi' hr' (Int.emod_nonneg _ (by omega)) (Int.emod_lt_of_pos _ hz)⟩
def sp_number : Sp := fun vs H Q _ => ∃ (f : Addr) (z : Int), vs = [.ref f, .int z] ∧ FeedAt H f ∧ 0 < z ∧ Sm z ∧ ∀ H' v, -z < v → v < z → Stp f H H' → Q (.int v) H'
theorem ok__law_number (T : Txt K mg A D) : FnOk P w K mg base CX0 2 A.f__law_number D.f__law_number ["_law_feed_here", "_law_size"] (sp_number) := by
  have G__law_take : FnOk P w K mg base CX0 1 A.f__law_take D.f__law_take ["_law_feed_here", "_law_size"] (sp_take) := ok__law_take T
  refine T.F__law_number.ok sc__law_number (fun vs H Q E h => ?_) (fun cdv A' outer s H vs Q E hr h => ?_)
  · obtain ⟨f, z, rfl, _⟩ := h
    rfl
  · obtain ⟨f, z, rfl, hf, hz, sz, q⟩ := h
    refine ⟨_, (pss_cons (ps_set (i := 2) sc__law_number.nd rfl (.inl rfl) (pe_op op_sub pe_int (pe_op op_mul pe_int (pe_call G__law_take (hr.mono (by decide)) rfl T.g__law_take T.F__law_take.kp T.b__law_take .nil pass0 (pa_cons (pv 0) (pa_cons pe_int pa_nil))))))
  (pss_one (ps_ret (pe_op op_mul (pv 2) (pe_call G__law_take (hr.mono (by decide)) rfl T.g__law_take T.F__law_take.kp T.b__law_take .nil pass0 (pa_cons (pv 0) (pa_cons (pv 1) pa_nil))))))), ?_⟩
    refine ⟨_, rfl, f, 2, rfl, hf, by decide, .ab (by decide) (by decide), fun H1 v v0 v1 st => ⟨_, _, rfl, rfl, .inl ⟨by decide, by decide⟩, _, _, rfl, rfl, ?_⟩⟩
    refine ⟨_, rfl, _, rfl, _, rfl, f, z, rfl, st.feed, hz, sz, fun H2 u u0 u1 st2 => ⟨_, _, rfl, rfl, .inl ⟨by omega, by omega⟩, q _ _ ?_ ?_ (st.trans st2)⟩⟩
    · rcases (by omega : v = 0 ∨ v = 1) with e | e <;> subst e <;> omega
    · rcases (by omega : v = 0 ∨ v = 1) with e | e <;> subst e <;> omega

end

section
variable {P : Program} {w : World} {K : PySem.W.Frag} {mg : Str → Option Value} {base : Heap} {A : Ad} {D : Fd}
theorem ok__law_is_integer (T : Txt K mg A D) : FnOk P w K mg base CX0 1 A.f__law_is_integer D.f__law_is_integer ["_law_value"] (sp_is_whole K) := by
  skip
  refine T.F__law_is_integer.ok sc__law_is_integer (fun vs H Q E h => ?_) (fun cdv A' outer s H vs Q E hr h => ?_)
  · obtain ⟨x, b, rfl, _⟩ := h
    rfl
  · obtain ⟨x, b, rfl, ⟨t, b1, b2, ty, e1, e2, rfl⟩, q⟩ := h
    refine ⟨_, (pss_one (ps_ret (pe_and (pe_callB call_isi rfl T.z_isinstance (by decide +kernel) (pa_cons (pv 0) (pa_cons (pe_bltn (v := .ty "int") rfl T.z_int (by decide +kernel) rfl) pa_nil))) (pe_one (pe_not (pe_callB call_isi rfl T.z_isinstance (by decide +kernel) (pa_cons (pv 0) (pa_cons (pe_bltn (v := .ty "bool") rfl T.z_bool (by decide +kernel) rfl) pa_nil)))))))), ?_⟩
    refine ⟨x, rfl, x, .ty "int", t, _, b1, rfl, .ty _, ty, e1, b1, rfl, ?_⟩
    cases b1 with
    | false => exact iteF q
    | true => exact iteT ⟨x, rfl, x, .ty "bool", t, _, b2, rfl, .ty _, ty, e2 rfl, b2, rfl, q⟩
def sp_is (C : Addr) : Sp := fun vs H Q _ => ∃ v t b p q', vs = [v, .int p, .int q'] ∧ RatAt C H v t b ∧ 0 < b ∧ t * q' = p * b ∧ Sm t ∧ Sm b ∧ Sm p ∧ Sm q' ∧ Q (.bl true) H
theorem ok__law_is (T : Txt K mg A D) : FnOk P w K mg base CX0 2 A.f__law_is D.f__law_is ["_law_value", "_law_top", "_law_bottom"] (sp_is A.Ratio) := by
  have G__law_is_integer : FnOk P w K mg base CX0 1 A.f__law_is_integer D.f__law_is_integer ["_law_value"] (sp_is_whole K) := ok__law_is_integer T
  refine T.F__law_is.ok sc__law_is (fun vs H Q E h => ?_) (fun cdv A' outer s H vs Q E hr h => ?_)
  · obtain ⟨v, t, b, p, q', rfl, _⟩ := h
    rfl
  · obtain ⟨v, t, b, p, q', rfl, ⟨a, dx, rfl, ha⟩, hb, hc, st, sb, sp, sq, q⟩ := h
    refine ⟨_, (pss_cons (ps_if (PW.pt (pw_or (pt_not (pt_val (pe_callB call_isi rfl T.z_isinstance (by decide +kernel) (pa_cons (pv 0) (pa_cons (pe_glob (v := .ref A.Ratio) rfl T.g_Ratio rfl) pa_nil))))) (pw_or (pt_not (pt_val (pe_call G__law_is_integer (hr.mono (by decide)) rfl T.g__law_is_integer T.F__law_is_integer.kp T.b__law_is_integer .nil pass0 (pa_cons (pe_fld (pv 0) rfl) pa_nil)))) (pw_or1 (pt_not (pt_val (pe_call G__law_is_integer (hr.mono (by decide)) rfl T.g__law_is_integer T.F__law_is_integer.kp T.b__law_is_integer .nil pass0 (pa_cons (pe_fld (pv 0) rfl) pa_nil)))))))) (pss_one (ps_ret pe_bl)) pss_nil)
  (pss_one (ps_ret (pe_and (pe_cmpR op_ge (pe_fld (pv 0) rfl) pe_int (nomark _)) (pe_one (pe_cmpR op_eq (pe_op op_mulW (pe_fld (pv 0) rfl) (pv 2)) (pe_op op_mulW (pv 1) (pe_fld (pv 0) rfl)) (nomark _))))))), ?_⟩
    have cl := T.k_Ratio.cl
    have nt := T.k_Ratio.n_top
    have nb := T.k_Ratio.n_bottom
    refine ⟨_, rfl, .ref a, .ref A.Ratio, _, _, true, rfl, .own _, T.k_Ratio.ty ha, kit_self, true, rfl, iteF ?_⟩
    refine ⟨_, rfl, a, A.Ratio, dx, _, _, rfl, ha, cl, nt, rfl, _, _, rfl, whole_int t, true, rfl, iteF ?_⟩
    refine ⟨_, rfl, a, A.Ratio, dx, _, _, rfl, ha, cl, nb, rfl, _, _, rfl, whole_int b, true, rfl, iteF ?_⟩
    refine ⟨_, rfl, a, A.Ratio, dx, _, _, rfl, ha, cl, nb, rfl, _, _, rfl, rfl, true, ?_, iteT ?_⟩
    · show V.bl (decide (1 ≤ b)) = .bl true
      rw [decide_eq_true (by omega)]
    refine ⟨_, rfl, a, A.Ratio, dx, _, _, rfl, ha, cl, nt, rfl, _, rfl, _, _, rfl, rfl, st.mul sq, ?_⟩
    refine ⟨_, rfl, _, rfl, a, A.Ratio, dx, _, _, rfl, ha, cl, nb, rfl, _, _, rfl, rfl, sp.mul sb, rfl, ?_⟩
    have e : decide (V.int (t * q') = V.int (p * b)) = true := decide_eq_true (by rw [hc])
    exact e ▸ q
/-! ### pairs, rows -/
abbrev two (x y : Int) : HO := .lst [.int x, .int y]
/-- these lists hold the pairs F 0, F 1, .. -/
def Prsd (H : Hp) (rs : List Addr) (F : Nat → Int × Int) : Prop := ∀ k r, rs[k]? = some r → H r = some (two (F k).1 (F k).2)
def PairsAt (H : Hp) (v : V) (n : Nat) (F : Nat → Int × Int) : Prop := ∃ a rs, v = .ref a ∧ H a = some (.lst (rs.map V.ref)) ∧ rs.length = n ∧ Prsd H rs F
theorem Prsd.same {H H' : Hp} {rs : List Addr} {F : Nat → Int × Int} (h : Prsd H rs F) (s : Same H H') : Prsd H' rs F := fun k r e => s _ _ (h k r e)
theorem PairsAt.same {H H' : Hp} {v : V} {n : Nat} {F : Nat → Int × Int} (h : PairsAt H v n F) (s : Same H H') : PairsAt H' v n F := by
  obtain ⟨a, rs, e, h, l, p⟩ := h
  exact ⟨a, rs, e, s _ _ h, l, p.same s⟩
theorem Prsd.nil {H : Hp} {F : Nat → Int × Int} : Prsd H [] F := fun k r h => by simp at h
theorem Prsd.push {H : Hp} {d r : Addr} {rs : List Addr} {F : Nat → Int × Int} {zs : List V} (h : Prsd H rs F) (hr : H r = some (two (F rs.length).1 (F rs.length).2)) (hd : H d = some (.lst (rs.map V.ref))) : Prsd (upd H d (.lst zs)) (rs ++ [r]) F := by
  have ne : ∀ {k : Nat} {x : Addr}, H x = some (two (F k).1 (F k).2) → x ≠ d := fun {k x} hx z => by
    rw [z, hd] at hx
    cases rs with
    | nil => cases hx
    | cons a rs => cases hx
  intro k x hx
  rcases push_get hx with ⟨_, h1⟩ | ⟨rfl, rfl⟩
  · rw [upd_ne (ne (h k x h1))]
    exact h k x h1
  · rw [upd_ne (ne hr)]
    exact hr
theorem pr_get {rs : List Addr} {k : Nat} (h : k < rs.length) : ∃ r, rs[k]? = some r ∧ (rs.map V.ref)[k]? = some (.ref r) := by
  refine ⟨rs[k], List.getElem?_eq_getElem h, ?_⟩
  rw [List.getElem?_map, List.getElem?_eq_getElem h]
  rfl
theorem at_get {xs : List V} {k : Nat} {x : V} (h : xs[k]? = some x) : atI xs (0 + (k : Int)) = some x := by
  rw [Int.zero_add]
  exact atI_nat h
def sp_rowis (C : Addr) : Sp := fun vs H Q _ => ∃ d pv xs f n F, vs = [.ref d, pv] ∧ H d = some (.lst xs) ∧ Rats C 2500 1000 H xs f ∧ xs.length = n ∧ n ≤ 13 ∧ PairsAt H pv n F ∧ (∀ k, k < n → (f k).1 * (F k).2 = (F k).1 * (f k).2 ∧ (F k).1.natAbs < 2 ^ 1500 ∧ (F k).2.natAbs < 2 ^ 1500) ∧ Q (.bl true) H
theorem ok__law_row_is (T : Txt K mg A D) : FnOk P w K mg base CX0 3 A.f__law_row_is D.f__law_row_is ["_law_values", "_law_pairs"] (sp_rowis A.Ratio) := by
  have G__law_is : FnOk P w K mg base CX0 2 A.f__law_is D.f__law_is ["_law_value", "_law_top", "_law_bottom"] (sp_is A.Ratio) := ok__law_is T
  refine T.F__law_row_is.ok sc__law_row_is (fun vs H Q E h => ?_) (fun cdv A' outer s H vs Q E hr h => ?_)
  · obtain ⟨d, pv, xs, f, n, F, rfl, _⟩ := h
    rfl
  · obtain ⟨d, pv, xs, f, n, F, rfl, hd, rt, hl, hn, ⟨a, rs, rfl, ha, lr, hp⟩, hc, q⟩ := h
    refine ⟨_, (pss_cons (ps_if (PW.pt (pw_or (pt_not (pt_val (pe_callB call_isi rfl T.z_isinstance (by decide +kernel) (pa_cons (pv 0) (pa_cons (pe_bltn (v := .ty "list") rfl T.z_list (by decide +kernel) rfl) pa_nil))))) (pw_or1 (pt_cmpR op_ne (pe_callB call_len_seq rfl T.z_len (by decide +kernel) (pa_cons (pv 0) pa_nil)) (pe_callB call_len_seq rfl T.z_len (by decide +kernel) (pa_cons (pv 1) pa_nil)) (nomark _))))) (pss_one (ps_ret pe_bl)) pss_nil)
  (pss_cons (ps_for PassesOwn.never rfl (pi_range1 rfl T.z_range (pa_cons (pe_callB call_len_seq rfl T.z_len (by decide +kernel) (pa_cons (pv 1) pa_nil)) pa_nil)) (pg_name (i := 2) sc__law_row_is.nd rfl (.inl rfl)) (pss_one (ps_if (pt_not (pt_val (pe_call G__law_is (hr.mono (by decide)) rfl T.g__law_is T.F__law_is.kp T.b__law_is .nil pass0 (pa_cons (pe_ix ix_list (pv 0) (pv 2) (fun _ _ => rfl)) (pa_cons (pe_ix ix_list (pe_ix ix_list (pv 1) (pv 2) (fun _ _ => rfl)) pe_int (fun _ _ => rfl)) (pa_cons (pe_ix ix_list (pe_ix ix_list (pv 1) (pv 2) (fun _ _ => rfl)) pe_int (fun _ _ => rfl)) pa_nil)))))) (pss_one (ps_ret pe_bl)) pss_nil)))
  (pss_one (ps_ret pe_bl)))), ?_⟩
    have e1 : ((xs.length : Int)) = ((rs.map V.ref).length : Int) := by rw [List.length_map]; omega
    refine ⟨_, rfl, .ref d, .ty "list", _, _, true, rfl, .ty _, .base (.lst hd), kit_ty (by decide +kernel), true, rfl, iteF ?_⟩
    refine ⟨_, rfl, d, xs, rfl, .inl (.of hd), _, rfl, a, _, rfl, .inl (.of ha), rfl, _, rfl, iteFe (by rw [e1, decide_eq_true rfl]; rfl) ?_⟩
    refine ⟨_, rfl, a, _, rfl, .inl (.of ha), _, rfl, by omega, by rw [List.length_map]; omega, ?_⟩
    refine for_range (lo := 0) (fun i σ H' => H' = H ∧ ∃ y : Option V, σ = [some (.ref d), some (.ref a), y]) ⟨rfl, _, rfl⟩ ?_ ?_
    · rintro k σ H' hk ⟨rfl, y, rfl⟩
      rw [List.length_map] at hk
      have k1 : k < rs.length := by omega
      have k2 : k < xs.length := by omega
      obtain ⟨r, er, er2⟩ := pr_get k1
      have hx := List.getElem?_eq_getElem k2
      obtain ⟨t, b, ra, p1, p2, p3, p4, p5⟩ := rt k _ hx
      obtain ⟨c1, c2, c3⟩ := hc k (by omega)
      have hrr := hp k r er
      refine ⟨_, rfl, _, rfl, d, xs, _, _, rfl, rfl, .of hd, at_get hx, _, rfl, _, rfl, a, _, _, _, rfl, rfl, .of ha, at_get er2, r, _, 0, _, rfl, rfl, .of hrr, rfl, ?_⟩
      refine ⟨_, rfl, _, rfl, a, _, _, _, rfl, rfl, .of ha, at_get er2, r, _, 1, _, rfl, rfl, .of hrr, rfl, ?_⟩
      refine ⟨_, t, b, _, _, rfl, ra, p1, ?_, sm_of p4 (by decide), sm_of p5 (by decide), sm_of c2 (by decide), sm_of c3 (by decide), true, rfl, iteF ⟨rfl, _, rfl⟩⟩
      refine Int.eq_of_mul_eq_mul_right (show (f k).2 ≠ 0 by omega) ?_
      grind
    · rintro σ H' ⟨rfl, y, rfl⟩
      exact q
def sp_ratios (C : Addr) : Sp := fun vs H Q _ => ∃ pv n F e m, vs = [pv] ∧ PairsAt H pv n F ∧ n ≤ 13 ∧ e ≤ 1000 ∧ m ≤ 1000 ∧ (∀ k, k < n → 0 < (F k).2 ∧ (F k).1.natAbs < 2 ^ e ∧ (F k).2.natAbs < 2 ^ m) ∧
  ∀ H' d xs, Same H H' → H' d = some (.lst xs) → xs.length = n → Rats C e m H' xs F → Q (.ref d) H'
theorem ok__law_ratios (T : Txt K mg A D) : FnOk P w K mg base CX0 4 A.f__law_ratios D.f__law_ratios ["_law_pairs"] (sp_ratios A.Ratio) := by
  have G_Ratio_init : FnOk P w K mg base CX0 2 A.f_Ratio___init__ D.f_Ratio___init__ ["self", "top", "bottom"] (sp_init A.Ratio) := ok_Ratio___init__ T
  have b_Ratio_init2 := T.b_Ratio___init__
  have d_Ratio_init2 : Vals [] [] := .nil
  refine T.F__law_ratios.ok sc__law_ratios (fun vs H Q E h => ?_) (fun cdv A' outer s H vs Q E hr h => ?_)
  · obtain ⟨pv, n, F, e, m, rfl, _⟩ := h
    rfl
  · obtain ⟨pv, n, F, e, m, rfl, ⟨a, rs, rfl, ha, lr, hp⟩, hn, he, hm, hc, q⟩ := h
    refine ⟨_, (pss_one (ps_ret (pe_lc (own := [("_law_pair", 1)]) (g := gName 1) (tt := tYes) rfl sc__law_ratios.nd (pi_list (pv 0)) (blkOk_by (N := N__law_ratios) (sc := defScope s__law_ratios) (by decide +kernel)) (fun _ _ _ _ _ => (pg_name (i := 1) sc__law_ratios.nd rfl (.inl rfl))) (fun _ _ _ _ _ => pts_nil) (fun _ _ _ _ _ => (pe_make T.M_Ratio G_Ratio_init (hr.mono (by decide)) rfl T.g_Ratio b_Ratio_init2 d_Ratio_init2 pass0 (pa_cons (pe_ix (ix_listK (K := K) rfl) (pv 1) pe_int (fun _ _ => rfl)) (pa_cons (pe_ix (ix_listK (K := K) rfl) (pv 1) pe_int (fun _ _ => rfl)) pa_nil))))))), ?_⟩
    refine ⟨_, rfl, a, rfl, ⟨_, .of ha⟩, fun d nd => ?_⟩
    refine lc_list (K := K) (a := a) (xs := rs.map V.ref) (fun i G => Same H G ∧ ∃ xs : List V, xs.length = i ∧ G d = some (.lst xs) ∧ Rats A.Ratio e m G xs F) ⟨same_upd nd, [], rfl, upd_same, Rats.nil⟩ (fun i G _ p => .of (p.1 _ _ ha)) ?_ ?_
    · rintro i x G hx ⟨sm, xs, hl, hd, hr⟩
      obtain ⟨r, er, rfl⟩ : ∃ r, rs[i]? = some r ∧ x = .ref r := by
        rw [List.getElem?_map] at hx
        cases h : rs[i]? with
        | none => rw [h] at hx; cases hx
        | some r => rw [h] at hx; exact ⟨r, rfl, (Option.some.inj hx).symm⟩
      have il := (List.getElem?_eq_some_iff.mp er).1
      have hrr := sm _ _ (hp i r er)
      obtain ⟨c1, c2, c3⟩ := hc i (by omega)
      refine ⟨rfl, _, rfl, r, _, 0, _, rfl, rfl, .of hrr, rfl, _, rfl, r, _, 1, _, rfl, rfl, .of hrr, rfl, fun x dx nx nx2 ne => ⟨x, dx, _, _, rfl, upd_same, by omega, sm_of c3 (by omega), fun t' b' nm => ⟨rfl, ?_⟩⟩⟩
      obtain ⟨s6, r6⟩ := made (C := A.Ratio) nx nx2 ne t' b'
      have hd6 := s6 _ _ hd
      subst hl
      exact ⟨xs, hd6, small1000 (by omega), same_push (sm.trans s6) nd, xs ++ [.ref x], by rw [List.length_append]; rfl, upd_same, (hr.same s6).push hd6 ⟨t', b', r6, nm.pos, c1, nm.cross, Nat.lt_of_le_of_lt nm.le1 c2, Nat.lt_of_le_of_lt nm.le2 c3⟩⟩
    · rintro G ⟨sm, xs, hl, hd, hr⟩
      rw [List.length_map] at hl
      exact q G d xs sm hd (by omega) hr
/-! ### lots -/
structure Lot where
  ps : List Int
  ws : List Int
  q : Int
  s : Int
def LotAt (H : Hp) (v : V) (L : Lot) : Prop := ∃ a pa wa, v = .ref a ∧ H a = some (.lst [.ref pa, .ref wa, .int L.q, .int L.s]) ∧ H pa = some (.lst (L.ps.map V.int)) ∧ H wa = some (.lst (L.ws.map V.int)) ∧ L.ps.length = L.ws.length
/-- what the law draws -/
structure LotOk (e g : Nat) (L : Lot) : Prop where
  ps : ∀ p ∈ L.ps, p.natAbs < 2 ^ e
  ws : ∀ w ∈ L.ws, w.natAbs < 2 ^ g
  q0 : 0 < L.q
  q1 : L.q ≤ 25
  s0 : 0 < L.s
  s1 : L.s ≤ 81
  len : L.ps.length ≤ 16
theorem LotAt.same {H H' : Hp} {v : V} {L : Lot} (h : LotAt H v L) (s : Same H H') : LotAt H' v L := by
  obtain ⟨a, pa, wa, e, h1, h2, h3, h4⟩ := h
  exact ⟨a, pa, wa, e, s _ _ h1, s _ _ h2, s _ _ h3, h4⟩
theorem ints_ne {H : Hp} {f d : Addr} {xs : List Int} (F : FeedAt H f) (h : H d = some (.lst (xs.map V.int))) : d ≠ f := F.ne h fun l i r t n s z => by
  cases xs with
  | nil => cases z
  | cons x xs => cases z
def sp_lot : Sp := fun vs H Q _ => ∃ f : Addr, vs = [.ref f, .int 4] ∧ FeedAt H f ∧ ∀ H' v L, Stp f H H' → LotAt H' v L → LotOk 30 27 L → L.ps.length ≤ 4 → L.q ≤ 5 → L.s ≤ 9 → Q v H'
theorem ok__law_lot (T : Txt K mg A D) : FnOk P w K mg base CX0 3 A.f__law_lot D.f__law_lot ["_law_feed_here", "_law_most"] (sp_lot) := by
  have G__law_number : FnOk P w K mg base CX0 2 A.f__law_number D.f__law_number ["_law_feed_here", "_law_size"] (sp_number) := ok__law_number T
  have G__law_take : FnOk P w K mg base CX0 1 A.f__law_take D.f__law_take ["_law_feed_here", "_law_size"] (sp_take) := ok__law_take T
  refine T.F__law_lot.ok sc__law_lot (fun vs H Q E h => ?_) (fun cdv A' outer s H vs Q E hr h => ?_)
  · obtain ⟨f, rfl, _⟩ := h
    rfl
  · obtain ⟨f, rfl, F0, q⟩ := h
    refine ⟨_, (pss_cons (ps_set (i := 2) sc__law_lot.nd rfl (.inl rfl) (pe_ix ix_list (pe_lst (pa_cons pe_int (pa_cons pe_int (pa_cons (pe_op op_pow pe_int pe_int) pa_nil)))) (pe_call G__law_take (hr.mono (by decide)) rfl T.g__law_take T.F__law_take.kp T.b__law_take .nil pass0 (pa_cons (pv 0) (pa_cons pe_int pa_nil))) (fun _ _ => rfl)))
  (pss_cons (ps_set (i := 3) sc__law_lot.nd rfl (.inl rfl) (pe_call G__law_number (hr.mono (by decide)) rfl T.g__law_number T.F__law_number.kp T.b__law_number .nil pass0 (pa_cons (pv 0) (pa_cons (pv 2) pa_nil))))
  (pss_cons (ps_set (i := 4) sc__law_lot.nd rfl (.inl rfl) (pe_lst pa_nil))
  (pss_cons (ps_set (i := 5) sc__law_lot.nd rfl (.inl rfl) (pe_lst pa_nil))
  (pss_cons (ps_for PassesOwn.never rfl (pi_range1 rfl T.z_range (pa_cons (pe_call G__law_take (hr.mono (by decide)) rfl T.g__law_take T.F__law_take.kp T.b__law_take .nil pass0 (pa_cons (pv 0) (pa_cons (pe_op op_add (pv 1) pe_int) pa_nil))) pa_nil)) (pg_name (i := 6) sc__law_lot.nd rfl (.inl rfl)) (pss_cons (ps_expr (pe_bm PySem.F.plainAttrs_list PySem.F.slot_list_append PySem.F.type_list_append mt_append (pv 4) (pa_cons (pv 3) pa_nil)))
  (pss_cons (ps_expr (pe_bm PySem.F.plainAttrs_list PySem.F.slot_list_append PySem.F.type_list_append mt_append (pv 5) (pa_cons (pe_op op_add pe_int (pe_call G__law_take (hr.mono (by decide)) rfl T.g__law_take T.F__law_take.kp T.b__law_take .nil pass0 (pa_cons (pv 0) (pa_cons (pv 2) pa_nil)))) pa_nil)))
  (pss_one (ps_set (i := 3) sc__law_lot.nd rfl (.inl rfl) (pe_op op_add (pe_op op_add (pv 3) pe_int) (pe_call G__law_take (hr.mono (by decide)) rfl T.g__law_take T.F__law_take.kp T.b__law_take .nil pass0 (pa_cons (pv 0) (pa_cons (pv 2) pa_nil)))))))))
  (pss_one (ps_ret (pe_lst (pa_cons (pv 4) (pa_cons (pv 5) (pa_cons (pe_op op_add pe_int (pe_call G__law_take (hr.mono (by decide)) rfl T.g__law_take T.F__law_take.kp T.b__law_take .nil pass0 (pa_cons (pv 0) (pa_cons pe_int pa_nil)))) (pa_cons (pe_op op_add pe_int (pe_call G__law_take (hr.mono (by decide)) rfl T.g__law_take T.F__law_take.kp T.b__law_take .nil pass0 (pa_cons (pv 0) (pa_cons pe_int pa_nil)))) pa_nil)))))))))))), ?_⟩
    refine ⟨_, _, rfl, rfl, ⟨by decide, by decide, by decide⟩, by show 3 ≤ sizeLine; decide, fun p np => ?_⟩
    have s1 := same_upd (o := .lst [V.int 2, .int 40, .int (10 ^ (8 : Int).toNat)]) np
    refine ⟨_, rfl, f, 3, rfl, F0.same s1, by decide, .ab (by decide) (by decide), fun H1 k k0 k1 st1 => ?_⟩
    have pf : p ≠ f := (F0.lt np).symm
    have hp1 := st1.keep _ _ pf upd_same
    obtain ⟨z, hz, z0, z1⟩ : ∃ z : Int, atI [V.int 2, .int 40, .int (10 ^ (8 : Int).toNat)] k = some (.int z) ∧ 0 < z ∧ z ≤ 100000000 := by
      rcases (by omega : k = 0 ∨ k = 1 ∨ k = 2) with e | e | e <;> subst e
      · exact ⟨_, rfl, by decide, by decide⟩
      · exact ⟨_, rfl, by decide, by decide⟩
      · exact ⟨_, rfl, by decide, by decide⟩
    refine ⟨p, _, k, _, rfl, rfl, .of hp1, hz, ?_⟩
    have st1 : Stp f H H1 := (Stp.refl F0).of s1 |>.trans st1
    have sz : Sm z := .ab (by omega) (by omega)
    refine ⟨_, rfl, _, rfl, f, z, rfl, st1.feed, z0, sz, fun H2 top t0 t1 st2 => ?_⟩
    have st2 := st1.trans st2
    refine ⟨by show 0 ≤ sizeLine; decide, fun pa na => ⟨by show 0 ≤ sizeLine; decide, fun wa nw => ?_⟩⟩
    have af : pa ≠ f := (st2.feed.lt na).symm
    have sa := same_upd (o := .lst []) na
    have wf : wa ≠ f := ((st2.feed.same sa).lt nw).symm
    have aw : pa ≠ wa := fun z => by rw [← z, upd_same] at nw; cases nw
    have nw2 : H2 wa = none := by rw [upd_ne (Ne.symm aw)] at nw; exact nw
    have a0 := stp_none st2 af na
    have w0 := stp_none st2 wf nw2
    have st3 := (st2.push (o := .lst []) F0 a0 af).push (o := .lst []) F0 w0 wf
    have ha3 : upd (upd H2 pa (.lst [])) wa (.lst []) pa = some (.lst []) := by rw [upd_ne aw, upd_same]
    have hw3 : upd (upd H2 pa (.lst [])) wa (.lst []) wa = some (.lst []) := upd_same
    refine ⟨_, rfl, _, rfl, _, _, rfl, rfl, f, 4 + 1, rfl, st3.feed, by decide, .ab (by decide) (by decide), fun H4 m m0 m1 st4 => ⟨_, rfl, by omega, by omega, ?_⟩⟩
    have ha4 := st4.keep _ _ af ha3
    have hw4 := st4.keep _ _ wf hw3
    have st4 := st3.trans st4
    refine for_range (lo := 0) (fun i σ G => Stp f H G ∧ ∃ (ps ws : List Int) (top : Int) (y : Option V), σ = [some (.ref f), some (.int 4), some (.int z), some (.int top), some (.ref pa), some (.ref wa), y] ∧ G pa = some (.lst (ps.map V.int)) ∧ G wa = some (.lst (ws.map V.int)) ∧ ps.length = i ∧ ws.length = i ∧
        top.natAbs ≤ 100000000 * (i + 1) ∧ (∀ p ∈ ps, p.natAbs < 2 ^ 30) ∧ ∀ w ∈ ws, w.natAbs < 2 ^ 27) ⟨st4, [], [], top, _, rfl, ha4, hw4, rfl, rfl, by omega, (fun p h => by cases h), (fun p h => by cases h)⟩ ?_ ?_
    · rintro i σ G hi ⟨st, ps, ws, top, y, rfl, hpa, hwa, l1, l2, bt, bp, bw⟩
      have i5 : i < 4 := by omega
      refine ⟨_, rfl, .inl ⟨rfl, _, .of hpa⟩, _, rfl, pa, _, _, rfl, rfl, hpa, by rw [List.length_map]; exact small1000 (by omega), ?_⟩
      have st5 := st.push (o := .lst (ps.map V.int ++ [.int top])) F0 a0 af
      have hpa5 : upd G pa (.lst (ps.map V.int ++ [.int top])) pa = some (.lst ((ps ++ [top]).map V.int)) := by rw [upd_same, List.map_append]; rfl
      have hwa5 : upd G pa (.lst (ps.map V.int ++ [.int top])) wa = some (.lst (ws.map V.int)) := by rw [upd_ne (Ne.symm aw)]; exact hwa
      refine ⟨_, rfl, .inl ⟨rfl, _, .of hwa5⟩, _, rfl, _, rfl, f, z, rfl, st5.feed, z0, sz, fun G6 u u0 u1 st6 => ?_⟩
      have hpa6 := st6.keep _ _ af hpa5
      have hwa6 := st6.keep _ _ wf hwa5
      have st6 := st5.trans st6
      refine ⟨_, _, rfl, rfl, wa, _, _, rfl, rfl, hwa6, by rw [List.length_map]; exact small1000 (by omega), ?_⟩
      have st7 := st6.push (o := .lst (ws.map V.int ++ [.int (1 + u)])) F0 w0 wf
      have hwa7 : upd G6 wa (.lst (ws.map V.int ++ [.int (1 + u)])) wa = some (.lst ((ws ++ [1 + u]).map V.int)) := by rw [upd_same, List.map_append]; rfl
      have hpa7 : upd G6 wa (.lst (ws.map V.int ++ [.int (1 + u)])) pa = some (.lst ((ps ++ [top]).map V.int)) := by rw [upd_ne aw]; exact hpa6
      refine ⟨_, rfl, _, _, rfl, rfl, _, rfl, _, rfl, f, z, rfl, st7.feed, z0, sz, fun G8 e e0 e1 st8 => ⟨_, _, rfl, rfl, ?_⟩⟩
      refine ⟨st7.trans st8, ps ++ [top], ws ++ [1 + u], _, _, rfl, st8.keep _ _ af hpa7, st8.keep _ _ wf hwa7, by rw [List.length_append, l1]; rfl, by rw [List.length_append, l2]; rfl, by omega, fun p hp => ?_, fun p hp => ?_⟩
      · rcases List.mem_append.mp hp with h | h
        · exact bp p h
        · cases List.mem_singleton.mp h
          omega
      · rcases List.mem_append.mp hp with h | h
        · exact bw p h
        · cases List.mem_singleton.mp h
          omega
    · rintro σ G ⟨st, ps, ws, top, y, rfl, hpa, hwa, l1, l2, bt, bp, bw⟩
      refine ⟨_, rfl, _, rfl, _, rfl, f, 5, rfl, st.feed, by decide, .ab (by decide) (by decide), fun G6 u u0 u1 st6 => ⟨_, _, rfl, rfl, ?_⟩⟩
      have hpa6 := st6.keep _ _ af hpa
      have hwa6 := st6.keep _ _ wf hwa
      refine ⟨_, rfl, f, 9, rfl, st6.feed, by decide, .ab (by decide) (by decide), fun G7 u2 u20 u21 st7 => ⟨_, _, rfl, rfl, by show 4 ≤ sizeLine; decide, fun pl npl => ?_⟩⟩
      have hpa7 := st7.keep _ _ af hpa6
      have hwa7 := st7.keep _ _ wf hwa6
      have s8 := same_upd (o := .lst [.ref pa, .ref wa, .int (1 + u), .int (1 + u2)]) npl
      exact q _ _ ⟨ps, ws, 1 + u, 1 + u2⟩ (((st.trans st6).trans st7).of s8) ⟨pl, pa, wa, rfl, upd_same, s8 _ _ hpa7, s8 _ _ hwa7, by show ps.length = ws.length; omega⟩ ⟨bp, bw, by show 0 < 1 + u; omega, by show 1 + u ≤ 25; omega, by show 0 < 1 + u2; omega, by show 1 + u2 ≤ 81; omega, by show ps.length ≤ 16; omega⟩ (by show ps.length ≤ 4; omega) (by show 1 + u ≤ 5; omega) (by show 1 + u2 ≤ 9; omega)
/-! ### the rows of lots -/
/-- the sum of the weights times the k-th powers of the points -/
def pw (L : Lot) (k : Nat) : Int := (List.zipWith (fun w p => w * p ^ k) L.ws L.ps).sum
def rowF (L : Lot) (k : Nat) : Int × Int := (pw L k, L.s * L.q ^ k)
def powL (L : Lot) (k : Nat) : List Int := List.zipWith (fun w p => w * p ^ k) L.ws L.ps
theorem powL_len {L : Lot} (hl : L.ps.length = L.ws.length) (k : Nat) : (powL L k).length = L.ps.length := by
  show (List.zipWith _ _ _).length = _
  rw [List.length_zipWith]
  omega
theorem powL_get {L : Lot} (hl : L.ps.length = L.ws.length) {k j : Nat} (hj : j < L.ps.length) : (powL L k)[j]? = some (L.ws.getD j 0 * L.ps.getD j 0 ^ k) := by
  show (List.zipWith _ _ _)[j]? = _
  rw [List.getElem?_zipWith, List.getD_eq_getElem?_getD, List.getD_eq_getElem?_getD, List.getElem?_eq_getElem hj, List.getElem?_eq_getElem (show j < L.ws.length by omega)]
  rfl
theorem powL_zero {L : Lot} (hl : L.ps.length = L.ws.length) : powL L 0 = L.ws := by
  refine List.ext_getElem? fun j => ?_
  by_cases hj : j < L.ps.length
  · rw [powL_get hl hj, Int.pow_zero, Int.mul_one, List.getD_eq_getElem?_getD, List.getElem?_eq_getElem (show j < L.ws.length by omega)]
    rfl
  · rw [List.getElem?_eq_none (by rw [powL_len hl]; omega), List.getElem?_eq_none (by omega)]
theorem getD_mem {xs : List Int} {j : Nat} (hj : j < xs.length) : xs.getD j 0 ∈ xs := by
  rw [List.getD_eq_getElem?_getD, List.getElem?_eq_getElem hj]
  exact List.getElem_mem hj
theorem npow {i : Int} {e : Nat} (h : i.natAbs < 2 ^ e) (k : Nat) : (i ^ k).natAbs < 2 ^ (e * k + 1) := by
  rw [Int.natAbs_pow]
  have : i.natAbs ^ k ≤ (2 ^ e) ^ k := Nat.pow_le_pow_left (Nat.le_of_lt h) k
  rw [← Nat.pow_mul] at this
  exact Nat.lt_of_le_of_lt this (Nat.pow_lt_pow_right (by decide) (by omega))
theorem powL_lt {L : Lot} {e g : Nat} (ok : LotOk e g L) (hl : L.ps.length = L.ws.length) {k j : Nat} (hj : j < L.ps.length) : (L.ws.getD j 0 * L.ps.getD j 0 ^ k).natAbs < 2 ^ (g + (e * k + 1)) :=
  nmul (ok.ws _ (getD_mem (show j < L.ws.length by omega))) (npow (ok.ps _ (getD_mem hj)) k)
theorem take_map_push {xs : List Int} {j : Nat} {x : Int} (h : xs[j]? = some x) : (xs.take j).map V.int ++ [V.int x] = (xs.take (j + 1)).map V.int := by
  have hj := (List.getElem?_eq_some_iff.mp h).1
  rw [List.take_add_one, h, List.map_append]
  rfl
theorem int_at {xs : List Int} {j : Nat} (h : j < xs.length) : (xs.map V.int)[j]? = some (V.int (xs.getD j 0)) := by
  rw [List.getElem?_map, List.getD_eq_getElem?_getD, List.getElem?_eq_getElem h]
  rfl
theorem bot_lt {L : Lot} {e g : Nat} (ok : LotOk e g L) {k : Nat} (hk : k ≤ 13) : (L.s * L.q ^ k).natAbs < 2 ^ 73 := by
  have h1 : L.s.natAbs < 2 ^ 7 := by have := ok.s0; have := ok.s1; omega
  have h2 : L.q.natAbs < 2 ^ 5 := by have := ok.q0; have := ok.q1; omega
  exact nle (nmul h1 (npow h2 k)) (by omega)
def sp_nums : Sp := fun vs H Q _ => ∃ v L e g d, vs = [v, .int ((d : Nat) : Int)] ∧ LotAt H v L ∧ LotOk e g L ∧ d ≤ 12 ∧ e ≤ 62 ∧ g ≤ 56 ∧ ∀ H' u, Same H H' → PairsAt H' u (d + 1) (rowF L) → Q u H'
theorem ok__law_numbers (T : Txt K mg A D) : FnOk P w K mg base CX0 2 A.f__law_numbers D.f__law_numbers ["_law_lot_here", "_law_d"] (sp_nums) := by
  skip
  refine T.F__law_numbers.ok sc__law_numbers (fun vs H Q E h => ?_) (fun cdv A' outer s H vs Q E hr h => ?_)
  · obtain ⟨v, L, e, g, d, rfl, _⟩ := h
    rfl
  · obtain ⟨v, L, e, g, d, rfl, ⟨a, pa, wa, rfl, ha, hpa, hwa, hl⟩, ok, hd, he, hg, q⟩ := h
    refine ⟨_, (pss_cons (ps_set (i := 2) sc__law_numbers.nd rfl (.inl rfl) (pe_lst pa_nil))
  (pss_cons (ps_set (i := 3) sc__law_numbers.nd rfl (.inr rfl) (pe_callTy call_list_of rfl T.z_list (by decide +kernel) (pa_cons (pe_ix ix_list (pv 0) pe_int (fun _ _ => rfl)) pa_nil)))
  (pss_cons (ps_set (i := 4) sc__law_numbers.nd rfl (.inl rfl) (pe_ix ix_list (pv 0) pe_int (fun _ _ => rfl)))
  (pss_cons (ps_for PassesOwn.never rfl (pi_range1 rfl T.z_range (pa_cons (pe_op op_add (pv 1) pe_int) pa_nil)) (pg_name (i := 5) sc__law_numbers.nd rfl (.inl rfl)) (pss_cons (ps_expr (pe_bm PySem.F.plainAttrs_list PySem.F.slot_list_append PySem.F.type_list_append mt_append (pv 2) (pa_cons (pe_lst (pa_cons (pe_callB (cr_sum rfl) rfl T.z_sum (by decide +kernel) (pa_cons (pe_lc (own := [("_law_power", 6)]) (g := gName 6) (tt := tYes) rfl sc__law_numbers.nd (pi_list (pv 3)) (blkOk_by (N := N__law_numbers) (sc := defScope s__law_numbers) (by decide +kernel)) (fun _ _ _ _ _ => (pg_name (i := 6) sc__law_numbers.nd rfl (.inl rfl))) (fun _ _ _ _ _ => pts_nil) (fun _ _ _ _ _ => (pe_callTy call_int1 rfl T.z_int (by decide +kernel) (pa_cons (pv 6) pa_nil)))) pa_nil)) (pa_cons (pv 4) pa_nil))) pa_nil)))
  (pss_cons (ps_set (i := 3) sc__law_numbers.nd rfl (.inr rfl) (pe_lc (own := [("_law_j", 7)]) (g := gName 7) (tt := tYes) rfl sc__law_numbers.nd (pi_range1 rfl T.z_range (pa_cons (pe_callB call_len_seq rfl T.z_len (by decide +kernel) (pa_cons (pv 3) pa_nil)) pa_nil)) (blkOk_by (N := N__law_numbers) (sc := defScope s__law_numbers) (by decide +kernel)) (fun _ _ _ _ _ => (pg_name (i := 7) sc__law_numbers.nd rfl (.inl rfl))) (fun _ _ _ _ _ => pts_nil) (fun _ _ _ _ _ => (pe_op op_mulW (pe_ix (ix_listK (K := K) rfl) (pv 3) (pv 7) (fun _ _ => rfl)) (pe_ix (ix_listK (K := K) rfl) (pe_ix (ix_listK (K := K) rfl) (pv 0) pe_int (fun _ _ => rfl)) (pv 7) (fun _ _ => rfl))))))
  (pss_one (ps_set (i := 4) sc__law_numbers.nd rfl (.inl rfl) (pe_op op_mulW (pv 4) (pe_ix ix_list (pv 0) pe_int (fun _ _ => rfl))))))))
  (pss_one (ps_ret (pv 2))))))), ?_⟩
    refine ⟨by show 0 ≤ sizeLine; decide, fun r nr => ?_⟩
    have s1 := same_upd (o := .lst []) nr
    refine ⟨_, rfl, a, _, 1, _, rfl, rfl, .of (s1 _ _ ha), rfl, wa, _, rfl, .inl (.of (s1 _ _ hwa)), fun pp npp => ?_⟩
    have s2 := same_upd (o := .lst (L.ws.map V.int)) npp
    have s12 := s1.trans s2
    refine ⟨_, rfl, a, _, 3, _, rfl, rfl, .of (s12 _ _ ha), rfl, ?_⟩
    refine ⟨_, rfl, _, _, rfl, rfl, _, rfl, by omega, by omega, ?_⟩
    have hn : ((d : Int) + 1).toNat = d + 1 := by omega
    rw [hn]
    have hr2 : upd (upd H r (.lst [])) pp (.lst (L.ws.map V.int)) r = some (.lst []) := s2 _ _ upd_same
    refine for_range (lo := 0) (fun i σ G => Same H G ∧ ∃ (pp : Addr) (rs : List Addr) (y : Option V), σ = [some (.ref a), some (.int (d : Int)), some (.ref r), some (.ref pp), some (.int (L.s * L.q ^ i)), y, none, none] ∧ G pp = some (.lst ((powL L i).map V.int)) ∧ G r = some (.lst (rs.map V.ref)) ∧ rs.length = i ∧ Prsd G rs (rowF L) ∧ pp ≠ r)
      ⟨s12, pp, [], _, by rw [Int.pow_zero, Int.mul_one]; rfl, by rw [powL_zero hl]; exact upd_same, hr2, rfl, Prsd.nil, fun z => by rw [z, upd_same] at npp; cases npp⟩ ?_ ?_
    · rintro i σ G hi ⟨sm, pp, rs, y, rfl, hpp, hr', lr, hp, ne⟩
      have ll := powL_len hl i
      refine ⟨_, rfl, .inl ⟨rfl, _, .of hr'⟩, _, rfl, pp, rfl, ⟨_, .of hpp⟩, fun d1 nd1 => ?_⟩
      refine lc_list (K := K) (a := pp) (xs := (powL L i).map V.int) (fun j G2 => Same G G2 ∧ G2 d1 = some (.lst (((powL L i).take j).map V.int))) ⟨same_upd nd1, upd_same⟩ (fun j G2 _ p => .of (p.1 _ _ hpp)) ?_ ?_
      · rintro j x G2 hx ⟨sm2, hd1⟩
        have hj : j < L.ps.length := by
          have := (List.getElem?_eq_some_iff.mp hx).1
          rw [List.length_map] at this
          omega
        have hg := powL_get hl (k := i) hj
        rw [List.getElem?_map, hg] at hx
        cases hx
        refine ⟨rfl, _, rfl, .inl ⟨_, rfl, _, hd1, ?_, same_push sm2 nd1, ?_⟩⟩
        · rw [List.length_map, List.length_take]
          have := ok.len
          exact small1000 (by omega)
        · rw [upd_same, take_map_push hg]
      · rintro G2 ⟨sm2, hd1⟩
        rw [List.length_map, List.take_length] at hd1
        refine ⟨d1, powL L i, rfl, .of hd1, _, rfl, by show 2 ≤ sizeLine; decide, fun pr npr => ?_⟩
        have s3 := same_upd (o := two (powL L i).sum (L.s * L.q ^ i)) npr
        have hr3 := s3 _ _ (sm2 _ _ hr')
        refine ⟨r, _, _, rfl, rfl, hr3, by rw [List.length_map]; exact small1000 (by omega), ?_⟩
        have sm3 : Same H (upd (upd G2 pr (two (powL L i).sum (L.s * L.q ^ i))) r (.lst (rs.map V.ref ++ [.ref pr]))) := same_push ((sm.trans sm2).trans s3) nr
        have hp3 : Prsd (upd (upd G2 pr (two (powL L i).sum (L.s * L.q ^ i))) r (.lst (rs.map V.ref ++ [.ref pr]))) (rs ++ [pr]) (rowF L) := ((hp.same sm2).same s3).push (by rw [lr]; exact upd_same) hr3
        have hpp3 : upd (upd G2 pr (two (powL L i).sum (L.s * L.q ^ i))) r (.lst (rs.map V.ref ++ [.ref pr])) pp = some (.lst ((powL L i).map V.int)) := by
          rw [upd_ne ne]
          exact s3 _ _ (sm2 _ _ hpp)
        have hr4 : upd (upd G2 pr (two (powL L i).sum (L.s * L.q ^ i))) r (.lst (rs.map V.ref ++ [.ref pr])) r = some (.lst ((rs ++ [pr]).map V.ref)) := by rw [upd_same, List.map_append]; rfl
        generalize upd (upd G2 pr (two (powL L i).sum (L.s * L.q ^ i))) r (.lst (rs.map V.ref ++ [.ref pr])) = G4 at sm3 hp3 hpp3 hr4
        refine ⟨_, rfl, pp, _, rfl, .inl (.of hpp3), _, rfl, ?_, ?_, fun d2 nd2 => ?_⟩
        · rw [List.length_map]
          have := ok.len
          omega
        · rw [List.length_map]
          have := ok.len
          omega
        have hn2 : (((powL L i).map V.int).length : Int).toNat = L.ps.length := by
          rw [List.length_map]
          omega
        rw [hn2]
        refine lc_range (lo := 0) (fun j G2 => Same G4 G2 ∧ G2 d2 = some (.lst (((powL L (i + 1)).take j).map V.int))) ⟨same_upd nd2, upd_same⟩ ?_ ?_
        · rintro j G5 hj ⟨sm5, hd2⟩
          have hg := powL_get hl (k := i) hj
          have hg1 := powL_get hl (k := i + 1) hj
          have hgv : ((powL L i).map V.int)[j]? = some (.int (L.ws.getD j 0 * L.ps.getD j 0 ^ i)) := by
            rw [List.getElem?_map, hg]
            rfl
          have b1 := powL_lt ok hl (k := i) hj
          have b2 := ok.ps _ (getD_mem hj)
          have ei : e * i ≤ 62 * 13 := Nat.mul_le_mul he (by omega)
          refine ⟨rfl, _, rfl, _, rfl, pp, _, _, _, rfl, rfl, .of (sm5 _ _ hpp3), at_get hgv, _, rfl, a, _, 0, _, rfl, rfl, .of (sm5 _ _ (sm3 _ _ ha)), rfl, _, rfl, pa, _, _, _, rfl, rfl, .of (sm5 _ _ (sm3 _ _ hpa)), at_get (int_at hj), _, _, rfl, rfl, (sm_of b1 (by omega)).mul (sm_of b2 (by omega)), _, hd2, ?_, same_push sm5 nd2, ?_⟩
          · rw [List.length_map, List.length_take]
            have := ok.len
            exact small1000 (by omega)
          · have e1 : L.ws.getD j 0 * L.ps.getD j 0 ^ i * L.ps.getD j 0 = L.ws.getD j 0 * L.ps.getD j 0 ^ (i + 1) := by
              rw [Int.pow_succ, Int.mul_assoc]
            rw [upd_same, ← take_map_push hg1, ← e1]
        · rintro G5 ⟨sm5, hd2⟩
          have l2 := powL_len hl (i + 1)
          rw [List.take_of_length_le (by omega)] at hd2
          have bb := bot_lt ok (k := i) (by omega)
          refine ⟨_, rfl, _, rfl, a, _, 2, _, rfl, rfl, .of (sm5 _ _ (sm3 _ _ ha)), rfl, _, _, rfl, rfl, (sm_of bb (by decide)).mul (sm_of (n := 5) (by have := ok.q0; have := ok.q1; omega) (by decide)), ?_⟩
          refine ⟨sm3.trans sm5, d2, rs ++ [pr], _, by rw [Int.pow_succ, ← Int.mul_assoc]; rfl, hd2, sm5 _ _ hr4, by rw [List.length_append, lr]; rfl, hp3.same sm5, fun z => ?_⟩
          rw [z, hr4] at nd2
          cases nd2
    · rintro σ G ⟨sm, pp, rs, y, rfl, hpp, hr', lr, hp, ne⟩
      exact ⟨_, rfl, q G _ sm ⟨r, rs, rfl, hr', lr, hp⟩⟩
/-! ### lots of sums and of products -/
abbrev cross (f : Int → Int → Int) (xs ys : List Int) : List Int := xs.flatMap fun a => ys.map fun b => f a b
def sumsL (L M : Lot) : Lot := ⟨cross (fun a b => a * M.q + b * L.q) L.ps M.ps, cross (fun a b => a * b) L.ws M.ws, L.q * M.q, L.s * M.s⟩
def prodsL (L M : Lot) : Lot := ⟨cross (fun a b => a * b) L.ps M.ps, cross (fun a b => a * b) L.ws M.ws, L.q * M.q, L.s * M.s⟩
theorem cross_len (f : Int → Int → Int) (xs ys : List Int) : (cross f xs ys).length = xs.length * ys.length := by
  induction xs with
  | nil => simp [cross]
  | cons x xs ih =>
    show (List.flatMap _ (x :: xs)).length = _
    rw [List.flatMap_cons, List.length_append, List.length_map, List.length_cons, Nat.succ_mul]
    have : (List.flatMap (fun a => ys.map fun b => f a b) xs).length = xs.length * ys.length := ih
    omega
theorem cross_mem {f : Int → Int → Int} {xs ys : List Int} {x : Int} (h : x ∈ cross f xs ys) : ∃ a ∈ xs, ∃ b ∈ ys, x = f a b := by
  obtain ⟨a, ha, hx⟩ := List.mem_flatMap.mp h
  obtain ⟨b, hb, e⟩ := List.mem_map.mp hx
  exact ⟨a, ha, b, hb, e.symm⟩
/-- how far the two loops have come -/
abbrev part (f : Int → Int → Int) (xs ys : List Int) (i j : Nat) : List Int := cross f (xs.take i) ys ++ (ys.take j).map (f (xs.getD i 0))
theorem part_next {f : Int → Int → Int} {xs ys : List Int} {i j : Nat} (hj : j < ys.length) : part f xs ys i j ++ [f (xs.getD i 0) (ys.getD j 0)] = part f xs ys i (j + 1) := by
  show (_ ++ List.map _ _) ++ _ = _ ++ List.map _ _
  have hg : ys[j]? = some (ys.getD j 0) := by
    rw [List.getD_eq_getElem?_getD, List.getElem?_eq_getElem hj]
    rfl
  rw [List.append_assoc, List.take_add_one, hg, List.map_append]
  rfl
theorem part_push {f : Int → Int → Int} {xs ys : List Int} {i j : Nat} (hj : j < ys.length) : (part f xs ys i j).map V.int ++ [V.int (f (xs.getD i 0) (ys.getD j 0))] = (part f xs ys i (j + 1)).map V.int := by
  rw [← part_next hj]
  exact (List.map_append (f := V.int) (l₁ := part f xs ys i j) (l₂ := [f (xs.getD i 0) (ys.getD j 0)])).symm
theorem part_row {f : Int → Int → Int} {xs ys : List Int} {i : Nat} (hi : i < xs.length) : part f xs ys i ys.length = part f xs ys (i + 1) 0 := by
  show List.flatMap _ _ ++ List.map _ _ = List.flatMap _ _ ++ List.map _ _
  have hg : xs[i]? = some (xs.getD i 0) := by
    rw [List.getD_eq_getElem?_getD, List.getElem?_eq_getElem hi]
    rfl
  rw [List.take_add_one, hg, List.take_length, List.take_zero, List.map_nil, List.append_nil, List.flatMap_append]
  simp
theorem part_all {f : Int → Int → Int} {xs ys : List Int} : part f xs ys xs.length 0 = cross f xs ys := by
  show List.flatMap _ _ ++ List.map _ _ = _
  rw [List.take_length, List.take_zero, List.map_nil, List.append_nil]
theorem part_len {f : Int → Int → Int} {xs ys : List Int} {i j : Nat} (h1 : xs.length ≤ 4) (h2 : ys.length ≤ 4) : (part f xs ys i j).length ≤ 20 := by
  show (_ ++ List.map _ _).length ≤ 20
  rw [List.length_append, List.length_map, cross_len, List.length_take, List.length_take]
  have : min i xs.length * ys.length ≤ 4 * 4 := Nat.mul_le_mul (by omega) h2
  omega

end

end Mo

namespace Mo
open PySem PySem.Spec PyProof.Rows L2 MoL MoW
open C8 (pss_cut tCut)
section
variable {P : Program} {w : World} {K : PySem.W.Frag} {mg : Str → Option Value} {base : Heap} {A : Ad} {D : Fd}
def sp_sums : Sp := fun vs H Q _ => ∃ v u L M, vs = [v, u] ∧ LotAt H v L ∧ LotAt H u M ∧ LotOk 30 27 L ∧ LotOk 30 27 M ∧ L.ps.length ≤ 4 ∧ M.ps.length ≤ 4 ∧ ∀ H' x, Same H H' → LotAt H' x (sumsL L M) → Q x H'
theorem ok__law_sums (T : Txt K mg A D) : FnOk P w K mg base CX0 2 A.f__law_sums D.f__law_sums ["_law_one", "_law_other"] (sp_sums) := by
  skip
  refine T.F__law_sums.ok sc__law_sums (fun vs H Q E h => ?_) (fun cdv A' outer s H vs Q E hr h => ?_)
  · obtain ⟨v, u, L, M, rfl, _⟩ := h
    rfl
  · obtain ⟨v, u, L, M, rfl, ⟨a, pa, wa, rfl, ha, hpa, hwa, la⟩, ⟨b, pb, wb, rfl, hb, hpb, hwb, lb⟩, ok1, ok2, l4, m4, q⟩ := h
    refine ⟨_, (pss_cons (ps_set (i := 2) sc__law_sums.nd rfl (.inl rfl) (pe_lst pa_nil))
  (pss_cons (ps_set (i := 3) sc__law_sums.nd rfl (.inl rfl) (pe_lst pa_nil))
  (pss_cons (ps_for PassesOwn.never rfl (pi_range1 rfl T.z_range (pa_cons (pe_callB call_len_seq rfl T.z_len (by decide +kernel) (pa_cons (pe_ix ix_list (pv 0) pe_int (fun _ _ => rfl)) pa_nil)) pa_nil)) (pg_name (i := 4) sc__law_sums.nd rfl (.inl rfl)) (pss_one (ps_for PassesOwn.never rfl (pi_range1 rfl T.z_range (pa_cons (pe_callB call_len_seq rfl T.z_len (by decide +kernel) (pa_cons (pe_ix ix_list (pv 1) pe_int (fun _ _ => rfl)) pa_nil)) pa_nil)) (pg_name (i := 5) sc__law_sums.nd rfl (.inl rfl)) (pss_cons (ps_expr (pe_bm PySem.F.plainAttrs_list PySem.F.slot_list_append PySem.F.type_list_append mt_append (pv 2) (pa_cons (pe_op op_add (pe_op op_mulW (pe_ix ix_list (pe_ix ix_list (pv 0) pe_int (fun _ _ => rfl)) (pv 4) (fun _ _ => rfl)) (pe_ix ix_list (pv 1) pe_int (fun _ _ => rfl))) (pe_op op_mulW (pe_ix ix_list (pe_ix ix_list (pv 1) pe_int (fun _ _ => rfl)) (pv 5) (fun _ _ => rfl)) (pe_ix ix_list (pv 0) pe_int (fun _ _ => rfl)))) pa_nil)))
  (pss_one (ps_expr (pe_bm PySem.F.plainAttrs_list PySem.F.slot_list_append PySem.F.type_list_append mt_append (pv 3) (pa_cons (pe_op op_mulW (pe_ix ix_list (pe_ix ix_list (pv 0) pe_int (fun _ _ => rfl)) (pv 4) (fun _ _ => rfl)) (pe_ix ix_list (pe_ix ix_list (pv 1) pe_int (fun _ _ => rfl)) (pv 5) (fun _ _ => rfl))) pa_nil))))))))
  (pss_one (ps_ret (pe_lst (pa_cons (pv 2) (pa_cons (pv 3) (pa_cons (pe_op op_mulW (pe_ix ix_list (pv 0) pe_int (fun _ _ => rfl)) (pe_ix ix_list (pv 1) pe_int (fun _ _ => rfl))) (pa_cons (pe_op op_mulW (pe_ix ix_list (pv 0) pe_int (fun _ _ => rfl)) (pe_ix ix_list (pv 1) pe_int (fun _ _ => rfl))) pa_nil)))))))))), ?_⟩
    refine ⟨by show 0 ≤ sizeLine; decide, fun pp np => ⟨by show 0 ≤ sizeLine; decide, fun pq nq => ?_⟩⟩
    have s1 := same_upd (o := .lst []) np
    have s2 := same_upd (o := .lst []) nq
    have s12 := s1.trans s2
    have ne : pp ≠ pq := fun z => by rw [← z, upd_same] at nq; cases nq
    have nq2 : H pq = none := by rw [upd_ne (Ne.symm ne)] at nq; exact nq
    have hp2 : upd (upd H pp (.lst [])) pq (.lst []) pp = some (.lst []) := s2 _ _ upd_same
    refine ⟨_, rfl, a, _, 0, _, rfl, rfl, .of (s12 _ _ ha), rfl, pa, _, rfl, .inl (.of (s12 _ _ hpa)), _, rfl, by rw [List.length_map]; omega, by rw [List.length_map]; omega, ?_⟩
    have e1 : (((L.ps.map V.int).length : Nat) : Int).toNat = L.ps.length := by
      rw [List.length_map]
      omega
    rw [e1]
    refine for_range (lo := 0) (fun i σ G => Same H G ∧ (∃ y4 y5 : Option V, σ = [some (.ref a), some (.ref b), some (.ref pp), some (.ref pq), y4, y5]) ∧ G pp = some (.lst ((part (fun a b => a * M.q + b * L.q) L.ps M.ps i 0).map V.int)) ∧ G pq = some (.lst ((part (fun a b => a * b) L.ws M.ws i 0).map V.int)))
      ⟨s12, ⟨_, _, rfl⟩, hp2, upd_same⟩ ?_ ?_
    · rintro i σ G hi ⟨sm, ⟨y4, y5, rfl⟩, hpp, hpq⟩
      refine ⟨_, rfl, b, _, 0, _, rfl, rfl, .of (sm _ _ hb), rfl, pb, _, rfl, .inl (.of (sm _ _ hpb)), _, rfl, by rw [List.length_map]; omega, by rw [List.length_map]; omega, ?_⟩
      have e2 : (((M.ps.map V.int).length : Nat) : Int).toNat = M.ps.length := by
        rw [List.length_map]
        omega
      rw [e2]
      refine for_range (lo := 0) (fun j σ G => Same H G ∧ (∃ y5 : Option V, σ = [some (.ref a), some (.ref b), some (.ref pp), some (.ref pq), some (.int (0 + i)), y5]) ∧ G pp = some (.lst ((part (fun a b => a * M.q + b * L.q) L.ps M.ps i j).map V.int)) ∧ G pq = some (.lst ((part (fun a b => a * b) L.ws M.ws i j).map V.int)))
        ⟨sm, ⟨_, rfl⟩, hpp, hpq⟩ ?_ ?_
      · rintro j σ G hj ⟨sm, ⟨y5, rfl⟩, hpp, hpq⟩
        have i2 : i < L.ws.length := by omega
        have j2 : j < M.ws.length := by omega
        have bp := ok1.ps _ (getD_mem hi)
        have bq := ok2.ps _ (getD_mem hj)
        have bw := ok1.ws _ (getD_mem i2)
        have bz := ok2.ws _ (getD_mem j2)
        have q1 : L.q.natAbs < 2 ^ 5 := by have := ok1.q0; have := ok1.q1; omega
        have q2 : M.q.natAbs < 2 ^ 5 := by have := ok2.q0; have := ok2.q1; omega
        refine ⟨_, rfl, .inl ⟨rfl, _, .of hpp⟩, _, rfl, a, _, 0, _, rfl, rfl, .of (sm _ _ ha), rfl, _, rfl, pa, _, _, _, rfl, rfl, .of (sm _ _ hpa), at_get (int_at hi), _, rfl, b, _, 2, _, rfl, rfl, .of (sm _ _ hb), rfl, _, _, rfl, rfl, (sm_of bp (by decide)).mul (sm_of q2 (by decide)), _, rfl, b, _, 0, _, rfl, rfl, .of (sm _ _ hb), rfl, _, rfl, pb, _, _, _, rfl, rfl, .of (sm _ _ hpb), at_get (int_at hj), _, rfl, a, _, 2, _, rfl, rfl, .of (sm _ _ ha), rfl, _, _, rfl, rfl, (sm_of bq (by decide)).mul (sm_of q1 (by decide)), _, _, rfl, rfl, pp, _, _, rfl, rfl, hpp, by rw [List.length_map]; exact small1000 (by have := part_len (f := (fun a b => a * M.q + b * L.q)) (i := i) (j := j) l4 m4; omega), ?_⟩
        have smA : Same H (upd G pp (.lst ((part (fun a b => a * M.q + b * L.q) L.ps M.ps i (j + 1)).map V.int))) := same_push sm np
        have e3 : (part (fun a b => a * M.q + b * L.q) L.ps M.ps i j).map V.int ++ [V.int (L.ps.getD i 0 * M.q + M.ps.getD j 0 * L.q)] = (part (fun a b => a * M.q + b * L.q) L.ps M.ps i (j + 1)).map V.int := part_push hj
        refine (show ∀ G', G' = upd G pp (.lst ((part (fun a b => a * M.q + b * L.q) L.ps M.ps i (j + 1)).map V.int)) → _ from fun G' hG => ?_) _ (by rw [← e3])
        have hpp' : G' pp = some (.lst ((part (fun a b => a * M.q + b * L.q) L.ps M.ps i (j + 1)).map V.int)) := by rw [hG, upd_same]
        have hpq' : G' pq = some (.lst ((part (fun a b => a * b) L.ws M.ws i j).map V.int)) := by rw [hG, upd_ne (Ne.symm ne)]; exact hpq
        have sm' : Same H G' := hG ▸ smA
        clear hG smA hpp hpq
        refine ⟨_, rfl, .inl ⟨rfl, _, .of hpq'⟩, _, rfl, a, _, 1, _, rfl, rfl, .of (sm' _ _ ha), rfl, _, rfl, wa, _, _, _, rfl, rfl, .of (sm' _ _ hwa), at_get (int_at i2), _, rfl, b, _, 1, _, rfl, rfl, .of (sm' _ _ hb), rfl, _, rfl, wb, _, _, _, rfl, rfl, .of (sm' _ _ hwb), at_get (int_at j2), _, _, rfl, rfl, (sm_of bw (by decide)).mul (sm_of bz (by decide)),
          pq, _, _, rfl, rfl, hpq', by rw [List.length_map]; exact small1000 (by have := part_len (f := fun a b => a * b) (i := i) (j := j) (show L.ws.length ≤ 4 by omega) (show M.ws.length ≤ 4 by omega); omega), ?_⟩
        refine ⟨same_push sm' nq2, ⟨_, rfl⟩, ?_, ?_⟩
        · rw [upd_ne ne]
          exact hpp'
        · rw [upd_same]
          exact congrArg (fun z => some (HO.lst z)) (part_push j2)
      · rintro σ G ⟨sm, ⟨y5, rfl⟩, hpp, hpq⟩
        have e5 : part (fun a b => a * b) L.ws M.ws i M.ps.length = part (fun a b => a * b) L.ws M.ws (i + 1) 0 := by
          rw [lb]
          exact part_row (show i < L.ws.length by omega)
        exact ⟨sm, ⟨_, _, rfl⟩, by rw [← part_row hi]; exact hpp, by rw [← e5]; exact hpq⟩
    · rintro σ G ⟨sm, ⟨y4, y5, rfl⟩, hpp, hpq⟩
      have e6 : part (fun a b => a * b) L.ws M.ws L.ps.length 0 = cross (fun a b => a * b) L.ws M.ws := by
        rw [la]
        exact part_all
      rw [part_all] at hpp
      rw [e6] at hpq
      have q1 : Sm L.q := .ab (by have := ok1.q0; omega) (by have := ok1.q1; omega)
      have q2 : Sm M.q := .ab (by have := ok2.q0; omega) (by have := ok2.q1; omega)
      have t1 : Sm L.s := .ab (by have := ok1.s0; omega) (by have := ok1.s1; omega)
      have t2 : Sm M.s := .ab (by have := ok2.s0; omega) (by have := ok2.s1; omega)
      refine ⟨_, rfl, _, rfl, _, rfl, a, _, 2, _, rfl, rfl, .of (sm _ _ ha), rfl, _, rfl, b, _, 2, _, rfl, rfl, .of (sm _ _ hb), rfl, _, _, rfl, rfl, q1.mul q2, _, rfl, a, _, 3, _, rfl, rfl, .of (sm _ _ ha), rfl, _, rfl, b, _, 3, _, rfl, rfl, .of (sm _ _ hb), rfl, _, _, rfl, rfl, t1.mul t2, by show 4 ≤ sizeLine; decide, fun pl npl => ?_⟩
      have s8 := same_upd (o := .lst [.ref pp, .ref pq, .int (L.q * M.q), .int (L.s * M.s)]) npl
      refine q _ _ (sm.trans s8) ⟨pl, pp, pq, rfl, upd_same, s8 _ _ hpp, s8 _ _ hpq, ?_⟩
      show (cross _ _ _).length = (cross _ _ _).length
      rw [cross_len, cross_len, la, lb]
def sp_prods : Sp := fun vs H Q _ => ∃ v u L M, vs = [v, u] ∧ LotAt H v L ∧ LotAt H u M ∧ LotOk 30 27 L ∧ LotOk 30 27 M ∧ L.ps.length ≤ 4 ∧ M.ps.length ≤ 4 ∧ ∀ H' x, Same H H' → LotAt H' x (prodsL L M) → Q x H'
theorem ok__law_products (T : Txt K mg A D) : FnOk P w K mg base CX0 2 A.f__law_products D.f__law_products ["_law_one", "_law_other"] (sp_prods) := by
  skip
  refine T.F__law_products.ok sc__law_products (fun vs H Q E h => ?_) (fun cdv A' outer s H vs Q E hr h => ?_)
  · obtain ⟨v, u, L, M, rfl, _⟩ := h
    rfl
  · obtain ⟨v, u, L, M, rfl, ⟨a, pa, wa, rfl, ha, hpa, hwa, la⟩, ⟨b, pb, wb, rfl, hb, hpb, hwb, lb⟩, ok1, ok2, l4, m4, q⟩ := h
    refine ⟨_, (pss_cons (ps_set (i := 2) sc__law_products.nd rfl (.inl rfl) (pe_lst pa_nil))
  (pss_cons (ps_set (i := 3) sc__law_products.nd rfl (.inl rfl) (pe_lst pa_nil))
  (pss_cons (ps_for PassesOwn.never rfl (pi_range1 rfl T.z_range (pa_cons (pe_callB call_len_seq rfl T.z_len (by decide +kernel) (pa_cons (pe_ix ix_list (pv 0) pe_int (fun _ _ => rfl)) pa_nil)) pa_nil)) (pg_name (i := 4) sc__law_products.nd rfl (.inl rfl)) (pss_one (ps_for PassesOwn.never rfl (pi_range1 rfl T.z_range (pa_cons (pe_callB call_len_seq rfl T.z_len (by decide +kernel) (pa_cons (pe_ix ix_list (pv 1) pe_int (fun _ _ => rfl)) pa_nil)) pa_nil)) (pg_name (i := 5) sc__law_products.nd rfl (.inl rfl)) (pss_cons (ps_expr (pe_bm PySem.F.plainAttrs_list PySem.F.slot_list_append PySem.F.type_list_append mt_append (pv 2) (pa_cons (pe_op op_mulW (pe_ix ix_list (pe_ix ix_list (pv 0) pe_int (fun _ _ => rfl)) (pv 4) (fun _ _ => rfl)) (pe_ix ix_list (pe_ix ix_list (pv 1) pe_int (fun _ _ => rfl)) (pv 5) (fun _ _ => rfl))) pa_nil)))
  (pss_one (ps_expr (pe_bm PySem.F.plainAttrs_list PySem.F.slot_list_append PySem.F.type_list_append mt_append (pv 3) (pa_cons (pe_op op_mulW (pe_ix ix_list (pe_ix ix_list (pv 0) pe_int (fun _ _ => rfl)) (pv 4) (fun _ _ => rfl)) (pe_ix ix_list (pe_ix ix_list (pv 1) pe_int (fun _ _ => rfl)) (pv 5) (fun _ _ => rfl))) pa_nil))))))))
  (pss_one (ps_ret (pe_lst (pa_cons (pv 2) (pa_cons (pv 3) (pa_cons (pe_op op_mulW (pe_ix ix_list (pv 0) pe_int (fun _ _ => rfl)) (pe_ix ix_list (pv 1) pe_int (fun _ _ => rfl))) (pa_cons (pe_op op_mulW (pe_ix ix_list (pv 0) pe_int (fun _ _ => rfl)) (pe_ix ix_list (pv 1) pe_int (fun _ _ => rfl))) pa_nil)))))))))), ?_⟩
    refine ⟨by show 0 ≤ sizeLine; decide, fun pp np => ⟨by show 0 ≤ sizeLine; decide, fun pq nq => ?_⟩⟩
    have s1 := same_upd (o := .lst []) np
    have s2 := same_upd (o := .lst []) nq
    have s12 := s1.trans s2
    have ne : pp ≠ pq := fun z => by rw [← z, upd_same] at nq; cases nq
    have nq2 : H pq = none := by rw [upd_ne (Ne.symm ne)] at nq; exact nq
    have hp2 : upd (upd H pp (.lst [])) pq (.lst []) pp = some (.lst []) := s2 _ _ upd_same
    refine ⟨_, rfl, a, _, 0, _, rfl, rfl, .of (s12 _ _ ha), rfl, pa, _, rfl, .inl (.of (s12 _ _ hpa)), _, rfl, by rw [List.length_map]; omega, by rw [List.length_map]; omega, ?_⟩
    have e1 : (((L.ps.map V.int).length : Nat) : Int).toNat = L.ps.length := by
      rw [List.length_map]
      omega
    rw [e1]
    refine for_range (lo := 0) (fun i σ G => Same H G ∧ (∃ y4 y5 : Option V, σ = [some (.ref a), some (.ref b), some (.ref pp), some (.ref pq), y4, y5]) ∧ G pp = some (.lst ((part (fun a b => a * b) L.ps M.ps i 0).map V.int)) ∧ G pq = some (.lst ((part (fun a b => a * b) L.ws M.ws i 0).map V.int)))
      ⟨s12, ⟨_, _, rfl⟩, hp2, upd_same⟩ ?_ ?_
    · rintro i σ G hi ⟨sm, ⟨y4, y5, rfl⟩, hpp, hpq⟩
      refine ⟨_, rfl, b, _, 0, _, rfl, rfl, .of (sm _ _ hb), rfl, pb, _, rfl, .inl (.of (sm _ _ hpb)), _, rfl, by rw [List.length_map]; omega, by rw [List.length_map]; omega, ?_⟩
      have e2 : (((M.ps.map V.int).length : Nat) : Int).toNat = M.ps.length := by
        rw [List.length_map]
        omega
      rw [e2]
      refine for_range (lo := 0) (fun j σ G => Same H G ∧ (∃ y5 : Option V, σ = [some (.ref a), some (.ref b), some (.ref pp), some (.ref pq), some (.int (0 + i)), y5]) ∧ G pp = some (.lst ((part (fun a b => a * b) L.ps M.ps i j).map V.int)) ∧ G pq = some (.lst ((part (fun a b => a * b) L.ws M.ws i j).map V.int)))
        ⟨sm, ⟨_, rfl⟩, hpp, hpq⟩ ?_ ?_
      · rintro j σ G hj ⟨sm, ⟨y5, rfl⟩, hpp, hpq⟩
        have i2 : i < L.ws.length := by omega
        have j2 : j < M.ws.length := by omega
        have bp := ok1.ps _ (getD_mem hi)
        have bq := ok2.ps _ (getD_mem hj)
        have bw := ok1.ws _ (getD_mem i2)
        have bz := ok2.ws _ (getD_mem j2)
        have q1 : L.q.natAbs < 2 ^ 5 := by have := ok1.q0; have := ok1.q1; omega
        have q2 : M.q.natAbs < 2 ^ 5 := by have := ok2.q0; have := ok2.q1; omega
        refine ⟨_, rfl, .inl ⟨rfl, _, .of hpp⟩, _, rfl, a, _, 0, _, rfl, rfl, .of (sm _ _ ha), rfl, _, rfl, pa, _, _, _, rfl, rfl, .of (sm _ _ hpa), at_get (int_at hi), _, rfl, b, _, 0, _, rfl, rfl, .of (sm _ _ hb), rfl, _, rfl, pb, _, _, _, rfl, rfl, .of (sm _ _ hpb), at_get (int_at hj), _, _, rfl, rfl, (sm_of bp (by decide)).mul (sm_of bq (by decide)), pp, _, _, rfl, rfl, hpp, by rw [List.length_map]; exact small1000 (by have := part_len (f := (fun a b => a * b)) (i := i) (j := j) l4 m4; omega), ?_⟩
        have smA : Same H (upd G pp (.lst ((part (fun a b => a * b) L.ps M.ps i (j + 1)).map V.int))) := same_push sm np
        have e3 : (part (fun a b => a * b) L.ps M.ps i j).map V.int ++ [V.int (L.ps.getD i 0 * M.ps.getD j 0)] = (part (fun a b => a * b) L.ps M.ps i (j + 1)).map V.int := part_push hj
        refine (show ∀ G', G' = upd G pp (.lst ((part (fun a b => a * b) L.ps M.ps i (j + 1)).map V.int)) → _ from fun G' hG => ?_) _ (by rw [← e3])
        have hpp' : G' pp = some (.lst ((part (fun a b => a * b) L.ps M.ps i (j + 1)).map V.int)) := by rw [hG, upd_same]
        have hpq' : G' pq = some (.lst ((part (fun a b => a * b) L.ws M.ws i j).map V.int)) := by rw [hG, upd_ne (Ne.symm ne)]; exact hpq
        have sm' : Same H G' := hG ▸ smA
        clear hG smA hpp hpq
        refine ⟨_, rfl, .inl ⟨rfl, _, .of hpq'⟩, _, rfl, a, _, 1, _, rfl, rfl, .of (sm' _ _ ha), rfl, _, rfl, wa, _, _, _, rfl, rfl, .of (sm' _ _ hwa), at_get (int_at i2), _, rfl, b, _, 1, _, rfl, rfl, .of (sm' _ _ hb), rfl, _, rfl, wb, _, _, _, rfl, rfl, .of (sm' _ _ hwb), at_get (int_at j2), _, _, rfl, rfl, (sm_of bw (by decide)).mul (sm_of bz (by decide)),
          pq, _, _, rfl, rfl, hpq', by rw [List.length_map]; exact small1000 (by have := part_len (f := fun a b => a * b) (i := i) (j := j) (show L.ws.length ≤ 4 by omega) (show M.ws.length ≤ 4 by omega); omega), ?_⟩
        refine ⟨same_push sm' nq2, ⟨_, rfl⟩, ?_, ?_⟩
        · rw [upd_ne ne]
          exact hpp'
        · rw [upd_same]
          exact congrArg (fun z => some (HO.lst z)) (part_push j2)
      · rintro σ G ⟨sm, ⟨y5, rfl⟩, hpp, hpq⟩
        have e5 : part (fun a b => a * b) L.ws M.ws i M.ps.length = part (fun a b => a * b) L.ws M.ws (i + 1) 0 := by
          rw [lb]
          exact part_row (show i < L.ws.length by omega)
        exact ⟨sm, ⟨_, _, rfl⟩, by rw [← part_row hi]; exact hpp, by rw [← e5]; exact hpq⟩
    · rintro σ G ⟨sm, ⟨y4, y5, rfl⟩, hpp, hpq⟩
      have e6 : part (fun a b => a * b) L.ws M.ws L.ps.length 0 = cross (fun a b => a * b) L.ws M.ws := by
        rw [la]
        exact part_all
      rw [part_all] at hpp
      rw [e6] at hpq
      have q1 : Sm L.q := .ab (by have := ok1.q0; omega) (by have := ok1.q1; omega)
      have q2 : Sm M.q := .ab (by have := ok2.q0; omega) (by have := ok2.q1; omega)
      have t1 : Sm L.s := .ab (by have := ok1.s0; omega) (by have := ok1.s1; omega)
      have t2 : Sm M.s := .ab (by have := ok2.s0; omega) (by have := ok2.s1; omega)
      refine ⟨_, rfl, _, rfl, _, rfl, a, _, 2, _, rfl, rfl, .of (sm _ _ ha), rfl, _, rfl, b, _, 2, _, rfl, rfl, .of (sm _ _ hb), rfl, _, _, rfl, rfl, q1.mul q2, _, rfl, a, _, 3, _, rfl, rfl, .of (sm _ _ ha), rfl, _, rfl, b, _, 3, _, rfl, rfl, .of (sm _ _ hb), rfl, _, _, rfl, rfl, t1.mul t2, by show 4 ≤ sizeLine; decide, fun pl npl => ?_⟩
      have s8 := same_upd (o := .lst [.ref pp, .ref pq, .int (L.q * M.q), .int (L.s * M.s)]) npl
      refine q _ _ (sm.trans s8) ⟨pl, pp, pq, rfl, upd_same, s8 _ _ hpp, s8 _ _ hpq, ?_⟩
      show (cross _ _ _).length = (cross _ _ _).length
      rw [cross_len, cross_len, la, lb]

end

section
variable {P : Program} {w : World} {K : PySem.W.Frag} {mg : Str → Option Value} {base : Heap} {A : Ad} {D : Fd}
/-! ### sums -/
theorem sum_mul {α : Type} (l : List α) (f : α → Int) (c : Int) : (l.map f).sum * c = (l.map fun x => f x * c).sum := by
  induction l with
  | nil => simp
  | cons x l ih => rw [List.map_cons, List.map_cons, List.sum_cons, List.sum_cons, Int.add_mul, ih]
theorem mul_sum {α : Type} (l : List α) (f : α → Int) (c : Int) : c * (l.map f).sum = (l.map fun x => c * f x).sum := by
  induction l with
  | nil => simp
  | cons x l ih => rw [List.map_cons, List.map_cons, List.sum_cons, List.sum_cons, Int.mul_add, ih]
theorem sum_add' {α : Type} (l : List α) (f g : α → Int) : (l.map fun x => f x + g x).sum = (l.map f).sum + (l.map g).sum := by
  induction l with
  | nil => simp
  | cons x l ih =>
    rw [List.map_cons, List.map_cons, List.map_cons, List.sum_cons, List.sum_cons, List.sum_cons, ih]
    omega
theorem sum_zero {α : Type} (l : List α) : (l.map fun _ => (0 : Int)).sum = 0 := by
  induction l with
  | nil => simp
  | cons x l ih => rw [List.map_cons, List.sum_cons, ih]; rfl
theorem sum_swap {α β : Type} (l : List α) (r : List β) (F : α → β → Int) : (l.map fun x => (r.map fun y => F x y).sum).sum = (r.map fun y => (l.map fun x => F x y).sum).sum := by
  induction l with
  | nil =>
    show (0 : Int) = (r.map fun _ => ([] : List Int).sum).sum
    exact (sum_zero r).symm
  | cons x l ih =>
    rw [List.map_cons, List.sum_cons, ih, ← sum_add']
    rfl
theorem sum_congr {α : Type} {l : List α} {f g : α → Int} (h : ∀ x ∈ l, f x = g x) : (l.map f).sum = (l.map g).sum := by
  rw [List.map_congr_left h]
theorem binom0 (x y : Int) : (x + y) ^ 0 = ((List.range (0 + 1)).map fun i : Nat => PySem.W.mcComb ((0 : Nat) : Int) (i : Int) * x ^ i * y ^ (0 - i)).sum := by
  rw [show List.range (0 + 1) = [0] by decide]
  simp only [List.map_cons, List.map_nil, List.sum_cons, List.sum_nil]
  have c0 : PySem.W.mcComb ((0 : Nat) : Int) ((0 : Nat) : Int) = 1 := by decide +kernel
  rw [c0]
  grind
theorem binom1 (x y : Int) : (x + y) ^ 1 = ((List.range (1 + 1)).map fun i : Nat => PySem.W.mcComb ((1 : Nat) : Int) (i : Int) * x ^ i * y ^ (1 - i)).sum := by
  rw [show List.range (1 + 1) = [0, 1] by decide]
  simp only [List.map_cons, List.map_nil, List.sum_cons, List.sum_nil]
  have c0 : PySem.W.mcComb ((1 : Nat) : Int) ((0 : Nat) : Int) = 1 := by decide +kernel
  have c1 : PySem.W.mcComb ((1 : Nat) : Int) ((1 : Nat) : Int) = 1 := by decide +kernel
  rw [c0, c1]
  grind
theorem binom2 (x y : Int) : (x + y) ^ 2 = ((List.range (2 + 1)).map fun i : Nat => PySem.W.mcComb ((2 : Nat) : Int) (i : Int) * x ^ i * y ^ (2 - i)).sum := by
  rw [show List.range (2 + 1) = [0, 1, 2] by decide]
  simp only [List.map_cons, List.map_nil, List.sum_cons, List.sum_nil]
  have c0 : PySem.W.mcComb ((2 : Nat) : Int) ((0 : Nat) : Int) = 1 := by decide +kernel
  have c1 : PySem.W.mcComb ((2 : Nat) : Int) ((1 : Nat) : Int) = 2 := by decide +kernel
  have c2 : PySem.W.mcComb ((2 : Nat) : Int) ((2 : Nat) : Int) = 1 := by decide +kernel
  rw [c0, c1, c2]
  grind
theorem binom3 (x y : Int) : (x + y) ^ 3 = ((List.range (3 + 1)).map fun i : Nat => PySem.W.mcComb ((3 : Nat) : Int) (i : Int) * x ^ i * y ^ (3 - i)).sum := by
  rw [show List.range (3 + 1) = [0, 1, 2, 3] by decide]
  simp only [List.map_cons, List.map_nil, List.sum_cons, List.sum_nil]
  have c0 : PySem.W.mcComb ((3 : Nat) : Int) ((0 : Nat) : Int) = 1 := by decide +kernel
  have c1 : PySem.W.mcComb ((3 : Nat) : Int) ((1 : Nat) : Int) = 3 := by decide +kernel
  have c2 : PySem.W.mcComb ((3 : Nat) : Int) ((2 : Nat) : Int) = 3 := by decide +kernel
  have c3 : PySem.W.mcComb ((3 : Nat) : Int) ((3 : Nat) : Int) = 1 := by decide +kernel
  rw [c0, c1, c2, c3]
  grind
theorem binom4 (x y : Int) : (x + y) ^ 4 = ((List.range (4 + 1)).map fun i : Nat => PySem.W.mcComb ((4 : Nat) : Int) (i : Int) * x ^ i * y ^ (4 - i)).sum := by
  rw [show List.range (4 + 1) = [0, 1, 2, 3, 4] by decide]
  simp only [List.map_cons, List.map_nil, List.sum_cons, List.sum_nil]
  have c0 : PySem.W.mcComb ((4 : Nat) : Int) ((0 : Nat) : Int) = 1 := by decide +kernel
  have c1 : PySem.W.mcComb ((4 : Nat) : Int) ((1 : Nat) : Int) = 4 := by decide +kernel
  have c2 : PySem.W.mcComb ((4 : Nat) : Int) ((2 : Nat) : Int) = 6 := by decide +kernel
  have c3 : PySem.W.mcComb ((4 : Nat) : Int) ((3 : Nat) : Int) = 4 := by decide +kernel
  have c4 : PySem.W.mcComb ((4 : Nat) : Int) ((4 : Nat) : Int) = 1 := by decide +kernel
  rw [c0, c1, c2, c3, c4]
  grind
theorem binom5 (x y : Int) : (x + y) ^ 5 = ((List.range (5 + 1)).map fun i : Nat => PySem.W.mcComb ((5 : Nat) : Int) (i : Int) * x ^ i * y ^ (5 - i)).sum := by
  rw [show List.range (5 + 1) = [0, 1, 2, 3, 4, 5] by decide]
  simp only [List.map_cons, List.map_nil, List.sum_cons, List.sum_nil]
  have c0 : PySem.W.mcComb ((5 : Nat) : Int) ((0 : Nat) : Int) = 1 := by decide +kernel
  have c1 : PySem.W.mcComb ((5 : Nat) : Int) ((1 : Nat) : Int) = 5 := by decide +kernel
  have c2 : PySem.W.mcComb ((5 : Nat) : Int) ((2 : Nat) : Int) = 10 := by decide +kernel
  have c3 : PySem.W.mcComb ((5 : Nat) : Int) ((3 : Nat) : Int) = 10 := by decide +kernel
  have c4 : PySem.W.mcComb ((5 : Nat) : Int) ((4 : Nat) : Int) = 5 := by decide +kernel
  have c5 : PySem.W.mcComb ((5 : Nat) : Int) ((5 : Nat) : Int) = 1 := by decide +kernel
  rw [c0, c1, c2, c3, c4, c5]
  grind
theorem binom6 (x y : Int) : (x + y) ^ 6 = ((List.range (6 + 1)).map fun i : Nat => PySem.W.mcComb ((6 : Nat) : Int) (i : Int) * x ^ i * y ^ (6 - i)).sum := by
  rw [show List.range (6 + 1) = [0, 1, 2, 3, 4, 5, 6] by decide]
  simp only [List.map_cons, List.map_nil, List.sum_cons, List.sum_nil]
  have c0 : PySem.W.mcComb ((6 : Nat) : Int) ((0 : Nat) : Int) = 1 := by decide +kernel
  have c1 : PySem.W.mcComb ((6 : Nat) : Int) ((1 : Nat) : Int) = 6 := by decide +kernel
  have c2 : PySem.W.mcComb ((6 : Nat) : Int) ((2 : Nat) : Int) = 15 := by decide +kernel
  have c3 : PySem.W.mcComb ((6 : Nat) : Int) ((3 : Nat) : Int) = 20 := by decide +kernel
  have c4 : PySem.W.mcComb ((6 : Nat) : Int) ((4 : Nat) : Int) = 15 := by decide +kernel
  have c5 : PySem.W.mcComb ((6 : Nat) : Int) ((5 : Nat) : Int) = 6 := by decide +kernel
  have c6 : PySem.W.mcComb ((6 : Nat) : Int) ((6 : Nat) : Int) = 1 := by decide +kernel
  rw [c0, c1, c2, c3, c4, c5, c6]
  grind
theorem binom7 (x y : Int) : (x + y) ^ 7 = ((List.range (7 + 1)).map fun i : Nat => PySem.W.mcComb ((7 : Nat) : Int) (i : Int) * x ^ i * y ^ (7 - i)).sum := by
  rw [show List.range (7 + 1) = [0, 1, 2, 3, 4, 5, 6, 7] by decide]
  simp only [List.map_cons, List.map_nil, List.sum_cons, List.sum_nil]
  have c0 : PySem.W.mcComb ((7 : Nat) : Int) ((0 : Nat) : Int) = 1 := by decide +kernel
  have c1 : PySem.W.mcComb ((7 : Nat) : Int) ((1 : Nat) : Int) = 7 := by decide +kernel
  have c2 : PySem.W.mcComb ((7 : Nat) : Int) ((2 : Nat) : Int) = 21 := by decide +kernel
  have c3 : PySem.W.mcComb ((7 : Nat) : Int) ((3 : Nat) : Int) = 35 := by decide +kernel
  have c4 : PySem.W.mcComb ((7 : Nat) : Int) ((4 : Nat) : Int) = 35 := by decide +kernel
  have c5 : PySem.W.mcComb ((7 : Nat) : Int) ((5 : Nat) : Int) = 21 := by decide +kernel
  have c6 : PySem.W.mcComb ((7 : Nat) : Int) ((6 : Nat) : Int) = 7 := by decide +kernel
  have c7 : PySem.W.mcComb ((7 : Nat) : Int) ((7 : Nat) : Int) = 1 := by decide +kernel
  rw [c0, c1, c2, c3, c4, c5, c6, c7]
  grind
theorem binom8 (x y : Int) : (x + y) ^ 8 = ((List.range (8 + 1)).map fun i : Nat => PySem.W.mcComb ((8 : Nat) : Int) (i : Int) * x ^ i * y ^ (8 - i)).sum := by
  rw [show List.range (8 + 1) = [0, 1, 2, 3, 4, 5, 6, 7, 8] by decide]
  simp only [List.map_cons, List.map_nil, List.sum_cons, List.sum_nil]
  have c0 : PySem.W.mcComb ((8 : Nat) : Int) ((0 : Nat) : Int) = 1 := by decide +kernel
  have c1 : PySem.W.mcComb ((8 : Nat) : Int) ((1 : Nat) : Int) = 8 := by decide +kernel
  have c2 : PySem.W.mcComb ((8 : Nat) : Int) ((2 : Nat) : Int) = 28 := by decide +kernel
  have c3 : PySem.W.mcComb ((8 : Nat) : Int) ((3 : Nat) : Int) = 56 := by decide +kernel
  have c4 : PySem.W.mcComb ((8 : Nat) : Int) ((4 : Nat) : Int) = 70 := by decide +kernel
  have c5 : PySem.W.mcComb ((8 : Nat) : Int) ((5 : Nat) : Int) = 56 := by decide +kernel
  have c6 : PySem.W.mcComb ((8 : Nat) : Int) ((6 : Nat) : Int) = 28 := by decide +kernel
  have c7 : PySem.W.mcComb ((8 : Nat) : Int) ((7 : Nat) : Int) = 8 := by decide +kernel
  have c8 : PySem.W.mcComb ((8 : Nat) : Int) ((8 : Nat) : Int) = 1 := by decide +kernel
  rw [c0, c1, c2, c3, c4, c5, c6, c7, c8]
  grind
theorem binom9 (x y : Int) : (x + y) ^ 9 = ((List.range (9 + 1)).map fun i : Nat => PySem.W.mcComb ((9 : Nat) : Int) (i : Int) * x ^ i * y ^ (9 - i)).sum := by
  rw [show List.range (9 + 1) = [0, 1, 2, 3, 4, 5, 6, 7, 8, 9] by decide]
  simp only [List.map_cons, List.map_nil, List.sum_cons, List.sum_nil]
  have c0 : PySem.W.mcComb ((9 : Nat) : Int) ((0 : Nat) : Int) = 1 := by decide +kernel
  have c1 : PySem.W.mcComb ((9 : Nat) : Int) ((1 : Nat) : Int) = 9 := by decide +kernel
  have c2 : PySem.W.mcComb ((9 : Nat) : Int) ((2 : Nat) : Int) = 36 := by decide +kernel
  have c3 : PySem.W.mcComb ((9 : Nat) : Int) ((3 : Nat) : Int) = 84 := by decide +kernel
  have c4 : PySem.W.mcComb ((9 : Nat) : Int) ((4 : Nat) : Int) = 126 := by decide +kernel
  have c5 : PySem.W.mcComb ((9 : Nat) : Int) ((5 : Nat) : Int) = 126 := by decide +kernel
  have c6 : PySem.W.mcComb ((9 : Nat) : Int) ((6 : Nat) : Int) = 84 := by decide +kernel
  have c7 : PySem.W.mcComb ((9 : Nat) : Int) ((7 : Nat) : Int) = 36 := by decide +kernel
  have c8 : PySem.W.mcComb ((9 : Nat) : Int) ((8 : Nat) : Int) = 9 := by decide +kernel
  have c9 : PySem.W.mcComb ((9 : Nat) : Int) ((9 : Nat) : Int) = 1 := by decide +kernel
  rw [c0, c1, c2, c3, c4, c5, c6, c7, c8, c9]
  grind
theorem binom10 (x y : Int) : (x + y) ^ 10 = ((List.range (10 + 1)).map fun i : Nat => PySem.W.mcComb ((10 : Nat) : Int) (i : Int) * x ^ i * y ^ (10 - i)).sum := by
  rw [show List.range (10 + 1) = [0, 1, 2, 3, 4, 5, 6, 7, 8, 9, 10] by decide]
  simp only [List.map_cons, List.map_nil, List.sum_cons, List.sum_nil]
  have c0 : PySem.W.mcComb ((10 : Nat) : Int) ((0 : Nat) : Int) = 1 := by decide +kernel
  have c1 : PySem.W.mcComb ((10 : Nat) : Int) ((1 : Nat) : Int) = 10 := by decide +kernel
  have c2 : PySem.W.mcComb ((10 : Nat) : Int) ((2 : Nat) : Int) = 45 := by decide +kernel
  have c3 : PySem.W.mcComb ((10 : Nat) : Int) ((3 : Nat) : Int) = 120 := by decide +kernel
  have c4 : PySem.W.mcComb ((10 : Nat) : Int) ((4 : Nat) : Int) = 210 := by decide +kernel
  have c5 : PySem.W.mcComb ((10 : Nat) : Int) ((5 : Nat) : Int) = 252 := by decide +kernel
  have c6 : PySem.W.mcComb ((10 : Nat) : Int) ((6 : Nat) : Int) = 210 := by decide +kernel
  have c7 : PySem.W.mcComb ((10 : Nat) : Int) ((7 : Nat) : Int) = 120 := by decide +kernel
  have c8 : PySem.W.mcComb ((10 : Nat) : Int) ((8 : Nat) : Int) = 45 := by decide +kernel
  have c9 : PySem.W.mcComb ((10 : Nat) : Int) ((9 : Nat) : Int) = 10 := by decide +kernel
  have c10 : PySem.W.mcComb ((10 : Nat) : Int) ((10 : Nat) : Int) = 1 := by decide +kernel
  rw [c0, c1, c2, c3, c4, c5, c6, c7, c8, c9, c10]
  grind
theorem binom11 (x y : Int) : (x + y) ^ 11 = ((List.range (11 + 1)).map fun i : Nat => PySem.W.mcComb ((11 : Nat) : Int) (i : Int) * x ^ i * y ^ (11 - i)).sum := by
  rw [show List.range (11 + 1) = [0, 1, 2, 3, 4, 5, 6, 7, 8, 9, 10, 11] by decide]
  simp only [List.map_cons, List.map_nil, List.sum_cons, List.sum_nil]
  have c0 : PySem.W.mcComb ((11 : Nat) : Int) ((0 : Nat) : Int) = 1 := by decide +kernel
  have c1 : PySem.W.mcComb ((11 : Nat) : Int) ((1 : Nat) : Int) = 11 := by decide +kernel
  have c2 : PySem.W.mcComb ((11 : Nat) : Int) ((2 : Nat) : Int) = 55 := by decide +kernel
  have c3 : PySem.W.mcComb ((11 : Nat) : Int) ((3 : Nat) : Int) = 165 := by decide +kernel
  have c4 : PySem.W.mcComb ((11 : Nat) : Int) ((4 : Nat) : Int) = 330 := by decide +kernel
  have c5 : PySem.W.mcComb ((11 : Nat) : Int) ((5 : Nat) : Int) = 462 := by decide +kernel
  have c6 : PySem.W.mcComb ((11 : Nat) : Int) ((6 : Nat) : Int) = 462 := by decide +kernel
  have c7 : PySem.W.mcComb ((11 : Nat) : Int) ((7 : Nat) : Int) = 330 := by decide +kernel
  have c8 : PySem.W.mcComb ((11 : Nat) : Int) ((8 : Nat) : Int) = 165 := by decide +kernel
  have c9 : PySem.W.mcComb ((11 : Nat) : Int) ((9 : Nat) : Int) = 55 := by decide +kernel
  have c10 : PySem.W.mcComb ((11 : Nat) : Int) ((10 : Nat) : Int) = 11 := by decide +kernel
  have c11 : PySem.W.mcComb ((11 : Nat) : Int) ((11 : Nat) : Int) = 1 := by decide +kernel
  rw [c0, c1, c2, c3, c4, c5, c6, c7, c8, c9, c10, c11]
  grind
theorem binom12 (x y : Int) : (x + y) ^ 12 = ((List.range (12 + 1)).map fun i : Nat => PySem.W.mcComb ((12 : Nat) : Int) (i : Int) * x ^ i * y ^ (12 - i)).sum := by
  rw [show List.range (12 + 1) = [0, 1, 2, 3, 4, 5, 6, 7, 8, 9, 10, 11, 12] by decide]
  simp only [List.map_cons, List.map_nil, List.sum_cons, List.sum_nil]
  have c0 : PySem.W.mcComb ((12 : Nat) : Int) ((0 : Nat) : Int) = 1 := by decide +kernel
  have c1 : PySem.W.mcComb ((12 : Nat) : Int) ((1 : Nat) : Int) = 12 := by decide +kernel
  have c2 : PySem.W.mcComb ((12 : Nat) : Int) ((2 : Nat) : Int) = 66 := by decide +kernel
  have c3 : PySem.W.mcComb ((12 : Nat) : Int) ((3 : Nat) : Int) = 220 := by decide +kernel
  have c4 : PySem.W.mcComb ((12 : Nat) : Int) ((4 : Nat) : Int) = 495 := by decide +kernel
  have c5 : PySem.W.mcComb ((12 : Nat) : Int) ((5 : Nat) : Int) = 792 := by decide +kernel
  have c6 : PySem.W.mcComb ((12 : Nat) : Int) ((6 : Nat) : Int) = 924 := by decide +kernel
  have c7 : PySem.W.mcComb ((12 : Nat) : Int) ((7 : Nat) : Int) = 792 := by decide +kernel
  have c8 : PySem.W.mcComb ((12 : Nat) : Int) ((8 : Nat) : Int) = 495 := by decide +kernel
  have c9 : PySem.W.mcComb ((12 : Nat) : Int) ((9 : Nat) : Int) = 220 := by decide +kernel
  have c10 : PySem.W.mcComb ((12 : Nat) : Int) ((10 : Nat) : Int) = 66 := by decide +kernel
  have c11 : PySem.W.mcComb ((12 : Nat) : Int) ((11 : Nat) : Int) = 12 := by decide +kernel
  have c12 : PySem.W.mcComb ((12 : Nat) : Int) ((12 : Nat) : Int) = 1 := by decide +kernel
  rw [c0, c1, c2, c3, c4, c5, c6, c7, c8, c9, c10, c11, c12]
  grind
/-- the binomial theorem, as far as it is asked -/
theorem binom (x y : Int) : ∀ k : Nat, k < 13 → (x + y) ^ k = ((List.range (k + 1)).map fun i : Nat => PySem.W.mcComb (k : Int) (i : Int) * x ^ i * y ^ (k - i)).sum
  | 0, _ => binom0 x y
  | 1, _ => binom1 x y
  | 2, _ => binom2 x y
  | 3, _ => binom3 x y
  | 4, _ => binom4 x y
  | 5, _ => binom5 x y
  | 6, _ => binom6 x y
  | 7, _ => binom7 x y
  | 8, _ => binom8 x y
  | 9, _ => binom9 x y
  | 10, _ => binom10 x y
  | 11, _ => binom11 x y
  | 12, _ => binom12 x y
  | n + 13, h => absurd h (by omega)
/-! ### powers of lots -/
abbrev zs (L : Lot) : List (Int × Int) := List.zip L.ws L.ps
theorem zip_sum (g : Int → Int → Int) : ∀ ws ps : List Int, (List.zipWith g ws ps).sum = ((List.zip ws ps).map fun x => g x.1 x.2).sum
  | [], _ => by simp
  | _ :: _, [] => by simp
  | w :: ws, p :: ps => by
    rw [List.zipWith_cons_cons, List.zip_cons_cons, List.map_cons, List.sum_cons, List.sum_cons, zip_sum g ws ps]
theorem pw_zs (L : Lot) (k : Nat) : pw L k = ((zs L).map fun x => x.1 * x.2 ^ k).sum := zip_sum _ _ _
theorem cross_zip (g : Int → Int → Int) (h f : Int → Int → Int) {vs qs : List Int} (hl : vs.length = qs.length) : ∀ ws ps : List Int, (List.zipWith g (cross h ws vs) (cross f ps qs)).sum = ((List.zip ws ps).map fun x => ((List.zip vs qs).map fun y => g (h x.1 y.1) (f x.2 y.2)).sum).sum
  | [], _ => by simp [cross]
  | w :: ws, [] => by simp [cross]
  | w :: ws, p :: ps => by
    have e1 : cross h (w :: ws) vs = vs.map (h w) ++ cross h ws vs := List.flatMap_cons
    have e2 : cross f (p :: ps) qs = qs.map (f p) ++ cross f ps qs := List.flatMap_cons
    rw [e1, e2, List.zipWith_append (by rw [List.length_map, List.length_map, hl]), List.sum_append, cross_zip g h f hl ws ps, List.zip_cons_cons, List.map_cons, List.sum_cons]
    congr 1
    rw [List.zipWith_map, zip_sum]
theorem pw_sums {L M : Lot} (hl : M.ws.length = M.ps.length) (k : Nat) : pw (sumsL L M) k = ((zs L).map fun x => ((zs M).map fun y => x.1 * y.1 * (x.2 * M.q + y.2 * L.q) ^ k).sum).sum :=
  cross_zip (fun w p => w * p ^ k) (fun a b => a * b) (fun a b => a * M.q + b * L.q) hl _ _
theorem pw_prods {L M : Lot} (hl : M.ws.length = M.ps.length) (k : Nat) : pw (prodsL L M) k = pw L k * pw M k := by
  have e : pw (prodsL L M) k = ((zs L).map fun x => ((zs M).map fun y => x.1 * y.1 * (x.2 * y.2) ^ k).sum).sum := cross_zip (fun w p => w * p ^ k) (fun a b => a * b) (fun a b => a * b) hl _ _
  rw [e, pw_zs L, pw_zs M, sum_mul]
  refine sum_congr fun x _ => ?_
  rw [mul_sum]
  refine sum_congr fun y _ => ?_
  rw [Int.mul_pow]
  generalize x.2 ^ k = a
  generalize y.2 ^ k = b
  grind
/-- the sums' powers by the powers of the two -/
theorem pw_binom {L M : Lot} (hl : M.ws.length = M.ps.length) {k : Nat} (hk : k < 13) : pw (sumsL L M) k = ((List.range (k + 1)).map fun i : Nat => PySem.W.mcComb (k : Int) (i : Int) * (pw L i * M.q ^ i) * (pw M (k - i) * L.q ^ (k - i))).sum := by
  rw [pw_sums hl]
  have e1 : ∀ x ∈ zs L, ((zs M).map fun y => x.1 * y.1 * (x.2 * M.q + y.2 * L.q) ^ k).sum = ((List.range (k + 1)).map fun i : Nat => ((zs M).map fun y => PySem.W.mcComb (k : Int) (i : Int) * (x.1 * x.2 ^ i * M.q ^ i) * (y.1 * y.2 ^ (k - i) * L.q ^ (k - i))).sum).sum := by
    intro x _
    rw [← sum_swap]
    refine sum_congr fun y _ => ?_
    rw [binom _ _ k hk, mul_sum]
    refine sum_congr fun i _ => ?_
    rw [Int.mul_pow, Int.mul_pow]
    generalize x.2 ^ i = a
    generalize y.2 ^ (k - i) = b
    generalize M.q ^ i = c
    generalize L.q ^ (k - i) = d
    generalize PySem.W.mcComb (k : Int) (i : Int) = e
    grind
  rw [sum_congr e1, sum_swap]
  refine sum_congr fun i _ => ?_
  rw [pw_zs L, pw_zs M, sum_mul, mul_sum, sum_mul]
  refine sum_congr fun x _ => ?_
  rw [sum_mul, mul_sum]
theorem pw_comm {L M : Lot} (h1 : L.ws.length = L.ps.length) (h2 : M.ws.length = M.ps.length) (k : Nat) : pw (sumsL M L) k = pw (sumsL L M) k := by
  rw [pw_sums h1, pw_sums h2, sum_swap]
  refine sum_congr fun x _ => ?_
  refine sum_congr fun y _ => ?_
  rw [Int.mul_comm y.1 x.1, Int.add_comm (y.2 * L.q)]
/-- what the program's sums come to -/
theorem conv_is {L M : Lot} (hl : M.ws.length = M.ps.length) {ts us : List Int} {B B2 : Int} {k : Nat} (hk : k < 13) (h1 : Tops B 1000 ts (rowF L)) (h2 : Tops B2 1000 us (rowF M)) (l1 : k < ts.length) (l2 : k < us.length) :
    conv ts us k * ((L.s * M.s) * (L.q * M.q) ^ k) = pw (sumsL L M) k * (B * B2) := by
  rw [pw_binom hl hk, sum_mul]
  show ((List.range (k + 1)).map (term k ts us)).sum * _ = _
  rw [sum_mul]
  refine sum_congr fun i hi => ?_
  have ik : i ≤ k := by have := List.mem_range.mp hi; omega
  have a1 : ts.getD i 0 * (L.s * L.q ^ i) = pw L i * B := (getD_tops h1 (show i < ts.length by omega)).2
  have a2 : us.getD (k - i) 0 * (M.s * M.q ^ (k - i)) = pw M (k - i) * B2 := (getD_tops h2 (show k - i < us.length by omega)).2
  show PySem.W.mcComb (k : Int) (i : Int) * ts.getD i 0 * us.getD (k - i) 0 * _ = _
  have e : (L.q * M.q) ^ k = L.q ^ i * L.q ^ (k - i) * (M.q ^ i * M.q ^ (k - i)) := by
    rw [Int.mul_pow, ← Int.pow_add, ← Int.pow_add, Nat.add_sub_cancel' ik]
  rw [e]
  generalize ts.getD i 0 = t at a1
  generalize us.getD (k - i) 0 = u at a2
  generalize pw L i = x at a1
  generalize pw M (k - i) = y at a2
  generalize L.q ^ i = p1 at a1
  generalize L.q ^ (k - i) = p2
  generalize M.q ^ i = p3
  generalize M.q ^ (k - i) = p4 at a2
  generalize PySem.W.mcComb (k : Int) (i : Int) = c
  have r : c * t * u * (L.s * M.s * (p1 * p2 * (p3 * p4))) = c * (t * (L.s * p1)) * (u * (M.s * p4)) * (p2 * p3) := by grind
  rw [r, a1, a2]
  grind

end

end Mo

namespace Mo
open PySem PySem.Spec PyProof.Rows L2 MoL MoW
open C8 (pss_cut tCut)
section
variable {P : Program} {w : World} {K : PySem.W.Frag} {mg : Str → Option Value} {base : Heap} {A : Ad} {D : Fd}
/-! ### the law's mixture -/
abbrev mixF (F G : Nat → Int × Int) (a b : Int) : Nat → Int × Int := fun k => ((b - a) * (F k).1 * (G k).2 + a * (G k).1 * (F k).2, b * (F k).2 * (G k).2)
def sp_lmixed : Sp := fun vs H Q _ => ∃ v u pp n m F G a b, vs = [v, u, .ref pp] ∧ PairsAt H v n F ∧ PairsAt H u m G ∧ H pp = some (two a b) ∧ n ≤ 13 ∧ m ≤ 13 ∧ a.natAbs < 2 ^ 40 ∧ b.natAbs < 2 ^ 40 ∧ (∀ k, k < n → (F k).1.natAbs < 2 ^ 500 ∧ (F k).2.natAbs < 2 ^ 100) ∧ (∀ k, k < m → (G k).1.natAbs < 2 ^ 500 ∧ (G k).2.natAbs < 2 ^ 100) ∧
  ∀ H' x, Same H H' → PairsAt H' x (min n m) (mixF F G a b) → Q x H'
theorem ok__law_mixed (T : Txt K mg A D) : FnOk P w K mg base CX0 2 A.f__law_mixed D.f__law_mixed ["_law_first", "_law_second", "_law_part"] (sp_lmixed) := by
  skip
  refine T.F__law_mixed.ok sc__law_mixed (fun vs H Q E h => ?_) (fun cdv A' outer s H vs Q E hr h => ?_)
  · obtain ⟨v, u, pp, n, m, F, G, a, b, rfl, _⟩ := h
    rfl
  · obtain ⟨v, u, pp, n, m, F, G, a0, b0, rfl, ⟨a, rs, rfl, ha, lr, hp⟩, ⟨b, ss, rfl, hb, ls, hq⟩, hpt, hn, hm, ba, bb, hF, hG, q⟩ := h
    refine ⟨_, (pss_cons (ps_set (i := 3) sc__law_mixed.nd rfl (.inl rfl) (pe_lst pa_nil))
  (pss_cons (ps_for PassesOwn.never rfl (pi_range1 rfl T.z_range (pa_cons (pe_callB call_len_seq rfl T.z_len (by decide +kernel) (pa_cons (pv 0) pa_nil)) pa_nil)) (pg_name (i := 4) sc__law_mixed.nd rfl (.inl rfl)) (pss_one (ps_if (pt_cmpR op_lt (pv 4) (pe_callB call_len_seq rfl T.z_len (by decide +kernel) (pa_cons (pv 1) pa_nil)) (nomark _)) (pss_cons (ps_set (i := 5) sc__law_mixed.nd rfl (.inl rfl) (pe_op op_add (pe_op op_mulW (pe_op op_mulW (pe_op op_sub (pe_ix ix_list (pv 2) pe_int (fun _ _ => rfl)) (pe_ix ix_list (pv 2) pe_int (fun _ _ => rfl))) (pe_ix ix_list (pe_ix ix_list (pv 0) (pv 4) (fun _ _ => rfl)) pe_int (fun _ _ => rfl))) (pe_ix ix_list (pe_ix ix_list (pv 1) (pv 4) (fun _ _ => rfl)) pe_int (fun _ _ => rfl))) (pe_op op_mulW (pe_op op_mulW (pe_ix ix_list (pv 2) pe_int (fun _ _ => rfl)) (pe_ix ix_list (pe_ix ix_list (pv 1) (pv 4) (fun _ _ => rfl)) pe_int (fun _ _ => rfl))) (pe_ix ix_list (pe_ix ix_list (pv 0) (pv 4) (fun _ _ => rfl)) pe_int (fun _ _ => rfl)))))
  (pss_one (ps_expr (pe_bm PySem.F.plainAttrs_list PySem.F.slot_list_append PySem.F.type_list_append mt_append (pv 3) (pa_cons (pe_lst (pa_cons (pv 5) (pa_cons (pe_op op_mulW (pe_op op_mulW (pe_ix ix_list (pv 2) pe_int (fun _ _ => rfl)) (pe_ix ix_list (pe_ix ix_list (pv 0) (pv 4) (fun _ _ => rfl)) pe_int (fun _ _ => rfl))) (pe_ix ix_list (pe_ix ix_list (pv 1) (pv 4) (fun _ _ => rfl)) pe_int (fun _ _ => rfl))) pa_nil))) pa_nil))))) pss_nil)))
  (pss_one (ps_ret (pv 3))))), ?_⟩
    refine ⟨by show 0 ≤ sizeLine; decide, fun d nd => ?_⟩
    have s1 := same_upd (o := .lst []) nd
    refine ⟨_, rfl, a, _, rfl, .inl (.of (s1 _ _ ha)), _, rfl, by rw [List.length_map]; omega, by rw [List.length_map]; omega, ?_⟩
    have e1 : (((rs.map V.ref).length : Nat) : Int).toNat = n := by
      rw [List.length_map]
      omega
    rw [e1]
    refine for_range (lo := 0) (fun i σ E' => Same H E' ∧ (∃ y4 y5 : Option V, σ = [some (.ref a), some (.ref b), some (.ref pp), some (.ref d), y4, y5]) ∧ ∃ ts : List Addr, E' d = some (.lst (ts.map V.ref)) ∧ ts.length = min i m ∧ Prsd E' ts (mixF F G a0 b0)) ⟨s1, ⟨_, _, rfl⟩, [], upd_same, by simp, Prsd.nil⟩ ?_ ?_
    · rintro i σ E' hi ⟨sm, ⟨y4, y5, rfl⟩, ts, hd, lt, ht⟩
      refine ⟨_, rfl, _, rfl, b, _, rfl, .inl (.of (sm _ _ hb)), _, _, rfl, rfl, _, rfl, ?_⟩
      refine ite2 (fun c => ?_) (fun c => ?_)
      · have im : i < m := by
          have := of_decide_eq_true c
          rw [List.length_map] at this
          omega
        obtain ⟨r, er, er2⟩ := pr_get (show i < rs.length by omega)
        obtain ⟨s', es, es2⟩ := pr_get (show i < ss.length by omega)
        have hrr := sm _ _ (hp i r er)
        have hss := sm _ _ (hq i s' es)
        obtain ⟨c2, c3⟩ := hF i hi
        obtain ⟨d2, d3⟩ := hG i im
        have bab : (b0 - a0).natAbs < 2 ^ 41 := by omega
        refine ⟨_, rfl, pp, _, 1, _, rfl, rfl, .of (sm _ _ hpt), rfl, _, rfl, pp, _, 0, _, rfl, rfl, .of (sm _ _ hpt), rfl, _, _, rfl, rfl, _, rfl, _, rfl, a, _, _, _, rfl, rfl, .of (sm _ _ ha), at_get er2, r, _, 0, _, rfl, rfl, .of hrr, rfl, _, _, rfl, rfl, (sm_of bab (by decide)).mul (sm_of c2 (by decide)), _, rfl, _, rfl, b, _, _, _, rfl, rfl, .of (sm _ _ hb), at_get es2, s', _, 1, _, rfl, rfl, .of hss, rfl, _, _, rfl, rfl, (sm_of (nmul bab c2) (by decide)).mul (sm_of d3 (by decide)), _, rfl, pp, _, 0, _, rfl, rfl, .of (sm _ _ hpt), rfl, _, rfl, _, rfl, b, _, _, _, rfl, rfl, .of (sm _ _ hb), at_get es2, s', _, 0, _, rfl, rfl, .of hss, rfl, _, _, rfl, rfl, (sm_of ba (by decide)).mul (sm_of d2 (by decide)), _, rfl, _, rfl, a, _, _, _, rfl, rfl, .of (sm _ _ ha), at_get er2, r, _, 1, _, rfl, rfl, .of hrr, rfl, _, _, rfl, rfl, (sm_of (nmul ba d2) (by decide)).mul (sm_of c3 (by decide)), _, _, rfl, rfl, ?_⟩
        refine ⟨_, rfl, .inl ⟨rfl, _, .of hd⟩, _, rfl, _, rfl, pp, _, 1, _, rfl, rfl, .of (sm _ _ hpt), rfl, _, rfl, _, rfl, a, _, _, _, rfl, rfl, .of (sm _ _ ha), at_get er2, r, _, 1, _, rfl, rfl, .of hrr, rfl, _, _, rfl, rfl, (sm_of bb (by decide)).mul (sm_of c3 (by decide)), _, rfl, _, rfl, b, _, _, _, rfl, rfl, .of (sm _ _ hb), at_get es2, s', _, 1, _, rfl, rfl, .of hss, rfl, _, _, rfl, rfl, (sm_of (nmul bb c3) (by decide)).mul (sm_of d3 (by decide)), by show 2 ≤ sizeLine; decide, fun x nx => ?_⟩
        have s2 := same_upd (o := two ((b0 - a0) * (F i).1 * (G i).2 + a0 * (G i).1 * (F i).2) (b0 * (F i).2 * (G i).2)) nx
        have lt' : ts.length = i := by omega
        refine ⟨d, _, _, rfl, rfl, s2 _ _ hd, by rw [List.length_map]; exact small1000 (by omega), ?_⟩
        refine ⟨same_push (sm.trans s2) nd, ⟨_, _, rfl⟩, ts ++ [x], by rw [upd_same, List.map_append]; rfl, by rw [List.length_append, lt']; show i + 1 = _; omega, (ht.same s2).push (by rw [lt']; exact upd_same) (s2 _ _ hd)⟩
      · have im : ¬ i < m := fun z => c (decide_eq_true (by rw [List.length_map]; omega))
        exact ⟨sm, ⟨_, _, rfl⟩, ts, hd, by omega, ht⟩
    · rintro σ E' ⟨sm, ⟨y4, y5, rfl⟩, ts, hd, lt, ht⟩
      exact ⟨_, rfl, q E' _ sm ⟨d, ts, rfl, hd, lt, ht⟩⟩
def sp_word (K : PySem.W.Frag) (A : Ad) : Sp := fun vs H Q _ => ∃ d1 d2 s xs ys f g, vs = [.ref d1, .ref d2, s] ∧ H d1 = some (.lst xs) ∧ H d2 = some (.lst ys) ∧ Rats A.Ratio 600 100 H xs f ∧ Rats A.Ratio 600 100 H ys g ∧ 0 < xs.length ∧ xs.length ≤ 13 ∧ 0 < ys.length ∧ ys.length ≤ 13 ∧
  ((∃ p q, IsN A.Ratio 100 100 H s p q ∧ 0 ≤ p ∧ p ≤ q ∧ ∀ H', Same H H' → Q (.str "") H') ∨ (NoShare K A.Ratio H s ∧ ∀ H', Same H H' → Q (.str "share") H'))
theorem ok__law_word (T : Txt K mg A D) : FnOk P w K mg base CX0 9 A.f__law_word D.f__law_word ["_law_first", "_law_second", "_law_value"] (sp_word K A) := by
  have G_mixed_row : FnOk P w K mg base (L2.CX P w) 8 A.f_mixed_row D.f_mixed_row ["one", "other", "share"] (sp_mixed K A) := ok_mixed_row T
  refine T.F__law_word.ok sc__law_word (fun vs H Q E h => ?_) (fun cdv A' outer s H vs Q E hr h => ?_)
  · obtain ⟨d1, d2, s, xs, ys, f, g, rfl, _⟩ := h
    rfl
  · obtain ⟨d1, d2, s', xs, ys, f, g, rfl, h1, h2, rx, ry, x0, x1, y0, y1, h⟩ := h
    refine ⟨_, (pss_cons (ps_set (i := 3) sc__law_word.nd rfl (.inl rfl) pe_str)
  (pss_cons (ps_try_as (i := 4) rfl rfl sc__law_word.nd rfl rfl ⟨rfl, by decide, .inl T.g_NoNumber⟩ takes0 (fun W pn xe tk _ => (pss_one (ps_expr (pe_callNS G_mixed_row (hr.mono (by decide)) rfl T.g_mixed_row T.F_mixed_row.kp T.kb_mixed_row (fun σ => passAt tk σ) (by exact (pa_cons (pv 0) (pa_cons (pv 1) pa_nil))) (by exact (pk_cons (pv 2) pk_nil)))))) (fun oa oe cls d pn hz hf => (pss_one (ps_set (i := 3) sc__law_word.nd rfl (.inl rfl) (pe_xf T.x_NoNumber T.n_NoNumber_word hz hf (pv 4))))))
  (pss_one (ps_ret (pv 3))))), ?_⟩
    refine ⟨_, rfl, _, rfl, _, rfl, rfl, rfl, _, _, s', xs, ys, f, g, rfl, ⟨d1, rfl, .inl h1⟩, ⟨d2, rfl, .inl h2⟩, rx, ry, x0, x1, y0, y1, ?_⟩
    rcases h with ⟨p, q, hs, p0, p1, k⟩ | ⟨hs, k⟩
    · exact .inl ⟨p, q, hs, p0, p1, fun H' d zs s _ _ _ => ⟨_, rfl, k _ s⟩⟩
    · refine .inr ⟨hs, fun H' y s ny => ⟨true, T.em_NoNumber, fun _ a0 _ => ?_, fun n => Bool.noConfusion n⟩⟩
      have s2 := s.trans (same_upd (o := .xd [("word", .str "share")]) ny)
      exact ⟨_, rfl, rfl, rfl, y, _, _, rfl, upd_same, rfl, _, rfl, k _ s2⟩
/-! ### what stands on the heap -/
theorem rat_stp {C : Addr} {G G' : Hp} {f : Addr} {v : V} {t b : Int} (F : FeedAt G f) (s : Stp f G G') (r : RatAt C G v t b) : RatAt C G' v t b := by
  obtain ⟨a, dx, e, h⟩ := r
  exact ⟨a, dx, e, s.keep _ _ (F.ne h fun _ _ _ _ _ _ w => by cases w) h⟩
theorem Rats.stp {C : Addr} {n m : Nat} {G G' : Hp} {f : Addr} {xs : List V} {F : Nat → Int × Int} (h : Rats C n m G xs F) (hF : FeedAt G f) (s : Stp f G G') : Rats C n m G' xs F := fun k x e => by
  obtain ⟨t, b, r, p⟩ := h k x e
  exact ⟨t, b, rat_stp hF s r, p⟩
theorem Rats.mono {C : Addr} {n m n' m' : Nat} {G : Hp} {xs : List V} {F : Nat → Int × Int} (h : Rats C n m G xs F) (h1 : n ≤ n') (h2 : m ≤ m') : Rats C n' m' G xs F := fun k x e => (h k x e).mono h1 h2
theorem rats_ne {C : Addr} {n m : Nat} {G : Hp} {f d : Addr} {xs : List V} {F : Nat → Int × Int} (h : Rats C n m G xs F) (hF : FeedAt G f) (hd : G d = some (.lst xs)) : d ≠ f := hF.ne hd fun l i r t n s z => by
  have e := HO.lst.inj z
  subst e
  obtain ⟨a, dx, fs, e, _⟩ := (h 1 (.int i) rfl).ins
  cases e
theorem PairsAt.stp {G G' : Hp} {f : Addr} {v : V} {n : Nat} {F : Nat → Int × Int} (h : PairsAt G v n F) (hF : FeedAt G f) (s : Stp f G G') : PairsAt G' v n F := by
  obtain ⟨a, rs, e, h1, l, p⟩ := h
  refine ⟨a, rs, e, s.keep _ _ (hF.ne h1 fun l i r t n s z => ?_) h1, l, fun k r e => s.keep _ _ (hF.ne (p k r e) fun _ _ _ _ _ _ w => by cases w) (p k r e)⟩
  cases rs with
  | nil => cases z
  | cons x rs =>
    cases rs with
    | nil => cases z
    | cons y rs => cases z
theorem LotAt.stp {G G' : Hp} {f : Addr} {v : V} {L : Lot} (h : LotAt G v L) (hF : FeedAt G f) (s : Stp f G G') : LotAt G' v L := by
  obtain ⟨a, pa, wa, e, h1, h2, h3, h4⟩ := h
  exact ⟨a, pa, wa, e, s.keep _ _ (hF.ne h1 fun _ _ _ _ _ _ w => by cases w) h1, s.keep _ _ (ints_ne hF h2) h2, s.keep _ _ (ints_ne hF h3) h3, h4⟩
structure Bun (A : Ad) (G : Hp) (f pr d1 d2 : Addr) (r1 r2 : V) (n m : Nat) (L M : Lot) (xs ys : List V) : Prop where
  F : FeedAt G f
  hr : G pr = some (.lst [r1, r2])
  p1 : PairsAt G r1 n (rowF L)
  p2 : PairsAt G r2 m (rowF M)
  h1 : G d1 = some (.lst xs)
  h2 : G d2 = some (.lst ys)
  x1 : Rats A.Ratio 400 36 G xs (rowF L)
  x2 : Rats A.Ratio 400 36 G ys (rowF M)
section
variable {G G' : Hp} {f pr d1 d2 : Addr} {r1 r2 : V} {n m : Nat} {L M : Lot} {xs ys : List V}
theorem Bun.same (h : Bun A G f pr d1 d2 r1 r2 n m L M xs ys) (s : Same G G') : Bun A G' f pr d1 d2 r1 r2 n m L M xs ys := ⟨h.F.same s, s _ _ h.hr, h.p1.same s, h.p2.same s, s _ _ h.h1, s _ _ h.h2, h.x1.same s, h.x2.same s⟩
theorem Bun.stp (h : Bun A G f pr d1 d2 r1 r2 n m L M xs ys) (s : Stp f G G') : Bun A G' f pr d1 d2 r1 r2 n m L M xs ys :=
  ⟨s.feed, s.keep _ _ (h.F.ne h.hr fun _ _ _ _ _ _ w => by cases w) h.hr, h.p1.stp h.F s, h.p2.stp h.F s, s.keep _ _ (rats_ne h.x1 h.F h.h1) h.h1, s.keep _ _ (rats_ne h.x2 h.F h.h2) h.h2, h.x1.stp h.F s, h.x2.stp h.F s⟩
end
/-! ### sizes -/
theorem pw_lt {e g : Nat} {L : Lot} (ok : LotOk e g L) (hl : L.ps.length = L.ws.length) (k : Nat) : (pw L k).natAbs ≤ L.ps.length * 2 ^ (g + (e * k + 1)) := by
  have h := sum_lt (xs := powL L k) (e := g + (e * k + 1)) (fun x hx => by
    obtain ⟨j, hj, rfl⟩ := List.getElem_of_mem hx
    have hj' : j < L.ps.length := by rw [powL_len hl] at hj; exact hj
    have h1 := powL_get hl (k := k) hj'
    rw [List.getElem?_eq_getElem hj] at h1
    rw [Option.some.inj h1]
    exact powL_lt ok hl hj') (by rw [powL_len hl]; exact ok.len)
  rw [powL_len hl] at h
  exact h
theorem pw_small {L : Lot} (ok : LotOk 30 27 L) (hl : L.ps.length = L.ws.length) {k : Nat} (hk : k ≤ 12) : (pw L k).natAbs < 2 ^ 400 := by
  have h := pw_lt ok hl k
  have h2 : L.ps.length * 2 ^ (27 + (30 * k + 1)) ≤ 16 * 2 ^ 388 := Nat.mul_le_mul ok.len (Nat.pow_le_pow_right (by decide) (by omega))
  have h3 : 16 * 2 ^ 388 < 2 ^ 400 := by decide
  omega
theorem pw_big {L : Lot} (ok : LotOk 62 56 L) (hl : L.ps.length = L.ws.length) {k : Nat} (hk : k ≤ 12) : (pw L k).natAbs < 2 ^ 1500 := by
  have h := pw_lt ok hl k
  have h2 : L.ps.length * 2 ^ (56 + (62 * k + 1)) ≤ 16 * 2 ^ 801 := Nat.mul_le_mul ok.len (Nat.pow_le_pow_right (by decide) (by omega))
  have h3 : 16 * 2 ^ 801 < 2 ^ 1500 := by decide
  omega
theorem bot_small {L : Lot} (q0 : 0 < L.q) (q5 : L.q ≤ 5) (s0 : 0 < L.s) (s9 : L.s ≤ 9) {k : Nat} (hk : k ≤ 12) : 0 < L.s * L.q ^ k ∧ (L.s * L.q ^ k).natAbs < 2 ^ 36 := by
  refine ⟨Int.mul_pos s0 (Int.pow_pos q0), ?_⟩
  rw [Int.natAbs_mul, Int.natAbs_pow]
  have h1 : L.q.natAbs ^ k ≤ 5 ^ 12 := Nat.le_trans (Nat.pow_le_pow_left (show L.q.natAbs ≤ 5 by omega) k) (Nat.pow_le_pow_right (by decide) hk)
  have h2 : L.s.natAbs * L.q.natAbs ^ k ≤ 9 * 5 ^ 12 := Nat.mul_le_mul (by omega) h1
  have h3 : 9 * 5 ^ 12 < 2 ^ 36 := by decide
  omega
theorem cross_small {f : Int → Int → Int} {xs ys : List Int} {e a b : Nat} (h1 : ∀ x ∈ xs, x.natAbs < 2 ^ a) (h2 : ∀ y ∈ ys, y.natAbs < 2 ^ b) (hf : ∀ x y : Int, x.natAbs < 2 ^ a → y.natAbs < 2 ^ b → (f x y).natAbs < 2 ^ e) : ∀ z ∈ cross f xs ys, z.natAbs < 2 ^ e := fun z hz => by
  obtain ⟨x, hx, y, hy, rfl⟩ := cross_mem hz
  exact hf x y (h1 x hx) (h2 y hy)
theorem mulq {L M : Lot} (q0 : 0 < L.q) (q5 : L.q ≤ 5) (p0 : 0 < M.q) (p5 : M.q ≤ 5) : 0 < L.q * M.q ∧ L.q * M.q ≤ 25 := ⟨Int.mul_pos q0 p0, by
  have := Int.mul_le_mul q5 p5 (Int.le_of_lt p0) (by decide)
  omega⟩
theorem muls {L M : Lot} (q0 : 0 < L.s) (q5 : L.s ≤ 9) (p0 : 0 < M.s) (p5 : M.s ≤ 9) : 0 < L.s * M.s ∧ L.s * M.s ≤ 81 := ⟨Int.mul_pos q0 p0, by
  have := Int.mul_le_mul q5 p5 (Int.le_of_lt p0) (by decide)
  omega⟩
theorem sums_ok {L M : Lot} (o1 : LotOk 30 27 L) (o2 : LotOk 30 27 M) (l4 : L.ps.length ≤ 4) (m4 : M.ps.length ≤ 4) (q5 : L.q ≤ 5) (s9 : L.s ≤ 9) (p5 : M.q ≤ 5) (t9 : M.s ≤ 9) : LotOk 62 56 (sumsL L M) := by
  refine ⟨cross_small o1.ps o2.ps fun x y hx hy => ?_, cross_small o1.ws o2.ws fun x y hx hy => nle (nmul hx hy) (by decide), (mulq o1.q0 q5 o2.q0 p5).1, (mulq o1.q0 q5 o2.q0 p5).2, (muls o1.s0 s9 o2.s0 t9).1, (muls o1.s0 s9 o2.s0 t9).2, ?_⟩
  · have a1 : M.q.natAbs < 2 ^ 5 := by have := o2.q0; omega
    have a2 : L.q.natAbs < 2 ^ 5 := by have := o1.q0; omega
    exact nle (nadd (nmul hx a1) (nmul hy a2)) (by decide)
  · show (cross _ _ _).length ≤ 16
    rw [cross_len]
    exact Nat.mul_le_mul l4 m4
theorem prods_ok {L M : Lot} (o1 : LotOk 30 27 L) (o2 : LotOk 30 27 M) (l4 : L.ps.length ≤ 4) (m4 : M.ps.length ≤ 4) (q5 : L.q ≤ 5) (s9 : L.s ≤ 9) (p5 : M.q ≤ 5) (t9 : M.s ≤ 9) : LotOk 62 56 (prodsL L M) := by
  refine ⟨cross_small o1.ps o2.ps fun x y hx hy => nle (nmul hx hy) (by decide), cross_small o1.ws o2.ws fun x y hx hy => nle (nmul hx hy) (by decide), (mulq o1.q0 q5 o2.q0 p5).1, (mulq o1.q0 q5 o2.q0 p5).2, (muls o1.s0 s9 o2.s0 t9).1, (muls o1.s0 s9 o2.s0 t9).2, ?_⟩
  show (cross _ _ _).length ≤ 16
  rw [cross_len]
  exact Nat.mul_le_mul l4 m4
theorem sums_len {L M : Lot} (h1 : L.ps.length = L.ws.length) (h2 : M.ps.length = M.ws.length) : (sumsL L M).ps.length = (sumsL L M).ws.length := by
  show (cross _ _ _).length = (cross _ _ _).length
  rw [cross_len, cross_len, h1, h2]
theorem prods_len {L M : Lot} (h1 : L.ps.length = L.ws.length) (h2 : M.ps.length = M.ws.length) : (prodsL L M).ps.length = (prodsL L M).ws.length := by
  show (cross _ _ _).length = (cross _ _ _).length
  rw [cross_len, cross_len, h1, h2]
def sp_law (K : PySem.W.Frag) : Sp := fun vs H Q _ => ∃ (a : Addr) (ns : List Int), vs = [.ref a] ∧ SqL K H a (ns.map V.int) ∧ ns.length ≤ 63 ∧ ∀ H', Q (.bl true) H'
theorem ok_law (T : Txt K mg A D) : FnOk P w K mg base CX0 11 A.f_law D.f_law ["_law_script"] (sp_law K) := by
  have G_Ratio_init : FnOk P w K mg base CX0 2 A.f_Ratio___init__ D.f_Ratio___init__ ["self", "top", "bottom"] (sp_init A.Ratio) := ok_Ratio___init__ T
  have b_Ratio_init2 := T.b_Ratio___init__
  have d_Ratio_init2 : Vals [] [] := .nil
  have G__law_feed : FnOk P w K mg base CX0 1 A.f__law_feed D.f__law_feed ["_law_script"] (sp_feed K) := ok__law_feed T
  have G__law_lot : FnOk P w K mg base CX0 3 A.f__law_lot D.f__law_lot ["_law_feed_here", "_law_most"] (sp_lot) := ok__law_lot T
  have G__law_mixed : FnOk P w K mg base CX0 2 A.f__law_mixed D.f__law_mixed ["_law_first", "_law_second", "_law_part"] (sp_lmixed) := ok__law_mixed T
  have G__law_numbers : FnOk P w K mg base CX0 2 A.f__law_numbers D.f__law_numbers ["_law_lot_here", "_law_d"] (sp_nums) := ok__law_numbers T
  have G__law_products : FnOk P w K mg base CX0 2 A.f__law_products D.f__law_products ["_law_one", "_law_other"] (sp_prods) := ok__law_products T
  have G__law_ratios : FnOk P w K mg base CX0 4 A.f__law_ratios D.f__law_ratios ["_law_pairs"] (sp_ratios A.Ratio) := ok__law_ratios T
  have G__law_row_is : FnOk P w K mg base CX0 3 A.f__law_row_is D.f__law_row_is ["_law_values", "_law_pairs"] (sp_rowis A.Ratio) := ok__law_row_is T
  have G__law_sums : FnOk P w K mg base CX0 2 A.f__law_sums D.f__law_sums ["_law_one", "_law_other"] (sp_sums) := ok__law_sums T
  have G__law_take : FnOk P w K mg base CX0 1 A.f__law_take D.f__law_take ["_law_feed_here", "_law_size"] (sp_take) := ok__law_take T
  have G__law_word : FnOk P w K mg base CX0 9 A.f__law_word D.f__law_word ["_law_first", "_law_second", "_law_value"] (sp_word K A) := ok__law_word T
  have G_mixed_row : FnOk P w K mg base (L2.CX P w) 8 A.f_mixed_row D.f_mixed_row ["one", "other", "share"] (sp_mixed K A) := ok_mixed_row T
  have G_product_row : FnOk P w K mg base CX0 8 A.f_product_row D.f_product_row ["one", "other"] (sp_prodrow A.Ratio) := ok_product_row T
  have G_sum_row : FnOk P w K mg base CX0 8 A.f_sum_row D.f_sum_row ["one", "other"] (sp_sumrow A.Ratio) := ok_sum_row T
  refine T.F_law.ok sc_law (fun vs H Q E h => ?_) (fun cdv A' outer s H vs Q E hr h => ?_)
  · obtain ⟨a, ns, rfl, _⟩ := h
    rfl
  · obtain ⟨a, ns, rfl, hS, hl, q⟩ := h
    refine ⟨_, (pss_cons (ps_set (i := 1) sc_law.nd rfl (.inl rfl) (pe_call G__law_feed (hr.mono (by decide)) rfl T.g__law_feed T.F__law_feed.kp T.b__law_feed .nil pass0 (pa_cons (pv 0) pa_nil)))
  (pss_cons (ps_for PassesOwn.never rfl (pi_range1 rfl T.z_range (pa_cons (pe_op op_add pe_int (pe_call G__law_take (hr.mono (by decide)) rfl T.g__law_take T.F__law_take.kp T.b__law_take .nil pass0 (pa_cons (pv 1) (pa_cons pe_int pa_nil)))) pa_nil)) (pg_name (i := 2) sc_law.nd rfl (.inl rfl)) (pss_cons (ps_set (i := 3) sc_law.nd rfl (.inl rfl) (pe_call G__law_lot (hr.mono (by decide)) rfl T.g__law_lot T.F__law_lot.kp T.b__law_lot .nil pass0 (pa_cons (pv 1) (pa_cons pe_int pa_nil))))
  (pss_cons (ps_set (i := 4) sc_law.nd rfl (.inl rfl) (pe_call G__law_lot (hr.mono (by decide)) rfl T.g__law_lot T.F__law_lot.kp T.b__law_lot .nil pass0 (pa_cons (pv 1) (pa_cons pe_int pa_nil))))
  (pss_cons (ps_set (i := 5) sc_law.nd rfl (.inl rfl) (pe_lst (pa_cons (pe_call G__law_take (hr.mono (by decide)) rfl T.g__law_take T.F__law_take.kp T.b__law_take .nil pass0 (pa_cons (pv 1) (pa_cons pe_int pa_nil))) (pa_cons (pe_call G__law_take (hr.mono (by decide)) rfl T.g__law_take T.F__law_take.kp T.b__law_take .nil pass0 (pa_cons (pv 1) (pa_cons pe_int pa_nil))) pa_nil))))
  (pss_cons (ps_set (i := 6) sc_law.nd rfl (.inl rfl) (pe_ix ix_list (pv 5) pe_int (fun _ _ => rfl)))
  (pss_cut (ps_if (pt_cmpR op_lt (pe_ix ix_list (pv 5) pe_int (fun _ _ => rfl)) (pv 6) (nomark _)) (pss_one (ps_set (i := 6) sc_law.nd rfl (.inl rfl) (pe_ix ix_list (pv 5) pe_int (fun _ _ => rfl)))) pss_nil)
  (pss_cons (ps_set (i := 7) sc_law.nd rfl (.inl rfl) (pe_lst (pa_cons (pe_call G__law_numbers (hr.mono (by decide)) rfl T.g__law_numbers T.F__law_numbers.kp T.b__law_numbers .nil pass0 (pa_cons (pv 3) (pa_cons (pe_ix ix_list (pv 5) pe_int (fun _ _ => rfl)) pa_nil))) (pa_cons (pe_call G__law_numbers (hr.mono (by decide)) rfl T.g__law_numbers T.F__law_numbers.kp T.b__law_numbers .nil pass0 (pa_cons (pv 4) (pa_cons (pe_ix ix_list (pv 5) pe_int (fun _ _ => rfl)) pa_nil))) pa_nil))))
  (pss_cons (ps_set (i := 8) sc_law.nd rfl (.inl rfl) (pe_call G__law_ratios (hr.mono (by decide)) rfl T.g__law_ratios T.F__law_ratios.kp T.b__law_ratios .nil pass0 (pa_cons (pe_ix ix_list (pv 7) pe_int (fun _ _ => rfl)) pa_nil)))
  (pss_cons (ps_set (i := 9) sc_law.nd rfl (.inl rfl) (pe_call G__law_ratios (hr.mono (by decide)) rfl T.g__law_ratios T.F__law_ratios.kp T.b__law_ratios .nil pass0 (pa_cons (pe_ix ix_list (pv 7) pe_int (fun _ _ => rfl)) pa_nil)))
  (pss_cons (ps_set (i := 10) sc_law.nd rfl (.inl rfl) (pe_call G__law_numbers (hr.mono (by decide)) rfl T.g__law_numbers T.F__law_numbers.kp T.b__law_numbers .nil pass0 (pa_cons (pe_call G__law_sums (hr.mono (by decide)) rfl T.g__law_sums T.F__law_sums.kp T.b__law_sums .nil pass0 (pa_cons (pv 3) (pa_cons (pv 4) pa_nil))) (pa_cons (pv 6) pa_nil))))
  (pss_cons (ps_if (PW.pt (pw_or (pt_not (pt_val (pe_call G__law_row_is (hr.mono (by decide)) rfl T.g__law_row_is T.F__law_row_is.kp T.b__law_row_is .nil pass0 (pa_cons (pe_call G_sum_row (hr.mono (by decide)) rfl T.g_sum_row T.F_sum_row.kp T.b_sum_row .nil pass0 (pa_cons (pv 8) (pa_cons (pv 9) pa_nil))) (pa_cons (pv 10) pa_nil))))) (pw_or1 (pt_not (pt_val (pe_call G__law_row_is (hr.mono (by decide)) rfl T.g__law_row_is T.F__law_row_is.kp T.b__law_row_is .nil pass0 (pa_cons (pe_call G_sum_row (hr.mono (by decide)) rfl T.g_sum_row T.F_sum_row.kp T.b_sum_row .nil pass0 (pa_cons (pv 9) (pa_cons (pe_callTy call_tuple_of rfl T.z_tuple (by decide +kernel) (pa_cons (pv 8) pa_nil)) pa_nil))) (pa_cons (pv 10) pa_nil)))))))) (pss_one (ps_ret pe_bl)) pss_nil)
  (pss_cons (ps_set (i := 10) sc_law.nd rfl (.inl rfl) (pe_call G__law_numbers (hr.mono (by decide)) rfl T.g__law_numbers T.F__law_numbers.kp T.b__law_numbers .nil pass0 (pa_cons (pe_call G__law_products (hr.mono (by decide)) rfl T.g__law_products T.F__law_products.kp T.b__law_products .nil pass0 (pa_cons (pv 3) (pa_cons (pv 4) pa_nil))) (pa_cons (pv 6) pa_nil))))
  (pss_cons (ps_if (PW.pt (pw_or (pt_not (pt_val (pe_call G__law_row_is (hr.mono (by decide)) rfl T.g__law_row_is T.F__law_row_is.kp T.b__law_row_is .nil pass0 (pa_cons (pe_call G_product_row (hr.mono (by decide)) rfl T.g_product_row T.F_product_row.kp T.b_product_row .nil pass0 (pa_cons (pv 8) (pa_cons (pv 9) pa_nil))) (pa_cons (pv 10) pa_nil))))) (pw_or1 (pt_not (pt_val (pe_call G__law_row_is (hr.mono (by decide)) rfl T.g__law_row_is T.F__law_row_is.kp T.b__law_row_is .nil pass0 (pa_cons (pe_call G_product_row (hr.mono (by decide)) rfl T.g_product_row T.F_product_row.kp T.b_product_row .nil pass0 (pa_cons (pv 9) (pa_cons (pe_callTy call_tuple_of rfl T.z_tuple (by decide +kernel) (pa_cons (pv 8) pa_nil)) pa_nil))) (pa_cons (pv 10) pa_nil)))))))) (pss_one (ps_ret pe_bl)) pss_nil)
  (pss_cons (ps_set (i := 11) sc_law.nd rfl (.inl rfl) (pe_op op_add pe_int (pe_call G__law_take (hr.mono (by decide)) rfl T.g__law_take T.F__law_take.kp T.b__law_take .nil pass0 (pa_cons (pv 1) (pa_cons (pe_op op_pow pe_int pe_int) pa_nil)))))
  (pss_cons (ps_set (i := 12) sc_law.nd rfl (.inl rfl) (pe_lst (pa_cons (pe_call G__law_take (hr.mono (by decide)) rfl T.g__law_take T.F__law_take.kp T.b__law_take .nil pass0 (pa_cons (pv 1) (pa_cons (pe_op op_add (pv 11) pe_int) pa_nil))) (pa_cons (pv 11) pa_nil))))
  (pss_cut (ps_if (pt_cmpR op_eq (pe_call G__law_take (hr.mono (by decide)) rfl T.g__law_take T.F__law_take.kp T.b__law_take .nil pass0 (pa_cons (pv 1) (pa_cons pe_int pa_nil))) pe_int (nomark _)) (pss_one (ps_set (i := 12) sc_law.nd rfl (.inl rfl) (pe_ix ix_list (pe_lst (pa_cons (pe_lst (pa_cons pe_int (pa_cons pe_int pa_nil))) (pa_cons (pe_lst (pa_cons pe_int (pa_cons pe_int pa_nil))) pa_nil))) (pe_call G__law_take (hr.mono (by decide)) rfl T.g__law_take T.F__law_take.kp T.b__law_take .nil pass0 (pa_cons (pv 1) (pa_cons pe_int pa_nil))) (fun _ _ => rfl)))) pss_nil)
  (pss_cons (ps_set (i := 13) sc_law.nd rfl (.inl rfl) (pe_callN G_mixed_row (hr.mono (by decide)) rfl T.g_mixed_row T.F_mixed_row.kp T.kb_mixed_row passL (pa_cons (pv 8) (pa_cons (pv 9) pa_nil)) (pk_cons (pe_make T.M_Ratio G_Ratio_init (hr.mono (by decide)) rfl T.g_Ratio b_Ratio_init2 d_Ratio_init2 pass0 (pa_cons (pe_ix ix_list (pv 12) pe_int (fun _ _ => rfl)) (pa_cons (pe_ix ix_list (pv 12) pe_int (fun _ _ => rfl)) pa_nil))) pk_nil)))
  (pss_cons (ps_if (pt_not (pt_val (pe_call G__law_row_is (hr.mono (by decide)) rfl T.g__law_row_is T.F__law_row_is.kp T.b__law_row_is .nil pass0 (pa_cons (pv 13) (pa_cons (pe_call G__law_mixed (hr.mono (by decide)) rfl T.g__law_mixed T.F__law_mixed.kp T.b__law_mixed .nil pass0 (pa_cons (pe_ix ix_list (pv 7) pe_int (fun _ _ => rfl)) (pa_cons (pe_ix ix_list (pv 7) pe_int (fun _ _ => rfl)) (pa_cons (pv 12) pa_nil)))) pa_nil))))) (pss_one (ps_ret pe_bl)) pss_nil)
  (pss_cons (ps_set (i := 14) sc_law.nd rfl (.inl rfl) (pe_ix ix_list (pe_lst (pa_cons (pe_make T.M_Ratio G_Ratio_init (hr.mono (by decide)) rfl T.g_Ratio b_Ratio_init2 d_Ratio_init2 pass0 (pa_cons (pe_un un_neg pe_int) (pa_cons (pv 11) pa_nil))) (pa_cons (pe_make T.M_Ratio G_Ratio_init (hr.mono (by decide)) rfl T.g_Ratio b_Ratio_init2 d_Ratio_init2 pass0 (pa_cons (pe_op op_add (pv 11) pe_int) (pa_cons (pv 11) pa_nil))) (pa_cons pe_int (pa_cons (pe_un un_neg pe_int) (pa_cons pe_non (pa_cons pe_bl (pa_cons pe_str pa_nil)))))))) (pe_call G__law_take (hr.mono (by decide)) rfl T.g__law_take T.F__law_take.kp T.b__law_take .nil pass0 (pa_cons (pv 1) (pa_cons pe_int pa_nil))) (fun _ _ => rfl)))
  (pss_cons (ps_if (PW.pt (pw_or (pt_cmpR op_ne (pe_call G__law_word (hr.mono (by decide)) rfl T.g__law_word T.F__law_word.kp T.b__law_word .nil pass0 (pa_cons (pv 8) (pa_cons (pv 9) (pa_cons (pv 14) pa_nil)))) pe_str (nomark _)) (pw_or1 (pt_cmpR op_ne (pe_call G__law_word (hr.mono (by decide)) rfl T.g__law_word T.F__law_word.kp T.b__law_word .nil pass0 (pa_cons (pv 8) (pa_cons (pv 9) (pa_cons pe_int pa_nil)))) pe_str (nomark _))))) (pss_one (ps_ret pe_bl)) pss_nil)
  (pss_one (ps_if (PW.pt (pw_or (pt_not (pt_val (pe_call G__law_row_is (hr.mono (by decide)) rfl T.g__law_row_is T.F__law_row_is.kp T.b__law_row_is .nil pass0 (pa_cons (pv 8) (pa_cons (pe_ix ix_list (pv 7) pe_int (fun _ _ => rfl)) pa_nil))))) (pw_or1 (pt_not (pt_val (pe_call G__law_row_is (hr.mono (by decide)) rfl T.g__law_row_is T.F__law_row_is.kp T.b__law_row_is .nil pass0 (pa_cons (pv 9) (pa_cons (pe_ix ix_list (pv 7) pe_int (fun _ _ => rfl)) pa_nil)))))))) (pss_one (ps_ret pe_bl)) pss_nil))))))))))))))))))))))
  (pss_one (ps_ret pe_bl)))), ?_⟩
    refine ⟨_, rfl, a, ns, rfl, hS, hl, fun H1 f s1 F1 _ => ?_⟩
    refine ⟨_, rfl, f, 3, rfl, F1, by decide, .ab (by decide) (by decide), fun H2 v v0 v1 st => ⟨_, _, rfl, rfl, _, rfl, by omega, by omega, ?_⟩⟩
    refine for_range (lo := 0) (fun i σ H' => (∃ y2 y3 y4 y5 y6 y7 y8 y9 y10 y11 y12 y13 y14, σ = [some (.ref a), some (.ref f), y2, y3, y4, y5, y6, y7, y8, y9, y10, y11, y12, y13, y14]) ∧ FeedAt H' f) ⟨⟨_, _, _, _, _, _, _, _, _, _, _, _, _, rfl⟩, st.feed⟩ ?_ (fun σ H' _ => q H')
    clear st F1 hS s1
    rintro i σ H0 hi ⟨⟨y2, y3, y4, y5, y6, y7, y8, y9, y10, y11, y12, y13, y14, rfl⟩, F0⟩
    -- two lots
    refine ⟨_, rfl, f, rfl, F0, fun H1 vl L st1 hL okL l4 q5 s9 => ?_⟩
    refine ⟨_, rfl, f, rfl, st1.feed, fun H2 vm M st2 hM okM m4 p5 t9 => ?_⟩
    have hL2 := hL.stp st1.feed st2
    refine ⟨_, rfl, f, 13, rfl, st2.feed, by decide, .ab (by decide) (by decide), fun H3 n n0 n1 st3 => ?_⟩
    refine ⟨_, rfl, f, 13, rfl, st3.feed, by decide, .ab (by decide) (by decide), fun H4 m m0 m1 st4 => ⟨by show 2 ≤ sizeLine; decide, fun pd npd => ?_⟩⟩
    obtain ⟨n, rfl⟩ : ∃ k : Nat, n = k := ⟨n.toNat, by omega⟩
    obtain ⟨m, rfl⟩ : ∃ k : Nat, m = k := ⟨m.toNat, by omega⟩
    have s5 := same_upd (o := two (n : Int) (m : Int)) npd
    have F5 := st4.feed.same s5
    have hL5 := ((hL2.stp st2.feed st3).stp st3.feed st4).same s5
    have hM5 := ((hM.stp st2.feed st3).stp st3.feed st4).same s5
    have hd5 : upd H4 pd (two (n : Int) (m : Int)) pd = some (two (n : Int) (m : Int)) := upd_same
    show tSeq _ _ _ _ (upd H4 pd (two (n : Int) (m : Int)))
    generalize upd H4 pd (two (n : Int) (m : Int)) = H5 at F5 hL5 hM5 hd5
    clear hL hM hL2 st1 st2 st3 st4 s5 npd F0
    refine ⟨_, rfl, pd, _, 0, _, rfl, rfl, .of hd5, rfl, ?_⟩
    refine ⟨fun σ' H' => H' = H5 ∧ σ' = [some (.ref a), some (.ref f), some (.int (0 + i)), some vl, some vm, some (.ref pd), some (.int ((min n m : Nat) : Int)), y7, y8, y9, y10, y11, y12, y13, y14], ?_, ?_⟩
    · refine ⟨_, rfl, pd, _, 1, _, rfl, rfl, .of hd5, rfl, _, rfl, _, _, rfl, rfl, _, rfl, ?_⟩
      refine ite2 (fun c => ?_) (fun c => ?_)
      · have c := of_decide_eq_true c
        have e : (m : Int) = ((min n m : Nat) : Int) := by omega
        exact ⟨_, rfl, pd, _, 1, _, rfl, rfl, .of hd5, rfl, rfl, by rw [← e]; rfl⟩
      · have c : ¬ (m : Int) < n := fun z => c (decide_eq_true z)
        have e : (n : Int) = ((min n m : Nat) : Int) := by omega
        exact ⟨rfl, by rw [← e]; rfl⟩
    rintro σ' H' ⟨rfl, rfl⟩
    -- their rows
    have hl1 : L.ps.length = L.ws.length := by obtain ⟨_, _, _, _, _, _, _, h⟩ := hL5; exact h
    have hl2 : M.ps.length = M.ws.length := by obtain ⟨_, _, _, _, _, _, _, h⟩ := hM5; exact h
    refine ⟨_, rfl, _, rfl, pd, _, 0, _, rfl, rfl, .of hd5, rfl, vl, L, 30, 27, n, rfl, hL5, okL, by omega, by decide, by decide, fun H6 r1 s6 p1 => ?_⟩
    refine ⟨_, rfl, _, rfl, pd, _, 1, _, rfl, rfl, .of (s6 _ _ hd5), rfl, vm, M, 30, 27, m, rfl, hM5.same s6, okM, by omega, by decide, by decide, fun H7 r2 s7 p2 => ⟨by show 2 ≤ sizeLine; decide, fun pr npr => ?_⟩⟩
    have s8 := same_upd (o := .lst [r1, r2]) npr
    have hr8 : upd H7 pr (.lst [r1, r2]) pr = some (.lst [r1, r2]) := upd_same
    have s68 := (s6.trans s7).trans s8
    have p1 := (p1.same s7).same s8
    have p2 := p2.same s8
    show tSeq _ _ _ _ (upd H7 pr (.lst [r1, r2]))
    generalize upd H7 pr (.lst [r1, r2]) = H8 at hr8 s68 p1 p2
    have bL : ∀ k, k < n + 1 → 0 < (rowF L k).2 ∧ (rowF L k).1.natAbs < 2 ^ 400 ∧ (rowF L k).2.natAbs < 2 ^ 36 := fun k hk => ⟨(bot_small okL.q0 q5 okL.s0 s9 (by omega)).1, pw_small okL hl1 (by omega), (bot_small okL.q0 q5 okL.s0 s9 (by omega)).2⟩
    have bM : ∀ k, k < m + 1 → 0 < (rowF M k).2 ∧ (rowF M k).1.natAbs < 2 ^ 400 ∧ (rowF M k).2.natAbs < 2 ^ 36 := fun k hk => ⟨(bot_small okM.q0 p5 okM.s0 t9 (by omega)).1, pw_small okM hl2 (by omega), (bot_small okM.q0 p5 okM.s0 t9 (by omega)).2⟩
    -- the Ratios
    refine ⟨_, rfl, pr, _, 0, _, rfl, rfl, .of hr8, rfl, r1, n + 1, rowF L, 400, 36, rfl, p1, by omega, by decide, by decide, bL, fun H9 d1 xs s9' h1 lx x1 => ?_⟩
    refine ⟨_, rfl, pr, _, 1, _, rfl, rfl, .of (s9' _ _ hr8), rfl, r2, m + 1, rowF M, 400, 36, rfl, p2.same s9', by omega, by decide, by decide, bM, fun H10 d2 ys s10 h2 ly x2 => ?_⟩
    have sall := (s68.trans s9').trans s10
    have B0 : Bun A H10 f pr d1 d2 r1 r2 (n + 1) (m + 1) L M xs ys := ⟨F5.same sall, s10 _ _ (s9' _ _ hr8), (p1.same s9').same s10, (p2.same s9').same s10, s10 _ _ h1, h2, x1.same s10, x2⟩
    have hL10 := hL5.same sall
    have hM10 := hM5.same sall
    clear hL5 hM5 F5 hr8 s68 s9' s10 s6 s7 s8 p1 p2 h1 h2 x1 x2 sall hd5 npr
    -- sums
    have okS := sums_ok okL okM l4 m4 q5 s9 p5 t9
    have okP := prods_ok okL okM l4 m4 q5 s9 p5 t9
    have lS := sums_len hl1 hl2
    have lP := prods_len hl1 hl2
    refine ⟨_, rfl, _, rfl, vl, vm, L, M, rfl, hL10, hM10, okL, okM, l4, m4, fun H11 vs s11 hS11 => ?_⟩
    refine ⟨_, rfl, vs, sumsL L M, 62, 56, min n m, rfl, hS11, okS, by omega, by decide, by decide, fun H12 du s12 p12 => ?_⟩
    have B1 := (B0.same s11).same s12
    have hL12 := (hL10.same s11).same s12
    have hM12 := (hM10.same s11).same s12
    clear B0 hL10 hM10 s11 s12 hS11
    have szS : ∀ k, k < min n m + 1 → (rowF (sumsL L M) k).1.natAbs < 2 ^ 1500 ∧ (rowF (sumsL L M) k).2.natAbs < 2 ^ 1500 := fun k hk => ⟨pw_big okS lS (by omega), nle (bot_lt okS (by omega)) (by decide)⟩
    have szP : ∀ k, k < min n m + 1 → (rowF (prodsL L M) k).1.natAbs < 2 ^ 1500 ∧ (rowF (prodsL L M) k).2.natAbs < 2 ^ 1500 := fun k hk => ⟨pw_big okP lP (by omega), nle (bot_lt okP (by omega)) (by decide)⟩
    refine ⟨_, rfl, _, rfl, .ref d1, .ref d2, xs, ys, rowF L, rowF M, rfl, ⟨d1, rfl, .inl B1.h1⟩, ⟨d2, rfl, .inl B1.h2⟩, B1.x1.mono (by decide) (by decide), B1.x2.mono (by decide) (by decide), by omega, by omega, by omega, by omega, fun H13 dz zs ts us Bt Bu s13 hz lz ht hu lt lu bt0 bu0 hzr => ?_⟩
    refine ⟨_, rfl, dz, du, zs, _, min n m + 1, rowF (sumsL L M), rfl, hz, hzr.mono (by decide) (by decide), by omega, by omega, p12.same s13, fun k hk => ⟨conv_is hl2.symm (by omega) ht hu (by omega) (by omega), szS k hk⟩, true, rfl, iteF ?_⟩
    have B2 := B1.same s13
    have hL13 := hL12.same s13
    have hM13 := hM12.same s13
    have p13 := p12.same s13
    clear B1 hL12 hM12 s13 p12 hz hzr ht hu lt lu
    -- the other order
    refine ⟨_, rfl, _, rfl, d1, xs, rfl, .inl ⟨.of B2.h1, fun tl ntl => ?_⟩⟩
    have s14 := same_upd (o := .tup xs) ntl
    have B3 := B2.same s14
    refine ⟨.ref d2, .ref tl, ys, xs, rowF M, rowF L, rfl, ⟨d2, rfl, .inl B3.h2⟩, ⟨tl, rfl, .inr upd_same⟩, B3.x2.mono (by decide) (by decide), B3.x1.mono (by decide) (by decide), by omega, by omega, by omega, by omega, fun H15 dz zs ts us Bt Bu s15 hz lz ht hu lt lu bt0 bu0 hzr => ?_⟩
    have s45 := s14.trans s15
    refine ⟨_, rfl, dz, du, zs, _, min n m + 1, rowF (sumsL L M), rfl, hz, hzr.mono (by decide) (by decide), by omega, by omega, p13.same s45, fun k hk => ⟨?_, szS k hk⟩, true, rfl, iteF ?_⟩
    · have h := conv_is (L := M) (M := L) hl1.symm (show k < 13 by omega) ht hu (by omega) (by omega)
      rw [pw_comm hl1.symm hl2.symm, Int.mul_comm M.s, Int.mul_comm M.q] at h
      exact h
    have B4 := B2.same s45
    have hL15 := hL13.same s45
    have hM15 := hM13.same s45
    clear B2 B3 hL13 hM13 s14 s15 s45 p13 hz hzr ht hu lt lu ntl
    -- products
    refine ⟨_, rfl, _, rfl, vl, vm, L, M, rfl, hL15, hM15, okL, okM, l4, m4, fun H16 vp s16 hP => ?_⟩
    refine ⟨_, rfl, vp, prodsL L M, 62, 56, min n m, rfl, hP, okP, by omega, by decide, by decide, fun H17 dp s17 p17 => ?_⟩
    have B5 := (B4.same s16).same s17
    clear B4 hL15 hM15 s16 s17 hP
    have cp : ∀ k, pw L k * pw M k * ((L.s * M.s) * (L.q * M.q) ^ k) = pw (prodsL L M) k * ((L.s * L.q ^ k) * (M.s * M.q ^ k)) := fun k => by
      rw [pw_prods hl2.symm, Int.mul_pow]
      generalize L.q ^ k = x
      generalize M.q ^ k = y
      grind
    refine ⟨_, rfl, _, rfl, .ref d1, .ref d2, xs, ys, rowF L, rowF M, rfl, ⟨d1, rfl, .inl B5.h1⟩, ⟨d2, rfl, .inl B5.h2⟩, B5.x1.mono (by decide) (by decide), B5.x2.mono (by decide) (by decide), by omega, by omega, by omega, by omega, fun H18 dz zs s18 hz lz hzr => ?_⟩
    refine ⟨_, rfl, dz, dp, zs, _, min n m + 1, rowF (prodsL L M), rfl, hz, hzr.mono (by decide) (by decide), by omega, by omega, p17.same s18, fun k hk => ⟨cp k, szP k hk⟩, true, rfl, iteF ?_⟩
    have B6 := B5.same s18
    have p18 := p17.same s18
    clear B5 s18 p17 hz hzr
    refine ⟨_, rfl, _, rfl, d1, xs, rfl, .inl ⟨.of B6.h1, fun tl ntl => ?_⟩⟩
    have s19 := same_upd (o := .tup xs) ntl
    have B7 := B6.same s19
    refine ⟨.ref d2, .ref tl, ys, xs, rowF M, rowF L, rfl, ⟨d2, rfl, .inl B7.h2⟩, ⟨tl, rfl, .inr upd_same⟩, B7.x2.mono (by decide) (by decide), B7.x1.mono (by decide) (by decide), by omega, by omega, by omega, by omega, fun H20 dz zs s20 hz lz hzr => ?_⟩
    have s90 := s19.trans s20
    refine ⟨_, rfl, dz, dp, zs, _, min n m + 1, rowF (prodsL L M), rfl, hz, hzr.mono (by decide) (by decide), by omega, by omega, p18.same s90, fun k hk => ⟨?_, szP k hk⟩, true, rfl, iteF ?_⟩
    · have h := cp k
      rw [Int.mul_comm (pw L k) (pw M k), Int.mul_comm (L.s * L.q ^ k) (M.s * M.q ^ k)] at h
      exact h
    have B8 := B6.same s90
    clear B6 B7 s19 s20 s90 p18 hz hzr ntl
    -- a share
    refine ⟨_, rfl, _, _, rfl, rfl, ⟨by decide, by decide, by decide⟩, f, _, rfl, B8.F, by decide, .ab (by decide) (by decide), fun H21 bb bb0 bb1 st21 => ⟨_, _, rfl, rfl, ?_⟩⟩
    have bb1 : bb < 1000000000 := bb1
    have B9 := B8.stp st21
    refine ⟨_, rfl, _, rfl, _, _, rfl, rfl, f, _, rfl, B9.F, by omega, .ab (by omega) (by omega), fun H22 pa pa0 pa1 st22 => ⟨_, rfl, by show 2 ≤ sizeLine; decide, fun pt npt => ?_⟩⟩
    have s22 := same_upd (o := two pa (1 + bb)) npt
    have B10 := (B9.stp st22).same s22
    have hpt : upd H22 pt (two pa (1 + bb)) pt = some (two pa (1 + bb)) := upd_same
    show tCut _ _ _ _ (upd H22 pt (two pa (1 + bb)))
    generalize upd H22 pt (two pa (1 + bb)) = H23 at B10 hpt
    clear B8 B9 st21 st22 s22 npt
    refine ⟨fun σ' H' => ∃ (pp : Addr) (x y : Int), Bun A H' f pr d1 d2 r1 r2 (n + 1) (m + 1) L M xs ys ∧ H' pp = some (two x y) ∧ 0 ≤ x ∧ x ≤ y ∧ 0 < y ∧ y ≤ 1000000000 ∧
      σ' = [some (.ref a), some (.ref f), some (.int (0 + i)), some vl, some vm, some (.ref pd), some (.int ((min n m : Nat) : Int)), some (.ref pr), some (.ref d1), some (.ref d2), some dp, some (.int (1 + bb)), some (.ref pp), y13, y14], ?_, ?_⟩
    · refine ⟨_, rfl, f, 3, rfl, B10.F, by decide, .ab (by decide) (by decide), fun H24 u u0 u1 st24 => ⟨rfl, _, rfl, ?_⟩⟩
      have pf : pt ≠ f := B10.F.ne hpt fun _ _ _ _ _ _ w => by cases w
      have B11 := B10.stp st24
      have hpt2 := st24.keep _ _ pf hpt
      refine ite2 (fun _ => ?_) (fun _ => ⟨pt, pa, 1 + bb, B11, hpt2, by omega, by omega, by omega, by omega, rfl⟩)
      refine ⟨by show 2 ≤ sizeLine; decide, fun l1 e1 => ⟨by show 2 ≤ sizeLine; decide, fun l2 e2 => ⟨by show 2 ≤ sizeLine; decide, fun l3 e3 => ?_⟩⟩⟩
      have z1 := same_upd (o := two 0 1) e1
      have z2 := same_upd (o := two 1 1) e2
      have z3 := same_upd (o := .lst [.ref l1, .ref l2]) e3
      have B12 := ((B11.same z1).same z2).same z3
      have k1 := z3 _ _ (z2 _ _ (upd_same (a := l1) (o := two 0 1) (H := H24)))
      have k2 := z3 _ _ (upd_same (a := l2) (o := two 1 1))
      refine ⟨_, rfl, f, 2, rfl, B12.F, by decide, .ab (by decide) (by decide), fun H25 k k0 k1' st25 => ?_⟩
      have n1 := B12.F.ne k1 fun _ _ _ _ _ _ w => by cases w
      have n2 := B12.F.ne k2 fun _ _ _ _ _ _ w => by cases w
      have n3 := B12.F.ne upd_same fun _ _ _ _ _ _ w => by cases w
      have B13 := B12.stp st25
      have g1 := st25.keep _ _ n1 k1
      have g2 := st25.keep _ _ n2 k2
      have g3 := st25.keep _ _ n3 upd_same
      rcases (by omega : k = 0 ∨ k = 1) with e | e <;> subst e
      · exact ⟨l3, _, 0, _, rfl, rfl, .of g3, rfl, l1, 0, 1, B13, g1, by decide, by decide, by decide, by decide, rfl⟩
      · exact ⟨l3, _, 1, _, rfl, rfl, .of g3, rfl, l2, 1, 1, B13, g2, by decide, by decide, by decide, by decide, rfl⟩
    clear B10 hpt
    rintro σ' H24 ⟨pp, x, y, B1, hpp, x0, xy, y0, yb, rfl⟩
    -- the mixture
    have wx : x.natAbs < 2 ^ 40 := by omega
    have wy : y.natAbs < 2 ^ 40 := by omega
    refine ⟨_, rfl, _, rfl, _, rfl, pp, _, 0, _, rfl, rfl, .of hpp, rfl, _, rfl, pp, _, 1, _, rfl, rfl, .of hpp, rfl, fun x1 dx1 nx1 nd1 ne1 => ⟨x1, dx1, _, _, rfl, upd_same, by omega, sm_of wy (by decide), fun t1 c1 nm1 => ⟨rfl, rfl, rfl, ?_⟩⟩⟩
    obtain ⟨s1, ra1⟩ := made (C := A.Ratio) nx1 nd1 ne1 t1 c1
    have B2 := B1.same s1
    have hpp2 := s1 _ _ hpp
    have isn : IsN A.Ratio 100 100 _ (.ref x1) x y := ⟨t1, c1, .inr ra1, nm1.pos, y0, nm1.cross, nle (Nat.lt_of_le_of_lt nm1.le1 wx) (by decide), nle (Nat.lt_of_le_of_lt nm1.le2 wy) (by decide)⟩
    refine ⟨.ref d1, .ref d2, .ref x1, xs, ys, rowF L, rowF M, rfl, ⟨d1, rfl, .inl B2.h1⟩, ⟨d2, rfl, .inl B2.h2⟩, B2.x1.mono (by decide) (by decide), B2.x2.mono (by decide) (by decide), by omega, by omega, by omega, by omega, .inl ⟨x, y, isn, x0, xy, fun H25 dz zs s25 hz lz hzr => ?_⟩⟩
    have B3 := B2.same s25
    have hpp3 := s25 _ _ hpp2
    have bL' : ∀ k, k < n + 1 → (rowF L k).1.natAbs < 2 ^ 500 ∧ (rowF L k).2.natAbs < 2 ^ 100 := fun k hk => ⟨nle (bL k hk).2.1 (by decide), nle (bL k hk).2.2 (by decide)⟩
    have bM' : ∀ k, k < m + 1 → (rowF M k).1.natAbs < 2 ^ 500 ∧ (rowF M k).2.natAbs < 2 ^ 100 := fun k hk => ⟨nle (bM k hk).2.1 (by decide), nle (bM k hk).2.2 (by decide)⟩
    refine ⟨_, rfl, _, rfl, pr, _, 0, _, rfl, rfl, .of B3.hr, rfl, _, rfl, pr, _, 1, _, rfl, rfl, .of B3.hr, rfl, _, rfl, r1, r2, pp, n + 1, m + 1, rowF L, rowF M, x, y, rfl, B3.p1, B3.p2, hpp3, by omega, by omega, wx, wy, bL', bM', fun H26 mx s26 pm => ?_⟩
    refine ⟨dz, mx, zs, _, min (n + 1) (m + 1), mixF (rowF L) (rowF M) x y, rfl, s26 _ _ hz, (hzr.same s26).mono (by decide) (by decide), by omega, by omega, pm, fun k hk => ⟨?_, ?_, ?_⟩, true, rfl, iteF ?_⟩
    · show ((rowF L k).1 * (y - x) * ((rowF M k).2 * y) + (rowF M k).1 * x * ((rowF L k).2 * y)) * (y * (rowF L k).2 * (rowF M k).2) = ((y - x) * (rowF L k).1 * (rowF M k).2 + x * (rowF M k).1 * (rowF L k).2) * ((rowF L k).2 * y * ((rowF M k).2 * y))
      generalize (rowF L k).1 = a1
      generalize (rowF L k).2 = a2
      generalize (rowF M k).1 = a3
      generalize (rowF M k).2 = a4
      grind
    · have h1 := bL' k (by omega)
      have h2 := bM' k (by omega)
      have h3 : (y - x).natAbs < 2 ^ 40 := by omega
      exact nle (nadd (nle (nmul (nmul h3 h1.1) h2.2) (show 40 + 500 + 100 ≤ 640 by decide)) (nmul (nmul wx h2.1) h1.2)) (by decide)
    · have h1 := bL' k (by omega)
      have h2 := bM' k (by omega)
      exact nle (nmul (nmul wy h1.2) h2.2) (by decide)
    have B4 := B3.same s26
    clear B1 B2 B3 hpp hpp2 hpp3 isn s1 ra1 nm1 nx1 nd1 ne1 s25 s26 hz hzr pm
    -- what is no share
    have wb : (1 + bb).natAbs < 2 ^ 40 := by omega
    refine ⟨_, rfl, _, rfl, fun x1 dx1 nx1 nd1 ne1 => ⟨x1, dx1, _, _, rfl, upd_same, by omega, sm_of wb (by decide), fun t1 c1 nm1 => ⟨rfl, ?_⟩⟩⟩
    obtain ⟨s1, ra1⟩ := made (C := A.Ratio) nx1 nd1 ne1 t1 c1
    refine ⟨_, rfl, _, _, rfl, rfl, _, rfl, fun x2 dx2 nx2 nd2 ne2 => ⟨x2, dx2, _, _, rfl, upd_same, by omega, sm_of wb (by decide), fun t2 c2 nm2 => ⟨rfl, ?_⟩⟩⟩
    obtain ⟨s2, ra2⟩ := made (C := A.Ratio) nx2 nd2 ne2 t2 c2
    refine ⟨_, rfl, by show 7 ≤ sizeLine; decide, fun pl npl => ?_⟩
    have s3 := same_upd (o := .lst [.ref x1, .ref x2, .int 2, .int (-1), V.non, .bl true, .str "0"]) npl
    have sall := (s1.trans s2).trans s3
    have B5 := B4.same sall
    have ra1 := (ra1.same s2).same s3
    have ra2 := ra2.same s3
    have hl5 := upd_same (a := pl) (o := HO.lst [V.ref x1, .ref x2, .int 2, .int (-1), V.non, .bl true, .str "0"]) (H := upd (upd (upd (upd (upd (upd H26 dx1 (HO.own x1)) x1 (HO.ins A.Ratio dx1 [])) x1 (HO.ins A.Ratio dx1 [("top", V.int t1), ("bottom", V.int c1)])) dx2 (HO.own x2)) x2 (HO.ins A.Ratio dx2 [])) x2 (HO.ins A.Ratio dx2 [("top", V.int t2), ("bottom", V.int c2)]))
    refine ⟨_, rfl, f, 7, rfl, B5.F, by decide, .ab (by decide) (by decide), fun H27 k k0 k1 st27 => ?_⟩
    have pf := B5.F.ne hl5 fun _ _ _ _ _ _ w => by cases w
    have hl27 := st27.keep _ _ pf hl5
    have B6 := B5.stp st27
    have ra1 := rat_stp B5.F st27 ra1
    have ra2 := rat_stp B5.F st27 ra2
    have no : ∀ {v : V} {t : Value}, TyX K H27 v t → PySem.W.kitOne K t (.ref A.Ratio) = some false → PySem.W.kitOne K t (.type "int") = some false → NoShare K A.Ratio H27 v := fun ty e e2 => .inl ⟨_, ty, e, _, false, false, ty, e2, (fun z => nomatch z), rfl⟩
    have w1 : (1 + bb).natAbs < 2 ^ 100 := nle wb (by decide)
    obtain ⟨v, hv, hs⟩ : ∃ v, atI [V.ref x1, .ref x2, .int 2, .int (-1), V.non, .bl true, .str "0"] k = some v ∧ NoShare K A.Ratio H27 v := by
      rcases (by omega : k = 0 ∨ k = 1 ∨ k = 2 ∨ k = 3 ∨ k = 4 ∨ k = 5 ∨ k = 6) with e | e | e | e | e | e | e <;> subst e
      · refine ⟨_, rfl, .inr ⟨t1, c1, .inr ra1, nm1.pos, Nat.lt_of_le_of_lt nm1.le1 (by decide), Nat.lt_of_le_of_lt nm1.le2 w1, .inl ?_⟩⟩
        have c := nm1.cross
        have p := nm1.pos
        exact Int.not_le.mp fun z => by
          have := Int.mul_nonneg z (show 0 ≤ 1 + bb by omega)
          omega
      · have w2 : (1 + bb + 1).natAbs < 2 ^ 100 := by
          have : (1 + bb + 1).natAbs < 2 ^ 41 := by omega
          exact nle this (by decide)
        refine ⟨_, rfl, .inr ⟨t2, c2, .inr ra2, nm2.pos, Nat.lt_of_le_of_lt nm2.le1 w2, Nat.lt_of_le_of_lt nm2.le2 w1, .inr ?_⟩⟩
        have c := nm2.cross
        have p := nm2.pos
        have e : (t2 - c2) * (1 + bb) = c2 := by grind
        have : 0 < (t2 - c2) * (1 + bb) := by omega
        have := Int.pos_of_mul_pos_left this (show 0 < 1 + bb by omega)
        omega
      · exact ⟨_, rfl, .inr ⟨2, 1, .inl ⟨rfl, rfl⟩, by decide, by decide, by decide, .inr (by decide)⟩⟩
      · exact ⟨_, rfl, .inr ⟨-1, 1, .inl ⟨rfl, rfl⟩, by decide, by decide, by decide, .inl (by decide)⟩⟩
      · exact ⟨_, rfl, no (.base .non) T.ik_NoneType (kit_ty (by decide +kernel))⟩
      · exact ⟨_, rfl, .inl ⟨_, .base (.bl true), T.ik_bool, _, true, true, .base (.bl true), kit_ty (by decide +kernel), fun _ => kit_ty (by decide +kernel), rfl⟩⟩
      · exact ⟨_, rfl, no (.base (.str "0")) T.ik_str (kit_ty (by decide +kernel))⟩
    refine ⟨pl, _, k, v, rfl, rfl, .of hl27, hv, ?_⟩
    have nq : ∀ u : Str, (!decide (V.str u = V.str u)) = false := fun u => by rw [decide_eq_true rfl]; rfl
    refine ⟨_, rfl, _, rfl, _, rfl, d1, d2, v, xs, ys, rowF L, rowF M, rfl, B6.h1, B6.h2, B6.x1.mono (by decide) (by decide), B6.x2.mono (by decide) (by decide), by omega, by omega, by omega, by omega, .inr ⟨hs, fun H28 s28 => ⟨rfl, _, rfl, iteFe (nq _) ?_⟩⟩⟩
    have B7 := B6.same s28
    have one : IsN A.Ratio 100 100 H28 (.int 1) 1 1 := ⟨1, 1, .inl ⟨rfl, rfl⟩, by decide, by decide, rfl, by decide, by decide⟩
    refine ⟨_, rfl, _, rfl, d1, d2, .int 1, xs, ys, rowF L, rowF M, rfl, B7.h1, B7.h2, B7.x1.mono (by decide) (by decide), B7.x2.mono (by decide) (by decide), by omega, by omega, by omega, by omega, .inl ⟨1, 1, one, by decide, by decide, fun H29 s29 => ⟨rfl, _, rfl, iteFe (nq _) ?_⟩⟩⟩
    have B8 := B7.same s29
    refine ⟨_, rfl, _, rfl, pr, _, 0, _, rfl, rfl, .of B8.hr, rfl, d1, r1, xs, rowF L, n + 1, rowF L, rfl, B8.h1, B8.x1.mono (by decide) (by decide), lx, by omega, B8.p1, fun k hk => ⟨rfl, nle (bL k hk).2.1 (by decide), nle (bL k hk).2.2 (by decide)⟩, true, rfl, iteF ?_⟩
    refine ⟨_, rfl, _, rfl, pr, _, 1, _, rfl, rfl, .of B8.hr, rfl, d2, r2, ys, rowF M, m + 1, rowF M, rfl, B8.h2, B8.x2.mono (by decide) (by decide), ly, by omega, B8.p2, fun k hk => ⟨rfl, nle (bM k hk).2.1 (by decide), nle (bM k hk).2.2 (by decide)⟩, true, rfl, iteF ?_⟩
    exact ⟨⟨_, _, _, _, _, _, _, _, _, _, _, _, _, rfl⟩, B8.F⟩
end

end Mo

namespace Mo
open PySem PySem.Spec PyProof.Rows L2 MoL MoW
open C8 (pss_cut tCut)
/-! ### what the top has written -/
theorem all_mk {l : PySem.W.OpenLaw} {w : World} {K : PySem.W.Frag} {h : Heap} {mg : Str → Option Value} {fa C_Ratio C_NoNumber C_MeansError f0 f1 f2 f3 f4 f5 f6 f7 f8 f9 f10 f11 f12 f13 f14 f15 f16 f17 f18 f19 f20 f21 f22 f23 f24 f25 f26 f27 f28 f29 f30 f31 f32 f33 f34 f35 : Addr} (X : K.In h) (G : h.Ns mainGlobals mg) (hfa : mg "law" = some (.ref fa))
    {od0 an0 od1 an1 od2 an2 od3 an3 od4 an4 od5 an5 od6 an6 od7 an7 od8 an8 od9 an9 od10 an10 od11 an11 od12 an12 od13 an13 od14 an14 od15 an15 od16 an16 od17 an17 od18 an18 od19 an19 od20 an20 od21 an21 od22 an22 od23 an23 od24 an24 od25 an25 od26 an26 od27 an27 od28 an28 od29 an29 od30 an30 od31 an31 od32 an32 od33 an33 od34 an34 od35 an35 : Option Addr} {sl0 sl1 sl2 sl3 sl4 sl5 sl6 sl7 sl8 sl9 sl10 sl11 sl12 sl13 sl14 sl15 sl16 sl17 sl18 sl19 sl20 sl21 sl22 sl23 sl24 sl25 sl26 sl27 sl28 sl29 sl30 sl31 sl32 sl33 sl34 sl35 : Array (Option Value)} {oc0 kV0 dc0 pm0 ct0 cd0 oc1 kV1 dc1 pm1 ct1 cd1 oc2 kV2 dc2 pm2 ct2 cd2 oc3 kV3 dc3 pm3 ct3 cd3 oc4 kV4 dc4 pm4 ct4 cd4 oc5 kV5 dc5 pm5 ct5 cd5 oc6 kV6 dc6 pm6 ct6 cd6 oc7 kV7 dc7 pm7 ct7 cd7 oc8 kV8 dc8 pm8 ct8 cd8 oc9 kV9 dc9 pm9 ct9 cd9 oc10 kV10 dc10 pm10 ct10 cd10 oc11 kV11 dc11 pm11 ct11 cd11 oc12 kV12 dc12 pm12 ct12 cd12 oc13 kV13 dc13 pm13 ct13 cd13 oc14 kV14 dc14 pm14 ct14 cd14 oc15 kV15 dc15 pm15 ct15 cd15 oc16 kV16 dc16 pm16 ct16 cd16 oc17 kV17 dc17 pm17 ct17 cd17 oc18 kV18 dc18 pm18 ct18 cd18 oc19 kV19 dc19 pm19 ct19 cd19 oc20 kV20 dc20 pm20 ct20 cd20 oc21 kV21 dc21 pm21 ct21 cd21 oc22 kV22 dc22 pm22 ct22 cd22 oc23 kV23 dc23 pm23 ct23 cd23 oc24 kV24 dc24 pm24 ct24 cd24 oc25 kV25 dc25 pm25 ct25 cd25 oc26 kV26 dc26 pm26 ct26 cd26 oc27 kV27 dc27 pm27 ct27 cd27 oc28 kV28 dc28 pm28 ct28 cd28 oc29 kV29 dc29 pm29 ct29 cd29 oc30 kV30 dc30 pm30 ct30 cd30 oc31 kV31 dc31 pm31 ct31 cd31 oc32 kV32 dc32 pm32 ct32 cd32 oc33 kV33 dc33 pm33 ct33 cd33 oc34 kV34 dc34 pm34 ct34 cd34 oc35 kV35 dc35 pm35 ct35 cd35 : Value} {T1 : Addr} {td1 : Option Addr} {tn1 : Nat} {ts1 : Array (Option Value)} {tt1_0 : Tok} {nm_NoNumber q_NoNumber : Str} {N_NoNumber : Addr} {bs_NoNumber sub_NoNumber : List Value} {sn_NoNumber : List Str} {ab_NoNumber : Bool} {col_NoNumber : Option Bool} {dd_NoNumber : Option Addr} {m0_NoNumber m1_NoNumber m2_NoNumber m3_NoNumber m5_NoNumber : Option Value} {tok_MOST_NUMBERS : Tok}
    (g_Ratio : PySem.W.nsIn K mainGlobals "Ratio" = some (some (.ref C_Ratio)))
    (g_NoNumber : PySem.W.nsIn K mainGlobals "NoNumber" = some (some (.ref C_NoNumber)))
    (g_MeansError : PySem.W.nsIn K mainGlobals "MeansError" = some (some (.ref C_MeansError)))
    (xL_NoNumber : K.lookup C_NoNumber = some (excClassObj nm_NoNumber q_NoNumber C_NoNumber N_NoNumber bs_NoNumber [.ref C_MeansError, .type "ValueError", .type "Exception", .type "BaseException", .type "object"] true sn_NoNumber sub_NoNumber ab_NoNumber col_NoNumber dd_NoNumber m0_NoNumber m1_NoNumber m2_NoNumber m3_NoNumber m5_NoNumber "ValueError.__new__"))
    (a0 : PySem.W.findIn K (.ref C_NoNumber) "__init__" = some (some (.ref f0)))
    (i0 : PySem.W.isFn K (.ref f0) = true)
    (l0 : K.lookup f0 = some ⟨oc0, od0, .func (PySem.W.fnOf "__init__" "NoNumber.__init__" (defArgs s_NoNumber___init__) (defBody s_NoNumber___init__) (defScope s_NoNumber___init__) .none kV0 dc0 pm0 an0 cd0 ct0), sl0⟩)
    (c0 : PySem.W.codeIn K cd0 "NoNumber.__init__" = true)
    (k0 : PySem.W.keepIn K (.ref f0) = true)
    (a1 : PySem.W.findIn K (.ref C_Ratio) "__init__" = some (some (.ref f1)))
    (i1 : PySem.W.isFn K (.ref f1) = true)
    (l1 : K.lookup f1 = some ⟨oc1, od1, .func (PySem.W.fnOf "__init__" "Ratio.__init__" (defArgs s_Ratio___init__) (defBody s_Ratio___init__) (defScope s_Ratio___init__) (.ref T1) kV1 dc1 pm1 an1 cd1 ct1), sl1⟩)
    (c1 : PySem.W.codeIn K cd1 "Ratio.__init__" = true)
    (k1 : PySem.W.keepIn K (.ref f1) = true)
    (t1 : K.lookup T1 = some ⟨.type "tuple", td1, .seq #[.int 1 tt1_0] tn1, ts1⟩)
    (a2 : PySem.W.findIn K (.ref C_Ratio) "__add__" = some (some (.ref f2)))
    (i2 : PySem.W.isFn K (.ref f2) = true)
    (l2 : K.lookup f2 = some ⟨oc2, od2, .func (PySem.W.fnOf "__add__" "Ratio.__add__" (defArgs s_Ratio___add__) (defBody s_Ratio___add__) (defScope s_Ratio___add__) .none kV2 dc2 pm2 an2 cd2 ct2), sl2⟩)
    (c2 : PySem.W.codeIn K cd2 "Ratio.__add__" = true)
    (k2 : PySem.W.keepIn K (.ref f2) = true)
    (a3 : PySem.W.findIn K (.ref C_Ratio) "__radd__" = some (some (.ref f3)))
    (i3 : PySem.W.isFn K (.ref f3) = true)
    (l3 : K.lookup f3 = some ⟨oc3, od3, .func (PySem.W.fnOf "__radd__" "Ratio.__radd__" (defArgs s_Ratio___radd__) (defBody s_Ratio___radd__) (defScope s_Ratio___radd__) .none kV3 dc3 pm3 an3 cd3 ct3), sl3⟩)
    (c3 : PySem.W.codeIn K cd3 "Ratio.__radd__" = true)
    (k3 : PySem.W.keepIn K (.ref f3) = true)
    (a4 : PySem.W.findIn K (.ref C_Ratio) "__sub__" = some (some (.ref f4)))
    (i4 : PySem.W.isFn K (.ref f4) = true)
    (l4 : K.lookup f4 = some ⟨oc4, od4, .func (PySem.W.fnOf "__sub__" "Ratio.__sub__" (defArgs s_Ratio___sub__) (defBody s_Ratio___sub__) (defScope s_Ratio___sub__) .none kV4 dc4 pm4 an4 cd4 ct4), sl4⟩)
    (c4 : PySem.W.codeIn K cd4 "Ratio.__sub__" = true)
    (k4 : PySem.W.keepIn K (.ref f4) = true)
    (a5 : PySem.W.findIn K (.ref C_Ratio) "__rsub__" = some (some (.ref f5)))
    (i5 : PySem.W.isFn K (.ref f5) = true)
    (l5 : K.lookup f5 = some ⟨oc5, od5, .func (PySem.W.fnOf "__rsub__" "Ratio.__rsub__" (defArgs s_Ratio___rsub__) (defBody s_Ratio___rsub__) (defScope s_Ratio___rsub__) .none kV5 dc5 pm5 an5 cd5 ct5), sl5⟩)
    (c5 : PySem.W.codeIn K cd5 "Ratio.__rsub__" = true)
    (k5 : PySem.W.keepIn K (.ref f5) = true)
    (a6 : PySem.W.findIn K (.ref C_Ratio) "__mul__" = some (some (.ref f6)))
    (i6 : PySem.W.isFn K (.ref f6) = true)
    (l6 : K.lookup f6 = some ⟨oc6, od6, .func (PySem.W.fnOf "__mul__" "Ratio.__mul__" (defArgs s_Ratio___mul__) (defBody s_Ratio___mul__) (defScope s_Ratio___mul__) .none kV6 dc6 pm6 an6 cd6 ct6), sl6⟩)
    (c6 : PySem.W.codeIn K cd6 "Ratio.__mul__" = true)
    (k6 : PySem.W.keepIn K (.ref f6) = true)
    (a7 : PySem.W.findIn K (.ref C_Ratio) "__rmul__" = some (some (.ref f7)))
    (i7 : PySem.W.isFn K (.ref f7) = true)
    (l7 : K.lookup f7 = some ⟨oc7, od7, .func (PySem.W.fnOf "__rmul__" "Ratio.__rmul__" (defArgs s_Ratio___rmul__) (defBody s_Ratio___rmul__) (defScope s_Ratio___rmul__) .none kV7 dc7 pm7 an7 cd7 ct7), sl7⟩)
    (c7 : PySem.W.codeIn K cd7 "Ratio.__rmul__" = true)
    (k7 : PySem.W.keepIn K (.ref f7) = true)
    (a8 : PySem.W.findIn K (.ref C_Ratio) "__lt__" = some (some (.ref f8)))
    (i8 : PySem.W.isFn K (.ref f8) = true)
    (l8 : K.lookup f8 = some ⟨oc8, od8, .func (PySem.W.fnOf "__lt__" "Ratio.__lt__" (defArgs s_Ratio___lt__) (defBody s_Ratio___lt__) (defScope s_Ratio___lt__) .none kV8 dc8 pm8 an8 cd8 ct8), sl8⟩)
    (c8 : PySem.W.codeIn K cd8 "Ratio.__lt__" = true)
    (k8 : PySem.W.keepIn K (.ref f8) = true)
    (a9 : PySem.W.findIn K (.ref C_Ratio) "__gt__" = some (some (.ref f9)))
    (i9 : PySem.W.isFn K (.ref f9) = true)
    (l9 : K.lookup f9 = some ⟨oc9, od9, .func (PySem.W.fnOf "__gt__" "Ratio.__gt__" (defArgs s_Ratio___gt__) (defBody s_Ratio___gt__) (defScope s_Ratio___gt__) .none kV9 dc9 pm9 an9 cd9 ct9), sl9⟩)
    (c9 : PySem.W.codeIn K cd9 "Ratio.__gt__" = true)
    (k9 : PySem.W.keepIn K (.ref f9) = true)
    (a10 : PySem.W.nsIn K mainGlobals "is_whole" = some (some (.ref f10)))
    (l10 : K.lookup f10 = some ⟨oc10, od10, .func (PySem.W.fnOf "is_whole" "is_whole" (defArgs s_is_whole) (defBody s_is_whole) (defScope s_is_whole) .none kV10 dc10 pm10 an10 cd10 ct10), sl10⟩)
    (c10 : PySem.W.codeIn K cd10 "is_whole" = true)
    (k10 : PySem.W.keepIn K (.ref f10) = true)
    (a11 : PySem.W.nsIn K mainGlobals "is_number" = some (some (.ref f11)))
    (l11 : K.lookup f11 = some ⟨oc11, od11, .func (PySem.W.fnOf "is_number" "is_number" (defArgs s_is_number) (defBody s_is_number) (defScope s_is_number) .none kV11 dc11 pm11 an11 cd11 ct11), sl11⟩)
    (c11 : PySem.W.codeIn K cd11 "is_number" = true)
    (k11 : PySem.W.keepIn K (.ref f11) = true)
    (a12 : PySem.W.nsIn K mainGlobals "ratio_of" = some (some (.ref f12)))
    (l12 : K.lookup f12 = some ⟨oc12, od12, .func (PySem.W.fnOf "ratio_of" "ratio_of" (defArgs s_ratio_of) (defBody s_ratio_of) (defScope s_ratio_of) .none kV12 dc12 pm12 an12 cd12 ct12), sl12⟩)
    (c12 : PySem.W.codeIn K cd12 "ratio_of" = true)
    (k12 : PySem.W.keepIn K (.ref f12) = true)
    (a13 : PySem.W.nsIn K mainGlobals "whole_parts" = some (some (.ref f13)))
    (l13 : K.lookup f13 = some ⟨oc13, od13, .func (PySem.W.fnOf "whole_parts" "whole_parts" (defArgs s_whole_parts) (defBody s_whole_parts) (defScope s_whole_parts) .none kV13 dc13 pm13 an13 cd13 ct13), sl13⟩)
    (c13 : PySem.W.codeIn K cd13 "whole_parts" = true)
    (k13 : PySem.W.keepIn K (.ref f13) = true)
    (a14 : PySem.W.nsIn K mainGlobals "_sum" = some (some (.ref f14)))
    (l14 : K.lookup f14 = some ⟨oc14, od14, .func (PySem.W.fnOf "_sum" "_sum" (defArgs s__sum) (defBody s__sum) (defScope s__sum) .none kV14 dc14 pm14 an14 cd14 ct14), sl14⟩)
    (c14 : PySem.W.codeIn K cd14 "_sum" = true)
    (k14 : PySem.W.keepIn K (.ref f14) = true)
    (a15 : PySem.W.nsIn K mainGlobals "_difference" = some (some (.ref f15)))
    (l15 : K.lookup f15 = some ⟨oc15, od15, .func (PySem.W.fnOf "_difference" "_difference" (defArgs s__difference) (defBody s__difference) (defScope s__difference) .none kV15 dc15 pm15 an15 cd15 ct15), sl15⟩)
    (c15 : PySem.W.codeIn K cd15 "_difference" = true)
    (k15 : PySem.W.keepIn K (.ref f15) = true)
    (a16 : PySem.W.nsIn K mainGlobals "_product" = some (some (.ref f16)))
    (l16 : K.lookup f16 = some ⟨oc16, od16, .func (PySem.W.fnOf "_product" "_product" (defArgs s__product) (defBody s__product) (defScope s__product) .none kV16 dc16 pm16 an16 cd16 ct16), sl16⟩)
    (c16 : PySem.W.codeIn K cd16 "_product" = true)
    (k16 : PySem.W.keepIn K (.ref f16) = true)
    (a17 : PySem.W.nsIn K mainGlobals "_gap" = some (some (.ref f17)))
    (l17 : K.lookup f17 = some ⟨oc17, od17, .func (PySem.W.fnOf "_gap" "_gap" (defArgs s__gap) (defBody s__gap) (defScope s__gap) .none kV17 dc17 pm17 an17 cd17 ct17), sl17⟩)
    (c17 : PySem.W.codeIn K cd17 "_gap" = true)
    (k17 : PySem.W.keepIn K (.ref f17) = true)
    (a18 : PySem.W.nsIn K mainGlobals "mixed_row" = some (some (.ref f18)))
    (l18 : K.lookup f18 = some ⟨oc18, od18, .func (PySem.W.fnOf "mixed_row" "mixed_row" (defArgs s_mixed_row) (defBody s_mixed_row) (defScope s_mixed_row) .none kV18 dc18 pm18 an18 cd18 ct18), sl18⟩)
    (c18 : PySem.W.codeIn K cd18 "mixed_row" = true)
    (k18 : PySem.W.keepIn K (.ref f18) = true)
    (a19 : PySem.W.nsIn K mainGlobals "sum_row" = some (some (.ref f19)))
    (l19 : K.lookup f19 = some ⟨oc19, od19, .func (PySem.W.fnOf "sum_row" "sum_row" (defArgs s_sum_row) (defBody s_sum_row) (defScope s_sum_row) .none kV19 dc19 pm19 an19 cd19 ct19), sl19⟩)
    (c19 : PySem.W.codeIn K cd19 "sum_row" = true)
    (k19 : PySem.W.keepIn K (.ref f19) = true)
    (a20 : PySem.W.nsIn K mainGlobals "product_row" = some (some (.ref f20)))
    (l20 : K.lookup f20 = some ⟨oc20, od20, .func (PySem.W.fnOf "product_row" "product_row" (defArgs s_product_row) (defBody s_product_row) (defScope s_product_row) .none kV20 dc20 pm20 an20 cd20 ct20), sl20⟩)
    (c20 : PySem.W.codeIn K cd20 "product_row" = true)
    (k20 : PySem.W.keepIn K (.ref f20) = true)
    (a21 : PySem.W.nsIn K mainGlobals "row_numbers" = some (some (.ref f21)))
    (l21 : K.lookup f21 = some ⟨oc21, od21, .func (PySem.W.fnOf "row_numbers" "row_numbers" (defArgs s_row_numbers) (defBody s_row_numbers) (defScope s_row_numbers) .none kV21 dc21 pm21 an21 cd21 ct21), sl21⟩)
    (c21 : PySem.W.codeIn K cd21 "row_numbers" = true)
    (k21 : PySem.W.keepIn K (.ref f21) = true)
    (a22 : PySem.W.nsIn K mainGlobals "_law_is_integer" = some (some (.ref f22)))
    (l22 : K.lookup f22 = some ⟨oc22, od22, .func (PySem.W.fnOf "_law_is_integer" "_law_is_integer" (defArgs s__law_is_integer) (defBody s__law_is_integer) (defScope s__law_is_integer) .none kV22 dc22 pm22 an22 cd22 ct22), sl22⟩)
    (c22 : PySem.W.codeIn K cd22 "_law_is_integer" = true)
    (k22 : PySem.W.keepIn K (.ref f22) = true)
    (a23 : PySem.W.nsIn K mainGlobals "_law_feed" = some (some (.ref f23)))
    (l23 : K.lookup f23 = some ⟨oc23, od23, .func (PySem.W.fnOf "_law_feed" "_law_feed" (defArgs s__law_feed) (defBody s__law_feed) (defScope s__law_feed) .none kV23 dc23 pm23 an23 cd23 ct23), sl23⟩)
    (c23 : PySem.W.codeIn K cd23 "_law_feed" = true)
    (k23 : PySem.W.keepIn K (.ref f23) = true)
    (a24 : PySem.W.nsIn K mainGlobals "_law_take" = some (some (.ref f24)))
    (l24 : K.lookup f24 = some ⟨oc24, od24, .func (PySem.W.fnOf "_law_take" "_law_take" (defArgs s__law_take) (defBody s__law_take) (defScope s__law_take) .none kV24 dc24 pm24 an24 cd24 ct24), sl24⟩)
    (c24 : PySem.W.codeIn K cd24 "_law_take" = true)
    (k24 : PySem.W.keepIn K (.ref f24) = true)
    (a25 : PySem.W.nsIn K mainGlobals "_law_number" = some (some (.ref f25)))
    (l25 : K.lookup f25 = some ⟨oc25, od25, .func (PySem.W.fnOf "_law_number" "_law_number" (defArgs s__law_number) (defBody s__law_number) (defScope s__law_number) .none kV25 dc25 pm25 an25 cd25 ct25), sl25⟩)
    (c25 : PySem.W.codeIn K cd25 "_law_number" = true)
    (k25 : PySem.W.keepIn K (.ref f25) = true)
    (a26 : PySem.W.nsIn K mainGlobals "_law_is" = some (some (.ref f26)))
    (l26 : K.lookup f26 = some ⟨oc26, od26, .func (PySem.W.fnOf "_law_is" "_law_is" (defArgs s__law_is) (defBody s__law_is) (defScope s__law_is) .none kV26 dc26 pm26 an26 cd26 ct26), sl26⟩)
    (c26 : PySem.W.codeIn K cd26 "_law_is" = true)
    (k26 : PySem.W.keepIn K (.ref f26) = true)
    (a27 : PySem.W.nsIn K mainGlobals "_law_row_is" = some (some (.ref f27)))
    (l27 : K.lookup f27 = some ⟨oc27, od27, .func (PySem.W.fnOf "_law_row_is" "_law_row_is" (defArgs s__law_row_is) (defBody s__law_row_is) (defScope s__law_row_is) .none kV27 dc27 pm27 an27 cd27 ct27), sl27⟩)
    (c27 : PySem.W.codeIn K cd27 "_law_row_is" = true)
    (k27 : PySem.W.keepIn K (.ref f27) = true)
    (a28 : PySem.W.nsIn K mainGlobals "_law_ratios" = some (some (.ref f28)))
    (l28 : K.lookup f28 = some ⟨oc28, od28, .func (PySem.W.fnOf "_law_ratios" "_law_ratios" (defArgs s__law_ratios) (defBody s__law_ratios) (defScope s__law_ratios) .none kV28 dc28 pm28 an28 cd28 ct28), sl28⟩)
    (c28 : PySem.W.codeIn K cd28 "_law_ratios" = true)
    (k28 : PySem.W.keepIn K (.ref f28) = true)
    (a29 : PySem.W.nsIn K mainGlobals "_law_lot" = some (some (.ref f29)))
    (l29 : K.lookup f29 = some ⟨oc29, od29, .func (PySem.W.fnOf "_law_lot" "_law_lot" (defArgs s__law_lot) (defBody s__law_lot) (defScope s__law_lot) .none kV29 dc29 pm29 an29 cd29 ct29), sl29⟩)
    (c29 : PySem.W.codeIn K cd29 "_law_lot" = true)
    (k29 : PySem.W.keepIn K (.ref f29) = true)
    (a30 : PySem.W.nsIn K mainGlobals "_law_numbers" = some (some (.ref f30)))
    (l30 : K.lookup f30 = some ⟨oc30, od30, .func (PySem.W.fnOf "_law_numbers" "_law_numbers" (defArgs s__law_numbers) (defBody s__law_numbers) (defScope s__law_numbers) .none kV30 dc30 pm30 an30 cd30 ct30), sl30⟩)
    (c30 : PySem.W.codeIn K cd30 "_law_numbers" = true)
    (k30 : PySem.W.keepIn K (.ref f30) = true)
    (a31 : PySem.W.nsIn K mainGlobals "_law_sums" = some (some (.ref f31)))
    (l31 : K.lookup f31 = some ⟨oc31, od31, .func (PySem.W.fnOf "_law_sums" "_law_sums" (defArgs s__law_sums) (defBody s__law_sums) (defScope s__law_sums) .none kV31 dc31 pm31 an31 cd31 ct31), sl31⟩)
    (c31 : PySem.W.codeIn K cd31 "_law_sums" = true)
    (k31 : PySem.W.keepIn K (.ref f31) = true)
    (a32 : PySem.W.nsIn K mainGlobals "_law_products" = some (some (.ref f32)))
    (l32 : K.lookup f32 = some ⟨oc32, od32, .func (PySem.W.fnOf "_law_products" "_law_products" (defArgs s__law_products) (defBody s__law_products) (defScope s__law_products) .none kV32 dc32 pm32 an32 cd32 ct32), sl32⟩)
    (c32 : PySem.W.codeIn K cd32 "_law_products" = true)
    (k32 : PySem.W.keepIn K (.ref f32) = true)
    (a33 : PySem.W.nsIn K mainGlobals "_law_mixed" = some (some (.ref f33)))
    (l33 : K.lookup f33 = some ⟨oc33, od33, .func (PySem.W.fnOf "_law_mixed" "_law_mixed" (defArgs s__law_mixed) (defBody s__law_mixed) (defScope s__law_mixed) .none kV33 dc33 pm33 an33 cd33 ct33), sl33⟩)
    (c33 : PySem.W.codeIn K cd33 "_law_mixed" = true)
    (k33 : PySem.W.keepIn K (.ref f33) = true)
    (a34 : PySem.W.nsIn K mainGlobals "_law_word" = some (some (.ref f34)))
    (l34 : K.lookup f34 = some ⟨oc34, od34, .func (PySem.W.fnOf "_law_word" "_law_word" (defArgs s__law_word) (defBody s__law_word) (defScope s__law_word) .none kV34 dc34 pm34 an34 cd34 ct34), sl34⟩)
    (c34 : PySem.W.codeIn K cd34 "_law_word" = true)
    (k34 : PySem.W.keepIn K (.ref f34) = true)
    (a35 : PySem.W.nsIn K mainGlobals "law" = some (some (.ref f35)))
    (l35 : K.lookup f35 = some ⟨oc35, od35, .func (PySem.W.fnOf "law" "law" (defArgs s_law) (defBody s_law) (defScope s_law) .none kV35 dc35 pm35 an35 cd35 ct35), sl35⟩)
    (c35 : PySem.W.codeIn K cd35 "law" = true)
    (k35 : PySem.W.keepIn K (.ref f35) = true)
    (pg_Ratio : PySem.W.plainGet K C_Ratio Str.empty = true)
    (hd_Ratio : PySem.W.hasDictIn K C_Ratio = true)
    (po_Ratio : PySem.W.plainOver K C_Ratio = true)
    (sa_Ratio : PySem.W.findIn K (.ref C_Ratio) "__setattr__" = some (some (.builtin "object.__setattr__")))
    (mk_Ratio : PySem.W.makesIn K C_Ratio = true)
    (kc_Ratio : PySem.W.keepIn K (.ref C_Ratio) = true)
    (sf_Ratio : PySem.W.selfFirst K C_Ratio = true)
    (s1_Ratio : PySem.W.subIn K (.ref C_Ratio) (.type "int") = some false)
    (s2_Ratio : PySem.W.subIn K (.type "int") (.ref C_Ratio) = some false)
    (cls_Ratio : PySem.W.findIn K (.ref C_Ratio) "__class__" = some (some (.builtin "object.__class__")))
    (gsd_Ratio : PySem.W.specialIn K (.builtin "object.__class__") "__get__" = some (some (.builtin "getset_descriptor.__get__")))
    (tks_Ratio : PySem.W.takesIn K (.builtin "object.__class__") = some true)
    (mro_Ratio : PySem.W.mroIn K C_Ratio (.type "object") = some true)
    (ki_Ratio : PySem.W.kitOne K (.ref C_Ratio) (.type "int") = some false)
    (ik_Ratio : PySem.W.kitOne K (.type "int") (.ref C_Ratio) = some false)
    (n_top_Ratio : PySem.W.findIn K (.ref C_Ratio) "top" = some none)
    (n_bottom_Ratio : PySem.W.findIn K (.ref C_Ratio) "bottom" = some none)
    (sa_NoNumber : PySem.W.findIn K (.ref C_NoNumber) "__setattr__" = some (some (.builtin "object.__setattr__")))
    (ga_NoNumber : PySem.W.findIn K (.ref C_NoNumber) "__getattribute__" = some (some (.builtin "BaseException.__getattribute__")))
    (gg_NoNumber : PySem.W.findIn K (.ref C_NoNumber) "__getattr__" = some none)
    (cls_NoNumber : PySem.W.findIn K (.ref C_NoNumber) "__class__" = some (some (.builtin "object.__class__")))
    (gsd_NoNumber : PySem.W.specialIn K (.builtin "object.__class__") "__get__" = some (some (.builtin "getset_descriptor.__get__")))
    (tks_NoNumber : PySem.W.takesIn K (.builtin "object.__class__") = some true)
    (mro_NoNumber : PySem.W.mroIn K C_NoNumber (.type "object") = some true)
    (kC_NoNumber : PySem.W.keepIn K (.ref C_NoNumber) = true)
    (eC_NoNumber : PySem.W.subIn K (.ref C_NoNumber) (.type "BaseException") = some true)
    (tC_NoNumber : PySem.W.typeIn K (.ref C_NoNumber) = some (.type "type"))
    (hC_NoNumber : PySem.W.hasDictIn K C_NoNumber = true)
    (sC_NoNumber : PySem.W.subIn K (.ref C_NoNumber) (.ref C_NoNumber) = some true)
    (n_NoNumber_word : PySem.W.findIn K (.ref C_NoNumber) "word" = some none)
    (ti_NoNumber : PySem.W.typeIn K (.ref f0) = some (.type "function"))
    (fa_ik_str : PySem.W.kitOne K (.type "str") (.ref C_Ratio) = some false)
    (fa_ik_bool : PySem.W.kitOne K (.type "bool") (.ref C_Ratio) = some false)
    (fa_ik_NoneType : PySem.W.kitOne K (.type "NoneType") (.ref C_Ratio) = some false)
    (z_isinstance : PySem.W.nsIn K mainGlobals "isinstance" = some none)
    (z_int : PySem.W.nsIn K mainGlobals "int" = some none)
    (z_bool : PySem.W.nsIn K mainGlobals "bool" = some none)
    (z_abs : PySem.W.nsIn K mainGlobals "abs" = some none)
    (z_len : PySem.W.nsIn K mainGlobals "len" = some none)
    (z_max : PySem.W.nsIn K mainGlobals "max" = some none)
    (z_range : PySem.W.nsIn K mainGlobals "range" = some none)
    (z_min : PySem.W.nsIn K mainGlobals "min" = some none)
    (z_list : PySem.W.nsIn K mainGlobals "list" = some none)
    (z_tuple : PySem.W.nsIn K mainGlobals "tuple" = some none)
    (z_zip : PySem.W.nsIn K mainGlobals "zip" = some none)
    (z_sum : PySem.W.nsIn K mainGlobals "sum" = some none)
    (gc_MOST_NUMBERS : PySem.W.nsIn K mainGlobals "MOST_NUMBERS" = some (some (.int 13 tok_MOST_NUMBERS)))
    (j_gcd : PySem.W.nsIn K mainGlobals "gcd" = some (some (.builtin "math.gcd")))
    (j_lcm : PySem.W.nsIn K mainGlobals "lcm" = some (some (.builtin "math.lcm")))
    (j_comb : PySem.W.nsIn K mainGlobals "comb" = some (some (.builtin "math.comb")))
    : ∃ fd : FuncData, (∀ (s : Shared) (v : Value), BindsTo s fd ⟨[v], []⟩ [("_law_script", v)]) ∧ ∀ base : Heap, K.In base → base.Ns mainGlobals mg → FnOk l.prog w K mg base CX0 11 fa fd ["_law_script"] (sp_law K) := by
  have e := hfa.symm.trans (PySem.W.mg_of X G a35)
  cases e
  have F0 := fun_mk (st := s_NoNumber___init__) l0 c0 k0
  have F1 : FunD K "__init__" "Ratio.__init__" (defArgs s_Ratio___init__) (defBody s_Ratio___init__) (defScope s_Ratio___init__) [.int 1] [] f1 _ := ⟨⟨_, _, _, _, _, _, _, _, _, _, rfl, l1, c1, .inr ⟨by simp, _, _, [.int 1 tt1_0], _, rfl, t1, rfl, .cons ⟨_, rfl⟩ (.nil)⟩, .inl rfl⟩, k1⟩
  have F2 := fun_mk (st := s_Ratio___add__) l2 c2 k2
  have F3 := fun_mk (st := s_Ratio___radd__) l3 c3 k3
  have F4 := fun_mk (st := s_Ratio___sub__) l4 c4 k4
  have F5 := fun_mk (st := s_Ratio___rsub__) l5 c5 k5
  have F6 := fun_mk (st := s_Ratio___mul__) l6 c6 k6
  have F7 := fun_mk (st := s_Ratio___rmul__) l7 c7 k7
  have F8 := fun_mk (st := s_Ratio___lt__) l8 c8 k8
  have F9 := fun_mk (st := s_Ratio___gt__) l9 c9 k9
  have F10 := fun_mk (st := s_is_whole) l10 c10 k10
  have F11 := fun_mk (st := s_is_number) l11 c11 k11
  have F12 := fun_mk (st := s_ratio_of) l12 c12 k12
  have F13 := fun_mk (st := s_whole_parts) l13 c13 k13
  have F14 := fun_mk (st := s__sum) l14 c14 k14
  have F15 := fun_mk (st := s__difference) l15 c15 k15
  have F16 := fun_mk (st := s__product) l16 c16 k16
  have F17 := fun_mk (st := s__gap) l17 c17 k17
  have F18 := fun_mk (st := s_mixed_row) l18 c18 k18
  have F19 := fun_mk (st := s_sum_row) l19 c19 k19
  have F20 := fun_mk (st := s_product_row) l20 c20 k20
  have F21 := fun_mk (st := s_row_numbers) l21 c21 k21
  have F22 := fun_mk (st := s__law_is_integer) l22 c22 k22
  have F23 := fun_mk (st := s__law_feed) l23 c23 k23
  have F24 := fun_mk (st := s__law_take) l24 c24 k24
  have F25 := fun_mk (st := s__law_number) l25 c25 k25
  have F26 := fun_mk (st := s__law_is) l26 c26 k26
  have F27 := fun_mk (st := s__law_row_is) l27 c27 k27
  have F28 := fun_mk (st := s__law_ratios) l28 c28 k28
  have F29 := fun_mk (st := s__law_lot) l29 c29 k29
  have F30 := fun_mk (st := s__law_numbers) l30 c30 k30
  have F31 := fun_mk (st := s__law_sums) l31 c31 k31
  have F32 := fun_mk (st := s__law_products) l32 c32 k32
  have F33 := fun_mk (st := s__law_mixed) l33 c33 k33
  have F34 := fun_mk (st := s__law_word) l34 c34 k34
  have F35 := fun_mk (st := s_law) l35 c35 k35
  let A : Ad := { Ratio := C_Ratio, NoNumber := C_NoNumber, MeansError := C_MeansError, f_NoNumber___init__ := f0, f_Ratio___init__ := f1, f_Ratio___add__ := f2, f_Ratio___radd__ := f3, f_Ratio___sub__ := f4, f_Ratio___rsub__ := f5, f_Ratio___mul__ := f6, f_Ratio___rmul__ := f7, f_Ratio___lt__ := f8, f_Ratio___gt__ := f9, f_is_whole := f10, f_is_number := f11, f_ratio_of := f12, f_whole_parts := f13, f__sum := f14, f__difference := f15, f__product := f16, f__gap := f17, f_mixed_row := f18, f_sum_row := f19, f_product_row := f20, f_row_numbers := f21, f__law_is_integer := f22, f__law_feed := f23, f__law_take := f24, f__law_number := f25, f__law_is := f26, f__law_row_is := f27, f__law_ratios := f28, f__law_lot := f29, f__law_numbers := f30, f__law_sums := f31, f__law_products := f32, f__law_mixed := f33, f__law_word := f34, f_law := fa }
  let D : Fd := { f_NoNumber___init__ := PySem.W.fnOf "__init__" "NoNumber.__init__" (defArgs s_NoNumber___init__) (defBody s_NoNumber___init__) (defScope s_NoNumber___init__) .none kV0 dc0 pm0 an0 cd0 ct0, f_Ratio___init__ := PySem.W.fnOf "__init__" "Ratio.__init__" (defArgs s_Ratio___init__) (defBody s_Ratio___init__) (defScope s_Ratio___init__) (.ref T1) kV1 dc1 pm1 an1 cd1 ct1, f_Ratio___add__ := PySem.W.fnOf "__add__" "Ratio.__add__" (defArgs s_Ratio___add__) (defBody s_Ratio___add__) (defScope s_Ratio___add__) .none kV2 dc2 pm2 an2 cd2 ct2, f_Ratio___radd__ := PySem.W.fnOf "__radd__" "Ratio.__radd__" (defArgs s_Ratio___radd__) (defBody s_Ratio___radd__) (defScope s_Ratio___radd__) .none kV3 dc3 pm3 an3 cd3 ct3, f_Ratio___sub__ := PySem.W.fnOf "__sub__" "Ratio.__sub__" (defArgs s_Ratio___sub__) (defBody s_Ratio___sub__) (defScope s_Ratio___sub__) .none kV4 dc4 pm4 an4 cd4 ct4, f_Ratio___rsub__ := PySem.W.fnOf "__rsub__" "Ratio.__rsub__" (defArgs s_Ratio___rsub__) (defBody s_Ratio___rsub__) (defScope s_Ratio___rsub__) .none kV5 dc5 pm5 an5 cd5 ct5, f_Ratio___mul__ := PySem.W.fnOf "__mul__" "Ratio.__mul__" (defArgs s_Ratio___mul__) (defBody s_Ratio___mul__) (defScope s_Ratio___mul__) .none kV6 dc6 pm6 an6 cd6 ct6, f_Ratio___rmul__ := PySem.W.fnOf "__rmul__" "Ratio.__rmul__" (defArgs s_Ratio___rmul__) (defBody s_Ratio___rmul__) (defScope s_Ratio___rmul__) .none kV7 dc7 pm7 an7 cd7 ct7, f_Ratio___lt__ := PySem.W.fnOf "__lt__" "Ratio.__lt__" (defArgs s_Ratio___lt__) (defBody s_Ratio___lt__) (defScope s_Ratio___lt__) .none kV8 dc8 pm8 an8 cd8 ct8, f_Ratio___gt__ := PySem.W.fnOf "__gt__" "Ratio.__gt__" (defArgs s_Ratio___gt__) (defBody s_Ratio___gt__) (defScope s_Ratio___gt__) .none kV9 dc9 pm9 an9 cd9 ct9, f_is_whole := PySem.W.fnOf "is_whole" "is_whole" (defArgs s_is_whole) (defBody s_is_whole) (defScope s_is_whole) .none kV10 dc10 pm10 an10 cd10 ct10, f_is_number := PySem.W.fnOf "is_number" "is_number" (defArgs s_is_number) (defBody s_is_number) (defScope s_is_number) .none kV11 dc11 pm11 an11 cd11 ct11, f_ratio_of := PySem.W.fnOf "ratio_of" "ratio_of" (defArgs s_ratio_of) (defBody s_ratio_of) (defScope s_ratio_of) .none kV12 dc12 pm12 an12 cd12 ct12, f_whole_parts := PySem.W.fnOf "whole_parts" "whole_parts" (defArgs s_whole_parts) (defBody s_whole_parts) (defScope s_whole_parts) .none kV13 dc13 pm13 an13 cd13 ct13, f__sum := PySem.W.fnOf "_sum" "_sum" (defArgs s__sum) (defBody s__sum) (defScope s__sum) .none kV14 dc14 pm14 an14 cd14 ct14, f__difference := PySem.W.fnOf "_difference" "_difference" (defArgs s__difference) (defBody s__difference) (defScope s__difference) .none kV15 dc15 pm15 an15 cd15 ct15, f__product := PySem.W.fnOf "_product" "_product" (defArgs s__product) (defBody s__product) (defScope s__product) .none kV16 dc16 pm16 an16 cd16 ct16, f__gap := PySem.W.fnOf "_gap" "_gap" (defArgs s__gap) (defBody s__gap) (defScope s__gap) .none kV17 dc17 pm17 an17 cd17 ct17, f_mixed_row := PySem.W.fnOf "mixed_row" "mixed_row" (defArgs s_mixed_row) (defBody s_mixed_row) (defScope s_mixed_row) .none kV18 dc18 pm18 an18 cd18 ct18, f_sum_row := PySem.W.fnOf "sum_row" "sum_row" (defArgs s_sum_row) (defBody s_sum_row) (defScope s_sum_row) .none kV19 dc19 pm19 an19 cd19 ct19, f_product_row := PySem.W.fnOf "product_row" "product_row" (defArgs s_product_row) (defBody s_product_row) (defScope s_product_row) .none kV20 dc20 pm20 an20 cd20 ct20, f_row_numbers := PySem.W.fnOf "row_numbers" "row_numbers" (defArgs s_row_numbers) (defBody s_row_numbers) (defScope s_row_numbers) .none kV21 dc21 pm21 an21 cd21 ct21, f__law_is_integer := PySem.W.fnOf "_law_is_integer" "_law_is_integer" (defArgs s__law_is_integer) (defBody s__law_is_integer) (defScope s__law_is_integer) .none kV22 dc22 pm22 an22 cd22 ct22, f__law_feed := PySem.W.fnOf "_law_feed" "_law_feed" (defArgs s__law_feed) (defBody s__law_feed) (defScope s__law_feed) .none kV23 dc23 pm23 an23 cd23 ct23, f__law_take := PySem.W.fnOf "_law_take" "_law_take" (defArgs s__law_take) (defBody s__law_take) (defScope s__law_take) .none kV24 dc24 pm24 an24 cd24 ct24, f__law_number := PySem.W.fnOf "_law_number" "_law_number" (defArgs s__law_number) (defBody s__law_number) (defScope s__law_number) .none kV25 dc25 pm25 an25 cd25 ct25, f__law_is := PySem.W.fnOf "_law_is" "_law_is" (defArgs s__law_is) (defBody s__law_is) (defScope s__law_is) .none kV26 dc26 pm26 an26 cd26 ct26, f__law_row_is := PySem.W.fnOf "_law_row_is" "_law_row_is" (defArgs s__law_row_is) (defBody s__law_row_is) (defScope s__law_row_is) .none kV27 dc27 pm27 an27 cd27 ct27, f__law_ratios := PySem.W.fnOf "_law_ratios" "_law_ratios" (defArgs s__law_ratios) (defBody s__law_ratios) (defScope s__law_ratios) .none kV28 dc28 pm28 an28 cd28 ct28, f__law_lot := PySem.W.fnOf "_law_lot" "_law_lot" (defArgs s__law_lot) (defBody s__law_lot) (defScope s__law_lot) .none kV29 dc29 pm29 an29 cd29 ct29, f__law_numbers := PySem.W.fnOf "_law_numbers" "_law_numbers" (defArgs s__law_numbers) (defBody s__law_numbers) (defScope s__law_numbers) .none kV30 dc30 pm30 an30 cd30 ct30, f__law_sums := PySem.W.fnOf "_law_sums" "_law_sums" (defArgs s__law_sums) (defBody s__law_sums) (defScope s__law_sums) .none kV31 dc31 pm31 an31 cd31 ct31, f__law_products := PySem.W.fnOf "_law_products" "_law_products" (defArgs s__law_products) (defBody s__law_products) (defScope s__law_products) .none kV32 dc32 pm32 an32 cd32 ct32, f__law_mixed := PySem.W.fnOf "_law_mixed" "_law_mixed" (defArgs s__law_mixed) (defBody s__law_mixed) (defScope s__law_mixed) .none kV33 dc33 pm33 an33 cd33 ct33, f__law_word := PySem.W.fnOf "_law_word" "_law_word" (defArgs s__law_word) (defBody s__law_word) (defScope s__law_word) .none kV34 dc34 pm34 an34 cd34 ct34, f_law := PySem.W.fnOf "law" "law" (defArgs s_law) (defBody s_law) (defScope s_law) .none kV35 dc35 pm35 an35 cd35 ct35 }
  have T : Txt K mg A D := {
    g_Ratio := PySem.W.mg_of X G g_Ratio,
    kp_Ratio := kc_Ratio,
    M_Ratio := ⟨mk_Ratio, a1, i1, kc_Ratio⟩,
    k_Ratio := ⟨⟨pg_Ratio, hd_Ratio, po_Ratio, sa_Ratio⟩, ⟨sf_Ratio, s1_Ratio, s2_Ratio⟩, cls_Ratio, gsd_Ratio, tks_Ratio, mro_Ratio, ki_Ratio, ik_Ratio, n_top_Ratio, n_bottom_Ratio⟩,
    g_MeansError := PySem.W.mg_of X G g_MeansError,
    g_NoNumber := PySem.W.mg_of X G g_NoNumber,
    o_NoNumber := ⟨⟨_, _, _, _, _, _, _, _, _, _, _, _, _, _, _, xL_NoNumber, rfl⟩, sa_NoNumber, eC_NoNumber, tC_NoNumber, kC_NoNumber⟩,
    x_NoNumber := ⟨ga_NoNumber, gg_NoNumber, eC_NoNumber, hC_NoNumber⟩,
    c_NoNumber := ⟨ga_NoNumber, gg_NoNumber, eC_NoNumber, hC_NoNumber, cls_NoNumber, gsd_NoNumber, tks_NoNumber, mro_NoNumber⟩,
    em_NoNumber := PySem.W.exm_ref eC_NoNumber hC_NoNumber tC_NoNumber sC_NoNumber,
    n_NoNumber_word := n_NoNumber_word,
    i_NoNumber := a0,
    ti_NoNumber := ti_NoNumber,
    ik_str := fa_ik_str,
    ik_bool := fa_ik_bool,
    ik_NoneType := fa_ik_NoneType,
    F_NoNumber___init__ := F0,
    b_NoNumber___init__ := F0.binds fun _ _ _ _ _ _ us hl => match us, hl with | [_, _], _ => rfl,
    m_NoNumber___init__ := ⟨a0, i0, k0⟩,
    F_Ratio___init__ := F1,
    b_Ratio___init__ := by obtain ⟨ds, r, b⟩ := F1.binds1 (ps := ["self", "top", "bottom"]) 3 1 (by simp) rfl (fun _ _ _ _ _ _ _ us its h1 h2 => match us, h1, its, h2 with | [_, _, _], _, [_], _ => ⟨_, rfl, by first | rfl | with_unfolding_all rfl | kernel_rfl⟩); cases r; exact b,
    b1_Ratio___init__ := F1.binds1 (ps := ["self", "top", "bottom"]) 2 0 (by simp) rfl (fun _ _ _ _ _ _ _ us its h1 h2 => match us, h1, its, h2 with | [_, _], _, [_], _ => ⟨_, rfl, by first | rfl | with_unfolding_all rfl | kernel_rfl⟩),
    m_Ratio___init__ := ⟨a1, i1, k1⟩,
    F_Ratio___add__ := F2,
    b_Ratio___add__ := F2.binds fun _ _ _ _ _ _ us hl => match us, hl with | [_, _], _ => rfl,
    m_Ratio___add__ := ⟨a2, i2, k2⟩,
    F_Ratio___radd__ := F3,
    b_Ratio___radd__ := F3.binds fun _ _ _ _ _ _ us hl => match us, hl with | [_, _], _ => rfl,
    m_Ratio___radd__ := ⟨a3, i3, k3⟩,
    F_Ratio___sub__ := F4,
    b_Ratio___sub__ := F4.binds fun _ _ _ _ _ _ us hl => match us, hl with | [_, _], _ => rfl,
    m_Ratio___sub__ := ⟨a4, i4, k4⟩,
    F_Ratio___rsub__ := F5,
    b_Ratio___rsub__ := F5.binds fun _ _ _ _ _ _ us hl => match us, hl with | [_, _], _ => rfl,
    m_Ratio___rsub__ := ⟨a5, i5, k5⟩,
    F_Ratio___mul__ := F6,
    b_Ratio___mul__ := F6.binds fun _ _ _ _ _ _ us hl => match us, hl with | [_, _], _ => rfl,
    m_Ratio___mul__ := ⟨a6, i6, k6⟩,
    F_Ratio___rmul__ := F7,
    b_Ratio___rmul__ := F7.binds fun _ _ _ _ _ _ us hl => match us, hl with | [_, _], _ => rfl,
    m_Ratio___rmul__ := ⟨a7, i7, k7⟩,
    F_Ratio___lt__ := F8,
    b_Ratio___lt__ := F8.binds fun _ _ _ _ _ _ us hl => match us, hl with | [_, _], _ => rfl,
    m_Ratio___lt__ := ⟨a8, i8, k8⟩,
    F_Ratio___gt__ := F9,
    b_Ratio___gt__ := F9.binds fun _ _ _ _ _ _ us hl => match us, hl with | [_, _], _ => rfl,
    m_Ratio___gt__ := ⟨a9, i9, k9⟩,
    F_is_whole := F10,
    b_is_whole := F10.binds fun _ _ _ _ _ _ us hl => match us, hl with | [_], _ => rfl,
    g_is_whole := PySem.W.mg_of X G a10,
    F_is_number := F11,
    b_is_number := F11.binds fun _ _ _ _ _ _ us hl => match us, hl with | [_], _ => rfl,
    g_is_number := PySem.W.mg_of X G a11,
    F_ratio_of := F12,
    b_ratio_of := F12.binds fun _ _ _ _ _ _ us hl => match us, hl with | [_], _ => rfl,
    g_ratio_of := PySem.W.mg_of X G a12,
    F_whole_parts := F13,
    b_whole_parts := F13.binds fun _ _ _ _ _ _ us hl => match us, hl with | [_], _ => rfl,
    g_whole_parts := PySem.W.mg_of X G a13,
    F__sum := F14,
    b__sum := F14.binds fun _ _ _ _ _ _ us hl => match us, hl with | [_, _], _ => rfl,
    g__sum := PySem.W.mg_of X G a14,
    F__difference := F15,
    b__difference := F15.binds fun _ _ _ _ _ _ us hl => match us, hl with | [_, _], _ => rfl,
    g__difference := PySem.W.mg_of X G a15,
    F__product := F16,
    b__product := F16.binds fun _ _ _ _ _ _ us hl => match us, hl with | [_, _], _ => rfl,
    g__product := PySem.W.mg_of X G a16,
    F__gap := F17,
    b__gap := F17.binds fun _ _ _ _ _ _ us hl => match us, hl with | [_, _], _ => rfl,
    g__gap := PySem.W.mg_of X G a17,
    F_mixed_row := F18,
    kb_mixed_row := by
      obtain ⟨oc, od, kV, doc, pm, an, cdv, ct, osl, e, lk, hc⟩ := F18.ex
      cases e
      exact ⟨fun s us ws _ l1 l2 => match us, l1, ws, l2 with | [_, _], _, [_], _ => .of_eq rfl, fun r1 r2 => r1.append r2⟩,
    g_mixed_row := PySem.W.mg_of X G a18,
    F_sum_row := F19,
    b_sum_row := F19.binds fun _ _ _ _ _ _ us hl => match us, hl with | [_, _], _ => rfl,
    g_sum_row := PySem.W.mg_of X G a19,
    F_product_row := F20,
    b_product_row := F20.binds fun _ _ _ _ _ _ us hl => match us, hl with | [_, _], _ => rfl,
    g_product_row := PySem.W.mg_of X G a20,
    F_row_numbers := F21,
    b_row_numbers := F21.binds fun _ _ _ _ _ _ us hl => match us, hl with | [_], _ => rfl,
    g_row_numbers := PySem.W.mg_of X G a21,
    F__law_is_integer := F22,
    b__law_is_integer := F22.binds fun _ _ _ _ _ _ us hl => match us, hl with | [_], _ => rfl,
    g__law_is_integer := PySem.W.mg_of X G a22,
    F__law_feed := F23,
    b__law_feed := F23.binds fun _ _ _ _ _ _ us hl => match us, hl with | [_], _ => rfl,
    g__law_feed := PySem.W.mg_of X G a23,
    F__law_take := F24,
    b__law_take := F24.binds fun _ _ _ _ _ _ us hl => match us, hl with | [_, _], _ => rfl,
    g__law_take := PySem.W.mg_of X G a24,
    F__law_number := F25,
    b__law_number := F25.binds fun _ _ _ _ _ _ us hl => match us, hl with | [_, _], _ => rfl,
    g__law_number := PySem.W.mg_of X G a25,
    F__law_is := F26,
    b__law_is := F26.binds fun _ _ _ _ _ _ us hl => match us, hl with | [_, _, _], _ => rfl,
    g__law_is := PySem.W.mg_of X G a26,
    F__law_row_is := F27,
    b__law_row_is := F27.binds fun _ _ _ _ _ _ us hl => match us, hl with | [_, _], _ => rfl,
    g__law_row_is := PySem.W.mg_of X G a27,
    F__law_ratios := F28,
    b__law_ratios := F28.binds fun _ _ _ _ _ _ us hl => match us, hl with | [_], _ => rfl,
    g__law_ratios := PySem.W.mg_of X G a28,
    F__law_lot := F29,
    b__law_lot := F29.binds fun _ _ _ _ _ _ us hl => match us, hl with | [_, _], _ => rfl,
    g__law_lot := PySem.W.mg_of X G a29,
    F__law_numbers := F30,
    b__law_numbers := F30.binds fun _ _ _ _ _ _ us hl => match us, hl with | [_, _], _ => rfl,
    g__law_numbers := PySem.W.mg_of X G a30,
    F__law_sums := F31,
    b__law_sums := F31.binds fun _ _ _ _ _ _ us hl => match us, hl with | [_, _], _ => rfl,
    g__law_sums := PySem.W.mg_of X G a31,
    F__law_products := F32,
    b__law_products := F32.binds fun _ _ _ _ _ _ us hl => match us, hl with | [_, _], _ => rfl,
    g__law_products := PySem.W.mg_of X G a32,
    F__law_mixed := F33,
    b__law_mixed := F33.binds fun _ _ _ _ _ _ us hl => match us, hl with | [_, _, _], _ => rfl,
    g__law_mixed := PySem.W.mg_of X G a33,
    F__law_word := F34,
    b__law_word := F34.binds fun _ _ _ _ _ _ us hl => match us, hl with | [_, _, _], _ => rfl,
    g__law_word := PySem.W.mg_of X G a34,
    F_law := F35,
    b_law := F35.binds fun _ _ _ _ _ _ us hl => match us, hl with | [_], _ => rfl,
    g_law := PySem.W.mg_of X G a35,
    z_isinstance := PySem.W.mg_none_of X G z_isinstance,
    z_int := PySem.W.mg_none_of X G z_int,
    z_bool := PySem.W.mg_none_of X G z_bool,
    z_abs := PySem.W.mg_none_of X G z_abs,
    z_len := PySem.W.mg_none_of X G z_len,
    z_max := PySem.W.mg_none_of X G z_max,
    z_range := PySem.W.mg_none_of X G z_range,
    z_min := PySem.W.mg_none_of X G z_min,
    z_list := PySem.W.mg_none_of X G z_list,
    z_tuple := PySem.W.mg_none_of X G z_tuple,
    z_zip := PySem.W.mg_none_of X G z_zip,
    z_sum := PySem.W.mg_none_of X G z_sum,
    g_MOST_NUMBERS := ⟨_, PySem.W.mg_of X G gc_MOST_NUMBERS⟩,
    g_gcd := PySem.W.mg_of X G j_gcd,
    g_lcm := PySem.W.mg_of X G j_lcm,
    g_comb := PySem.W.mg_of X G j_comb }
  exact ⟨PySem.W.fnOf "law" "law" (defArgs s_law) (defBody s_law) (defScope s_law) .none kV35 dc35 pm35 an35 cd35 ct35, fun s v => .of_eq rfl, fun base _ _ => ok_law (A := A) (D := D) T⟩
end Mo
open PySem PySem.W PyProof.Rows
set_option maxRecDepth 100000 in
set_option maxHeartbeats 0 in
theorem PySem.Challenge.cw_momentrows_k20_rows_of_two_lots_holds : PySem.Challenge.rw_momentrows_k20_rows_of_two_lots.Holds := by
  w_on; o_law; k_head; (case hw => w_witness2)
  k_fill
  refine L2.walk_of (l := PySem.Challenge.rw_momentrows_k20_rows_of_two_lots) (n := 63) (k := 11) (x := "_law_script") (CX := fun _ => L2.CX0) (sp := fun w => Mo.sp_law _) rfl (by decide) rfl ⟨rfl, by decide, by decide⟩ (fun w h Y => PySem.W.kIn_of Y) ?F (fun _ _ a ns hl _ hS => ⟨a, ns, rfl, hS, hl, fun _ => rfl⟩) (fun _ _ _ _ _ h => h)
  case F =>
    intro w mg fa h KX G hmg
    refine' Mo.all_mk KX G hmg ?g_Ratio ?g_NoNumber ?g_MeansError ?xL_NoNumber ?a0 ?i0 ?l0 ?c0 ?k0 ?a1 ?i1 ?l1 ?c1 ?k1 ?t1 ?a2 ?i2 ?l2 ?c2 ?k2 ?a3 ?i3 ?l3 ?c3 ?k3 ?a4 ?i4 ?l4 ?c4 ?k4 ?a5 ?i5 ?l5 ?c5 ?k5 ?a6 ?i6 ?l6 ?c6 ?k6 ?a7 ?i7 ?l7 ?c7 ?k7 ?a8 ?i8 ?l8 ?c8 ?k8 ?a9 ?i9 ?l9 ?c9 ?k9 ?a10 ?l10 ?c10 ?k10 ?a11 ?l11 ?c11 ?k11 ?a12 ?l12 ?c12 ?k12 ?a13 ?l13 ?c13 ?k13 ?a14 ?l14 ?c14 ?k14 ?a15 ?l15 ?c15 ?k15 ?a16 ?l16 ?c16 ?k16 ?a17 ?l17 ?c17 ?k17 ?a18 ?l18 ?c18 ?k18 ?a19 ?l19 ?c19 ?k19 ?a20 ?l20 ?c20 ?k20 ?a21 ?l21 ?c21 ?k21 ?a22 ?l22 ?c22 ?k22 ?a23 ?l23 ?c23 ?k23 ?a24 ?l24 ?c24 ?k24 ?a25 ?l25 ?c25 ?k25 ?a26 ?l26 ?c26 ?k26 ?a27 ?l27 ?c27 ?k27 ?a28 ?l28 ?c28 ?k28 ?a29 ?l29 ?c29 ?k29 ?a30 ?l30 ?c30 ?k30 ?a31 ?l31 ?c31 ?k31 ?a32 ?l32 ?c32 ?k32 ?a33 ?l33 ?c33 ?k33 ?a34 ?l34 ?c34 ?k34 ?a35 ?l35 ?c35 ?k35 ?pg_Ratio ?hd_Ratio ?po_Ratio ?sa_Ratio ?mk_Ratio ?kc_Ratio ?sf_Ratio ?s1_Ratio ?s2_Ratio ?cls_Ratio ?gsd_Ratio ?tks_Ratio ?mro_Ratio ?ki_Ratio ?ik_Ratio ?n_top_Ratio ?n_bottom_Ratio ?sa_NoNumber ?ga_NoNumber ?gg_NoNumber ?cls_NoNumber ?gsd_NoNumber ?tks_NoNumber ?mro_NoNumber ?kC_NoNumber ?eC_NoNumber ?tC_NoNumber ?hC_NoNumber ?sC_NoNumber ?n_NoNumber_word ?ti_NoNumber ?fa_ik_str ?fa_ik_bool ?fa_ik_NoneType ?z_isinstance ?z_int ?z_bool ?z_abs ?z_len ?z_max ?z_range ?z_min ?z_list ?z_tuple ?z_zip ?z_sum ?gc_MOST_NUMBERS ?j_gcd ?j_lcm ?j_comb
    (case g_Ratio => k_is)
    (case g_NoNumber => k_is)
    (case g_MeansError => k_is)
    (case xL_NoNumber => k_is)
    (case a0 => k_is)
    (case i0 => k_is)
    (case l0 => k_is)
    (case c0 => k_is)
    (case k0 => k_is)
    (case a1 => k_is)
    (case i1 => k_is)
    (case l1 => k_is)
    (case c1 => k_is)
    (case k1 => k_is)
    (case t1 => k_is)
    (case a2 => k_is)
    (case i2 => k_is)
    (case l2 => k_is)
    (case c2 => k_is)
    (case k2 => k_is)
    (case a3 => k_is)
    (case i3 => k_is)
    (case l3 => k_is)
    (case c3 => k_is)
    (case k3 => k_is)
    (case a4 => k_is)
    (case i4 => k_is)
    (case l4 => k_is)
    (case c4 => k_is)
    (case k4 => k_is)
    (case a5 => k_is)
    (case i5 => k_is)
    (case l5 => k_is)
    (case c5 => k_is)
    (case k5 => k_is)
    (case a6 => k_is)
    (case i6 => k_is)
    (case l6 => k_is)
    (case c6 => k_is)
    (case k6 => k_is)
    (case a7 => k_is)
    (case i7 => k_is)
    (case l7 => k_is)
    (case c7 => k_is)
    (case k7 => k_is)
    (case a8 => k_is)
    (case i8 => k_is)
    (case l8 => k_is)
    (case c8 => k_is)
    (case k8 => k_is)
    (case a9 => k_is)
    (case i9 => k_is)
    (case l9 => k_is)
    (case c9 => k_is)
    (case k9 => k_is)
    (case a10 => k_is)
    (case l10 => k_is)
    (case c10 => k_is)
    (case k10 => k_is)
    (case a11 => k_is)
    (case l11 => k_is)
    (case c11 => k_is)
    (case k11 => k_is)
    (case a12 => k_is)
    (case l12 => k_is)
    (case c12 => k_is)
    (case k12 => k_is)
    (case a13 => k_is)
    (case l13 => k_is)
    (case c13 => k_is)
    (case k13 => k_is)
    (case a14 => k_is)
    (case l14 => k_is)
    (case c14 => k_is)
    (case k14 => k_is)
    (case a15 => k_is)
    (case l15 => k_is)
    (case c15 => k_is)
    (case k15 => k_is)
    (case a16 => k_is)
    (case l16 => k_is)
    (case c16 => k_is)
    (case k16 => k_is)
    (case a17 => k_is)
    (case l17 => k_is)
    (case c17 => k_is)
    (case k17 => k_is)
    (case a18 => k_is)
    (case l18 => k_is)
    (case c18 => k_is)
    (case k18 => k_is)
    (case a19 => k_is)
    (case l19 => k_is)
    (case c19 => k_is)
    (case k19 => k_is)
    (case a20 => k_is)
    (case l20 => k_is)
    (case c20 => k_is)
    (case k20 => k_is)
    (case a21 => k_is)
    (case l21 => k_is)
    (case c21 => k_is)
    (case k21 => k_is)
    (case a22 => k_is)
    (case l22 => k_is)
    (case c22 => k_is)
    (case k22 => k_is)
    (case a23 => k_is)
    (case l23 => k_is)
    (case c23 => k_is)
    (case k23 => k_is)
    (case a24 => k_is)
    (case l24 => k_is)
    (case c24 => k_is)
    (case k24 => k_is)
    (case a25 => k_is)
    (case l25 => k_is)
    (case c25 => k_is)
    (case k25 => k_is)
    (case a26 => k_is)
    (case l26 => k_is)
    (case c26 => k_is)
    (case k26 => k_is)
    (case a27 => k_is)
    (case l27 => k_is)
    (case c27 => k_is)
    (case k27 => k_is)
    (case a28 => k_is)
    (case l28 => k_is)
    (case c28 => k_is)
    (case k28 => k_is)
    (case a29 => k_is)
    (case l29 => k_is)
    (case c29 => k_is)
    (case k29 => k_is)
    (case a30 => k_is)
    (case l30 => k_is)
    (case c30 => k_is)
    (case k30 => k_is)
    (case a31 => k_is)
    (case l31 => k_is)
    (case c31 => k_is)
    (case k31 => k_is)
    (case a32 => k_is)
    (case l32 => k_is)
    (case c32 => k_is)
    (case k32 => k_is)
    (case a33 => k_is)
    (case l33 => k_is)
    (case c33 => k_is)
    (case k33 => k_is)
    (case a34 => k_is)
    (case l34 => k_is)
    (case c34 => k_is)
    (case k34 => k_is)
    (case a35 => k_is)
    (case l35 => k_is)
    (case c35 => k_is)
    (case k35 => k_is)
    (case pg_Ratio => k_is)
    (case hd_Ratio => k_is)
    (case po_Ratio => k_is)
    (case sa_Ratio => k_is)
    (case mk_Ratio => k_is)
    (case kc_Ratio => k_is)
    (case sf_Ratio => k_is)
    (case s1_Ratio => k_is)
    (case s2_Ratio => k_is)
    (case cls_Ratio => k_is)
    (case gsd_Ratio => k_is)
    (case tks_Ratio => k_is)
    (case mro_Ratio => k_is)
    (case ki_Ratio => first | kit_is | k_is)
    (case ik_Ratio => first | kit_is | k_is)
    (case n_top_Ratio => k_is)
    (case n_bottom_Ratio => k_is)
    (case sa_NoNumber => k_is)
    (case ga_NoNumber => k_is)
    (case gg_NoNumber => k_is)
    (case cls_NoNumber => k_is)
    (case gsd_NoNumber => k_is)
    (case tks_NoNumber => k_is)
    (case mro_NoNumber => k_is)
    (case kC_NoNumber => k_is)
    (case eC_NoNumber => k_is)
    (case tC_NoNumber => k_is)
    (case hC_NoNumber => k_is)
    (case sC_NoNumber => first | rfl | k_is)
    (case n_NoNumber_word => k_is)
    (case ti_NoNumber => k_is)
    (case fa_ik_str => first | kit_is | k_is)
    (case fa_ik_bool => first | kit_is | k_is)
    (case fa_ik_NoneType => first | kit_is | k_is)
    (case z_isinstance => k_is)
    (case z_int => k_is)
    (case z_bool => k_is)
    (case z_abs => k_is)
    (case z_len => k_is)
    (case z_max => k_is)
    (case z_range => k_is)
    (case z_min => k_is)
    (case z_list => k_is)
    (case z_tuple => k_is)
    (case z_zip => k_is)
    (case z_sum => k_is)
    (case gc_MOST_NUMBERS => k_is)
    (case j_gcd => k_is)
    (case j_lcm => k_is)
    (case j_comb => k_is)

