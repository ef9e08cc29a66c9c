import PyProof.Rows.All
import Wide.All
import OpenK.AllK
import Wide.FinOn
import HandS.Comp
import HandS.Words
import HandS.WordsList
import HandS.Exc
import HandS.Wide
import HandS.IsInst
import HandS.OwnEq
import HandS.Gcd
import HandS.Style
import HandS.Defaults
import HandS.Codes
import HandS.WordsExc
import HandS.ExcInit
import HandS.ExcOwn
import HandS.ExcField
import HandS.ExcIs
import HandS.MakeKw
import HandS.MakeKwOnly
import KE.KExcIs
import PySem.Challenge.RW_momentrows_k01_ratio_is_in_lowest_terms
set_option Elab.async false
set_option linter.all false
set_option maxRecDepth 100000
set_option maxHeartbeats 4000000
/-! # Operators of own classes, on either side of an int (my own layer over HandS) -/
namespace MoW
open PySem PySem.W
section
variable {prog : Program} {w : World} {A : Around} {E : Value → Shared → Prop} {s : Shared}
theorem int_eq_no (i : Int) (t : Tok) (l C dx : Addr) :
    Meets (Builtin.«int.__eq__» ⟨[.int i t, .ref l], []⟩) (fun _ R s => s.heap.get? l = some (PySem.W.instObj C dx) ∧ R (.ok (.ret .notImplemented)) s) :=
  .of_wp fun prog w A R s h => by obtain ⟨hp, g, d, tk, os⟩ := s; obtain ⟨hl, h⟩ := h; unfold PySem.W.instObj at hl; wp_walk using wpAny_loadPart' hl, wpAny_load hl; exact ⟨_, rfl, h⟩
theorem int_ne_no (i : Int) (t : Tok) (l C dx : Addr) :
    Meets (Builtin.«int.__ne__» ⟨[.int i t, .ref l], []⟩) (fun _ R s => s.heap.get? l = some (PySem.W.instObj C dx) ∧ R (.ok (.ret .notImplemented)) s) :=
  .of_wp fun prog w A R s h => by obtain ⟨hp, g, d, tk, os⟩ := s; obtain ⟨hl, h⟩ := h; unfold PySem.W.instObj at hl; wp_walk using wpAny_loadPart' hl, wpAny_load hl; exact ⟨_, rfl, h⟩
theorem int_lt_no (i : Int) (t : Tok) (l C dx : Addr) :
    Meets (Builtin.«int.__lt__» ⟨[.int i t, .ref l], []⟩) (fun _ R s => s.heap.get? l = some (PySem.W.instObj C dx) ∧ R (.ok (.ret .notImplemented)) s) :=
  .of_wp fun prog w A R s h => by obtain ⟨hp, g, d, tk, os⟩ := s; obtain ⟨hl, h⟩ := h; unfold PySem.W.instObj at hl; wp_walk using wpAny_loadPart' hl, wpAny_load hl; exact ⟨_, rfl, h⟩
theorem int_le_no (i : Int) (t : Tok) (l C dx : Addr) :
    Meets (Builtin.«int.__le__» ⟨[.int i t, .ref l], []⟩) (fun _ R s => s.heap.get? l = some (PySem.W.instObj C dx) ∧ R (.ok (.ret .notImplemented)) s) :=
  .of_wp fun prog w A R s h => by obtain ⟨hp, g, d, tk, os⟩ := s; obtain ⟨hl, h⟩ := h; unfold PySem.W.instObj at hl; wp_walk using wpAny_loadPart' hl, wpAny_load hl; exact ⟨_, rfl, h⟩
theorem int_gt_no (i : Int) (t : Tok) (l C dx : Addr) :
    Meets (Builtin.«int.__gt__» ⟨[.int i t, .ref l], []⟩) (fun _ R s => s.heap.get? l = some (PySem.W.instObj C dx) ∧ R (.ok (.ret .notImplemented)) s) :=
  .of_wp fun prog w A R s h => by obtain ⟨hp, g, d, tk, os⟩ := s; obtain ⟨hl, h⟩ := h; unfold PySem.W.instObj at hl; wp_walk using wpAny_loadPart' hl, wpAny_load hl; exact ⟨_, rfl, h⟩
theorem int_ge_no (i : Int) (t : Tok) (l C dx : Addr) :
    Meets (Builtin.«int.__ge__» ⟨[.int i t, .ref l], []⟩) (fun _ R s => s.heap.get? l = some (PySem.W.instObj C dx) ∧ R (.ok (.ret .notImplemented)) s) :=
  .of_wp fun prog w A R s h => by obtain ⟨hp, g, d, tk, os⟩ := s; obtain ⟨hl, h⟩ := h; unfold PySem.W.instObj at hl; wp_walk using wpAny_loadPart' hl, wpAny_load hl; exact ⟨_, rfl, h⟩
theorem int_add_no (i : Int) (t : Tok) (l C dx : Addr) :
    Meets (Builtin.«int.__add__» ⟨[.int i t, .ref l], []⟩) (fun _ R s => s.heap.get? l = some (PySem.W.instObj C dx) ∧ R (.ok (.ret .notImplemented)) s) :=
  .of_wp fun prog w A R s h => by obtain ⟨hp, g, d, tk, os⟩ := s; obtain ⟨hl, h⟩ := h; unfold PySem.W.instObj at hl; wp_walk using wpAny_loadPart' hl, wpAny_load hl; exact ⟨_, rfl, h⟩
theorem int_sub_no (i : Int) (t : Tok) (l C dx : Addr) :
    Meets (Builtin.«int.__sub__» ⟨[.int i t, .ref l], []⟩) (fun _ R s => s.heap.get? l = some (PySem.W.instObj C dx) ∧ R (.ok (.ret .notImplemented)) s) :=
  .of_wp fun prog w A R s h => by obtain ⟨hp, g, d, tk, os⟩ := s; obtain ⟨hl, h⟩ := h; unfold PySem.W.instObj at hl; wp_walk using wpAny_loadPart' hl, wpAny_load hl; exact ⟨_, rfl, h⟩
theorem int_mul_no (i : Int) (t : Tok) (l C dx : Addr) :
    Meets (Builtin.«int.__mul__» ⟨[.int i t, .ref l], []⟩) (fun _ R s => s.heap.get? l = some (PySem.W.instObj C dx) ∧ R (.ok (.ret .notImplemented)) s) :=
  .of_wp fun prog w A R s h => by obtain ⟨hp, g, d, tk, os⟩ := s; obtain ⟨hl, h⟩ := h; unfold PySem.W.instObj at hl; wp_walk using wpAny_loadPart' hl, wpAny_load hl; exact ⟨_, rfl, h⟩
theorem int_mod_no (i : Int) (t : Tok) (l C dx : Addr) :
    Meets (Builtin.«int.__mod__» ⟨[.int i t, .ref l], []⟩) (fun _ R s => s.heap.get? l = some (PySem.W.instObj C dx) ∧ R (.ok (.ret .notImplemented)) s) :=
  .of_wp fun prog w A R s h => by obtain ⟨hp, g, d, tk, os⟩ := s; obtain ⟨hl, h⟩ := h; unfold PySem.W.instObj at hl; wp_walk using wpAny_loadPart' hl, wpAny_load hl; exact ⟨_, rfl, h⟩
end
end MoW

namespace MoW
open PySem PySem.W PyProof.Rows
section
variable {prog : Program} {w : World} {A : Around} {E : Value → Shared → Prop} {s : Shared} {K : Frag} {x C L f : Addr} {h₀ : Heap} {m : Str → Option Value} {dx : Addr} {od : Option Obj} {i : Int} {t : Tok}

theorem looks_int {M : Model} {h : Heap} : Looks M h (typeOf (.int i t)) (.type "int") := Looks.of_pure rfl

/-- an int compared with an instance: int says it can't, the instance's own mirrored method answers -/
theorem cmp_int_own {op : CmpOp} {id : String} {Q : Value → Shared → Prop} (hu : A.units < cLine) (F : Fr h₀ L s.heap m) (X₀ : K.In h₀) (I : InstAt s.heap x (instObj C dx) C od)
    (hn : subIn K (.ref C) (.type "int") = some false) (h1 : Slot "int" (cmpInfo op).2.1 id)
    (hno : ∀ Q' : Value → Shared → Prop, Q' .notImplemented s → wpAny (model prog w) A (call (.builtin id) [.int i t, .ref x]) Q' E s)
    (hs : findIn K (.ref C) (cmpInfo op).2.2 = some (some (.ref f))) (hf : isFn K (.ref f) = true)
    (h : wpAny (model prog w) A (call (.ref f) [.ref x, .int i t]) (W.CmpBack Q) E s) : wpAny (model prog w) A (richCompare op (.int i t) (.ref x)) Q E s := by
  have X := X₀.keeps F.keep
  have one : wpAny (model prog w) A (tryCompare (.ref x) (cmpInfo op).2.2 (.int i t)) (fun r s' => ∃ v, r = some v ∧ Q v s') E s := by
    unfold tryCompare
    refine wpAny_bind (ifBound_K X I hs hf (wpAny_mono h (fun v s' hv => ?_) fun _ _ e => e))
    cases v <;> first | exact hv.elim | exact wpAny_pure ⟨_, rfl, hv⟩
  unfold richCompare
  simp only [(typeIs_int s i t).oneThing_none]
  refine wpAny_holding (wpAny_bind (wpAny_cRoomFor hu ?_))
  refine wpAny_bind (wpAny_typeOf (typeIs_int s i t) (wpAny_bind (I.type.here ?_)))
  have hne : (Value.type "int" != Value.ref C) = true := rfl
  simp only [hne, if_true]
  refine wpAny_bind ((looks_subIn X hn).here ?_)
  simp only [Bool.false_eq_true, if_false, Bool.not_false, if_true]
  refine wpAny_bind (m := tryCompare (.int i t) _ (.ref x)) (wpAny_tryCompare_declines (typeIs_int s i t) h1 (hno _ ⟨rfl, ?_⟩))
  refine wpAny_bind (m := tryCompare (.ref x) _ (.int i t)) (wpAny_mono one (fun r s' z => ?_) fun _ _ e => e)
  obtain ⟨v, rfl, hq⟩ := z
  exact wpAny_pure hq

theorem mro_first {cd : ClassData} (hc : selfFirst K C = true) : ∃ cd rest, clsIn K C = some cd ∧ cd.mro = .ref C :: rest := by
  obtain ⟨cd, hcd, hm⟩ := any_some hc
  refine ⟨cd, ?_⟩
  cases q : cd.mro with
  | nil => rw [q] at hm; cases hm
  | cons a r => rw [q] at hm; exact ⟨r, hcd, by rw [List.head?_cons] at hm; cases (beq_iff_eq.mp hm); rfl⟩

/-- an int beside an instance: int says it can't, the instance's own reflected method answers -/
theorem bin_int_own {op : Operator} {id : String} {g : Addr} {Q : Value → Shared → Prop} (F : Fr h₀ L s.heap m) (X₀ : K.In h₀) (I : InstAt s.heap x (instObj C dx) C od)
    (hc : selfFirst K C = true) (hn : subIn K (.ref C) (.type "int") = some false) (h1 : Slot "int" (PySem.dunder op.info.2) id) (hfi : fillsNumberSlot (.type "int") op.info.2 = pure true)
    (hno : ∀ Q' : Value → Shared → Prop, Q' .notImplemented s → wpAny (model prog w) A (call (.builtin id) [.int i t, .ref x]) Q' E s)
    (hd : findIn K (.ref C) (PySem.dunder op.info.2) = some (some (.ref g)))
    (hs : findIn K (.ref C) (dunderR op.info.2) = some (some (.ref f))) (hf : isFn K (.ref f) = true)
    (h : wpAny (model prog w) A (call (.ref f) [.ref x, .int i t]) (W.CmpBack Q) E s) : wpAny (model prog w) A (binaryOp op (.int i t) (.ref x)) Q E s := by
  have X := X₀.keeps F.keep
  obtain ⟨cd, rest, hcd, hm⟩ := mro_first (K := K) (C := C) (cd := default) hc
  unfold binaryOp
  refine wpAny_holding (wpAny_bind ?_)
  unfold binaryOp1
  refine wpAny_bind (wpAny_typeOf (typeIs_int s i t) (wpAny_bind (I.type.here (wpAny_bind (wpAny_of_eq hfi ?_)))))
  have hne : (Value.type "int" == Value.ref C) = false := rfl
  simp only [hne, Bool.false_eq_true, if_false]
  refine wpAny_bind ((fills_K X hcd hm hd).here ?_)
  simp only [Bool.and_self, if_true]
  refine wpAny_bind ((looks_subIn X hn).here ?_)
  have hpy : numberSlotInPython (.type "int") op.info.2 = pure false := rfl
  simp only [Bool.false_eq_true, if_false, pure_bind, Bool.not_false, Bool.and_self, if_true, hpy]
  refine wpAny_bind (m := tryMethod (.int i t) _ (.ref x)) (wpAny_tryMethod_declines (typeIs_int s i t) h1 (hno _ ⟨rfl, ?_⟩))
  refine wpAny_bind (m := tryMethod (.ref x) _ (.int i t)) ?_
  unfold tryMethod
  refine wpAny_bind (special_fn X I hs (beq_iff_eq.mp hf) (wpAny_mono h (fun v s' hv => ?_) fun _ _ e => e))
  cases v <;> first | exact hv.elim | exact wpAny_pure (wpAny_bind (wpAny_rule (wpAny_pure (wpAny_pure hv))))

/-- an instance beside an int: its own method answers -/
theorem bin_own_int {op : Operator} {id : String} {g : Addr} {Q : Value → Shared → Prop} (F : Fr h₀ L s.heap m) (X₀ : K.In h₀) (I : InstAt s.heap x (instObj C dx) C od)
    (hc : selfFirst K C = true) (hn : subIn K (.type "int") (.ref C) = some false) (h1 : Slot "int" (dunderR op.info.2) id) (hfi : fillsNumberSlot (.type "int") op.info.2 = pure true)
    (hs : findIn K (.ref C) (PySem.dunder op.info.2) = some (some (.ref f))) (hf : isFn K (.ref f) = true)
    (hd : findIn K (.ref C) (dunderR op.info.2) = some (some (.ref g)))
    (h : wpAny (model prog w) A (call (.ref f) [.ref x, .int i t]) (W.CmpBack Q) E s) : wpAny (model prog w) A (binaryOp op (.ref x) (.int i t)) Q E s := by
  have X := X₀.keeps F.keep
  obtain ⟨cd, rest, hcd, hm⟩ := mro_first (K := K) (C := C) (cd := default) hc
  unfold binaryOp
  refine wpAny_holding (wpAny_bind ?_)
  unfold binaryOp1
  refine wpAny_bind (I.type.here (wpAny_bind (wpAny_typeOf (typeIs_int s i t) (wpAny_bind ((fills_K X hcd hm hs).here ?_)))))
  have hne : (Value.ref C == Value.type "int") = false := rfl
  simp only [hne, Bool.false_eq_true, if_false]
  refine wpAny_bind (wpAny_of_eq hfi ?_)
  simp only [Bool.and_self, if_true]
  refine wpAny_bind ((looks_subIn X hn).here ?_)
  have hpy : Looks (model prog w) s.heap (numberSlotInPython (.ref C) op.info.2) true := by
    unfold numberSlotInPython
    refine (looks_findIn X hs).andThen ?_
    refine Looks.andThen (a := true) .now ?_
    refine (looks_findIn X hd).andThen ?_
    refine Looks.andThen (a := true) .now ?_
    exact .now
  have hpi : numberSlotInPython (.type "int") op.info.2 = pure false := rfl
  simp only [Bool.false_eq_true, if_false, pure_bind, Bool.not_false, Bool.and_self, if_true]
  refine wpAny_bind (hpy.here ?_)
  simp only [if_true]
  refine wpAny_bind (wpAny_of_eq hpi ?_)
  simp only [Bool.not_false, if_true]
  refine wpAny_bind (wpAny_of_eq h1.lookup ?_)
  refine wpAny_bind (m := tryMethod (.ref x) _ (.int i t)) ?_
  unfold tryMethod
  refine wpAny_bind (special_fn X I hs (beq_iff_eq.mp hf) (wpAny_mono h (fun v s' hv => ?_) fun _ _ e => e))
  cases v <;> first | exact hv.elim | exact wpAny_pure (wpAny_pure (wpAny_pure hv))
end
end MoW

namespace MoL
open PySem PySem.Spec PyProof.Rows L2 MoW

/-- an instance of the class at C -/
def Ins (H : Hp) (v : V) (C : Addr) : Prop := ∃ a dx fs, v = .ref a ∧ H a = some (.ins C dx fs)
/-- what the written part says of a class with operators -/
structure OwnC (K : PySem.W.Frag) (C : Addr) : Prop where
  first : PySem.W.selfFirst K C = true
  ci : PySem.W.subIn K (.ref C) (.type "int") = some false
  ic : PySem.W.subIn K (.type "int") (.ref C) = some false

section
variable {X : Cx} {pins : List (Addr × Obj)} {σ : L2.St} {H : Hp} {s : Shared}
theorem ep_back {Q : VK} {u : Value} {s' : Shared} (h : EP X pins σ Q u s') : PySem.W.CmpBack (EP X pins σ Q) u s' := by
  cases u with
  | notImplemented =>
    obtain ⟨v, H', I, r, q⟩ := h
    exfalso
    cases v <;> first | exact nomatch r | (obtain ⟨_, e⟩ := r; exact nomatch e)
  | _ => exact h
theorem ins_at {a C dx : Addr} {fs : List (Str × V)} (I : Inv X pins σ H s) (ha : H a = some (.ins C dx fs)) : ∃ od, PySem.W.InstAt s.heap a (PySem.W.instObj C dx) C od := by
  obtain ⟨mA, J, _⟩ := ins_get I.hok ha
  obtain ⟨od, J, _⟩ := J.look
  exact ⟨_, J⟩
theorem ins_obj {a C dx : Addr} {fs : List (Str × V)} (I : Inv X pins σ H s) (ha : H a = some (.ins C dx fs)) : s.heap.get? a = some (PySem.W.instObj C dx) := by
  obtain ⟨mA, J, _⟩ := ins_get I.hok ha
  exact J.obj
end

section
variable {X : Cx} {CX : CXT} {k : Nat} {C f g : Addr} {fd : FuncData} {ps : List Str} {sp : Sp} {E : XK}
/-- x op y, x an instance, y another one or an int: x's own method answers -/
def rOwn (C : Addr) (sp : Sp) (E : XK) : R2 := fun x y H Q => Ins H x C ∧ ((∃ i, y = .int i) ∨ Ins H y C) ∧ sp [x, y] H Q E
/-- i op y, y an instance: y's own mirrored method answers -/
def rOwnR (C : Addr) (sp : Sp) (E : XK) : R2 := fun x y H Q => (∃ i, x = .int i) ∧ Ins H y C ∧ sp [y, x] H Q E

theorem op_cmp_own {op : CmpOp} (hop : ∀ v u, compareOp op v u = richCompare op v u) (c : OwnC X.K C) (m : Meth X.K C (cmpInfo op).2.1 f) (F : FnOk X.prog X.w X.K X.mg X.base CX k f fd ps sp)
    (hr : Room k X.A) (hb : Binds X.K fd ps []) (hx : Passes CX X E) : OpR X (compareOp op) (rOwn C sp E) := by
  intro pins s σ H x y v u Q I rx ry h
  obtain ⟨⟨a, dx, fs, rfl, ha⟩, hy, hs⟩ := h
  cases (show v = Value.ref a from rx)
  obtain ⟨od, J⟩ := ins_at I ha
  obtain ⟨mm, hF⟩ := I.fr
  rw [hop]
  have hrun : wpAny (model X.prog X.w) X.A (call (.ref f) [.ref a, u]) (PySem.W.CmpBack (EP X pins σ Q)) X.xe s :=
    thn (run_fn (us := [.ref a, u]) (vs := [.ref a, y]) F hr hb .nil hx I (.cons rfl (.cons ry .nil)) hs) fun v s' q => ep_back q
  rcases hy with ⟨i, rfl⟩ | ⟨b, dy, gs, rfl, hb'⟩
  · obtain ⟨t, rfl⟩ := (show ∃ t, u = Value.int i t from ry)
    exact PySem.W.cmp_K (op := op) (tb := .type "int") hr.units0 hF I.ok.mod.kin J looks_int (by unfold PySem.W.notFirst; rw [c.ic]; rfl) m.at_ m.fn hrun
  · cases (show u = Value.ref b from ry)
    obtain ⟨od', J'⟩ := ins_at I hb'
    exact PySem.W.cmp_K (op := op) (tb := .ref C) hr.units0 hF I.ok.mod.kin J J'.type (by simp [PySem.W.notFirst]) m.at_ m.fn hrun

theorem op_cmp_int {op : CmpOp} {id : String} (hop : ∀ v u, compareOp op v u = richCompare op v u) (h1 : Slot "int" (cmpInfo op).2.1 id)
    (hno : ∀ (s : Shared) (i : Int) (t : Tok) (b dy : Addr) (Q' E' : Value → Shared → Prop), s.heap.get? b = some (PySem.W.instObj C dy) → Q' .notImplemented s → wpAny (model X.prog X.w) X.A (call (.builtin id) [.int i t, .ref b]) Q' E' s)
    (c : OwnC X.K C) (m : Meth X.K C (cmpInfo op).2.2 f) (F : FnOk X.prog X.w X.K X.mg X.base CX k f fd ps sp)
    (hr : Room k X.A) (hb : Binds X.K fd ps []) (hx : Passes CX X E) : OpR X (compareOp op) (rOwnR C sp E) := by
  intro pins s σ H x y v u Q I rx ry h
  obtain ⟨⟨i, rfl⟩, ⟨b, dy, gs, rfl, hb'⟩, hs⟩ := h
  obtain ⟨t, rfl⟩ := (show ∃ t, v = Value.int i t from rx)
  cases (show u = Value.ref b from ry)
  obtain ⟨od, J⟩ := ins_at I hb'
  obtain ⟨mm, hF⟩ := I.fr
  rw [hop]
  exact cmp_int_own (op := op) hr.units0 hF I.ok.mod.kin J c.ci h1 (fun Q' q => hno s i t b dy Q' _ (ins_obj I hb') q) m.at_ m.fn
    (thn (run_fn (us := [.ref b, .int i t]) (vs := [.ref b, .int i]) F hr hb .nil hx I (.cons rfl (.cons ⟨t, rfl⟩ .nil)) hs) fun v s' q => ep_back q)

theorem op_bin_own {op : Operator} {id : String} (h1 : Slot "int" (dunderR op.info.2) id) (hfi : fillsNumberSlot (.type "int") op.info.2 = pure true) (c : OwnC X.K C)
    (m : Meth X.K C (PySem.dunder op.info.2) f) (mr : Meth X.K C (dunderR op.info.2) g) (F : FnOk X.prog X.w X.K X.mg X.base CX k f fd ps sp)
    (hr : Room k X.A) (hb : Binds X.K fd ps []) (hx : Passes CX X E) : OpR X (binaryOp op) (rOwn C sp E) := by
  intro pins s σ H x y v u Q I rx ry h
  obtain ⟨⟨a, dx, fs, rfl, ha⟩, hy, hs⟩ := h
  cases (show v = Value.ref a from rx)
  obtain ⟨od, J⟩ := ins_at I ha
  obtain ⟨mm, hF⟩ := I.fr
  have hrun : wpAny (model X.prog X.w) X.A (call (.ref f) [.ref a, u]) (PySem.W.CmpBack (EP X pins σ Q)) X.xe s :=
    thn (run_fn (us := [.ref a, u]) (vs := [.ref a, y]) F hr hb .nil hx I (.cons rfl (.cons ry .nil)) hs) fun v s' q => ep_back q
  rcases hy with ⟨i, rfl⟩ | ⟨b, dy, gs, rfl, hb'⟩
  · obtain ⟨t, rfl⟩ := (show ∃ t, u = Value.int i t from ry)
    exact bin_own_int (op := op) hF I.ok.mod.kin J c.first c.ic h1 hfi m.at_ m.fn mr.at_ hrun
  · cases (show u = Value.ref b from ry)
    obtain ⟨od', J'⟩ := ins_at I hb'
    exact PySem.W.binop_K (op := op) hF I.ok.mod.kin J J'.type c.first m.at_ m.fn hrun

theorem op_bin_int {op : Operator} {id : String} (h1 : Slot "int" (PySem.dunder op.info.2) id) (hfi : fillsNumberSlot (.type "int") op.info.2 = pure true)
    (hno : ∀ (s : Shared) (i : Int) (t : Tok) (b dy : Addr) (Q' E' : Value → Shared → Prop), s.heap.get? b = some (PySem.W.instObj C dy) → Q' .notImplemented s → wpAny (model X.prog X.w) X.A (call (.builtin id) [.int i t, .ref b]) Q' E' s)
    (c : OwnC X.K C) (m : Meth X.K C (dunderR op.info.2) f) (ml : Meth X.K C (PySem.dunder op.info.2) g) (F : FnOk X.prog X.w X.K X.mg X.base CX k f fd ps sp)
    (hr : Room k X.A) (hb : Binds X.K fd ps []) (hx : Passes CX X E) : OpR X (binaryOp op) (rOwnR C sp E) := by
  intro pins s σ H x y v u Q I rx ry h
  obtain ⟨⟨i, rfl⟩, ⟨b, dy, gs, rfl, hb'⟩, hs⟩ := h
  obtain ⟨t, rfl⟩ := (show ∃ t, v = Value.int i t from rx)
  cases (show u = Value.ref b from ry)
  obtain ⟨od, J⟩ := ins_at I hb'
  obtain ⟨mm, hF⟩ := I.fr
  exact bin_int_own (op := op) hF I.ok.mod.kin J c.first c.ci h1 hfi (fun Q' q => hno s i t b dy Q' _ (ins_obj I hb') q) ml.at_ m.at_ m.fn
    (thn (run_fn (us := [.ref b, .int i t]) (vs := [.ref b, .int i]) F hr hb .nil hx I (.cons rfl (.cons ⟨t, rfl⟩ .nil)) hs) fun v s' q => ep_back q)

theorem op_eq_own (c : OwnC X.K C) (m : Meth X.K C "__eq__" f) (F : FnOk X.prog X.w X.K X.mg X.base CX k f fd ps sp)
    (hr : Room k X.A) (hb : Binds X.K fd ps []) (hx : Passes CX X E) : OpR X (compareOp .Eq) (rOwn C sp E) := op_cmp_own (op := .Eq) (fun _ _ => rfl) c m F hr hb hx
theorem op_eq_int (c : OwnC X.K C) (m : Meth X.K C "__eq__" f) (F : FnOk X.prog X.w X.K X.mg X.base CX k f fd ps sp)
    (hr : Room k X.A) (hb : Binds X.K fd ps []) (hx : Passes CX X E) : OpR X (compareOp .Eq) (rOwnR C sp E) := op_cmp_int (op := .Eq) (fun _ _ => rfl) PySem.F.slot_int_eq
  (fun s i t b dy Q' E' hb' q => call_meets PySem.F.slot_int_eq (typeIs_int s i t) PySem.F.entry_int_eq (PySem.F.args_int_eq_2 _ _) (int_eq_no i t b C dy) ⟨hb', q⟩) c m F hr hb hx

theorem op_ne_own (c : OwnC X.K C) (m : Meth X.K C "__ne__" f) (F : FnOk X.prog X.w X.K X.mg X.base CX k f fd ps sp)
    (hr : Room k X.A) (hb : Binds X.K fd ps []) (hx : Passes CX X E) : OpR X (compareOp .NotEq) (rOwn C sp E) := op_cmp_own (op := .NotEq) (fun _ _ => rfl) c m F hr hb hx
theorem op_ne_int (c : OwnC X.K C) (m : Meth X.K C "__ne__" f) (F : FnOk X.prog X.w X.K X.mg X.base CX k f fd ps sp)
    (hr : Room k X.A) (hb : Binds X.K fd ps []) (hx : Passes CX X E) : OpR X (compareOp .NotEq) (rOwnR C sp E) := op_cmp_int (op := .NotEq) (fun _ _ => rfl) PySem.F.slot_int_ne
  (fun s i t b dy Q' E' hb' q => call_meets PySem.F.slot_int_ne (typeIs_int s i t) PySem.F.entry_int_ne (PySem.F.args_int_ne_2 _ _) (int_ne_no i t b C dy) ⟨hb', q⟩) c m F hr hb hx

theorem op_lt_own (c : OwnC X.K C) (m : Meth X.K C "__lt__" f) (F : FnOk X.prog X.w X.K X.mg X.base CX k f fd ps sp)
    (hr : Room k X.A) (hb : Binds X.K fd ps []) (hx : Passes CX X E) : OpR X (compareOp .Lt) (rOwn C sp E) := op_cmp_own (op := .Lt) (fun _ _ => rfl) c m F hr hb hx
theorem op_lt_int (c : OwnC X.K C) (m : Meth X.K C "__gt__" f) (F : FnOk X.prog X.w X.K X.mg X.base CX k f fd ps sp)
    (hr : Room k X.A) (hb : Binds X.K fd ps []) (hx : Passes CX X E) : OpR X (compareOp .Lt) (rOwnR C sp E) := op_cmp_int (op := .Lt) (fun _ _ => rfl) PySem.F.slot_int_lt
  (fun s i t b dy Q' E' hb' q => call_meets PySem.F.slot_int_lt (typeIs_int s i t) PySem.F.entry_int_lt (PySem.F.args_int_lt_2 _ _) (int_lt_no i t b C dy) ⟨hb', q⟩) c m F hr hb hx

theorem op_le_own (c : OwnC X.K C) (m : Meth X.K C "__le__" f) (F : FnOk X.prog X.w X.K X.mg X.base CX k f fd ps sp)
    (hr : Room k X.A) (hb : Binds X.K fd ps []) (hx : Passes CX X E) : OpR X (compareOp .LtE) (rOwn C sp E) := op_cmp_own (op := .LtE) (fun _ _ => rfl) c m F hr hb hx
theorem op_le_int (c : OwnC X.K C) (m : Meth X.K C "__ge__" f) (F : FnOk X.prog X.w X.K X.mg X.base CX k f fd ps sp)
    (hr : Room k X.A) (hb : Binds X.K fd ps []) (hx : Passes CX X E) : OpR X (compareOp .LtE) (rOwnR C sp E) := op_cmp_int (op := .LtE) (fun _ _ => rfl) PySem.F.slot_int_le
  (fun s i t b dy Q' E' hb' q => call_meets PySem.F.slot_int_le (typeIs_int s i t) PySem.F.entry_int_le (PySem.F.args_int_le_2 _ _) (int_le_no i t b C dy) ⟨hb', q⟩) c m F hr hb hx

theorem op_gt_own (c : OwnC X.K C) (m : Meth X.K C "__gt__" f) (F : FnOk X.prog X.w X.K X.mg X.base CX k f fd ps sp)
    (hr : Room k X.A) (hb : Binds X.K fd ps []) (hx : Passes CX X E) : OpR X (compareOp .Gt) (rOwn C sp E) := op_cmp_own (op := .Gt) (fun _ _ => rfl) c m F hr hb hx
theorem op_gt_int (c : OwnC X.K C) (m : Meth X.K C "__lt__" f) (F : FnOk X.prog X.w X.K X.mg X.base CX k f fd ps sp)
    (hr : Room k X.A) (hb : Binds X.K fd ps []) (hx : Passes CX X E) : OpR X (compareOp .Gt) (rOwnR C sp E) := op_cmp_int (op := .Gt) (fun _ _ => rfl) PySem.F.slot_int_gt
  (fun s i t b dy Q' E' hb' q => call_meets PySem.F.slot_int_gt (typeIs_int s i t) PySem.F.entry_int_gt (PySem.F.args_int_gt_2 _ _) (int_gt_no i t b C dy) ⟨hb', q⟩) c m F hr hb hx

theorem op_ge_own (c : OwnC X.K C) (m : Meth X.K C "__ge__" f) (F : FnOk X.prog X.w X.K X.mg X.base CX k f fd ps sp)
    (hr : Room k X.A) (hb : Binds X.K fd ps []) (hx : Passes CX X E) : OpR X (compareOp .GtE) (rOwn C sp E) := op_cmp_own (op := .GtE) (fun _ _ => rfl) c m F hr hb hx
theorem op_ge_int (c : OwnC X.K C) (m : Meth X.K C "__le__" f) (F : FnOk X.prog X.w X.K X.mg X.base CX k f fd ps sp)
    (hr : Room k X.A) (hb : Binds X.K fd ps []) (hx : Passes CX X E) : OpR X (compareOp .GtE) (rOwnR C sp E) := op_cmp_int (op := .GtE) (fun _ _ => rfl) PySem.F.slot_int_ge
  (fun s i t b dy Q' E' hb' q => call_meets PySem.F.slot_int_ge (typeIs_int s i t) PySem.F.entry_int_ge (PySem.F.args_int_ge_2 _ _) (int_ge_no i t b C dy) ⟨hb', q⟩) c m F hr hb hx

theorem op_add_own (c : OwnC X.K C) (m : Meth X.K C "__add__" f) (mr : Meth X.K C "__radd__" g) (F : FnOk X.prog X.w X.K X.mg X.base CX k f fd ps sp)
    (hr : Room k X.A) (hb : Binds X.K fd ps []) (hx : Passes CX X E) : OpR X (binaryOp .Add) (rOwn C sp E) := op_bin_own (op := .Add) PySem.F.slot_int_radd PySem.F.fills_int_add c m mr F hr hb hx
theorem op_add_int (c : OwnC X.K C) (m : Meth X.K C "__radd__" f) (ml : Meth X.K C "__add__" g) (F : FnOk X.prog X.w X.K X.mg X.base CX k f fd ps sp)
    (hr : Room k X.A) (hb : Binds X.K fd ps []) (hx : Passes CX X E) : OpR X (binaryOp .Add) (rOwnR C sp E) := op_bin_int (op := .Add) PySem.F.slot_int_add PySem.F.fills_int_add
  (fun s i t b dy Q' E' hb' q => call_meets PySem.F.slot_int_add (typeIs_int s i t) PySem.F.entry_int_add (PySem.F.args_int_add_2 _ _) (int_add_no i t b C dy) ⟨hb', q⟩) c m ml F hr hb hx

theorem op_sub_own (c : OwnC X.K C) (m : Meth X.K C "__sub__" f) (mr : Meth X.K C "__rsub__" g) (F : FnOk X.prog X.w X.K X.mg X.base CX k f fd ps sp)
    (hr : Room k X.A) (hb : Binds X.K fd ps []) (hx : Passes CX X E) : OpR X (binaryOp .Sub) (rOwn C sp E) := op_bin_own (op := .Sub) PySem.F.slot_int_rsub PySem.F.fills_int_sub c m mr F hr hb hx
theorem op_sub_int (c : OwnC X.K C) (m : Meth X.K C "__rsub__" f) (ml : Meth X.K C "__sub__" g) (F : FnOk X.prog X.w X.K X.mg X.base CX k f fd ps sp)
    (hr : Room k X.A) (hb : Binds X.K fd ps []) (hx : Passes CX X E) : OpR X (binaryOp .Sub) (rOwnR C sp E) := op_bin_int (op := .Sub) PySem.F.slot_int_sub PySem.F.fills_int_sub
  (fun s i t b dy Q' E' hb' q => call_meets PySem.F.slot_int_sub (typeIs_int s i t) PySem.F.entry_int_sub (PySem.F.args_int_sub_2 _ _) (int_sub_no i t b C dy) ⟨hb', q⟩) c m ml F hr hb hx

theorem op_mul_own (c : OwnC X.K C) (m : Meth X.K C "__mul__" f) (mr : Meth X.K C "__rmul__" g) (F : FnOk X.prog X.w X.K X.mg X.base CX k f fd ps sp)
    (hr : Room k X.A) (hb : Binds X.K fd ps []) (hx : Passes CX X E) : OpR X (binaryOp .Mult) (rOwn C sp E) := op_bin_own (op := .Mult) PySem.F.slot_int_rmul PySem.F.fills_int_mul c m mr F hr hb hx
theorem op_mul_int (c : OwnC X.K C) (m : Meth X.K C "__rmul__" f) (ml : Meth X.K C "__mul__" g) (F : FnOk X.prog X.w X.K X.mg X.base CX k f fd ps sp)
    (hr : Room k X.A) (hb : Binds X.K fd ps []) (hx : Passes CX X E) : OpR X (binaryOp .Mult) (rOwnR C sp E) := op_bin_int (op := .Mult) PySem.F.slot_int_mul PySem.F.fills_int_mul
  (fun s i t b dy Q' E' hb' q => call_meets PySem.F.slot_int_mul (typeIs_int s i t) PySem.F.entry_int_mul (PySem.F.args_int_mul_2 _ _) (int_mul_no i t b C dy) ⟨hb', q⟩) c m ml F hr hb hx

theorem op_mod_own (c : OwnC X.K C) (m : Meth X.K C "__mod__" f) (mr : Meth X.K C "__rmod__" g) (F : FnOk X.prog X.w X.K X.mg X.base CX k f fd ps sp)
    (hr : Room k X.A) (hb : Binds X.K fd ps []) (hx : Passes CX X E) : OpR X (binaryOp .Mod) (rOwn C sp E) := op_bin_own (op := .Mod) PySem.F.slot_int_rmod PySem.F.fills_int_mod c m mr F hr hb hx
theorem op_mod_int (c : OwnC X.K C) (m : Meth X.K C "__rmod__" f) (ml : Meth X.K C "__mod__" g) (F : FnOk X.prog X.w X.K X.mg X.base CX k f fd ps sp)
    (hr : Room k X.A) (hb : Binds X.K fd ps []) (hx : Passes CX X E) : OpR X (binaryOp .Mod) (rOwnR C sp E) := op_bin_int (op := .Mod) PySem.F.slot_int_mod PySem.F.fills_int_mod
  (fun s i t b dy Q' E' hb' q => call_meets PySem.F.slot_int_mod (typeIs_int s i t) PySem.F.entry_int_mod (PySem.F.args_int_mod_2 _ _) (int_mod_no i t b C dy) ⟨hb', q⟩) c m ml F hr hb hx
end
end MoL

/-! # Helpers: items of lists read by place, // by any number that is not 0, sizes, lowest terms -/
namespace MoL
open PySem PySem.Spec PyProof.Rows L2 MoW

section
variable {X : Cx}
def rGetL (K : PySem.W.Frag) : V → V → Hp → VK → Prop := fun x y H Q => ∃ p xs j v, x = .ref p ∧ y = .int ((j : Nat) : Int) ∧ SqL K H p xs ∧ xs[j]? = some v ∧ Q v H
theorem get_list : PGet X (rGetL X.K) := by
  intro pins s σ H x y v u Q I rx ry h
  obtain ⟨p, xs, j, z, rfl, rfl, hq, he, q⟩ := h
  cases rx
  obtain ⟨t, rfl⟩ := ry
  obtain ⟨its, r, pl, hz⟩ := I.list hq
  obtain ⟨w, ew, rw'⟩ := r.get he
  have hj : j < xs.length := (List.getElem?_eq_some_iff.mp he).1
  have hn := line63
  exact wpAny_getItem_list pl.isList (by omega) (by omega) (by simpa using ew) ⟨z, H, I, rw', q⟩
/-- // by any number but 0, below 2 ^ 9000 in size -/
def CDivA (_ j : Int) : Prop := j ≠ 0 ∧ j.natAbs.log2 < 9000
theorem op_fdivA : OpR X (binaryOp .FloorDiv) (rI CDivA fun i j => .int (i.fdiv j)) := opI fun i j _ _ _ _ _ hc q => floordiv_int hc.1 q (.inl (PyProof.noPylong_of_log2 hc.2))
end

/-! ### sizes -/
/-- below 2 ^ 4000 in size -/
def Sm (i : Int) : Prop := i.natAbs < 2 ^ 4000
theorem Sm.mul {i j : Int} (a : Sm i) (b : Sm j) : CMulW i j := wide_mul a b (by decide) (by decide) (by decide)
theorem Sm.mulr {i j : Int} (a : Sm i) (b : j.natAbs < 2 ^ 9000) : CMulW i j := wide_mul a b (by decide) (by decide) (by decide)
theorem Sm.div {i j : Int} (h : j ≠ 0) (a : Sm j) : CDivA i j := ⟨h, Nat.lt_of_lt_of_le (PySem.Flt.log2_lt_of (by decide) a) (by decide)⟩
theorem Sm.le {i j : Int} (a : Sm j) (h : i.natAbs ≤ j.natAbs) : Sm i := Nat.lt_of_le_of_lt h a
theorem pow_big {k : Nat} (h : k ≤ 4000) : 2 ^ k ≤ 2 ^ 4000 := Nat.pow_le_pow_right (by decide) h
theorem Sm.of {i : Int} {k : Nat} (h : i.natAbs < 2 ^ k) (hk : k ≤ 4000) : Sm i := Nat.lt_of_lt_of_le h (pow_big hk)

theorem Sm.ab {i : Int} (h1 : -(2 ^ 200) < i) (h2 : i < 2 ^ 200) : Sm i := Sm.of (k := 200) (by omega) (by decide)
theorem iteFe {c : Bool} {A B : Prop} (hc : c = false) (h : B) : if c = true then A else B := by rw [hc]; exact iteF h
theorem iteTe {c : Bool} {A B : Prop} (hc : c = true) (h : A) : if c = true then A else B := by rw [hc]; exact iteT h

/-! ### lowest terms -/
/-- t' / b' is t / b in lowest terms, the bottom above 0 -/
structure Norm (t b t' b' : Int) : Prop where
  ex : ∃ g : Int, t = g * t' ∧ b = g * b' ∧ g ≠ 0
  pos : 0 < b'
  cop : Nat.gcd t'.natAbs b'.natAbs = 1
theorem Norm.cross {t b t' b' : Int} (n : Norm t b t' b') : t' * b = t * b' := by
  obtain ⟨g, h1, h2, _⟩ := n.ex
  rw [h1, h2, Int.mul_comm g t', Int.mul_assoc]
theorem natAbs_le_mul {g x : Int} (h : g ≠ 0) : x.natAbs ≤ (g * x).natAbs := by
  rw [Int.natAbs_mul]
  exact Nat.le_mul_of_pos_left _ (Int.natAbs_pos.mpr h)
theorem Norm.le1 {t b t' b' : Int} (n : Norm t b t' b') : t'.natAbs ≤ t.natAbs := by
  obtain ⟨g, h1, h2, h⟩ := n.ex
  rw [h1]; exact natAbs_le_mul h
theorem Norm.le2 {t b t' b' : Int} (n : Norm t b t' b') : b'.natAbs ≤ b.natAbs := by
  obtain ⟨g, h1, h2, h⟩ := n.ex
  rw [h2]; exact natAbs_le_mul h
/-- what the making computes: g the signed common divisor -/
theorem fdiv_exact {g x y : Int} (h : g ≠ 0) (e : x = g * y) : x.fdiv g = y := by
  rw [e]
  exact Int.mul_fdiv_cancel_left y h
theorem Norm.make {t b : Int} (hb : b ≠ 0) : ∀ g : Int, g = (if b < 0 then -((Nat.gcd t.natAbs b.natAbs : Nat) : Int) else ((Nat.gcd t.natAbs b.natAbs : Nat) : Int)) →
    g ≠ 0 ∧ g.natAbs ≤ b.natAbs ∧ Norm t b (t.fdiv g) (b.fdiv g) := by
  intro g hg
  have hpos : 0 < Nat.gcd t.natAbs b.natAbs := Nat.gcd_pos_of_pos_right _ (Int.natAbs_pos.mpr hb)
  have hle : Nat.gcd t.natAbs b.natAbs ≤ b.natAbs := Nat.gcd_le_right _ (Int.natAbs_pos.mpr hb)
  generalize hd : Nat.gcd t.natAbs b.natAbs = d at hpos hle hg
  have gabs : g.natAbs = d := by
    rw [hg]; split <;> simp
  have g0 : g ≠ 0 := by
    intro z; rw [z] at gabs; simp at gabs; omega
  have d1 : d ∣ t.natAbs := hd ▸ Nat.gcd_dvd_left _ _
  have d2 : d ∣ b.natAbs := hd ▸ Nat.gcd_dvd_right _ _
  have e1 : g ∣ t := Int.natAbs_dvd_natAbs.mp (by rw [gabs]; exact d1)
  have e2 : g ∣ b := Int.natAbs_dvd_natAbs.mp (by rw [gabs]; exact d2)
  obtain ⟨t', ht⟩ := e1
  obtain ⟨b', hb'⟩ := e2
  refine ⟨g0, by rw [gabs]; exact hle, ?_⟩
  rw [fdiv_exact g0 ht, fdiv_exact g0 hb']
  refine ⟨⟨g, ht, hb', g0⟩, ?_, ?_⟩
  · by_cases hneg : b < 0
    · rw [if_pos hneg] at hg
      have gn : g < 0 := by omega
      rw [hb', Int.mul_comm] at hneg
      exact Int.pos_of_mul_neg_left hneg gn
    · rw [if_neg hneg] at hg
      have gp : 0 < g := by omega
      have bp : 0 < g * b' := by rw [← hb']; omega
      exact Int.pos_of_mul_pos_right bp (by omega)
  · have x1 : t.natAbs = d * t'.natAbs := by rw [ht, Int.natAbs_mul, gabs]
    have x2 : b.natAbs = d * b'.natAbs := by rw [hb', Int.natAbs_mul, gabs]
    rw [x1, x2, Nat.gcd_mul_left] at hd
    have : d * Nat.gcd t'.natAbs b'.natAbs = d * 1 := by rw [hd, Nat.mul_one]
    exact Nat.eq_of_mul_eq_mul_left hpos this
end MoL

namespace MoL
open PySem PySem.Spec PyProof.Rows L2 MoW
/-- what the written part says of a class of plain instances with operators and the fields top, bottom -/
structure OwnK (K : PySem.W.Frag) (C : Addr) : Prop where
  cl : Cls K C
  ow : OwnC K C
  ha : PySem.W.findIn K (.ref C) "__class__" = some (some (.builtin "object.__class__"))
  hn : PySem.W.specialIn K (.builtin "object.__class__") "__get__" = some (some (.builtin "getset_descriptor.__get__"))
  htk : PySem.W.takesIn K (.builtin "object.__class__") = some true
  hm : PySem.W.mroIn K C (.type "object") = some true
  ki : PySem.W.kitOne K (.ref C) (.type "int") = some false
  ik : PySem.W.kitOne K (.type "int") (.ref C) = some false
  n_top : NoAttr K C "top"
  n_bottom : NoAttr K C "bottom"
theorem kit_self {K : PySem.W.Frag} {C : Addr} : PySem.W.kitOne K (.ref C) (.ref C) = some true := by
  unfold PySem.W.kitOne
  rw [if_pos (by simp)]
theorem OwnK.ty {K : PySem.W.Frag} {C : Addr} {H : Hp} {a dx : Addr} {fs : List (Str × V)} (k : OwnK K C) (h : H a = some (.ins C dx fs)) : TyX K H (.ref a) (.ref C) :=
  .base (.ins h k.cl k.ha k.hn k.htk k.hm)

/-- a Ratio: an instance of the class at C with these two numbers -/
def RatAt (C : Addr) (H : Hp) (v : V) (t b : Int) : Prop := ∃ a dx, v = .ref a ∧ H a = some (.ins C dx [("top", .int t), ("bottom", .int b)])
theorem RatAt.ins {C : Addr} {H : Hp} {v : V} {t b : Int} (r : RatAt C H v t b) : Ins H v C := by
  obtain ⟨a, dx, e, h⟩ := r
  exact ⟨a, dx, _, e, h⟩
theorem RatAt.same {C : Addr} {H H' : Hp} {v : V} {t b : Int} (r : RatAt C H v t b) (s : Same H H') : RatAt C H' v t b := by
  obtain ⟨a, dx, e, h⟩ := r
  exact ⟨a, dx, e, s _ _ h⟩
theorem Ins.same {C : Addr} {H H' : Hp} {v : V} (r : Ins H v C) (s : Same H H') : Ins H' v C := by
  obtain ⟨a, dx, fs, e, h⟩ := r
  exact ⟨a, dx, fs, e, s _ _ h⟩
theorem same_upd {H : Hp} {p : Addr} {o : HO} (h : H p = none) : Same H (upd H p o) := fun b x e => by
  rw [upd_ne (ne_of_none e h)]
  exact e
theorem same_upd' {H H1 : Hp} {p : Addr} {o : HO} (s : Same H H1) (h : H p = none) : Same H (upd H1 p o) := fun b x e => by
  rw [upd_ne (ne_of_none e h)]
  exact s _ _ e
end MoL

/-! # Signs before an instance, abs of one; lowest terms are one -/
namespace MoL
open PySem PySem.Spec PyProof.Rows L2 MoW
section
variable {X : Cx} {CX : CXT} {k : Nat} {C f g : Addr} {fd : FuncData} {ps : List Str} {sp : Sp} {E : XK}
/-- -x of an instance with its own __neg__ -/
def rOwn1 (C : Addr) (sp : Sp) (E : XK) : V → Hp → VK → Prop := fun x H Q => Ins H x C ∧ sp [x] H Q E
theorem un_neg_own (m : Meth X.K C "__neg__" f) (F : FnOk X.prog X.w X.K X.mg X.base CX k f fd ps sp)
    (hr : Room k X.A) (hb : Binds X.K fd ps []) (hx : Passes CX X E) : UnR X (unaryOp .USub) (rOwn1 C sp E) := by
  intro pins s σ H x v Q I rx h
  obtain ⟨⟨a, dx, fs, rfl, ha⟩, hs⟩ := h
  cases (show v = Value.ref a from rx)
  obtain ⟨od, J⟩ := ins_at I ha
  have hrun : wpAny (model X.prog X.w) X.A (call (.ref f) [.ref a]) (EP X pins σ Q) X.xe s :=
    run_fn (us := [.ref a]) (vs := [.ref a]) F hr hb .nil hx I (.cons rfl .nil) hs
  unfold unaryOp
  refine wpAny_holding ?_
  have e : (UnaryOp.USub == UnaryOp.Not) = false := rfl
  simp only [e, Bool.false_eq_true, if_false]
  exact wpAny_bind (PySem.W.special_fn I.kIn J m.at_ (beq_iff_eq.mp m.fn) (wpAny_mono hrun (fun v s' q => wpAny_pure q) fun _ _ e => e))
theorem UnR.or {f : Value → Sem Value} {r r' : V → Hp → VK → Prop} (h : UnR X f r) (h' : UnR X f r') : UnR X f (fun x H Q => r x H Q ∨ r' x H Q) := by
  intro pins s σ H x v Q I rx q
  rcases q with q | q
  · exact h pins s σ H x v Q I rx q
  · exact h' pins s σ H x v Q I rx q
/-- the callee runs within a built-in -/
theorem run_fn1 {pins : List (Addr × Obj)} {σ : L2.St} {H : Hp} {s : Shared} {Q : VK} {us : List Value} {vs : List V} (F : FnOk X.prog X.w X.K X.mg X.base CX k f fd ps sp) (hr : Room (k + 1) X.A) (hb : Binds X.K fd ps []) (hx : Passes CX X E)
    (I : Inv X pins σ H s) (r : Vals vs us) (h : sp vs H Q E) : wpAny (model X.prog X.w) X.A.in1 (call (.ref f) us) (EP X pins σ Q) X.xe s := by
  have hl : us.length = ps.length := by rw [← r.length]; exact F.len _ _ _ _ h
  have hb' : BindsTo s fd ⟨us, []⟩ (ps.zip us) := by
    have := hb s us I.kIn (by simpa using hl)
    simpa using this
  refine wpAny_call (codeAny_mono (F.run X.A.in1 X.stack s H ⟨us, []⟩ us vs Q E hr.in1 I.env0.in1 hb' r h) fun r s' hq => ?_)
  cases r with
  | error e => exact hx pins σ H s e s' I hq
  | ok fl =>
    cases fl with
    | ret u => exact I.after hq
    | next => exact False.elim hq
    | brk => exact False.elim hq
    | cont => exact False.elim hq
theorem call_abs_own (m : Meth X.K C "__abs__" f) (F : FnOk X.prog X.w X.K X.mg X.base CX k f fd ps sp)
    (hr : Room (k + 1) X.A) (hb : Binds X.K fd ps []) (hx : Passes CX X E) : CallR X (.builtin "abs") (fun xs H Q => ∃ x, xs = [x] ∧ rOwn1 C sp E x H Q) := by
  intro pins s σ H xs us Q I r h
  obtain ⟨x, rfl, ⟨a, dx, fs, rfl, ha⟩, hs⟩ := h
  obtain ⟨u, rfl, ru⟩ := vals1 r
  cases (show u = Value.ref a from ru)
  obtain ⟨od, J⟩ := ins_at I ha
  have hrun := run_fn1 (us := [.ref a]) (vs := [.ref a]) F hr hb hx I (.cons rfl .nil) hs
  refine Calls.call_function_entry kind_abs plain_abs entry_abs (args_abs _) ?_
  unfold Builtin.«abs»
  refine wpAny_bind (m := oneArg "abs" _) (wpAny_pure ?_)
  refine wpAny_bind (m := callSpecial? (.ref a) (Str.ofString "__abs__")) ?_
  exact PySem.W.special_fn I.kIn J m.at_ (beq_iff_eq.mp m.fn) (wpAny_mono hrun (fun v s' q => wpAny_pure ⟨_, rfl, q⟩) fun _ _ e => e)
end
/-! ### lowest terms are one -/
theorem Norm.bne {t b t' b' : Int} (n : Norm t b t' b') : b ≠ 0 := by
  obtain ⟨g, _, h2, h⟩ := n.ex
  rw [h2]
  intro z
  rcases Int.mul_eq_zero.mp z with e | e
  · exact h e
  · have := n.pos; omega
theorem cop_one {t b u c : Int} (hb : 0 < b) (hc : 0 < c) (h1 : Nat.gcd t.natAbs b.natAbs = 1) (h2 : Nat.gcd u.natAbs c.natAbs = 1) (e : t * c = u * b) : t = u ∧ b = c := by
  have en : t.natAbs * c.natAbs = u.natAbs * b.natAbs := by rw [← Int.natAbs_mul, ← Int.natAbs_mul, e]
  have d1 : b.natAbs ∣ c.natAbs := by
    have h : b.natAbs ∣ t.natAbs * c.natAbs := ⟨u.natAbs, by rw [en, Nat.mul_comm]⟩
    exact Nat.Coprime.dvd_of_dvd_mul_left (Nat.Coprime.symm h1) h
  have d2 : c.natAbs ∣ b.natAbs := by
    have h : c.natAbs ∣ u.natAbs * b.natAbs := ⟨t.natAbs, by rw [← en, Nat.mul_comm]⟩
    exact Nat.Coprime.dvd_of_dvd_mul_left (Nat.Coprime.symm h2) h
  have ebc : b = c := by
    have := Nat.dvd_antisymm d1 d2
    omega
  subst ebc
  refine ⟨?_, rfl⟩
  exact Int.eq_of_mul_eq_mul_right (by omega) e
/-- two ways to one value: the same lowest terms -/
theorem Norm.uniq {p q t b p' q' t' b' : Int} (n : Norm p q t b) (m : Norm p' q' t' b') (e : p * q' = p' * q) : t = t' ∧ b = b' := by
  refine cop_one n.pos m.pos n.cop m.cop ?_
  have c1 := n.cross
  have c2 := m.cross
  have q0 := n.bne
  have q1 := m.bne
  have key : (t * b') * (q * q') = (t' * b) * (q * q') := by
    have e1 : (t * b') * (q * q') = (t * q) * (b' * q') := by
      rw [Int.mul_assoc, Int.mul_assoc, Int.mul_left_comm b' q q']
    have e2 : (t' * b) * (q * q') = (t' * q') * (b * q) := by
      rw [Int.mul_assoc, Int.mul_assoc, Int.mul_comm q q', Int.mul_left_comm b q' q]
    rw [e1, e2, c1, c2]
    have e3 : p * b * (b' * q') = (p * q') * (b * b') := by
      rw [Int.mul_assoc, Int.mul_assoc, Int.mul_comm b' q', Int.mul_left_comm b q' b']
    have e4 : p' * b' * (b * q) = (p' * q) * (b * b') := by
      rw [Int.mul_assoc, Int.mul_assoc, Int.mul_comm b q, Int.mul_left_comm b' q b, Int.mul_comm b' b]
    rw [e3, e4, e]
  have qq : q * q' ≠ 0 := fun z => by
    rcases Int.mul_eq_zero.mp z with e | e
    · exact q0 e
    · exact q1 e
  exact Int.eq_of_mul_eq_mul_right qq key
end MoL
namespace MoL
open PySem PySem.Spec PyProof.Rows L2 MoW
theorem call_or {X : Cx} {f : Value} {r r' : List V → Hp → VK → Prop} (h : CallR X f r) (h' : CallR X f r') : CallR X f (fun xs H Q => r xs H Q ∨ r' xs H Q) := by
  intro pins s σ H xs us Q I r q
  rcases q with q | q
  · exact h pins s σ H xs us Q I r q
  · exact h' pins s σ H xs us Q I r q
end MoL

/-! # Errors of the program: making one whose class keeps one field, and what a suite that caught it may ask -/
namespace MoL
open PySem PySem.Spec PyProof.Rows L2 MoW

/-! ### a class call in a body whose errors are caught: the wish speaks of the slots -/
def tMakeA (C : Addr) (sp : Sp) (dvs : List V) (W : L2.St → XK) (t : TA) : TE := fun σ H Q => t σ H fun vs G => ∀ x y, G x = none → G y = none → y ≠ x →
  sp (.ref x :: (vs ++ dvs)) (upd (upd G y (.own x)) x (.ins C y [])) (fun v G2 => v = .non ∧ Q (.ref x) G2) (W σ)
section
variable {X : Cx} {CX : CXT} {k : Nat} {f C : Addr} {fd : FuncData} {ps : List Str} {sp : Sp} {dvs : List V} {ds : List Value} {W : L2.St → XK} {x : Str} {p pos : Pos} {e : Expr} {es : List Expr} {t : TA}
theorem pe_makeA (M : Mk X.K C f) (F : FnOk X.prog X.w X.K X.mg X.base CX k f fd ps sp) (room : Room (k + 1) X.A) (hg : Gl X x) (hm : X.mg x = some (.ref C)) (hb : Binds X.K fd ps ds) (hd : Vals dvs ds) (hx : ∀ σ, PassesAt CX X σ (W σ)) (ha : PA X (e :: es) t)
    (hdb : (x == ("__debug__" : Str)) = false := by decide) (he : starEach (e :: es) X.env = (false, eval e X.env) :: starEach es X.env := by rfl) (hpl : (backTo pos (starEach es X.env)).any (·.1) = false := by rfl) :
    PE X (.Call (.Name x p) (e :: es) [] pos) (tMakeA C sp dvs W t) := by
  constructor
  intro pins s0 σ H0 Q I0 h
  refine wpAny_Call_Name_kw (ld_glob I0 hg hm ?_ hdb)
  refine PySem.W.callWith_K (h₀ := X.base) I0.ok.mod.kin M.kp ?_ he hpl
  refine thn (ha.run pos pins s0 σ H0 _ I0 h) ?_
  rintro us s ⟨vs, H, I, r, h⟩
  refine ⟨I.kIn, ?_⟩
  have hq := h (s.heap.objs.size + 1) s.heap.objs.size (I.hok.fresh (Nat.le_succ _)) (I.hok.fresh (Nat.le_refl _)) (Nat.ne_of_lt (Nat.lt_succ_self _))
  have I2 := Inv.made (C := C) I
  have r2 : Vals (V.ref (s.heap.objs.size + 1) :: (vs ++ dvs)) (Value.ref (s.heap.objs.size + 1) :: (us ++ ds)) := .cons rfl (r.append hd)
  have hl : (Value.ref (s.heap.objs.size + 1) :: us ++ ds).length = ps.length := (F.len _ _ _ _ hq ▸ r2.length).symm
  have run := F.run _ X.stack _ _ ⟨Value.ref (s.heap.objs.size + 1) :: us, []⟩ _ _ _ _ (room.make C us []) (I2.env0.make C us []) (hb _ (Value.ref (s.heap.objs.size + 1) :: us) I2.kIn hl) r2 hq
  refine wpAny_call (make_map (f := f) I.kIn M.makes M.init (beq_iff_eq.mp M.fn) (codeAny_mono run ?_))
  intro r s' hq'
  rcases r with fl | e
  · exact hx σ pins _ _ _ s' I2 hq'
  · cases e with
    | ret u =>
      obtain ⟨v, G, I3, rv, ev, q3⟩ := I2.after hq'
      cases ev
      exact ⟨rv, ⟨V.ref (s.heap.objs.size + 1), G, I3, rfl, q3⟩⟩
    | next => exact hq'.elim
    | brk => exact hq'.elim
    | cont => exact hq'.elim
end

/-! ### isinstance of a caught error that has fields -/
def rIsD (K : PySem.W.Frag) (a : Addr) (cls : Value) (d : Option Addr) (D : Addr) : List V → Hp → VK → Prop := fun xs H Q => ∃ (c : V) (cv : Value) (b : Bool) (y : Addr) (fs : List (Str × V)),
  xs = [.ref a, c] ∧ cls = .ref D ∧ d = some y ∧ H y = some (.xd fs) ∧ ClsV c cv ∧ PySem.W.kitOne K (.ref D) cv = some b ∧ Q (.bl b) H
theorem call_isD {X : Cx} {a D : Addr} {oe : Obj} {cls : Value} {d : Option Addr} {pn : List (Addr × Obj)} (C : ExcC X.K D) (hz : Zc cls d oe) (hf : ∃ vs, oe.data = .fields vs) : CallR (X.suite a ((a, oe) :: pn)) (.builtin "isinstance") (rIsD X.K a cls d D) := by
  intro pins s σ H xs us Q I r h
  obtain ⟨c, cv, b, y, fs, rfl, rfl, rfl, hy, hc, e, q⟩ := h
  obtain ⟨u1, u2, rfl, r1, r2⟩ := vals2 r
  cases (show u1 = Value.ref a from r1)
  have e2 := hc.eq r2
  subst e2
  have hget := (I.pin (a, oe) (List.mem_append_left _ List.mem_cons_self)).1
  have ho : ∃ o, s.heap.get? y = some o := by
    obtain ⟨m, ⟨o, _, _, z, _⟩, _⟩ := (show ObjOk X.prog X.w H s.heap y (.xd fs) from I.hok y _ hy)
    exact ⟨o, z⟩
  obtain ⟨od, ho⟩ := ho
  have J : PySem.W.InstAt s.heap a oe D (some od) := by
    obtain ⟨vs, hv⟩ := hf
    rcases oe with ⟨oc, odd, dt, sl⟩
    obtain ⟨z1, z2⟩ := hz
    dsimp only at z1 z2 hv
    subst z1 z2 hv
    exact ⟨hget, rfl, rfl, ho⟩
  have hcl : (PySem.W.clsIn X.K D).isSome = true := by
    obtain ⟨cd, hcd, _⟩ := PySem.W.any_some C.hd
    rw [hcd]
    rfl
  exact PySem.W.kia_one (PySem.W.kitx_exc hcl C.hg C.hk C.hs C.ha C.hn C.ht C.hm) I.kIn J e (fun z => nomatch z) fun tk => ⟨.bl b, H, I.kept (t' := tk) fun _ _ z => z, rfl, q⟩

/-! ### the making of an error with one field -/
/-- the __init__ of such a class: the field f is what was given -/
def sp_keep (K : PySem.W.Frag) (f : Str) : Sp := fun vs H Q _ => ∃ (e C : Addr) (v : V), vs = [.ref e, v] ∧ OexC K C ∧ PySem.W.findIn K (.ref C) f = some none ∧ H e = some (exo e C none) ∧
  ∀ y, H y = none → y ≠ e → Q .non (upd (upd H y (exd y [(f, v)])) e (exo e C (some y)))
/-- raise C(v): what follows when its __init__ keeps sp_keep -/
theorem mk_keep {K : PySem.W.Frag} {C : Addr} {f : Str} {v : V} {H : Hp} {Q : XK} (T : OexC K C) (hn : PySem.W.findIn K (.ref C) f = some none) (q : ∀ y, H y = none → Q (.ref C) (some y) (upd H y (.xd [(f, v)]))) :
    ([v] : List V).length ≤ 1000 ∧ ∀ a, H a = none → sp_keep K f (.ref a :: ([v] ++ [])) (upd H a (exo a C none))
      (fun w G => w = .non ∧ ∃ (d : Addr) (fs : List (Str × V)), G a = some (exo a C (some d)) ∧ G d = some (exd d fs) ∧ H d = none ∧ Q (.ref C) (some d) (upd (del G a) d (.xd fs))) (fun _ _ _ => False) := by
  refine ⟨by show 1 ≤ 1000; decide, fun a na => ⟨a, C, v, rfl, T, hn, upd_same, fun y ny yne => ⟨rfl, y, [(f, v)], upd_same, ?_, ?_, ?_⟩⟩⟩
  · rw [upd_ne yne, upd_same]
  · rw [upd_ne yne] at ny
    exact ny
  · rw [upd_ne yne] at ny
    have e : upd (del (upd (upd (upd H a (exo a C none)) y (exd y [(f, v)])) a (exo a C (some y))) a) y (.xd [(f, v)]) = upd H y (.xd [(f, v)]) := by
      funext b
      by_cases hb : b = y
      · subst hb
        rw [upd_same, upd_same]
      · rw [upd_ne hb, upd_ne hb]
        by_cases hba : b = a
        · subst hba
          rw [del_same, na]
        · rw [del_ne hba, upd_ne hba, upd_ne hb, upd_ne hba]
    rw [e]
    exact q y ny
end MoL

namespace Mo
open PySem PySem.Spec PyProof.Rows L2 MoL MoW
open C8 (pss_cut tCut)
/-! ### the text -/
def topS (i : Nat) : Stmt := PySem.Challenge.pw_momentrows_k01_ratio_is_in_lowest_terms.main.body.getD i (.Pass ⟨0, 0, 0, 0⟩)
abbrev s_NoRatio___init__ : Stmt := inClass (topS 4) 0
abbrev N_NoRatio___init__ : List Str := ["self", "word"]
theorem sc_NoRatio___init__ : FnScope N_NoRatio___init__ ["self", "word"] (defScope s_NoRatio___init__) := ⟨rfl, rfl, rfl, by decide +kernel, rfl, by decide +kernel, by decide +kernel⟩
abbrev s_Ratio___init__ : Stmt := inClass (topS 10) 0
abbrev N_Ratio___init__ : List Str := ["self", "top", "bottom", "shared"]
theorem sc_Ratio___init__ : FnScope N_Ratio___init__ ["self", "top", "bottom"] (defScope s_Ratio___init__) := ⟨rfl, rfl, rfl, by decide +kernel, rfl, by decide +kernel, by decide +kernel⟩
abbrev s_is_whole : Stmt := topS 11
abbrev N_is_whole : List Str := ["x"]
theorem sc_is_whole : FnScope N_is_whole ["x"] (defScope s_is_whole) := ⟨rfl, rfl, rfl, by decide +kernel, rfl, by decide +kernel, by decide +kernel⟩
abbrev s__law_is_integer : Stmt := topS 22
abbrev N__law_is_integer : List Str := ["_law_value"]
theorem sc__law_is_integer : FnScope N__law_is_integer ["_law_value"] (defScope s__law_is_integer) := ⟨rfl, rfl, rfl, by decide +kernel, rfl, by decide +kernel, by decide +kernel⟩
abbrev s__law_feed : Stmt := topS 23
abbrev N__law_feed : List Str := ["_law_script", "_law_cell"]
theorem sc__law_feed : FnScope N__law_feed ["_law_script"] (defScope s__law_feed) := ⟨rfl, rfl, rfl, by decide +kernel, rfl, by decide +kernel, by decide +kernel⟩
abbrev s__law_take : Stmt := topS 24
abbrev N__law_take : List Str := ["_law_feed_here", "_law_size_here", "_law_cell", "_law_digit", "_law_number_here"]
theorem sc__law_take : FnScope N__law_take ["_law_feed_here", "_law_size_here"] (defScope s__law_take) := ⟨rfl, rfl, rfl, by decide +kernel, rfl, by decide +kernel, by decide +kernel⟩
abbrev s__law_number : Stmt := topS 25
abbrev N__law_number : List Str := ["_law_feed_here", "_law_size_here", "_law_sign"]
theorem sc__law_number : FnScope N__law_number ["_law_feed_here", "_law_size_here"] (defScope s__law_number) := ⟨rfl, rfl, rfl, by decide +kernel, rfl, by decide +kernel, by decide +kernel⟩
abbrev s__law_divisor : Stmt := topS 26
abbrev N__law_divisor : List Str := ["_law_a", "_law_b", "_law_k", "_law_rest"]
theorem sc__law_divisor : FnScope N__law_divisor ["_law_a", "_law_b"] (defScope s__law_divisor) := ⟨rfl, rfl, rfl, by decide +kernel, rfl, by decide +kernel, by decide +kernel⟩
abbrev s__law_size : Stmt := topS 27
abbrev N__law_size : List Str := ["_law_feed_here"]
theorem sc__law_size : FnScope N__law_size ["_law_feed_here"] (defScope s__law_size) := ⟨rfl, rfl, rfl, by decide +kernel, rfl, by decide +kernel, by decide +kernel⟩
abbrev s__law_refused : Stmt := topS 28
abbrev N__law_refused : List Str := ["_law_top", "_law_bottom", "_law_word", "_law_found", "e"]
theorem sc__law_refused : FnScope N__law_refused ["_law_top", "_law_bottom", "_law_word"] (defScope s__law_refused) := ⟨rfl, rfl, rfl, by decide +kernel, rfl, by decide +kernel, by decide +kernel⟩
abbrev s__law_good : Stmt := topS 29
abbrev N__law_good : List Str := ["_law_value", "_law_top", "_law_bottom"]
theorem sc__law_good : FnScope N__law_good ["_law_value", "_law_top", "_law_bottom"] (defScope s__law_good) := ⟨rfl, rfl, rfl, by decide +kernel, rfl, by decide +kernel, by decide +kernel⟩
abbrev s_law : Stmt := topS 30
abbrev N_law : List Str := ["_law_script", "_law_feed_here", "_law_strange", "_law_k", "_law_common", "_law_top", "_law_bottom", "_law_bad", "_law_other"]
theorem sc_law : FnScope N_law ["_law_script"] (defScope s_law) := ⟨rfl, rfl, rfl, by decide +kernel, rfl, by decide +kernel, by decide +kernel⟩
/-! ### addresses and function objects -/
structure Ad where
  Ratio : Addr
  NoRatio : Addr
  MeansError : Addr
  NoNumber : Addr
  NoPoly : Addr
  f_NoRatio___init__ : Addr
  f_Ratio___init__ : Addr
  f_is_whole : Addr
  f__law_is_integer : Addr
  f__law_feed : Addr
  f__law_take : Addr
  f__law_number : Addr
  f__law_divisor : Addr
  f__law_size : Addr
  f__law_refused : Addr
  f__law_good : Addr
  f_law : Addr
structure Fd where
  f_NoRatio___init__ : FuncData
  f_Ratio___init__ : FuncData
  f_is_whole : FuncData
  f__law_is_integer : FuncData
  f__law_feed : FuncData
  f__law_take : FuncData
  f__law_number : FuncData
  f__law_divisor : FuncData
  f__law_size : FuncData
  f__law_refused : FuncData
  f__law_good : FuncData
  f_law : FuncData
/-- what the written part says -/
structure Txt (K : PySem.W.Frag) (mg : Str → Option Value) (A : Ad) (D : Fd) : Prop where
  g_Ratio : mg "Ratio" = some (.ref A.Ratio)
  k_Ratio : OwnK K A.Ratio
  kp_Ratio : PySem.W.keepIn K (.ref A.Ratio) = true
  M_Ratio : Mk K A.Ratio A.f_Ratio___init__
  g_MeansError : mg "MeansError" = some (.ref A.MeansError)
  g_NoNumber : mg "NoNumber" = some (.ref A.NoNumber)
  g_NoPoly : mg "NoPoly" = some (.ref A.NoPoly)
  g_NoRatio : mg "NoRatio" = some (.ref A.NoRatio)
  o_NoRatio : OexC K A.NoRatio
  x_NoRatio : XfC K A.NoRatio
  c_NoRatio : ExcC K A.NoRatio
  em_NoRatio : PySem.W.exmOne K (.ref A.NoRatio) (.ref A.NoRatio) = some true
  n_NoRatio_word : PySem.W.findIn K (.ref A.NoRatio) "word" = some none
  i_NoRatio : PySem.W.findIn K (.ref A.NoRatio) "__init__" = some (some (.ref A.f_NoRatio___init__))
  ti_NoRatio : PySem.W.typeIn K (.ref A.f_NoRatio___init__) = some (.type "function")
  kit_NoRatio_MeansError : PySem.W.kitOne K (.ref A.NoRatio) (.ref A.MeansError) = some true
  kit_NoRatio_ValueError : PySem.W.kitOne K (.ref A.NoRatio) (.type "ValueError") = some true
  kit_NoRatio_NoNumber : PySem.W.kitOne K (.ref A.NoRatio) (.ref A.NoNumber) = some false
  kit_NoRatio_NoPoly : PySem.W.kitOne K (.ref A.NoRatio) (.ref A.NoPoly) = some false
  F_NoRatio___init__ : Fun K "__init__" "NoRatio.__init__" s_NoRatio___init__ A.f_NoRatio___init__ D.f_NoRatio___init__
  b_NoRatio___init__ : Binds K D.f_NoRatio___init__ ["self", "word"] []
  m_NoRatio___init__ : Meth K A.NoRatio "__init__" A.f_NoRatio___init__
  kb_Ratio___init__ : ∃ its : List Value, KBn K D.f_Ratio___init__ ["self", "top", "bottom"] 1 ["top", "bottom"] (fun us ws => us ++ ws) (fun vs zs => vs ++ zs)
  F_Ratio___init__ : FunD K "__init__" "Ratio.__init__" (defArgs s_Ratio___init__) (defBody s_Ratio___init__) (defScope s_Ratio___init__) [.int 1] [] A.f_Ratio___init__ D.f_Ratio___init__
  b_Ratio___init__ : Binds K D.f_Ratio___init__ ["self", "top", "bottom"] []
  b1_Ratio___init__ : ∃ ds, Vals [.int 1] ds ∧ Binds K D.f_Ratio___init__ ["self", "top", "bottom"] ds
  m_Ratio___init__ : Meth K A.Ratio "__init__" A.f_Ratio___init__
  F_is_whole : Fun K "is_whole" "is_whole" s_is_whole A.f_is_whole D.f_is_whole
  b_is_whole : Binds K D.f_is_whole ["x"] []
  g_is_whole : mg "is_whole" = some (.ref A.f_is_whole)
  F__law_is_integer : Fun K "_law_is_integer" "_law_is_integer" s__law_is_integer A.f__law_is_integer D.f__law_is_integer
  b__law_is_integer : Binds K D.f__law_is_integer ["_law_value"] []
  g__law_is_integer : mg "_law_is_integer" = some (.ref A.f__law_is_integer)
  F__law_feed : Fun K "_law_feed" "_law_feed" s__law_feed A.f__law_feed D.f__law_feed
  b__law_feed : Binds K D.f__law_feed ["_law_script"] []
  g__law_feed : mg "_law_feed" = some (.ref A.f__law_feed)
  F__law_take : Fun K "_law_take" "_law_take" s__law_take A.f__law_take D.f__law_take
  b__law_take : Binds K D.f__law_take ["_law_feed_here", "_law_size_here"] []
  g__law_take : mg "_law_take" = some (.ref A.f__law_take)
  F__law_number : Fun K "_law_number" "_law_number" s__law_number A.f__law_number D.f__law_number
  b__law_number : Binds K D.f__law_number ["_law_feed_here", "_law_size_here"] []
  g__law_number : mg "_law_number" = some (.ref A.f__law_number)
  F__law_divisor : Fun K "_law_divisor" "_law_divisor" s__law_divisor A.f__law_divisor D.f__law_divisor
  b__law_divisor : Binds K D.f__law_divisor ["_law_a", "_law_b"] []
  g__law_divisor : mg "_law_divisor" = some (.ref A.f__law_divisor)
  F__law_size : Fun K "_law_size" "_law_size" s__law_size A.f__law_size D.f__law_size
  b__law_size : Binds K D.f__law_size ["_law_feed_here"] []
  g__law_size : mg "_law_size" = some (.ref A.f__law_size)
  F__law_refused : Fun K "_law_refused" "_law_refused" s__law_refused A.f__law_refused D.f__law_refused
  b__law_refused : Binds K D.f__law_refused ["_law_top", "_law_bottom", "_law_word"] []
  g__law_refused : mg "_law_refused" = some (.ref A.f__law_refused)
  F__law_good : Fun K "_law_good" "_law_good" s__law_good A.f__law_good D.f__law_good
  b__law_good : Binds K D.f__law_good ["_law_value", "_law_top", "_law_bottom"] []
  g__law_good : mg "_law_good" = some (.ref A.f__law_good)
  F_law : Fun K "law" "law" s_law A.f_law D.f_law
  b_law : Binds K D.f_law ["_law_script"] []
  g_law : mg "law" = some (.ref A.f_law)
  z_isinstance : mg "isinstance" = none
  z_int : mg "int" = none
  z_bool : mg "bool" = none
  z_abs : mg "abs" = none
  z_len : mg "len" = none
  z_max : mg "max" = none
  z_range : mg "range" = none
  z_ValueError : mg "ValueError" = none
  g_gcd : mg "gcd" = some (.builtin "math.gcd")

section
variable {P : Program} {w : World} {K : PySem.W.Frag} {mg : Str → Option Value} {base : Heap} {A : Ad} {D : Fd}
/-! ### kinds of values -/
/-- whether x is an int and no bool -/
def WholeV (K : PySem.W.Frag) (H : Hp) (x : V) (b : Bool) : Prop := ∃ t b1 b2, TyX K H x t ∧ PySem.W.kitOne K t (.type "int") = some b1 ∧ (b1 = true → PySem.W.kitOne K t (.type "bool") = some b2) ∧ b = (b1 && !b2)
theorem whole_int {K : PySem.W.Frag} (i : Int) {H : Hp} : WholeV K H (.int i) true := ⟨_, true, false, .base (.int i), kit_ty (by decide +kernel), fun _ => kit_ty (by decide +kernel), rfl⟩
def sp_is_whole (K : PySem.W.Frag) : Sp := fun vs H Q _ => ∃ x b, vs = [x] ∧ WholeV K H x b ∧ Q (.bl b) H
theorem ok_is_whole (T : Txt K mg A D) : FnOk P w K mg base CX0 1 A.f_is_whole D.f_is_whole ["x"] (sp_is_whole K) := by
  skip
  refine T.F_is_whole.ok sc_is_whole (fun vs H Q E h => ?_) (fun cdv A' outer s H vs Q E hr h => ?_)
  · obtain ⟨x, b, rfl, _⟩ := h
    rfl
  · obtain ⟨x, b, rfl, ⟨t, b1, b2, ty, e1, e2, rfl⟩, q⟩ := h
    refine ⟨_, (pss_one (ps_ret (pe_and (pe_callB call_isi rfl T.z_isinstance (by decide +kernel) (pa_cons (pv 0) (pa_cons (pe_bltn (v := .ty "int") rfl T.z_int (by decide +kernel) rfl) pa_nil))) (pe_one (pe_not (pe_callB call_isi rfl T.z_isinstance (by decide +kernel) (pa_cons (pv 0) (pa_cons (pe_bltn (v := .ty "bool") rfl T.z_bool (by decide +kernel) rfl) pa_nil)))))))), ?_⟩
    refine ⟨x, rfl, x, .ty "int", t, _, b1, rfl, .ty _, ty, e1, b1, rfl, ?_⟩
    cases b1 with
    | false => exact iteF q
    | true => exact iteT ⟨x, rfl, x, .ty "bool", t, _, b2, rfl, .ty _, ty, e2 rfl, b2, rfl, q⟩

/-! ### the error and the making, with all that may be given -/
theorem ok_NoRatio___init__ (T : Txt K mg A D) : FnOk P w K mg base CX0 1 A.f_NoRatio___init__ D.f_NoRatio___init__ ["self", "word"] (sp_keep K "word") := by
  skip
  refine T.F_NoRatio___init__.ok sc_NoRatio___init__ (fun vs H Q E h => ?_) (fun cdv A' outer s H vs Q E hr h => ?_)
  · obtain ⟨e, C, v, rfl, _⟩ := h
    rfl
  · obtain ⟨e, C, v, rfl, hT, hn, he, q⟩ := h
    refine ⟨_, pss_one (ps_ost (pv 0) (pv 1)), ?_⟩
    exact ⟨_, rfl, _, rfl, e, C, rfl, hT, hn, .inl ⟨he, q⟩⟩
/-- which word tells that tv / bv is no fraction -/
def Wrong (K : PySem.W.Frag) (H : Hp) (tv bv : V) (s : Str) : Prop := (WholeV K H tv false ∧ s = "top") ∨ (WholeV K H tv true ∧ WholeV K H bv false ∧ s = "bottom") ∨ (∃ t, tv = .int t ∧ bv = .int 0 ∧ s = "zero")
def sp_init (K : PySem.W.Frag) (C R : Addr) : Sp := fun vs H Q E => ∃ (x dx : Addr) (tv bv : V), vs = [.ref x, tv, bv] ∧ H x = some (.ins C dx []) ∧
  ((∃ t b : Int, tv = .int t ∧ bv = .int b ∧ b ≠ 0 ∧ Sm b ∧ ∀ t' b', Norm t b t' b' → Q .non (upd H x (.ins C dx [("top", .int t'), ("bottom", .int b')]))) ∨
    ∃ s : Str, Wrong K H tv bv s ∧ ∀ y, H y = none → E (.ref R) (some y) (upd H y (.xd [("word", .str s)])))
theorem ok_Ratio___init__ (T : Txt K mg A D) : FnOk P w K mg base (L2.CX P w) 3 A.f_Ratio___init__ D.f_Ratio___init__ ["self", "top", "bottom"] (sp_init K A.Ratio A.NoRatio) := by
  have G_NoRatio___init__ : FnOk P w K mg base CX0 1 A.f_NoRatio___init__ D.f_NoRatio___init__ ["self", "word"] (sp_keep K "word") := ok_NoRatio___init__ T
  have G_is_whole : FnOk P w K mg base CX0 1 A.f_is_whole D.f_is_whole ["x"] (sp_is_whole K) := ok_is_whole T
  refine T.F_Ratio___init__.ok sc_Ratio___init__ (fun vs H Q E h => ?_) (fun cdv A' outer s H vs Q E hr h => ?_)
  · obtain ⟨x, dx, tv, bv, rfl, _⟩ := h
    rfl
  · obtain ⟨x, dx, tv, bv, rfl, hx, h⟩ := h
    refine ⟨_, (pss_cons (ps_if (pt_not (pt_val (pe_call G_is_whole (hr.mono (by decide)) rfl T.g_is_whole T.F_is_whole.kp T.b_is_whole .nil pass0 (pa_cons (pv 1) pa_nil)))) (pss_one (ps_raise rfl (takes_of rfl rfl rfl rfl) (pmk_oex T.o_NoRatio T.i_NoRatio T.ti_NoRatio G_NoRatio___init__ (hr.mono (by decide)) T.b_NoRatio___init__ .nil pass0 rfl T.g_NoRatio (by exact (pa_cons pe_str pa_nil))))) pss_nil)
  (pss_cons (ps_if (pt_not (pt_val (pe_call G_is_whole (hr.mono (by decide)) rfl T.g_is_whole T.F_is_whole.kp T.b_is_whole .nil pass0 (pa_cons (pv 2) pa_nil)))) (pss_one (ps_raise rfl (takes_of rfl rfl rfl rfl) (pmk_oex T.o_NoRatio T.i_NoRatio T.ti_NoRatio G_NoRatio___init__ (hr.mono (by decide)) T.b_NoRatio___init__ .nil pass0 rfl T.g_NoRatio (by exact (pa_cons pe_str pa_nil))))) pss_nil)
  (pss_cons (ps_if (pt_cmpR op_eq (pv 2) pe_int (nomark _)) (pss_one (ps_raise rfl (takes_of rfl rfl rfl rfl) (pmk_oex T.o_NoRatio T.i_NoRatio T.ti_NoRatio G_NoRatio___init__ (hr.mono (by decide)) T.b_NoRatio___init__ .nil pass0 rfl T.g_NoRatio (by exact (pa_cons pe_str pa_nil))))) pss_nil)
  (pss_cons (ps_set (i := 3) sc_Ratio___init__.nd rfl (.inl rfl) (pe_callBfun cr_gcd rfl T.g_gcd (pa_cons (pv 1) (pa_cons (pv 2) pa_nil))))
  (pss_cut (ps_if (pt_cmpR op_lt (pv 2) pe_int (nomark _)) (pss_one (ps_set (i := 3) sc_Ratio___init__.nd rfl (.inl rfl) (pe_un un_neg (pv 3)))) pss_nil)
  (pss_cons (ps_fld (pv 0) (pe_op op_fdivA (pv 1) (pv 3)) rfl)
  (pss_one (ps_fld (pv 0) (pe_op op_fdivA (pv 2) (pv 3)) rfl)))))))), ?_⟩
    rcases h with ⟨t, b, rfl, rfl, hb, sb, q⟩ | ⟨s, ⟨w1, rfl⟩ | ⟨w1, w2, rfl⟩ | ⟨t, rfl, rfl, rfl⟩, q⟩
    · refine ⟨_, rfl, _, _, rfl, whole_int t, true, rfl, iteF ?_⟩
      refine ⟨_, rfl, _, _, rfl, whole_int b, true, rfl, iteF ?_⟩
      have e0 : decide (V.int b = V.int 0) = false := decide_eq_false fun z => hb (V.int.inj z)
      refine ⟨_, rfl, rfl, _, rfl, iteFe e0 ?_⟩
      refine ⟨_, rfl, _, rfl, t, b, rfl, ?_⟩
      obtain ⟨g0, gl, nm⟩ := Norm.make (t := t) hb _ rfl
      refine ⟨fun σ' H' => H' = H ∧ ∃ g : Int, (g ≠ 0 ∧ g.natAbs ≤ b.natAbs ∧ Norm t b (t.fdiv g) (b.fdiv g)) ∧ σ' = [some (.ref x), some (.int t), some (.int b), some (.int g)], ?_, ?_⟩
      · refine ⟨_, rfl, _, _, rfl, rfl, _, rfl, ?_⟩
        by_cases hneg : b < 0
        · rw [if_pos hneg] at g0 gl nm
          rw [decide_eq_true hneg]
          exact iteT ⟨_, rfl, _, rfl, rfl, _, ⟨g0, gl, nm⟩, rfl⟩
        · rw [if_neg hneg] at g0 gl nm
          rw [decide_eq_false hneg]
          exact iteF ⟨rfl, _, ⟨g0, gl, nm⟩, rfl⟩
      · rintro σ' H' ⟨rfl, g, ⟨h0, h1, hn⟩, rfl⟩
        have sg : Sm g := sb.le h1
        refine ⟨_, rfl, _, rfl, t, g, rfl, rfl, Sm.div h0 sg, _, rfl, x, A.Ratio, dx, _, rfl, hx, T.k_Ratio.cl, T.k_Ratio.n_top, (by show 0 < 1000; decide), ?_⟩
        refine ⟨_, rfl, _, rfl, b, g, rfl, rfl, Sm.div h0 sg, _, rfl, x, A.Ratio, dx, _, rfl, upd_same, T.k_Ratio.cl, T.k_Ratio.n_bottom, (by show 1 < 1000; decide), ?_⟩
        show Q .non _
        rw [upd_upd]
        exact q _ _ hn
    · exact ⟨_, rfl, _, _, rfl, w1, false, rfl, iteT (mk_keep T.o_NoRatio T.n_NoRatio_word q)⟩
    · refine ⟨_, rfl, _, _, rfl, w1, true, rfl, iteF ?_⟩
      exact ⟨_, rfl, _, _, rfl, w2, false, rfl, iteT (mk_keep T.o_NoRatio T.n_NoRatio_word q)⟩
    · refine ⟨_, rfl, _, _, rfl, whole_int t, true, rfl, iteF ?_⟩
      refine ⟨_, rfl, _, _, rfl, whole_int 0, true, rfl, iteF ?_⟩
      exact ⟨_, rfl, rfl, _, rfl, iteTe (by decide) (mk_keep T.o_NoRatio T.n_NoRatio_word q)⟩
end

end Mo

namespace Mo
open PySem PySem.Spec PyProof.Rows L2 MoL MoW
open C8 (pss_cut tCut)
section
variable {P : Program} {w : World} {K : PySem.W.Frag} {mg : Str → Option Value} {base : Heap} {A : Ad} {D : Fd}
/-! ### the law's drawing of numbers -/
/-- the six places of the feed at f -/
abbrev six (l : Addr) (i r t n s : Int) : HO := .lst [.ref l, .int i, .int r, .int t, .int n, .int s]
def FeedAt (H : Hp) (f : Addr) : Prop := ∃ (l : Addr) (xs : List Int) (i : Nat) (r t n s : Int), H f = some (six l i r t n s) ∧ H l = some (.lst (xs.map V.int)) ∧ i ≤ xs.length ∧ xs.length ≤ 63 ∧ 0 ≤ r
/-- from H to H' only the feed has moved on, and new things have come -/
structure Stp (f : Addr) (H H' : Hp) : Prop where
  feed : FeedAt H' f
  keep : ∀ b o, b ≠ f → H b = some o → H' b = some o
theorem FeedAt.same {H H' : Hp} {f : Addr} (h : FeedAt H f) (s : Same H H') : FeedAt H' f := by
  obtain ⟨l, xs, i, r, t, n, z, h1, h2, h3⟩ := h
  exact ⟨l, xs, i, r, t, n, z, s _ _ h1, s _ _ h2, h3⟩
theorem Stp.refl {H : Hp} {f : Addr} (h : FeedAt H f) : Stp f H H := ⟨h, fun _ _ _ e => e⟩
theorem Stp.trans {H H1 H2 : Hp} {f : Addr} (a : Stp f H H1) (b : Stp f H1 H2) : Stp f H H2 := ⟨b.feed, fun c o n e => b.keep c o n (a.keep c o n e)⟩
theorem Stp.of {H H1 H2 : Hp} {f : Addr} (a : Stp f H H1) (b : Same H1 H2) : Stp f H H2 := ⟨a.feed.same b, fun c o n e => b c o (a.keep c o n e)⟩
theorem FeedAt.ne {H : Hp} {f p : Addr} {o : HO} (h : FeedAt H f) (hp : H p = some o) (d : ∀ l i r t n s, six l i r t n s ≠ o) : p ≠ f := by
  obtain ⟨l, xs, i, r, t, n, z, h1, _⟩ := h
  exact ne_of hp h1 fun e => d _ _ _ _ _ _ e.symm
theorem FeedAt.lt {H : Hp} {f p : Addr} (h : FeedAt H f) (hp : H p = none) : f ≠ p := by
  obtain ⟨l, xs, i, r, t, n, z, h1, _⟩ := h
  exact ne_of_none h1 hp

def sp_feed (K : PySem.W.Frag) : Sp := fun vs H Q _ => ∃ (a : Addr) (ns : List Int), vs = [.ref a] ∧ SqL K H a (ns.map V.int) ∧ ns.length ≤ 63 ∧ ∀ H' f, Same H H' → FeedAt H' f → H f = none → Q (.ref f) H'
theorem ok__law_feed (T : Txt K mg A D) : FnOk P w K mg base CX0 1 A.f__law_feed D.f__law_feed ["_law_script"] (sp_feed K) := by
  skip
  refine T.F__law_feed.ok sc__law_feed (fun vs H Q E h => ?_) (fun cdv A' outer s H vs Q E hr h => ?_)
  · obtain ⟨a, ns, rfl, _⟩ := h
    rfl
  · obtain ⟨a, ns, rfl, hS, hl, q⟩ := h
    refine ⟨_, (pss_one (ps_ret (pe_lst (pa_cons (pe_lc (own := [("_law_cell", 1)]) (g := gName 1) (tt := tYes) rfl sc__law_feed.nd (pi_list (pe_slice sl_list (pv 0) po_none (po_some pe_int))) (blkOk_by (N := N__law_feed) (sc := defScope s__law_feed) (by decide +kernel)) (fun _ _ _ _ _ => (pg_name (i := 1) sc__law_feed.nd rfl (.inl rfl))) (fun _ _ _ _ _ => pts_nil) (fun _ _ _ _ _ => (pe_callB call_abs rfl T.z_abs (by decide +kernel) (pa_cons (pe_callTy call_int1 rfl T.z_int (by decide +kernel) (pa_cons (pv 1) pa_nil)) pa_nil)))) (pa_cons pe_int (pa_cons pe_int (pa_cons pe_int (pa_cons pe_int (pa_cons pe_int pa_nil))))))))), ?_⟩
    refine ⟨_, rfl, 63, rfl, a, _, rfl, hS, fun p np => ?_⟩
    have s1 : Same H (upd H p (.lst (cutV (ns.map V.int) none (some 63)))) := same_upd np
    obtain ⟨zs, hz, hzl⟩ : ∃ zs : List Int, cutV (ns.map V.int) none (some 63) = zs.map V.int ∧ zs.length ≤ 63 := by
      refine ⟨(ns.drop (HT.sIx (ns.map V.int).length 0 none)).take (HT.sIx (ns.map V.int).length (ns.map V.int).length (some 63) - HT.sIx (ns.map V.int).length 0 none), ?_, ?_⟩
      · unfold cutV
        rw [List.map_take, List.map_drop]
      · rw [List.length_take, List.length_drop]
        omega
    rw [hz] at s1 ⊢
    refine ⟨p, rfl, ⟨_, .of upd_same⟩, fun d nd => ?_⟩
    have npd : p ≠ d := fun e => by rw [e, upd_same] at nd; cases nd
    refine lc_list (K := K) (a := p) (xs := zs.map V.int) (fun i H' => Same H H' ∧ H' p = some (.lst (zs.map V.int)) ∧ ∃ ys : List Int, ys.length = i ∧ H' d = some (.lst (ys.map V.int)))
      ⟨s1.trans (same_upd nd), by rw [upd_ne npd, upd_same], [], rfl, upd_same⟩ (fun i H' _ h => .of h.2.1) ?_ ?_
    · rintro i x H' hx ⟨sm, hp, ys, hy, hd⟩
      obtain ⟨z, hz', rfl⟩ : ∃ z, zs[i]? = some z ∧ x = .int z := by
        rw [List.getElem?_map] at hx
        cases e : zs[i]? with
        | none => rw [e] at hx; cases hx
        | some z => rw [e] at hx; exact ⟨z, rfl, (Option.some.inj hx).symm⟩
      have il : i < zs.length := (List.getElem?_eq_some_iff.mp hz').1
      refine ⟨rfl, ?_⟩
      refine ⟨_, rfl, .inl ⟨z, rfl, z, rfl, _, hd, ?_, ⟨fun b o e => ?_, ?_, ys ++ [if z < 0 then -z else z], ?_, ?_⟩⟩⟩
      · rw [List.length_map, hy]
        exact small1000 (by omega)
      · have nb : b ≠ d := fun e' => by
          subst e'
          rw [s1.free nd] at e
          cases e
        rw [upd_ne nb]
        exact sm _ _ e
      · rw [upd_ne npd]
        exact hp
      · rw [List.length_append, hy]
        rfl
      · rw [upd_same, List.map_append]
        rfl
    · rintro H' ⟨sm, hp, ys, hy, hd⟩
      rw [List.length_map] at hy
      refine ⟨by show 6 ≤ sizeLine; decide, fun f nf => ?_⟩
      have nfd : d ≠ f := ne_of_none hd nf
      refine q _ f (sm.trans (same_upd nf)) ⟨d, ys, 0, 0, 0, 0, 0, upd_same, by rw [upd_ne nfd]; exact hd, Nat.zero_le _, by omega, Int.le_refl _⟩ (sm.free nf)

/-- the feed at f with these five, the rest as in H -/
structure Now (H H' : Hp) (f l : Addr) (i r t n s : Int) : Prop where
  at_ : H' f = some (six l i r t n s)
  oth : ∀ b, b ≠ f → H' b = H b
theorem Now.put {H H' : Hp} {f l : Addr} {i r t n s i' r' t' n' s' : Int} (h : Now H H' f l i r t n s) : Now H (upd H' f (six l i' r' t' n' s')) f l i' r' t' n' s' :=
  ⟨upd_same, fun b hb => by rw [upd_ne hb]; exact h.oth b hb⟩
theorem fdiv_nn {a b : Int} (h : 0 ≤ a) (h' : 0 < b) : 0 ≤ a.fdiv b := by
  rw [Int.fdiv_eq_ediv_of_nonneg a (by omega)]
  exact Int.ediv_nonneg h (by omega)
theorem lt_mod : (0 : Int) < 2147483647 := by decide
theorem lt_mod' : (0 : Int) < 2147483399 := by decide
def sp_take : Sp := fun vs H Q _ => ∃ (f : Addr) (z : Int), vs = [.ref f, .int z] ∧ FeedAt H f ∧ 0 < z ∧ Sm z ∧ ∀ H' v, 0 ≤ v → v < z → Stp f H H' → Q (.int v) H'
theorem ok__law_take (T : Txt K mg A D) : FnOk P w K mg base CX0 1 A.f__law_take D.f__law_take ["_law_feed_here", "_law_size_here"] (sp_take) := by
  skip
  refine T.F__law_take.ok sc__law_take (fun vs H Q E h => ?_) (fun cdv A' outer s H vs Q E hr h => ?_)
  · obtain ⟨f, z, rfl, _⟩ := h
    rfl
  · obtain ⟨f, z, rfl, ⟨l, xs, i, r, t, n, c, hf, hl, hi, hx, hr0⟩, hz, sz, q⟩ := h
    refine ⟨_, (pss_cons (ps_augS (pv 0) pe_int get_list pe_int ip_add set_list)
  (pss_cut (ps_if (PW.pt (pw_and (pt_cmpR op_eq (pe_ix ix_list (pv 0) pe_int (fun _ _ => rfl)) pe_int (nomark _)) (pw_and (pt_cmpR op_eq (pe_ix ix_list (pv 0) pe_int (fun _ _ => rfl)) pe_int (nomark _)) (pw_and1 (pt_cmpR op_lt (pe_ix ix_list (pv 0) pe_int (fun _ _ => rfl)) (pe_callB call_len_seq rfl T.z_len (by decide +kernel) (pa_cons (pe_ix ix_list (pv 0) pe_int (fun _ _ => rfl)) pa_nil)) (nomark _)))))) (pss_cons (ps_set (i := 2) sc__law_take.nd rfl (.inl rfl) (pe_ix ix_list (pe_ix ix_list (pv 0) pe_int (fun _ _ => rfl)) (pe_ix ix_list (pv 0) pe_int (fun _ _ => rfl)) (fun _ _ => rfl)))
  (pss_cons (ps_augS (pv 0) pe_int get_list pe_int ip_add set_list)
  (pss_one (ps_if (pt_cmpR op_ge (pv 2) (pe_op op_pow pe_int pe_int) (nomark _)) (pss_one (ps_asg (pv 2) (pg_sub (pv 0) pe_int set_list))) (pss_cons (ps_asg pe_int (pg_sub (pv 0) pe_int set_list))
  (pss_one (ps_asg (pe_op op_add (pe_ix ix_list (pv 0) pe_int (fun _ _ => rfl)) (pv 2)) (pg_sub (pv 0) pe_int set_list)))))))) pss_nil)
  (pss_cons (ps_if (pt_cmpR op_gt (pe_ix ix_list (pv 0) pe_int (fun _ _ => rfl)) pe_int (nomark _)) (pss_cons (ps_set (i := 3) sc__law_take.nd rfl (.inl rfl) (pe_op op_mod (pe_callTy call_int1 rfl T.z_int (by decide +kernel) (pa_cons (pe_ix ix_list (pv 0) pe_int (fun _ _ => rfl)) pa_nil)) (pv 1)))
  (pss_cons (ps_asg (pe_op op_fdivA (pe_ix ix_list (pv 0) pe_int (fun _ _ => rfl)) (pv 1)) (pg_sub (pv 0) pe_int set_list))
  (pss_one (ps_ret (pv 3))))) pss_nil)
  (pss_cons (ps_asg (pe_callB (call_max2 rfl) rfl T.z_max (by decide +kernel) (pa_cons pe_int (pa_cons (pe_op op_sub (pe_ix ix_list (pv 0) pe_int (fun _ _ => rfl)) pe_int) pa_nil))) (pg_sub (pv 0) pe_int set_list))
  (pss_cons (ps_set (i := 4) sc__law_take.nd rfl (.inl rfl) (pe_op op_mod (pe_callTy call_int1 rfl T.z_int (by decide +kernel) (pa_cons (pe_op op_mul (pe_op op_add (pe_op op_add (pe_ix ix_list (pv 0) pe_int (fun _ _ => rfl)) (pe_op op_mul pe_int (pe_ix ix_list (pv 0) pe_int (fun _ _ => rfl)))) pe_int) pe_int) pa_nil)) pe_int))
  (pss_cons (ps_set (i := 4) sc__law_take.nd rfl (.inl rfl) (pe_op op_mod (pe_callTy call_int1 rfl T.z_int (by decide +kernel) (pa_cons (pe_op op_mul (pv 4) (pe_op op_add (pe_op op_fdivA (pv 4) pe_int) pe_int)) pa_nil)) pe_int))
  (pss_cons (ps_set (i := 4) sc__law_take.nd rfl (.inl rfl) (pe_op op_mod (pe_callTy call_int1 rfl T.z_int (by decide +kernel) (pa_cons (pe_op op_mul (pv 4) (pe_op op_add (pe_op op_fdivA (pv 4) pe_int) pe_int)) pa_nil)) pe_int))
  (pss_one (ps_ret (pe_op op_mod (pv 4) (pv 1))))))))))), ?_⟩
    have N0 : Now H H f l i r t n c := ⟨hf, fun _ _ => rfl⟩
    have lf : l ≠ f := ne_of hl hf fun e => by
      have := HO.lst.inj e
      cases xs with
      | nil => cases this
      | cons x xs => cases this
    have fin : ∀ {H' i' r' t' n' c'} (v : Int), Now H H' f l ((i' : Nat) : Int) r' t' n' c' → i' ≤ xs.length → 0 ≤ r' → 0 ≤ v → v < z → Q (.int v) H' := fun v N h1 h2 h3 h4 =>
      q _ v h3 h4 ⟨⟨l, xs, _, _, _, _, _, N.at_, by rw [N.oth l lf]; exact hl, h1, hx, h2⟩, fun b o hb e => by rw [N.oth b hb]; exact e⟩
    -- feed[4] += 1
    refine ⟨_, rfl, f, _, 4, _, rfl, rfl, .of hf, rfl, n, 1, rfl, rfl, f, _, 4, 4, rfl, rfl, hf, rfl, ?_⟩
    have N1 : Now H (upd H f (six l i r t (n + 1) c)) f l i r t (n + 1) c := N0.put
    show tCut _ _ _ _ (upd H f (six l i r t (n + 1) c))
    generalize upd H f (six l i r t (n + 1) c) = H1 at N1
    -- the reading of a new cell
    refine ⟨fun σ H' => (∃ y, σ = [some (.ref f), some (.int z), y, none, none]) ∧ ∃ i' r' t' n' c', Now H H' f l ((i' : Nat) : Int) r' t' n' c' ∧ i' ≤ xs.length ∧ 0 ≤ r', ?_, ?_⟩
    · have skip : ∀ σ : L2.St, σ = [some (.ref f), some (.int z), none, none, none] → (∃ y, σ = [some (.ref f), some (.int z), y, none, none]) ∧ ∃ i' r' t' n' c', Now H H1 f l ((i' : Nat) : Int) r' t' n' c' ∧ i' ≤ xs.length ∧ 0 ≤ r' :=
        fun σ e => ⟨⟨_, e⟩, _, _, _, _, _, N1, hi, hr0⟩
      refine ⟨_, rfl, f, _, 2, _, rfl, rfl, .of N1.at_, rfl, rfl, _, rfl, ?_⟩
      refine ite2 (fun _ => ?_) (fun _ => iteF (skip _ rfl))
      refine ⟨_, rfl, f, _, 3, _, rfl, rfl, .of N1.at_, rfl, rfl, _, rfl, ?_⟩
      refine ite2 (fun _ => ?_) (fun _ => iteF (skip _ rfl))
      have hl1 : H1 l = some (.lst (xs.map V.int)) := by rw [N1.oth l lf]; exact hl
      refine ⟨_, rfl, f, _, 1, _, rfl, rfl, .of N1.at_, rfl, _, rfl, f, _, 0, _, rfl, rfl, .of N1.at_, rfl, l, _, rfl, .inl (.of hl1), _, _, rfl, rfl, _, rfl, ?_⟩
      refine ite2 (fun hlt => ?_) (fun _ => skip _ rfl)
      have hlt' : i < xs.length := by
        have := of_decide_eq_true hlt
        rw [List.length_map] at this
        omega
      have gi : (xs.map V.int)[i]? = some (.int xs[i]) := by
        rw [List.getElem?_map, List.getElem?_eq_getElem hlt']
        rfl
      refine ⟨_, rfl, f, _, 0, _, rfl, rfl, .of N1.at_, rfl, _, rfl, f, _, 1, _, rfl, rfl, .of N1.at_, rfl, l, _, i, _, rfl, rfl, .of hl1, atI_nat gi, ?_⟩
      refine ⟨_, rfl, f, _, 1, _, rfl, rfl, .of N1.at_, rfl, i, 1, rfl, rfl, f, _, 1, 1, rfl, rfl, N1.at_, rfl, ?_⟩
      have ei : ((i : Int) + 1) = ((i + 1 : Nat) : Int) := by omega
      have N2 : Now H (upd H1 f (six l ((i : Int) + 1) r t (n + 1) c)) f l ((i : Int) + 1) r t (n + 1) c := N1.put
      refine ⟨_, rfl, _, _, rfl, rfl, ⟨by decide, by decide, by decide⟩, _, _, rfl, rfl, _, rfl, ?_⟩
      refine ite2 (fun hbig => ?_) (fun hbig => ?_)
      · have hb : 0 ≤ xs[i] := by
          have := of_decide_eq_true hbig
          have e : (10 : Int) ^ (18 : Int).toNat = 1000000000000000000 := by decide
          rw [e] at this
          omega
        refine ⟨_, rfl, _, rfl, f, _, 2, 2, rfl, rfl, N2.at_, rfl, ⟨_, rfl⟩, ?_⟩
        exact ⟨i + 1, _, _, _, _, ei ▸ N2.put, hlt', hb⟩
      · refine ⟨_, rfl, f, _, 3, 3, rfl, rfl, N2.at_, rfl, ?_⟩
        have N3 : Now H (upd (upd H1 f (six l ((i : Int) + 1) r t (n + 1) c)) f (six l ((i : Int) + 1) r 7 (n + 1) c)) f l ((i : Int) + 1) r 7 (n + 1) c := N2.put
        refine ⟨_, rfl, f, _, 5, _, rfl, rfl, .of N3.at_, rfl, _, rfl, _, _, rfl, rfl, _, rfl, f, _, 5, 5, rfl, rfl, N3.at_, rfl, ⟨_, rfl⟩, ?_⟩
        exact ⟨i + 1, _, _, _, _, ei ▸ N3.put, hlt', hr0⟩
    -- a digit
    · rintro σ H2 ⟨⟨y, rfl⟩, i', r', t', n', c', N2, hi', hr'⟩
      refine ⟨_, rfl, f, _, 2, _, rfl, rfl, .of N2.at_, rfl, _, _, rfl, rfl, _, rfl, ?_⟩
      refine ite2 (fun _ => ?_) (fun _ => ?_)
      · refine ⟨_, rfl, f, _, 2, _, rfl, rfl, .of N2.at_, rfl, .inl ⟨_, rfl, _, rfl, _, _, rfl, rfl, hz, ?_⟩⟩
        refine ⟨_, rfl, f, _, 2, _, rfl, rfl, .of N2.at_, rfl, _, rfl, _, _, rfl, rfl, sz.div (by omega), _, rfl, f, _, 2, 2, rfl, rfl, N2.at_, rfl, ?_⟩
        exact ⟨_, rfl, fin _ N2.put hi' (fdiv_nn hr' hz) (Int.emod_nonneg _ (by omega)) (Int.emod_lt_of_pos _ hz)⟩
      · refine ⟨_, rfl, f, _, 3, _, rfl, rfl, .of N2.at_, rfl, _, _, rfl, rfl, _, _, rfl, _, rfl, f, _, 3, 3, rfl, rfl, N2.at_, rfl, ?_⟩
        have N3 : ∀ t'', Now H (upd H2 f (six l ((i' : Nat) : Int) r' t'' n' c')) f l ((i' : Nat) : Int) r' t'' n' c' := fun _ => N2.put
        show tSeq _ _ _ _ (upd H2 f (six l ((i' : Nat) : Int) r' _ n' c'))
        generalize hT : (if t' - 1 > 0 then t' - 1 else (0 : Int)) = t3
        have N3 := N3 t3
        generalize upd H2 f (six l ((i' : Nat) : Int) r' t3 n' c') = H3 at N3
        refine ⟨_, rfl, f, _, 5, _, rfl, rfl, .of N3.at_, rfl, _, rfl, f, _, 4, _, rfl, rfl, .of N3.at_, rfl, _, _, rfl, rfl, .inl ⟨by decide, by decide⟩, _, _, rfl, rfl, _, _, rfl, rfl, _, _, rfl, rfl, .inr ⟨by decide, by decide⟩, .inl ⟨_, rfl, _, _, rfl, rfl, lt_mod, ?_⟩⟩
        have b1 : ∀ x : Int, 0 ≤ x % 2147483647 ∧ x % 2147483647 < 2147483647 := fun x => ⟨Int.emod_nonneg _ (by decide), Int.emod_lt_of_pos _ (by decide)⟩
        generalize hA : ((c' + 7919 * n' + 1) * 48271) % 2147483647 = a1
        have a1b := b1 ((c' + 7919 * n' + 1) * 48271)
        rw [hA] at a1b
        refine ⟨_, rfl, _, rfl, _, _, rfl, rfl, ⟨by decide, by decide⟩, _, _, rfl, rfl, _, _, rfl, rfl, .inl ⟨by omega, by omega⟩, .inl ⟨_, rfl, _, _, rfl, rfl, lt_mod, ?_⟩⟩
        generalize hB : (a1 * (a1.fdiv 1009 + 69621)) % 2147483647 = a2
        have a2b := b1 (a1 * (a1.fdiv 1009 + 69621))
        rw [hB] at a2b
        refine ⟨_, rfl, _, rfl, _, _, rfl, rfl, ⟨by decide, by decide⟩, _, _, rfl, rfl, _, _, rfl, rfl, .inl ⟨by omega, by omega⟩, .inl ⟨_, rfl, _, _, rfl, rfl, lt_mod', ?_⟩⟩
        exact ⟨_, rfl, _, rfl, _, _, rfl, rfl, hz, fin _ N3 hi' hr' (Int.emod_nonneg _ (by omega)) (Int.emod_lt_of_pos _ hz)⟩
def sp_number : Sp := fun vs H Q _ => ∃ (f : Addr) (z : Int), vs = [.ref f, .int z] ∧ FeedAt H f ∧ 0 < z ∧ Sm z ∧ ∀ H' v, -z < v → v < z → Stp f H H' → Q (.int v) H'
theorem ok__law_number (T : Txt K mg A D) : FnOk P w K mg base CX0 2 A.f__law_number D.f__law_number ["_law_feed_here", "_law_size_here"] (sp_number) := by
  have G__law_take : FnOk P w K mg base CX0 1 A.f__law_take D.f__law_take ["_law_feed_here", "_law_size_here"] (sp_take) := ok__law_take T
  refine T.F__law_number.ok sc__law_number (fun vs H Q E h => ?_) (fun cdv A' outer s H vs Q E hr h => ?_)
  · obtain ⟨f, z, rfl, _⟩ := h
    rfl
  · obtain ⟨f, z, rfl, hf, hz, sz, q⟩ := h
    refine ⟨_, (pss_cons (ps_set (i := 2) sc__law_number.nd rfl (.inl rfl) (pe_op op_sub pe_int (pe_op op_mul pe_int (pe_call G__law_take (hr.mono (by decide)) rfl T.g__law_take T.F__law_take.kp T.b__law_take .nil pass0 (pa_cons (pv 0) (pa_cons pe_int pa_nil))))))
  (pss_one (ps_ret (pe_op op_mul (pv 2) (pe_call G__law_take (hr.mono (by decide)) rfl T.g__law_take T.F__law_take.kp T.b__law_take .nil pass0 (pa_cons (pv 0) (pa_cons (pv 1) pa_nil))))))), ?_⟩
    refine ⟨_, rfl, f, 2, rfl, hf, by decide, .ab (by decide) (by decide), fun H1 v v0 v1 st => ⟨_, _, rfl, rfl, .inl ⟨by decide, by decide⟩, _, _, rfl, rfl, ?_⟩⟩
    refine ⟨_, rfl, _, rfl, _, rfl, f, z, rfl, st.feed, hz, sz, fun H2 u u0 u1 st2 => ⟨_, _, rfl, rfl, .inl ⟨by omega, by omega⟩, q _ _ ?_ ?_ (st.trans st2)⟩⟩
    · rcases (by omega : v = 0 ∨ v = 1) with e | e <;> subst e <;> omega
    · rcases (by omega : v = 0 ∨ v = 1) with e | e <;> subst e <;> omega

end

end Mo

namespace Mo
open PySem PySem.Spec PyProof.Rows L2 MoL MoW
open C8 (pss_cut tCut)
section
variable {P : Program} {w : World} {K : PySem.W.Frag} {mg : Str → Option Value} {base : Heap} {A : Ad} {D : Fd}
theorem ok__law_is_integer (T : Txt K mg A D) : FnOk P w K mg base CX0 1 A.f__law_is_integer D.f__law_is_integer ["_law_value"] (sp_is_whole K) := by
  skip
  refine T.F__law_is_integer.ok sc__law_is_integer (fun vs H Q E h => ?_) (fun cdv A' outer s H vs Q E hr h => ?_)
  · obtain ⟨x, b, rfl, _⟩ := h
    rfl
  · obtain ⟨x, b, rfl, ⟨t, b1, b2, ty, e1, e2, rfl⟩, q⟩ := h
    refine ⟨_, (pss_one (ps_ret (pe_and (pe_callB call_isi rfl T.z_isinstance (by decide +kernel) (pa_cons (pv 0) (pa_cons (pe_bltn (v := .ty "int") rfl T.z_int (by decide +kernel) rfl) pa_nil))) (pe_one (pe_not (pe_callB call_isi rfl T.z_isinstance (by decide +kernel) (pa_cons (pv 0) (pa_cons (pe_bltn (v := .ty "bool") rfl T.z_bool (by decide +kernel) rfl) pa_nil)))))))), ?_⟩
    refine ⟨x, rfl, x, .ty "int", t, _, b1, rfl, .ty _, ty, e1, b1, rfl, ?_⟩
    cases b1 with
    | false => exact iteF q
    | true => exact iteT ⟨x, rfl, x, .ty "bool", t, _, b2, rfl, .ty _, ty, e2 rfl, b2, rfl, q⟩
/-! ### the law's own division: the product of the two numbers falls to its half at least -/
theorem eu_first {a b : Nat} (hb : 0 < b) (sb : b < 2 ^ 133) : b * (a % b) < 2 ^ 266 := by
  have h1 : a % b < 2 ^ 133 := Nat.lt_trans (Nat.mod_lt a hb) sb
  have h2 : b * (a % b) < 2 ^ 133 * 2 ^ 133 := Nat.mul_lt_mul'' sb h1
  exact Nat.lt_of_lt_of_le h2 (by decide)
theorem eu_next {a b i : Nat} (hb : 0 < b) (hab : b < a) (h : a * b * 2 ^ i < 2 ^ 266) : b * (a % b) * 2 ^ (i + 1) < 2 ^ 266 := by
  have e := Nat.div_add_mod a b
  have q1 : 1 ≤ a / b := (Nat.one_le_div_iff hb).mpr (Nat.le_of_lt hab)
  have r1 := Nat.mod_lt a hb
  have m1 : b * 1 ≤ b * (a / b) := Nat.mul_le_mul_left b q1
  have le : 2 * (a % b) ≤ a := by omega
  have l2 : b * (2 * (a % b)) ≤ b * a := Nat.mul_le_mul_left b le
  have l3 : b * (2 * (a % b)) * 2 ^ i ≤ b * a * 2 ^ i := Nat.mul_le_mul_right _ l2
  have e2 : b * (a % b) * 2 ^ (i + 1) = b * (2 * (a % b)) * 2 ^ i := by
    rw [Nat.pow_succ]
    generalize 2 ^ i = z
    generalize a % b = r
    grind
  rw [e2]
  rw [Nat.mul_comm a b] at h
  exact Nat.lt_of_le_of_lt l3 h
theorem eu_end {a b : Nat} (hab : b < a) (h : a * b * 2 ^ 399 < 2 ^ 266) : b = 0 := by
  rcases Nat.eq_zero_or_pos b with e | hb
  · exact e
  · have h1 : 1 ≤ a * b := Nat.mul_pos (by omega) hb
    have h2 : 1 * 2 ^ 399 ≤ a * b * 2 ^ 399 := Nat.mul_le_mul_right _ h1
    have h3 : (1 * 2 ^ 399 : Nat) < 2 ^ 266 := Nat.lt_of_le_of_lt h2 h
    exact absurd h3 (by decide)
theorem abs_nat (i : Int) : (if i < 0 then -i else i) = ((i.natAbs : Nat) : Int) := by
  split <;> omega
def sp_divisor : Sp := fun vs H Q _ => ∃ a b : Int, vs = [.int a, .int b] ∧ a.natAbs < 2 ^ 133 ∧ b.natAbs < 2 ^ 133 ∧ Q (.int ((Nat.gcd a.natAbs b.natAbs : Nat) : Int)) H
theorem ok__law_divisor (T : Txt K mg A D) : FnOk P w K mg base CX0 1 A.f__law_divisor D.f__law_divisor ["_law_a", "_law_b"] (sp_divisor) := by
  skip
  refine T.F__law_divisor.ok sc__law_divisor (fun vs H Q E h => ?_) (fun cdv A' outer s H vs Q E hr h => ?_)
  · obtain ⟨a, b, rfl, _⟩ := h
    rfl
  · obtain ⟨a, b, rfl, sa, sb, q⟩ := h
    refine ⟨_, (pss_cons (ps_set (i := 0) sc__law_divisor.nd rfl (.inl rfl) (pe_callB call_abs rfl T.z_abs (by decide +kernel) (pa_cons (pv 0) pa_nil)))
  (pss_cons (ps_set (i := 1) sc__law_divisor.nd rfl (.inl rfl) (pe_callB call_abs rfl T.z_abs (by decide +kernel) (pa_cons (pv 1) pa_nil)))
  (pss_cons (ps_for PassesOwn.never rfl (pi_range1 rfl T.z_range (pa_cons pe_int pa_nil)) (pg_name (i := 2) sc__law_divisor.nd rfl (.inl rfl)) (pss_cons (ps_if (pt_cmpR op_eq (pv 1) pe_int (nomark _)) (pss_one ps_break) pss_nil)
  (pss_cons (ps_set (i := 3) sc__law_divisor.nd rfl (.inl rfl) (pe_op op_mod (pe_callTy call_int1 rfl T.z_int (by decide +kernel) (pa_cons (pv 0) pa_nil)) (pv 1)))
  (pss_cons (ps_set (i := 0) sc__law_divisor.nd rfl (.inl rfl) (pv 1))
  (pss_one (ps_set (i := 1) sc__law_divisor.nd rfl (.inl rfl) (pv 3)))))))
  (pss_one (ps_ret (pv 0)))))), ?_⟩
    refine ⟨_, rfl, _, rfl, _, rfl, _, rfl, 400, rfl, by decide, by decide, ?_⟩
    rw [abs_nat a, abs_nat b]
    generalize a.natAbs = a0 at sa q
    generalize b.natAbs = b0 at sb q
    refine for_range (n := 400) (lo := 0) (fun i σ H' => H' = H ∧ ∃ (a b : Nat) (y2 y3 : Option V), σ = [some (.int (a : Int)), some (.int (b : Int)), y2, y3] ∧ Nat.gcd a b = Nat.gcd a0 b0 ∧ a < 2 ^ 133 ∧ b < 2 ^ 133 ∧ (i = 0 ∨ ∃ j, i = j + 1 ∧ b < a ∧ a * b * 2 ^ j < 2 ^ 266))
      ⟨rfl, a0, b0, _, _, rfl, rfl, sa, sb, .inl rfl⟩ ?_ ?_
    · rintro i σ H' hi ⟨rfl, a, b, y2, y3, rfl, hg, sa, sb, hc⟩
      rcases Nat.eq_zero_or_pos b with rfl | hb
      · refine ⟨_, rfl, rfl, _, rfl, iteTe (by decide) ?_⟩
        rw [Nat.gcd_zero_right] at hg
        rw [hg]
        exact ⟨_, rfl, q⟩
      · have e0 : decide (V.int ((b : Nat) : Int) = V.int 0) = false := decide_eq_false fun z => by have := V.int.inj z; omega
        refine ⟨_, rfl, rfl, _, rfl, iteFe e0 ?_⟩
        refine ⟨_, rfl, .inl ⟨_, rfl, _, rfl, _, _, rfl, rfl, by omega, ?_⟩⟩
        refine ⟨_, rfl, ?_⟩
        refine ⟨_, rfl, rfl, b, a % b, _, _, rfl, ?_, sb, Nat.lt_trans (Nat.mod_lt a hb) sb, .inr ⟨i, rfl, Nat.mod_lt a hb, ?_⟩⟩
        · rw [← hg, Nat.gcd_comm b, ← Nat.gcd_rec, Nat.gcd_comm]
        · rcases hc with rfl | ⟨j, rfl, hab, h⟩
          · have := eu_first (a := a) hb sb
            simpa using this
          · exact eu_next hb hab h
    · rintro σ H' ⟨rfl, a, b, y2, y3, rfl, hg, sa, sb, hc⟩
      rcases hc with hc | ⟨j, hj, hab, h⟩
      · exact absurd hc (by decide)
      · have ej : j = 399 := by omega
        subst ej
        have := eu_end hab h
        subst this
        rw [Nat.gcd_zero_right] at hg
        rw [hg]
        exact ⟨_, rfl, q⟩
def sp_size : Sp := fun vs H Q _ => ∃ f : Addr, vs = [.ref f] ∧ FeedAt H f ∧ ∀ H' z, 0 < z → z ≤ 100000000000000000000 → Stp f H H' → Q (.int z) H'
theorem ok__law_size (T : Txt K mg A D) : FnOk P w K mg base CX0 2 A.f__law_size D.f__law_size ["_law_feed_here"] (sp_size) := by
  have G__law_take : FnOk P w K mg base CX0 1 A.f__law_take D.f__law_take ["_law_feed_here", "_law_size_here"] (sp_take) := ok__law_take T
  refine T.F__law_size.ok sc__law_size (fun vs H Q E h => ?_) (fun cdv A' outer s H vs Q E hr h => ?_)
  · obtain ⟨f, rfl, _⟩ := h
    rfl
  · obtain ⟨f, rfl, F0, q⟩ := h
    refine ⟨_, (pss_one (ps_ret (pe_ix ix_list (pe_lst (pa_cons pe_int (pa_cons (pe_op op_pow pe_int pe_int) (pa_cons (pe_op op_pow pe_int pe_int) pa_nil)))) (pe_call G__law_take (hr.mono (by decide)) rfl T.g__law_take T.F__law_take.kp T.b__law_take .nil pass0 (pa_cons (pv 0) (pa_cons pe_int pa_nil))) (fun _ _ => rfl)))), ?_⟩
    refine ⟨_, _, rfl, rfl, ⟨by decide, by decide, by decide⟩, _, _, rfl, rfl, ⟨by decide, by decide, by decide⟩, by show 3 ≤ sizeLine; decide, fun p np => ?_⟩
    have s1 : Same H (upd H p (.lst [.int 21, .int (10 ^ (20 : Int).toNat), .int (10 ^ (20 : Int).toNat)])) := same_upd np
    refine ⟨_, rfl, f, 3, rfl, F0.same s1, by decide, .ab (by decide) (by decide), fun H3 k k0 k1 st3 => ?_⟩
    have pf : p ≠ f := (F0.lt np).symm
    have hp3 := st3.keep _ _ pf upd_same
    obtain ⟨z, hz, z0, z1⟩ : ∃ z : Int, atI [V.int 21, .int (10 ^ (20 : Int).toNat), .int (10 ^ (20 : Int).toNat)] k = some (.int z) ∧ 0 < z ∧ z ≤ 100000000000000000000 := by
      rcases (by omega : k = 0 ∨ k = 1 ∨ k = 2) with e | e | e <;> subst e
      · exact ⟨_, rfl, by decide, by decide⟩
      · exact ⟨_, rfl, by decide, by decide⟩
      · exact ⟨_, rfl, by decide, by decide⟩
    refine ⟨p, _, k, _, rfl, rfl, .of hp3, hz, ?_⟩
    exact q _ _ z0 z1 ⟨st3.feed, fun b o hb e => st3.keep b o hb (s1 b o e)⟩

/-! ### what stays wrong when things come beside -/
theorem ty_same {H H' : Hp} {x : V} {t : Value} (s : Same H H') (h : TyX K H x t) : TyX K H' x t := by
  cases h with
  | base b =>
    refine .base ?_
    cases b with
    | non => exact .non
    | bl y => exact .bl y
    | int i => exact .int i
    | str y => exact .str y
    | flt y => exact .flt y
    | lst e => exact .lst (s _ _ e)
    | frz e => exact .frz (s _ _ e)
    | tup e => exact .tup (s _ _ e)
    | dK e => exact .dK (s _ _ e)
    | dT e => exact .dT (s _ _ e)
    | ins e a b c d f => exact .ins (s _ _ e) a b c d f
  | byt b => exact .byt b
  | set e => exact .set (s _ _ e)
  | kList e c => exact .kList e c
  | kTuple e c => exact .kTuple e c
  | kDict e c => exact .kDict e c
  | fTuple e => exact .fTuple (s _ _ e)
  | fDict e => exact .fDict (s _ _ e)
theorem WholeV.same {H H' : Hp} {x : V} {b : Bool} (h : WholeV K H x b) (s : Same H H') : WholeV K H' x b := by
  obtain ⟨t, b1, b2, ty, r⟩ := h
  exact ⟨t, b1, b2, ty_same s ty, r⟩
theorem Wrong.same {H H' : Hp} {x y : V} {z : Str} (h : Wrong K H x y z) (s : Same H H') : Wrong K H' x y z := by
  rcases h with ⟨a, e⟩ | ⟨a, b, e⟩ | h
  · exact .inl ⟨a.same s, e⟩
  · exact .inr (.inl ⟨a.same s, b.same s, e⟩)
  · exact .inr (.inr h)
def sp_refused (K : PySem.W.Frag) : Sp := fun vs H Q _ => ∃ (x y : V) (z : Str), vs = [x, y, .str z] ∧ Wrong K H x y z ∧ ∀ H', Same H H' → Q (.bl true) H'
theorem ok__law_refused (T : Txt K mg A D) : FnOk P w K mg base CX0 5 A.f__law_refused D.f__law_refused ["_law_top", "_law_bottom", "_law_word"] (sp_refused K) := by
  have G_Ratio_init : FnOk P w K mg base (L2.CX P w) 3 A.f_Ratio___init__ D.f_Ratio___init__ ["self", "top", "bottom"] (sp_init K A.Ratio A.NoRatio) := ok_Ratio___init__ T
  have b_Ratio_init2 := T.b_Ratio___init__
  have d_Ratio_init2 : Vals [] [] := .nil
  refine T.F__law_refused.ok sc__law_refused (fun vs H Q E h => ?_) (fun cdv A' outer s H vs Q E hr h => ?_)
  · obtain ⟨x, y, z, rfl, _⟩ := h
    rfl
  · obtain ⟨x, y, z, rfl, hw, q⟩ := h
    refine ⟨_, (pss_cons (ps_set (i := 3) sc__law_refused.nd rfl (.inl rfl) pe_bl)
  (pss_cons (ps_try_as (i := 4) rfl rfl sc__law_refused.nd rfl rfl ⟨rfl, by decide, .inl T.g_NoRatio⟩ takes0 (fun W pn xe tk _ => (pss_one (ps_expr (pe_makeA T.M_Ratio G_Ratio_init (hr.mono (by decide)) rfl T.g_Ratio b_Ratio_init2 d_Ratio_init2 (fun σ => passAt tk σ) (by exact (pa_cons (pv 0) (pa_cons (pv 1) pa_nil))))))) (fun oa oe cls d pn hz hf => (pss_cons (ps_set (i := 3) sc__law_refused.nd rfl (.inl rfl) (pe_and (pe_cmpR op_eq (pe_xf T.x_NoRatio T.n_NoRatio_word hz hf (pv 4)) (pv 2) (nomark _)) (pe_and (pe_callB (call_isD T.c_NoRatio hz hf) rfl T.z_isinstance (by decide +kernel) (pa_cons (pv 4) (pa_cons (pe_glob (v := .ref A.MeansError) rfl T.g_MeansError rfl) pa_nil))) (pe_one (pe_callB (call_isD T.c_NoRatio hz hf) rfl T.z_isinstance (by decide +kernel) (pa_cons (pv 4) (pa_cons (pe_bltn (v := .ty "ValueError") rfl T.z_ValueError (by decide +kernel) rfl) pa_nil)))))))
  (pss_one (ps_set (i := 3) sc__law_refused.nd rfl (.inl rfl) (pe_and (pv 3) (pe_and (pe_not (pe_callB (call_isD T.c_NoRatio hz hf) rfl T.z_isinstance (by decide +kernel) (pa_cons (pv 4) (pa_cons (pe_glob (v := .ref A.NoNumber) rfl T.g_NoNumber rfl) pa_nil)))) (pe_one (pe_not (pe_callB (call_isD T.c_NoRatio hz hf) rfl T.z_isinstance (by decide +kernel) (pa_cons (pv 4) (pa_cons (pe_glob (v := .ref A.NoPoly) rfl T.g_NoPoly rfl) pa_nil))))))))))))
  (pss_one (ps_ret (pv 3))))), ?_⟩
    refine ⟨_, rfl, _, rfl, fun r dx nr nd ne => ?_⟩
    have s1 : Same H (upd (upd H dx (.own r)) r (.ins A.Ratio dx [])) := same_upd' (same_upd nd) nr
    refine ⟨r, dx, x, y, rfl, upd_same, .inr ⟨z, hw.same s1, fun d hd => ?_⟩⟩
    have s2 := s1.trans (same_upd (o := .xd [("word", .str z)]) hd)
    refine ⟨true, T.em_NoRatio, fun _ a0 _ => ?_, fun n => Bool.noConfusion n⟩
    refine ⟨_, rfl, rfl, rfl, d, _, _, rfl, upd_same, rfl, _, rfl, rfl, true, congrArg V.bl (decide_eq_true rfl), iteT ?_⟩
    refine ⟨_, rfl, .ref A.MeansError, _, true, d, _, rfl, rfl, rfl, upd_same, .own _, T.kit_NoRatio_MeansError, true, rfl, iteT ?_⟩
    refine ⟨_, rfl, .ty "ValueError", _, true, d, _, rfl, rfl, rfl, upd_same, .ty _, T.kit_NoRatio_ValueError, ?_⟩
    refine ⟨_, rfl, true, rfl, iteT ?_⟩
    refine ⟨_, rfl, .ref A.NoNumber, _, false, d, _, rfl, rfl, rfl, upd_same, .own _, T.kit_NoRatio_NoNumber, false, rfl, true, rfl, iteT ?_⟩
    refine ⟨_, rfl, .ref A.NoPoly, _, false, d, _, rfl, rfl, rfl, upd_same, .own _, T.kit_NoRatio_NoPoly, false, rfl, ?_⟩
    exact ⟨_, rfl, q _ s2⟩
def sp_good (C : Addr) : Sp := fun vs H Q _ => ∃ (v : V) (t b t' b' : Int), vs = [v, .int t, .int b] ∧ RatAt C H v t' b' ∧ Norm t b t' b' ∧ t.natAbs < 2 ^ 133 ∧ b.natAbs < 2 ^ 133 ∧ Q (.bl true) H
theorem ok__law_good (T : Txt K mg A D) : FnOk P w K mg base CX0 2 A.f__law_good D.f__law_good ["_law_value", "_law_top", "_law_bottom"] (sp_good A.Ratio) := by
  have G__law_divisor : FnOk P w K mg base CX0 1 A.f__law_divisor D.f__law_divisor ["_law_a", "_law_b"] (sp_divisor) := ok__law_divisor T
  have G__law_is_integer : FnOk P w K mg base CX0 1 A.f__law_is_integer D.f__law_is_integer ["_law_value"] (sp_is_whole K) := ok__law_is_integer T
  refine T.F__law_good.ok sc__law_good (fun vs H Q E h => ?_) (fun cdv A' outer s H vs Q E hr h => ?_)
  · obtain ⟨v, t, b, t', b', rfl, _⟩ := h
    rfl
  · obtain ⟨v, t, b, t', b', rfl, ⟨a, dx, rfl, ha⟩, nm, st, sb, q⟩ := h
    refine ⟨_, (pss_cons (ps_if (PW.pt (pw_or (pt_not (pt_val (pe_call G__law_is_integer (hr.mono (by decide)) rfl T.g__law_is_integer T.F__law_is_integer.kp T.b__law_is_integer .nil pass0 (pa_cons (pe_fld (pv 0) rfl) pa_nil)))) (pw_or (pt_not (pt_val (pe_call G__law_is_integer (hr.mono (by decide)) rfl T.g__law_is_integer T.F__law_is_integer.kp T.b__law_is_integer .nil pass0 (pa_cons (pe_fld (pv 0) rfl) pa_nil)))) (pw_or1 (pt_cmpR op_lt (pe_fld (pv 0) rfl) pe_int (nomark _)))))) (pss_one (ps_ret pe_bl)) pss_nil)
  (pss_one (ps_ret (pe_and (pe_cmpR op_eq (pe_op op_mulW (pe_fld (pv 0) rfl) (pv 2)) (pe_op op_mulW (pv 1) (pe_fld (pv 0) rfl)) (nomark _)) (pe_one (pe_cmpR op_eq (pe_call G__law_divisor (hr.mono (by decide)) rfl T.g__law_divisor T.F__law_divisor.kp T.b__law_divisor .nil pass0 (pa_cons (pe_fld (pv 0) rfl) (pa_cons (pe_fld (pv 0) rfl) pa_nil))) pe_int (nomark _))))))), ?_⟩
    have cl := T.k_Ratio.cl
    have nt := T.k_Ratio.n_top
    have nb := T.k_Ratio.n_bottom
    have st' := Nat.lt_of_le_of_lt nm.le1 st
    have sb' := Nat.lt_of_le_of_lt nm.le2 sb
    have S : ∀ {i : Int}, i.natAbs < 2 ^ 133 → Sm i := fun h => Sm.of h (by decide)
    refine ⟨_, rfl, a, A.Ratio, dx, _, _, rfl, ha, cl, nt, rfl, _, _, rfl, whole_int t', true, rfl, iteF ?_⟩
    refine ⟨_, rfl, a, A.Ratio, dx, _, _, rfl, ha, cl, nb, rfl, _, _, rfl, whole_int b', true, rfl, iteF ?_⟩
    refine ⟨_, rfl, a, A.Ratio, dx, _, _, rfl, ha, cl, nb, rfl, _, _, rfl, rfl, _, rfl, iteFe (decide_eq_false (by have := nm.pos; omega)) ?_⟩
    refine ⟨_, rfl, a, A.Ratio, dx, _, _, rfl, ha, cl, nt, rfl, _, rfl, _, _, rfl, rfl, (S st').mul (S sb), ?_⟩
    refine ⟨_, rfl, _, rfl, a, A.Ratio, dx, _, _, rfl, ha, cl, nb, rfl, _, _, rfl, rfl, (S st).mul (S sb'), rfl, true, congrArg V.bl (decide_eq_true (by show V.int (t' * b) = V.int (t * b'); rw [nm.cross])), iteT ?_⟩
    refine ⟨_, rfl, a, A.Ratio, dx, _, _, rfl, ha, cl, nt, rfl, _, rfl, a, A.Ratio, dx, _, _, rfl, ha, cl, nb, rfl, _, _, rfl, st', sb', rfl, ?_⟩
    rw [nm.cop]
    exact q

/-! ### the strange values -/
def Odd (C : Addr) (H : Hp) (x : V) : Prop := x = .non ∨ (∃ s, x = .str s) ∨ (∃ b, x = .bl b) ∨ (∃ l, x = .ref l ∧ H l = some (.lst [.int 1])) ∨ (∃ l, x = .ref l ∧ H l = some (.tup [.int 2])) ∨ Ins H x C
theorem Odd.keep {C f : Addr} {H H' : Hp} {x : V} (o : Odd C H x) (F : FeedAt H f) (k : ∀ b o, b ≠ f → H b = some o → H' b = some o) : Odd C H' x := by
  rcases o with h | h | h | ⟨l, e, h⟩ | ⟨l, e, h⟩ | ⟨a, dx, fs, e, h⟩
  · exact .inl h
  · exact .inr (.inl h)
  · exact .inr (.inr (.inl h))
  · exact .inr (.inr (.inr (.inl ⟨l, e, k _ _ (F.ne h fun _ _ _ _ _ _ z => by cases z) h⟩)))
  · exact .inr (.inr (.inr (.inr (.inl ⟨l, e, k _ _ (F.ne h fun _ _ _ _ _ _ z => by cases z) h⟩))))
  · exact .inr (.inr (.inr (.inr (.inr ⟨a, dx, fs, e, k _ _ (F.ne h fun _ _ _ _ _ _ z => by cases z) h⟩))))
theorem Odd.whole (T : Txt K mg A D) {H : Hp} {x : V} (o : Odd A.Ratio H x) : WholeV K H x false := by
  have no : ∀ {t : Value}, TyX K H x t → PySem.W.kitOne K t (.type "int") = some false → WholeV K H x false := fun ty e => ⟨_, false, false, ty, e, (fun z => nomatch z), rfl⟩
  rcases o with h | ⟨s, h⟩ | ⟨b, h⟩ | ⟨l, h, e⟩ | ⟨l, h, e⟩ | ⟨a, dx, fs, h, e⟩ <;> subst h
  · exact no (.base .non) (kit_ty (by decide +kernel))
  · exact no (.base (.str s)) (kit_ty (by decide +kernel))
  · exact ⟨_, true, true, .base (.bl b), kit_ty (by decide +kernel), fun _ => kit_ty (by decide +kernel), rfl⟩
  · exact no (.base (.lst e)) (kit_ty (by decide +kernel))
  · exact no (.base (.tup e)) (kit_ty (by decide +kernel))
  · exact no (T.k_Ratio.ty e) T.k_Ratio.ki
def StrAt (C : Addr) (H : Hp) (p : Addr) : Prop := ∃ xs : List V, H p = some (.lst xs) ∧ xs.length = 7 ∧ ∀ x ∈ xs, Odd C H x
theorem StrAt.keep {C f p : Addr} {H H' : Hp} (o : StrAt C H p) (F : FeedAt H f) (k : ∀ b o, b ≠ f → H b = some o → H' b = some o) : StrAt C H' p := by
  obtain ⟨xs, h, l, q⟩ := o
  refine ⟨xs, k _ _ (F.ne h fun _ _ _ _ _ _ z => ?_) h, l, fun x hx => (q x hx).keep F k⟩
  have := HO.lst.inj z
  rw [← this] at l
  cases l
theorem StrAt.get {C p : Addr} {H : Hp} (o : StrAt C H p) {k : Int} (h0 : 0 ≤ k) (h1 : k < 7) : ∃ xs x, H p = some (.lst xs) ∧ atI xs k = some x ∧ Odd C H x := by
  obtain ⟨xs, h, l, q⟩ := o
  obtain ⟨n, rfl⟩ : ∃ n : Nat, k = (n : Int) := ⟨k.toNat, by omega⟩
  have hn : n < xs.length := by omega
  exact ⟨xs, xs[n], h, atI_nat (List.getElem?_eq_getElem hn), q _ (List.getElem_mem hn)⟩
theorem mul40 {x y : Int} (a : -100000000000000000000 < x) (b : x < 100000000000000000000) (c : -100000000000000000000 < y) (d : y < 100000000000000000000) : (x * y).natAbs < 2 ^ 133 := by
  rw [Int.natAbs_mul]
  exact Nat.lt_of_lt_of_le (Nat.mul_lt_mul'' (show x.natAbs < 100000000000000000000 by omega) (show y.natAbs < 100000000000000000000 by omega)) (by decide)
def sp_law (K : PySem.W.Frag) : Sp := fun vs H Q _ => ∃ (a : Addr) (ns : List Int), vs = [.ref a] ∧ SqL K H a (ns.map V.int) ∧ ns.length ≤ 63 ∧ ∀ H', Q (.bl true) H'
theorem ok_law (T : Txt K mg A D) : FnOk P w K mg base CX0 6 A.f_law D.f_law ["_law_script"] (sp_law K) := by
  have G_Ratio_init : FnOk P w K mg base (L2.CX P w) 3 A.f_Ratio___init__ D.f_Ratio___init__ ["self", "top", "bottom"] (sp_init K A.Ratio A.NoRatio) := ok_Ratio___init__ T
  obtain ⟨ds1, d_Ratio_init1, b_Ratio_init1⟩ := T.b1_Ratio___init__
  have b_Ratio_init2 := T.b_Ratio___init__
  have d_Ratio_init2 : Vals [] [] := .nil
  obtain ⟨kits_Ratio, kb_Ratio⟩ := T.kb_Ratio___init__
  have G__law_feed : FnOk P w K mg base CX0 1 A.f__law_feed D.f__law_feed ["_law_script"] (sp_feed K) := ok__law_feed T
  have G__law_good : FnOk P w K mg base CX0 2 A.f__law_good D.f__law_good ["_law_value", "_law_top", "_law_bottom"] (sp_good A.Ratio) := ok__law_good T
  have G__law_number : FnOk P w K mg base CX0 2 A.f__law_number D.f__law_number ["_law_feed_here", "_law_size_here"] (sp_number) := ok__law_number T
  have G__law_refused : FnOk P w K mg base CX0 5 A.f__law_refused D.f__law_refused ["_law_top", "_law_bottom", "_law_word"] (sp_refused K) := ok__law_refused T
  have G__law_size : FnOk P w K mg base CX0 2 A.f__law_size D.f__law_size ["_law_feed_here"] (sp_size) := ok__law_size T
  have G__law_take : FnOk P w K mg base CX0 1 A.f__law_take D.f__law_take ["_law_feed_here", "_law_size_here"] (sp_take) := ok__law_take T
  refine T.F_law.ok sc_law (fun vs H Q E h => ?_) (fun cdv A' outer s H vs Q E hr h => ?_)
  · obtain ⟨a, ns, rfl, _⟩ := h
    rfl
  · obtain ⟨a, ns, rfl, hS, hl, q⟩ := h
    refine ⟨_, (pss_cons (ps_set (i := 1) sc_law.nd rfl (.inl rfl) (pe_call G__law_feed (hr.mono (by decide)) rfl T.g__law_feed T.F__law_feed.kp T.b__law_feed .nil pass0 (pa_cons (pv 0) pa_nil)))
  (pss_cons (ps_set (i := 2) sc_law.nd rfl (.inl rfl) (pe_lst (pa_cons pe_non (pa_cons pe_str (pa_cons pe_bl (pa_cons pe_bl (pa_cons (pe_lst (pa_cons pe_int pa_nil)) (pa_cons (pe_tup (pa_cons pe_int pa_nil)) (pa_cons (pe_make T.M_Ratio G_Ratio_init (hr.mono (by decide)) rfl T.g_Ratio b_Ratio_init2 d_Ratio_init2 passL (pa_cons pe_int (pa_cons pe_int pa_nil))) pa_nil)))))))))
  (pss_cons (ps_for PassesOwn.never rfl (pi_range1 rfl T.z_range (pa_cons (pe_op op_add pe_int (pe_call G__law_take (hr.mono (by decide)) rfl T.g__law_take T.F__law_take.kp T.b__law_take .nil pass0 (pa_cons (pv 1) (pa_cons pe_int pa_nil)))) pa_nil)) (pg_name (i := 3) sc_law.nd rfl (.inl rfl)) (pss_cons (ps_set (i := 4) sc_law.nd rfl (.inl rfl) (pe_call G__law_number (hr.mono (by decide)) rfl T.g__law_number T.F__law_number.kp T.b__law_number .nil pass0 (pa_cons (pv 1) (pa_cons (pe_call G__law_size (hr.mono (by decide)) rfl T.g__law_size T.F__law_size.kp T.b__law_size .nil pass0 (pa_cons (pv 1) pa_nil)) pa_nil))))
  (pss_cons (ps_set (i := 5) sc_law.nd rfl (.inl rfl) (pe_op op_mulW (pe_call G__law_number (hr.mono (by decide)) rfl T.g__law_number T.F__law_number.kp T.b__law_number .nil pass0 (pa_cons (pv 1) (pa_cons (pe_call G__law_size (hr.mono (by decide)) rfl T.g__law_size T.F__law_size.kp T.b__law_size .nil pass0 (pa_cons (pv 1) pa_nil)) pa_nil))) (pv 4)))
  (pss_cons (ps_set (i := 6) sc_law.nd rfl (.inl rfl) (pe_op op_mulW (pe_call G__law_number (hr.mono (by decide)) rfl T.g__law_number T.F__law_number.kp T.b__law_number .nil pass0 (pa_cons (pv 1) (pa_cons (pe_call G__law_size (hr.mono (by decide)) rfl T.g__law_size T.F__law_size.kp T.b__law_size .nil pass0 (pa_cons (pv 1) pa_nil)) pa_nil))) (pv 4)))
  (pss_cut (ps_if (pt_cmpR op_eq (pe_call G__law_take (hr.mono (by decide)) rfl T.g__law_take T.F__law_take.kp T.b__law_take .nil pass0 (pa_cons (pv 1) (pa_cons pe_int pa_nil))) pe_int (nomark _)) (pss_one (ps_set (i := 6) sc_law.nd rfl (.inl rfl) pe_int)) pss_nil)
  (pss_cons (ps_set (i := 7) sc_law.nd rfl (.inl rfl) (pe_ix ix_list (pv 2) (pe_call G__law_take (hr.mono (by decide)) rfl T.g__law_take T.F__law_take.kp T.b__law_take .nil pass0 (pa_cons (pv 1) (pa_cons pe_int pa_nil))) (fun _ _ => rfl)))
  (pss_cons (ps_set (i := 8) sc_law.nd rfl (.inl rfl) (pe_ix ix_list (pv 2) (pe_call G__law_take (hr.mono (by decide)) rfl T.g__law_take T.F__law_take.kp T.b__law_take .nil pass0 (pa_cons (pv 1) (pa_cons pe_int pa_nil))) (fun _ _ => rfl)))
  (pss_cut (ps_if (pt_cmpR op_eq (pv 6) pe_int (nomark _)) (pss_one (ps_if (pt_not (pt_val (pe_call G__law_refused (hr.mono (by decide)) rfl T.g__law_refused T.F__law_refused.kp T.b__law_refused .nil pass0 (pa_cons (pv 5) (pa_cons (pv 6) (pa_cons pe_str pa_nil)))))) (pss_one (ps_ret pe_bl)) pss_nil)) (pss_one (ps_if (PW.pt (pw_or (pt_not (pt_val (pe_call G__law_good (hr.mono (by decide)) rfl T.g__law_good T.F__law_good.kp T.b__law_good .nil pass0 (pa_cons (pe_make T.M_Ratio G_Ratio_init (hr.mono (by decide)) rfl T.g_Ratio b_Ratio_init2 d_Ratio_init2 passL (pa_cons (pv 5) (pa_cons (pv 6) pa_nil))) (pa_cons (pv 5) (pa_cons (pv 6) pa_nil)))))) (pw_or1 (pt_not (pt_val (pe_call G__law_good (hr.mono (by decide)) rfl T.g__law_good T.F__law_good.kp T.b__law_good .nil pass0 (pa_cons (pe_makeK0 T.M_Ratio G_Ratio_init (hr.mono (by decide)) rfl T.g_Ratio kb_Ratio passL (pk_cons (pv 5) (pk_cons (pv 6) pk_nil))) (pa_cons (pv 5) (pa_cons (pv 6) pa_nil))))))))) (pss_one (ps_ret pe_bl)) pss_nil)))
  (pss_cons (ps_if (pt_not (pt_val (pe_call G__law_good (hr.mono (by decide)) rfl T.g__law_good T.F__law_good.kp T.b__law_good .nil pass0 (pa_cons (pe_make T.M_Ratio G_Ratio_init (hr.mono (by decide)) rfl T.g_Ratio b_Ratio_init1 d_Ratio_init1 passL (pa_cons (pv 5) pa_nil)) (pa_cons (pv 5) (pa_cons pe_int pa_nil)))))) (pss_one (ps_ret pe_bl)) pss_nil)
  (pss_cons (ps_if (PW.pt (pw_or (pt_not (pt_val (pe_call G__law_refused (hr.mono (by decide)) rfl T.g__law_refused T.F__law_refused.kp T.b__law_refused .nil pass0 (pa_cons (pv 7) (pa_cons (pv 6) (pa_cons pe_str pa_nil)))))) (pw_or1 (pt_not (pt_val (pe_call G__law_refused (hr.mono (by decide)) rfl T.g__law_refused T.F__law_refused.kp T.b__law_refused .nil pass0 (pa_cons (pv 7) (pa_cons (pv 8) (pa_cons pe_str pa_nil))))))))) (pss_one (ps_ret pe_bl)) pss_nil)
  (pss_one (ps_if (PW.pt (pw_or (pt_not (pt_val (pe_call G__law_refused (hr.mono (by decide)) rfl T.g__law_refused T.F__law_refused.kp T.b__law_refused .nil pass0 (pa_cons (pv 5) (pa_cons (pv 7) (pa_cons pe_str pa_nil)))))) (pw_or1 (pt_not (pt_val (pe_call G__law_refused (hr.mono (by decide)) rfl T.g__law_refused T.F__law_refused.kp T.b__law_refused .nil pass0 (pa_cons (pv 7) (pa_cons pe_int (pa_cons pe_str pa_nil))))))))) (pss_one (ps_ret pe_bl)) pss_nil))))))))))))
  (pss_one (ps_ret pe_bl))))), ?_⟩
    refine ⟨_, rfl, a, ns, rfl, hS, hl, fun H1 f _ F1 _ => ?_⟩
    -- the strange values
    refine ⟨by show 1 ≤ sizeLine; decide, fun l1 n1 => ⟨by show 1 ≤ sizeLine; decide, fun l2 n2 => fun r dx nr nd ne => ?_⟩⟩
    refine ⟨r, dx, _, _, rfl, upd_same, .inl ⟨1, 2, rfl, rfl, by decide, .ab (by decide) (by decide), fun t' b' _ => ⟨rfl, ?_⟩⟩⟩
    refine ⟨by show 7 ≤ sizeLine; decide, fun p np => ?_⟩
    have sa : Same H1 (upd H1 l1 (.lst [.int 1])) := same_upd n1
    have ha : upd H1 l1 (.lst [.int 1]) l1 = some (.lst [.int 1]) := upd_same
    show tSeq _ _ _ _ (upd (upd (upd (upd (upd (upd H1 l1 (.lst [.int 1])) l2 (.tup [.int 2])) dx (.own r)) r (.ins A.Ratio dx [])) r (.ins A.Ratio dx [("top", .int t'), ("bottom", .int b')])) p (.lst [.non, .str "1", .bl true, .bl false, .ref l1, .ref l2, .ref r]))
    generalize upd H1 l1 (.lst [.int 1]) = Ha at sa ha n2 nr nd np
    have sb : Same Ha (upd Ha l2 (.tup [.int 2])) := same_upd n2
    have hb : upd Ha l2 (.tup [.int 2]) l2 = some (.tup [.int 2]) := upd_same
    generalize upd Ha l2 (.tup [.int 2]) = Hb at sb hb nr nd np
    have sd : Same Hb (upd (upd (upd Hb dx (.own r)) r (.ins A.Ratio dx [])) r (.ins A.Ratio dx [("top", .int t'), ("bottom", .int b')])) := same_upd' (same_upd' (same_upd nd) nr) nr
    have hd : upd (upd (upd Hb dx (.own r)) r (.ins A.Ratio dx [])) r (.ins A.Ratio dx [("top", .int t'), ("bottom", .int b')]) r = some (.ins A.Ratio dx [("top", .int t'), ("bottom", .int b')]) := upd_same
    generalize upd (upd (upd Hb dx (.own r)) r (.ins A.Ratio dx [])) r (.ins A.Ratio dx [("top", .int t'), ("bottom", .int b')]) = Hd at sd hd np
    have se : Same Hd (upd Hd p (.lst [.non, .str "1", .bl true, .bl false, .ref l1, .ref l2, .ref r])) := same_upd np
    have hp : upd Hd p (.lst [.non, .str "1", .bl true, .bl false, .ref l1, .ref l2, .ref r]) p = some (.lst [.non, .str "1", .bl true, .bl false, .ref l1, .ref l2, .ref r]) := upd_same
    generalize upd Hd p (.lst [.non, .str "1", .bl true, .bl false, .ref l1, .ref l2, .ref r]) = He at se hp
    have S0 : StrAt A.Ratio He p := by
      refine ⟨_, hp, rfl, fun x hx => ?_⟩
      simp only [List.mem_cons, List.not_mem_nil, or_false] at hx
      rcases hx with e | e | e | e | e | e | e <;> subst e
      · exact .inl rfl
      · exact .inr (.inl ⟨_, rfl⟩)
      · exact .inr (.inr (.inl ⟨_, rfl⟩))
      · exact .inr (.inr (.inl ⟨_, rfl⟩))
      · exact .inr (.inr (.inr (.inl ⟨_, rfl, se _ _ (sd _ _ (sb _ _ ha))⟩)))
      · exact .inr (.inr (.inr (.inr (.inl ⟨_, rfl, se _ _ (sd _ _ hb)⟩))))
      · exact .inr (.inr (.inr (.inr (.inr ⟨_, _, _, rfl, se _ _ hd⟩))))
    have F2 : FeedAt He f := (((F1.same sa).same sb).same sd).same se
    clear ha hb hd hp se sd sb sa np nr nd n1 n2 F1 hS
    refine ⟨_, rfl, f, 19, rfl, F2, by decide, .ab (by decide) (by decide), fun H2 v v0 v1 st => ⟨_, _, rfl, rfl, _, rfl, by omega, by omega, ?_⟩⟩
    refine for_range (lo := 0) (fun i σ H' => (∃ y3 y4 y5 y6 y7 y8, σ = [some (.ref a), some (.ref f), some (.ref p), y3, y4, y5, y6, y7, y8]) ∧ FeedAt H' f ∧ StrAt A.Ratio H' p) ⟨⟨_, _, _, _, _, _, rfl⟩, st.feed, S0.keep F2 st.keep⟩ ?_ (fun σ H' _ => q H')
    clear st F2 S0
    rintro i σ H0 hi ⟨⟨y3, y4, y5, y6, y7, y8, rfl⟩, F0, S0⟩
    -- the pair
    refine ⟨_, rfl, _, rfl, f, rfl, F0, fun H3 z z0 z1 st3 => ⟨f, z, rfl, st3.feed, z0, .ab (by omega) (by omega), fun H4 c c0 c1 st4 => ?_⟩⟩
    refine ⟨_, rfl, _, rfl, f, rfl, st4.feed, fun H5 z' z0' z1' st5 => ⟨f, z', rfl, st5.feed, z0', .ab (by omega) (by omega), fun H6 t t0 t1 st6 => ⟨_, rfl, _, _, rfl, rfl, Sm.mul (.ab (by omega) (by omega)) (.ab (by omega) (by omega)), ?_⟩⟩⟩
    refine ⟨_, rfl, _, rfl, f, rfl, st6.feed, fun H7 z2 z02 z12 st7 => ⟨f, z2, rfl, st7.feed, z02, .ab (by omega) (by omega), fun H8 b b0 b1 st8 => ⟨_, rfl, _, _, rfl, rfl, Sm.mul (.ab (by omega) (by omega)) (.ab (by omega) (by omega)), ?_⟩⟩⟩
    have bt : (t * c).natAbs < 2 ^ 133 := mul40 (by omega) (by omega) (by omega) (by omega)
    have bb : (b * c).natAbs < 2 ^ 133 := mul40 (by omega) (by omega) (by omega) (by omega)
    have S8 := S0.keep F0 (((((st3.trans st4).trans st5).trans st6).trans st7).trans st8).keep
    have F8 := st8.feed
    clear st3 st4 st5 st6 st7 st8 F0 S0
    refine ⟨fun σ' H' => FeedAt H' f ∧ StrAt A.Ratio H' p ∧ ∃ b : Int, b.natAbs < 2 ^ 133 ∧ σ' = [some (.ref a), some (.ref f), some (.ref p), some (.int (0 + i)), some (.int c), some (.int (t * c)), some (.int b), y7, y8], ?_, ?_⟩
    · refine ⟨_, rfl, f, 7, rfl, F8, by decide, .ab (by decide) (by decide), fun H9 v v0 v1 st9 => ⟨rfl, _, rfl, ?_⟩⟩
      refine ite2 (fun _ => ?_) (fun _ => ?_)
      · exact ⟨st9.feed, S8.keep F8 st9.keep, 0, by decide, rfl⟩
      · exact ⟨st9.feed, S8.keep F8 st9.keep, b * c, bb, rfl⟩
    clear F8 S8 bb
    generalize t * c = t at bt
    rintro σ H0 ⟨F0, S0, b, bb, rfl⟩
    -- two strange values
    refine ⟨_, rfl, _, rfl, f, 7, rfl, F0, by decide, .ab (by decide) (by decide), fun H1 k k0 k1 st1 => ?_⟩
    have S1 := S0.keep F0 st1.keep
    obtain ⟨xs, x, hx, gx, ox⟩ := S1.get k0 k1
    refine ⟨p, xs, k, x, rfl, rfl, .of hx, gx, ?_⟩
    refine ⟨_, rfl, _, rfl, f, 7, rfl, st1.feed, by decide, .ab (by decide) (by decide), fun H2 k' k0' k1' st2 => ?_⟩
    have S2 := S1.keep st1.feed st2.keep
    replace ox := ox.keep st1.feed st2.keep
    obtain ⟨ys, y, hy, gy, oy⟩ := S2.get k0' k1'
    refine ⟨p, ys, k', y, rfl, rfl, .of hy, gy, ?_⟩
    have F2 := st2.feed
    clear st1 st2 S1 S0 F0 gx hx gy hy
    have wx := ox.whole T
    have wy := oy.whole T
    have sm : ∀ {i : Int}, i.natAbs < 2 ^ 133 → Sm i := fun h => Sm.of h (by decide)
    -- with the bottom
    refine ⟨fun σ' H' => Same H2 H' ∧ σ' = [some (.ref a), some (.ref f), some (.ref p), some (.int (0 + i)), some (.int c), some (.int t), some (.int b), some x, some y], ?_, ?_⟩
    · by_cases hb : b = 0
      · subst hb
        refine ⟨_, rfl, rfl, _, rfl, iteTe (by decide) ?_⟩
        exact ⟨_, rfl, _, rfl, _, _, _, rfl, .inr (.inr ⟨t, rfl, rfl, rfl⟩), fun H3 s3 => ⟨true, rfl, iteF ⟨s3, rfl⟩⟩⟩
      · have e0 : decide (V.int b = V.int 0) = false := decide_eq_false fun z => hb (V.int.inj z)
        refine ⟨_, rfl, rfl, _, rfl, iteFe e0 ?_⟩
        refine ⟨_, rfl, _, rfl, fun r dx nr nd ne => ⟨r, dx, _, _, rfl, upd_same, .inl ⟨t, b, rfl, rfl, hb, sm bb, fun t' b' nm => ⟨rfl, ?_⟩⟩⟩⟩
        have s3 : Same H2 (upd (upd (upd H2 dx (.own r)) r (.ins A.Ratio dx [])) r (.ins A.Ratio dx [("top", .int t'), ("bottom", .int b')])) := same_upd' (same_upd' (same_upd nd) nr) nr
        refine ⟨_, rfl, _, rfl, .ref r, t, b, t', b', rfl, ⟨r, dx, rfl, upd_same⟩, nm, bt, bb, true, rfl, iteF ?_⟩
        generalize upd (upd (upd H2 dx (.own r)) r (.ins A.Ratio dx [])) r (.ins A.Ratio dx [("top", .int t'), ("bottom", .int b')]) = H3 at s3
        clear nr nd ne
        refine ⟨_, rfl, _, rfl, rfl, rfl, fun r dx nr nd ne => ⟨r, dx, _, _, rfl, upd_same, .inl ⟨t, b, rfl, rfl, hb, sm bb, fun t' b' nm => ⟨rfl, ?_⟩⟩⟩⟩
        refine ⟨_, rfl, _, rfl, .ref r, t, b, t', b', rfl, ⟨r, dx, rfl, upd_same⟩, nm, bt, bb, true, rfl, iteF ?_⟩
        exact ⟨s3.trans (same_upd' (same_upd' (same_upd nd) nr) nr), rfl⟩
    rintro σ H3 ⟨s3, rfl⟩
    -- with one number
    refine ⟨_, rfl, fun r dx nr nd ne => ⟨r, dx, _, _, rfl, upd_same, .inl ⟨t, 1, rfl, rfl, by decide, .ab (by decide) (by decide), fun t' b' nm => ⟨rfl, ?_⟩⟩⟩⟩
    have s4 := s3.trans (same_upd' (o := .ins A.Ratio dx [("top", .int t'), ("bottom", .int b')]) (same_upd' (o := .ins A.Ratio dx []) (same_upd (o := .own r) nd) nr) nr)
    refine ⟨_, rfl, .ref r, t, 1, t', b', rfl, ⟨r, dx, rfl, upd_same⟩, nm, bt, by decide, true, rfl, iteF ?_⟩
    -- what is refused
    refine ⟨_, rfl, _, rfl, _, _, _, rfl, .inl ⟨wx.same s4, rfl⟩, fun H5 s5 => ⟨true, rfl, iteF ?_⟩⟩
    replace s5 := s4.trans s5
    refine ⟨_, rfl, _, rfl, _, _, _, rfl, .inl ⟨wx.same s5, rfl⟩, fun H6 s6 => ⟨true, rfl, iteF ?_⟩⟩
    replace s6 := s5.trans s6
    refine ⟨_, rfl, _, rfl, _, _, _, rfl, .inr (.inl ⟨whole_int t, wx.same s6, rfl⟩), fun H7 s7 => ⟨true, rfl, iteF ?_⟩⟩
    replace s7 := s6.trans s7
    refine ⟨_, rfl, _, _, _, rfl, .inl ⟨wx.same s7, rfl⟩, fun H8 s8 => ⟨true, rfl, iteF ?_⟩⟩
    replace s8 := s7.trans s8
    exact ⟨⟨_, _, _, _, _, _, rfl⟩, F2.same s8, S2.keep F2 fun b o _ e => s8 b o e⟩
end

end Mo

namespace Mo
open PySem PySem.Spec PyProof.Rows L2 MoL MoW
open C8 (pss_cut tCut)
/-! ### what the top has written -/
theorem all_mk {l : PySem.W.OpenLaw} {w : World} {K : PySem.W.Frag} {h : Heap} {mg : Str → Option Value} {fa C_Ratio C_NoRatio C_MeansError C_NoNumber C_NoPoly f0 f1 f2 f3 f4 f5 f6 f7 f8 f9 f10 f11 : Addr} (X : K.In h) (G : h.Ns mainGlobals mg) (hfa : mg "law" = some (.ref fa))
    {od0 an0 od1 an1 od2 an2 od3 an3 od4 an4 od5 an5 od6 an6 od7 an7 od8 an8 od9 an9 od10 an10 od11 an11 : Option Addr} {sl0 sl1 sl2 sl3 sl4 sl5 sl6 sl7 sl8 sl9 sl10 sl11 : Array (Option Value)} {oc0 kV0 dc0 pm0 cd0 ct0 oc1 kV1 dc1 pm1 cd1 ct1 oc2 kV2 dc2 pm2 cd2 ct2 oc3 kV3 dc3 pm3 cd3 ct3 oc4 kV4 dc4 pm4 cd4 ct4 oc5 kV5 dc5 pm5 cd5 ct5 oc6 kV6 dc6 pm6 cd6 ct6 oc7 kV7 dc7 pm7 cd7 ct7 oc8 kV8 dc8 pm8 cd8 ct8 oc9 kV9 dc9 pm9 cd9 ct9 oc10 kV10 dc10 pm10 cd10 ct10 oc11 kV11 dc11 pm11 cd11 ct11 : Value} {T1 : Addr} {td1 : Option Addr} {tn1 : Nat} {ts1 : Array (Option Value)} {tt1_0 : Tok} {nm_NoRatio q_NoRatio : Str} {N_NoRatio : Addr} {bs_NoRatio sub_NoRatio : List Value} {sn_NoRatio : List Str} {ab_NoRatio : Bool} {col_NoRatio : Option Bool} {dd_NoRatio : Option Addr} {m0_NoRatio m1_NoRatio m2_NoRatio m3_NoRatio m5_NoRatio : Option Value}
    (g_Ratio : PySem.W.nsIn K mainGlobals "Ratio" = some (some (.ref C_Ratio)))
    (g_NoRatio : PySem.W.nsIn K mainGlobals "NoRatio" = some (some (.ref C_NoRatio)))
    (g_MeansError : PySem.W.nsIn K mainGlobals "MeansError" = some (some (.ref C_MeansError)))
    (g_NoNumber : PySem.W.nsIn K mainGlobals "NoNumber" = some (some (.ref C_NoNumber)))
    (g_NoPoly : PySem.W.nsIn K mainGlobals "NoPoly" = some (some (.ref C_NoPoly)))
    (xL_NoRatio : K.lookup C_NoRatio = some (excClassObj nm_NoRatio q_NoRatio C_NoRatio N_NoRatio bs_NoRatio [.ref C_MeansError, .type "ValueError", .type "Exception", .type "BaseException", .type "object"] true sn_NoRatio sub_NoRatio ab_NoRatio col_NoRatio dd_NoRatio m0_NoRatio m1_NoRatio m2_NoRatio m3_NoRatio m5_NoRatio "ValueError.__new__"))
    (a0 : PySem.W.findIn K (.ref C_NoRatio) "__init__" = some (some (.ref f0)))
    (i0 : PySem.W.isFn K (.ref f0) = true)
    (l0 : K.lookup f0 = some ⟨oc0, od0, .func (PySem.W.fnOf "__init__" "NoRatio.__init__" (defArgs s_NoRatio___init__) (defBody s_NoRatio___init__) (defScope s_NoRatio___init__) .none kV0 dc0 pm0 an0 cd0 ct0), sl0⟩)
    (c0 : PySem.W.codeIn K cd0 "NoRatio.__init__" = true)
    (k0 : PySem.W.keepIn K (.ref f0) = true)
    (a1 : PySem.W.findIn K (.ref C_Ratio) "__init__" = some (some (.ref f1)))
    (i1 : PySem.W.isFn K (.ref f1) = true)
    (l1 : K.lookup f1 = some ⟨oc1, od1, .func (PySem.W.fnOf "__init__" "Ratio.__init__" (defArgs s_Ratio___init__) (defBody s_Ratio___init__) (defScope s_Ratio___init__) (.ref T1) kV1 dc1 pm1 an1 cd1 ct1), sl1⟩)
    (c1 : PySem.W.codeIn K cd1 "Ratio.__init__" = true)
    (k1 : PySem.W.keepIn K (.ref f1) = true)
    (t1 : K.lookup T1 = some ⟨.type "tuple", td1, .seq #[.int 1 tt1_0] tn1, ts1⟩)
    (a2 : PySem.W.nsIn K mainGlobals "is_whole" = some (some (.ref f2)))
    (l2 : K.lookup f2 = some ⟨oc2, od2, .func (PySem.W.fnOf "is_whole" "is_whole" (defArgs s_is_whole) (defBody s_is_whole) (defScope s_is_whole) .none kV2 dc2 pm2 an2 cd2 ct2), sl2⟩)
    (c2 : PySem.W.codeIn K cd2 "is_whole" = true)
    (k2 : PySem.W.keepIn K (.ref f2) = true)
    (a3 : PySem.W.nsIn K mainGlobals "_law_is_integer" = some (some (.ref f3)))
    (l3 : K.lookup f3 = some ⟨oc3, od3, .func (PySem.W.fnOf "_law_is_integer" "_law_is_integer" (defArgs s__law_is_integer) (defBody s__law_is_integer) (defScope s__law_is_integer) .none kV3 dc3 pm3 an3 cd3 ct3), sl3⟩)
    (c3 : PySem.W.codeIn K cd3 "_law_is_integer" = true)
    (k3 : PySem.W.keepIn K (.ref f3) = true)
    (a4 : PySem.W.nsIn K mainGlobals "_law_feed" = some (some (.ref f4)))
    (l4 : K.lookup f4 = some ⟨oc4, od4, .func (PySem.W.fnOf "_law_feed" "_law_feed" (defArgs s__law_feed) (defBody s__law_feed) (defScope s__law_feed) .none kV4 dc4 pm4 an4 cd4 ct4), sl4⟩)
    (c4 : PySem.W.codeIn K cd4 "_law_feed" = true)
    (k4 : PySem.W.keepIn K (.ref f4) = true)
    (a5 : PySem.W.nsIn K mainGlobals "_law_take" = some (some (.ref f5)))
    (l5 : K.lookup f5 = some ⟨oc5, od5, .func (PySem.W.fnOf "_law_take" "_law_take" (defArgs s__law_take) (defBody s__law_take) (defScope s__law_take) .none kV5 dc5 pm5 an5 cd5 ct5), sl5⟩)
    (c5 : PySem.W.codeIn K cd5 "_law_take" = true)
    (k5 : PySem.W.keepIn K (.ref f5) = true)
    (a6 : PySem.W.nsIn K mainGlobals "_law_number" = some (some (.ref f6)))
    (l6 : K.lookup f6 = some ⟨oc6, od6, .func (PySem.W.fnOf "_law_number" "_law_number" (defArgs s__law_number) (defBody s__law_number) (defScope s__law_number) .none kV6 dc6 pm6 an6 cd6 ct6), sl6⟩)
    (c6 : PySem.W.codeIn K cd6 "_law_number" = true)
    (k6 : PySem.W.keepIn K (.ref f6) = true)
    (a7 : PySem.W.nsIn K mainGlobals "_law_divisor" = some (some (.ref f7)))
    (l7 : K.lookup f7 = some ⟨oc7, od7, .func (PySem.W.fnOf "_law_divisor" "_law_divisor" (defArgs s__law_divisor) (defBody s__law_divisor) (defScope s__law_divisor) .none kV7 dc7 pm7 an7 cd7 ct7), sl7⟩)
    (c7 : PySem.W.codeIn K cd7 "_law_divisor" = true)
    (k7 : PySem.W.keepIn K (.ref f7) = true)
    (a8 : PySem.W.nsIn K mainGlobals "_law_size" = some (some (.ref f8)))
    (l8 : K.lookup f8 = some ⟨oc8, od8, .func (PySem.W.fnOf "_law_size" "_law_size" (defArgs s__law_size) (defBody s__law_size) (defScope s__law_size) .none kV8 dc8 pm8 an8 cd8 ct8), sl8⟩)
    (c8 : PySem.W.codeIn K cd8 "_law_size" = true)
    (k8 : PySem.W.keepIn K (.ref f8) = true)
    (a9 : PySem.W.nsIn K mainGlobals "_law_refused" = some (some (.ref f9)))
    (l9 : K.lookup f9 = some ⟨oc9, od9, .func (PySem.W.fnOf "_law_refused" "_law_refused" (defArgs s__law_refused) (defBody s__law_refused) (defScope s__law_refused) .none kV9 dc9 pm9 an9 cd9 ct9), sl9⟩)
    (c9 : PySem.W.codeIn K cd9 "_law_refused" = true)
    (k9 : PySem.W.keepIn K (.ref f9) = true)
    (a10 : PySem.W.nsIn K mainGlobals "_law_good" = some (some (.ref f10)))
    (l10 : K.lookup f10 = some ⟨oc10, od10, .func (PySem.W.fnOf "_law_good" "_law_good" (defArgs s__law_good) (defBody s__law_good) (defScope s__law_good) .none kV10 dc10 pm10 an10 cd10 ct10), sl10⟩)
    (c10 : PySem.W.codeIn K cd10 "_law_good" = true)
    (k10 : PySem.W.keepIn K (.ref f10) = true)
    (a11 : PySem.W.nsIn K mainGlobals "law" = some (some (.ref f11)))
    (l11 : K.lookup f11 = some ⟨oc11, od11, .func (PySem.W.fnOf "law" "law" (defArgs s_law) (defBody s_law) (defScope s_law) .none kV11 dc11 pm11 an11 cd11 ct11), sl11⟩)
    (c11 : PySem.W.codeIn K cd11 "law" = true)
    (k11 : PySem.W.keepIn K (.ref f11) = true)
    (pg_Ratio : PySem.W.plainGet K C_Ratio Str.empty = true)
    (hd_Ratio : PySem.W.hasDictIn K C_Ratio = true)
    (po_Ratio : PySem.W.plainOver K C_Ratio = true)
    (sa_Ratio : PySem.W.findIn K (.ref C_Ratio) "__setattr__" = some (some (.builtin "object.__setattr__")))
    (mk_Ratio : PySem.W.makesIn K C_Ratio = true)
    (kc_Ratio : PySem.W.keepIn K (.ref C_Ratio) = true)
    (sf_Ratio : PySem.W.selfFirst K C_Ratio = true)
    (s1_Ratio : PySem.W.subIn K (.ref C_Ratio) (.type "int") = some false)
    (s2_Ratio : PySem.W.subIn K (.type "int") (.ref C_Ratio) = some false)
    (cls_Ratio : PySem.W.findIn K (.ref C_Ratio) "__class__" = some (some (.builtin "object.__class__")))
    (gsd_Ratio : PySem.W.specialIn K (.builtin "object.__class__") "__get__" = some (some (.builtin "getset_descriptor.__get__")))
    (tks_Ratio : PySem.W.takesIn K (.builtin "object.__class__") = some true)
    (mro_Ratio : PySem.W.mroIn K C_Ratio (.type "object") = some true)
    (ki_Ratio : PySem.W.kitOne K (.ref C_Ratio) (.type "int") = some false)
    (ik_Ratio : PySem.W.kitOne K (.type "int") (.ref C_Ratio) = some false)
    (n_top_Ratio : PySem.W.findIn K (.ref C_Ratio) "top" = some none)
    (n_bottom_Ratio : PySem.W.findIn K (.ref C_Ratio) "bottom" = some none)
    (sa_NoRatio : PySem.W.findIn K (.ref C_NoRatio) "__setattr__" = some (some (.builtin "object.__setattr__")))
    (ga_NoRatio : PySem.W.findIn K (.ref C_NoRatio) "__getattribute__" = some (some (.builtin "BaseException.__getattribute__")))
    (gg_NoRatio : PySem.W.findIn K (.ref C_NoRatio) "__getattr__" = some none)
    (cls_NoRatio : PySem.W.findIn K (.ref C_NoRatio) "__class__" = some (some (.builtin "object.__class__")))
    (gsd_NoRatio : PySem.W.specialIn K (.builtin "object.__class__") "__get__" = some (some (.builtin "getset_descriptor.__get__")))
    (tks_NoRatio : PySem.W.takesIn K (.builtin "object.__class__") = some true)
    (mro_NoRatio : PySem.W.mroIn K C_NoRatio (.type "object") = some true)
    (kC_NoRatio : PySem.W.keepIn K (.ref C_NoRatio) = true)
    (eC_NoRatio : PySem.W.subIn K (.ref C_NoRatio) (.type "BaseException") = some true)
    (tC_NoRatio : PySem.W.typeIn K (.ref C_NoRatio) = some (.type "type"))
    (hC_NoRatio : PySem.W.hasDictIn K C_NoRatio = true)
    (sC_NoRatio : PySem.W.subIn K (.ref C_NoRatio) (.ref C_NoRatio) = some true)
    (n_NoRatio_word : PySem.W.findIn K (.ref C_NoRatio) "word" = some none)
    (ti_NoRatio : PySem.W.typeIn K (.ref f0) = some (.type "function"))
    (kit_NoRatio_MeansError : PySem.W.kitOne K (.ref C_NoRatio) (.ref C_MeansError) = some true)
    (kit_NoRatio_ValueError : PySem.W.kitOne K (.ref C_NoRatio) (.type "ValueError") = some true)
    (kit_NoRatio_NoNumber : PySem.W.kitOne K (.ref C_NoRatio) (.ref C_NoNumber) = some false)
    (kit_NoRatio_NoPoly : PySem.W.kitOne K (.ref C_NoRatio) (.ref C_NoPoly) = some false)
    (z_isinstance : PySem.W.nsIn K mainGlobals "isinstance" = some none)
    (z_int : PySem.W.nsIn K mainGlobals "int" = some none)
    (z_bool : PySem.W.nsIn K mainGlobals "bool" = some none)
    (z_abs : PySem.W.nsIn K mainGlobals "abs" = some none)
    (z_len : PySem.W.nsIn K mainGlobals "len" = some none)
    (z_max : PySem.W.nsIn K mainGlobals "max" = some none)
    (z_range : PySem.W.nsIn K mainGlobals "range" = some none)
    (z_ValueError : PySem.W.nsIn K mainGlobals "ValueError" = some none)
    (j_gcd : PySem.W.nsIn K mainGlobals "gcd" = some (some (.builtin "math.gcd")))
    : ∃ fd : FuncData, (∀ (s : Shared) (v : Value), BindsTo s fd ⟨[v], []⟩ [("_law_script", v)]) ∧ ∀ base : Heap, K.In base → base.Ns mainGlobals mg → FnOk l.prog w K mg base CX0 6 fa fd ["_law_script"] (sp_law K) := by
  have e := hfa.symm.trans (PySem.W.mg_of X G a11)
  cases e
  have F0 := fun_mk (st := s_NoRatio___init__) l0 c0 k0
  have F1 : FunD K "__init__" "Ratio.__init__" (defArgs s_Ratio___init__) (defBody s_Ratio___init__) (defScope s_Ratio___init__) [.int 1] [] f1 _ := ⟨⟨_, _, _, _, _, _, _, _, _, _, rfl, l1, c1, .inr ⟨by simp, _, _, [.int 1 tt1_0], _, rfl, t1, rfl, .cons ⟨_, rfl⟩ (.nil)⟩, .inl rfl⟩, k1⟩
  have F2 := fun_mk (st := s_is_whole) l2 c2 k2
  have F3 := fun_mk (st := s__law_is_integer) l3 c3 k3
  have F4 := fun_mk (st := s__law_feed) l4 c4 k4
  have F5 := fun_mk (st := s__law_take) l5 c5 k5
  have F6 := fun_mk (st := s__law_number) l6 c6 k6
  have F7 := fun_mk (st := s__law_divisor) l7 c7 k7
  have F8 := fun_mk (st := s__law_size) l8 c8 k8
  have F9 := fun_mk (st := s__law_refused) l9 c9 k9
  have F10 := fun_mk (st := s__law_good) l10 c10 k10
  have F11 := fun_mk (st := s_law) l11 c11 k11
  let A : Ad := { Ratio := C_Ratio, NoRatio := C_NoRatio, MeansError := C_MeansError, NoNumber := C_NoNumber, NoPoly := C_NoPoly, f_NoRatio___init__ := f0, f_Ratio___init__ := f1, f_is_whole := f2, f__law_is_integer := f3, f__law_feed := f4, f__law_take := f5, f__law_number := f6, f__law_divisor := f7, f__law_size := f8, f__law_refused := f9, f__law_good := f10, f_law := fa }
  let D : Fd := { f_NoRatio___init__ := PySem.W.fnOf "__init__" "NoRatio.__init__" (defArgs s_NoRatio___init__) (defBody s_NoRatio___init__) (defScope s_NoRatio___init__) .none kV0 dc0 pm0 an0 cd0 ct0, f_Ratio___init__ := PySem.W.fnOf "__init__" "Ratio.__init__" (defArgs s_Ratio___init__) (defBody s_Ratio___init__) (defScope s_Ratio___init__) (.ref T1) kV1 dc1 pm1 an1 cd1 ct1, f_is_whole := PySem.W.fnOf "is_whole" "is_whole" (defArgs s_is_whole) (defBody s_is_whole) (defScope s_is_whole) .none kV2 dc2 pm2 an2 cd2 ct2, f__law_is_integer := PySem.W.fnOf "_law_is_integer" "_law_is_integer" (defArgs s__law_is_integer) (defBody s__law_is_integer) (defScope s__law_is_integer) .none kV3 dc3 pm3 an3 cd3 ct3, f__law_feed := PySem.W.fnOf "_law_feed" "_law_feed" (defArgs s__law_feed) (defBody s__law_feed) (defScope s__law_feed) .none kV4 dc4 pm4 an4 cd4 ct4, f__law_take := PySem.W.fnOf "_law_take" "_law_take" (defArgs s__law_take) (defBody s__law_take) (defScope s__law_take) .none kV5 dc5 pm5 an5 cd5 ct5, f__law_number := PySem.W.fnOf "_law_number" "_law_number" (defArgs s__law_number) (defBody s__law_number) (defScope s__law_number) .none kV6 dc6 pm6 an6 cd6 ct6, f__law_divisor := PySem.W.fnOf "_law_divisor" "_law_divisor" (defArgs s__law_divisor) (defBody s__law_divisor) (defScope s__law_divisor) .none kV7 dc7 pm7 an7 cd7 ct7, f__law_size := PySem.W.fnOf "_law_size" "_law_size" (defArgs s__law_size) (defBody s__law_size) (defScope s__law_size) .none kV8 dc8 pm8 an8 cd8 ct8, f__law_refused := PySem.W.fnOf "_law_refused" "_law_refused" (defArgs s__law_refused) (defBody s__law_refused) (defScope s__law_refused) .none kV9 dc9 pm9 an9 cd9 ct9, f__law_good := PySem.W.fnOf "_law_good" "_law_good" (defArgs s__law_good) (defBody s__law_good) (defScope s__law_good) .none kV10 dc10 pm10 an10 cd10 ct10, f_law := PySem.W.fnOf "law" "law" (defArgs s_law) (defBody s_law) (defScope s_law) .none kV11 dc11 pm11 an11 cd11 ct11 }
  have T : Txt K mg A D := {
    g_Ratio := PySem.W.mg_of X G g_Ratio,
    kp_Ratio := kc_Ratio,
    M_Ratio := ⟨mk_Ratio, a1, i1, kc_Ratio⟩,
    k_Ratio := ⟨⟨pg_Ratio, hd_Ratio, po_Ratio, sa_Ratio⟩, ⟨sf_Ratio, s1_Ratio, s2_Ratio⟩, cls_Ratio, gsd_Ratio, tks_Ratio, mro_Ratio, ki_Ratio, ik_Ratio, n_top_Ratio, n_bottom_Ratio⟩,
    g_MeansError := PySem.W.mg_of X G g_MeansError,
    g_NoNumber := PySem.W.mg_of X G g_NoNumber,
    g_NoPoly := PySem.W.mg_of X G g_NoPoly,
    g_NoRatio := PySem.W.mg_of X G g_NoRatio,
    o_NoRatio := ⟨⟨_, _, _, _, _, _, _, _, _, _, _, _, _, _, _, xL_NoRatio, rfl⟩, sa_NoRatio, eC_NoRatio, tC_NoRatio, kC_NoRatio⟩,
    x_NoRatio := ⟨ga_NoRatio, gg_NoRatio, eC_NoRatio, hC_NoRatio⟩,
    c_NoRatio := ⟨ga_NoRatio, gg_NoRatio, eC_NoRatio, hC_NoRatio, cls_NoRatio, gsd_NoRatio, tks_NoRatio, mro_NoRatio⟩,
    em_NoRatio := PySem.W.exm_ref eC_NoRatio hC_NoRatio tC_NoRatio sC_NoRatio,
    n_NoRatio_word := n_NoRatio_word,
    i_NoRatio := a0,
    ti_NoRatio := ti_NoRatio,
    kit_NoRatio_MeansError := kit_NoRatio_MeansError,
    kit_NoRatio_ValueError := kit_NoRatio_ValueError,
    kit_NoRatio_NoNumber := kit_NoRatio_NoNumber,
    kit_NoRatio_NoPoly := kit_NoRatio_NoPoly,
    F_NoRatio___init__ := F0,
    b_NoRatio___init__ := F0.binds fun _ _ _ _ _ _ us hl => match us, hl with | [_, _], _ => rfl,
    m_NoRatio___init__ := ⟨a0, i0, k0⟩,
    F_Ratio___init__ := F1,
    kb_Ratio___init__ := F1.kbindsD (ps := ["self", "top", "bottom"]) 1 ["top", "bottom"] (fun us _ ws => us ++ ws) (by simp) (fun r1 _ r3 => r1.append r3) (fun _ _ _ _ _ _ _ us its ws h1 h2 h3 => match us, h1, its, h2, ws, h3 with | [_], _, [_], _, [_, _], _ => ⟨_, rfl, by first | rfl | with_unfolding_all rfl | kernel_rfl⟩),
    b_Ratio___init__ := by obtain ⟨ds, r, b⟩ := F1.binds1 (ps := ["self", "top", "bottom"]) 3 1 (by simp) rfl (fun _ _ _ _ _ _ _ us its h1 h2 => match us, h1, its, h2 with | [_, _, _], _, [_], _ => ⟨_, rfl, by first | rfl | with_unfolding_all rfl | kernel_rfl⟩); cases r; exact b,
    b1_Ratio___init__ := F1.binds1 (ps := ["self", "top", "bottom"]) 2 0 (by simp) rfl (fun _ _ _ _ _ _ _ us its h1 h2 => match us, h1, its, h2 with | [_, _], _, [_], _ => ⟨_, rfl, by first | rfl | with_unfolding_all rfl | kernel_rfl⟩),
    m_Ratio___init__ := ⟨a1, i1, k1⟩,
    F_is_whole := F2,
    b_is_whole := F2.binds fun _ _ _ _ _ _ us hl => match us, hl with | [_], _ => rfl,
    g_is_whole := PySem.W.mg_of X G a2,
    F__law_is_integer := F3,
    b__law_is_integer := F3.binds fun _ _ _ _ _ _ us hl => match us, hl with | [_], _ => rfl,
    g__law_is_integer := PySem.W.mg_of X G a3,
    F__law_feed := F4,
    b__law_feed := F4.binds fun _ _ _ _ _ _ us hl => match us, hl with | [_], _ => rfl,
    g__law_feed := PySem.W.mg_of X G a4,
    F__law_take := F5,
    b__law_take := F5.binds fun _ _ _ _ _ _ us hl => match us, hl with | [_, _], _ => rfl,
    g__law_take := PySem.W.mg_of X G a5,
    F__law_number := F6,
    b__law_number := F6.binds fun _ _ _ _ _ _ us hl => match us, hl with | [_, _], _ => rfl,
    g__law_number := PySem.W.mg_of X G a6,
    F__law_divisor := F7,
    b__law_divisor := F7.binds fun _ _ _ _ _ _ us hl => match us, hl with | [_, _], _ => rfl,
    g__law_divisor := PySem.W.mg_of X G a7,
    F__law_size := F8,
    b__law_size := F8.binds fun _ _ _ _ _ _ us hl => match us, hl with | [_], _ => rfl,
    g__law_size := PySem.W.mg_of X G a8,
    F__law_refused := F9,
    b__law_refused := F9.binds fun _ _ _ _ _ _ us hl => match us, hl with | [_, _, _], _ => rfl,
    g__law_refused := PySem.W.mg_of X G a9,
    F__law_good := F10,
    b__law_good := F10.binds fun _ _ _ _ _ _ us hl => match us, hl with | [_, _, _], _ => rfl,
    g__law_good := PySem.W.mg_of X G a10,
    F_law := F11,
    b_law := F11.binds fun _ _ _ _ _ _ us hl => match us, hl with | [_], _ => rfl,
    g_law := PySem.W.mg_of X G a11,
    z_isinstance := PySem.W.mg_none_of X G z_isinstance,
    z_int := PySem.W.mg_none_of X G z_int,
    z_bool := PySem.W.mg_none_of X G z_bool,
    z_abs := PySem.W.mg_none_of X G z_abs,
    z_len := PySem.W.mg_none_of X G z_len,
    z_max := PySem.W.mg_none_of X G z_max,
    z_range := PySem.W.mg_none_of X G z_range,
    z_ValueError := PySem.W.mg_none_of X G z_ValueError,
    g_gcd := PySem.W.mg_of X G j_gcd }
  exact ⟨PySem.W.fnOf "law" "law" (defArgs s_law) (defBody s_law) (defScope s_law) .none kV11 dc11 pm11 an11 cd11 ct11, fun s v => .of_eq rfl, fun base _ _ => ok_law (A := A) (D := D) T⟩
end Mo
open PySem PySem.W PyProof.Rows
set_option maxRecDepth 100000 in
set_option maxHeartbeats 0 in
theorem PySem.Challenge.cw_momentrows_k01_ratio_is_in_lowest_terms_holds : PySem.Challenge.rw_momentrows_k01_ratio_is_in_lowest_terms.Holds := by
  w_on; o_law; k_head; (case hw => w_witness2)
  k_fill
  refine L2.walk_of (l := PySem.Challenge.rw_momentrows_k01_ratio_is_in_lowest_terms) (n := 63) (k := 6) (x := "_law_script") (CX := fun _ => L2.CX0) (sp := fun w => Mo.sp_law _) rfl (by decide) rfl ⟨rfl, by decide, by decide⟩ (fun w h Y => PySem.W.kIn_of Y) ?F (fun _ _ a ns hl _ hS => ⟨a, ns, rfl, hS, hl, fun _ => rfl⟩) (fun _ _ _ _ _ h => h)
  case F =>
    intro w mg fa h KX G hmg
    refine' Mo.all_mk KX G hmg ?g_Ratio ?g_NoRatio ?g_MeansError ?g_NoNumber ?g_NoPoly ?xL_NoRatio ?a0 ?i0 ?l0 ?c0 ?k0 ?a1 ?i1 ?l1 ?c1 ?k1 ?t1 ?a2 ?l2 ?c2 ?k2 ?a3 ?l3 ?c3 ?k3 ?a4 ?l4 ?c4 ?k4 ?a5 ?l5 ?c5 ?k5 ?a6 ?l6 ?c6 ?k6 ?a7 ?l7 ?c7 ?k7 ?a8 ?l8 ?c8 ?k8 ?a9 ?l9 ?c9 ?k9 ?a10 ?l10 ?c10 ?k10 ?a11 ?l11 ?c11 ?k11 ?pg_Ratio ?hd_Ratio ?po_Ratio ?sa_Ratio ?mk_Ratio ?kc_Ratio ?sf_Ratio ?s1_Ratio ?s2_Ratio ?cls_Ratio ?gsd_Ratio ?tks_Ratio ?mro_Ratio ?ki_Ratio ?ik_Ratio ?n_top_Ratio ?n_bottom_Ratio ?sa_NoRatio ?ga_NoRatio ?gg_NoRatio ?cls_NoRatio ?gsd_NoRatio ?tks_NoRatio ?mro_NoRatio ?kC_NoRatio ?eC_NoRatio ?tC_NoRatio ?hC_NoRatio ?sC_NoRatio ?n_NoRatio_word ?ti_NoRatio ?kit_NoRatio_MeansError ?kit_NoRatio_ValueError ?kit_NoRatio_NoNumber ?kit_NoRatio_NoPoly ?z_isinstance ?z_int ?z_bool ?z_abs ?z_len ?z_max ?z_range ?z_ValueError ?j_gcd
    (case g_Ratio => k_is)
    (case g_NoRatio => k_is)
    (case g_MeansError => k_is)
    (case g_NoNumber => k_is)
    (case g_NoPoly => k_is)
    (case xL_NoRatio => k_is)
    (case a0 => k_is)
    (case i0 => k_is)
    (case l0 => k_is)
    (case c0 => k_is)
    (case k0 => k_is)
    (case a1 => k_is)
    (case i1 => k_is)
    (case l1 => k_is)
    (case c1 => k_is)
    (case k1 => k_is)
    (case t1 => k_is)
    (case a2 => k_is)
    (case l2 => k_is)
    (case c2 => k_is)
    (case k2 => k_is)
    (case a3 => k_is)
    (case l3 => k_is)
    (case c3 => k_is)
    (case k3 => k_is)
    (case a4 => k_is)
    (case l4 => k_is)
    (case c4 => k_is)
    (case k4 => k_is)
    (case a5 => k_is)
    (case l5 => k_is)
    (case c5 => k_is)
    (case k5 => k_is)
    (case a6 => k_is)
    (case l6 => k_is)
    (case c6 => k_is)
    (case k6 => k_is)
    (case a7 => k_is)
    (case l7 => k_is)
    (case c7 => k_is)
    (case k7 => k_is)
    (case a8 => k_is)
    (case l8 => k_is)
    (case c8 => k_is)
    (case k8 => k_is)
    (case a9 => k_is)
    (case l9 => k_is)
    (case c9 => k_is)
    (case k9 => k_is)
    (case a10 => k_is)
    (case l10 => k_is)
    (case c10 => k_is)
    (case k10 => k_is)
    (case a11 => k_is)
    (case l11 => k_is)
    (case c11 => k_is)
    (case k11 => k_is)
    (case pg_Ratio => k_is)
    (case hd_Ratio => k_is)
    (case po_Ratio => k_is)
    (case sa_Ratio => k_is)
    (case mk_Ratio => k_is)
    (case kc_Ratio => k_is)
    (case sf_Ratio => k_is)
    (case s1_Ratio => k_is)
    (case s2_Ratio => k_is)
    (case cls_Ratio => k_is)
    (case gsd_Ratio => k_is)
    (case tks_Ratio => k_is)
    (case mro_Ratio => k_is)
    (case ki_Ratio => first | kit_is | k_is)
    (case ik_Ratio => first | kit_is | k_is)
    (case n_top_Ratio => k_is)
    (case n_bottom_Ratio => k_is)
    (case sa_NoRatio => k_is)
    (case ga_NoRatio => k_is)
    (case gg_NoRatio => k_is)
    (case cls_NoRatio => k_is)
    (case gsd_NoRatio => k_is)
    (case tks_NoRatio => k_is)
    (case mro_NoRatio => k_is)
    (case kC_NoRatio => k_is)
    (case eC_NoRatio => k_is)
    (case tC_NoRatio => k_is)
    (case hC_NoRatio => k_is)
    (case sC_NoRatio => first | rfl | k_is)
    (case n_NoRatio_word => k_is)
    (case ti_NoRatio => k_is)
    (case kit_NoRatio_MeansError => first | kit_is | k_is)
    (case kit_NoRatio_ValueError => first | kit_is | k_is)
    (case kit_NoRatio_NoNumber => first | kit_is | k_is)
    (case kit_NoRatio_NoPoly => first | kit_is | k_is)
    (case z_isinstance => k_is)
    (case z_int => k_is)
    (case z_bool => k_is)
    (case z_abs => k_is)
    (case z_len => k_is)
    (case z_max => k_is)
    (case z_range => k_is)
    (case z_ValueError => k_is)
    (case j_gcd => k_is)

