import PyProof.Rows.All
import Wide.All
import OpenK.AllK
import Wide.FinOn
import HandS.Comp
import HandS.Words
import HandS.WordsList
import HandS.Exc
import HandS.Wide
import HandS.IsInst
import HandS.OwnEq
import HandS.Gcd
import HandS.Style
import HandS.Defaults
import HandS.Codes
import HandS.WordsExc
import HandS.ExcInit
import HandS.ExcOwn
import HandS.ExcField
import HandS.ExcIs
import HandS.MakeKw
import HandS.MakeKwOnly
import KE.KExcIs
import HandS.EndTab
import PySem.Challenge.RW_momentrows_k03_ratio_quotients_and_power
set_option Elab.async false
set_option linter.all false
set_option maxRecDepth 100000
set_option maxHeartbeats 4000000
/-! # Operators of own classes, on either side of an int (my own layer over HandS) -/
namespace MoW
open PySem PySem.W
section
variable {prog : Program} {w : World} {A : Around} {E : Value → Shared → Prop} {s : Shared}
theorem int_eq_no (i : Int) (t : Tok) (l C dx : Addr) :
    Meets (Builtin.«int.__eq__» ⟨[.int i t, .ref l], []⟩) (fun _ R s => s.heap.get? l = some (PySem.W.instObj C dx) ∧ R (.ok (.ret .notImplemented)) s) :=
  .of_wp fun prog w A R s h => by obtain ⟨hp, g, d, tk, os⟩ := s; obtain ⟨hl, h⟩ := h; unfold PySem.W.instObj at hl; wp_walk using wpAny_loadPart' hl, wpAny_load hl; exact ⟨_, rfl, h⟩
theorem int_ne_no (i : Int) (t : Tok) (l C dx : Addr) :
    Meets (Builtin.«int.__ne__» ⟨[.int i t, .ref l], []⟩) (fun _ R s => s.heap.get? l = some (PySem.W.instObj C dx) ∧ R (.ok (.ret .notImplemented)) s) :=
  .of_wp fun prog w A R s h => by obtain ⟨hp, g, d, tk, os⟩ := s; obtain ⟨hl, h⟩ := h; unfold PySem.W.instObj at hl; wp_walk using wpAny_loadPart' hl, wpAny_load hl; exact ⟨_, rfl, h⟩
theorem int_lt_no (i : Int) (t : Tok) (l C dx : Addr) :
    Meets (Builtin.«int.__lt__» ⟨[.int i t, .ref l], []⟩) (fun _ R s => s.heap.get? l = some (PySem.W.instObj C dx) ∧ R (.ok (.ret .notImplemented)) s) :=
  .of_wp fun prog w A R s h => by obtain ⟨hp, g, d, tk, os⟩ := s; obtain ⟨hl, h⟩ := h; unfold PySem.W.instObj at hl; wp_walk using wpAny_loadPart' hl, wpAny_load hl; exact ⟨_, rfl, h⟩
theorem int_le_no (i : Int) (t : Tok) (l C dx : Addr) :
    Meets (Builtin.«int.__le__» ⟨[.int i t, .ref l], []⟩) (fun _ R s => s.heap.get? l = some (PySem.W.instObj C dx) ∧ R (.ok (.ret .notImplemented)) s) :=
  .of_wp fun prog w A R s h => by obtain ⟨hp, g, d, tk, os⟩ := s; obtain ⟨hl, h⟩ := h; unfold PySem.W.instObj at hl; wp_walk using wpAny_loadPart' hl, wpAny_load hl; exact ⟨_, rfl, h⟩
theorem int_gt_no (i : Int) (t : Tok) (l C dx : Addr) :
    Meets (Builtin.«int.__gt__» ⟨[.int i t, .ref l], []⟩) (fun _ R s => s.heap.get? l = some (PySem.W.instObj C dx) ∧ R (.ok (.ret .notImplemented)) s) :=
  .of_wp fun prog w A R s h => by obtain ⟨hp, g, d, tk, os⟩ := s; obtain ⟨hl, h⟩ := h; unfold PySem.W.instObj at hl; wp_walk using wpAny_loadPart' hl, wpAny_load hl; exact ⟨_, rfl, h⟩
theorem int_ge_no (i : Int) (t : Tok) (l C dx : Addr) :
    Meets (Builtin.«int.__ge__» ⟨[.int i t, .ref l], []⟩) (fun _ R s => s.heap.get? l = some (PySem.W.instObj C dx) ∧ R (.ok (.ret .notImplemented)) s) :=
  .of_wp fun prog w A R s h => by obtain ⟨hp, g, d, tk, os⟩ := s; obtain ⟨hl, h⟩ := h; unfold PySem.W.instObj at hl; wp_walk using wpAny_loadPart' hl, wpAny_load hl; exact ⟨_, rfl, h⟩
theorem int_add_no (i : Int) (t : Tok) (l C dx : Addr) :
    Meets (Builtin.«int.__add__» ⟨[.int i t, .ref l], []⟩) (fun _ R s => s.heap.get? l = some (PySem.W.instObj C dx) ∧ R (.ok (.ret .notImplemented)) s) :=
  .of_wp fun prog w A R s h => by obtain ⟨hp, g, d, tk, os⟩ := s; obtain ⟨hl, h⟩ := h; unfold PySem.W.instObj at hl; wp_walk using wpAny_loadPart' hl, wpAny_load hl; exact ⟨_, rfl, h⟩
theorem int_sub_no (i : Int) (t : Tok) (l C dx : Addr) :
    Meets (Builtin.«int.__sub__» ⟨[.int i t, .ref l], []⟩) (fun _ R s => s.heap.get? l = some (PySem.W.instObj C dx) ∧ R (.ok (.ret .notImplemented)) s) :=
  .of_wp fun prog w A R s h => by obtain ⟨hp, g, d, tk, os⟩ := s; obtain ⟨hl, h⟩ := h; unfold PySem.W.instObj at hl; wp_walk using wpAny_loadPart' hl, wpAny_load hl; exact ⟨_, rfl, h⟩
theorem int_mul_no (i : Int) (t : Tok) (l C dx : Addr) :
    Meets (Builtin.«int.__mul__» ⟨[.int i t, .ref l], []⟩) (fun _ R s => s.heap.get? l = some (PySem.W.instObj C dx) ∧ R (.ok (.ret .notImplemented)) s) :=
  .of_wp fun prog w A R s h => by obtain ⟨hp, g, d, tk, os⟩ := s; obtain ⟨hl, h⟩ := h; unfold PySem.W.instObj at hl; wp_walk using wpAny_loadPart' hl, wpAny_load hl; exact ⟨_, rfl, h⟩
theorem int_mod_no (i : Int) (t : Tok) (l C dx : Addr) :
    Meets (Builtin.«int.__mod__» ⟨[.int i t, .ref l], []⟩) (fun _ R s => s.heap.get? l = some (PySem.W.instObj C dx) ∧ R (.ok (.ret .notImplemented)) s) :=
  .of_wp fun prog w A R s h => by obtain ⟨hp, g, d, tk, os⟩ := s; obtain ⟨hl, h⟩ := h; unfold PySem.W.instObj at hl; wp_walk using wpAny_loadPart' hl, wpAny_load hl; exact ⟨_, rfl, h⟩
end
end MoW

namespace MoW
open PySem PySem.W PyProof.Rows
section
variable {prog : Program} {w : World} {A : Around} {E : Value → Shared → Prop} {s : Shared} {K : Frag} {x C L f : Addr} {h₀ : Heap} {m : Str → Option Value} {dx : Addr} {od : Option Obj} {i : Int} {t : Tok}

theorem looks_int {M : Model} {h : Heap} : Looks M h (typeOf (.int i t)) (.type "int") := Looks.of_pure rfl

/-- an int compared with an instance: int says it can't, the instance's own mirrored method answers -/
theorem cmp_int_own {op : CmpOp} {id : String} {Q : Value → Shared → Prop} (hu : A.units < cLine) (F : Fr h₀ L s.heap m) (X₀ : K.In h₀) (I : InstAt s.heap x (instObj C dx) C od)
    (hn : subIn K (.ref C) (.type "int") = some false) (h1 : Slot "int" (cmpInfo op).2.1 id)
    (hno : ∀ Q' : Value → Shared → Prop, Q' .notImplemented s → wpAny (model prog w) A (call (.builtin id) [.int i t, .ref x]) Q' E s)
    (hs : findIn K (.ref C) (cmpInfo op).2.2 = some (some (.ref f))) (hf : isFn K (.ref f) = true)
    (h : wpAny (model prog w) A (call (.ref f) [.ref x, .int i t]) (W.CmpBack Q) E s) : wpAny (model prog w) A (richCompare op (.int i t) (.ref x)) Q E s := by
  have X := X₀.keeps F.keep
  have one : wpAny (model prog w) A (tryCompare (.ref x) (cmpInfo op).2.2 (.int i t)) (fun r s' => ∃ v, r = some v ∧ Q v s') E s := by
    unfold tryCompare
    refine wpAny_bind (ifBound_K X I hs hf (wpAny_mono h (fun v s' hv => ?_) fun _ _ e => e))
    cases v <;> first | exact hv.elim | exact wpAny_pure ⟨_, rfl, hv⟩
  unfold richCompare
  simp only [(typeIs_int s i t).oneThing_none]
  refine wpAny_holding (wpAny_bind (wpAny_cRoomFor hu ?_))
  refine wpAny_bind (wpAny_typeOf (typeIs_int s i t) (wpAny_bind (I.type.here ?_)))
  have hne : (Value.type "int" != Value.ref C) = true := rfl
  simp only [hne, if_true]
  refine wpAny_bind ((looks_subIn X hn).here ?_)
  simp only [Bool.false_eq_true, if_false, Bool.not_false, if_true]
  refine wpAny_bind (m := tryCompare (.int i t) _ (.ref x)) (wpAny_tryCompare_declines (typeIs_int s i t) h1 (hno _ ⟨rfl, ?_⟩))
  refine wpAny_bind (m := tryCompare (.ref x) _ (.int i t)) (wpAny_mono one (fun r s' z => ?_) fun _ _ e => e)
  obtain ⟨v, rfl, hq⟩ := z
  exact wpAny_pure hq

theorem mro_first {cd : ClassData} (hc : selfFirst K C = true) : ∃ cd rest, clsIn K C = some cd ∧ cd.mro = .ref C :: rest := by
  obtain ⟨cd, hcd, hm⟩ := any_some hc
  refine ⟨cd, ?_⟩
  cases q : cd.mro with
  | nil => rw [q] at hm; cases hm
  | cons a r => rw [q] at hm; exact ⟨r, hcd, by rw [List.head?_cons] at hm; cases (beq_iff_eq.mp hm); rfl⟩

/-- an int beside an instance: int says it can't, the instance's own reflected method answers -/
theorem bin_int_own {op : Operator} {id : String} {g : Addr} {Q : Value → Shared → Prop} (F : Fr h₀ L s.heap m) (X₀ : K.In h₀) (I : InstAt s.heap x (instObj C dx) C od)
    (hc : selfFirst K C = true) (hn : subIn K (.ref C) (.type "int") = some false) (h1 : Slot "int" (PySem.dunder op.info.2) id) (hfi : fillsNumberSlot (.type "int") op.info.2 = pure true)
    (hno : ∀ Q' : Value → Shared → Prop, Q' .notImplemented s → wpAny (model prog w) A (call (.builtin id) [.int i t, .ref x]) Q' E s)
    (hd : findIn K (.ref C) (PySem.dunder op.info.2) = some (some (.ref g)))
    (hs : findIn K (.ref C) (dunderR op.info.2) = some (some (.ref f))) (hf : isFn K (.ref f) = true)
    (h : wpAny (model prog w) A (call (.ref f) [.ref x, .int i t]) (W.CmpBack Q) E s) : wpAny (model prog w) A (binaryOp op (.int i t) (.ref x)) Q E s := by
  have X := X₀.keeps F.keep
  obtain ⟨cd, rest, hcd, hm⟩ := mro_first (K := K) (C := C) (cd := default) hc
  unfold binaryOp
  refine wpAny_holding (wpAny_bind ?_)
  unfold binaryOp1
  refine wpAny_bind (wpAny_typeOf (typeIs_int s i t) (wpAny_bind (I.type.here (wpAny_bind (wpAny_of_eq hfi ?_)))))
  have hne : (Value.type "int" == Value.ref C) = false := rfl
  simp only [hne, Bool.false_eq_true, if_false]
  refine wpAny_bind ((fills_K X hcd hm hd).here ?_)
  simp only [Bool.and_self, if_true]
  refine wpAny_bind ((looks_subIn X hn).here ?_)
  have hpy : numberSlotInPython (.type "int") op.info.2 = pure false := rfl
  simp only [Bool.false_eq_true, if_false, pure_bind, Bool.not_false, Bool.and_self, if_true, hpy]
  refine wpAny_bind (m := tryMethod (.int i t) _ (.ref x)) (wpAny_tryMethod_declines (typeIs_int s i t) h1 (hno _ ⟨rfl, ?_⟩))
  refine wpAny_bind (m := tryMethod (.ref x) _ (.int i t)) ?_
  unfold tryMethod
  refine wpAny_bind (special_fn X I hs (beq_iff_eq.mp hf) (wpAny_mono h (fun v s' hv => ?_) fun _ _ e => e))
  cases v <;> first | exact hv.elim | exact wpAny_pure (wpAny_bind (wpAny_rule (wpAny_pure (wpAny_pure hv))))

/-- an instance beside an int: its own method answers -/
theorem bin_own_int {op : Operator} {id : String} {g : Addr} {Q : Value → Shared → Prop} (F : Fr h₀ L s.heap m) (X₀ : K.In h₀) (I : InstAt s.heap x (instObj C dx) C od)
    (hc : selfFirst K C = true) (hn : subIn K (.type "int") (.ref C) = some false) (h1 : Slot "int" (dunderR op.info.2) id) (hfi : fillsNumberSlot (.type "int") op.info.2 = pure true)
    (hs : findIn K (.ref C) (PySem.dunder op.info.2) = some (some (.ref f))) (hf : isFn K (.ref f) = true)
    (hd : findIn K (.ref C) (dunderR op.info.2) = some (some (.ref g)))
    (h : wpAny (model prog w) A (call (.ref f) [.ref x, .int i t]) (W.CmpBack Q) E s) : wpAny (model prog w) A (binaryOp op (.ref x) (.int i t)) Q E s := by
  have X := X₀.keeps F.keep
  obtain ⟨cd, rest, hcd, hm⟩ := mro_first (K := K) (C := C) (cd := default) hc
  unfold binaryOp
  refine wpAny_holding (wpAny_bind ?_)
  unfold binaryOp1
  refine wpAny_bind (I.type.here (wpAny_bind (wpAny_typeOf (typeIs_int s i t) (wpAny_bind ((fills_K X hcd hm hs).here ?_)))))
  have hne : (Value.ref C == Value.type "int") = false := rfl
  simp only [hne, Bool.false_eq_true, if_false]
  refine wpAny_bind (wpAny_of_eq hfi ?_)
  simp only [Bool.and_self, if_true]
  refine wpAny_bind ((looks_subIn X hn).here ?_)
  have hpy : Looks (model prog w) s.heap (numberSlotInPython (.ref C) op.info.2) true := by
    unfold numberSlotInPython
    refine (looks_findIn X hs).andThen ?_
    refine Looks.andThen (a := true) .now ?_
    refine (looks_findIn X hd).andThen ?_
    refine Looks.andThen (a := true) .now ?_
    exact .now
  have hpi : numberSlotInPython (.type "int") op.info.2 = pure false := rfl
  simp only [Bool.false_eq_true, if_false, pure_bind, Bool.not_false, Bool.and_self, if_true]
  refine wpAny_bind (hpy.here ?_)
  simp only [if_true]
  refine wpAny_bind (wpAny_of_eq hpi ?_)
  simp only [Bool.not_false, if_true]
  refine wpAny_bind (wpAny_of_eq h1.lookup ?_)
  refine wpAny_bind (m := tryMethod (.ref x) _ (.int i t)) ?_
  unfold tryMethod
  refine wpAny_bind (special_fn X I hs (beq_iff_eq.mp hf) (wpAny_mono h (fun v s' hv => ?_) fun _ _ e => e))
  cases v <;> first | exact hv.elim | exact wpAny_pure (wpAny_pure (wpAny_pure hv))
end
end MoW

namespace MoL
open PySem PySem.Spec PyProof.Rows L2 MoW

/-- an instance of the class at C -/
def Ins (H : Hp) (v : V) (C : Addr) : Prop := ∃ a dx fs, v = .ref a ∧ H a = some (.ins C dx fs)
/-- what the written part says of a class with operators -/
structure OwnC (K : PySem.W.Frag) (C : Addr) : Prop where
  first : PySem.W.selfFirst K C = true
  ci : PySem.W.subIn K (.ref C) (.type "int") = some false
  ic : PySem.W.subIn K (.type "int") (.ref C) = some false

section
variable {X : Cx} {pins : List (Addr × Obj)} {σ : L2.St} {H : Hp} {s : Shared}
theorem ep_back {Q : VK} {u : Value} {s' : Shared} (h : EP X pins σ Q u s') : PySem.W.CmpBack (EP X pins σ Q) u s' := by
  cases u with
  | notImplemented =>
    obtain ⟨v, H', I, r, q⟩ := h
    exfalso
    cases v <;> first | exact nomatch r | (obtain ⟨_, e⟩ := r; exact nomatch e)
  | _ => exact h
theorem ins_at {a C dx : Addr} {fs : List (Str × V)} (I : Inv X pins σ H s) (ha : H a = some (.ins C dx fs)) : ∃ od, PySem.W.InstAt s.heap a (PySem.W.instObj C dx) C od := by
  obtain ⟨mA, J, _⟩ := ins_get I.hok ha
  obtain ⟨od, J, _⟩ := J.look
  exact ⟨_, J⟩
theorem ins_obj {a C dx : Addr} {fs : List (Str × V)} (I : Inv X pins σ H s) (ha : H a = some (.ins C dx fs)) : s.heap.get? a = some (PySem.W.instObj C dx) := by
  obtain ⟨mA, J, _⟩ := ins_get I.hok ha
  exact J.obj
end

section
variable {X : Cx} {CX : CXT} {k : Nat} {C f g : Addr} {fd : FuncData} {ps : List Str} {sp : Sp} {E : XK}
/-- x op y, x an instance, y another one or an int: x's own method answers -/
def rOwn (C : Addr) (sp : Sp) (E : XK) : R2 := fun x y H Q => Ins H x C ∧ ((∃ i, y = .int i) ∨ Ins H y C) ∧ sp [x, y] H Q E
/-- i op y, y an instance: y's own mirrored method answers -/
def rOwnR (C : Addr) (sp : Sp) (E : XK) : R2 := fun x y H Q => (∃ i, x = .int i) ∧ Ins H y C ∧ sp [y, x] H Q E

theorem op_cmp_own {op : CmpOp} (hop : ∀ v u, compareOp op v u = richCompare op v u) (c : OwnC X.K C) (m : Meth X.K C (cmpInfo op).2.1 f) (F : FnOk X.prog X.w X.K X.mg X.base CX k f fd ps sp)
    (hr : Room k X.A) (hb : Binds X.K fd ps []) (hx : Passes CX X E) : OpR X (compareOp op) (rOwn C sp E) := by
  intro pins s σ H x y v u Q I rx ry h
  obtain ⟨⟨a, dx, fs, rfl, ha⟩, hy, hs⟩ := h
  cases (show v = Value.ref a from rx)
  obtain ⟨od, J⟩ := ins_at I ha
  obtain ⟨mm, hF⟩ := I.fr
  rw [hop]
  have hrun : wpAny (model X.prog X.w) X.A (call (.ref f) [.ref a, u]) (PySem.W.CmpBack (EP X pins σ Q)) X.xe s :=
    thn (run_fn (us := [.ref a, u]) (vs := [.ref a, y]) F hr hb .nil hx I (.cons rfl (.cons ry .nil)) hs) fun v s' q => ep_back q
  rcases hy with ⟨i, rfl⟩ | ⟨b, dy, gs, rfl, hb'⟩
  · obtain ⟨t, rfl⟩ := (show ∃ t, u = Value.int i t from ry)
    exact PySem.W.cmp_K (op := op) (tb := .type "int") hr.units0 hF I.ok.mod.kin J looks_int (by unfold PySem.W.notFirst; rw [c.ic]; rfl) m.at_ m.fn hrun
  · cases (show u = Value.ref b from ry)
    obtain ⟨od', J'⟩ := ins_at I hb'
    exact PySem.W.cmp_K (op := op) (tb := .ref C) hr.units0 hF I.ok.mod.kin J J'.type (by simp [PySem.W.notFirst]) m.at_ m.fn hrun

theorem op_cmp_int {op : CmpOp} {id : String} (hop : ∀ v u, compareOp op v u = richCompare op v u) (h1 : Slot "int" (cmpInfo op).2.1 id)
    (hno : ∀ (s : Shared) (i : Int) (t : Tok) (b dy : Addr) (Q' E' : Value → Shared → Prop), s.heap.get? b = some (PySem.W.instObj C dy) → Q' .notImplemented s → wpAny (model X.prog X.w) X.A (call (.builtin id) [.int i t, .ref b]) Q' E' s)
    (c : OwnC X.K C) (m : Meth X.K C (cmpInfo op).2.2 f) (F : FnOk X.prog X.w X.K X.mg X.base CX k f fd ps sp)
    (hr : Room k X.A) (hb : Binds X.K fd ps []) (hx : Passes CX X E) : OpR X (compareOp op) (rOwnR C sp E) := by
  intro pins s σ H x y v u Q I rx ry h
  obtain ⟨⟨i, rfl⟩, ⟨b, dy, gs, rfl, hb'⟩, hs⟩ := h
  obtain ⟨t, rfl⟩ := (show ∃ t, v = Value.int i t from rx)
  cases (show u = Value.ref b from ry)
  obtain ⟨od, J⟩ := ins_at I hb'
  obtain ⟨mm, hF⟩ := I.fr
  rw [hop]
  exact cmp_int_own (op := op) hr.units0 hF I.ok.mod.kin J c.ci h1 (fun Q' q => hno s i t b dy Q' _ (ins_obj I hb') q) m.at_ m.fn
    (thn (run_fn (us := [.ref b, .int i t]) (vs := [.ref b, .int i]) F hr hb .nil hx I (.cons rfl (.cons ⟨t, rfl⟩ .nil)) hs) fun v s' q => ep_back q)

theorem op_bin_own {op : Operator} {id : String} (h1 : Slot "int" (dunderR op.info.2) id) (hfi : fillsNumberSlot (.type "int") op.info.2 = pure true) (c : OwnC X.K C)
    (m : Meth X.K C (PySem.dunder op.info.2) f) (mr : Meth X.K C (dunderR op.info.2) g) (F : FnOk X.prog X.w X.K X.mg X.base CX k f fd ps sp)
    (hr : Room k X.A) (hb : Binds X.K fd ps []) (hx : Passes CX X E) : OpR X (binaryOp op) (rOwn C sp E) := by
  intro pins s σ H x y v u Q I rx ry h
  obtain ⟨⟨a, dx, fs, rfl, ha⟩, hy, hs⟩ := h
  cases (show v = Value.ref a from rx)
  obtain ⟨od, J⟩ := ins_at I ha
  obtain ⟨mm, hF⟩ := I.fr
  have hrun : wpAny (model X.prog X.w) X.A (call (.ref f) [.ref a, u]) (PySem.W.CmpBack (EP X pins σ Q)) X.xe s :=
    thn (run_fn (us := [.ref a, u]) (vs := [.ref a, y]) F hr hb .nil hx I (.cons rfl (.cons ry .nil)) hs) fun v s' q => ep_back q
  rcases hy with ⟨i, rfl⟩ | ⟨b, dy, gs, rfl, hb'⟩
  · obtain ⟨t, rfl⟩ := (show ∃ t, u = Value.int i t from ry)
    exact bin_own_int (op := op) hF I.ok.mod.kin J c.first c.ic h1 hfi m.at_ m.fn mr.at_ hrun
  · cases (show u = Value.ref b from ry)
    obtain ⟨od', J'⟩ := ins_at I hb'
    exact PySem.W.binop_K (op := op) hF I.ok.mod.kin J J'.type c.first m.at_ m.fn hrun

theorem op_bin_int {op : Operator} {id : String} (h1 : Slot "int" (PySem.dunder op.info.2) id) (hfi : fillsNumberSlot (.type "int") op.info.2 = pure true)
    (hno : ∀ (s : Shared) (i : Int) (t : Tok) (b dy : Addr) (Q' E' : Value → Shared → Prop), s.heap.get? b = some (PySem.W.instObj C dy) → Q' .notImplemented s → wpAny (model X.prog X.w) X.A (call (.builtin id) [.int i t, .ref b]) Q' E' s)
    (c : OwnC X.K C) (m : Meth X.K C (dunderR op.info.2) f) (ml : Meth X.K C (PySem.dunder op.info.2) g) (F : FnOk X.prog X.w X.K X.mg X.base CX k f fd ps sp)
    (hr : Room k X.A) (hb : Binds X.K fd ps []) (hx : Passes CX X E) : OpR X (binaryOp op) (rOwnR C sp E) := by
  intro pins s σ H x y v u Q I rx ry h
  obtain ⟨⟨i, rfl⟩, ⟨b, dy, gs, rfl, hb'⟩, hs⟩ := h
  obtain ⟨t, rfl⟩ := (show ∃ t, v = Value.int i t from rx)
  cases (show u = Value.ref b from ry)
  obtain ⟨od, J⟩ := ins_at I hb'
  obtain ⟨mm, hF⟩ := I.fr
  exact bin_int_own (op := op) hF I.ok.mod.kin J c.first c.ci h1 hfi (fun Q' q => hno s i t b dy Q' _ (ins_obj I hb') q) ml.at_ m.at_ m.fn
    (thn (run_fn (us := [.ref b, .int i t]) (vs := [.ref b, .int i]) F hr hb .nil hx I (.cons rfl (.cons ⟨t, rfl⟩ .nil)) hs) fun v s' q => ep_back q)

theorem op_eq_own (c : OwnC X.K C) (m : Meth X.K C "__eq__" f) (F : FnOk X.prog X.w X.K X.mg X.base CX k f fd ps sp)
    (hr : Room k X.A) (hb : Binds X.K fd ps []) (hx : Passes CX X E) : OpR X (compareOp .Eq) (rOwn C sp E) := op_cmp_own (op := .Eq) (fun _ _ => rfl) c m F hr hb hx
theorem op_eq_int (c : OwnC X.K C) (m : Meth X.K C "__eq__" f) (F : FnOk X.prog X.w X.K X.mg X.base CX k f fd ps sp)
    (hr : Room k X.A) (hb : Binds X.K fd ps []) (hx : Passes CX X E) : OpR X (compareOp .Eq) (rOwnR C sp E) := op_cmp_int (op := .Eq) (fun _ _ => rfl) PySem.F.slot_int_eq
  (fun s i t b dy Q' E' hb' q => call_meets PySem.F.slot_int_eq (typeIs_int s i t) PySem.F.entry_int_eq (PySem.F.args_int_eq_2 _ _) (int_eq_no i t b C dy) ⟨hb', q⟩) c m F hr hb hx

theorem op_ne_own (c : OwnC X.K C) (m : Meth X.K C "__ne__" f) (F : FnOk X.prog X.w X.K X.mg X.base CX k f fd ps sp)
    (hr : Room k X.A) (hb : Binds X.K fd ps []) (hx : Passes CX X E) : OpR X (compareOp .NotEq) (rOwn C sp E) := op_cmp_own (op := .NotEq) (fun _ _ => rfl) c m F hr hb hx
theorem op_ne_int (c : OwnC X.K C) (m : Meth X.K C "__ne__" f) (F : FnOk X.prog X.w X.K X.mg X.base CX k f fd ps sp)
    (hr : Room k X.A) (hb : Binds X.K fd ps []) (hx : Passes CX X E) : OpR X (compareOp .NotEq) (rOwnR C sp E) := op_cmp_int (op := .NotEq) (fun _ _ => rfl) PySem.F.slot_int_ne
  (fun s i t b dy Q' E' hb' q => call_meets PySem.F.slot_int_ne (typeIs_int s i t) PySem.F.entry_int_ne (PySem.F.args_int_ne_2 _ _) (int_ne_no i t b C dy) ⟨hb', q⟩) c m F hr hb hx

theorem op_lt_own (c : OwnC X.K C) (m : Meth X.K C "__lt__" f) (F : FnOk X.prog X.w X.K X.mg X.base CX k f fd ps sp)
    (hr : Room k X.A) (hb : Binds X.K fd ps []) (hx : Passes CX X E) : OpR X (compareOp .Lt) (rOwn C sp E) := op_cmp_own (op := .Lt) (fun _ _ => rfl) c m F hr hb hx
theorem op_lt_int (c : OwnC X.K C) (m : Meth X.K C "__gt__" f) (F : FnOk X.prog X.w X.K X.mg X.base CX k f fd ps sp)
    (hr : Room k X.A) (hb : Binds X.K fd ps []) (hx : Passes CX X E) : OpR X (compareOp .Lt) (rOwnR C sp E) := op_cmp_int (op := .Lt) (fun _ _ => rfl) PySem.F.slot_int_lt
  (fun s i t b dy Q' E' hb' q => call_meets PySem.F.slot_int_lt (typeIs_int s i t) PySem.F.entry_int_lt (PySem.F.args_int_lt_2 _ _) (int_lt_no i t b C dy) ⟨hb', q⟩) c m F hr hb hx

theorem op_le_own (c : OwnC X.K C) (m : Meth X.K C "__le__" f) (F : FnOk X.prog X.w X.K X.mg X.base CX k f fd ps sp)
    (hr : Room k X.A) (hb : Binds X.K fd ps []) (hx : Passes CX X E) : OpR X (compareOp .LtE) (rOwn C sp E) := op_cmp_own (op := .LtE) (fun _ _ => rfl) c m F hr hb hx
theorem op_le_int (c : OwnC X.K C) (m : Meth X.K C "__ge__" f) (F : FnOk X.prog X.w X.K X.mg X.base CX k f fd ps sp)
    (hr : Room k X.A) (hb : Binds X.K fd ps []) (hx : Passes CX X E) : OpR X (compareOp .LtE) (rOwnR C sp E) := op_cmp_int (op := .LtE) (fun _ _ => rfl) PySem.F.slot_int_le
  (fun s i t b dy Q' E' hb' q => call_meets PySem.F.slot_int_le (typeIs_int s i t) PySem.F.entry_int_le (PySem.F.args_int_le_2 _ _) (int_le_no i t b C dy) ⟨hb', q⟩) c m F hr hb hx

theorem op_gt_own (c : OwnC X.K C) (m : Meth X.K C "__gt__" f) (F : FnOk X.prog X.w X.K X.mg X.base CX k f fd ps sp)
    (hr : Room k X.A) (hb : Binds X.K fd ps []) (hx : Passes CX X E) : OpR X (compareOp .Gt) (rOwn C sp E) := op_cmp_own (op := .Gt) (fun _ _ => rfl) c m F hr hb hx
theorem op_gt_int (c : OwnC X.K C) (m : Meth X.K C "__lt__" f) (F : FnOk X.prog X.w X.K X.mg X.base CX k f fd ps sp)
    (hr : Room k X.A) (hb : Binds X.K fd ps []) (hx : Passes CX X E) : OpR X (compareOp .Gt) (rOwnR C sp E) := op_cmp_int (op := .Gt) (fun _ _ => rfl) PySem.F.slot_int_gt
  (fun s i t b dy Q' E' hb' q => call_meets PySem.F.slot_int_gt (typeIs_int s i t) PySem.F.entry_int_gt (PySem.F.args_int_gt_2 _ _) (int_gt_no i t b C dy) ⟨hb', q⟩) c m F hr hb hx

theorem op_ge_own (c : OwnC X.K C) (m : Meth X.K C "__ge__" f) (F : FnOk X.prog X.w X.K X.mg X.base CX k f fd ps sp)
    (hr : Room k X.A) (hb : Binds X.K fd ps []) (hx : Passes CX X E) : OpR X (compareOp .GtE) (rOwn C sp E) := op_cmp_own (op := .GtE) (fun _ _ => rfl) c m F hr hb hx
theorem op_ge_int (c : OwnC X.K C) (m : Meth X.K C "__le__" f) (F : FnOk X.prog X.w X.K X.mg X.base CX k f fd ps sp)
    (hr : Room k X.A) (hb : Binds X.K fd ps []) (hx : Passes CX X E) : OpR X (compareOp .GtE) (rOwnR C sp E) := op_cmp_int (op := .GtE) (fun _ _ => rfl) PySem.F.slot_int_ge
  (fun s i t b dy Q' E' hb' q => call_meets PySem.F.slot_int_ge (typeIs_int s i t) PySem.F.entry_int_ge (PySem.F.args_int_ge_2 _ _) (int_ge_no i t b C dy) ⟨hb', q⟩) c m F hr hb hx

theorem op_add_own (c : OwnC X.K C) (m : Meth X.K C "__add__" f) (mr : Meth X.K C "__radd__" g) (F : FnOk X.prog X.w X.K X.mg X.base CX k f fd ps sp)
    (hr : Room k X.A) (hb : Binds X.K fd ps []) (hx : Passes CX X E) : OpR X (binaryOp .Add) (rOwn C sp E) := op_bin_own (op := .Add) PySem.F.slot_int_radd PySem.F.fills_int_add c m mr F hr hb hx
theorem op_add_int (c : OwnC X.K C) (m : Meth X.K C "__radd__" f) (ml : Meth X.K C "__add__" g) (F : FnOk X.prog X.w X.K X.mg X.base CX k f fd ps sp)
    (hr : Room k X.A) (hb : Binds X.K fd ps []) (hx : Passes CX X E) : OpR X (binaryOp .Add) (rOwnR C sp E) := op_bin_int (op := .Add) PySem.F.slot_int_add PySem.F.fills_int_add
  (fun s i t b dy Q' E' hb' q => call_meets PySem.F.slot_int_add (typeIs_int s i t) PySem.F.entry_int_add (PySem.F.args_int_add_2 _ _) (int_add_no i t b C dy) ⟨hb', q⟩) c m ml F hr hb hx

theorem op_sub_own (c : OwnC X.K C) (m : Meth X.K C "__sub__" f) (mr : Meth X.K C "__rsub__" g) (F : FnOk X.prog X.w X.K X.mg X.base CX k f fd ps sp)
    (hr : Room k X.A) (hb : Binds X.K fd ps []) (hx : Passes CX X E) : OpR X (binaryOp .Sub) (rOwn C sp E) := op_bin_own (op := .Sub) PySem.F.slot_int_rsub PySem.F.fills_int_sub c m mr F hr hb hx
theorem op_sub_int (c : OwnC X.K C) (m : Meth X.K C "__rsub__" f) (ml : Meth X.K C "__sub__" g) (F : FnOk X.prog X.w X.K X.mg X.base CX k f fd ps sp)
    (hr : Room k X.A) (hb : Binds X.K fd ps []) (hx : Passes CX X E) : OpR X (binaryOp .Sub) (rOwnR C sp E) := op_bin_int (op := .Sub) PySem.F.slot_int_sub PySem.F.fills_int_sub
  (fun s i t b dy Q' E' hb' q => call_meets PySem.F.slot_int_sub (typeIs_int s i t) PySem.F.entry_int_sub (PySem.F.args_int_sub_2 _ _) (int_sub_no i t b C dy) ⟨hb', q⟩) c m ml F hr hb hx

theorem op_mul_own (c : OwnC X.K C) (m : Meth X.K C "__mul__" f) (mr : Meth X.K C "__rmul__" g) (F : FnOk X.prog X.w X.K X.mg X.base CX k f fd ps sp)
    (hr : Room k X.A) (hb : Binds X.K fd ps []) (hx : Passes CX X E) : OpR X (binaryOp .Mult) (rOwn C sp E) := op_bin_own (op := .Mult) PySem.F.slot_int_rmul PySem.F.fills_int_mul c m mr F hr hb hx
theorem op_mul_int (c : OwnC X.K C) (m : Meth X.K C "__rmul__" f) (ml : Meth X.K C "__mul__" g) (F : FnOk X.prog X.w X.K X.mg X.base CX k f fd ps sp)
    (hr : Room k X.A) (hb : Binds X.K fd ps []) (hx : Passes CX X E) : OpR X (binaryOp .Mult) (rOwnR C sp E) := op_bin_int (op := .Mult) PySem.F.slot_int_mul PySem.F.fills_int_mul
  (fun s i t b dy Q' E' hb' q => call_meets PySem.F.slot_int_mul (typeIs_int s i t) PySem.F.entry_int_mul (PySem.F.args_int_mul_2 _ _) (int_mul_no i t b C dy) ⟨hb', q⟩) c m ml F hr hb hx

theorem op_mod_own (c : OwnC X.K C) (m : Meth X.K C "__mod__" f) (mr : Meth X.K C "__rmod__" g) (F : FnOk X.prog X.w X.K X.mg X.base CX k f fd ps sp)
    (hr : Room k X.A) (hb : Binds X.K fd ps []) (hx : Passes CX X E) : OpR X (binaryOp .Mod) (rOwn C sp E) := op_bin_own (op := .Mod) PySem.F.slot_int_rmod PySem.F.fills_int_mod c m mr F hr hb hx
theorem op_mod_int (c : OwnC X.K C) (m : Meth X.K C "__rmod__" f) (ml : Meth X.K C "__mod__" g) (F : FnOk X.prog X.w X.K X.mg X.base CX k f fd ps sp)
    (hr : Room k X.A) (hb : Binds X.K fd ps []) (hx : Passes CX X E) : OpR X (binaryOp .Mod) (rOwnR C sp E) := op_bin_int (op := .Mod) PySem.F.slot_int_mod PySem.F.fills_int_mod
  (fun s i t b dy Q' E' hb' q => call_meets PySem.F.slot_int_mod (typeIs_int s i t) PySem.F.entry_int_mod (PySem.F.args_int_mod_2 _ _) (int_mod_no i t b C dy) ⟨hb', q⟩) c m ml F hr hb hx
end
end MoL

/-! # Helpers: items of lists read by place, // by any number that is not 0, sizes, lowest terms -/
namespace MoL
open PySem PySem.Spec PyProof.Rows L2 MoW

section
variable {X : Cx}
def rGetL (K : PySem.W.Frag) : V → V → Hp → VK → Prop := fun x y H Q => ∃ p xs j v, x = .ref p ∧ y = .int ((j : Nat) : Int) ∧ SqL K H p xs ∧ xs[j]? = some v ∧ Q v H
theorem get_list : PGet X (rGetL X.K) := by
  intro pins s σ H x y v u Q I rx ry h
  obtain ⟨p, xs, j, z, rfl, rfl, hq, he, q⟩ := h
  cases rx
  obtain ⟨t, rfl⟩ := ry
  obtain ⟨its, r, pl, hz⟩ := I.list hq
  obtain ⟨w, ew, rw'⟩ := r.get he
  have hj : j < xs.length := (List.getElem?_eq_some_iff.mp he).1
  have hn := line63
  exact wpAny_getItem_list pl.isList (by omega) (by omega) (by simpa using ew) ⟨z, H, I, rw', q⟩
/-- // by any number but 0, below 2 ^ 9000 in size -/
def CDivA (_ j : Int) : Prop := j ≠ 0 ∧ j.natAbs.log2 < 9000
theorem op_fdivA : OpR X (binaryOp .FloorDiv) (rI CDivA fun i j => .int (i.fdiv j)) := opI fun i j _ _ _ _ _ hc q => floordiv_int hc.1 q (.inl (PyProof.noPylong_of_log2 hc.2))
end

/-! ### sizes -/
/-- below 2 ^ 4000 in size -/
def Sm (i : Int) : Prop := i.natAbs < 2 ^ 4000
theorem Sm.mul {i j : Int} (a : Sm i) (b : Sm j) : CMulW i j := wide_mul a b (by decide) (by decide) (by decide)
theorem Sm.mulr {i j : Int} (a : Sm i) (b : j.natAbs < 2 ^ 9000) : CMulW i j := wide_mul a b (by decide) (by decide) (by decide)
theorem Sm.div {i j : Int} (h : j ≠ 0) (a : Sm j) : CDivA i j := ⟨h, Nat.lt_of_lt_of_le (PySem.Flt.log2_lt_of (by decide) a) (by decide)⟩
theorem Sm.le {i j : Int} (a : Sm j) (h : i.natAbs ≤ j.natAbs) : Sm i := Nat.lt_of_le_of_lt h a
theorem pow_big {k : Nat} (h : k ≤ 4000) : 2 ^ k ≤ 2 ^ 4000 := Nat.pow_le_pow_right (by decide) h
theorem Sm.of {i : Int} {k : Nat} (h : i.natAbs < 2 ^ k) (hk : k ≤ 4000) : Sm i := Nat.lt_of_lt_of_le h (pow_big hk)

theorem Sm.ab {i : Int} (h1 : -(2 ^ 200) < i) (h2 : i < 2 ^ 200) : Sm i := Sm.of (k := 200) (by omega) (by decide)
theorem iteFe {c : Bool} {A B : Prop} (hc : c = false) (h : B) : if c = true then A else B := by rw [hc]; exact iteF h
theorem iteTe {c : Bool} {A B : Prop} (hc : c = true) (h : A) : if c = true then A else B := by rw [hc]; exact iteT h

/-! ### lowest terms -/
/-- t' / b' is t / b in lowest terms, the bottom above 0 -/
structure Norm (t b t' b' : Int) : Prop where
  ex : ∃ g : Int, t = g * t' ∧ b = g * b' ∧ g ≠ 0
  pos : 0 < b'
  cop : Nat.gcd t'.natAbs b'.natAbs = 1
theorem Norm.cross {t b t' b' : Int} (n : Norm t b t' b') : t' * b = t * b' := by
  obtain ⟨g, h1, h2, _⟩ := n.ex
  rw [h1, h2, Int.mul_comm g t', Int.mul_assoc]
theorem natAbs_le_mul {g x : Int} (h : g ≠ 0) : x.natAbs ≤ (g * x).natAbs := by
  rw [Int.natAbs_mul]
  exact Nat.le_mul_of_pos_left _ (Int.natAbs_pos.mpr h)
theorem Norm.le1 {t b t' b' : Int} (n : Norm t b t' b') : t'.natAbs ≤ t.natAbs := by
  obtain ⟨g, h1, h2, h⟩ := n.ex
  rw [h1]; exact natAbs_le_mul h
theorem Norm.le2 {t b t' b' : Int} (n : Norm t b t' b') : b'.natAbs ≤ b.natAbs := by
  obtain ⟨g, h1, h2, h⟩ := n.ex
  rw [h2]; exact natAbs_le_mul h
/-- what the making computes: g the signed common divisor -/
theorem fdiv_exact {g x y : Int} (h : g ≠ 0) (e : x = g * y) : x.fdiv g = y := by
  rw [e]
  exact Int.mul_fdiv_cancel_left y h
theorem Norm.make {t b : Int} (hb : b ≠ 0) : ∀ g : Int, g = (if b < 0 then -((Nat.gcd t.natAbs b.natAbs : Nat) : Int) else ((Nat.gcd t.natAbs b.natAbs : Nat) : Int)) →
    g ≠ 0 ∧ g.natAbs ≤ b.natAbs ∧ Norm t b (t.fdiv g) (b.fdiv g) := by
  intro g hg
  have hpos : 0 < Nat.gcd t.natAbs b.natAbs := Nat.gcd_pos_of_pos_right _ (Int.natAbs_pos.mpr hb)
  have hle : Nat.gcd t.natAbs b.natAbs ≤ b.natAbs := Nat.gcd_le_right _ (Int.natAbs_pos.mpr hb)
  generalize hd : Nat.gcd t.natAbs b.natAbs = d at hpos hle hg
  have gabs : g.natAbs = d := by
    rw [hg]; split <;> simp
  have g0 : g ≠ 0 := by
    intro z; rw [z] at gabs; simp at gabs; omega
  have d1 : d ∣ t.natAbs := hd ▸ Nat.gcd_dvd_left _ _
  have d2 : d ∣ b.natAbs := hd ▸ Nat.gcd_dvd_right _ _
  have e1 : g ∣ t := Int.natAbs_dvd_natAbs.mp (by rw [gabs]; exact d1)
  have e2 : g ∣ b := Int.natAbs_dvd_natAbs.mp (by rw [gabs]; exact d2)
  obtain ⟨t', ht⟩ := e1
  obtain ⟨b', hb'⟩ := e2
  refine ⟨g0, by rw [gabs]; exact hle, ?_⟩
  rw [fdiv_exact g0 ht, fdiv_exact g0 hb']
  refine ⟨⟨g, ht, hb', g0⟩, ?_, ?_⟩
  · by_cases hneg : b < 0
    · rw [if_pos hneg] at hg
      have gn : g < 0 := by omega
      rw [hb', Int.mul_comm] at hneg
      exact Int.pos_of_mul_neg_left hneg gn
    · rw [if_neg hneg] at hg
      have gp : 0 < g := by omega
      have bp : 0 < g * b' := by rw [← hb']; omega
      exact Int.pos_of_mul_pos_right bp (by omega)
  · have x1 : t.natAbs = d * t'.natAbs := by rw [ht, Int.natAbs_mul, gabs]
    have x2 : b.natAbs = d * b'.natAbs := by rw [hb', Int.natAbs_mul, gabs]
    rw [x1, x2, Nat.gcd_mul_left] at hd
    have : d * Nat.gcd t'.natAbs b'.natAbs = d * 1 := by rw [hd, Nat.mul_one]
    exact Nat.eq_of_mul_eq_mul_left hpos this
end MoL

namespace MoL
open PySem PySem.Spec PyProof.Rows L2 MoW
/-- what the written part says of a class of plain instances with operators and the fields top, bottom -/
structure OwnK (K : PySem.W.Frag) (C : Addr) : Prop where
  cl : Cls K C
  ow : OwnC K C
  ha : PySem.W.findIn K (.ref C) "__class__" = some (some (.builtin "object.__class__"))
  hn : PySem.W.specialIn K (.builtin "object.__class__") "__get__" = some (some (.builtin "getset_descriptor.__get__"))
  htk : PySem.W.takesIn K (.builtin "object.__class__") = some true
  hm : PySem.W.mroIn K C (.type "object") = some true
  ki : PySem.W.kitOne K (.ref C) (.type "int") = some false
  ik : PySem.W.kitOne K (.type "int") (.ref C) = some false
  n_top : NoAttr K C "top"
  n_bottom : NoAttr K C "bottom"
theorem kit_self {K : PySem.W.Frag} {C : Addr} : PySem.W.kitOne K (.ref C) (.ref C) = some true := by
  unfold PySem.W.kitOne
  rw [if_pos (by simp)]
theorem OwnK.ty {K : PySem.W.Frag} {C : Addr} {H : Hp} {a dx : Addr} {fs : List (Str × V)} (k : OwnK K C) (h : H a = some (.ins C dx fs)) : TyX K H (.ref a) (.ref C) :=
  .base (.ins h k.cl k.ha k.hn k.htk k.hm)

/-- a Ratio: an instance of the class at C with these two numbers -/
def RatAt (C : Addr) (H : Hp) (v : V) (t b : Int) : Prop := ∃ a dx, v = .ref a ∧ H a = some (.ins C dx [("top", .int t), ("bottom", .int b)])
theorem RatAt.ins {C : Addr} {H : Hp} {v : V} {t b : Int} (r : RatAt C H v t b) : Ins H v C := by
  obtain ⟨a, dx, e, h⟩ := r
  exact ⟨a, dx, _, e, h⟩
theorem RatAt.same {C : Addr} {H H' : Hp} {v : V} {t b : Int} (r : RatAt C H v t b) (s : Same H H') : RatAt C H' v t b := by
  obtain ⟨a, dx, e, h⟩ := r
  exact ⟨a, dx, e, s _ _ h⟩
theorem Ins.same {C : Addr} {H H' : Hp} {v : V} (r : Ins H v C) (s : Same H H') : Ins H' v C := by
  obtain ⟨a, dx, fs, e, h⟩ := r
  exact ⟨a, dx, fs, e, s _ _ h⟩
theorem same_upd {H : Hp} {p : Addr} {o : HO} (h : H p = none) : Same H (upd H p o) := fun b x e => by
  rw [upd_ne (ne_of_none e h)]
  exact e
theorem same_upd' {H H1 : Hp} {p : Addr} {o : HO} (s : Same H H1) (h : H p = none) : Same H (upd H1 p o) := fun b x e => by
  rw [upd_ne (ne_of_none e h)]
  exact s _ _ e
end MoL

/-! # Signs before an instance, abs of one; lowest terms are one -/
namespace MoL
open PySem PySem.Spec PyProof.Rows L2 MoW
section
variable {X : Cx} {CX : CXT} {k : Nat} {C f g : Addr} {fd : FuncData} {ps : List Str} {sp : Sp} {E : XK}
/-- -x of an instance with its own __neg__ -/
def rOwn1 (C : Addr) (sp : Sp) (E : XK) : V → Hp → VK → Prop := fun x H Q => Ins H x C ∧ sp [x] H Q E
theorem un_neg_own (m : Meth X.K C "__neg__" f) (F : FnOk X.prog X.w X.K X.mg X.base CX k f fd ps sp)
    (hr : Room k X.A) (hb : Binds X.K fd ps []) (hx : Passes CX X E) : UnR X (unaryOp .USub) (rOwn1 C sp E) := by
  intro pins s σ H x v Q I rx h
  obtain ⟨⟨a, dx, fs, rfl, ha⟩, hs⟩ := h
  cases (show v = Value.ref a from rx)
  obtain ⟨od, J⟩ := ins_at I ha
  have hrun : wpAny (model X.prog X.w) X.A (call (.ref f) [.ref a]) (EP X pins σ Q) X.xe s :=
    run_fn (us := [.ref a]) (vs := [.ref a]) F hr hb .nil hx I (.cons rfl .nil) hs
  unfold unaryOp
  refine wpAny_holding ?_
  have e : (UnaryOp.USub == UnaryOp.Not) = false := rfl
  simp only [e, Bool.false_eq_true, if_false]
  exact wpAny_bind (PySem.W.special_fn I.kIn J m.at_ (beq_iff_eq.mp m.fn) (wpAny_mono hrun (fun v s' q => wpAny_pure q) fun _ _ e => e))
theorem UnR.or {f : Value → Sem Value} {r r' : V → Hp → VK → Prop} (h : UnR X f r) (h' : UnR X f r') : UnR X f (fun x H Q => r x H Q ∨ r' x H Q) := by
  intro pins s σ H x v Q I rx q
  rcases q with q | q
  · exact h pins s σ H x v Q I rx q
  · exact h' pins s σ H x v Q I rx q
/-- the callee runs within a built-in -/
theorem run_fn1 {pins : List (Addr × Obj)} {σ : L2.St} {H : Hp} {s : Shared} {Q : VK} {us : List Value} {vs : List V} (F : FnOk X.prog X.w X.K X.mg X.base CX k f fd ps sp) (hr : Room (k + 1) X.A) (hb : Binds X.K fd ps []) (hx : Passes CX X E)
    (I : Inv X pins σ H s) (r : Vals vs us) (h : sp vs H Q E) : wpAny (model X.prog X.w) X.A.in1 (call (.ref f) us) (EP X pins σ Q) X.xe s := by
  have hl : us.length = ps.length := by rw [← r.length]; exact F.len _ _ _ _ h
  have hb' : BindsTo s fd ⟨us, []⟩ (ps.zip us) := by
    have := hb s us I.kIn (by simpa using hl)
    simpa using this
  refine wpAny_call (codeAny_mono (F.run X.A.in1 X.stack s H ⟨us, []⟩ us vs Q E hr.in1 I.env0.in1 hb' r h) fun r s' hq => ?_)
  cases r with
  | error e => exact hx pins σ H s e s' I hq
  | ok fl =>
    cases fl with
    | ret u => exact I.after hq
    | next => exact False.elim hq
    | brk => exact False.elim hq
    | cont => exact False.elim hq
theorem call_abs_own (m : Meth X.K C "__abs__" f) (F : FnOk X.prog X.w X.K X.mg X.base CX k f fd ps sp)
    (hr : Room (k + 1) X.A) (hb : Binds X.K fd ps []) (hx : Passes CX X E) : CallR X (.builtin "abs") (fun xs H Q => ∃ x, xs = [x] ∧ rOwn1 C sp E x H Q) := by
  intro pins s σ H xs us Q I r h
  obtain ⟨x, rfl, ⟨a, dx, fs, rfl, ha⟩, hs⟩ := h
  obtain ⟨u, rfl, ru⟩ := vals1 r
  cases (show u = Value.ref a from ru)
  obtain ⟨od, J⟩ := ins_at I ha
  have hrun := run_fn1 (us := [.ref a]) (vs := [.ref a]) F hr hb hx I (.cons rfl .nil) hs
  refine Calls.call_function_entry kind_abs plain_abs entry_abs (args_abs _) ?_
  unfold Builtin.«abs»
  refine wpAny_bind (m := oneArg "abs" _) (wpAny_pure ?_)
  refine wpAny_bind (m := callSpecial? (.ref a) (Str.ofString "__abs__")) ?_
  exact PySem.W.special_fn I.kIn J m.at_ (beq_iff_eq.mp m.fn) (wpAny_mono hrun (fun v s' q => wpAny_pure ⟨_, rfl, q⟩) fun _ _ e => e)
end
/-! ### lowest terms are one -/
theorem Norm.bne {t b t' b' : Int} (n : Norm t b t' b') : b ≠ 0 := by
  obtain ⟨g, _, h2, h⟩ := n.ex
  rw [h2]
  intro z
  rcases Int.mul_eq_zero.mp z with e | e
  · exact h e
  · have := n.pos; omega
theorem cop_one {t b u c : Int} (hb : 0 < b) (hc : 0 < c) (h1 : Nat.gcd t.natAbs b.natAbs = 1) (h2 : Nat.gcd u.natAbs c.natAbs = 1) (e : t * c = u * b) : t = u ∧ b = c := by
  have en : t.natAbs * c.natAbs = u.natAbs * b.natAbs := by rw [← Int.natAbs_mul, ← Int.natAbs_mul, e]
  have d1 : b.natAbs ∣ c.natAbs := by
    have h : b.natAbs ∣ t.natAbs * c.natAbs := ⟨u.natAbs, by rw [en, Nat.mul_comm]⟩
    exact Nat.Coprime.dvd_of_dvd_mul_left (Nat.Coprime.symm h1) h
  have d2 : c.natAbs ∣ b.natAbs := by
    have h : c.natAbs ∣ u.natAbs * b.natAbs := ⟨t.natAbs, by rw [← en, Nat.mul_comm]⟩
    exact Nat.Coprime.dvd_of_dvd_mul_left (Nat.Coprime.symm h2) h
  have ebc : b = c := by
    have := Nat.dvd_antisymm d1 d2
    omega
  subst ebc
  refine ⟨?_, rfl⟩
  exact Int.eq_of_mul_eq_mul_right (by omega) e
/-- two ways to one value: the same lowest terms -/
theorem Norm.uniq {p q t b p' q' t' b' : Int} (n : Norm p q t b) (m : Norm p' q' t' b') (e : p * q' = p' * q) : t = t' ∧ b = b' := by
  refine cop_one n.pos m.pos n.cop m.cop ?_
  have c1 := n.cross
  have c2 := m.cross
  have q0 := n.bne
  have q1 := m.bne
  have key : (t * b') * (q * q') = (t' * b) * (q * q') := by
    have e1 : (t * b') * (q * q') = (t * q) * (b' * q') := by
      rw [Int.mul_assoc, Int.mul_assoc, Int.mul_left_comm b' q q']
    have e2 : (t' * b) * (q * q') = (t' * q') * (b * q) := by
      rw [Int.mul_assoc, Int.mul_assoc, Int.mul_comm q q', Int.mul_left_comm b q' q]
    rw [e1, e2, c1, c2]
    have e3 : p * b * (b' * q') = (p * q') * (b * b') := by
      rw [Int.mul_assoc, Int.mul_assoc, Int.mul_comm b' q', Int.mul_left_comm b q' b']
    have e4 : p' * b' * (b * q) = (p' * q) * (b * b') := by
      rw [Int.mul_assoc, Int.mul_assoc, Int.mul_comm b q, Int.mul_left_comm b' q b, Int.mul_comm b' b]
    rw [e3, e4, e]
  have qq : q * q' ≠ 0 := fun z => by
    rcases Int.mul_eq_zero.mp z with e | e
    · exact q0 e
    · exact q1 e
  exact Int.eq_of_mul_eq_mul_right qq key
end MoL
namespace MoL
open PySem PySem.Spec PyProof.Rows L2 MoW
theorem call_or {X : Cx} {f : Value} {r r' : List V → Hp → VK → Prop} (h : CallR X f r) (h' : CallR X f r') : CallR X f (fun xs H Q => r xs H Q ∨ r' xs H Q) := by
  intro pins s σ H xs us Q I r q
  rcases q with q | q
  · exact h pins s σ H xs us Q I r q
  · exact h' pins s σ H xs us Q I r q
end MoL

/-! # Errors of the program: making one whose class keeps one field, and what a suite that caught it may ask -/
namespace MoL
open PySem PySem.Spec PyProof.Rows L2 MoW

/-! ### a class call in a body whose errors are caught: the wish speaks of the slots -/
def tMakeA (C : Addr) (sp : Sp) (dvs : List V) (W : L2.St → XK) (t : TA) : TE := fun σ H Q => t σ H fun vs G => ∀ x y, G x = none → G y = none → y ≠ x →
  sp (.ref x :: (vs ++ dvs)) (upd (upd G y (.own x)) x (.ins C y [])) (fun v G2 => v = .non ∧ Q (.ref x) G2) (W σ)
section
variable {X : Cx} {CX : CXT} {k : Nat} {f C : Addr} {fd : FuncData} {ps : List Str} {sp : Sp} {dvs : List V} {ds : List Value} {W : L2.St → XK} {x : Str} {p pos : Pos} {e : Expr} {es : List Expr} {t : TA}
theorem pe_makeA (M : Mk X.K C f) (F : FnOk X.prog X.w X.K X.mg X.base CX k f fd ps sp) (room : Room (k + 1) X.A) (hg : Gl X x) (hm : X.mg x = some (.ref C)) (hb : Binds X.K fd ps ds) (hd : Vals dvs ds) (hx : ∀ σ, PassesAt CX X σ (W σ)) (ha : PA X (e :: es) t)
    (hdb : (x == ("__debug__" : Str)) = false := by decide) (he : starEach (e :: es) X.env = (false, eval e X.env) :: starEach es X.env := by rfl) (hpl : (backTo pos (starEach es X.env)).any (·.1) = false := by rfl) :
    PE X (.Call (.Name x p) (e :: es) [] pos) (tMakeA C sp dvs W t) := by
  constructor
  intro pins s0 σ H0 Q I0 h
  refine wpAny_Call_Name_kw (ld_glob I0 hg hm ?_ hdb)
  refine PySem.W.callWith_K (h₀ := X.base) I0.ok.mod.kin M.kp ?_ he hpl
  refine thn (ha.run pos pins s0 σ H0 _ I0 h) ?_
  rintro us s ⟨vs, H, I, r, h⟩
  refine ⟨I.kIn, ?_⟩
  have hq := h (s.heap.objs.size + 1) s.heap.objs.size (I.hok.fresh (Nat.le_succ _)) (I.hok.fresh (Nat.le_refl _)) (Nat.ne_of_lt (Nat.lt_succ_self _))
  have I2 := Inv.made (C := C) I
  have r2 : Vals (V.ref (s.heap.objs.size + 1) :: (vs ++ dvs)) (Value.ref (s.heap.objs.size + 1) :: (us ++ ds)) := .cons rfl (r.append hd)
  have hl : (Value.ref (s.heap.objs.size + 1) :: us ++ ds).length = ps.length := (F.len _ _ _ _ hq ▸ r2.length).symm
  have run := F.run _ X.stack _ _ ⟨Value.ref (s.heap.objs.size + 1) :: us, []⟩ _ _ _ _ (room.make C us []) (I2.env0.make C us []) (hb _ (Value.ref (s.heap.objs.size + 1) :: us) I2.kIn hl) r2 hq
  refine wpAny_call (make_map (f := f) I.kIn M.makes M.init (beq_iff_eq.mp M.fn) (codeAny_mono run ?_))
  intro r s' hq'
  rcases r with fl | e
  · exact hx σ pins _ _ _ s' I2 hq'
  · cases e with
    | ret u =>
      obtain ⟨v, G, I3, rv, ev, q3⟩ := I2.after hq'
      cases ev
      exact ⟨rv, ⟨V.ref (s.heap.objs.size + 1), G, I3, rfl, q3⟩⟩
    | next => exact hq'.elim
    | brk => exact hq'.elim
    | cont => exact hq'.elim
end

/-! ### isinstance of a caught error that has fields -/
def rIsD (K : PySem.W.Frag) (a : Addr) (cls : Value) (d : Option Addr) (D : Addr) : List V → Hp → VK → Prop := fun xs H Q => ∃ (c : V) (cv : Value) (b : Bool) (y : Addr) (fs : List (Str × V)),
  xs = [.ref a, c] ∧ cls = .ref D ∧ d = some y ∧ H y = some (.xd fs) ∧ ClsV c cv ∧ PySem.W.kitOne K (.ref D) cv = some b ∧ Q (.bl b) H
theorem call_isD {X : Cx} {a D : Addr} {oe : Obj} {cls : Value} {d : Option Addr} {pn : List (Addr × Obj)} (C : ExcC X.K D) (hz : Zc cls d oe) (hf : ∃ vs, oe.data = .fields vs) : CallR (X.suite a ((a, oe) :: pn)) (.builtin "isinstance") (rIsD X.K a cls d D) := by
  intro pins s σ H xs us Q I r h
  obtain ⟨c, cv, b, y, fs, rfl, rfl, rfl, hy, hc, e, q⟩ := h
  obtain ⟨u1, u2, rfl, r1, r2⟩ := vals2 r
  cases (show u1 = Value.ref a from r1)
  have e2 := hc.eq r2
  subst e2
  have hget := (I.pin (a, oe) (List.mem_append_left _ List.mem_cons_self)).1
  have ho : ∃ o, s.heap.get? y = some o := by
    obtain ⟨m, ⟨o, _, _, z, _⟩, _⟩ := (show ObjOk X.prog X.w H s.heap y (.xd fs) from I.hok y _ hy)
    exact ⟨o, z⟩
  obtain ⟨od, ho⟩ := ho
  have J : PySem.W.InstAt s.heap a oe D (some od) := by
    obtain ⟨vs, hv⟩ := hf
    rcases oe with ⟨oc, odd, dt, sl⟩
    obtain ⟨z1, z2⟩ := hz
    dsimp only at z1 z2 hv
    subst z1 z2 hv
    exact ⟨hget, rfl, rfl, ho⟩
  have hcl : (PySem.W.clsIn X.K D).isSome = true := by
    obtain ⟨cd, hcd, _⟩ := PySem.W.any_some C.hd
    rw [hcd]
    rfl
  exact PySem.W.kia_one (PySem.W.kitx_exc hcl C.hg C.hk C.hs C.ha C.hn C.ht C.hm) I.kIn J e (fun z => nomatch z) fun tk => ⟨.bl b, H, I.kept (t' := tk) fun _ _ z => z, rfl, q⟩

/-! ### the making of an error with one field -/
/-- the __init__ of such a class: the field f is what was given -/
def sp_keep (K : PySem.W.Frag) (f : Str) : Sp := fun vs H Q _ => ∃ (e C : Addr) (v : V), vs = [.ref e, v] ∧ OexC K C ∧ PySem.W.findIn K (.ref C) f = some none ∧ H e = some (exo e C none) ∧
  ∀ y, H y = none → y ≠ e → Q .non (upd (upd H y (exd y [(f, v)])) e (exo e C (some y)))
/-- raise C(v): what follows when its __init__ keeps sp_keep -/
theorem mk_keep {K : PySem.W.Frag} {C : Addr} {f : Str} {v : V} {H : Hp} {Q : XK} (T : OexC K C) (hn : PySem.W.findIn K (.ref C) f = some none) (q : ∀ y, H y = none → Q (.ref C) (some y) (upd H y (.xd [(f, v)]))) :
    ([v] : List V).length ≤ 1000 ∧ ∀ a, H a = none → sp_keep K f (.ref a :: ([v] ++ [])) (upd H a (exo a C none))
      (fun w G => w = .non ∧ ∃ (d : Addr) (fs : List (Str × V)), G a = some (exo a C (some d)) ∧ G d = some (exd d fs) ∧ H d = none ∧ Q (.ref C) (some d) (upd (del G a) d (.xd fs))) (fun _ _ _ => False) := by
  refine ⟨by show 1 ≤ 1000; decide, fun a na => ⟨a, C, v, rfl, T, hn, upd_same, fun y ny yne => ⟨rfl, y, [(f, v)], upd_same, ?_, ?_, ?_⟩⟩⟩
  · rw [upd_ne yne, upd_same]
  · rw [upd_ne yne] at ny
    exact ny
  · rw [upd_ne yne] at ny
    have e : upd (del (upd (upd (upd H a (exo a C none)) y (exd y [(f, v)])) a (exo a C (some y))) a) y (.xd [(f, v)]) = upd H y (.xd [(f, v)]) := by
      funext b
      by_cases hb : b = y
      · subst hb
        rw [upd_same, upd_same]
      · rw [upd_ne hb, upd_ne hb]
        by_cases hba : b = a
        · subst hba
          rw [del_same, na]
        · rw [del_ne hba, upd_ne hba, upd_ne hb, upd_ne hba]
    rw [e]
    exact q y ny
end MoL

/-! # // and ** of instances, and what leaves a def that may raise -/
namespace MoW
open PySem PySem.W
section
variable {prog : Program} {w : World} {A : Around} {E : Value → Shared → Prop} {s : Shared}
theorem int_floordiv_no (i : Int) (t : Tok) (l C dx : Addr) :
    Meets (Builtin.«int.__floordiv__» ⟨[.int i t, .ref l], []⟩) (fun _ R s => s.heap.get? l = some (PySem.W.instObj C dx) ∧ R (.ok (.ret .notImplemented)) s) :=
  .of_wp fun prog w A R s h => by obtain ⟨hp, g, d, tk, os⟩ := s; obtain ⟨hl, h⟩ := h; unfold PySem.W.instObj at hl; wp_walk using wpAny_loadPart' hl, wpAny_load hl; exact ⟨_, rfl, h⟩
end
end MoW
namespace MoW
open PySem PySem.W PyProof.Rows
section
variable {prog : Program} {w : World} {A : Around} {E : Value → Shared → Prop} {s : Shared} {K : Frag} {x C L f : Addr} {h₀ : Heap} {m : Str → Option Value} {dx : Addr} {od : Option Obj} {i : Int} {t : Tok}

theorem bin_own_int0 {op : Operator} {id : String} {Q : Value → Shared → Prop} (F : Fr h₀ L s.heap m) (X₀ : K.In h₀) (I : InstAt s.heap x (instObj C dx) C od)
    (hc : selfFirst K C = true) (hn : subIn K (.type "int") (.ref C) = some false) (h1 : Slot "int" (dunderR op.info.2) id) (hfi : fillsNumberSlot (.type "int") op.info.2 = pure true)
    (hs : findIn K (.ref C) (PySem.dunder op.info.2) = some (some (.ref f))) (hf : isFn K (.ref f) = true)
    (hd : findIn K (.ref C) (dunderR op.info.2) = some none)
    (h : wpAny (model prog w) A (call (.ref f) [.ref x, .int i t]) (W.CmpBack Q) E s) : wpAny (model prog w) A (binaryOp op (.ref x) (.int i t)) Q E s := by
  have X := X₀.keeps F.keep
  obtain ⟨cd, rest, hcd, hm⟩ := mro_first (K := K) (C := C) (cd := default) hc
  unfold binaryOp
  refine wpAny_holding (wpAny_bind ?_)
  unfold binaryOp1
  refine wpAny_bind (I.type.here (wpAny_bind (wpAny_typeOf (typeIs_int s i t) (wpAny_bind ((fills_K X hcd hm hs).here ?_)))))
  have hne : (Value.ref C == Value.type "int") = false := rfl
  simp only [hne, Bool.false_eq_true, if_false]
  refine wpAny_bind (wpAny_of_eq hfi ?_)
  simp only [Bool.and_self, if_true]
  refine wpAny_bind ((looks_subIn X hn).here ?_)
  have hpy : Looks (model prog w) s.heap (numberSlotInPython (.ref C) op.info.2) true := by
    unfold numberSlotInPython
    refine (looks_findIn X hs).andThen ?_
    refine Looks.andThen (a := true) .now ?_
    refine (looks_findIn X hd).andThen ?_
    refine Looks.andThen (a := false) .now ?_
    exact .now
  have hpi : numberSlotInPython (.type "int") op.info.2 = pure false := rfl
  simp only [Bool.false_eq_true, if_false, pure_bind, Bool.not_false, Bool.and_self, if_true]
  refine wpAny_bind (hpy.here ?_)
  simp only [if_true]
  refine wpAny_bind (wpAny_of_eq hpi ?_)
  simp only [Bool.not_false, if_true]
  refine wpAny_bind (wpAny_of_eq h1.lookup ?_)
  refine wpAny_bind (m := tryMethod (.ref x) _ (.int i t)) ?_
  unfold tryMethod
  refine wpAny_bind (special_fn X I hs (beq_iff_eq.mp hf) (wpAny_mono h (fun v s' hv => ?_) fun _ _ e => e))
  cases v <;> first | exact hv.elim | exact wpAny_pure (wpAny_pure (wpAny_pure hv))
end
end MoW

namespace MoL
open PySem PySem.Spec PyProof.Rows L2 MoW
section
variable {X : Cx} {CX : CXT} {k : Nat} {C f g : Addr} {fd : FuncData} {ps : List Str} {sp : Sp} {E : XK}
theorem op_floordiv_own (c : OwnC X.K C) (m : Meth X.K C "__floordiv__" f) (mr : Meth X.K C "__rfloordiv__" g) (run : FnOk X.prog X.w X.K X.mg X.base CX k f fd ps sp) (hr : Room k X.A) (hb : Binds X.K fd ps []) (hx : Passes CX X E) : OpR X (binaryOp .FloorDiv) (rOwn C sp E) :=
  op_bin_own (op := .FloorDiv) F.slot_int_rfloordiv F.fills_int_floordiv c m mr run hr hb hx
theorem op_floordiv_int (c : OwnC X.K C) (m : Meth X.K C "__rfloordiv__" f) (ml : Meth X.K C "__floordiv__" g) (run : FnOk X.prog X.w X.K X.mg X.base CX k f fd ps sp) (hr : Room k X.A) (hb : Binds X.K fd ps []) (hx : Passes CX X E) : OpR X (binaryOp .FloorDiv) (rOwnR C sp E) :=
  op_bin_int (op := .FloorDiv) F.slot_int_floordiv F.fills_int_floordiv (fun s i t b dy Q' E' hb' q => call_meets F.slot_int_floordiv (typeIs_int s i t) F.entry_int_floordiv (F.args_int_floordiv_2 _ _) (int_floordiv_no i t b C dy) ⟨hb', q⟩) c m ml run hr hb hx
/-- x ** i, the class has no mirrored one -/
theorem op_pow_own (c : OwnC X.K C) (m : Meth X.K C "__pow__" f) (no : PySem.W.findIn X.K (.ref C) "__rpow__" = some none) (run : FnOk X.prog X.w X.K X.mg X.base CX k f fd ps sp) (hr : Room k X.A) (hb : Binds X.K fd ps []) (hx : Passes CX X E) :
    OpR X (binaryOp .Pow) (fun x y H Q => Ins H x C ∧ (∃ i, y = .int i) ∧ sp [x, y] H Q E) := by
  intro pins s σ H x y v u Q I rx ry h
  obtain ⟨⟨a, dx, fs, rfl, ha⟩, ⟨i, rfl⟩, hs⟩ := h
  cases (show v = Value.ref a from rx)
  obtain ⟨t, rfl⟩ := (show ∃ t, u = Value.int i t from ry)
  obtain ⟨od, J⟩ := ins_at I ha
  obtain ⟨mm, hF⟩ := I.fr
  exact bin_own_int0 (op := .Pow) hF I.ok.mod.kin J c.first c.ic F.slot_int_rpow F.fills_int_pow m.at_ m.fn no
    (thn (run_fn (us := [.ref a, .int i t]) (vs := [.ref a, .int i]) run hr hb .nil hx I (.cons rfl (.cons ⟨t, rfl⟩ .nil)) hs) fun v s' q => ep_back q)
end
/-- a callee's error is this def's own way out -/
theorem passE {P : Program} {w : World} {K : PySem.W.Frag} {mg : Str → Option Value} {base : Heap} {N : List Str} {qual : Str} {scope : Scope} {f : Addr} {cdv : Value} {A : Around} {outer : List Env} {s : Shared} {H : Hp} {E : XK} :
    Passes (L2.CX P w) (cxOf (L2.CX P w) P w K mg base N qual scope f cdv A outer s H E) E :=
  passes_call (W := fun cls d _ H => E cls d H) (takes_of rfl rfl rfl rfl) fun _ _ _ _ h => h
end MoL

/-! # Defs that hand lambdas on, and the def that tells the word of what a lambda raises -/
namespace MoL
open PySem PySem.Spec PyProof.Rows L2 MoW LamX

/-- a def whose code object is known -/
structure FunC (K : PySem.W.Frag) (x qual : Str) (st : Stmt) (f : Addr) (fd : FuncData) (c : Addr) : Prop where
  ex : ∃ (oc : Value) (od : Option Addr) (kV doc pm : Value) (an : Option Addr) (ct : Value) (osl : Array (Option Value)),
    fd = PySem.W.fnOf x qual (defArgs st) (defBody st) (defScope st) .none kV doc pm an (.ref c) ct ∧ K.lookup f = some ⟨oc, od, .func fd, osl⟩ ∧ PySem.W.codeIn K (.ref c) qual = true
  kp : PySem.W.keepIn K (.ref f) = true
theorem FunC.ok {P : Program} {w : World} {K : PySem.W.Frag} {mg : Str → Option Value} {base : Heap} {x qual : Str} {st : Stmt} {f c : Addr} {fd : FuncData} {N ps : List Str} {k : Nat} {sp : Sp} (F : FunC K x qual st f fd c) (S : FnScope N ps (defScope st))
    (len : ∀ vs H Q E, sp vs H Q E → vs.length = ps.length)
    (h : ∀ (A : Around) (outer : List Env) (s : Shared) (H : Hp) (vs : List V) (Q : VK) (E : XK), Room k (A.deeper (envOfC qual (defScope st) s.heap.objs.size f (.ref c))) → sp vs H Q E →
      ∃ t, PSs (cxOf CX0 P w K mg base N qual (defScope st) f (.ref c) A outer s H E).nox (defBody st) t ∧ t { nx := fun _ G => Q .non G, rt := Q } (start N vs) H) : FnOk P w K mg base CX0 (k + 1) f fd ps sp := by
  obtain ⟨oc, od, kV, doc, pm, an, ct, osl, rfl, lk, hcd⟩ := F.ex
  refine fn_of lk hcd S len fun A outer s H vs Q E hr hsp => ?_
  obtain ⟨t, p, q⟩ := h A outer s H vs Q E hr hsp
  exact ⟨t, p.nox, q⟩

/-- the word of the error of the class at R that the lambda raises; nothing: the text "" -/
def TTw (R : Addr) : (XK → Hp → VK → Prop) → Hp → VK → Prop := fun tl H Q =>
  tl (fun cls d G => cls = .ref R ∧ ∃ y s, d = some y ∧ G y = some (.xd [("word", .str s)]) ∧ Q (.str s) G) H (fun _ G => ∃ v : V, (some (some (V.str "")) : Option (Option V)) = some (some v) ∧ Q v G)
/-- a wish needs to be told of slots of the right number alone -/
theorem takes_len {X : Cx} {W : WX} (tk : Takes X W) : Takes X (fun cls d σ H => σ.length = X.N.length → W cls d σ H) := fun u s' x => by
  obtain ⟨a, B, sI, pins, σ, H, cls, d, e, I, nb, up, sky, na, os, ag, w⟩ := x
  exact tk u s' ⟨a, B, sI, pins, σ, H, cls, d, e, I, nb, up, sky, na, os, ag, w I.len⟩
theorem FunC.fn {K : PySem.W.Frag} {x qual : Str} {st : Stmt} {f c : Addr} {fd : FuncData} (F : FunC K x qual st f fd c) : Fun K x qual st f fd := by
  obtain ⟨⟨oc, od, kV, doc, pm, an, ct, osl, e, lk, hcd⟩, kp⟩ := F
  exact ⟨⟨oc, od, kV, doc, pm, an, _, ct, osl, e, lk, hcd⟩, kp⟩
/-- what a lambda's body lets out is what is wished of the lambda -/
theorem passLam {X : Cx} {A : Around} {outer : List Env} {s : Shared} {H : Hp} {E : XK} {scope : Scope} {f c' : Addr} : Passes (L2.CX X.prog X.w) (lamCx X A outer s H E scope f c') E :=
  passes_call (X := lamCx X A outer s H E scope f c') (W := fun cls d _ H => E cls d H) (takes_of rfl rfl rfl rfl) fun _ _ _ _ h => h
/-- behind a lambda that raised: all but the tables is kept, and the tables stand -/
theorem after {T : List (Addr × Str)} {H H1 G : Hp} {y : Addr} {o : HO} (e1 : ExtN H H1) (t1 : Tabs T H1) (s1 : Same H1 G) (ny : G y = none) : ExtN H (upd G y o) ∧ Tabs T (upd G y o) := by
  have s2 := s1.trans (same_upd (o := o) ny)
  exact ⟨e1.trans (.of s2), t1.ext s2⟩
theorem RatAt.ext {C : Addr} {H H' : Hp} {v : V} {t b : Int} (r : RatAt C H v t b) (s : ExtN H H') : RatAt C H' v t b := by
  obtain ⟨a, dx, e, h⟩ := r
  exact ⟨a, dx, e, s _ _ h fun _ z => by cases z⟩
end MoL

namespace Mo
open PySem PySem.Spec PyProof.Rows L2 MoL MoW
open C8 (pss_cut tCut)
/-! ### the text -/
def topS (i : Nat) : Stmt := PySem.Challenge.pw_momentrows_k03_ratio_quotients_and_power.main.body.getD i (.Pass ⟨0, 0, 0, 0⟩)
abbrev s_NoRatio___init__ : Stmt := inClass (topS 3) 0
abbrev N_NoRatio___init__ : List Str := ["self", "word"]
theorem sc_NoRatio___init__ : FnScope N_NoRatio___init__ ["self", "word"] (defScope s_NoRatio___init__) := ⟨rfl, rfl, rfl, by decide +kernel, rfl, by decide +kernel, by decide +kernel⟩
abbrev s_Ratio___init__ : Stmt := inClass (topS 7) 0
abbrev N_Ratio___init__ : List Str := ["self", "top", "bottom", "shared"]
theorem sc_Ratio___init__ : FnScope N_Ratio___init__ ["self", "top", "bottom"] (defScope s_Ratio___init__) := ⟨rfl, rfl, rfl, by decide +kernel, rfl, by decide +kernel, by decide +kernel⟩
abbrev s_Ratio___floordiv__ : Stmt := inClass (topS 7) 9
abbrev N_Ratio___floordiv__ : List Str := ["self", "other"]
theorem sc_Ratio___floordiv__ : FnScope N_Ratio___floordiv__ ["self", "other"] (defScope s_Ratio___floordiv__) := ⟨rfl, rfl, rfl, by decide +kernel, rfl, by decide +kernel, by decide +kernel⟩
abbrev s_Ratio___rfloordiv__ : Stmt := inClass (topS 7) 10
abbrev N_Ratio___rfloordiv__ : List Str := ["self", "other"]
theorem sc_Ratio___rfloordiv__ : FnScope N_Ratio___rfloordiv__ ["self", "other"] (defScope s_Ratio___rfloordiv__) := ⟨rfl, rfl, rfl, by decide +kernel, rfl, by decide +kernel, by decide +kernel⟩
abbrev s_Ratio___mod__ : Stmt := inClass (topS 7) 11
abbrev N_Ratio___mod__ : List Str := ["self", "other"]
theorem sc_Ratio___mod__ : FnScope N_Ratio___mod__ ["self", "other"] (defScope s_Ratio___mod__) := ⟨rfl, rfl, rfl, by decide +kernel, rfl, by decide +kernel, by decide +kernel⟩
abbrev s_Ratio___rmod__ : Stmt := inClass (topS 7) 12
abbrev N_Ratio___rmod__ : List Str := ["self", "other"]
theorem sc_Ratio___rmod__ : FnScope N_Ratio___rmod__ ["self", "other"] (defScope s_Ratio___rmod__) := ⟨rfl, rfl, rfl, by decide +kernel, rfl, by decide +kernel, by decide +kernel⟩
abbrev s_Ratio___pow__ : Stmt := inClass (topS 7) 13
abbrev N_Ratio___pow__ : List Str := ["self", "other"]
theorem sc_Ratio___pow__ : FnScope N_Ratio___pow__ ["self", "other"] (defScope s_Ratio___pow__) := ⟨rfl, rfl, rfl, by decide +kernel, rfl, by decide +kernel, by decide +kernel⟩
abbrev s_Ratio_over : Stmt := inClass (topS 7) 20
abbrev N_Ratio_over : List Str := ["self", "other", "divisor"]
theorem sc_Ratio_over : FnScope N_Ratio_over ["self", "other"] (defScope s_Ratio_over) := ⟨rfl, rfl, rfl, by decide +kernel, rfl, by decide +kernel, by decide +kernel⟩
abbrev s_Ratio_power : Stmt := inClass (topS 7) 21
abbrev N_Ratio_power : List Str := ["self", "k", "top", "bottom", "_"]
theorem sc_Ratio_power : FnScope N_Ratio_power ["self", "k"] (defScope s_Ratio_power) := ⟨rfl, rfl, rfl, by decide +kernel, rfl, by decide +kernel, by decide +kernel⟩
abbrev s_is_whole : Stmt := topS 8
abbrev N_is_whole : List Str := ["x"]
theorem sc_is_whole : FnScope N_is_whole ["x"] (defScope s_is_whole) := ⟨rfl, rfl, rfl, by decide +kernel, rfl, by decide +kernel, by decide +kernel⟩
abbrev s_is_number : Stmt := topS 9
abbrev N_is_number : List Str := ["x"]
theorem sc_is_number : FnScope N_is_number ["x"] (defScope s_is_number) := ⟨rfl, rfl, rfl, by decide +kernel, rfl, by decide +kernel, by decide +kernel⟩
abbrev s_ratio_of : Stmt := topS 10
abbrev N_ratio_of : List Str := ["number"]
theorem sc_ratio_of : FnScope N_ratio_of ["number"] (defScope s_ratio_of) := ⟨rfl, rfl, rfl, by decide +kernel, rfl, by decide +kernel, by decide +kernel⟩
abbrev s__difference : Stmt := topS 12
abbrev N__difference : List Str := ["one", "other"]
theorem sc__difference : FnScope N__difference ["one", "other"] (defScope s__difference) := ⟨rfl, rfl, rfl, by decide +kernel, rfl, by decide +kernel, by decide +kernel⟩
abbrev s__product : Stmt := topS 13
abbrev N__product : List Str := ["one", "other"]
theorem sc__product : FnScope N__product ["one", "other"] (defScope s__product) := ⟨rfl, rfl, rfl, by decide +kernel, rfl, by decide +kernel, by decide +kernel⟩
abbrev s__floor : Stmt := topS 14
abbrev N__floor : List Str := ["one", "other"]
theorem sc__floor : FnScope N__floor ["one", "other"] (defScope s__floor) := ⟨rfl, rfl, rfl, by decide +kernel, rfl, by decide +kernel, by decide +kernel⟩
abbrev s__remainder : Stmt := topS 15
abbrev N__remainder : List Str := ["one", "other"]
theorem sc__remainder : FnScope N__remainder ["one", "other"] (defScope s__remainder) := ⟨rfl, rfl, rfl, by decide +kernel, rfl, by decide +kernel, by decide +kernel⟩
abbrev s__law_is_integer : Stmt := topS 19
abbrev N__law_is_integer : List Str := ["_law_value"]
theorem sc__law_is_integer : FnScope N__law_is_integer ["_law_value"] (defScope s__law_is_integer) := ⟨rfl, rfl, rfl, by decide +kernel, rfl, by decide +kernel, by decide +kernel⟩
abbrev s__law_feed : Stmt := topS 20
abbrev N__law_feed : List Str := ["_law_script", "_law_cell"]
theorem sc__law_feed : FnScope N__law_feed ["_law_script"] (defScope s__law_feed) := ⟨rfl, rfl, rfl, by decide +kernel, rfl, by decide +kernel, by decide +kernel⟩
abbrev s__law_take : Stmt := topS 21
abbrev N__law_take : List Str := ["_law_feed_here", "_law_size", "_law_cell", "_law_digit", "_law_number_here"]
theorem sc__law_take : FnScope N__law_take ["_law_feed_here", "_law_size"] (defScope s__law_take) := ⟨rfl, rfl, rfl, by decide +kernel, rfl, by decide +kernel, by decide +kernel⟩
abbrev s__law_number : Stmt := topS 22
abbrev N__law_number : List Str := ["_law_feed_here", "_law_size", "_law_sign"]
theorem sc__law_number : FnScope N__law_number ["_law_feed_here", "_law_size"] (defScope s__law_number) := ⟨rfl, rfl, rfl, by decide +kernel, rfl, by decide +kernel, by decide +kernel⟩
abbrev s__law_pair : Stmt := topS 23
abbrev N__law_pair : List Str := ["_law_feed_here", "_law_size"]
theorem sc__law_pair : FnScope N__law_pair ["_law_feed_here", "_law_size"] (defScope s__law_pair) := ⟨rfl, rfl, rfl, by decide +kernel, rfl, by decide +kernel, by decide +kernel⟩
abbrev s__law_word : Stmt := topS 25
abbrev N__law_word : List Str := ["_law_deed", "_law_word_here", "e"]
theorem sc__law_word : FnScope N__law_word ["_law_deed"] (defScope s__law_word) := ⟨rfl, rfl, rfl, by decide +kernel, rfl, by decide +kernel, by decide +kernel⟩
abbrev s__law_is : Stmt := topS 24
abbrev N__law_is : List Str := ["_law_value", "_law_top", "_law_bottom"]
theorem sc__law_is : FnScope N__law_is ["_law_value", "_law_top", "_law_bottom"] (defScope s__law_is) := ⟨rfl, rfl, rfl, by decide +kernel, rfl, by decide +kernel, by decide +kernel⟩
abbrev s__law_floor : Stmt := topS 26
abbrev N__law_floor : List Str := ["_law_q", "_law_a", "_law_b", "_law_top", "_law_bottom"]
theorem sc__law_floor : FnScope N__law_floor ["_law_q", "_law_a", "_law_b"] (defScope s__law_floor) := ⟨rfl, rfl, rfl, by decide +kernel, rfl, by decide +kernel, by decide +kernel⟩
abbrev s__law_rest : Stmt := topS 27
abbrev N__law_rest : List Str := ["_law_rest_here", "_law_q", "_law_a", "_law_b"]
theorem sc__law_rest : FnScope N__law_rest ["_law_rest_here", "_law_q", "_law_a", "_law_b"] (defScope s__law_rest) := ⟨rfl, rfl, rfl, by decide +kernel, rfl, by decide +kernel, by decide +kernel⟩
abbrev s__law_power : Stmt := topS 28
abbrev N__law_power : List Str := ["_law_value", "_law_a", "_law_k", "_law_top", "_law_bottom", "_law_j"]
theorem sc__law_power : FnScope N__law_power ["_law_value", "_law_a", "_law_k"] (defScope s__law_power) := ⟨rfl, rfl, rfl, by decide +kernel, rfl, by decide +kernel, by decide +kernel⟩
abbrev s__law_powers : Stmt := topS 29
abbrev N__law_powers : List Str := ["_law_one", "_law_a", "_law_k"]
theorem sc__law_powers : FnScope N__law_powers ["_law_one", "_law_a", "_law_k"] (defScope s__law_powers) := ⟨rfl, rfl, rfl, by decide +kernel, rfl, by decide +kernel, by decide +kernel⟩
abbrev s__law_zero : Stmt := topS 30
abbrev N__law_zero : List Str := ["_law_one", "_law_other", "_law_words"]
theorem sc__law_zero : FnScope N__law_zero ["_law_one", "_law_other"] (defScope s__law_zero) := ⟨rfl, rfl, rfl, by decide +kernel, rfl, by decide +kernel, by decide +kernel⟩
abbrev s_law : Stmt := topS 31
abbrev N_law : List Str := ["_law_script", "_law_feed_here", "_law_k", "_law_size", "_law_a", "_law_b", "_law_n", "_law_one", "_law_other", "_law_q"]
theorem sc_law : FnScope N_law ["_law_script"] (defScope s_law) := ⟨rfl, rfl, rfl, by decide +kernel, rfl, by decide +kernel, by decide +kernel⟩
/-! ### addresses and function objects -/
structure Ad where
  Ratio : Addr
  NoRatio : Addr
  MeansError : Addr
  f_NoRatio___init__ : Addr
  f_Ratio___init__ : Addr
  f_Ratio___floordiv__ : Addr
  f_Ratio___rfloordiv__ : Addr
  f_Ratio___mod__ : Addr
  f_Ratio___rmod__ : Addr
  f_Ratio___pow__ : Addr
  f_Ratio_over : Addr
  f_Ratio_power : Addr
  f_is_whole : Addr
  f_is_number : Addr
  f_ratio_of : Addr
  f__difference : Addr
  f__product : Addr
  f__floor : Addr
  f__remainder : Addr
  f__law_is_integer : Addr
  f__law_feed : Addr
  f__law_take : Addr
  f__law_number : Addr
  f__law_pair : Addr
  f__law_word : Addr
  f__law_is : Addr
  f__law_floor : Addr
  f__law_rest : Addr
  f__law_power : Addr
  f__law_powers : Addr
  f__law_zero : Addr
  f_law : Addr
  tC__law_powers : Addr
  tP__law_powers : Addr
  tC__law_zero : Addr
  tP__law_zero : Addr
  tC_law : Addr
  tP_law : Addr
structure Fd where
  f_NoRatio___init__ : FuncData
  f_Ratio___init__ : FuncData
  f_Ratio___floordiv__ : FuncData
  f_Ratio___rfloordiv__ : FuncData
  f_Ratio___mod__ : FuncData
  f_Ratio___rmod__ : FuncData
  f_Ratio___pow__ : FuncData
  f_Ratio_over : FuncData
  f_Ratio_power : FuncData
  f_is_whole : FuncData
  f_is_number : FuncData
  f_ratio_of : FuncData
  f__difference : FuncData
  f__product : FuncData
  f__floor : FuncData
  f__remainder : FuncData
  f__law_is_integer : FuncData
  f__law_feed : FuncData
  f__law_take : FuncData
  f__law_number : FuncData
  f__law_pair : FuncData
  f__law_word : FuncData
  f__law_is : FuncData
  f__law_floor : FuncData
  f__law_rest : FuncData
  f__law_power : FuncData
  f__law_powers : FuncData
  f__law_zero : FuncData
  f_law : FuncData
/-- what the written part says -/
structure Txt (K : PySem.W.Frag) (mg : Str → Option Value) (A : Ad) (D : Fd) : Prop where
  g_Ratio : mg "Ratio" = some (.ref A.Ratio)
  k_Ratio : OwnK K A.Ratio
  kp_Ratio : PySem.W.keepIn K (.ref A.Ratio) = true
  M_Ratio : Mk K A.Ratio A.f_Ratio___init__
  g_MeansError : mg "MeansError" = some (.ref A.MeansError)
  g_NoRatio : mg "NoRatio" = some (.ref A.NoRatio)
  o_NoRatio : OexC K A.NoRatio
  x_NoRatio : XfC K A.NoRatio
  c_NoRatio : ExcC K A.NoRatio
  em_NoRatio : PySem.W.exmOne K (.ref A.NoRatio) (.ref A.NoRatio) = some true
  n_NoRatio_word : PySem.W.findIn K (.ref A.NoRatio) "word" = some none
  i_NoRatio : PySem.W.findIn K (.ref A.NoRatio) "__init__" = some (some (.ref A.f_NoRatio___init__))
  ti_NoRatio : PySem.W.typeIn K (.ref A.f_NoRatio___init__) = some (.type "function")
  F_NoRatio___init__ : Fun K "__init__" "NoRatio.__init__" s_NoRatio___init__ A.f_NoRatio___init__ D.f_NoRatio___init__
  b_NoRatio___init__ : Binds K D.f_NoRatio___init__ ["self", "word"] []
  m_NoRatio___init__ : Meth K A.NoRatio "__init__" A.f_NoRatio___init__
  F_Ratio___init__ : FunD K "__init__" "Ratio.__init__" (defArgs s_Ratio___init__) (defBody s_Ratio___init__) (defScope s_Ratio___init__) [.int 1] [] A.f_Ratio___init__ D.f_Ratio___init__
  b_Ratio___init__ : Binds K D.f_Ratio___init__ ["self", "top", "bottom"] []
  b1_Ratio___init__ : ∃ ds, Vals [.int 1] ds ∧ Binds K D.f_Ratio___init__ ["self", "top", "bottom"] ds
  m_Ratio___init__ : Meth K A.Ratio "__init__" A.f_Ratio___init__
  F_Ratio___floordiv__ : Fun K "__floordiv__" "Ratio.__floordiv__" s_Ratio___floordiv__ A.f_Ratio___floordiv__ D.f_Ratio___floordiv__
  b_Ratio___floordiv__ : Binds K D.f_Ratio___floordiv__ ["self", "other"] []
  m_Ratio___floordiv__ : Meth K A.Ratio "__floordiv__" A.f_Ratio___floordiv__
  F_Ratio___rfloordiv__ : Fun K "__rfloordiv__" "Ratio.__rfloordiv__" s_Ratio___rfloordiv__ A.f_Ratio___rfloordiv__ D.f_Ratio___rfloordiv__
  b_Ratio___rfloordiv__ : Binds K D.f_Ratio___rfloordiv__ ["self", "other"] []
  m_Ratio___rfloordiv__ : Meth K A.Ratio "__rfloordiv__" A.f_Ratio___rfloordiv__
  F_Ratio___mod__ : Fun K "__mod__" "Ratio.__mod__" s_Ratio___mod__ A.f_Ratio___mod__ D.f_Ratio___mod__
  b_Ratio___mod__ : Binds K D.f_Ratio___mod__ ["self", "other"] []
  m_Ratio___mod__ : Meth K A.Ratio "__mod__" A.f_Ratio___mod__
  F_Ratio___rmod__ : Fun K "__rmod__" "Ratio.__rmod__" s_Ratio___rmod__ A.f_Ratio___rmod__ D.f_Ratio___rmod__
  b_Ratio___rmod__ : Binds K D.f_Ratio___rmod__ ["self", "other"] []
  m_Ratio___rmod__ : Meth K A.Ratio "__rmod__" A.f_Ratio___rmod__
  F_Ratio___pow__ : Fun K "__pow__" "Ratio.__pow__" s_Ratio___pow__ A.f_Ratio___pow__ D.f_Ratio___pow__
  b_Ratio___pow__ : Binds K D.f_Ratio___pow__ ["self", "other"] []
  m_Ratio___pow__ : Meth K A.Ratio "__pow__" A.f_Ratio___pow__
  F_Ratio_over : Fun K "over" "Ratio.over" s_Ratio_over A.f_Ratio_over D.f_Ratio_over
  b_Ratio_over : Binds K D.f_Ratio_over ["self", "other"] []
  m_Ratio_over : Meth K A.Ratio "over" A.f_Ratio_over
  F_Ratio_power : Fun K "power" "Ratio.power" s_Ratio_power A.f_Ratio_power D.f_Ratio_power
  b_Ratio_power : Binds K D.f_Ratio_power ["self", "k"] []
  m_Ratio_power : Meth K A.Ratio "power" A.f_Ratio_power
  F_is_whole : Fun K "is_whole" "is_whole" s_is_whole A.f_is_whole D.f_is_whole
  b_is_whole : Binds K D.f_is_whole ["x"] []
  g_is_whole : mg "is_whole" = some (.ref A.f_is_whole)
  F_is_number : Fun K "is_number" "is_number" s_is_number A.f_is_number D.f_is_number
  b_is_number : Binds K D.f_is_number ["x"] []
  g_is_number : mg "is_number" = some (.ref A.f_is_number)
  F_ratio_of : Fun K "ratio_of" "ratio_of" s_ratio_of A.f_ratio_of D.f_ratio_of
  b_ratio_of : Binds K D.f_ratio_of ["number"] []
  g_ratio_of : mg "ratio_of" = some (.ref A.f_ratio_of)
  F__difference : Fun K "_difference" "_difference" s__difference A.f__difference D.f__difference
  b__difference : Binds K D.f__difference ["one", "other"] []
  g__difference : mg "_difference" = some (.ref A.f__difference)
  F__product : Fun K "_product" "_product" s__product A.f__product D.f__product
  b__product : Binds K D.f__product ["one", "other"] []
  g__product : mg "_product" = some (.ref A.f__product)
  F__floor : Fun K "_floor" "_floor" s__floor A.f__floor D.f__floor
  b__floor : Binds K D.f__floor ["one", "other"] []
  g__floor : mg "_floor" = some (.ref A.f__floor)
  F__remainder : Fun K "_remainder" "_remainder" s__remainder A.f__remainder D.f__remainder
  b__remainder : Binds K D.f__remainder ["one", "other"] []
  g__remainder : mg "_remainder" = some (.ref A.f__remainder)
  F__law_is_integer : Fun K "_law_is_integer" "_law_is_integer" s__law_is_integer A.f__law_is_integer D.f__law_is_integer
  b__law_is_integer : Binds K D.f__law_is_integer ["_law_value"] []
  g__law_is_integer : mg "_law_is_integer" = some (.ref A.f__law_is_integer)
  F__law_feed : Fun K "_law_feed" "_law_feed" s__law_feed A.f__law_feed D.f__law_feed
  b__law_feed : Binds K D.f__law_feed ["_law_script"] []
  g__law_feed : mg "_law_feed" = some (.ref A.f__law_feed)
  F__law_take : Fun K "_law_take" "_law_take" s__law_take A.f__law_take D.f__law_take
  b__law_take : Binds K D.f__law_take ["_law_feed_here", "_law_size"] []
  g__law_take : mg "_law_take" = some (.ref A.f__law_take)
  F__law_number : Fun K "_law_number" "_law_number" s__law_number A.f__law_number D.f__law_number
  b__law_number : Binds K D.f__law_number ["_law_feed_here", "_law_size"] []
  g__law_number : mg "_law_number" = some (.ref A.f__law_number)
  F__law_pair : Fun K "_law_pair" "_law_pair" s__law_pair A.f__law_pair D.f__law_pair
  b__law_pair : Binds K D.f__law_pair ["_law_feed_here", "_law_size"] []
  g__law_pair : mg "_law_pair" = some (.ref A.f__law_pair)
  F__law_word : Fun K "_law_word" "_law_word" s__law_word A.f__law_word D.f__law_word
  b__law_word : Binds K D.f__law_word ["_law_deed"] []
  g__law_word : mg "_law_word" = some (.ref A.f__law_word)
  F__law_is : Fun K "_law_is" "_law_is" s__law_is A.f__law_is D.f__law_is
  b__law_is : Binds K D.f__law_is ["_law_value", "_law_top", "_law_bottom"] []
  g__law_is : mg "_law_is" = some (.ref A.f__law_is)
  F__law_floor : Fun K "_law_floor" "_law_floor" s__law_floor A.f__law_floor D.f__law_floor
  b__law_floor : Binds K D.f__law_floor ["_law_q", "_law_a", "_law_b"] []
  g__law_floor : mg "_law_floor" = some (.ref A.f__law_floor)
  F__law_rest : Fun K "_law_rest" "_law_rest" s__law_rest A.f__law_rest D.f__law_rest
  b__law_rest : Binds K D.f__law_rest ["_law_rest_here", "_law_q", "_law_a", "_law_b"] []
  g__law_rest : mg "_law_rest" = some (.ref A.f__law_rest)
  F__law_power : Fun K "_law_power" "_law_power" s__law_power A.f__law_power D.f__law_power
  b__law_power : Binds K D.f__law_power ["_law_value", "_law_a", "_law_k"] []
  g__law_power : mg "_law_power" = some (.ref A.f__law_power)
  F__law_powers : FunC K "_law_powers" "_law_powers" s__law_powers A.f__law_powers D.f__law_powers A.tC__law_powers
  b__law_powers : Binds K D.f__law_powers ["_law_one", "_law_a", "_law_k"] []
  g__law_powers : mg "_law_powers" = some (.ref A.f__law_powers)
  F__law_zero : FunC K "_law_zero" "_law_zero" s__law_zero A.f__law_zero D.f__law_zero A.tC__law_zero
  b__law_zero : Binds K D.f__law_zero ["_law_one", "_law_other"] []
  g__law_zero : mg "_law_zero" = some (.ref A.f__law_zero)
  F_law : FunC K "law" "law" s_law A.f_law D.f_law A.tC_law
  b_law : Binds K D.f_law ["_law_script"] []
  g_law : mg "law" = some (.ref A.f_law)
  no_rpow : PySem.W.findIn K (.ref A.Ratio) "__rpow__" = some none
  d__law_powers__law_zero : A.tP__law_powers ≠ A.tP__law_zero
  d__law_powers_law : A.tP__law_powers ≠ A.tP_law
  d__law_zero_law : A.tP__law_zero ≠ A.tP_law
  z_isinstance : mg "isinstance" = none
  z_int : mg "int" = none
  z_bool : mg "bool" = none
  z_abs : mg "abs" = none
  z_len : mg "len" = none
  z_max : mg "max" = none
  z_range : mg "range" = none
  z_ValueError : mg "ValueError" = none
  g_MOST_POWER : ∃ t, mg "MOST_POWER" = some (.int 20 t)
  g_gcd : mg "gcd" = some (.builtin "math.gcd")
def csL (A : Ad) : List (Addr × Addr) := [(A.tC__law_powers, A.tP__law_powers), (A.tC__law_zero, A.tP__law_zero), (A.tC_law, A.tP_law)]
def tabL (A : Ad) : List (Addr × Str) := [(A.tP__law_powers, (("_law_powers" : Str) ++ ".<locals>.") ++ "<lambda>"), (A.tP__law_zero, (("_law_zero" : Str) ++ ".<locals>.") ++ "<lambda>"), (A.tP_law, (("law" : Str) ++ ".<locals>.") ++ "<lambda>")]
theorem mem__law_powers {A : Ad} : (A.tC__law_powers, A.tP__law_powers) ∈ csL A := List.Mem.head _
theorem tab__law_powers {A : Ad} : (A.tP__law_powers, (("_law_powers" : Str) ++ ".<locals>.") ++ "<lambda>") ∈ tabL A := List.Mem.head _
theorem hu__law_powers {K : PySem.W.Frag} {mg : Str → Option Value} {A : Ad} {D : Fd} (T : Txt K mg A D) : ∀ p ∈ tabL A, p.1 = A.tP__law_powers → p.2 = (("_law_powers" : Str) ++ ".<locals>.") ++ "<lambda>" := by
  intro p hp e
  simp only [tabL, List.mem_cons, List.not_mem_nil, or_false] at hp
  rcases hp with h | h | h <;> subst h
  · rfl
  · exact absurd e.symm T.d__law_powers__law_zero
  · exact absurd e.symm T.d__law_powers_law
theorem mem__law_zero {A : Ad} : (A.tC__law_zero, A.tP__law_zero) ∈ csL A := List.Mem.tail _ (List.Mem.head _)
theorem tab__law_zero {A : Ad} : (A.tP__law_zero, (("_law_zero" : Str) ++ ".<locals>.") ++ "<lambda>") ∈ tabL A := List.Mem.tail _ (List.Mem.head _)
theorem hu__law_zero {K : PySem.W.Frag} {mg : Str → Option Value} {A : Ad} {D : Fd} (T : Txt K mg A D) : ∀ p ∈ tabL A, p.1 = A.tP__law_zero → p.2 = (("_law_zero" : Str) ++ ".<locals>.") ++ "<lambda>" := by
  intro p hp e
  simp only [tabL, List.mem_cons, List.not_mem_nil, or_false] at hp
  rcases hp with h | h | h <;> subst h
  · exact absurd e T.d__law_powers__law_zero
  · rfl
  · exact absurd e.symm T.d__law_zero_law
theorem mem_law {A : Ad} : (A.tC_law, A.tP_law) ∈ csL A := List.Mem.tail _ (List.Mem.tail _ (List.Mem.head _))
theorem tab_law {A : Ad} : (A.tP_law, (("law" : Str) ++ ".<locals>.") ++ "<lambda>") ∈ tabL A := List.Mem.tail _ (List.Mem.tail _ (List.Mem.head _))
theorem hu_law {K : PySem.W.Frag} {mg : Str → Option Value} {A : Ad} {D : Fd} (T : Txt K mg A D) : ∀ p ∈ tabL A, p.1 = A.tP_law → p.2 = (("law" : Str) ++ ".<locals>.") ++ "<lambda>" := by
  intro p hp e
  simp only [tabL, List.mem_cons, List.not_mem_nil, or_false] at hp
  rcases hp with h | h | h <;> subst h
  · exact absurd e T.d__law_powers_law
  · exact absurd e T.d__law_zero_law
  · rfl

section
variable {P : Program} {w : World} {K : PySem.W.Frag} {mg : Str → Option Value} {base : Heap} {A : Ad} {D : Fd}
/-! ### kinds of values -/
/-- whether x is an int and no bool -/
def WholeV (K : PySem.W.Frag) (H : Hp) (x : V) (b : Bool) : Prop := ∃ t b1 b2, TyX K H x t ∧ PySem.W.kitOne K t (.type "int") = some b1 ∧ (b1 = true → PySem.W.kitOne K t (.type "bool") = some b2) ∧ b = (b1 && !b2)
theorem whole_int {K : PySem.W.Frag} (i : Int) {H : Hp} : WholeV K H (.int i) true := ⟨_, true, false, .base (.int i), kit_ty (by decide +kernel), fun _ => kit_ty (by decide +kernel), rfl⟩
def sp_is_whole (K : PySem.W.Frag) : Sp := fun vs H Q _ => ∃ x b, vs = [x] ∧ WholeV K H x b ∧ Q (.bl b) H
theorem ok_is_whole (T : Txt K mg A D) : FnOk P w K mg base CX0 1 A.f_is_whole D.f_is_whole ["x"] (sp_is_whole K) := by
  skip
  refine T.F_is_whole.ok sc_is_whole (fun vs H Q E h => ?_) (fun cdv A' outer s H vs Q E hr h => ?_)
  · obtain ⟨x, b, rfl, _⟩ := h
    rfl
  · obtain ⟨x, b, rfl, ⟨t, b1, b2, ty, e1, e2, rfl⟩, q⟩ := h
    refine ⟨_, (pss_one (ps_ret (pe_and (pe_callB call_isi rfl T.z_isinstance (by decide +kernel) (pa_cons (pv 0) (pa_cons (pe_bltn (v := .ty "int") rfl T.z_int (by decide +kernel) rfl) pa_nil))) (pe_one (pe_not (pe_callB call_isi rfl T.z_isinstance (by decide +kernel) (pa_cons (pv 0) (pa_cons (pe_bltn (v := .ty "bool") rfl T.z_bool (by decide +kernel) rfl) pa_nil)))))))), ?_⟩
    refine ⟨x, rfl, x, .ty "int", t, _, b1, rfl, .ty _, ty, e1, b1, rfl, ?_⟩
    cases b1 with
    | false => exact iteF q
    | true => exact iteT ⟨x, rfl, x, .ty "bool", t, _, b2, rfl, .ty _, ty, e2 rfl, b2, rfl, q⟩

def sp_is_number (C : Addr) : Sp := fun vs H Q _ => ∃ x, vs = [x] ∧ ((∃ i, x = .int i) ∨ Ins H x C) ∧ Q (.bl true) H
theorem ok_is_number (T : Txt K mg A D) : FnOk P w K mg base CX0 2 A.f_is_number D.f_is_number ["x"] (sp_is_number A.Ratio) := by
  have G_is_whole : FnOk P w K mg base CX0 1 A.f_is_whole D.f_is_whole ["x"] (sp_is_whole K) := ok_is_whole T
  refine T.F_is_number.ok sc_is_number (fun vs H Q E h => ?_) (fun cdv A' outer s H vs Q E hr h => ?_)
  · obtain ⟨x, rfl, _⟩ := h
    rfl
  · obtain ⟨x, rfl, hx, q⟩ := h
    refine ⟨_, (pss_one (ps_ret (pe_or (pe_callB call_isi rfl T.z_isinstance (by decide +kernel) (pa_cons (pv 0) (pa_cons (pe_glob (v := .ref A.Ratio) rfl T.g_Ratio rfl) pa_nil))) (pe_one (pe_call G_is_whole (hr.mono (by decide)) rfl T.g_is_whole T.F_is_whole.kp T.b_is_whole .nil pass0 (pa_cons (pv 0) pa_nil)))))), ?_⟩
    rcases hx with ⟨i, rfl⟩ | ⟨a, dx, fs, rfl, ha⟩
    · exact ⟨.int i, rfl, .int i, .ref A.Ratio, _, _, false, rfl, .own _, .base (.int i), T.k_Ratio.ik, false, rfl, iteF ⟨.int i, rfl, _, _, rfl, whole_int i, q⟩⟩
    · exact ⟨.ref a, rfl, .ref a, .ref A.Ratio, _, _, true, rfl, .own _, T.k_Ratio.ty ha, kit_self, true, rfl, iteT q⟩

/-! ### numbers -/
/-- the number t / b: an int, or a Ratio of the class at C; b above 0 -/
def NumAt (C : Addr) (H : Hp) (v : V) (t b : Int) : Prop := (v = .int t ∧ b = 1) ∨ RatAt C H v t b
theorem NumAt.kind {C : Addr} {H : Hp} {v : V} {t b : Int} (n : NumAt C H v t b) : (∃ i, v = .int i) ∨ Ins H v C := by
  rcases n with ⟨h, _⟩ | h
  · exact .inl ⟨_, h⟩
  · exact .inr h.ins

/-! ### the error and the making, with all that may be given -/
theorem ok_NoRatio___init__ (T : Txt K mg A D) : FnOk P w K mg base CX0 1 A.f_NoRatio___init__ D.f_NoRatio___init__ ["self", "word"] (sp_keep K "word") := by
  skip
  refine T.F_NoRatio___init__.ok sc_NoRatio___init__ (fun vs H Q E h => ?_) (fun cdv A' outer s H vs Q E hr h => ?_)
  · obtain ⟨e, C, v, rfl, _⟩ := h
    rfl
  · obtain ⟨e, C, v, rfl, hT, hn, he, q⟩ := h
    refine ⟨_, pss_one (ps_ost (pv 0) (pv 1)), ?_⟩
    exact ⟨_, rfl, _, rfl, e, C, rfl, hT, hn, .inl ⟨he, q⟩⟩
/-- which word tells that tv / bv is no fraction -/
def Wrong (K : PySem.W.Frag) (H : Hp) (tv bv : V) (s : Str) : Prop := (WholeV K H tv false ∧ s = "top") ∨ (WholeV K H tv true ∧ WholeV K H bv false ∧ s = "bottom") ∨ (∃ t, tv = .int t ∧ bv = .int 0 ∧ s = "zero")
def sp_init (K : PySem.W.Frag) (C R : Addr) : Sp := fun vs H Q E => ∃ (x dx : Addr) (tv bv : V), vs = [.ref x, tv, bv] ∧ H x = some (.ins C dx []) ∧
  ((∃ t b : Int, tv = .int t ∧ bv = .int b ∧ b ≠ 0 ∧ Sm b ∧ ∀ t' b', Norm t b t' b' → Q .non (upd H x (.ins C dx [("top", .int t'), ("bottom", .int b')]))) ∨
    ∃ s : Str, Wrong K H tv bv s ∧ ∀ y, H y = none → E (.ref R) (some y) (upd H y (.xd [("word", .str s)])))
theorem ok_Ratio___init__ (T : Txt K mg A D) : FnOk P w K mg base (L2.CX P w) 3 A.f_Ratio___init__ D.f_Ratio___init__ ["self", "top", "bottom"] (sp_init K A.Ratio A.NoRatio) := by
  have G_NoRatio___init__ : FnOk P w K mg base CX0 1 A.f_NoRatio___init__ D.f_NoRatio___init__ ["self", "word"] (sp_keep K "word") := ok_NoRatio___init__ T
  have G_is_whole : FnOk P w K mg base CX0 1 A.f_is_whole D.f_is_whole ["x"] (sp_is_whole K) := ok_is_whole T
  refine T.F_Ratio___init__.ok sc_Ratio___init__ (fun vs H Q E h => ?_) (fun cdv A' outer s H vs Q E hr h => ?_)
  · obtain ⟨x, dx, tv, bv, rfl, _⟩ := h
    rfl
  · obtain ⟨x, dx, tv, bv, rfl, hx, h⟩ := h
    refine ⟨_, (pss_cons (ps_if (pt_not (pt_val (pe_call G_is_whole (hr.mono (by decide)) rfl T.g_is_whole T.F_is_whole.kp T.b_is_whole .nil pass0 (pa_cons (pv 1) pa_nil)))) (pss_one (ps_raise rfl (takes_of rfl rfl rfl rfl) (pmk_oex T.o_NoRatio T.i_NoRatio T.ti_NoRatio G_NoRatio___init__ (hr.mono (by decide)) T.b_NoRatio___init__ .nil pass0 rfl T.g_NoRatio (by exact (pa_cons pe_str pa_nil))))) pss_nil)
  (pss_cons (ps_if (pt_not (pt_val (pe_call G_is_whole (hr.mono (by decide)) rfl T.g_is_whole T.F_is_whole.kp T.b_is_whole .nil pass0 (pa_cons (pv 2) pa_nil)))) (pss_one (ps_raise rfl (takes_of rfl rfl rfl rfl) (pmk_oex T.o_NoRatio T.i_NoRatio T.ti_NoRatio G_NoRatio___init__ (hr.mono (by decide)) T.b_NoRatio___init__ .nil pass0 rfl T.g_NoRatio (by exact (pa_cons pe_str pa_nil))))) pss_nil)
  (pss_cons (ps_if (pt_cmpR op_eq (pv 2) pe_int (nomark _)) (pss_one (ps_raise rfl (takes_of rfl rfl rfl rfl) (pmk_oex T.o_NoRatio T.i_NoRatio T.ti_NoRatio G_NoRatio___init__ (hr.mono (by decide)) T.b_NoRatio___init__ .nil pass0 rfl T.g_NoRatio (by exact (pa_cons pe_str pa_nil))))) pss_nil)
  (pss_cons (ps_set (i := 3) sc_Ratio___init__.nd rfl (.inl rfl) (pe_callBfun cr_gcd rfl T.g_gcd (pa_cons (pv 1) (pa_cons (pv 2) pa_nil))))
  (pss_cut (ps_if (pt_cmpR op_lt (pv 2) pe_int (nomark _)) (pss_one (ps_set (i := 3) sc_Ratio___init__.nd rfl (.inl rfl) (pe_un un_neg (pv 3)))) pss_nil)
  (pss_cons (ps_fld (pv 0) (pe_op op_fdivA (pv 1) (pv 3)) rfl)
  (pss_one (ps_fld (pv 0) (pe_op op_fdivA (pv 2) (pv 3)) rfl)))))))), ?_⟩
    rcases h with ⟨t, b, rfl, rfl, hb, sb, q⟩ | ⟨s, ⟨w1, rfl⟩ | ⟨w1, w2, rfl⟩ | ⟨t, rfl, rfl, rfl⟩, q⟩
    · refine ⟨_, rfl, _, _, rfl, whole_int t, true, rfl, iteF ?_⟩
      refine ⟨_, rfl, _, _, rfl, whole_int b, true, rfl, iteF ?_⟩
      have e0 : decide (V.int b = V.int 0) = false := decide_eq_false fun z => hb (V.int.inj z)
      refine ⟨_, rfl, rfl, _, rfl, iteFe e0 ?_⟩
      refine ⟨_, rfl, _, rfl, t, b, rfl, ?_⟩
      obtain ⟨g0, gl, nm⟩ := Norm.make (t := t) hb _ rfl
      refine ⟨fun σ' H' => H' = H ∧ ∃ g : Int, (g ≠ 0 ∧ g.natAbs ≤ b.natAbs ∧ Norm t b (t.fdiv g) (b.fdiv g)) ∧ σ' = [some (.ref x), some (.int t), some (.int b), some (.int g)], ?_, ?_⟩
      · refine ⟨_, rfl, _, _, rfl, rfl, _, rfl, ?_⟩
        by_cases hneg : b < 0
        · rw [if_pos hneg] at g0 gl nm
          rw [decide_eq_true hneg]
          exact iteT ⟨_, rfl, _, rfl, rfl, _, ⟨g0, gl, nm⟩, rfl⟩
        · rw [if_neg hneg] at g0 gl nm
          rw [decide_eq_false hneg]
          exact iteF ⟨rfl, _, ⟨g0, gl, nm⟩, rfl⟩
      · rintro σ' H' ⟨rfl, g, ⟨h0, h1, hn⟩, rfl⟩
        have sg : Sm g := sb.le h1
        refine ⟨_, rfl, _, rfl, t, g, rfl, rfl, Sm.div h0 sg, _, rfl, x, A.Ratio, dx, _, rfl, hx, T.k_Ratio.cl, T.k_Ratio.n_top, (by show 0 < 1000; decide), ?_⟩
        refine ⟨_, rfl, _, rfl, b, g, rfl, rfl, Sm.div h0 sg, _, rfl, x, A.Ratio, dx, _, rfl, upd_same, T.k_Ratio.cl, T.k_Ratio.n_bottom, (by show 1 < 1000; decide), ?_⟩
        show Q .non _
        rw [upd_upd]
        exact q _ _ hn
    · exact ⟨_, rfl, _, _, rfl, w1, false, rfl, iteT (mk_keep T.o_NoRatio T.n_NoRatio_word q)⟩
    · refine ⟨_, rfl, _, _, rfl, w1, true, rfl, iteF ?_⟩
      exact ⟨_, rfl, _, _, rfl, w2, false, rfl, iteT (mk_keep T.o_NoRatio T.n_NoRatio_word q)⟩
    · refine ⟨_, rfl, _, _, rfl, whole_int t, true, rfl, iteF ?_⟩
      refine ⟨_, rfl, _, _, rfl, whole_int 0, true, rfl, iteF ?_⟩
      exact ⟨_, rfl, rfl, _, rfl, iteTe (by decide) (mk_keep T.o_NoRatio T.n_NoRatio_word q)⟩
end

section
variable {P : Program} {w : World} {K : PySem.W.Frag} {mg : Str → Option Value} {base : Heap} {A : Ad} {D : Fd}
/-- a new Ratio on the heap -/
theorem made {C : Addr} {H : Hp} {x dx : Addr} (nx : H x = none) (nd : H dx = none) (ne : dx ≠ x) (t b : Int) :
    Same H (upd (upd (upd H dx (.own x)) x (.ins C dx [])) x (.ins C dx [("top", .int t), ("bottom", .int b)])) ∧
    RatAt C (upd (upd (upd H dx (.own x)) x (.ins C dx [])) x (.ins C dx [("top", .int t), ("bottom", .int b)])) (.ref x) t b := by
  refine ⟨?_, x, dx, rfl, upd_same⟩
  rw [upd_upd]
  exact same_upd' (same_upd nd) nx
theorem norm_sm {t b t' b' : Int} (n : Norm t b t' b') (h1 : Sm t) (h2 : Sm b) : Sm t' ∧ Sm b' := ⟨h1.le n.le1, h2.le n.le2⟩
/-- the sign of the gap stays in lowest terms -/
theorem gap_sign {t b t' b' u c u' c' : Int} (n : Norm t b t' b') (m : Norm u c u' c') (hb : 0 < b) (hc : 0 < c) :
    (t * c - u * b < 0 ↔ t' * c' - u' * b' < 0) ∧ (0 < t * c - u * b ↔ 0 < t' * c' - u' * b') := by
  obtain ⟨g, h1, h2, _⟩ := n.ex
  obtain ⟨k, k1, k2, _⟩ := m.ex
  have gp : 0 < g := by
    rw [h2] at hb
    exact Int.pos_of_mul_pos_left hb n.pos
  have kp : 0 < k := by
    rw [k2] at hc
    exact Int.pos_of_mul_pos_left hc m.pos
  have gk : 0 < g * k := Int.mul_pos gp kp
  have e : t * c - u * b = (g * k) * (t' * c' - u' * b') := by
    rw [h1, h2, k1, k2, Int.mul_sub]
    congr 1
    · rw [Int.mul_assoc, Int.mul_assoc, Int.mul_left_comm t' k c']
    · rw [Int.mul_assoc, Int.mul_comm g k, Int.mul_assoc k g, Int.mul_left_comm u' g b']
  rw [e]
  generalize t' * c' - u' * b' = d
  constructor
  · constructor
    · intro h
      by_cases hd : d < 0
      · exact hd
      · have := Int.mul_nonneg (Int.le_of_lt gk) (Int.not_lt.mp hd)
        omega
    · intro h
      exact Int.mul_neg_of_pos_of_neg gk h
  · constructor
    · intro h
      exact Int.pos_of_mul_pos_right h gk
    · intro h
      exact Int.mul_pos gk h
theorem norm_one (n : Int) : Norm n 1 n 1 := ⟨⟨1, by omega, by omega, by decide⟩, by decide, by simp⟩
theorem norm_is_one {n t' b' : Int} (h : Norm n 1 t' b') : t' = n ∧ b' = 1 := by
  obtain ⟨g, h1, h2, h3⟩ := h.ex
  have hb := h.pos
  have gp : 0 < g := by
    have : 0 < g * b' := by omega
    exact Int.pos_of_mul_pos_left this hb
  have g1 : g = 1 := by
    have : g ∣ 1 := ⟨b', h2⟩
    exact Int.eq_one_of_dvd_one (Int.le_of_lt gp) this
  subst g1
  omega
theorem fdiv_abs {a b : Int} (h : 0 < b) : (a.fdiv b).natAbs ≤ a.natAbs + 1 := by
  rw [Int.fdiv_eq_ediv_of_nonneg a (by omega)]
  have h1 := Int.emod_add_mul_ediv a b
  have h2 := Int.emod_nonneg a (by omega : b ≠ 0)
  have h3 := Int.emod_lt_of_pos a h
  generalize a / b = q at *
  generalize a % b = r at *
  rcases Int.lt_or_le q 0 with hq | hq
  · have : b * (q + 1) ≤ q + 1 := by
      have : b * (q + 1) ≤ 1 * (q + 1) := Int.mul_le_mul_of_nonpos_right (by omega) (by omega)
      omega
    have : b * (q + 1) = b * q + b := by rw [Int.mul_add, Int.mul_one]
    omega
  · have : q ≤ b * q := by
      have : 1 * q ≤ b * q := Int.mul_le_mul_of_nonneg_right (by omega) hq
      omega
    omega

/-- what the law draws: a top below 2 ^ 140 in size, a bottom from 1 to 2 ^ 140 -/
structure Drawn (x y : Int) : Prop where
  top : x.natAbs < 2 ^ 140
  pos : 0 < y
  bot : y.natAbs < 2 ^ 140
theorem Drawn.s1 {x y : Int} (d : Drawn x y) : Sm x := .of d.top (by decide)
theorem Drawn.s2 {x y : Int} (d : Drawn x y) : Sm y := .of d.bot (by decide)

end

section
variable {P : Program} {w : World} {K : PySem.W.Frag} {mg : Str → Option Value} {base : Heap} {A : Ad} {D : Fd}
/-! ### sums, differences, products -/
theorem so : Sm 1 := .ab (by decide) (by decide)
def sp_ratio_of (C : Addr) : Sp := fun vs H Q _ => ∃ x t b, vs = [x] ∧ NumAt C H x t b ∧ ∀ H' v, Same H H' → RatAt C H' v t b → Q v H'
theorem ok_ratio_of (T : Txt K mg A D) : FnOk P w K mg base CX0 5 A.f_ratio_of D.f_ratio_of ["number"] (sp_ratio_of A.Ratio) := by
  have G_Ratio_init : FnOk P w K mg base (L2.CX P w) 3 A.f_Ratio___init__ D.f_Ratio___init__ ["self", "top", "bottom"] (sp_init K A.Ratio A.NoRatio) := ok_Ratio___init__ T
  obtain ⟨ds1, d_Ratio_init1, b_Ratio_init1⟩ := T.b1_Ratio___init__
  refine T.F_ratio_of.ok sc_ratio_of (fun vs H Q E h => ?_) (fun cdv A' outer s H vs Q E hr h => ?_)
  · obtain ⟨x, t, b, rfl, _⟩ := h
    rfl
  · obtain ⟨x, t, b, rfl, hx, q⟩ := h
    refine ⟨_, (pss_cons (ps_if (pt_val (pe_callB call_isi rfl T.z_isinstance (by decide +kernel) (pa_cons (pv 0) (pa_cons (pe_glob (v := .ref A.Ratio) rfl T.g_Ratio rfl) pa_nil)))) (pss_one (ps_ret (pv 0))) pss_nil)
  (pss_one (ps_ret (pe_make T.M_Ratio G_Ratio_init (hr.mono (by decide)) rfl T.g_Ratio b_Ratio_init1 d_Ratio_init1 passL (pa_cons (pv 0) pa_nil))))), ?_⟩
    rcases hx with ⟨rfl, rfl⟩ | ⟨c, dy, rfl, hc⟩
    · refine ⟨_, rfl, .int t, .ref A.Ratio, _, _, false, rfl, .own _, .base (.int t), T.k_Ratio.ik, false, rfl, iteF ?_⟩
      refine ⟨_, rfl, fun x dx nx nd ne => ⟨x, dx, _, _, rfl, upd_same, .inl ⟨t, 1, rfl, rfl, by decide, so, fun t' b' nm => ⟨rfl, ?_⟩⟩⟩⟩
      obtain ⟨e4, e5⟩ := norm_is_one nm
      subst e4 e5
      obtain ⟨sd, rd⟩ := made (C := A.Ratio) nx nd ne t' 1
      exact q _ _ sd rd
    · refine ⟨_, rfl, .ref c, .ref A.Ratio, _, _, true, rfl, .own _, T.k_Ratio.ty hc, kit_self, true, rfl, iteT ?_⟩
      exact ⟨_, rfl, q _ _ (Same.refl H) ⟨c, dy, rfl, hc⟩⟩
abbrev f_dif : Int → Int → Int → Int → Int := fun t b t2 b2 => t * b2 - t2 * b
abbrev f_pro : Int → Int → Int → Int → Int := fun t b t2 b2 => t * t2
/-- what is asked of two numbers that are put together -/
structure Fit (t b t2 b2 : Int) : Prop where
  s1 : Sm t
  s2 : Sm b
  s3 : Sm t2
  s4 : Sm b2
  n2 : b ≠ 0
  n4 : b2 ≠ 0
  sb : Sm (b * b2)
theorem Fit.swap {t b t2 b2 : Int} (h : Fit t b t2 b2) : Fit t2 b2 t b := ⟨h.s3, h.s4, h.s1, h.s2, h.n4, h.n2, by rw [Int.mul_comm]; exact h.sb⟩
theorem Fit.nb {t b t2 b2 : Int} (h : Fit t b t2 b2) : b * b2 ≠ 0 := fun z => by
  rcases Int.mul_eq_zero.mp z with e | e
  · exact h.n2 e
  · exact h.n4 e
/-- two Ratios in, a Ratio out -/
def sp_put (C : Addr) (f : Int → Int → Int → Int → Int) : Sp := fun vs H Q _ => ∃ x y t b t2 b2, vs = [x, y] ∧ RatAt C H x t b ∧ RatAt C H y t2 b2 ∧ Fit t b t2 b2 ∧ ∀ H' v t' b', Same H H' → RatAt C H' v t' b' → Norm (f t b t2 b2) (b * b2) t' b' → Q v H'
theorem ok__difference (T : Txt K mg A D) : FnOk P w K mg base CX0 5 A.f__difference D.f__difference ["one", "other"] (sp_put A.Ratio f_dif) := by
  have G_Ratio_init : FnOk P w K mg base (L2.CX P w) 3 A.f_Ratio___init__ D.f_Ratio___init__ ["self", "top", "bottom"] (sp_init K A.Ratio A.NoRatio) := ok_Ratio___init__ T
  have b_Ratio_init2 := T.b_Ratio___init__
  have d_Ratio_init2 : Vals [] [] := .nil
  refine T.F__difference.ok sc__difference (fun vs H Q E h => ?_) (fun cdv A' outer s H vs Q E hr h => ?_)
  · obtain ⟨x, y, t, b, t2, b2, rfl, _⟩ := h
    rfl
  · obtain ⟨x, y, t, b, t2, b2, rfl, ⟨a, dx, rfl, ha⟩, ⟨c, dy, rfl, hc⟩, ft, q⟩ := h
    refine ⟨_, (pss_one (ps_ret (pe_make T.M_Ratio G_Ratio_init (hr.mono (by decide)) rfl T.g_Ratio b_Ratio_init2 d_Ratio_init2 passL (pa_cons (pe_op op_sub (pe_op op_mulW (pe_fld (pv 0) rfl) (pe_fld (pv 1) rfl)) (pe_op op_mulW (pe_fld (pv 1) rfl) (pe_fld (pv 0) rfl))) (pa_cons (pe_op op_mulW (pe_fld (pv 0) rfl) (pe_fld (pv 1) rfl)) pa_nil))))), ?_⟩
    have cl := T.k_Ratio.cl
    have nt := T.k_Ratio.n_top
    have nb := T.k_Ratio.n_bottom
    refine ⟨_, rfl, a, A.Ratio, dx, _, _, rfl, ha, cl, nt, rfl, _, rfl, c, A.Ratio, dy, _, _, rfl, hc, cl, nb, rfl, _, _, rfl, rfl, ft.s1.mul ft.s4, ?_⟩
    refine ⟨_, rfl, c, A.Ratio, dy, _, _, rfl, hc, cl, nt, rfl, _, rfl, a, A.Ratio, dx, _, _, rfl, ha, cl, nb, rfl, _, _, rfl, rfl, ft.s3.mul ft.s2, _, _, rfl, rfl, ?_⟩
    refine ⟨_, rfl, a, A.Ratio, dx, _, _, rfl, ha, cl, nb, rfl, _, rfl, c, A.Ratio, dy, _, _, rfl, hc, cl, nb, rfl, _, _, rfl, rfl, ft.s2.mul ft.s4, ?_⟩
    refine fun x dx nx nd ne => ⟨x, dx, _, _, rfl, upd_same, .inl ⟨_, _, rfl, rfl, ft.nb, ft.sb, fun t' b' nm => ⟨rfl, ?_⟩⟩⟩
    obtain ⟨sd, rd⟩ := made (C := A.Ratio) nx nd ne t' b'
    exact q _ _ _ _ sd rd nm
theorem ok__product (T : Txt K mg A D) : FnOk P w K mg base CX0 5 A.f__product D.f__product ["one", "other"] (sp_put A.Ratio f_pro) := by
  have G_Ratio_init : FnOk P w K mg base (L2.CX P w) 3 A.f_Ratio___init__ D.f_Ratio___init__ ["self", "top", "bottom"] (sp_init K A.Ratio A.NoRatio) := ok_Ratio___init__ T
  have b_Ratio_init2 := T.b_Ratio___init__
  have d_Ratio_init2 : Vals [] [] := .nil
  refine T.F__product.ok sc__product (fun vs H Q E h => ?_) (fun cdv A' outer s H vs Q E hr h => ?_)
  · obtain ⟨x, y, t, b, t2, b2, rfl, _⟩ := h
    rfl
  · obtain ⟨x, y, t, b, t2, b2, rfl, ⟨a, dx, rfl, ha⟩, ⟨c, dy, rfl, hc⟩, ft, q⟩ := h
    refine ⟨_, (pss_one (ps_ret (pe_make T.M_Ratio G_Ratio_init (hr.mono (by decide)) rfl T.g_Ratio b_Ratio_init2 d_Ratio_init2 passL (pa_cons (pe_op op_mulW (pe_fld (pv 0) rfl) (pe_fld (pv 1) rfl)) (pa_cons (pe_op op_mulW (pe_fld (pv 0) rfl) (pe_fld (pv 1) rfl)) pa_nil))))), ?_⟩
    have cl := T.k_Ratio.cl
    have nt := T.k_Ratio.n_top
    have nb := T.k_Ratio.n_bottom
    refine ⟨_, rfl, a, A.Ratio, dx, _, _, rfl, ha, cl, nt, rfl, _, rfl, c, A.Ratio, dy, _, _, rfl, hc, cl, nt, rfl, _, _, rfl, rfl, ft.s1.mul ft.s3, ?_⟩
    refine ⟨_, rfl, a, A.Ratio, dx, _, _, rfl, ha, cl, nb, rfl, _, rfl, c, A.Ratio, dy, _, _, rfl, hc, cl, nb, rfl, _, _, rfl, rfl, ft.s2.mul ft.s4, ?_⟩
    refine fun x dx nx nd ne => ⟨x, dx, _, _, rfl, upd_same, .inl ⟨_, _, rfl, rfl, ft.nb, ft.sb, fun t' b' nm => ⟨rfl, ?_⟩⟩⟩
    obtain ⟨sd, rd⟩ := made (C := A.Ratio) nx nd ne t' b'
    exact q _ _ _ _ sd rd nm
/-! ### quotients and powers, with their errors -/
/-- the way out by NoRatio with the word s, from H or with more on the heap -/
def Err (R : Addr) (E : XK) (H : Hp) (s : Str) : Prop := ∀ G y, Same H G → G y = none → E (.ref R) (some y) (upd G y (.xd [("word", .str s)]))
theorem Err.same {R : Addr} {E : XK} {H H' : Hp} {s : Str} (e : Err R E H s) (k : Same H H') : Err R E H' s := fun G y a b => e G y (k.trans a) b
theorem Err.here {R : Addr} {E : XK} {H : Hp} {s : Str} (e : Err R E H s) : ∀ y, H y = none → E (.ref R) (some y) (upd H y (.xd [("word", .str s)])) := fun y ny => e H y (fun _ _ z => z) ny
/-- below 2 ^ 420 in size -/
def Lil (i : Int) : Prop := i.natAbs < 2 ^ 420
theorem Lil.sm {i : Int} (h : Lil i) : Sm i := Sm.of h (by decide)
theorem Lil.mul {i j : Int} (a : Lil i) (b : Lil j) : (i * j).natAbs < 2 ^ 840 := by
  rw [Int.natAbs_mul]
  exact Nat.lt_of_lt_of_le (Nat.mul_lt_mul'' a b) (by rw [← Nat.pow_add]; exact Nat.pow_le_pow_right (by decide) (by decide))
theorem Lil.msm {i j : Int} (a : Lil i) (b : Lil j) : Sm (i * j) := Sm.of (a.mul b) (by decide)
def sp_floor (C R : Addr) : Sp := fun vs H Q E => ∃ x y t b t2 b2, vs = [x, y] ∧ RatAt C H x t b ∧ RatAt C H y t2 b2 ∧ Lil t ∧ Lil b ∧ Lil t2 ∧ Lil b2 ∧ b ≠ 0 ∧ (t2 ≠ 0 → Q (.int ((t * b2).fdiv (b * t2))) H) ∧ (t2 = 0 → Err R E H "zero")
theorem ok__floor (T : Txt K mg A D) : FnOk P w K mg base (L2.CX P w) 3 A.f__floor D.f__floor ["one", "other"] (sp_floor A.Ratio A.NoRatio) := by
  have G_NoRatio___init__ : FnOk P w K mg base CX0 1 A.f_NoRatio___init__ D.f_NoRatio___init__ ["self", "word"] (sp_keep K "word") := ok_NoRatio___init__ T
  refine T.F__floor.okX sc__floor (fun vs H Q E h => ?_) (fun cdv A' outer s H vs Q E hr h => ?_)
  · obtain ⟨x, y, t, b, t2, b2, rfl, _⟩ := h
    rfl
  · obtain ⟨x, y, t, b, t2, b2, rfl, ⟨a, dx, rfl, ha⟩, ⟨c, dy, rfl, hc⟩, s1, s2, s3, s4, nb0, q, e⟩ := h
    refine ⟨_, (pss_cons (ps_if (pt_cmpR op_eq (pe_fld (pv 1) rfl) pe_int (nomark _)) (pss_one (ps_raise rfl (takes_of rfl rfl rfl rfl) (pmk_oex T.o_NoRatio T.i_NoRatio T.ti_NoRatio G_NoRatio___init__ (hr.mono (by decide)) T.b_NoRatio___init__ .nil pass0 rfl T.g_NoRatio (by exact (pa_cons pe_str pa_nil))))) pss_nil)
  (pss_one (ps_ret (pe_op op_fdivA (pe_op op_mulW (pe_fld (pv 0) rfl) (pe_fld (pv 1) rfl)) (pe_op op_mulW (pe_fld (pv 0) rfl) (pe_fld (pv 1) rfl)))))), ?_⟩
    have cl := T.k_Ratio.cl
    have nt := T.k_Ratio.n_top
    have nb := T.k_Ratio.n_bottom
    refine ⟨_, rfl, c, A.Ratio, dy, _, _, rfl, hc, cl, nt, rfl, rfl, _, rfl, ?_⟩
    by_cases h0 : t2 = 0
    · exact iteTe (decide_eq_true (by rw [h0])) (mk_keep T.o_NoRatio T.n_NoRatio_word (e h0).here)
    · refine iteFe (decide_eq_false fun z => h0 (V.int.inj z)) ?_
      refine ⟨_, rfl, a, A.Ratio, dx, _, _, rfl, ha, cl, nt, rfl, _, rfl, c, A.Ratio, dy, _, _, rfl, hc, cl, nb, rfl, _, _, rfl, rfl, s1.sm.mul s4.sm, ?_⟩
      refine ⟨_, rfl, a, A.Ratio, dx, _, _, rfl, ha, cl, nb, rfl, _, rfl, c, A.Ratio, dy, _, _, rfl, hc, cl, nt, rfl, _, _, rfl, rfl, s2.sm.mul s3.sm, _, _, rfl, rfl, ?_, q h0⟩
      exact Sm.div (fun z => (Int.mul_eq_zero.mp z).elim nb0 h0) (s2.msm s3)
/-- a // y -/
def sp_qbin (C R : Addr) : Sp := fun vs H Q E => ∃ x y t b t2 b2, vs = [x, y] ∧ RatAt C H x t b ∧ NumAt C H y t2 b2 ∧ Lil t ∧ Lil b ∧ Lil t2 ∧ Lil b2 ∧ b ≠ 0 ∧ (t2 ≠ 0 → ∀ H', Same H H' → Q (.int ((t * b2).fdiv (b * t2))) H') ∧ (t2 = 0 → Err R E H "zero")
theorem ok_Ratio___floordiv__ (T : Txt K mg A D) : FnOk P w K mg base (L2.CX P w) 6 A.f_Ratio___floordiv__ D.f_Ratio___floordiv__ ["self", "other"] (sp_qbin A.Ratio A.NoRatio) := by
  have G__floor : FnOk P w K mg base (L2.CX P w) 3 A.f__floor D.f__floor ["one", "other"] (sp_floor A.Ratio A.NoRatio) := ok__floor T
  have G_is_number : FnOk P w K mg base CX0 2 A.f_is_number D.f_is_number ["x"] (sp_is_number A.Ratio) := ok_is_number T
  have G_ratio_of : FnOk P w K mg base CX0 5 A.f_ratio_of D.f_ratio_of ["number"] (sp_ratio_of A.Ratio) := ok_ratio_of T
  refine T.F_Ratio___floordiv__.okX sc_Ratio___floordiv__ (fun vs H Q E h => ?_) (fun cdv A' outer s H vs Q E hr h => ?_)
  · obtain ⟨x, y, t, b, t2, b2, rfl, _⟩ := h
    rfl
  · obtain ⟨x, y, t, b, t2, b2, rfl, hx, hy, s1, s2, s3, s4, nb0, q, e⟩ := h
    refine ⟨_, (pss_cons (ps_if (pt_not (pt_val (pe_call G_is_number (hr.mono (by decide)) rfl T.g_is_number T.F_is_number.kp T.b_is_number .nil pass0 (pa_cons (pv 1) pa_nil)))) (pss_one ps_never) pss_nil)
  (pss_one (ps_ret (pe_call G__floor (hr.mono (by decide)) rfl T.g__floor T.F__floor.kp T.b__floor .nil passE (pa_cons (pv 0) (pa_cons (pe_call G_ratio_of (hr.mono (by decide)) rfl T.g_ratio_of T.F_ratio_of.kp T.b_ratio_of .nil pass0 (pa_cons (pv 1) pa_nil)) pa_nil)))))), ?_⟩
    refine ⟨_, rfl, _, rfl, hy.kind, true, rfl, iteF ?_⟩
    exact ⟨_, rfl, _, rfl, _, _, _, rfl, hy, fun H1 v k1 r1 => ⟨_, _, _, _, _, _, rfl, hx.same k1, r1, s1, s2, s3, s4, nb0, fun h0 => q h0 _ k1, fun h0 => (e h0).same k1⟩⟩
/-- y // a, asked of a -/
def sp_qrbin (C R : Addr) : Sp := fun vs H Q E => ∃ x y t b t2 b2, vs = [x, y] ∧ RatAt C H x t b ∧ NumAt C H y t2 b2 ∧ Lil t ∧ Lil b ∧ Lil t2 ∧ Lil b2 ∧ b2 ≠ 0 ∧ (t ≠ 0 → ∀ H', Same H H' → Q (.int ((t2 * b).fdiv (b2 * t))) H') ∧ (t = 0 → Err R E H "zero")
theorem ok_Ratio___rfloordiv__ (T : Txt K mg A D) : FnOk P w K mg base (L2.CX P w) 6 A.f_Ratio___rfloordiv__ D.f_Ratio___rfloordiv__ ["self", "other"] (sp_qrbin A.Ratio A.NoRatio) := by
  have G__floor : FnOk P w K mg base (L2.CX P w) 3 A.f__floor D.f__floor ["one", "other"] (sp_floor A.Ratio A.NoRatio) := ok__floor T
  have G_is_number : FnOk P w K mg base CX0 2 A.f_is_number D.f_is_number ["x"] (sp_is_number A.Ratio) := ok_is_number T
  have G_ratio_of : FnOk P w K mg base CX0 5 A.f_ratio_of D.f_ratio_of ["number"] (sp_ratio_of A.Ratio) := ok_ratio_of T
  refine T.F_Ratio___rfloordiv__.okX sc_Ratio___rfloordiv__ (fun vs H Q E h => ?_) (fun cdv A' outer s H vs Q E hr h => ?_)
  · obtain ⟨x, y, t, b, t2, b2, rfl, _⟩ := h
    rfl
  · obtain ⟨x, y, t, b, t2, b2, rfl, hx, hy, s1, s2, s3, s4, nb0, q, e⟩ := h
    refine ⟨_, (pss_cons (ps_if (pt_not (pt_val (pe_call G_is_number (hr.mono (by decide)) rfl T.g_is_number T.F_is_number.kp T.b_is_number .nil pass0 (pa_cons (pv 1) pa_nil)))) (pss_one ps_never) pss_nil)
  (pss_one (ps_ret (pe_call G__floor (hr.mono (by decide)) rfl T.g__floor T.F__floor.kp T.b__floor .nil passE (pa_cons (pe_call G_ratio_of (hr.mono (by decide)) rfl T.g_ratio_of T.F_ratio_of.kp T.b_ratio_of .nil pass0 (pa_cons (pv 1) pa_nil)) (pa_cons (pv 0) pa_nil)))))), ?_⟩
    refine ⟨_, rfl, _, rfl, hy.kind, true, rfl, iteF ?_⟩
    exact ⟨_, rfl, _, _, _, rfl, hy, fun H1 v k1 r1 => ⟨_, rfl, _, _, _, _, _, _, rfl, r1, hx.same k1, s3, s4, s1, s2, nb0, fun h0 => q h0 _ k1, fun h0 => (e h0).same k1⟩⟩
/-- below 2 ^ 100 in size -/
def Wee (i : Int) : Prop := i.natAbs < 2 ^ 100
theorem Wee.lil {i : Int} (h : Wee i) : Lil i := Nat.lt_of_lt_of_le h (Nat.pow_le_pow_right (by decide) (by decide))
theorem pow_mul {i j : Int} {m n : Nat} (a : i.natAbs < 2 ^ m) (b : j.natAbs < 2 ^ n) : (i * j).natAbs < 2 ^ (m + n) := by
  rw [Int.natAbs_mul, Nat.pow_add]
  exact Nat.mul_lt_mul'' a b
theorem fdiv_le (a b : Int) : (a.fdiv b).natAbs ≤ a.natAbs + 1 := by
  rcases Int.lt_trichotomy b 0 with h | h | h
  · have e : a.fdiv b = (-a).fdiv (-b) := by rw [Int.neg_fdiv_neg]
    rw [e]
    have := fdiv_abs (a := -a) (b := -b) (by omega)
    omega
  · rw [h, Int.fdiv_zero]
    omega
  · exact fdiv_abs h
/-- what the remainder is: r over rb stands for t / b - q * t2 / b2 -/
structure RestIs (t b t2 b2 q r rb : Int) : Prop where
  cross : r * (b * b2) = (t * b2 - t2 * q * b) * rb
  pos : 0 < rb
  s1 : Sm r
  s2 : Sm rb
theorem rest_is {t b t2 b2 q p pb r rb : Int} (hb2 : b2 ≠ 0) (n1 : Norm (t2 * q) (b2 * 1) p pb) (n2 : Norm (t * pb - p * b) (b * pb) r rb) (s1 : Sm r) (s2 : Sm rb) : RestIs t b t2 b2 q r rb := by
  refine ⟨?_, n2.pos, s1, s2⟩
  have c1 := n1.cross
  have c2 := n2.cross
  rw [Int.mul_one] at c1
  have hp : pb ≠ 0 := fun z => by have := n1.pos; omega
  refine Int.eq_of_mul_eq_mul_right hp ?_
  have e1 : r * (b * b2) * pb = (r * (b * pb)) * b2 := by grind
  have e2 : (t * b2 - t2 * q * b) * rb * pb = (t * pb - p * b) * rb * b2 := by grind
  rw [e1, e2, c2]
def sp_rem (C R : Addr) : Sp := fun vs H Q E => ∃ x y t b t2 b2, vs = [x, y] ∧ RatAt C H x t b ∧ RatAt C H y t2 b2 ∧ Wee t ∧ Wee b ∧ Wee t2 ∧ Wee b2 ∧ b ≠ 0 ∧ b2 ≠ 0 ∧
  (t2 ≠ 0 → ∀ H' v r rb, Same H H' → RatAt C H' v r rb → RestIs t b t2 b2 ((t * b2).fdiv (b * t2)) r rb → Q v H') ∧ (t2 = 0 → Err R E H "zero")
theorem ok__remainder (T : Txt K mg A D) : FnOk P w K mg base (L2.CX P w) 6 A.f__remainder D.f__remainder ["one", "other"] (sp_rem A.Ratio A.NoRatio) := by
  have G_Ratio_init : FnOk P w K mg base (L2.CX P w) 3 A.f_Ratio___init__ D.f_Ratio___init__ ["self", "top", "bottom"] (sp_init K A.Ratio A.NoRatio) := ok_Ratio___init__ T
  obtain ⟨ds1, d_Ratio_init1, b_Ratio_init1⟩ := T.b1_Ratio___init__
  have G__difference : FnOk P w K mg base CX0 5 A.f__difference D.f__difference ["one", "other"] (sp_put A.Ratio f_dif) := ok__difference T
  have G__floor : FnOk P w K mg base (L2.CX P w) 3 A.f__floor D.f__floor ["one", "other"] (sp_floor A.Ratio A.NoRatio) := ok__floor T
  have G__product : FnOk P w K mg base CX0 5 A.f__product D.f__product ["one", "other"] (sp_put A.Ratio f_pro) := ok__product T
  refine T.F__remainder.okX sc__remainder (fun vs H Q E h => ?_) (fun cdv A' outer s H vs Q E hr h => ?_)
  · obtain ⟨x, y, t, b, t2, b2, rfl, _⟩ := h
    rfl
  · obtain ⟨x, y, t, b, t2, b2, rfl, hx, hy, s1, s2, s3, s4, n1, n2, q, e⟩ := h
    refine ⟨_, (pss_one (ps_ret (pe_call G__difference (hr.mono (by decide)) rfl T.g__difference T.F__difference.kp T.b__difference .nil pass0 (pa_cons (pv 0) (pa_cons (pe_call G__product (hr.mono (by decide)) rfl T.g__product T.F__product.kp T.b__product .nil pass0 (pa_cons (pv 1) (pa_cons (pe_make T.M_Ratio G_Ratio_init (hr.mono (by decide)) rfl T.g_Ratio b_Ratio_init1 d_Ratio_init1 passE (pa_cons (pe_call G__floor (hr.mono (by decide)) rfl T.g__floor T.F__floor.kp T.b__floor .nil passE (pa_cons (pv 0) (pa_cons (pv 1) pa_nil))) pa_nil)) pa_nil))) pa_nil))))), ?_⟩
    refine ⟨_, rfl, _, rfl, _, rfl, _, rfl, _, _, _, _, _, _, rfl, hx, hy, s1.lil, s2.lil, s3.lil, s4.lil, n1, fun h0 => ?_, e⟩
    have q1 : ((t * b2).fdiv (b * t2)).natAbs < 2 ^ 201 := by
      have := fdiv_le (t * b2) (b * t2)
      have := pow_mul s1 s4
      omega
    have q0 := q h0
    generalize (t * b2).fdiv (b * t2) = k at q1 q0
    refine fun x1 dx nx nd ne => ⟨x1, dx, _, _, rfl, upd_same, .inl ⟨k, 1, rfl, rfl, by decide, so, fun t' b' nm => ⟨rfl, ?_⟩⟩⟩
    obtain ⟨e4, e5⟩ := norm_is_one nm
    subst e4 e5
    obtain ⟨k1, r1⟩ := made (C := A.Ratio) nx nd ne t' 1
    have w4 : Sm (b2 * 1) := by rw [Int.mul_one]; exact s4.lil.sm
    have ft1 : Fit t2 b2 t' 1 := ⟨s3.lil.sm, s4.lil.sm, Sm.of q1 (by decide), so, n2, by decide, w4⟩
    refine ⟨_, _, _, _, _, _, rfl, hy.same k1, r1, ft1, fun H1 u p pb k2 r2 nm2 => ?_⟩
    have p1 : p.natAbs < 2 ^ 301 := Nat.lt_of_le_of_lt nm2.le1 (pow_mul s3 q1)
    have p2 : pb.natAbs < 2 ^ 100 := Nat.lt_of_le_of_lt nm2.le2 (by rw [Int.mul_one]; exact s4)
    have bp : Sm (b * pb) := Sm.of (pow_mul s2 p2) (by decide)
    have hpb : pb ≠ 0 := fun z => by have := nm2.pos; omega
    have ft2 : Fit t b p pb := ⟨s1.lil.sm, s2.lil.sm, Sm.of p1 (by decide), Sm.of p2 (by decide), n1, hpb, bp⟩
    refine ⟨_, _, _, _, _, _, rfl, (hx.same k1).same k2, r2, ft2, fun H2 v r rb k3 r3 nm3 => ?_⟩
    have big : (t * pb - p * b).natAbs < 2 ^ 402 := by
      have h1 := pow_mul s1 p2
      have h2 := pow_mul p1 s2
      have h3 := Int.natAbs_sub_le (t * pb) (p * b)
      have h4 : (2 : Nat) ^ (100 + 100) ≤ 2 ^ (301 + 100) := Nat.pow_le_pow_right (by decide) (by decide)
      have h5 : (2 : Nat) ^ 402 = 2 ^ (301 + 100) + 2 ^ (301 + 100) := by
        rw [show (402 : Nat) = (301 + 100) + 1 from rfl, Nat.pow_succ]
        omega
      omega
    exact q0 _ _ _ _ ((k1.trans k2).trans k3) r3 (rest_is n2 nm2 nm3 (Sm.of (Nat.lt_of_le_of_lt nm3.le1 big) (by decide)) (bp.le nm3.le2))
/-- a % y -/
def sp_mbin (C R : Addr) : Sp := fun vs H Q E => ∃ x y t b t2 b2, vs = [x, y] ∧ RatAt C H x t b ∧ NumAt C H y t2 b2 ∧ Wee t ∧ Wee b ∧ Wee t2 ∧ Wee b2 ∧ b ≠ 0 ∧ b2 ≠ 0 ∧
  (t2 ≠ 0 → ∀ H' v r rb, Same H H' → RatAt C H' v r rb → RestIs t b t2 b2 ((t * b2).fdiv (b * t2)) r rb → Q v H') ∧ (t2 = 0 → Err R E H "zero")
theorem ok_Ratio___mod__ (T : Txt K mg A D) : FnOk P w K mg base (L2.CX P w) 7 A.f_Ratio___mod__ D.f_Ratio___mod__ ["self", "other"] (sp_mbin A.Ratio A.NoRatio) := by
  have G__remainder : FnOk P w K mg base (L2.CX P w) 6 A.f__remainder D.f__remainder ["one", "other"] (sp_rem A.Ratio A.NoRatio) := ok__remainder T
  have G_is_number : FnOk P w K mg base CX0 2 A.f_is_number D.f_is_number ["x"] (sp_is_number A.Ratio) := ok_is_number T
  have G_ratio_of : FnOk P w K mg base CX0 5 A.f_ratio_of D.f_ratio_of ["number"] (sp_ratio_of A.Ratio) := ok_ratio_of T
  refine T.F_Ratio___mod__.okX sc_Ratio___mod__ (fun vs H Q E h => ?_) (fun cdv A' outer s H vs Q E hr h => ?_)
  · obtain ⟨x, y, t, b, t2, b2, rfl, _⟩ := h
    rfl
  · obtain ⟨x, y, t, b, t2, b2, rfl, hx, hy, s1, s2, s3, s4, n1, n2, q, e⟩ := h
    refine ⟨_, (pss_cons (ps_if (pt_not (pt_val (pe_call G_is_number (hr.mono (by decide)) rfl T.g_is_number T.F_is_number.kp T.b_is_number .nil pass0 (pa_cons (pv 1) pa_nil)))) (pss_one ps_never) pss_nil)
  (pss_one (ps_ret (pe_call G__remainder (hr.mono (by decide)) rfl T.g__remainder T.F__remainder.kp T.b__remainder .nil passE (pa_cons (pv 0) (pa_cons (pe_call G_ratio_of (hr.mono (by decide)) rfl T.g_ratio_of T.F_ratio_of.kp T.b_ratio_of .nil pass0 (pa_cons (pv 1) pa_nil)) pa_nil)))))), ?_⟩
    refine ⟨_, rfl, _, rfl, hy.kind, true, rfl, iteF ?_⟩
    exact ⟨_, rfl, _, rfl, _, _, _, rfl, hy, fun H1 v k1 r1 => ⟨_, _, _, _, _, _, rfl, hx.same k1, r1, s1, s2, s3, s4, n1, n2, fun h0 H' u r rb k2 r2 z => q h0 _ _ _ _ (k1.trans k2) r2 z, fun h0 => (e h0).same k1⟩⟩
/-- y % a, asked of a -/
def sp_mrbin (C R : Addr) : Sp := fun vs H Q E => ∃ x y t b t2 b2, vs = [x, y] ∧ RatAt C H x t b ∧ NumAt C H y t2 b2 ∧ Wee t ∧ Wee b ∧ Wee t2 ∧ Wee b2 ∧ b ≠ 0 ∧ b2 ≠ 0 ∧
  (t ≠ 0 → ∀ H' v r rb, Same H H' → RatAt C H' v r rb → RestIs t2 b2 t b ((t2 * b).fdiv (b2 * t)) r rb → Q v H') ∧ (t = 0 → Err R E H "zero")
theorem ok_Ratio___rmod__ (T : Txt K mg A D) : FnOk P w K mg base (L2.CX P w) 7 A.f_Ratio___rmod__ D.f_Ratio___rmod__ ["self", "other"] (sp_mrbin A.Ratio A.NoRatio) := by
  have G__remainder : FnOk P w K mg base (L2.CX P w) 6 A.f__remainder D.f__remainder ["one", "other"] (sp_rem A.Ratio A.NoRatio) := ok__remainder T
  have G_is_number : FnOk P w K mg base CX0 2 A.f_is_number D.f_is_number ["x"] (sp_is_number A.Ratio) := ok_is_number T
  have G_ratio_of : FnOk P w K mg base CX0 5 A.f_ratio_of D.f_ratio_of ["number"] (sp_ratio_of A.Ratio) := ok_ratio_of T
  refine T.F_Ratio___rmod__.okX sc_Ratio___rmod__ (fun vs H Q E h => ?_) (fun cdv A' outer s H vs Q E hr h => ?_)
  · obtain ⟨x, y, t, b, t2, b2, rfl, _⟩ := h
    rfl
  · obtain ⟨x, y, t, b, t2, b2, rfl, hx, hy, s1, s2, s3, s4, n1, n2, q, e⟩ := h
    refine ⟨_, (pss_cons (ps_if (pt_not (pt_val (pe_call G_is_number (hr.mono (by decide)) rfl T.g_is_number T.F_is_number.kp T.b_is_number .nil pass0 (pa_cons (pv 1) pa_nil)))) (pss_one ps_never) pss_nil)
  (pss_one (ps_ret (pe_call G__remainder (hr.mono (by decide)) rfl T.g__remainder T.F__remainder.kp T.b__remainder .nil passE (pa_cons (pe_call G_ratio_of (hr.mono (by decide)) rfl T.g_ratio_of T.F_ratio_of.kp T.b_ratio_of .nil pass0 (pa_cons (pv 1) pa_nil)) (pa_cons (pv 0) pa_nil)))))), ?_⟩
    refine ⟨_, rfl, _, rfl, hy.kind, true, rfl, iteF ?_⟩
    exact ⟨_, rfl, _, _, _, rfl, hy, fun H1 v k1 r1 => ⟨_, rfl, _, _, _, _, _, _, rfl, r1, hx.same k1, s3, s4, s1, s2, n2, n1, fun h0 H' u r rb k2 r2 z => q h0 _ _ _ _ (k1.trans k2) r2 z, fun h0 => (e h0).same k1⟩⟩
def sp_over (C R : Addr) : Sp := fun vs H Q E => ∃ x y t b t2 b2, vs = [x, y] ∧ RatAt C H x t b ∧ NumAt C H y t2 b2 ∧ Wee t ∧ Wee b ∧ Wee t2 ∧ Wee b2 ∧ b ≠ 0 ∧
  (t2 ≠ 0 → ∀ H' v r rb, Same H H' → RatAt C H' v r rb → Norm (t * b2) (b * t2) r rb → Q v H') ∧ (t2 = 0 → Err R E H "zero")
theorem ok_Ratio_over (T : Txt K mg A D) : FnOk P w K mg base (L2.CX P w) 6 A.f_Ratio_over D.f_Ratio_over ["self", "other"] (sp_over A.Ratio A.NoRatio) := by
  have G_NoRatio___init__ : FnOk P w K mg base CX0 1 A.f_NoRatio___init__ D.f_NoRatio___init__ ["self", "word"] (sp_keep K "word") := ok_NoRatio___init__ T
  have G_Ratio_init : FnOk P w K mg base (L2.CX P w) 3 A.f_Ratio___init__ D.f_Ratio___init__ ["self", "top", "bottom"] (sp_init K A.Ratio A.NoRatio) := ok_Ratio___init__ T
  have b_Ratio_init2 := T.b_Ratio___init__
  have d_Ratio_init2 : Vals [] [] := .nil
  have G_ratio_of : FnOk P w K mg base CX0 5 A.f_ratio_of D.f_ratio_of ["number"] (sp_ratio_of A.Ratio) := ok_ratio_of T
  refine T.F_Ratio_over.okX sc_Ratio_over (fun vs H Q E h => ?_) (fun cdv A' outer s H vs Q E hr h => ?_)
  · obtain ⟨x, y, t, b, t2, b2, rfl, _⟩ := h
    rfl
  · obtain ⟨x, y, t, b, t2, b2, rfl, hx, hy, s1, s2, s3, s4, n1, q, e⟩ := h
    refine ⟨_, (pss_cons (ps_set (i := 2) sc_Ratio_over.nd rfl (.inl rfl) (pe_call G_ratio_of (hr.mono (by decide)) rfl T.g_ratio_of T.F_ratio_of.kp T.b_ratio_of .nil pass0 (pa_cons (pv 1) pa_nil)))
  (pss_cons (ps_if (pt_cmpR op_eq (pe_fld (pv 2) rfl) pe_int (nomark _)) (pss_one (ps_raise rfl (takes_of rfl rfl rfl rfl) (pmk_oex T.o_NoRatio T.i_NoRatio T.ti_NoRatio G_NoRatio___init__ (hr.mono (by decide)) T.b_NoRatio___init__ .nil pass0 rfl T.g_NoRatio (by exact (pa_cons pe_str pa_nil))))) pss_nil)
  (pss_one (ps_ret (pe_make T.M_Ratio G_Ratio_init (hr.mono (by decide)) rfl T.g_Ratio b_Ratio_init2 d_Ratio_init2 passE (pa_cons (pe_op op_mulW (pe_fld (pv 0) rfl) (pe_fld (pv 2) rfl)) (pa_cons (pe_op op_mulW (pe_fld (pv 0) rfl) (pe_fld (pv 2) rfl)) pa_nil))))))), ?_⟩
    have cl := T.k_Ratio.cl
    have nt := T.k_Ratio.n_top
    have nb := T.k_Ratio.n_bottom
    refine ⟨_, rfl, _, _, _, rfl, hy, fun H1 v k1 r1 => ?_⟩
    obtain ⟨c, dy, rfl, hc⟩ := r1
    obtain ⟨a, dx, rfl, ha⟩ := hx.same k1
    refine ⟨_, rfl, c, A.Ratio, dy, _, _, rfl, hc, cl, nt, rfl, rfl, _, rfl, ?_⟩
    by_cases h0 : t2 = 0
    · exact iteTe (decide_eq_true (by rw [h0])) (mk_keep T.o_NoRatio T.n_NoRatio_word ((e h0).same k1).here)
    · refine iteFe (decide_eq_false fun z => h0 (V.int.inj z)) ?_
      refine ⟨_, rfl, a, A.Ratio, dx, _, _, rfl, ha, cl, nt, rfl, _, rfl, c, A.Ratio, dy, _, _, rfl, hc, cl, nb, rfl, _, _, rfl, rfl, s1.lil.sm.mul s4.lil.sm, ?_⟩
      refine ⟨_, rfl, a, A.Ratio, dx, _, _, rfl, ha, cl, nb, rfl, _, rfl, c, A.Ratio, dy, _, _, rfl, hc, cl, nt, rfl, _, _, rfl, rfl, s2.lil.sm.mul s3.lil.sm, ?_⟩
      refine fun x dx nx nd ne => ⟨x, dx, _, _, rfl, upd_same, .inl ⟨_, _, rfl, rfl, fun z => (Int.mul_eq_zero.mp z).elim n1 h0, s2.lil.msm s3.lil, fun t' b' nm => ⟨rfl, ?_⟩⟩⟩
      obtain ⟨sd, rd⟩ := made (C := A.Ratio) nx nd ne t' b'
      exact q h0 _ _ _ _ (k1.trans sd) rd nm
theorem abs_nat (i : Int) : (if i < 0 then -i else i) = ((i.natAbs : Nat) : Int) := by
  split <;> omega
theorem pow_small {i : Int} (h : Wee i) : ∀ n : Nat, n ≤ 20 → (i ^ n).natAbs < 2 ^ (100 * n + 1) := by
  intro n
  induction n with
  | zero =>
    intro _
    rw [Int.pow_zero]
    decide
  | succ n ih =>
    intro hn
    have h1 := ih (by omega)
    rw [Int.pow_succ]
    have h2 := pow_mul h1 h
    exact Nat.lt_of_lt_of_le h2 (Nat.pow_le_pow_right (by decide) (by omega))
theorem pow_sm {i : Int} (h : Wee i) {n : Nat} (hn : n ≤ 20) : Sm (i ^ n) := Sm.of (pow_small h n hn) (by omega)
def sp_power (K : PySem.W.Frag) (C R : Addr) : Sp := fun vs H Q E => ∃ x y t b, vs = [x, y] ∧ RatAt C H x t b ∧ Wee t ∧ Wee b ∧ b ≠ 0 ∧
  ((WholeV K H y false ∧ Err R E H "power") ∨ ∃ k : Int, y = .int k ∧ ((k < -20 ∨ 20 < k) → Err R E H "power") ∧ (-20 ≤ k → k ≤ 20 → (k < 0 ∧ t = 0 → Err R E H "zero") ∧
    (0 ≤ k → ∀ H' v r rb, Same H H' → RatAt C H' v r rb → Norm (t ^ k.natAbs) (b ^ k.natAbs) r rb → Q v H') ∧ (k < 0 → t ≠ 0 → ∀ H' v r rb, Same H H' → RatAt C H' v r rb → Norm (b ^ k.natAbs) (t ^ k.natAbs) r rb → Q v H')))
theorem ok_Ratio_power (T : Txt K mg A D) : FnOk P w K mg base (L2.CX P w) 5 A.f_Ratio_power D.f_Ratio_power ["self", "k"] (sp_power K A.Ratio A.NoRatio) := by
  obtain ⟨tok_MOST_POWER, gc_MOST_POWER⟩ := T.g_MOST_POWER
  have G_NoRatio___init__ : FnOk P w K mg base CX0 1 A.f_NoRatio___init__ D.f_NoRatio___init__ ["self", "word"] (sp_keep K "word") := ok_NoRatio___init__ T
  have G_Ratio_init : FnOk P w K mg base (L2.CX P w) 3 A.f_Ratio___init__ D.f_Ratio___init__ ["self", "top", "bottom"] (sp_init K A.Ratio A.NoRatio) := ok_Ratio___init__ T
  have b_Ratio_init2 := T.b_Ratio___init__
  have d_Ratio_init2 : Vals [] [] := .nil
  have G_is_whole : FnOk P w K mg base CX0 1 A.f_is_whole D.f_is_whole ["x"] (sp_is_whole K) := ok_is_whole T
  refine T.F_Ratio_power.okX sc_Ratio_power (fun vs H Q E h => ?_) (fun cdv A' outer s H vs Q E hr h => ?_)
  · obtain ⟨x, y, t, b, rfl, _⟩ := h
    rfl
  · obtain ⟨x, y, t, b, rfl, ⟨a, dx, rfl, ha⟩, s1, s2, n1, h⟩ := h
    refine ⟨_, (pss_cons (ps_if (PW.pt (pw_or (pt_not (pt_val (pe_call G_is_whole (hr.mono (by decide)) rfl T.g_is_whole T.F_is_whole.kp T.b_is_whole .nil pass0 (pa_cons (pv 1) pa_nil)))) (pw_or (pt_cmpR op_lt (pv 1) (pe_un un_neg (pe_glob (v := .int 20) rfl gc_MOST_POWER ⟨_, rfl⟩)) (nomark _)) (pw_or1 (pt_cmpR op_gt (pv 1) (pe_glob (v := .int 20) rfl gc_MOST_POWER ⟨_, rfl⟩) (nomark _)))))) (pss_one (ps_raise rfl (takes_of rfl rfl rfl rfl) (pmk_oex T.o_NoRatio T.i_NoRatio T.ti_NoRatio G_NoRatio___init__ (hr.mono (by decide)) T.b_NoRatio___init__ .nil pass0 rfl T.g_NoRatio (by exact (pa_cons pe_str pa_nil))))) pss_nil)
  (pss_cons (ps_if (PW.pt (pw_and (pt_cmpR op_eq (pe_fld (pv 0) rfl) pe_int (nomark _)) (pw_and1 (pt_cmpR op_lt (pv 1) pe_int (nomark _))))) (pss_one (ps_raise rfl (takes_of rfl rfl rfl rfl) (pmk_oex T.o_NoRatio T.i_NoRatio T.ti_NoRatio G_NoRatio___init__ (hr.mono (by decide)) T.b_NoRatio___init__ .nil pass0 rfl T.g_NoRatio (by exact (pa_cons pe_str pa_nil))))) pss_nil)
  (pss_cons (ps_set (i := 2) sc_Ratio_power.nd rfl (.inl rfl) pe_int)
  (pss_cons (ps_set (i := 3) sc_Ratio_power.nd rfl (.inl rfl) pe_int)
  (pss_cons (ps_for (passes_of rfl) rfl (pi_range1 rfl T.z_range (pa_cons (pe_callB call_abs rfl T.z_abs (by decide +kernel) (pa_cons (pv 1) pa_nil)) pa_nil)) (pg_name (i := 4) sc_Ratio_power.nd rfl (.inl rfl)) (pss_cons (ps_set (i := 2) sc_Ratio_power.nd rfl (.inl rfl) (pe_op op_mulW (pv 2) (pe_fld (pv 0) rfl)))
  (pss_one (ps_set (i := 3) sc_Ratio_power.nd rfl (.inl rfl) (pe_op op_mulW (pv 3) (pe_fld (pv 0) rfl))))))
  (pss_cons (ps_if (pt_cmpR op_lt (pv 1) pe_int (nomark _)) (pss_one (ps_ret (pe_make T.M_Ratio G_Ratio_init (hr.mono (by decide)) rfl T.g_Ratio b_Ratio_init2 d_Ratio_init2 passE (pa_cons (pv 3) (pa_cons (pv 2) pa_nil))))) pss_nil)
  (pss_one (ps_ret (pe_make T.M_Ratio G_Ratio_init (hr.mono (by decide)) rfl T.g_Ratio b_Ratio_init2 d_Ratio_init2 passE (pa_cons (pv 2) (pa_cons (pv 3) pa_nil))))))))))), ?_⟩
    have cl := T.k_Ratio.cl
    have nt := T.k_Ratio.n_top
    have nb := T.k_Ratio.n_bottom
    rcases h with ⟨hw, e⟩ | ⟨k, rfl, e1, h⟩
    · exact ⟨_, rfl, _, _, rfl, hw, false, rfl, iteT (iteT (mk_keep T.o_NoRatio T.n_NoRatio_word e.here))⟩
    · refine ⟨_, rfl, _, _, rfl, whole_int k, true, rfl, iteF ?_⟩
      refine ⟨_, rfl, _, rfl, _, _, rfl, rfl, _, rfl, ?_⟩
      refine ite2 (fun c1 => iteT (mk_keep T.o_NoRatio T.n_NoRatio_word (e1 (.inl (of_decide_eq_true c1))).here)) (fun c1 => ?_)
      have l1 : -20 ≤ k := by
        have : ¬ k < -20 := fun z => c1 (decide_eq_true z)
        omega
      refine ⟨_, rfl, _, _, rfl, rfl, _, rfl, ?_⟩
      refine ite2 (fun c2 => mk_keep T.o_NoRatio T.n_NoRatio_word (e1 (.inr (of_decide_eq_true c2))).here) (fun c2 => ?_)
      have l2 : k ≤ 20 := by
        have : ¬ 20 < k := fun z => c2 (decide_eq_true z)
        omega
      obtain ⟨e0, p1, p2⟩ := h l1 l2
      refine ⟨_, rfl, a, A.Ratio, dx, _, _, rfl, ha, cl, nt, rfl, rfl, _, rfl, ?_⟩
      have en : (if k < 0 then -k else k).toNat = k.natAbs := by
        rw [abs_nat]
        rfl
      by_cases ht : t = 0
      · refine iteTe (decide_eq_true (by rw [ht])) ⟨_, rfl, _, _, rfl, rfl, _, rfl, ite2 (fun c3 => mk_keep T.o_NoRatio T.n_NoRatio_word (e0 ⟨of_decide_eq_true c3, ht⟩).here) (fun c3 => ?_)⟩
        have hz : k < 0 → t ≠ 0 := fun z => absurd (decide_eq_true z) c3
        refine ⟨_, rfl, _, rfl, _, rfl, (by rw [abs_nat k]; omega), (by rw [abs_nat k]; omega), ?_⟩
        refine for_range (lo := 0) (fun i σ H' => H' = H ∧ ∃ y4 : Option V, σ = [some (.ref a), some (.int k), some (.int (t ^ i)), some (.int (b ^ i)), y4]) ⟨rfl, _, by rw [Int.pow_zero, Int.pow_zero]; rfl⟩ ?_ ?_
        · rintro i σ H' hi ⟨rfl, y4, rfl⟩
          rw [en] at hi
          refine ⟨_, rfl, _, rfl, a, A.Ratio, dx, _, _, rfl, ha, cl, nt, rfl, _, _, rfl, rfl, (pow_sm s1 (by omega)).mul s1.lil.sm, ?_⟩
          refine ⟨_, rfl, _, rfl, a, A.Ratio, dx, _, _, rfl, ha, cl, nb, rfl, _, _, rfl, rfl, (pow_sm s2 (by omega)).mul s2.lil.sm, ?_⟩
          exact ⟨rfl, _, by rw [Int.pow_succ t i, Int.pow_succ b i]; rfl⟩
        · rintro σ H' ⟨rfl, y4, rfl⟩
          rw [en]
          refine ⟨_, rfl, _, _, rfl, rfl, _, rfl, ?_⟩
          refine ite2 (fun c3 => ?_) (fun c3 => ?_)
          · have kn : k < 0 := of_decide_eq_true c3
            refine ⟨_, rfl, _, rfl, fun x dx nx nd ne => ⟨x, dx, _, _, rfl, upd_same, .inl ⟨_, _, rfl, rfl, Int.pow_ne_zero (hz kn), pow_sm s1 (by omega), fun t' b' nm => ⟨rfl, ?_⟩⟩⟩⟩
            obtain ⟨sd, rd⟩ := made (C := A.Ratio) nx nd ne t' b'
            exact p2 kn (hz kn) _ _ _ _ sd rd nm
          · have kp : 0 ≤ k := by
              have : ¬ k < 0 := fun z => c3 (decide_eq_true z)
              omega
            refine ⟨_, rfl, _, rfl, fun x dx nx nd ne => ⟨x, dx, _, _, rfl, upd_same, .inl ⟨_, _, rfl, rfl, Int.pow_ne_zero n1, pow_sm s2 (by omega), fun t' b' nm => ⟨rfl, ?_⟩⟩⟩⟩
            obtain ⟨sd, rd⟩ := made (C := A.Ratio) nx nd ne t' b'
            exact p1 kp _ _ _ _ sd rd nm
      · refine iteFe (decide_eq_false fun z => ht (V.int.inj z)) (iteF ?_)
        have hz : k < 0 → t ≠ 0 := fun _ => ht
        refine ⟨_, rfl, _, rfl, _, rfl, (by rw [abs_nat k]; omega), (by rw [abs_nat k]; omega), ?_⟩
        refine for_range (lo := 0) (fun i σ H' => H' = H ∧ ∃ y4 : Option V, σ = [some (.ref a), some (.int k), some (.int (t ^ i)), some (.int (b ^ i)), y4]) ⟨rfl, _, by rw [Int.pow_zero, Int.pow_zero]; rfl⟩ ?_ ?_
        · rintro i σ H' hi ⟨rfl, y4, rfl⟩
          rw [en] at hi
          refine ⟨_, rfl, _, rfl, a, A.Ratio, dx, _, _, rfl, ha, cl, nt, rfl, _, _, rfl, rfl, (pow_sm s1 (by omega)).mul s1.lil.sm, ?_⟩
          refine ⟨_, rfl, _, rfl, a, A.Ratio, dx, _, _, rfl, ha, cl, nb, rfl, _, _, rfl, rfl, (pow_sm s2 (by omega)).mul s2.lil.sm, ?_⟩
          exact ⟨rfl, _, by rw [Int.pow_succ t i, Int.pow_succ b i]; rfl⟩
        · rintro σ H' ⟨rfl, y4, rfl⟩
          rw [en]
          refine ⟨_, rfl, _, _, rfl, rfl, _, rfl, ?_⟩
          refine ite2 (fun c3 => ?_) (fun c3 => ?_)
          · have kn : k < 0 := of_decide_eq_true c3
            refine ⟨_, rfl, _, rfl, fun x dx nx nd ne => ⟨x, dx, _, _, rfl, upd_same, .inl ⟨_, _, rfl, rfl, Int.pow_ne_zero (hz kn), pow_sm s1 (by omega), fun t' b' nm => ⟨rfl, ?_⟩⟩⟩⟩
            obtain ⟨sd, rd⟩ := made (C := A.Ratio) nx nd ne t' b'
            exact p2 kn (hz kn) _ _ _ _ sd rd nm
          · have kp : 0 ≤ k := by
              have : ¬ k < 0 := fun z => c3 (decide_eq_true z)
              omega
            refine ⟨_, rfl, _, rfl, fun x dx nx nd ne => ⟨x, dx, _, _, rfl, upd_same, .inl ⟨_, _, rfl, rfl, Int.pow_ne_zero n1, pow_sm s2 (by omega), fun t' b' nm => ⟨rfl, ?_⟩⟩⟩⟩
            obtain ⟨sd, rd⟩ := made (C := A.Ratio) nx nd ne t' b'
            exact p1 kp _ _ _ _ sd rd nm
theorem ok_Ratio___pow__ (T : Txt K mg A D) : FnOk P w K mg base (L2.CX P w) 6 A.f_Ratio___pow__ D.f_Ratio___pow__ ["self", "other"] (sp_power K A.Ratio A.NoRatio) := by
  have G_Ratio_power : FnOk P w K mg base (L2.CX P w) 5 A.f_Ratio_power D.f_Ratio_power ["self", "k"] (sp_power K A.Ratio A.NoRatio) := ok_Ratio_power T
  refine T.F_Ratio___pow__.okX sc_Ratio___pow__ (fun vs H Q E h => ?_) (fun cdv A' outer s H vs Q E hr h => ?_)
  · obtain ⟨x, y, t, b, rfl, _⟩ := h
    rfl
  · obtain ⟨x, y, t, b, rfl, ⟨a, dx, rfl, ha⟩, h⟩ := h
    refine ⟨_, (pss_one (ps_ret (pe_meth (pv 0) T.k_Ratio.cl T.m_Ratio_power G_Ratio_power (hr.mono (by decide)) T.b_Ratio_power .nil passE (pa_cons (pv 1) pa_nil)))), ?_⟩
    exact ⟨_, rfl, a, dx, _, rfl, ha, rfl, _, rfl, _, _, _, _, rfl, ⟨a, dx, rfl, ha⟩, h⟩

end

end Mo

namespace Mo
open PySem PySem.Spec PyProof.Rows L2 MoL MoW
open C8 (pss_cut tCut)
section
variable {P : Program} {w : World} {K : PySem.W.Frag} {mg : Str → Option Value} {base : Heap} {A : Ad} {D : Fd}
/-! ### the law's drawing of numbers -/
/-- the six places of the feed at f -/
abbrev six (l : Addr) (i r t n s : Int) : HO := .lst [.ref l, .int i, .int r, .int t, .int n, .int s]
def FeedAt (H : Hp) (f : Addr) : Prop := ∃ (l : Addr) (xs : List Int) (i : Nat) (r t n s : Int), H f = some (six l i r t n s) ∧ H l = some (.lst (xs.map V.int)) ∧ i ≤ xs.length ∧ xs.length ≤ 63 ∧ 0 ≤ r
/-- from H to H' only the feed has moved on, and new things have come -/
structure Stp (f : Addr) (H H' : Hp) : Prop where
  feed : FeedAt H' f
  keep : ∀ b o, b ≠ f → H b = some o → H' b = some o
theorem FeedAt.same {H H' : Hp} {f : Addr} (h : FeedAt H f) (s : Same H H') : FeedAt H' f := by
  obtain ⟨l, xs, i, r, t, n, z, h1, h2, h3⟩ := h
  exact ⟨l, xs, i, r, t, n, z, s _ _ h1, s _ _ h2, h3⟩
theorem Stp.refl {H : Hp} {f : Addr} (h : FeedAt H f) : Stp f H H := ⟨h, fun _ _ _ e => e⟩
theorem Stp.trans {H H1 H2 : Hp} {f : Addr} (a : Stp f H H1) (b : Stp f H1 H2) : Stp f H H2 := ⟨b.feed, fun c o n e => b.keep c o n (a.keep c o n e)⟩
theorem Stp.of {H H1 H2 : Hp} {f : Addr} (a : Stp f H H1) (b : Same H1 H2) : Stp f H H2 := ⟨a.feed.same b, fun c o n e => b c o (a.keep c o n e)⟩
theorem FeedAt.ne {H : Hp} {f p : Addr} {o : HO} (h : FeedAt H f) (hp : H p = some o) (d : ∀ l i r t n s, six l i r t n s ≠ o) : p ≠ f := by
  obtain ⟨l, xs, i, r, t, n, z, h1, _⟩ := h
  exact ne_of hp h1 fun e => d _ _ _ _ _ _ e.symm
theorem FeedAt.lt {H : Hp} {f p : Addr} (h : FeedAt H f) (hp : H p = none) : f ≠ p := by
  obtain ⟨l, xs, i, r, t, n, z, h1, _⟩ := h
  exact ne_of_none h1 hp

def sp_feed (K : PySem.W.Frag) : Sp := fun vs H Q _ => ∃ (a : Addr) (ns : List Int), vs = [.ref a] ∧ SqL K H a (ns.map V.int) ∧ ns.length ≤ 63 ∧ ∀ H' f, Same H H' → FeedAt H' f → H f = none → Q (.ref f) H'
theorem ok__law_feed (T : Txt K mg A D) : FnOk P w K mg base CX0 1 A.f__law_feed D.f__law_feed ["_law_script"] (sp_feed K) := by
  skip
  refine T.F__law_feed.ok sc__law_feed (fun vs H Q E h => ?_) (fun cdv A' outer s H vs Q E hr h => ?_)
  · obtain ⟨a, ns, rfl, _⟩ := h
    rfl
  · obtain ⟨a, ns, rfl, hS, hl, q⟩ := h
    refine ⟨_, (pss_one (ps_ret (pe_lst (pa_cons (pe_lc (own := [("_law_cell", 1)]) (g := gName 1) (tt := tYes) rfl sc__law_feed.nd (pi_list (pe_slice sl_list (pv 0) po_none (po_some pe_int))) (blkOk_by (N := N__law_feed) (sc := defScope s__law_feed) (by decide +kernel)) (fun _ _ _ _ _ => (pg_name (i := 1) sc__law_feed.nd rfl (.inl rfl))) (fun _ _ _ _ _ => pts_nil) (fun _ _ _ _ _ => (pe_callB call_abs rfl T.z_abs (by decide +kernel) (pa_cons (pe_callTy call_int1 rfl T.z_int (by decide +kernel) (pa_cons (pv 1) pa_nil)) pa_nil)))) (pa_cons pe_int (pa_cons pe_int (pa_cons pe_int (pa_cons pe_int (pa_cons pe_int pa_nil))))))))), ?_⟩
    refine ⟨_, rfl, 63, rfl, a, _, rfl, hS, fun p np => ?_⟩
    have s1 : Same H (upd H p (.lst (cutV (ns.map V.int) none (some 63)))) := same_upd np
    obtain ⟨zs, hz, hzl⟩ : ∃ zs : List Int, cutV (ns.map V.int) none (some 63) = zs.map V.int ∧ zs.length ≤ 63 := by
      refine ⟨(ns.drop (HT.sIx (ns.map V.int).length 0 none)).take (HT.sIx (ns.map V.int).length (ns.map V.int).length (some 63) - HT.sIx (ns.map V.int).length 0 none), ?_, ?_⟩
      · unfold cutV
        rw [List.map_take, List.map_drop]
      · rw [List.length_take, List.length_drop]
        omega
    rw [hz] at s1 ⊢
    refine ⟨p, rfl, ⟨_, .of upd_same⟩, fun d nd => ?_⟩
    have npd : p ≠ d := fun e => by rw [e, upd_same] at nd; cases nd
    refine lc_list (K := K) (a := p) (xs := zs.map V.int) (fun i H' => Same H H' ∧ H' p = some (.lst (zs.map V.int)) ∧ ∃ ys : List Int, ys.length = i ∧ H' d = some (.lst (ys.map V.int)))
      ⟨s1.trans (same_upd nd), by rw [upd_ne npd, upd_same], [], rfl, upd_same⟩ (fun i H' _ h => .of h.2.1) ?_ ?_
    · rintro i x H' hx ⟨sm, hp, ys, hy, hd⟩
      obtain ⟨z, hz', rfl⟩ : ∃ z, zs[i]? = some z ∧ x = .int z := by
        rw [List.getElem?_map] at hx
        cases e : zs[i]? with
        | none => rw [e] at hx; cases hx
        | some z => rw [e] at hx; exact ⟨z, rfl, (Option.some.inj hx).symm⟩
      have il : i < zs.length := (List.getElem?_eq_some_iff.mp hz').1
      refine ⟨rfl, ?_⟩
      refine ⟨_, rfl, .inl ⟨z, rfl, z, rfl, _, hd, ?_, ⟨fun b o e => ?_, ?_, ys ++ [if z < 0 then -z else z], ?_, ?_⟩⟩⟩
      · rw [List.length_map, hy]
        exact small1000 (by omega)
      · have nb : b ≠ d := fun e' => by
          subst e'
          rw [s1.free nd] at e
          cases e
        rw [upd_ne nb]
        exact sm _ _ e
      · rw [upd_ne npd]
        exact hp
      · rw [List.length_append, hy]
        rfl
      · rw [upd_same, List.map_append]
        rfl
    · rintro H' ⟨sm, hp, ys, hy, hd⟩
      rw [List.length_map] at hy
      refine ⟨by show 6 ≤ sizeLine; decide, fun f nf => ?_⟩
      have nfd : d ≠ f := ne_of_none hd nf
      refine q _ f (sm.trans (same_upd nf)) ⟨d, ys, 0, 0, 0, 0, 0, upd_same, by rw [upd_ne nfd]; exact hd, Nat.zero_le _, by omega, Int.le_refl _⟩ (sm.free nf)

/-- the feed at f with these five, the rest as in H -/
structure Now (H H' : Hp) (f l : Addr) (i r t n s : Int) : Prop where
  at_ : H' f = some (six l i r t n s)
  oth : ∀ b, b ≠ f → H' b = H b
theorem Now.put {H H' : Hp} {f l : Addr} {i r t n s i' r' t' n' s' : Int} (h : Now H H' f l i r t n s) : Now H (upd H' f (six l i' r' t' n' s')) f l i' r' t' n' s' :=
  ⟨upd_same, fun b hb => by rw [upd_ne hb]; exact h.oth b hb⟩
theorem fdiv_nn {a b : Int} (h : 0 ≤ a) (h' : 0 < b) : 0 ≤ a.fdiv b := by
  rw [Int.fdiv_eq_ediv_of_nonneg a (by omega)]
  exact Int.ediv_nonneg h (by omega)
theorem lt_mod : (0 : Int) < 2147483647 := by decide
theorem lt_mod' : (0 : Int) < 2147483399 := by decide
def sp_take : Sp := fun vs H Q _ => ∃ (f : Addr) (z : Int), vs = [.ref f, .int z] ∧ FeedAt H f ∧ 0 < z ∧ Sm z ∧ ∀ H' v, 0 ≤ v → v < z → Stp f H H' → Q (.int v) H'
theorem ok__law_take (T : Txt K mg A D) : FnOk P w K mg base CX0 1 A.f__law_take D.f__law_take ["_law_feed_here", "_law_size"] (sp_take) := by
  skip
  refine T.F__law_take.ok sc__law_take (fun vs H Q E h => ?_) (fun cdv A' outer s H vs Q E hr h => ?_)
  · obtain ⟨f, z, rfl, _⟩ := h
    rfl
  · obtain ⟨f, z, rfl, ⟨l, xs, i, r, t, n, c, hf, hl, hi, hx, hr0⟩, hz, sz, q⟩ := h
    refine ⟨_, (pss_cons (ps_augS (pv 0) pe_int get_list pe_int ip_add set_list)
  (pss_cut (ps_if (PW.pt (pw_and (pt_cmpR op_eq (pe_ix ix_list (pv 0) pe_int (fun _ _ => rfl)) pe_int (nomark _)) (pw_and (pt_cmpR op_eq (pe_ix ix_list (pv 0) pe_int (fun _ _ => rfl)) pe_int (nomark _)) (pw_and1 (pt_cmpR op_lt (pe_ix ix_list (pv 0) pe_int (fun _ _ => rfl)) (pe_callB call_len_seq rfl T.z_len (by decide +kernel) (pa_cons (pe_ix ix_list (pv 0) pe_int (fun _ _ => rfl)) pa_nil)) (nomark _)))))) (pss_cons (ps_set (i := 2) sc__law_take.nd rfl (.inl rfl) (pe_ix ix_list (pe_ix ix_list (pv 0) pe_int (fun _ _ => rfl)) (pe_ix ix_list (pv 0) pe_int (fun _ _ => rfl)) (fun _ _ => rfl)))
  (pss_cons (ps_augS (pv 0) pe_int get_list pe_int ip_add set_list)
  (pss_one (ps_if (pt_cmpR op_ge (pv 2) (pe_op op_pow pe_int pe_int) (nomark _)) (pss_one (ps_asg (pv 2) (pg_sub (pv 0) pe_int set_list))) (pss_cons (ps_asg pe_int (pg_sub (pv 0) pe_int set_list))
  (pss_one (ps_asg (pe_op op_add (pe_ix ix_list (pv 0) pe_int (fun _ _ => rfl)) (pv 2)) (pg_sub (pv 0) pe_int set_list)))))))) pss_nil)
  (pss_cons (ps_if (pt_cmpR op_gt (pe_ix ix_list (pv 0) pe_int (fun _ _ => rfl)) pe_int (nomark _)) (pss_cons (ps_set (i := 3) sc__law_take.nd rfl (.inl rfl) (pe_op op_mod (pe_callTy call_int1 rfl T.z_int (by decide +kernel) (pa_cons (pe_ix ix_list (pv 0) pe_int (fun _ _ => rfl)) pa_nil)) (pv 1)))
  (pss_cons (ps_asg (pe_op op_fdivA (pe_ix ix_list (pv 0) pe_int (fun _ _ => rfl)) (pv 1)) (pg_sub (pv 0) pe_int set_list))
  (pss_one (ps_ret (pv 3))))) pss_nil)
  (pss_cons (ps_asg (pe_callB (call_max2 rfl) rfl T.z_max (by decide +kernel) (pa_cons pe_int (pa_cons (pe_op op_sub (pe_ix ix_list (pv 0) pe_int (fun _ _ => rfl)) pe_int) pa_nil))) (pg_sub (pv 0) pe_int set_list))
  (pss_cons (ps_set (i := 4) sc__law_take.nd rfl (.inl rfl) (pe_op op_mod (pe_callTy call_int1 rfl T.z_int (by decide +kernel) (pa_cons (pe_op op_mul (pe_op op_add (pe_op op_add (pe_ix ix_list (pv 0) pe_int (fun _ _ => rfl)) (pe_op op_mul pe_int (pe_ix ix_list (pv 0) pe_int (fun _ _ => rfl)))) pe_int) pe_int) pa_nil)) pe_int))
  (pss_cons (ps_set (i := 4) sc__law_take.nd rfl (.inl rfl) (pe_op op_mod (pe_callTy call_int1 rfl T.z_int (by decide +kernel) (pa_cons (pe_op op_mul (pv 4) (pe_op op_add (pe_op op_fdivA (pv 4) pe_int) pe_int)) pa_nil)) pe_int))
  (pss_cons (ps_set (i := 4) sc__law_take.nd rfl (.inl rfl) (pe_op op_mod (pe_callTy call_int1 rfl T.z_int (by decide +kernel) (pa_cons (pe_op op_mul (pv 4) (pe_op op_add (pe_op op_fdivA (pv 4) pe_int) pe_int)) pa_nil)) pe_int))
  (pss_one (ps_ret (pe_op op_mod (pv 4) (pv 1))))))))))), ?_⟩
    have N0 : Now H H f l i r t n c := ⟨hf, fun _ _ => rfl⟩
    have lf : l ≠ f := ne_of hl hf fun e => by
      have := HO.lst.inj e
      cases xs with
      | nil => cases this
      | cons x xs => cases this
    have fin : ∀ {H' i' r' t' n' c'} (v : Int), Now H H' f l ((i' : Nat) : Int) r' t' n' c' → i' ≤ xs.length → 0 ≤ r' → 0 ≤ v → v < z → Q (.int v) H' := fun v N h1 h2 h3 h4 =>
      q _ v h3 h4 ⟨⟨l, xs, _, _, _, _, _, N.at_, by rw [N.oth l lf]; exact hl, h1, hx, h2⟩, fun b o hb e => by rw [N.oth b hb]; exact e⟩
    -- feed[4] += 1
    refine ⟨_, rfl, f, _, 4, _, rfl, rfl, .of hf, rfl, n, 1, rfl, rfl, f, _, 4, 4, rfl, rfl, hf, rfl, ?_⟩
    have N1 : Now H (upd H f (six l i r t (n + 1) c)) f l i r t (n + 1) c := N0.put
    show tCut _ _ _ _ (upd H f (six l i r t (n + 1) c))
    generalize upd H f (six l i r t (n + 1) c) = H1 at N1
    -- the reading of a new cell
    refine ⟨fun σ H' => (∃ y, σ = [some (.ref f), some (.int z), y, none, none]) ∧ ∃ i' r' t' n' c', Now H H' f l ((i' : Nat) : Int) r' t' n' c' ∧ i' ≤ xs.length ∧ 0 ≤ r', ?_, ?_⟩
    · have skip : ∀ σ : L2.St, σ = [some (.ref f), some (.int z), none, none, none] → (∃ y, σ = [some (.ref f), some (.int z), y, none, none]) ∧ ∃ i' r' t' n' c', Now H H1 f l ((i' : Nat) : Int) r' t' n' c' ∧ i' ≤ xs.length ∧ 0 ≤ r' :=
        fun σ e => ⟨⟨_, e⟩, _, _, _, _, _, N1, hi, hr0⟩
      refine ⟨_, rfl, f, _, 2, _, rfl, rfl, .of N1.at_, rfl, rfl, _, rfl, ?_⟩
      refine ite2 (fun _ => ?_) (fun _ => iteF (skip _ rfl))
      refine ⟨_, rfl, f, _, 3, _, rfl, rfl, .of N1.at_, rfl, rfl, _, rfl, ?_⟩
      refine ite2 (fun _ => ?_) (fun _ => iteF (skip _ rfl))
      have hl1 : H1 l = some (.lst (xs.map V.int)) := by rw [N1.oth l lf]; exact hl
      refine ⟨_, rfl, f, _, 1, _, rfl, rfl, .of N1.at_, rfl, _, rfl, f, _, 0, _, rfl, rfl, .of N1.at_, rfl, l, _, rfl, .inl (.of hl1), _, _, rfl, rfl, _, rfl, ?_⟩
      refine ite2 (fun hlt => ?_) (fun _ => skip _ rfl)
      have hlt' : i < xs.length := by
        have := of_decide_eq_true hlt
        rw [List.length_map] at this
        omega
      have gi : (xs.map V.int)[i]? = some (.int xs[i]) := by
        rw [List.getElem?_map, List.getElem?_eq_getElem hlt']
        rfl
      refine ⟨_, rfl, f, _, 0, _, rfl, rfl, .of N1.at_, rfl, _, rfl, f, _, 1, _, rfl, rfl, .of N1.at_, rfl, l, _, i, _, rfl, rfl, .of hl1, atI_nat gi, ?_⟩
      refine ⟨_, rfl, f, _, 1, _, rfl, rfl, .of N1.at_, rfl, i, 1, rfl, rfl, f, _, 1, 1, rfl, rfl, N1.at_, rfl, ?_⟩
      have ei : ((i : Int) + 1) = ((i + 1 : Nat) : Int) := by omega
      have N2 : Now H (upd H1 f (six l ((i : Int) + 1) r t (n + 1) c)) f l ((i : Int) + 1) r t (n + 1) c := N1.put
      refine ⟨_, rfl, _, _, rfl, rfl, ⟨by decide, by decide, by decide⟩, _, _, rfl, rfl, _, rfl, ?_⟩
      refine ite2 (fun hbig => ?_) (fun hbig => ?_)
      · have hb : 0 ≤ xs[i] := by
          have := of_decide_eq_true hbig
          have e : (10 : Int) ^ (18 : Int).toNat = 1000000000000000000 := by decide
          rw [e] at this
          omega
        refine ⟨_, rfl, _, rfl, f, _, 2, 2, rfl, rfl, N2.at_, rfl, ⟨_, rfl⟩, ?_⟩
        exact ⟨i + 1, _, _, _, _, ei ▸ N2.put, hlt', hb⟩
      · refine ⟨_, rfl, f, _, 3, 3, rfl, rfl, N2.at_, rfl, ?_⟩
        have N3 : Now H (upd (upd H1 f (six l ((i : Int) + 1) r t (n + 1) c)) f (six l ((i : Int) + 1) r 7 (n + 1) c)) f l ((i : Int) + 1) r 7 (n + 1) c := N2.put
        refine ⟨_, rfl, f, _, 5, _, rfl, rfl, .of N3.at_, rfl, _, rfl, _, _, rfl, rfl, _, rfl, f, _, 5, 5, rfl, rfl, N3.at_, rfl, ⟨_, rfl⟩, ?_⟩
        exact ⟨i + 1, _, _, _, _, ei ▸ N3.put, hlt', hr0⟩
    -- a digit
    · rintro σ H2 ⟨⟨y, rfl⟩, i', r', t', n', c', N2, hi', hr'⟩
      refine ⟨_, rfl, f, _, 2, _, rfl, rfl, .of N2.at_, rfl, _, _, rfl, rfl, _, rfl, ?_⟩
      refine ite2 (fun _ => ?_) (fun _ => ?_)
      · refine ⟨_, rfl, f, _, 2, _, rfl, rfl, .of N2.at_, rfl, .inl ⟨_, rfl, _, rfl, _, _, rfl, rfl, hz, ?_⟩⟩
        refine ⟨_, rfl, f, _, 2, _, rfl, rfl, .of N2.at_, rfl, _, rfl, _, _, rfl, rfl, sz.div (by omega), _, rfl, f, _, 2, 2, rfl, rfl, N2.at_, rfl, ?_⟩
        exact ⟨_, rfl, fin _ N2.put hi' (fdiv_nn hr' hz) (Int.emod_nonneg _ (by omega)) (Int.emod_lt_of_pos _ hz)⟩
      · refine ⟨_, rfl, f, _, 3, _, rfl, rfl, .of N2.at_, rfl, _, _, rfl, rfl, _, _, rfl, _, rfl, f, _, 3, 3, rfl, rfl, N2.at_, rfl, ?_⟩
        have N3 : ∀ t'', Now H (upd H2 f (six l ((i' : Nat) : Int) r' t'' n' c')) f l ((i' : Nat) : Int) r' t'' n' c' := fun _ => N2.put
        show tSeq _ _ _ _ (upd H2 f (six l ((i' : Nat) : Int) r' _ n' c'))
        generalize hT : (if t' - 1 > 0 then t' - 1 else (0 : Int)) = t3
        have N3 := N3 t3
        generalize upd H2 f (six l ((i' : Nat) : Int) r' t3 n' c') = H3 at N3
        refine ⟨_, rfl, f, _, 5, _, rfl, rfl, .of N3.at_, rfl, _, rfl, f, _, 4, _, rfl, rfl, .of N3.at_, rfl, _, _, rfl, rfl, .inl ⟨by decide, by decide⟩, _, _, rfl, rfl, _, _, rfl, rfl, _, _, rfl, rfl, .inr ⟨by decide, by decide⟩, .inl ⟨_, rfl, _, _, rfl, rfl, lt_mod, ?_⟩⟩
        have b1 : ∀ x : Int, 0 ≤ x % 2147483647 ∧ x % 2147483647 < 2147483647 := fun x => ⟨Int.emod_nonneg _ (by decide), Int.emod_lt_of_pos _ (by decide)⟩
        generalize hA : ((c' + 7919 * n' + 1) * 48271) % 2147483647 = a1
        have a1b := b1 ((c' + 7919 * n' + 1) * 48271)
        rw [hA] at a1b
        refine ⟨_, rfl, _, rfl, _, _, rfl, rfl, ⟨by decide, by decide⟩, _, _, rfl, rfl, _, _, rfl, rfl, .inl ⟨by omega, by omega⟩, .inl ⟨_, rfl, _, _, rfl, rfl, lt_mod, ?_⟩⟩
        generalize hB : (a1 * (a1.fdiv 1009 + 69621)) % 2147483647 = a2
        have a2b := b1 (a1 * (a1.fdiv 1009 + 69621))
        rw [hB] at a2b
        refine ⟨_, rfl, _, rfl, _, _, rfl, rfl, ⟨by decide, by decide⟩, _, _, rfl, rfl, _, _, rfl, rfl, .inl ⟨by omega, by omega⟩, .inl ⟨_, rfl, _, _, rfl, rfl, lt_mod', ?_⟩⟩
        exact ⟨_, rfl, _, rfl, _, _, rfl, rfl, hz, fin _ N3 hi' hr' (Int.emod_nonneg _ (by omega)) (Int.emod_lt_of_pos _ hz)⟩
def sp_number : Sp := fun vs H Q _ => ∃ (f : Addr) (z : Int), vs = [.ref f, .int z] ∧ FeedAt H f ∧ 0 < z ∧ Sm z ∧ ∀ H' v, -z < v → v < z → Stp f H H' → Q (.int v) H'
theorem ok__law_number (T : Txt K mg A D) : FnOk P w K mg base CX0 2 A.f__law_number D.f__law_number ["_law_feed_here", "_law_size"] (sp_number) := by
  have G__law_take : FnOk P w K mg base CX0 1 A.f__law_take D.f__law_take ["_law_feed_here", "_law_size"] (sp_take) := ok__law_take T
  refine T.F__law_number.ok sc__law_number (fun vs H Q E h => ?_) (fun cdv A' outer s H vs Q E hr h => ?_)
  · obtain ⟨f, z, rfl, _⟩ := h
    rfl
  · obtain ⟨f, z, rfl, hf, hz, sz, q⟩ := h
    refine ⟨_, (pss_cons (ps_set (i := 2) sc__law_number.nd rfl (.inl rfl) (pe_op op_sub pe_int (pe_op op_mul pe_int (pe_call G__law_take (hr.mono (by decide)) rfl T.g__law_take T.F__law_take.kp T.b__law_take .nil pass0 (pa_cons (pv 0) (pa_cons pe_int pa_nil))))))
  (pss_one (ps_ret (pe_op op_mul (pv 2) (pe_call G__law_take (hr.mono (by decide)) rfl T.g__law_take T.F__law_take.kp T.b__law_take .nil pass0 (pa_cons (pv 0) (pa_cons (pv 1) pa_nil))))))), ?_⟩
    refine ⟨_, rfl, f, 2, rfl, hf, by decide, .ab (by decide) (by decide), fun H1 v v0 v1 st => ⟨_, _, rfl, rfl, .inl ⟨by decide, by decide⟩, _, _, rfl, rfl, ?_⟩⟩
    refine ⟨_, rfl, _, rfl, _, rfl, f, z, rfl, st.feed, hz, sz, fun H2 u u0 u1 st2 => ⟨_, _, rfl, rfl, .inl ⟨by omega, by omega⟩, q _ _ ?_ ?_ (st.trans st2)⟩⟩
    · rcases (by omega : v = 0 ∨ v = 1) with e | e <;> subst e <;> omega
    · rcases (by omega : v = 0 ∨ v = 1) with e | e <;> subst e <;> omega

/-- two numbers in a list -/
abbrev two (x y : Int) : HO := .lst [.int x, .int y]
def sp_pair : Sp := fun vs H Q _ => ∃ (f : Addr) (z : Int), vs = [.ref f, .int z] ∧ FeedAt H f ∧ 0 < z ∧ Sm z ∧ ∀ H' p x y, -z < x → x < z → 1 ≤ y → y ≤ z → Stp f H H' → H' p = some (two x y) → Q (.ref p) H'
theorem ok__law_pair (T : Txt K mg A D) : FnOk P w K mg base CX0 3 A.f__law_pair D.f__law_pair ["_law_feed_here", "_law_size"] (sp_pair) := by
  have G__law_number : FnOk P w K mg base CX0 2 A.f__law_number D.f__law_number ["_law_feed_here", "_law_size"] (sp_number) := ok__law_number T
  have G__law_take : FnOk P w K mg base CX0 1 A.f__law_take D.f__law_take ["_law_feed_here", "_law_size"] (sp_take) := ok__law_take T
  refine T.F__law_pair.ok sc__law_pair (fun vs H Q E h => ?_) (fun cdv A' outer s H vs Q E hr h => ?_)
  · obtain ⟨f, z, rfl, _⟩ := h
    rfl
  · obtain ⟨f, z, rfl, hf, hz, sz, q⟩ := h
    refine ⟨_, (pss_one (ps_ret (pe_lst (pa_cons (pe_call G__law_number (hr.mono (by decide)) rfl T.g__law_number T.F__law_number.kp T.b__law_number .nil pass0 (pa_cons (pv 0) (pa_cons (pv 1) pa_nil))) (pa_cons (pe_op op_add pe_int (pe_call G__law_take (hr.mono (by decide)) rfl T.g__law_take T.F__law_take.kp T.b__law_take .nil pass0 (pa_cons (pv 0) (pa_cons (pv 1) pa_nil)))) pa_nil))))), ?_⟩
    refine ⟨_, rfl, _, rfl, f, z, rfl, hf, hz, sz, fun H1 v v0 v1 st => ?_⟩
    refine ⟨_, rfl, _, rfl, f, z, rfl, st.feed, hz, sz, fun H2 u u0 u1 st2 => ⟨_, _, rfl, rfl, by show 2 ≤ sizeLine; decide, fun p np => ?_⟩⟩
    exact q _ p v (1 + u) v0 v1 (by omega) (by omega) ((st.trans st2).of (same_upd np)) upd_same

end

section
/-! ### the def that runs a deed and tells the word of its error -/
theorem word_gives {X : Cx} {R g : Addr} {cdg : Value} {q : Str} (gN : X.mg "NoRatio" = some (.ref R)) (em : PySem.W.exmOne X.K (.ref R) (.ref R) = some true) (xf : XfC X.K R) (nw : PySem.W.findIn X.K (.ref R) "word" = some none) :
    LamX.GivesTo X N__law_word "_law_word" (defScope s__law_word) g cdg (defBody s__law_word) "_law_deed" q (TTw R) := by
  intro f c' s H Q tl act hc h
  refine ⟨_, pss_cons (ps_set (i := 1) sc__law_word.nd rfl (.inl rfl) pe_str) (pss_cons (ps_try_as (i := 2) (c := .ref R) (Wout := fun _ _ _ _ => False)
    (tb := fun W D σ H => ∃ Ech : XK, (∀ cls d σ' H', Ech cls d H' → σ'.length = N__law_word.length → W cls d σ' H') ∧ σ[0]? = some (some (.ref f)) ∧ H c' = some (LamX.CodeO c' q) ∧ tl Ech H (fun _ H' => D.nx σ H'))
    rfl rfl sc__law_word.nd rfl rfl ⟨rfl, by decide, .inl gN⟩ takes0 (fun W pn xe tk _ => ?_) (fun oa oe cls d pn hz hf => pss_one (ps_set (i := 1) sc__law_word.nd rfl (.inl rfl) (pe_xf xf nw hz hf (pv 2))))) (pss_one (ps_ret (pv 1)))), ?_⟩
  · refine ⟨fun pins s' σ H' D I h' => ?_⟩
    obtain ⟨Ech, hW, h1, h2, h3⟩ := h'
    exact (pss_one (ps_expr (act _ pn xe Ech _ _ (takes_len tk) (fun cls d σ' H' e => hW cls d σ' H' e)))).run pins s' σ H' D I ⟨h1, h2, h3⟩
  · refine ⟨fun cls d G => cls = .ref R ∧ ∃ y s, d = some y ∧ G y = some (.xd [("word", .str s)]) ∧ Q (.str s) G, ?_, rfl, hc, h⟩
    rintro cls d σ' G ⟨rfl, y, z, rfl, hy, hQ⟩ hl
    refine ⟨true, em, fun _ a ha => ?_, fun z => Bool.noConfusion z⟩
    obtain ⟨x0, x1, x2, rfl⟩ : ∃ x0 x1 x2, σ' = [x0, x1, x2] := by
      match σ', hl with
      | [x0, x1, x2], _ => exact ⟨x0, x1, x2, rfl⟩
    exact ⟨_, rfl, rfl, rfl, y, _, _, rfl, hy, rfl, _, rfl, hQ⟩
end

end Mo

namespace Mo
open PySem PySem.Spec PyProof.Rows L2 MoL MoW
open C8 (pss_cut tCut)
section
variable {P : Program} {w : World} {K : PySem.W.Frag} {mg : Str → Option Value} {base : Heap} {A : Ad} {D : Fd}
theorem ok__law_is_integer (T : Txt K mg A D) : FnOk P w K mg base CX0 1 A.f__law_is_integer D.f__law_is_integer ["_law_value"] (sp_is_whole K) := by
  skip
  refine T.F__law_is_integer.ok sc__law_is_integer (fun vs H Q E h => ?_) (fun cdv A' outer s H vs Q E hr h => ?_)
  · obtain ⟨x, b, rfl, _⟩ := h
    rfl
  · obtain ⟨x, b, rfl, ⟨t, b1, b2, ty, e1, e2, rfl⟩, q⟩ := h
    refine ⟨_, (pss_one (ps_ret (pe_and (pe_callB call_isi rfl T.z_isinstance (by decide +kernel) (pa_cons (pv 0) (pa_cons (pe_bltn (v := .ty "int") rfl T.z_int (by decide +kernel) rfl) pa_nil))) (pe_one (pe_not (pe_callB call_isi rfl T.z_isinstance (by decide +kernel) (pa_cons (pv 0) (pa_cons (pe_bltn (v := .ty "bool") rfl T.z_bool (by decide +kernel) rfl) pa_nil)))))))), ?_⟩
    refine ⟨x, rfl, x, .ty "int", t, _, b1, rfl, .ty _, ty, e1, b1, rfl, ?_⟩
    cases b1 with
    | false => exact iteF q
    | true => exact iteT ⟨x, rfl, x, .ty "bool", t, _, b2, rfl, .ty _, ty, e2 rfl, b2, rfl, q⟩
theorem tabs_nil {H : Hp} (h : ∀ p ∈ csL A, H p.2 = some (.tbl #[])) : LamX.Tabs (tabL A) H := fun p hp => by
  simp only [tabL, List.mem_cons, List.not_mem_nil, or_false] at hp
  rcases hp with e | e | e <;> subst e
  · exact LamX.TabS.nil (h _ mem__law_powers)
  · exact LamX.TabS.nil (h _ mem__law_zero)
  · exact LamX.TabS.nil (h _ mem_law)
/-! ### what the law asks of values -/
def sp_is (C : Addr) : Sp := fun vs H Q _ => ∃ v t b p q', vs = [v, .int p, .int q'] ∧ RatAt C H v t b ∧ 0 < b ∧ t * q' = p * b ∧ Sm t ∧ Sm b ∧ Sm p ∧ Sm q' ∧ Q (.bl true) H
theorem ok__law_is (T : Txt K mg A D) : FnOk P w K mg base CX0 2 A.f__law_is D.f__law_is ["_law_value", "_law_top", "_law_bottom"] (sp_is A.Ratio) := by
  have G__law_is_integer : FnOk P w K mg base CX0 1 A.f__law_is_integer D.f__law_is_integer ["_law_value"] (sp_is_whole K) := ok__law_is_integer T
  refine T.F__law_is.ok sc__law_is (fun vs H Q E h => ?_) (fun cdv A' outer s H vs Q E hr h => ?_)
  · obtain ⟨v, t, b, p, q', rfl, _⟩ := h
    rfl
  · obtain ⟨v, t, b, p, q', rfl, ⟨a, dx, rfl, ha⟩, hb, hc, st, sb, sp, sq, q⟩ := h
    refine ⟨_, (pss_cons (ps_if (PW.pt (pw_or (pt_not (pt_val (pe_callB call_isi rfl T.z_isinstance (by decide +kernel) (pa_cons (pv 0) (pa_cons (pe_glob (v := .ref A.Ratio) rfl T.g_Ratio rfl) pa_nil))))) (pw_or (pt_not (pt_val (pe_call G__law_is_integer (hr.mono (by decide)) rfl T.g__law_is_integer T.F__law_is_integer.kp T.b__law_is_integer .nil pass0 (pa_cons (pe_fld (pv 0) rfl) pa_nil)))) (pw_or1 (pt_not (pt_val (pe_call G__law_is_integer (hr.mono (by decide)) rfl T.g__law_is_integer T.F__law_is_integer.kp T.b__law_is_integer .nil pass0 (pa_cons (pe_fld (pv 0) rfl) pa_nil)))))))) (pss_one (ps_ret pe_bl)) pss_nil)
  (pss_one (ps_ret (pe_and (pe_cmpR op_ge (pe_fld (pv 0) rfl) pe_int (nomark _)) (pe_one (pe_cmpR op_eq (pe_op op_mulW (pe_fld (pv 0) rfl) (pv 2)) (pe_op op_mulW (pv 1) (pe_fld (pv 0) rfl)) (nomark _))))))), ?_⟩
    have cl := T.k_Ratio.cl
    have nt := T.k_Ratio.n_top
    have nb := T.k_Ratio.n_bottom
    refine ⟨_, rfl, .ref a, .ref A.Ratio, _, _, true, rfl, .own _, T.k_Ratio.ty ha, kit_self, true, rfl, iteF ?_⟩
    refine ⟨_, rfl, a, A.Ratio, dx, _, _, rfl, ha, cl, nt, rfl, _, _, rfl, whole_int t, true, rfl, iteF ?_⟩
    refine ⟨_, rfl, a, A.Ratio, dx, _, _, rfl, ha, cl, nb, rfl, _, _, rfl, whole_int b, true, rfl, iteF ?_⟩
    refine ⟨_, rfl, a, A.Ratio, dx, _, _, rfl, ha, cl, nb, rfl, _, _, rfl, rfl, true, ?_, iteT ?_⟩
    · show V.bl (decide (1 ≤ b)) = .bl true
      rw [decide_eq_true (by omega)]
    refine ⟨_, rfl, a, A.Ratio, dx, _, _, rfl, ha, cl, nt, rfl, _, rfl, _, _, rfl, rfl, st.mul sq, ?_⟩
    refine ⟨_, rfl, _, rfl, a, A.Ratio, dx, _, _, rfl, ha, cl, nb, rfl, _, _, rfl, rfl, sp.mul sb, rfl, ?_⟩
    have e : decide (V.int (t * q') = V.int (p * b)) = true := decide_eq_true (by rw [hc])
    exact e ▸ q
theorem Wee.sm {i : Int} (h : Wee i) : Sm i := h.lil.sm
def sp_lfloor : Sp := fun vs H Q _ => ∃ (z a0 a1 b0 b1 : Int) (pa pb : Addr), vs = [.int z, .ref pa, .ref pb] ∧ H pa = some (two a0 a1) ∧ H pb = some (two b0 b1) ∧ Wee a0 ∧ Wee a1 ∧ Wee b0 ∧ Wee b1 ∧ a1 * b0 ≠ 0 ∧ z = (a0 * b1).fdiv (a1 * b0) ∧ Q (.bl true) H
theorem floor_mid {t b z : Int} (hb : 0 < b) (hz : z = t.fdiv b) : z * b ≤ t ∧ t < (z + 1) * b := by
  subst hz
  rw [Int.fdiv_eq_ediv_of_nonneg t (by omega)]
  have h1 := Int.mul_ediv_add_emod t b
  have h2 := Int.emod_nonneg t (by omega : b ≠ 0)
  have h3 := Int.emod_lt_of_pos t hb
  rw [Int.add_mul, Int.one_mul, Int.mul_comm (t / b) b]
  omega
theorem ok__law_floor (T : Txt K mg A D) : FnOk P w K mg base CX0 2 A.f__law_floor D.f__law_floor ["_law_q", "_law_a", "_law_b"] (sp_lfloor) := by
  have G__law_is_integer : FnOk P w K mg base CX0 1 A.f__law_is_integer D.f__law_is_integer ["_law_value"] (sp_is_whole K) := ok__law_is_integer T
  refine T.F__law_floor.ok sc__law_floor (fun vs H Q E h => ?_) (fun cdv A' outer s H vs Q E hr h => ?_)
  · obtain ⟨z, a0, a1, b0, b1, pa, pb, rfl, _⟩ := h
    rfl
  · obtain ⟨z, a0, a1, b0, b1, pa, pb, rfl, ha, hb, w0, w1, w2, w3, nz, hz, q⟩ := h
    refine ⟨_, (pss_cons (ps_if (pt_not (pt_val (pe_call G__law_is_integer (hr.mono (by decide)) rfl T.g__law_is_integer T.F__law_is_integer.kp T.b__law_is_integer .nil pass0 (pa_cons (pv 0) pa_nil)))) (pss_one (ps_ret pe_bl)) pss_nil)
  (pss_cons (ps_set (i := 3) sc__law_floor.nd rfl (.inl rfl) (pe_op op_mulW (pe_ix ix_list (pv 1) pe_int (fun _ _ => rfl)) (pe_ix ix_list (pv 2) pe_int (fun _ _ => rfl))))
  (pss_cons (ps_set (i := 4) sc__law_floor.nd rfl (.inl rfl) (pe_op op_mulW (pe_ix ix_list (pv 1) pe_int (fun _ _ => rfl)) (pe_ix ix_list (pv 2) pe_int (fun _ _ => rfl))))
  (pss_cut (ps_if (pt_cmpR op_lt (pv 4) pe_int (nomark _)) (pss_cons (ps_set (i := 3) sc__law_floor.nd rfl (.inl rfl) (pe_un un_neg (pv 3)))
  (pss_one (ps_set (i := 4) sc__law_floor.nd rfl (.inl rfl) (pe_un un_neg (pv 4))))) pss_nil)
  (pss_one (ps_ret (pe_chain op_le op_lt (pe_op op_mulW (pv 0) (pv 4)) (pv 3) (pe_op op_mulW (pe_op op_add (pv 0) pe_int) (pv 4))))))))), ?_⟩
    refine ⟨_, rfl, _, _, rfl, whole_int z, true, rfl, iteF ?_⟩
    refine ⟨_, rfl, pa, _, 0, _, rfl, rfl, .of ha, rfl, _, rfl, pb, _, 1, _, rfl, rfl, .of hb, rfl, _, _, rfl, rfl, w0.sm.mul w3.sm, ?_⟩
    refine ⟨_, rfl, pa, _, 1, _, rfl, rfl, .of ha, rfl, _, rfl, pb, _, 0, _, rfl, rfl, .of hb, rfl, _, _, rfl, rfl, w1.sm.mul w2.sm, ?_⟩
    have bt : (a0 * b1).natAbs < 2 ^ 200 := pow_mul w0 w3
    have bb : (a1 * b0).natAbs < 2 ^ 200 := pow_mul w1 w2
    refine ⟨fun σ' H' => H' = H ∧ ∃ t b : Int, 0 < b ∧ z = t.fdiv b ∧ t.natAbs < 2 ^ 200 ∧ b.natAbs < 2 ^ 200 ∧ σ' = [some (.int z), some (.ref pa), some (.ref pb), some (.int t), some (.int b)], ?_, ?_⟩
    · refine ⟨_, rfl, _, _, rfl, rfl, _, rfl, ?_⟩
      refine ite2 (fun c => ?_) (fun c => ?_)
      · have hn : a1 * b0 < 0 := of_decide_eq_true c
        refine ⟨_, rfl, _, rfl, _, rfl, _, rfl, rfl, -(a0 * b1), -(a1 * b0), by omega, ?_, by omega, by omega, rfl⟩
        rw [Int.neg_fdiv_neg]
        exact hz
      · have hp : ¬ a1 * b0 < 0 := fun y => c (decide_eq_true y)
        exact ⟨rfl, a0 * b1, a1 * b0, by omega, hz, bt, bb, rfl⟩
    · rintro σ H' ⟨rfl, t, b, hb0, hz', st, sb, rfl⟩
      obtain ⟨m1, m2⟩ := floor_mid hb0 hz'
      have zl : z.natAbs < 2 ^ 201 := by
        rw [hz']
        have := fdiv_le t b
        omega
      have sz : Sm z := Sm.of zl (by decide)
      have sz1 : Sm (z + 1) := Sm.of (k := 202) (by omega) (by decide)
      have sB : Sm b := Sm.of sb (by decide)
      refine ⟨_, rfl, _, rfl, _, _, rfl, rfl, sz.mul sB, ?_⟩
      refine ⟨_, rfl, _, _, rfl, rfl, true, congrArg V.bl (decide_eq_true m1), iteT ⟨_, rfl, _, _, rfl, rfl, _, rfl, _, _, rfl, rfl, sz1.mul sB, _, _, rfl, rfl, ?_⟩⟩
      show Q (.bl (decide (t < (z + 1) * b))) H'
      rw [decide_eq_true m2]
      exact q
def sp_lrest (C : Addr) : Sp := fun vs H Q _ => ∃ (v : V) (z r rb a0 a1 b0 b1 : Int) (pa pb : Addr), vs = [v, .int z, .ref pa, .ref pb] ∧ RatAt C H v r rb ∧ 0 < rb ∧ H pa = some (two a0 a1) ∧ H pb = some (two b0 b1) ∧ Wee a0 ∧ Wee a1 ∧ Wee b0 ∧ Wee b1 ∧ z.natAbs < 2 ^ 201 ∧
  r * (a1 * b1) = (a0 * b1 - b0 * z * a1) * rb ∧ Sm r ∧ Sm rb ∧ Q (.bl true) H
theorem ok__law_rest (T : Txt K mg A D) : FnOk P w K mg base CX0 3 A.f__law_rest D.f__law_rest ["_law_rest_here", "_law_q", "_law_a", "_law_b"] (sp_lrest A.Ratio) := by
  have G__law_is : FnOk P w K mg base CX0 2 A.f__law_is D.f__law_is ["_law_value", "_law_top", "_law_bottom"] (sp_is A.Ratio) := ok__law_is T
  refine T.F__law_rest.ok sc__law_rest (fun vs H Q E h => ?_) (fun cdv A' outer s H vs Q E hr h => ?_)
  · obtain ⟨v, z, r, rb, a0, a1, b0, b1, pa, pb, rfl, _⟩ := h
    rfl
  · obtain ⟨v, z, r, rb, a0, a1, b0, b1, pa, pb, rfl, hv, hp, ha, hb, w0, w1, w2, w3, wz, hc, sr, srb, q⟩ := h
    refine ⟨_, (pss_one (ps_ret (pe_call G__law_is (hr.mono (by decide)) rfl T.g__law_is T.F__law_is.kp T.b__law_is .nil pass0 (pa_cons (pv 0) (pa_cons (pe_op op_sub (pe_op op_mulW (pe_ix ix_list (pv 2) pe_int (fun _ _ => rfl)) (pe_ix ix_list (pv 3) pe_int (fun _ _ => rfl))) (pe_op op_mulW (pe_op op_mulW (pe_ix ix_list (pv 3) pe_int (fun _ _ => rfl)) (pv 1)) (pe_ix ix_list (pv 2) pe_int (fun _ _ => rfl)))) (pa_cons (pe_op op_mulW (pe_ix ix_list (pv 2) pe_int (fun _ _ => rfl)) (pe_ix ix_list (pv 3) pe_int (fun _ _ => rfl))) pa_nil)))))), ?_⟩
    have sz : Sm z := Sm.of wz (by decide)
    have m1 : (b0 * z).natAbs < 2 ^ 301 := pow_mul w2 wz
    have m2 : (b0 * z * a1).natAbs < 2 ^ 401 := pow_mul m1 w1
    have m3 : (a0 * b1).natAbs < 2 ^ 401 := Nat.lt_of_lt_of_le (pow_mul w0 w3) (Nat.pow_le_pow_right (by decide) (by decide))
    have m4 : (a0 * b1 - b0 * z * a1).natAbs < 2 ^ 402 := by
      have h3 := Int.natAbs_sub_le (a0 * b1) (b0 * z * a1)
      have h5 : (2 : Nat) ^ 402 = 2 ^ 401 + 2 ^ 401 := by
        rw [show (402 : Nat) = 401 + 1 from rfl, Nat.pow_succ]
        omega
      omega
    refine ⟨_, rfl, _, rfl, pa, _, 0, _, rfl, rfl, .of ha, rfl, _, rfl, pb, _, 1, _, rfl, rfl, .of hb, rfl, _, _, rfl, rfl, w0.sm.mul w3.sm, ?_⟩
    refine ⟨_, rfl, pb, _, 0, _, rfl, rfl, .of hb, rfl, _, rfl, _, _, rfl, rfl, w2.sm.mul sz, _, rfl, pa, _, 1, _, rfl, rfl, .of ha, rfl, _, _, rfl, rfl, (Sm.of m1 (by decide)).mul w1.sm, _, _, rfl, rfl, ?_⟩
    refine ⟨_, rfl, pa, _, 1, _, rfl, rfl, .of ha, rfl, _, rfl, pb, _, 1, _, rfl, rfl, .of hb, rfl, _, _, rfl, rfl, w1.sm.mul w3.sm, ?_⟩
    exact ⟨v, r, rb, _, _, rfl, hv, hp, hc, sr, srb, Sm.of m4 (by decide), Sm.of (pow_mul w1 w3) (by decide), q⟩
def sp_lpower (C : Addr) : Sp := fun vs H Q _ => ∃ (v : V) (r rb a0 a1 k : Int) (pa : Addr), vs = [v, .ref pa, .int k] ∧ RatAt C H v r rb ∧ 0 < rb ∧ H pa = some (two a0 a1) ∧ Wee a0 ∧ Wee a1 ∧ k.natAbs ≤ 20 ∧ Sm r ∧ Sm rb ∧
  (k < 0 → r * a0 ^ k.natAbs = a1 ^ k.natAbs * rb) ∧ (0 ≤ k → r * a1 ^ k.natAbs = a0 ^ k.natAbs * rb) ∧ Q (.bl true) H
theorem ok__law_power (T : Txt K mg A D) : FnOk P w K mg base CX0 3 A.f__law_power D.f__law_power ["_law_value", "_law_a", "_law_k"] (sp_lpower A.Ratio) := by
  have G__law_is : FnOk P w K mg base CX0 2 A.f__law_is D.f__law_is ["_law_value", "_law_top", "_law_bottom"] (sp_is A.Ratio) := ok__law_is T
  refine T.F__law_power.ok sc__law_power (fun vs H Q E h => ?_) (fun cdv A' outer s H vs Q E hr h => ?_)
  · obtain ⟨v, r, rb, a0, a1, k, pa, rfl, _⟩ := h
    rfl
  · obtain ⟨v, r, rb, a0, a1, k, pa, rfl, hv, hp, ha, w0, w1, hk, sr, srb, c1, c2, q⟩ := h
    refine ⟨_, (pss_cons (ps_set (i := 3) sc__law_power.nd rfl (.inl rfl) pe_int)
  (pss_cons (ps_set (i := 4) sc__law_power.nd rfl (.inl rfl) pe_int)
  (pss_cons (ps_for PassesOwn.never rfl (pi_range1 rfl T.z_range (pa_cons (pe_callB call_abs rfl T.z_abs (by decide +kernel) (pa_cons (pv 2) pa_nil)) pa_nil)) (pg_name (i := 5) sc__law_power.nd rfl (.inl rfl)) (pss_cons (ps_set (i := 3) sc__law_power.nd rfl (.inl rfl) (pe_op op_mulW (pv 3) (pe_ix ix_list (pv 1) pe_int (fun _ _ => rfl))))
  (pss_one (ps_set (i := 4) sc__law_power.nd rfl (.inl rfl) (pe_op op_mulW (pv 4) (pe_ix ix_list (pv 1) pe_int (fun _ _ => rfl)))))))
  (pss_cons (ps_if (pt_cmpR op_lt (pv 2) pe_int (nomark _)) (pss_one (ps_ret (pe_call G__law_is (hr.mono (by decide)) rfl T.g__law_is T.F__law_is.kp T.b__law_is .nil pass0 (pa_cons (pv 0) (pa_cons (pv 4) (pa_cons (pv 3) pa_nil)))))) pss_nil)
  (pss_one (ps_ret (pe_call G__law_is (hr.mono (by decide)) rfl T.g__law_is T.F__law_is.kp T.b__law_is .nil pass0 (pa_cons (pv 0) (pa_cons (pv 3) (pa_cons (pv 4) pa_nil)))))))))), ?_⟩
    have en : (if k < 0 then -k else k).toNat = k.natAbs := by
      rw [abs_nat]
      rfl
    refine ⟨_, rfl, _, rfl, _, rfl, (by rw [abs_nat k]; omega), (by rw [abs_nat k]; omega), ?_⟩
    refine for_range (lo := 0) (fun i σ H' => H' = H ∧ ∃ y : Option V, σ = [some v, some (.ref pa), some (.int k), some (.int (a0 ^ i)), some (.int (a1 ^ i)), y]) ⟨rfl, _, by rw [Int.pow_zero, Int.pow_zero]; rfl⟩ ?_ ?_
    · rintro i σ H' hi ⟨rfl, y, rfl⟩
      rw [en] at hi
      refine ⟨_, rfl, _, rfl, pa, _, 0, _, rfl, rfl, .of ha, rfl, _, _, rfl, rfl, (pow_sm w0 (by omega)).mul w0.sm, ?_⟩
      refine ⟨_, rfl, _, rfl, pa, _, 1, _, rfl, rfl, .of ha, rfl, _, _, rfl, rfl, (pow_sm w1 (by omega)).mul w1.sm, ?_⟩
      exact ⟨rfl, _, by rw [Int.pow_succ a0 i, Int.pow_succ a1 i]; rfl⟩
    · rintro σ H' ⟨rfl, y, rfl⟩
      rw [en]
      refine ⟨_, rfl, _, _, rfl, rfl, _, rfl, ?_⟩
      refine ite2 (fun c => ?_) (fun c => ?_)
      · exact ⟨_, rfl, _, rfl, _, rfl, v, r, rb, _, _, rfl, hv, hp, c1 (of_decide_eq_true c), sr, srb, pow_sm w1 hk, pow_sm w0 hk, q⟩
      · have kp : 0 ≤ k := by
          have : ¬ k < 0 := fun z => c (decide_eq_true z)
          omega
        exact ⟨_, rfl, _, rfl, _, rfl, v, r, rb, _, _, rfl, hv, hp, c2 kp, sr, srb, pow_sm w0 hk, pow_sm w1 hk, q⟩
/-- the powers of a number and of its lowest terms -/
theorem pow_cross {a0 a1 t b r rb : Int} {n : Nat} (n0 : Norm a0 a1 t b) (n1 : Norm (t ^ n) (b ^ n) r rb) : r * a1 ^ n = a0 ^ n * rb := by
  obtain ⟨g, e1, e2, _⟩ := n0.ex
  have c := n1.cross
  rw [e1, e2, Int.mul_pow, Int.mul_pow]
  generalize g ^ n = z
  grind
theorem pow_cross' {a0 a1 t b r rb : Int} {n : Nat} (n0 : Norm a0 a1 t b) (n1 : Norm (b ^ n) (t ^ n) r rb) : r * a0 ^ n = a1 ^ n * rb := by
  obtain ⟨g, e1, e2, _⟩ := n0.ex
  have c := n1.cross
  rw [e1, e2, Int.mul_pow, Int.mul_pow]
  generalize g ^ n = z
  grind
theorem norm_pow_sm {t b r rb : Int} {n : Nat} (w0 : Wee t) (w1 : Wee b) (hn : n ≤ 20) (n1 : Norm (t ^ n) (b ^ n) r rb) : Sm r ∧ Sm rb := ⟨(pow_sm w0 hn).le n1.le1, (pow_sm w1 hn).le n1.le2⟩
def sp_lpowers (A : Ad) : Sp := fun vs H Q _ => ∃ (x : V) (t b a0 a1 k : Int) (pa : Addr), vs = [x, .ref pa, .int k] ∧ RatAt A.Ratio H x t b ∧ H pa = some (two a0 a1) ∧ Norm a0 a1 t b ∧ Wee a0 ∧ Wee a1 ∧ Wee t ∧ Wee b ∧ LamX.Tabs (tabL A) H ∧
  ∀ H', LamX.ExtN H H' → LamX.Tabs (tabL A) H' → Q (.bl true) H'
theorem norm_zero {a0 a1 t b : Int} (n : Norm a0 a1 t b) : a0 = 0 ↔ t = 0 := by
  obtain ⟨g, e1, e2, e3⟩ := n.ex
  rw [e1]
  constructor
  · intro z
    exact (Int.mul_eq_zero.mp z).resolve_left e3
  · intro z
    rw [z, Int.mul_zero]
theorem ok__law_powers (T : Txt K mg A D) (B : ∀ p ∈ csL A, LamX.TabB base mg p.1 p.2) : FnOk P w K mg base CX0 10 A.f__law_powers D.f__law_powers ["_law_one", "_law_a", "_law_k"] (sp_lpowers A) := by
  have G_Ratio_power : FnOk P w K mg base (L2.CX P w) 5 A.f_Ratio_power D.f_Ratio_power ["self", "k"] (sp_power K A.Ratio A.NoRatio) := ok_Ratio_power T
  have G__law_power : FnOk P w K mg base CX0 3 A.f__law_power D.f__law_power ["_law_value", "_law_a", "_law_k"] (sp_lpower A.Ratio) := ok__law_power T
  obtain ⟨oc__law_word, od__law_word, kV__law_word, doc__law_word, pm__law_word, an__law_word, cdv__law_word, ct__law_word, osl__law_word, e__law_word, lk__law_word, hc__law_word⟩ := T.F__law_word.ex
  have hb__law_word := T.b__law_word
  rw [e__law_word] at lk__law_word hb__law_word
  refine T.F__law_powers.ok sc__law_powers (fun vs H Q E h => ?_) (fun A' outer s H vs Q E hr h => ?_)
  · obtain ⟨x, t, b, a0, a1, k, pa, rfl, _⟩ := h
    rfl
  · obtain ⟨x, t, b, a0, a1, k, pa, rfl, hx, ha, nm, w0, w1, wt, wb, tb, q⟩ := h
    refine ⟨_, (pss_cons (ps_if (PW.pt (pw_or (pt_cmpR op_lt (pv 2) (pe_un un_neg pe_int) (nomark _)) (pw_or1 (pt_cmpR op_gt (pv 2) pe_int (nomark _))))) (pss_one (ps_ret (pe_cmpR op_eq (LamX.pe_lamcall (k := 7) (T := tabL A) (TT := TTw A.NoRatio) rfl T.g__law_word T.F__law_word.kp lk__law_word hc__law_word hb__law_word sc__law_word rfl (.inl rfl) (word_gives T.g_NoRatio T.em_NoRatio T.x_NoRatio T.n_NoRatio_word) (B _ mem__law_powers) rfl tab__law_powers (hu__law_powers T) (hr.mono (by decide)) (LamX.lamS_by (sc := defScope s__law_powers) (by decide +kernel)) rfl (fun _ _ _ _ _ => rfl) (fun A1 o1 s1 H1 E1 f1 c1 hr => (pe_meth (pv 0) T.k_Ratio.cl T.m_Ratio_power G_Ratio_power (hr.mono (by decide)) T.b_Ratio_power .nil passLam (pa_cons (pv 2) pa_nil)))) pe_str (nomark _)))) pss_nil)
  (pss_cons (ps_if (PW.pt (pw_and (pt_cmpR op_lt (pv 2) pe_int (nomark _)) (pw_and1 (pt_cmpR op_eq (pe_ix ix_list (pv 1) pe_int (fun _ _ => rfl)) pe_int (nomark _))))) (pss_one (ps_ret (pe_cmpR op_eq (LamX.pe_lamcall (k := 7) (T := tabL A) (TT := TTw A.NoRatio) rfl T.g__law_word T.F__law_word.kp lk__law_word hc__law_word hb__law_word sc__law_word rfl (.inl rfl) (word_gives T.g_NoRatio T.em_NoRatio T.x_NoRatio T.n_NoRatio_word) (B _ mem__law_powers) rfl tab__law_powers (hu__law_powers T) (hr.mono (by decide)) (LamX.lamS_by (sc := defScope s__law_powers) (by decide +kernel)) rfl (fun _ _ _ _ _ => rfl) (fun A1 o1 s1 H1 E1 f1 c1 hr => (pe_meth (pv 0) T.k_Ratio.cl T.m_Ratio_power G_Ratio_power (hr.mono (by decide)) T.b_Ratio_power .nil passLam (pa_cons (pv 2) pa_nil)))) pe_str (nomark _)))) pss_nil)
  (pss_one (ps_ret (pe_call G__law_power (hr.mono (by decide)) rfl T.g__law_power T.F__law_power.kp T.b__law_power .nil pass0 (pa_cons (pe_meth (pv 0) T.k_Ratio.cl T.m_Ratio_power G_Ratio_power (hr.mono (by decide)) T.b_Ratio_power .nil passL (pa_cons (pv 2) pa_nil)) (pa_cons (pv 1) (pa_cons (pv 2) pa_nil)))))))), ?_⟩
    have hb : b ≠ 0 := fun z => by have := nm.pos; omega
    obtain ⟨a, dx, rfl, ha0⟩ := hx
    have nz := norm_zero nm
    have out : ∀ s : Str, ∀ G, LamX.ExtN H G → LamX.Tabs (tabL A) G → Q (.bl (decide (V.str s = V.str s))) G := fun s G e1 t1 => by
      rw [decide_eq_true (rfl : V.str s = V.str s)]
      exact q G e1 t1
    refine ⟨_, rfl, _, rfl, _, _, rfl, rfl, _, rfl, ?_⟩
    refine ite2 (fun c1 => iteT ?_) (fun c1 => ?_)
    · have hk : k < -20 := of_decide_eq_true c1
      refine ⟨tb, fun H1 e1 t1 => ?_⟩
      have ha1 := e1 _ _ ha0 (fun _ z => by cases z)
      exact ⟨_, rfl, a, dx, _, rfl, ha1, rfl, _, rfl, .ref a, .int k, t, b, rfl, ⟨a, dx, rfl, ha1⟩, wt, wb, hb, .inr ⟨k, rfl, fun _ => fun G y s1 ny => ⟨rfl, y, "power", rfl, upd_same, rfl, out "power" _ (after e1 t1 s1 ny).1 (after e1 t1 s1 ny).2⟩, fun l1 l2 => absurd hk (by omega)⟩⟩
    have l1 : -20 ≤ k := by
      have : ¬ k < -20 := fun z => c1 (decide_eq_true z)
      omega
    refine ⟨_, rfl, _, _, rfl, rfl, _, rfl, ?_⟩
    refine ite2 (fun c2 => ?_) (fun c2 => ?_)
    · have hk : 20 < k := of_decide_eq_true c2
      refine ⟨tb, fun H1 e1 t1 => ?_⟩
      have ha1 := e1 _ _ ha0 (fun _ z => by cases z)
      exact ⟨_, rfl, a, dx, _, rfl, ha1, rfl, _, rfl, .ref a, .int k, t, b, rfl, ⟨a, dx, rfl, ha1⟩, wt, wb, hb, .inr ⟨k, rfl, fun _ => fun G y s1 ny => ⟨rfl, y, "power", rfl, upd_same, rfl, out "power" _ (after e1 t1 s1 ny).1 (after e1 t1 s1 ny).2⟩, fun l1 l2 => absurd hk (by omega)⟩⟩
    have l2 : k ≤ 20 := by
      have : ¬ 20 < k := fun z => c2 (decide_eq_true z)
      omega
    refine ⟨_, rfl, _, _, rfl, rfl, _, rfl, ?_⟩
    by_cases kn : k < 0
    · refine iteTe (decide_eq_true kn) ⟨_, rfl, pa, _, 0, _, rfl, rfl, .of ha, rfl, rfl, _, rfl, ?_⟩
      by_cases z : a0 = 0
      · refine iteTe (decide_eq_true (by rw [z])) ?_
        refine ⟨tb, fun H1 e1 t1 => ?_⟩
        have ha1 := e1 _ _ ha0 (fun _ z => by cases z)
        exact ⟨_, rfl, a, dx, _, rfl, ha1, rfl, _, rfl, .ref a, .int k, t, b, rfl, ⟨a, dx, rfl, ha1⟩, wt, wb, hb, .inr ⟨k, rfl, fun hk => absurd hk (by omega), fun _ _ => ⟨fun _ => fun G y s1 ny => ⟨rfl, y, "zero", rfl, upd_same, rfl, out "zero" _ (after e1 t1 s1 ny).1 (after e1 t1 s1 ny).2⟩, fun kp => absurd kp (by omega), fun _ tn => absurd (nz.mp z) tn⟩⟩⟩
      · refine iteFe (decide_eq_false fun y => z (V.int.inj y)) ?_
        exact ⟨_, rfl, a, dx, _, rfl, ha0, rfl, _, rfl, .ref a, .int k, t, b, rfl, ⟨a, dx, rfl, ha0⟩, wt, wb, hb, .inr ⟨k, rfl, fun hk => absurd hk (by omega), fun _ _ => ⟨fun c => absurd (nz.mpr c.2) z,
          fun kp H' v r rb s1 r1 n1 => ⟨_, rfl, _, rfl, v, r, rb, a0, a1, k, pa, rfl, r1, n1.pos, s1 _ _ ha, w0, w1, by omega, (norm_pow_sm wt wb (by omega) n1).1, (norm_pow_sm wt wb (by omega) n1).2, fun kn => absurd kn (by omega), fun _ => pow_cross nm n1, q _ (.of s1) (tb.ext s1)⟩,
          fun kn _ H' v r rb s1 r1 n1 => ⟨_, rfl, _, rfl, v, r, rb, a0, a1, k, pa, rfl, r1, n1.pos, s1 _ _ ha, w0, w1, by omega, (norm_pow_sm wb wt (by omega) n1).1, (norm_pow_sm wb wt (by omega) n1).2, fun _ => pow_cross' nm n1, fun kp => absurd kp (by omega), q _ (.of s1) (tb.ext s1)⟩⟩⟩⟩
    · refine iteFe (decide_eq_false kn) (iteF ?_)
      exact ⟨_, rfl, a, dx, _, rfl, ha0, rfl, _, rfl, .ref a, .int k, t, b, rfl, ⟨a, dx, rfl, ha0⟩, wt, wb, hb, .inr ⟨k, rfl, fun hk => absurd hk (by omega), fun _ _ => ⟨fun c => absurd c.1 kn,
          fun kp H' v r rb s1 r1 n1 => ⟨_, rfl, _, rfl, v, r, rb, a0, a1, k, pa, rfl, r1, n1.pos, s1 _ _ ha, w0, w1, by omega, (norm_pow_sm wt wb (by omega) n1).1, (norm_pow_sm wt wb (by omega) n1).2, fun kn => absurd kn (by omega), fun _ => pow_cross nm n1, q _ (.of s1) (tb.ext s1)⟩,
          fun kn _ H' v r rb s1 r1 n1 => ⟨_, rfl, _, rfl, v, r, rb, a0, a1, k, pa, rfl, r1, n1.pos, s1 _ _ ha, w0, w1, by omega, (norm_pow_sm wb wt (by omega) n1).1, (norm_pow_sm wb wt (by omega) n1).2, fun _ => pow_cross' nm n1, fun kp => absurd kp (by omega), q _ (.of s1) (tb.ext s1)⟩⟩⟩⟩
theorem tabs_put {T : List (Addr × Str)} {G G' : Hp} {p : Addr} {ys : List V} (hp : G p = some (.lst ys)) (k : ∀ b o, b ≠ p → G b = some o → G' b = some o) (t : LamX.Tabs T G) : LamX.Tabs T G' := fun m hm => by
  obtain ⟨ps, h1, h2, h3⟩ := t m hm
  have ne : ∀ {b : Addr} {o : HO}, G b = some o → (∀ xs, o ≠ .lst xs) → b ≠ p := fun {b o} e d z => by
    rw [z, hp] at e
    exact d ys (Option.some.inj e).symm
  refine ⟨ps, k _ _ (ne h1 fun _ z => by cases z) h1, h2, fun pos cv hc => ?_⟩
  obtain ⟨c, e1, e2⟩ := h3 pos cv hc
  refine ⟨c, e1, k _ _ (ne e2 fun _ z => ?_) e2⟩
  unfold LamX.CodeO at z
  cases z
theorem ext_put {H G : Hp} {p : Addr} {o : HO} (hn : ∀ b u, H b = some u → (∀ ps, u ≠ .tbl ps) → b ≠ p) (e : LamX.ExtN H G) : LamX.ExtN H (upd G p o) := fun b u h d => by
  rw [upd_ne (hn b u h d)]
  exact e b u h d
theorem list_put {T : List (Addr × Str)} {H G : Hp} {p : Addr} {ys zs : List V} (hn : ∀ b u, H b = some u → (∀ ps, u ≠ .tbl ps) → b ≠ p) (hp : G p = some (.lst ys)) (e : LamX.ExtN H G) (t : LamX.Tabs T G) : LamX.ExtN H (upd G p (.lst zs)) ∧ LamX.Tabs T (upd G p (.lst zs)) :=
  ⟨ext_put hn e, tabs_put hp (fun b o hb h => by rw [upd_ne hb]; exact h) t⟩
def sp_lzero (A : Ad) : Sp := fun vs H Q _ => ∃ (x y : V) (t b b2 : Int), vs = [x, y] ∧ RatAt A.Ratio H x t b ∧ RatAt A.Ratio H y 0 b2 ∧ Wee t ∧ Wee b ∧ Wee b2 ∧ b ≠ 0 ∧ b2 ≠ 0 ∧ LamX.Tabs (tabL A) H ∧ ∀ H', LamX.ExtN H H' → LamX.Tabs (tabL A) H' → Q (.bl true) H'
theorem ok__law_zero (T : Txt K mg A D) (B : ∀ p ∈ csL A, LamX.TabB base mg p.1 p.2) : FnOk P w K mg base CX0 10 A.f__law_zero D.f__law_zero ["_law_one", "_law_other"] (sp_lzero A) := by
  have G_Ratio___floordiv__ : FnOk P w K mg base (L2.CX P w) 6 A.f_Ratio___floordiv__ D.f_Ratio___floordiv__ ["self", "other"] (sp_qbin A.Ratio A.NoRatio) := ok_Ratio___floordiv__ T
  have G_Ratio___mod__ : FnOk P w K mg base (L2.CX P w) 7 A.f_Ratio___mod__ D.f_Ratio___mod__ ["self", "other"] (sp_mbin A.Ratio A.NoRatio) := ok_Ratio___mod__ T
  have G_Ratio___rfloordiv__ : FnOk P w K mg base (L2.CX P w) 6 A.f_Ratio___rfloordiv__ D.f_Ratio___rfloordiv__ ["self", "other"] (sp_qrbin A.Ratio A.NoRatio) := ok_Ratio___rfloordiv__ T
  have G_Ratio___rmod__ : FnOk P w K mg base (L2.CX P w) 7 A.f_Ratio___rmod__ D.f_Ratio___rmod__ ["self", "other"] (sp_mrbin A.Ratio A.NoRatio) := ok_Ratio___rmod__ T
  have G_Ratio_over : FnOk P w K mg base (L2.CX P w) 6 A.f_Ratio_over D.f_Ratio_over ["self", "other"] (sp_over A.Ratio A.NoRatio) := ok_Ratio_over T
  obtain ⟨oc__law_word, od__law_word, kV__law_word, doc__law_word, pm__law_word, an__law_word, cdv__law_word, ct__law_word, osl__law_word, e__law_word, lk__law_word, hc__law_word⟩ := T.F__law_word.ex
  have hb__law_word := T.b__law_word
  rw [e__law_word] at lk__law_word hb__law_word
  refine T.F__law_zero.ok sc__law_zero (fun vs H Q E h => ?_) (fun A' outer s H vs Q E hr h => ?_)
  · obtain ⟨x, y, t, b, b2, rfl, _⟩ := h
    rfl
  · obtain ⟨x, y, t, b, b2, rfl, hx, hy, wt, wb, w2, nb, nb2, tb, q⟩ := h
    refine ⟨_, (pss_cons (ps_set (i := 2) sc__law_zero.nd rfl (.inl rfl) (pe_lst (pa_cons (LamX.pe_lamcall (k := 7) (T := tabL A) (TT := TTw A.NoRatio) rfl T.g__law_word T.F__law_word.kp lk__law_word hc__law_word hb__law_word sc__law_word rfl (.inl rfl) (word_gives T.g_NoRatio T.em_NoRatio T.x_NoRatio T.n_NoRatio_word) (B _ mem__law_zero) rfl tab__law_zero (hu__law_zero T) (hr.mono (by decide)) (LamX.lamS_by (sc := defScope s__law_zero) (by decide +kernel)) rfl (fun _ _ _ _ _ => rfl) (fun A1 o1 s1 H1 E1 f1 c1 hr => (pe_op (op_floordiv_own T.k_Ratio.ow T.m_Ratio___floordiv__ T.m_Ratio___rfloordiv__ G_Ratio___floordiv__ (hr.mono (by decide)) T.b_Ratio___floordiv__ passLam) (pv 0) (pv 1)))) pa_nil)))
  (pss_cons (ps_expr (pe_bm PySem.F.plainAttrs_list PySem.F.slot_list_append PySem.F.type_list_append mt_append (pv 2) (pa_cons (LamX.pe_lamcall (k := 7) (T := tabL A) (TT := TTw A.NoRatio) rfl T.g__law_word T.F__law_word.kp lk__law_word hc__law_word hb__law_word sc__law_word rfl (.inl rfl) (word_gives T.g_NoRatio T.em_NoRatio T.x_NoRatio T.n_NoRatio_word) (B _ mem__law_zero) rfl tab__law_zero (hu__law_zero T) (hr.mono (by decide)) (LamX.lamS_by (sc := defScope s__law_zero) (by decide +kernel)) rfl (fun _ _ _ _ _ => rfl) (fun A1 o1 s1 H1 E1 f1 c1 hr => (pe_op (op_mod_own T.k_Ratio.ow T.m_Ratio___mod__ T.m_Ratio___rmod__ G_Ratio___mod__ (hr.mono (by decide)) T.b_Ratio___mod__ passLam) (pv 0) (pv 1)))) pa_nil)))
  (pss_cons (ps_expr (pe_bm PySem.F.plainAttrs_list PySem.F.slot_list_append PySem.F.type_list_append mt_append (pv 2) (pa_cons (LamX.pe_lamcall (k := 7) (T := tabL A) (TT := TTw A.NoRatio) rfl T.g__law_word T.F__law_word.kp lk__law_word hc__law_word hb__law_word sc__law_word rfl (.inl rfl) (word_gives T.g_NoRatio T.em_NoRatio T.x_NoRatio T.n_NoRatio_word) (B _ mem__law_zero) rfl tab__law_zero (hu__law_zero T) (hr.mono (by decide)) (LamX.lamS_by (sc := defScope s__law_zero) (by decide +kernel)) rfl (fun _ _ _ _ _ => rfl) (fun A1 o1 s1 H1 E1 f1 c1 hr => (pe_meth (pv 0) T.k_Ratio.cl T.m_Ratio_over G_Ratio_over (hr.mono (by decide)) T.b_Ratio_over .nil passLam (pa_cons (pv 1) pa_nil)))) pa_nil)))
  (pss_cons (ps_expr (pe_bm PySem.F.plainAttrs_list PySem.F.slot_list_append PySem.F.type_list_append mt_append (pv 2) (pa_cons (LamX.pe_lamcall (k := 7) (T := tabL A) (TT := TTw A.NoRatio) rfl T.g__law_word T.F__law_word.kp lk__law_word hc__law_word hb__law_word sc__law_word rfl (.inl rfl) (word_gives T.g_NoRatio T.em_NoRatio T.x_NoRatio T.n_NoRatio_word) (B _ mem__law_zero) rfl tab__law_zero (hu__law_zero T) (hr.mono (by decide)) (LamX.lamS_by (sc := defScope s__law_zero) (by decide +kernel)) rfl (fun _ _ _ _ _ => rfl) (fun A1 o1 s1 H1 E1 f1 c1 hr => (pe_op (op_floordiv_own T.k_Ratio.ow T.m_Ratio___floordiv__ T.m_Ratio___rfloordiv__ G_Ratio___floordiv__ (hr.mono (by decide)) T.b_Ratio___floordiv__ passLam) (pv 0) pe_int))) pa_nil)))
  (pss_cons (ps_expr (pe_bm PySem.F.plainAttrs_list PySem.F.slot_list_append PySem.F.type_list_append mt_append (pv 2) (pa_cons (LamX.pe_lamcall (k := 7) (T := tabL A) (TT := TTw A.NoRatio) rfl T.g__law_word T.F__law_word.kp lk__law_word hc__law_word hb__law_word sc__law_word rfl (.inl rfl) (word_gives T.g_NoRatio T.em_NoRatio T.x_NoRatio T.n_NoRatio_word) (B _ mem__law_zero) rfl tab__law_zero (hu__law_zero T) (hr.mono (by decide)) (LamX.lamS_by (sc := defScope s__law_zero) (by decide +kernel)) rfl (fun _ _ _ _ _ => rfl) (fun A1 o1 s1 H1 E1 f1 c1 hr => (pe_op (op_mod_own T.k_Ratio.ow T.m_Ratio___mod__ T.m_Ratio___rmod__ G_Ratio___mod__ (hr.mono (by decide)) T.b_Ratio___mod__ passLam) (pv 0) pe_int))) pa_nil)))
  (pss_cons (ps_expr (pe_bm PySem.F.plainAttrs_list PySem.F.slot_list_append PySem.F.type_list_append mt_append (pv 2) (pa_cons (LamX.pe_lamcall (k := 7) (T := tabL A) (TT := TTw A.NoRatio) rfl T.g__law_word T.F__law_word.kp lk__law_word hc__law_word hb__law_word sc__law_word rfl (.inl rfl) (word_gives T.g_NoRatio T.em_NoRatio T.x_NoRatio T.n_NoRatio_word) (B _ mem__law_zero) rfl tab__law_zero (hu__law_zero T) (hr.mono (by decide)) (LamX.lamS_by (sc := defScope s__law_zero) (by decide +kernel)) rfl (fun _ _ _ _ _ => rfl) (fun A1 o1 s1 H1 E1 f1 c1 hr => (pe_meth (pv 0) T.k_Ratio.cl T.m_Ratio_over G_Ratio_over (hr.mono (by decide)) T.b_Ratio_over .nil passLam (pa_cons pe_int pa_nil)))) pa_nil)))
  (pss_cons (ps_expr (pe_bm PySem.F.plainAttrs_list PySem.F.slot_list_append PySem.F.type_list_append mt_append (pv 2) (pa_cons (LamX.pe_lamcall (k := 7) (T := tabL A) (TT := TTw A.NoRatio) rfl T.g__law_word T.F__law_word.kp lk__law_word hc__law_word hb__law_word sc__law_word rfl (.inl rfl) (word_gives T.g_NoRatio T.em_NoRatio T.x_NoRatio T.n_NoRatio_word) (B _ mem__law_zero) rfl tab__law_zero (hu__law_zero T) (hr.mono (by decide)) (LamX.lamS_by (sc := defScope s__law_zero) (by decide +kernel)) rfl (fun _ _ _ _ _ => rfl) (fun A1 o1 s1 H1 E1 f1 c1 hr => (pe_op (op_floordiv_int T.k_Ratio.ow T.m_Ratio___rfloordiv__ T.m_Ratio___floordiv__ G_Ratio___rfloordiv__ (hr.mono (by decide)) T.b_Ratio___rfloordiv__ passLam) pe_int (pv 1)))) pa_nil)))
  (pss_cons (ps_expr (pe_bm PySem.F.plainAttrs_list PySem.F.slot_list_append PySem.F.type_list_append mt_append (pv 2) (pa_cons (LamX.pe_lamcall (k := 7) (T := tabL A) (TT := TTw A.NoRatio) rfl T.g__law_word T.F__law_word.kp lk__law_word hc__law_word hb__law_word sc__law_word rfl (.inl rfl) (word_gives T.g_NoRatio T.em_NoRatio T.x_NoRatio T.n_NoRatio_word) (B _ mem__law_zero) rfl tab__law_zero (hu__law_zero T) (hr.mono (by decide)) (LamX.lamS_by (sc := defScope s__law_zero) (by decide +kernel)) rfl (fun _ _ _ _ _ => rfl) (fun A1 o1 s1 H1 E1 f1 c1 hr => (pe_op (op_mod_int T.k_Ratio.ow T.m_Ratio___rmod__ T.m_Ratio___mod__ G_Ratio___rmod__ (hr.mono (by decide)) T.b_Ratio___rmod__ passLam) pe_int (pv 1)))) pa_nil)))
  (pss_one (ps_ret (pe_cmpR (op_eqD hr.units) (pv 2) (pe_op op_rep (pe_lst (pa_cons pe_str pa_nil)) pe_int) (nomark _)))))))))))), ?_⟩
    have w0 : Wee 0 := by show (0 : Int).natAbs < 2 ^ 100; decide
    have w1 : Wee 1 := by show (1 : Int).natAbs < 2 ^ 100; decide
    have w7 : Wee 7 := by show (7 : Int).natAbs < 2 ^ 100; decide
    have one0 : (1 : Int) ≠ 0 := by decide
    refine ⟨tb, fun H1 e1 t1 => ?_⟩
    have E1 := e1
    have hx1 := hx.ext E1
    have hy1 := hy.ext E1
    refine ⟨_, rfl, _, rfl, hx1.ins, .inr hy1.ins, x, y, t, b, 0, b2, rfl, hx1, .inr hy1, wt.lil, wb.lil, w0.lil, w2.lil, nb, fun z => absurd rfl z, fun _ => fun G1 y1 s1 ny1 => ⟨rfl, y1, "zero", rfl, upd_same, ?_⟩⟩
    have f1 := after (o := .xd [("word", .str "zero")]) E1 t1 s1 ny1
    refine ⟨by show 1 ≤ sizeLine; decide, fun p np => ?_⟩
    have hn : ∀ b u, H b = some u → (∀ ps, u ≠ .tbl ps) → b ≠ p := fun b u h d z => by
      have w := f1.1 b u h d
      rw [z, np] at w
      cases w
    have c1 : LamX.ExtN H (upd (upd G1 y1 (.xd [("word", .str "zero")])) p (.lst [.str "zero"])) ∧ LamX.Tabs (tabL A) (upd (upd G1 y1 (.xd [("word", .str "zero")])) p (.lst [.str "zero"])) := ⟨ext_put hn f1.1, f1.2.ext (same_upd np)⟩
    refine ⟨_, rfl, .inl ⟨rfl, _, .of upd_same⟩, c1.2, fun H2 e2 t2 => ?_⟩
    have E2 := c1.1.trans e2
    have P2 := e2 _ _ upd_same (fun _ z => by cases z)
    have hx2 := hx.ext E2
    have hy2 := hy.ext E2
    refine ⟨_, rfl, _, rfl, hx2.ins, .inr hy2.ins, x, y, t, b, 0, b2, rfl, hx2, .inr hy2, wt, wb, w0, w2, nb, nb2, fun z => absurd rfl z, fun _ => fun G2 y2 s2 ny2 => ⟨rfl, y2, "zero", rfl, upd_same, ?_⟩⟩
    have f2 := after (o := .xd [("word", .str "zero")]) E2 t2 s2 ny2
    have Q2 := s2.trans (same_upd (o := .xd [("word", .str "zero")]) ny2) _ _ P2
    refine ⟨p, [.str "zero"], _, rfl, rfl, Q2, small1000 (by show 1 ≤ 1000; decide), ?_⟩
    have c2 := list_put (zs := [.str "zero", .str "zero"]) hn Q2 f2.1 f2.2
    refine ⟨_, rfl, .inl ⟨rfl, _, .of upd_same⟩, c2.2, fun H3 e3 t3 => ?_⟩
    have E3 := c2.1.trans e3
    have P3 := e3 _ _ upd_same (fun _ z => by cases z)
    have hx3 := hx.ext E3
    have hy3 := hy.ext E3
    obtain ⟨a3, dx3, ex3, ha3⟩ := hx3
    subst ex3
    refine ⟨_, rfl, a3, dx3, _, rfl, ha3, rfl, _, rfl, .ref a3, y, t, b, 0, b2, rfl, ⟨a3, dx3, rfl, ha3⟩, .inr hy3, wt, wb, w0, w2, nb, fun z => absurd rfl z, fun _ => fun G3 y3 s3 ny3 => ⟨rfl, y3, "zero", rfl, upd_same, ?_⟩⟩
    have f3 := after (o := .xd [("word", .str "zero")]) E3 t3 s3 ny3
    have Q3 := s3.trans (same_upd (o := .xd [("word", .str "zero")]) ny3) _ _ P3
    refine ⟨p, [.str "zero", .str "zero"], _, rfl, rfl, Q3, small1000 (by show 2 ≤ 1000; decide), ?_⟩
    have c3 := list_put (zs := [.str "zero", .str "zero", .str "zero"]) hn Q3 f3.1 f3.2
    refine ⟨_, rfl, .inl ⟨rfl, _, .of upd_same⟩, c3.2, fun H4 e4 t4 => ?_⟩
    have E4 := c3.1.trans e4
    have P4 := e4 _ _ upd_same (fun _ z => by cases z)
    have hx4 := hx.ext E4
    have hy4 := hy.ext E4
    refine ⟨_, rfl, hx4.ins, .inl ⟨0, rfl⟩, V.ref a3, .int 0, t, b, 0, 1, rfl, hx4, .inl ⟨rfl, rfl⟩, wt.lil, wb.lil, w0.lil, w1.lil, nb, fun z => absurd rfl z, fun _ => fun G4 y4 s4 ny4 => ⟨rfl, y4, "zero", rfl, upd_same, ?_⟩⟩
    have f4 := after (o := .xd [("word", .str "zero")]) E4 t4 s4 ny4
    have Q4 := s4.trans (same_upd (o := .xd [("word", .str "zero")]) ny4) _ _ P4
    refine ⟨p, [.str "zero", .str "zero", .str "zero"], _, rfl, rfl, Q4, small1000 (by show 3 ≤ 1000; decide), ?_⟩
    have c4 := list_put (zs := [.str "zero", .str "zero", .str "zero", .str "zero"]) hn Q4 f4.1 f4.2
    refine ⟨_, rfl, .inl ⟨rfl, _, .of upd_same⟩, c4.2, fun H5 e5 t5 => ?_⟩
    have E5 := c4.1.trans e5
    have P5 := e5 _ _ upd_same (fun _ z => by cases z)
    have hx5 := hx.ext E5
    have hy5 := hy.ext E5
    refine ⟨_, rfl, hx5.ins, .inl ⟨0, rfl⟩, V.ref a3, .int 0, t, b, 0, 1, rfl, hx5, .inl ⟨rfl, rfl⟩, wt, wb, w0, w1, nb, one0, fun z => absurd rfl z, fun _ => fun G5 y5 s5 ny5 => ⟨rfl, y5, "zero", rfl, upd_same, ?_⟩⟩
    have f5 := after (o := .xd [("word", .str "zero")]) E5 t5 s5 ny5
    have Q5 := s5.trans (same_upd (o := .xd [("word", .str "zero")]) ny5) _ _ P5
    refine ⟨p, [.str "zero", .str "zero", .str "zero", .str "zero"], _, rfl, rfl, Q5, small1000 (by show 4 ≤ 1000; decide), ?_⟩
    have c5 := list_put (zs := [.str "zero", .str "zero", .str "zero", .str "zero", .str "zero"]) hn Q5 f5.1 f5.2
    refine ⟨_, rfl, .inl ⟨rfl, _, .of upd_same⟩, c5.2, fun H6 e6 t6 => ?_⟩
    have E6 := c5.1.trans e6
    have P6 := e6 _ _ upd_same (fun _ z => by cases z)
    have hx6 := hx.ext E6
    have hy6 := hy.ext E6
    obtain ⟨a6, dx6, ex6, ha6⟩ := hx6
    cases ex6
    refine ⟨_, rfl, _, dx6, _, rfl, ha6, rfl, .ref _, .int 0, t, b, 0, 1, rfl, ⟨_, dx6, rfl, ha6⟩, .inl ⟨rfl, rfl⟩, wt, wb, w0, w1, nb, fun z => absurd rfl z, fun _ => fun G6 y6 s6 ny6 => ⟨rfl, y6, "zero", rfl, upd_same, ?_⟩⟩
    have f6 := after (o := .xd [("word", .str "zero")]) E6 t6 s6 ny6
    have Q6 := s6.trans (same_upd (o := .xd [("word", .str "zero")]) ny6) _ _ P6
    refine ⟨p, [.str "zero", .str "zero", .str "zero", .str "zero", .str "zero"], _, rfl, rfl, Q6, small1000 (by show 5 ≤ 1000; decide), ?_⟩
    have c6 := list_put (zs := [.str "zero", .str "zero", .str "zero", .str "zero", .str "zero", .str "zero"]) hn Q6 f6.1 f6.2
    refine ⟨_, rfl, .inl ⟨rfl, _, .of upd_same⟩, c6.2, fun H7 e7 t7 => ?_⟩
    have E7 := c6.1.trans e7
    have P7 := e7 _ _ upd_same (fun _ z => by cases z)
    have hx7 := hx.ext E7
    have hy7 := hy.ext E7
    refine ⟨_, rfl, ⟨7, rfl⟩, hy7.ins, y, .int 7, 0, b2, 7, 1, rfl, hy7, .inl ⟨rfl, rfl⟩, w0.lil, w2.lil, w7.lil, w1.lil, one0, fun z => absurd rfl z, fun _ => fun G7 y7 s7 ny7 => ⟨rfl, y7, "zero", rfl, upd_same, ?_⟩⟩
    have f7 := after (o := .xd [("word", .str "zero")]) E7 t7 s7 ny7
    have Q7 := s7.trans (same_upd (o := .xd [("word", .str "zero")]) ny7) _ _ P7
    refine ⟨p, [.str "zero", .str "zero", .str "zero", .str "zero", .str "zero", .str "zero"], _, rfl, rfl, Q7, small1000 (by show 6 ≤ 1000; decide), ?_⟩
    have c7 := list_put (zs := [.str "zero", .str "zero", .str "zero", .str "zero", .str "zero", .str "zero", .str "zero"]) hn Q7 f7.1 f7.2
    refine ⟨_, rfl, .inl ⟨rfl, _, .of upd_same⟩, c7.2, fun H8 e8 t8 => ?_⟩
    have E8 := c7.1.trans e8
    have P8 := e8 _ _ upd_same (fun _ z => by cases z)
    have hx8 := hx.ext E8
    have hy8 := hy.ext E8
    refine ⟨_, rfl, ⟨7, rfl⟩, hy8.ins, y, .int 7, 0, b2, 7, 1, rfl, hy8, .inl ⟨rfl, rfl⟩, w0, w2, w7, w1, nb2, one0, fun z => absurd rfl z, fun _ => fun G8 y8 s8 ny8 => ⟨rfl, y8, "zero", rfl, upd_same, ?_⟩⟩
    have f8 := after (o := .xd [("word", .str "zero")]) E8 t8 s8 ny8
    have Q8 := s8.trans (same_upd (o := .xd [("word", .str "zero")]) ny8) _ _ P8
    refine ⟨p, [.str "zero", .str "zero", .str "zero", .str "zero", .str "zero", .str "zero", .str "zero"], _, rfl, rfl, Q8, small1000 (by show 7 ≤ 1000; decide), ?_⟩
    have c8 := list_put (zs := [.str "zero", .str "zero", .str "zero", .str "zero", .str "zero", .str "zero", .str "zero", .str "zero"]) hn Q8 f8.1 f8.2
    refine ⟨_, rfl, by show 1 ≤ sizeLine; decide, fun p2 n2 => ⟨p2, 8, [.str "zero"], rfl, rfl, upd_same, by decide, by decide, by show 8 ≤ sizeLine; decide, fun p3 n3 => ?_⟩⟩
    have sh : SeqAt.shaped (.list [PyData.str "zero", PyData.str "zero", PyData.str "zero", PyData.str "zero", PyData.str "zero", PyData.str "zero", PyData.str "zero", PyData.str "zero"]) = true := by
      have so : PyData.canLay0 (.str "zero") = true := by decide +kernel
      simp [SeqAt.shaped, PyData.canLay0, PyData.canLayAll0, PyData.depth, PyData.depthAll] at so ⊢
      exact so
    have k2 := (same_upd (o := .lst [.str "zero"]) n2)
    have k3 := k2.trans (same_upd (o := .lst [V.str "zero", V.str "zero", V.str "zero", V.str "zero", V.str "zero", V.str "zero", V.str "zero", V.str "zero"]) n3)
    refine ⟨.list [PyData.str "zero", PyData.str "zero", PyData.str "zero", PyData.str "zero", PyData.str "zero", PyData.str "zero", PyData.str "zero", PyData.str "zero"], .list [PyData.str "zero", PyData.str "zero", PyData.str "zero", PyData.str "zero", PyData.str "zero", PyData.str "zero", PyData.str "zero", PyData.str "zero"], .lst (.of (k3 _ _ upd_same)) (.cons (.str _) (.cons (.str _) (.cons (.str _) (.cons (.str _) (.cons (.str _) (.cons (.str _) (.cons (.str _) (.cons (.str _) .nil)))))))), .lst (.of (show _ = some (.lst [V.str "zero", V.str "zero", V.str "zero", V.str "zero", V.str "zero", V.str "zero", V.str "zero", V.str "zero"]) from upd_same)) (.cons (.str _) (.cons (.str _) (.cons (.str _) (.cons (.str _) (.cons (.str _) (.cons (.str _) (.cons (.str _) (.cons (.str _) .nil)))))))), sh, sh, ?_⟩
    have ev : PyData.eqv (.list [PyData.str "zero", PyData.str "zero", PyData.str "zero", PyData.str "zero", PyData.str "zero", PyData.str "zero", PyData.str "zero", PyData.str "zero"]) (.list [PyData.str "zero", PyData.str "zero", PyData.str "zero", PyData.str "zero", PyData.str "zero", PyData.str "zero", PyData.str "zero", PyData.str "zero"]) = true := by simp [PyData.eqv, PyData.eqvAll]
    rw [ev]
    exact q _ (c8.1.trans (.of k3)) (c8.2.ext k3)
theorem feed_ext {H H' : Hp} {f : Addr} (h : FeedAt H f) (s : LamX.ExtN H H') : FeedAt H' f := by
  obtain ⟨l, xs, i, r, t, n, z, h1, h2, h3⟩ := h
  exact ⟨l, xs, i, r, t, n, z, s _ _ h1 (fun _ w => by cases w), s _ _ h2 (fun _ w => by cases w), h3⟩
theorem tabs_stp {T : List (Addr × Str)} {G G' : Hp} {f : Addr} (h : FeedAt G f) (s : Stp f G G') (t : LamX.Tabs T G) : LamX.Tabs T G' := by
  obtain ⟨l, xs, i, r, m, n, z, h1, _⟩ := h
  exact tabs_put h1 s.keep t
/-- what stands on the heap in a turn -/
structure Bun (A : Ad) (G : Hp) (f pa pb : Addr) (a0 a1 b0 b1 : Int) (vo vt : V) (t b t2 b2 : Int) : Prop where
  F : FeedAt G f
  tb : LamX.Tabs (tabL A) G
  ha : G pa = some (two a0 a1)
  hb : G pb = some (two b0 b1)
  ho : RatAt A.Ratio G vo t b
  ht : RatAt A.Ratio G vt t2 b2
section
variable {G G' : Hp} {f pa pb : Addr} {a0 a1 b0 b1 : Int} {vo vt : V} {t b t2 b2 : Int}
theorem Bun.same (h : Bun A G f pa pb a0 a1 b0 b1 vo vt t b t2 b2) (s : Same G G') : Bun A G' f pa pb a0 a1 b0 b1 vo vt t b t2 b2 := ⟨h.F.same s, h.tb.ext s, s _ _ h.ha, s _ _ h.hb, h.ho.same s, h.ht.same s⟩
theorem Bun.ext (h : Bun A G f pa pb a0 a1 b0 b1 vo vt t b t2 b2) (s : LamX.ExtN G G') (tb : LamX.Tabs (tabL A) G') : Bun A G' f pa pb a0 a1 b0 b1 vo vt t b t2 b2 :=
  ⟨feed_ext h.F s, tb, s _ _ h.ha (fun _ w => by cases w), s _ _ h.hb (fun _ w => by cases w), h.ho.ext s, h.ht.ext s⟩
theorem rat_stp {C : Addr} {v : V} (F : FeedAt G f) (s : Stp f G G') (r : RatAt C G v t b) : RatAt C G' v t b := by
  obtain ⟨a, dx, e, h⟩ := r
  exact ⟨a, dx, e, s.keep _ _ (F.ne h fun _ _ _ _ _ _ w => by cases w) h⟩
theorem Bun.stp (h : Bun A G f pa pb a0 a1 b0 b1 vo vt t b t2 b2) (s : Stp f G G') : Bun A G' f pa pb a0 a1 b0 b1 vo vt t b t2 b2 :=
  ⟨s.feed, tabs_stp h.F s h.tb, s.keep _ _ (h.F.ne h.ha fun _ _ _ _ _ _ w => by cases w) h.ha, s.keep _ _ (h.F.ne h.hb fun _ _ _ _ _ _ w => by cases w) h.hb, rat_stp h.F s h.ho, rat_stp h.F s h.ht⟩
end
theorem norm_g {a0 a1 t b : Int} (n : Norm a0 a1 t b) (h : 0 < a1) : ∃ g : Int, a0 = g * t ∧ a1 = g * b ∧ 0 < g := by
  obtain ⟨g, e1, e2, _⟩ := n.ex
  refine ⟨g, e1, e2, ?_⟩
  rw [e2] at h
  exact Int.pos_of_mul_pos_left h n.pos
/-- the quotient of two numbers and of their lowest terms -/
theorem fdiv_norm {a0 a1 b0 b1 t b t2 b2 : Int} (n1 : Norm a0 a1 t b) (n2 : Norm b0 b1 t2 b2) (h1 : 0 < a1) (h2 : 0 < b1) : (t * b2).fdiv (b * t2) = (a0 * b1).fdiv (a1 * b0) := by
  obtain ⟨g, e1, e2, gp⟩ := norm_g n1 h1
  obtain ⟨k, e3, e4, kp⟩ := norm_g n2 h2
  have q1 : a0 * b1 = (g * k) * (t * b2) := by rw [e1, e4]; grind
  have q2 : a1 * b0 = (g * k) * (b * t2) := by rw [e2, e3]; grind
  rw [q1, q2, Int.mul_fdiv_mul_of_pos _ _ (Int.mul_pos gp kp)]
theorem rest_norm {a0 a1 b0 b1 t b t2 b2 z r rb : Int} (n1 : Norm a0 a1 t b) (n2 : Norm b0 b1 t2 b2) (h1 : 0 < a1) (h2 : 0 < b1) (c : r * (b * b2) = (t * b2 - t2 * z * b) * rb) : r * (a1 * b1) = (a0 * b1 - b0 * z * a1) * rb := by
  obtain ⟨g, e1, e2, gp⟩ := norm_g n1 h1
  obtain ⟨k, e3, e4, kp⟩ := norm_g n2 h2
  have q : r * (a1 * b1) = (g * k) * (r * (b * b2)) := by rw [e2, e4]; grind
  rw [q, c, e1, e2, e3, e4]
  grind
theorem over_norm {a0 a1 b0 b1 t b t2 b2 r rb : Int} (n1 : Norm a0 a1 t b) (n2 : Norm b0 b1 t2 b2) (h1 : 0 < a1) (h2 : 0 < b1) (n : Norm (t * b2) (b * t2) r rb) : r * (a1 * b0) = (a0 * b1) * rb := by
  obtain ⟨g, e1, e2, gp⟩ := norm_g n1 h1
  obtain ⟨k, e3, e4, kp⟩ := norm_g n2 h2
  have c := n.cross
  have q : r * (a1 * b0) = (g * k) * (r * (b * t2)) := by rw [e2, e3]; grind
  rw [q, c, e1, e4]
  grind
theorem wee_of {x : Int} (h1 : -100000000000000000000 ≤ x) (h2 : x ≤ 100000000000000000000) : Wee x := by
  show x.natAbs < 2 ^ 100
  omega
theorem wee_le {x y : Int} (h : x.natAbs ≤ y.natAbs) (w : Wee y) : Wee x := Nat.lt_of_le_of_lt h w
theorem quo_small {t b2 d : Int} (w : Wee t) (w2 : Wee b2) : ((t * b2).fdiv d).natAbs < 2 ^ 201 := by
  have := fdiv_le (t * b2) d
  have := pow_mul w w2
  omega
def sp_law (K : PySem.W.Frag) (A : Ad) : Sp := fun vs H Q _ => ∃ (a : Addr) (ns : List Int), vs = [.ref a] ∧ SqL K H a (ns.map V.int) ∧ ns.length ≤ 63 ∧ LamX.Tabs (tabL A) H ∧ ∀ H', Q (.bl true) H'
theorem ok_law (T : Txt K mg A D) (B : ∀ p ∈ csL A, LamX.TabB base mg p.1 p.2) : FnOk P w K mg base CX0 11 A.f_law D.f_law ["_law_script"] (sp_law K A) := by
  have G_Ratio_init : FnOk P w K mg base (L2.CX P w) 3 A.f_Ratio___init__ D.f_Ratio___init__ ["self", "top", "bottom"] (sp_init K A.Ratio A.NoRatio) := ok_Ratio___init__ T
  have b_Ratio_init2 := T.b_Ratio___init__
  have d_Ratio_init2 : Vals [] [] := .nil
  have G_Ratio___floordiv__ : FnOk P w K mg base (L2.CX P w) 6 A.f_Ratio___floordiv__ D.f_Ratio___floordiv__ ["self", "other"] (sp_qbin A.Ratio A.NoRatio) := ok_Ratio___floordiv__ T
  have G_Ratio___mod__ : FnOk P w K mg base (L2.CX P w) 7 A.f_Ratio___mod__ D.f_Ratio___mod__ ["self", "other"] (sp_mbin A.Ratio A.NoRatio) := ok_Ratio___mod__ T
  have G_Ratio___pow__ : FnOk P w K mg base (L2.CX P w) 6 A.f_Ratio___pow__ D.f_Ratio___pow__ ["self", "other"] (sp_power K A.Ratio A.NoRatio) := ok_Ratio___pow__ T
  have G_Ratio___rfloordiv__ : FnOk P w K mg base (L2.CX P w) 6 A.f_Ratio___rfloordiv__ D.f_Ratio___rfloordiv__ ["self", "other"] (sp_qrbin A.Ratio A.NoRatio) := ok_Ratio___rfloordiv__ T
  have G_Ratio___rmod__ : FnOk P w K mg base (L2.CX P w) 7 A.f_Ratio___rmod__ D.f_Ratio___rmod__ ["self", "other"] (sp_mrbin A.Ratio A.NoRatio) := ok_Ratio___rmod__ T
  have G_Ratio_over : FnOk P w K mg base (L2.CX P w) 6 A.f_Ratio_over D.f_Ratio_over ["self", "other"] (sp_over A.Ratio A.NoRatio) := ok_Ratio_over T
  have G_Ratio_power : FnOk P w K mg base (L2.CX P w) 5 A.f_Ratio_power D.f_Ratio_power ["self", "k"] (sp_power K A.Ratio A.NoRatio) := ok_Ratio_power T
  have G__law_feed : FnOk P w K mg base CX0 1 A.f__law_feed D.f__law_feed ["_law_script"] (sp_feed K) := ok__law_feed T
  have G__law_floor : FnOk P w K mg base CX0 2 A.f__law_floor D.f__law_floor ["_law_q", "_law_a", "_law_b"] (sp_lfloor) := ok__law_floor T
  have G__law_is : FnOk P w K mg base CX0 2 A.f__law_is D.f__law_is ["_law_value", "_law_top", "_law_bottom"] (sp_is A.Ratio) := ok__law_is T
  have G__law_number : FnOk P w K mg base CX0 2 A.f__law_number D.f__law_number ["_law_feed_here", "_law_size"] (sp_number) := ok__law_number T
  have G__law_pair : FnOk P w K mg base CX0 3 A.f__law_pair D.f__law_pair ["_law_feed_here", "_law_size"] (sp_pair) := ok__law_pair T
  have G__law_power : FnOk P w K mg base CX0 3 A.f__law_power D.f__law_power ["_law_value", "_law_a", "_law_k"] (sp_lpower A.Ratio) := ok__law_power T
  have G__law_powers : FnOk P w K mg base CX0 10 A.f__law_powers D.f__law_powers ["_law_one", "_law_a", "_law_k"] (sp_lpowers A) := ok__law_powers T B
  have G__law_rest : FnOk P w K mg base CX0 3 A.f__law_rest D.f__law_rest ["_law_rest_here", "_law_q", "_law_a", "_law_b"] (sp_lrest A.Ratio) := ok__law_rest T
  have G__law_take : FnOk P w K mg base CX0 1 A.f__law_take D.f__law_take ["_law_feed_here", "_law_size"] (sp_take) := ok__law_take T
  obtain ⟨oc__law_word, od__law_word, kV__law_word, doc__law_word, pm__law_word, an__law_word, cdv__law_word, ct__law_word, osl__law_word, e__law_word, lk__law_word, hc__law_word⟩ := T.F__law_word.ex
  have hb__law_word := T.b__law_word
  rw [e__law_word] at lk__law_word hb__law_word
  have G__law_zero : FnOk P w K mg base CX0 10 A.f__law_zero D.f__law_zero ["_law_one", "_law_other"] (sp_lzero A) := ok__law_zero T B
  refine T.F_law.ok sc_law (fun vs H Q E h => ?_) (fun A' outer s H vs Q E hr h => ?_)
  · obtain ⟨a, ns, rfl, _⟩ := h
    rfl
  · obtain ⟨a, ns, rfl, hS, hl, tb, q⟩ := h
    refine ⟨_, (pss_cons (ps_set (i := 1) sc_law.nd rfl (.inl rfl) (pe_call G__law_feed (hr.mono (by decide)) rfl T.g__law_feed T.F__law_feed.kp T.b__law_feed .nil pass0 (pa_cons (pv 0) pa_nil)))
  (pss_cons (ps_for PassesOwn.never rfl (pi_range1 rfl T.z_range (pa_cons (pe_op op_add pe_int (pe_call G__law_take (hr.mono (by decide)) rfl T.g__law_take T.F__law_take.kp T.b__law_take .nil pass0 (pa_cons (pv 1) (pa_cons pe_int pa_nil)))) pa_nil)) (pg_name (i := 2) sc_law.nd rfl (.inl rfl)) (pss_cons (ps_set (i := 3) sc_law.nd rfl (.inl rfl) (pe_ix ix_list (pe_lst (pa_cons pe_int (pa_cons (pe_op op_pow pe_int pe_int) (pa_cons (pe_op op_pow pe_int pe_int) pa_nil)))) (pe_call G__law_take (hr.mono (by decide)) rfl T.g__law_take T.F__law_take.kp T.b__law_take .nil pass0 (pa_cons (pv 1) (pa_cons pe_int pa_nil))) (fun _ _ => rfl)))
  (pss_cons (ps_set (i := 4) sc_law.nd rfl (.inl rfl) (pe_call G__law_pair (hr.mono (by decide)) rfl T.g__law_pair T.F__law_pair.kp T.b__law_pair .nil pass0 (pa_cons (pv 1) (pa_cons (pv 3) pa_nil))))
  (pss_cons (ps_set (i := 5) sc_law.nd rfl (.inl rfl) (pe_call G__law_pair (hr.mono (by decide)) rfl T.g__law_pair T.F__law_pair.kp T.b__law_pair .nil pass0 (pa_cons (pv 1) (pa_cons (pv 3) pa_nil))))
  (pss_cut (ps_if (pt_cmpR op_eq (pe_call G__law_take (hr.mono (by decide)) rfl T.g__law_take T.F__law_take.kp T.b__law_take .nil pass0 (pa_cons (pv 1) (pa_cons pe_int pa_nil))) pe_int (nomark _)) (pss_one (ps_set (i := 5) sc_law.nd rfl (.inl rfl) (pe_lst (pa_cons pe_int (pa_cons pe_int pa_nil))))) pss_nil)
  (pss_cons (ps_set (i := 6) sc_law.nd rfl (.inl rfl) (pe_call G__law_number (hr.mono (by decide)) rfl T.g__law_number T.F__law_number.kp T.b__law_number .nil pass0 (pa_cons (pv 1) (pa_cons (pv 3) pa_nil))))
  (pss_cons (ps_set (i := 7) sc_law.nd rfl (.inr rfl) (pe_make T.M_Ratio G_Ratio_init (hr.mono (by decide)) rfl T.g_Ratio b_Ratio_init2 d_Ratio_init2 passL (pa_cons (pe_ix ix_list (pv 4) pe_int (fun _ _ => rfl)) (pa_cons (pe_ix ix_list (pv 4) pe_int (fun _ _ => rfl)) pa_nil))))
  (pss_cons (ps_set (i := 8) sc_law.nd rfl (.inr rfl) (pe_make T.M_Ratio G_Ratio_init (hr.mono (by decide)) rfl T.g_Ratio b_Ratio_init2 d_Ratio_init2 passL (pa_cons (pe_ix ix_list (pv 5) pe_int (fun _ _ => rfl)) (pa_cons (pe_ix ix_list (pv 5) pe_int (fun _ _ => rfl)) pa_nil))))
  (pss_cut (ps_if (pt_cmpR op_eq (pe_ix ix_list (pv 5) pe_int (fun _ _ => rfl)) pe_int (nomark _)) (pss_one (ps_if (pt_not (pt_val (pe_call G__law_zero (hr.mono (by decide)) rfl T.g__law_zero T.F__law_zero.kp T.b__law_zero .nil pass0 (pa_cons (pv 7) (pa_cons (pv 8) pa_nil))))) (pss_one (ps_ret pe_bl)) pss_nil)) (pss_cons (ps_set (i := 9) sc_law.nd rfl (.inl rfl) (pe_op (op_floordiv_own T.k_Ratio.ow T.m_Ratio___floordiv__ T.m_Ratio___rfloordiv__ G_Ratio___floordiv__ (hr.mono (by decide)) T.b_Ratio___floordiv__ passL) (pv 7) (pv 8)))
  (pss_cons (ps_if (PW.pt (pw_or (pt_not (pt_val (pe_call G__law_floor (hr.mono (by decide)) rfl T.g__law_floor T.F__law_floor.kp T.b__law_floor .nil pass0 (pa_cons (pv 9) (pa_cons (pv 4) (pa_cons (pv 5) pa_nil)))))) (pw_or1 (pt_not (pt_val (pe_call G__law_rest (hr.mono (by decide)) rfl T.g__law_rest T.F__law_rest.kp T.b__law_rest .nil pass0 (pa_cons (pe_op (op_mod_own T.k_Ratio.ow T.m_Ratio___mod__ T.m_Ratio___rmod__ G_Ratio___mod__ (hr.mono (by decide)) T.b_Ratio___mod__ passL) (pv 7) (pv 8)) (pa_cons (pv 9) (pa_cons (pv 4) (pa_cons (pv 5) pa_nil)))))))))) (pss_one (ps_ret pe_bl)) pss_nil)
  (pss_cons (ps_if (pt_not (pt_val (pe_call G__law_is (hr.mono (by decide)) rfl T.g__law_is T.F__law_is.kp T.b__law_is .nil pass0 (pa_cons (pe_meth (pv 7) T.k_Ratio.cl T.m_Ratio_over G_Ratio_over (hr.mono (by decide)) T.b_Ratio_over .nil passL (pa_cons (pv 8) pa_nil)) (pa_cons (pe_op op_mulW (pe_ix ix_list (pv 4) pe_int (fun _ _ => rfl)) (pe_ix ix_list (pv 5) pe_int (fun _ _ => rfl))) (pa_cons (pe_op op_mulW (pe_ix ix_list (pv 4) pe_int (fun _ _ => rfl)) (pe_ix ix_list (pv 5) pe_int (fun _ _ => rfl))) pa_nil)))))) (pss_one (ps_ret pe_bl)) pss_nil)
  (pss_cons (ps_set (i := 9) sc_law.nd rfl (.inl rfl) (pe_op (op_floordiv_int T.k_Ratio.ow T.m_Ratio___rfloordiv__ T.m_Ratio___floordiv__ G_Ratio___rfloordiv__ (hr.mono (by decide)) T.b_Ratio___rfloordiv__ passL) (pv 6) (pv 8)))
  (pss_one (ps_if (PW.pt (pw_or (pt_not (pt_val (pe_call G__law_floor (hr.mono (by decide)) rfl T.g__law_floor T.F__law_floor.kp T.b__law_floor .nil pass0 (pa_cons (pv 9) (pa_cons (pe_lst (pa_cons (pv 6) (pa_cons pe_int pa_nil))) (pa_cons (pv 5) pa_nil)))))) (pw_or1 (pt_not (pt_val (pe_call G__law_rest (hr.mono (by decide)) rfl T.g__law_rest T.F__law_rest.kp T.b__law_rest .nil pass0 (pa_cons (pe_op (op_mod_int T.k_Ratio.ow T.m_Ratio___rmod__ T.m_Ratio___mod__ G_Ratio___rmod__ (hr.mono (by decide)) T.b_Ratio___rmod__ passL) (pv 6) (pv 8)) (pa_cons (pv 9) (pa_cons (pe_lst (pa_cons (pv 6) (pa_cons pe_int pa_nil))) (pa_cons (pv 5) pa_nil)))))))))) (pss_one (ps_ret pe_bl)) pss_nil)))))))
  (pss_cut (ps_if (pt_cmpR op_ne (pv 6) pe_int (nomark _)) (pss_cons (ps_set (i := 9) sc_law.nd rfl (.inl rfl) (pe_op (op_floordiv_own T.k_Ratio.ow T.m_Ratio___floordiv__ T.m_Ratio___rfloordiv__ G_Ratio___floordiv__ (hr.mono (by decide)) T.b_Ratio___floordiv__ passL) (pv 7) (pv 6)))
  (pss_cons (ps_if (PW.pt (pw_or (pt_not (pt_val (pe_call G__law_floor (hr.mono (by decide)) rfl T.g__law_floor T.F__law_floor.kp T.b__law_floor .nil pass0 (pa_cons (pv 9) (pa_cons (pv 4) (pa_cons (pe_lst (pa_cons (pv 6) (pa_cons pe_int pa_nil))) pa_nil)))))) (pw_or1 (pt_not (pt_val (pe_call G__law_rest (hr.mono (by decide)) rfl T.g__law_rest T.F__law_rest.kp T.b__law_rest .nil pass0 (pa_cons (pe_op (op_mod_own T.k_Ratio.ow T.m_Ratio___mod__ T.m_Ratio___rmod__ G_Ratio___mod__ (hr.mono (by decide)) T.b_Ratio___mod__ passL) (pv 7) (pv 6)) (pa_cons (pv 9) (pa_cons (pv 4) (pa_cons (pe_lst (pa_cons (pv 6) (pa_cons pe_int pa_nil))) pa_nil)))))))))) (pss_one (ps_ret pe_bl)) pss_nil)
  (pss_one (ps_if (pt_not (pt_val (pe_call G__law_is (hr.mono (by decide)) rfl T.g__law_is T.F__law_is.kp T.b__law_is .nil pass0 (pa_cons (pe_meth (pv 7) T.k_Ratio.cl T.m_Ratio_over G_Ratio_over (hr.mono (by decide)) T.b_Ratio_over .nil passL (pa_cons (pv 6) pa_nil)) (pa_cons (pe_ix ix_list (pv 4) pe_int (fun _ _ => rfl)) (pa_cons (pe_op op_mulW (pe_ix ix_list (pv 4) pe_int (fun _ _ => rfl)) (pv 6)) pa_nil)))))) (pss_one (ps_ret pe_bl)) pss_nil)))) pss_nil)
  (pss_cons (ps_if (PW.pt (pw_or (pt_not (pt_val (pe_call G__law_powers (hr.mono (by decide)) rfl T.g__law_powers T.F__law_powers.kp T.b__law_powers .nil pass0 (pa_cons (pv 7) (pa_cons (pv 4) (pa_cons (pe_op op_sub (pe_call G__law_take (hr.mono (by decide)) rfl T.g__law_take T.F__law_take.kp T.b__law_take .nil pass0 (pa_cons (pv 1) (pa_cons pe_int pa_nil))) pe_int) pa_nil)))))) (pw_or1 (pt_not (pt_val (pe_call G__law_powers (hr.mono (by decide)) rfl T.g__law_powers T.F__law_powers.kp T.b__law_powers .nil pass0 (pa_cons (pv 8) (pa_cons (pv 5) (pa_cons (pe_op op_sub (pe_call G__law_take (hr.mono (by decide)) rfl T.g__law_take T.F__law_take.kp T.b__law_take .nil pass0 (pa_cons (pv 1) (pa_cons pe_int pa_nil))) pe_int) pa_nil))))))))) (pss_one (ps_ret pe_bl)) pss_nil)
  (pss_cons (ps_if (pt_cmpR op_ne (LamX.pe_lamcall (k := 7) (T := tabL A) (TT := TTw A.NoRatio) rfl T.g__law_word T.F__law_word.kp lk__law_word hc__law_word hb__law_word sc__law_word rfl (.inl rfl) (word_gives T.g_NoRatio T.em_NoRatio T.x_NoRatio T.n_NoRatio_word) (B _ mem_law) rfl tab_law (hu_law T) (hr.mono (by decide)) (LamX.lamS_by (sc := defScope s_law) (by decide +kernel)) rfl (fun _ _ _ _ _ => rfl) (fun A1 o1 s1 H1 E1 f1 c1 hr => (pe_meth (pv 7) T.k_Ratio.cl T.m_Ratio_power G_Ratio_power (hr.mono (by decide)) T.b_Ratio_power .nil passLam (pa_cons pe_bl pa_nil)))) pe_str (nomark _)) (pss_one (ps_ret pe_bl)) pss_nil)
  (pss_cons (ps_if (pt_cmpR op_ne (LamX.pe_lamcall (k := 7) (T := tabL A) (TT := TTw A.NoRatio) rfl T.g__law_word T.F__law_word.kp lk__law_word hc__law_word hb__law_word sc__law_word rfl (.inl rfl) (word_gives T.g_NoRatio T.em_NoRatio T.x_NoRatio T.n_NoRatio_word) (B _ mem_law) rfl tab_law (hu_law T) (hr.mono (by decide)) (LamX.lamS_by (sc := defScope s_law) (by decide +kernel)) rfl (fun _ _ _ _ _ => rfl) (fun A1 o1 s1 H1 E1 f1 c1 hr => (pe_meth (pv 8) T.k_Ratio.cl T.m_Ratio_power G_Ratio_power (hr.mono (by decide)) T.b_Ratio_power .nil passLam (pa_cons pe_str pa_nil)))) pe_str (nomark _)) (pss_one (ps_ret pe_bl)) pss_nil)
  (pss_one (ps_if (PW.pt (pw_or (pt_not (pt_val (pe_call G__law_power (hr.mono (by decide)) rfl T.g__law_power T.F__law_power.kp T.b__law_power .nil pass0 (pa_cons (pe_op (op_pow_own T.k_Ratio.ow T.m_Ratio___pow__ T.no_rpow G_Ratio___pow__ (hr.mono (by decide)) T.b_Ratio___pow__ passL) (pv 7) pe_int) (pa_cons (pv 4) (pa_cons pe_int pa_nil)))))) (pw_or1 (pt_not (pt_val (pe_call G__law_power (hr.mono (by decide)) rfl T.g__law_power T.F__law_power.kp T.b__law_power .nil pass0 (pa_cons (pe_op (op_pow_own T.k_Ratio.ow T.m_Ratio___pow__ T.no_rpow G_Ratio___pow__ (hr.mono (by decide)) T.b_Ratio___pow__ passL) (pv 8) pe_int) (pa_cons (pv 5) (pa_cons pe_int pa_nil))))))))) (pss_one (ps_ret pe_bl)) pss_nil)))))))))))))))
  (pss_one (ps_ret pe_bl)))), ?_⟩
    refine ⟨_, rfl, a, ns, rfl, hS, hl, fun H1 f s1 F1 _ => ?_⟩
    have tb1 := tb.ext s1
    refine ⟨_, rfl, f, 9, rfl, F1, by decide, .ab (by decide) (by decide), fun H2 v v0 v1 st => ⟨_, _, rfl, rfl, _, rfl, by omega, by omega, ?_⟩⟩
    refine for_range (lo := 0) (fun i σ H' => (∃ y2 y3 y4 y5 y6 y7 y8 y9, σ = [some (.ref a), some (.ref f), y2, y3, y4, y5, y6, y7, y8, y9]) ∧ FeedAt H' f ∧ LamX.Tabs (tabL A) H') ⟨⟨_, _, _, _, _, _, _, _, rfl⟩, st.feed, tabs_stp F1 st tb1⟩ ?_ (fun σ H' _ => q H')
    clear st F1 hS tb tb1 s1
    rintro i σ H0 hi ⟨⟨y2, y3, y4, y5, y6, y7, y8, y9, rfl⟩, F0, tb0⟩
    -- size
    refine ⟨_, _, rfl, rfl, ⟨by decide, by decide, by decide⟩, _, _, rfl, rfl, ⟨by decide, by decide, by decide⟩, by show 3 ≤ sizeLine; decide, fun p np => ?_⟩
    have s0 : Same H0 (upd H0 p (.lst [.int 13, .int (10 ^ (6 : Int).toNat), .int (10 ^ (20 : Int).toNat)])) := same_upd np
    have F0' := F0.same s0
    have tb0' := tb0.ext s0
    refine ⟨_, rfl, f, 3, rfl, F0', by decide, .ab (by decide) (by decide), fun H3 k k0 k1 st3 => ?_⟩
    have pf : p ≠ f := (F0.lt np).symm
    have hp3 := st3.keep _ _ pf upd_same
    have tb3 := tabs_stp F0' st3 tb0'
    obtain ⟨z, hz, z0, z1⟩ : ∃ z : Int, atI [V.int 13, .int (10 ^ (6 : Int).toNat), .int (10 ^ (20 : Int).toNat)] k = some (.int z) ∧ 0 < z ∧ z ≤ 100000000000000000000 := by
      rcases (by omega : k = 0 ∨ k = 1 ∨ k = 2) with e | e | e <;> subst e
      · exact ⟨_, rfl, by decide, by decide⟩
      · exact ⟨_, rfl, by decide, by decide⟩
      · exact ⟨_, rfl, by decide, by decide⟩
    refine ⟨p, _, k, _, rfl, rfl, .of hp3, hz, ?_⟩
    have F3 := st3.feed
    clear hp3 F0' F0 pf np st3 tb0' tb0 s0
    have sz : Sm z := .ab (by omega) (by omega)
    -- the two pairs
    refine ⟨_, rfl, _, rfl, f, z, rfl, F3, z0, sz, fun H4 pa a0 a1 a2 a3 a4 a5 st4 ha => ?_⟩
    refine ⟨_, rfl, _, rfl, f, z, rfl, st4.feed, z0, sz, fun H5 pb b0 b1 c2 c3 c4 c5 st5 hb => ?_⟩
    have tb5 := tabs_stp st4.feed st5 (tabs_stp F3 st4 tb3)
    have ha5 := st5.keep _ _ (st4.feed.ne ha fun _ _ _ _ _ _ w => by cases w) ha
    have F5 := st5.feed
    clear st4 st5 ha F3 tb3
    refine ⟨fun σ' H' => FeedAt H' f ∧ LamX.Tabs (tabL A) H' ∧ H' pa = some (two a0 a1) ∧ ∃ (pb : Addr) (b0 b1 : Int), H' pb = some (two b0 b1) ∧ -z < b0 ∧ b0 < z ∧ 1 ≤ b1 ∧ b1 ≤ z ∧ σ' = [some (.ref a), some (.ref f), some (.int (0 + i)), some (.int z), some (.ref pa), some (.ref pb), y6, y7, y8, y9], ?_, ?_⟩
    · refine ⟨_, rfl, f, 4, rfl, F5, by decide, .ab (by decide) (by decide), fun H6 v v0 v1 st6 => ⟨rfl, _, rfl, ?_⟩⟩
      have tb6 := tabs_stp F5 st6 tb5
      have ha6 := st6.keep _ _ (F5.ne ha5 fun _ _ _ _ _ _ w => by cases w) ha5
      refine ite2 (fun _ => ?_) (fun _ => ?_)
      · refine ⟨by show 2 ≤ sizeLine; decide, fun p6 n6 => ?_⟩
        have s6 : Same H6 (upd H6 p6 (two 0 1)) := same_upd n6
        exact ⟨st6.feed.same s6, tb6.ext s6, s6 _ _ ha6, p6, 0, 1, upd_same, by omega, by omega, by omega, by omega, rfl⟩
      · exact ⟨st6.feed, tb6, ha6, pb, b0, b1, st6.keep _ _ (F5.ne hb fun _ _ _ _ _ _ w => by cases w) hb, c2, c3, c4, c5, rfl⟩
    clear F5 tb5 ha5 hb c2 c3 c4 c5 b0 b1 pb H5 H4 H3
    rintro σ H0 ⟨F0, tb0, ha0, pb, b0, b1, hb0, b2l, b2h, b3, b4, rfl⟩
    refine ⟨_, rfl, _, rfl, f, z, rfl, F0, z0, sz, fun H1 n n0 n1 st1 => ?_⟩
    have F1 := st1.feed
    have tb1 := tabs_stp F0 st1 tb0
    have ha1 := st1.keep _ _ (F0.ne ha0 fun _ _ _ _ _ _ w => by cases w) ha0
    have hb1 := st1.keep _ _ (F0.ne hb0 fun _ _ _ _ _ _ w => by cases w) hb0
    clear st1 F0 tb0 ha0 hb0
    have wa0 : Wee a0 := wee_of (by omega) (by omega)
    have wa1 : Wee a1 := wee_of (by omega) (by omega)
    have wb0 : Wee b0 := wee_of (by omega) (by omega)
    have wb1 : Wee b1 := wee_of (by omega) (by omega)
    have wn : Wee n := wee_of (by omega) (by omega)
    -- the Ratios
    refine ⟨_, rfl, pa, _, 0, _, rfl, rfl, .of ha1, rfl, _, rfl, pa, _, 1, _, rfl, rfl, .of ha1, rfl, fun x dx nx nd ne => ⟨x, dx, _, _, rfl, upd_same, .inl ⟨a0, a1, rfl, rfl, by omega, wa1.sm, fun t b nm1 => ⟨rfl, ?_⟩⟩⟩⟩
    obtain ⟨s2, ho2⟩ := made (C := A.Ratio) nx nd ne t b
    refine ⟨_, rfl, pb, _, 0, _, rfl, rfl, .of (s2 _ _ hb1), rfl, _, rfl, pb, _, 1, _, rfl, rfl, .of (s2 _ _ hb1), rfl, fun x2 dx2 nx2 nd2 ne2 => ⟨x2, dx2, _, _, rfl, upd_same, .inl ⟨b0, b1, rfl, rfl, by omega, wb1.sm, fun t2 b2 nm2 => ⟨rfl, ?_⟩⟩⟩⟩
    obtain ⟨s3, ht3⟩ := made (C := A.Ratio) nx2 nd2 ne2 t2 b2
    have bun : Bun A _ f pa pb a0 a1 b0 b1 (.ref x) (.ref x2) t b t2 b2 := ⟨(F1.same s2).same s3, (tb1.ext s2).ext s3, s3 _ _ (s2 _ _ ha1), s3 _ _ (s2 _ _ hb1), ho2.same s3, ht3⟩
    clear s2 s3 ho2 ht3 F1 tb1 ha1 hb1
    generalize upd (upd (upd (upd (upd (upd H1 dx (.own x)) x (.ins A.Ratio dx [])) x (.ins A.Ratio dx [("top", .int t), ("bottom", .int b)])) dx2 (.own x2)) x2 (.ins A.Ratio dx2 [])) x2 (.ins A.Ratio dx2 [("top", .int t2), ("bottom", .int b2)]) = G0 at bun
    have wt : Wee t := wee_le nm1.le1 wa0
    have wb : Wee b := wee_le nm1.le2 wa1
    have wt2 : Wee t2 := wee_le nm2.le1 wb0
    have wb2 : Wee b2 := wee_le nm2.le2 wb1
    have nb : b ≠ 0 := fun y => by have := nm1.pos; omega
    have nb2 : b2 ≠ 0 := fun y => by have := nm2.pos; omega
    have z1n := norm_zero nm1
    have z2n := norm_zero nm2
    have one0 : (1 : Int) ≠ 0 := by decide
    have w1 : Wee 1 := by show (1 : Int).natAbs < 2 ^ 100; decide
    have p1 : (0 : Int) < 1 := by decide
    refine ⟨fun σ' H' => Bun A H' f pa pb a0 a1 b0 b1 (.ref x) (.ref x2) t b t2 b2 ∧ ∃ y9 : Option V, σ' = [some (.ref a), some (.ref f), some (.int (0 + i)), some (.int z), some (.ref pa), some (.ref pb), some (.int n), some (.ref x), some (.ref x2), y9], ?_, ?_⟩
    · refine ⟨_, rfl, pb, _, 0, _, rfl, rfl, .of bun.hb, rfl, rfl, _, rfl, ?_⟩
      by_cases h0 : b0 = 0
      · refine iteTe (decide_eq_true (by rw [h0])) ?_
        have h2 : t2 = 0 := z2n.mp h0
        have ht0 := bun.ht
        rw [h2] at ht0
        refine ⟨_, rfl, _, rfl, .ref x, .ref x2, t, b, b2, rfl, bun.ho, ht0, wt, wb, wb2, nb, nb2, bun.tb, fun H' e1 t1 => ⟨true, rfl, iteF ?_⟩⟩
        exact ⟨bun.ext e1 t1, _, rfl⟩
      · refine iteFe (decide_eq_false fun y => h0 (V.int.inj y)) ?_
        have h2 : t2 ≠ 0 := fun y => h0 (z2n.mpr y)
        -- one // other
        refine ⟨_, rfl, _, rfl, bun.ho.ins, .inr bun.ht.ins, _, _, t, b, t2, b2, rfl, bun.ho, .inr bun.ht, wt.lil, wb.lil, wt2.lil, wb2.lil, nb, fun _ G1 k1 => ?_, fun y => absurd y h2⟩
        have B1 := bun.same k1
        have nz : a1 * b0 ≠ 0 := fun y => (Int.mul_eq_zero.mp y).elim (by omega) h0
        refine ⟨_, rfl, _, rfl, _, rfl, _, a0, a1, b0, b1, pa, pb, rfl, B1.ha, B1.hb, wa0, wa1, wb0, wb1, nz, fdiv_norm nm1 nm2 (by omega) (by omega), true, rfl, iteF ?_⟩
        refine ⟨_, rfl, _, rfl, B1.ho.ins, .inr B1.ht.ins, _, _, t, b, t2, b2, rfl, B1.ho, .inr B1.ht, wt, wb, wt2, wb2, nb, nb2, fun _ G2 v r rb k2 r2 ri => ?_, fun y => absurd y h2⟩
        have B2 := B1.same k2
        refine ⟨_, rfl, _, rfl, _, rfl, v, _, r, rb, a0, a1, b0, b1, pa, pb, rfl, r2, ri.pos, B2.ha, B2.hb, wa0, wa1, wb0, wb1, quo_small wt wb2, rest_norm nm1 nm2 (by omega) (by omega) ri.cross, ri.s1, ri.s2, true, rfl, iteF ?_⟩
        -- over
        obtain ⟨o1, o2, eo, ho⟩ := B2.ho
        refine ⟨_, rfl, o1, o2, _, eo, ho, rfl, _, rfl, _, _, t, b, t2, b2, rfl, B2.ho, .inr B2.ht, wt, wb, wt2, wb2, nb, fun _ G3 v3 r3 rb3 k3 q3 n3 => ?_, fun y => absurd y h2⟩
        have B3 := B2.same k3
        refine ⟨_, rfl, pa, _, 0, _, rfl, rfl, .of B3.ha, rfl, _, rfl, pb, _, 1, _, rfl, rfl, .of B3.hb, rfl, _, _, rfl, rfl, wa0.sm.mul wb1.sm, ?_⟩
        refine ⟨_, rfl, pa, _, 1, _, rfl, rfl, .of B3.ha, rfl, _, rfl, pb, _, 0, _, rfl, rfl, .of B3.hb, rfl, _, _, rfl, rfl, wa1.sm.mul wb0.sm, ?_⟩
        refine ⟨v3, r3, rb3, _, _, rfl, q3, n3.pos, over_norm nm1 nm2 (by omega) (by omega) n3, (Sm.of (pow_mul wt wb2) (by decide)).le n3.le1, (Sm.of (pow_mul wb wt2) (by decide)).le n3.le2, Sm.of (pow_mul wa0 wb1) (by decide), Sm.of (pow_mul wa1 wb0) (by decide), true, rfl, iteF ?_⟩
        -- n // other
        have nmn := norm_one n
        refine ⟨_, rfl, _, rfl, ⟨n, rfl⟩, B3.ht.ins, _, .int n, t2, b2, n, 1, rfl, B3.ht, .inl ⟨rfl, rfl⟩, wt2.lil, wb2.lil, wn.lil, w1.lil, one0, fun _ G4 k4 => ?_, fun y => absurd y h2⟩
        have B4 := B3.same k4
        refine ⟨_, rfl, _, rfl, by show 2 ≤ sizeLine; decide, fun p5 n5 => ⟨_, rfl, ?_⟩⟩
        have B5 := B4.same (same_upd (o := two n 1) n5)
        refine ⟨_, n, 1, b0, b1, p5, pb, rfl, upd_same, B5.hb, wn, w1, wb0, wb1, (by rw [Int.one_mul]; exact h0), fdiv_norm nmn nm2 p1 (by omega), true, rfl, iteF ?_⟩
        refine ⟨_, rfl, _, rfl, ⟨n, rfl⟩, B5.ht.ins, _, .int n, t2, b2, n, 1, rfl, B5.ht, .inl ⟨rfl, rfl⟩, wt2, wb2, wn, w1, nb2, one0, fun _ G6 v6 r6 rb6 k6 q6 ri6 => ?_, fun y => absurd y h2⟩
        have B6 := B5.same k6
        refine ⟨_, rfl, _, rfl, by show 2 ≤ sizeLine; decide, fun p7 n7 => ⟨_, rfl, ?_⟩⟩
        have k7 := same_upd (o := two n 1) n7
        have B7 := B6.same k7
        refine ⟨v6, _, r6, rb6, n, 1, b0, b1, p7, pb, rfl, q6.same k7, ri6.pos, upd_same, B7.hb, wn, w1, wb0, wb1, quo_small wn wb2, rest_norm nmn nm2 p1 (by omega) ri6.cross, ri6.s1, ri6.s2, true, rfl, iteF ?_⟩
        exact ⟨B7, _, rfl⟩
    clear bun
    rintro σ G0 ⟨bun, y9, rfl⟩
    refine ⟨fun σ' H' => Bun A H' f pa pb a0 a1 b0 b1 (.ref x) (.ref x2) t b t2 b2 ∧ ∃ y9 : Option V, σ' = [some (.ref a), some (.ref f), some (.int (0 + i)), some (.int z), some (.ref pa), some (.ref pb), some (.int n), some (.ref x), some (.ref x2), y9], ?_, ?_⟩
    · by_cases h0 : n = 0
      · have en : (!decide (V.int n = V.int 0)) = false := by rw [h0]; rfl
        exact ⟨_, rfl, rfl, _, rfl, iteFe en ⟨bun, _, rfl⟩⟩
      · have en : (!decide (V.int n = V.int 0)) = true := by
          rw [decide_eq_false fun y => h0 (V.int.inj y)]
          rfl
        have nmn := norm_one n
        refine ⟨_, rfl, rfl, _, rfl, iteTe en ?_⟩
        refine ⟨_, rfl, _, rfl, bun.ho.ins, .inl ⟨n, rfl⟩, _, .int n, t, b, n, 1, rfl, bun.ho, .inl ⟨rfl, rfl⟩, wt.lil, wb.lil, wn.lil, w1.lil, nb, fun _ G1 k1 => ?_, fun y => absurd y h0⟩
        have B1 := bun.same k1
        have nz : a1 * n ≠ 0 := fun y => (Int.mul_eq_zero.mp y).elim (by omega) h0
        refine ⟨_, rfl, _, rfl, _, rfl, by show 2 ≤ sizeLine; decide, fun p2 n2 => ?_⟩
        have B2 := B1.same (same_upd (o := two n 1) n2)
        refine ⟨_, a0, a1, n, 1, pa, p2, rfl, B2.ha, upd_same, wa0, wa1, wn, w1, nz, fdiv_norm nm1 nmn (by omega) p1, true, rfl, iteF ?_⟩
        refine ⟨_, rfl, _, rfl, B2.ho.ins, .inl ⟨n, rfl⟩, _, .int n, t, b, n, 1, rfl, B2.ho, .inl ⟨rfl, rfl⟩, wt, wb, wn, w1, nb, one0, fun _ G3 v r rb k3 r3 ri => ?_, fun y => absurd y h0⟩
        have B3 := B2.same k3
        refine ⟨_, rfl, _, rfl, _, rfl, by show 2 ≤ sizeLine; decide, fun p4 n4 => ?_⟩
        have k4 := same_upd (o := two n 1) n4
        have B4 := B3.same k4
        refine ⟨v, _, r, rb, a0, a1, n, 1, pa, p4, rfl, r3.same k4, ri.pos, B4.ha, upd_same, wa0, wa1, wn, w1, quo_small wt w1, rest_norm nm1 nmn (by omega) p1 ri.cross, ri.s1, ri.s2, true, rfl, iteF ?_⟩
        obtain ⟨o1, o2, eo, ho⟩ := B4.ho
        refine ⟨_, rfl, o1, o2, _, eo, ho, rfl, _, rfl, _, .int n, t, b, n, 1, rfl, B4.ho, .inl ⟨rfl, rfl⟩, wt, wb, wn, w1, nb, fun _ G5 v5 r5 rb5 k5 q5 n5 => ?_, fun y => absurd y h0⟩
        have B5 := B4.same k5
        refine ⟨_, rfl, pa, _, 0, _, rfl, rfl, .of B5.ha, rfl, ?_⟩
        refine ⟨_, rfl, pa, _, 1, _, rfl, rfl, .of B5.ha, rfl, _, rfl, _, _, rfl, rfl, wa1.sm.mul wn.sm, ?_⟩
        have oc := over_norm nm1 nmn (by omega) p1 n5
        rw [Int.mul_one] at oc
        refine ⟨v5, r5, rb5, _, _, rfl, q5, n5.pos, oc, (Sm.of (pow_mul wt w1) (by decide)).le n5.le1, (Sm.of (pow_mul wb wn) (by decide)).le n5.le2, wa0.sm, Sm.of (pow_mul wa1 wn) (by decide), true, rfl, iteF ?_⟩
        exact ⟨B5, _, rfl⟩
    clear bun
    rintro σ G0 ⟨bun, y10, rfl⟩
    -- drawn powers
    refine ⟨_, rfl, _, rfl, _, rfl, f, 49, rfl, bun.F, by decide, .ab (by decide) (by decide), fun G1 k1 k10 k11 st1 => ⟨_, _, rfl, rfl, ?_⟩⟩
    have B1 := bun.stp st1
    refine ⟨_, t, b, a0, a1, _, pa, rfl, B1.ho, B1.ha, nm1, wa0, wa1, wt, wb, B1.tb, fun G2 e2 t2' => ⟨true, rfl, iteF ?_⟩⟩
    have B2 := B1.ext e2 t2'
    refine ⟨_, rfl, _, rfl, _, rfl, f, 49, rfl, B2.F, by decide, .ab (by decide) (by decide), fun G3 k3 k30 k31 st3 => ⟨_, _, rfl, rfl, ?_⟩⟩
    have B3 := B2.stp st3
    refine ⟨_, t2, b2, b0, b1, _, pb, rfl, B3.ht, B3.hb, nm2, wb0, wb1, wt2, wb2, B3.tb, fun G4 e4 t4' => ⟨true, rfl, iteF ?_⟩⟩
    have B4 := B3.ext e4 t4'
    clear B1 B2 B3 bun
    have ns : ∀ u : Str, (!decide (V.str u = V.str u)) = false := fun u => by rw [decide_eq_true rfl]; rfl
    -- exponents of other kinds
    refine ⟨B4.tb, fun G5 e5 t5 => ?_⟩
    have B5 := B4.ext e5 t5
    obtain ⟨o1, o2, eo, ho⟩ := B5.ho
    refine ⟨_, rfl, o1, o2, _, eo, ho, rfl, _, .bl true, t, b, rfl, B5.ho, wt, wb, nb, .inl ⟨⟨_, true, true, .base (.bl true), kit_ty (by decide +kernel), fun _ => kit_ty (by decide +kernel), rfl⟩, fun G6 y6 s6 ny6 => ⟨rfl, y6, "power", rfl, upd_same, rfl, _, rfl, iteFe (ns _) ?_⟩⟩⟩
    have B6 := B5.same (s6.trans (same_upd (o := .xd [("word", .str "power")]) ny6))
    refine ⟨B6.tb, fun G7 e7 t7 => ?_⟩
    have B7 := B6.ext e7 t7
    obtain ⟨u1, u2, eu, hu⟩ := B7.ht
    refine ⟨_, rfl, u1, u2, _, eu, hu, rfl, _, .str "2", t2, b2, rfl, B7.ht, wt2, wb2, nb2, .inl ⟨⟨_, false, false, .base (.str "2"), kit_ty (by decide +kernel), (fun w => nomatch w), rfl⟩, fun G8 y8 s8 ny8 => ⟨rfl, y8, "power", rfl, upd_same, rfl, _, rfl, iteFe (ns _) ?_⟩⟩⟩
    have B8 := B7.same (s8.trans (same_upd (o := .xd [("word", .str "power")]) ny8))
    -- written powers
    refine ⟨_, rfl, B8.ho.ins, ⟨3, rfl⟩, _, .int 3, t, b, rfl, B8.ho, wt, wb, nb, .inr ⟨3, rfl, fun hk => absurd hk (by decide), fun _ _ => ⟨fun hk => absurd hk.1 (by decide), fun _ G9 v9 r9 rb9 s9 q9 n9 => ?_, fun hk => absurd hk (by decide)⟩⟩⟩
    have B9 := B8.same s9
    have h3 : (3 : Int).natAbs ≤ 20 := by decide
    refine ⟨_, rfl, v9, r9, rb9, a0, a1, 3, pa, rfl, q9, n9.pos, B9.ha, wa0, wa1, h3, (norm_pow_sm wt wb h3 n9).1, (norm_pow_sm wt wb h3 n9).2, fun hk => absurd hk (by decide), fun _ => pow_cross nm1 n9, true, rfl, iteF ?_⟩
    refine ⟨_, rfl, B9.ht.ins, ⟨2, rfl⟩, _, .int 2, t2, b2, rfl, B9.ht, wt2, wb2, nb2, .inr ⟨2, rfl, fun hk => absurd hk (by decide), fun _ _ => ⟨fun hk => absurd hk.1 (by decide), fun _ G10 v10 r10 rb10 s10 q10 n10 => ?_, fun hk => absurd hk (by decide)⟩⟩⟩
    have B10 := B9.same s10
    have h2 : (2 : Int).natAbs ≤ 20 := by decide
    refine ⟨_, rfl, v10, r10, rb10, b0, b1, 2, pb, rfl, q10, n10.pos, B10.hb, wb0, wb1, h2, (norm_pow_sm wt2 wb2 h2 n10).1, (norm_pow_sm wt2 wb2 h2 n10).2, fun hk => absurd hk (by decide), fun _ => pow_cross nm2 n10, true, rfl, iteF ?_⟩
    exact ⟨⟨_, _, _, _, _, _, _, _, rfl⟩, B10.F, B10.tb⟩
end

end Mo

namespace Mo
open PySem PySem.Spec PyProof.Rows L2 MoL MoW
open C8 (pss_cut tCut)
/-! ### what the top has written -/
theorem all_mk {l : PySem.W.OpenLaw} {w : World} {K : PySem.W.Frag} {h : Heap} {mg : Str → Option Value} {fa C_Ratio C_NoRatio C_MeansError f0 f1 f2 f3 f4 f5 f6 f7 f8 f9 f10 f11 f12 f13 f14 f15 f16 f17 f18 f19 f20 f21 f22 f23 f24 f25 f26 f27 f28 : Addr} (X : K.In h) (G : h.Ns mainGlobals mg) (hfa : mg "law" = some (.ref fa))
    {od0 an0 od1 an1 od2 an2 od3 an3 od4 an4 od5 an5 od6 an6 od7 an7 od8 an8 od9 an9 od10 an10 od11 an11 od12 an12 od13 an13 od14 an14 od15 an15 od16 an16 od17 an17 od18 an18 od19 an19 od20 an20 od21 an21 od22 an22 od23 an23 od24 an24 od25 an25 od26 an26 od27 an27 od28 an28 : Option Addr} {sl0 sl1 sl2 sl3 sl4 sl5 sl6 sl7 sl8 sl9 sl10 sl11 sl12 sl13 sl14 sl15 sl16 sl17 sl18 sl19 sl20 sl21 sl22 sl23 sl24 sl25 sl26 sl27 sl28 : Array (Option Value)} {oc0 kV0 dc0 pm0 ct0 cd0 oc1 kV1 dc1 pm1 ct1 cd1 oc2 kV2 dc2 pm2 ct2 cd2 oc3 kV3 dc3 pm3 ct3 cd3 oc4 kV4 dc4 pm4 ct4 cd4 oc5 kV5 dc5 pm5 ct5 cd5 oc6 kV6 dc6 pm6 ct6 cd6 oc7 kV7 dc7 pm7 ct7 cd7 oc8 kV8 dc8 pm8 ct8 cd8 oc9 kV9 dc9 pm9 ct9 cd9 oc10 kV10 dc10 pm10 ct10 cd10 oc11 kV11 dc11 pm11 ct11 cd11 oc12 kV12 dc12 pm12 ct12 cd12 oc13 kV13 dc13 pm13 ct13 cd13 oc14 kV14 dc14 pm14 ct14 cd14 oc15 kV15 dc15 pm15 ct15 cd15 oc16 kV16 dc16 pm16 ct16 cd16 oc17 kV17 dc17 pm17 ct17 cd17 oc18 kV18 dc18 pm18 ct18 cd18 oc19 kV19 dc19 pm19 ct19 cd19 oc20 kV20 dc20 pm20 ct20 cd20 oc21 kV21 dc21 pm21 ct21 cd21 oc22 kV22 dc22 pm22 ct22 cd22 oc23 kV23 dc23 pm23 ct23 cd23 oc24 kV24 dc24 pm24 ct24 cd24 oc25 kV25 dc25 pm25 ct25 cd25 oc26 kV26 dc26 pm26 ct26 oc27 kV27 dc27 pm27 ct27 oc28 kV28 dc28 pm28 ct28 : Value} {T1 : Addr} {td1 : Option Addr} {tn1 : Nat} {ts1 : Array (Option Value)} {tt1_0 : Tok} {nm_NoRatio q_NoRatio : Str} {N_NoRatio : Addr} {bs_NoRatio sub_NoRatio : List Value} {sn_NoRatio : List Str} {ab_NoRatio : Bool} {col_NoRatio : Option Bool} {dd_NoRatio : Option Addr} {m0_NoRatio m1_NoRatio m2_NoRatio m3_NoRatio m5_NoRatio : Option Value} {tok_MOST_POWER : Tok} {tC26 tP26 : Addr} {tC27 tP27 : Addr} {tC28 tP28 : Addr}
    (g_Ratio : PySem.W.nsIn K mainGlobals "Ratio" = some (some (.ref C_Ratio)))
    (g_NoRatio : PySem.W.nsIn K mainGlobals "NoRatio" = some (some (.ref C_NoRatio)))
    (g_MeansError : PySem.W.nsIn K mainGlobals "MeansError" = some (some (.ref C_MeansError)))
    (xL_NoRatio : K.lookup C_NoRatio = some (excClassObj nm_NoRatio q_NoRatio C_NoRatio N_NoRatio bs_NoRatio [.ref C_MeansError, .type "ValueError", .type "Exception", .type "BaseException", .type "object"] true sn_NoRatio sub_NoRatio ab_NoRatio col_NoRatio dd_NoRatio m0_NoRatio m1_NoRatio m2_NoRatio m3_NoRatio m5_NoRatio "ValueError.__new__"))
    (a0 : PySem.W.findIn K (.ref C_NoRatio) "__init__" = some (some (.ref f0)))
    (i0 : PySem.W.isFn K (.ref f0) = true)
    (l0 : K.lookup f0 = some ⟨oc0, od0, .func (PySem.W.fnOf "__init__" "NoRatio.__init__" (defArgs s_NoRatio___init__) (defBody s_NoRatio___init__) (defScope s_NoRatio___init__) .none kV0 dc0 pm0 an0 cd0 ct0), sl0⟩)
    (c0 : PySem.W.codeIn K cd0 "NoRatio.__init__" = true)
    (k0 : PySem.W.keepIn K (.ref f0) = true)
    (a1 : PySem.W.findIn K (.ref C_Ratio) "__init__" = some (some (.ref f1)))
    (i1 : PySem.W.isFn K (.ref f1) = true)
    (l1 : K.lookup f1 = some ⟨oc1, od1, .func (PySem.W.fnOf "__init__" "Ratio.__init__" (defArgs s_Ratio___init__) (defBody s_Ratio___init__) (defScope s_Ratio___init__) (.ref T1) kV1 dc1 pm1 an1 cd1 ct1), sl1⟩)
    (c1 : PySem.W.codeIn K cd1 "Ratio.__init__" = true)
    (k1 : PySem.W.keepIn K (.ref f1) = true)
    (t1 : K.lookup T1 = some ⟨.type "tuple", td1, .seq #[.int 1 tt1_0] tn1, ts1⟩)
    (a2 : PySem.W.findIn K (.ref C_Ratio) "__floordiv__" = some (some (.ref f2)))
    (i2 : PySem.W.isFn K (.ref f2) = true)
    (l2 : K.lookup f2 = some ⟨oc2, od2, .func (PySem.W.fnOf "__floordiv__" "Ratio.__floordiv__" (defArgs s_Ratio___floordiv__) (defBody s_Ratio___floordiv__) (defScope s_Ratio___floordiv__) .none kV2 dc2 pm2 an2 cd2 ct2), sl2⟩)
    (c2 : PySem.W.codeIn K cd2 "Ratio.__floordiv__" = true)
    (k2 : PySem.W.keepIn K (.ref f2) = true)
    (a3 : PySem.W.findIn K (.ref C_Ratio) "__rfloordiv__" = some (some (.ref f3)))
    (i3 : PySem.W.isFn K (.ref f3) = true)
    (l3 : K.lookup f3 = some ⟨oc3, od3, .func (PySem.W.fnOf "__rfloordiv__" "Ratio.__rfloordiv__" (defArgs s_Ratio___rfloordiv__) (defBody s_Ratio___rfloordiv__) (defScope s_Ratio___rfloordiv__) .none kV3 dc3 pm3 an3 cd3 ct3), sl3⟩)
    (c3 : PySem.W.codeIn K cd3 "Ratio.__rfloordiv__" = true)
    (k3 : PySem.W.keepIn K (.ref f3) = true)
    (a4 : PySem.W.findIn K (.ref C_Ratio) "__mod__" = some (some (.ref f4)))
    (i4 : PySem.W.isFn K (.ref f4) = true)
    (l4 : K.lookup f4 = some ⟨oc4, od4, .func (PySem.W.fnOf "__mod__" "Ratio.__mod__" (defArgs s_Ratio___mod__) (defBody s_Ratio___mod__) (defScope s_Ratio___mod__) .none kV4 dc4 pm4 an4 cd4 ct4), sl4⟩)
    (c4 : PySem.W.codeIn K cd4 "Ratio.__mod__" = true)
    (k4 : PySem.W.keepIn K (.ref f4) = true)
    (a5 : PySem.W.findIn K (.ref C_Ratio) "__rmod__" = some (some (.ref f5)))
    (i5 : PySem.W.isFn K (.ref f5) = true)
    (l5 : K.lookup f5 = some ⟨oc5, od5, .func (PySem.W.fnOf "__rmod__" "Ratio.__rmod__" (defArgs s_Ratio___rmod__) (defBody s_Ratio___rmod__) (defScope s_Ratio___rmod__) .none kV5 dc5 pm5 an5 cd5 ct5), sl5⟩)
    (c5 : PySem.W.codeIn K cd5 "Ratio.__rmod__" = true)
    (k5 : PySem.W.keepIn K (.ref f5) = true)
    (a6 : PySem.W.findIn K (.ref C_Ratio) "__pow__" = some (some (.ref f6)))
    (i6 : PySem.W.isFn K (.ref f6) = true)
    (l6 : K.lookup f6 = some ⟨oc6, od6, .func (PySem.W.fnOf "__pow__" "Ratio.__pow__" (defArgs s_Ratio___pow__) (defBody s_Ratio___pow__) (defScope s_Ratio___pow__) .none kV6 dc6 pm6 an6 cd6 ct6), sl6⟩)
    (c6 : PySem.W.codeIn K cd6 "Ratio.__pow__" = true)
    (k6 : PySem.W.keepIn K (.ref f6) = true)
    (a7 : PySem.W.findIn K (.ref C_Ratio) "over" = some (some (.ref f7)))
    (i7 : PySem.W.isFn K (.ref f7) = true)
    (l7 : K.lookup f7 = some ⟨oc7, od7, .func (PySem.W.fnOf "over" "Ratio.over" (defArgs s_Ratio_over) (defBody s_Ratio_over) (defScope s_Ratio_over) .none kV7 dc7 pm7 an7 cd7 ct7), sl7⟩)
    (c7 : PySem.W.codeIn K cd7 "Ratio.over" = true)
    (k7 : PySem.W.keepIn K (.ref f7) = true)
    (a8 : PySem.W.findIn K (.ref C_Ratio) "power" = some (some (.ref f8)))
    (i8 : PySem.W.isFn K (.ref f8) = true)
    (l8 : K.lookup f8 = some ⟨oc8, od8, .func (PySem.W.fnOf "power" "Ratio.power" (defArgs s_Ratio_power) (defBody s_Ratio_power) (defScope s_Ratio_power) .none kV8 dc8 pm8 an8 cd8 ct8), sl8⟩)
    (c8 : PySem.W.codeIn K cd8 "Ratio.power" = true)
    (k8 : PySem.W.keepIn K (.ref f8) = true)
    (a9 : PySem.W.nsIn K mainGlobals "is_whole" = some (some (.ref f9)))
    (l9 : K.lookup f9 = some ⟨oc9, od9, .func (PySem.W.fnOf "is_whole" "is_whole" (defArgs s_is_whole) (defBody s_is_whole) (defScope s_is_whole) .none kV9 dc9 pm9 an9 cd9 ct9), sl9⟩)
    (c9 : PySem.W.codeIn K cd9 "is_whole" = true)
    (k9 : PySem.W.keepIn K (.ref f9) = true)
    (a10 : PySem.W.nsIn K mainGlobals "is_number" = some (some (.ref f10)))
    (l10 : K.lookup f10 = some ⟨oc10, od10, .func (PySem.W.fnOf "is_number" "is_number" (defArgs s_is_number) (defBody s_is_number) (defScope s_is_number) .none kV10 dc10 pm10 an10 cd10 ct10), sl10⟩)
    (c10 : PySem.W.codeIn K cd10 "is_number" = true)
    (k10 : PySem.W.keepIn K (.ref f10) = true)
    (a11 : PySem.W.nsIn K mainGlobals "ratio_of" = some (some (.ref f11)))
    (l11 : K.lookup f11 = some ⟨oc11, od11, .func (PySem.W.fnOf "ratio_of" "ratio_of" (defArgs s_ratio_of) (defBody s_ratio_of) (defScope s_ratio_of) .none kV11 dc11 pm11 an11 cd11 ct11), sl11⟩)
    (c11 : PySem.W.codeIn K cd11 "ratio_of" = true)
    (k11 : PySem.W.keepIn K (.ref f11) = true)
    (a12 : PySem.W.nsIn K mainGlobals "_difference" = some (some (.ref f12)))
    (l12 : K.lookup f12 = some ⟨oc12, od12, .func (PySem.W.fnOf "_difference" "_difference" (defArgs s__difference) (defBody s__difference) (defScope s__difference) .none kV12 dc12 pm12 an12 cd12 ct12), sl12⟩)
    (c12 : PySem.W.codeIn K cd12 "_difference" = true)
    (k12 : PySem.W.keepIn K (.ref f12) = true)
    (a13 : PySem.W.nsIn K mainGlobals "_product" = some (some (.ref f13)))
    (l13 : K.lookup f13 = some ⟨oc13, od13, .func (PySem.W.fnOf "_product" "_product" (defArgs s__product) (defBody s__product) (defScope s__product) .none kV13 dc13 pm13 an13 cd13 ct13), sl13⟩)
    (c13 : PySem.W.codeIn K cd13 "_product" = true)
    (k13 : PySem.W.keepIn K (.ref f13) = true)
    (a14 : PySem.W.nsIn K mainGlobals "_floor" = some (some (.ref f14)))
    (l14 : K.lookup f14 = some ⟨oc14, od14, .func (PySem.W.fnOf "_floor" "_floor" (defArgs s__floor) (defBody s__floor) (defScope s__floor) .none kV14 dc14 pm14 an14 cd14 ct14), sl14⟩)
    (c14 : PySem.W.codeIn K cd14 "_floor" = true)
    (k14 : PySem.W.keepIn K (.ref f14) = true)
    (a15 : PySem.W.nsIn K mainGlobals "_remainder" = some (some (.ref f15)))
    (l15 : K.lookup f15 = some ⟨oc15, od15, .func (PySem.W.fnOf "_remainder" "_remainder" (defArgs s__remainder) (defBody s__remainder) (defScope s__remainder) .none kV15 dc15 pm15 an15 cd15 ct15), sl15⟩)
    (c15 : PySem.W.codeIn K cd15 "_remainder" = true)
    (k15 : PySem.W.keepIn K (.ref f15) = true)
    (a16 : PySem.W.nsIn K mainGlobals "_law_is_integer" = some (some (.ref f16)))
    (l16 : K.lookup f16 = some ⟨oc16, od16, .func (PySem.W.fnOf "_law_is_integer" "_law_is_integer" (defArgs s__law_is_integer) (defBody s__law_is_integer) (defScope s__law_is_integer) .none kV16 dc16 pm16 an16 cd16 ct16), sl16⟩)
    (c16 : PySem.W.codeIn K cd16 "_law_is_integer" = true)
    (k16 : PySem.W.keepIn K (.ref f16) = true)
    (a17 : PySem.W.nsIn K mainGlobals "_law_feed" = some (some (.ref f17)))
    (l17 : K.lookup f17 = some ⟨oc17, od17, .func (PySem.W.fnOf "_law_feed" "_law_feed" (defArgs s__law_feed) (defBody s__law_feed) (defScope s__law_feed) .none kV17 dc17 pm17 an17 cd17 ct17), sl17⟩)
    (c17 : PySem.W.codeIn K cd17 "_law_feed" = true)
    (k17 : PySem.W.keepIn K (.ref f17) = true)
    (a18 : PySem.W.nsIn K mainGlobals "_law_take" = some (some (.ref f18)))
    (l18 : K.lookup f18 = some ⟨oc18, od18, .func (PySem.W.fnOf "_law_take" "_law_take" (defArgs s__law_take) (defBody s__law_take) (defScope s__law_take) .none kV18 dc18 pm18 an18 cd18 ct18), sl18⟩)
    (c18 : PySem.W.codeIn K cd18 "_law_take" = true)
    (k18 : PySem.W.keepIn K (.ref f18) = true)
    (a19 : PySem.W.nsIn K mainGlobals "_law_number" = some (some (.ref f19)))
    (l19 : K.lookup f19 = some ⟨oc19, od19, .func (PySem.W.fnOf "_law_number" "_law_number" (defArgs s__law_number) (defBody s__law_number) (defScope s__law_number) .none kV19 dc19 pm19 an19 cd19 ct19), sl19⟩)
    (c19 : PySem.W.codeIn K cd19 "_law_number" = true)
    (k19 : PySem.W.keepIn K (.ref f19) = true)
    (a20 : PySem.W.nsIn K mainGlobals "_law_pair" = some (some (.ref f20)))
    (l20 : K.lookup f20 = some ⟨oc20, od20, .func (PySem.W.fnOf "_law_pair" "_law_pair" (defArgs s__law_pair) (defBody s__law_pair) (defScope s__law_pair) .none kV20 dc20 pm20 an20 cd20 ct20), sl20⟩)
    (c20 : PySem.W.codeIn K cd20 "_law_pair" = true)
    (k20 : PySem.W.keepIn K (.ref f20) = true)
    (a21 : PySem.W.nsIn K mainGlobals "_law_word" = some (some (.ref f21)))
    (l21 : K.lookup f21 = some ⟨oc21, od21, .func (PySem.W.fnOf "_law_word" "_law_word" (defArgs s__law_word) (defBody s__law_word) (defScope s__law_word) .none kV21 dc21 pm21 an21 cd21 ct21), sl21⟩)
    (c21 : PySem.W.codeIn K cd21 "_law_word" = true)
    (k21 : PySem.W.keepIn K (.ref f21) = true)
    (a22 : PySem.W.nsIn K mainGlobals "_law_is" = some (some (.ref f22)))
    (l22 : K.lookup f22 = some ⟨oc22, od22, .func (PySem.W.fnOf "_law_is" "_law_is" (defArgs s__law_is) (defBody s__law_is) (defScope s__law_is) .none kV22 dc22 pm22 an22 cd22 ct22), sl22⟩)
    (c22 : PySem.W.codeIn K cd22 "_law_is" = true)
    (k22 : PySem.W.keepIn K (.ref f22) = true)
    (a23 : PySem.W.nsIn K mainGlobals "_law_floor" = some (some (.ref f23)))
    (l23 : K.lookup f23 = some ⟨oc23, od23, .func (PySem.W.fnOf "_law_floor" "_law_floor" (defArgs s__law_floor) (defBody s__law_floor) (defScope s__law_floor) .none kV23 dc23 pm23 an23 cd23 ct23), sl23⟩)
    (c23 : PySem.W.codeIn K cd23 "_law_floor" = true)
    (k23 : PySem.W.keepIn K (.ref f23) = true)
    (a24 : PySem.W.nsIn K mainGlobals "_law_rest" = some (some (.ref f24)))
    (l24 : K.lookup f24 = some ⟨oc24, od24, .func (PySem.W.fnOf "_law_rest" "_law_rest" (defArgs s__law_rest) (defBody s__law_rest) (defScope s__law_rest) .none kV24 dc24 pm24 an24 cd24 ct24), sl24⟩)
    (c24 : PySem.W.codeIn K cd24 "_law_rest" = true)
    (k24 : PySem.W.keepIn K (.ref f24) = true)
    (a25 : PySem.W.nsIn K mainGlobals "_law_power" = some (some (.ref f25)))
    (l25 : K.lookup f25 = some ⟨oc25, od25, .func (PySem.W.fnOf "_law_power" "_law_power" (defArgs s__law_power) (defBody s__law_power) (defScope s__law_power) .none kV25 dc25 pm25 an25 cd25 ct25), sl25⟩)
    (c25 : PySem.W.codeIn K cd25 "_law_power" = true)
    (k25 : PySem.W.keepIn K (.ref f25) = true)
    (a26 : PySem.W.nsIn K mainGlobals "_law_powers" = some (some (.ref f26)))
    (l26 : K.lookup f26 = some ⟨oc26, od26, .func (PySem.W.fnOf "_law_powers" "_law_powers" (defArgs s__law_powers) (defBody s__law_powers) (defScope s__law_powers) .none kV26 dc26 pm26 an26 (.ref tC26) ct26), sl26⟩)
    (ch26 : PySem.W.CodeHd h tC26 tP26)
    (ht26 : h.get? tP26 = some { cls := .none, data := .fields #[] })
    (nt26 : K.lookup tP26 = none)
    (c26 : PySem.W.codeIn K (.ref tC26) "_law_powers" = true)
    (k26 : PySem.W.keepIn K (.ref f26) = true)
    (a27 : PySem.W.nsIn K mainGlobals "_law_zero" = some (some (.ref f27)))
    (l27 : K.lookup f27 = some ⟨oc27, od27, .func (PySem.W.fnOf "_law_zero" "_law_zero" (defArgs s__law_zero) (defBody s__law_zero) (defScope s__law_zero) .none kV27 dc27 pm27 an27 (.ref tC27) ct27), sl27⟩)
    (ch27 : PySem.W.CodeHd h tC27 tP27)
    (ht27 : h.get? tP27 = some { cls := .none, data := .fields #[] })
    (nt27 : K.lookup tP27 = none)
    (c27 : PySem.W.codeIn K (.ref tC27) "_law_zero" = true)
    (k27 : PySem.W.keepIn K (.ref f27) = true)
    (a28 : PySem.W.nsIn K mainGlobals "law" = some (some (.ref f28)))
    (l28 : K.lookup f28 = some ⟨oc28, od28, .func (PySem.W.fnOf "law" "law" (defArgs s_law) (defBody s_law) (defScope s_law) .none kV28 dc28 pm28 an28 (.ref tC28) ct28), sl28⟩)
    (ch28 : PySem.W.CodeHd h tC28 tP28)
    (ht28 : h.get? tP28 = some { cls := .none, data := .fields #[] })
    (nt28 : K.lookup tP28 = none)
    (c28 : PySem.W.codeIn K (.ref tC28) "law" = true)
    (k28 : PySem.W.keepIn K (.ref f28) = true)
    (pg_Ratio : PySem.W.plainGet K C_Ratio Str.empty = true)
    (hd_Ratio : PySem.W.hasDictIn K C_Ratio = true)
    (po_Ratio : PySem.W.plainOver K C_Ratio = true)
    (sa_Ratio : PySem.W.findIn K (.ref C_Ratio) "__setattr__" = some (some (.builtin "object.__setattr__")))
    (mk_Ratio : PySem.W.makesIn K C_Ratio = true)
    (kc_Ratio : PySem.W.keepIn K (.ref C_Ratio) = true)
    (sf_Ratio : PySem.W.selfFirst K C_Ratio = true)
    (s1_Ratio : PySem.W.subIn K (.ref C_Ratio) (.type "int") = some false)
    (s2_Ratio : PySem.W.subIn K (.type "int") (.ref C_Ratio) = some false)
    (cls_Ratio : PySem.W.findIn K (.ref C_Ratio) "__class__" = some (some (.builtin "object.__class__")))
    (gsd_Ratio : PySem.W.specialIn K (.builtin "object.__class__") "__get__" = some (some (.builtin "getset_descriptor.__get__")))
    (tks_Ratio : PySem.W.takesIn K (.builtin "object.__class__") = some true)
    (mro_Ratio : PySem.W.mroIn K C_Ratio (.type "object") = some true)
    (ki_Ratio : PySem.W.kitOne K (.ref C_Ratio) (.type "int") = some false)
    (ik_Ratio : PySem.W.kitOne K (.type "int") (.ref C_Ratio) = some false)
    (n_top_Ratio : PySem.W.findIn K (.ref C_Ratio) "top" = some none)
    (n_bottom_Ratio : PySem.W.findIn K (.ref C_Ratio) "bottom" = some none)
    (sa_NoRatio : PySem.W.findIn K (.ref C_NoRatio) "__setattr__" = some (some (.builtin "object.__setattr__")))
    (ga_NoRatio : PySem.W.findIn K (.ref C_NoRatio) "__getattribute__" = some (some (.builtin "BaseException.__getattribute__")))
    (gg_NoRatio : PySem.W.findIn K (.ref C_NoRatio) "__getattr__" = some none)
    (cls_NoRatio : PySem.W.findIn K (.ref C_NoRatio) "__class__" = some (some (.builtin "object.__class__")))
    (gsd_NoRatio : PySem.W.specialIn K (.builtin "object.__class__") "__get__" = some (some (.builtin "getset_descriptor.__get__")))
    (tks_NoRatio : PySem.W.takesIn K (.builtin "object.__class__") = some true)
    (mro_NoRatio : PySem.W.mroIn K C_NoRatio (.type "object") = some true)
    (kC_NoRatio : PySem.W.keepIn K (.ref C_NoRatio) = true)
    (eC_NoRatio : PySem.W.subIn K (.ref C_NoRatio) (.type "BaseException") = some true)
    (tC_NoRatio : PySem.W.typeIn K (.ref C_NoRatio) = some (.type "type"))
    (hC_NoRatio : PySem.W.hasDictIn K C_NoRatio = true)
    (sC_NoRatio : PySem.W.subIn K (.ref C_NoRatio) (.ref C_NoRatio) = some true)
    (n_NoRatio_word : PySem.W.findIn K (.ref C_NoRatio) "word" = some none)
    (ti_NoRatio : PySem.W.typeIn K (.ref f0) = some (.type "function"))
    (fa_no_rpow : PySem.W.findIn K (.ref C_Ratio) "__rpow__" = some none)
    (z_isinstance : PySem.W.nsIn K mainGlobals "isinstance" = some none)
    (z_int : PySem.W.nsIn K mainGlobals "int" = some none)
    (z_bool : PySem.W.nsIn K mainGlobals "bool" = some none)
    (z_abs : PySem.W.nsIn K mainGlobals "abs" = some none)
    (z_len : PySem.W.nsIn K mainGlobals "len" = some none)
    (z_max : PySem.W.nsIn K mainGlobals "max" = some none)
    (z_range : PySem.W.nsIn K mainGlobals "range" = some none)
    (z_ValueError : PySem.W.nsIn K mainGlobals "ValueError" = some none)
    (gc_MOST_POWER : PySem.W.nsIn K mainGlobals "MOST_POWER" = some (some (.int 20 tok_MOST_POWER)))
    (j_gcd : PySem.W.nsIn K mainGlobals "gcd" = some (some (.builtin "math.gcd")))
    (dd26_27 : tP26 ≠ tP27)
    (dd26_28 : tP26 ≠ tP28)
    (dd27_28 : tP27 ≠ tP28)
    : LamX.LawAtS l w K CX0 11 63 "_law_script" mg fa h := by
  have e := hfa.symm.trans (PySem.W.mg_of X G a28)
  cases e
  have F0 := fun_mk (st := s_NoRatio___init__) l0 c0 k0
  have F1 : FunD K "__init__" "Ratio.__init__" (defArgs s_Ratio___init__) (defBody s_Ratio___init__) (defScope s_Ratio___init__) [.int 1] [] f1 _ := ⟨⟨_, _, _, _, _, _, _, _, _, _, rfl, l1, c1, .inr ⟨by simp, _, _, [.int 1 tt1_0], _, rfl, t1, rfl, .cons ⟨_, rfl⟩ (.nil)⟩, .inl rfl⟩, k1⟩
  have F2 := fun_mk (st := s_Ratio___floordiv__) l2 c2 k2
  have F3 := fun_mk (st := s_Ratio___rfloordiv__) l3 c3 k3
  have F4 := fun_mk (st := s_Ratio___mod__) l4 c4 k4
  have F5 := fun_mk (st := s_Ratio___rmod__) l5 c5 k5
  have F6 := fun_mk (st := s_Ratio___pow__) l6 c6 k6
  have F7 := fun_mk (st := s_Ratio_over) l7 c7 k7
  have F8 := fun_mk (st := s_Ratio_power) l8 c8 k8
  have F9 := fun_mk (st := s_is_whole) l9 c9 k9
  have F10 := fun_mk (st := s_is_number) l10 c10 k10
  have F11 := fun_mk (st := s_ratio_of) l11 c11 k11
  have F12 := fun_mk (st := s__difference) l12 c12 k12
  have F13 := fun_mk (st := s__product) l13 c13 k13
  have F14 := fun_mk (st := s__floor) l14 c14 k14
  have F15 := fun_mk (st := s__remainder) l15 c15 k15
  have F16 := fun_mk (st := s__law_is_integer) l16 c16 k16
  have F17 := fun_mk (st := s__law_feed) l17 c17 k17
  have F18 := fun_mk (st := s__law_take) l18 c18 k18
  have F19 := fun_mk (st := s__law_number) l19 c19 k19
  have F20 := fun_mk (st := s__law_pair) l20 c20 k20
  have F21 := fun_mk (st := s__law_word) l21 c21 k21
  have F22 := fun_mk (st := s__law_is) l22 c22 k22
  have F23 := fun_mk (st := s__law_floor) l23 c23 k23
  have F24 := fun_mk (st := s__law_rest) l24 c24 k24
  have F25 := fun_mk (st := s__law_power) l25 c25 k25
  have F26 : FunC K "_law_powers" "_law_powers" s__law_powers _ _ tC26 := ⟨⟨_, _, _, _, _, _, _, _, rfl, l26, c26⟩, k26⟩
  have F27 : FunC K "_law_zero" "_law_zero" s__law_zero _ _ tC27 := ⟨⟨_, _, _, _, _, _, _, _, rfl, l27, c27⟩, k27⟩
  have F28 : FunC K "law" "law" s_law _ _ tC28 := ⟨⟨_, _, _, _, _, _, _, _, rfl, l28, c28⟩, k28⟩
  let A : Ad := { Ratio := C_Ratio, NoRatio := C_NoRatio, MeansError := C_MeansError, f_NoRatio___init__ := f0, f_Ratio___init__ := f1, f_Ratio___floordiv__ := f2, f_Ratio___rfloordiv__ := f3, f_Ratio___mod__ := f4, f_Ratio___rmod__ := f5, f_Ratio___pow__ := f6, f_Ratio_over := f7, f_Ratio_power := f8, f_is_whole := f9, f_is_number := f10, f_ratio_of := f11, f__difference := f12, f__product := f13, f__floor := f14, f__remainder := f15, f__law_is_integer := f16, f__law_feed := f17, f__law_take := f18, f__law_number := f19, f__law_pair := f20, f__law_word := f21, f__law_is := f22, f__law_floor := f23, f__law_rest := f24, f__law_power := f25, f__law_powers := f26, f__law_zero := f27, f_law := fa, tC__law_powers := tC26, tP__law_powers := tP26, tC__law_zero := tC27, tP__law_zero := tP27, tC_law := tC28, tP_law := tP28 }
  let D : Fd := { f_NoRatio___init__ := PySem.W.fnOf "__init__" "NoRatio.__init__" (defArgs s_NoRatio___init__) (defBody s_NoRatio___init__) (defScope s_NoRatio___init__) .none kV0 dc0 pm0 an0 cd0 ct0, f_Ratio___init__ := PySem.W.fnOf "__init__" "Ratio.__init__" (defArgs s_Ratio___init__) (defBody s_Ratio___init__) (defScope s_Ratio___init__) (.ref T1) kV1 dc1 pm1 an1 cd1 ct1, f_Ratio___floordiv__ := PySem.W.fnOf "__floordiv__" "Ratio.__floordiv__" (defArgs s_Ratio___floordiv__) (defBody s_Ratio___floordiv__) (defScope s_Ratio___floordiv__) .none kV2 dc2 pm2 an2 cd2 ct2, f_Ratio___rfloordiv__ := PySem.W.fnOf "__rfloordiv__" "Ratio.__rfloordiv__" (defArgs s_Ratio___rfloordiv__) (defBody s_Ratio___rfloordiv__) (defScope s_Ratio___rfloordiv__) .none kV3 dc3 pm3 an3 cd3 ct3, f_Ratio___mod__ := PySem.W.fnOf "__mod__" "Ratio.__mod__" (defArgs s_Ratio___mod__) (defBody s_Ratio___mod__) (defScope s_Ratio___mod__) .none kV4 dc4 pm4 an4 cd4 ct4, f_Ratio___rmod__ := PySem.W.fnOf "__rmod__" "Ratio.__rmod__" (defArgs s_Ratio___rmod__) (defBody s_Ratio___rmod__) (defScope s_Ratio___rmod__) .none kV5 dc5 pm5 an5 cd5 ct5, f_Ratio___pow__ := PySem.W.fnOf "__pow__" "Ratio.__pow__" (defArgs s_Ratio___pow__) (defBody s_Ratio___pow__) (defScope s_Ratio___pow__) .none kV6 dc6 pm6 an6 cd6 ct6, f_Ratio_over := PySem.W.fnOf "over" "Ratio.over" (defArgs s_Ratio_over) (defBody s_Ratio_over) (defScope s_Ratio_over) .none kV7 dc7 pm7 an7 cd7 ct7, f_Ratio_power := PySem.W.fnOf "power" "Ratio.power" (defArgs s_Ratio_power) (defBody s_Ratio_power) (defScope s_Ratio_power) .none kV8 dc8 pm8 an8 cd8 ct8, f_is_whole := PySem.W.fnOf "is_whole" "is_whole" (defArgs s_is_whole) (defBody s_is_whole) (defScope s_is_whole) .none kV9 dc9 pm9 an9 cd9 ct9, f_is_number := PySem.W.fnOf "is_number" "is_number" (defArgs s_is_number) (defBody s_is_number) (defScope s_is_number) .none kV10 dc10 pm10 an10 cd10 ct10, f_ratio_of := PySem.W.fnOf "ratio_of" "ratio_of" (defArgs s_ratio_of) (defBody s_ratio_of) (defScope s_ratio_of) .none kV11 dc11 pm11 an11 cd11 ct11, f__difference := PySem.W.fnOf "_difference" "_difference" (defArgs s__difference) (defBody s__difference) (defScope s__difference) .none kV12 dc12 pm12 an12 cd12 ct12, f__product := PySem.W.fnOf "_product" "_product" (defArgs s__product) (defBody s__product) (defScope s__product) .none kV13 dc13 pm13 an13 cd13 ct13, f__floor := PySem.W.fnOf "_floor" "_floor" (defArgs s__floor) (defBody s__floor) (defScope s__floor) .none kV14 dc14 pm14 an14 cd14 ct14, f__remainder := PySem.W.fnOf "_remainder" "_remainder" (defArgs s__remainder) (defBody s__remainder) (defScope s__remainder) .none kV15 dc15 pm15 an15 cd15 ct15, f__law_is_integer := PySem.W.fnOf "_law_is_integer" "_law_is_integer" (defArgs s__law_is_integer) (defBody s__law_is_integer) (defScope s__law_is_integer) .none kV16 dc16 pm16 an16 cd16 ct16, f__law_feed := PySem.W.fnOf "_law_feed" "_law_feed" (defArgs s__law_feed) (defBody s__law_feed) (defScope s__law_feed) .none kV17 dc17 pm17 an17 cd17 ct17, f__law_take := PySem.W.fnOf "_law_take" "_law_take" (defArgs s__law_take) (defBody s__law_take) (defScope s__law_take) .none kV18 dc18 pm18 an18 cd18 ct18, f__law_number := PySem.W.fnOf "_law_number" "_law_number" (defArgs s__law_number) (defBody s__law_number) (defScope s__law_number) .none kV19 dc19 pm19 an19 cd19 ct19, f__law_pair := PySem.W.fnOf "_law_pair" "_law_pair" (defArgs s__law_pair) (defBody s__law_pair) (defScope s__law_pair) .none kV20 dc20 pm20 an20 cd20 ct20, f__law_word := PySem.W.fnOf "_law_word" "_law_word" (defArgs s__law_word) (defBody s__law_word) (defScope s__law_word) .none kV21 dc21 pm21 an21 cd21 ct21, f__law_is := PySem.W.fnOf "_law_is" "_law_is" (defArgs s__law_is) (defBody s__law_is) (defScope s__law_is) .none kV22 dc22 pm22 an22 cd22 ct22, f__law_floor := PySem.W.fnOf "_law_floor" "_law_floor" (defArgs s__law_floor) (defBody s__law_floor) (defScope s__law_floor) .none kV23 dc23 pm23 an23 cd23 ct23, f__law_rest := PySem.W.fnOf "_law_rest" "_law_rest" (defArgs s__law_rest) (defBody s__law_rest) (defScope s__law_rest) .none kV24 dc24 pm24 an24 cd24 ct24, f__law_power := PySem.W.fnOf "_law_power" "_law_power" (defArgs s__law_power) (defBody s__law_power) (defScope s__law_power) .none kV25 dc25 pm25 an25 cd25 ct25, f__law_powers := PySem.W.fnOf "_law_powers" "_law_powers" (defArgs s__law_powers) (defBody s__law_powers) (defScope s__law_powers) .none kV26 dc26 pm26 an26 (.ref tC26) ct26, f__law_zero := PySem.W.fnOf "_law_zero" "_law_zero" (defArgs s__law_zero) (defBody s__law_zero) (defScope s__law_zero) .none kV27 dc27 pm27 an27 (.ref tC27) ct27, f_law := PySem.W.fnOf "law" "law" (defArgs s_law) (defBody s_law) (defScope s_law) .none kV28 dc28 pm28 an28 (.ref tC28) ct28 }
  have T : Txt K mg A D := {
    g_Ratio := PySem.W.mg_of X G g_Ratio,
    kp_Ratio := kc_Ratio,
    M_Ratio := ⟨mk_Ratio, a1, i1, kc_Ratio⟩,
    k_Ratio := ⟨⟨pg_Ratio, hd_Ratio, po_Ratio, sa_Ratio⟩, ⟨sf_Ratio, s1_Ratio, s2_Ratio⟩, cls_Ratio, gsd_Ratio, tks_Ratio, mro_Ratio, ki_Ratio, ik_Ratio, n_top_Ratio, n_bottom_Ratio⟩,
    g_MeansError := PySem.W.mg_of X G g_MeansError,
    g_NoRatio := PySem.W.mg_of X G g_NoRatio,
    o_NoRatio := ⟨⟨_, _, _, _, _, _, _, _, _, _, _, _, _, _, _, xL_NoRatio, rfl⟩, sa_NoRatio, eC_NoRatio, tC_NoRatio, kC_NoRatio⟩,
    x_NoRatio := ⟨ga_NoRatio, gg_NoRatio, eC_NoRatio, hC_NoRatio⟩,
    c_NoRatio := ⟨ga_NoRatio, gg_NoRatio, eC_NoRatio, hC_NoRatio, cls_NoRatio, gsd_NoRatio, tks_NoRatio, mro_NoRatio⟩,
    em_NoRatio := PySem.W.exm_ref eC_NoRatio hC_NoRatio tC_NoRatio sC_NoRatio,
    n_NoRatio_word := n_NoRatio_word,
    i_NoRatio := a0,
    ti_NoRatio := ti_NoRatio,
    no_rpow := fa_no_rpow,
    F_NoRatio___init__ := F0,
    b_NoRatio___init__ := F0.binds fun _ _ _ _ _ _ us hl => match us, hl with | [_, _], _ => rfl,
    m_NoRatio___init__ := ⟨a0, i0, k0⟩,
    F_Ratio___init__ := F1,
    b_Ratio___init__ := by obtain ⟨ds, r, b⟩ := F1.binds1 (ps := ["self", "top", "bottom"]) 3 1 (by simp) rfl (fun _ _ _ _ _ _ _ us its h1 h2 => match us, h1, its, h2 with | [_, _, _], _, [_], _ => ⟨_, rfl, by first | rfl | with_unfolding_all rfl | kernel_rfl⟩); cases r; exact b,
    b1_Ratio___init__ := F1.binds1 (ps := ["self", "top", "bottom"]) 2 0 (by simp) rfl (fun _ _ _ _ _ _ _ us its h1 h2 => match us, h1, its, h2 with | [_, _], _, [_], _ => ⟨_, rfl, by first | rfl | with_unfolding_all rfl | kernel_rfl⟩),
    m_Ratio___init__ := ⟨a1, i1, k1⟩,
    F_Ratio___floordiv__ := F2,
    b_Ratio___floordiv__ := F2.binds fun _ _ _ _ _ _ us hl => match us, hl with | [_, _], _ => rfl,
    m_Ratio___floordiv__ := ⟨a2, i2, k2⟩,
    F_Ratio___rfloordiv__ := F3,
    b_Ratio___rfloordiv__ := F3.binds fun _ _ _ _ _ _ us hl => match us, hl with | [_, _], _ => rfl,
    m_Ratio___rfloordiv__ := ⟨a3, i3, k3⟩,
    F_Ratio___mod__ := F4,
    b_Ratio___mod__ := F4.binds fun _ _ _ _ _ _ us hl => match us, hl with | [_, _], _ => rfl,
    m_Ratio___mod__ := ⟨a4, i4, k4⟩,
    F_Ratio___rmod__ := F5,
    b_Ratio___rmod__ := F5.binds fun _ _ _ _ _ _ us hl => match us, hl with | [_, _], _ => rfl,
    m_Ratio___rmod__ := ⟨a5, i5, k5⟩,
    F_Ratio___pow__ := F6,
    b_Ratio___pow__ := F6.binds fun _ _ _ _ _ _ us hl => match us, hl with | [_, _], _ => rfl,
    m_Ratio___pow__ := ⟨a6, i6, k6⟩,
    F_Ratio_over := F7,
    b_Ratio_over := F7.binds fun _ _ _ _ _ _ us hl => match us, hl with | [_, _], _ => rfl,
    m_Ratio_over := ⟨a7, i7, k7⟩,
    F_Ratio_power := F8,
    b_Ratio_power := F8.binds fun _ _ _ _ _ _ us hl => match us, hl with | [_, _], _ => rfl,
    m_Ratio_power := ⟨a8, i8, k8⟩,
    F_is_whole := F9,
    b_is_whole := F9.binds fun _ _ _ _ _ _ us hl => match us, hl with | [_], _ => rfl,
    g_is_whole := PySem.W.mg_of X G a9,
    F_is_number := F10,
    b_is_number := F10.binds fun _ _ _ _ _ _ us hl => match us, hl with | [_], _ => rfl,
    g_is_number := PySem.W.mg_of X G a10,
    F_ratio_of := F11,
    b_ratio_of := F11.binds fun _ _ _ _ _ _ us hl => match us, hl with | [_], _ => rfl,
    g_ratio_of := PySem.W.mg_of X G a11,
    F__difference := F12,
    b__difference := F12.binds fun _ _ _ _ _ _ us hl => match us, hl with | [_, _], _ => rfl,
    g__difference := PySem.W.mg_of X G a12,
    F__product := F13,
    b__product := F13.binds fun _ _ _ _ _ _ us hl => match us, hl with | [_, _], _ => rfl,
    g__product := PySem.W.mg_of X G a13,
    F__floor := F14,
    b__floor := F14.binds fun _ _ _ _ _ _ us hl => match us, hl with | [_, _], _ => rfl,
    g__floor := PySem.W.mg_of X G a14,
    F__remainder := F15,
    b__remainder := F15.binds fun _ _ _ _ _ _ us hl => match us, hl with | [_, _], _ => rfl,
    g__remainder := PySem.W.mg_of X G a15,
    F__law_is_integer := F16,
    b__law_is_integer := F16.binds fun _ _ _ _ _ _ us hl => match us, hl with | [_], _ => rfl,
    g__law_is_integer := PySem.W.mg_of X G a16,
    F__law_feed := F17,
    b__law_feed := F17.binds fun _ _ _ _ _ _ us hl => match us, hl with | [_], _ => rfl,
    g__law_feed := PySem.W.mg_of X G a17,
    F__law_take := F18,
    b__law_take := F18.binds fun _ _ _ _ _ _ us hl => match us, hl with | [_, _], _ => rfl,
    g__law_take := PySem.W.mg_of X G a18,
    F__law_number := F19,
    b__law_number := F19.binds fun _ _ _ _ _ _ us hl => match us, hl with | [_, _], _ => rfl,
    g__law_number := PySem.W.mg_of X G a19,
    F__law_pair := F20,
    b__law_pair := F20.binds fun _ _ _ _ _ _ us hl => match us, hl with | [_, _], _ => rfl,
    g__law_pair := PySem.W.mg_of X G a20,
    F__law_word := F21,
    b__law_word := F21.binds fun _ _ _ _ _ _ us hl => match us, hl with | [_], _ => rfl,
    g__law_word := PySem.W.mg_of X G a21,
    F__law_is := F22,
    b__law_is := F22.binds fun _ _ _ _ _ _ us hl => match us, hl with | [_, _, _], _ => rfl,
    g__law_is := PySem.W.mg_of X G a22,
    F__law_floor := F23,
    b__law_floor := F23.binds fun _ _ _ _ _ _ us hl => match us, hl with | [_, _, _], _ => rfl,
    g__law_floor := PySem.W.mg_of X G a23,
    F__law_rest := F24,
    b__law_rest := F24.binds fun _ _ _ _ _ _ us hl => match us, hl with | [_, _, _, _], _ => rfl,
    g__law_rest := PySem.W.mg_of X G a24,
    F__law_power := F25,
    b__law_power := F25.binds fun _ _ _ _ _ _ us hl => match us, hl with | [_, _, _], _ => rfl,
    g__law_power := PySem.W.mg_of X G a25,
    F__law_powers := F26,
    b__law_powers := F26.fn.binds fun _ _ _ _ _ _ us hl => match us, hl with | [_, _, _], _ => rfl,
    g__law_powers := PySem.W.mg_of X G a26,
    F__law_zero := F27,
    b__law_zero := F27.fn.binds fun _ _ _ _ _ _ us hl => match us, hl with | [_, _], _ => rfl,
    g__law_zero := PySem.W.mg_of X G a27,
    F_law := F28,
    b_law := F28.fn.binds fun _ _ _ _ _ _ us hl => match us, hl with | [_], _ => rfl,
    g_law := PySem.W.mg_of X G a28,
    z_isinstance := PySem.W.mg_none_of X G z_isinstance,
    z_int := PySem.W.mg_none_of X G z_int,
    z_bool := PySem.W.mg_none_of X G z_bool,
    z_abs := PySem.W.mg_none_of X G z_abs,
    z_len := PySem.W.mg_none_of X G z_len,
    z_max := PySem.W.mg_none_of X G z_max,
    z_range := PySem.W.mg_none_of X G z_range,
    z_ValueError := PySem.W.mg_none_of X G z_ValueError,
    g_MOST_POWER := ⟨_, PySem.W.mg_of X G gc_MOST_POWER⟩,
    g_gcd := PySem.W.mg_of X G j_gcd,
    d__law_powers__law_zero := dd26_27,
    d__law_powers_law := dd26_28,
    d__law_zero_law := dd27_28 }
  have e1 : ∀ p ∈ csL A, h.get? p.2 = some { cls := .none, data := .fields #[] } := fun p hp => by
    simp only [csL, List.mem_cons, List.not_mem_nil, or_false] at hp
    rcases hp with h | h | h <;> subst h
    · exact ht26
    · exact ht27
    · exact ht28
  have e2 : ∀ p ∈ csL A, K.lookup p.2 = none := fun p hp => by
    simp only [csL, List.mem_cons, List.not_mem_nil, or_false] at hp
    rcases hp with h | h | h <;> subst h
    · exact nt26
    · exact nt27
    · exact nt28
  have e3 : ∀ p ∈ csL A, PySem.W.CodeHd h p.1 p.2 := fun p hp => by
    simp only [csL, List.mem_cons, List.not_mem_nil, or_false] at hp
    rcases hp with h | h | h <;> subst h
    · exact ch26
    · exact ch27
    · exact ch28
  refine ⟨PySem.W.fnOf "law" "law" (defArgs s_law) (defBody s_law) (defScope s_law) .none kV28 dc28 pm28 an28 (.ref tC28) ct28, csL A, sp_law K A, e1, e2, e3, fun s v => .of_eq rfl, fun H a ns hl _ hT hS => ⟨a, ns, rfl, hS, hl, tabs_nil hT, fun _ => rfl⟩, fun base _ _ B => ok_law (A := A) (D := D) T B⟩
end Mo
open PySem PySem.W PyProof.Rows
set_option maxRecDepth 100000 in
set_option maxHeartbeats 0 in
theorem PySem.Challenge.cw_momentrows_k03_ratio_quotients_and_power_holds : PySem.Challenge.rw_momentrows_k03_ratio_quotients_and_power.Holds := by
  w_on; o_law; k_head; (case hw => w_witness2)
  k_fill
  refine LamX.walk_ofTs (l := PySem.Challenge.rw_momentrows_k03_ratio_quotients_and_power) (n := 63) (k := 11) (x := "_law_script") (CX := fun _ => L2.CX0) rfl (by decide) rfl ⟨rfl, by decide, by decide⟩ (fun w h Y => PySem.W.km_in_of Y) ?F (fun _ _ _ _ _ h => h)
  case F =>
    intro w mg fa h Y KX G hmg
    have tabs := PySem.W.km_tabs_of Y
    refine' Mo.all_mk KX G hmg ?g_Ratio ?g_NoRatio ?g_MeansError ?xL_NoRatio ?a0 ?i0 ?l0 ?c0 ?k0 ?a1 ?i1 ?l1 ?c1 ?k1 ?t1 ?a2 ?i2 ?l2 ?c2 ?k2 ?a3 ?i3 ?l3 ?c3 ?k3 ?a4 ?i4 ?l4 ?c4 ?k4 ?a5 ?i5 ?l5 ?c5 ?k5 ?a6 ?i6 ?l6 ?c6 ?k6 ?a7 ?i7 ?l7 ?c7 ?k7 ?a8 ?i8 ?l8 ?c8 ?k8 ?a9 ?l9 ?c9 ?k9 ?a10 ?l10 ?c10 ?k10 ?a11 ?l11 ?c11 ?k11 ?a12 ?l12 ?c12 ?k12 ?a13 ?l13 ?c13 ?k13 ?a14 ?l14 ?c14 ?k14 ?a15 ?l15 ?c15 ?k15 ?a16 ?l16 ?c16 ?k16 ?a17 ?l17 ?c17 ?k17 ?a18 ?l18 ?c18 ?k18 ?a19 ?l19 ?c19 ?k19 ?a20 ?l20 ?c20 ?k20 ?a21 ?l21 ?c21 ?k21 ?a22 ?l22 ?c22 ?k22 ?a23 ?l23 ?c23 ?k23 ?a24 ?l24 ?c24 ?k24 ?a25 ?l25 ?c25 ?k25 ?a26 ?l26 ?ch26 ?ht26 ?nt26 ?c26 ?k26 ?a27 ?l27 ?ch27 ?ht27 ?nt27 ?c27 ?k27 ?a28 ?l28 ?ch28 ?ht28 ?nt28 ?c28 ?k28 ?pg_Ratio ?hd_Ratio ?po_Ratio ?sa_Ratio ?mk_Ratio ?kc_Ratio ?sf_Ratio ?s1_Ratio ?s2_Ratio ?cls_Ratio ?gsd_Ratio ?tks_Ratio ?mro_Ratio ?ki_Ratio ?ik_Ratio ?n_top_Ratio ?n_bottom_Ratio ?sa_NoRatio ?ga_NoRatio ?gg_NoRatio ?cls_NoRatio ?gsd_NoRatio ?tks_NoRatio ?mro_NoRatio ?kC_NoRatio ?eC_NoRatio ?tC_NoRatio ?hC_NoRatio ?sC_NoRatio ?n_NoRatio_word ?ti_NoRatio ?fa_no_rpow ?z_isinstance ?z_int ?z_bool ?z_abs ?z_len ?z_max ?z_range ?z_ValueError ?gc_MOST_POWER ?j_gcd ?dd26_27 ?dd26_28 ?dd27_28
    (case g_Ratio => k_is)
    (case g_NoRatio => k_is)
    (case g_MeansError => k_is)
    (case xL_NoRatio => k_is)
    (case a0 => k_is)
    (case i0 => k_is)
    (case l0 => k_is)
    (case c0 => k_is)
    (case k0 => k_is)
    (case a1 => k_is)
    (case i1 => k_is)
    (case l1 => k_is)
    (case c1 => k_is)
    (case k1 => k_is)
    (case t1 => k_is)
    (case a2 => k_is)
    (case i2 => k_is)
    (case l2 => k_is)
    (case c2 => k_is)
    (case k2 => k_is)
    (case a3 => k_is)
    (case i3 => k_is)
    (case l3 => k_is)
    (case c3 => k_is)
    (case k3 => k_is)
    (case a4 => k_is)
    (case i4 => k_is)
    (case l4 => k_is)
    (case c4 => k_is)
    (case k4 => k_is)
    (case a5 => k_is)
    (case i5 => k_is)
    (case l5 => k_is)
    (case c5 => k_is)
    (case k5 => k_is)
    (case a6 => k_is)
    (case i6 => k_is)
    (case l6 => k_is)
    (case c6 => k_is)
    (case k6 => k_is)
    (case a7 => k_is)
    (case i7 => k_is)
    (case l7 => k_is)
    (case c7 => k_is)
    (case k7 => k_is)
    (case a8 => k_is)
    (case i8 => k_is)
    (case l8 => k_is)
    (case c8 => k_is)
    (case k8 => k_is)
    (case a9 => k_is)
    (case l9 => k_is)
    (case c9 => k_is)
    (case k9 => k_is)
    (case a10 => k_is)
    (case l10 => k_is)
    (case c10 => k_is)
    (case k10 => k_is)
    (case a11 => k_is)
    (case l11 => k_is)
    (case c11 => k_is)
    (case k11 => k_is)
    (case a12 => k_is)
    (case l12 => k_is)
    (case c12 => k_is)
    (case k12 => k_is)
    (case a13 => k_is)
    (case l13 => k_is)
    (case c13 => k_is)
    (case k13 => k_is)
    (case a14 => k_is)
    (case l14 => k_is)
    (case c14 => k_is)
    (case k14 => k_is)
    (case a15 => k_is)
    (case l15 => k_is)
    (case c15 => k_is)
    (case k15 => k_is)
    (case a16 => k_is)
    (case l16 => k_is)
    (case c16 => k_is)
    (case k16 => k_is)
    (case a17 => k_is)
    (case l17 => k_is)
    (case c17 => k_is)
    (case k17 => k_is)
    (case a18 => k_is)
    (case l18 => k_is)
    (case c18 => k_is)
    (case k18 => k_is)
    (case a19 => k_is)
    (case l19 => k_is)
    (case c19 => k_is)
    (case k19 => k_is)
    (case a20 => k_is)
    (case l20 => k_is)
    (case c20 => k_is)
    (case k20 => k_is)
    (case a21 => k_is)
    (case l21 => k_is)
    (case c21 => k_is)
    (case k21 => k_is)
    (case a22 => k_is)
    (case l22 => k_is)
    (case c22 => k_is)
    (case k22 => k_is)
    (case a23 => k_is)
    (case l23 => k_is)
    (case c23 => k_is)
    (case k23 => k_is)
    (case a24 => k_is)
    (case l24 => k_is)
    (case c24 => k_is)
    (case k24 => k_is)
    (case a25 => k_is)
    (case l25 => k_is)
    (case c25 => k_is)
    (case k25 => k_is)
    (case a26 => k_is)
    (case l26 => k_is)
    (case ch26 => exact PySem.W.codeHd_of_K (P := 400) KX (by kernel_rfl))
    (case ht26 => exact tabs _ (by simp))
    (case nt26 => first | rfl | kernel_rfl | k_is)
    (case c26 => k_is)
    (case k26 => k_is)
    (case a27 => k_is)
    (case l27 => k_is)
    (case ch27 => exact PySem.W.codeHd_of_K (P := 407) KX (by kernel_rfl))
    (case ht27 => exact tabs _ (by simp))
    (case nt27 => first | rfl | kernel_rfl | k_is)
    (case c27 => k_is)
    (case k27 => k_is)
    (case a28 => k_is)
    (case l28 => k_is)
    (case ch28 => exact PySem.W.codeHd_of_K (P := 414) KX (by kernel_rfl))
    (case ht28 => exact tabs _ (by simp))
    (case nt28 => first | rfl | kernel_rfl | k_is)
    (case c28 => k_is)
    (case k28 => k_is)
    (case pg_Ratio => k_is)
    (case hd_Ratio => k_is)
    (case po_Ratio => k_is)
    (case sa_Ratio => k_is)
    (case mk_Ratio => k_is)
    (case kc_Ratio => k_is)
    (case sf_Ratio => k_is)
    (case s1_Ratio => k_is)
    (case s2_Ratio => k_is)
    (case cls_Ratio => k_is)
    (case gsd_Ratio => k_is)
    (case tks_Ratio => k_is)
    (case mro_Ratio => k_is)
    (case ki_Ratio => first | kit_is | k_is)
    (case ik_Ratio => first | kit_is | k_is)
    (case n_top_Ratio => k_is)
    (case n_bottom_Ratio => k_is)
    (case sa_NoRatio => k_is)
    (case ga_NoRatio => k_is)
    (case gg_NoRatio => k_is)
    (case cls_NoRatio => k_is)
    (case gsd_NoRatio => k_is)
    (case tks_NoRatio => k_is)
    (case mro_NoRatio => k_is)
    (case kC_NoRatio => k_is)
    (case eC_NoRatio => k_is)
    (case tC_NoRatio => k_is)
    (case hC_NoRatio => k_is)
    (case sC_NoRatio => first | rfl | k_is)
    (case n_NoRatio_word => k_is)
    (case ti_NoRatio => k_is)
    (case fa_no_rpow => k_is)
    (case z_isinstance => k_is)
    (case z_int => k_is)
    (case z_bool => k_is)
    (case z_abs => k_is)
    (case z_len => k_is)
    (case z_max => k_is)
    (case z_range => k_is)
    (case z_ValueError => k_is)
    (case gc_MOST_POWER => k_is)
    (case j_gcd => k_is)
    (case dd26_27 => decide)
    (case dd26_28 => decide)
    (case dd27_28 => decide)

