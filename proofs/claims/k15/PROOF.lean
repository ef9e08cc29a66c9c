import PyProof.Rows.All
import Wide.All
import OpenK.AllK
import Wide.FinOn
import HandS.Comp
import HandS.Words
import HandS.WordsList
import HandS.Exc
import HandS.Wide
import HandS.IsInst
import HandS.OwnEq
import HandS.Gcd
import HandS.Style
import HandS.Defaults
import HandS.Codes
import HandS.WordsExc
import HandS.ExcInit
import HandS.ExcOwn
import HandS.ExcField
import HandS.ExcIs
import HandS.MakeKw
import HandS.MakeKwOnly
import KE.KExcIs
import HandS.EndTab
import PySem.Challenge.RW_momentrows_k15_places
set_option Elab.async false
set_option linter.all false
set_option maxRecDepth 100000
set_option maxHeartbeats 4000000
/-! # Operators of own classes, on either side of an int (my own layer over HandS) -/
namespace MoW
open PySem PySem.W
section
variable {prog : Program} {w : World} {A : Around} {E : Value → Shared → Prop} {s : Shared}
theorem int_eq_no (i : Int) (t : Tok) (l C dx : Addr) :
    Meets (Builtin.«int.__eq__» ⟨[.int i t, .ref l], []⟩) (fun _ R s => s.heap.get? l = some (PySem.W.instObj C dx) ∧ R (.ok (.ret .notImplemented)) s) :=
  .of_wp fun prog w A R s h => by obtain ⟨hp, g, d, tk, os⟩ := s; obtain ⟨hl, h⟩ := h; unfold PySem.W.instObj at hl; wp_walk using wpAny_loadPart' hl, wpAny_load hl; exact ⟨_, rfl, h⟩
theorem int_ne_no (i : Int) (t : Tok) (l C dx : Addr) :
    Meets (Builtin.«int.__ne__» ⟨[.int i t, .ref l], []⟩) (fun _ R s => s.heap.get? l = some (PySem.W.instObj C dx) ∧ R (.ok (.ret .notImplemented)) s) :=
  .of_wp fun prog w A R s h => by obtain ⟨hp, g, d, tk, os⟩ := s; obtain ⟨hl, h⟩ := h; unfold PySem.W.instObj at hl; wp_walk using wpAny_loadPart' hl, wpAny_load hl; exact ⟨_, rfl, h⟩
theorem int_lt_no (i : Int) (t : Tok) (l C dx : Addr) :
    Meets (Builtin.«int.__lt__» ⟨[.int i t, .ref l], []⟩) (fun _ R s => s.heap.get? l = some (PySem.W.instObj C dx) ∧ R (.ok (.ret .notImplemented)) s) :=
  .of_wp fun prog w A R s h => by obtain ⟨hp, g, d, tk, os⟩ := s; obtain ⟨hl, h⟩ := h; unfold PySem.W.instObj at hl; wp_walk using wpAny_loadPart' hl, wpAny_load hl; exact ⟨_, rfl, h⟩
theorem int_le_no (i : Int) (t : Tok) (l C dx : Addr) :
    Meets (Builtin.«int.__le__» ⟨[.int i t, .ref l], []⟩) (fun _ R s => s.heap.get? l = some (PySem.W.instObj C dx) ∧ R (.ok (.ret .notImplemented)) s) :=
  .of_wp fun prog w A R s h => by obtain ⟨hp, g, d, tk, os⟩ := s; obtain ⟨hl, h⟩ := h; unfold PySem.W.instObj at hl; wp_walk using wpAny_loadPart' hl, wpAny_load hl; exact ⟨_, rfl, h⟩
theorem int_gt_no (i : Int) (t : Tok) (l C dx : Addr) :
    Meets (Builtin.«int.__gt__» ⟨[.int i t, .ref l], []⟩) (fun _ R s => s.heap.get? l = some (PySem.W.instObj C dx) ∧ R (.ok (.ret .notImplemented)) s) :=
  .of_wp fun prog w A R s h => by obtain ⟨hp, g, d, tk, os⟩ := s; obtain ⟨hl, h⟩ := h; unfold PySem.W.instObj at hl; wp_walk using wpAny_loadPart' hl, wpAny_load hl; exact ⟨_, rfl, h⟩
theorem int_ge_no (i : Int) (t : Tok) (l C dx : Addr) :
    Meets (Builtin.«int.__ge__» ⟨[.int i t, .ref l], []⟩) (fun _ R s => s.heap.get? l = some (PySem.W.instObj C dx) ∧ R (.ok (.ret .notImplemented)) s) :=
  .of_wp fun prog w A R s h => by obtain ⟨hp, g, d, tk, os⟩ := s; obtain ⟨hl, h⟩ := h; unfold PySem.W.instObj at hl; wp_walk using wpAny_loadPart' hl, wpAny_load hl; exact ⟨_, rfl, h⟩
theorem int_add_no (i : Int) (t : Tok) (l C dx : Addr) :
    Meets (Builtin.«int.__add__» ⟨[.int i t, .ref l], []⟩) (fun _ R s => s.heap.get? l = some (PySem.W.instObj C dx) ∧ R (.ok (.ret .notImplemented)) s) :=
  .of_wp fun prog w A R s h => by obtain ⟨hp, g, d, tk, os⟩ := s; obtain ⟨hl, h⟩ := h; unfold PySem.W.instObj at hl; wp_walk using wpAny_loadPart' hl, wpAny_load hl; exact ⟨_, rfl, h⟩
theorem int_sub_no (i : Int) (t : Tok) (l C dx : Addr) :
    Meets (Builtin.«int.__sub__» ⟨[.int i t, .ref l], []⟩) (fun _ R s => s.heap.get? l = some (PySem.W.instObj C dx) ∧ R (.ok (.ret .notImplemented)) s) :=
  .of_wp fun prog w A R s h => by obtain ⟨hp, g, d, tk, os⟩ := s; obtain ⟨hl, h⟩ := h; unfold PySem.W.instObj at hl; wp_walk using wpAny_loadPart' hl, wpAny_load hl; exact ⟨_, rfl, h⟩
theorem int_mul_no (i : Int) (t : Tok) (l C dx : Addr) :
    Meets (Builtin.«int.__mul__» ⟨[.int i t, .ref l], []⟩) (fun _ R s => s.heap.get? l = some (PySem.W.instObj C dx) ∧ R (.ok (.ret .notImplemented)) s) :=
  .of_wp fun prog w A R s h => by obtain ⟨hp, g, d, tk, os⟩ := s; obtain ⟨hl, h⟩ := h; unfold PySem.W.instObj at hl; wp_walk using wpAny_loadPart' hl, wpAny_load hl; exact ⟨_, rfl, h⟩
theorem int_mod_no (i : Int) (t : Tok) (l C dx : Addr) :
    Meets (Builtin.«int.__mod__» ⟨[.int i t, .ref l], []⟩) (fun _ R s => s.heap.get? l = some (PySem.W.instObj C dx) ∧ R (.ok (.ret .notImplemented)) s) :=
  .of_wp fun prog w A R s h => by obtain ⟨hp, g, d, tk, os⟩ := s; obtain ⟨hl, h⟩ := h; unfold PySem.W.instObj at hl; wp_walk using wpAny_loadPart' hl, wpAny_load hl; exact ⟨_, rfl, h⟩
end
end MoW

namespace MoW
open PySem PySem.W PyProof.Rows
section
variable {prog : Program} {w : World} {A : Around} {E : Value → Shared → Prop} {s : Shared} {K : Frag} {x C L f : Addr} {h₀ : Heap} {m : Str → Option Value} {dx : Addr} {od : Option Obj} {i : Int} {t : Tok}

theorem looks_int {M : Model} {h : Heap} : Looks M h (typeOf (.int i t)) (.type "int") := Looks.of_pure rfl

/-- an int compared with an instance: int says it can't, the instance's own mirrored method answers -/
theorem cmp_int_own {op : CmpOp} {id : String} {Q : Value → Shared → Prop} (hu : A.units < cLine) (F : Fr h₀ L s.heap m) (X₀ : K.In h₀) (I : InstAt s.heap x (instObj C dx) C od)
    (hn : subIn K (.ref C) (.type "int") = some false) (h1 : Slot "int" (cmpInfo op).2.1 id)
    (hno : ∀ Q' : Value → Shared → Prop, Q' .notImplemented s → wpAny (model prog w) A (call (.builtin id) [.int i t, .ref x]) Q' E s)
    (hs : findIn K (.ref C) (cmpInfo op).2.2 = some (some (.ref f))) (hf : isFn K (.ref f) = true)
    (h : wpAny (model prog w) A (call (.ref f) [.ref x, .int i t]) (W.CmpBack Q) E s) : wpAny (model prog w) A (richCompare op (.int i t) (.ref x)) Q E s := by
  have X := X₀.keeps F.keep
  have one : wpAny (model prog w) A (tryCompare (.ref x) (cmpInfo op).2.2 (.int i t)) (fun r s' => ∃ v, r = some v ∧ Q v s') E s := by
    unfold tryCompare
    refine wpAny_bind (ifBound_K X I hs hf (wpAny_mono h (fun v s' hv => ?_) fun _ _ e => e))
    cases v <;> first | exact hv.elim | exact wpAny_pure ⟨_, rfl, hv⟩
  unfold richCompare
  simp only [(typeIs_int s i t).oneThing_none]
  refine wpAny_holding (wpAny_bind (wpAny_cRoomFor hu ?_))
  refine wpAny_bind (wpAny_typeOf (typeIs_int s i t) (wpAny_bind (I.type.here ?_)))
  have hne : (Value.type "int" != Value.ref C) = true := rfl
  simp only [hne, if_true]
  refine wpAny_bind ((looks_subIn X hn).here ?_)
  simp only [Bool.false_eq_true, if_false, Bool.not_false, if_true]
  refine wpAny_bind (m := tryCompare (.int i t) _ (.ref x)) (wpAny_tryCompare_declines (typeIs_int s i t) h1 (hno _ ⟨rfl, ?_⟩))
  refine wpAny_bind (m := tryCompare (.ref x) _ (.int i t)) (wpAny_mono one (fun r s' z => ?_) fun _ _ e => e)
  obtain ⟨v, rfl, hq⟩ := z
  exact wpAny_pure hq

theorem mro_first {cd : ClassData} (hc : selfFirst K C = true) : ∃ cd rest, clsIn K C = some cd ∧ cd.mro = .ref C :: rest := by
  obtain ⟨cd, hcd, hm⟩ := any_some hc
  refine ⟨cd, ?_⟩
  cases q : cd.mro with
  | nil => rw [q] at hm; cases hm
  | cons a r => rw [q] at hm; exact ⟨r, hcd, by rw [List.head?_cons] at hm; cases (beq_iff_eq.mp hm); rfl⟩

/-- an int beside an instance: int says it can't, the instance's own reflected method answers -/
theorem bin_int_own {op : Operator} {id : String} {g : Addr} {Q : Value → Shared → Prop} (F : Fr h₀ L s.heap m) (X₀ : K.In h₀) (I : InstAt s.heap x (instObj C dx) C od)
    (hc : selfFirst K C = true) (hn : subIn K (.ref C) (.type "int") = some false) (h1 : Slot "int" (PySem.dunder op.info.2) id) (hfi : fillsNumberSlot (.type "int") op.info.2 = pure true)
    (hno : ∀ Q' : Value → Shared → Prop, Q' .notImplemented s → wpAny (model prog w) A (call (.builtin id) [.int i t, .ref x]) Q' E s)
    (hd : findIn K (.ref C) (PySem.dunder op.info.2) = some (some (.ref g)))
    (hs : findIn K (.ref C) (dunderR op.info.2) = some (some (.ref f))) (hf : isFn K (.ref f) = true)
    (h : wpAny (model prog w) A (call (.ref f) [.ref x, .int i t]) (W.CmpBack Q) E s) : wpAny (model prog w) A (binaryOp op (.int i t) (.ref x)) Q E s := by
  have X := X₀.keeps F.keep
  obtain ⟨cd, rest, hcd, hm⟩ := mro_first (K := K) (C := C) (cd := default) hc
  unfold binaryOp
  refine wpAny_holding (wpAny_bind ?_)
  unfold binaryOp1
  refine wpAny_bind (wpAny_typeOf (typeIs_int s i t) (wpAny_bind (I.type.here (wpAny_bind (wpAny_of_eq hfi ?_)))))
  have hne : (Value.type "int" == Value.ref C) = false := rfl
  simp only [hne, Bool.false_eq_true, if_false]
  refine wpAny_bind ((fills_K X hcd hm hd).here ?_)
  simp only [Bool.and_self, if_true]
  refine wpAny_bind ((looks_subIn X hn).here ?_)
  have hpy : numberSlotInPython (.type "int") op.info.2 = pure false := rfl
  simp only [Bool.false_eq_true, if_false, pure_bind, Bool.not_false, Bool.and_self, if_true, hpy]
  refine wpAny_bind (m := tryMethod (.int i t) _ (.ref x)) (wpAny_tryMethod_declines (typeIs_int s i t) h1 (hno _ ⟨rfl, ?_⟩))
  refine wpAny_bind (m := tryMethod (.ref x) _ (.int i t)) ?_
  unfold tryMethod
  refine wpAny_bind (special_fn X I hs (beq_iff_eq.mp hf) (wpAny_mono h (fun v s' hv => ?_) fun _ _ e => e))
  cases v <;> first | exact hv.elim | exact wpAny_pure (wpAny_bind (wpAny_rule (wpAny_pure (wpAny_pure hv))))

/-- an instance beside an int: its own method answers -/
theorem bin_own_int {op : Operator} {id : String} {g : Addr} {Q : Value → Shared → Prop} (F : Fr h₀ L s.heap m) (X₀ : K.In h₀) (I : InstAt s.heap x (instObj C dx) C od)
    (hc : selfFirst K C = true) (hn : subIn K (.type "int") (.ref C) = some false) (h1 : Slot "int" (dunderR op.info.2) id) (hfi : fillsNumberSlot (.type "int") op.info.2 = pure true)
    (hs : findIn K (.ref C) (PySem.dunder op.info.2) = some (some (.ref f))) (hf : isFn K (.ref f) = true)
    (hd : findIn K (.ref C) (dunderR op.info.2) = some (some (.ref g)))
    (h : wpAny (model prog w) A (call (.ref f) [.ref x, .int i t]) (W.CmpBack Q) E s) : wpAny (model prog w) A (binaryOp op (.ref x) (.int i t)) Q E s := by
  have X := X₀.keeps F.keep
  obtain ⟨cd, rest, hcd, hm⟩ := mro_first (K := K) (C := C) (cd := default) hc
  unfold binaryOp
  refine wpAny_holding (wpAny_bind ?_)
  unfold binaryOp1
  refine wpAny_bind (I.type.here (wpAny_bind (wpAny_typeOf (typeIs_int s i t) (wpAny_bind ((fills_K X hcd hm hs).here ?_)))))
  have hne : (Value.ref C == Value.type "int") = false := rfl
  simp only [hne, Bool.false_eq_true, if_false]
  refine wpAny_bind (wpAny_of_eq hfi ?_)
  simp only [Bool.and_self, if_true]
  refine wpAny_bind ((looks_subIn X hn).here ?_)
  have hpy : Looks (model prog w) s.heap (numberSlotInPython (.ref C) op.info.2) true := by
    unfold numberSlotInPython
    refine (looks_findIn X hs).andThen ?_
    refine Looks.andThen (a := true) .now ?_
    refine (looks_findIn X hd).andThen ?_
    refine Looks.andThen (a := true) .now ?_
    exact .now
  have hpi : numberSlotInPython (.type "int") op.info.2 = pure false := rfl
  simp only [Bool.false_eq_true, if_false, pure_bind, Bool.not_false, Bool.and_self, if_true]
  refine wpAny_bind (hpy.here ?_)
  simp only [if_true]
  refine wpAny_bind (wpAny_of_eq hpi ?_)
  simp only [Bool.not_false, if_true]
  refine wpAny_bind (wpAny_of_eq h1.lookup ?_)
  refine wpAny_bind (m := tryMethod (.ref x) _ (.int i t)) ?_
  unfold tryMethod
  refine wpAny_bind (special_fn X I hs (beq_iff_eq.mp hf) (wpAny_mono h (fun v s' hv => ?_) fun _ _ e => e))
  cases v <;> first | exact hv.elim | exact wpAny_pure (wpAny_pure (wpAny_pure hv))
end
end MoW

namespace MoL
open PySem PySem.Spec PyProof.Rows L2 MoW

/-- an instance of the class at C -/
def Ins (H : Hp) (v : V) (C : Addr) : Prop := ∃ a dx fs, v = .ref a ∧ H a = some (.ins C dx fs)
/-- what the written part says of a class with operators -/
structure OwnC (K : PySem.W.Frag) (C : Addr) : Prop where
  first : PySem.W.selfFirst K C = true
  ci : PySem.W.subIn K (.ref C) (.type "int") = some false
  ic : PySem.W.subIn K (.type "int") (.ref C) = some false

section
variable {X : Cx} {pins : List (Addr × Obj)} {σ : L2.St} {H : Hp} {s : Shared}
theorem ep_back {Q : VK} {u : Value} {s' : Shared} (h : EP X pins σ Q u s') : PySem.W.CmpBack (EP X pins σ Q) u s' := by
  cases u with
  | notImplemented =>
    obtain ⟨v, H', I, r, q⟩ := h
    exfalso
    cases v <;> first | exact nomatch r | (obtain ⟨_, e⟩ := r; exact nomatch e)
  | _ => exact h
theorem ins_at {a C dx : Addr} {fs : List (Str × V)} (I : Inv X pins σ H s) (ha : H a = some (.ins C dx fs)) : ∃ od, PySem.W.InstAt s.heap a (PySem.W.instObj C dx) C od := by
  obtain ⟨mA, J, _⟩ := ins_get I.hok ha
  obtain ⟨od, J, _⟩ := J.look
  exact ⟨_, J⟩
theorem ins_obj {a C dx : Addr} {fs : List (Str × V)} (I : Inv X pins σ H s) (ha : H a = some (.ins C dx fs)) : s.heap.get? a = some (PySem.W.instObj C dx) := by
  obtain ⟨mA, J, _⟩ := ins_get I.hok ha
  exact J.obj
end

section
variable {X : Cx} {CX : CXT} {k : Nat} {C f g : Addr} {fd : FuncData} {ps : List Str} {sp : Sp} {E : XK}
/-- x op y, x an instance, y another one or an int: x's own method answers -/
def rOwn (C : Addr) (sp : Sp) (E : XK) : R2 := fun x y H Q => Ins H x C ∧ ((∃ i, y = .int i) ∨ Ins H y C) ∧ sp [x, y] H Q E
/-- i op y, y an instance: y's own mirrored method answers -/
def rOwnR (C : Addr) (sp : Sp) (E : XK) : R2 := fun x y H Q => (∃ i, x = .int i) ∧ Ins H y C ∧ sp [y, x] H Q E

theorem op_cmp_own {op : CmpOp} (hop : ∀ v u, compareOp op v u = richCompare op v u) (c : OwnC X.K C) (m : Meth X.K C (cmpInfo op).2.1 f) (F : FnOk X.prog X.w X.K X.mg X.base CX k f fd ps sp)
    (hr : Room k X.A) (hb : Binds X.K fd ps []) (hx : Passes CX X E) : OpR X (compareOp op) (rOwn C sp E) := by
  intro pins s σ H x y v u Q I rx ry h
  obtain ⟨⟨a, dx, fs, rfl, ha⟩, hy, hs⟩ := h
  cases (show v = Value.ref a from rx)
  obtain ⟨od, J⟩ := ins_at I ha
  obtain ⟨mm, hF⟩ := I.fr
  rw [hop]
  have hrun : wpAny (model X.prog X.w) X.A (call (.ref f) [.ref a, u]) (PySem.W.CmpBack (EP X pins σ Q)) X.xe s :=
    thn (run_fn (us := [.ref a, u]) (vs := [.ref a, y]) F hr hb .nil hx I (.cons rfl (.cons ry .nil)) hs) fun v s' q => ep_back q
  rcases hy with ⟨i, rfl⟩ | ⟨b, dy, gs, rfl, hb'⟩
  · obtain ⟨t, rfl⟩ := (show ∃ t, u = Value.int i t from ry)
    exact PySem.W.cmp_K (op := op) (tb := .type "int") hr.units0 hF I.ok.mod.kin J looks_int (by unfold PySem.W.notFirst; rw [c.ic]; rfl) m.at_ m.fn hrun
  · cases (show u = Value.ref b from ry)
    obtain ⟨od', J'⟩ := ins_at I hb'
    exact PySem.W.cmp_K (op := op) (tb := .ref C) hr.units0 hF I.ok.mod.kin J J'.type (by simp [PySem.W.notFirst]) m.at_ m.fn hrun

theorem op_cmp_int {op : CmpOp} {id : String} (hop : ∀ v u, compareOp op v u = richCompare op v u) (h1 : Slot "int" (cmpInfo op).2.1 id)
    (hno : ∀ (s : Shared) (i : Int) (t : Tok) (b dy : Addr) (Q' E' : Value → Shared → Prop), s.heap.get? b = some (PySem.W.instObj C dy) → Q' .notImplemented s → wpAny (model X.prog X.w) X.A (call (.builtin id) [.int i t, .ref b]) Q' E' s)
    (c : OwnC X.K C) (m : Meth X.K C (cmpInfo op).2.2 f) (F : FnOk X.prog X.w X.K X.mg X.base CX k f fd ps sp)
    (hr : Room k X.A) (hb : Binds X.K fd ps []) (hx : Passes CX X E) : OpR X (compareOp op) (rOwnR C sp E) := by
  intro pins s σ H x y v u Q I rx ry h
  obtain ⟨⟨i, rfl⟩, ⟨b, dy, gs, rfl, hb'⟩, hs⟩ := h
  obtain ⟨t, rfl⟩ := (show ∃ t, v = Value.int i t from rx)
  cases (show u = Value.ref b from ry)
  obtain ⟨od, J⟩ := ins_at I hb'
  obtain ⟨mm, hF⟩ := I.fr
  rw [hop]
  exact cmp_int_own (op := op) hr.units0 hF I.ok.mod.kin J c.ci h1 (fun Q' q => hno s i t b dy Q' _ (ins_obj I hb') q) m.at_ m.fn
    (thn (run_fn (us := [.ref b, .int i t]) (vs := [.ref b, .int i]) F hr hb .nil hx I (.cons rfl (.cons ⟨t, rfl⟩ .nil)) hs) fun v s' q => ep_back q)

theorem op_bin_own {op : Operator} {id : String} (h1 : Slot "int" (dunderR op.info.2) id) (hfi : fillsNumberSlot (.type "int") op.info.2 = pure true) (c : OwnC X.K C)
    (m : Meth X.K C (PySem.dunder op.info.2) f) (mr : Meth X.K C (dunderR op.info.2) g) (F : FnOk X.prog X.w X.K X.mg X.base CX k f fd ps sp)
    (hr : Room k X.A) (hb : Binds X.K fd ps []) (hx : Passes CX X E) : OpR X (binaryOp op) (rOwn C sp E) := by
  intro pins s σ H x y v u Q I rx ry h
  obtain ⟨⟨a, dx, fs, rfl, ha⟩, hy, hs⟩ := h
  cases (show v = Value.ref a from rx)
  obtain ⟨od, J⟩ := ins_at I ha
  obtain ⟨mm, hF⟩ := I.fr
  have hrun : wpAny (model X.prog X.w) X.A (call (.ref f) [.ref a, u]) (PySem.W.CmpBack (EP X pins σ Q)) X.xe s :=
    thn (run_fn (us := [.ref a, u]) (vs := [.ref a, y]) F hr hb .nil hx I (.cons rfl (.cons ry .nil)) hs) fun v s' q => ep_back q
  rcases hy with ⟨i, rfl⟩ | ⟨b, dy, gs, rfl, hb'⟩
  · obtain ⟨t, rfl⟩ := (show ∃ t, u = Value.int i t from ry)
    exact bin_own_int (op := op) hF I.ok.mod.kin J c.first c.ic h1 hfi m.at_ m.fn mr.at_ hrun
  · cases (show u = Value.ref b from ry)
    obtain ⟨od', J'⟩ := ins_at I hb'
    exact PySem.W.binop_K (op := op) hF I.ok.mod.kin J J'.type c.first m.at_ m.fn hrun

theorem op_bin_int {op : Operator} {id : String} (h1 : Slot "int" (PySem.dunder op.info.2) id) (hfi : fillsNumberSlot (.type "int") op.info.2 = pure true)
    (hno : ∀ (s : Shared) (i : Int) (t : Tok) (b dy : Addr) (Q' E' : Value → Shared → Prop), s.heap.get? b = some (PySem.W.instObj C dy) → Q' .notImplemented s → wpAny (model X.prog X.w) X.A (call (.builtin id) [.int i t, .ref b]) Q' E' s)
    (c : OwnC X.K C) (m : Meth X.K C (dunderR op.info.2) f) (ml : Meth X.K C (PySem.dunder op.info.2) g) (F : FnOk X.prog X.w X.K X.mg X.base CX k f fd ps sp)
    (hr : Room k X.A) (hb : Binds X.K fd ps []) (hx : Passes CX X E) : OpR X (binaryOp op) (rOwnR C sp E) := by
  intro pins s σ H x y v u Q I rx ry h
  obtain ⟨⟨i, rfl⟩, ⟨b, dy, gs, rfl, hb'⟩, hs⟩ := h
  obtain ⟨t, rfl⟩ := (show ∃ t, v = Value.int i t from rx)
  cases (show u = Value.ref b from ry)
  obtain ⟨od, J⟩ := ins_at I hb'
  obtain ⟨mm, hF⟩ := I.fr
  exact bin_int_own (op := op) hF I.ok.mod.kin J c.first c.ci h1 hfi (fun Q' q => hno s i t b dy Q' _ (ins_obj I hb') q) ml.at_ m.at_ m.fn
    (thn (run_fn (us := [.ref b, .int i t]) (vs := [.ref b, .int i]) F hr hb .nil hx I (.cons rfl (.cons ⟨t, rfl⟩ .nil)) hs) fun v s' q => ep_back q)

theorem op_eq_own (c : OwnC X.K C) (m : Meth X.K C "__eq__" f) (F : FnOk X.prog X.w X.K X.mg X.base CX k f fd ps sp)
    (hr : Room k X.A) (hb : Binds X.K fd ps []) (hx : Passes CX X E) : OpR X (compareOp .Eq) (rOwn C sp E) := op_cmp_own (op := .Eq) (fun _ _ => rfl) c m F hr hb hx
theorem op_eq_int (c : OwnC X.K C) (m : Meth X.K C "__eq__" f) (F : FnOk X.prog X.w X.K X.mg X.base CX k f fd ps sp)
    (hr : Room k X.A) (hb : Binds X.K fd ps []) (hx : Passes CX X E) : OpR X (compareOp .Eq) (rOwnR C sp E) := op_cmp_int (op := .Eq) (fun _ _ => rfl) PySem.F.slot_int_eq
  (fun s i t b dy Q' E' hb' q => call_meets PySem.F.slot_int_eq (typeIs_int s i t) PySem.F.entry_int_eq (PySem.F.args_int_eq_2 _ _) (int_eq_no i t b C dy) ⟨hb', q⟩) c m F hr hb hx

theorem op_ne_own (c : OwnC X.K C) (m : Meth X.K C "__ne__" f) (F : FnOk X.prog X.w X.K X.mg X.base CX k f fd ps sp)
    (hr : Room k X.A) (hb : Binds X.K fd ps []) (hx : Passes CX X E) : OpR X (compareOp .NotEq) (rOwn C sp E) := op_cmp_own (op := .NotEq) (fun _ _ => rfl) c m F hr hb hx
theorem op_ne_int (c : OwnC X.K C) (m : Meth X.K C "__ne__" f) (F : FnOk X.prog X.w X.K X.mg X.base CX k f fd ps sp)
    (hr : Room k X.A) (hb : Binds X.K fd ps []) (hx : Passes CX X E) : OpR X (compareOp .NotEq) (rOwnR C sp E) := op_cmp_int (op := .NotEq) (fun _ _ => rfl) PySem.F.slot_int_ne
  (fun s i t b dy Q' E' hb' q => call_meets PySem.F.slot_int_ne (typeIs_int s i t) PySem.F.entry_int_ne (PySem.F.args_int_ne_2 _ _) (int_ne_no i t b C dy) ⟨hb', q⟩) c m F hr hb hx

theorem op_lt_own (c : OwnC X.K C) (m : Meth X.K C "__lt__" f) (F : FnOk X.prog X.w X.K X.mg X.base CX k f fd ps sp)
    (hr : Room k X.A) (hb : Binds X.K fd ps []) (hx : Passes CX X E) : OpR X (compareOp .Lt) (rOwn C sp E) := op_cmp_own (op := .Lt) (fun _ _ => rfl) c m F hr hb hx
theorem op_lt_int (c : OwnC X.K C) (m : Meth X.K C "__gt__" f) (F : FnOk X.prog X.w X.K X.mg X.base CX k f fd ps sp)
    (hr : Room k X.A) (hb : Binds X.K fd ps []) (hx : Passes CX X E) : OpR X (compareOp .Lt) (rOwnR C sp E) := op_cmp_int (op := .Lt) (fun _ _ => rfl) PySem.F.slot_int_lt
  (fun s i t b dy Q' E' hb' q => call_meets PySem.F.slot_int_lt (typeIs_int s i t) PySem.F.entry_int_lt (PySem.F.args_int_lt_2 _ _) (int_lt_no i t b C dy) ⟨hb', q⟩) c m F hr hb hx

theorem op_le_own (c : OwnC X.K C) (m : Meth X.K C "__le__" f) (F : FnOk X.prog X.w X.K X.mg X.base CX k f fd ps sp)
    (hr : Room k X.A) (hb : Binds X.K fd ps []) (hx : Passes CX X E) : OpR X (compareOp .LtE) (rOwn C sp E) := op_cmp_own (op := .LtE) (fun _ _ => rfl) c m F hr hb hx
theorem op_le_int (c : OwnC X.K C) (m : Meth X.K C "__ge__" f) (F : FnOk X.prog X.w X.K X.mg X.base CX k f fd ps sp)
    (hr : Room k X.A) (hb : Binds X.K fd ps []) (hx : Passes CX X E) : OpR X (compareOp .LtE) (rOwnR C sp E) := op_cmp_int (op := .LtE) (fun _ _ => rfl) PySem.F.slot_int_le
  (fun s i t b dy Q' E' hb' q => call_meets PySem.F.slot_int_le (typeIs_int s i t) PySem.F.entry_int_le (PySem.F.args_int_le_2 _ _) (int_le_no i t b C dy) ⟨hb', q⟩) c m F hr hb hx

theorem op_gt_own (c : OwnC X.K C) (m : Meth X.K C "__gt__" f) (F : FnOk X.prog X.w X.K X.mg X.base CX k f fd ps sp)
    (hr : Room k X.A) (hb : Binds X.K fd ps []) (hx : Passes CX X E) : OpR X (compareOp .Gt) (rOwn C sp E) := op_cmp_own (op := .Gt) (fun _ _ => rfl) c m F hr hb hx
theorem op_gt_int (c : OwnC X.K C) (m : Meth X.K C "__lt__" f) (F : FnOk X.prog X.w X.K X.mg X.base CX k f fd ps sp)
    (hr : Room k X.A) (hb : Binds X.K fd ps []) (hx : Passes CX X E) : OpR X (compareOp .Gt) (rOwnR C sp E) := op_cmp_int (op := .Gt) (fun _ _ => rfl) PySem.F.slot_int_gt
  (fun s i t b dy Q' E' hb' q => call_meets PySem.F.slot_int_gt (typeIs_int s i t) PySem.F.entry_int_gt (PySem.F.args_int_gt_2 _ _) (int_gt_no i t b C dy) ⟨hb', q⟩) c m F hr hb hx

theorem op_ge_own (c : OwnC X.K C) (m : Meth X.K C "__ge__" f) (F : FnOk X.prog X.w X.K X.mg X.base CX k f fd ps sp)
    (hr : Room k X.A) (hb : Binds X.K fd ps []) (hx : Passes CX X E) : OpR X (compareOp .GtE) (rOwn C sp E) := op_cmp_own (op := .GtE) (fun _ _ => rfl) c m F hr hb hx
theorem op_ge_int (c : OwnC X.K C) (m : Meth X.K C "__le__" f) (F : FnOk X.prog X.w X.K X.mg X.base CX k f fd ps sp)
    (hr : Room k X.A) (hb : Binds X.K fd ps []) (hx : Passes CX X E) : OpR X (compareOp .GtE) (rOwnR C sp E) := op_cmp_int (op := .GtE) (fun _ _ => rfl) PySem.F.slot_int_ge
  (fun s i t b dy Q' E' hb' q => call_meets PySem.F.slot_int_ge (typeIs_int s i t) PySem.F.entry_int_ge (PySem.F.args_int_ge_2 _ _) (int_ge_no i t b C dy) ⟨hb', q⟩) c m F hr hb hx

theorem op_add_own (c : OwnC X.K C) (m : Meth X.K C "__add__" f) (mr : Meth X.K C "__radd__" g) (F : FnOk X.prog X.w X.K X.mg X.base CX k f fd ps sp)
    (hr : Room k X.A) (hb : Binds X.K fd ps []) (hx : Passes CX X E) : OpR X (binaryOp .Add) (rOwn C sp E) := op_bin_own (op := .Add) PySem.F.slot_int_radd PySem.F.fills_int_add c m mr F hr hb hx
theorem op_add_int (c : OwnC X.K C) (m : Meth X.K C "__radd__" f) (ml : Meth X.K C "__add__" g) (F : FnOk X.prog X.w X.K X.mg X.base CX k f fd ps sp)
    (hr : Room k X.A) (hb : Binds X.K fd ps []) (hx : Passes CX X E) : OpR X (binaryOp .Add) (rOwnR C sp E) := op_bin_int (op := .Add) PySem.F.slot_int_add PySem.F.fills_int_add
  (fun s i t b dy Q' E' hb' q => call_meets PySem.F.slot_int_add (typeIs_int s i t) PySem.F.entry_int_add (PySem.F.args_int_add_2 _ _) (int_add_no i t b C dy) ⟨hb', q⟩) c m ml F hr hb hx

theorem op_sub_own (c : OwnC X.K C) (m : Meth X.K C "__sub__" f) (mr : Meth X.K C "__rsub__" g) (F : FnOk X.prog X.w X.K X.mg X.base CX k f fd ps sp)
    (hr : Room k X.A) (hb : Binds X.K fd ps []) (hx : Passes CX X E) : OpR X (binaryOp .Sub) (rOwn C sp E) := op_bin_own (op := .Sub) PySem.F.slot_int_rsub PySem.F.fills_int_sub c m mr F hr hb hx
theorem op_sub_int (c : OwnC X.K C) (m : Meth X.K C "__rsub__" f) (ml : Meth X.K C "__sub__" g) (F : FnOk X.prog X.w X.K X.mg X.base CX k f fd ps sp)
    (hr : Room k X.A) (hb : Binds X.K fd ps []) (hx : Passes CX X E) : OpR X (binaryOp .Sub) (rOwnR C sp E) := op_bin_int (op := .Sub) PySem.F.slot_int_sub PySem.F.fills_int_sub
  (fun s i t b dy Q' E' hb' q => call_meets PySem.F.slot_int_sub (typeIs_int s i t) PySem.F.entry_int_sub (PySem.F.args_int_sub_2 _ _) (int_sub_no i t b C dy) ⟨hb', q⟩) c m ml F hr hb hx

theorem op_mul_own (c : OwnC X.K C) (m : Meth X.K C "__mul__" f) (mr : Meth X.K C "__rmul__" g) (F : FnOk X.prog X.w X.K X.mg X.base CX k f fd ps sp)
    (hr : Room k X.A) (hb : Binds X.K fd ps []) (hx : Passes CX X E) : OpR X (binaryOp .Mult) (rOwn C sp E) := op_bin_own (op := .Mult) PySem.F.slot_int_rmul PySem.F.fills_int_mul c m mr F hr hb hx
theorem op_mul_int (c : OwnC X.K C) (m : Meth X.K C "__rmul__" f) (ml : Meth X.K C "__mul__" g) (F : FnOk X.prog X.w X.K X.mg X.base CX k f fd ps sp)
    (hr : Room k X.A) (hb : Binds X.K fd ps []) (hx : Passes CX X E) : OpR X (binaryOp .Mult) (rOwnR C sp E) := op_bin_int (op := .Mult) PySem.F.slot_int_mul PySem.F.fills_int_mul
  (fun s i t b dy Q' E' hb' q => call_meets PySem.F.slot_int_mul (typeIs_int s i t) PySem.F.entry_int_mul (PySem.F.args_int_mul_2 _ _) (int_mul_no i t b C dy) ⟨hb', q⟩) c m ml F hr hb hx

theorem op_mod_own (c : OwnC X.K C) (m : Meth X.K C "__mod__" f) (mr : Meth X.K C "__rmod__" g) (F : FnOk X.prog X.w X.K X.mg X.base CX k f fd ps sp)
    (hr : Room k X.A) (hb : Binds X.K fd ps []) (hx : Passes CX X E) : OpR X (binaryOp .Mod) (rOwn C sp E) := op_bin_own (op := .Mod) PySem.F.slot_int_rmod PySem.F.fills_int_mod c m mr F hr hb hx
theorem op_mod_int (c : OwnC X.K C) (m : Meth X.K C "__rmod__" f) (ml : Meth X.K C "__mod__" g) (F : FnOk X.prog X.w X.K X.mg X.base CX k f fd ps sp)
    (hr : Room k X.A) (hb : Binds X.K fd ps []) (hx : Passes CX X E) : OpR X (binaryOp .Mod) (rOwnR C sp E) := op_bin_int (op := .Mod) PySem.F.slot_int_mod PySem.F.fills_int_mod
  (fun s i t b dy Q' E' hb' q => call_meets PySem.F.slot_int_mod (typeIs_int s i t) PySem.F.entry_int_mod (PySem.F.args_int_mod_2 _ _) (int_mod_no i t b C dy) ⟨hb', q⟩) c m ml F hr hb hx
end
end MoL

/-! # Helpers: items of lists read by place, // by any number that is not 0, sizes, lowest terms -/
namespace MoL
open PySem PySem.Spec PyProof.Rows L2 MoW

section
variable {X : Cx}
def rGetL (K : PySem.W.Frag) : V → V → Hp → VK → Prop := fun x y H Q => ∃ p xs j v, x = .ref p ∧ y = .int ((j : Nat) : Int) ∧ SqL K H p xs ∧ xs[j]? = some v ∧ Q v H
theorem get_list : PGet X (rGetL X.K) := by
  intro pins s σ H x y v u Q I rx ry h
  obtain ⟨p, xs, j, z, rfl, rfl, hq, he, q⟩ := h
  cases rx
  obtain ⟨t, rfl⟩ := ry
  obtain ⟨its, r, pl, hz⟩ := I.list hq
  obtain ⟨w, ew, rw'⟩ := r.get he
  have hj : j < xs.length := (List.getElem?_eq_some_iff.mp he).1
  have hn := line63
  exact wpAny_getItem_list pl.isList (by omega) (by omega) (by simpa using ew) ⟨z, H, I, rw', q⟩
/-- // by any number but 0, below 2 ^ 9000 in size -/
def CDivA (_ j : Int) : Prop := j ≠ 0 ∧ j.natAbs.log2 < 9000
theorem op_fdivA : OpR X (binaryOp .FloorDiv) (rI CDivA fun i j => .int (i.fdiv j)) := opI fun i j _ _ _ _ _ hc q => floordiv_int hc.1 q (.inl (PyProof.noPylong_of_log2 hc.2))
end

/-! ### sizes -/
/-- below 2 ^ 4000 in size -/
def Sm (i : Int) : Prop := i.natAbs < 2 ^ 4000
theorem Sm.mul {i j : Int} (a : Sm i) (b : Sm j) : CMulW i j := wide_mul a b (by decide) (by decide) (by decide)
theorem Sm.mulr {i j : Int} (a : Sm i) (b : j.natAbs < 2 ^ 9000) : CMulW i j := wide_mul a b (by decide) (by decide) (by decide)
theorem Sm.div {i j : Int} (h : j ≠ 0) (a : Sm j) : CDivA i j := ⟨h, Nat.lt_of_lt_of_le (PySem.Flt.log2_lt_of (by decide) a) (by decide)⟩
theorem Sm.le {i j : Int} (a : Sm j) (h : i.natAbs ≤ j.natAbs) : Sm i := Nat.lt_of_le_of_lt h a
theorem pow_big {k : Nat} (h : k ≤ 4000) : 2 ^ k ≤ 2 ^ 4000 := Nat.pow_le_pow_right (by decide) h
theorem Sm.of {i : Int} {k : Nat} (h : i.natAbs < 2 ^ k) (hk : k ≤ 4000) : Sm i := Nat.lt_of_lt_of_le h (pow_big hk)

theorem Sm.ab {i : Int} (h1 : -(2 ^ 200) < i) (h2 : i < 2 ^ 200) : Sm i := Sm.of (k := 200) (by omega) (by decide)
theorem iteFe {c : Bool} {A B : Prop} (hc : c = false) (h : B) : if c = true then A else B := by rw [hc]; exact iteF h
theorem iteTe {c : Bool} {A B : Prop} (hc : c = true) (h : A) : if c = true then A else B := by rw [hc]; exact iteT h

/-! ### lowest terms -/
/-- t' / b' is t / b in lowest terms, the bottom above 0 -/
structure Norm (t b t' b' : Int) : Prop where
  ex : ∃ g : Int, t = g * t' ∧ b = g * b' ∧ g ≠ 0
  pos : 0 < b'
  cop : Nat.gcd t'.natAbs b'.natAbs = 1
theorem Norm.cross {t b t' b' : Int} (n : Norm t b t' b') : t' * b = t * b' := by
  obtain ⟨g, h1, h2, _⟩ := n.ex
  rw [h1, h2, Int.mul_comm g t', Int.mul_assoc]
theorem natAbs_le_mul {g x : Int} (h : g ≠ 0) : x.natAbs ≤ (g * x).natAbs := by
  rw [Int.natAbs_mul]
  exact Nat.le_mul_of_pos_left _ (Int.natAbs_pos.mpr h)
theorem Norm.le1 {t b t' b' : Int} (n : Norm t b t' b') : t'.natAbs ≤ t.natAbs := by
  obtain ⟨g, h1, h2, h⟩ := n.ex
  rw [h1]; exact natAbs_le_mul h
theorem Norm.le2 {t b t' b' : Int} (n : Norm t b t' b') : b'.natAbs ≤ b.natAbs := by
  obtain ⟨g, h1, h2, h⟩ := n.ex
  rw [h2]; exact natAbs_le_mul h
/-- what the making computes: g the signed common divisor -/
theorem fdiv_exact {g x y : Int} (h : g ≠ 0) (e : x = g * y) : x.fdiv g = y := by
  rw [e]
  exact Int.mul_fdiv_cancel_left y h
theorem Norm.make {t b : Int} (hb : b ≠ 0) : ∀ g : Int, g = (if b < 0 then -((Nat.gcd t.natAbs b.natAbs : Nat) : Int) else ((Nat.gcd t.natAbs b.natAbs : Nat) : Int)) →
    g ≠ 0 ∧ g.natAbs ≤ b.natAbs ∧ Norm t b (t.fdiv g) (b.fdiv g) := by
  intro g hg
  have hpos : 0 < Nat.gcd t.natAbs b.natAbs := Nat.gcd_pos_of_pos_right _ (Int.natAbs_pos.mpr hb)
  have hle : Nat.gcd t.natAbs b.natAbs ≤ b.natAbs := Nat.gcd_le_right _ (Int.natAbs_pos.mpr hb)
  generalize hd : Nat.gcd t.natAbs b.natAbs = d at hpos hle hg
  have gabs : g.natAbs = d := by
    rw [hg]; split <;> simp
  have g0 : g ≠ 0 := by
    intro z; rw [z] at gabs; simp at gabs; omega
  have d1 : d ∣ t.natAbs := hd ▸ Nat.gcd_dvd_left _ _
  have d2 : d ∣ b.natAbs := hd ▸ Nat.gcd_dvd_right _ _
  have e1 : g ∣ t := Int.natAbs_dvd_natAbs.mp (by rw [gabs]; exact d1)
  have e2 : g ∣ b := Int.natAbs_dvd_natAbs.mp (by rw [gabs]; exact d2)
  obtain ⟨t', ht⟩ := e1
  obtain ⟨b', hb'⟩ := e2
  refine ⟨g0, by rw [gabs]; exact hle, ?_⟩
  rw [fdiv_exact g0 ht, fdiv_exact g0 hb']
  refine ⟨⟨g, ht, hb', g0⟩, ?_, ?_⟩
  · by_cases hneg : b < 0
    · rw [if_pos hneg] at hg
      have gn : g < 0 := by omega
      rw [hb', Int.mul_comm] at hneg
      exact Int.pos_of_mul_neg_left hneg gn
    · rw [if_neg hneg] at hg
      have gp : 0 < g := by omega
      have bp : 0 < g * b' := by rw [← hb']; omega
      exact Int.pos_of_mul_pos_right bp (by omega)
  · have x1 : t.natAbs = d * t'.natAbs := by rw [ht, Int.natAbs_mul, gabs]
    have x2 : b.natAbs = d * b'.natAbs := by rw [hb', Int.natAbs_mul, gabs]
    rw [x1, x2, Nat.gcd_mul_left] at hd
    have : d * Nat.gcd t'.natAbs b'.natAbs = d * 1 := by rw [hd, Nat.mul_one]
    exact Nat.eq_of_mul_eq_mul_left hpos this
end MoL

namespace MoL
open PySem PySem.Spec PyProof.Rows L2 MoW
/-- what the written part says of a class of plain instances with operators and the fields top, bottom -/
structure OwnK (K : PySem.W.Frag) (C : Addr) : Prop where
  cl : Cls K C
  ow : OwnC K C
  ha : PySem.W.findIn K (.ref C) "__class__" = some (some (.builtin "object.__class__"))
  hn : PySem.W.specialIn K (.builtin "object.__class__") "__get__" = some (some (.builtin "getset_descriptor.__get__"))
  htk : PySem.W.takesIn K (.builtin "object.__class__") = some true
  hm : PySem.W.mroIn K C (.type "object") = some true
  ki : PySem.W.kitOne K (.ref C) (.type "int") = some false
  ik : PySem.W.kitOne K (.type "int") (.ref C) = some false
  n_top : NoAttr K C "top"
  n_bottom : NoAttr K C "bottom"
theorem kit_self {K : PySem.W.Frag} {C : Addr} : PySem.W.kitOne K (.ref C) (.ref C) = some true := by
  unfold PySem.W.kitOne
  rw [if_pos (by simp)]
theorem OwnK.ty {K : PySem.W.Frag} {C : Addr} {H : Hp} {a dx : Addr} {fs : List (Str × V)} (k : OwnK K C) (h : H a = some (.ins C dx fs)) : TyX K H (.ref a) (.ref C) :=
  .base (.ins h k.cl k.ha k.hn k.htk k.hm)

/-- a Ratio: an instance of the class at C with these two numbers -/
def RatAt (C : Addr) (H : Hp) (v : V) (t b : Int) : Prop := ∃ a dx, v = .ref a ∧ H a = some (.ins C dx [("top", .int t), ("bottom", .int b)])
theorem RatAt.ins {C : Addr} {H : Hp} {v : V} {t b : Int} (r : RatAt C H v t b) : Ins H v C := by
  obtain ⟨a, dx, e, h⟩ := r
  exact ⟨a, dx, _, e, h⟩
theorem RatAt.same {C : Addr} {H H' : Hp} {v : V} {t b : Int} (r : RatAt C H v t b) (s : Same H H') : RatAt C H' v t b := by
  obtain ⟨a, dx, e, h⟩ := r
  exact ⟨a, dx, e, s _ _ h⟩
theorem Ins.same {C : Addr} {H H' : Hp} {v : V} (r : Ins H v C) (s : Same H H') : Ins H' v C := by
  obtain ⟨a, dx, fs, e, h⟩ := r
  exact ⟨a, dx, fs, e, s _ _ h⟩
theorem same_upd {H : Hp} {p : Addr} {o : HO} (h : H p = none) : Same H (upd H p o) := fun b x e => by
  rw [upd_ne (ne_of_none e h)]
  exact e
theorem same_upd' {H H1 : Hp} {p : Addr} {o : HO} (s : Same H H1) (h : H p = none) : Same H (upd H1 p o) := fun b x e => by
  rw [upd_ne (ne_of_none e h)]
  exact s _ _ e
end MoL

/-! # Signs before an instance, abs of one; lowest terms are one -/
namespace MoL
open PySem PySem.Spec PyProof.Rows L2 MoW
section
variable {X : Cx} {CX : CXT} {k : Nat} {C f g : Addr} {fd : FuncData} {ps : List Str} {sp : Sp} {E : XK}
/-- -x of an instance with its own __neg__ -/
def rOwn1 (C : Addr) (sp : Sp) (E : XK) : V → Hp → VK → Prop := fun x H Q => Ins H x C ∧ sp [x] H Q E
theorem un_neg_own (m : Meth X.K C "__neg__" f) (F : FnOk X.prog X.w X.K X.mg X.base CX k f fd ps sp)
    (hr : Room k X.A) (hb : Binds X.K fd ps []) (hx : Passes CX X E) : UnR X (unaryOp .USub) (rOwn1 C sp E) := by
  intro pins s σ H x v Q I rx h
  obtain ⟨⟨a, dx, fs, rfl, ha⟩, hs⟩ := h
  cases (show v = Value.ref a from rx)
  obtain ⟨od, J⟩ := ins_at I ha
  have hrun : wpAny (model X.prog X.w) X.A (call (.ref f) [.ref a]) (EP X pins σ Q) X.xe s :=
    run_fn (us := [.ref a]) (vs := [.ref a]) F hr hb .nil hx I (.cons rfl .nil) hs
  unfold unaryOp
  refine wpAny_holding ?_
  have e : (UnaryOp.USub == UnaryOp.Not) = false := rfl
  simp only [e, Bool.false_eq_true, if_false]
  exact wpAny_bind (PySem.W.special_fn I.kIn J m.at_ (beq_iff_eq.mp m.fn) (wpAny_mono hrun (fun v s' q => wpAny_pure q) fun _ _ e => e))
theorem UnR.or {f : Value → Sem Value} {r r' : V → Hp → VK → Prop} (h : UnR X f r) (h' : UnR X f r') : UnR X f (fun x H Q => r x H Q ∨ r' x H Q) := by
  intro pins s σ H x v Q I rx q
  rcases q with q | q
  · exact h pins s σ H x v Q I rx q
  · exact h' pins s σ H x v Q I rx q
/-- the callee runs within a built-in -/
theorem run_fn1 {pins : List (Addr × Obj)} {σ : L2.St} {H : Hp} {s : Shared} {Q : VK} {us : List Value} {vs : List V} (F : FnOk X.prog X.w X.K X.mg X.base CX k f fd ps sp) (hr : Room (k + 1) X.A) (hb : Binds X.K fd ps []) (hx : Passes CX X E)
    (I : Inv X pins σ H s) (r : Vals vs us) (h : sp vs H Q E) : wpAny (model X.prog X.w) X.A.in1 (call (.ref f) us) (EP X pins σ Q) X.xe s := by
  have hl : us.length = ps.length := by rw [← r.length]; exact F.len _ _ _ _ h
  have hb' : BindsTo s fd ⟨us, []⟩ (ps.zip us) := by
    have := hb s us I.kIn (by simpa using hl)
    simpa using this
  refine wpAny_call (codeAny_mono (F.run X.A.in1 X.stack s H ⟨us, []⟩ us vs Q E hr.in1 I.env0.in1 hb' r h) fun r s' hq => ?_)
  cases r with
  | error e => exact hx pins σ H s e s' I hq
  | ok fl =>
    cases fl with
    | ret u => exact I.after hq
    | next => exact False.elim hq
    | brk => exact False.elim hq
    | cont => exact False.elim hq
theorem call_abs_own (m : Meth X.K C "__abs__" f) (F : FnOk X.prog X.w X.K X.mg X.base CX k f fd ps sp)
    (hr : Room (k + 1) X.A) (hb : Binds X.K fd ps []) (hx : Passes CX X E) : CallR X (.builtin "abs") (fun xs H Q => ∃ x, xs = [x] ∧ rOwn1 C sp E x H Q) := by
  intro pins s σ H xs us Q I r h
  obtain ⟨x, rfl, ⟨a, dx, fs, rfl, ha⟩, hs⟩ := h
  obtain ⟨u, rfl, ru⟩ := vals1 r
  cases (show u = Value.ref a from ru)
  obtain ⟨od, J⟩ := ins_at I ha
  have hrun := run_fn1 (us := [.ref a]) (vs := [.ref a]) F hr hb hx I (.cons rfl .nil) hs
  refine Calls.call_function_entry kind_abs plain_abs entry_abs (args_abs _) ?_
  unfold Builtin.«abs»
  refine wpAny_bind (m := oneArg "abs" _) (wpAny_pure ?_)
  refine wpAny_bind (m := callSpecial? (.ref a) (Str.ofString "__abs__")) ?_
  exact PySem.W.special_fn I.kIn J m.at_ (beq_iff_eq.mp m.fn) (wpAny_mono hrun (fun v s' q => wpAny_pure ⟨_, rfl, q⟩) fun _ _ e => e)
end
/-! ### lowest terms are one -/
theorem Norm.bne {t b t' b' : Int} (n : Norm t b t' b') : b ≠ 0 := by
  obtain ⟨g, _, h2, h⟩ := n.ex
  rw [h2]
  intro z
  rcases Int.mul_eq_zero.mp z with e | e
  · exact h e
  · have := n.pos; omega
theorem cop_one {t b u c : Int} (hb : 0 < b) (hc : 0 < c) (h1 : Nat.gcd t.natAbs b.natAbs = 1) (h2 : Nat.gcd u.natAbs c.natAbs = 1) (e : t * c = u * b) : t = u ∧ b = c := by
  have en : t.natAbs * c.natAbs = u.natAbs * b.natAbs := by rw [← Int.natAbs_mul, ← Int.natAbs_mul, e]
  have d1 : b.natAbs ∣ c.natAbs := by
    have h : b.natAbs ∣ t.natAbs * c.natAbs := ⟨u.natAbs, by rw [en, Nat.mul_comm]⟩
    exact Nat.Coprime.dvd_of_dvd_mul_left (Nat.Coprime.symm h1) h
  have d2 : c.natAbs ∣ b.natAbs := by
    have h : c.natAbs ∣ u.natAbs * b.natAbs := ⟨t.natAbs, by rw [← en, Nat.mul_comm]⟩
    exact Nat.Coprime.dvd_of_dvd_mul_left (Nat.Coprime.symm h2) h
  have ebc : b = c := by
    have := Nat.dvd_antisymm d1 d2
    omega
  subst ebc
  refine ⟨?_, rfl⟩
  exact Int.eq_of_mul_eq_mul_right (by omega) e
/-- two ways to one value: the same lowest terms -/
theorem Norm.uniq {p q t b p' q' t' b' : Int} (n : Norm p q t b) (m : Norm p' q' t' b') (e : p * q' = p' * q) : t = t' ∧ b = b' := by
  refine cop_one n.pos m.pos n.cop m.cop ?_
  have c1 := n.cross
  have c2 := m.cross
  have q0 := n.bne
  have q1 := m.bne
  have key : (t * b') * (q * q') = (t' * b) * (q * q') := by
    have e1 : (t * b') * (q * q') = (t * q) * (b' * q') := by
      rw [Int.mul_assoc, Int.mul_assoc, Int.mul_left_comm b' q q']
    have e2 : (t' * b) * (q * q') = (t' * q') * (b * q) := by
      rw [Int.mul_assoc, Int.mul_assoc, Int.mul_comm q q', Int.mul_left_comm b q' q]
    rw [e1, e2, c1, c2]
    have e3 : p * b * (b' * q') = (p * q') * (b * b') := by
      rw [Int.mul_assoc, Int.mul_assoc, Int.mul_comm b' q', Int.mul_left_comm b q' b']
    have e4 : p' * b' * (b * q) = (p' * q) * (b * b') := by
      rw [Int.mul_assoc, Int.mul_assoc, Int.mul_comm b q, Int.mul_left_comm b' q b, Int.mul_comm b' b]
    rw [e3, e4, e]
  have qq : q * q' ≠ 0 := fun z => by
    rcases Int.mul_eq_zero.mp z with e | e
    · exact q0 e
    · exact q1 e
  exact Int.eq_of_mul_eq_mul_right qq key
end MoL
namespace MoL
open PySem PySem.Spec PyProof.Rows L2 MoW
theorem call_or {X : Cx} {f : Value} {r r' : List V → Hp → VK → Prop} (h : CallR X f r) (h' : CallR X f r') : CallR X f (fun xs H Q => r xs H Q ∨ r' xs H Q) := by
  intro pins s σ H xs us Q I r q
  rcases q with q | q
  · exact h pins s σ H xs us Q I r q
  · exact h' pins s σ H xs us Q I r q
end MoL

/-! # Errors of the program: making one whose class keeps one field, and what a suite that caught it may ask -/
namespace MoL
open PySem PySem.Spec PyProof.Rows L2 MoW

/-! ### a class call in a body whose errors are caught: the wish speaks of the slots -/
def tMakeA (C : Addr) (sp : Sp) (dvs : List V) (W : L2.St → XK) (t : TA) : TE := fun σ H Q => t σ H fun vs G => ∀ x y, G x = none → G y = none → y ≠ x →
  sp (.ref x :: (vs ++ dvs)) (upd (upd G y (.own x)) x (.ins C y [])) (fun v G2 => v = .non ∧ Q (.ref x) G2) (W σ)
section
variable {X : Cx} {CX : CXT} {k : Nat} {f C : Addr} {fd : FuncData} {ps : List Str} {sp : Sp} {dvs : List V} {ds : List Value} {W : L2.St → XK} {x : Str} {p pos : Pos} {e : Expr} {es : List Expr} {t : TA}
theorem pe_makeA (M : Mk X.K C f) (F : FnOk X.prog X.w X.K X.mg X.base CX k f fd ps sp) (room : Room (k + 1) X.A) (hg : Gl X x) (hm : X.mg x = some (.ref C)) (hb : Binds X.K fd ps ds) (hd : Vals dvs ds) (hx : ∀ σ, PassesAt CX X σ (W σ)) (ha : PA X (e :: es) t)
    (hdb : (x == ("__debug__" : Str)) = false := by decide) (he : starEach (e :: es) X.env = (false, eval e X.env) :: starEach es X.env := by rfl) (hpl : (backTo pos (starEach es X.env)).any (·.1) = false := by rfl) :
    PE X (.Call (.Name x p) (e :: es) [] pos) (tMakeA C sp dvs W t) := by
  constructor
  intro pins s0 σ H0 Q I0 h
  refine wpAny_Call_Name_kw (ld_glob I0 hg hm ?_ hdb)
  refine PySem.W.callWith_K (h₀ := X.base) I0.ok.mod.kin M.kp ?_ he hpl
  refine thn (ha.run pos pins s0 σ H0 _ I0 h) ?_
  rintro us s ⟨vs, H, I, r, h⟩
  refine ⟨I.kIn, ?_⟩
  have hq := h (s.heap.objs.size + 1) s.heap.objs.size (I.hok.fresh (Nat.le_succ _)) (I.hok.fresh (Nat.le_refl _)) (Nat.ne_of_lt (Nat.lt_succ_self _))
  have I2 := Inv.made (C := C) I
  have r2 : Vals (V.ref (s.heap.objs.size + 1) :: (vs ++ dvs)) (Value.ref (s.heap.objs.size + 1) :: (us ++ ds)) := .cons rfl (r.append hd)
  have hl : (Value.ref (s.heap.objs.size + 1) :: us ++ ds).length = ps.length := (F.len _ _ _ _ hq ▸ r2.length).symm
  have run := F.run _ X.stack _ _ ⟨Value.ref (s.heap.objs.size + 1) :: us, []⟩ _ _ _ _ (room.make C us []) (I2.env0.make C us []) (hb _ (Value.ref (s.heap.objs.size + 1) :: us) I2.kIn hl) r2 hq
  refine wpAny_call (make_map (f := f) I.kIn M.makes M.init (beq_iff_eq.mp M.fn) (codeAny_mono run ?_))
  intro r s' hq'
  rcases r with fl | e
  · exact hx σ pins _ _ _ s' I2 hq'
  · cases e with
    | ret u =>
      obtain ⟨v, G, I3, rv, ev, q3⟩ := I2.after hq'
      cases ev
      exact ⟨rv, ⟨V.ref (s.heap.objs.size + 1), G, I3, rfl, q3⟩⟩
    | next => exact hq'.elim
    | brk => exact hq'.elim
    | cont => exact hq'.elim
end

/-! ### isinstance of a caught error that has fields -/
def rIsD (K : PySem.W.Frag) (a : Addr) (cls : Value) (d : Option Addr) (D : Addr) : List V → Hp → VK → Prop := fun xs H Q => ∃ (c : V) (cv : Value) (b : Bool) (y : Addr) (fs : List (Str × V)),
  xs = [.ref a, c] ∧ cls = .ref D ∧ d = some y ∧ H y = some (.xd fs) ∧ ClsV c cv ∧ PySem.W.kitOne K (.ref D) cv = some b ∧ Q (.bl b) H
theorem call_isD {X : Cx} {a D : Addr} {oe : Obj} {cls : Value} {d : Option Addr} {pn : List (Addr × Obj)} (C : ExcC X.K D) (hz : Zc cls d oe) (hf : ∃ vs, oe.data = .fields vs) : CallR (X.suite a ((a, oe) :: pn)) (.builtin "isinstance") (rIsD X.K a cls d D) := by
  intro pins s σ H xs us Q I r h
  obtain ⟨c, cv, b, y, fs, rfl, rfl, rfl, hy, hc, e, q⟩ := h
  obtain ⟨u1, u2, rfl, r1, r2⟩ := vals2 r
  cases (show u1 = Value.ref a from r1)
  have e2 := hc.eq r2
  subst e2
  have hget := (I.pin (a, oe) (List.mem_append_left _ List.mem_cons_self)).1
  have ho : ∃ o, s.heap.get? y = some o := by
    obtain ⟨m, ⟨o, _, _, z, _⟩, _⟩ := (show ObjOk X.prog X.w H s.heap y (.xd fs) from I.hok y _ hy)
    exact ⟨o, z⟩
  obtain ⟨od, ho⟩ := ho
  have J : PySem.W.InstAt s.heap a oe D (some od) := by
    obtain ⟨vs, hv⟩ := hf
    rcases oe with ⟨oc, odd, dt, sl⟩
    obtain ⟨z1, z2⟩ := hz
    dsimp only at z1 z2 hv
    subst z1 z2 hv
    exact ⟨hget, rfl, rfl, ho⟩
  have hcl : (PySem.W.clsIn X.K D).isSome = true := by
    obtain ⟨cd, hcd, _⟩ := PySem.W.any_some C.hd
    rw [hcd]
    rfl
  exact PySem.W.kia_one (PySem.W.kitx_exc hcl C.hg C.hk C.hs C.ha C.hn C.ht C.hm) I.kIn J e (fun z => nomatch z) fun tk => ⟨.bl b, H, I.kept (t' := tk) fun _ _ z => z, rfl, q⟩

/-! ### the making of an error with one field -/
/-- the __init__ of such a class: the field f is what was given -/
def sp_keep (K : PySem.W.Frag) (f : Str) : Sp := fun vs H Q _ => ∃ (e C : Addr) (v : V), vs = [.ref e, v] ∧ OexC K C ∧ PySem.W.findIn K (.ref C) f = some none ∧ H e = some (exo e C none) ∧
  ∀ y, H y = none → y ≠ e → Q .non (upd (upd H y (exd y [(f, v)])) e (exo e C (some y)))
/-- raise C(v): what follows when its __init__ keeps sp_keep -/
theorem mk_keep {K : PySem.W.Frag} {C : Addr} {f : Str} {v : V} {H : Hp} {Q : XK} (T : OexC K C) (hn : PySem.W.findIn K (.ref C) f = some none) (q : ∀ y, H y = none → Q (.ref C) (some y) (upd H y (.xd [(f, v)]))) :
    ([v] : List V).length ≤ 1000 ∧ ∀ a, H a = none → sp_keep K f (.ref a :: ([v] ++ [])) (upd H a (exo a C none))
      (fun w G => w = .non ∧ ∃ (d : Addr) (fs : List (Str × V)), G a = some (exo a C (some d)) ∧ G d = some (exd d fs) ∧ H d = none ∧ Q (.ref C) (some d) (upd (del G a) d (.xd fs))) (fun _ _ _ => False) := by
  refine ⟨by show 1 ≤ 1000; decide, fun a na => ⟨a, C, v, rfl, T, hn, upd_same, fun y ny yne => ⟨rfl, y, [(f, v)], upd_same, ?_, ?_, ?_⟩⟩⟩
  · rw [upd_ne yne, upd_same]
  · rw [upd_ne yne] at ny
    exact ny
  · rw [upd_ne yne] at ny
    have e : upd (del (upd (upd (upd H a (exo a C none)) y (exd y [(f, v)])) a (exo a C (some y))) a) y (.xd [(f, v)]) = upd H y (.xd [(f, v)]) := by
      funext b
      by_cases hb : b = y
      · subst hb
        rw [upd_same, upd_same]
      · rw [upd_ne hb, upd_ne hb]
        by_cases hba : b = a
        · subst hba
          rw [del_same, na]
        · rw [del_ne hba, upd_ne hba, upd_ne hb, upd_ne hba]
    rw [e]
    exact q y ny
end MoL

/-! # // and ** of instances, and what leaves a def that may raise -/
namespace MoW
open PySem PySem.W
section
variable {prog : Program} {w : World} {A : Around} {E : Value → Shared → Prop} {s : Shared}
theorem int_floordiv_no (i : Int) (t : Tok) (l C dx : Addr) :
    Meets (Builtin.«int.__floordiv__» ⟨[.int i t, .ref l], []⟩) (fun _ R s => s.heap.get? l = some (PySem.W.instObj C dx) ∧ R (.ok (.ret .notImplemented)) s) :=
  .of_wp fun prog w A R s h => by obtain ⟨hp, g, d, tk, os⟩ := s; obtain ⟨hl, h⟩ := h; unfold PySem.W.instObj at hl; wp_walk using wpAny_loadPart' hl, wpAny_load hl; exact ⟨_, rfl, h⟩
end
end MoW
namespace MoW
open PySem PySem.W PyProof.Rows
section
variable {prog : Program} {w : World} {A : Around} {E : Value → Shared → Prop} {s : Shared} {K : Frag} {x C L f : Addr} {h₀ : Heap} {m : Str → Option Value} {dx : Addr} {od : Option Obj} {i : Int} {t : Tok}

theorem bin_own_int0 {op : Operator} {id : String} {Q : Value → Shared → Prop} (F : Fr h₀ L s.heap m) (X₀ : K.In h₀) (I : InstAt s.heap x (instObj C dx) C od)
    (hc : selfFirst K C = true) (hn : subIn K (.type "int") (.ref C) = some false) (h1 : Slot "int" (dunderR op.info.2) id) (hfi : fillsNumberSlot (.type "int") op.info.2 = pure true)
    (hs : findIn K (.ref C) (PySem.dunder op.info.2) = some (some (.ref f))) (hf : isFn K (.ref f) = true)
    (hd : findIn K (.ref C) (dunderR op.info.2) = some none)
    (h : wpAny (model prog w) A (call (.ref f) [.ref x, .int i t]) (W.CmpBack Q) E s) : wpAny (model prog w) A (binaryOp op (.ref x) (.int i t)) Q E s := by
  have X := X₀.keeps F.keep
  obtain ⟨cd, rest, hcd, hm⟩ := mro_first (K := K) (C := C) (cd := default) hc
  unfold binaryOp
  refine wpAny_holding (wpAny_bind ?_)
  unfold binaryOp1
  refine wpAny_bind (I.type.here (wpAny_bind (wpAny_typeOf (typeIs_int s i t) (wpAny_bind ((fills_K X hcd hm hs).here ?_)))))
  have hne : (Value.ref C == Value.type "int") = false := rfl
  simp only [hne, Bool.false_eq_true, if_false]
  refine wpAny_bind (wpAny_of_eq hfi ?_)
  simp only [Bool.and_self, if_true]
  refine wpAny_bind ((looks_subIn X hn).here ?_)
  have hpy : Looks (model prog w) s.heap (numberSlotInPython (.ref C) op.info.2) true := by
    unfold numberSlotInPython
    refine (looks_findIn X hs).andThen ?_
    refine Looks.andThen (a := true) .now ?_
    refine (looks_findIn X hd).andThen ?_
    refine Looks.andThen (a := false) .now ?_
    exact .now
  have hpi : numberSlotInPython (.type "int") op.info.2 = pure false := rfl
  simp only [Bool.false_eq_true, if_false, pure_bind, Bool.not_false, Bool.and_self, if_true]
  refine wpAny_bind (hpy.here ?_)
  simp only [if_true]
  refine wpAny_bind (wpAny_of_eq hpi ?_)
  simp only [Bool.not_false, if_true]
  refine wpAny_bind (wpAny_of_eq h1.lookup ?_)
  refine wpAny_bind (m := tryMethod (.ref x) _ (.int i t)) ?_
  unfold tryMethod
  refine wpAny_bind (special_fn X I hs (beq_iff_eq.mp hf) (wpAny_mono h (fun v s' hv => ?_) fun _ _ e => e))
  cases v <;> first | exact hv.elim | exact wpAny_pure (wpAny_pure (wpAny_pure hv))
end
end MoW

namespace MoL
open PySem PySem.Spec PyProof.Rows L2 MoW
section
variable {X : Cx} {CX : CXT} {k : Nat} {C f g : Addr} {fd : FuncData} {ps : List Str} {sp : Sp} {E : XK}
theorem op_floordiv_own (c : OwnC X.K C) (m : Meth X.K C "__floordiv__" f) (mr : Meth X.K C "__rfloordiv__" g) (run : FnOk X.prog X.w X.K X.mg X.base CX k f fd ps sp) (hr : Room k X.A) (hb : Binds X.K fd ps []) (hx : Passes CX X E) : OpR X (binaryOp .FloorDiv) (rOwn C sp E) :=
  op_bin_own (op := .FloorDiv) F.slot_int_rfloordiv F.fills_int_floordiv c m mr run hr hb hx
theorem op_floordiv_int (c : OwnC X.K C) (m : Meth X.K C "__rfloordiv__" f) (ml : Meth X.K C "__floordiv__" g) (run : FnOk X.prog X.w X.K X.mg X.base CX k f fd ps sp) (hr : Room k X.A) (hb : Binds X.K fd ps []) (hx : Passes CX X E) : OpR X (binaryOp .FloorDiv) (rOwnR C sp E) :=
  op_bin_int (op := .FloorDiv) F.slot_int_floordiv F.fills_int_floordiv (fun s i t b dy Q' E' hb' q => call_meets F.slot_int_floordiv (typeIs_int s i t) F.entry_int_floordiv (F.args_int_floordiv_2 _ _) (int_floordiv_no i t b C dy) ⟨hb', q⟩) c m ml run hr hb hx
/-- x ** i, the class has no mirrored one -/
theorem op_pow_own (c : OwnC X.K C) (m : Meth X.K C "__pow__" f) (no : PySem.W.findIn X.K (.ref C) "__rpow__" = some none) (run : FnOk X.prog X.w X.K X.mg X.base CX k f fd ps sp) (hr : Room k X.A) (hb : Binds X.K fd ps []) (hx : Passes CX X E) :
    OpR X (binaryOp .Pow) (fun x y H Q => Ins H x C ∧ (∃ i, y = .int i) ∧ sp [x, y] H Q E) := by
  intro pins s σ H x y v u Q I rx ry h
  obtain ⟨⟨a, dx, fs, rfl, ha⟩, ⟨i, rfl⟩, hs⟩ := h
  cases (show v = Value.ref a from rx)
  obtain ⟨t, rfl⟩ := (show ∃ t, u = Value.int i t from ry)
  obtain ⟨od, J⟩ := ins_at I ha
  obtain ⟨mm, hF⟩ := I.fr
  exact bin_own_int0 (op := .Pow) hF I.ok.mod.kin J c.first c.ic F.slot_int_rpow F.fills_int_pow m.at_ m.fn no
    (thn (run_fn (us := [.ref a, .int i t]) (vs := [.ref a, .int i]) run hr hb .nil hx I (.cons rfl (.cons ⟨t, rfl⟩ .nil)) hs) fun v s' q => ep_back q)
end
/-- a callee's error is this def's own way out -/
theorem passE {P : Program} {w : World} {K : PySem.W.Frag} {mg : Str → Option Value} {base : Heap} {N : List Str} {qual : Str} {scope : Scope} {f : Addr} {cdv : Value} {A : Around} {outer : List Env} {s : Shared} {H : Hp} {E : XK} :
    Passes (L2.CX P w) (cxOf (L2.CX P w) P w K mg base N qual scope f cdv A outer s H E) E :=
  passes_call (W := fun cls d _ H => E cls d H) (takes_of rfl rfl rfl rfl) fun _ _ _ _ h => h
end MoL

/-! # Defs that hand lambdas on, and the def that tells the word of what a lambda raises -/
namespace MoL
open PySem PySem.Spec PyProof.Rows L2 MoW LamX

/-- a def whose code object is known -/
structure FunC (K : PySem.W.Frag) (x qual : Str) (st : Stmt) (f : Addr) (fd : FuncData) (c : Addr) : Prop where
  ex : ∃ (oc : Value) (od : Option Addr) (kV doc pm : Value) (an : Option Addr) (ct : Value) (osl : Array (Option Value)),
    fd = PySem.W.fnOf x qual (defArgs st) (defBody st) (defScope st) .none kV doc pm an (.ref c) ct ∧ K.lookup f = some ⟨oc, od, .func fd, osl⟩ ∧ PySem.W.codeIn K (.ref c) qual = true
  kp : PySem.W.keepIn K (.ref f) = true
theorem FunC.ok {P : Program} {w : World} {K : PySem.W.Frag} {mg : Str → Option Value} {base : Heap} {x qual : Str} {st : Stmt} {f c : Addr} {fd : FuncData} {N ps : List Str} {k : Nat} {sp : Sp} (F : FunC K x qual st f fd c) (S : FnScope N ps (defScope st))
    (len : ∀ vs H Q E, sp vs H Q E → vs.length = ps.length)
    (h : ∀ (A : Around) (outer : List Env) (s : Shared) (H : Hp) (vs : List V) (Q : VK) (E : XK), Room k (A.deeper (envOfC qual (defScope st) s.heap.objs.size f (.ref c))) → sp vs H Q E →
      ∃ t, PSs (cxOf CX0 P w K mg base N qual (defScope st) f (.ref c) A outer s H E).nox (defBody st) t ∧ t { nx := fun _ G => Q .non G, rt := Q } (start N vs) H) : FnOk P w K mg base CX0 (k + 1) f fd ps sp := by
  obtain ⟨oc, od, kV, doc, pm, an, ct, osl, rfl, lk, hcd⟩ := F.ex
  refine fn_of lk hcd S len fun A outer s H vs Q E hr hsp => ?_
  obtain ⟨t, p, q⟩ := h A outer s H vs Q E hr hsp
  exact ⟨t, p.nox, q⟩

/-- the word of the error of the class at R that the lambda raises; nothing: the text "" -/
def TTw (R : Addr) : (XK → Hp → VK → Prop) → Hp → VK → Prop := fun tl H Q =>
  tl (fun cls d G => cls = .ref R ∧ ∃ y s, d = some y ∧ G y = some (.xd [("word", .str s)]) ∧ Q (.str s) G) H (fun _ G => ∃ v : V, (some (some (V.str "")) : Option (Option V)) = some (some v) ∧ Q v G)
/-- a wish needs to be told of slots of the right number alone -/
theorem takes_len {X : Cx} {W : WX} (tk : Takes X W) : Takes X (fun cls d σ H => σ.length = X.N.length → W cls d σ H) := fun u s' x => by
  obtain ⟨a, B, sI, pins, σ, H, cls, d, e, I, nb, up, sky, na, os, ag, w⟩ := x
  exact tk u s' ⟨a, B, sI, pins, σ, H, cls, d, e, I, nb, up, sky, na, os, ag, w I.len⟩
theorem FunC.fn {K : PySem.W.Frag} {x qual : Str} {st : Stmt} {f c : Addr} {fd : FuncData} (F : FunC K x qual st f fd c) : Fun K x qual st f fd := by
  obtain ⟨⟨oc, od, kV, doc, pm, an, ct, osl, e, lk, hcd⟩, kp⟩ := F
  exact ⟨⟨oc, od, kV, doc, pm, an, _, ct, osl, e, lk, hcd⟩, kp⟩
/-- what a lambda's body lets out is what is wished of the lambda -/
theorem passLam {X : Cx} {A : Around} {outer : List Env} {s : Shared} {H : Hp} {E : XK} {scope : Scope} {f c' : Addr} : Passes (L2.CX X.prog X.w) (lamCx X A outer s H E scope f c') E :=
  passes_call (X := lamCx X A outer s H E scope f c') (W := fun cls d _ H => E cls d H) (takes_of rfl rfl rfl rfl) fun _ _ _ _ h => h
/-- behind a lambda that raised: all but the tables is kept, and the tables stand -/
theorem after {T : List (Addr × Str)} {H H1 G : Hp} {y : Addr} {o : HO} (e1 : ExtN H H1) (t1 : Tabs T H1) (s1 : Same H1 G) (ny : G y = none) : ExtN H (upd G y o) ∧ Tabs T (upd G y o) := by
  have s2 := s1.trans (same_upd (o := o) ny)
  exact ⟨e1.trans (.of s2), t1.ext s2⟩
theorem RatAt.ext {C : Addr} {H H' : Hp} {v : V} {t b : Int} (r : RatAt C H v t b) (s : ExtN H H') : RatAt C H' v t b := by
  obtain ⟨a, dx, e, h⟩ := r
  exact ⟨a, dx, e, s _ _ h fun _ z => by cases z⟩
end MoL

/-! # A walk over a list or over a tuple; classes by their facts alone -/
namespace MoL
open PySem PySem.Spec PyProof.Rows L2 MoW
theorem pi_or {X : Cx} {tg e : Expr} {t t' : TI} (p : PI X tg e t) (q : PI X tg e t') : PI X tg e (fun σ H R => t σ H R ∨ t' σ H R) :=
  ⟨fun pins s σ H R I h => h.elim (p.run pins s σ H R I) (q.run pins s σ H R I)⟩
/-- what the written part says of a class of plain instances with operators; the fields' names apart -/
structure OwnB (K : PySem.W.Frag) (C : Addr) : Prop where
  cl : Cls K C
  ow : OwnC K C
  ha : PySem.W.findIn K (.ref C) "__class__" = some (some (.builtin "object.__class__"))
  hn : PySem.W.specialIn K (.builtin "object.__class__") "__get__" = some (some (.builtin "getset_descriptor.__get__"))
  htk : PySem.W.takesIn K (.builtin "object.__class__") = some true
  hm : PySem.W.mroIn K C (.type "object") = some true
  ki : PySem.W.kitOne K (.ref C) (.type "int") = some false
  ik : PySem.W.kitOne K (.type "int") (.ref C) = some false
theorem OwnB.ty {K : PySem.W.Frag} {C : Addr} {H : Hp} {a dx : Addr} {fs : List (Str × V)} (k : OwnB K C) (h : H a = some (.ins C dx fs)) : TyX K H (.ref a) (.ref C) :=
  .base (.ins h k.cl k.ha k.hn k.htk k.hm)

/-! ### a def that declines: its first row is «if not ..: return NotImplemented» -/
/-- behind such a call: the answer, and the heap as it was -/
def Declines (outer : List Env) (P : Program) (w : World) (H : Hp) (s : Shared) (r : Result) (s' : Shared) : Prop := r = .ok (.ret .notImplemented) ∧ CE outer P w H s (fun v G => v = .non ∧ G = H) .none s'
theorem fn_no {CX : CXT} {P : Program} {w : World} {K : PySem.W.Frag} {mg : Str → Option Value} {base : Heap} {k : Nat} {f : Addr} {name qual : Str} {params : Arguments} {scope : Scope} {dV kV doc pm cdv ct oc : Value} {an od : Option Addr} {osl : Array (Option Value)}
    {N ps : List Str} {test : Expr} {rest : List Stmt} {p1 p2 p3 : Pos}
    (lk : K.lookup f = some ⟨oc, od, .func (PySem.W.fnOf name qual params (.If test [.Return (some (.Name "NotImplemented" p1)) p2] [] p3 :: rest) scope dV kV doc pm an cdv ct), osl⟩) (hcd : PySem.W.codeIn K cdv qual = true) (S : FnScope N ps scope)
    (hg : scope.names.lookup ("NotImplemented" : Str) = some NameKind.globalImplicit) (hmg : mg "NotImplemented" = none) {A : Around} {outer : List Env} {s : Shared} {H : Hp} {args : Args} {us : List Value} {vs : List V} (hl : vs.length = ps.length) (room : Room (k + 1) A)
    (e0 : Env0 P w K mg base A outer s H) (hb : BindsTo s (PySem.W.fnOf name qual params (.If test [.Return (some (.Name "NotImplemented" p1)) p2] [] p3 :: rest) scope dV kV doc pm an cdv ct) args (ps.zip us)) (r : Vals vs us)
    (ht : Room k (A.deeper (envOfC qual scope s.heap.objs.size f cdv)) → ∃ t, PT (cxOf CX P w K mg base N qual scope f cdv A outer s H (fun _ _ _ => False)) test t ∧ t (start N vs) H (fun b G => b = true ∧ G = H)) :
    codeAny (model P w) A (.call (.ref f) args) (fun r s' => Declines outer P w H s r s' ∨ ∃ e, r = .error e ∧ CX outer H s (fun _ _ _ => False) e s') s := by
  have KX : K.In s.heap := e0.mod.kin.keeps fun b o z => (e0.bs b o z).1
  have lim : s.heap.NoLimit := e0.mod.nolimit.keeps fun b o z => (e0.bs b o z).1
  have kinds : ∀ y ∈ ps.zip us, scope.names.lookup y.1 = some .local ∨ (scope.names.lookup y.1 = some .cell ∧ ((cellsFrom (s.heap.objs.size + 1) scope.names []).lookup y.1).isSome = true) := by
    rintro ⟨n, v⟩ hy
    rcases S.par n (List.of_mem_zip hy).1 with q | q
    · exact .inl q
    · exact .inr ⟨q, PySem.W.cellsFrom_some _ _ _ (.inl q)⟩
  refine codeAny_call_function room.depth (KX _ _ lk) rfl S.co S.gen rfl (PySem.W.codeRec_of KX hcd) (hb _ _ _ _ ?_)
  refine wpAny_newFunctionEnv_cells S.kind kinds ?_
  rintro env rfl s1 x
  refine ⟨lim.keeps x.toInCall.keep, codeAny_func ?_⟩
  obtain ⟨t, pt, hq⟩ := ht (room.deeper _)
  have I : Inv (cxOf CX P w K mg base N qual scope f cdv A outer s H (fun _ _ _ => False)) [] (start N vs) H s1 := inv_start S room.hd e0 hl r x
  refine wpAny_mono (Q := fun fl s' => fl = .ret .notImplemented ∧ Inv (cxOf CX P w K mg base N qual scope f cdv A outer s H (fun _ _ _ => False)) [] (start N vs) H s') (wpAny_execs_cons (wpAny_If (thn (pt.run [] s1 _ H _ I hq) ?_))) ?_ ?_
  · rintro d s2 ⟨H2, I2, rfl, rfl⟩
    have g : Gl (cxOf CX P w K mg base N qual scope f cdv A outer s H2 (fun _ _ _ => False)) "NotImplemented" := hg
    exact wpAny_execs_cons (wpAny_Return_some (ld_blt I2 g hmg PyProof.Rows.Boot.«NotImplemented» ⟨rfl, I2⟩))
  · rintro fl s' ⟨rfl, J⟩
    exact .inl ⟨rfl, .non, H, J.os, J.bare, J.base, J.hok, rfl, rfl, rfl⟩
  · intro e s' hs
    exact wpAny_mono hs (fun _ s2 z => .inr ⟨e, rfl, z⟩) fun e2 s2 z => .inr ⟨e2, rfl, z⟩
end MoL

namespace MoW
open PySem PySem.W PyProof.Rows
section
variable {prog : Program} {w : World} {A : Around} {E : Value → Shared → Prop} {s : Shared} {K : Frag} {x y C D L f g fr : Addr} {ox oy : Obj} {od od' : Option Obj} {h₀ : Heap} {m : Str → Option Value}
/-- an instance beside one of another class: its own method declines, the other's mirrored one answers -/
theorem bin_own_other {op : Operator} {Q : Value → Shared → Prop} {R : Shared → Prop} {f' g' : Addr} (X : K.In s.heap) (I : W.InstAt s.heap x ox C od) (J : W.InstAt s.heap y oy D od') (hc : selfFirst K C = true) (hd : selfFirst K D = true) (hne : C ≠ D)
    (hn : subIn K (.ref D) (.ref C) = some false) (h1 : findIn K (.ref C) (PySem.dunder op.info.2) = some (some (.ref f))) (hf : isFn K (.ref f) = true) (h1r : findIn K (.ref C) (dunderR op.info.2) = some (some (.ref f')))
    (h2 : findIn K (.ref D) (PySem.dunder op.info.2) = some (some (.ref g'))) (h2r : findIn K (.ref D) (dunderR op.info.2) = some (some (.ref g))) (hg : isFn K (.ref g) = true)
    (a : wpAny (model prog w) A (call (.ref f) [.ref x, .ref y]) (fun v s' => v = .notImplemented ∧ R s') E s)
    (b : ∀ s', R s' → K.In s'.heap ∧ (∃ ox' o1, W.InstAt s'.heap x ox' C o1) ∧ (∃ oy' o2, W.InstAt s'.heap y oy' D o2) ∧ wpAny (model prog w) A (call (.ref g) [.ref y, .ref x]) (W.CmpBack Q) E s') : wpAny (model prog w) A (binaryOp op (.ref x) (.ref y)) Q E s := by
  obtain ⟨cd, rest, hcd, hm⟩ := mro_first (K := K) (C := C) (cd := default) hc
  obtain ⟨dd, rest2, hdd, hm2⟩ := mro_first (K := K) (C := D) (cd := default) hd
  unfold binaryOp
  refine wpAny_holding (wpAny_bind ?_)
  unfold binaryOp1
  refine wpAny_bind (I.type.here (wpAny_bind (J.type.here (wpAny_bind ((fills_K X hcd hm h1).here ?_)))))
  have ne : (Value.ref C == Value.ref D) = false := by simpa using hne
  simp only [ne, Bool.false_eq_true, if_false]
  refine wpAny_bind ((fills_K X hdd hm2 h2).here ?_)
  simp only [Bool.and_self, if_true]
  refine wpAny_bind ((looks_subIn X hn).here ?_)
  simp only [Bool.false_eq_true, if_false, pure_bind, Bool.not_false, Bool.and_self, if_true]
  have py : ∀ {Z p q : Addr}, findIn K (.ref Z) (PySem.dunder op.info.2) = some (some (.ref p)) → findIn K (.ref Z) (dunderR op.info.2) = some (some (.ref q)) → Looks (model prog w) s.heap (numberSlotInPython (.ref Z) op.info.2) true := by
    intro Z p q z1 z2
    unfold numberSlotInPython
    refine (looks_findIn X z1).andThen (Looks.andThen (a := true) .now ?_)
    exact (looks_findIn X z2).andThen (Looks.andThen (a := true) .now .now)
  refine wpAny_bind ((py h1 h1r).here ?_)
  simp only [if_true]
  refine wpAny_bind ((py h2 h2r).here ?_)
  simp only [Bool.not_true, Bool.false_eq_true, if_false]
  refine wpAny_bind (m := tryMethod (.ref x) _ (.ref y)) ?_
  unfold tryMethod
  refine wpAny_bind (special_fn X I h1 (beq_iff_eq.mp hf) (wpAny_mono a (fun v s' hv => ?_) fun _ _ e => e))
  obtain ⟨rfl, hR⟩ := hv
  obtain ⟨X2, ⟨ox', o1, I2⟩, ⟨oy', o2, J2⟩, b2⟩ := b s' hR
  refine wpAny_pure (wpAny_bind (I2.type.here (wpAny_bind (J2.type.here ?_))))
  rw [ne]
  simp only [Bool.false_eq_true, if_false]
  refine wpAny_bind (m := tryMethod (.ref y) _ (.ref x)) ?_
  unfold tryMethod
  refine wpAny_bind (special_fn X2 J2 h2r (beq_iff_eq.mp hg) (wpAny_mono b2 (fun v s' hv => ?_) fun _ _ e => e))
  cases v <;> first | exact hv.elim | exact wpAny_pure (wpAny_bind (wpAny_rule (wpAny_pure (wpAny_pure hv))))
end
end MoW
namespace MoL
open PySem PySem.Spec PyProof.Rows L2 MoW
/-- a def that declines these values -/
def FnNo (P : Program) (w : World) (K : PySem.W.Frag) (mg : Str → Option Value) (base : Heap) (CX : CXT) (k : Nat) (f : Addr) (pre : List V → Hp → Prop) : Prop :=
  ∀ (A : Around) (outer : List Env) (s : Shared) (H : Hp) (us : List Value) (vs : List V), Room k A → Env0 P w K mg base A outer s H → Vals vs us → pre vs H →
    codeAny (model P w) A (.call (.ref f) ⟨us, []⟩) (fun r s' => Declines outer P w H s r s' ∨ ∃ e, r = .error e ∧ CX outer H s (fun _ _ _ => False) e s') s
section
variable {X : Cx} {CX CX' : CXT} {k k' : Nat} {C D f f' g g' : Addr} {fd : FuncData} {ps : List Str} {sp : Sp} {E : XK} {pre : List V → Hp → Prop}
/-- x op y: x's own def declines, y's mirrored one answers -/
theorem op_other {op : Operator} (c : OwnC X.K C) (d : OwnC X.K D) (ne : C ≠ D) (sub : PySem.W.subIn X.K (.ref D) (.ref C) = some false) (m : Meth X.K C (PySem.dunder op.info.2) f) (mr : Meth X.K C (dunderR op.info.2) f') (m2 : Meth X.K D (PySem.dunder op.info.2) g')
    (m2r : Meth X.K D (dunderR op.info.2) g) (no : FnNo X.prog X.w X.K X.mg X.base CX' k' f pre) (hr' : Room k' X.A) (never : ∀ (H : Hp) s e s', CX' X.stack H s (fun _ _ _ => False) e s' → False) (run : FnOk X.prog X.w X.K X.mg X.base CX k g fd ps sp) (hr : Room k X.A)
    (hb : Binds X.K fd ps []) (hx : Passes CX X E) : OpR X (binaryOp op) (fun x y H Q => Ins H x C ∧ Ins H y D ∧ pre [x, y] H ∧ sp [y, x] H Q E) := by
  intro pins s σ H x y v u Q I rx ry h
  obtain ⟨⟨a, dx, fs, rfl, ha⟩, ⟨b, dy, gs, rfl, hb'⟩, hp, hs⟩ := h
  cases (show v = Value.ref a from rx)
  cases (show u = Value.ref b from ry)
  obtain ⟨od, J⟩ := ins_at I ha
  obtain ⟨od', J'⟩ := ins_at I hb'
  refine bin_own_other (R := fun s' => Inv X pins σ H s') I.kIn J J' c.first d.first ne sub m.at_ m.fn mr.at_ m2.at_ m2r.at_ m2r.fn ?_ ?_
  · refine wpAny_call (codeAny_mono (no X.A X.stack s H [.ref a, .ref b] [.ref a, .ref b] hr' I.env0 (.cons rfl (.cons rfl .nil)) hp) ?_)
    rintro r s' (⟨rfl, ce⟩ | ⟨e, rfl, z⟩)
    · obtain ⟨w0, G, I2, _, ⟨_, rfl⟩⟩ := I.after ce
      exact ⟨rfl, I2⟩
    · exact (never H s e s' z).elim
  · intro s' I2
    obtain ⟨o1, K1⟩ := ins_at I2 ha
    obtain ⟨o2, K2⟩ := ins_at I2 hb'
    exact ⟨I2.kIn, ⟨_, o1, K1⟩, ⟨_, o2, K2⟩, thn (run_fn (us := [.ref b, .ref a]) (vs := [.ref b, .ref a]) run hr hb .nil hx I2 (.cons rfl (.cons rfl .nil)) hs) fun v s' q => ep_back q⟩
end
/-- a def of the text that declines what its first row tells -/
theorem no_of {P : Program} {w : World} {K : PySem.W.Frag} {mg : Str → Option Value} {base : Heap} {x qual : Str} {st : Stmt} {f : Addr} {fd : FuncData} {N ps : List Str} {k : Nat} {test : Expr} {rest : List Stmt} {p1 p2 p3 : Pos} {pre : List V → Hp → Prop}
    (F : Fun K x qual st f fd) (S : FnScope N ps (defScope st)) (hst : defBody st = .If test [.Return (some (.Name "NotImplemented" p1)) p2] [] p3 :: rest) (hg : (defScope st).names.lookup ("NotImplemented" : Str) = some NameKind.globalImplicit) (hmg : mg "NotImplemented" = none)
    (hb : Binds K fd ps []) (len : ∀ vs H, pre vs H → vs.length = ps.length)
    (ht : ∀ (cdv : Value) (A : Around) (outer : List Env) (s : Shared) (H : Hp) (vs : List V), Room k (A.deeper (envOfC qual (defScope st) s.heap.objs.size f cdv)) → pre vs H →
      ∃ t, PT (cxOf CX0 P w K mg base N qual (defScope st) f cdv A outer s H (fun _ _ _ => False)) test t ∧ t (start N vs) H (fun b G => b = true ∧ G = H)) : FnNo P w K mg base CX0 (k + 1) f pre := by
  obtain ⟨oc, od, kV, doc, pm, an, cdv, ct, osl, rfl, lk, hcd⟩ := F.ex
  rw [hst] at lk hb
  intro A outer s H us vs room e0 r hp
  have hl := len vs H hp
  have KX : K.In s.heap := e0.mod.kin.keeps fun b o z => (e0.bs b o z).1
  have hlu : (us ++ []).length = ps.length := by
    rw [List.append_nil, ← r.length]
    exact hl
  have bd := hb s us KX hlu
  rw [List.append_nil] at bd
  exact fn_no lk hcd S hg hmg hl room e0 bd r fun rm => ht cdv A outer s H vs rm hp
end MoL

/-! # None beside an instance under ==, and x in an instance -/
namespace MoW
open PySem PySem.W PyProof.Rows
section
variable {prog : Program} {w : World} {A : Around} {E : Value → Shared → Prop} {s : Shared} {K : Frag} {x C f : Addr} {ox : Obj} {od : Option Obj}
theorem none_eq_no (l : Addr) : Gives (Builtin.«NoneType.__eq__» ⟨[.none, .ref l], []⟩) (.val (Value.notImplemented)) :=
  .of_wp fun M A E s Q h => by obtain ⟨hp, g, d, tk, os⟩ := s; wp_walk; exact ⟨_, rfl, h⟩
/-- None == x: both decline, they are not one thing -/
theorem cmp_none_own {Q : Value → Shared → Prop} {R : Shared → Prop} (hu : A.units < cLine) (X : K.In s.heap) (I : W.InstAt s.heap x ox C od) (hn : subIn K (.ref C) (.type "NoneType") = some false)
    (hs : findIn K (.ref C) "__eq__" = some (some (.ref f))) (hf : isFn K (.ref f) = true)
    (h : wpAny (model prog w) A (call (.ref f) [.ref x, .none]) (fun v s' => v = .notImplemented ∧ Q (.bool false) s') E s) : wpAny (model prog w) A (richCompare .Eq .none (.ref x)) Q E s := by
  have ty : ∀ s' : Shared, s'.TypeIs .none "NoneType" := fun _ => rfl
  unfold richCompare
  simp only [(ty s).oneThing_none]
  refine wpAny_holding (wpAny_bind (wpAny_cRoomFor hu ?_))
  refine wpAny_bind (wpAny_typeOf (ty s) (wpAny_bind (I.type.here ?_)))
  have hne : (Value.type "NoneType" != Value.ref C) = true := rfl
  simp only [hne, if_true]
  refine wpAny_bind ((looks_subIn X hn).here ?_)
  simp only [Bool.false_eq_true, if_false, Bool.not_false, if_true]
  refine wpAny_bind (m := tryCompare .none _ (.ref x)) (wpAny_tryCompare_declines (ty s) PySem.F.slot_NoneType_eq (call_gives PySem.F.slot_NoneType_eq rfl PySem.F.entry_NoneType_eq (PySem.F.args_NoneType_eq_2 _ _) (none_eq_no x) ⟨rfl, ?_⟩))
  refine wpAny_bind (m := tryCompare (.ref x) _ .none) ?_
  unfold tryCompare
  refine wpAny_bind (ifBound_K X I hs hf (wpAny_mono h (fun v s' hv => ?_) fun _ _ e => e))
  obtain ⟨rfl, q⟩ := hv
  exact wpAny_pure (wpAny_bind (wpAny_rule (wpAny_bind (wpAny_of_eq (show isSame .none (.ref x) = pure false from rfl) (wpAny_pure q)))))
/-- x == None, x's own method declines -/
theorem cmp_own_none {Q : Value → Shared → Prop} {R : Shared → Prop} (hu : A.units < cLine) (X : K.In s.heap) (I : W.InstAt s.heap x ox C od) (hn : subIn K (.type "NoneType") (.ref C) = some false)
    (hs : findIn K (.ref C) "__eq__" = some (some (.ref f))) (hf : isFn K (.ref f) = true)
    (h : wpAny (model prog w) A (call (.ref f) [.ref x, .none]) (fun v s' => v = .notImplemented ∧ Q (.bool false) s') E s) : wpAny (model prog w) A (richCompare .Eq (.ref x) .none) Q E s := by
  have ty : ∀ s' : Shared, s'.TypeIs .none "NoneType" := fun _ => rfl
  unfold richCompare
  simp only [oneThing_ref]
  refine wpAny_holding (wpAny_bind (wpAny_cRoomFor hu ?_))
  refine wpAny_bind (I.type.here (wpAny_bind (wpAny_typeOf (ty s) ?_)))
  have hne : (Value.ref C != Value.type "NoneType") = true := rfl
  simp only [hne, if_true]
  refine wpAny_bind ((looks_subIn X hn).here ?_)
  simp only [Bool.false_eq_true, if_false, Bool.not_false, if_true]
  refine wpAny_bind (m := tryCompare (.ref x) _ .none) ?_
  have one : wpAny (model prog w) A (tryCompare (.ref x) "__eq__" .none) (fun r s' => r = none ∧ Q (.bool false) s') E s := by
    unfold tryCompare
    refine wpAny_bind (ifBound_K X I hs hf (wpAny_mono h (fun v s' hv => ?_) fun _ _ e => e))
    obtain ⟨rfl, q⟩ := hv
    exact wpAny_pure ⟨rfl, q⟩
  refine wpAny_mono one (fun r s' z => ?_) fun _ _ e => e
  obtain ⟨rfl, q⟩ := z
  refine wpAny_bind (m := tryCompare .none _ (.ref x)) (wpAny_tryCompare_declines (ty s') PySem.F.slot_NoneType_eq_refl (call_gives PySem.F.slot_NoneType_eq_refl rfl PySem.F.entry_NoneType_eq (PySem.F.args_NoneType_eq_2 _ _) (none_eq_no x) ⟨rfl, ?_⟩))
  exact wpAny_bind (wpAny_rule (wpAny_bind (wpAny_of_eq (show isSame (.ref x) .none = pure false from rfl) (wpAny_pure q))))
end
end MoW
namespace MoL
open PySem PySem.Spec PyProof.Rows L2 MoW
section
variable {X : Cx} {CX CX' : CXT} {k k' : Nat} {C D f f' g g' : Addr} {fd : FuncData} {ps : List Str} {sp : Sp} {E : XK} {pre : List V → Hp → Prop}
/-- x == None and None == x: not equal, the instance's own method declines -/
theorem op_eq_none (h1 : PySem.W.subIn X.K (.ref C) (.type "NoneType") = some false) (h2 : PySem.W.subIn X.K (.type "NoneType") (.ref C) = some false) (m : Meth X.K C "__eq__" f)
    (no : FnNo X.prog X.w X.K X.mg X.base CX' k' f pre) (hr' : Room k' X.A) (never : ∀ (H : Hp) s e s', CX' X.stack H s (fun _ _ _ => False) e s' → False) :
    OpR X (compareOp .Eq) (fun x y H Q => ((x = .non ∧ Ins H y C ∧ pre [y, .non] H) ∨ (y = .non ∧ Ins H x C ∧ pre [x, .non] H)) ∧ Q (.bl false) H) := by
  intro pins s σ H x y v u Q I rx ry h
  obtain ⟨h, q⟩ := h
  have run : ∀ a : Addr, pre [.ref a, .non] H → wpAny (model X.prog X.w) X.A (call (.ref f) [.ref a, .none]) (fun v s' => v = .notImplemented ∧ EP X pins σ Q (.bool false) s') X.xe s := fun a hp => by
    refine wpAny_call (codeAny_mono (no X.A X.stack s H [.ref a, .none] [.ref a, .non] hr' I.env0 (.cons rfl (.cons rfl .nil)) hp) ?_)
    rintro r s' (⟨rfl, ce⟩ | ⟨e, rfl, z⟩)
    · obtain ⟨w0, G, I2, _, ⟨_, rfl⟩⟩ := I.after ce
      exact ⟨rfl, .bl false, _, I2, rfl, q⟩
    · exact (never H s e s' z).elim
  rcases h with ⟨rfl, ⟨a, dx, fs, rfl, ha⟩, hp⟩ | ⟨rfl, ⟨a, dx, fs, rfl, ha⟩, hp⟩
  · cases (show v = Value.none from rx)
    cases (show u = Value.ref a from ry)
    obtain ⟨od, J⟩ := ins_at I ha
    exact cmp_none_own (R := fun _ => True) hr'.units0 I.kIn J h1 m.at_ m.fn (run a hp)
  · cases (show v = Value.ref a from rx)
    cases (show u = Value.none from ry)
    obtain ⟨od, J⟩ := ins_at I ha
    exact cmp_own_none (R := fun _ => True) hr'.units0 I.kIn J h2 m.at_ m.fn (run a hp)
/-- x in an instance -/
theorem op_in_own (m : Meth X.K C "__contains__" f) (F : FnOk X.prog X.w X.K X.mg X.base CX k f fd ps sp) (hr : Room k X.A) (hb : Binds X.K fd ps []) (hx : Passes CX X E) :
    OpR X (compareOp .In) (fun x y H Q => Ins H y C ∧ sp [y, x] H (fun v H' => ∃ b, v = .bl b ∧ Q (.bl b) H') E) := by
  intro pins s σ H x y v u Q I rx ry h
  obtain ⟨⟨a, dx, fs, rfl, ha⟩, hs⟩ := h
  cases (show u = Value.ref a from ry)
  obtain ⟨od, J⟩ := ins_at I ha
  obtain ⟨mm, hF⟩ := I.fr
  refine PySem.W.in_K hF I.ok.mod.kin J m.at_ m.fn (thn (run_fn (us := [.ref a, v]) (vs := [.ref a, x]) F hr hb .nil hx I (.cons rfl (.cons rx .nil)) hs) fun r s' q => ?_)
  obtain ⟨z, H', I', r1, b, rfl, q⟩ := q
  cases (show r = Value.bool b from r1)
  exact wpAny_truthy_bool ⟨.bl b, H', I', rfl, q⟩
end
/-- a list read by place, the written part named (in a lambda's body the context must not show) -/
theorem ix_listK {X : Cx} {K : PySem.W.Frag} (h : X.K = K) : IxR X (rIxL K) := h ▸ ix_list
end MoL

namespace Mo
open PySem PySem.Spec PyProof.Rows L2 MoL MoW
open C8 (pss_cut tCut)
/-! ### the text -/
def topS (i : Nat) : Stmt := PySem.Challenge.pw_momentrows_k15_places.main.body.getD i (.Pass ⟨0, 0, 0, 0⟩)
abbrev s_NoNumber___init__ : Stmt := inClass (topS 5) 0
abbrev N_NoNumber___init__ : List Str := ["self", "word"]
theorem sc_NoNumber___init__ : FnScope N_NoNumber___init__ ["self", "word"] (defScope s_NoNumber___init__) := ⟨rfl, rfl, rfl, by decide +kernel, rfl, by decide +kernel, by decide +kernel⟩
abbrev s_NoPlace___init__ : Stmt := inClass (topS 6) 0
abbrev N_NoPlace___init__ : List Str := ["self", "part"]
theorem sc_NoPlace___init__ : FnScope N_NoPlace___init__ ["self", "part"] (defScope s_NoPlace___init__) := ⟨rfl, rfl, rfl, by decide +kernel, rfl, by decide +kernel, by decide +kernel⟩
abbrev s_Ratio___init__ : Stmt := inClass (topS 11) 0
abbrev N_Ratio___init__ : List Str := ["self", "top", "bottom", "shared"]
theorem sc_Ratio___init__ : FnScope N_Ratio___init__ ["self", "top", "bottom"] (defScope s_Ratio___init__) := ⟨rfl, rfl, rfl, by decide +kernel, rfl, by decide +kernel, by decide +kernel⟩
abbrev s_Ratio___add__ : Stmt := inClass (topS 11) 1
abbrev N_Ratio___add__ : List Str := ["self", "other"]
theorem sc_Ratio___add__ : FnScope N_Ratio___add__ ["self", "other"] (defScope s_Ratio___add__) := ⟨rfl, rfl, rfl, by decide +kernel, rfl, by decide +kernel, by decide +kernel⟩
abbrev s_Ratio___radd__ : Stmt := inClass (topS 11) 2
abbrev N_Ratio___radd__ : List Str := ["self", "other"]
theorem sc_Ratio___radd__ : FnScope N_Ratio___radd__ ["self", "other"] (defScope s_Ratio___radd__) := ⟨rfl, rfl, rfl, by decide +kernel, rfl, by decide +kernel, by decide +kernel⟩
abbrev s_Ratio___mul__ : Stmt := inClass (topS 11) 5
abbrev N_Ratio___mul__ : List Str := ["self", "other"]
theorem sc_Ratio___mul__ : FnScope N_Ratio___mul__ ["self", "other"] (defScope s_Ratio___mul__) := ⟨rfl, rfl, rfl, by decide +kernel, rfl, by decide +kernel, by decide +kernel⟩
abbrev s_Ratio___rmul__ : Stmt := inClass (topS 11) 6
abbrev N_Ratio___rmul__ : List Str := ["self", "other"]
theorem sc_Ratio___rmul__ : FnScope N_Ratio___rmul__ ["self", "other"] (defScope s_Ratio___rmul__) := ⟨rfl, rfl, rfl, by decide +kernel, rfl, by decide +kernel, by decide +kernel⟩
abbrev s_Ratio___eq__ : Stmt := inClass (topS 11) 14
abbrev N_Ratio___eq__ : List Str := ["self", "other"]
theorem sc_Ratio___eq__ : FnScope N_Ratio___eq__ ["self", "other"] (defScope s_Ratio___eq__) := ⟨rfl, rfl, rfl, by decide +kernel, rfl, by decide +kernel, by decide +kernel⟩
abbrev s_Ratio___lt__ : Stmt := inClass (topS 11) 16
abbrev N_Ratio___lt__ : List Str := ["self", "other"]
theorem sc_Ratio___lt__ : FnScope N_Ratio___lt__ ["self", "other"] (defScope s_Ratio___lt__) := ⟨rfl, rfl, rfl, by decide +kernel, rfl, by decide +kernel, by decide +kernel⟩
abbrev s_Ratio___le__ : Stmt := inClass (topS 11) 17
abbrev N_Ratio___le__ : List Str := ["self", "other"]
theorem sc_Ratio___le__ : FnScope N_Ratio___le__ ["self", "other"] (defScope s_Ratio___le__) := ⟨rfl, rfl, rfl, by decide +kernel, rfl, by decide +kernel, by decide +kernel⟩
abbrev s_Ratio___gt__ : Stmt := inClass (topS 11) 18
abbrev N_Ratio___gt__ : List Str := ["self", "other"]
theorem sc_Ratio___gt__ : FnScope N_Ratio___gt__ ["self", "other"] (defScope s_Ratio___gt__) := ⟨rfl, rfl, rfl, by decide +kernel, rfl, by decide +kernel, by decide +kernel⟩
abbrev s_Ratio___ge__ : Stmt := inClass (topS 11) 19
abbrev N_Ratio___ge__ : List Str := ["self", "other"]
theorem sc_Ratio___ge__ : FnScope N_Ratio___ge__ ["self", "other"] (defScope s_Ratio___ge__) := ⟨rfl, rfl, rfl, by decide +kernel, rfl, by decide +kernel, by decide +kernel⟩
abbrev s_is_whole : Stmt := topS 12
abbrev N_is_whole : List Str := ["x"]
theorem sc_is_whole : FnScope N_is_whole ["x"] (defScope s_is_whole) := ⟨rfl, rfl, rfl, by decide +kernel, rfl, by decide +kernel, by decide +kernel⟩
abbrev s_is_number : Stmt := topS 13
abbrev N_is_number : List Str := ["x"]
theorem sc_is_number : FnScope N_is_number ["x"] (defScope s_is_number) := ⟨rfl, rfl, rfl, by decide +kernel, rfl, by decide +kernel, by decide +kernel⟩
abbrev s_ratio_of : Stmt := topS 14
abbrev N_ratio_of : List Str := ["number"]
theorem sc_ratio_of : FnScope N_ratio_of ["number"] (defScope s_ratio_of) := ⟨rfl, rfl, rfl, by decide +kernel, rfl, by decide +kernel, by decide +kernel⟩
abbrev s__sum : Stmt := topS 15
abbrev N__sum : List Str := ["one", "other"]
theorem sc__sum : FnScope N__sum ["one", "other"] (defScope s__sum) := ⟨rfl, rfl, rfl, by decide +kernel, rfl, by decide +kernel, by decide +kernel⟩
abbrev s__product : Stmt := topS 17
abbrev N__product : List Str := ["one", "other"]
theorem sc__product : FnScope N__product ["one", "other"] (defScope s__product) := ⟨rfl, rfl, rfl, by decide +kernel, rfl, by decide +kernel, by decide +kernel⟩
abbrev s__gap : Stmt := topS 20
abbrev N__gap : List Str := ["one", "other"]
theorem sc__gap : FnScope N__gap ["one", "other"] (defScope s__gap) := ⟨rfl, rfl, rfl, by decide +kernel, rfl, by decide +kernel, by decide +kernel⟩
abbrev s_Place___init__ : Stmt := inClass (topS 23) 0
abbrev N_Place___init__ : List Str := ["self", "low", "high"]
theorem sc_Place___init__ : FnScope N_Place___init__ ["self", "low", "high"] (defScope s_Place___init__) := ⟨rfl, rfl, rfl, by decide +kernel, rfl, by decide +kernel, by decide +kernel⟩
abbrev s_Place___eq__ : Stmt := inClass (topS 23) 1
abbrev N_Place___eq__ : List Str := ["self", "other"]
theorem sc_Place___eq__ : FnScope N_Place___eq__ ["self", "other"] (defScope s_Place___eq__) := ⟨rfl, rfl, rfl, by decide +kernel, rfl, by decide +kernel, by decide +kernel⟩
abbrev s_Place___contains__ : Stmt := inClass (topS 23) 2
abbrev N_Place___contains__ : List Str := ["self", "x"]
theorem sc_Place___contains__ : FnScope N_Place___contains__ ["self", "x"] (defScope s_Place___contains__) := ⟨rfl, rfl, rfl, by decide +kernel, rfl, by decide +kernel, by decide +kernel⟩
abbrev s_Place_is_line : Stmt := inClass (topS 23) 3
abbrev N_Place_is_line : List Str := ["self"]
theorem sc_Place_is_line : FnScope N_Place_is_line ["self"] (defScope s_Place_is_line) := ⟨rfl, rfl, rfl, by decide +kernel, rfl, by decide +kernel, by decide +kernel⟩
abbrev s_Place_is_segment : Stmt := inClass (topS 23) 4
abbrev N_Place_is_segment : List Str := ["self"]
theorem sc_Place_is_segment : FnScope N_Place_is_segment ["self"] (defScope s_Place_is_segment) := ⟨rfl, rfl, rfl, by decide +kernel, rfl, by decide +kernel, by decide +kernel⟩
abbrev s_Place_moved : Stmt := inClass (topS 23) 5
abbrev N_Place_moved : List Str := ["self", "by"]
theorem sc_Place_moved : FnScope N_Place_moved ["self", "by"] (defScope s_Place_moved) := ⟨rfl, rfl, rfl, by decide +kernel, rfl, by decide +kernel, by decide +kernel⟩
abbrev s_Place_stretched : Stmt := inClass (topS 23) 6
abbrev N_Place_stretched : List Str := ["self", "by"]
theorem sc_Place_stretched : FnScope N_Place_stretched ["self", "by"] (defScope s_Place_stretched) := ⟨rfl, rfl, rfl, by decide +kernel, rfl, by decide +kernel, by decide +kernel⟩
abbrev s__law_is_integer : Stmt := topS 25
abbrev N__law_is_integer : List Str := ["_law_value"]
theorem sc__law_is_integer : FnScope N__law_is_integer ["_law_value"] (defScope s__law_is_integer) := ⟨rfl, rfl, rfl, by decide +kernel, rfl, by decide +kernel, by decide +kernel⟩
abbrev s__law_feed : Stmt := topS 26
abbrev N__law_feed : List Str := ["_law_script", "_law_cell"]
theorem sc__law_feed : FnScope N__law_feed ["_law_script"] (defScope s__law_feed) := ⟨rfl, rfl, rfl, by decide +kernel, rfl, by decide +kernel, by decide +kernel⟩
abbrev s__law_take : Stmt := topS 27
abbrev N__law_take : List Str := ["_law_feed_here", "_law_size", "_law_cell", "_law_digit", "_law_number_here"]
theorem sc__law_take : FnScope N__law_take ["_law_feed_here", "_law_size"] (defScope s__law_take) := ⟨rfl, rfl, rfl, by decide +kernel, rfl, by decide +kernel, by decide +kernel⟩
abbrev s__law_number : Stmt := topS 28
abbrev N__law_number : List Str := ["_law_feed_here", "_law_size", "_law_sign"]
theorem sc__law_number : FnScope N__law_number ["_law_feed_here", "_law_size"] (defScope s__law_number) := ⟨rfl, rfl, rfl, by decide +kernel, rfl, by decide +kernel, by decide +kernel⟩
abbrev s__law_is : Stmt := topS 29
abbrev N__law_is : List Str := ["_law_value", "_law_top", "_law_bottom"]
theorem sc__law_is : FnScope N__law_is ["_law_value", "_law_top", "_law_bottom"] (defScope s__law_is) := ⟨rfl, rfl, rfl, by decide +kernel, rfl, by decide +kernel, by decide +kernel⟩
abbrev s__law_flag : Stmt := topS 30
abbrev N__law_flag : List Str := ["_law_value", "_law_due"]
theorem sc__law_flag : FnScope N__law_flag ["_law_value", "_law_due"] (defScope s__law_flag) := ⟨rfl, rfl, rfl, by decide +kernel, rfl, by decide +kernel, by decide +kernel⟩
abbrev s__law_refused : Stmt := topS 31
abbrev N__law_refused : List Str := ["_law_low", "_law_high", "_law_part", "_law_found", "e"]
theorem sc__law_refused : FnScope N__law_refused ["_law_low", "_law_high", "_law_part"] (defScope s__law_refused) := ⟨rfl, rfl, rfl, by decide +kernel, rfl, by decide +kernel, by decide +kernel⟩
abbrev s__law_word : Stmt := topS 32
abbrev N__law_word : List Str := ["_law_deed", "_law_word_here", "e"]
theorem sc__law_word : FnScope N__law_word ["_law_deed"] (defScope s__law_word) := ⟨rfl, rfl, rfl, by decide +kernel, rfl, by decide +kernel, by decide +kernel⟩
abbrev s__law_end_is : Stmt := topS 33
abbrev N__law_end_is : List Str := ["_law_value", "_law_top", "_law_bottom"]
theorem sc__law_end_is : FnScope N__law_end_is ["_law_value", "_law_top", "_law_bottom"] (defScope s__law_end_is) := ⟨rfl, rfl, rfl, by decide +kernel, rfl, by decide +kernel, by decide +kernel⟩
abbrev s__law_place_is : Stmt := topS 34
abbrev N__law_place_is : List Str := ["_law_place", "_law_low", "_law_high", "_law_bottom"]
theorem sc__law_place_is : FnScope N__law_place_is ["_law_place", "_law_low", "_law_high", "_law_bottom"] (defScope s__law_place_is) := ⟨rfl, rfl, rfl, by decide +kernel, rfl, by decide +kernel, by decide +kernel⟩
abbrev s__law_plus : Stmt := topS 35
abbrev N__law_plus : List Str := ["_law_end", "_law_number_here"]
theorem sc__law_plus : FnScope N__law_plus ["_law_end", "_law_number_here"] (defScope s__law_plus) := ⟨rfl, rfl, rfl, by decide +kernel, rfl, by decide +kernel, by decide +kernel⟩
abbrev s__law_times : Stmt := topS 36
abbrev N__law_times : List Str := ["_law_end", "_law_number_here"]
theorem sc__law_times : FnScope N__law_times ["_law_end", "_law_number_here"] (defScope s__law_times) := ⟨rfl, rfl, rfl, by decide +kernel, rfl, by decide +kernel, by decide +kernel⟩
abbrev s__law_asked : Stmt := topS 37
abbrev N__law_asked : List Str := ["_law_feed_here", "_law_place", "_law_low", "_law_high", "_law_bottom", "_law_k", "_law_x", "_law_due"]
theorem sc__law_asked : FnScope N__law_asked ["_law_feed_here", "_law_place", "_law_low", "_law_high", "_law_bottom"] (defScope s__law_asked) := ⟨rfl, rfl, rfl, by decide +kernel, rfl, by decide +kernel, by decide +kernel⟩
abbrev s_law : Stmt := topS 38
abbrev N_law : List Str := ["_law_script", "_law_feed_here", "_law_strange", "_law_k", "_law_size", "_law_bottom", "_law_low", "_law_high", "_law_kind", "_law_place", "_law_by", "_law_moved", "_law_times_here", "_law_stretched", "_law_bad"]
theorem sc_law : FnScope N_law ["_law_script"] (defScope s_law) := ⟨rfl, rfl, rfl, by decide +kernel, rfl, by decide +kernel, by decide +kernel⟩
/-! ### addresses and function objects -/
structure Ad where
  Ratio : Addr
  Place : Addr
  NoNumber : Addr
  NoPlace : Addr
  MeansError : Addr
  NoPoint : Addr
  f_NoNumber___init__ : Addr
  f_NoPlace___init__ : Addr
  f_Ratio___init__ : Addr
  f_Ratio___add__ : Addr
  f_Ratio___radd__ : Addr
  f_Ratio___mul__ : Addr
  f_Ratio___rmul__ : Addr
  f_Ratio___eq__ : Addr
  f_Ratio___lt__ : Addr
  f_Ratio___le__ : Addr
  f_Ratio___gt__ : Addr
  f_Ratio___ge__ : Addr
  f_is_whole : Addr
  f_is_number : Addr
  f_ratio_of : Addr
  f__sum : Addr
  f__product : Addr
  f__gap : Addr
  f_Place___init__ : Addr
  f_Place___eq__ : Addr
  f_Place___contains__ : Addr
  f_Place_is_line : Addr
  f_Place_is_segment : Addr
  f_Place_moved : Addr
  f_Place_stretched : Addr
  f__law_is_integer : Addr
  f__law_feed : Addr
  f__law_take : Addr
  f__law_number : Addr
  f__law_is : Addr
  f__law_flag : Addr
  f__law_refused : Addr
  f__law_word : Addr
  f__law_end_is : Addr
  f__law_place_is : Addr
  f__law_plus : Addr
  f__law_times : Addr
  f__law_asked : Addr
  f_law : Addr
  tC_law : Addr
  tP_law : Addr
structure Fd where
  f_NoNumber___init__ : FuncData
  f_NoPlace___init__ : FuncData
  f_Ratio___init__ : FuncData
  f_Ratio___add__ : FuncData
  f_Ratio___radd__ : FuncData
  f_Ratio___mul__ : FuncData
  f_Ratio___rmul__ : FuncData
  f_Ratio___eq__ : FuncData
  f_Ratio___lt__ : FuncData
  f_Ratio___le__ : FuncData
  f_Ratio___gt__ : FuncData
  f_Ratio___ge__ : FuncData
  f_is_whole : FuncData
  f_is_number : FuncData
  f_ratio_of : FuncData
  f__sum : FuncData
  f__product : FuncData
  f__gap : FuncData
  f_Place___init__ : FuncData
  f_Place___eq__ : FuncData
  f_Place___contains__ : FuncData
  f_Place_is_line : FuncData
  f_Place_is_segment : FuncData
  f_Place_moved : FuncData
  f_Place_stretched : FuncData
  f__law_is_integer : FuncData
  f__law_feed : FuncData
  f__law_take : FuncData
  f__law_number : FuncData
  f__law_is : FuncData
  f__law_flag : FuncData
  f__law_refused : FuncData
  f__law_word : FuncData
  f__law_end_is : FuncData
  f__law_place_is : FuncData
  f__law_plus : FuncData
  f__law_times : FuncData
  f__law_asked : FuncData
  f_law : FuncData
/-- what the written part says -/
structure Txt (K : PySem.W.Frag) (mg : Str → Option Value) (A : Ad) (D : Fd) : Prop where
  g_Ratio : mg "Ratio" = some (.ref A.Ratio)
  k_Ratio : OwnK K A.Ratio
  kp_Ratio : PySem.W.keepIn K (.ref A.Ratio) = true
  M_Ratio : Mk K A.Ratio A.f_Ratio___init__
  g_Place : mg "Place" = some (.ref A.Place)
  k_Place : OwnB K A.Place
  n_Place_low : NoAttr K A.Place "low"
  n_Place_high : NoAttr K A.Place "high"
  kp_Place : PySem.W.keepIn K (.ref A.Place) = true
  M_Place : Mk K A.Place A.f_Place___init__
  g_MeansError : mg "MeansError" = some (.ref A.MeansError)
  g_NoPoint : mg "NoPoint" = some (.ref A.NoPoint)
  g_NoNumber : mg "NoNumber" = some (.ref A.NoNumber)
  o_NoNumber : OexC K A.NoNumber
  x_NoNumber : XfC K A.NoNumber
  c_NoNumber : ExcC K A.NoNumber
  em_NoNumber : PySem.W.exmOne K (.ref A.NoNumber) (.ref A.NoNumber) = some true
  n_NoNumber_word : PySem.W.findIn K (.ref A.NoNumber) "word" = some none
  i_NoNumber : PySem.W.findIn K (.ref A.NoNumber) "__init__" = some (some (.ref A.f_NoNumber___init__))
  ti_NoNumber : PySem.W.typeIn K (.ref A.f_NoNumber___init__) = some (.type "function")
  g_NoPlace : mg "NoPlace" = some (.ref A.NoPlace)
  o_NoPlace : OexC K A.NoPlace
  x_NoPlace : XfC K A.NoPlace
  c_NoPlace : ExcC K A.NoPlace
  em_NoPlace : PySem.W.exmOne K (.ref A.NoPlace) (.ref A.NoPlace) = some true
  n_NoPlace_part : PySem.W.findIn K (.ref A.NoPlace) "part" = some none
  i_NoPlace : PySem.W.findIn K (.ref A.NoPlace) "__init__" = some (some (.ref A.f_NoPlace___init__))
  ti_NoPlace : PySem.W.typeIn K (.ref A.f_NoPlace___init__) = some (.type "function")
  kit_NoPlace_MeansError : PySem.W.kitOne K (.ref A.NoPlace) (.ref A.MeansError) = some true
  kit_NoPlace_NoPoint : PySem.W.kitOne K (.ref A.NoPlace) (.ref A.NoPoint) = some false
  F_NoNumber___init__ : Fun K "__init__" "NoNumber.__init__" s_NoNumber___init__ A.f_NoNumber___init__ D.f_NoNumber___init__
  b_NoNumber___init__ : Binds K D.f_NoNumber___init__ ["self", "word"] []
  m_NoNumber___init__ : Meth K A.NoNumber "__init__" A.f_NoNumber___init__
  F_NoPlace___init__ : Fun K "__init__" "NoPlace.__init__" s_NoPlace___init__ A.f_NoPlace___init__ D.f_NoPlace___init__
  b_NoPlace___init__ : Binds K D.f_NoPlace___init__ ["self", "part"] []
  m_NoPlace___init__ : Meth K A.NoPlace "__init__" A.f_NoPlace___init__
  F_Ratio___init__ : FunD K "__init__" "Ratio.__init__" (defArgs s_Ratio___init__) (defBody s_Ratio___init__) (defScope s_Ratio___init__) [.int 1] [] A.f_Ratio___init__ D.f_Ratio___init__
  b_Ratio___init__ : Binds K D.f_Ratio___init__ ["self", "top", "bottom"] []
  b1_Ratio___init__ : ∃ ds, Vals [.int 1] ds ∧ Binds K D.f_Ratio___init__ ["self", "top", "bottom"] ds
  m_Ratio___init__ : Meth K A.Ratio "__init__" A.f_Ratio___init__
  F_Ratio___add__ : Fun K "__add__" "Ratio.__add__" s_Ratio___add__ A.f_Ratio___add__ D.f_Ratio___add__
  b_Ratio___add__ : Binds K D.f_Ratio___add__ ["self", "other"] []
  m_Ratio___add__ : Meth K A.Ratio "__add__" A.f_Ratio___add__
  F_Ratio___radd__ : Fun K "__radd__" "Ratio.__radd__" s_Ratio___radd__ A.f_Ratio___radd__ D.f_Ratio___radd__
  b_Ratio___radd__ : Binds K D.f_Ratio___radd__ ["self", "other"] []
  m_Ratio___radd__ : Meth K A.Ratio "__radd__" A.f_Ratio___radd__
  F_Ratio___mul__ : Fun K "__mul__" "Ratio.__mul__" s_Ratio___mul__ A.f_Ratio___mul__ D.f_Ratio___mul__
  b_Ratio___mul__ : Binds K D.f_Ratio___mul__ ["self", "other"] []
  m_Ratio___mul__ : Meth K A.Ratio "__mul__" A.f_Ratio___mul__
  F_Ratio___rmul__ : Fun K "__rmul__" "Ratio.__rmul__" s_Ratio___rmul__ A.f_Ratio___rmul__ D.f_Ratio___rmul__
  b_Ratio___rmul__ : Binds K D.f_Ratio___rmul__ ["self", "other"] []
  m_Ratio___rmul__ : Meth K A.Ratio "__rmul__" A.f_Ratio___rmul__
  F_Ratio___eq__ : Fun K "__eq__" "Ratio.__eq__" s_Ratio___eq__ A.f_Ratio___eq__ D.f_Ratio___eq__
  b_Ratio___eq__ : Binds K D.f_Ratio___eq__ ["self", "other"] []
  m_Ratio___eq__ : Meth K A.Ratio "__eq__" A.f_Ratio___eq__
  F_Ratio___lt__ : Fun K "__lt__" "Ratio.__lt__" s_Ratio___lt__ A.f_Ratio___lt__ D.f_Ratio___lt__
  b_Ratio___lt__ : Binds K D.f_Ratio___lt__ ["self", "other"] []
  m_Ratio___lt__ : Meth K A.Ratio "__lt__" A.f_Ratio___lt__
  F_Ratio___le__ : Fun K "__le__" "Ratio.__le__" s_Ratio___le__ A.f_Ratio___le__ D.f_Ratio___le__
  b_Ratio___le__ : Binds K D.f_Ratio___le__ ["self", "other"] []
  m_Ratio___le__ : Meth K A.Ratio "__le__" A.f_Ratio___le__
  F_Ratio___gt__ : Fun K "__gt__" "Ratio.__gt__" s_Ratio___gt__ A.f_Ratio___gt__ D.f_Ratio___gt__
  b_Ratio___gt__ : Binds K D.f_Ratio___gt__ ["self", "other"] []
  m_Ratio___gt__ : Meth K A.Ratio "__gt__" A.f_Ratio___gt__
  F_Ratio___ge__ : Fun K "__ge__" "Ratio.__ge__" s_Ratio___ge__ A.f_Ratio___ge__ D.f_Ratio___ge__
  b_Ratio___ge__ : Binds K D.f_Ratio___ge__ ["self", "other"] []
  m_Ratio___ge__ : Meth K A.Ratio "__ge__" A.f_Ratio___ge__
  F_is_whole : Fun K "is_whole" "is_whole" s_is_whole A.f_is_whole D.f_is_whole
  b_is_whole : Binds K D.f_is_whole ["x"] []
  g_is_whole : mg "is_whole" = some (.ref A.f_is_whole)
  F_is_number : Fun K "is_number" "is_number" s_is_number A.f_is_number D.f_is_number
  b_is_number : Binds K D.f_is_number ["x"] []
  g_is_number : mg "is_number" = some (.ref A.f_is_number)
  F_ratio_of : Fun K "ratio_of" "ratio_of" s_ratio_of A.f_ratio_of D.f_ratio_of
  b_ratio_of : Binds K D.f_ratio_of ["number"] []
  g_ratio_of : mg "ratio_of" = some (.ref A.f_ratio_of)
  F__sum : Fun K "_sum" "_sum" s__sum A.f__sum D.f__sum
  b__sum : Binds K D.f__sum ["one", "other"] []
  g__sum : mg "_sum" = some (.ref A.f__sum)
  F__product : Fun K "_product" "_product" s__product A.f__product D.f__product
  b__product : Binds K D.f__product ["one", "other"] []
  g__product : mg "_product" = some (.ref A.f__product)
  F__gap : Fun K "_gap" "_gap" s__gap A.f__gap D.f__gap
  b__gap : Binds K D.f__gap ["one", "other"] []
  g__gap : mg "_gap" = some (.ref A.f__gap)
  kb_Place___init__ : ∃ its : List Value, KBn K D.f_Place___init__ ["self", "low", "high"] 1 ["low"] (fun us ws => us ++ ws ++ its.drop 1) (fun vs zs => vs ++ zs ++ [.non])
  F_Place___init__ : FunD K "__init__" "Place.__init__" (defArgs s_Place___init__) (defBody s_Place___init__) (defScope s_Place___init__) [.non, .non] [] A.f_Place___init__ D.f_Place___init__
  b_Place___init__ : Binds K D.f_Place___init__ ["self", "low", "high"] []
  b2_Place___init__ : ∃ ds, Vals [.non, .non] ds ∧ Binds K D.f_Place___init__ ["self", "low", "high"] ds
  b1_Place___init__ : ∃ ds, Vals [.non] ds ∧ Binds K D.f_Place___init__ ["self", "low", "high"] ds
  m_Place___init__ : Meth K A.Place "__init__" A.f_Place___init__
  F_Place___eq__ : Fun K "__eq__" "Place.__eq__" s_Place___eq__ A.f_Place___eq__ D.f_Place___eq__
  b_Place___eq__ : Binds K D.f_Place___eq__ ["self", "other"] []
  m_Place___eq__ : Meth K A.Place "__eq__" A.f_Place___eq__
  F_Place___contains__ : Fun K "__contains__" "Place.__contains__" s_Place___contains__ A.f_Place___contains__ D.f_Place___contains__
  b_Place___contains__ : Binds K D.f_Place___contains__ ["self", "x"] []
  m_Place___contains__ : Meth K A.Place "__contains__" A.f_Place___contains__
  F_Place_is_line : Fun K "is_line" "Place.is_line" s_Place_is_line A.f_Place_is_line D.f_Place_is_line
  b_Place_is_line : Binds K D.f_Place_is_line ["self"] []
  m_Place_is_line : Meth K A.Place "is_line" A.f_Place_is_line
  F_Place_is_segment : Fun K "is_segment" "Place.is_segment" s_Place_is_segment A.f_Place_is_segment D.f_Place_is_segment
  b_Place_is_segment : Binds K D.f_Place_is_segment ["self"] []
  m_Place_is_segment : Meth K A.Place "is_segment" A.f_Place_is_segment
  F_Place_moved : Fun K "moved" "Place.moved" s_Place_moved A.f_Place_moved D.f_Place_moved
  b_Place_moved : Binds K D.f_Place_moved ["self", "by"] []
  m_Place_moved : Meth K A.Place "moved" A.f_Place_moved
  F_Place_stretched : Fun K "stretched" "Place.stretched" s_Place_stretched A.f_Place_stretched D.f_Place_stretched
  b_Place_stretched : Binds K D.f_Place_stretched ["self", "by"] []
  m_Place_stretched : Meth K A.Place "stretched" A.f_Place_stretched
  F__law_is_integer : Fun K "_law_is_integer" "_law_is_integer" s__law_is_integer A.f__law_is_integer D.f__law_is_integer
  b__law_is_integer : Binds K D.f__law_is_integer ["_law_value"] []
  g__law_is_integer : mg "_law_is_integer" = some (.ref A.f__law_is_integer)
  F__law_feed : Fun K "_law_feed" "_law_feed" s__law_feed A.f__law_feed D.f__law_feed
  b__law_feed : Binds K D.f__law_feed ["_law_script"] []
  g__law_feed : mg "_law_feed" = some (.ref A.f__law_feed)
  F__law_take : Fun K "_law_take" "_law_take" s__law_take A.f__law_take D.f__law_take
  b__law_take : Binds K D.f__law_take ["_law_feed_here", "_law_size"] []
  g__law_take : mg "_law_take" = some (.ref A.f__law_take)
  F__law_number : Fun K "_law_number" "_law_number" s__law_number A.f__law_number D.f__law_number
  b__law_number : Binds K D.f__law_number ["_law_feed_here", "_law_size"] []
  g__law_number : mg "_law_number" = some (.ref A.f__law_number)
  F__law_is : Fun K "_law_is" "_law_is" s__law_is A.f__law_is D.f__law_is
  b__law_is : Binds K D.f__law_is ["_law_value", "_law_top", "_law_bottom"] []
  g__law_is : mg "_law_is" = some (.ref A.f__law_is)
  F__law_flag : Fun K "_law_flag" "_law_flag" s__law_flag A.f__law_flag D.f__law_flag
  b__law_flag : Binds K D.f__law_flag ["_law_value", "_law_due"] []
  g__law_flag : mg "_law_flag" = some (.ref A.f__law_flag)
  F__law_refused : Fun K "_law_refused" "_law_refused" s__law_refused A.f__law_refused D.f__law_refused
  b__law_refused : Binds K D.f__law_refused ["_law_low", "_law_high", "_law_part"] []
  g__law_refused : mg "_law_refused" = some (.ref A.f__law_refused)
  F__law_word : Fun K "_law_word" "_law_word" s__law_word A.f__law_word D.f__law_word
  b__law_word : Binds K D.f__law_word ["_law_deed"] []
  g__law_word : mg "_law_word" = some (.ref A.f__law_word)
  F__law_end_is : Fun K "_law_end_is" "_law_end_is" s__law_end_is A.f__law_end_is D.f__law_end_is
  b__law_end_is : Binds K D.f__law_end_is ["_law_value", "_law_top", "_law_bottom"] []
  g__law_end_is : mg "_law_end_is" = some (.ref A.f__law_end_is)
  F__law_place_is : Fun K "_law_place_is" "_law_place_is" s__law_place_is A.f__law_place_is D.f__law_place_is
  b__law_place_is : Binds K D.f__law_place_is ["_law_place", "_law_low", "_law_high", "_law_bottom"] []
  g__law_place_is : mg "_law_place_is" = some (.ref A.f__law_place_is)
  F__law_plus : Fun K "_law_plus" "_law_plus" s__law_plus A.f__law_plus D.f__law_plus
  b__law_plus : Binds K D.f__law_plus ["_law_end", "_law_number_here"] []
  g__law_plus : mg "_law_plus" = some (.ref A.f__law_plus)
  F__law_times : Fun K "_law_times" "_law_times" s__law_times A.f__law_times D.f__law_times
  b__law_times : Binds K D.f__law_times ["_law_end", "_law_number_here"] []
  g__law_times : mg "_law_times" = some (.ref A.f__law_times)
  F__law_asked : Fun K "_law_asked" "_law_asked" s__law_asked A.f__law_asked D.f__law_asked
  b__law_asked : Binds K D.f__law_asked ["_law_feed_here", "_law_place", "_law_low", "_law_high", "_law_bottom"] []
  g__law_asked : mg "_law_asked" = some (.ref A.f__law_asked)
  F_law : FunC K "law" "law" s_law A.f_law D.f_law A.tC_law
  b_law : Binds K D.f_law ["_law_script"] []
  g_law : mg "law" = some (.ref A.f_law)
  sn1 : PySem.W.subIn K (.ref A.Ratio) (.type "NoneType") = some false
  sn2 : PySem.W.subIn K (.type "NoneType") (.ref A.Ratio) = some false
  ik_str : PySem.W.kitOne K (.type "str") (.ref A.Ratio) = some false
  ik_bool : PySem.W.kitOne K (.type "bool") (.ref A.Ratio) = some false
  ik_list : PySem.W.kitOne K (.type "list") (.ref A.Ratio) = some false
  ik_tuple : PySem.W.kitOne K (.type "tuple") (.ref A.Ratio) = some false
  ik_NoneType : PySem.W.kitOne K (.type "NoneType") (.ref A.Ratio) = some false
  z_isinstance : mg "isinstance" = none
  z_int : mg "int" = none
  z_bool : mg "bool" = none
  z_abs : mg "abs" = none
  z_len : mg "len" = none
  z_max : mg "max" = none
  z_range : mg "range" = none
  z_NotImplemented : mg "NotImplemented" = none
  g_gcd : mg "gcd" = some (.builtin "math.gcd")
def csL (A : Ad) : List (Addr × Addr) := [(A.tC_law, A.tP_law)]
def tabL (A : Ad) : List (Addr × Str) := [(A.tP_law, (("law" : Str) ++ ".<locals>.") ++ "<lambda>")]
theorem mem_law {A : Ad} : (A.tC_law, A.tP_law) ∈ csL A := List.Mem.head _
theorem tab_law {A : Ad} : (A.tP_law, (("law" : Str) ++ ".<locals>.") ++ "<lambda>") ∈ tabL A := List.Mem.head _
theorem hu_law {K : PySem.W.Frag} {mg : Str → Option Value} {A : Ad} {D : Fd} (T : Txt K mg A D) : ∀ p ∈ tabL A, p.1 = A.tP_law → p.2 = (("law" : Str) ++ ".<locals>.") ++ "<lambda>" := by
  intro p hp e
  simp only [tabL, List.mem_cons, List.not_mem_nil, or_false] at hp
  subst hp
  · rfl

section
variable {P : Program} {w : World} {K : PySem.W.Frag} {mg : Str → Option Value} {base : Heap} {A : Ad} {D : Fd}
/-! ### kinds of values -/
/-- whether x is an int and no bool -/
def WholeV (K : PySem.W.Frag) (H : Hp) (x : V) (b : Bool) : Prop := ∃ t b1 b2, TyX K H x t ∧ PySem.W.kitOne K t (.type "int") = some b1 ∧ (b1 = true → PySem.W.kitOne K t (.type "bool") = some b2) ∧ b = (b1 && !b2)
theorem whole_int {K : PySem.W.Frag} (i : Int) {H : Hp} : WholeV K H (.int i) true := ⟨_, true, false, .base (.int i), kit_ty (by decide +kernel), fun _ => kit_ty (by decide +kernel), rfl⟩
def sp_is_whole (K : PySem.W.Frag) : Sp := fun vs H Q _ => ∃ x b, vs = [x] ∧ WholeV K H x b ∧ Q (.bl b) H
theorem ok_is_whole (T : Txt K mg A D) : FnOk P w K mg base CX0 1 A.f_is_whole D.f_is_whole ["x"] (sp_is_whole K) := by
  skip
  refine T.F_is_whole.ok sc_is_whole (fun vs H Q E h => ?_) (fun cdv A' outer s H vs Q E hr h => ?_)
  · obtain ⟨x, b, rfl, _⟩ := h
    rfl
  · obtain ⟨x, b, rfl, ⟨t, b1, b2, ty, e1, e2, rfl⟩, q⟩ := h
    refine ⟨_, (pss_one (ps_ret (pe_and (pe_callB call_isi rfl T.z_isinstance (by decide +kernel) (pa_cons (pv 0) (pa_cons (pe_bltn (v := .ty "int") rfl T.z_int (by decide +kernel) rfl) pa_nil))) (pe_one (pe_not (pe_callB call_isi rfl T.z_isinstance (by decide +kernel) (pa_cons (pv 0) (pa_cons (pe_bltn (v := .ty "bool") rfl T.z_bool (by decide +kernel) rfl) pa_nil)))))))), ?_⟩
    refine ⟨x, rfl, x, .ty "int", t, _, b1, rfl, .ty _, ty, e1, b1, rfl, ?_⟩
    cases b1 with
    | false => exact iteF q
    | true => exact iteT ⟨x, rfl, x, .ty "bool", t, _, b2, rfl, .ty _, ty, e2 rfl, b2, rfl, q⟩

/-- neither a Ratio nor an integer -/
def NoNum (K : PySem.W.Frag) (C : Addr) (H : Hp) (x : V) : Prop := ∃ t, TyX K H x t ∧ PySem.W.kitOne K t (.ref C) = some false ∧ WholeV K H x false
def sp_isnum (K : PySem.W.Frag) (C : Addr) : Sp := fun vs H Q _ => ∃ x, vs = [x] ∧ ((((∃ i, x = .int i) ∨ Ins H x C) ∧ Q (.bl true) H) ∨ (NoNum K C H x ∧ Q (.bl false) H))
theorem ok_is_number (T : Txt K mg A D) : FnOk P w K mg base CX0 2 A.f_is_number D.f_is_number ["x"] (sp_isnum K A.Ratio) := by
  have G_is_whole : FnOk P w K mg base CX0 1 A.f_is_whole D.f_is_whole ["x"] (sp_is_whole K) := ok_is_whole T
  refine T.F_is_number.ok sc_is_number (fun vs H Q E h => ?_) (fun cdv A' outer s H vs Q E hr h => ?_)
  · obtain ⟨x, rfl, _⟩ := h
    rfl
  · obtain ⟨x, rfl, hx⟩ := h
    refine ⟨_, (pss_one (ps_ret (pe_or (pe_callB call_isi rfl T.z_isinstance (by decide +kernel) (pa_cons (pv 0) (pa_cons (pe_glob (v := .ref A.Ratio) rfl T.g_Ratio rfl) pa_nil))) (pe_one (pe_call G_is_whole (hr.mono (by decide)) rfl T.g_is_whole T.F_is_whole.kp T.b_is_whole .nil pass0 (pa_cons (pv 0) pa_nil)))))), ?_⟩
    rcases hx with ⟨⟨i, rfl⟩ | ⟨a, dx, fs, rfl, ha⟩, q⟩ | ⟨⟨t, ty, e, w⟩, q⟩
    · exact ⟨.int i, rfl, .int i, .ref A.Ratio, _, _, false, rfl, .own _, .base (.int i), T.k_Ratio.ik, false, rfl, iteF ⟨.int i, rfl, _, _, rfl, whole_int i, q⟩⟩
    · exact ⟨.ref a, rfl, .ref a, .ref A.Ratio, _, _, true, rfl, .own _, T.k_Ratio.ty ha, kit_self, true, rfl, iteT q⟩
    · exact ⟨x, rfl, x, .ref A.Ratio, t, _, false, rfl, .own _, ty, e, false, rfl, iteF ⟨x, rfl, _, _, rfl, w, q⟩⟩

/-! ### the making -/
def sp_init (C : Addr) : Sp := fun vs H Q _ => ∃ x dx t b, vs = [.ref x, .int t, .int b] ∧ H x = some (.ins C dx []) ∧ b ≠ 0 ∧ Sm b ∧ ∀ t' b', Norm t b t' b' → Q .non (upd H x (.ins C dx [("top", .int t'), ("bottom", .int b')]))
theorem ok_Ratio___init__ (T : Txt K mg A D) : FnOk P w K mg base CX0 2 A.f_Ratio___init__ D.f_Ratio___init__ ["self", "top", "bottom"] (sp_init A.Ratio) := by
  have G_is_whole : FnOk P w K mg base CX0 1 A.f_is_whole D.f_is_whole ["x"] (sp_is_whole K) := ok_is_whole T
  refine T.F_Ratio___init__.ok sc_Ratio___init__ (fun vs H Q E h => ?_) (fun cdv A' outer s H vs Q E hr h => ?_)
  · obtain ⟨x, dx, t, b, rfl, _⟩ := h
    rfl
  · obtain ⟨x, dx, t, b, rfl, hx, hb, sb, q⟩ := h
    refine ⟨_, (pss_cons (ps_if (pt_not (pt_val (pe_call G_is_whole (hr.mono (by decide)) rfl T.g_is_whole T.F_is_whole.kp T.b_is_whole .nil pass0 (pa_cons (pv 1) pa_nil)))) (pss_one ps_never) pss_nil)
  (pss_cons (ps_if (pt_not (pt_val (pe_call G_is_whole (hr.mono (by decide)) rfl T.g_is_whole T.F_is_whole.kp T.b_is_whole .nil pass0 (pa_cons (pv 2) pa_nil)))) (pss_one ps_never) pss_nil)
  (pss_cons (ps_if (pt_cmpR op_eq (pv 2) pe_int (nomark _)) (pss_one ps_never) pss_nil)
  (pss_cons (ps_set (i := 3) sc_Ratio___init__.nd rfl (.inl rfl) (pe_callBfun cr_gcd rfl T.g_gcd (pa_cons (pv 1) (pa_cons (pv 2) pa_nil))))
  (pss_cut (ps_if (pt_cmpR op_lt (pv 2) pe_int (nomark _)) (pss_one (ps_set (i := 3) sc_Ratio___init__.nd rfl (.inl rfl) (pe_un un_neg (pv 3)))) pss_nil)
  (pss_cons (ps_fld (pv 0) (pe_op op_fdivA (pv 1) (pv 3)) rfl)
  (pss_one (ps_fld (pv 0) (pe_op op_fdivA (pv 2) (pv 3)) rfl)))))))), ?_⟩
    refine ⟨_, rfl, _, _, rfl, whole_int t, true, rfl, iteF ?_⟩
    refine ⟨_, rfl, _, _, rfl, whole_int b, true, rfl, iteF ?_⟩
    have e0 : decide (V.int b = V.int 0) = false := decide_eq_false fun z => hb (V.int.inj z)
    refine ⟨_, rfl, rfl, _, rfl, ?_⟩
    rw [e0]
    refine iteF ⟨_, rfl, _, rfl, t, b, rfl, ?_⟩
    obtain ⟨g0, gl, nm⟩ := Norm.make (t := t) hb _ rfl
    refine ⟨fun σ' H' => H' = H ∧ ∃ g : Int, (g ≠ 0 ∧ g.natAbs ≤ b.natAbs ∧ Norm t b (t.fdiv g) (b.fdiv g)) ∧ σ' = [some (.ref x), some (.int t), some (.int b), some (.int g)], ?_, ?_⟩
    · refine ⟨_, rfl, _, _, rfl, rfl, _, rfl, ?_⟩
      by_cases hneg : b < 0
      · rw [if_pos hneg] at g0 gl nm
        rw [decide_eq_true hneg]
        exact iteT ⟨_, rfl, _, rfl, rfl, _, ⟨g0, gl, nm⟩, rfl⟩
      · rw [if_neg hneg] at g0 gl nm
        rw [decide_eq_false hneg]
        exact iteF ⟨rfl, _, ⟨g0, gl, nm⟩, rfl⟩
    · rintro σ' H' ⟨rfl, g, ⟨h0, h1, hn⟩, rfl⟩
      have sg : Sm g := sb.le h1
      refine ⟨_, rfl, _, rfl, t, g, rfl, rfl, Sm.div h0 sg, _, rfl, x, A.Ratio, dx, _, rfl, hx, T.k_Ratio.cl, T.k_Ratio.n_top, (by show 0 < 1000; decide), ?_⟩
      refine ⟨_, rfl, _, rfl, b, g, rfl, rfl, Sm.div h0 sg, _, rfl, x, A.Ratio, dx, _, rfl, upd_same, T.k_Ratio.cl, T.k_Ratio.n_bottom, (by show 1 < 1000; decide), ?_⟩
      show Q .non _
      rw [upd_upd]
      exact q _ _ hn

/-! ### gaps and comparisons -/
/-- the number t / b: an int, or a Ratio of the class at C; b above 0 -/
def NumAt (C : Addr) (H : Hp) (v : V) (t b : Int) : Prop := (v = .int t ∧ b = 1) ∨ RatAt C H v t b
theorem NumAt.kind {C : Addr} {H : Hp} {v : V} {t b : Int} (n : NumAt C H v t b) : (∃ i, v = .int i) ∨ Ins H v C := by
  rcases n with ⟨h, _⟩ | h
  · exact .inl ⟨_, h⟩
  · exact .inr h.ins
def sp_gap (C : Addr) : Sp := fun vs H Q _ => ∃ x y t b t2 b2, vs = [x, y] ∧ RatAt C H x t b ∧ NumAt C H y t2 b2 ∧ Sm t ∧ Sm b ∧ Sm t2 ∧ Sm b2 ∧ Q (.int (t * b2 - t2 * b)) H
theorem ok__gap (T : Txt K mg A D) : FnOk P w K mg base CX0 1 A.f__gap D.f__gap ["one", "other"] (sp_gap A.Ratio) := by
  skip
  refine T.F__gap.ok sc__gap (fun vs H Q E h => ?_) (fun cdv A' outer s H vs Q E hr h => ?_)
  · obtain ⟨x, y, t, b, t2, b2, rfl, _⟩ := h
    rfl
  · obtain ⟨x, y, t, b, t2, b2, rfl, ⟨a, dx, rfl, ha⟩, hy, s1, s2, s3, s4, q⟩ := h
    refine ⟨_, (pss_cons (ps_if (pt_val (pe_callB call_isi rfl T.z_isinstance (by decide +kernel) (pa_cons (pv 1) (pa_cons (pe_glob (v := .ref A.Ratio) rfl T.g_Ratio rfl) pa_nil)))) (pss_one (ps_ret (pe_op op_sub (pe_op op_mulW (pe_fld (pv 0) rfl) (pe_fld (pv 1) rfl)) (pe_op op_mulW (pe_fld (pv 1) rfl) (pe_fld (pv 0) rfl))))) pss_nil)
  (pss_one (ps_ret (pe_op op_sub (pe_fld (pv 0) rfl) (pe_op op_mulW (pv 1) (pe_fld (pv 0) rfl)))))), ?_⟩
    have cl := T.k_Ratio.cl
    have nt := T.k_Ratio.n_top
    have nb := T.k_Ratio.n_bottom
    rcases hy with ⟨rfl, rfl⟩ | ⟨c, dy, rfl, hc⟩
    · refine ⟨_, rfl, .int t2, .ref A.Ratio, _, _, false, rfl, .own _, .base (.int t2), T.k_Ratio.ik, false, rfl, iteF ?_⟩
      refine ⟨_, rfl, a, A.Ratio, dx, _, _, rfl, ha, cl, nt, rfl, ?_⟩
      refine ⟨_, rfl, _, rfl, a, A.Ratio, dx, _, _, rfl, ha, cl, nb, rfl, _, _, rfl, rfl, Sm.mul s3 s2, _, _, rfl, rfl, ?_⟩
      rw [Int.mul_one] at q
      exact q
    · refine ⟨_, rfl, .ref c, .ref A.Ratio, _, _, true, rfl, .own _, T.k_Ratio.ty hc, kit_self, true, rfl, iteT ?_⟩
      refine ⟨_, rfl, a, A.Ratio, dx, _, _, rfl, ha, cl, nt, rfl, _, rfl, c, A.Ratio, dy, _, _, rfl, hc, cl, nb, rfl, _, _, rfl, rfl, Sm.mul s1 s4, ?_⟩
      exact ⟨_, rfl, c, A.Ratio, dy, _, _, rfl, hc, cl, nt, rfl, _, rfl, a, A.Ratio, dx, _, _, rfl, ha, cl, nb, rfl, _, _, rfl, rfl, Sm.mul s3 s2, _, _, rfl, rfl, q⟩

/-- a comparison: r says of the gap what is answered -/
def sp_cmp (C : Addr) (r : Int → Bool) : Sp := fun vs H Q _ => ∃ x y t b t2 b2, vs = [x, y] ∧ RatAt C H x t b ∧ NumAt C H y t2 b2 ∧ Sm t ∧ Sm b ∧ Sm t2 ∧ Sm b2 ∧ Q (.bl (r (t * b2 - t2 * b))) H
abbrev r_eq : Int → Bool := fun d => decide (d = 0)
abbrev r_ne : Int → Bool := fun d => !decide (d = 0)
abbrev r_lt : Int → Bool := fun d => decide (d < 0)
abbrev r_le : Int → Bool := fun d => decide (d ≤ 0)
abbrev r_gt : Int → Bool := fun d => decide (0 < d)
abbrev r_ge : Int → Bool := fun d => decide (0 ≤ d)
theorem ok_Ratio___lt__ (T : Txt K mg A D) : FnOk P w K mg base CX0 3 A.f_Ratio___lt__ D.f_Ratio___lt__ ["self", "other"] (sp_cmp A.Ratio r_lt) := by
  have G__gap : FnOk P w K mg base CX0 1 A.f__gap D.f__gap ["one", "other"] (sp_gap A.Ratio) := ok__gap T
  have G_is_number : FnOk P w K mg base CX0 2 A.f_is_number D.f_is_number ["x"] (sp_isnum K A.Ratio) := ok_is_number T
  refine T.F_Ratio___lt__.ok sc_Ratio___lt__ (fun vs H Q E h => ?_) (fun cdv A' outer s H vs Q E hr h => ?_)
  · obtain ⟨x, y, t, b, t2, b2, rfl, _⟩ := h
    rfl
  · obtain ⟨x, y, t, b, t2, b2, rfl, hx, hy, s1, s2, s3, s4, q⟩ := h
    refine ⟨_, (pss_cons (ps_if (pt_not (pt_val (pe_call G_is_number (hr.mono (by decide)) rfl T.g_is_number T.F_is_number.kp T.b_is_number .nil pass0 (pa_cons (pv 1) pa_nil)))) (pss_one ps_never) pss_nil)
  (pss_one (ps_ret (pe_cmpR op_lt (pe_call G__gap (hr.mono (by decide)) rfl T.g__gap T.F__gap.kp T.b__gap .nil pass0 (pa_cons (pv 0) (pa_cons (pv 1) pa_nil))) pe_int (nomark _))))), ?_⟩
    refine ⟨_, rfl, _, rfl, .inl ⟨hy.kind, true, rfl, iteF ?_⟩⟩
    exact ⟨_, rfl, _, rfl, _, _, _, _, _, _, rfl, hx, hy, s1, s2, s3, s4, _, _, rfl, rfl, q⟩
theorem ok_Ratio___le__ (T : Txt K mg A D) : FnOk P w K mg base CX0 3 A.f_Ratio___le__ D.f_Ratio___le__ ["self", "other"] (sp_cmp A.Ratio r_le) := by
  have G__gap : FnOk P w K mg base CX0 1 A.f__gap D.f__gap ["one", "other"] (sp_gap A.Ratio) := ok__gap T
  have G_is_number : FnOk P w K mg base CX0 2 A.f_is_number D.f_is_number ["x"] (sp_isnum K A.Ratio) := ok_is_number T
  refine T.F_Ratio___le__.ok sc_Ratio___le__ (fun vs H Q E h => ?_) (fun cdv A' outer s H vs Q E hr h => ?_)
  · obtain ⟨x, y, t, b, t2, b2, rfl, _⟩ := h
    rfl
  · obtain ⟨x, y, t, b, t2, b2, rfl, hx, hy, s1, s2, s3, s4, q⟩ := h
    refine ⟨_, (pss_cons (ps_if (pt_not (pt_val (pe_call G_is_number (hr.mono (by decide)) rfl T.g_is_number T.F_is_number.kp T.b_is_number .nil pass0 (pa_cons (pv 1) pa_nil)))) (pss_one ps_never) pss_nil)
  (pss_one (ps_ret (pe_cmpR op_le (pe_call G__gap (hr.mono (by decide)) rfl T.g__gap T.F__gap.kp T.b__gap .nil pass0 (pa_cons (pv 0) (pa_cons (pv 1) pa_nil))) pe_int (nomark _))))), ?_⟩
    refine ⟨_, rfl, _, rfl, .inl ⟨hy.kind, true, rfl, iteF ?_⟩⟩
    exact ⟨_, rfl, _, rfl, _, _, _, _, _, _, rfl, hx, hy, s1, s2, s3, s4, _, _, rfl, rfl, q⟩
theorem ok_Ratio___gt__ (T : Txt K mg A D) : FnOk P w K mg base CX0 3 A.f_Ratio___gt__ D.f_Ratio___gt__ ["self", "other"] (sp_cmp A.Ratio r_gt) := by
  have G__gap : FnOk P w K mg base CX0 1 A.f__gap D.f__gap ["one", "other"] (sp_gap A.Ratio) := ok__gap T
  have G_is_number : FnOk P w K mg base CX0 2 A.f_is_number D.f_is_number ["x"] (sp_isnum K A.Ratio) := ok_is_number T
  refine T.F_Ratio___gt__.ok sc_Ratio___gt__ (fun vs H Q E h => ?_) (fun cdv A' outer s H vs Q E hr h => ?_)
  · obtain ⟨x, y, t, b, t2, b2, rfl, _⟩ := h
    rfl
  · obtain ⟨x, y, t, b, t2, b2, rfl, hx, hy, s1, s2, s3, s4, q⟩ := h
    refine ⟨_, (pss_cons (ps_if (pt_not (pt_val (pe_call G_is_number (hr.mono (by decide)) rfl T.g_is_number T.F_is_number.kp T.b_is_number .nil pass0 (pa_cons (pv 1) pa_nil)))) (pss_one ps_never) pss_nil)
  (pss_one (ps_ret (pe_cmpR op_gt (pe_call G__gap (hr.mono (by decide)) rfl T.g__gap T.F__gap.kp T.b__gap .nil pass0 (pa_cons (pv 0) (pa_cons (pv 1) pa_nil))) pe_int (nomark _))))), ?_⟩
    refine ⟨_, rfl, _, rfl, .inl ⟨hy.kind, true, rfl, iteF ?_⟩⟩
    exact ⟨_, rfl, _, rfl, _, _, _, _, _, _, rfl, hx, hy, s1, s2, s3, s4, _, _, rfl, rfl, q⟩
theorem ok_Ratio___ge__ (T : Txt K mg A D) : FnOk P w K mg base CX0 3 A.f_Ratio___ge__ D.f_Ratio___ge__ ["self", "other"] (sp_cmp A.Ratio r_ge) := by
  have G__gap : FnOk P w K mg base CX0 1 A.f__gap D.f__gap ["one", "other"] (sp_gap A.Ratio) := ok__gap T
  have G_is_number : FnOk P w K mg base CX0 2 A.f_is_number D.f_is_number ["x"] (sp_isnum K A.Ratio) := ok_is_number T
  refine T.F_Ratio___ge__.ok sc_Ratio___ge__ (fun vs H Q E h => ?_) (fun cdv A' outer s H vs Q E hr h => ?_)
  · obtain ⟨x, y, t, b, t2, b2, rfl, _⟩ := h
    rfl
  · obtain ⟨x, y, t, b, t2, b2, rfl, hx, hy, s1, s2, s3, s4, q⟩ := h
    refine ⟨_, (pss_cons (ps_if (pt_not (pt_val (pe_call G_is_number (hr.mono (by decide)) rfl T.g_is_number T.F_is_number.kp T.b_is_number .nil pass0 (pa_cons (pv 1) pa_nil)))) (pss_one ps_never) pss_nil)
  (pss_one (ps_ret (pe_cmpR op_ge (pe_call G__gap (hr.mono (by decide)) rfl T.g__gap T.F__gap.kp T.b__gap .nil pass0 (pa_cons (pv 0) (pa_cons (pv 1) pa_nil))) pe_int (nomark _))))), ?_⟩
    refine ⟨_, rfl, _, rfl, .inl ⟨hy.kind, true, rfl, iteF ?_⟩⟩
    exact ⟨_, rfl, _, rfl, _, _, _, _, _, _, rfl, hx, hy, s1, s2, s3, s4, _, _, rfl, rfl, q⟩
theorem ok_Ratio___eq__ (T : Txt K mg A D) : FnOk P w K mg base CX0 3 A.f_Ratio___eq__ D.f_Ratio___eq__ ["self", "other"] (sp_cmp A.Ratio r_eq) := by
  have G__gap : FnOk P w K mg base CX0 1 A.f__gap D.f__gap ["one", "other"] (sp_gap A.Ratio) := ok__gap T
  have G_is_number : FnOk P w K mg base CX0 2 A.f_is_number D.f_is_number ["x"] (sp_isnum K A.Ratio) := ok_is_number T
  refine T.F_Ratio___eq__.ok sc_Ratio___eq__ (fun vs H Q E h => ?_) (fun cdv A' outer s H vs Q E hr h => ?_)
  · obtain ⟨x, y, t, b, t2, b2, rfl, _⟩ := h
    rfl
  · obtain ⟨x, y, t, b, t2, b2, rfl, hx, hy, s1, s2, s3, s4, q⟩ := h
    refine ⟨_, (pss_cons (ps_if (pt_not (pt_val (pe_call G_is_number (hr.mono (by decide)) rfl T.g_is_number T.F_is_number.kp T.b_is_number .nil pass0 (pa_cons (pv 1) pa_nil)))) (pss_one ps_never) pss_nil)
  (pss_one (ps_ret (pe_cmpR op_eq (pe_call G__gap (hr.mono (by decide)) rfl T.g__gap T.F__gap.kp T.b__gap .nil pass0 (pa_cons (pv 0) (pa_cons (pv 1) pa_nil))) pe_int (nomark _))))), ?_⟩
    refine ⟨_, rfl, _, rfl, .inl ⟨hy.kind, true, rfl, iteF ?_⟩⟩
    refine ⟨_, rfl, _, rfl, _, _, _, _, _, _, rfl, hx, hy, s1, s2, s3, s4, rfl, ?_⟩
    show Q (.bl (decide (V.int (t * b2 - t2 * b) = V.int 0))) H
    rw [show decide (V.int (t * b2 - t2 * b) = V.int 0) = r_eq (t * b2 - t2 * b) by rw [Bool.eq_iff_iff]; simp]
    exact q
end

section
variable {P : Program} {w : World} {K : PySem.W.Frag} {mg : Str → Option Value} {base : Heap} {A : Ad} {D : Fd}
/-- a new Ratio on the heap -/
theorem made {C : Addr} {H : Hp} {x dx : Addr} (nx : H x = none) (nd : H dx = none) (ne : dx ≠ x) (t b : Int) :
    Same H (upd (upd (upd H dx (.own x)) x (.ins C dx [])) x (.ins C dx [("top", .int t), ("bottom", .int b)])) ∧
    RatAt C (upd (upd (upd H dx (.own x)) x (.ins C dx [])) x (.ins C dx [("top", .int t), ("bottom", .int b)])) (.ref x) t b := by
  refine ⟨?_, x, dx, rfl, upd_same⟩
  rw [upd_upd]
  exact same_upd' (same_upd nd) nx
theorem norm_sm {t b t' b' : Int} (n : Norm t b t' b') (h1 : Sm t) (h2 : Sm b) : Sm t' ∧ Sm b' := ⟨h1.le n.le1, h2.le n.le2⟩
/-- the sign of the gap stays in lowest terms -/
theorem gap_sign {t b t' b' u c u' c' : Int} (n : Norm t b t' b') (m : Norm u c u' c') (hb : 0 < b) (hc : 0 < c) :
    (t * c - u * b < 0 ↔ t' * c' - u' * b' < 0) ∧ (0 < t * c - u * b ↔ 0 < t' * c' - u' * b') := by
  obtain ⟨g, h1, h2, _⟩ := n.ex
  obtain ⟨k, k1, k2, _⟩ := m.ex
  have gp : 0 < g := by
    rw [h2] at hb
    exact Int.pos_of_mul_pos_left hb n.pos
  have kp : 0 < k := by
    rw [k2] at hc
    exact Int.pos_of_mul_pos_left hc m.pos
  have gk : 0 < g * k := Int.mul_pos gp kp
  have e : t * c - u * b = (g * k) * (t' * c' - u' * b') := by
    rw [h1, h2, k1, k2, Int.mul_sub]
    congr 1
    · rw [Int.mul_assoc, Int.mul_assoc, Int.mul_left_comm t' k c']
    · rw [Int.mul_assoc, Int.mul_comm g k, Int.mul_assoc k g, Int.mul_left_comm u' g b']
  rw [e]
  generalize t' * c' - u' * b' = d
  constructor
  · constructor
    · intro h
      by_cases hd : d < 0
      · exact hd
      · have := Int.mul_nonneg (Int.le_of_lt gk) (Int.not_lt.mp hd)
        omega
    · intro h
      exact Int.mul_neg_of_pos_of_neg gk h
  · constructor
    · intro h
      exact Int.pos_of_mul_pos_right h gk
    · intro h
      exact Int.mul_pos gk h
theorem norm_one (n : Int) : Norm n 1 n 1 := ⟨⟨1, by omega, by omega, by decide⟩, by decide, by simp⟩
theorem norm_is_one {n t' b' : Int} (h : Norm n 1 t' b') : t' = n ∧ b' = 1 := by
  obtain ⟨g, h1, h2, h3⟩ := h.ex
  have hb := h.pos
  have gp : 0 < g := by
    have : 0 < g * b' := by omega
    exact Int.pos_of_mul_pos_left this hb
  have g1 : g = 1 := by
    have : g ∣ 1 := ⟨b', h2⟩
    exact Int.eq_one_of_dvd_one (Int.le_of_lt gp) this
  subst g1
  omega
theorem fdiv_abs {a b : Int} (h : 0 < b) : (a.fdiv b).natAbs ≤ a.natAbs + 1 := by
  rw [Int.fdiv_eq_ediv_of_nonneg a (by omega)]
  have h1 := Int.emod_add_mul_ediv a b
  have h2 := Int.emod_nonneg a (by omega : b ≠ 0)
  have h3 := Int.emod_lt_of_pos a h
  generalize a / b = q at *
  generalize a % b = r at *
  rcases Int.lt_or_le q 0 with hq | hq
  · have : b * (q + 1) ≤ q + 1 := by
      have : b * (q + 1) ≤ 1 * (q + 1) := Int.mul_le_mul_of_nonpos_right (by omega) (by omega)
      omega
    have : b * (q + 1) = b * q + b := by rw [Int.mul_add, Int.mul_one]
    omega
  · have : q ≤ b * q := by
      have : 1 * q ≤ b * q := Int.mul_le_mul_of_nonneg_right (by omega) hq
      omega
    omega

/-- what the law draws: a top below 2 ^ 140 in size, a bottom from 1 to 2 ^ 140 -/
structure Drawn (x y : Int) : Prop where
  top : x.natAbs < 2 ^ 140
  pos : 0 < y
  bot : y.natAbs < 2 ^ 140
theorem Drawn.s1 {x y : Int} (d : Drawn x y) : Sm x := .of d.top (by decide)
theorem Drawn.s2 {x y : Int} (d : Drawn x y) : Sm y := .of d.bot (by decide)

end

section
variable {P : Program} {w : World} {K : PySem.W.Frag} {mg : Str → Option Value} {base : Heap} {A : Ad} {D : Fd}
/-! ### sums, differences, products -/
theorem so : Sm 1 := .ab (by decide) (by decide)
def sp_ratio_of (C : Addr) : Sp := fun vs H Q _ => ∃ x t b, vs = [x] ∧ NumAt C H x t b ∧ ∀ H' v, Same H H' → RatAt C H' v t b → Q v H'
theorem ok_ratio_of (T : Txt K mg A D) : FnOk P w K mg base CX0 4 A.f_ratio_of D.f_ratio_of ["number"] (sp_ratio_of A.Ratio) := by
  have G_Ratio_init : FnOk P w K mg base CX0 2 A.f_Ratio___init__ D.f_Ratio___init__ ["self", "top", "bottom"] (sp_init A.Ratio) := ok_Ratio___init__ T
  obtain ⟨ds1, d_Ratio_init1, b_Ratio_init1⟩ := T.b1_Ratio___init__
  refine T.F_ratio_of.ok sc_ratio_of (fun vs H Q E h => ?_) (fun cdv A' outer s H vs Q E hr h => ?_)
  · obtain ⟨x, t, b, rfl, _⟩ := h
    rfl
  · obtain ⟨x, t, b, rfl, hx, q⟩ := h
    refine ⟨_, (pss_cons (ps_if (pt_val (pe_callB call_isi rfl T.z_isinstance (by decide +kernel) (pa_cons (pv 0) (pa_cons (pe_glob (v := .ref A.Ratio) rfl T.g_Ratio rfl) pa_nil)))) (pss_one (ps_ret (pv 0))) pss_nil)
  (pss_one (ps_ret (pe_make T.M_Ratio G_Ratio_init (hr.mono (by decide)) rfl T.g_Ratio b_Ratio_init1 d_Ratio_init1 pass0 (pa_cons (pv 0) pa_nil))))), ?_⟩
    rcases hx with ⟨rfl, rfl⟩ | ⟨c, dy, rfl, hc⟩
    · refine ⟨_, rfl, .int t, .ref A.Ratio, _, _, false, rfl, .own _, .base (.int t), T.k_Ratio.ik, false, rfl, iteF ?_⟩
      refine ⟨_, rfl, fun x dx nx nd ne => ⟨x, dx, t, 1, rfl, upd_same, by decide, so, fun t' b' nm => ⟨rfl, ?_⟩⟩⟩
      obtain ⟨e4, e5⟩ := norm_is_one nm
      subst e4 e5
      obtain ⟨sd, rd⟩ := made (C := A.Ratio) nx nd ne t' 1
      exact q _ _ sd rd
    · refine ⟨_, rfl, .ref c, .ref A.Ratio, _, _, true, rfl, .own _, T.k_Ratio.ty hc, kit_self, true, rfl, iteT ?_⟩
      exact ⟨_, rfl, q _ _ (Same.refl H) ⟨c, dy, rfl, hc⟩⟩
abbrev f_sum : Int → Int → Int → Int → Int := fun t b t2 b2 => t * b2 + t2 * b
abbrev f_dif : Int → Int → Int → Int → Int := fun t b t2 b2 => t * b2 - t2 * b
abbrev f_pro : Int → Int → Int → Int → Int := fun t b t2 b2 => t * t2
/-- what is asked of two numbers that are put together -/
structure Fit (t b t2 b2 : Int) : Prop where
  s1 : Sm t
  s2 : Sm b
  s3 : Sm t2
  s4 : Sm b2
  n2 : b ≠ 0
  n4 : b2 ≠ 0
  sb : Sm (b * b2)
theorem Fit.swap {t b t2 b2 : Int} (h : Fit t b t2 b2) : Fit t2 b2 t b := ⟨h.s3, h.s4, h.s1, h.s2, h.n4, h.n2, by rw [Int.mul_comm]; exact h.sb⟩
theorem Fit.nb {t b t2 b2 : Int} (h : Fit t b t2 b2) : b * b2 ≠ 0 := fun z => by
  rcases Int.mul_eq_zero.mp z with e | e
  · exact h.n2 e
  · exact h.n4 e
/-- two Ratios in, a Ratio out -/
def sp_put (C : Addr) (f : Int → Int → Int → Int → Int) : Sp := fun vs H Q _ => ∃ x y t b t2 b2, vs = [x, y] ∧ RatAt C H x t b ∧ RatAt C H y t2 b2 ∧ Fit t b t2 b2 ∧ ∀ H' v t' b', Same H H' → RatAt C H' v t' b' → Norm (f t b t2 b2) (b * b2) t' b' → Q v H'
theorem ok__sum (T : Txt K mg A D) : FnOk P w K mg base CX0 4 A.f__sum D.f__sum ["one", "other"] (sp_put A.Ratio f_sum) := by
  have G_Ratio_init : FnOk P w K mg base CX0 2 A.f_Ratio___init__ D.f_Ratio___init__ ["self", "top", "bottom"] (sp_init A.Ratio) := ok_Ratio___init__ T
  have b_Ratio_init2 := T.b_Ratio___init__
  have d_Ratio_init2 : Vals [] [] := .nil
  refine T.F__sum.ok sc__sum (fun vs H Q E h => ?_) (fun cdv A' outer s H vs Q E hr h => ?_)
  · obtain ⟨x, y, t, b, t2, b2, rfl, _⟩ := h
    rfl
  · obtain ⟨x, y, t, b, t2, b2, rfl, ⟨a, dx, rfl, ha⟩, ⟨c, dy, rfl, hc⟩, ft, q⟩ := h
    refine ⟨_, (pss_one (ps_ret (pe_make T.M_Ratio G_Ratio_init (hr.mono (by decide)) rfl T.g_Ratio b_Ratio_init2 d_Ratio_init2 pass0 (pa_cons (pe_op op_add (pe_op op_mulW (pe_fld (pv 0) rfl) (pe_fld (pv 1) rfl)) (pe_op op_mulW (pe_fld (pv 1) rfl) (pe_fld (pv 0) rfl))) (pa_cons (pe_op op_mulW (pe_fld (pv 0) rfl) (pe_fld (pv 1) rfl)) pa_nil))))), ?_⟩
    have cl := T.k_Ratio.cl
    have nt := T.k_Ratio.n_top
    have nb := T.k_Ratio.n_bottom
    refine ⟨_, rfl, a, A.Ratio, dx, _, _, rfl, ha, cl, nt, rfl, _, rfl, c, A.Ratio, dy, _, _, rfl, hc, cl, nb, rfl, _, _, rfl, rfl, ft.s1.mul ft.s4, ?_⟩
    refine ⟨_, rfl, c, A.Ratio, dy, _, _, rfl, hc, cl, nt, rfl, _, rfl, a, A.Ratio, dx, _, _, rfl, ha, cl, nb, rfl, _, _, rfl, rfl, ft.s3.mul ft.s2, _, _, rfl, rfl, ?_⟩
    refine ⟨_, rfl, a, A.Ratio, dx, _, _, rfl, ha, cl, nb, rfl, _, rfl, c, A.Ratio, dy, _, _, rfl, hc, cl, nb, rfl, _, _, rfl, rfl, ft.s2.mul ft.s4, ?_⟩
    refine fun x dx nx nd ne => ⟨x, dx, _, _, rfl, upd_same, ft.nb, ft.sb, fun t' b' nm => ⟨rfl, ?_⟩⟩
    obtain ⟨sd, rd⟩ := made (C := A.Ratio) nx nd ne t' b'
    exact q _ _ _ _ sd rd nm
theorem ok__product (T : Txt K mg A D) : FnOk P w K mg base CX0 4 A.f__product D.f__product ["one", "other"] (sp_put A.Ratio f_pro) := by
  have G_Ratio_init : FnOk P w K mg base CX0 2 A.f_Ratio___init__ D.f_Ratio___init__ ["self", "top", "bottom"] (sp_init A.Ratio) := ok_Ratio___init__ T
  have b_Ratio_init2 := T.b_Ratio___init__
  have d_Ratio_init2 : Vals [] [] := .nil
  refine T.F__product.ok sc__product (fun vs H Q E h => ?_) (fun cdv A' outer s H vs Q E hr h => ?_)
  · obtain ⟨x, y, t, b, t2, b2, rfl, _⟩ := h
    rfl
  · obtain ⟨x, y, t, b, t2, b2, rfl, ⟨a, dx, rfl, ha⟩, ⟨c, dy, rfl, hc⟩, ft, q⟩ := h
    refine ⟨_, (pss_one (ps_ret (pe_make T.M_Ratio G_Ratio_init (hr.mono (by decide)) rfl T.g_Ratio b_Ratio_init2 d_Ratio_init2 pass0 (pa_cons (pe_op op_mulW (pe_fld (pv 0) rfl) (pe_fld (pv 1) rfl)) (pa_cons (pe_op op_mulW (pe_fld (pv 0) rfl) (pe_fld (pv 1) rfl)) pa_nil))))), ?_⟩
    have cl := T.k_Ratio.cl
    have nt := T.k_Ratio.n_top
    have nb := T.k_Ratio.n_bottom
    refine ⟨_, rfl, a, A.Ratio, dx, _, _, rfl, ha, cl, nt, rfl, _, rfl, c, A.Ratio, dy, _, _, rfl, hc, cl, nt, rfl, _, _, rfl, rfl, ft.s1.mul ft.s3, ?_⟩
    refine ⟨_, rfl, a, A.Ratio, dx, _, _, rfl, ha, cl, nb, rfl, _, rfl, c, A.Ratio, dy, _, _, rfl, hc, cl, nb, rfl, _, _, rfl, rfl, ft.s2.mul ft.s4, ?_⟩
    refine fun x dx nx nd ne => ⟨x, dx, _, _, rfl, upd_same, ft.nb, ft.sb, fun t' b' nm => ⟨rfl, ?_⟩⟩
    obtain ⟨sd, rd⟩ := made (C := A.Ratio) nx nd ne t' b'
    exact q _ _ _ _ sd rd nm
/-- a Ratio and a number in, a Ratio out -/
def sp_bin (C : Addr) (f : Int → Int → Int → Int → Int) : Sp := fun vs H Q _ => ∃ x y t b t2 b2, vs = [x, y] ∧ RatAt C H x t b ∧ NumAt C H y t2 b2 ∧ Fit t b t2 b2 ∧ ∀ H' v t' b', Same H H' → RatAt C H' v t' b' → Norm (f t b t2 b2) (b * b2) t' b' → Q v H'
/-- the same, the number on the left -/
def sp_rbin (C : Addr) (f : Int → Int → Int → Int → Int) : Sp := fun vs H Q _ => ∃ x y t b t2 b2, vs = [x, y] ∧ RatAt C H x t b ∧ NumAt C H y t2 b2 ∧ Fit t b t2 b2 ∧ ∀ H' v t' b', Same H H' → RatAt C H' v t' b' → Norm (f t2 b2 t b) (b2 * b) t' b' → Q v H'
theorem ok_Ratio___add__ (T : Txt K mg A D) : FnOk P w K mg base CX0 5 A.f_Ratio___add__ D.f_Ratio___add__ ["self", "other"] (sp_bin A.Ratio f_sum) := by
  have G__sum : FnOk P w K mg base CX0 4 A.f__sum D.f__sum ["one", "other"] (sp_put A.Ratio f_sum) := ok__sum T
  have G_is_number : FnOk P w K mg base CX0 2 A.f_is_number D.f_is_number ["x"] (sp_isnum K A.Ratio) := ok_is_number T
  have G_ratio_of : FnOk P w K mg base CX0 4 A.f_ratio_of D.f_ratio_of ["number"] (sp_ratio_of A.Ratio) := ok_ratio_of T
  refine T.F_Ratio___add__.ok sc_Ratio___add__ (fun vs H Q E h => ?_) (fun cdv A' outer s H vs Q E hr h => ?_)
  · obtain ⟨x, y, t, b, t2, b2, rfl, _⟩ := h
    rfl
  · obtain ⟨x, y, t, b, t2, b2, rfl, hx, hy, ft, q⟩ := h
    refine ⟨_, (pss_cons (ps_if (pt_not (pt_val (pe_call G_is_number (hr.mono (by decide)) rfl T.g_is_number T.F_is_number.kp T.b_is_number .nil pass0 (pa_cons (pv 1) pa_nil)))) (pss_one ps_never) pss_nil)
  (pss_one (ps_ret (pe_call G__sum (hr.mono (by decide)) rfl T.g__sum T.F__sum.kp T.b__sum .nil pass0 (pa_cons (pv 0) (pa_cons (pe_call G_ratio_of (hr.mono (by decide)) rfl T.g_ratio_of T.F_ratio_of.kp T.b_ratio_of .nil pass0 (pa_cons (pv 1) pa_nil)) pa_nil)))))), ?_⟩
    refine ⟨_, rfl, _, rfl, .inl ⟨hy.kind, true, rfl, iteF ?_⟩⟩
    exact ⟨_, rfl, _, rfl, _, _, _, rfl, hy, fun H1 v s1 r1 => ⟨_, _, _, _, _, _, rfl, hx.same s1, r1, ft, fun H' u t' b' s2 r2 nm => q _ _ _ _ (s1.trans s2) r2 nm⟩⟩
theorem ok_Ratio___mul__ (T : Txt K mg A D) : FnOk P w K mg base CX0 5 A.f_Ratio___mul__ D.f_Ratio___mul__ ["self", "other"] (sp_bin A.Ratio f_pro) := by
  have G__product : FnOk P w K mg base CX0 4 A.f__product D.f__product ["one", "other"] (sp_put A.Ratio f_pro) := ok__product T
  have G_is_number : FnOk P w K mg base CX0 2 A.f_is_number D.f_is_number ["x"] (sp_isnum K A.Ratio) := ok_is_number T
  have G_ratio_of : FnOk P w K mg base CX0 4 A.f_ratio_of D.f_ratio_of ["number"] (sp_ratio_of A.Ratio) := ok_ratio_of T
  refine T.F_Ratio___mul__.ok sc_Ratio___mul__ (fun vs H Q E h => ?_) (fun cdv A' outer s H vs Q E hr h => ?_)
  · obtain ⟨x, y, t, b, t2, b2, rfl, _⟩ := h
    rfl
  · obtain ⟨x, y, t, b, t2, b2, rfl, hx, hy, ft, q⟩ := h
    refine ⟨_, (pss_cons (ps_if (pt_not (pt_val (pe_call G_is_number (hr.mono (by decide)) rfl T.g_is_number T.F_is_number.kp T.b_is_number .nil pass0 (pa_cons (pv 1) pa_nil)))) (pss_one ps_never) pss_nil)
  (pss_one (ps_ret (pe_call G__product (hr.mono (by decide)) rfl T.g__product T.F__product.kp T.b__product .nil pass0 (pa_cons (pv 0) (pa_cons (pe_call G_ratio_of (hr.mono (by decide)) rfl T.g_ratio_of T.F_ratio_of.kp T.b_ratio_of .nil pass0 (pa_cons (pv 1) pa_nil)) pa_nil)))))), ?_⟩
    refine ⟨_, rfl, _, rfl, .inl ⟨hy.kind, true, rfl, iteF ?_⟩⟩
    exact ⟨_, rfl, _, rfl, _, _, _, rfl, hy, fun H1 v s1 r1 => ⟨_, _, _, _, _, _, rfl, hx.same s1, r1, ft, fun H' u t' b' s2 r2 nm => q _ _ _ _ (s1.trans s2) r2 nm⟩⟩
end

end Mo

namespace Mo
open PySem PySem.Spec PyProof.Rows L2 MoL MoW
open C8 (pss_cut tCut)
section
variable {P : Program} {w : World} {K : PySem.W.Frag} {mg : Str → Option Value} {base : Heap} {A : Ad} {D : Fd}
/-! ### numbers by their value -/
theorem nmul {i j : Int} {m n : Nat} (a : i.natAbs < 2 ^ m) (b : j.natAbs < 2 ^ n) : (i * j).natAbs < 2 ^ (m + n) := by
  rw [Int.natAbs_mul, Nat.pow_add]
  exact Nat.mul_lt_mul'' a b
theorem nadd {i j : Int} {n : Nat} (a : i.natAbs < 2 ^ n) (b : j.natAbs < 2 ^ n) : (i + j).natAbs < 2 ^ (n + 1) := by
  rw [Nat.pow_succ]
  omega
theorem nle {i : Int} {m n : Nat} (a : i.natAbs < 2 ^ m) (h : m ≤ n) : i.natAbs < 2 ^ n := Nat.lt_of_lt_of_le a (Nat.pow_le_pow_right (by decide) h)
/-- the number v is p / q; its own top and bottom are below 2 ^ n -/
def IsQ (C : Addr) (n : Nat) (H : Hp) (v : V) (p q : Int) : Prop := ∃ t b, NumAt C H v t b ∧ 0 < b ∧ 0 < q ∧ t * q = p * b ∧ t.natAbs < 2 ^ n ∧ b.natAbs < 2 ^ n
/-- the Ratio v is p / q -/
def IsR (C : Addr) (n : Nat) (H : Hp) (v : V) (p q : Int) : Prop := ∃ t b, RatAt C H v t b ∧ 0 < b ∧ 0 < q ∧ t * q = p * b ∧ t.natAbs < 2 ^ n ∧ b.natAbs < 2 ^ n
section
variable {C : Addr} {n m : Nat} {H H' : Hp} {v : V} {p q : Int}
theorem IsR.toQ (r : IsR C n H v p q) : IsQ C n H v p q := by
  obtain ⟨t, b, h, r⟩ := r
  exact ⟨t, b, .inr h, r⟩
theorem NumAt.same {t b : Int} (n : NumAt C H v t b) (s : Same H H') : NumAt C H' v t b := by
  rcases n with h | h
  · exact .inl h
  · exact .inr (h.same s)
theorem IsR.same (r : IsR C n H v p q) (s : Same H H') : IsR C n H' v p q := by
  obtain ⟨t, b, h, r⟩ := r
  exact ⟨t, b, h.same s, r⟩
theorem IsQ.same (r : IsQ C n H v p q) (s : Same H H') : IsQ C n H' v p q := by
  obtain ⟨t, b, h, r⟩ := r
  exact ⟨t, b, h.same s, r⟩
theorem IsR.ext (r : IsR C n H v p q) (s : LamX.ExtN H H') : IsR C n H' v p q := by
  obtain ⟨t, b, h, r⟩ := r
  exact ⟨t, b, h.ext s, r⟩
theorem IsR.mono (r : IsR C n H v p q) (h : n ≤ m) : IsR C m H v p q := by
  obtain ⟨t, b, r, h1, h2, h3, h4, h5⟩ := r
  exact ⟨t, b, r, h1, h2, h3, nle h4 h, nle h5 h⟩
theorem IsR.to {p' q' : Int} (r : IsR C n H v p q) (h : 0 < q') (e : p * q' = p' * q) : IsR C n H v p' q' := by
  obtain ⟨t, b, r, h1, h2, h3, h4, h5⟩ := r
  refine ⟨t, b, r, h1, h, ?_, h4, h5⟩
  refine Int.eq_of_mul_eq_mul_right (show q ≠ 0 by omega) ?_
  grind
theorem IsQ.kind (r : IsQ C n H v p q) : (∃ i, v = .int i) ∨ Ins H v C := by
  obtain ⟨t, b, h, _⟩ := r
  exact h.kind
theorem IsQ.ne (r : IsQ C n H v p q) : v ≠ .non := by
  rcases r.kind with ⟨i, rfl⟩ | ⟨a, dx, fs, rfl, _⟩ <;> exact fun z => by cases z
theorem IsQ.int {i : Int} (h : i.natAbs < 2 ^ n) (hn : 1 ≤ n) : IsQ C n H (.int i) i 1 := ⟨i, 1, .inl ⟨rfl, rfl⟩, by decide, by decide, rfl, h, nle (show (1 : Int).natAbs < 2 ^ 1 by decide) hn⟩
end
theorem scale {X Y c d : Int} (hc : 0 < c) (hd : 0 < d) (e : X * c = Y * d) : (X < 0 ↔ Y < 0) ∧ (X = 0 ↔ Y = 0) := by
  constructor
  · constructor
    · intro h
      have h1 : X * c < 0 := Int.mul_neg_of_neg_of_pos h hc
      rw [e] at h1
      exact Int.not_le.mp fun z => absurd (Int.mul_nonneg z (Int.le_of_lt hd)) (by omega)
    · intro h
      have h1 : Y * d < 0 := Int.mul_neg_of_neg_of_pos h hd
      rw [← e] at h1
      exact Int.not_le.mp fun z => absurd (Int.mul_nonneg z (Int.le_of_lt hc)) (by omega)
  · constructor
    · intro h
      rw [h, Int.zero_mul] at e
      exact (Int.mul_eq_zero.mp e.symm).resolve_right (by omega)
    · intro h
      rw [h, Int.zero_mul] at e
      exact (Int.mul_eq_zero.mp e).resolve_right (by omega)
theorem gapq {t b p q t2 b2 p2 q2 : Int} (hb : 0 < b) (hq : 0 < q) (e : t * q = p * b) (hb2 : 0 < b2) (hq2 : 0 < q2) (e2 : t2 * q2 = p2 * b2) :
    (t * b2 - t2 * b < 0 ↔ p * q2 < p2 * q) ∧ (t * b2 - t2 * b = 0 ↔ p * q2 = p2 * q) := by
  have k : (t * b2 - t2 * b) * (q * q2) = (p * q2 - p2 * q) * (b * b2) := by grind
  obtain ⟨h1, h2⟩ := scale (Int.mul_pos hq hq2) (Int.mul_pos hb hb2) k
  constructor
  · rw [h1]; omega
  · rw [h2]; omega
abbrev End := Option (Int × Int)
/-- a Ratio or None as an end -/
def EndAt (C : Addr) (n : Nat) (H : Hp) (x : V) (o : End) : Prop := match o with
  | none => x = .non
  | some e => IsR C n H x e.1 e.2
/-- what may be given as an end -/
def ArgAt (C : Addr) (n : Nat) (H : Hp) (x : V) (o : End) : Prop := match o with
  | none => x = .non
  | some e => IsQ C n H x e.1 e.2
section
variable {C : Addr} {n m : Nat} {H H' : Hp} {x : V} {o : End}
theorem EndAt.same (h : EndAt C n H x o) (s : Same H H') : EndAt C n H' x o := by
  cases o with
  | none => exact h
  | some e => exact IsR.same h s
theorem EndAt.ext (h : EndAt C n H x o) (s : LamX.ExtN H H') : EndAt C n H' x o := by
  cases o with
  | none => exact h
  | some e => exact IsR.ext h s
theorem EndAt.mono (h : EndAt C n H x o) (l : n ≤ m) : EndAt C m H x o := by
  cases o with
  | none => exact h
  | some e => exact IsR.mono h l
theorem ArgAt.same (h : ArgAt C n H x o) (s : Same H H') : ArgAt C n H' x o := by
  cases o with
  | none => exact h
  | some e => exact IsQ.same h s
theorem EndAt.arg (h : EndAt C n H x o) : ArgAt C n H x o := by
  cases o with
  | none => exact h
  | some e => exact IsR.toQ h
end
theorem ArgAt.or {C : Addr} {n : Nat} {H : Hp} {x : V} {o : End} (h : ArgAt C n H x o) : x = .non ∨ ((∃ i, x = .int i) ∨ Ins H x C) := by
  cases o with
  | none => exact .inl h
  | some e => exact .inr (IsQ.kind h)
theorem kind_ne {C : Addr} {H : Hp} {x : V} (k : (∃ i, x = .int i) ∨ Ins H x C) : x ≠ .non := by
  rcases k with ⟨i, rfl⟩ | ⟨a, dx, fs, rfl, _⟩ <;> exact fun z => by cases z
theorem is_non {x : V} (e : x = .non) : (!decide (x = V.non)) = false := by rw [decide_eq_true e]; rfl
theorem not_non {x : V} (e : x ≠ .non) : (!decide (x = V.non)) = true := by rw [decide_eq_false e]; rfl
/-- a place with these ends -/
def PlaceAt (A : Ad) (n : Nat) (H : Hp) (v : V) (lo hi : End) : Prop := ∃ a dx x y, v = .ref a ∧ H a = some (.ins A.Place dx [("low", x), ("high", y)]) ∧ EndAt A.Ratio n H x lo ∧ EndAt A.Ratio n H y hi
section
variable {n m : Nat} {H H' : Hp} {v : V} {lo hi : End}
theorem PlaceAt.same (h : PlaceAt A n H v lo hi) (s : Same H H') : PlaceAt A n H' v lo hi := by
  obtain ⟨a, dx, x, y, e, h, h1, h2⟩ := h
  exact ⟨a, dx, x, y, e, s _ _ h, h1.same s, h2.same s⟩
theorem PlaceAt.ext (h : PlaceAt A n H v lo hi) (s : LamX.ExtN H H') : PlaceAt A n H' v lo hi := by
  obtain ⟨a, dx, x, y, e, h, h1, h2⟩ := h
  exact ⟨a, dx, x, y, e, s _ _ h (fun _ z => by cases z), h1.ext s, h2.ext s⟩
theorem PlaceAt.ins (h : PlaceAt A n H v lo hi) : Ins H v A.Place := by
  obtain ⟨a, dx, x, y, e, h, h1, h2⟩ := h
  exact ⟨a, dx, _, e, h⟩
end
/-! ### the errors -/
theorem ok_NoPlace___init__ (T : Txt K mg A D) : FnOk P w K mg base CX0 1 A.f_NoPlace___init__ D.f_NoPlace___init__ ["self", "part"] (sp_keep K "part") := by
  skip
  refine T.F_NoPlace___init__.ok sc_NoPlace___init__ (fun vs H Q E h => ?_) (fun cdv A' outer s H vs Q E hr h => ?_)
  · obtain ⟨e, C, v, rfl, _⟩ := h
    rfl
  · obtain ⟨e, C, v, rfl, hT, hn, he, q⟩ := h
    refine ⟨_, pss_one (ps_ost (pv 0) (pv 1)), ?_⟩
    exact ⟨_, rfl, _, rfl, e, C, rfl, hT, hn, .inl ⟨he, q⟩⟩
theorem ok_NoNumber___init__ (T : Txt K mg A D) : FnOk P w K mg base CX0 1 A.f_NoNumber___init__ D.f_NoNumber___init__ ["self", "word"] (sp_keep K "word") := by
  skip
  refine T.F_NoNumber___init__.ok sc_NoNumber___init__ (fun vs H Q E h => ?_) (fun cdv A' outer s H vs Q E hr h => ?_)
  · obtain ⟨e, C, v, rfl, _⟩ := h
    rfl
  · obtain ⟨e, C, v, rfl, hT, hn, he, q⟩ := h
    refine ⟨_, pss_one (ps_ost (pv 0) (pv 1)), ?_⟩
    exact ⟨_, rfl, _, rfl, e, C, rfl, hT, hn, .inl ⟨he, q⟩⟩
/-! ### the making of a place -/
theorem imp_pE {X : Cx} {e : Expr} {t t' : TE} (h : PE X e t) (i : ∀ σ H Q, t' σ H Q → t σ H Q) : PE X e t' := ⟨fun pins s σ H Q I q => h.run pins s σ H Q I (i σ H Q q)⟩
theorem imp_pT {X : Cx} {e : Expr} {t t' : TT} (h : PT X e t) (i : ∀ σ H Q, t' σ H Q → t σ H Q) : PT X e t' := ⟨fun pins s σ H Q I q => h.run pins s σ H Q I (i σ H Q q)⟩
/-- the argument in slot i as an end -/
def tEnd (C : Addr) (i : Nat) : TE := fun σ H Q => ∃ x o n, n ≤ 1000 ∧ σ[i]? = some (some x) ∧ ArgAt C n H x o ∧ ∀ G u, Same H G → EndAt C n G u o → Q u G
/-- whether the argument in slot i is no end -/
def tNoEnd (K : PySem.W.Frag) (C : Addr) (i : Nat) : TT := fun σ H Q => ∃ x, σ[i]? = some (some x) ∧ ((∃ o n, ArgAt C n H x o ∧ Q false H) ∨ (NoNum K C H x ∧ x ≠ .non ∧ Q true H))
/-- the low end stands before the high one -/
def Order (lo hi : End) : Prop := match hi with
  | none => True
  | some e => ∃ d : Int × Int, lo = some d ∧ d.1 * e.2 < e.1 * d.2
/-- both integers, or the left one a Ratio -/
def Styl (C : Addr) (H : Hp) (x y : V) : Prop := (∃ i j, x = .int i ∧ y = .int j) ∨ Ins H x C
/-- which word tells that there is no such place -/
def WrongP (K : PySem.W.Frag) (C : Addr) (H : Hp) (x y : V) (s : Str) : Prop := (NoNum K C H x ∧ x ≠ .non ∧ s = "low") ∨ (∃ lo n, ArgAt C n H x lo ∧ NoNum K C H y ∧ y ≠ .non ∧ s = "high") ∨
  ∃ lo n p q, n ≤ 1000 ∧ ArgAt C n H x lo ∧ IsQ C n H y p q ∧ (∀ d : Int × Int, lo = some d → p * d.2 ≤ d.1 * q ∧ Styl C H x y) ∧ s = "order"
def sp_place (K : PySem.W.Frag) (A : Ad) : Sp := fun vs H Q E => ∃ (a dx : Addr) (x y : V), vs = [.ref a, x, y] ∧ H a = some (.ins A.Place dx []) ∧
  ((∃ lo hi n, n ≤ 1000 ∧ ArgAt A.Ratio n H x lo ∧ ArgAt A.Ratio n H y hi ∧ Order lo hi ∧ (y ≠ .non → Styl A.Ratio H x y) ∧
      ∀ G u v, (∀ b o, b ≠ a → H b = some o → G b = some o) → G a = some (.ins A.Place dx [("low", u), ("high", v)]) → EndAt A.Ratio n G u lo → EndAt A.Ratio n G v hi → Q .non G) ∨
    ∃ s : Str, WrongP K A.Ratio H x y s ∧ ∀ z, H z = none → E (.ref A.NoPlace) (some z) (upd H z (.xd [("part", .str s)])))
theorem IsQ.is_int {C : Addr} {n : Nat} {H : Hp} {i p q : Int} (h : IsQ C n H (.int i) p q) : 0 < q ∧ i * q = p := by
  obtain ⟨t, b, hn, _, hq, e, _⟩ := h
  rcases hn with ⟨h1, rfl⟩ | ⟨a, dx, h1, _⟩
  · cases h1
    exact ⟨hq, by rw [e, Int.mul_one]⟩
  · cases h1
theorem IsQ.rat {C : Addr} {n : Nat} {H : Hp} {x : V} {p q : Int} (h : IsQ C n H x p q) (k : Ins H x C) : IsR C n H x p q := by
  obtain ⟨t, b, hn, r⟩ := h
  rcases hn with ⟨h1, rfl⟩ | hr
  · obtain ⟨a, dx, fs, rfl, _⟩ := k
    cases h1
  · exact ⟨t, b, hr, r⟩
theorem IsR.ins {C : Addr} {n : Nat} {H : Hp} {x : V} {p q : Int} (h : IsR C n H x p q) : Ins H x C := by
  obtain ⟨t, b, hn, r⟩ := h
  exact hn.ins
theorem sm_of {i : Int} {n : Nat} (h : i.natAbs < 2 ^ n) (hn : n ≤ 1000) : Sm i := Sm.of h (by omega)
/-- the two ends beside one another -/
theorem ge_read {C : Addr} {H : Hp} {x y : V} {n m : Nat} {p q p2 q2 : Int} {Q : VK} (hn : n ≤ 1000) (hm : m ≤ 1000) (hx : IsQ C n H x p q) (hy : IsQ C m H y p2 q2) (st : Styl C H x y) (k : Q (.bl (decide (p2 * q ≤ p * q2))) H) :
    rI0 (fun i j => .bl (decide (j ≤ i))) x y H Q ∨ rOwn C (sp_cmp C r_ge) E0 x y H Q := by
  rcases st with ⟨i, j, rfl, rfl⟩ | hi
  · obtain ⟨q0, e⟩ := hx.is_int
    obtain ⟨q1, e2⟩ := hy.is_int
    refine .inl ⟨i, j, rfl, rfl, ?_⟩
    have g := (gapq (t := i) (b := 1) (t2 := j) (b2 := 1) (by decide) q0 (by rw [e, Int.mul_one]) (by decide) q1 (by rw [e2, Int.mul_one])).1
    have : decide (j ≤ i) = decide (p2 * q ≤ p * q2) := by
      rw [Bool.eq_iff_iff]
      simp only [decide_eq_true_eq]
      omega
    show Q (.bl (decide (j ≤ i))) H
    rw [this]
    exact k
  · obtain ⟨t, b, hr, hb, hq, e, s1, s2⟩ := hx.rat hi
    obtain ⟨t2, b2, hr2, hb2, hq2, e2, s3, s4⟩ := hy
    refine .inr ⟨hr.ins, hr2.kind, x, y, t, b, t2, b2, rfl, hr, hr2, sm_of s1 hn, sm_of s2 hn, sm_of s3 hm, sm_of s4 hm, ?_⟩
    have g := (gapq hb hq e hb2 hq2 e2).1
    have : r_ge (t * b2 - t2 * b) = decide (p2 * q ≤ p * q2) := by
      rw [Bool.eq_iff_iff]
      simp only [r_ge, decide_eq_true_eq]
      omega
    rw [this]
    exact k
/-- what the third test answers -/
def OrdIs (C : Addr) (H : Hp) (x y : V) (c : Bool) : Prop := (y = .non ∧ c = false) ∨ (y ≠ .non ∧ x = .non ∧ c = true) ∨ ∃ n m p q p2 q2, n ≤ 1000 ∧ m ≤ 1000 ∧ IsQ C n H x p q ∧ IsQ C m H y p2 q2 ∧ Styl C H x y ∧ c = decide (p2 * q ≤ p * q2)
def tOrd (C : Addr) : TT := fun σ H Q => ∃ x y c, σ[1]? = some (some x) ∧ σ[2]? = some (some y) ∧ OrdIs C H x y c ∧ Q c H
theorem ord_good {C : Addr} {H : Hp} {x y : V} {lo hi : End} {n : Nat} (hn : n ≤ 1000) (h1 : ArgAt C n H x lo) (h2 : ArgAt C n H y hi) (o : Order lo hi) (st : y ≠ .non → Styl C H x y) : OrdIs C H x y false := by
  cases hi with
  | none => exact .inl ⟨h2, rfl⟩
  | some e =>
    obtain ⟨d, rfl, lt⟩ := o
    exact .inr (.inr ⟨n, n, _, _, _, _, hn, hn, h1, h2, st (IsQ.ne h2), (decide_eq_false (by omega)).symm⟩)
theorem RatAt.keep {C C' : Addr} {H G : Hp} {v : V} {t b : Int} {a dx : Addr} {fs : List (Str × V)} (r : RatAt C H v t b) (ha : H a = some (.ins C' dx fs)) (nf : ∀ t b : Int, fs ≠ ([("top", V.int t), ("bottom", V.int b)] : List (Str × V))) (k : ∀ b o, b ≠ a → H b = some o → G b = some o) : RatAt C G v t b := by
  obtain ⟨c, d, e, h⟩ := r
  refine ⟨c, d, e, k _ _ (fun z => ?_) h⟩
  rw [z, ha] at h
  cases h
  exact nf _ _ rfl
theorem EndAt.keep {C C' : Addr} {n : Nat} {H G : Hp} {x : V} {o : End} {a dx : Addr} {fs : List (Str × V)} (r : EndAt C n H x o) (ha : H a = some (.ins C' dx fs)) (nf : ∀ t b : Int, fs ≠ ([("top", V.int t), ("bottom", V.int b)] : List (Str × V))) (k : ∀ b o, b ≠ a → H b = some o → G b = some o) : EndAt C n G x o := by
  cases o with
  | none => exact r
  | some e =>
    obtain ⟨t, b, h, r⟩ := r
    exact ⟨t, b, RatAt.keep h ha nf k, r⟩
theorem ArgAt.keep {C C' : Addr} {n : Nat} {H G : Hp} {x : V} {o : End} {a dx : Addr} {fs : List (Str × V)} (r : ArgAt C n H x o) (ha : H a = some (.ins C' dx fs)) (nf : ∀ t b : Int, fs ≠ ([("top", V.int t), ("bottom", V.int b)] : List (Str × V))) (k : ∀ b o, b ≠ a → H b = some o → G b = some o) : ArgAt C n G x o := by
  cases o with
  | none => exact r
  | some e =>
    obtain ⟨t, b, h, r⟩ := r
    refine ⟨t, b, ?_, r⟩
    rcases h with h | h
    · exact .inl h
    · exact .inr (RatAt.keep h ha nf k)
theorem upd_but {H : Hp} {a : Addr} {o : HO} : ∀ b u, b ≠ a → H b = some u → upd H a o b = some u := fun b u hb h => by
  rw [upd_ne hb]
  exact h
theorem ok_Place___init__ (T : Txt K mg A D) : FnOk P w K mg base (L2.CX P w) 6 A.f_Place___init__ D.f_Place___init__ ["self", "low", "high"] (sp_place K A) := by
  have G_NoPlace___init__ : FnOk P w K mg base CX0 1 A.f_NoPlace___init__ D.f_NoPlace___init__ ["self", "part"] (sp_keep K "part") := ok_NoPlace___init__ T
  have G_Ratio___ge__ : FnOk P w K mg base CX0 3 A.f_Ratio___ge__ D.f_Ratio___ge__ ["self", "other"] (sp_cmp A.Ratio r_ge) := ok_Ratio___ge__ T
  have G_is_number : FnOk P w K mg base CX0 2 A.f_is_number D.f_is_number ["x"] (sp_isnum K A.Ratio) := ok_is_number T
  have G_ratio_of : FnOk P w K mg base CX0 4 A.f_ratio_of D.f_ratio_of ["number"] (sp_ratio_of A.Ratio) := ok_ratio_of T
  refine T.F_Place___init__.ok sc_Place___init__ (fun vs H Q E h => ?_) (fun cdv A' outer s H vs Q E hr h => ?_)
  · obtain ⟨a, dx, x, y, rfl, _⟩ := h
    rfl
  · obtain ⟨a, dx, x, y, rfl, ha, h⟩ := h
    refine ⟨_, (pss_cons (ps_if (imp_pT (t' := tNoEnd K A.Ratio 1) (PW.pt (pw_and (pt_cmpR op_notN (pv 1) pe_non (nomark _)) (pw_and1 (pt_not (pt_val (pe_call G_is_number (hr.mono (by decide)) rfl T.g_is_number T.F_is_number.kp T.b_is_number .nil pass0 (pa_cons (pv 1) pa_nil))))))) (fun σ H Q hh => by obtain ⟨x, hx, h⟩ := hh; exact ⟨x, hx, rfl, _, rfl, h.elim (fun ⟨o, n, ha, q⟩ => ha.or.elim (fun e => iteFe (is_non e) q) (fun k => iteTe (not_non (kind_ne k)) ⟨x, hx, x, rfl, .inl ⟨k, true, rfl, q⟩⟩)) (fun ⟨hn, hne, q⟩ => iteTe (not_non hne) ⟨x, hx, x, rfl, .inr ⟨hn, false, rfl, q⟩⟩)⟩)) (pss_one (ps_raise rfl (takes_of rfl rfl rfl rfl) (pmk_oex T.o_NoPlace T.i_NoPlace T.ti_NoPlace G_NoPlace___init__ (hr.mono (by decide)) T.b_NoPlace___init__ .nil pass0 rfl T.g_NoPlace (by exact (pa_cons pe_str pa_nil))))) pss_nil)
  (pss_cons (ps_if (imp_pT (t' := tNoEnd K A.Ratio 2) (PW.pt (pw_and (pt_cmpR op_notN (pv 2) pe_non (nomark _)) (pw_and1 (pt_not (pt_val (pe_call G_is_number (hr.mono (by decide)) rfl T.g_is_number T.F_is_number.kp T.b_is_number .nil pass0 (pa_cons (pv 2) pa_nil))))))) (fun σ H Q hh => by obtain ⟨x, hx, h⟩ := hh; exact ⟨x, hx, rfl, _, rfl, h.elim (fun ⟨o, n, ha, q⟩ => ha.or.elim (fun e => iteFe (is_non e) q) (fun k => iteTe (not_non (kind_ne k)) ⟨x, hx, x, rfl, .inl ⟨k, true, rfl, q⟩⟩)) (fun ⟨hn, hne, q⟩ => iteTe (not_non hne) ⟨x, hx, x, rfl, .inr ⟨hn, false, rfl, q⟩⟩)⟩)) (pss_one (ps_raise rfl (takes_of rfl rfl rfl rfl) (pmk_oex T.o_NoPlace T.i_NoPlace T.ti_NoPlace G_NoPlace___init__ (hr.mono (by decide)) T.b_NoPlace___init__ .nil pass0 rfl T.g_NoPlace (by exact (pa_cons pe_str pa_nil))))) pss_nil)
  (pss_cons (ps_if (imp_pT (t' := tOrd A.Ratio) (PW.pt (pw_and (pt_cmpR op_notN (pv 2) pe_non (nomark _)) (pw_and1 (PW.pt (pw_or (pt_cmpR op_isN (pv 1) pe_non (nomark _)) (pw_or1 (pt_cmpR (op_ge.or (op_ge_own T.k_Ratio.ow T.m_Ratio___ge__ G_Ratio___ge__ (hr.mono (by decide)) T.b_Ratio___ge__ pass0)) (pv 1) (pv 2) (nomark _)))))))) (fun σ H Q hh => by obtain ⟨x, y, c, hx, hy, o, q⟩ := hh; exact ⟨y, hy, rfl, _, rfl, o.elim (fun ⟨e, ec⟩ => iteFe (is_non e) (by subst ec; exact q)) (fun o => o.elim (fun ⟨e, e2, ec⟩ => iteTe (not_non e) ⟨x, hx, rfl, _, rfl, iteTe (decide_eq_true e2) (by subst ec; exact q)⟩) (fun ⟨n, m, p, r, p2, r2, hn, hm, h1, h2, st, ec⟩ => iteTe (not_non h2.ne) ⟨x, hx, rfl, _, rfl, iteFe (decide_eq_false h1.ne) ⟨x, hx, y, hy, ge_read hn hm h1 h2 st ⟨_, rfl, by subst ec; exact q⟩⟩⟩))⟩)) (pss_one (ps_raise rfl (takes_of rfl rfl rfl rfl) (pmk_oex T.o_NoPlace T.i_NoPlace T.ti_NoPlace G_NoPlace___init__ (hr.mono (by decide)) T.b_NoPlace___init__ .nil pass0 rfl T.g_NoPlace (by exact (pa_cons pe_str pa_nil))))) pss_nil)
  (pss_cons (ps_fld (pv 0) (imp_pE (t' := tEnd A.Ratio 1) (pe_ifExp (pt_cmpR op_isN (pv 1) pe_non (nomark _)) pe_non (pe_call G_ratio_of (hr.mono (by decide)) rfl T.g_ratio_of T.F_ratio_of.kp T.b_ratio_of .nil pass0 (pa_cons (pv 1) pa_nil))) (fun σ H Q hh => by obtain ⟨x, o, n, hn, hx, ha, k⟩ := hh; exact ⟨x, hx, rfl, _, rfl, match o, ha, k with | none, ha, k => iteTe (decide_eq_true ha) (k H .non (Same.refl H) rfl) | some e, ha, k => iteFe (decide_eq_false (IsQ.ne ha)) (let ⟨t, b, nu, r⟩ := ha; ⟨x, hx, x, t, b, rfl, nu, fun H' v s r' => k H' v s ⟨t, b, r', r⟩⟩)⟩)) rfl)
  (pss_one (ps_fld (pv 0) (imp_pE (t' := tEnd A.Ratio 2) (pe_ifExp (pt_cmpR op_isN (pv 2) pe_non (nomark _)) pe_non (pe_call G_ratio_of (hr.mono (by decide)) rfl T.g_ratio_of T.F_ratio_of.kp T.b_ratio_of .nil pass0 (pa_cons (pv 2) pa_nil))) (fun σ H Q hh => by obtain ⟨x, o, n, hn, hx, ha, k⟩ := hh; exact ⟨x, hx, rfl, _, rfl, match o, ha, k with | none, ha, k => iteTe (decide_eq_true ha) (k H .non (Same.refl H) rfl) | some e, ha, k => iteFe (decide_eq_false (IsQ.ne ha)) (let ⟨t, b, nu, r⟩ := ha; ⟨x, hx, x, t, b, rfl, nu, fun H' v s r' => k H' v s ⟨t, b, r', r⟩⟩)⟩)) rfl)))))), ?_⟩
    rcases h with ⟨lo, hi, n, hn, hlo, hhi, ord, st, q⟩ | ⟨s, ⟨w, wn, rfl⟩ | ⟨lo, n, hlo, w, wn, rfl⟩ | ⟨lo, n, p, q2, hn, hlo, hy, w, rfl⟩, q⟩
    · refine ⟨x, rfl, .inl ⟨lo, n, hlo, iteF ?_⟩⟩
      refine ⟨y, rfl, .inl ⟨hi, n, hhi, iteF ?_⟩⟩
      refine ⟨x, y, false, rfl, rfl, ord_good hn hlo hhi ord st, iteF ?_⟩
      refine ⟨x, lo, n, hn, rfl, hlo, fun G u s1 e1 => ⟨_, rfl, a, A.Place, dx, _, rfl, s1 _ _ ha, T.k_Place.cl, T.n_Place_low, (by show 0 < 1000; decide), ?_⟩⟩
      have a1 := s1 _ _ ha
      have k1 : ∀ b o, b ≠ a → G b = some o → upd G a (.ins A.Place dx [("low", u)]) b = some o := upd_but
      have e2 := e1.keep a1 (fun _ _ z => by cases z) k1
      have h2 := (hhi.same s1).keep a1 (fun _ _ z => by cases z) k1
      have a2 : upd G a (.ins A.Place dx [("low", u)]) a = some (.ins A.Place dx [("low", u)]) := upd_same
      refine ⟨y, hi, n, hn, rfl, h2, fun G2 v s2 e3 => ⟨_, rfl, a, A.Place, dx, _, rfl, s2 _ _ a2, T.k_Place.cl, T.n_Place_high, (by show 1 < 1000; decide), ?_⟩⟩
      have a3 := s2 _ _ a2
      have k2 : ∀ b o, b ≠ a → G2 b = some o → upd G2 a (.ins A.Place dx [("low", u), ("high", v)]) b = some o := upd_but
      exact q _ u v (fun b o hb h => k2 _ _ hb (s2 _ _ (k1 _ _ hb (s1 _ _ h)))) upd_same ((e2.same s2).keep a3 (fun _ _ z => by cases z) k2) (e3.keep a3 (fun _ _ z => by cases z) k2)
    · exact ⟨x, rfl, .inr ⟨w, wn, iteT (mk_keep T.o_NoPlace T.n_NoPlace_part q)⟩⟩
    · refine ⟨x, rfl, .inl ⟨lo, n, hlo, iteF ?_⟩⟩
      exact ⟨y, rfl, .inr ⟨w, wn, iteT (mk_keep T.o_NoPlace T.n_NoPlace_part q)⟩⟩
    · refine ⟨x, rfl, .inl ⟨lo, n, hlo, iteF ?_⟩⟩
      refine ⟨y, rfl, .inl ⟨some (p, q2), n, hy, iteF ?_⟩⟩
      refine ⟨x, y, true, rfl, rfl, ?_, iteT (mk_keep T.o_NoPlace T.n_NoPlace_part q)⟩
      cases lo with
      | none => exact .inr (.inl ⟨hy.ne, hlo, rfl⟩)
      | some d =>
        obtain ⟨w1, w2⟩ := w d rfl
        exact .inr (.inr ⟨n, n, _, _, _, _, hn, hn, hlo, hy, w2, (decide_eq_true w1).symm⟩)
/-! ### what is asked of a place -/
def eqO : End → End → Bool
  | none, none => true
  | some e, some d => decide (e.1 * d.2 = d.1 * e.2)
  | _, _ => false
def sp_peq (A : Ad) : Sp := fun vs H Q _ => ∃ x y n m lo hi lo2 hi2, vs = [x, y] ∧ n ≤ 1000 ∧ m ≤ 1000 ∧ PlaceAt A n H x lo hi ∧ PlaceAt A m H y lo2 hi2 ∧ Q (.bl (eqO lo lo2 && eqO hi hi2)) H
/-- Ratio's own == says nothing of None -/
def preN (C : Addr) : List V → Hp → Prop := fun vs H => ∃ x, vs = [x, .non] ∧ Ins H x C
theorem no_non (T : Txt K mg A D) {H : Hp} : NoNum K A.Ratio H .non := ⟨_, .base .non, T.ik_NoneType, _, false, false, .base .non, kit_ty (by decide +kernel), (fun z => nomatch z), rfl⟩
theorem no_eq (T : Txt K mg A D) : FnNo P w K mg base CX0 3 A.f_Ratio___eq__ (preN A.Ratio) := by
  have G_is_number : FnOk P w K mg base CX0 2 A.f_is_number D.f_is_number ["x"] (sp_isnum K A.Ratio) := ok_is_number T
  refine no_of T.F_Ratio___eq__ sc_Ratio___eq__ rfl (by decide +kernel) T.z_NotImplemented T.b_Ratio___eq__ ?_ ?_
  · rintro vs H ⟨x, rfl, _⟩
    rfl
  · rintro cdv A' outer s H vs hr ⟨x, rfl, hx⟩
    refine ⟨_, (pt_not (pt_val (pe_call G_is_number (hr.mono (by decide)) rfl T.g_is_number T.F_is_number.kp T.b_is_number .nil pass0 (pa_cons (pv 1) pa_nil)))), ?_⟩
    exact ⟨_, rfl, _, rfl, .inr ⟨no_non T, false, rfl, rfl, rfl⟩⟩
theorem eq_read {C : Addr} {H : Hp} {x y : V} {n m : Nat} {o d : End} {Q : VK} (hn : n ≤ 1000) (hm : m ≤ 1000) (hx : EndAt C n H x o) (hy : EndAt C m H y d) (k : Q (.bl (eqO o d)) H) :
    (rEq x y H Q ∨ rOwn C (sp_cmp C r_eq) E0 x y H Q) ∨ (((x = .non ∧ Ins H y C ∧ preN C [y, .non] H) ∨ (y = .non ∧ Ins H x C ∧ preN C [x, .non] H)) ∧ Q (.bl false) H) := by
  cases o with
  | none =>
    cases (show x = .non from hx)
    cases d with
    | none =>
      cases (show y = .non from hy)
      exact .inl (.inl ⟨rfl, k⟩)
    | some e =>
      have hi := IsR.ins hy
      exact .inr ⟨.inl ⟨rfl, hi, y, rfl, hi⟩, k⟩
  | some e =>
    cases d with
    | none =>
      cases (show y = .non from hy)
      have hi := IsR.ins hx
      exact .inr ⟨.inr ⟨rfl, hi, x, rfl, hi⟩, k⟩
    | some f =>
      obtain ⟨t, b, hr, hb, hq, e1, s1, s2⟩ := hx
      obtain ⟨t2, b2, hr2, hb2, hq2, e2, s3, s4⟩ := hy
      refine .inl (.inr ⟨hr.ins, .inr hr2.ins, x, y, t, b, t2, b2, rfl, hr, .inr hr2, sm_of s1 hn, sm_of s2 hn, sm_of s3 hm, sm_of s4 hm, ?_⟩)
      have g := (gapq hb hq e1 hb2 hq2 e2).2
      have : r_eq (t * b2 - t2 * b) = eqO (some e) (some f) := by
        rw [Bool.eq_iff_iff]
        simp only [r_eq, eqO, decide_eq_true_eq]
        exact g
      rw [this]
      exact k
theorem ok_Place___eq__ (T : Txt K mg A D) : FnOk P w K mg base CX0 5 A.f_Place___eq__ D.f_Place___eq__ ["self", "other"] (sp_peq A) := by
  have G_Ratio___eq__ : FnOk P w K mg base CX0 3 A.f_Ratio___eq__ D.f_Ratio___eq__ ["self", "other"] (sp_cmp A.Ratio r_eq) := ok_Ratio___eq__ T
  have NoEq : FnNo P w K mg base CX0 3 A.f_Ratio___eq__ (preN A.Ratio) := no_eq T
  refine T.F_Place___eq__.ok sc_Place___eq__ (fun vs H Q E h => ?_) (fun cdv A' outer s H vs Q E hr h => ?_)
  · obtain ⟨x, y, n, m, lo, hi, lo2, hi2, rfl, _⟩ := h
    rfl
  · obtain ⟨x, y, n, m, lo, hi, lo2, hi2, rfl, hn, hm, ⟨a, dx, u, v, rfl, ha, h1, h2⟩, ⟨a2, dx2, u2, v2, rfl, ha2, h3, h4⟩, q⟩ := h
    refine ⟨_, (pss_one (ps_ret (pe_and (pe_callB call_isi rfl T.z_isinstance (by decide +kernel) (pa_cons (pv 1) (pa_cons (pe_glob (v := .ref A.Place) rfl T.g_Place rfl) pa_nil))) (pe_and (pe_cmpR ((op_eq.or (op_eq_own T.k_Ratio.ow T.m_Ratio___eq__ G_Ratio___eq__ (hr.mono (by decide)) T.b_Ratio___eq__ pass0)).or (op_eq_none T.sn1 T.sn2 T.m_Ratio___eq__ NoEq (hr.mono (by decide)) (fun _ _ _ _ h => h))) (pe_fld (pv 0) rfl) (pe_fld (pv 1) rfl) (nomark _)) (pe_one (pe_cmpR ((op_eq.or (op_eq_own T.k_Ratio.ow T.m_Ratio___eq__ G_Ratio___eq__ (hr.mono (by decide)) T.b_Ratio___eq__ pass0)).or (op_eq_none T.sn1 T.sn2 T.m_Ratio___eq__ NoEq (hr.mono (by decide)) (fun _ _ _ _ h => h))) (pe_fld (pv 0) rfl) (pe_fld (pv 1) rfl) (nomark _))))))), ?_⟩
    refine ⟨_, rfl, .ref a2, .ref A.Place, _, _, true, rfl, .own _, T.k_Place.ty ha2, kit_self, true, rfl, iteT ?_⟩
    refine ⟨_, rfl, a, A.Place, dx, _, _, rfl, ha, T.k_Place.cl, T.n_Place_low, rfl, _, rfl, a2, A.Place, dx2, _, _, rfl, ha2, T.k_Place.cl, T.n_Place_low, rfl, eq_read hn hm h1 h3 ⟨_, rfl, ?_⟩⟩
    generalize eqO lo lo2 = c at q
    cases c with
    | false => exact iteF q
    | true => exact iteT ⟨_, rfl, a, A.Place, dx, _, _, rfl, ha, T.k_Place.cl, T.n_Place_high, rfl, _, rfl, a2, A.Place, dx2, _, _, rfl, ha2, T.k_Place.cl, T.n_Place_high, rfl, eq_read hn hm h2 h4 q⟩
/-- p / q within the place -/
def lowO : End → Int → Int → Bool
  | none, _, _ => true
  | some e, p, q => decide (e.1 * q ≤ p * e.2)
def highO : End → Int → Int → Bool
  | none, _, _ => true
  | some e, p, q => decide (p * e.2 ≤ e.1 * q)
def sp_pin (A : Ad) : Sp := fun vs H Q _ => ∃ x y n lo hi p q, vs = [x, y] ∧ n ≤ 1000 ∧ PlaceAt A n H x lo hi ∧ IsQ A.Ratio n H y p q ∧ Q (.bl (lowO lo p q && highO hi p q)) H
/-- x over y or y over x, by the Ratio's own comparison, straight or mirrored -/
theorem own_or {C : Addr} {H : Hp} {x y : V} {n : Nat} {p q p2 q2 : Int} {r r' : Int → Bool} {Q : VK} (hn : n ≤ 1000) (hx : IsQ C n H x p q) (hy : IsR C n H y p2 q2) (c : Bool) (hc : ∀ d : Int, (d < 0 ↔ p * q2 < p2 * q) → (d = 0 ↔ p * q2 = p2 * q) → r d = c)
    (hm : ∀ d, r' (-d) = r d) (k : Q (.bl c) H) : rOwn C (sp_cmp C r) E0 x y H Q ∨ rOwnR C (sp_cmp C r') E0 x y H Q := by
  obtain ⟨t, b, hr, hb, hq, e1, s1, s2⟩ := hx
  obtain ⟨t2, b2, hr2, hb2, hq2, e2, s3, s4⟩ := hy
  obtain ⟨g1, g2⟩ := gapq hb hq e1 hb2 hq2 e2
  have e := hc _ g1 g2
  rcases hr with ⟨rfl, rfl⟩ | hr
  · refine .inr ⟨⟨_, rfl⟩, hr2.ins, _, _, _, _, _, _, rfl, hr2, .inl ⟨rfl, rfl⟩, sm_of s3 hn, sm_of s4 hn, sm_of s1 hn, sm_of s2 hn, ?_⟩
    rw [show t2 * 1 - t * b2 = -(t * b2 - t2 * 1) by omega, hm, e]
    exact k
  · refine .inl ⟨hr.ins, .inr hr2.ins, _, _, _, _, _, _, rfl, hr, .inr hr2, sm_of s1 hn, sm_of s2 hn, sm_of s3 hn, sm_of s4 hn, ?_⟩
    rw [e]
    exact k
theorem c_le {d X Y : Int} (g1 : d < 0 ↔ X < Y) (g2 : d = 0 ↔ X = Y) : r_le d = decide (X ≤ Y) := by
  rw [Bool.eq_iff_iff]
  simp only [r_le, decide_eq_true_eq]
  omega
theorem c_lt {d X Y : Int} (g1 : d < 0 ↔ X < Y) : r_lt d = decide (X < Y) := by
  rw [Bool.eq_iff_iff]
  simp only [r_lt, decide_eq_true_eq]
  omega
theorem m_le (d : Int) : r_ge (-d) = r_le d := by
  rw [Bool.eq_iff_iff]
  simp only [r_ge, r_le, decide_eq_true_eq]
  omega
theorem m_lt (d : Int) : r_gt (-d) = r_lt d := by
  rw [Bool.eq_iff_iff]
  simp only [r_gt, r_lt, decide_eq_true_eq]
  omega
def tHigh (A : Ad) : TE := fun σ H Q => ∃ a dx u v x n hi p q, n ≤ 1000 ∧ σ[0]? = some (some (.ref a)) ∧ σ[1]? = some (some x) ∧ H a = some (.ins A.Place dx [("low", u), ("high", v)]) ∧ EndAt A.Ratio n H v hi ∧ IsQ A.Ratio n H x p q ∧ Q (.bl (highO hi p q)) H
theorem ok_Place___contains__ (T : Txt K mg A D) : FnOk P w K mg base CX0 5 A.f_Place___contains__ D.f_Place___contains__ ["self", "x"] (sp_pin A) := by
  have G_Ratio___ge__ : FnOk P w K mg base CX0 3 A.f_Ratio___ge__ D.f_Ratio___ge__ ["self", "other"] (sp_cmp A.Ratio r_ge) := ok_Ratio___ge__ T
  have G_Ratio___gt__ : FnOk P w K mg base CX0 3 A.f_Ratio___gt__ D.f_Ratio___gt__ ["self", "other"] (sp_cmp A.Ratio r_gt) := ok_Ratio___gt__ T
  have G_Ratio___le__ : FnOk P w K mg base CX0 3 A.f_Ratio___le__ D.f_Ratio___le__ ["self", "other"] (sp_cmp A.Ratio r_le) := ok_Ratio___le__ T
  have G_Ratio___lt__ : FnOk P w K mg base CX0 3 A.f_Ratio___lt__ D.f_Ratio___lt__ ["self", "other"] (sp_cmp A.Ratio r_lt) := ok_Ratio___lt__ T
  refine T.F_Place___contains__.ok sc_Place___contains__ (fun vs H Q E h => ?_) (fun cdv A' outer s H vs Q E hr h => ?_)
  · obtain ⟨x, y, n, lo, hi, p, q, rfl, _⟩ := h
    rfl
  · obtain ⟨x, y, n, lo, hi, p, q, rfl, hn, ⟨a, dx, u, v, rfl, ha, h1, h2⟩, hy, k⟩ := h
    refine ⟨_, (pss_cons (ps_if (PW.pt (pw_and (pt_cmpR op_notN (pe_fld (pv 0) rfl) pe_non (nomark _)) (pw_and1 (pt_cmpR ((op_lt_own T.k_Ratio.ow T.m_Ratio___lt__ G_Ratio___lt__ (hr.mono (by decide)) T.b_Ratio___lt__ pass0).or (op_lt_int T.k_Ratio.ow T.m_Ratio___gt__ G_Ratio___gt__ (hr.mono (by decide)) T.b_Ratio___gt__ pass0)) (pv 1) (pe_fld (pv 0) rfl) (nomark _))))) (pss_one (ps_ret pe_bl)) pss_nil)
  (pss_one (ps_ret (imp_pE (t' := tHigh A) (pe_or (pe_cmpR op_isN (pe_fld (pv 0) rfl) pe_non (nomark _)) (pe_one (pe_cmpR ((op_le_own T.k_Ratio.ow T.m_Ratio___le__ G_Ratio___le__ (hr.mono (by decide)) T.b_Ratio___le__ pass0).or (op_le_int T.k_Ratio.ow T.m_Ratio___ge__ G_Ratio___ge__ (hr.mono (by decide)) T.b_Ratio___ge__ pass0)) (pv 1) (pe_fld (pv 0) rfl) (nomark _)))) (fun σ H Q hh => by obtain ⟨a, dx, u, v, x, n, hi, p, q, hn, h0, h1, ha, hv, hx, k⟩ := hh; exact ⟨_, h0, a, A.Place, dx, _, _, rfl, ha, T.k_Place.cl, T.n_Place_high, rfl, rfl, _, rfl, match hi, hv, k with | none, hv, k => iteTe (decide_eq_true hv) k | some e, hv, k => iteFe (decide_eq_false (IsQ.ne (IsR.toQ hv))) ⟨x, h1, _, h0, a, A.Place, dx, _, _, rfl, ha, T.k_Place.cl, T.n_Place_high, rfl, own_or hn hx hv (decide (p * e.2 ≤ e.1 * q)) (fun d g1 g2 => c_le g1 g2) m_le k⟩⟩))))), ?_⟩
    refine ⟨_, rfl, a, A.Place, dx, _, _, rfl, ha, T.k_Place.cl, T.n_Place_low, rfl, rfl, _, rfl, ?_⟩
    cases lo with
    | none => exact iteFe (is_non h1) (iteF ⟨a, dx, u, v, y, n, hi, p, q, hn, rfl, rfl, ha, h2, hy, k⟩)
    | some e =>
      refine iteTe (not_non (IsQ.ne (IsR.toQ h1))) ⟨_, rfl, _, rfl, a, A.Place, dx, _, _, rfl, ha, T.k_Place.cl, T.n_Place_low, rfl, own_or hn hy h1 (decide (p * e.2 < e.1 * q)) (fun d g1 g2 => c_lt g1) m_lt ⟨_, rfl, ?_⟩⟩
      refine ite2 (fun c => ?_) (fun c => ?_)
      · have e0 : lowO (some e) p q = false := decide_eq_false (by have := of_decide_eq_true c; omega)
        rw [e0] at k
        exact k
      · have e0 : lowO (some e) p q = true := decide_eq_true (by
          have : ¬ p * e.2 < e.1 * q := fun z => c (decide_eq_true z)
          omega)
        rw [e0] at k
        exact ⟨a, dx, u, v, y, n, hi, p, q, hn, rfl, rfl, ha, h2, hy, k⟩
/-! ### flags, moves, stretches -/
def noneB : End → Bool
  | none => true
  | some _ => false
theorem none_b {C : Addr} {n : Nat} {H : Hp} {x : V} {o : End} (h : EndAt C n H x o) : decide (x = V.non) = noneB o := by
  cases o with
  | none => exact decide_eq_true h
  | some e => exact decide_eq_false (IsQ.ne (IsR.toQ h))
def sp_line (A : Ad) : Sp := fun vs H Q _ => ∃ x n lo hi, vs = [x] ∧ PlaceAt A n H x lo hi ∧ Q (.bl (noneB lo)) H
def sp_segm (A : Ad) : Sp := fun vs H Q _ => ∃ x n lo hi, vs = [x] ∧ PlaceAt A n H x lo hi ∧ Q (.bl (!noneB hi)) H
theorem ok_Place_is_line (T : Txt K mg A D) : FnOk P w K mg base CX0 1 A.f_Place_is_line D.f_Place_is_line ["self"] (sp_line A) := by
  skip
  refine T.F_Place_is_line.ok sc_Place_is_line (fun vs H Q E h => ?_) (fun cdv A' outer s H vs Q E hr h => ?_)
  · obtain ⟨x, n, lo, hi, rfl, _⟩ := h
    rfl
  · obtain ⟨x, n, lo, hi, rfl, ⟨a, dx, u, v, rfl, ha, h1, h2⟩, k⟩ := h
    refine ⟨_, (pss_one (ps_ret (pe_cmpR op_isN (pe_fld (pv 0) rfl) pe_non (nomark _)))), ?_⟩
    refine ⟨_, rfl, a, A.Place, dx, _, _, rfl, ha, T.k_Place.cl, T.n_Place_low, rfl, rfl, ?_⟩
    show Q (.bl (decide (u = V.non))) H
    rw [none_b h1]
    exact k
theorem ok_Place_is_segment (T : Txt K mg A D) : FnOk P w K mg base CX0 1 A.f_Place_is_segment D.f_Place_is_segment ["self"] (sp_segm A) := by
  skip
  refine T.F_Place_is_segment.ok sc_Place_is_segment (fun vs H Q E h => ?_) (fun cdv A' outer s H vs Q E hr h => ?_)
  · obtain ⟨x, n, lo, hi, rfl, _⟩ := h
    rfl
  · obtain ⟨x, n, lo, hi, rfl, ⟨a, dx, u, v, rfl, ha, h1, h2⟩, k⟩ := h
    refine ⟨_, (pss_one (ps_ret (pe_cmpR op_notN (pe_fld (pv 0) rfl) pe_non (nomark _)))), ?_⟩
    refine ⟨_, rfl, a, A.Place, dx, _, _, rfl, ha, T.k_Place.cl, T.n_Place_high, rfl, rfl, ?_⟩
    show Q (.bl (!decide (v = V.non))) H
    rw [none_b h2]
    exact k
/-- an end, changed by f with the number p / q -/
def mapO (f : Int × Int → Int → Int → Int × Int) (p q : Int) : End → End
  | none => none
  | some e => some (f e p q)
abbrev f_mv : Int × Int → Int → Int → Int × Int := fun e p q => (e.1 * q + p * e.2, e.2 * q)
abbrev f_st : Int × Int → Int → Int → Int × Int := fun e p q => (e.1 * p, e.2 * q)
/-- the end in the field x of the place, changed -/
def tPut (A : Ad) (f : Int × Int → Int → Int → Int × Int) (hi? : Bool) : TE := fun σ H Q => ∃ a dx u v y n m lo hi p q, n + m ≤ 999 ∧ σ[0]? = some (some (.ref a)) ∧ σ[1]? = some (some y) ∧ H a = some (.ins A.Place dx [("low", u), ("high", v)]) ∧ EndAt A.Ratio n H u lo ∧ EndAt A.Ratio n H v hi ∧ IsR A.Ratio m H y p q ∧
  ∀ G w, Same H G → EndAt A.Ratio (n + m + 1) G w (mapO f p q (if hi? = true then hi else lo)) → Q w G
theorem fit_of {t b t2 b2 : Int} {n m : Nat} (h : n + m ≤ 999) (s1 : t.natAbs < 2 ^ n) (s2 : b.natAbs < 2 ^ n) (s3 : t2.natAbs < 2 ^ m) (s4 : b2.natAbs < 2 ^ m) (h1 : 0 < b) (h2 : 0 < b2) : Fit t b t2 b2 :=
  ⟨sm_of s1 (by omega), sm_of s2 (by omega), sm_of s3 (by omega), sm_of s4 (by omega), by omega, by omega, sm_of (nmul s2 s4) (by omega)⟩
theorem mv_is {C : Addr} {n m : Nat} {H G : Hp} {v w : V} {e : Int × Int} {t b t2 b2 t' b' p q : Int} (hb : 0 < b) (hq : 0 < e.2) (e1 : t * e.2 = e.1 * b) (s1 : t.natAbs < 2 ^ n) (s2 : b.natAbs < 2 ^ n) (hb2 : 0 < b2) (hq2 : 0 < q) (e2 : t2 * q = p * b2) (s3 : t2.natAbs < 2 ^ m) (s4 : b2.natAbs < 2 ^ m)
    (r : RatAt C G w t' b') (nm : Norm (t * b2 + t2 * b) (b * b2) t' b') : IsR C (n + m + 1) G w (f_mv e p q).1 (f_mv e p q).2 := by
  refine ⟨t', b', r, nm.pos, Int.mul_pos hq hq2, ?_, Nat.lt_of_le_of_lt nm.le1 (nadd (nmul s1 s4) (by rw [Nat.add_comm]; exact nmul s3 s2)), nle (Nat.lt_of_le_of_lt nm.le2 (nmul s2 s4)) (by omega)⟩
  have c := nm.cross
  have z : b * b2 ≠ 0 := by have := Int.mul_pos hb hb2; omega
  refine Int.eq_of_mul_eq_mul_right z ?_
  show t' * (e.2 * q) * (b * b2) = (e.1 * q + p * e.2) * b' * (b * b2)
  have k1 : t' * (e.2 * q) * (b * b2) = (t' * (b * b2)) * (e.2 * q) := by grind
  rw [k1, c]
  grind
theorem st_is {C : Addr} {n m : Nat} {H G : Hp} {v w : V} {e : Int × Int} {t b t2 b2 t' b' p q : Int} (hb : 0 < b) (hq : 0 < e.2) (e1 : t * e.2 = e.1 * b) (s1 : t.natAbs < 2 ^ n) (s2 : b.natAbs < 2 ^ n) (hb2 : 0 < b2) (hq2 : 0 < q) (e2 : t2 * q = p * b2) (s3 : t2.natAbs < 2 ^ m) (s4 : b2.natAbs < 2 ^ m)
    (r : RatAt C G w t' b') (nm : Norm (t * t2) (b * b2) t' b') : IsR C (n + m + 1) G w (f_st e p q).1 (f_st e p q).2 := by
  refine ⟨t', b', r, nm.pos, Int.mul_pos hq hq2, ?_, nle (Nat.lt_of_le_of_lt nm.le1 (nmul s1 s3)) (by omega), nle (Nat.lt_of_le_of_lt nm.le2 (nmul s2 s4)) (by omega)⟩
  have c := nm.cross
  have z : b * b2 ≠ 0 := by have := Int.mul_pos hb hb2; omega
  refine Int.eq_of_mul_eq_mul_right z ?_
  show t' * (e.2 * q) * (b * b2) = (e.1 * p) * b' * (b * b2)
  have k1 : t' * (e.2 * q) * (b * b2) = (t' * (b * b2)) * (e.2 * q) := by grind
  rw [k1, c]
  grind
/-- what a moved or stretched place needs to be one -/
theorem mv_order {lo hi : End} {p q : Int} (h : Order lo hi) (hq : 0 < q) (pos : ∀ e : Int × Int, lo = some e ∨ hi = some e → 0 < e.2) : Order (mapO f_mv p q lo) (mapO f_mv p q hi) := by
  cases hi with
  | none => exact True.intro
  | some e =>
    obtain ⟨d, rfl, lt⟩ := h
    refine ⟨_, rfl, ?_⟩
    have h1 := pos d (.inl rfl)
    have h2 := pos e (.inr rfl)
    show (d.1 * q + p * d.2) * (e.2 * q) < (e.1 * q + p * e.2) * (d.2 * q)
    have k : (e.1 * q + p * e.2) * (d.2 * q) - (d.1 * q + p * d.2) * (e.2 * q) = (e.1 * d.2 - d.1 * e.2) * (q * q) := by grind
    have : 0 < (e.1 * d.2 - d.1 * e.2) * (q * q) := Int.mul_pos (by omega) (Int.mul_pos hq hq)
    omega
theorem st_order {lo hi : End} {p q : Int} (h : Order lo hi) (hp : 0 < p) (hq : 0 < q) (pos : ∀ e : Int × Int, lo = some e ∨ hi = some e → 0 < e.2) : Order (mapO f_st p q lo) (mapO f_st p q hi) := by
  cases hi with
  | none => exact True.intro
  | some e =>
    obtain ⟨d, rfl, lt⟩ := h
    refine ⟨_, rfl, ?_⟩
    show (d.1 * p) * (e.2 * q) < (e.1 * p) * (d.2 * q)
    have k : (e.1 * p) * (d.2 * q) - (d.1 * p) * (e.2 * q) = (e.1 * d.2 - d.1 * e.2) * (p * q) := by grind
    have : 0 < (e.1 * d.2 - d.1 * e.2) * (p * q) := Int.mul_pos (by omega) (Int.mul_pos hp hq)
    omega
/-- the way out with NoNumber("by") -/
def ErrBy (R : Addr) (E : XK) (H : Hp) : Prop := ∀ y, H y = none → E (.ref R) (some y) (upd H y (.xd [("word", .str "by")]))
def sp_moved (K : PySem.W.Frag) (A : Ad) : Sp := fun vs H Q E => ∃ x y, vs = [x, y] ∧ ((∃ n m lo hi p q, n + m ≤ 999 ∧ PlaceAt A n H x lo hi ∧ IsR A.Ratio m H y p q ∧ Order lo hi ∧ ∀ G w, Same H G → PlaceAt A (n + m + 1) G w (mapO f_mv p q lo) (mapO f_mv p q hi) → Q w G) ∨
  (NoNum K A.Ratio H y ∧ ErrBy A.NoNumber E H))
theorem EndAt.pos {C : Addr} {n : Nat} {H : Hp} {x : V} {e : Int × Int} (h : EndAt C n H x (some e)) : 0 < e.2 := by
  obtain ⟨t, b, _, _, h, _⟩ := h
  exact h
theorem same_made {C : Addr} {H G : Hp} {x dx : Addr} (nx : H x = none) (nd : H dx = none) (k : ∀ b o, b ≠ x → upd (upd H dx (.own x)) x (.ins C dx []) b = some o → G b = some o) : Same H G := fun b o h => by
  have hb : b ≠ x := ne_of_none h nx
  refine k _ _ hb ?_
  rw [upd_ne hb, upd_ne (ne_of_none h nd)]
  exact h
/-- the making of a place from two arguments -/
theorem place_make {H : Hp} {E : XK} {x dx : Addr} {u v : V} {lo hi : End} {n : Nat} {R : VK} (hn : n ≤ 1000) (nx : H x = none) (nd : H dx = none) (h1 : ArgAt A.Ratio n H u lo) (h2 : ArgAt A.Ratio n H v hi) (st : v ≠ .non → Styl A.Ratio H u v) (o : Order lo hi) (q : ∀ G, Same H G → PlaceAt A n G (.ref x) lo hi → R .non G) :
    sp_place K A [.ref x, u, v] (upd (upd H dx (.own x)) x (.ins A.Place dx [])) R E := by
  have s0 : Same H (upd (upd H dx (.own x)) x (.ins A.Place dx [])) := same_upd' (same_upd nd) nx
  refine ⟨x, dx, u, v, rfl, upd_same, .inl ⟨lo, hi, n, hn, h1.same s0, h2.same s0, o, fun hv => ?_, fun G u2 v2 k1 a1 e1 e2 => ?_⟩⟩
  · rcases st hv with h | h
    · exact .inl h
    · exact .inr (h.same s0)
  · exact q _ (same_made nx nd k1) ⟨x, dx, u2, v2, rfl, a1, e1, e2⟩
/-- the making of a place from two ends -/
theorem place_made {H : Hp} {E : XK} {x dx : Addr} {u v : V} {lo hi : End} {n : Nat} {R : VK} (hn : n ≤ 1000) (nx : H x = none) (nd : H dx = none) (h1 : EndAt A.Ratio n H u lo) (h2 : EndAt A.Ratio n H v hi) (o : Order lo hi) (q : ∀ G, Same H G → PlaceAt A n G (.ref x) lo hi → R .non G) :
    sp_place K A [.ref x, u, v] (upd (upd H dx (.own x)) x (.ins A.Place dx [])) R E := by
  refine place_make hn nx nd h1.arg h2.arg (fun hv => ?_) o q
  cases hi with
  | none => exact absurd h2 hv
  | some e =>
    obtain ⟨d, rfl, _⟩ := o
    exact .inr (IsR.ins h1)
theorem ok_Place_moved (T : Txt K mg A D) : FnOk P w K mg base (L2.CX P w) 8 A.f_Place_moved D.f_Place_moved ["self", "by"] (sp_moved K A) := by
  have G_NoNumber___init__ : FnOk P w K mg base CX0 1 A.f_NoNumber___init__ D.f_NoNumber___init__ ["self", "word"] (sp_keep K "word") := ok_NoNumber___init__ T
  have G_Place_init : FnOk P w K mg base (L2.CX P w) 6 A.f_Place___init__ D.f_Place___init__ ["self", "low", "high"] (sp_place K A) := ok_Place___init__ T
  have b_Place_init2 := T.b_Place___init__
  have d_Place_init2 : Vals [] [] := .nil
  have G_Ratio___add__ : FnOk P w K mg base CX0 5 A.f_Ratio___add__ D.f_Ratio___add__ ["self", "other"] (sp_bin A.Ratio f_sum) := ok_Ratio___add__ T
  have G_is_number : FnOk P w K mg base CX0 2 A.f_is_number D.f_is_number ["x"] (sp_isnum K A.Ratio) := ok_is_number T
  refine T.F_Place_moved.okX sc_Place_moved (fun vs H Q E h => ?_) (fun cdv A' outer s H vs Q E hr h => ?_)
  · obtain ⟨x, y, rfl, _⟩ := h
    rfl
  · obtain ⟨x, y, rfl, h⟩ := h
    refine ⟨_, (pss_cons (ps_if (pt_not (pt_val (pe_call G_is_number (hr.mono (by decide)) rfl T.g_is_number T.F_is_number.kp T.b_is_number .nil pass0 (pa_cons (pv 1) pa_nil)))) (pss_one (ps_raise rfl (takes_of rfl rfl rfl rfl) (pmk_oex T.o_NoNumber T.i_NoNumber T.ti_NoNumber G_NoNumber___init__ (hr.mono (by decide)) T.b_NoNumber___init__ .nil pass0 rfl T.g_NoNumber (by exact (pa_cons pe_str pa_nil))))) pss_nil)
  (pss_one (ps_ret (pe_make T.M_Place G_Place_init (hr.mono (by decide)) rfl T.g_Place b_Place_init2 d_Place_init2 passE (pa_cons (imp_pE (t' := tPut A f_mv false) (pe_ifExp (pt_cmpR op_isN (pe_fld (pv 0) rfl) pe_non (nomark _)) pe_non (pe_op (op_add_own T.k_Ratio.ow T.m_Ratio___add__ T.m_Ratio___radd__ G_Ratio___add__ (hr.mono (by decide)) T.b_Ratio___add__ pass0) (pe_fld (pv 0) rfl) (pv 1))) (fun σ H Q hh => by obtain ⟨a, dx, u, v, y, n, m, lo, hi, p, q, hn, h0, h1, ha, hu, hv, hy, k⟩ := hh; exact ⟨_, h0, a, A.Place, dx, _, _, rfl, ha, T.k_Place.cl, T.n_Place_low, rfl, rfl, _, rfl, match lo, hu, k with | none, hu, k => iteTe (decide_eq_true hu) (k H .non (Same.refl H) rfl) | some e, hu, k => iteFe (decide_eq_false (IsQ.ne (IsR.toQ hu))) (let ⟨t, b, r1, p1, p2, p3, p4, p5⟩ := hu; let ⟨t2, b2, r2, q1, q2, q3, q4, q5⟩ := hy; ⟨_, h0, a, A.Place, dx, _, _, rfl, ha, T.k_Place.cl, T.n_Place_low, rfl, y, h1, r1.ins, .inr r2.ins, _, _, t, b, t2, b2, rfl, r1, .inr r2, fit_of hn p4 p5 q4 q5 p1 q1, fun G w t' b' s1 r3 nm => k G w s1 (mv_is (H := H) (v := y) p1 p2 p3 p4 p5 q1 q2 q3 q4 q5 r3 nm)⟩)⟩)) (pa_cons (imp_pE (t' := tPut A f_mv true) (pe_ifExp (pt_cmpR op_isN (pe_fld (pv 0) rfl) pe_non (nomark _)) pe_non (pe_op (op_add_own T.k_Ratio.ow T.m_Ratio___add__ T.m_Ratio___radd__ G_Ratio___add__ (hr.mono (by decide)) T.b_Ratio___add__ pass0) (pe_fld (pv 0) rfl) (pv 1))) (fun σ H Q hh => by obtain ⟨a, dx, u, v, y, n, m, lo, hi, p, q, hn, h0, h1, ha, hu, hv, hy, k⟩ := hh; exact ⟨_, h0, a, A.Place, dx, _, _, rfl, ha, T.k_Place.cl, T.n_Place_high, rfl, rfl, _, rfl, match hi, hv, k with | none, hu, k => iteTe (decide_eq_true hu) (k H .non (Same.refl H) rfl) | some e, hu, k => iteFe (decide_eq_false (IsQ.ne (IsR.toQ hu))) (let ⟨t, b, r1, p1, p2, p3, p4, p5⟩ := hu; let ⟨t2, b2, r2, q1, q2, q3, q4, q5⟩ := hy; ⟨_, h0, a, A.Place, dx, _, _, rfl, ha, T.k_Place.cl, T.n_Place_high, rfl, y, h1, r1.ins, .inr r2.ins, _, _, t, b, t2, b2, rfl, r1, .inr r2, fit_of hn p4 p5 q4 q5 p1 q1, fun G w t' b' s1 r3 nm => k G w s1 (mv_is (H := H) (v := y) p1 p2 p3 p4 p5 q1 q2 q3 q4 q5 r3 nm)⟩)⟩)) pa_nil)))))), ?_⟩
    rcases h with ⟨n, m, lo, hi, p, q, hn, ⟨a, dx, u, v, rfl, ha, h1, h2⟩, hy, o, k⟩ | ⟨w, k⟩
    · refine ⟨_, rfl, _, rfl, .inl ⟨.inr hy.ins, true, rfl, iteF ?_⟩⟩
      have hq : 0 < q := by
        obtain ⟨_, _, _, _, h, _⟩ := hy
        exact h
      refine ⟨a, dx, u, v, y, n, m, lo, hi, p, q, hn, rfl, rfl, ha, h1, h2, hy, fun G1 w1 s1 e1 => ⟨a, dx, u, v, y, n, m, lo, hi, p, q, hn, rfl, rfl, s1 _ _ ha, h1.same s1, h2.same s1, hy.same s1, fun G2 w2 s2 e2 => ?_⟩⟩
      exact fun x dx nx nd ne => place_made (by omega) nx nd (e1.same s2) e2 (mv_order o hq fun e he => he.elim (fun z => by subst z; exact h1.pos) (fun z => by subst z; exact h2.pos)) fun G s3 hp => ⟨rfl, k G _ ((s1.trans s2).trans s3) hp⟩
    · exact ⟨_, rfl, _, rfl, .inr ⟨w, false, rfl, iteT (mk_keep T.o_NoNumber T.n_NoNumber_word k)⟩⟩
def sp_stretch (K : PySem.W.Frag) (A : Ad) : Sp := fun vs H Q E => ∃ x y, vs = [x, y] ∧ ((∃ n m lo hi p q, n + m ≤ 999 ∧ PlaceAt A n H x lo hi ∧ IsR A.Ratio m H y p q ∧ 0 < p ∧ Order lo hi ∧ ∀ G w, Same H G → PlaceAt A (n + m + 1) G w (mapO f_st p q lo) (mapO f_st p q hi) → Q w G) ∨
  ((NoNum K A.Ratio H y ∨ ∃ i, y = .int i ∧ i ≤ 0) ∧ ErrBy A.NoNumber E H))
theorem ok_Place_stretched (T : Txt K mg A D) : FnOk P w K mg base (L2.CX P w) 8 A.f_Place_stretched D.f_Place_stretched ["self", "by"] (sp_stretch K A) := by
  have G_NoNumber___init__ : FnOk P w K mg base CX0 1 A.f_NoNumber___init__ D.f_NoNumber___init__ ["self", "word"] (sp_keep K "word") := ok_NoNumber___init__ T
  have G_Place_init : FnOk P w K mg base (L2.CX P w) 6 A.f_Place___init__ D.f_Place___init__ ["self", "low", "high"] (sp_place K A) := ok_Place___init__ T
  have b_Place_init2 := T.b_Place___init__
  have d_Place_init2 : Vals [] [] := .nil
  have G_Ratio___le__ : FnOk P w K mg base CX0 3 A.f_Ratio___le__ D.f_Ratio___le__ ["self", "other"] (sp_cmp A.Ratio r_le) := ok_Ratio___le__ T
  have G_Ratio___mul__ : FnOk P w K mg base CX0 5 A.f_Ratio___mul__ D.f_Ratio___mul__ ["self", "other"] (sp_bin A.Ratio f_pro) := ok_Ratio___mul__ T
  have G_is_number : FnOk P w K mg base CX0 2 A.f_is_number D.f_is_number ["x"] (sp_isnum K A.Ratio) := ok_is_number T
  refine T.F_Place_stretched.okX sc_Place_stretched (fun vs H Q E h => ?_) (fun cdv A' outer s H vs Q E hr h => ?_)
  · obtain ⟨x, y, rfl, _⟩ := h
    rfl
  · obtain ⟨x, y, rfl, h⟩ := h
    refine ⟨_, (pss_cons (ps_if (PW.pt (pw_or (pt_not (pt_val (pe_call G_is_number (hr.mono (by decide)) rfl T.g_is_number T.F_is_number.kp T.b_is_number .nil pass0 (pa_cons (pv 1) pa_nil)))) (pw_or1 (pt_cmpR (op_le.or (op_le_own T.k_Ratio.ow T.m_Ratio___le__ G_Ratio___le__ (hr.mono (by decide)) T.b_Ratio___le__ pass0)) (pv 1) pe_int (nomark _))))) (pss_one (ps_raise rfl (takes_of rfl rfl rfl rfl) (pmk_oex T.o_NoNumber T.i_NoNumber T.ti_NoNumber G_NoNumber___init__ (hr.mono (by decide)) T.b_NoNumber___init__ .nil pass0 rfl T.g_NoNumber (by exact (pa_cons pe_str pa_nil))))) pss_nil)
  (pss_one (ps_ret (pe_make T.M_Place G_Place_init (hr.mono (by decide)) rfl T.g_Place b_Place_init2 d_Place_init2 passE (pa_cons (imp_pE (t' := tPut A f_st false) (pe_ifExp (pt_cmpR op_isN (pe_fld (pv 0) rfl) pe_non (nomark _)) pe_non (pe_op (op_mul_own T.k_Ratio.ow T.m_Ratio___mul__ T.m_Ratio___rmul__ G_Ratio___mul__ (hr.mono (by decide)) T.b_Ratio___mul__ pass0) (pe_fld (pv 0) rfl) (pv 1))) (fun σ H Q hh => by obtain ⟨a, dx, u, v, y, n, m, lo, hi, p, q, hn, h0, h1, ha, hu, hv, hy, k⟩ := hh; exact ⟨_, h0, a, A.Place, dx, _, _, rfl, ha, T.k_Place.cl, T.n_Place_low, rfl, rfl, _, rfl, match lo, hu, k with | none, hu, k => iteTe (decide_eq_true hu) (k H .non (Same.refl H) rfl) | some e, hu, k => iteFe (decide_eq_false (IsQ.ne (IsR.toQ hu))) (let ⟨t, b, r1, p1, p2, p3, p4, p5⟩ := hu; let ⟨t2, b2, r2, q1, q2, q3, q4, q5⟩ := hy; ⟨_, h0, a, A.Place, dx, _, _, rfl, ha, T.k_Place.cl, T.n_Place_low, rfl, y, h1, r1.ins, .inr r2.ins, _, _, t, b, t2, b2, rfl, r1, .inr r2, fit_of hn p4 p5 q4 q5 p1 q1, fun G w t' b' s1 r3 nm => k G w s1 (st_is (H := H) (v := y) p1 p2 p3 p4 p5 q1 q2 q3 q4 q5 r3 nm)⟩)⟩)) (pa_cons (imp_pE (t' := tPut A f_st true) (pe_ifExp (pt_cmpR op_isN (pe_fld (pv 0) rfl) pe_non (nomark _)) pe_non (pe_op (op_mul_own T.k_Ratio.ow T.m_Ratio___mul__ T.m_Ratio___rmul__ G_Ratio___mul__ (hr.mono (by decide)) T.b_Ratio___mul__ pass0) (pe_fld (pv 0) rfl) (pv 1))) (fun σ H Q hh => by obtain ⟨a, dx, u, v, y, n, m, lo, hi, p, q, hn, h0, h1, ha, hu, hv, hy, k⟩ := hh; exact ⟨_, h0, a, A.Place, dx, _, _, rfl, ha, T.k_Place.cl, T.n_Place_high, rfl, rfl, _, rfl, match hi, hv, k with | none, hu, k => iteTe (decide_eq_true hu) (k H .non (Same.refl H) rfl) | some e, hu, k => iteFe (decide_eq_false (IsQ.ne (IsR.toQ hu))) (let ⟨t, b, r1, p1, p2, p3, p4, p5⟩ := hu; let ⟨t2, b2, r2, q1, q2, q3, q4, q5⟩ := hy; ⟨_, h0, a, A.Place, dx, _, _, rfl, ha, T.k_Place.cl, T.n_Place_high, rfl, y, h1, r1.ins, .inr r2.ins, _, _, t, b, t2, b2, rfl, r1, .inr r2, fit_of hn p4 p5 q4 q5 p1 q1, fun G w t' b' s1 r3 nm => k G w s1 (st_is (H := H) (v := y) p1 p2 p3 p4 p5 q1 q2 q3 q4 q5 r3 nm)⟩)⟩)) pa_nil)))))), ?_⟩
    rcases h with ⟨n, m, lo, hi, p, q, hn, ⟨a, dx, u, v, rfl, ha, h1, h2⟩, hy, hp, o, k⟩ | ⟨w | ⟨i, rfl, hi⟩, k⟩
    · refine ⟨_, rfl, _, rfl, .inl ⟨.inr hy.ins, true, rfl, iteF ?_⟩⟩
      obtain ⟨t, b, r, hb, hq, e0, s1, s2⟩ := id hy
      have ht : 0 < t := by
        have : 0 < t * q := by rw [e0]; exact Int.mul_pos hp hb
        exact Int.pos_of_mul_pos_left this hq
      have rl : r_le (t * 1 - 0 * b) = false := decide_eq_false (by omega)
      refine ⟨_, rfl, .inr ⟨r.ins, .inl ⟨0, rfl⟩, y, .int 0, t, b, 0, 1, rfl, r, .inl ⟨rfl, rfl⟩, sm_of s1 (by omega), sm_of s2 (by omega), .ab (by decide) (by decide), so, _, rfl, iteFe rl ?_⟩⟩
      refine ⟨a, dx, u, v, y, n, m, lo, hi, p, q, hn, rfl, rfl, ha, h1, h2, hy, fun G1 w1 s1 e1 => ⟨a, dx, u, v, y, n, m, lo, hi, p, q, hn, rfl, rfl, s1 _ _ ha, h1.same s1, h2.same s1, hy.same s1, fun G2 w2 s2 e2 => ?_⟩⟩
      exact fun x dx nx nd ne => place_made (by omega) nx nd (e1.same s2) e2 (st_order o hp hq fun e he => he.elim (fun z => by subst z; exact h1.pos) (fun z => by subst z; exact h2.pos)) fun G s3 hp => ⟨rfl, k G _ ((s1.trans s2).trans s3) hp⟩
    · exact ⟨_, rfl, _, rfl, .inr ⟨w, false, rfl, iteT (iteT (mk_keep T.o_NoNumber T.n_NoNumber_word k))⟩⟩
    · refine ⟨_, rfl, _, rfl, .inl ⟨.inl ⟨i, rfl⟩, true, rfl, iteF ?_⟩⟩
      exact ⟨_, rfl, .inl ⟨i, 0, rfl, rfl, _, rfl, iteTe (decide_eq_true hi) (mk_keep T.o_NoNumber T.n_NoNumber_word k)⟩⟩

end

end Mo

namespace Mo
open PySem PySem.Spec PyProof.Rows L2 MoL MoW
open C8 (pss_cut tCut)
section
variable {P : Program} {w : World} {K : PySem.W.Frag} {mg : Str → Option Value} {base : Heap} {A : Ad} {D : Fd}
/-! ### the law's drawing of numbers -/
/-- the six places of the feed at f -/
abbrev six (l : Addr) (i r t n s : Int) : HO := .lst [.ref l, .int i, .int r, .int t, .int n, .int s]
def FeedAt (H : Hp) (f : Addr) : Prop := ∃ (l : Addr) (xs : List Int) (i : Nat) (r t n s : Int), H f = some (six l i r t n s) ∧ H l = some (.lst (xs.map V.int)) ∧ i ≤ xs.length ∧ xs.length ≤ 63 ∧ 0 ≤ r
/-- from H to H' only the feed has moved on, and new things have come -/
structure Stp (f : Addr) (H H' : Hp) : Prop where
  feed : FeedAt H' f
  keep : ∀ b o, b ≠ f → H b = some o → H' b = some o
theorem FeedAt.same {H H' : Hp} {f : Addr} (h : FeedAt H f) (s : Same H H') : FeedAt H' f := by
  obtain ⟨l, xs, i, r, t, n, z, h1, h2, h3⟩ := h
  exact ⟨l, xs, i, r, t, n, z, s _ _ h1, s _ _ h2, h3⟩
theorem Stp.refl {H : Hp} {f : Addr} (h : FeedAt H f) : Stp f H H := ⟨h, fun _ _ _ e => e⟩
theorem Stp.trans {H H1 H2 : Hp} {f : Addr} (a : Stp f H H1) (b : Stp f H1 H2) : Stp f H H2 := ⟨b.feed, fun c o n e => b.keep c o n (a.keep c o n e)⟩
theorem Stp.of {H H1 H2 : Hp} {f : Addr} (a : Stp f H H1) (b : Same H1 H2) : Stp f H H2 := ⟨a.feed.same b, fun c o n e => b c o (a.keep c o n e)⟩
theorem FeedAt.ne {H : Hp} {f p : Addr} {o : HO} (h : FeedAt H f) (hp : H p = some o) (d : ∀ l i r t n s, six l i r t n s ≠ o) : p ≠ f := by
  obtain ⟨l, xs, i, r, t, n, z, h1, _⟩ := h
  exact ne_of hp h1 fun e => d _ _ _ _ _ _ e.symm
theorem FeedAt.lt {H : Hp} {f p : Addr} (h : FeedAt H f) (hp : H p = none) : f ≠ p := by
  obtain ⟨l, xs, i, r, t, n, z, h1, _⟩ := h
  exact ne_of_none h1 hp

def sp_feed (K : PySem.W.Frag) : Sp := fun vs H Q _ => ∃ (a : Addr) (ns : List Int), vs = [.ref a] ∧ SqL K H a (ns.map V.int) ∧ ns.length ≤ 63 ∧ ∀ H' f, Same H H' → FeedAt H' f → H f = none → Q (.ref f) H'
theorem ok__law_feed (T : Txt K mg A D) : FnOk P w K mg base CX0 1 A.f__law_feed D.f__law_feed ["_law_script"] (sp_feed K) := by
  skip
  refine T.F__law_feed.ok sc__law_feed (fun vs H Q E h => ?_) (fun cdv A' outer s H vs Q E hr h => ?_)
  · obtain ⟨a, ns, rfl, _⟩ := h
    rfl
  · obtain ⟨a, ns, rfl, hS, hl, q⟩ := h
    refine ⟨_, (pss_one (ps_ret (pe_lst (pa_cons (pe_lc (own := [("_law_cell", 1)]) (g := gName 1) (tt := tYes) rfl sc__law_feed.nd (pi_list (pe_slice sl_list (pv 0) po_none (po_some pe_int))) (blkOk_by (N := N__law_feed) (sc := defScope s__law_feed) (by decide +kernel)) (fun _ _ _ _ _ => (pg_name (i := 1) sc__law_feed.nd rfl (.inl rfl))) (fun _ _ _ _ _ => pts_nil) (fun _ _ _ _ _ => (pe_callB call_abs rfl T.z_abs (by decide +kernel) (pa_cons (pe_callTy call_int1 rfl T.z_int (by decide +kernel) (pa_cons (pv 1) pa_nil)) pa_nil)))) (pa_cons pe_int (pa_cons pe_int (pa_cons pe_int (pa_cons pe_int (pa_cons pe_int pa_nil))))))))), ?_⟩
    refine ⟨_, rfl, 63, rfl, a, _, rfl, hS, fun p np => ?_⟩
    have s1 : Same H (upd H p (.lst (cutV (ns.map V.int) none (some 63)))) := same_upd np
    obtain ⟨zs, hz, hzl⟩ : ∃ zs : List Int, cutV (ns.map V.int) none (some 63) = zs.map V.int ∧ zs.length ≤ 63 := by
      refine ⟨(ns.drop (HT.sIx (ns.map V.int).length 0 none)).take (HT.sIx (ns.map V.int).length (ns.map V.int).length (some 63) - HT.sIx (ns.map V.int).length 0 none), ?_, ?_⟩
      · unfold cutV
        rw [List.map_take, List.map_drop]
      · rw [List.length_take, List.length_drop]
        omega
    rw [hz] at s1 ⊢
    refine ⟨p, rfl, ⟨_, .of upd_same⟩, fun d nd => ?_⟩
    have npd : p ≠ d := fun e => by rw [e, upd_same] at nd; cases nd
    refine lc_list (K := K) (a := p) (xs := zs.map V.int) (fun i H' => Same H H' ∧ H' p = some (.lst (zs.map V.int)) ∧ ∃ ys : List Int, ys.length = i ∧ H' d = some (.lst (ys.map V.int)))
      ⟨s1.trans (same_upd nd), by rw [upd_ne npd, upd_same], [], rfl, upd_same⟩ (fun i H' _ h => .of h.2.1) ?_ ?_
    · rintro i x H' hx ⟨sm, hp, ys, hy, hd⟩
      obtain ⟨z, hz', rfl⟩ : ∃ z, zs[i]? = some z ∧ x = .int z := by
        rw [List.getElem?_map] at hx
        cases e : zs[i]? with
        | none => rw [e] at hx; cases hx
        | some z => rw [e] at hx; exact ⟨z, rfl, (Option.some.inj hx).symm⟩
      have il : i < zs.length := (List.getElem?_eq_some_iff.mp hz').1
      refine ⟨rfl, ?_⟩
      refine ⟨_, rfl, .inl ⟨z, rfl, z, rfl, _, hd, ?_, ⟨fun b o e => ?_, ?_, ys ++ [if z < 0 then -z else z], ?_, ?_⟩⟩⟩
      · rw [List.length_map, hy]
        exact small1000 (by omega)
      · have nb : b ≠ d := fun e' => by
          subst e'
          rw [s1.free nd] at e
          cases e
        rw [upd_ne nb]
        exact sm _ _ e
      · rw [upd_ne npd]
        exact hp
      · rw [List.length_append, hy]
        rfl
      · rw [upd_same, List.map_append]
        rfl
    · rintro H' ⟨sm, hp, ys, hy, hd⟩
      rw [List.length_map] at hy
      refine ⟨by show 6 ≤ sizeLine; decide, fun f nf => ?_⟩
      have nfd : d ≠ f := ne_of_none hd nf
      refine q _ f (sm.trans (same_upd nf)) ⟨d, ys, 0, 0, 0, 0, 0, upd_same, by rw [upd_ne nfd]; exact hd, Nat.zero_le _, by omega, Int.le_refl _⟩ (sm.free nf)

/-- the feed at f with these five, the rest as in H -/
structure Now (H H' : Hp) (f l : Addr) (i r t n s : Int) : Prop where
  at_ : H' f = some (six l i r t n s)
  oth : ∀ b, b ≠ f → H' b = H b
theorem Now.put {H H' : Hp} {f l : Addr} {i r t n s i' r' t' n' s' : Int} (h : Now H H' f l i r t n s) : Now H (upd H' f (six l i' r' t' n' s')) f l i' r' t' n' s' :=
  ⟨upd_same, fun b hb => by rw [upd_ne hb]; exact h.oth b hb⟩
theorem fdiv_nn {a b : Int} (h : 0 ≤ a) (h' : 0 < b) : 0 ≤ a.fdiv b := by
  rw [Int.fdiv_eq_ediv_of_nonneg a (by omega)]
  exact Int.ediv_nonneg h (by omega)
theorem lt_mod : (0 : Int) < 2147483647 := by decide
theorem lt_mod' : (0 : Int) < 2147483399 := by decide
def sp_take : Sp := fun vs H Q _ => ∃ (f : Addr) (z : Int), vs = [.ref f, .int z] ∧ FeedAt H f ∧ 0 < z ∧ Sm z ∧ ∀ H' v, 0 ≤ v → v < z → Stp f H H' → Q (.int v) H'
theorem ok__law_take (T : Txt K mg A D) : FnOk P w K mg base CX0 1 A.f__law_take D.f__law_take ["_law_feed_here", "_law_size"] (sp_take) := by
  skip
  refine T.F__law_take.ok sc__law_take (fun vs H Q E h => ?_) (fun cdv A' outer s H vs Q E hr h => ?_)
  · obtain ⟨f, z, rfl, _⟩ := h
    rfl
  · obtain ⟨f, z, rfl, ⟨l, xs, i, r, t, n, c, hf, hl, hi, hx, hr0⟩, hz, sz, q⟩ := h
    refine ⟨_, (pss_cons (ps_augS (pv 0) pe_int get_list pe_int ip_add set_list)
  (pss_cut (ps_if (PW.pt (pw_and (pt_cmpR op_eq (pe_ix ix_list (pv 0) pe_int (fun _ _ => rfl)) pe_int (nomark _)) (pw_and (pt_cmpR op_eq (pe_ix ix_list (pv 0) pe_int (fun _ _ => rfl)) pe_int (nomark _)) (pw_and1 (pt_cmpR op_lt (pe_ix ix_list (pv 0) pe_int (fun _ _ => rfl)) (pe_callB call_len_seq rfl T.z_len (by decide +kernel) (pa_cons (pe_ix ix_list (pv 0) pe_int (fun _ _ => rfl)) pa_nil)) (nomark _)))))) (pss_cons (ps_set (i := 2) sc__law_take.nd rfl (.inl rfl) (pe_ix ix_list (pe_ix ix_list (pv 0) pe_int (fun _ _ => rfl)) (pe_ix ix_list (pv 0) pe_int (fun _ _ => rfl)) (fun _ _ => rfl)))
  (pss_cons (ps_augS (pv 0) pe_int get_list pe_int ip_add set_list)
  (pss_one (ps_if (pt_cmpR op_ge (pv 2) (pe_op op_pow pe_int pe_int) (nomark _)) (pss_one (ps_asg (pv 2) (pg_sub (pv 0) pe_int set_list))) (pss_cons (ps_asg pe_int (pg_sub (pv 0) pe_int set_list))
  (pss_one (ps_asg (pe_op op_add (pe_ix ix_list (pv 0) pe_int (fun _ _ => rfl)) (pv 2)) (pg_sub (pv 0) pe_int set_list)))))))) pss_nil)
  (pss_cons (ps_if (pt_cmpR op_gt (pe_ix ix_list (pv 0) pe_int (fun _ _ => rfl)) pe_int (nomark _)) (pss_cons (ps_set (i := 3) sc__law_take.nd rfl (.inl rfl) (pe_op op_mod (pe_callTy call_int1 rfl T.z_int (by decide +kernel) (pa_cons (pe_ix ix_list (pv 0) pe_int (fun _ _ => rfl)) pa_nil)) (pv 1)))
  (pss_cons (ps_asg (pe_op op_fdivA (pe_ix ix_list (pv 0) pe_int (fun _ _ => rfl)) (pv 1)) (pg_sub (pv 0) pe_int set_list))
  (pss_one (ps_ret (pv 3))))) pss_nil)
  (pss_cons (ps_asg (pe_callB (call_max2 rfl) rfl T.z_max (by decide +kernel) (pa_cons pe_int (pa_cons (pe_op op_sub (pe_ix ix_list (pv 0) pe_int (fun _ _ => rfl)) pe_int) pa_nil))) (pg_sub (pv 0) pe_int set_list))
  (pss_cons (ps_set (i := 4) sc__law_take.nd rfl (.inl rfl) (pe_op op_mod (pe_callTy call_int1 rfl T.z_int (by decide +kernel) (pa_cons (pe_op op_mul (pe_op op_add (pe_op op_add (pe_ix ix_list (pv 0) pe_int (fun _ _ => rfl)) (pe_op op_mul pe_int (pe_ix ix_list (pv 0) pe_int (fun _ _ => rfl)))) pe_int) pe_int) pa_nil)) pe_int))
  (pss_cons (ps_set (i := 4) sc__law_take.nd rfl (.inl rfl) (pe_op op_mod (pe_callTy call_int1 rfl T.z_int (by decide +kernel) (pa_cons (pe_op op_mul (pv 4) (pe_op op_add (pe_op op_fdivA (pv 4) pe_int) pe_int)) pa_nil)) pe_int))
  (pss_cons (ps_set (i := 4) sc__law_take.nd rfl (.inl rfl) (pe_op op_mod (pe_callTy call_int1 rfl T.z_int (by decide +kernel) (pa_cons (pe_op op_mul (pv 4) (pe_op op_add (pe_op op_fdivA (pv 4) pe_int) pe_int)) pa_nil)) pe_int))
  (pss_one (ps_ret (pe_op op_mod (pv 4) (pv 1))))))))))), ?_⟩
    have N0 : Now H H f l i r t n c := ⟨hf, fun _ _ => rfl⟩
    have lf : l ≠ f := ne_of hl hf fun e => by
      have := HO.lst.inj e
      cases xs with
      | nil => cases this
      | cons x xs => cases this
    have fin : ∀ {H' i' r' t' n' c'} (v : Int), Now H H' f l ((i' : Nat) : Int) r' t' n' c' → i' ≤ xs.length → 0 ≤ r' → 0 ≤ v → v < z → Q (.int v) H' := fun v N h1 h2 h3 h4 =>
      q _ v h3 h4 ⟨⟨l, xs, _, _, _, _, _, N.at_, by rw [N.oth l lf]; exact hl, h1, hx, h2⟩, fun b o hb e => by rw [N.oth b hb]; exact e⟩
    -- feed[4] += 1
    refine ⟨_, rfl, f, _, 4, _, rfl, rfl, .of hf, rfl, n, 1, rfl, rfl, f, _, 4, 4, rfl, rfl, hf, rfl, ?_⟩
    have N1 : Now H (upd H f (six l i r t (n + 1) c)) f l i r t (n + 1) c := N0.put
    show tCut _ _ _ _ (upd H f (six l i r t (n + 1) c))
    generalize upd H f (six l i r t (n + 1) c) = H1 at N1
    -- the reading of a new cell
    refine ⟨fun σ H' => (∃ y, σ = [some (.ref f), some (.int z), y, none, none]) ∧ ∃ i' r' t' n' c', Now H H' f l ((i' : Nat) : Int) r' t' n' c' ∧ i' ≤ xs.length ∧ 0 ≤ r', ?_, ?_⟩
    · have skip : ∀ σ : L2.St, σ = [some (.ref f), some (.int z), none, none, none] → (∃ y, σ = [some (.ref f), some (.int z), y, none, none]) ∧ ∃ i' r' t' n' c', Now H H1 f l ((i' : Nat) : Int) r' t' n' c' ∧ i' ≤ xs.length ∧ 0 ≤ r' :=
        fun σ e => ⟨⟨_, e⟩, _, _, _, _, _, N1, hi, hr0⟩
      refine ⟨_, rfl, f, _, 2, _, rfl, rfl, .of N1.at_, rfl, rfl, _, rfl, ?_⟩
      refine ite2 (fun _ => ?_) (fun _ => iteF (skip _ rfl))
      refine ⟨_, rfl, f, _, 3, _, rfl, rfl, .of N1.at_, rfl, rfl, _, rfl, ?_⟩
      refine ite2 (fun _ => ?_) (fun _ => iteF (skip _ rfl))
      have hl1 : H1 l = some (.lst (xs.map V.int)) := by rw [N1.oth l lf]; exact hl
      refine ⟨_, rfl, f, _, 1, _, rfl, rfl, .of N1.at_, rfl, _, rfl, f, _, 0, _, rfl, rfl, .of N1.at_, rfl, l, _, rfl, .inl (.of hl1), _, _, rfl, rfl, _, rfl, ?_⟩
      refine ite2 (fun hlt => ?_) (fun _ => skip _ rfl)
      have hlt' : i < xs.length := by
        have := of_decide_eq_true hlt
        rw [List.length_map] at this
        omega
      have gi : (xs.map V.int)[i]? = some (.int xs[i]) := by
        rw [List.getElem?_map, List.getElem?_eq_getElem hlt']
        rfl
      refine ⟨_, rfl, f, _, 0, _, rfl, rfl, .of N1.at_, rfl, _, rfl, f, _, 1, _, rfl, rfl, .of N1.at_, rfl, l, _, i, _, rfl, rfl, .of hl1, atI_nat gi, ?_⟩
      refine ⟨_, rfl, f, _, 1, _, rfl, rfl, .of N1.at_, rfl, i, 1, rfl, rfl, f, _, 1, 1, rfl, rfl, N1.at_, rfl, ?_⟩
      have ei : ((i : Int) + 1) = ((i + 1 : Nat) : Int) := by omega
      have N2 : Now H (upd H1 f (six l ((i : Int) + 1) r t (n + 1) c)) f l ((i : Int) + 1) r t (n + 1) c := N1.put
      refine ⟨_, rfl, _, _, rfl, rfl, ⟨by decide, by decide, by decide⟩, _, _, rfl, rfl, _, rfl, ?_⟩
      refine ite2 (fun hbig => ?_) (fun hbig => ?_)
      · have hb : 0 ≤ xs[i] := by
          have := of_decide_eq_true hbig
          have e : (10 : Int) ^ (18 : Int).toNat = 1000000000000000000 := by decide
          rw [e] at this
          omega
        refine ⟨_, rfl, _, rfl, f, _, 2, 2, rfl, rfl, N2.at_, rfl, ⟨_, rfl⟩, ?_⟩
        exact ⟨i + 1, _, _, _, _, ei ▸ N2.put, hlt', hb⟩
      · refine ⟨_, rfl, f, _, 3, 3, rfl, rfl, N2.at_, rfl, ?_⟩
        have N3 : Now H (upd (upd H1 f (six l ((i : Int) + 1) r t (n + 1) c)) f (six l ((i : Int) + 1) r 7 (n + 1) c)) f l ((i : Int) + 1) r 7 (n + 1) c := N2.put
        refine ⟨_, rfl, f, _, 5, _, rfl, rfl, .of N3.at_, rfl, _, rfl, _, _, rfl, rfl, _, rfl, f, _, 5, 5, rfl, rfl, N3.at_, rfl, ⟨_, rfl⟩, ?_⟩
        exact ⟨i + 1, _, _, _, _, ei ▸ N3.put, hlt', hr0⟩
    -- a digit
    · rintro σ H2 ⟨⟨y, rfl⟩, i', r', t', n', c', N2, hi', hr'⟩
      refine ⟨_, rfl, f, _, 2, _, rfl, rfl, .of N2.at_, rfl, _, _, rfl, rfl, _, rfl, ?_⟩
      refine ite2 (fun _ => ?_) (fun _ => ?_)
      · refine ⟨_, rfl, f, _, 2, _, rfl, rfl, .of N2.at_, rfl, .inl ⟨_, rfl, _, rfl, _, _, rfl, rfl, hz, ?_⟩⟩
        refine ⟨_, rfl, f, _, 2, _, rfl, rfl, .of N2.at_, rfl, _, rfl, _, _, rfl, rfl, sz.div (by omega), _, rfl, f, _, 2, 2, rfl, rfl, N2.at_, rfl, ?_⟩
        exact ⟨_, rfl, fin _ N2.put hi' (fdiv_nn hr' hz) (Int.emod_nonneg _ (by omega)) (Int.emod_lt_of_pos _ hz)⟩
      · refine ⟨_, rfl, f, _, 3, _, rfl, rfl, .of N2.at_, rfl, _, _, rfl, rfl, _, _, rfl, _, rfl, f, _, 3, 3, rfl, rfl, N2.at_, rfl, ?_⟩
        have N3 : ∀ t'', Now H (upd H2 f (six l ((i' : Nat) : Int) r' t'' n' c')) f l ((i' : Nat) : Int) r' t'' n' c' := fun _ => N2.put
        show tSeq _ _ _ _ (upd H2 f (six l ((i' : Nat) : Int) r' _ n' c'))
        generalize hT : (if t' - 1 > 0 then t' - 1 else (0 : Int)) = t3
        have N3 := N3 t3
        generalize upd H2 f (six l ((i' : Nat) : Int) r' t3 n' c') = H3 at N3
        refine ⟨_, rfl, f, _, 5, _, rfl, rfl, .of N3.at_, rfl, _, rfl, f, _, 4, _, rfl, rfl, .of N3.at_, rfl, _, _, rfl, rfl, .inl ⟨by decide, by decide⟩, _, _, rfl, rfl, _, _, rfl, rfl, _, _, rfl, rfl, .inr ⟨by decide, by decide⟩, .inl ⟨_, rfl, _, _, rfl, rfl, lt_mod, ?_⟩⟩
        have b1 : ∀ x : Int, 0 ≤ x % 2147483647 ∧ x % 2147483647 < 2147483647 := fun x => ⟨Int.emod_nonneg _ (by decide), Int.emod_lt_of_pos _ (by decide)⟩
        generalize hA : ((c' + 7919 * n' + 1) * 48271) % 2147483647 = a1
        have a1b := b1 ((c' + 7919 * n' + 1) * 48271)
        rw [hA] at a1b
        refine ⟨_, rfl, _, rfl, _, _, rfl, rfl, ⟨by decide, by decide⟩, _, _, rfl, rfl, _, _, rfl, rfl, .inl ⟨by omega, by omega⟩, .inl ⟨_, rfl, _, _, rfl, rfl, lt_mod, ?_⟩⟩
        generalize hB : (a1 * (a1.fdiv 1009 + 69621)) % 2147483647 = a2
        have a2b := b1 (a1 * (a1.fdiv 1009 + 69621))
        rw [hB] at a2b
        refine ⟨_, rfl, _, rfl, _, _, rfl, rfl, ⟨by decide, by decide⟩, _, _, rfl, rfl, _, _, rfl, rfl, .inl ⟨by omega, by omega⟩, .inl ⟨_, rfl, _, _, rfl, rfl, lt_mod', ?_⟩⟩
        exact ⟨_, rfl, _, rfl, _, _, rfl, rfl, hz, fin _ N3 hi' hr' (Int.emod_nonneg _ (by omega)) (Int.emod_lt_of_pos _ hz)⟩
def sp_number : Sp := fun vs H Q _ => ∃ (f : Addr) (z : Int), vs = [.ref f, .int z] ∧ FeedAt H f ∧ 0 < z ∧ Sm z ∧ ∀ H' v, -z < v → v < z → Stp f H H' → Q (.int v) H'
theorem ok__law_number (T : Txt K mg A D) : FnOk P w K mg base CX0 2 A.f__law_number D.f__law_number ["_law_feed_here", "_law_size"] (sp_number) := by
  have G__law_take : FnOk P w K mg base CX0 1 A.f__law_take D.f__law_take ["_law_feed_here", "_law_size"] (sp_take) := ok__law_take T
  refine T.F__law_number.ok sc__law_number (fun vs H Q E h => ?_) (fun cdv A' outer s H vs Q E hr h => ?_)
  · obtain ⟨f, z, rfl, _⟩ := h
    rfl
  · obtain ⟨f, z, rfl, hf, hz, sz, q⟩ := h
    refine ⟨_, (pss_cons (ps_set (i := 2) sc__law_number.nd rfl (.inl rfl) (pe_op op_sub pe_int (pe_op op_mul pe_int (pe_call G__law_take (hr.mono (by decide)) rfl T.g__law_take T.F__law_take.kp T.b__law_take .nil pass0 (pa_cons (pv 0) (pa_cons pe_int pa_nil))))))
  (pss_one (ps_ret (pe_op op_mul (pv 2) (pe_call G__law_take (hr.mono (by decide)) rfl T.g__law_take T.F__law_take.kp T.b__law_take .nil pass0 (pa_cons (pv 0) (pa_cons (pv 1) pa_nil))))))), ?_⟩
    refine ⟨_, rfl, f, 2, rfl, hf, by decide, .ab (by decide) (by decide), fun H1 v v0 v1 st => ⟨_, _, rfl, rfl, .inl ⟨by decide, by decide⟩, _, _, rfl, rfl, ?_⟩⟩
    refine ⟨_, rfl, _, rfl, _, rfl, f, z, rfl, st.feed, hz, sz, fun H2 u u0 u1 st2 => ⟨_, _, rfl, rfl, .inl ⟨by omega, by omega⟩, q _ _ ?_ ?_ (st.trans st2)⟩⟩
    · rcases (by omega : v = 0 ∨ v = 1) with e | e <;> subst e <;> omega
    · rcases (by omega : v = 0 ∨ v = 1) with e | e <;> subst e <;> omega

end

section
/-! ### the def that runs a deed and tells the word of its error -/
theorem word_gives {X : Cx} {R g : Addr} {cdg : Value} {q : Str} (gN : X.mg "NoNumber" = some (.ref R)) (em : PySem.W.exmOne X.K (.ref R) (.ref R) = some true) (xf : XfC X.K R) (nw : PySem.W.findIn X.K (.ref R) "word" = some none) :
    LamX.GivesTo X N__law_word "_law_word" (defScope s__law_word) g cdg (defBody s__law_word) "_law_deed" q (TTw R) := by
  intro f c' s H Q tl act hc h
  refine ⟨_, pss_cons (ps_set (i := 1) sc__law_word.nd rfl (.inl rfl) pe_str) (pss_cons (ps_try_as (i := 2) (c := .ref R) (Wout := fun _ _ _ _ => False)
    (tb := fun W D σ H => ∃ Ech : XK, (∀ cls d σ' H', Ech cls d H' → σ'.length = N__law_word.length → W cls d σ' H') ∧ σ[0]? = some (some (.ref f)) ∧ H c' = some (LamX.CodeO c' q) ∧ tl Ech H (fun _ H' => D.nx σ H'))
    rfl rfl sc__law_word.nd rfl rfl ⟨rfl, by decide, .inl gN⟩ takes0 (fun W pn xe tk _ => ?_) (fun oa oe cls d pn hz hf => pss_one (ps_set (i := 1) sc__law_word.nd rfl (.inl rfl) (pe_xf xf nw hz hf (pv 2))))) (pss_one (ps_ret (pv 1)))), ?_⟩
  · refine ⟨fun pins s' σ H' D I h' => ?_⟩
    obtain ⟨Ech, hW, h1, h2, h3⟩ := h'
    exact (pss_one (ps_expr (act _ pn xe Ech _ _ (takes_len tk) (fun cls d σ' H' e => hW cls d σ' H' e)))).run pins s' σ H' D I ⟨h1, h2, h3⟩
  · refine ⟨fun cls d G => cls = .ref R ∧ ∃ y s, d = some y ∧ G y = some (.xd [("word", .str s)]) ∧ Q (.str s) G, ?_, rfl, hc, h⟩
    rintro cls d σ' G ⟨rfl, y, z, rfl, hy, hQ⟩ hl
    refine ⟨true, em, fun _ a ha => ?_, fun z => Bool.noConfusion z⟩
    obtain ⟨x0, x1, x2, rfl⟩ : ∃ x0 x1 x2, σ' = [x0, x1, x2] := by
      match σ', hl with
      | [x0, x1, x2], _ => exact ⟨x0, x1, x2, rfl⟩
    exact ⟨_, rfl, rfl, rfl, y, _, _, rfl, hy, rfl, _, rfl, hQ⟩
end

section
variable {P : Program} {w : World} {K : PySem.W.Frag} {mg : Str → Option Value} {base : Heap} {A : Ad} {D : Fd}
theorem ok__law_is_integer (T : Txt K mg A D) : FnOk P w K mg base CX0 1 A.f__law_is_integer D.f__law_is_integer ["_law_value"] (sp_is_whole K) := by
  skip
  refine T.F__law_is_integer.ok sc__law_is_integer (fun vs H Q E h => ?_) (fun cdv A' outer s H vs Q E hr h => ?_)
  · obtain ⟨x, b, rfl, _⟩ := h
    rfl
  · obtain ⟨x, b, rfl, ⟨t, b1, b2, ty, e1, e2, rfl⟩, q⟩ := h
    refine ⟨_, (pss_one (ps_ret (pe_and (pe_callB call_isi rfl T.z_isinstance (by decide +kernel) (pa_cons (pv 0) (pa_cons (pe_bltn (v := .ty "int") rfl T.z_int (by decide +kernel) rfl) pa_nil))) (pe_one (pe_not (pe_callB call_isi rfl T.z_isinstance (by decide +kernel) (pa_cons (pv 0) (pa_cons (pe_bltn (v := .ty "bool") rfl T.z_bool (by decide +kernel) rfl) pa_nil)))))))), ?_⟩
    refine ⟨x, rfl, x, .ty "int", t, _, b1, rfl, .ty _, ty, e1, b1, rfl, ?_⟩
    cases b1 with
    | false => exact iteF q
    | true => exact iteT ⟨x, rfl, x, .ty "bool", t, _, b2, rfl, .ty _, ty, e2 rfl, b2, rfl, q⟩
theorem tabs_nil {H : Hp} (h : ∀ p ∈ csL A, H p.2 = some (.tbl #[])) : LamX.Tabs (tabL A) H := fun p hp => by
  simp only [tabL, List.mem_cons, List.not_mem_nil, or_false] at hp
  subst hp
  exact LamX.TabS.nil (h _ mem_law)
theorem tabs_put {T : List (Addr × Str)} {G G' : Hp} {p : Addr} {ys : List V} (hp : G p = some (.lst ys)) (k : ∀ b o, b ≠ p → G b = some o → G' b = some o) (t : LamX.Tabs T G) : LamX.Tabs T G' := fun m hm => by
  obtain ⟨ps, h1, h2, h3⟩ := t m hm
  have ne : ∀ {b : Addr} {o : HO}, G b = some o → (∀ xs, o ≠ .lst xs) → b ≠ p := fun {b o} e d z => by
    rw [z, hp] at e
    exact d ys (Option.some.inj e).symm
  refine ⟨ps, k _ _ (ne h1 fun _ z => by cases z) h1, h2, fun pos cv hc => ?_⟩
  obtain ⟨c, e1, e2⟩ := h3 pos cv hc
  refine ⟨c, e1, k _ _ (ne e2 fun _ z => ?_) e2⟩
  unfold LamX.CodeO at z
  cases z
theorem feed_ext {H H' : Hp} {f : Addr} (h : FeedAt H f) (s : LamX.ExtN H H') : FeedAt H' f := by
  obtain ⟨l, xs, i, r, t, n, z, h1, h2, h3⟩ := h
  exact ⟨l, xs, i, r, t, n, z, s _ _ h1 (fun _ w => by cases w), s _ _ h2 (fun _ w => by cases w), h3⟩
theorem tabs_stp {T : List (Addr × Str)} {G G' : Hp} {f : Addr} (h : FeedAt G f) (s : Stp f G G') (t : LamX.Tabs T G) : LamX.Tabs T G' := by
  obtain ⟨l, xs, i, r, m, n, z, h1, _⟩ := h
  exact tabs_put h1 s.keep t
theorem ty_same {H H' : Hp} {x : V} {t : Value} (s : Same H H') (h : TyX K H x t) : TyX K H' x t := by
  cases h with
  | base b =>
    refine .base ?_
    cases b with
    | non => exact .non
    | bl y => exact .bl y
    | int i => exact .int i
    | str y => exact .str y
    | flt y => exact .flt y
    | lst e => exact .lst (s _ _ e)
    | frz e => exact .frz (s _ _ e)
    | tup e => exact .tup (s _ _ e)
    | dK e => exact .dK (s _ _ e)
    | dT e => exact .dT (s _ _ e)
    | ins e a b c d f => exact .ins (s _ _ e) a b c d f
  | byt b => exact .byt b
  | set e => exact .set (s _ _ e)
  | kList e c => exact .kList e c
  | kTuple e c => exact .kTuple e c
  | kDict e c => exact .kDict e c
  | fTuple e => exact .fTuple (s _ _ e)
  | fDict e => exact .fDict (s _ _ e)
theorem WholeV.same {H H' : Hp} {x : V} {b : Bool} (h : WholeV K H x b) (s : Same H H') : WholeV K H' x b := by
  obtain ⟨t, b1, b2, ty, r⟩ := h
  exact ⟨t, b1, b2, ty_same s ty, r⟩
def sp_flag : Sp := fun vs H Q _ => ∃ a b : Bool, vs = [.bl a, .bl b] ∧ Q (.bl (a == b)) H
theorem ok__law_flag (T : Txt K mg A D) : FnOk P w K mg base CX0 1 A.f__law_flag D.f__law_flag ["_law_value", "_law_due"] (sp_flag) := by
  skip
  refine T.F__law_flag.ok sc__law_flag (fun vs H Q E h => ?_) (fun cdv A' outer s H vs Q E hr h => ?_)
  · obtain ⟨a, b, rfl, _⟩ := h
    rfl
  · obtain ⟨a, b, rfl, q⟩ := h
    refine ⟨_, (pss_one (ps_ret (pe_or (pe_and (pe_cmpR op_isBl (pv 0) pe_bl (nomark _)) (pe_one (pv 1))) (pe_one (pe_and (pe_cmpR op_isBl (pv 0) pe_bl (nomark _)) (pe_one (pe_not (pv 1)))))))), ?_⟩
    cases a with
    | true =>
      refine ⟨_, rfl, _, _, rfl, rfl, true, rfl, iteT ?_⟩
      cases b with
      | true => exact ⟨_, rfl, true, rfl, iteT q⟩
      | false => exact ⟨_, rfl, false, rfl, iteF ⟨_, rfl, _, _, rfl, rfl, false, rfl, iteF q⟩⟩
    | false =>
      refine ⟨_, rfl, _, _, rfl, rfl, false, rfl, iteF ?_⟩
      refine ⟨false, rfl, iteF ⟨_, rfl, _, _, rfl, rfl, true, rfl, iteT ⟨_, rfl, b, rfl, ?_⟩⟩⟩
      cases b <;> exact q
def sp_is (C : Addr) : Sp := fun vs H Q _ => ∃ v t b p q', vs = [v, .int p, .int q'] ∧ RatAt C H v t b ∧ 0 < b ∧ t * q' = p * b ∧ Sm t ∧ Sm b ∧ Sm p ∧ Sm q' ∧ Q (.bl true) H
theorem ok__law_is (T : Txt K mg A D) : FnOk P w K mg base CX0 2 A.f__law_is D.f__law_is ["_law_value", "_law_top", "_law_bottom"] (sp_is A.Ratio) := by
  have G__law_is_integer : FnOk P w K mg base CX0 1 A.f__law_is_integer D.f__law_is_integer ["_law_value"] (sp_is_whole K) := ok__law_is_integer T
  refine T.F__law_is.ok sc__law_is (fun vs H Q E h => ?_) (fun cdv A' outer s H vs Q E hr h => ?_)
  · obtain ⟨v, t, b, p, q', rfl, _⟩ := h
    rfl
  · obtain ⟨v, t, b, p, q', rfl, ⟨a, dx, rfl, ha⟩, hb, hc, st, sb, sp, sq, q⟩ := h
    refine ⟨_, (pss_cons (ps_if (PW.pt (pw_or (pt_not (pt_val (pe_callB call_isi rfl T.z_isinstance (by decide +kernel) (pa_cons (pv 0) (pa_cons (pe_glob (v := .ref A.Ratio) rfl T.g_Ratio rfl) pa_nil))))) (pw_or (pt_not (pt_val (pe_call G__law_is_integer (hr.mono (by decide)) rfl T.g__law_is_integer T.F__law_is_integer.kp T.b__law_is_integer .nil pass0 (pa_cons (pe_fld (pv 0) rfl) pa_nil)))) (pw_or1 (pt_not (pt_val (pe_call G__law_is_integer (hr.mono (by decide)) rfl T.g__law_is_integer T.F__law_is_integer.kp T.b__law_is_integer .nil pass0 (pa_cons (pe_fld (pv 0) rfl) pa_nil)))))))) (pss_one (ps_ret pe_bl)) pss_nil)
  (pss_one (ps_ret (pe_and (pe_cmpR op_ge (pe_fld (pv 0) rfl) pe_int (nomark _)) (pe_one (pe_cmpR op_eq (pe_op op_mulW (pe_fld (pv 0) rfl) (pv 2)) (pe_op op_mulW (pv 1) (pe_fld (pv 0) rfl)) (nomark _))))))), ?_⟩
    have cl := T.k_Ratio.cl
    have nt := T.k_Ratio.n_top
    have nb := T.k_Ratio.n_bottom
    refine ⟨_, rfl, .ref a, .ref A.Ratio, _, _, true, rfl, .own _, T.k_Ratio.ty ha, kit_self, true, rfl, iteF ?_⟩
    refine ⟨_, rfl, a, A.Ratio, dx, _, _, rfl, ha, cl, nt, rfl, _, _, rfl, whole_int t, true, rfl, iteF ?_⟩
    refine ⟨_, rfl, a, A.Ratio, dx, _, _, rfl, ha, cl, nb, rfl, _, _, rfl, whole_int b, true, rfl, iteF ?_⟩
    refine ⟨_, rfl, a, A.Ratio, dx, _, _, rfl, ha, cl, nb, rfl, _, _, rfl, rfl, true, ?_, iteT ?_⟩
    · show V.bl (decide (1 ≤ b)) = .bl true
      rw [decide_eq_true (by omega)]
    refine ⟨_, rfl, a, A.Ratio, dx, _, _, rfl, ha, cl, nt, rfl, _, rfl, _, _, rfl, rfl, st.mul sq, ?_⟩
    refine ⟨_, rfl, _, rfl, a, A.Ratio, dx, _, _, rfl, ha, cl, nb, rfl, _, _, rfl, rfl, sp.mul sb, rfl, ?_⟩
    have e : decide (V.int (t * q') = V.int (p * b)) = true := decide_eq_true (by rw [hc])
    exact e ▸ q
theorem NoNum.same {C : Addr} {H H' : Hp} {x : V} (h : NoNum K C H x) (s : Same H H') : NoNum K C H' x := by
  obtain ⟨t, ty, e, w⟩ := h
  exact ⟨t, ty_same s ty, e, w.same s⟩
theorem Styl.same {C : Addr} {H H' : Hp} {x y : V} (h : Styl C H x y) (s : Same H H') : Styl C H' x y := by
  rcases h with h | h
  · exact .inl h
  · exact .inr (h.same s)
theorem WrongP.same {C : Addr} {H H' : Hp} {x y : V} {z : Str} (h : WrongP K C H x y z) (s : Same H H') : WrongP K C H' x y z := by
  rcases h with ⟨a, b⟩ | ⟨lo, n, a, b, c⟩ | ⟨lo, n, p, q, hn, a, b, c, d⟩
  · exact .inl ⟨a.same s, b⟩
  · exact .inr (.inl ⟨lo, n, a.same s, b.same s, c⟩)
  · exact .inr (.inr ⟨lo, n, p, q, hn, a.same s, b.same s, fun d h => ⟨(c d h).1, (c d h).2.same s⟩, d⟩)
/-! ### what the law asks of places -/
def sp_refused (K : PySem.W.Frag) (A : Ad) : Sp := fun vs H Q _ => ∃ (x y : V) (z : Str), vs = [x, y, .str z] ∧ WrongP K A.Ratio H x y z ∧ ∀ H', Same H H' → Q (.bl true) H'
theorem ok__law_refused (T : Txt K mg A D) : FnOk P w K mg base CX0 8 A.f__law_refused D.f__law_refused ["_law_low", "_law_high", "_law_part"] (sp_refused K A) := by
  have G_Place_init : FnOk P w K mg base (L2.CX P w) 6 A.f_Place___init__ D.f_Place___init__ ["self", "low", "high"] (sp_place K A) := ok_Place___init__ T
  have b_Place_init2 := T.b_Place___init__
  have d_Place_init2 : Vals [] [] := .nil
  refine T.F__law_refused.ok sc__law_refused (fun vs H Q E h => ?_) (fun cdv A' outer s H vs Q E hr h => ?_)
  · obtain ⟨x, y, z, rfl, _⟩ := h
    rfl
  · obtain ⟨x, y, z, rfl, hw, q⟩ := h
    refine ⟨_, (pss_cons (ps_set (i := 3) sc__law_refused.nd rfl (.inl rfl) pe_bl)
  (pss_cons (ps_try_as (i := 4) rfl rfl sc__law_refused.nd rfl rfl ⟨rfl, by decide, .inl T.g_NoPlace⟩ takes0 (fun W pn xe tk _ => (pss_one (ps_expr (pe_makeA T.M_Place G_Place_init (hr.mono (by decide)) rfl T.g_Place b_Place_init2 d_Place_init2 (fun σ => passAt tk σ) (by exact (pa_cons (pv 0) (pa_cons (pv 1) pa_nil))))))) (fun oa oe cls d pn hz hf => (pss_one (ps_set (i := 3) sc__law_refused.nd rfl (.inl rfl) (pe_and (pe_cmpR op_eq (pe_xf T.x_NoPlace T.n_NoPlace_part hz hf (pv 4)) (pv 2) (nomark _)) (pe_and (pe_callB (call_isD T.c_NoPlace hz hf) rfl T.z_isinstance (by decide +kernel) (pa_cons (pv 4) (pa_cons (pe_glob (v := .ref A.MeansError) rfl T.g_MeansError rfl) pa_nil))) (pe_one (pe_not (pe_callB (call_isD T.c_NoPlace hz hf) rfl T.z_isinstance (by decide +kernel) (pa_cons (pv 4) (pa_cons (pe_glob (v := .ref A.NoPoint) rfl T.g_NoPoint rfl) pa_nil)))))))))))
  (pss_one (ps_ret (pv 3))))), ?_⟩
    refine ⟨_, rfl, _, rfl, fun r dx nr nd ne => ?_⟩
    have s1 : Same H (upd (upd H dx (.own r)) r (.ins A.Place dx [])) := same_upd' (same_upd nd) nr
    refine ⟨r, dx, x, y, rfl, upd_same, .inr ⟨z, hw.same s1, fun d hd => ?_⟩⟩
    have s2 := s1.trans (same_upd (o := .xd [("part", .str z)]) hd)
    refine ⟨true, T.em_NoPlace, fun _ a0 _ => ?_, fun n => Bool.noConfusion n⟩
    refine ⟨_, rfl, rfl, rfl, d, _, _, rfl, upd_same, rfl, _, rfl, rfl, true, congrArg V.bl (decide_eq_true rfl), iteT ?_⟩
    refine ⟨_, rfl, .ref A.MeansError, _, true, d, _, rfl, rfl, rfl, upd_same, .own _, T.kit_NoPlace_MeansError, true, rfl, iteT ?_⟩
    refine ⟨_, rfl, .ref A.NoPoint, _, false, d, _, rfl, rfl, rfl, upd_same, .own _, T.kit_NoPlace_NoPoint, false, rfl, ?_⟩
    exact ⟨_, rfl, q _ s2⟩
/-- the law's own number for an end: over the bottom b -/
def TopIs (o : End) (b : Int) (x : V) : Prop := match o with
  | none => x = .non
  | some e => ∃ p, x = .int p ∧ Sm p ∧ e.1 * b = p * e.2
def sp_end (C : Addr) : Sp := fun vs H Q _ => ∃ (v x : V) (b : Int) (n : Nat) (o : End), vs = [v, x, .int b] ∧ n ≤ 1000 ∧ EndAt C n H v o ∧ TopIs o b x ∧ 0 < b ∧ Sm b ∧ Q (.bl true) H
theorem ok__law_end_is (T : Txt K mg A D) : FnOk P w K mg base CX0 3 A.f__law_end_is D.f__law_end_is ["_law_value", "_law_top", "_law_bottom"] (sp_end A.Ratio) := by
  have G__law_is : FnOk P w K mg base CX0 2 A.f__law_is D.f__law_is ["_law_value", "_law_top", "_law_bottom"] (sp_is A.Ratio) := ok__law_is T
  refine T.F__law_end_is.ok sc__law_end_is (fun vs H Q E h => ?_) (fun cdv A' outer s H vs Q E hr h => ?_)
  · obtain ⟨v, x, b, n, o, rfl, _⟩ := h
    rfl
  · obtain ⟨v, x, b, n, o, rfl, hn, hv, hx, hb, sb, q⟩ := h
    refine ⟨_, (pss_cons (ps_if (pt_cmpR op_isN (pv 1) pe_non (nomark _)) (pss_one (ps_ret (pe_cmpR op_isN (pv 0) pe_non (nomark _)))) pss_nil)
  (pss_one (ps_ret (pe_call G__law_is (hr.mono (by decide)) rfl T.g__law_is T.F__law_is.kp T.b__law_is .nil pass0 (pa_cons (pv 0) (pa_cons (pv 1) (pa_cons (pv 2) pa_nil))))))), ?_⟩
    cases o with
    | none =>
      cases (show x = .non from hx)
      cases (show v = .non from hv)
      exact ⟨_, rfl, rfl, _, rfl, iteTe (decide_eq_true rfl) ⟨_, rfl, rfl, q⟩⟩
    | some e =>
      obtain ⟨p, rfl, sp, c⟩ := hx
      obtain ⟨t, b2, r, h1, h2, h3, h4, h5⟩ := hv
      refine ⟨_, rfl, rfl, _, rfl, iteFe (decide_eq_false fun z => by cases z) ?_⟩
      refine ⟨_, rfl, _, rfl, _, rfl, v, t, b2, p, b, rfl, r, h1, ?_, sm_of h4 hn, sm_of h5 hn, sp, sb, q⟩
      refine Int.eq_of_mul_eq_mul_right (show e.2 ≠ 0 by omega) ?_
      have k1 : t * b * e.2 = (t * e.2) * b := by grind
      have k2 : p * b2 * e.2 = (p * e.2) * b2 := by grind
      rw [k1, k2, h3, ← c]
      grind
theorem noneB_top {o : End} {b : Int} {x : V} (h : TopIs o b x) : decide (x = V.non) = noneB o := by
  cases o with
  | none => exact decide_eq_true h
  | some e =>
    obtain ⟨p, rfl, _⟩ := h
    rfl
def sp_plis (A : Ad) : Sp := fun vs H Q _ => ∃ (v x y : V) (b : Int) (n : Nat) (lo hi : End), vs = [v, x, y, .int b] ∧ n ≤ 1000 ∧ PlaceAt A n H v lo hi ∧ TopIs lo b x ∧ TopIs hi b y ∧ 0 < b ∧ Sm b ∧ Q (.bl true) H
theorem ok__law_place_is (T : Txt K mg A D) : FnOk P w K mg base CX0 4 A.f__law_place_is D.f__law_place_is ["_law_place", "_law_low", "_law_high", "_law_bottom"] (sp_plis A) := by
  have G_Place_is_line : FnOk P w K mg base CX0 1 A.f_Place_is_line D.f_Place_is_line ["self"] (sp_line A) := ok_Place_is_line T
  have G_Place_is_segment : FnOk P w K mg base CX0 1 A.f_Place_is_segment D.f_Place_is_segment ["self"] (sp_segm A) := ok_Place_is_segment T
  have G__law_end_is : FnOk P w K mg base CX0 3 A.f__law_end_is D.f__law_end_is ["_law_value", "_law_top", "_law_bottom"] (sp_end A.Ratio) := ok__law_end_is T
  have G__law_flag : FnOk P w K mg base CX0 1 A.f__law_flag D.f__law_flag ["_law_value", "_law_due"] (sp_flag) := ok__law_flag T
  refine T.F__law_place_is.ok sc__law_place_is (fun vs H Q E h => ?_) (fun cdv A' outer s H vs Q E hr h => ?_)
  · obtain ⟨v, x, y, b, n, lo, hi, rfl, _⟩ := h
    rfl
  · obtain ⟨v, x, y, b, n, lo, hi, rfl, hn, hp, hx, hy, hb, sb, q⟩ := h
    refine ⟨_, (pss_cons (ps_if (PW.pt (pw_or (pt_not (pt_val (pe_callB call_isi rfl T.z_isinstance (by decide +kernel) (pa_cons (pv 0) (pa_cons (pe_glob (v := .ref A.Place) rfl T.g_Place rfl) pa_nil))))) (pw_or1 (pt_not (pt_val (pe_call G__law_end_is (hr.mono (by decide)) rfl T.g__law_end_is T.F__law_end_is.kp T.b__law_end_is .nil pass0 (pa_cons (pe_fld (pv 0) rfl) (pa_cons (pv 1) (pa_cons (pv 3) pa_nil))))))))) (pss_one (ps_ret pe_bl)) pss_nil)
  (pss_cons (ps_if (pt_not (pt_val (pe_call G__law_end_is (hr.mono (by decide)) rfl T.g__law_end_is T.F__law_end_is.kp T.b__law_end_is .nil pass0 (pa_cons (pe_fld (pv 0) rfl) (pa_cons (pv 2) (pa_cons (pv 3) pa_nil)))))) (pss_one (ps_ret pe_bl)) pss_nil)
  (pss_one (ps_ret (pe_and (pe_call G__law_flag (hr.mono (by decide)) rfl T.g__law_flag T.F__law_flag.kp T.b__law_flag .nil pass0 (pa_cons (pe_meth0 (pv 0) T.k_Place.cl T.m_Place_is_line G_Place_is_line (hr.mono (by decide)) T.b_Place_is_line .nil pass0) (pa_cons (pe_cmpR op_isN (pv 1) pe_non (nomark _)) pa_nil))) (pe_one (pe_call G__law_flag (hr.mono (by decide)) rfl T.g__law_flag T.F__law_flag.kp T.b__law_flag .nil pass0 (pa_cons (pe_meth0 (pv 0) T.k_Place.cl T.m_Place_is_segment G_Place_is_segment (hr.mono (by decide)) T.b_Place_is_segment .nil pass0) (pa_cons (pe_cmpR op_notN (pv 2) pe_non (nomark _)) pa_nil))))))))), ?_⟩
    obtain ⟨a, dx, u, w, rfl, ha, h1, h2⟩ := id hp
    refine ⟨_, rfl, .ref a, .ref A.Place, _, _, true, rfl, .own _, T.k_Place.ty ha, kit_self, true, rfl, iteF ?_⟩
    refine ⟨_, rfl, a, A.Place, dx, _, _, rfl, ha, T.k_Place.cl, T.n_Place_low, rfl, _, rfl, _, rfl, u, x, b, n, lo, rfl, hn, h1, hx, hb, sb, true, rfl, iteF ?_⟩
    refine ⟨_, rfl, a, A.Place, dx, _, _, rfl, ha, T.k_Place.cl, T.n_Place_high, rfl, _, rfl, _, rfl, w, y, b, n, hi, rfl, hn, h2, hy, hb, sb, true, rfl, iteF ?_⟩
    refine ⟨_, rfl, a, dx, _, rfl, ha, rfl, _, n, lo, hi, rfl, hp, _, rfl, rfl, _, _, rfl, ?_⟩
    have e1 : (noneB lo == decide (x = V.non)) = true := by rw [noneB_top hx]; exact beq_self_eq_true _
    refine ⟨_, rfl, iteTe e1 ?_⟩
    refine ⟨_, rfl, a, dx, _, rfl, ha, rfl, _, n, lo, hi, rfl, hp, _, rfl, rfl, _, _, rfl, ?_⟩
    have e2 : ((!noneB hi) == !decide (y = V.non)) = true := by rw [noneB_top hy]; exact beq_self_eq_true _
    show Q (.bl ((!noneB hi) == !decide (y = V.non))) H
    rw [e2]
    exact q
/-- the law's own ends -/
abbrev topV : Option Int → V
  | none => .non
  | some i => .int i
def mapI (f : Int → Int) : Option Int → Option Int
  | none => none
  | some i => some (f i)
def sp_plus : Sp := fun vs H Q _ => ∃ (o : Option Int) (n : Int), vs = [topV o, .int n] ∧ Q (topV (mapI (· + n) o)) H
theorem ok__law_plus (T : Txt K mg A D) : FnOk P w K mg base CX0 1 A.f__law_plus D.f__law_plus ["_law_end", "_law_number_here"] (sp_plus) := by
  skip
  refine T.F__law_plus.ok sc__law_plus (fun vs H Q E h => ?_) (fun cdv A' outer s H vs Q E hr h => ?_)
  · obtain ⟨o, n, rfl, _⟩ := h
    rfl
  · obtain ⟨o, n, rfl, q⟩ := h
    refine ⟨_, (pss_cons (ps_if (pt_cmpR op_isN (pv 0) pe_non (nomark _)) (pss_one (ps_ret pe_non)) pss_nil)
  (pss_one (ps_ret (pe_op op_add (pv 0) (pv 1))))), ?_⟩
    cases o with
    | none => exact ⟨_, rfl, rfl, _, rfl, iteTe (decide_eq_true rfl) q⟩
    | some i => exact ⟨_, rfl, rfl, _, rfl, iteFe (decide_eq_false fun z => by cases z) ⟨_, rfl, _, rfl, _, _, rfl, rfl, q⟩⟩
def sp_times : Sp := fun vs H Q _ => ∃ (o : Option Int) (n : Int), vs = [topV o, .int n] ∧ (∀ i, o = some i → Sm i) ∧ Sm n ∧ Q (topV (mapI (· * n) o)) H
theorem ok__law_times (T : Txt K mg A D) : FnOk P w K mg base CX0 1 A.f__law_times D.f__law_times ["_law_end", "_law_number_here"] (sp_times) := by
  skip
  refine T.F__law_times.ok sc__law_times (fun vs H Q E h => ?_) (fun cdv A' outer s H vs Q E hr h => ?_)
  · obtain ⟨o, n, rfl, _⟩ := h
    rfl
  · obtain ⟨o, n, rfl, si, sn, q⟩ := h
    refine ⟨_, (pss_cons (ps_if (pt_cmpR op_isN (pv 0) pe_non (nomark _)) (pss_one (ps_ret pe_non)) pss_nil)
  (pss_one (ps_ret (pe_op op_mulW (pv 0) (pv 1))))), ?_⟩
    cases o with
    | none => exact ⟨_, rfl, rfl, _, rfl, iteTe (decide_eq_true rfl) q⟩
    | some i => exact ⟨_, rfl, rfl, _, rfl, iteFe (decide_eq_false fun z => by cases z) ⟨_, rfl, _, rfl, _, _, rfl, rfl, (si i rfl).mul sn, q⟩⟩

end

section
variable {P : Program} {w : World} {K : PySem.W.Frag} {mg : Str → Option Value} {base : Heap} {A : Ad} {D : Fd}
/-! ### numbers in the place -/
theorem rat_stp {C : Addr} {G G' : Hp} {f : Addr} {v : V} {t b : Int} (F : FeedAt G f) (s : Stp f G G') (r : RatAt C G v t b) : RatAt C G' v t b := by
  obtain ⟨a, dx, e, h⟩ := r
  exact ⟨a, dx, e, s.keep _ _ (F.ne h fun _ _ _ _ _ _ w => by cases w) h⟩
theorem EndAt.stp {C : Addr} {n : Nat} {G G' : Hp} {f : Addr} {x : V} {o : End} (h : EndAt C n G x o) (F : FeedAt G f) (s : Stp f G G') : EndAt C n G' x o := by
  cases o with
  | none => exact h
  | some e =>
    obtain ⟨t, b, r, k⟩ := h
    exact ⟨t, b, rat_stp F s r, k⟩
theorem PlaceAt.stp {n : Nat} {G G' : Hp} {f : Addr} {x : V} {lo hi : End} (h : PlaceAt A n G x lo hi) (F : FeedAt G f) (s : Stp f G G') : PlaceAt A n G' x lo hi := by
  obtain ⟨a, dx, u, v, e, h, h1, h2⟩ := h
  exact ⟨a, dx, u, v, e, s.keep _ _ (F.ne h fun _ _ _ _ _ _ w => by cases w) h, h1.stp F s, h2.stp F s⟩
def over (b : Int) : Option Int → End
  | none => none
  | some i => some (i, b)
def lowI : Option Int → Int → Bool
  | none, _ => true
  | some l, x => decide (l ≤ x)
def highI : Option Int → Int → Bool
  | none, _ => true
  | some h, x => decide (x ≤ h)
def tDue1 : TE := fun σ H Q => ∃ (lo hi : Option Int) (x : Int), σ[2]? = some (some (topV lo)) ∧ σ[3]? = some (some (topV hi)) ∧ σ[6]? = some (some (.int x)) ∧ Q (.bl (lowI lo x && highI hi x)) H
def tDue2 : TE := fun σ H Q => ∃ (lo hi : Option Int) (x b : Int), σ[2]? = some (some (topV lo)) ∧ σ[3]? = some (some (topV hi)) ∧ σ[6]? = some (some (.int x)) ∧ σ[4]? = some (some (.int b)) ∧ Sm x ∧ Sm b ∧ Q (.bl (lowI lo (x * b) && highI hi (x * b))) H
def tDue3 : TE := fun σ H Q => ∃ (lo : Option Int) (m : Int), σ[6]? = some (some (topV lo)) ∧ σ[10]? = some (some (.int m)) ∧ Q (.bl (decide (topV lo = .non) || decide (m = 0))) H
theorem low_eq {lo : Option Int} {b p q : Int} (hb : 0 < b) (x : Int) (e : p * b = x * q) (hq : 0 < q) : lowO (over b lo) p q = lowI lo x := by
  cases lo with
  | none => rfl
  | some l =>
    show decide (l * q ≤ p * b) = decide (l ≤ x)
    rw [e, Bool.eq_iff_iff]
    simp only [decide_eq_true_eq]
    exact ⟨fun h => Int.le_of_mul_le_mul_right h hq, fun h => Int.mul_le_mul_of_nonneg_right h (Int.le_of_lt hq)⟩
theorem high_eq {hi : Option Int} {b p q : Int} (hb : 0 < b) (x : Int) (e : p * b = x * q) (hq : 0 < q) : highO (over b hi) p q = highI hi x := by
  cases hi with
  | none => rfl
  | some l =>
    show decide (p * b ≤ l * q) = decide (x ≤ l)
    rw [e, Bool.eq_iff_iff]
    simp only [decide_eq_true_eq]
    exact ⟨fun h => Int.le_of_mul_le_mul_right h hq, fun h => Int.mul_le_mul_of_nonneg_right h (Int.le_of_lt hq)⟩
/-- the size of the law's numbers -/
def Szd (i : Int) : Prop := i.natAbs < 2 ^ 132
def SzdO : Option Int → Prop
  | none => True
  | some i => i.natAbs < 2 ^ 131
theorem Szd.sm {i : Int} (h : Szd i) : Sm i := Sm.of h (by decide)
def sp_asked (A : Ad) : Sp := fun vs H Q _ => ∃ (f : Addr) (x : V) (lo hi : Option Int) (b : Int) (n : Nat), vs = [.ref f, x, topV lo, topV hi, .int b] ∧ n ≤ 1000 ∧ 140 ≤ n ∧ FeedAt H f ∧ PlaceAt A n H x (over b lo) (over b hi) ∧ 0 < b ∧ Szd b ∧ SzdO lo ∧ SzdO hi ∧
  ∀ H', Stp f H H' → Q (.bl true) H'
theorem ok__law_asked (T : Txt K mg A D) : FnOk P w K mg base CX0 7 A.f__law_asked D.f__law_asked ["_law_feed_here", "_law_place", "_law_low", "_law_high", "_law_bottom"] (sp_asked A) := by
  have G_Place___contains__ : FnOk P w K mg base CX0 5 A.f_Place___contains__ D.f_Place___contains__ ["self", "x"] (sp_pin A) := ok_Place___contains__ T
  have G_Ratio_init : FnOk P w K mg base CX0 2 A.f_Ratio___init__ D.f_Ratio___init__ ["self", "top", "bottom"] (sp_init A.Ratio) := ok_Ratio___init__ T
  have b_Ratio_init2 := T.b_Ratio___init__
  have d_Ratio_init2 : Vals [] [] := .nil
  have G__law_flag : FnOk P w K mg base CX0 1 A.f__law_flag D.f__law_flag ["_law_value", "_law_due"] (sp_flag) := ok__law_flag T
  have G__law_number : FnOk P w K mg base CX0 2 A.f__law_number D.f__law_number ["_law_feed_here", "_law_size"] (sp_number) := ok__law_number T
  have G__law_take : FnOk P w K mg base CX0 1 A.f__law_take D.f__law_take ["_law_feed_here", "_law_size"] (sp_take) := ok__law_take T
  refine T.F__law_asked.ok sc__law_asked (fun vs H Q E h => ?_) (fun cdv A' outer s H vs Q E hr h => ?_)
  · obtain ⟨f, x, lo, hi, b, n, rfl, _⟩ := h
    rfl
  · obtain ⟨f, v, lo, hi, b, n, rfl, hn, hn2, F0, hp, hb, sb, sl, sh, q⟩ := h
    refine ⟨_, (pss_cons (ps_for PassesOwn.never rfl (pi_range1 rfl T.z_range (pa_cons pe_int pa_nil)) (pg_name (i := 5) sc__law_asked.nd rfl (.inl rfl)) (pss_cons (ps_set (i := 6) sc__law_asked.nd rfl (.inl rfl) (pe_call G__law_number (hr.mono (by decide)) rfl T.g__law_number T.F__law_number.kp T.b__law_number .nil pass0 (pa_cons (pv 0) (pa_cons (pe_op op_pow pe_int pe_int) pa_nil))))
  (pss_cut (ps_if (PW.pt (pw_and (pt_cmpR op_notN (pv 2) pe_non (nomark _)) (pw_and1 (pt_cmpR op_eq (pe_call G__law_take (hr.mono (by decide)) rfl T.g__law_take T.F__law_take.kp T.b__law_take .nil pass0 (pa_cons (pv 0) (pa_cons pe_int pa_nil))) pe_int (nomark _))))) (pss_one (ps_set (i := 6) sc__law_asked.nd rfl (.inl rfl) (pe_op op_sub (pe_op op_add (pv 2) (pe_call G__law_take (hr.mono (by decide)) rfl T.g__law_take T.F__law_take.kp T.b__law_take .nil pass0 (pa_cons (pv 0) (pa_cons pe_int pa_nil)))) pe_int))) pss_nil)
  (pss_cut (ps_if (PW.pt (pw_and (pt_cmpR op_notN (pv 3) pe_non (nomark _)) (pw_and1 (pt_cmpR op_eq (pe_call G__law_take (hr.mono (by decide)) rfl T.g__law_take T.F__law_take.kp T.b__law_take .nil pass0 (pa_cons (pv 0) (pa_cons pe_int pa_nil))) pe_int (nomark _))))) (pss_one (ps_set (i := 6) sc__law_asked.nd rfl (.inl rfl) (pe_op op_sub (pe_op op_add (pv 3) (pe_call G__law_take (hr.mono (by decide)) rfl T.g__law_take T.F__law_take.kp T.b__law_take .nil pass0 (pa_cons (pv 0) (pa_cons pe_int pa_nil)))) pe_int))) pss_nil)
  (pss_cons (ps_set (i := 7) sc__law_asked.nd rfl (.inl rfl) (imp_pE (t' := tDue1) (pe_and (pe_or (pe_cmpR op_isN (pv 2) pe_non (nomark _)) (pe_one (pe_cmpR op_le (pv 2) (pv 6) (nomark _)))) (pe_one (pe_or (pe_cmpR op_isN (pv 3) pe_non (nomark _)) (pe_one (pe_cmpR op_le (pv 6) (pv 3) (nomark _)))))) (by
        intro σ H Q hh
        obtain ⟨lo, hi, x, h2, h3, h6, q⟩ := hh
        cases lo with
        | none =>
          refine ⟨_, h2, rfl, _, rfl, iteTe (decide_eq_true rfl) ⟨true, rfl, iteT ?_⟩⟩
          cases hi with
          | none => exact ⟨_, h3, rfl, _, rfl, iteTe (decide_eq_true rfl) q⟩
          | some u => exact ⟨_, h3, rfl, _, rfl, iteFe (decide_eq_false fun z => by cases z) ⟨_, h6, _, h3, _, u, rfl, rfl, q⟩⟩
        | some l =>
          refine ⟨_, h2, rfl, _, rfl, iteFe (decide_eq_false fun z => by cases z) ⟨_, h2, _, h6, l, _, rfl, rfl, _, rfl, ?_⟩⟩
          by_cases c : l ≤ x
          · refine iteTe (decide_eq_true c) ?_
            have e : lowI (some l) x = true := decide_eq_true c
            rw [e] at q
            cases hi with
            | none => exact ⟨_, h3, rfl, _, rfl, iteTe (decide_eq_true rfl) q⟩
            | some u => exact ⟨_, h3, rfl, _, rfl, iteFe (decide_eq_false fun z => by cases z) ⟨_, h6, _, h3, _, u, rfl, rfl, q⟩⟩
          · refine iteFe (decide_eq_false c) ?_
            have e : lowI (some l) x = false := decide_eq_false c
            rw [e] at q
            exact q)))
  (pss_cons (ps_if (pt_not (pt_val (pe_call G__law_flag (hr.mono (by decide)) rfl T.g__law_flag T.F__law_flag.kp T.b__law_flag .nil pass0 (pa_cons (pe_cmpR (op_in_own T.m_Place___contains__ G_Place___contains__ (hr.mono (by decide)) T.b_Place___contains__ pass0) (pe_make T.M_Ratio G_Ratio_init (hr.mono (by decide)) rfl T.g_Ratio b_Ratio_init2 d_Ratio_init2 pass0 (pa_cons (pv 6) (pa_cons (pv 4) pa_nil))) (pv 1) (by with_unfolding_all rfl)) (pa_cons (pv 7) pa_nil))))) (pss_one (ps_ret pe_bl)) pss_nil)
  (pss_cons (ps_set (i := 7) sc__law_asked.nd rfl (.inl rfl) (imp_pE (t' := tDue2) (pe_and (pe_or (pe_cmpR op_isN (pv 2) pe_non (nomark _)) (pe_one (pe_cmpR op_le (pv 2) (pe_op op_mulW (pv 6) (pv 4)) (nomark _)))) (pe_one (pe_or (pe_cmpR op_isN (pv 3) pe_non (nomark _)) (pe_one (pe_cmpR op_le (pe_op op_mulW (pv 6) (pv 4)) (pv 3) (nomark _)))))) (by
        intro σ H Q hh
        obtain ⟨lo, hi, x, b, h2, h3, h6, h4, sx, sb, q⟩ := hh
        cases lo with
        | none =>
          refine ⟨_, h2, rfl, _, rfl, iteTe (decide_eq_true rfl) ⟨true, rfl, iteT ?_⟩⟩
          cases hi with
          | none => exact ⟨_, h3, rfl, _, rfl, iteTe (decide_eq_true rfl) q⟩
          | some u => exact ⟨_, h3, rfl, _, rfl, iteFe (decide_eq_false fun z => by cases z) ⟨_, h6, _, h4, x, b, rfl, rfl, sx.mul sb, _, h3, _, u, rfl, rfl, q⟩⟩
        | some l =>
          refine ⟨_, h2, rfl, _, rfl, iteFe (decide_eq_false fun z => by cases z) ⟨_, h2, _, h6, _, h4, x, b, rfl, rfl, sx.mul sb, l, _, rfl, rfl, _, rfl, ?_⟩⟩
          by_cases c : l ≤ (x * b)
          · refine iteTe (decide_eq_true c) ?_
            have e : lowI (some l) (x * b) = true := decide_eq_true c
            rw [e] at q
            cases hi with
            | none => exact ⟨_, h3, rfl, _, rfl, iteTe (decide_eq_true rfl) q⟩
            | some u => exact ⟨_, h3, rfl, _, rfl, iteFe (decide_eq_false fun z => by cases z) ⟨_, h6, _, h4, x, b, rfl, rfl, sx.mul sb, _, h3, _, u, rfl, rfl, q⟩⟩
          · refine iteFe (decide_eq_false c) ?_
            have e : lowI (some l) (x * b) = false := decide_eq_false c
            rw [e] at q
            exact q)))
  (pss_one (ps_if (pt_not (pt_val (pe_call G__law_flag (hr.mono (by decide)) rfl T.g__law_flag T.F__law_flag.kp T.b__law_flag .nil pass0 (pa_cons (pe_cmpR (op_in_own T.m_Place___contains__ G_Place___contains__ (hr.mono (by decide)) T.b_Place___contains__ pass0) (pv 6) (pv 1) (by with_unfolding_all rfl)) (pa_cons (pv 7) pa_nil))))) (pss_one (ps_ret pe_bl)) pss_nil)))))))))
  (pss_one (ps_ret pe_bl))), ?_⟩
    refine ⟨4, rfl, by decide, by decide, ?_⟩
    refine for_range (lo := 0) (fun i σ H' => (∃ y5 y6 y7, σ = [some (.ref f), some v, some (topV lo), some (topV hi), some (.int b), y5, y6, y7]) ∧ Stp f H H') ⟨⟨_, _, _, rfl⟩, .refl F0⟩ ?_ ?_
    · rintro i σ H0 hi' ⟨⟨y5, y6, y7, rfl⟩, st⟩
      have F1 := st.feed
      have hp1 := hp.stp F0 st
      refine ⟨_, rfl, _, _, rfl, rfl, ⟨by decide, by decide, by decide⟩, f, _, rfl, F1, by decide, .ab (by decide) (by decide), fun H1 x x0 x1 st1 => ?_⟩
      have x1' : x < 1000 := x1
      have x0' : -1000 < x := x0
      have st1 := st.trans st1
      have far : ∀ {l : Int}, SzdO (some l) → ∀ e : Int, 0 ≤ e → e < 3 → Szd (l + e - 1) := fun {l} h e e0 e1 => by
        have h : l.natAbs < 2 ^ 131 := h
        show (l + e - 1).natAbs < 2 ^ 132
        omega
      have szx : Szd x := by
        show x.natAbs < 2 ^ 132
        omega
      refine ⟨fun σ' H' => ∃ x, Stp f H H' ∧ Szd x ∧ σ' = [some (.ref f), some v, some (topV lo), some (topV hi), some (.int b), some (.int (0 + i)), some (.int x), y7], ?_, ?_⟩
      · refine ⟨_, rfl, rfl, _, rfl, ?_⟩
        cases lo with
        | none => exact iteFe (is_non rfl) (iteF ⟨x, st1, szx, rfl⟩)
        | some l =>
          refine iteTe (not_non fun z => by cases z) ⟨_, rfl, f, 2, rfl, st1.feed, by decide, .ab (by decide) (by decide), fun H2 u u0 u1 st2 => ⟨rfl, _, rfl, ?_⟩⟩
          have st2 := st1.trans st2
          refine ite2 (fun _ => ?_) (fun _ => ⟨x, st2, szx, rfl⟩)
          exact ⟨_, rfl, _, rfl, f, 3, rfl, st2.feed, by decide, .ab (by decide) (by decide), fun H3 e e0 e1 st3 => ⟨_, _, rfl, rfl, _, _, rfl, rfl, _, st2.trans st3, far sl e e0 e1, rfl⟩⟩
      clear st1 szx x0 x1 x0' x1' x F1 hp1 st
      rintro σ H1 ⟨x, st1, szx, rfl⟩
      refine ⟨fun σ' H' => ∃ x, Stp f H H' ∧ Szd x ∧ σ' = [some (.ref f), some v, some (topV lo), some (topV hi), some (.int b), some (.int (0 + i)), some (.int x), y7], ?_, ?_⟩
      · refine ⟨_, rfl, rfl, _, rfl, ?_⟩
        cases hi with
        | none => exact iteFe (is_non rfl) (iteF ⟨x, st1, szx, rfl⟩)
        | some l =>
          refine iteTe (not_non fun z => by cases z) ⟨_, rfl, f, 2, rfl, st1.feed, by decide, .ab (by decide) (by decide), fun H2 u u0 u1 st2 => ⟨rfl, _, rfl, ?_⟩⟩
          have st2 := st1.trans st2
          refine ite2 (fun _ => ?_) (fun _ => ⟨x, st2, szx, rfl⟩)
          exact ⟨_, rfl, _, rfl, f, 3, rfl, st2.feed, by decide, .ab (by decide) (by decide), fun H3 e e0 e1 st3 => ⟨_, _, rfl, rfl, _, _, rfl, rfl, _, st2.trans st3, far sh e e0 e1, rfl⟩⟩
      clear st1 szx x H1
      rintro σ H1 ⟨x, st1, szx, rfl⟩
      have hp1 := hp.stp F0 st1
      have nt : ∀ {c : Bool}, (!(c == c)) = false := fun {c} => by rw [beq_self_eq_true]; rfl
      refine ⟨lo, hi, x, rfl, rfl, rfl, ?_⟩
      refine ⟨_, rfl, _, rfl, fun r dx nx nd ne => ⟨r, dx, x, b, rfl, upd_same, by omega, sb.sm, fun t' b' nm => ⟨rfl, ?_⟩⟩⟩
      obtain ⟨s2, r2⟩ := made (C := A.Ratio) nx nd ne t' b'
      have hp2 := hp1.same s2
      have hq : IsQ A.Ratio n _ (.ref r) x b := ⟨t', b', .inr r2, nm.pos, hb, nm.cross, nle (Nat.lt_of_le_of_lt nm.le1 szx) (by omega), nle (Nat.lt_of_le_of_lt nm.le2 sb) (by omega)⟩
      refine ⟨_, rfl, hp2.ins, v, .ref r, n, over b lo, over b hi, x, b, rfl, hn, hp2, hq, _, rfl, ?_⟩
      rw [low_eq hb x rfl hb, high_eq hb x rfl hb]
      refine ⟨_, rfl, _, _, rfl, _, rfl, iteFe nt ?_⟩
      refine ⟨lo, hi, x, b, rfl, rfl, rfl, rfl, szx.sm, sb.sm, ?_⟩
      refine ⟨_, rfl, _, rfl, hp2.ins, v, .int x, n, over b lo, over b hi, x, 1, rfl, hn, hp2, IsQ.int (nle szx (by omega)) (by omega), _, rfl, ?_⟩
      rw [low_eq hb (x * b) (by rw [Int.mul_one]) (by decide), high_eq hb (x * b) (by rw [Int.mul_one]) (by decide)]
      refine ⟨_, rfl, _, _, rfl, _, rfl, iteFe nt ?_⟩
      exact ⟨⟨_, _, _, rfl⟩, st1.of s2⟩
    · rintro σ H' ⟨⟨y5, y6, y7, rfl⟩, st⟩
      exact q _ st

end

end Mo

namespace Mo
open PySem PySem.Spec PyProof.Rows L2 MoL MoW
open C8 (pss_cut tCut)
section
variable {P : Program} {w : World} {K : PySem.W.Frag} {mg : Str → Option Value} {base : Heap} {A : Ad} {D : Fd}
/-! ### what stands on the heap -/
def Odd (H : Hp) (x : V) : Prop := (∃ s, x = .str s) ∨ (∃ b, x = .bl b) ∨ (∃ l, x = .ref l ∧ H l = some (.lst [.int 1])) ∨ (∃ l, x = .ref l ∧ H l = some (.tup [.int 1, .int 2]))
theorem Odd.keep {f : Addr} {H H' : Hp} {x : V} (o : Odd H x) (F : FeedAt H f) (k : ∀ b o, b ≠ f → (∀ ps, o ≠ .tbl ps) → H b = some o → H' b = some o) : Odd H' x := by
  rcases o with h | h | ⟨l, e, h⟩ | ⟨l, e, h⟩
  · exact .inl h
  · exact .inr (.inl h)
  · exact .inr (.inr (.inl ⟨l, e, k _ _ (F.ne h fun _ _ _ _ _ _ z => by cases z) (fun _ z => by cases z) h⟩))
  · exact .inr (.inr (.inr ⟨l, e, k _ _ (F.ne h fun _ _ _ _ _ _ z => by cases z) (fun _ z => by cases z) h⟩))
theorem Odd.same {H H' : Hp} {x : V} (o : Odd H x) (s : Same H H') : Odd H' x := by
  rcases o with h | h | ⟨l, e, h⟩ | ⟨l, e, h⟩
  · exact .inl h
  · exact .inr (.inl h)
  · exact .inr (.inr (.inl ⟨l, e, s _ _ h⟩))
  · exact .inr (.inr (.inr ⟨l, e, s _ _ h⟩))
theorem Odd.no (T : Txt K mg A D) {H : Hp} {x : V} (o : Odd H x) : NoNum K A.Ratio H x ∧ x ≠ .non := by
  have no : ∀ {t : Value}, TyX K H x t → PySem.W.kitOne K t (.ref A.Ratio) = some false → PySem.W.kitOne K t (.type "int") = some false → NoNum K A.Ratio H x := fun ty e e2 => ⟨_, ty, e, _, false, false, ty, e2, (fun z => nomatch z), rfl⟩
  rcases o with ⟨s, h⟩ | ⟨b, h⟩ | ⟨l, h, e⟩ | ⟨l, h, e⟩ <;> subst h
  · exact ⟨no (.base (.str s)) T.ik_str (kit_ty (by decide +kernel)), fun z => by cases z⟩
  · exact ⟨⟨_, .base (.bl b), T.ik_bool, _, true, true, .base (.bl b), kit_ty (by decide +kernel), fun _ => kit_ty (by decide +kernel), rfl⟩, fun z => by cases z⟩
  · exact ⟨no (.base (.lst e)) T.ik_list (kit_ty (by decide +kernel)), fun z => by cases z⟩
  · exact ⟨no (.base (.tup e)) T.ik_tuple (kit_ty (by decide +kernel)), fun z => by cases z⟩
structure Bun (A : Ad) (G : Hp) (f p : Addr) : Prop where
  F : FeedAt G f
  tb : LamX.Tabs (tabL A) G
  st : ∃ xs : List V, G p = some (.lst xs) ∧ xs.length = 5 ∧ ∀ x ∈ xs, Odd G x
section
variable {G G' : Hp} {f p : Addr}
theorem Bun.keep (h : Bun A G f p) (F : FeedAt G' f) (tb : LamX.Tabs (tabL A) G') (k : ∀ b o, b ≠ f → (∀ ps, o ≠ .tbl ps) → G b = some o → G' b = some o) : Bun A G' f p := by
  obtain ⟨xs, h1, l, q⟩ := h.st
  refine ⟨F, tb, xs, k _ _ (h.F.ne h1 fun _ _ _ _ _ _ z => ?_) (fun _ z => by cases z) h1, l, fun x hx => (q x hx).keep h.F k⟩
  have := HO.lst.inj z
  rw [← this] at l
  cases l
theorem Bun.same (h : Bun A G f p) (s : Same G G') : Bun A G' f p := h.keep (h.F.same s) (h.tb.ext s) fun b o _ _ e => s b o e
theorem Bun.ext (h : Bun A G f p) (s : LamX.ExtN G G') (tb : LamX.Tabs (tabL A) G') : Bun A G' f p := h.keep (feed_ext h.F s) tb fun b o _ d e => s b o e d
theorem Bun.stp (h : Bun A G f p) (s : Stp f G G') : Bun A G' f p := h.keep s.feed (tabs_stp h.F s h.tb) fun b o n _ e => s.keep b o n e
theorem Bun.get (h : Bun A G f p) {k : Int} (h0 : 0 ≤ k) (h1 : k < 5) : ∃ xs x, G p = some (.lst xs) ∧ atI xs k = some x ∧ Odd G x := by
  obtain ⟨xs, h, l, q⟩ := h.st
  obtain ⟨n, rfl⟩ : ∃ n : Nat, k = (n : Int) := ⟨k.toNat, by omega⟩
  have hn : n < xs.length := by omega
  exact ⟨xs, xs[n], h, atI_nat (List.getElem?_eq_getElem hn), q _ (List.getElem_mem hn)⟩
end
/-! ### the law's numbers -/
theorem top_over {b : Int} {lo : Option Int} (s : SzdO lo) : TopIs (over b lo) b (topV lo) := by
  cases lo with
  | none => rfl
  | some l => exact ⟨l, rfl, Sm.of (show l.natAbs < 2 ^ 131 from s) (by decide), rfl⟩
theorem SzdO.sm {o : Option Int} (h : SzdO o) : ∀ i, o = some i → Sm i := fun i e => by
  subst e
  exact Sm.of (show i.natAbs < 2 ^ 131 from h) (by decide)
theorem top_mv {b n : Int} {lo : Option Int} (s : SzdO lo) (sn : Szd n) : TopIs (mapO f_mv n b (over b lo)) b (topV (mapI (· + n) lo)) := by
  cases lo with
  | none => rfl
  | some l =>
    have h1 : l.natAbs < 2 ^ 131 := s
    have h2 : n.natAbs < 2 ^ 132 := sn
    exact ⟨l + n, rfl, Sm.of (k := 133) (by omega) (by decide), by show (l * b + n * b) * b = (l + n) * (b * b); grind⟩
theorem top_st {b n : Int} {lo : Option Int} (s : SzdO lo) (sn : Szd n) : TopIs (mapO f_st n 7 (over b lo)) (7 * b) (topV (mapI (· * n) lo)) := by
  cases lo with
  | none => rfl
  | some l =>
    have h1 : l.natAbs < 2 ^ 131 := s
    have h2 : n.natAbs < 2 ^ 132 := sn
    exact ⟨l * n, rfl, Sm.of (nmul h1 h2) (by decide), by show l * n * (7 * b) = l * n * (b * 7); grind⟩
/-- what kinds of ends the law draws -/
structure Ends (lo hi : Option Int) : Prop where
  s1 : SzdO lo
  s2 : SzdO hi
  o : match hi with
    | none => True
    | some h => ∃ l, lo = some l ∧ l < h
theorem Ends.order {lo hi : Option Int} {b : Int} (h : Ends lo hi) (hb : 0 < b) : Order (over b lo) (over b hi) := by
  cases hi with
  | none => exact True.intro
  | some u =>
    obtain ⟨l, rfl, lt⟩ := h.o
    exact ⟨_, rfl, Int.mul_lt_mul_of_pos_right lt hb⟩
theorem eq_mv {b n l : Int} (hb : 0 < b) : decide (l * (b * b) = (l * b + n * b) * b) = decide (n = 0) := by
  rw [Bool.eq_iff_iff]
  simp only [decide_eq_true_eq]
  constructor
  · intro h
    have : n * (b * b) = 0 := by grind
    exact (Int.mul_eq_zero.mp this).resolve_right (by have := Int.mul_pos hb hb; omega)
  · intro h
    subst h
    grind
/-- a place and its moved one -/
theorem same_mv {b n : Int} {lo hi : Option Int} (hb : 0 < b) (e : Ends lo hi) : (eqO (over b lo) (mapO f_mv n b (over b lo)) && eqO (over b hi) (mapO f_mv n b (over b hi))) = (decide (topV lo = .non) || decide (n = 0)) := by
  cases lo with
  | none =>
    cases hi with
    | none => rfl
    | some u =>
      obtain ⟨l, z, _⟩ := e.o
      cases z
  | some l =>
    show (decide (l * (b * b) = (l * b + n * b) * b) && _) = (decide (V.int l = V.non) || decide (n = 0))
    rw [eq_mv hb]
    cases hi with
    | none =>
      show (decide (n = 0) && true) = (false || decide (n = 0))
      rw [Bool.and_true, Bool.false_or]
    | some u =>
      show (decide (n = 0) && decide (u * (b * b) = (u * b + n * b) * b)) = (false || decide (n = 0))
      rw [eq_mv hb, Bool.and_self, Bool.false_or]
theorem back_mv {b n : Int} {lo : Option Int} : eqO (mapO f_mv (-n) b (mapO f_mv n b (over b lo))) (over b lo) = true := by
  cases lo with
  | none => rfl
  | some l =>
    refine decide_eq_true ?_
    show ((l * b + n * b) * b + (-n) * (b * b)) * b = l * (b * b * b)
    grind
theorem far_eq {b k : Int} {lo : Option Int} (hk : k = -10000000000000000000000000000000000000000) (hb : 0 < b) (s : SzdO lo) : eqO (over b lo) (some (k, 1)) = false ∧ eqO (some (k, 1)) (over b lo) = false := by
  subst hk
  cases lo with
  | none => exact ⟨rfl, rfl⟩
  | some l =>
    have h : l.natAbs < 2 ^ 131 := s
    refine ⟨decide_eq_false ?_, decide_eq_false ?_⟩
    · show ¬ l * 1 = -10000000000000000000000000000000000000000 * b
      omega
    · show ¬ -10000000000000000000000000000000000000000 * b = l * 1
      omega
theorem over_pos {b : Int} {lo hi : Option Int} (hb : 0 < b) : ∀ e : Int × Int, over b lo = some e ∨ over b hi = some e → 0 < e.2 := by
  have one : ∀ {o : Option Int} {e : Int × Int}, over b o = some e → 0 < e.2 := fun {o e} h => by
    cases o with
    | none => cases h
    | some l => cases h; exact hb
  exact fun e h => h.elim one one
def sp_law (K : PySem.W.Frag) (A : Ad) : Sp := fun vs H Q _ => ∃ (a : Addr) (ns : List Int), vs = [.ref a] ∧ SqL K H a (ns.map V.int) ∧ ns.length ≤ 63 ∧ LamX.Tabs (tabL A) H ∧ ∀ H', Q (.bl true) H'
theorem ok_law (T : Txt K mg A D) (B : ∀ p ∈ csL A, LamX.TabB base mg p.1 p.2) : FnOk P w K mg base CX0 12 A.f_law D.f_law ["_law_script"] (sp_law K A) := by
  have G_Place_init : FnOk P w K mg base (L2.CX P w) 6 A.f_Place___init__ D.f_Place___init__ ["self", "low", "high"] (sp_place K A) := ok_Place___init__ T
  obtain ⟨ds0, d_Place_init0, b_Place_init0⟩ := T.b2_Place___init__
  obtain ⟨ds1, d_Place_init1, b_Place_init1⟩ := T.b1_Place___init__
  have b_Place_init2 := T.b_Place___init__
  have d_Place_init2 : Vals [] [] := .nil
  obtain ⟨kits_Place, kb_Place⟩ := T.kb_Place___init__
  have G_Place___eq__ : FnOk P w K mg base CX0 5 A.f_Place___eq__ D.f_Place___eq__ ["self", "other"] (sp_peq A) := ok_Place___eq__ T
  have G_Place_moved : FnOk P w K mg base (L2.CX P w) 8 A.f_Place_moved D.f_Place_moved ["self", "by"] (sp_moved K A) := ok_Place_moved T
  have G_Place_stretched : FnOk P w K mg base (L2.CX P w) 8 A.f_Place_stretched D.f_Place_stretched ["self", "by"] (sp_stretch K A) := ok_Place_stretched T
  have G_Ratio_init : FnOk P w K mg base CX0 2 A.f_Ratio___init__ D.f_Ratio___init__ ["self", "top", "bottom"] (sp_init A.Ratio) := ok_Ratio___init__ T
  have b_Ratio_init2 := T.b_Ratio___init__
  have d_Ratio_init2 : Vals [] [] := .nil
  have G__law_asked : FnOk P w K mg base CX0 7 A.f__law_asked D.f__law_asked ["_law_feed_here", "_law_place", "_law_low", "_law_high", "_law_bottom"] (sp_asked A) := ok__law_asked T
  have G__law_feed : FnOk P w K mg base CX0 1 A.f__law_feed D.f__law_feed ["_law_script"] (sp_feed K) := ok__law_feed T
  have G__law_flag : FnOk P w K mg base CX0 1 A.f__law_flag D.f__law_flag ["_law_value", "_law_due"] (sp_flag) := ok__law_flag T
  have G__law_number : FnOk P w K mg base CX0 2 A.f__law_number D.f__law_number ["_law_feed_here", "_law_size"] (sp_number) := ok__law_number T
  have G__law_place_is : FnOk P w K mg base CX0 4 A.f__law_place_is D.f__law_place_is ["_law_place", "_law_low", "_law_high", "_law_bottom"] (sp_plis A) := ok__law_place_is T
  have G__law_plus : FnOk P w K mg base CX0 1 A.f__law_plus D.f__law_plus ["_law_end", "_law_number_here"] (sp_plus) := ok__law_plus T
  have G__law_refused : FnOk P w K mg base CX0 8 A.f__law_refused D.f__law_refused ["_law_low", "_law_high", "_law_part"] (sp_refused K A) := ok__law_refused T
  have G__law_take : FnOk P w K mg base CX0 1 A.f__law_take D.f__law_take ["_law_feed_here", "_law_size"] (sp_take) := ok__law_take T
  have G__law_times : FnOk P w K mg base CX0 1 A.f__law_times D.f__law_times ["_law_end", "_law_number_here"] (sp_times) := ok__law_times T
  obtain ⟨oc__law_word, od__law_word, kV__law_word, doc__law_word, pm__law_word, an__law_word, cdv__law_word, ct__law_word, osl__law_word, e__law_word, lk__law_word, hc__law_word⟩ := T.F__law_word.ex
  have hb__law_word := T.b__law_word
  rw [e__law_word] at lk__law_word hb__law_word
  refine T.F_law.ok sc_law (fun vs H Q E h => ?_) (fun A' outer s H vs Q E hr h => ?_)
  · obtain ⟨a, ns, rfl, _⟩ := h
    rfl
  · obtain ⟨a, ns, rfl, hS, hl, tb, q⟩ := h
    refine ⟨_, (pss_cons (ps_set (i := 1) sc_law.nd rfl (.inr rfl) (pe_call G__law_feed (hr.mono (by decide)) rfl T.g__law_feed T.F__law_feed.kp T.b__law_feed .nil pass0 (pa_cons (pv 0) pa_nil)))
  (pss_cons (ps_set (i := 2) sc_law.nd rfl (.inl rfl) (pe_lst (pa_cons pe_str (pa_cons pe_bl (pa_cons pe_bl (pa_cons (pe_lst (pa_cons pe_int pa_nil)) (pa_cons (pe_tup (pa_cons pe_int (pa_cons pe_int pa_nil))) pa_nil)))))))
  (pss_cons (ps_for PassesOwn.never rfl (pi_range1 rfl T.z_range (pa_cons (pe_op op_add pe_int (pe_call G__law_take (hr.mono (by decide)) rfl T.g__law_take T.F__law_take.kp T.b__law_take .nil pass0 (pa_cons (pv 1) (pa_cons pe_int pa_nil)))) pa_nil)) (pg_name (i := 3) sc_law.nd rfl (.inl rfl)) (pss_cons (ps_set (i := 4) sc_law.nd rfl (.inl rfl) (pe_ix ix_list (pe_lst (pa_cons pe_int (pa_cons (pe_op op_pow pe_int pe_int) pa_nil))) (pe_call G__law_take (hr.mono (by decide)) rfl T.g__law_take T.F__law_take.kp T.b__law_take .nil pass0 (pa_cons (pv 1) (pa_cons pe_int pa_nil))) (fun _ _ => rfl)))
  (pss_cons (ps_set (i := 5) sc_law.nd rfl (.inl rfl) (pe_op op_add pe_int (pe_call G__law_take (hr.mono (by decide)) rfl T.g__law_take T.F__law_take.kp T.b__law_take .nil pass0 (pa_cons (pv 1) (pa_cons (pe_ix ix_list (pe_lst (pa_cons pe_int (pa_cons pe_int (pa_cons (pe_op op_pow pe_int pe_int) pa_nil)))) (pe_call G__law_take (hr.mono (by decide)) rfl T.g__law_take T.F__law_take.kp T.b__law_take .nil pass0 (pa_cons (pv 1) (pa_cons pe_int pa_nil))) (fun _ _ => rfl)) pa_nil)))))
  (pss_cons (ps_set (i := 6) sc_law.nd rfl (.inl rfl) (pe_call G__law_number (hr.mono (by decide)) rfl T.g__law_number T.F__law_number.kp T.b__law_number .nil pass0 (pa_cons (pv 1) (pa_cons (pv 4) pa_nil))))
  (pss_cons (ps_set (i := 7) sc_law.nd rfl (.inl rfl) (pe_op op_add (pe_op op_add (pv 6) pe_int) (pe_call G__law_take (hr.mono (by decide)) rfl T.g__law_take T.F__law_take.kp T.b__law_take .nil pass0 (pa_cons (pv 1) (pa_cons (pv 4) pa_nil)))))
  (pss_cons (ps_set (i := 8) sc_law.nd rfl (.inl rfl) (pe_call G__law_take (hr.mono (by decide)) rfl T.g__law_take T.F__law_take.kp T.b__law_take .nil pass0 (pa_cons (pv 1) (pa_cons pe_int pa_nil))))
  (pss_cons (ps_set (i := 9) sc_law.nd rfl (.inr rfl) (pe_make T.M_Place G_Place_init (hr.mono (by decide)) rfl T.g_Place b_Place_init2 d_Place_init2 passL (pa_cons (pe_make T.M_Ratio G_Ratio_init (hr.mono (by decide)) rfl T.g_Ratio b_Ratio_init2 d_Ratio_init2 pass0 (pa_cons (pv 6) (pa_cons (pv 5) pa_nil))) (pa_cons (pe_make T.M_Ratio G_Ratio_init (hr.mono (by decide)) rfl T.g_Ratio b_Ratio_init2 d_Ratio_init2 pass0 (pa_cons (pv 7) (pa_cons (pv 5) pa_nil))) pa_nil))))
  (pss_cons (ps_if (PW.pt (pw_or (pt_not (pt_val (pe_call G__law_refused (hr.mono (by decide)) rfl T.g__law_refused T.F__law_refused.kp T.b__law_refused .nil pass0 (pa_cons (pe_make T.M_Ratio G_Ratio_init (hr.mono (by decide)) rfl T.g_Ratio b_Ratio_init2 d_Ratio_init2 pass0 (pa_cons (pv 7) (pa_cons (pv 5) pa_nil))) (pa_cons (pe_make T.M_Ratio G_Ratio_init (hr.mono (by decide)) rfl T.g_Ratio b_Ratio_init2 d_Ratio_init2 pass0 (pa_cons (pv 6) (pa_cons (pv 5) pa_nil))) (pa_cons pe_str pa_nil)))))) (pw_or1 (pt_not (pt_val (pe_call G__law_refused (hr.mono (by decide)) rfl T.g__law_refused T.F__law_refused.kp T.b__law_refused .nil pass0 (pa_cons (pv 6) (pa_cons (pv 6) (pa_cons pe_str pa_nil))))))))) (pss_one (ps_ret pe_bl)) pss_nil)
  (pss_cut (ps_if (pt_cmpR op_lt (pv 8) pe_int (nomark _)) (pss_cons (ps_set (i := 7) sc_law.nd rfl (.inl rfl) pe_non)
  (pss_one (ps_set (i := 9) sc_law.nd rfl (.inr rfl) (pe_makeK0 T.M_Place G_Place_init (hr.mono (by decide)) rfl T.g_Place kb_Place passL (pk_cons (pe_make T.M_Ratio G_Ratio_init (hr.mono (by decide)) rfl T.g_Ratio b_Ratio_init2 d_Ratio_init2 pass0 (pa_cons (pv 6) (pa_cons (pv 5) pa_nil))) pk_nil))))) pss_nil)
  (pss_cut (ps_if (pt_cmpR op_eq (pv 8) pe_int (nomark _)) (pss_cons (ps_set (i := 6) sc_law.nd rfl (.inl rfl) pe_non)
  (pss_one (ps_set (i := 9) sc_law.nd rfl (.inr rfl) (pe_make0 T.M_Place G_Place_init (hr.mono (by decide)) rfl T.g_Place b_Place_init0 d_Place_init0 passL)))) pss_nil)
  (pss_cons (ps_if (PW.pt (pw_or (pt_not (pt_val (pe_call G__law_place_is (hr.mono (by decide)) rfl T.g__law_place_is T.F__law_place_is.kp T.b__law_place_is .nil pass0 (pa_cons (pv 9) (pa_cons (pv 6) (pa_cons (pv 7) (pa_cons (pv 5) pa_nil))))))) (pw_or1 (pt_not (pt_val (pe_call G__law_asked (hr.mono (by decide)) rfl T.g__law_asked T.F__law_asked.kp T.b__law_asked .nil pass0 (pa_cons (pv 1) (pa_cons (pv 9) (pa_cons (pv 6) (pa_cons (pv 7) (pa_cons (pv 5) pa_nil))))))))))) (pss_one (ps_ret pe_bl)) pss_nil)
  (pss_cons (ps_set (i := 10) sc_law.nd rfl (.inl rfl) (pe_call G__law_number (hr.mono (by decide)) rfl T.g__law_number T.F__law_number.kp T.b__law_number .nil pass0 (pa_cons (pv 1) (pa_cons (pv 4) pa_nil))))
  (pss_cons (ps_set (i := 11) sc_law.nd rfl (.inl rfl) (pe_meth (pv 9) T.k_Place.cl T.m_Place_moved G_Place_moved (hr.mono (by decide)) T.b_Place_moved .nil passL (pa_cons (pe_make T.M_Ratio G_Ratio_init (hr.mono (by decide)) rfl T.g_Ratio b_Ratio_init2 d_Ratio_init2 pass0 (pa_cons (pv 10) (pa_cons (pv 5) pa_nil))) pa_nil)))
  (pss_cons (ps_if (pt_not (pt_val (pe_call G__law_place_is (hr.mono (by decide)) rfl T.g__law_place_is T.F__law_place_is.kp T.b__law_place_is .nil pass0 (pa_cons (pv 11) (pa_cons (pe_call G__law_plus (hr.mono (by decide)) rfl T.g__law_plus T.F__law_plus.kp T.b__law_plus .nil pass0 (pa_cons (pv 6) (pa_cons (pv 10) pa_nil))) (pa_cons (pe_call G__law_plus (hr.mono (by decide)) rfl T.g__law_plus T.F__law_plus.kp T.b__law_plus .nil pass0 (pa_cons (pv 7) (pa_cons (pv 10) pa_nil))) (pa_cons (pv 5) pa_nil))))))) (pss_one (ps_ret pe_bl)) pss_nil)
  (pss_cons (ps_set (i := 12) sc_law.nd rfl (.inr rfl) (pe_op op_add pe_int (pe_call G__law_take (hr.mono (by decide)) rfl T.g__law_take T.F__law_take.kp T.b__law_take .nil pass0 (pa_cons (pv 1) (pa_cons (pv 4) pa_nil)))))
  (pss_cons (ps_set (i := 13) sc_law.nd rfl (.inl rfl) (pe_meth (pv 9) T.k_Place.cl T.m_Place_stretched G_Place_stretched (hr.mono (by decide)) T.b_Place_stretched .nil passL (pa_cons (pe_make T.M_Ratio G_Ratio_init (hr.mono (by decide)) rfl T.g_Ratio b_Ratio_init2 d_Ratio_init2 pass0 (pa_cons (pv 12) (pa_cons pe_int pa_nil))) pa_nil)))
  (pss_cons (ps_if (pt_not (pt_val (pe_call G__law_place_is (hr.mono (by decide)) rfl T.g__law_place_is T.F__law_place_is.kp T.b__law_place_is .nil pass0 (pa_cons (pv 13) (pa_cons (pe_call G__law_times (hr.mono (by decide)) rfl T.g__law_times T.F__law_times.kp T.b__law_times .nil pass0 (pa_cons (pv 6) (pa_cons (pv 12) pa_nil))) (pa_cons (pe_call G__law_times (hr.mono (by decide)) rfl T.g__law_times T.F__law_times.kp T.b__law_times .nil pass0 (pa_cons (pv 7) (pa_cons (pv 12) pa_nil))) (pa_cons (pe_op op_mulW pe_int (pv 5)) pa_nil))))))) (pss_one (ps_ret pe_bl)) pss_nil)
  (pss_cons (ps_if (PW.pt (pw_or (pt_not (pt_val (pe_call G__law_flag (hr.mono (by decide)) rfl T.g__law_flag T.F__law_flag.kp T.b__law_flag .nil pass0 (pa_cons (pe_cmpR (op_eq_own T.k_Place.ow T.m_Place___eq__ G_Place___eq__ (hr.mono (by decide)) T.b_Place___eq__ pass0) (pv 9) (pv 11) (nomark _)) (pa_cons (imp_pE (t' := tDue3) (pe_or (pe_cmpR op_isN (pv 6) pe_non (nomark _)) (pe_one (pe_cmpR op_eq (pv 10) pe_int (nomark _)))) (by
        intro σ H Q hh
        obtain ⟨lo, m, h6, h10, q⟩ := hh
        cases lo with
        | none =>
          rw [decide_eq_true rfl, Bool.true_or] at q
          exact ⟨_, h6, rfl, _, rfl, iteTe (decide_eq_true rfl) q⟩
        | some l =>
          rw [show (decide (topV (some l) = V.non) || decide (m = 0)) = decide (V.int m = V.int 0) by rw [Bool.eq_iff_iff]; simp] at q
          exact ⟨_, h6, rfl, _, rfl, iteFe (decide_eq_false fun z => by cases z) ⟨_, h10, rfl, q⟩⟩)) pa_nil))))) (pw_or1 (pt_not (pt_val (pe_call G__law_flag (hr.mono (by decide)) rfl T.g__law_flag T.F__law_flag.kp T.b__law_flag .nil pass0 (pa_cons (pe_cmpR (op_eq_own T.k_Place.ow T.m_Place___eq__ G_Place___eq__ (hr.mono (by decide)) T.b_Place___eq__ pass0) (pe_meth (pv 11) T.k_Place.cl T.m_Place_moved G_Place_moved (hr.mono (by decide)) T.b_Place_moved .nil passL (pa_cons (pe_make T.M_Ratio G_Ratio_init (hr.mono (by decide)) rfl T.g_Ratio b_Ratio_init2 d_Ratio_init2 pass0 (pa_cons (pe_un un_neg (pv 10)) (pa_cons (pv 5) pa_nil))) pa_nil)) (pv 9) (nomark _)) (pa_cons pe_bl pa_nil)))))))) (pss_one (ps_ret pe_bl)) pss_nil)
  (pss_cons (ps_if (PW.pt (pw_or (pt_not (pt_val (pe_call G__law_flag (hr.mono (by decide)) rfl T.g__law_flag T.F__law_flag.kp T.b__law_flag .nil pass0 (pa_cons (pe_cmpR (op_eq_own T.k_Place.ow T.m_Place___eq__ G_Place___eq__ (hr.mono (by decide)) T.b_Place___eq__ pass0) (pv 9) (pe_make T.M_Place G_Place_init (hr.mono (by decide)) rfl T.g_Place b_Place_init1 d_Place_init1 passL (pa_cons (pe_un un_neg (pe_op op_pow pe_int pe_int)) pa_nil)) (nomark _)) (pa_cons pe_bl pa_nil))))) (pw_or1 (pt_not (pt_val (pe_call G__law_flag (hr.mono (by decide)) rfl T.g__law_flag T.F__law_flag.kp T.b__law_flag .nil pass0 (pa_cons (pe_cmpR (op_eq_own T.k_Place.ow T.m_Place___eq__ G_Place___eq__ (hr.mono (by decide)) T.b_Place___eq__ pass0) (pe_make T.M_Place G_Place_init (hr.mono (by decide)) rfl T.g_Place b_Place_init2 d_Place_init2 passL (pa_cons (pe_un un_neg (pe_op op_pow pe_int pe_int)) (pa_cons (pe_op op_pow pe_int pe_int) pa_nil))) (pv 9) (nomark _)) (pa_cons pe_bl pa_nil)))))))) (pss_one (ps_ret pe_bl)) pss_nil)
  (pss_cons (ps_set (i := 14) sc_law.nd rfl (.inr rfl) (pe_ix ix_list (pv 2) (pe_call G__law_take (hr.mono (by decide)) rfl T.g__law_take T.F__law_take.kp T.b__law_take .nil pass0 (pa_cons (pv 1) (pa_cons pe_int pa_nil))) (fun _ _ => rfl)))
  (pss_cons (ps_if (PW.pt (pw_or (pt_not (pt_val (pe_call G__law_refused (hr.mono (by decide)) rfl T.g__law_refused T.F__law_refused.kp T.b__law_refused .nil pass0 (pa_cons (pv 14) (pa_cons (pv 14) (pa_cons pe_str pa_nil)))))) (pw_or (pt_not (pt_val (pe_call G__law_refused (hr.mono (by decide)) rfl T.g__law_refused T.F__law_refused.kp T.b__law_refused .nil pass0 (pa_cons pe_int (pa_cons (pv 14) (pa_cons pe_str pa_nil)))))) (pw_or1 (pt_not (pt_val (pe_call G__law_refused (hr.mono (by decide)) rfl T.g__law_refused T.F__law_refused.kp T.b__law_refused .nil pass0 (pa_cons pe_non (pa_cons (pv 14) (pa_cons pe_str pa_nil)))))))))) (pss_one (ps_ret pe_bl)) pss_nil)
  (pss_cons (ps_if (PW.pt (pw_or (pt_not (pt_val (pe_call G__law_refused (hr.mono (by decide)) rfl T.g__law_refused T.F__law_refused.kp T.b__law_refused .nil pass0 (pa_cons pe_non (pa_cons pe_int (pa_cons pe_str pa_nil)))))) (pw_or1 (pt_not (pt_val (pe_call G__law_refused (hr.mono (by decide)) rfl T.g__law_refused T.F__law_refused.kp T.b__law_refused .nil pass0 (pa_cons (pv 14) (pa_cons pe_int (pa_cons pe_str pa_nil))))))))) (pss_one (ps_ret pe_bl)) pss_nil)
  (pss_cons (ps_if (pt_cmpR op_ne (LamX.pe_lamcall (k := 9) (T := tabL A) (TT := TTw A.NoNumber) rfl T.g__law_word T.F__law_word.kp lk__law_word hc__law_word hb__law_word sc__law_word rfl (.inl rfl) (word_gives T.g_NoNumber T.em_NoNumber T.x_NoNumber T.n_NoNumber_word) (B _ mem_law) rfl tab_law (hu_law T) (hr.mono (by decide)) (LamX.lamS_by (sc := defScope s_law) (by decide +kernel)) rfl (fun _ _ _ _ _ => rfl) (fun A1 o1 s1 H1 E1 f1 c1 hr => (pe_meth (pv 9) T.k_Place.cl T.m_Place_moved G_Place_moved (hr.mono (by decide)) T.b_Place_moved .nil passLam (pa_cons (pv 14) pa_nil)))) pe_str (nomark _)) (pss_one (ps_ret pe_bl)) pss_nil)
  (pss_cons (ps_if (pt_cmpR op_ne (LamX.pe_lamcall (k := 9) (T := tabL A) (TT := TTw A.NoNumber) rfl T.g__law_word T.F__law_word.kp lk__law_word hc__law_word hb__law_word sc__law_word rfl (.inl rfl) (word_gives T.g_NoNumber T.em_NoNumber T.x_NoNumber T.n_NoNumber_word) (B _ mem_law) rfl tab_law (hu_law T) (hr.mono (by decide)) (LamX.lamS_by (sc := defScope s_law) (by decide +kernel)) rfl (fun _ _ _ _ _ => rfl) (fun A1 o1 s1 H1 E1 f1 c1 hr => (pe_meth (pv 9) T.k_Place.cl T.m_Place_stretched G_Place_stretched (hr.mono (by decide)) T.b_Place_stretched .nil passLam (pa_cons (pe_ix (ix_listK (K := K) rfl) (pe_lst (pa_cons (pv 14) (pa_cons pe_non (pa_cons pe_int (pa_cons (pe_un un_neg (pv 12)) pa_nil))))) (pe_call G__law_take (hr.mono (by decide)) rfl T.g__law_take T.F__law_take.kp T.b__law_take .nil pass0 (pa_cons (pv 1) (pa_cons pe_int pa_nil))) (fun _ _ => rfl)) pa_nil)))) pe_str (nomark _)) (pss_one (ps_ret pe_bl)) pss_nil)
  (pss_one (ps_if (pt_not (pt_val (pe_call G__law_place_is (hr.mono (by decide)) rfl T.g__law_place_is T.F__law_place_is.kp T.b__law_place_is .nil pass0 (pa_cons (pv 9) (pa_cons (pv 6) (pa_cons (pv 7) (pa_cons (pv 5) pa_nil))))))) (pss_one (ps_ret pe_bl)) pss_nil))))))))))))))))))))))))))
  (pss_one (ps_ret pe_bl))))), ?_⟩
    refine ⟨_, rfl, a, ns, rfl, hS, hl, fun H1 f s1 F1 _ => ?_⟩
    have tb1 := tb.ext s1
    -- the strange values
    refine ⟨by show 1 ≤ sizeLine; decide, fun l1 n1 => ⟨by show 2 ≤ sizeLine; decide, fun l2 n2 => ⟨by show 5 ≤ sizeLine; decide, fun p np => ?_⟩⟩⟩
    have B0 : Bun A (upd (upd (upd H1 l1 (.lst [.int 1])) l2 (.tup [.int 1, .int 2])) p (.lst [.str "1", .bl true, .bl false, .ref l1, .ref l2])) f p := by
      have sa := same_upd (o := .lst [V.int 1]) n1
      have sb := same_upd (o := .tup [V.int 1, .int 2]) n2
      have sc := same_upd (o := .lst [V.str "1", .bl true, .bl false, .ref l1, .ref l2]) np
      refine ⟨((F1.same sa).same sb).same sc, ((tb1.ext sa).ext sb).ext sc, _, upd_same, rfl, fun x hx => ?_⟩
      simp only [List.mem_cons, List.not_mem_nil, or_false] at hx
      rcases hx with e | e | e | e | e <;> subst e
      · exact .inl ⟨_, rfl⟩
      · exact .inr (.inl ⟨_, rfl⟩)
      · exact .inr (.inl ⟨_, rfl⟩)
      · exact .inr (.inr (.inl ⟨_, rfl, sc _ _ (sb _ _ upd_same)⟩))
      · exact .inr (.inr (.inr ⟨_, rfl, sc _ _ upd_same⟩))
    show tSeq _ _ _ _ (upd (upd (upd H1 l1 (.lst [.int 1])) l2 (.tup [.int 1, .int 2])) p (.lst [.str "1", .bl true, .bl false, .ref l1, .ref l2]))
    generalize upd (upd (upd H1 l1 (.lst [.int 1])) l2 (.tup [.int 1, .int 2])) p (.lst [.str "1", .bl true, .bl false, .ref l1, .ref l2]) = He at B0
    clear n1 n2 np
    refine ⟨_, rfl, f, 6, rfl, B0.F, by decide, .ab (by decide) (by decide), fun H2 v v0 v1 st => ⟨_, _, rfl, rfl, _, rfl, by omega, by omega, ?_⟩⟩
    refine for_range (lo := 0) (fun i σ H' => (∃ y3 y4 y5 y6 y7 y8 y9 y10 y11 y12 y13 y14, σ = [some (.ref a), some (.ref f), some (.ref p), y3, y4, y5, y6, y7, y8, y9, y10, y11, y12, y13, y14]) ∧ Bun A H' f p) ⟨⟨_, _, _, _, _, _, _, _, _, _, _, _, rfl⟩, B0.stp st⟩ ?_ (fun σ H' _ => q H')
    clear st F1 hS tb tb1 s1 B0
    rintro i σ H0 hi ⟨⟨y3, y4, y5, y6, y7, y8, y9, y10, y11, y12, y13, y14, rfl⟩, B0⟩
    -- size
    refine ⟨_, _, rfl, rfl, ⟨by decide, by decide, by decide⟩, by show 2 ≤ sizeLine; decide, fun p1 np => ?_⟩
    have B1 := B0.same (same_upd (o := .lst [V.int 5, .int (10 ^ (39 : Int).toNat)]) np)
    refine ⟨_, rfl, f, 2, rfl, B1.F, by decide, .ab (by decide) (by decide), fun H3 k k0 k1 st3 => ?_⟩
    have pf : p1 ≠ f := (B0.F.lt np).symm
    have hp3 := st3.keep _ _ pf upd_same
    obtain ⟨z, hz, z0, z1⟩ : ∃ z : Int, atI [V.int 5, .int (10 ^ (39 : Int).toNat)] k = some (.int z) ∧ 0 < z ∧ z ≤ 1000000000000000000000000000000000000000 := by
      rcases (by omega : k = 0 ∨ k = 1) with e | e <;> subst e
      · exact ⟨_, rfl, by decide, by decide⟩
      · exact ⟨_, rfl, by decide, by decide⟩
    refine ⟨p1, _, k, _, rfl, rfl, .of hp3, hz, ?_⟩
    have B3 := B1.stp st3
    clear hp3 pf np st3 B1 B0 hz k0 k1
    have sz : Sm z := .ab (by omega) (by omega)
    -- bottom
    refine ⟨_, rfl, _, _, rfl, rfl, ⟨by decide, by decide, by decide⟩, by show 3 ≤ sizeLine; decide, fun p2 np => ?_⟩
    have B4 := B3.same (same_upd (o := .lst [V.int 1, .int 9, .int (10 ^ (39 : Int).toNat)]) np)
    refine ⟨_, rfl, f, 3, rfl, B4.F, by decide, .ab (by decide) (by decide), fun H5 k2 k0 k1 st5 => ?_⟩
    have pf : p2 ≠ f := (B3.F.lt np).symm
    have hp5 := st5.keep _ _ pf upd_same
    obtain ⟨z2, hz, z20, z21⟩ : ∃ z : Int, atI [V.int 1, .int 9, .int (10 ^ (39 : Int).toNat)] k2 = some (.int z) ∧ 0 < z ∧ z ≤ 1000000000000000000000000000000000000000 := by
      rcases (by omega : k2 = 0 ∨ k2 = 1 ∨ k2 = 2) with e | e | e <;> subst e
      · exact ⟨_, rfl, by decide, by decide⟩
      · exact ⟨_, rfl, by decide, by decide⟩
      · exact ⟨_, rfl, by decide, by decide⟩
    have B5 := B4.stp st5
    refine ⟨p2, _, k2, _, rfl, rfl, .of hp5, hz, f, z2, rfl, B5.F, z20, .ab (by omega) (by omega), fun H6 bb bb0 bb1 st6 => ⟨_, _, rfl, rfl, ?_⟩⟩
    have B6 := B5.stp st6
    clear hp5 pf np st5 st6 B3 B4 B5 hz k0 k1
    -- low, high, kind
    refine ⟨_, rfl, _, rfl, f, z, rfl, B6.F, z0, sz, fun H7 l l0 l9 st7 => ?_⟩
    have B7 := B6.stp st7
    refine ⟨_, rfl, _, _, rfl, rfl, _, rfl, _, rfl, f, z, rfl, B7.F, z0, sz, fun H8 u u0 u1 st8 => ⟨_, _, rfl, rfl, ?_⟩⟩
    have B8 := B7.stp st8
    refine ⟨_, rfl, f, 3, rfl, B8.F, by decide, .ab (by decide) (by decide), fun H9 kd kd0 kd1 st9 => ?_⟩
    have B9 := B8.stp st9
    clear B6 B7 B8 st7 st8 st9
    have b0 : 0 < 1 + bb := by omega
    have sb : Szd (1 + bb) := by
      show (1 + bb).natAbs < 2 ^ 132
      omega
    have el : Ends (some l) (some (l + 1 + u)) := ⟨by show l.natAbs < 2 ^ 131; omega, by show (l + 1 + u).natAbs < 2 ^ 131; omega, l, rfl, by omega⟩
    have qi : ∀ {i : Int} {G : Hp}, i.natAbs < 2 ^ 140 → IsQ A.Ratio 140 G (.int i) i 1 := fun h => IsQ.int h (by decide)
    have rat : ∀ {i c : Int} {G : Hp} {v : V} {t' b' : Int}, i.natAbs < 2 ^ 132 → 0 < c → c.natAbs < 2 ^ 132 → RatAt A.Ratio G v t' b' → Norm i c t' b' → IsR A.Ratio 140 G v i c := fun hi hc hc2 r nm =>
      ⟨_, _, r, nm.pos, hc, nm.cross, nle (Nat.lt_of_le_of_lt nm.le1 hi) (by decide), nle (Nat.lt_of_le_of_lt nm.le2 hc2) (by decide)⟩
    have sl : l.natAbs < 2 ^ 132 := by omega
    have sh : (l + 1 + u).natAbs < 2 ^ 132 := by omega
    -- the place
    refine ⟨_, rfl, _, rfl, fun x1 dx1 nx1 nd1 ne1 => ⟨x1, dx1, _, _, rfl, upd_same, by omega, sb.sm, fun t1 c1 nm1 => ⟨rfl, ?_⟩⟩⟩
    obtain ⟨s1, r1⟩ := made (C := A.Ratio) nx1 nd1 ne1 t1 c1
    refine ⟨_, rfl, _, rfl, fun x2 dx2 nx2 nd2 ne2 => ⟨x2, dx2, _, _, rfl, upd_same, by omega, sb.sm, fun t2 c2 nm2 => ⟨rfl, ?_⟩⟩⟩
    obtain ⟨s2, r2⟩ := made (C := A.Ratio) nx2 nd2 ne2 t2 c2
    have B10 := (B9.same s1).same s2
    refine fun x dx nx nd ne => place_made (lo := over (1 + bb) (some l)) (hi := over (1 + bb) (some (l + 1 + u))) (n := 140) (by decide) nx nd (rat sl b0 sb (r1.same s2) nm1) (rat sh b0 sb r2 nm2) (el.order b0) fun G s3 hp => ⟨rfl, ?_⟩
    have B11 := B10.same s3
    clear r1 r2 nm1 nm2 nx nd ne nx1 nd1 ne1 nx2 nd2 ne2 s1 s2 s3 B9 B10
    -- refused: the wrong order
    refine ⟨_, rfl, _, rfl, fun x1 dx1 nx1 nd1 ne1 => ⟨x1, dx1, _, _, rfl, upd_same, by omega, sb.sm, fun t1 c1 nm1 => ⟨rfl, ?_⟩⟩⟩
    obtain ⟨s1, r1⟩ := made (C := A.Ratio) nx1 nd1 ne1 t1 c1
    refine ⟨_, rfl, _, rfl, fun x2 dx2 nx2 nd2 ne2 => ⟨x2, dx2, _, _, rfl, upd_same, by omega, sb.sm, fun t2 c2 nm2 => ⟨rfl, ?_⟩⟩⟩
    obtain ⟨s2, r2⟩ := made (C := A.Ratio) nx2 nd2 ne2 t2 c2
    have q1 := rat sh b0 sb (r1.same s2) nm1
    have q2 := rat sl b0 sb r2 nm2
    have hp2 := (hp.same s1).same s2
    have B12 := (B11.same s1).same s2
    refine ⟨_, _, "order", rfl, .inr (.inr ⟨some (l + 1 + u, 1 + bb), 140, l, 1 + bb, by decide, IsR.toQ q1, IsR.toQ q2, fun d hd => ?_, rfl⟩), fun G2 s3 => ⟨true, rfl, iteF ?_⟩⟩
    · cases hd
      exact ⟨Int.mul_le_mul_of_nonneg_right (show l ≤ l + 1 + u by omega) (by omega), .inr q1.ins⟩
    have hp3 := hp2.same s3
    have B13 := B12.same s3
    clear q1 q2 r1 r2 nm1 nm2 nx1 nd1 ne1 nx2 nd2 ne2 s1 s2 s3 B11 B12 hp hp2
    have s140 : l.natAbs < 2 ^ 140 := by omega
    refine ⟨_, rfl, _, rfl, _, _, "order", rfl, .inr (.inr ⟨some (l, 1), 140, l, 1, by decide, qi s140, qi s140, fun d hd => ?_, rfl⟩), fun G3 s3 => ⟨true, rfl, iteF ?_⟩⟩
    · cases hd
      exact ⟨Int.le_refl _, .inl ⟨l, l, rfl, rfl⟩⟩
    have hp4 := hp3.same s3
    have B14 := B13.same s3
    clear s3 hp3 B13
    -- a half line, a line
    refine ⟨fun σ' H' => ∃ (hi : Option Int) (w : V), Ends (some l) hi ∧ (kd < 2 → hi = none) ∧ Bun A H' f p ∧ PlaceAt A 140 H' w (over (1 + bb) (some l)) (over (1 + bb) hi) ∧
      σ' = [some (.ref a), some (.ref f), some (.ref p), some (.int (0 + i)), some (.int z), some (.int (1 + bb)), some (.int l), some (topV hi), some (.int kd), some w, y10, y11, y12, y13, y14], ?_, ?_⟩
    · refine ⟨_, rfl, _, _, rfl, rfl, _, rfl, ?_⟩
      refine ite2 (fun c => ?_) (fun c => ⟨some (l + 1 + u), _, el, fun hk => absurd (decide_eq_true hk) c, B14, hp4, rfl⟩)
      refine ⟨_, rfl, _, rfl, fun x1 dx1 nx1 nd1 ne1 => ⟨x1, dx1, _, _, rfl, upd_same, by omega, sb.sm, fun t1 c1 nm1 => ⟨rfl, ?_⟩⟩⟩
      obtain ⟨s1, r1⟩ := made (C := A.Ratio) nx1 nd1 ne1 t1 c1
      refine ⟨rfl, rfl, fun x dx nx nd ne => place_made (lo := over (1 + bb) (some l)) (hi := none) (n := 140) (by decide) nx nd (rat sl b0 sb r1 nm1) rfl True.intro fun G s3 hp => ⟨rfl, ?_⟩⟩
      exact ⟨none, _, ⟨el.s1, True.intro, True.intro⟩, fun _ => rfl, (B14.same s1).same s3, hp, rfl⟩
    clear hp4 B14
    rintro σ' G0 ⟨hi, w, e1, hk, B1, hp1, rfl⟩
    refine ⟨fun σ' H' => ∃ (lo hi : Option Int) (w : V) (b : Int), 0 < b ∧ Szd b ∧ Ends lo hi ∧ Bun A H' f p ∧ PlaceAt A 140 H' w (over b lo) (over b hi) ∧
      σ' = [some (.ref a), some (.ref f), some (.ref p), some (.int (0 + i)), some (.int z), some (.int b), some (topV lo), some (topV hi), some (.int kd), some w, y10, y11, y12, y13, y14], ?_, ?_⟩
    · refine ⟨_, rfl, rfl, _, rfl, ?_⟩
      refine ite2 (fun c => ?_) (fun c => ⟨some l, hi, _, _, b0, sb, e1, B1, hp1, rfl⟩)
      refine fun x dx nx nd ne => place_make (lo := none) (hi := none) (n := 140) (by decide) nx nd rfl rfl (fun h => absurd rfl h) True.intro fun G s3 hp => ⟨rfl, ?_⟩
      have ek : kd = 0 := V.int.inj (of_decide_eq_true c)
      have := hk (by omega)
      subst this
      exact ⟨none, none, _, _, b0, sb, ⟨True.intro, True.intro, True.intro⟩, B1.same s3, hp, rfl⟩
    clear hp1 B1 e1 hk el sl sh b0 sb s140 hi w
    rintro σ' G0 ⟨lo, hi, w, b, b0, sb, el, B1, hp1, rfl⟩
    have n140 : (140 : Nat) ≤ 1000 := by decide
    -- the fields, the numbers beside the ends
    have tlo := top_over (b := b) el.s1
    have thi := top_over (b := b) el.s2
    refine ⟨_, rfl, _, rfl, _, rfl, _, rfl, w, topV lo, topV hi, b, 140, over b lo, over b hi, rfl, n140, hp1, tlo, thi, b0, sb.sm, true, rfl, iteF ?_⟩
    refine ⟨_, rfl, _, rfl, _, rfl, _, rfl, _, rfl, f, w, lo, hi, b, 140, rfl, n140, Nat.le_refl _, B1.F, hp1, b0, sb, el.s1, el.s2, fun G1 st1 => ⟨true, rfl, iteF ?_⟩⟩
    have hp2 := hp1.stp B1.F st1
    have B2 := B1.stp st1
    clear hp1 B1 st1
    -- moved
    refine ⟨_, rfl, _, rfl, f, z, rfl, B2.F, z0, sz, fun G2 m m0 m1 st2 => ?_⟩
    have hp3 := hp2.stp B2.F st2
    have B3 := B2.stp st2
    have sm : Szd m := by
      show m.natAbs < 2 ^ 132
      omega
    clear hp2 B2 st2
    obtain ⟨pa, px, pu, pv', pe, ph, _, _⟩ := id hp3
    refine ⟨_, rfl, pa, px, _, pe, ph, rfl, _, rfl, _, rfl, fun x1 dx1 nx1 nd1 ne1 => ⟨x1, dx1, _, _, rfl, upd_same, by omega, sb.sm, fun t1 c1 nm1 => ⟨rfl, ?_⟩⟩⟩
    obtain ⟨s1, r1⟩ := made (C := A.Ratio) nx1 nd1 ne1 t1 c1
    have hp4 := hp3.same s1
    refine ⟨w, _, rfl, .inl ⟨140, 140, over b lo, over b hi, m, b, by decide, hp4, rat sm b0 sb r1 nm1, el.order b0, fun G4 w2 s4 hm4 => ?_⟩⟩
    have hp5 := hp4.same s4
    have B5 := (B3.same s1).same s4
    clear hp3 hp4 s1 s4 B3 r1 nm1 nx1 nd1 ne1 ph pe
    refine ⟨_, rfl, _, rfl, _, rfl, lo, m, rfl, _, rfl, _, rfl, hi, m, rfl, _, rfl, w2, _, _, b, 281, mapO f_mv m b (over b lo), mapO f_mv m b (over b hi), rfl, by decide, hm4, top_mv el.s1 sm, top_mv el.s2 sm, b0, sb.sm, true, rfl, iteF ?_⟩
    -- stretched
    refine ⟨_, rfl, _, rfl, f, z, rfl, B5.F, z0, sz, fun G6 tt tt0 tt1 st6 => ⟨_, _, rfl, rfl, ?_⟩⟩
    have hp6 := hp5.stp B5.F st6
    have hm6 := hm4.stp B5.F st6
    have B6 := B5.stp st6
    have st : Szd (1 + tt) := by
      show (1 + tt).natAbs < 2 ^ 132
      omega
    clear hp5 hm4 B5 st6
    obtain ⟨pa, px, pu, pv', pe, ph, _, _⟩ := id hp6
    refine ⟨_, rfl, pa, px, _, pe, ph, rfl, _, rfl, fun x1 dx1 nx1 nd1 ne1 => ⟨x1, dx1, _, _, rfl, upd_same, by decide, .ab (by decide) (by decide), fun t1 c1 nm1 => ⟨rfl, ?_⟩⟩⟩
    obtain ⟨s1, r1⟩ := made (C := A.Ratio) nx1 nd1 ne1 t1 c1
    have hp7 := hp6.same s1
    refine ⟨w, _, rfl, .inl ⟨140, 140, over b lo, over b hi, 1 + tt, 7, by decide, hp7, rat st (by decide) (by decide) r1 nm1, by omega, el.order b0, fun G8 w3 s8 hs8 => ?_⟩⟩
    have hp8 := hp7.same s8
    have hm8 := (hm6.same s1).same s8
    have B8 := (B6.same s1).same s8
    clear hp6 hp7 hm6 s1 s8 B6 r1 nm1 nx1 nd1 ne1 ph pe
    refine ⟨_, rfl, _, rfl, _, rfl, lo, 1 + tt, rfl, el.s1.sm, st.sm, _, rfl, _, rfl, hi, 1 + tt, rfl, el.s2.sm, st.sm, _, rfl, _, _, rfl, rfl, (Sm.ab (by decide) (by decide) : Sm 7).mul sb.sm, w3, _, _, 7 * b, 281, mapO f_st (1 + tt) 7 (over b lo), mapO f_st (1 + tt) 7 (over b hi), rfl, by decide, hs8, top_st el.s1 st, top_st el.s2 st, by omega,
      Sm.of (k := 136) (by have : b.natAbs < 2 ^ 132 := sb; omega) (by decide), true, rfl, iteF ?_⟩
    -- == of places
    clear hs8
    have n281 : (281 : Nat) ≤ 1000 := by decide
    have e1 := same_mv (n := m) b0 el
    refine ⟨_, rfl, _, rfl, hp8.ins, .inr hm8.ins, w, w2, 140, 281, _, _, _, _, rfl, n140, n281, hp8, hm8, lo, m, rfl, rfl, _, _, rfl, _, rfl, iteFe (by rw [e1, beq_self_eq_true]; rfl) ?_⟩
    obtain ⟨pa, px, pu, pv', pe, ph, _, _⟩ := id hm8
    refine ⟨_, rfl, pa, px, _, pe, ph, rfl, _, rfl, _, rfl, _, rfl, fun x1 dx1 nx1 nd1 ne1 => ⟨x1, dx1, _, _, rfl, upd_same, by omega, sb.sm, fun t1 c1 nm1 => ⟨rfl, ?_⟩⟩⟩
    obtain ⟨s1, r1⟩ := made (C := A.Ratio) nx1 nd1 ne1 t1 c1
    have sm' : (-m).natAbs < 2 ^ 132 := by
      rw [Int.natAbs_neg]
      exact sm
    refine ⟨w2, _, rfl, .inl ⟨281, 140, mapO f_mv m b (over b lo), mapO f_mv m b (over b hi), -m, b, by decide, hm8.same s1, rat sm' b0 sb r1 nm1, mv_order (el.order b0) b0 (over_pos b0), fun G9 w4 s9 hb9 => ?_⟩⟩
    have hp9 := (hp8.same s1).same s9
    have B9 := (B8.same s1).same s9
    have e2 : (eqO (mapO f_mv (-m) b (mapO f_mv m b (over b lo))) (over b lo) && eqO (mapO f_mv (-m) b (mapO f_mv m b (over b hi))) (over b hi)) = true := by
      rw [back_mv, back_mv]
      rfl
    refine ⟨_, rfl, hb9.ins, .inr hp9.ins, w4, w, 422, 140, _, _, _, _, rfl, by decide, n140, hb9, hp9, _, _, rfl, _, rfl, iteFe (by rw [e2]; rfl) ?_⟩
    clear hp8 hm8 B8 s1 s9 hb9 r1 nm1 nx1 nd1 ne1 ph pe e1 e2
    -- a far place
    have s40 : (-(10 ^ (40 : Int).toNat) : Int).natAbs < 2 ^ 140 := by decide
    have s41 : (10 ^ (40 : Int).toNat : Int).natAbs < 2 ^ 140 := by decide
    have e40 : (-(10 ^ (40 : Int).toNat) : Int) = -10000000000000000000000000000000000000000 := by decide
    have e41 : (10 ^ (40 : Int).toNat : Int) = 10000000000000000000000000000000000000000 := by decide
    refine ⟨_, rfl, _, _, rfl, rfl, ⟨by decide, by decide, by decide⟩, _, rfl, ?_⟩
    refine fun x dx nx nd ne => place_make (lo := some (-(10 ^ (40 : Int).toNat), 1)) (hi := none) (n := 140) n140 nx nd (qi s40) rfl (fun h => absurd rfl h) True.intro fun G10 s10 hk => ⟨rfl, ?_⟩
    have hp10 := hp9.same s10
    have B10 := B9.same s10
    refine ⟨hp10.ins, .inr hk.ins, w, .ref x, 140, 140, _, _, _, _, rfl, n140, n140, hp10, hk, _, _, rfl, _, rfl, iteFe (by rw [(far_eq e40 b0 el.s1).1]; rfl) ?_⟩
    clear hk nx nd ne s10 B9 hp9
    refine ⟨_, _, rfl, rfl, ⟨by decide, by decide, by decide⟩, _, rfl, _, _, rfl, rfl, ⟨by decide, by decide, by decide⟩, ?_⟩
    refine fun x dx nx nd ne => place_make (lo := some (-(10 ^ (40 : Int).toNat), 1)) (hi := some (10 ^ (40 : Int).toNat, 1)) (n := 140) n140 nx nd (qi s40) (qi s41) (fun _ => .inl ⟨_, _, rfl, rfl⟩) ⟨_, rfl, by decide⟩ fun G11 s11 hk => ⟨rfl, ?_⟩
    have hp11 := hp10.same s11
    have B11 := B10.same s11
    refine ⟨_, rfl, hk.ins, .inr hp11.ins, .ref x, w, 140, 140, _, _, _, _, rfl, n140, n140, hk, hp11, _, _, rfl, _, rfl, iteFe (by rw [(far_eq e40 b0 el.s1).2]; rfl) ?_⟩
    clear hk nx nd ne s11 B10 hp10
    -- a value of another kind
    refine ⟨_, rfl, _, rfl, f, 5, rfl, B11.F, by decide, .ab (by decide) (by decide), fun G12 k k0 k1 st12 => ?_⟩
    have hp12 := hp11.stp B11.F st12
    have B12 := B11.stp st12
    obtain ⟨xs, x, hxs, hx, od⟩ := B12.get k0 k1
    refine ⟨p, xs, k, x, rfl, rfl, .of hxs, hx, ?_⟩
    clear hp11 B11 st12 hxs hx
    have q3 : ∀ {G : Hp}, IsQ A.Ratio 140 G (.int 3) 3 1 := fun {G} => qi (by decide)
    refine ⟨_, rfl, _, rfl, x, x, "low", rfl, .inl ⟨(od.no T).1, (od.no T).2, rfl⟩, fun G13 s13 => ⟨true, rfl, iteF ?_⟩⟩
    have od13 := od.same s13
    refine ⟨_, rfl, .int 3, x, "high", rfl, .inr (.inl ⟨some (3, 1), 140, q3, (od13.no T).1, (od13.no T).2, rfl⟩), fun G14 s14 => ⟨true, rfl, iteF ?_⟩⟩
    have od14 := od13.same s14
    refine ⟨_, rfl, .non, x, "high", rfl, .inr (.inl ⟨none, 140, rfl, (od14.no T).1, (od14.no T).2, rfl⟩), fun G15 s15 => ⟨true, rfl, iteF ?_⟩⟩
    refine ⟨.non, .int 3, "order", rfl, .inr (.inr ⟨none, 140, 3, 1, n140, rfl, q3, (fun d hd => by cases hd), rfl⟩), fun G16 s16 => ⟨true, rfl, iteF ?_⟩⟩
    have od16 := (od14.same s15).same s16
    refine ⟨_, rfl, x, .int 3, "low", rfl, .inl ⟨(od16.no T).1, (od16.no T).2, rfl⟩, fun G17 s17 => ⟨true, rfl, iteF ?_⟩⟩
    have ss := (((s13.trans s14).trans s15).trans s16).trans s17
    have hp17 := hp12.same ss
    have B17 := B12.same ss
    have od17 := od.same ss
    clear od13 od14 od16 s13 s14 s15 s16 s17 ss od hp12 B12
    have ns : ∀ u : Str, (!decide (V.str u = V.str u)) = false := fun u => by rw [decide_eq_true rfl]; rfl
    -- lambdas
    refine ⟨B17.tb, fun G18 e18 t18 => ?_⟩
    have hp18 := hp17.ext e18
    have B18 := B17.ext e18 t18
    have od18 := od17.keep B17.F fun b o _ d h => e18 b o h d
    obtain ⟨pa, px, pu, pv', pe, ph, _, _⟩ := id hp18
    refine ⟨_, rfl, pa, px, _, pe, ph, rfl, _, rfl, w, x, rfl, .inr ⟨(od18.no T).1, fun y ny => ⟨rfl, y, "by", rfl, upd_same, rfl, _, rfl, iteFe (ns _) ?_⟩⟩⟩
    have s19 := same_upd (o := .xd [("word", .str "by")]) ny
    have hp19 := hp18.same s19
    have B19 := B18.same s19
    have od19 := od18.same s19
    clear hp17 hp18 B17 B18 od17 od18 s19 ny pe ph e18 t18
    refine ⟨B19.tb, fun G20 e20 t20 => ?_⟩
    have hp20 := hp19.ext e20
    have B20 := B19.ext e20 t20
    have od20 := od19.keep B19.F fun b o _ d h => e20 b o h d
    obtain ⟨pa, px, pu, pv', pe, ph, _, _⟩ := id hp20
    refine ⟨_, rfl, pa, px, _, pe, ph, rfl, _, rfl, _, rfl, _, rfl, by show 4 ≤ sizeLine; decide, fun p5 np => ?_⟩
    have s21 := same_upd (o := .lst [x, V.non, .int 0, .int (-(1 + tt))]) np
    have B21 := B20.same s21
    have od21 := od20.same s21
    have hp21 := hp20.same s21
    have pf : p5 ≠ f := (B20.F.lt np).symm
    refine ⟨_, rfl, f, 4, rfl, B21.F, by decide, .ab (by decide) (by decide), fun G22 k4 k0 k1 st22 => ?_⟩
    have hl := st22.keep _ _ pf upd_same
    have hp22 := hp21.stp B21.F st22
    have B22 := B21.stp st22
    have od22 := od21.keep B21.F fun b o n _ h => st22.keep b o n h
    obtain ⟨val, hv, hw⟩ : ∃ val, atI [x, V.non, .int 0, .int (-(1 + tt))] k4 = some val ∧ (NoNum K A.Ratio G22 val ∨ ∃ i, val = .int i ∧ i ≤ 0) := by
      rcases (by omega : k4 = 0 ∨ k4 = 1 ∨ k4 = 2 ∨ k4 = 3) with e | e | e | e <;> subst e
      · exact ⟨_, rfl, .inl (od22.no T).1⟩
      · exact ⟨_, rfl, .inl (no_non T)⟩
      · exact ⟨_, rfl, .inr ⟨_, rfl, by decide⟩⟩
      · exact ⟨_, rfl, .inr ⟨_, rfl, by omega⟩⟩
    refine ⟨p5, _, k4, val, rfl, rfl, .of hl, hv, w, val, rfl, .inr ⟨hw, fun y ny => ⟨rfl, y, "by", rfl, upd_same, rfl, _, rfl, iteFe (ns _) ?_⟩⟩⟩
    have s23 := same_upd (o := .xd [("word", .str "by")]) ny
    have hp23 := hp22.same s23
    have B23 := B22.same s23
    -- the place stays
    refine ⟨_, rfl, _, rfl, _, rfl, _, rfl, w, topV lo, topV hi, b, 140, over b lo, over b hi, rfl, n140, hp23, tlo, thi, b0, sb.sm, true, rfl, iteF ?_⟩
    exact ⟨⟨_, _, _, _, _, _, _, _, _, _, _, _, rfl⟩, B23⟩
end

end Mo

namespace Mo
open PySem PySem.Spec PyProof.Rows L2 MoL MoW
open C8 (pss_cut tCut)
/-! ### what the top has written -/
theorem all_mk {l : PySem.W.OpenLaw} {w : World} {K : PySem.W.Frag} {h : Heap} {mg : Str → Option Value} {fa C_Ratio C_Place C_NoNumber C_NoPlace C_MeansError C_NoPoint f0 f1 f2 f3 f4 f5 f6 f7 f8 f9 f10 f11 f12 f13 f14 f15 f16 f17 f18 f19 f20 f21 f22 f23 f24 f25 f26 f27 f28 f29 f30 f31 f32 f33 f34 f35 f36 f37 f38 : Addr} (X : K.In h) (G : h.Ns mainGlobals mg) (hfa : mg "law" = some (.ref fa))
    {od0 an0 od1 an1 od2 an2 od3 an3 od4 an4 od5 an5 od6 an6 od7 an7 od8 an8 od9 an9 od10 an10 od11 an11 od12 an12 od13 an13 od14 an14 od15 an15 od16 an16 od17 an17 od18 an18 od19 an19 od20 an20 od21 an21 od22 an22 od23 an23 od24 an24 od25 an25 od26 an26 od27 an27 od28 an28 od29 an29 od30 an30 od31 an31 od32 an32 od33 an33 od34 an34 od35 an35 od36 an36 od37 an37 od38 an38 : Option Addr} {sl0 sl1 sl2 sl3 sl4 sl5 sl6 sl7 sl8 sl9 sl10 sl11 sl12 sl13 sl14 sl15 sl16 sl17 sl18 sl19 sl20 sl21 sl22 sl23 sl24 sl25 sl26 sl27 sl28 sl29 sl30 sl31 sl32 sl33 sl34 sl35 sl36 sl37 sl38 : Array (Option Value)} {oc0 kV0 dc0 pm0 ct0 cd0 oc1 kV1 dc1 pm1 ct1 cd1 oc2 kV2 dc2 pm2 ct2 cd2 oc3 kV3 dc3 pm3 ct3 cd3 oc4 kV4 dc4 pm4 ct4 cd4 oc5 kV5 dc5 pm5 ct5 cd5 oc6 kV6 dc6 pm6 ct6 cd6 oc7 kV7 dc7 pm7 ct7 cd7 oc8 kV8 dc8 pm8 ct8 cd8 oc9 kV9 dc9 pm9 ct9 cd9 oc10 kV10 dc10 pm10 ct10 cd10 oc11 kV11 dc11 pm11 ct11 cd11 oc12 kV12 dc12 pm12 ct12 cd12 oc13 kV13 dc13 pm13 ct13 cd13 oc14 kV14 dc14 pm14 ct14 cd14 oc15 kV15 dc15 pm15 ct15 cd15 oc16 kV16 dc16 pm16 ct16 cd16 oc17 kV17 dc17 pm17 ct17 cd17 oc18 kV18 dc18 pm18 ct18 cd18 oc19 kV19 dc19 pm19 ct19 cd19 oc20 kV20 dc20 pm20 ct20 cd20 oc21 kV21 dc21 pm21 ct21 cd21 oc22 kV22 dc22 pm22 ct22 cd22 oc23 kV23 dc23 pm23 ct23 cd23 oc24 kV24 dc24 pm24 ct24 cd24 oc25 kV25 dc25 pm25 ct25 cd25 oc26 kV26 dc26 pm26 ct26 cd26 oc27 kV27 dc27 pm27 ct27 cd27 oc28 kV28 dc28 pm28 ct28 cd28 oc29 kV29 dc29 pm29 ct29 cd29 oc30 kV30 dc30 pm30 ct30 cd30 oc31 kV31 dc31 pm31 ct31 cd31 oc32 kV32 dc32 pm32 ct32 cd32 oc33 kV33 dc33 pm33 ct33 cd33 oc34 kV34 dc34 pm34 ct34 cd34 oc35 kV35 dc35 pm35 ct35 cd35 oc36 kV36 dc36 pm36 ct36 cd36 oc37 kV37 dc37 pm37 ct37 cd37 oc38 kV38 dc38 pm38 ct38 : Value} {T2 : Addr} {td2 : Option Addr} {tn2 : Nat} {ts2 : Array (Option Value)} {tt2_0 : Tok} {T18 : Addr} {td18 : Option Addr} {tn18 : Nat} {ts18 : Array (Option Value)} {nm_NoNumber q_NoNumber : Str} {N_NoNumber : Addr} {bs_NoNumber sub_NoNumber : List Value} {sn_NoNumber : List Str} {ab_NoNumber : Bool} {col_NoNumber : Option Bool} {dd_NoNumber : Option Addr} {m0_NoNumber m1_NoNumber m2_NoNumber m3_NoNumber m5_NoNumber : Option Value} {nm_NoPlace q_NoPlace : Str} {N_NoPlace : Addr} {bs_NoPlace sub_NoPlace : List Value} {sn_NoPlace : List Str} {ab_NoPlace : Bool} {col_NoPlace : Option Bool} {dd_NoPlace : Option Addr} {m0_NoPlace m1_NoPlace m2_NoPlace m3_NoPlace m5_NoPlace : Option Value} {tC38 tP38 : Addr}
    (g_Ratio : PySem.W.nsIn K mainGlobals "Ratio" = some (some (.ref C_Ratio)))
    (g_Place : PySem.W.nsIn K mainGlobals "Place" = some (some (.ref C_Place)))
    (g_NoNumber : PySem.W.nsIn K mainGlobals "NoNumber" = some (some (.ref C_NoNumber)))
    (g_NoPlace : PySem.W.nsIn K mainGlobals "NoPlace" = some (some (.ref C_NoPlace)))
    (g_MeansError : PySem.W.nsIn K mainGlobals "MeansError" = some (some (.ref C_MeansError)))
    (g_NoPoint : PySem.W.nsIn K mainGlobals "NoPoint" = some (some (.ref C_NoPoint)))
    (xL_NoNumber : K.lookup C_NoNumber = some (excClassObj nm_NoNumber q_NoNumber C_NoNumber N_NoNumber bs_NoNumber [.ref C_MeansError, .type "ValueError", .type "Exception", .type "BaseException", .type "object"] true sn_NoNumber sub_NoNumber ab_NoNumber col_NoNumber dd_NoNumber m0_NoNumber m1_NoNumber m2_NoNumber m3_NoNumber m5_NoNumber "ValueError.__new__"))
    (xL_NoPlace : K.lookup C_NoPlace = some (excClassObj nm_NoPlace q_NoPlace C_NoPlace N_NoPlace bs_NoPlace [.ref C_MeansError, .type "ValueError", .type "Exception", .type "BaseException", .type "object"] true sn_NoPlace sub_NoPlace ab_NoPlace col_NoPlace dd_NoPlace m0_NoPlace m1_NoPlace m2_NoPlace m3_NoPlace m5_NoPlace "ValueError.__new__"))
    (a0 : PySem.W.findIn K (.ref C_NoNumber) "__init__" = some (some (.ref f0)))
    (i0 : PySem.W.isFn K (.ref f0) = true)
    (l0 : K.lookup f0 = some ⟨oc0, od0, .func (PySem.W.fnOf "__init__" "NoNumber.__init__" (defArgs s_NoNumber___init__) (defBody s_NoNumber___init__) (defScope s_NoNumber___init__) .none kV0 dc0 pm0 an0 cd0 ct0), sl0⟩)
    (c0 : PySem.W.codeIn K cd0 "NoNumber.__init__" = true)
    (k0 : PySem.W.keepIn K (.ref f0) = true)
    (a1 : PySem.W.findIn K (.ref C_NoPlace) "__init__" = some (some (.ref f1)))
    (i1 : PySem.W.isFn K (.ref f1) = true)
    (l1 : K.lookup f1 = some ⟨oc1, od1, .func (PySem.W.fnOf "__init__" "NoPlace.__init__" (defArgs s_NoPlace___init__) (defBody s_NoPlace___init__) (defScope s_NoPlace___init__) .none kV1 dc1 pm1 an1 cd1 ct1), sl1⟩)
    (c1 : PySem.W.codeIn K cd1 "NoPlace.__init__" = true)
    (k1 : PySem.W.keepIn K (.ref f1) = true)
    (a2 : PySem.W.findIn K (.ref C_Ratio) "__init__" = some (some (.ref f2)))
    (i2 : PySem.W.isFn K (.ref f2) = true)
    (l2 : K.lookup f2 = some ⟨oc2, od2, .func (PySem.W.fnOf "__init__" "Ratio.__init__" (defArgs s_Ratio___init__) (defBody s_Ratio___init__) (defScope s_Ratio___init__) (.ref T2) kV2 dc2 pm2 an2 cd2 ct2), sl2⟩)
    (c2 : PySem.W.codeIn K cd2 "Ratio.__init__" = true)
    (k2 : PySem.W.keepIn K (.ref f2) = true)
    (t2 : K.lookup T2 = some ⟨.type "tuple", td2, .seq #[.int 1 tt2_0] tn2, ts2⟩)
    (a3 : PySem.W.findIn K (.ref C_Ratio) "__add__" = some (some (.ref f3)))
    (i3 : PySem.W.isFn K (.ref f3) = true)
    (l3 : K.lookup f3 = some ⟨oc3, od3, .func (PySem.W.fnOf "__add__" "Ratio.__add__" (defArgs s_Ratio___add__) (defBody s_Ratio___add__) (defScope s_Ratio___add__) .none kV3 dc3 pm3 an3 cd3 ct3), sl3⟩)
    (c3 : PySem.W.codeIn K cd3 "Ratio.__add__" = true)
    (k3 : PySem.W.keepIn K (.ref f3) = true)
    (a4 : PySem.W.findIn K (.ref C_Ratio) "__radd__" = some (some (.ref f4)))
    (i4 : PySem.W.isFn K (.ref f4) = true)
    (l4 : K.lookup f4 = some ⟨oc4, od4, .func (PySem.W.fnOf "__radd__" "Ratio.__radd__" (defArgs s_Ratio___radd__) (defBody s_Ratio___radd__) (defScope s_Ratio___radd__) .none kV4 dc4 pm4 an4 cd4 ct4), sl4⟩)
    (c4 : PySem.W.codeIn K cd4 "Ratio.__radd__" = true)
    (k4 : PySem.W.keepIn K (.ref f4) = true)
    (a5 : PySem.W.findIn K (.ref C_Ratio) "__mul__" = some (some (.ref f5)))
    (i5 : PySem.W.isFn K (.ref f5) = true)
    (l5 : K.lookup f5 = some ⟨oc5, od5, .func (PySem.W.fnOf "__mul__" "Ratio.__mul__" (defArgs s_Ratio___mul__) (defBody s_Ratio___mul__) (defScope s_Ratio___mul__) .none kV5 dc5 pm5 an5 cd5 ct5), sl5⟩)
    (c5 : PySem.W.codeIn K cd5 "Ratio.__mul__" = true)
    (k5 : PySem.W.keepIn K (.ref f5) = true)
    (a6 : PySem.W.findIn K (.ref C_Ratio) "__rmul__" = some (some (.ref f6)))
    (i6 : PySem.W.isFn K (.ref f6) = true)
    (l6 : K.lookup f6 = some ⟨oc6, od6, .func (PySem.W.fnOf "__rmul__" "Ratio.__rmul__" (defArgs s_Ratio___rmul__) (defBody s_Ratio___rmul__) (defScope s_Ratio___rmul__) .none kV6 dc6 pm6 an6 cd6 ct6), sl6⟩)
    (c6 : PySem.W.codeIn K cd6 "Ratio.__rmul__" = true)
    (k6 : PySem.W.keepIn K (.ref f6) = true)
    (a7 : PySem.W.findIn K (.ref C_Ratio) "__eq__" = some (some (.ref f7)))
    (i7 : PySem.W.isFn K (.ref f7) = true)
    (l7 : K.lookup f7 = some ⟨oc7, od7, .func (PySem.W.fnOf "__eq__" "Ratio.__eq__" (defArgs s_Ratio___eq__) (defBody s_Ratio___eq__) (defScope s_Ratio___eq__) .none kV7 dc7 pm7 an7 cd7 ct7), sl7⟩)
    (c7 : PySem.W.codeIn K cd7 "Ratio.__eq__" = true)
    (k7 : PySem.W.keepIn K (.ref f7) = true)
    (a8 : PySem.W.findIn K (.ref C_Ratio) "__lt__" = some (some (.ref f8)))
    (i8 : PySem.W.isFn K (.ref f8) = true)
    (l8 : K.lookup f8 = some ⟨oc8, od8, .func (PySem.W.fnOf "__lt__" "Ratio.__lt__" (defArgs s_Ratio___lt__) (defBody s_Ratio___lt__) (defScope s_Ratio___lt__) .none kV8 dc8 pm8 an8 cd8 ct8), sl8⟩)
    (c8 : PySem.W.codeIn K cd8 "Ratio.__lt__" = true)
    (k8 : PySem.W.keepIn K (.ref f8) = true)
    (a9 : PySem.W.findIn K (.ref C_Ratio) "__le__" = some (some (.ref f9)))
    (i9 : PySem.W.isFn K (.ref f9) = true)
    (l9 : K.lookup f9 = some ⟨oc9, od9, .func (PySem.W.fnOf "__le__" "Ratio.__le__" (defArgs s_Ratio___le__) (defBody s_Ratio___le__) (defScope s_Ratio___le__) .none kV9 dc9 pm9 an9 cd9 ct9), sl9⟩)
    (c9 : PySem.W.codeIn K cd9 "Ratio.__le__" = true)
    (k9 : PySem.W.keepIn K (.ref f9) = true)
    (a10 : PySem.W.findIn K (.ref C_Ratio) "__gt__" = some (some (.ref f10)))
    (i10 : PySem.W.isFn K (.ref f10) = true)
    (l10 : K.lookup f10 = some ⟨oc10, od10, .func (PySem.W.fnOf "__gt__" "Ratio.__gt__" (defArgs s_Ratio___gt__) (defBody s_Ratio___gt__) (defScope s_Ratio___gt__) .none kV10 dc10 pm10 an10 cd10 ct10), sl10⟩)
    (c10 : PySem.W.codeIn K cd10 "Ratio.__gt__" = true)
    (k10 : PySem.W.keepIn K (.ref f10) = true)
    (a11 : PySem.W.findIn K (.ref C_Ratio) "__ge__" = some (some (.ref f11)))
    (i11 : PySem.W.isFn K (.ref f11) = true)
    (l11 : K.lookup f11 = some ⟨oc11, od11, .func (PySem.W.fnOf "__ge__" "Ratio.__ge__" (defArgs s_Ratio___ge__) (defBody s_Ratio___ge__) (defScope s_Ratio___ge__) .none kV11 dc11 pm11 an11 cd11 ct11), sl11⟩)
    (c11 : PySem.W.codeIn K cd11 "Ratio.__ge__" = true)
    (k11 : PySem.W.keepIn K (.ref f11) = true)
    (a12 : PySem.W.nsIn K mainGlobals "is_whole" = some (some (.ref f12)))
    (l12 : K.lookup f12 = some ⟨oc12, od12, .func (PySem.W.fnOf "is_whole" "is_whole" (defArgs s_is_whole) (defBody s_is_whole) (defScope s_is_whole) .none kV12 dc12 pm12 an12 cd12 ct12), sl12⟩)
    (c12 : PySem.W.codeIn K cd12 "is_whole" = true)
    (k12 : PySem.W.keepIn K (.ref f12) = true)
    (a13 : PySem.W.nsIn K mainGlobals "is_number" = some (some (.ref f13)))
    (l13 : K.lookup f13 = some ⟨oc13, od13, .func (PySem.W.fnOf "is_number" "is_number" (defArgs s_is_number) (defBody s_is_number) (defScope s_is_number) .none kV13 dc13 pm13 an13 cd13 ct13), sl13⟩)
    (c13 : PySem.W.codeIn K cd13 "is_number" = true)
    (k13 : PySem.W.keepIn K (.ref f13) = true)
    (a14 : PySem.W.nsIn K mainGlobals "ratio_of" = some (some (.ref f14)))
    (l14 : K.lookup f14 = some ⟨oc14, od14, .func (PySem.W.fnOf "ratio_of" "ratio_of" (defArgs s_ratio_of) (defBody s_ratio_of) (defScope s_ratio_of) .none kV14 dc14 pm14 an14 cd14 ct14), sl14⟩)
    (c14 : PySem.W.codeIn K cd14 "ratio_of" = true)
    (k14 : PySem.W.keepIn K (.ref f14) = true)
    (a15 : PySem.W.nsIn K mainGlobals "_sum" = some (some (.ref f15)))
    (l15 : K.lookup f15 = some ⟨oc15, od15, .func (PySem.W.fnOf "_sum" "_sum" (defArgs s__sum) (defBody s__sum) (defScope s__sum) .none kV15 dc15 pm15 an15 cd15 ct15), sl15⟩)
    (c15 : PySem.W.codeIn K cd15 "_sum" = true)
    (k15 : PySem.W.keepIn K (.ref f15) = true)
    (a16 : PySem.W.nsIn K mainGlobals "_product" = some (some (.ref f16)))
    (l16 : K.lookup f16 = some ⟨oc16, od16, .func (PySem.W.fnOf "_product" "_product" (defArgs s__product) (defBody s__product) (defScope s__product) .none kV16 dc16 pm16 an16 cd16 ct16), sl16⟩)
    (c16 : PySem.W.codeIn K cd16 "_product" = true)
    (k16 : PySem.W.keepIn K (.ref f16) = true)
    (a17 : PySem.W.nsIn K mainGlobals "_gap" = some (some (.ref f17)))
    (l17 : K.lookup f17 = some ⟨oc17, od17, .func (PySem.W.fnOf "_gap" "_gap" (defArgs s__gap) (defBody s__gap) (defScope s__gap) .none kV17 dc17 pm17 an17 cd17 ct17), sl17⟩)
    (c17 : PySem.W.codeIn K cd17 "_gap" = true)
    (k17 : PySem.W.keepIn K (.ref f17) = true)
    (a18 : PySem.W.findIn K (.ref C_Place) "__init__" = some (some (.ref f18)))
    (i18 : PySem.W.isFn K (.ref f18) = true)
    (l18 : K.lookup f18 = some ⟨oc18, od18, .func (PySem.W.fnOf "__init__" "Place.__init__" (defArgs s_Place___init__) (defBody s_Place___init__) (defScope s_Place___init__) (.ref T18) kV18 dc18 pm18 an18 cd18 ct18), sl18⟩)
    (c18 : PySem.W.codeIn K cd18 "Place.__init__" = true)
    (k18 : PySem.W.keepIn K (.ref f18) = true)
    (t18 : K.lookup T18 = some ⟨.type "tuple", td18, .seq #[.none, .none] tn18, ts18⟩)
    (a19 : PySem.W.findIn K (.ref C_Place) "__eq__" = some (some (.ref f19)))
    (i19 : PySem.W.isFn K (.ref f19) = true)
    (l19 : K.lookup f19 = some ⟨oc19, od19, .func (PySem.W.fnOf "__eq__" "Place.__eq__" (defArgs s_Place___eq__) (defBody s_Place___eq__) (defScope s_Place___eq__) .none kV19 dc19 pm19 an19 cd19 ct19), sl19⟩)
    (c19 : PySem.W.codeIn K cd19 "Place.__eq__" = true)
    (k19 : PySem.W.keepIn K (.ref f19) = true)
    (a20 : PySem.W.findIn K (.ref C_Place) "__contains__" = some (some (.ref f20)))
    (i20 : PySem.W.isFn K (.ref f20) = true)
    (l20 : K.lookup f20 = some ⟨oc20, od20, .func (PySem.W.fnOf "__contains__" "Place.__contains__" (defArgs s_Place___contains__) (defBody s_Place___contains__) (defScope s_Place___contains__) .none kV20 dc20 pm20 an20 cd20 ct20), sl20⟩)
    (c20 : PySem.W.codeIn K cd20 "Place.__contains__" = true)
    (k20 : PySem.W.keepIn K (.ref f20) = true)
    (a21 : PySem.W.findIn K (.ref C_Place) "is_line" = some (some (.ref f21)))
    (i21 : PySem.W.isFn K (.ref f21) = true)
    (l21 : K.lookup f21 = some ⟨oc21, od21, .func (PySem.W.fnOf "is_line" "Place.is_line" (defArgs s_Place_is_line) (defBody s_Place_is_line) (defScope s_Place_is_line) .none kV21 dc21 pm21 an21 cd21 ct21), sl21⟩)
    (c21 : PySem.W.codeIn K cd21 "Place.is_line" = true)
    (k21 : PySem.W.keepIn K (.ref f21) = true)
    (a22 : PySem.W.findIn K (.ref C_Place) "is_segment" = some (some (.ref f22)))
    (i22 : PySem.W.isFn K (.ref f22) = true)
    (l22 : K.lookup f22 = some ⟨oc22, od22, .func (PySem.W.fnOf "is_segment" "Place.is_segment" (defArgs s_Place_is_segment) (defBody s_Place_is_segment) (defScope s_Place_is_segment) .none kV22 dc22 pm22 an22 cd22 ct22), sl22⟩)
    (c22 : PySem.W.codeIn K cd22 "Place.is_segment" = true)
    (k22 : PySem.W.keepIn K (.ref f22) = true)
    (a23 : PySem.W.findIn K (.ref C_Place) "moved" = some (some (.ref f23)))
    (i23 : PySem.W.isFn K (.ref f23) = true)
    (l23 : K.lookup f23 = some ⟨oc23, od23, .func (PySem.W.fnOf "moved" "Place.moved" (defArgs s_Place_moved) (defBody s_Place_moved) (defScope s_Place_moved) .none kV23 dc23 pm23 an23 cd23 ct23), sl23⟩)
    (c23 : PySem.W.codeIn K cd23 "Place.moved" = true)
    (k23 : PySem.W.keepIn K (.ref f23) = true)
    (a24 : PySem.W.findIn K (.ref C_Place) "stretched" = some (some (.ref f24)))
    (i24 : PySem.W.isFn K (.ref f24) = true)
    (l24 : K.lookup f24 = some ⟨oc24, od24, .func (PySem.W.fnOf "stretched" "Place.stretched" (defArgs s_Place_stretched) (defBody s_Place_stretched) (defScope s_Place_stretched) .none kV24 dc24 pm24 an24 cd24 ct24), sl24⟩)
    (c24 : PySem.W.codeIn K cd24 "Place.stretched" = true)
    (k24 : PySem.W.keepIn K (.ref f24) = true)
    (a25 : PySem.W.nsIn K mainGlobals "_law_is_integer" = some (some (.ref f25)))
    (l25 : K.lookup f25 = some ⟨oc25, od25, .func (PySem.W.fnOf "_law_is_integer" "_law_is_integer" (defArgs s__law_is_integer) (defBody s__law_is_integer) (defScope s__law_is_integer) .none kV25 dc25 pm25 an25 cd25 ct25), sl25⟩)
    (c25 : PySem.W.codeIn K cd25 "_law_is_integer" = true)
    (k25 : PySem.W.keepIn K (.ref f25) = true)
    (a26 : PySem.W.nsIn K mainGlobals "_law_feed" = some (some (.ref f26)))
    (l26 : K.lookup f26 = some ⟨oc26, od26, .func (PySem.W.fnOf "_law_feed" "_law_feed" (defArgs s__law_feed) (defBody s__law_feed) (defScope s__law_feed) .none kV26 dc26 pm26 an26 cd26 ct26), sl26⟩)
    (c26 : PySem.W.codeIn K cd26 "_law_feed" = true)
    (k26 : PySem.W.keepIn K (.ref f26) = true)
    (a27 : PySem.W.nsIn K mainGlobals "_law_take" = some (some (.ref f27)))
    (l27 : K.lookup f27 = some ⟨oc27, od27, .func (PySem.W.fnOf "_law_take" "_law_take" (defArgs s__law_take) (defBody s__law_take) (defScope s__law_take) .none kV27 dc27 pm27 an27 cd27 ct27), sl27⟩)
    (c27 : PySem.W.codeIn K cd27 "_law_take" = true)
    (k27 : PySem.W.keepIn K (.ref f27) = true)
    (a28 : PySem.W.nsIn K mainGlobals "_law_number" = some (some (.ref f28)))
    (l28 : K.lookup f28 = some ⟨oc28, od28, .func (PySem.W.fnOf "_law_number" "_law_number" (defArgs s__law_number) (defBody s__law_number) (defScope s__law_number) .none kV28 dc28 pm28 an28 cd28 ct28), sl28⟩)
    (c28 : PySem.W.codeIn K cd28 "_law_number" = true)
    (k28 : PySem.W.keepIn K (.ref f28) = true)
    (a29 : PySem.W.nsIn K mainGlobals "_law_is" = some (some (.ref f29)))
    (l29 : K.lookup f29 = some ⟨oc29, od29, .func (PySem.W.fnOf "_law_is" "_law_is" (defArgs s__law_is) (defBody s__law_is) (defScope s__law_is) .none kV29 dc29 pm29 an29 cd29 ct29), sl29⟩)
    (c29 : PySem.W.codeIn K cd29 "_law_is" = true)
    (k29 : PySem.W.keepIn K (.ref f29) = true)
    (a30 : PySem.W.nsIn K mainGlobals "_law_flag" = some (some (.ref f30)))
    (l30 : K.lookup f30 = some ⟨oc30, od30, .func (PySem.W.fnOf "_law_flag" "_law_flag" (defArgs s__law_flag) (defBody s__law_flag) (defScope s__law_flag) .none kV30 dc30 pm30 an30 cd30 ct30), sl30⟩)
    (c30 : PySem.W.codeIn K cd30 "_law_flag" = true)
    (k30 : PySem.W.keepIn K (.ref f30) = true)
    (a31 : PySem.W.nsIn K mainGlobals "_law_refused" = some (some (.ref f31)))
    (l31 : K.lookup f31 = some ⟨oc31, od31, .func (PySem.W.fnOf "_law_refused" "_law_refused" (defArgs s__law_refused) (defBody s__law_refused) (defScope s__law_refused) .none kV31 dc31 pm31 an31 cd31 ct31), sl31⟩)
    (c31 : PySem.W.codeIn K cd31 "_law_refused" = true)
    (k31 : PySem.W.keepIn K (.ref f31) = true)
    (a32 : PySem.W.nsIn K mainGlobals "_law_word" = some (some (.ref f32)))
    (l32 : K.lookup f32 = some ⟨oc32, od32, .func (PySem.W.fnOf "_law_word" "_law_word" (defArgs s__law_word) (defBody s__law_word) (defScope s__law_word) .none kV32 dc32 pm32 an32 cd32 ct32), sl32⟩)
    (c32 : PySem.W.codeIn K cd32 "_law_word" = true)
    (k32 : PySem.W.keepIn K (.ref f32) = true)
    (a33 : PySem.W.nsIn K mainGlobals "_law_end_is" = some (some (.ref f33)))
    (l33 : K.lookup f33 = some ⟨oc33, od33, .func (PySem.W.fnOf "_law_end_is" "_law_end_is" (defArgs s__law_end_is) (defBody s__law_end_is) (defScope s__law_end_is) .none kV33 dc33 pm33 an33 cd33 ct33), sl33⟩)
    (c33 : PySem.W.codeIn K cd33 "_law_end_is" = true)
    (k33 : PySem.W.keepIn K (.ref f33) = true)
    (a34 : PySem.W.nsIn K mainGlobals "_law_place_is" = some (some (.ref f34)))
    (l34 : K.lookup f34 = some ⟨oc34, od34, .func (PySem.W.fnOf "_law_place_is" "_law_place_is" (defArgs s__law_place_is) (defBody s__law_place_is) (defScope s__law_place_is) .none kV34 dc34 pm34 an34 cd34 ct34), sl34⟩)
    (c34 : PySem.W.codeIn K cd34 "_law_place_is" = true)
    (k34 : PySem.W.keepIn K (.ref f34) = true)
    (a35 : PySem.W.nsIn K mainGlobals "_law_plus" = some (some (.ref f35)))
    (l35 : K.lookup f35 = some ⟨oc35, od35, .func (PySem.W.fnOf "_law_plus" "_law_plus" (defArgs s__law_plus) (defBody s__law_plus) (defScope s__law_plus) .none kV35 dc35 pm35 an35 cd35 ct35), sl35⟩)
    (c35 : PySem.W.codeIn K cd35 "_law_plus" = true)
    (k35 : PySem.W.keepIn K (.ref f35) = true)
    (a36 : PySem.W.nsIn K mainGlobals "_law_times" = some (some (.ref f36)))
    (l36 : K.lookup f36 = some ⟨oc36, od36, .func (PySem.W.fnOf "_law_times" "_law_times" (defArgs s__law_times) (defBody s__law_times) (defScope s__law_times) .none kV36 dc36 pm36 an36 cd36 ct36), sl36⟩)
    (c36 : PySem.W.codeIn K cd36 "_law_times" = true)
    (k36 : PySem.W.keepIn K (.ref f36) = true)
    (a37 : PySem.W.nsIn K mainGlobals "_law_asked" = some (some (.ref f37)))
    (l37 : K.lookup f37 = some ⟨oc37, od37, .func (PySem.W.fnOf "_law_asked" "_law_asked" (defArgs s__law_asked) (defBody s__law_asked) (defScope s__law_asked) .none kV37 dc37 pm37 an37 cd37 ct37), sl37⟩)
    (c37 : PySem.W.codeIn K cd37 "_law_asked" = true)
    (k37 : PySem.W.keepIn K (.ref f37) = true)
    (a38 : PySem.W.nsIn K mainGlobals "law" = some (some (.ref f38)))
    (l38 : K.lookup f38 = some ⟨oc38, od38, .func (PySem.W.fnOf "law" "law" (defArgs s_law) (defBody s_law) (defScope s_law) .none kV38 dc38 pm38 an38 (.ref tC38) ct38), sl38⟩)
    (ch38 : PySem.W.CodeHd h tC38 tP38)
    (ht38 : h.get? tP38 = some { cls := .none, data := .fields #[] })
    (nt38 : K.lookup tP38 = none)
    (c38 : PySem.W.codeIn K (.ref tC38) "law" = true)
    (k38 : PySem.W.keepIn K (.ref f38) = true)
    (pg_Ratio : PySem.W.plainGet K C_Ratio Str.empty = true)
    (hd_Ratio : PySem.W.hasDictIn K C_Ratio = true)
    (po_Ratio : PySem.W.plainOver K C_Ratio = true)
    (sa_Ratio : PySem.W.findIn K (.ref C_Ratio) "__setattr__" = some (some (.builtin "object.__setattr__")))
    (mk_Ratio : PySem.W.makesIn K C_Ratio = true)
    (kc_Ratio : PySem.W.keepIn K (.ref C_Ratio) = true)
    (sf_Ratio : PySem.W.selfFirst K C_Ratio = true)
    (s1_Ratio : PySem.W.subIn K (.ref C_Ratio) (.type "int") = some false)
    (s2_Ratio : PySem.W.subIn K (.type "int") (.ref C_Ratio) = some false)
    (cls_Ratio : PySem.W.findIn K (.ref C_Ratio) "__class__" = some (some (.builtin "object.__class__")))
    (gsd_Ratio : PySem.W.specialIn K (.builtin "object.__class__") "__get__" = some (some (.builtin "getset_descriptor.__get__")))
    (tks_Ratio : PySem.W.takesIn K (.builtin "object.__class__") = some true)
    (mro_Ratio : PySem.W.mroIn K C_Ratio (.type "object") = some true)
    (ki_Ratio : PySem.W.kitOne K (.ref C_Ratio) (.type "int") = some false)
    (ik_Ratio : PySem.W.kitOne K (.type "int") (.ref C_Ratio) = some false)
    (n_top_Ratio : PySem.W.findIn K (.ref C_Ratio) "top" = some none)
    (n_bottom_Ratio : PySem.W.findIn K (.ref C_Ratio) "bottom" = some none)
    (pg_Place : PySem.W.plainGet K C_Place Str.empty = true)
    (hd_Place : PySem.W.hasDictIn K C_Place = true)
    (po_Place : PySem.W.plainOver K C_Place = true)
    (sa_Place : PySem.W.findIn K (.ref C_Place) "__setattr__" = some (some (.builtin "object.__setattr__")))
    (mk_Place : PySem.W.makesIn K C_Place = true)
    (kc_Place : PySem.W.keepIn K (.ref C_Place) = true)
    (sf_Place : PySem.W.selfFirst K C_Place = true)
    (s1_Place : PySem.W.subIn K (.ref C_Place) (.type "int") = some false)
    (s2_Place : PySem.W.subIn K (.type "int") (.ref C_Place) = some false)
    (cls_Place : PySem.W.findIn K (.ref C_Place) "__class__" = some (some (.builtin "object.__class__")))
    (gsd_Place : PySem.W.specialIn K (.builtin "object.__class__") "__get__" = some (some (.builtin "getset_descriptor.__get__")))
    (tks_Place : PySem.W.takesIn K (.builtin "object.__class__") = some true)
    (mro_Place : PySem.W.mroIn K C_Place (.type "object") = some true)
    (ki_Place : PySem.W.kitOne K (.ref C_Place) (.type "int") = some false)
    (ik_Place : PySem.W.kitOne K (.type "int") (.ref C_Place) = some false)
    (n_low_Place : PySem.W.findIn K (.ref C_Place) "low" = some none)
    (n_high_Place : PySem.W.findIn K (.ref C_Place) "high" = some none)
    (sa_NoNumber : PySem.W.findIn K (.ref C_NoNumber) "__setattr__" = some (some (.builtin "object.__setattr__")))
    (ga_NoNumber : PySem.W.findIn K (.ref C_NoNumber) "__getattribute__" = some (some (.builtin "BaseException.__getattribute__")))
    (gg_NoNumber : PySem.W.findIn K (.ref C_NoNumber) "__getattr__" = some none)
    (cls_NoNumber : PySem.W.findIn K (.ref C_NoNumber) "__class__" = some (some (.builtin "object.__class__")))
    (gsd_NoNumber : PySem.W.specialIn K (.builtin "object.__class__") "__get__" = some (some (.builtin "getset_descriptor.__get__")))
    (tks_NoNumber : PySem.W.takesIn K (.builtin "object.__class__") = some true)
    (mro_NoNumber : PySem.W.mroIn K C_NoNumber (.type "object") = some true)
    (kC_NoNumber : PySem.W.keepIn K (.ref C_NoNumber) = true)
    (eC_NoNumber : PySem.W.subIn K (.ref C_NoNumber) (.type "BaseException") = some true)
    (tC_NoNumber : PySem.W.typeIn K (.ref C_NoNumber) = some (.type "type"))
    (hC_NoNumber : PySem.W.hasDictIn K C_NoNumber = true)
    (sC_NoNumber : PySem.W.subIn K (.ref C_NoNumber) (.ref C_NoNumber) = some true)
    (n_NoNumber_word : PySem.W.findIn K (.ref C_NoNumber) "word" = some none)
    (ti_NoNumber : PySem.W.typeIn K (.ref f0) = some (.type "function"))
    (sa_NoPlace : PySem.W.findIn K (.ref C_NoPlace) "__setattr__" = some (some (.builtin "object.__setattr__")))
    (ga_NoPlace : PySem.W.findIn K (.ref C_NoPlace) "__getattribute__" = some (some (.builtin "BaseException.__getattribute__")))
    (gg_NoPlace : PySem.W.findIn K (.ref C_NoPlace) "__getattr__" = some none)
    (cls_NoPlace : PySem.W.findIn K (.ref C_NoPlace) "__class__" = some (some (.builtin "object.__class__")))
    (gsd_NoPlace : PySem.W.specialIn K (.builtin "object.__class__") "__get__" = some (some (.builtin "getset_descriptor.__get__")))
    (tks_NoPlace : PySem.W.takesIn K (.builtin "object.__class__") = some true)
    (mro_NoPlace : PySem.W.mroIn K C_NoPlace (.type "object") = some true)
    (kC_NoPlace : PySem.W.keepIn K (.ref C_NoPlace) = true)
    (eC_NoPlace : PySem.W.subIn K (.ref C_NoPlace) (.type "BaseException") = some true)
    (tC_NoPlace : PySem.W.typeIn K (.ref C_NoPlace) = some (.type "type"))
    (hC_NoPlace : PySem.W.hasDictIn K C_NoPlace = true)
    (sC_NoPlace : PySem.W.subIn K (.ref C_NoPlace) (.ref C_NoPlace) = some true)
    (n_NoPlace_part : PySem.W.findIn K (.ref C_NoPlace) "part" = some none)
    (ti_NoPlace : PySem.W.typeIn K (.ref f1) = some (.type "function"))
    (fa_sn1 : PySem.W.subIn K (.ref C_Ratio) (.type "NoneType") = some false)
    (fa_sn2 : PySem.W.subIn K (.type "NoneType") (.ref C_Ratio) = some false)
    (fa_ik_str : PySem.W.kitOne K (.type "str") (.ref C_Ratio) = some false)
    (fa_ik_bool : PySem.W.kitOne K (.type "bool") (.ref C_Ratio) = some false)
    (fa_ik_list : PySem.W.kitOne K (.type "list") (.ref C_Ratio) = some false)
    (fa_ik_tuple : PySem.W.kitOne K (.type "tuple") (.ref C_Ratio) = some false)
    (fa_ik_NoneType : PySem.W.kitOne K (.type "NoneType") (.ref C_Ratio) = some false)
    (kit_NoPlace_MeansError : PySem.W.kitOne K (.ref C_NoPlace) (.ref C_MeansError) = some true)
    (kit_NoPlace_NoPoint : PySem.W.kitOne K (.ref C_NoPlace) (.ref C_NoPoint) = some false)
    (z_isinstance : PySem.W.nsIn K mainGlobals "isinstance" = some none)
    (z_int : PySem.W.nsIn K mainGlobals "int" = some none)
    (z_bool : PySem.W.nsIn K mainGlobals "bool" = some none)
    (z_abs : PySem.W.nsIn K mainGlobals "abs" = some none)
    (z_len : PySem.W.nsIn K mainGlobals "len" = some none)
    (z_max : PySem.W.nsIn K mainGlobals "max" = some none)
    (z_range : PySem.W.nsIn K mainGlobals "range" = some none)
    (z_NotImplemented : PySem.W.nsIn K mainGlobals "NotImplemented" = some none)
    (j_gcd : PySem.W.nsIn K mainGlobals "gcd" = some (some (.builtin "math.gcd")))
    : LamX.LawAtS l w K CX0 12 63 "_law_script" mg fa h := by
  have e := hfa.symm.trans (PySem.W.mg_of X G a38)
  cases e
  have F0 := fun_mk (st := s_NoNumber___init__) l0 c0 k0
  have F1 := fun_mk (st := s_NoPlace___init__) l1 c1 k1
  have F2 : FunD K "__init__" "Ratio.__init__" (defArgs s_Ratio___init__) (defBody s_Ratio___init__) (defScope s_Ratio___init__) [.int 1] [] f2 _ := ⟨⟨_, _, _, _, _, _, _, _, _, _, rfl, l2, c2, .inr ⟨by simp, _, _, [.int 1 tt2_0], _, rfl, t2, rfl, .cons ⟨_, rfl⟩ (.nil)⟩, .inl rfl⟩, k2⟩
  have F3 := fun_mk (st := s_Ratio___add__) l3 c3 k3
  have F4 := fun_mk (st := s_Ratio___radd__) l4 c4 k4
  have F5 := fun_mk (st := s_Ratio___mul__) l5 c5 k5
  have F6 := fun_mk (st := s_Ratio___rmul__) l6 c6 k6
  have F7 := fun_mk (st := s_Ratio___eq__) l7 c7 k7
  have F8 := fun_mk (st := s_Ratio___lt__) l8 c8 k8
  have F9 := fun_mk (st := s_Ratio___le__) l9 c9 k9
  have F10 := fun_mk (st := s_Ratio___gt__) l10 c10 k10
  have F11 := fun_mk (st := s_Ratio___ge__) l11 c11 k11
  have F12 := fun_mk (st := s_is_whole) l12 c12 k12
  have F13 := fun_mk (st := s_is_number) l13 c13 k13
  have F14 := fun_mk (st := s_ratio_of) l14 c14 k14
  have F15 := fun_mk (st := s__sum) l15 c15 k15
  have F16 := fun_mk (st := s__product) l16 c16 k16
  have F17 := fun_mk (st := s__gap) l17 c17 k17
  have F18 : FunD K "__init__" "Place.__init__" (defArgs s_Place___init__) (defBody s_Place___init__) (defScope s_Place___init__) [.non, .non] [] f18 _ := ⟨⟨_, _, _, _, _, _, _, _, _, _, rfl, l18, c18, .inr ⟨by simp, _, _, [.none, .none], _, rfl, t18, rfl, .cons rfl (.cons rfl (.nil))⟩, .inl rfl⟩, k18⟩
  have F19 := fun_mk (st := s_Place___eq__) l19 c19 k19
  have F20 := fun_mk (st := s_Place___contains__) l20 c20 k20
  have F21 := fun_mk (st := s_Place_is_line) l21 c21 k21
  have F22 := fun_mk (st := s_Place_is_segment) l22 c22 k22
  have F23 := fun_mk (st := s_Place_moved) l23 c23 k23
  have F24 := fun_mk (st := s_Place_stretched) l24 c24 k24
  have F25 := fun_mk (st := s__law_is_integer) l25 c25 k25
  have F26 := fun_mk (st := s__law_feed) l26 c26 k26
  have F27 := fun_mk (st := s__law_take) l27 c27 k27
  have F28 := fun_mk (st := s__law_number) l28 c28 k28
  have F29 := fun_mk (st := s__law_is) l29 c29 k29
  have F30 := fun_mk (st := s__law_flag) l30 c30 k30
  have F31 := fun_mk (st := s__law_refused) l31 c31 k31
  have F32 := fun_mk (st := s__law_word) l32 c32 k32
  have F33 := fun_mk (st := s__law_end_is) l33 c33 k33
  have F34 := fun_mk (st := s__law_place_is) l34 c34 k34
  have F35 := fun_mk (st := s__law_plus) l35 c35 k35
  have F36 := fun_mk (st := s__law_times) l36 c36 k36
  have F37 := fun_mk (st := s__law_asked) l37 c37 k37
  have F38 : FunC K "law" "law" s_law _ _ tC38 := ⟨⟨_, _, _, _, _, _, _, _, rfl, l38, c38⟩, k38⟩
  let A : Ad := { Ratio := C_Ratio, Place := C_Place, NoNumber := C_NoNumber, NoPlace := C_NoPlace, MeansError := C_MeansError, NoPoint := C_NoPoint, f_NoNumber___init__ := f0, f_NoPlace___init__ := f1, f_Ratio___init__ := f2, f_Ratio___add__ := f3, f_Ratio___radd__ := f4, f_Ratio___mul__ := f5, f_Ratio___rmul__ := f6, f_Ratio___eq__ := f7, f_Ratio___lt__ := f8, f_Ratio___le__ := f9, f_Ratio___gt__ := f10, f_Ratio___ge__ := f11, f_is_whole := f12, f_is_number := f13, f_ratio_of := f14, f__sum := f15, f__product := f16, f__gap := f17, f_Place___init__ := f18, f_Place___eq__ := f19, f_Place___contains__ := f20, f_Place_is_line := f21, f_Place_is_segment := f22, f_Place_moved := f23, f_Place_stretched := f24, f__law_is_integer := f25, f__law_feed := f26, f__law_take := f27, f__law_number := f28, f__law_is := f29, f__law_flag := f30, f__law_refused := f31, f__law_word := f32, f__law_end_is := f33, f__law_place_is := f34, f__law_plus := f35, f__law_times := f36, f__law_asked := f37, f_law := fa, tC_law := tC38, tP_law := tP38 }
  let D : Fd := { f_NoNumber___init__ := PySem.W.fnOf "__init__" "NoNumber.__init__" (defArgs s_NoNumber___init__) (defBody s_NoNumber___init__) (defScope s_NoNumber___init__) .none kV0 dc0 pm0 an0 cd0 ct0, f_NoPlace___init__ := PySem.W.fnOf "__init__" "NoPlace.__init__" (defArgs s_NoPlace___init__) (defBody s_NoPlace___init__) (defScope s_NoPlace___init__) .none kV1 dc1 pm1 an1 cd1 ct1, f_Ratio___init__ := PySem.W.fnOf "__init__" "Ratio.__init__" (defArgs s_Ratio___init__) (defBody s_Ratio___init__) (defScope s_Ratio___init__) (.ref T2) kV2 dc2 pm2 an2 cd2 ct2, f_Ratio___add__ := PySem.W.fnOf "__add__" "Ratio.__add__" (defArgs s_Ratio___add__) (defBody s_Ratio___add__) (defScope s_Ratio___add__) .none kV3 dc3 pm3 an3 cd3 ct3, f_Ratio___radd__ := PySem.W.fnOf "__radd__" "Ratio.__radd__" (defArgs s_Ratio___radd__) (defBody s_Ratio___radd__) (defScope s_Ratio___radd__) .none kV4 dc4 pm4 an4 cd4 ct4, f_Ratio___mul__ := PySem.W.fnOf "__mul__" "Ratio.__mul__" (defArgs s_Ratio___mul__) (defBody s_Ratio___mul__) (defScope s_Ratio___mul__) .none kV5 dc5 pm5 an5 cd5 ct5, f_Ratio___rmul__ := PySem.W.fnOf "__rmul__" "Ratio.__rmul__" (defArgs s_Ratio___rmul__) (defBody s_Ratio___rmul__) (defScope s_Ratio___rmul__) .none kV6 dc6 pm6 an6 cd6 ct6, f_Ratio___eq__ := PySem.W.fnOf "__eq__" "Ratio.__eq__" (defArgs s_Ratio___eq__) (defBody s_Ratio___eq__) (defScope s_Ratio___eq__) .none kV7 dc7 pm7 an7 cd7 ct7, f_Ratio___lt__ := PySem.W.fnOf "__lt__" "Ratio.__lt__" (defArgs s_Ratio___lt__) (defBody s_Ratio___lt__) (defScope s_Ratio___lt__) .none kV8 dc8 pm8 an8 cd8 ct8, f_Ratio___le__ := PySem.W.fnOf "__le__" "Ratio.__le__" (defArgs s_Ratio___le__) (defBody s_Ratio___le__) (defScope s_Ratio___le__) .none kV9 dc9 pm9 an9 cd9 ct9, f_Ratio___gt__ := PySem.W.fnOf "__gt__" "Ratio.__gt__" (defArgs s_Ratio___gt__) (defBody s_Ratio___gt__) (defScope s_Ratio___gt__) .none kV10 dc10 pm10 an10 cd10 ct10, f_Ratio___ge__ := PySem.W.fnOf "__ge__" "Ratio.__ge__" (defArgs s_Ratio___ge__) (defBody s_Ratio___ge__) (defScope s_Ratio___ge__) .none kV11 dc11 pm11 an11 cd11 ct11, f_is_whole := PySem.W.fnOf "is_whole" "is_whole" (defArgs s_is_whole) (defBody s_is_whole) (defScope s_is_whole) .none kV12 dc12 pm12 an12 cd12 ct12, f_is_number := PySem.W.fnOf "is_number" "is_number" (defArgs s_is_number) (defBody s_is_number) (defScope s_is_number) .none kV13 dc13 pm13 an13 cd13 ct13, f_ratio_of := PySem.W.fnOf "ratio_of" "ratio_of" (defArgs s_ratio_of) (defBody s_ratio_of) (defScope s_ratio_of) .none kV14 dc14 pm14 an14 cd14 ct14, f__sum := PySem.W.fnOf "_sum" "_sum" (defArgs s__sum) (defBody s__sum) (defScope s__sum) .none kV15 dc15 pm15 an15 cd15 ct15, f__product := PySem.W.fnOf "_product" "_product" (defArgs s__product) (defBody s__product) (defScope s__product) .none kV16 dc16 pm16 an16 cd16 ct16, f__gap := PySem.W.fnOf "_gap" "_gap" (defArgs s__gap) (defBody s__gap) (defScope s__gap) .none kV17 dc17 pm17 an17 cd17 ct17, f_Place___init__ := PySem.W.fnOf "__init__" "Place.__init__" (defArgs s_Place___init__) (defBody s_Place___init__) (defScope s_Place___init__) (.ref T18) kV18 dc18 pm18 an18 cd18 ct18, f_Place___eq__ := PySem.W.fnOf "__eq__" "Place.__eq__" (defArgs s_Place___eq__) (defBody s_Place___eq__) (defScope s_Place___eq__) .none kV19 dc19 pm19 an19 cd19 ct19, f_Place___contains__ := PySem.W.fnOf "__contains__" "Place.__contains__" (defArgs s_Place___contains__) (defBody s_Place___contains__) (defScope s_Place___contains__) .none kV20 dc20 pm20 an20 cd20 ct20, f_Place_is_line := PySem.W.fnOf "is_line" "Place.is_line" (defArgs s_Place_is_line) (defBody s_Place_is_line) (defScope s_Place_is_line) .none kV21 dc21 pm21 an21 cd21 ct21, f_Place_is_segment := PySem.W.fnOf "is_segment" "Place.is_segment" (defArgs s_Place_is_segment) (defBody s_Place_is_segment) (defScope s_Place_is_segment) .none kV22 dc22 pm22 an22 cd22 ct22, f_Place_moved := PySem.W.fnOf "moved" "Place.moved" (defArgs s_Place_moved) (defBody s_Place_moved) (defScope s_Place_moved) .none kV23 dc23 pm23 an23 cd23 ct23, f_Place_stretched := PySem.W.fnOf "stretched" "Place.stretched" (defArgs s_Place_stretched) (defBody s_Place_stretched) (defScope s_Place_stretched) .none kV24 dc24 pm24 an24 cd24 ct24, f__law_is_integer := PySem.W.fnOf "_law_is_integer" "_law_is_integer" (defArgs s__law_is_integer) (defBody s__law_is_integer) (defScope s__law_is_integer) .none kV25 dc25 pm25 an25 cd25 ct25, f__law_feed := PySem.W.fnOf "_law_feed" "_law_feed" (defArgs s__law_feed) (defBody s__law_feed) (defScope s__law_feed) .none kV26 dc26 pm26 an26 cd26 ct26, f__law_take := PySem.W.fnOf "_law_take" "_law_take" (defArgs s__law_take) (defBody s__law_take) (defScope s__law_take) .none kV27 dc27 pm27 an27 cd27 ct27, f__law_number := PySem.W.fnOf "_law_number" "_law_number" (defArgs s__law_number) (defBody s__law_number) (defScope s__law_number) .none kV28 dc28 pm28 an28 cd28 ct28, f__law_is := PySem.W.fnOf "_law_is" "_law_is" (defArgs s__law_is) (defBody s__law_is) (defScope s__law_is) .none kV29 dc29 pm29 an29 cd29 ct29, f__law_flag := PySem.W.fnOf "_law_flag" "_law_flag" (defArgs s__law_flag) (defBody s__law_flag) (defScope s__law_flag) .none kV30 dc30 pm30 an30 cd30 ct30, f__law_refused := PySem.W.fnOf "_law_refused" "_law_refused" (defArgs s__law_refused) (defBody s__law_refused) (defScope s__law_refused) .none kV31 dc31 pm31 an31 cd31 ct31, f__law_word := PySem.W.fnOf "_law_word" "_law_word" (defArgs s__law_word) (defBody s__law_word) (defScope s__law_word) .none kV32 dc32 pm32 an32 cd32 ct32, f__law_end_is := PySem.W.fnOf "_law_end_is" "_law_end_is" (defArgs s__law_end_is) (defBody s__law_end_is) (defScope s__law_end_is) .none kV33 dc33 pm33 an33 cd33 ct33, f__law_place_is := PySem.W.fnOf "_law_place_is" "_law_place_is" (defArgs s__law_place_is) (defBody s__law_place_is) (defScope s__law_place_is) .none kV34 dc34 pm34 an34 cd34 ct34, f__law_plus := PySem.W.fnOf "_law_plus" "_law_plus" (defArgs s__law_plus) (defBody s__law_plus) (defScope s__law_plus) .none kV35 dc35 pm35 an35 cd35 ct35, f__law_times := PySem.W.fnOf "_law_times" "_law_times" (defArgs s__law_times) (defBody s__law_times) (defScope s__law_times) .none kV36 dc36 pm36 an36 cd36 ct36, f__law_asked := PySem.W.fnOf "_law_asked" "_law_asked" (defArgs s__law_asked) (defBody s__law_asked) (defScope s__law_asked) .none kV37 dc37 pm37 an37 cd37 ct37, f_law := PySem.W.fnOf "law" "law" (defArgs s_law) (defBody s_law) (defScope s_law) .none kV38 dc38 pm38 an38 (.ref tC38) ct38 }
  have T : Txt K mg A D := {
    g_Ratio := PySem.W.mg_of X G g_Ratio,
    kp_Ratio := kc_Ratio,
    M_Ratio := ⟨mk_Ratio, a2, i2, kc_Ratio⟩,
    k_Ratio := ⟨⟨pg_Ratio, hd_Ratio, po_Ratio, sa_Ratio⟩, ⟨sf_Ratio, s1_Ratio, s2_Ratio⟩, cls_Ratio, gsd_Ratio, tks_Ratio, mro_Ratio, ki_Ratio, ik_Ratio, n_top_Ratio, n_bottom_Ratio⟩,
    g_Place := PySem.W.mg_of X G g_Place,
    kp_Place := kc_Place,
    M_Place := ⟨mk_Place, a18, i18, kc_Place⟩,
    k_Place := ⟨⟨pg_Place, hd_Place, po_Place, sa_Place⟩, ⟨sf_Place, s1_Place, s2_Place⟩, cls_Place, gsd_Place, tks_Place, mro_Place, ki_Place, ik_Place⟩,
    n_Place_low := n_low_Place,
    n_Place_high := n_high_Place,
    g_MeansError := PySem.W.mg_of X G g_MeansError,
    g_NoPoint := PySem.W.mg_of X G g_NoPoint,
    g_NoNumber := PySem.W.mg_of X G g_NoNumber,
    o_NoNumber := ⟨⟨_, _, _, _, _, _, _, _, _, _, _, _, _, _, _, xL_NoNumber, rfl⟩, sa_NoNumber, eC_NoNumber, tC_NoNumber, kC_NoNumber⟩,
    x_NoNumber := ⟨ga_NoNumber, gg_NoNumber, eC_NoNumber, hC_NoNumber⟩,
    c_NoNumber := ⟨ga_NoNumber, gg_NoNumber, eC_NoNumber, hC_NoNumber, cls_NoNumber, gsd_NoNumber, tks_NoNumber, mro_NoNumber⟩,
    em_NoNumber := PySem.W.exm_ref eC_NoNumber hC_NoNumber tC_NoNumber sC_NoNumber,
    n_NoNumber_word := n_NoNumber_word,
    i_NoNumber := a0,
    ti_NoNumber := ti_NoNumber,
    g_NoPlace := PySem.W.mg_of X G g_NoPlace,
    o_NoPlace := ⟨⟨_, _, _, _, _, _, _, _, _, _, _, _, _, _, _, xL_NoPlace, rfl⟩, sa_NoPlace, eC_NoPlace, tC_NoPlace, kC_NoPlace⟩,
    x_NoPlace := ⟨ga_NoPlace, gg_NoPlace, eC_NoPlace, hC_NoPlace⟩,
    c_NoPlace := ⟨ga_NoPlace, gg_NoPlace, eC_NoPlace, hC_NoPlace, cls_NoPlace, gsd_NoPlace, tks_NoPlace, mro_NoPlace⟩,
    em_NoPlace := PySem.W.exm_ref eC_NoPlace hC_NoPlace tC_NoPlace sC_NoPlace,
    n_NoPlace_part := n_NoPlace_part,
    i_NoPlace := a1,
    ti_NoPlace := ti_NoPlace,
    sn1 := fa_sn1,
    sn2 := fa_sn2,
    ik_str := fa_ik_str,
    ik_bool := fa_ik_bool,
    ik_list := fa_ik_list,
    ik_tuple := fa_ik_tuple,
    ik_NoneType := fa_ik_NoneType,
    kit_NoPlace_MeansError := kit_NoPlace_MeansError,
    kit_NoPlace_NoPoint := kit_NoPlace_NoPoint,
    F_NoNumber___init__ := F0,
    b_NoNumber___init__ := F0.binds fun _ _ _ _ _ _ us hl => match us, hl with | [_, _], _ => rfl,
    m_NoNumber___init__ := ⟨a0, i0, k0⟩,
    F_NoPlace___init__ := F1,
    b_NoPlace___init__ := F1.binds fun _ _ _ _ _ _ us hl => match us, hl with | [_, _], _ => rfl,
    m_NoPlace___init__ := ⟨a1, i1, k1⟩,
    F_Ratio___init__ := F2,
    b_Ratio___init__ := by obtain ⟨ds, r, b⟩ := F2.binds1 (ps := ["self", "top", "bottom"]) 3 1 (by simp) rfl (fun _ _ _ _ _ _ _ us its h1 h2 => match us, h1, its, h2 with | [_, _, _], _, [_], _ => ⟨_, rfl, by first | rfl | with_unfolding_all rfl | kernel_rfl⟩); cases r; exact b,
    b1_Ratio___init__ := F2.binds1 (ps := ["self", "top", "bottom"]) 2 0 (by simp) rfl (fun _ _ _ _ _ _ _ us its h1 h2 => match us, h1, its, h2 with | [_, _], _, [_], _ => ⟨_, rfl, by first | rfl | with_unfolding_all rfl | kernel_rfl⟩),
    m_Ratio___init__ := ⟨a2, i2, k2⟩,
    F_Ratio___add__ := F3,
    b_Ratio___add__ := F3.binds fun _ _ _ _ _ _ us hl => match us, hl with | [_, _], _ => rfl,
    m_Ratio___add__ := ⟨a3, i3, k3⟩,
    F_Ratio___radd__ := F4,
    b_Ratio___radd__ := F4.binds fun _ _ _ _ _ _ us hl => match us, hl with | [_, _], _ => rfl,
    m_Ratio___radd__ := ⟨a4, i4, k4⟩,
    F_Ratio___mul__ := F5,
    b_Ratio___mul__ := F5.binds fun _ _ _ _ _ _ us hl => match us, hl with | [_, _], _ => rfl,
    m_Ratio___mul__ := ⟨a5, i5, k5⟩,
    F_Ratio___rmul__ := F6,
    b_Ratio___rmul__ := F6.binds fun _ _ _ _ _ _ us hl => match us, hl with | [_, _], _ => rfl,
    m_Ratio___rmul__ := ⟨a6, i6, k6⟩,
    F_Ratio___eq__ := F7,
    b_Ratio___eq__ := F7.binds fun _ _ _ _ _ _ us hl => match us, hl with | [_, _], _ => rfl,
    m_Ratio___eq__ := ⟨a7, i7, k7⟩,
    F_Ratio___lt__ := F8,
    b_Ratio___lt__ := F8.binds fun _ _ _ _ _ _ us hl => match us, hl with | [_, _], _ => rfl,
    m_Ratio___lt__ := ⟨a8, i8, k8⟩,
    F_Ratio___le__ := F9,
    b_Ratio___le__ := F9.binds fun _ _ _ _ _ _ us hl => match us, hl with | [_, _], _ => rfl,
    m_Ratio___le__ := ⟨a9, i9, k9⟩,
    F_Ratio___gt__ := F10,
    b_Ratio___gt__ := F10.binds fun _ _ _ _ _ _ us hl => match us, hl with | [_, _], _ => rfl,
    m_Ratio___gt__ := ⟨a10, i10, k10⟩,
    F_Ratio___ge__ := F11,
    b_Ratio___ge__ := F11.binds fun _ _ _ _ _ _ us hl => match us, hl with | [_, _], _ => rfl,
    m_Ratio___ge__ := ⟨a11, i11, k11⟩,
    F_is_whole := F12,
    b_is_whole := F12.binds fun _ _ _ _ _ _ us hl => match us, hl with | [_], _ => rfl,
    g_is_whole := PySem.W.mg_of X G a12,
    F_is_number := F13,
    b_is_number := F13.binds fun _ _ _ _ _ _ us hl => match us, hl with | [_], _ => rfl,
    g_is_number := PySem.W.mg_of X G a13,
    F_ratio_of := F14,
    b_ratio_of := F14.binds fun _ _ _ _ _ _ us hl => match us, hl with | [_], _ => rfl,
    g_ratio_of := PySem.W.mg_of X G a14,
    F__sum := F15,
    b__sum := F15.binds fun _ _ _ _ _ _ us hl => match us, hl with | [_, _], _ => rfl,
    g__sum := PySem.W.mg_of X G a15,
    F__product := F16,
    b__product := F16.binds fun _ _ _ _ _ _ us hl => match us, hl with | [_, _], _ => rfl,
    g__product := PySem.W.mg_of X G a16,
    F__gap := F17,
    b__gap := F17.binds fun _ _ _ _ _ _ us hl => match us, hl with | [_, _], _ => rfl,
    g__gap := PySem.W.mg_of X G a17,
    F_Place___init__ := F18,
    kb_Place___init__ := F18.kbindsD (ps := ["self", "low", "high"]) 1 ["low"] (fun us its ws => us ++ ws ++ its.drop 1) (by simp) (fun r1 r2 r3 => (r1.append r3).append (r2.drop 1)) (fun _ _ _ _ _ _ _ us its ws h1 h2 h3 => match us, h1, its, h2, ws, h3 with | [_], _, [_, _], _, [_], _ => ⟨_, rfl, by first | rfl | with_unfolding_all rfl | kernel_rfl⟩),
    b_Place___init__ := by obtain ⟨ds, r, b⟩ := F18.binds1 (ps := ["self", "low", "high"]) 3 2 (by simp) rfl (fun _ _ _ _ _ _ _ us its h1 h2 => match us, h1, its, h2 with | [_, _, _], _, [_, _], _ => ⟨_, rfl, by first | rfl | with_unfolding_all rfl | kernel_rfl⟩); cases r; exact b,
    b2_Place___init__ := F18.binds1 (ps := ["self", "low", "high"]) 1 0 (by simp) rfl (fun _ _ _ _ _ _ _ us its h1 h2 => match us, h1, its, h2 with | [_], _, [_, _], _ => ⟨_, rfl, by first | rfl | with_unfolding_all rfl | kernel_rfl⟩),
    b1_Place___init__ := F18.binds1 (ps := ["self", "low", "high"]) 2 1 (by simp) rfl (fun _ _ _ _ _ _ _ us its h1 h2 => match us, h1, its, h2 with | [_, _], _, [_, _], _ => ⟨_, rfl, by first | rfl | with_unfolding_all rfl | kernel_rfl⟩),
    m_Place___init__ := ⟨a18, i18, k18⟩,
    F_Place___eq__ := F19,
    b_Place___eq__ := F19.binds fun _ _ _ _ _ _ us hl => match us, hl with | [_, _], _ => rfl,
    m_Place___eq__ := ⟨a19, i19, k19⟩,
    F_Place___contains__ := F20,
    b_Place___contains__ := F20.binds fun _ _ _ _ _ _ us hl => match us, hl with | [_, _], _ => rfl,
    m_Place___contains__ := ⟨a20, i20, k20⟩,
    F_Place_is_line := F21,
    b_Place_is_line := F21.binds fun _ _ _ _ _ _ us hl => match us, hl with | [_], _ => rfl,
    m_Place_is_line := ⟨a21, i21, k21⟩,
    F_Place_is_segment := F22,
    b_Place_is_segment := F22.binds fun _ _ _ _ _ _ us hl => match us, hl with | [_], _ => rfl,
    m_Place_is_segment := ⟨a22, i22, k22⟩,
    F_Place_moved := F23,
    b_Place_moved := F23.binds fun _ _ _ _ _ _ us hl => match us, hl with | [_, _], _ => rfl,
    m_Place_moved := ⟨a23, i23, k23⟩,
    F_Place_stretched := F24,
    b_Place_stretched := F24.binds fun _ _ _ _ _ _ us hl => match us, hl with | [_, _], _ => rfl,
    m_Place_stretched := ⟨a24, i24, k24⟩,
    F__law_is_integer := F25,
    b__law_is_integer := F25.binds fun _ _ _ _ _ _ us hl => match us, hl with | [_], _ => rfl,
    g__law_is_integer := PySem.W.mg_of X G a25,
    F__law_feed := F26,
    b__law_feed := F26.binds fun _ _ _ _ _ _ us hl => match us, hl with | [_], _ => rfl,
    g__law_feed := PySem.W.mg_of X G a26,
    F__law_take := F27,
    b__law_take := F27.binds fun _ _ _ _ _ _ us hl => match us, hl with | [_, _], _ => rfl,
    g__law_take := PySem.W.mg_of X G a27,
    F__law_number := F28,
    b__law_number := F28.binds fun _ _ _ _ _ _ us hl => match us, hl with | [_, _], _ => rfl,
    g__law_number := PySem.W.mg_of X G a28,
    F__law_is := F29,
    b__law_is := F29.binds fun _ _ _ _ _ _ us hl => match us, hl with | [_, _, _], _ => rfl,
    g__law_is := PySem.W.mg_of X G a29,
    F__law_flag := F30,
    b__law_flag := F30.binds fun _ _ _ _ _ _ us hl => match us, hl with | [_, _], _ => rfl,
    g__law_flag := PySem.W.mg_of X G a30,
    F__law_refused := F31,
    b__law_refused := F31.binds fun _ _ _ _ _ _ us hl => match us, hl with | [_, _, _], _ => rfl,
    g__law_refused := PySem.W.mg_of X G a31,
    F__law_word := F32,
    b__law_word := F32.binds fun _ _ _ _ _ _ us hl => match us, hl with | [_], _ => rfl,
    g__law_word := PySem.W.mg_of X G a32,
    F__law_end_is := F33,
    b__law_end_is := F33.binds fun _ _ _ _ _ _ us hl => match us, hl with | [_, _, _], _ => rfl,
    g__law_end_is := PySem.W.mg_of X G a33,
    F__law_place_is := F34,
    b__law_place_is := F34.binds fun _ _ _ _ _ _ us hl => match us, hl with | [_, _, _, _], _ => rfl,
    g__law_place_is := PySem.W.mg_of X G a34,
    F__law_plus := F35,
    b__law_plus := F35.binds fun _ _ _ _ _ _ us hl => match us, hl with | [_, _], _ => rfl,
    g__law_plus := PySem.W.mg_of X G a35,
    F__law_times := F36,
    b__law_times := F36.binds fun _ _ _ _ _ _ us hl => match us, hl with | [_, _], _ => rfl,
    g__law_times := PySem.W.mg_of X G a36,
    F__law_asked := F37,
    b__law_asked := F37.binds fun _ _ _ _ _ _ us hl => match us, hl with | [_, _, _, _, _], _ => rfl,
    g__law_asked := PySem.W.mg_of X G a37,
    F_law := F38,
    b_law := F38.fn.binds fun _ _ _ _ _ _ us hl => match us, hl with | [_], _ => rfl,
    g_law := PySem.W.mg_of X G a38,
    z_isinstance := PySem.W.mg_none_of X G z_isinstance,
    z_int := PySem.W.mg_none_of X G z_int,
    z_bool := PySem.W.mg_none_of X G z_bool,
    z_abs := PySem.W.mg_none_of X G z_abs,
    z_len := PySem.W.mg_none_of X G z_len,
    z_max := PySem.W.mg_none_of X G z_max,
    z_range := PySem.W.mg_none_of X G z_range,
    z_NotImplemented := PySem.W.mg_none_of X G z_NotImplemented,
    g_gcd := PySem.W.mg_of X G j_gcd }
  have e1 : ∀ p ∈ csL A, h.get? p.2 = some { cls := .none, data := .fields #[] } := fun p hp => by
    simp only [csL, List.mem_cons, List.not_mem_nil, or_false] at hp
    subst hp
    · exact ht38
  have e2 : ∀ p ∈ csL A, K.lookup p.2 = none := fun p hp => by
    simp only [csL, List.mem_cons, List.not_mem_nil, or_false] at hp
    subst hp
    · exact nt38
  have e3 : ∀ p ∈ csL A, PySem.W.CodeHd h p.1 p.2 := fun p hp => by
    simp only [csL, List.mem_cons, List.not_mem_nil, or_false] at hp
    subst hp
    · exact ch38
  refine ⟨PySem.W.fnOf "law" "law" (defArgs s_law) (defBody s_law) (defScope s_law) .none kV38 dc38 pm38 an38 (.ref tC38) ct38, csL A, sp_law K A, e1, e2, e3, fun s v => .of_eq rfl, fun H a ns hl _ hT hS => ⟨a, ns, rfl, hS, hl, tabs_nil hT, fun _ => rfl⟩, fun base _ _ B => ok_law (A := A) (D := D) T B⟩
end Mo
open PySem PySem.W PyProof.Rows
set_option maxRecDepth 100000 in
set_option maxHeartbeats 0 in
theorem PySem.Challenge.cw_momentrows_k15_places_holds : PySem.Challenge.rw_momentrows_k15_places.Holds := by
  w_on; o_law; k_head; (case hw => w_witness2)
  k_fill
  refine LamX.walk_ofTs (l := PySem.Challenge.rw_momentrows_k15_places) (n := 63) (k := 12) (x := "_law_script") (CX := fun _ => L2.CX0) rfl (by decide) rfl ⟨rfl, by decide, by decide⟩ (fun w h Y => PySem.W.km_in_of Y) ?F (fun _ _ _ _ _ h => h)
  case F =>
    intro w mg fa h Y KX G hmg
    have tabs := PySem.W.km_tabs_of Y
    refine' Mo.all_mk KX G hmg ?g_Ratio ?g_Place ?g_NoNumber ?g_NoPlace ?g_MeansError ?g_NoPoint ?xL_NoNumber ?xL_NoPlace ?a0 ?i0 ?l0 ?c0 ?k0 ?a1 ?i1 ?l1 ?c1 ?k1 ?a2 ?i2 ?l2 ?c2 ?k2 ?t2 ?a3 ?i3 ?l3 ?c3 ?k3 ?a4 ?i4 ?l4 ?c4 ?k4 ?a5 ?i5 ?l5 ?c5 ?k5 ?a6 ?i6 ?l6 ?c6 ?k6 ?a7 ?i7 ?l7 ?c7 ?k7 ?a8 ?i8 ?l8 ?c8 ?k8 ?a9 ?i9 ?l9 ?c9 ?k9 ?a10 ?i10 ?l10 ?c10 ?k10 ?a11 ?i11 ?l11 ?c11 ?k11 ?a12 ?l12 ?c12 ?k12 ?a13 ?l13 ?c13 ?k13 ?a14 ?l14 ?c14 ?k14 ?a15 ?l15 ?c15 ?k15 ?a16 ?l16 ?c16 ?k16 ?a17 ?l17 ?c17 ?k17 ?a18 ?i18 ?l18 ?c18 ?k18 ?t18 ?a19 ?i19 ?l19 ?c19 ?k19 ?a20 ?i20 ?l20 ?c20 ?k20 ?a21 ?i21 ?l21 ?c21 ?k21 ?a22 ?i22 ?l22 ?c22 ?k22 ?a23 ?i23 ?l23 ?c23 ?k23 ?a24 ?i24 ?l24 ?c24 ?k24 ?a25 ?l25 ?c25 ?k25 ?a26 ?l26 ?c26 ?k26 ?a27 ?l27 ?c27 ?k27 ?a28 ?l28 ?c28 ?k28 ?a29 ?l29 ?c29 ?k29 ?a30 ?l30 ?c30 ?k30 ?a31 ?l31 ?c31 ?k31 ?a32 ?l32 ?c32 ?k32 ?a33 ?l33 ?c33 ?k33 ?a34 ?l34 ?c34 ?k34 ?a35 ?l35 ?c35 ?k35 ?a36 ?l36 ?c36 ?k36 ?a37 ?l37 ?c37 ?k37 ?a38 ?l38 ?ch38 ?ht38 ?nt38 ?c38 ?k38 ?pg_Ratio ?hd_Ratio ?po_Ratio ?sa_Ratio ?mk_Ratio ?kc_Ratio ?sf_Ratio ?s1_Ratio ?s2_Ratio ?cls_Ratio ?gsd_Ratio ?tks_Ratio ?mro_Ratio ?ki_Ratio ?ik_Ratio ?n_top_Ratio ?n_bottom_Ratio ?pg_Place ?hd_Place ?po_Place ?sa_Place ?mk_Place ?kc_Place ?sf_Place ?s1_Place ?s2_Place ?cls_Place ?gsd_Place ?tks_Place ?mro_Place ?ki_Place ?ik_Place ?n_low_Place ?n_high_Place ?sa_NoNumber ?ga_NoNumber ?gg_NoNumber ?cls_NoNumber ?gsd_NoNumber ?tks_NoNumber ?mro_NoNumber ?kC_NoNumber ?eC_NoNumber ?tC_NoNumber ?hC_NoNumber ?sC_NoNumber ?n_NoNumber_word ?ti_NoNumber ?sa_NoPlace ?ga_NoPlace ?gg_NoPlace ?cls_NoPlace ?gsd_NoPlace ?tks_NoPlace ?mro_NoPlace ?kC_NoPlace ?eC_NoPlace ?tC_NoPlace ?hC_NoPlace ?sC_NoPlace ?n_NoPlace_part ?ti_NoPlace ?fa_sn1 ?fa_sn2 ?fa_ik_str ?fa_ik_bool ?fa_ik_list ?fa_ik_tuple ?fa_ik_NoneType ?kit_NoPlace_MeansError ?kit_NoPlace_NoPoint ?z_isinstance ?z_int ?z_bool ?z_abs ?z_len ?z_max ?z_range ?z_NotImplemented ?j_gcd
    (case g_Ratio => k_is)
    (case g_Place => k_is)
    (case g_NoNumber => k_is)
    (case g_NoPlace => k_is)
    (case g_MeansError => k_is)
    (case g_NoPoint => k_is)
    (case xL_NoNumber => k_is)
    (case xL_NoPlace => k_is)
    (case a0 => k_is)
    (case i0 => k_is)
    (case l0 => k_is)
    (case c0 => k_is)
    (case k0 => k_is)
    (case a1 => k_is)
    (case i1 => k_is)
    (case l1 => k_is)
    (case c1 => k_is)
    (case k1 => k_is)
    (case a2 => k_is)
    (case i2 => k_is)
    (case l2 => k_is)
    (case c2 => k_is)
    (case k2 => k_is)
    (case t2 => k_is)
    (case a3 => k_is)
    (case i3 => k_is)
    (case l3 => k_is)
    (case c3 => k_is)
    (case k3 => k_is)
    (case a4 => k_is)
    (case i4 => k_is)
    (case l4 => k_is)
    (case c4 => k_is)
    (case k4 => k_is)
    (case a5 => k_is)
    (case i5 => k_is)
    (case l5 => k_is)
    (case c5 => k_is)
    (case k5 => k_is)
    (case a6 => k_is)
    (case i6 => k_is)
    (case l6 => k_is)
    (case c6 => k_is)
    (case k6 => k_is)
    (case a7 => k_is)
    (case i7 => k_is)
    (case l7 => k_is)
    (case c7 => k_is)
    (case k7 => k_is)
    (case a8 => k_is)
    (case i8 => k_is)
    (case l8 => k_is)
    (case c8 => k_is)
    (case k8 => k_is)
    (case a9 => k_is)
    (case i9 => k_is)
    (case l9 => k_is)
    (case c9 => k_is)
    (case k9 => k_is)
    (case a10 => k_is)
    (case i10 => k_is)
    (case l10 => k_is)
    (case c10 => k_is)
    (case k10 => k_is)
    (case a11 => k_is)
    (case i11 => k_is)
    (case l11 => k_is)
    (case c11 => k_is)
    (case k11 => k_is)
    (case a12 => k_is)
    (case l12 => k_is)
    (case c12 => k_is)
    (case k12 => k_is)
    (case a13 => k_is)
    (case l13 => k_is)
    (case c13 => k_is)
    (case k13 => k_is)
    (case a14 => k_is)
    (case l14 => k_is)
    (case c14 => k_is)
    (case k14 => k_is)
    (case a15 => k_is)
    (case l15 => k_is)
    (case c15 => k_is)
    (case k15 => k_is)
    (case a16 => k_is)
    (case l16 => k_is)
    (case c16 => k_is)
    (case k16 => k_is)
    (case a17 => k_is)
    (case l17 => k_is)
    (case c17 => k_is)
    (case k17 => k_is)
    (case a18 => k_is)
    (case i18 => k_is)
    (case l18 => k_is)
    (case c18 => k_is)
    (case k18 => k_is)
    (case t18 => k_is)
    (case a19 => k_is)
    (case i19 => k_is)
    (case l19 => k_is)
    (case c19 => k_is)
    (case k19 => k_is)
    (case a20 => k_is)
    (case i20 => k_is)
    (case l20 => k_is)
    (case c20 => k_is)
    (case k20 => k_is)
    (case a21 => k_is)
    (case i21 => k_is)
    (case l21 => k_is)
    (case c21 => k_is)
    (case k21 => k_is)
    (case a22 => k_is)
    (case i22 => k_is)
    (case l22 => k_is)
    (case c22 => k_is)
    (case k22 => k_is)
    (case a23 => k_is)
    (case i23 => k_is)
    (case l23 => k_is)
    (case c23 => k_is)
    (case k23 => k_is)
    (case a24 => k_is)
    (case i24 => k_is)
    (case l24 => k_is)
    (case c24 => k_is)
    (case k24 => k_is)
    (case a25 => k_is)
    (case l25 => k_is)
    (case c25 => k_is)
    (case k25 => k_is)
    (case a26 => k_is)
    (case l26 => k_is)
    (case c26 => k_is)
    (case k26 => k_is)
    (case a27 => k_is)
    (case l27 => k_is)
    (case c27 => k_is)
    (case k27 => k_is)
    (case a28 => k_is)
    (case l28 => k_is)
    (case c28 => k_is)
    (case k28 => k_is)
    (case a29 => k_is)
    (case l29 => k_is)
    (case c29 => k_is)
    (case k29 => k_is)
    (case a30 => k_is)
    (case l30 => k_is)
    (case c30 => k_is)
    (case k30 => k_is)
    (case a31 => k_is)
    (case l31 => k_is)
    (case c31 => k_is)
    (case k31 => k_is)
    (case a32 => k_is)
    (case l32 => k_is)
    (case c32 => k_is)
    (case k32 => k_is)
    (case a33 => k_is)
    (case l33 => k_is)
    (case c33 => k_is)
    (case k33 => k_is)
    (case a34 => k_is)
    (case l34 => k_is)
    (case c34 => k_is)
    (case k34 => k_is)
    (case a35 => k_is)
    (case l35 => k_is)
    (case c35 => k_is)
    (case k35 => k_is)
    (case a36 => k_is)
    (case l36 => k_is)
    (case c36 => k_is)
    (case k36 => k_is)
    (case a37 => k_is)
    (case l37 => k_is)
    (case c37 => k_is)
    (case k37 => k_is)
    (case a38 => k_is)
    (case l38 => k_is)
    (case ch38 => exact PySem.W.codeHd_of_K (P := 556) KX (by kernel_rfl))
    (case ht38 => exact tabs _ (by simp))
    (case nt38 => first | rfl | kernel_rfl | k_is)
    (case c38 => k_is)
    (case k38 => k_is)
    (case pg_Ratio => k_is)
    (case hd_Ratio => k_is)
    (case po_Ratio => k_is)
    (case sa_Ratio => k_is)
    (case mk_Ratio => k_is)
    (case kc_Ratio => k_is)
    (case sf_Ratio => k_is)
    (case s1_Ratio => k_is)
    (case s2_Ratio => k_is)
    (case cls_Ratio => k_is)
    (case gsd_Ratio => k_is)
    (case tks_Ratio => k_is)
    (case mro_Ratio => k_is)
    (case ki_Ratio => first | kit_is | k_is)
    (case ik_Ratio => first | kit_is | k_is)
    (case n_top_Ratio => k_is)
    (case n_bottom_Ratio => k_is)
    (case pg_Place => k_is)
    (case hd_Place => k_is)
    (case po_Place => k_is)
    (case sa_Place => k_is)
    (case mk_Place => k_is)
    (case kc_Place => k_is)
    (case sf_Place => k_is)
    (case s1_Place => k_is)
    (case s2_Place => k_is)
    (case cls_Place => k_is)
    (case gsd_Place => k_is)
    (case tks_Place => k_is)
    (case mro_Place => k_is)
    (case ki_Place => first | kit_is | k_is)
    (case ik_Place => first | kit_is | k_is)
    (case n_low_Place => k_is)
    (case n_high_Place => k_is)
    (case sa_NoNumber => k_is)
    (case ga_NoNumber => k_is)
    (case gg_NoNumber => k_is)
    (case cls_NoNumber => k_is)
    (case gsd_NoNumber => k_is)
    (case tks_NoNumber => k_is)
    (case mro_NoNumber => k_is)
    (case kC_NoNumber => k_is)
    (case eC_NoNumber => k_is)
    (case tC_NoNumber => k_is)
    (case hC_NoNumber => k_is)
    (case sC_NoNumber => first | rfl | k_is)
    (case n_NoNumber_word => k_is)
    (case ti_NoNumber => k_is)
    (case sa_NoPlace => k_is)
    (case ga_NoPlace => k_is)
    (case gg_NoPlace => k_is)
    (case cls_NoPlace => k_is)
    (case gsd_NoPlace => k_is)
    (case tks_NoPlace => k_is)
    (case mro_NoPlace => k_is)
    (case kC_NoPlace => k_is)
    (case eC_NoPlace => k_is)
    (case tC_NoPlace => k_is)
    (case hC_NoPlace => k_is)
    (case sC_NoPlace => first | rfl | k_is)
    (case n_NoPlace_part => k_is)
    (case ti_NoPlace => k_is)
    (case fa_sn1 => k_is)
    (case fa_sn2 => k_is)
    (case fa_ik_str => first | kit_is | k_is)
    (case fa_ik_bool => first | kit_is | k_is)
    (case fa_ik_list => first | kit_is | k_is)
    (case fa_ik_tuple => first | kit_is | k_is)
    (case fa_ik_NoneType => first | kit_is | k_is)
    (case kit_NoPlace_MeansError => first | kit_is | k_is)
    (case kit_NoPlace_NoPoint => first | kit_is | k_is)
    (case z_isinstance => k_is)
    (case z_int => k_is)
    (case z_bool => k_is)
    (case z_abs => k_is)
    (case z_len => k_is)
    (case z_max => k_is)
    (case z_range => k_is)
    (case z_NotImplemented => k_is)
    (case j_gcd => k_is)

