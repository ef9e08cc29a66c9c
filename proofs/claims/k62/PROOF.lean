import PyProof.Rows.All
import Wide.All
import OpenK.AllK
import Wide.FinOn
import HandS.Comp
import HandS.Words
import HandS.WordsList
import HandS.Exc
import HandS.Wide
import HandS.IsInst
import HandS.OwnEq
import HandS.Gcd
import HandS.Style
import HandS.Defaults
import HandS.Codes
import HandS.WordsExc
import HandS.ExcInit
import HandS.ExcOwn
import HandS.ExcField
import HandS.ExcIs
import HandS.MakeKw
import HandS.MakeKwOnly
import KE.KExcIs
import HandS.ExcValue
import HandS.EndTab
import HandS.Iter
import KE.KMathGC
import PySem.Challenge.RW_momentrows_k62_centred_rows_and_differen
set_option Elab.async false
set_option linter.all false
set_option maxRecDepth 100000
set_option maxHeartbeats 4000000
/-! # Operators of own classes, on either side of an int (my own layer over HandS) -/
namespace MoW
open PySem PySem.W
section
variable {prog : Program} {w : World} {A : Around} {E : Value → Shared → Prop} {s : Shared}
theorem int_eq_no (i : Int) (t : Tok) (l C dx : Addr) :
    Meets (Builtin.«int.__eq__» ⟨[.int i t, .ref l], []⟩) (fun _ R s => s.heap.get? l = some (PySem.W.instObj C dx) ∧ R (.ok (.ret .notImplemented)) s) :=
  .of_wp fun prog w A R s h => by obtain ⟨hp, g, d, tk, os⟩ := s; obtain ⟨hl, h⟩ := h; unfold PySem.W.instObj at hl; wp_walk using wpAny_loadPart' hl, wpAny_load hl; exact ⟨_, rfl, h⟩
theorem int_ne_no (i : Int) (t : Tok) (l C dx : Addr) :
    Meets (Builtin.«int.__ne__» ⟨[.int i t, .ref l], []⟩) (fun _ R s => s.heap.get? l = some (PySem.W.instObj C dx) ∧ R (.ok (.ret .notImplemented)) s) :=
  .of_wp fun prog w A R s h => by obtain ⟨hp, g, d, tk, os⟩ := s; obtain ⟨hl, h⟩ := h; unfold PySem.W.instObj at hl; wp_walk using wpAny_loadPart' hl, wpAny_load hl; exact ⟨_, rfl, h⟩
theorem int_lt_no (i : Int) (t : Tok) (l C dx : Addr) :
    Meets (Builtin.«int.__lt__» ⟨[.int i t, .ref l], []⟩) (fun _ R s => s.heap.get? l = some (PySem.W.instObj C dx) ∧ R (.ok (.ret .notImplemented)) s) :=
  .of_wp fun prog w A R s h => by obtain ⟨hp, g, d, tk, os⟩ := s; obtain ⟨hl, h⟩ := h; unfold PySem.W.instObj at hl; wp_walk using wpAny_loadPart' hl, wpAny_load hl; exact ⟨_, rfl, h⟩
theorem int_le_no (i : Int) (t : Tok) (l C dx : Addr) :
    Meets (Builtin.«int.__le__» ⟨[.int i t, .ref l], []⟩) (fun _ R s => s.heap.get? l = some (PySem.W.instObj C dx) ∧ R (.ok (.ret .notImplemented)) s) :=
  .of_wp fun prog w A R s h => by obtain ⟨hp, g, d, tk, os⟩ := s; obtain ⟨hl, h⟩ := h; unfold PySem.W.instObj at hl; wp_walk using wpAny_loadPart' hl, wpAny_load hl; exact ⟨_, rfl, h⟩
theorem int_gt_no (i : Int) (t : Tok) (l C dx : Addr) :
    Meets (Builtin.«int.__gt__» ⟨[.int i t, .ref l], []⟩) (fun _ R s => s.heap.get? l = some (PySem.W.instObj C dx) ∧ R (.ok (.ret .notImplemented)) s) :=
  .of_wp fun prog w A R s h => by obtain ⟨hp, g, d, tk, os⟩ := s; obtain ⟨hl, h⟩ := h; unfold PySem.W.instObj at hl; wp_walk using wpAny_loadPart' hl, wpAny_load hl; exact ⟨_, rfl, h⟩
theorem int_ge_no (i : Int) (t : Tok) (l C dx : Addr) :
    Meets (Builtin.«int.__ge__» ⟨[.int i t, .ref l], []⟩) (fun _ R s => s.heap.get? l = some (PySem.W.instObj C dx) ∧ R (.ok (.ret .notImplemented)) s) :=
  .of_wp fun prog w A R s h => by obtain ⟨hp, g, d, tk, os⟩ := s; obtain ⟨hl, h⟩ := h; unfold PySem.W.instObj at hl; wp_walk using wpAny_loadPart' hl, wpAny_load hl; exact ⟨_, rfl, h⟩
theorem int_add_no (i : Int) (t : Tok) (l C dx : Addr) :
    Meets (Builtin.«int.__add__» ⟨[.int i t, .ref l], []⟩) (fun _ R s => s.heap.get? l = some (PySem.W.instObj C dx) ∧ R (.ok (.ret .notImplemented)) s) :=
  .of_wp fun prog w A R s h => by obtain ⟨hp, g, d, tk, os⟩ := s; obtain ⟨hl, h⟩ := h; unfold PySem.W.instObj at hl; wp_walk using wpAny_loadPart' hl, wpAny_load hl; exact ⟨_, rfl, h⟩
theorem int_sub_no (i : Int) (t : Tok) (l C dx : Addr) :
    Meets (Builtin.«int.__sub__» ⟨[.int i t, .ref l], []⟩) (fun _ R s => s.heap.get? l = some (PySem.W.instObj C dx) ∧ R (.ok (.ret .notImplemented)) s) :=
  .of_wp fun prog w A R s h => by obtain ⟨hp, g, d, tk, os⟩ := s; obtain ⟨hl, h⟩ := h; unfold PySem.W.instObj at hl; wp_walk using wpAny_loadPart' hl, wpAny_load hl; exact ⟨_, rfl, h⟩
theorem int_mul_no (i : Int) (t : Tok) (l C dx : Addr) :
    Meets (Builtin.«int.__mul__» ⟨[.int i t, .ref l], []⟩) (fun _ R s => s.heap.get? l = some (PySem.W.instObj C dx) ∧ R (.ok (.ret .notImplemented)) s) :=
  .of_wp fun prog w A R s h => by obtain ⟨hp, g, d, tk, os⟩ := s; obtain ⟨hl, h⟩ := h; unfold PySem.W.instObj at hl; wp_walk using wpAny_loadPart' hl, wpAny_load hl; exact ⟨_, rfl, h⟩
theorem int_mod_no (i : Int) (t : Tok) (l C dx : Addr) :
    Meets (Builtin.«int.__mod__» ⟨[.int i t, .ref l], []⟩) (fun _ R s => s.heap.get? l = some (PySem.W.instObj C dx) ∧ R (.ok (.ret .notImplemented)) s) :=
  .of_wp fun prog w A R s h => by obtain ⟨hp, g, d, tk, os⟩ := s; obtain ⟨hl, h⟩ := h; unfold PySem.W.instObj at hl; wp_walk using wpAny_loadPart' hl, wpAny_load hl; exact ⟨_, rfl, h⟩
end
end MoW

namespace MoW
open PySem PySem.W PyProof.Rows
section
variable {prog : Program} {w : World} {A : Around} {E : Value → Shared → Prop} {s : Shared} {K : Frag} {x C L f : Addr} {h₀ : Heap} {m : Str → Option Value} {dx : Addr} {od : Option Obj} {i : Int} {t : Tok}

theorem looks_int {M : Model} {h : Heap} : Looks M h (typeOf (.int i t)) (.type "int") := Looks.of_pure rfl

/-- an int compared with an instance: int says it can't, the instance's own mirrored method answers -/
theorem cmp_int_own {op : CmpOp} {id : String} {Q : Value → Shared → Prop} (hu : A.units < cLine) (F : Fr h₀ L s.heap m) (X₀ : K.In h₀) (I : InstAt s.heap x (instObj C dx) C od)
    (hn : subIn K (.ref C) (.type "int") = some false) (h1 : Slot "int" (cmpInfo op).2.1 id)
    (hno : ∀ Q' : Value → Shared → Prop, Q' .notImplemented s → wpAny (model prog w) A (call (.builtin id) [.int i t, .ref x]) Q' E s)
    (hs : findIn K (.ref C) (cmpInfo op).2.2 = some (some (.ref f))) (hf : isFn K (.ref f) = true)
    (h : wpAny (model prog w) A (call (.ref f) [.ref x, .int i t]) (W.CmpBack Q) E s) : wpAny (model prog w) A (richCompare op (.int i t) (.ref x)) Q E s := by
  have X := X₀.keeps F.keep
  have one : wpAny (model prog w) A (tryCompare (.ref x) (cmpInfo op).2.2 (.int i t)) (fun r s' => ∃ v, r = some v ∧ Q v s') E s := by
    unfold tryCompare
    refine wpAny_bind (ifBound_K X I hs hf (wpAny_mono h (fun v s' hv => ?_) fun _ _ e => e))
    cases v <;> first | exact hv.elim | exact wpAny_pure ⟨_, rfl, hv⟩
  unfold richCompare
  simp only [(typeIs_int s i t).oneThing_none]
  refine wpAny_holding (wpAny_bind (wpAny_cRoomFor hu ?_))
  refine wpAny_bind (wpAny_typeOf (typeIs_int s i t) (wpAny_bind (I.type.here ?_)))
  have hne : (Value.type "int" != Value.ref C) = true := rfl
  simp only [hne, if_true]
  refine wpAny_bind ((looks_subIn X hn).here ?_)
  simp only [Bool.false_eq_true, if_false, Bool.not_false, if_true]
  refine wpAny_bind (m := tryCompare (.int i t) _ (.ref x)) (wpAny_tryCompare_declines (typeIs_int s i t) h1 (hno _ ⟨rfl, ?_⟩))
  refine wpAny_bind (m := tryCompare (.ref x) _ (.int i t)) (wpAny_mono one (fun r s' z => ?_) fun _ _ e => e)
  obtain ⟨v, rfl, hq⟩ := z
  exact wpAny_pure hq

theorem mro_first {cd : ClassData} (hc : selfFirst K C = true) : ∃ cd rest, clsIn K C = some cd ∧ cd.mro = .ref C :: rest := by
  obtain ⟨cd, hcd, hm⟩ := any_some hc
  refine ⟨cd, ?_⟩
  cases q : cd.mro with
  | nil => rw [q] at hm; cases hm
  | cons a r => rw [q] at hm; exact ⟨r, hcd, by rw [List.head?_cons] at hm; cases (beq_iff_eq.mp hm); rfl⟩

/-- an int beside an instance: int says it can't, the instance's own reflected method answers -/
theorem bin_int_own {op : Operator} {id : String} {g : Addr} {Q : Value → Shared → Prop} (F : Fr h₀ L s.heap m) (X₀ : K.In h₀) (I : InstAt s.heap x (instObj C dx) C od)
    (hc : selfFirst K C = true) (hn : subIn K (.ref C) (.type "int") = some false) (h1 : Slot "int" (PySem.dunder op.info.2) id) (hfi : fillsNumberSlot (.type "int") op.info.2 = pure true)
    (hno : ∀ Q' : Value → Shared → Prop, Q' .notImplemented s → wpAny (model prog w) A (call (.builtin id) [.int i t, .ref x]) Q' E s)
    (hd : findIn K (.ref C) (PySem.dunder op.info.2) = some (some (.ref g)))
    (hs : findIn K (.ref C) (dunderR op.info.2) = some (some (.ref f))) (hf : isFn K (.ref f) = true)
    (h : wpAny (model prog w) A (call (.ref f) [.ref x, .int i t]) (W.CmpBack Q) E s) : wpAny (model prog w) A (binaryOp op (.int i t) (.ref x)) Q E s := by
  have X := X₀.keeps F.keep
  obtain ⟨cd, rest, hcd, hm⟩ := mro_first (K := K) (C := C) (cd := default) hc
  unfold binaryOp
  refine wpAny_holding (wpAny_bind ?_)
  unfold binaryOp1
  refine wpAny_bind (wpAny_typeOf (typeIs_int s i t) (wpAny_bind (I.type.here (wpAny_bind (wpAny_of_eq hfi ?_)))))
  have hne : (Value.type "int" == Value.ref C) = false := rfl
  simp only [hne, Bool.false_eq_true, if_false]
  refine wpAny_bind ((fills_K X hcd hm hd).here ?_)
  simp only [Bool.and_self, if_true]
  refine wpAny_bind ((looks_subIn X hn).here ?_)
  have hpy : numberSlotInPython (.type "int") op.info.2 = pure false := rfl
  simp only [Bool.false_eq_true, if_false, pure_bind, Bool.not_false, Bool.and_self, if_true, hpy]
  refine wpAny_bind (m := tryMethod (.int i t) _ (.ref x)) (wpAny_tryMethod_declines (typeIs_int s i t) h1 (hno _ ⟨rfl, ?_⟩))
  refine wpAny_bind (m := tryMethod (.ref x) _ (.int i t)) ?_
  unfold tryMethod
  refine wpAny_bind (special_fn X I hs (beq_iff_eq.mp hf) (wpAny_mono h (fun v s' hv => ?_) fun _ _ e => e))
  cases v <;> first | exact hv.elim | exact wpAny_pure (wpAny_bind (wpAny_rule (wpAny_pure (wpAny_pure hv))))

/-- an instance beside an int: its own method answers -/
theorem bin_own_int {op : Operator} {id : String} {g : Addr} {Q : Value → Shared → Prop} (F : Fr h₀ L s.heap m) (X₀ : K.In h₀) (I : InstAt s.heap x (instObj C dx) C od)
    (hc : selfFirst K C = true) (hn : subIn K (.type "int") (.ref C) = some false) (h1 : Slot "int" (dunderR op.info.2) id) (hfi : fillsNumberSlot (.type "int") op.info.2 = pure true)
    (hs : findIn K (.ref C) (PySem.dunder op.info.2) = some (some (.ref f))) (hf : isFn K (.ref f) = true)
    (hd : findIn K (.ref C) (dunderR op.info.2) = some (some (.ref g)))
    (h : wpAny (model prog w) A (call (.ref f) [.ref x, .int i t]) (W.CmpBack Q) E s) : wpAny (model prog w) A (binaryOp op (.ref x) (.int i t)) Q E s := by
  have X := X₀.keeps F.keep
  obtain ⟨cd, rest, hcd, hm⟩ := mro_first (K := K) (C := C) (cd := default) hc
  unfold binaryOp
  refine wpAny_holding (wpAny_bind ?_)
  unfold binaryOp1
  refine wpAny_bind (I.type.here (wpAny_bind (wpAny_typeOf (typeIs_int s i t) (wpAny_bind ((fills_K X hcd hm hs).here ?_)))))
  have hne : (Value.ref C == Value.type "int") = false := rfl
  simp only [hne, Bool.false_eq_true, if_false]
  refine wpAny_bind (wpAny_of_eq hfi ?_)
  simp only [Bool.and_self, if_true]
  refine wpAny_bind ((looks_subIn X hn).here ?_)
  have hpy : Looks (model prog w) s.heap (numberSlotInPython (.ref C) op.info.2) true := by
    unfold numberSlotInPython
    refine (looks_findIn X hs).andThen ?_
    refine Looks.andThen (a := true) .now ?_
    refine (looks_findIn X hd).andThen ?_
    refine Looks.andThen (a := true) .now ?_
    exact .now
  have hpi : numberSlotInPython (.type "int") op.info.2 = pure false := rfl
  simp only [Bool.false_eq_true, if_false, pure_bind, Bool.not_false, Bool.and_self, if_true]
  refine wpAny_bind (hpy.here ?_)
  simp only [if_true]
  refine wpAny_bind (wpAny_of_eq hpi ?_)
  simp only [Bool.not_false, if_true]
  refine wpAny_bind (wpAny_of_eq h1.lookup ?_)
  refine wpAny_bind (m := tryMethod (.ref x) _ (.int i t)) ?_
  unfold tryMethod
  refine wpAny_bind (special_fn X I hs (beq_iff_eq.mp hf) (wpAny_mono h (fun v s' hv => ?_) fun _ _ e => e))
  cases v <;> first | exact hv.elim | exact wpAny_pure (wpAny_pure (wpAny_pure hv))
end
end MoW

namespace MoL
open PySem PySem.Spec PyProof.Rows L2 MoW

/-- an instance of the class at C -/
def Ins (H : Hp) (v : V) (C : Addr) : Prop := ∃ a dx fs, v = .ref a ∧ H a = some (.ins C dx fs)
/-- what the written part says of a class with operators -/
structure OwnC (K : PySem.W.Frag) (C : Addr) : Prop where
  first : PySem.W.selfFirst K C = true
  ci : PySem.W.subIn K (.ref C) (.type "int") = some false
  ic : PySem.W.subIn K (.type "int") (.ref C) = some false

section
variable {X : Cx} {pins : List (Addr × Obj)} {σ : L2.St} {H : Hp} {s : Shared}
theorem ep_back {Q : VK} {u : Value} {s' : Shared} (h : EP X pins σ Q u s') : PySem.W.CmpBack (EP X pins σ Q) u s' := by
  cases u with
  | notImplemented =>
    obtain ⟨v, H', I, r, q⟩ := h
    exfalso
    cases v <;> first | exact nomatch r | (obtain ⟨_, e⟩ := r; exact nomatch e)
  | _ => exact h
theorem ins_at {a C dx : Addr} {fs : List (Str × V)} (I : Inv X pins σ H s) (ha : H a = some (.ins C dx fs)) : ∃ od, PySem.W.InstAt s.heap a (PySem.W.instObj C dx) C od := by
  obtain ⟨mA, J, _⟩ := ins_get I.hok ha
  obtain ⟨od, J, _⟩ := J.look
  exact ⟨_, J⟩
theorem ins_obj {a C dx : Addr} {fs : List (Str × V)} (I : Inv X pins σ H s) (ha : H a = some (.ins C dx fs)) : s.heap.get? a = some (PySem.W.instObj C dx) := by
  obtain ⟨mA, J, _⟩ := ins_get I.hok ha
  exact J.obj
end

section
variable {X : Cx} {CX : CXT} {k : Nat} {C f g : Addr} {fd : FuncData} {ps : List Str} {sp : Sp} {E : XK}
/-- x op y, x an instance, y another one or an int: x's own method answers -/
def rOwn (C : Addr) (sp : Sp) (E : XK) : R2 := fun x y H Q => Ins H x C ∧ ((∃ i, y = .int i) ∨ Ins H y C) ∧ sp [x, y] H Q E
/-- i op y, y an instance: y's own mirrored method answers -/
def rOwnR (C : Addr) (sp : Sp) (E : XK) : R2 := fun x y H Q => (∃ i, x = .int i) ∧ Ins H y C ∧ sp [y, x] H Q E

theorem op_cmp_own {op : CmpOp} (hop : ∀ v u, compareOp op v u = richCompare op v u) (c : OwnC X.K C) (m : Meth X.K C (cmpInfo op).2.1 f) (F : FnOk X.prog X.w X.K X.mg X.base CX k f fd ps sp)
    (hr : Room k X.A) (hb : Binds X.K fd ps []) (hx : Passes CX X E) : OpR X (compareOp op) (rOwn C sp E) := by
  intro pins s σ H x y v u Q I rx ry h
  obtain ⟨⟨a, dx, fs, rfl, ha⟩, hy, hs⟩ := h
  cases (show v = Value.ref a from rx)
  obtain ⟨od, J⟩ := ins_at I ha
  obtain ⟨mm, hF⟩ := I.fr
  rw [hop]
  have hrun : wpAny (model X.prog X.w) X.A (call (.ref f) [.ref a, u]) (PySem.W.CmpBack (EP X pins σ Q)) X.xe s :=
    thn (run_fn (us := [.ref a, u]) (vs := [.ref a, y]) F hr hb .nil hx I (.cons rfl (.cons ry .nil)) hs) fun v s' q => ep_back q
  rcases hy with ⟨i, rfl⟩ | ⟨b, dy, gs, rfl, hb'⟩
  · obtain ⟨t, rfl⟩ := (show ∃ t, u = Value.int i t from ry)
    exact PySem.W.cmp_K (op := op) (tb := .type "int") hr.units0 hF I.ok.mod.kin J looks_int (by unfold PySem.W.notFirst; rw [c.ic]; rfl) m.at_ m.fn hrun
  · cases (show u = Value.ref b from ry)
    obtain ⟨od', J'⟩ := ins_at I hb'
    exact PySem.W.cmp_K (op := op) (tb := .ref C) hr.units0 hF I.ok.mod.kin J J'.type (by simp [PySem.W.notFirst]) m.at_ m.fn hrun

theorem op_cmp_int {op : CmpOp} {id : String} (hop : ∀ v u, compareOp op v u = richCompare op v u) (h1 : Slot "int" (cmpInfo op).2.1 id)
    (hno : ∀ (s : Shared) (i : Int) (t : Tok) (b dy : Addr) (Q' E' : Value → Shared → Prop), s.heap.get? b = some (PySem.W.instObj C dy) → Q' .notImplemented s → wpAny (model X.prog X.w) X.A (call (.builtin id) [.int i t, .ref b]) Q' E' s)
    (c : OwnC X.K C) (m : Meth X.K C (cmpInfo op).2.2 f) (F : FnOk X.prog X.w X.K X.mg X.base CX k f fd ps sp)
    (hr : Room k X.A) (hb : Binds X.K fd ps []) (hx : Passes CX X E) : OpR X (compareOp op) (rOwnR C sp E) := by
  intro pins s σ H x y v u Q I rx ry h
  obtain ⟨⟨i, rfl⟩, ⟨b, dy, gs, rfl, hb'⟩, hs⟩ := h
  obtain ⟨t, rfl⟩ := (show ∃ t, v = Value.int i t from rx)
  cases (show u = Value.ref b from ry)
  obtain ⟨od, J⟩ := ins_at I hb'
  obtain ⟨mm, hF⟩ := I.fr
  rw [hop]
  exact cmp_int_own (op := op) hr.units0 hF I.ok.mod.kin J c.ci h1 (fun Q' q => hno s i t b dy Q' _ (ins_obj I hb') q) m.at_ m.fn
    (thn (run_fn (us := [.ref b, .int i t]) (vs := [.ref b, .int i]) F hr hb .nil hx I (.cons rfl (.cons ⟨t, rfl⟩ .nil)) hs) fun v s' q => ep_back q)

theorem op_bin_own {op : Operator} {id : String} (h1 : Slot "int" (dunderR op.info.2) id) (hfi : fillsNumberSlot (.type "int") op.info.2 = pure true) (c : OwnC X.K C)
    (m : Meth X.K C (PySem.dunder op.info.2) f) (mr : Meth X.K C (dunderR op.info.2) g) (F : FnOk X.prog X.w X.K X.mg X.base CX k f fd ps sp)
    (hr : Room k X.A) (hb : Binds X.K fd ps []) (hx : Passes CX X E) : OpR X (binaryOp op) (rOwn C sp E) := by
  intro pins s σ H x y v u Q I rx ry h
  obtain ⟨⟨a, dx, fs, rfl, ha⟩, hy, hs⟩ := h
  cases (show v = Value.ref a from rx)
  obtain ⟨od, J⟩ := ins_at I ha
  obtain ⟨mm, hF⟩ := I.fr
  have hrun : wpAny (model X.prog X.w) X.A (call (.ref f) [.ref a, u]) (PySem.W.CmpBack (EP X pins σ Q)) X.xe s :=
    thn (run_fn (us := [.ref a, u]) (vs := [.ref a, y]) F hr hb .nil hx I (.cons rfl (.cons ry .nil)) hs) fun v s' q => ep_back q
  rcases hy with ⟨i, rfl⟩ | ⟨b, dy, gs, rfl, hb'⟩
  · obtain ⟨t, rfl⟩ := (show ∃ t, u = Value.int i t from ry)
    exact bin_own_int (op := op) hF I.ok.mod.kin J c.first c.ic h1 hfi m.at_ m.fn mr.at_ hrun
  · cases (show u = Value.ref b from ry)
    obtain ⟨od', J'⟩ := ins_at I hb'
    exact PySem.W.binop_K (op := op) hF I.ok.mod.kin J J'.type c.first m.at_ m.fn hrun

theorem op_bin_int {op : Operator} {id : String} (h1 : Slot "int" (PySem.dunder op.info.2) id) (hfi : fillsNumberSlot (.type "int") op.info.2 = pure true)
    (hno : ∀ (s : Shared) (i : Int) (t : Tok) (b dy : Addr) (Q' E' : Value → Shared → Prop), s.heap.get? b = some (PySem.W.instObj C dy) → Q' .notImplemented s → wpAny (model X.prog X.w) X.A (call (.builtin id) [.int i t, .ref b]) Q' E' s)
    (c : OwnC X.K C) (m : Meth X.K C (dunderR op.info.2) f) (ml : Meth X.K C (PySem.dunder op.info.2) g) (F : FnOk X.prog X.w X.K X.mg X.base CX k f fd ps sp)
    (hr : Room k X.A) (hb : Binds X.K fd ps []) (hx : Passes CX X E) : OpR X (binaryOp op) (rOwnR C sp E) := by
  intro pins s σ H x y v u Q I rx ry h
  obtain ⟨⟨i, rfl⟩, ⟨b, dy, gs, rfl, hb'⟩, hs⟩ := h
  obtain ⟨t, rfl⟩ := (show ∃ t, v = Value.int i t from rx)
  cases (show u = Value.ref b from ry)
  obtain ⟨od, J⟩ := ins_at I hb'
  obtain ⟨mm, hF⟩ := I.fr
  exact bin_int_own (op := op) hF I.ok.mod.kin J c.first c.ci h1 hfi (fun Q' q => hno s i t b dy Q' _ (ins_obj I hb') q) ml.at_ m.at_ m.fn
    (thn (run_fn (us := [.ref b, .int i t]) (vs := [.ref b, .int i]) F hr hb .nil hx I (.cons rfl (.cons ⟨t, rfl⟩ .nil)) hs) fun v s' q => ep_back q)

theorem op_eq_own (c : OwnC X.K C) (m : Meth X.K C "__eq__" f) (F : FnOk X.prog X.w X.K X.mg X.base CX k f fd ps sp)
    (hr : Room k X.A) (hb : Binds X.K fd ps []) (hx : Passes CX X E) : OpR X (compareOp .Eq) (rOwn C sp E) := op_cmp_own (op := .Eq) (fun _ _ => rfl) c m F hr hb hx
theorem op_eq_int (c : OwnC X.K C) (m : Meth X.K C "__eq__" f) (F : FnOk X.prog X.w X.K X.mg X.base CX k f fd ps sp)
    (hr : Room k X.A) (hb : Binds X.K fd ps []) (hx : Passes CX X E) : OpR X (compareOp .Eq) (rOwnR C sp E) := op_cmp_int (op := .Eq) (fun _ _ => rfl) PySem.F.slot_int_eq
  (fun s i t b dy Q' E' hb' q => call_meets PySem.F.slot_int_eq (typeIs_int s i t) PySem.F.entry_int_eq (PySem.F.args_int_eq_2 _ _) (int_eq_no i t b C dy) ⟨hb', q⟩) c m F hr hb hx

theorem op_ne_own (c : OwnC X.K C) (m : Meth X.K C "__ne__" f) (F : FnOk X.prog X.w X.K X.mg X.base CX k f fd ps sp)
    (hr : Room k X.A) (hb : Binds X.K fd ps []) (hx : Passes CX X E) : OpR X (compareOp .NotEq) (rOwn C sp E) := op_cmp_own (op := .NotEq) (fun _ _ => rfl) c m F hr hb hx
theorem op_ne_int (c : OwnC X.K C) (m : Meth X.K C "__ne__" f) (F : FnOk X.prog X.w X.K X.mg X.base CX k f fd ps sp)
    (hr : Room k X.A) (hb : Binds X.K fd ps []) (hx : Passes CX X E) : OpR X (compareOp .NotEq) (rOwnR C sp E) := op_cmp_int (op := .NotEq) (fun _ _ => rfl) PySem.F.slot_int_ne
  (fun s i t b dy Q' E' hb' q => call_meets PySem.F.slot_int_ne (typeIs_int s i t) PySem.F.entry_int_ne (PySem.F.args_int_ne_2 _ _) (int_ne_no i t b C dy) ⟨hb', q⟩) c m F hr hb hx

theorem op_lt_own (c : OwnC X.K C) (m : Meth X.K C "__lt__" f) (F : FnOk X.prog X.w X.K X.mg X.base CX k f fd ps sp)
    (hr : Room k X.A) (hb : Binds X.K fd ps []) (hx : Passes CX X E) : OpR X (compareOp .Lt) (rOwn C sp E) := op_cmp_own (op := .Lt) (fun _ _ => rfl) c m F hr hb hx
theorem op_lt_int (c : OwnC X.K C) (m : Meth X.K C "__gt__" f) (F : FnOk X.prog X.w X.K X.mg X.base CX k f fd ps sp)
    (hr : Room k X.A) (hb : Binds X.K fd ps []) (hx : Passes CX X E) : OpR X (compareOp .Lt) (rOwnR C sp E) := op_cmp_int (op := .Lt) (fun _ _ => rfl) PySem.F.slot_int_lt
  (fun s i t b dy Q' E' hb' q => call_meets PySem.F.slot_int_lt (typeIs_int s i t) PySem.F.entry_int_lt (PySem.F.args_int_lt_2 _ _) (int_lt_no i t b C dy) ⟨hb', q⟩) c m F hr hb hx

theorem op_le_own (c : OwnC X.K C) (m : Meth X.K C "__le__" f) (F : FnOk X.prog X.w X.K X.mg X.base CX k f fd ps sp)
    (hr : Room k X.A) (hb : Binds X.K fd ps []) (hx : Passes CX X E) : OpR X (compareOp .LtE) (rOwn C sp E) := op_cmp_own (op := .LtE) (fun _ _ => rfl) c m F hr hb hx
theorem op_le_int (c : OwnC X.K C) (m : Meth X.K C "__ge__" f) (F : FnOk X.prog X.w X.K X.mg X.base CX k f fd ps sp)
    (hr : Room k X.A) (hb : Binds X.K fd ps []) (hx : Passes CX X E) : OpR X (compareOp .LtE) (rOwnR C sp E) := op_cmp_int (op := .LtE) (fun _ _ => rfl) PySem.F.slot_int_le
  (fun s i t b dy Q' E' hb' q => call_meets PySem.F.slot_int_le (typeIs_int s i t) PySem.F.entry_int_le (PySem.F.args_int_le_2 _ _) (int_le_no i t b C dy) ⟨hb', q⟩) c m F hr hb hx

theorem op_gt_own (c : OwnC X.K C) (m : Meth X.K C "__gt__" f) (F : FnOk X.prog X.w X.K X.mg X.base CX k f fd ps sp)
    (hr : Room k X.A) (hb : Binds X.K fd ps []) (hx : Passes CX X E) : OpR X (compareOp .Gt) (rOwn C sp E) := op_cmp_own (op := .Gt) (fun _ _ => rfl) c m F hr hb hx
theorem op_gt_int (c : OwnC X.K C) (m : Meth X.K C "__lt__" f) (F : FnOk X.prog X.w X.K X.mg X.base CX k f fd ps sp)
    (hr : Room k X.A) (hb : Binds X.K fd ps []) (hx : Passes CX X E) : OpR X (compareOp .Gt) (rOwnR C sp E) := op_cmp_int (op := .Gt) (fun _ _ => rfl) PySem.F.slot_int_gt
  (fun s i t b dy Q' E' hb' q => call_meets PySem.F.slot_int_gt (typeIs_int s i t) PySem.F.entry_int_gt (PySem.F.args_int_gt_2 _ _) (int_gt_no i t b C dy) ⟨hb', q⟩) c m F hr hb hx

theorem op_ge_own (c : OwnC X.K C) (m : Meth X.K C "__ge__" f) (F : FnOk X.prog X.w X.K X.mg X.base CX k f fd ps sp)
    (hr : Room k X.A) (hb : Binds X.K fd ps []) (hx : Passes CX X E) : OpR X (compareOp .GtE) (rOwn C sp E) := op_cmp_own (op := .GtE) (fun _ _ => rfl) c m F hr hb hx
theorem op_ge_int (c : OwnC X.K C) (m : Meth X.K C "__le__" f) (F : FnOk X.prog X.w X.K X.mg X.base CX k f fd ps sp)
    (hr : Room k X.A) (hb : Binds X.K fd ps []) (hx : Passes CX X E) : OpR X (compareOp .GtE) (rOwnR C sp E) := op_cmp_int (op := .GtE) (fun _ _ => rfl) PySem.F.slot_int_ge
  (fun s i t b dy Q' E' hb' q => call_meets PySem.F.slot_int_ge (typeIs_int s i t) PySem.F.entry_int_ge (PySem.F.args_int_ge_2 _ _) (int_ge_no i t b C dy) ⟨hb', q⟩) c m F hr hb hx

theorem op_add_own (c : OwnC X.K C) (m : Meth X.K C "__add__" f) (mr : Meth X.K C "__radd__" g) (F : FnOk X.prog X.w X.K X.mg X.base CX k f fd ps sp)
    (hr : Room k X.A) (hb : Binds X.K fd ps []) (hx : Passes CX X E) : OpR X (binaryOp .Add) (rOwn C sp E) := op_bin_own (op := .Add) PySem.F.slot_int_radd PySem.F.fills_int_add c m mr F hr hb hx
theorem op_add_int (c : OwnC X.K C) (m : Meth X.K C "__radd__" f) (ml : Meth X.K C "__add__" g) (F : FnOk X.prog X.w X.K X.mg X.base CX k f fd ps sp)
    (hr : Room k X.A) (hb : Binds X.K fd ps []) (hx : Passes CX X E) : OpR X (binaryOp .Add) (rOwnR C sp E) := op_bin_int (op := .Add) PySem.F.slot_int_add PySem.F.fills_int_add
  (fun s i t b dy Q' E' hb' q => call_meets PySem.F.slot_int_add (typeIs_int s i t) PySem.F.entry_int_add (PySem.F.args_int_add_2 _ _) (int_add_no i t b C dy) ⟨hb', q⟩) c m ml F hr hb hx

theorem op_sub_own (c : OwnC X.K C) (m : Meth X.K C "__sub__" f) (mr : Meth X.K C "__rsub__" g) (F : FnOk X.prog X.w X.K X.mg X.base CX k f fd ps sp)
    (hr : Room k X.A) (hb : Binds X.K fd ps []) (hx : Passes CX X E) : OpR X (binaryOp .Sub) (rOwn C sp E) := op_bin_own (op := .Sub) PySem.F.slot_int_rsub PySem.F.fills_int_sub c m mr F hr hb hx
theorem op_sub_int (c : OwnC X.K C) (m : Meth X.K C "__rsub__" f) (ml : Meth X.K C "__sub__" g) (F : FnOk X.prog X.w X.K X.mg X.base CX k f fd ps sp)
    (hr : Room k X.A) (hb : Binds X.K fd ps []) (hx : Passes CX X E) : OpR X (binaryOp .Sub) (rOwnR C sp E) := op_bin_int (op := .Sub) PySem.F.slot_int_sub PySem.F.fills_int_sub
  (fun s i t b dy Q' E' hb' q => call_meets PySem.F.slot_int_sub (typeIs_int s i t) PySem.F.entry_int_sub (PySem.F.args_int_sub_2 _ _) (int_sub_no i t b C dy) ⟨hb', q⟩) c m ml F hr hb hx

theorem op_mul_own (c : OwnC X.K C) (m : Meth X.K C "__mul__" f) (mr : Meth X.K C "__rmul__" g) (F : FnOk X.prog X.w X.K X.mg X.base CX k f fd ps sp)
    (hr : Room k X.A) (hb : Binds X.K fd ps []) (hx : Passes CX X E) : OpR X (binaryOp .Mult) (rOwn C sp E) := op_bin_own (op := .Mult) PySem.F.slot_int_rmul PySem.F.fills_int_mul c m mr F hr hb hx
theorem op_mul_int (c : OwnC X.K C) (m : Meth X.K C "__rmul__" f) (ml : Meth X.K C "__mul__" g) (F : FnOk X.prog X.w X.K X.mg X.base CX k f fd ps sp)
    (hr : Room k X.A) (hb : Binds X.K fd ps []) (hx : Passes CX X E) : OpR X (binaryOp .Mult) (rOwnR C sp E) := op_bin_int (op := .Mult) PySem.F.slot_int_mul PySem.F.fills_int_mul
  (fun s i t b dy Q' E' hb' q => call_meets PySem.F.slot_int_mul (typeIs_int s i t) PySem.F.entry_int_mul (PySem.F.args_int_mul_2 _ _) (int_mul_no i t b C dy) ⟨hb', q⟩) c m ml F hr hb hx

theorem op_mod_own (c : OwnC X.K C) (m : Meth X.K C "__mod__" f) (mr : Meth X.K C "__rmod__" g) (F : FnOk X.prog X.w X.K X.mg X.base CX k f fd ps sp)
    (hr : Room k X.A) (hb : Binds X.K fd ps []) (hx : Passes CX X E) : OpR X (binaryOp .Mod) (rOwn C sp E) := op_bin_own (op := .Mod) PySem.F.slot_int_rmod PySem.F.fills_int_mod c m mr F hr hb hx
theorem op_mod_int (c : OwnC X.K C) (m : Meth X.K C "__rmod__" f) (ml : Meth X.K C "__mod__" g) (F : FnOk X.prog X.w X.K X.mg X.base CX k f fd ps sp)
    (hr : Room k X.A) (hb : Binds X.K fd ps []) (hx : Passes CX X E) : OpR X (binaryOp .Mod) (rOwnR C sp E) := op_bin_int (op := .Mod) PySem.F.slot_int_mod PySem.F.fills_int_mod
  (fun s i t b dy Q' E' hb' q => call_meets PySem.F.slot_int_mod (typeIs_int s i t) PySem.F.entry_int_mod (PySem.F.args_int_mod_2 _ _) (int_mod_no i t b C dy) ⟨hb', q⟩) c m ml F hr hb hx
end
end MoL

/-! # Helpers: items of lists read by place, // by any number that is not 0, sizes, lowest terms -/
namespace MoL
open PySem PySem.Spec PyProof.Rows L2 MoW

section
variable {X : Cx}
def rGetL (K : PySem.W.Frag) : V → V → Hp → VK → Prop := fun x y H Q => ∃ p xs j v, x = .ref p ∧ y = .int ((j : Nat) : Int) ∧ SqL K H p xs ∧ xs[j]? = some v ∧ Q v H
theorem get_list : PGet X (rGetL X.K) := by
  intro pins s σ H x y v u Q I rx ry h
  obtain ⟨p, xs, j, z, rfl, rfl, hq, he, q⟩ := h
  cases rx
  obtain ⟨t, rfl⟩ := ry
  obtain ⟨its, r, pl, hz⟩ := I.list hq
  obtain ⟨w, ew, rw'⟩ := r.get he
  have hj : j < xs.length := (List.getElem?_eq_some_iff.mp he).1
  have hn := line63
  exact wpAny_getItem_list pl.isList (by omega) (by omega) (by simpa using ew) ⟨z, H, I, rw', q⟩
/-- // by any number but 0, below 2 ^ 9000 in size -/
def CDivA (_ j : Int) : Prop := j ≠ 0 ∧ j.natAbs.log2 < 9000
theorem op_fdivA : OpR X (binaryOp .FloorDiv) (rI CDivA fun i j => .int (i.fdiv j)) := opI fun i j _ _ _ _ _ hc q => floordiv_int hc.1 q (.inl (PyProof.noPylong_of_log2 hc.2))
end

/-! ### sizes -/
/-- below 2 ^ 4000 in size -/
def Sm (i : Int) : Prop := i.natAbs < 2 ^ 4000
theorem Sm.mul {i j : Int} (a : Sm i) (b : Sm j) : CMulW i j := wide_mul a b (by decide) (by decide) (by decide)
theorem Sm.mulr {i j : Int} (a : Sm i) (b : j.natAbs < 2 ^ 9000) : CMulW i j := wide_mul a b (by decide) (by decide) (by decide)
theorem Sm.div {i j : Int} (h : j ≠ 0) (a : Sm j) : CDivA i j := ⟨h, Nat.lt_of_lt_of_le (PySem.Flt.log2_lt_of (by decide) a) (by decide)⟩
theorem Sm.le {i j : Int} (a : Sm j) (h : i.natAbs ≤ j.natAbs) : Sm i := Nat.lt_of_le_of_lt h a
theorem pow_big {k : Nat} (h : k ≤ 4000) : 2 ^ k ≤ 2 ^ 4000 := Nat.pow_le_pow_right (by decide) h
theorem Sm.of {i : Int} {k : Nat} (h : i.natAbs < 2 ^ k) (hk : k ≤ 4000) : Sm i := Nat.lt_of_lt_of_le h (pow_big hk)

theorem Sm.ab {i : Int} (h1 : -(2 ^ 200) < i) (h2 : i < 2 ^ 200) : Sm i := Sm.of (k := 200) (by omega) (by decide)
theorem iteFe {c : Bool} {A B : Prop} (hc : c = false) (h : B) : if c = true then A else B := by rw [hc]; exact iteF h
theorem iteTe {c : Bool} {A B : Prop} (hc : c = true) (h : A) : if c = true then A else B := by rw [hc]; exact iteT h

/-! ### lowest terms -/
/-- t' / b' is t / b in lowest terms, the bottom above 0 -/
structure Norm (t b t' b' : Int) : Prop where
  ex : ∃ g : Int, t = g * t' ∧ b = g * b' ∧ g ≠ 0
  pos : 0 < b'
  cop : Nat.gcd t'.natAbs b'.natAbs = 1
theorem Norm.cross {t b t' b' : Int} (n : Norm t b t' b') : t' * b = t * b' := by
  obtain ⟨g, h1, h2, _⟩ := n.ex
  rw [h1, h2, Int.mul_comm g t', Int.mul_assoc]
theorem natAbs_le_mul {g x : Int} (h : g ≠ 0) : x.natAbs ≤ (g * x).natAbs := by
  rw [Int.natAbs_mul]
  exact Nat.le_mul_of_pos_left _ (Int.natAbs_pos.mpr h)
theorem Norm.le1 {t b t' b' : Int} (n : Norm t b t' b') : t'.natAbs ≤ t.natAbs := by
  obtain ⟨g, h1, h2, h⟩ := n.ex
  rw [h1]; exact natAbs_le_mul h
theorem Norm.le2 {t b t' b' : Int} (n : Norm t b t' b') : b'.natAbs ≤ b.natAbs := by
  obtain ⟨g, h1, h2, h⟩ := n.ex
  rw [h2]; exact natAbs_le_mul h
/-- what the making computes: g the signed common divisor -/
theorem fdiv_exact {g x y : Int} (h : g ≠ 0) (e : x = g * y) : x.fdiv g = y := by
  rw [e]
  exact Int.mul_fdiv_cancel_left y h
theorem Norm.make {t b : Int} (hb : b ≠ 0) : ∀ g : Int, g = (if b < 0 then -((Nat.gcd t.natAbs b.natAbs : Nat) : Int) else ((Nat.gcd t.natAbs b.natAbs : Nat) : Int)) →
    g ≠ 0 ∧ g.natAbs ≤ b.natAbs ∧ Norm t b (t.fdiv g) (b.fdiv g) := by
  intro g hg
  have hpos : 0 < Nat.gcd t.natAbs b.natAbs := Nat.gcd_pos_of_pos_right _ (Int.natAbs_pos.mpr hb)
  have hle : Nat.gcd t.natAbs b.natAbs ≤ b.natAbs := Nat.gcd_le_right _ (Int.natAbs_pos.mpr hb)
  generalize hd : Nat.gcd t.natAbs b.natAbs = d at hpos hle hg
  have gabs : g.natAbs = d := by
    rw [hg]; split <;> simp
  have g0 : g ≠ 0 := by
    intro z; rw [z] at gabs; simp at gabs; omega
  have d1 : d ∣ t.natAbs := hd ▸ Nat.gcd_dvd_left _ _
  have d2 : d ∣ b.natAbs := hd ▸ Nat.gcd_dvd_right _ _
  have e1 : g ∣ t := Int.natAbs_dvd_natAbs.mp (by rw [gabs]; exact d1)
  have e2 : g ∣ b := Int.natAbs_dvd_natAbs.mp (by rw [gabs]; exact d2)
  obtain ⟨t', ht⟩ := e1
  obtain ⟨b', hb'⟩ := e2
  refine ⟨g0, by rw [gabs]; exact hle, ?_⟩
  rw [fdiv_exact g0 ht, fdiv_exact g0 hb']
  refine ⟨⟨g, ht, hb', g0⟩, ?_, ?_⟩
  · by_cases hneg : b < 0
    · rw [if_pos hneg] at hg
      have gn : g < 0 := by omega
      rw [hb', Int.mul_comm] at hneg
      exact Int.pos_of_mul_neg_left hneg gn
    · rw [if_neg hneg] at hg
      have gp : 0 < g := by omega
      have bp : 0 < g * b' := by rw [← hb']; omega
      exact Int.pos_of_mul_pos_right bp (by omega)
  · have x1 : t.natAbs = d * t'.natAbs := by rw [ht, Int.natAbs_mul, gabs]
    have x2 : b.natAbs = d * b'.natAbs := by rw [hb', Int.natAbs_mul, gabs]
    rw [x1, x2, Nat.gcd_mul_left] at hd
    have : d * Nat.gcd t'.natAbs b'.natAbs = d * 1 := by rw [hd, Nat.mul_one]
    exact Nat.eq_of_mul_eq_mul_left hpos this
end MoL

namespace MoL
open PySem PySem.Spec PyProof.Rows L2 MoW
/-- what the written part says of a class of plain instances with operators and the fields top, bottom -/
structure OwnK (K : PySem.W.Frag) (C : Addr) : Prop where
  cl : Cls K C
  ow : OwnC K C
  ha : PySem.W.findIn K (.ref C) "__class__" = some (some (.builtin "object.__class__"))
  hn : PySem.W.specialIn K (.builtin "object.__class__") "__get__" = some (some (.builtin "getset_descriptor.__get__"))
  htk : PySem.W.takesIn K (.builtin "object.__class__") = some true
  hm : PySem.W.mroIn K C (.type "object") = some true
  ki : PySem.W.kitOne K (.ref C) (.type "int") = some false
  ik : PySem.W.kitOne K (.type "int") (.ref C) = some false
  n_top : NoAttr K C "top"
  n_bottom : NoAttr K C "bottom"
theorem kit_self {K : PySem.W.Frag} {C : Addr} : PySem.W.kitOne K (.ref C) (.ref C) = some true := by
  unfold PySem.W.kitOne
  rw [if_pos (by simp)]
theorem OwnK.ty {K : PySem.W.Frag} {C : Addr} {H : Hp} {a dx : Addr} {fs : List (Str × V)} (k : OwnK K C) (h : H a = some (.ins C dx fs)) : TyX K H (.ref a) (.ref C) :=
  .base (.ins h k.cl k.ha k.hn k.htk k.hm)

/-- a Ratio: an instance of the class at C with these two numbers -/
def RatAt (C : Addr) (H : Hp) (v : V) (t b : Int) : Prop := ∃ a dx, v = .ref a ∧ H a = some (.ins C dx [("top", .int t), ("bottom", .int b)])
theorem RatAt.ins {C : Addr} {H : Hp} {v : V} {t b : Int} (r : RatAt C H v t b) : Ins H v C := by
  obtain ⟨a, dx, e, h⟩ := r
  exact ⟨a, dx, _, e, h⟩
theorem RatAt.same {C : Addr} {H H' : Hp} {v : V} {t b : Int} (r : RatAt C H v t b) (s : Same H H') : RatAt C H' v t b := by
  obtain ⟨a, dx, e, h⟩ := r
  exact ⟨a, dx, e, s _ _ h⟩
theorem Ins.same {C : Addr} {H H' : Hp} {v : V} (r : Ins H v C) (s : Same H H') : Ins H' v C := by
  obtain ⟨a, dx, fs, e, h⟩ := r
  exact ⟨a, dx, fs, e, s _ _ h⟩
theorem same_upd {H : Hp} {p : Addr} {o : HO} (h : H p = none) : Same H (upd H p o) := fun b x e => by
  rw [upd_ne (ne_of_none e h)]
  exact e
theorem same_upd' {H H1 : Hp} {p : Addr} {o : HO} (s : Same H H1) (h : H p = none) : Same H (upd H1 p o) := fun b x e => by
  rw [upd_ne (ne_of_none e h)]
  exact s _ _ e
end MoL

/-! # Signs before an instance, abs of one; lowest terms are one -/
namespace MoL
open PySem PySem.Spec PyProof.Rows L2 MoW
section
variable {X : Cx} {CX : CXT} {k : Nat} {C f g : Addr} {fd : FuncData} {ps : List Str} {sp : Sp} {E : XK}
/-- -x of an instance with its own __neg__ -/
def rOwn1 (C : Addr) (sp : Sp) (E : XK) : V → Hp → VK → Prop := fun x H Q => Ins H x C ∧ sp [x] H Q E
theorem un_neg_own (m : Meth X.K C "__neg__" f) (F : FnOk X.prog X.w X.K X.mg X.base CX k f fd ps sp)
    (hr : Room k X.A) (hb : Binds X.K fd ps []) (hx : Passes CX X E) : UnR X (unaryOp .USub) (rOwn1 C sp E) := by
  intro pins s σ H x v Q I rx h
  obtain ⟨⟨a, dx, fs, rfl, ha⟩, hs⟩ := h
  cases (show v = Value.ref a from rx)
  obtain ⟨od, J⟩ := ins_at I ha
  have hrun : wpAny (model X.prog X.w) X.A (call (.ref f) [.ref a]) (EP X pins σ Q) X.xe s :=
    run_fn (us := [.ref a]) (vs := [.ref a]) F hr hb .nil hx I (.cons rfl .nil) hs
  unfold unaryOp
  refine wpAny_holding ?_
  have e : (UnaryOp.USub == UnaryOp.Not) = false := rfl
  simp only [e, Bool.false_eq_true, if_false]
  exact wpAny_bind (PySem.W.special_fn I.kIn J m.at_ (beq_iff_eq.mp m.fn) (wpAny_mono hrun (fun v s' q => wpAny_pure q) fun _ _ e => e))
theorem UnR.or {f : Value → Sem Value} {r r' : V → Hp → VK → Prop} (h : UnR X f r) (h' : UnR X f r') : UnR X f (fun x H Q => r x H Q ∨ r' x H Q) := by
  intro pins s σ H x v Q I rx q
  rcases q with q | q
  · exact h pins s σ H x v Q I rx q
  · exact h' pins s σ H x v Q I rx q
/-- the callee runs within a built-in -/
theorem run_fn1 {pins : List (Addr × Obj)} {σ : L2.St} {H : Hp} {s : Shared} {Q : VK} {us : List Value} {vs : List V} (F : FnOk X.prog X.w X.K X.mg X.base CX k f fd ps sp) (hr : Room (k + 1) X.A) (hb : Binds X.K fd ps []) (hx : Passes CX X E)
    (I : Inv X pins σ H s) (r : Vals vs us) (h : sp vs H Q E) : wpAny (model X.prog X.w) X.A.in1 (call (.ref f) us) (EP X pins σ Q) X.xe s := by
  have hl : us.length = ps.length := by rw [← r.length]; exact F.len _ _ _ _ h
  have hb' : BindsTo s fd ⟨us, []⟩ (ps.zip us) := by
    have := hb s us I.kIn (by simpa using hl)
    simpa using this
  refine wpAny_call (codeAny_mono (F.run X.A.in1 X.stack s H ⟨us, []⟩ us vs Q E hr.in1 I.env0.in1 hb' r h) fun r s' hq => ?_)
  cases r with
  | error e => exact hx pins σ H s e s' I hq
  | ok fl =>
    cases fl with
    | ret u => exact I.after hq
    | next => exact False.elim hq
    | brk => exact False.elim hq
    | cont => exact False.elim hq
theorem call_abs_own (m : Meth X.K C "__abs__" f) (F : FnOk X.prog X.w X.K X.mg X.base CX k f fd ps sp)
    (hr : Room (k + 1) X.A) (hb : Binds X.K fd ps []) (hx : Passes CX X E) : CallR X (.builtin "abs") (fun xs H Q => ∃ x, xs = [x] ∧ rOwn1 C sp E x H Q) := by
  intro pins s σ H xs us Q I r h
  obtain ⟨x, rfl, ⟨a, dx, fs, rfl, ha⟩, hs⟩ := h
  obtain ⟨u, rfl, ru⟩ := vals1 r
  cases (show u = Value.ref a from ru)
  obtain ⟨od, J⟩ := ins_at I ha
  have hrun := run_fn1 (us := [.ref a]) (vs := [.ref a]) F hr hb hx I (.cons rfl .nil) hs
  refine Calls.call_function_entry kind_abs plain_abs entry_abs (args_abs _) ?_
  unfold Builtin.«abs»
  refine wpAny_bind (m := oneArg "abs" _) (wpAny_pure ?_)
  refine wpAny_bind (m := callSpecial? (.ref a) (Str.ofString "__abs__")) ?_
  exact PySem.W.special_fn I.kIn J m.at_ (beq_iff_eq.mp m.fn) (wpAny_mono hrun (fun v s' q => wpAny_pure ⟨_, rfl, q⟩) fun _ _ e => e)
end
/-! ### lowest terms are one -/
theorem Norm.bne {t b t' b' : Int} (n : Norm t b t' b') : b ≠ 0 := by
  obtain ⟨g, _, h2, h⟩ := n.ex
  rw [h2]
  intro z
  rcases Int.mul_eq_zero.mp z with e | e
  · exact h e
  · have := n.pos; omega
theorem cop_one {t b u c : Int} (hb : 0 < b) (hc : 0 < c) (h1 : Nat.gcd t.natAbs b.natAbs = 1) (h2 : Nat.gcd u.natAbs c.natAbs = 1) (e : t * c = u * b) : t = u ∧ b = c := by
  have en : t.natAbs * c.natAbs = u.natAbs * b.natAbs := by rw [← Int.natAbs_mul, ← Int.natAbs_mul, e]
  have d1 : b.natAbs ∣ c.natAbs := by
    have h : b.natAbs ∣ t.natAbs * c.natAbs := ⟨u.natAbs, by rw [en, Nat.mul_comm]⟩
    exact Nat.Coprime.dvd_of_dvd_mul_left (Nat.Coprime.symm h1) h
  have d2 : c.natAbs ∣ b.natAbs := by
    have h : c.natAbs ∣ u.natAbs * b.natAbs := ⟨t.natAbs, by rw [← en, Nat.mul_comm]⟩
    exact Nat.Coprime.dvd_of_dvd_mul_left (Nat.Coprime.symm h2) h
  have ebc : b = c := by
    have := Nat.dvd_antisymm d1 d2
    omega
  subst ebc
  refine ⟨?_, rfl⟩
  exact Int.eq_of_mul_eq_mul_right (by omega) e
/-- two ways to one value: the same lowest terms -/
theorem Norm.uniq {p q t b p' q' t' b' : Int} (n : Norm p q t b) (m : Norm p' q' t' b') (e : p * q' = p' * q) : t = t' ∧ b = b' := by
  refine cop_one n.pos m.pos n.cop m.cop ?_
  have c1 := n.cross
  have c2 := m.cross
  have q0 := n.bne
  have q1 := m.bne
  have key : (t * b') * (q * q') = (t' * b) * (q * q') := by
    have e1 : (t * b') * (q * q') = (t * q) * (b' * q') := by
      rw [Int.mul_assoc, Int.mul_assoc, Int.mul_left_comm b' q q']
    have e2 : (t' * b) * (q * q') = (t' * q') * (b * q) := by
      rw [Int.mul_assoc, Int.mul_assoc, Int.mul_comm q q', Int.mul_left_comm b q' q]
    rw [e1, e2, c1, c2]
    have e3 : p * b * (b' * q') = (p * q') * (b * b') := by
      rw [Int.mul_assoc, Int.mul_assoc, Int.mul_comm b' q', Int.mul_left_comm b q' b']
    have e4 : p' * b' * (b * q) = (p' * q) * (b * b') := by
      rw [Int.mul_assoc, Int.mul_assoc, Int.mul_comm b q, Int.mul_left_comm b' q b, Int.mul_comm b' b]
    rw [e3, e4, e]
  have qq : q * q' ≠ 0 := fun z => by
    rcases Int.mul_eq_zero.mp z with e | e
    · exact q0 e
    · exact q1 e
  exact Int.eq_of_mul_eq_mul_right qq key
end MoL
namespace MoL
open PySem PySem.Spec PyProof.Rows L2 MoW
theorem call_or {X : Cx} {f : Value} {r r' : List V → Hp → VK → Prop} (h : CallR X f r) (h' : CallR X f r') : CallR X f (fun xs H Q => r xs H Q ∨ r' xs H Q) := by
  intro pins s σ H xs us Q I r q
  rcases q with q | q
  · exact h pins s σ H xs us Q I r q
  · exact h' pins s σ H xs us Q I r q
end MoL

/-! # Errors of the program: making one whose class keeps one field, and what a suite that caught it may ask -/
namespace MoL
open PySem PySem.Spec PyProof.Rows L2 MoW

/-! ### a class call in a body whose errors are caught: the wish speaks of the slots -/
def tMakeA (C : Addr) (sp : Sp) (dvs : List V) (W : L2.St → XK) (t : TA) : TE := fun σ H Q => t σ H fun vs G => ∀ x y, G x = none → G y = none → y ≠ x →
  sp (.ref x :: (vs ++ dvs)) (upd (upd G y (.own x)) x (.ins C y [])) (fun v G2 => v = .non ∧ Q (.ref x) G2) (W σ)
section
variable {X : Cx} {CX : CXT} {k : Nat} {f C : Addr} {fd : FuncData} {ps : List Str} {sp : Sp} {dvs : List V} {ds : List Value} {W : L2.St → XK} {x : Str} {p pos : Pos} {e : Expr} {es : List Expr} {t : TA}
theorem pe_makeA (M : Mk X.K C f) (F : FnOk X.prog X.w X.K X.mg X.base CX k f fd ps sp) (room : Room (k + 1) X.A) (hg : Gl X x) (hm : X.mg x = some (.ref C)) (hb : Binds X.K fd ps ds) (hd : Vals dvs ds) (hx : ∀ σ, PassesAt CX X σ (W σ)) (ha : PA X (e :: es) t)
    (hdb : (x == ("__debug__" : Str)) = false := by decide) (he : starEach (e :: es) X.env = (false, eval e X.env) :: starEach es X.env := by rfl) (hpl : (backTo pos (starEach es X.env)).any (·.1) = false := by rfl) :
    PE X (.Call (.Name x p) (e :: es) [] pos) (tMakeA C sp dvs W t) := by
  constructor
  intro pins s0 σ H0 Q I0 h
  refine wpAny_Call_Name_kw (ld_glob I0 hg hm ?_ hdb)
  refine PySem.W.callWith_K (h₀ := X.base) I0.ok.mod.kin M.kp ?_ he hpl
  refine thn (ha.run pos pins s0 σ H0 _ I0 h) ?_
  rintro us s ⟨vs, H, I, r, h⟩
  refine ⟨I.kIn, ?_⟩
  have hq := h (s.heap.objs.size + 1) s.heap.objs.size (I.hok.fresh (Nat.le_succ _)) (I.hok.fresh (Nat.le_refl _)) (Nat.ne_of_lt (Nat.lt_succ_self _))
  have I2 := Inv.made (C := C) I
  have r2 : Vals (V.ref (s.heap.objs.size + 1) :: (vs ++ dvs)) (Value.ref (s.heap.objs.size + 1) :: (us ++ ds)) := .cons rfl (r.append hd)
  have hl : (Value.ref (s.heap.objs.size + 1) :: us ++ ds).length = ps.length := (F.len _ _ _ _ hq ▸ r2.length).symm
  have run := F.run _ X.stack _ _ ⟨Value.ref (s.heap.objs.size + 1) :: us, []⟩ _ _ _ _ (room.make C us []) (I2.env0.make C us []) (hb _ (Value.ref (s.heap.objs.size + 1) :: us) I2.kIn hl) r2 hq
  refine wpAny_call (make_map (f := f) I.kIn M.makes M.init (beq_iff_eq.mp M.fn) (codeAny_mono run ?_))
  intro r s' hq'
  rcases r with fl | e
  · exact hx σ pins _ _ _ s' I2 hq'
  · cases e with
    | ret u =>
      obtain ⟨v, G, I3, rv, ev, q3⟩ := I2.after hq'
      cases ev
      exact ⟨rv, ⟨V.ref (s.heap.objs.size + 1), G, I3, rfl, q3⟩⟩
    | next => exact hq'.elim
    | brk => exact hq'.elim
    | cont => exact hq'.elim
end

/-! ### isinstance of a caught error that has fields -/
def rIsD (K : PySem.W.Frag) (a : Addr) (cls : Value) (d : Option Addr) (D : Addr) : List V → Hp → VK → Prop := fun xs H Q => ∃ (c : V) (cv : Value) (b : Bool) (y : Addr) (fs : List (Str × V)),
  xs = [.ref a, c] ∧ cls = .ref D ∧ d = some y ∧ H y = some (.xd fs) ∧ ClsV c cv ∧ PySem.W.kitOne K (.ref D) cv = some b ∧ Q (.bl b) H
theorem call_isD {X : Cx} {a D : Addr} {oe : Obj} {cls : Value} {d : Option Addr} {pn : List (Addr × Obj)} (C : ExcC X.K D) (hz : Zc cls d oe) (hf : ∃ vs, oe.data = .fields vs) : CallR (X.suite a ((a, oe) :: pn)) (.builtin "isinstance") (rIsD X.K a cls d D) := by
  intro pins s σ H xs us Q I r h
  obtain ⟨c, cv, b, y, fs, rfl, rfl, rfl, hy, hc, e, q⟩ := h
  obtain ⟨u1, u2, rfl, r1, r2⟩ := vals2 r
  cases (show u1 = Value.ref a from r1)
  have e2 := hc.eq r2
  subst e2
  have hget := (I.pin (a, oe) (List.mem_append_left _ List.mem_cons_self)).1
  have ho : ∃ o, s.heap.get? y = some o := by
    obtain ⟨m, ⟨o, _, _, z, _⟩, _⟩ := (show ObjOk X.prog X.w H s.heap y (.xd fs) from I.hok y _ hy)
    exact ⟨o, z⟩
  obtain ⟨od, ho⟩ := ho
  have J : PySem.W.InstAt s.heap a oe D (some od) := by
    obtain ⟨vs, hv⟩ := hf
    rcases oe with ⟨oc, odd, dt, sl⟩
    obtain ⟨z1, z2⟩ := hz
    dsimp only at z1 z2 hv
    subst z1 z2 hv
    exact ⟨hget, rfl, rfl, ho⟩
  have hcl : (PySem.W.clsIn X.K D).isSome = true := by
    obtain ⟨cd, hcd, _⟩ := PySem.W.any_some C.hd
    rw [hcd]
    rfl
  exact PySem.W.kia_one (PySem.W.kitx_exc hcl C.hg C.hk C.hs C.ha C.hn C.ht C.hm) I.kIn J e (fun z => nomatch z) fun tk => ⟨.bl b, H, I.kept (t' := tk) fun _ _ z => z, rfl, q⟩

/-! ### the making of an error with one field -/
/-- the __init__ of such a class: the field f is what was given -/
def sp_keep (K : PySem.W.Frag) (f : Str) : Sp := fun vs H Q _ => ∃ (e C : Addr) (v : V), vs = [.ref e, v] ∧ OexC K C ∧ PySem.W.findIn K (.ref C) f = some none ∧ H e = some (exo e C none) ∧
  ∀ y, H y = none → y ≠ e → Q .non (upd (upd H y (exd y [(f, v)])) e (exo e C (some y)))
/-- raise C(v): what follows when its __init__ keeps sp_keep -/
theorem mk_keep {K : PySem.W.Frag} {C : Addr} {f : Str} {v : V} {H : Hp} {Q : XK} (T : OexC K C) (hn : PySem.W.findIn K (.ref C) f = some none) (q : ∀ y, H y = none → Q (.ref C) (some y) (upd H y (.xd [(f, v)]))) :
    ([v] : List V).length ≤ 1000 ∧ ∀ a, H a = none → sp_keep K f (.ref a :: ([v] ++ [])) (upd H a (exo a C none))
      (fun w G => w = .non ∧ ∃ (d : Addr) (fs : List (Str × V)), G a = some (exo a C (some d)) ∧ G d = some (exd d fs) ∧ H d = none ∧ Q (.ref C) (some d) (upd (del G a) d (.xd fs))) (fun _ _ _ => False) := by
  refine ⟨by show 1 ≤ 1000; decide, fun a na => ⟨a, C, v, rfl, T, hn, upd_same, fun y ny yne => ⟨rfl, y, [(f, v)], upd_same, ?_, ?_, ?_⟩⟩⟩
  · rw [upd_ne yne, upd_same]
  · rw [upd_ne yne] at ny
    exact ny
  · rw [upd_ne yne] at ny
    have e : upd (del (upd (upd (upd H a (exo a C none)) y (exd y [(f, v)])) a (exo a C (some y))) a) y (.xd [(f, v)]) = upd H y (.xd [(f, v)]) := by
      funext b
      by_cases hb : b = y
      · subst hb
        rw [upd_same, upd_same]
      · rw [upd_ne hb, upd_ne hb]
        by_cases hba : b = a
        · subst hba
          rw [del_same, na]
        · rw [del_ne hba, upd_ne hba, upd_ne hb, upd_ne hba]
    rw [e]
    exact q y ny
end MoL

/-! # An error called with keywords, up to its own __init__ -/
namespace MoX
open PySem PySem.W PySem.Calls PyProof.Rows PySem.HandSPX Builtin Builtin.ObjectAttr
section
variable {M : Model} {A : Around} {E : Value → Shared → Prop} {h : Heap} {g : Array GenState} {d : Drawn} {t : Nat} {os : OsState}
variable {nm q : Str} {C N : Addr} {bs bm bmB : List Value} {hdct : Bool} {sn : List Str} {sub : List Value} {ab : Bool} {col : Option Bool} {dd : Option Addr} {k0 k1 k2 k3 k5 : Option Value} {B newId initId : String}
abbrev clsAt (h : Heap) (nm q : Str) (C N : Addr) (bs bm : List Value) (hdct : Bool) (sn : List Str) (sub : List Value) (ab : Bool) (col : Option Bool) (dd : Option Addr) (k0 k1 k2 k3 k5 : Option Value) (newId : String) : Prop :=
  h.get? C = some (excClassObj nm q C N bs bm hdct sn sub ab col dd k0 k1 k2 k3 k5 newId)
theorem kw_check (F : ExcBaseFacts B newId initId bmB) (hT : ∀ Y : String, bm.contains (.type Y) = bmB.contains (.type Y)) {kw : List (Str × Value)} {Q : Unit → Shared → Prop} (hC : clsAt h nm q C N bs bm hdct sn sub ab col dd k0 k1 k2 k3 k5 newId)
    (hq : Q () ⟨h, g, d, t, os⟩) : wpAny M A (checkBuiltinCall newId ⟨[.ref C], kw⟩) Q E ⟨h, g, d, t, os⟩ := by
  have c1 : (Value.ref C :: bm).contains (.type B) = true := by
    rw [List.contains_cons, hT, F.hasB, Bool.or_true]
  have c2 := F.noStar
  simp only [checkBuiltinCall, F.newKind, F.newSplit, F.newRow]
  repeat (first | refine wpAny_loadPart_at hC ?_ | (refine wpAny_isSubtype_exc hC ?_; rw [c1]) | refine wpAny_staticBase_exc hC ?_ | refine wpAny_madeBy_exc hC ?_ | simp only [bne_self_eq_false, Bool.false_eq_true, if_false] | wp_step)
  exact hq
end
section
variable {prog : Program} {w : World} {A : Around} {E : Value → Shared → Prop} {R : Result → Shared → Prop} {h : Heap} {g : Array GenState} {d : Drawn} {t : Nat} {os : OsState}
variable {nm q : Str} {C N : Addr} {bs bm bmB : List Value} {hdct : Bool} {sn : List Str} {sub : List Value} {ab : Bool} {col : Option Bool} {dd : Option Addr} {k0 k1 k2 k3 k5 : Option Value} {B newId initId : String} {kw : List (Str × Value)} {fI : Addr}
theorem kw_new (F : ExcBaseFacts B newId initId bmB) (hT : ∀ Y : String, bm.contains (.type Y) = bmB.contains (.type Y)) (hC : clsAt h nm q C N bs bm hdct sn sub ab col dd k0 k1 k2 k3 k5 newId)
    (hq : R (.ok (.ret (.ref (h.objs.size + 1)))) ⟨(h.push (W.kdv_tup [])).push (excO C h.objs.size), g, d, t, os⟩) : codeAny (model prog w) A (.builtin newId ⟨[.ref C], kw⟩) R ⟨h, g, d, t, os⟩ := by
  have c0 := F.ends
  have c1 : (Value.ref C :: bm).contains (.type B) = true := by
    rw [List.contains_cons, hT, F.hasB, Bool.or_true]
  have c2 : (Value.ref C :: bm).contains (.type "AttributeError") = false := by
    rw [List.contains_cons, hT, F.noAttr]
    rfl
  have c3 : (Value.ref C :: bm).contains (.type "NameError") = false := by
    rw [List.contains_cons, hT, F.noName]
    rfl
  refine codeAny_builtinAt F.entry ?_
  unfold Builtin.«BaseException.__new__»
  refine PySem.wpAt_bind ?_
  show PySem.wpAt _ _ _ (stack >>= _) _ _ _
  refine PySem.wpAt_bind (PySem.wpAt_stack fun below rest => PySem.wpAt_of_wpAny ?_)
  wp_walk
  refine PySem.wpAt_of_wpAny ?_
  rw [F.owner]
  repeat (first | with_reducible refine wpAny_madeHere_exc F.canon hC ?_ | with_reducible refine wpAny_loadPart_at hC ?_ | (with_reducible refine wpAny_isSubtype_exc hC ?_; first | rw [c1] | rw [c2] | rw [c3]) | wp_step)
  show R _ _
  rw [Heap.size_push]
  exact hq
theorem kw_type (F : ExcBaseFacts B newId initId bmB) (hT : ∀ Y : String, bm.contains (.type Y) = bmB.contains (.type Y)) {Q : Fin → Shared → Prop} (hC : clsAt h nm q C N bs bm hdct sn sub ab col dd k0 k1 k2 k3 k5 newId)
    (hi : W.Looks (model prog w) h (typeLookup (.ref C) "__init__") (some (.ref fI))) (hb : ∀ self, W.Looks (model prog w) h (bindSpecial (.ref fI) self) (.ref fI, [self]))
    (hq : codeAny (model prog w) A (.call (.ref fI) ⟨[.ref (h.objs.size + 1)], kw⟩)
      (fun r s' => match r with
        | .ok (.ret v) => v = .none ∧ Q (.done (.ret (.ref (h.objs.size + 1)))) s'
        | .ok _ => False
        | .error e => E e s')
      ⟨(h.push (W.kdv_tup [])).push (excO C h.objs.size), g, d, t, os⟩) : wpAny (model prog w) A (Builtin.«type.__call__» ⟨[.ref C], kw⟩) Q E ⟨h, g, d, t, os⟩ := by
  repeat (first | with_reducible refine wpAny_loadPart_at hC ?_ | with_reducible refine wpAny_madeBy_exc hC ?_ | wp_step)
  refine codeAny_call_builtin_code (Code.quiet_builtin _ F.quiet) (kw_check F hT hC ?_)
  refine kw_new F hT hC ?_
  show wpAny _ _ _ _ _ _
  have kp : ∀ b o, h.get? b = some o → ((h.push (W.kdv_tup [])).push (excO C h.objs.size)).get? b = some o := fun b o e => Heap.get?_push_of_some _ (Heap.get?_push_of_some _ e)
  have hC1 := kp _ _ hC
  have here : ((h.push (W.kdv_tup [])).push (excO C h.objs.size)).get? (h.objs.size + 1) = some (excO C h.objs.size) := by heap_get
  have cC : (Value.ref C :: bm).contains (.ref C) = true := by simp
  have hi1 := hi.keeps kp
  have hb1 := (hb (.ref (h.objs.size + 1))).keeps kp
  unfold isInstance
  repeat (first | with_reducible refine wpAny_loadPart_at here ?_ | (with_reducible refine wpAny_isSubtype_exc hC1 ?_; rw [cC]) | wp_step)
  show wpAny _ _ (typeLookup (.ref C) _) _ _ _
  refine hi1.at ?_
  refine wpAny_holding (wpAny_bind (hb1.at ?_))
  refine wpAny_bind (wpAny_call (codeAny_mono hq ?_))
  intro r s' z
  rcases r with e | (v | _ | _ | _) <;> first | exact z | exact z.elim | skip
  obtain ⟨rfl, z⟩ := z
  first
    | exact wpAny_pure (wpAny_pure z)
    | (wp_walk; exact z)
theorem kw_call (F : ExcBaseFacts B newId initId bmB) (hT : ∀ Y : String, bm.contains (.type Y) = bmB.contains (.type Y)) (hC : clsAt h nm q C N bs bm hdct sn sub ab col dd k0 k1 k2 k3 k5 newId)
    (hi : W.Looks (model prog w) h (typeLookup (.ref C) "__init__") (some (.ref fI))) (hb : ∀ self, W.Looks (model prog w) h (bindSpecial (.ref fI) self) (.ref fI, [self]))
    (hq : codeAny (model prog w) (A.under (.builtin "type.__call__" ⟨[.ref C], kw⟩)) (.call (.ref fI) ⟨[.ref (h.objs.size + 1)], kw⟩) (W.InitBack (h.objs.size + 1) R) ⟨(h.push (W.kdv_tup [])).push (excO C h.objs.size), g, d, t, os⟩) :
    codeAny (model prog w) A (.call (.ref C) ⟨[], kw⟩) R ⟨h, g, d, t, os⟩ := by
  have f1 := tc_lookup
  have f2 := tc_bind (.ref C)
  have ty : (⟨h, g, d, t, os⟩ : Shared).TypeIs (.ref C) "type" := ⟨_, hC, rfl⟩
  refine codeAny_of_tree ?_
  show wpAny _ _ (callAny (.ref C) _) _ _ _
  repeat (any_goals (first | assumption | with_reducible refine wpAny_loadPart_at hC ?_ | wp_step))
  refine ⟨rfl, ?_⟩
  refine codeAny_call_builtin_at (Code.quiet_builtin _ (by decide +kernel)) entry_typeCall (wpAny_check_type_call_sub hC (kw_type F hT hC hi hb ?_))
  refine codeAny_mono hq ?_
  intro r s' z
  rcases r with e | (v | _ | _ | _) <;> exact z
end
end MoX

/-! # Errors as values: made, held, asked -/
namespace MoL
open PySem PySem.Spec PyProof.Rows L2 MoW

/-! ### what the written part says of an error class over MeansError -/
abbrev veT : List Value := [.type "ValueError", .type "Exception", .type "BaseException", .type "object"]
def ClsRow (K : PySem.W.Frag) (C : Addr) (nm : Str) (bm : List Value) : Prop := ∃ q N bs sn sub ab col dd k0 k1 k2 k3 k5, K.lookup C = some (excClassObj nm q C N bs bm true sn sub ab col dd k0 k1 k2 k3 k5 "ValueError.__new__")
structure ErrC (K : PySem.W.Frag) (M C : Addr) (nm : Str) : Prop where
  row : ClsRow K C nm (.ref M :: veT)
  base : ClsRow K M "MeansError" veT
  sa : PySem.W.findIn K (.ref C) "__setattr__" = some (some (.builtin "object.__setattr__"))
  ga : PySem.W.findIn K (.ref C) "__getattribute__" = some (some (.builtin "BaseException.__getattribute__"))
  gg : PySem.W.findIn K (.ref C) "__getattr__" = some none
  ca : PySem.W.findIn K (.ref C) "__class__" = some (some (.builtin "object.__class__"))
  gd : PySem.W.specialIn K (.builtin "object.__class__") "__get__" = some (some (.builtin "getset_descriptor.__get__"))
  tk : PySem.W.takesIn K (.builtin "object.__class__") = some true
  kp : PySem.W.keepIn K (.ref C) = true
section
variable {K : PySem.W.Frag} {M C C' : Addr} {nm nm' : Str} {bm : List Value}
theorem ClsRow.cls (h : ClsRow K C nm bm) : ∃ cd : ClassData, PySem.W.clsIn K C = some cd ∧ cd.mro = .ref C :: bm ∧ cd.hasDict = true ∧ cd.name = nm := by
  obtain ⟨q, N, bs, sn, sub, ab, col, dd, k0, k1, k2, k3, k5, h⟩ := h
  refine ⟨{ name := nm, bases := bs, mro := .ref C :: bm, ns := N, qualname := q, hasDict := true, slotNames := sn, subclasses := sub, abstract := ab, collection := col, hasDel := false }, ?_, rfl, rfl, rfl⟩
  unfold PySem.W.clsIn
  rw [h] <;> rfl
theorem ClsRow.ty (h : ClsRow K C nm bm) : PySem.W.typeIn K (.ref C) = some (.type "type") := by
  obtain ⟨q, N, bs, sn, sub, ab, col, dd, k0, k1, k2, k3, k5, h⟩ := h
  show (K.lookup C).map _ = _
  rw [h]
  rfl
theorem ClsRow.sub (h : ClsRow K C nm bm) (v : Value) : PySem.W.subIn K (.ref C) v = some ((Value.ref C :: bm).contains v) := by
  obtain ⟨cd, e, m, _⟩ := h.cls
  show PySem.W.mroIn K C v = _
  unfold PySem.W.mroIn
  rw [e, Option.bind_some, m]
  rfl
theorem ClsRow.isC (h : ClsRow K C nm bm) : (PySem.W.clsIn K C).isSome = true := by
  obtain ⟨cd, e, _⟩ := h.cls
  rw [e]
  rfl
theorem ClsRow.dict (h : ClsRow K C nm bm) : PySem.W.hasDictIn K C = true := by
  obtain ⟨cd, e, _, d, _⟩ := h.cls
  unfold PySem.W.hasDictIn
  rw [e]
  exact d
theorem ClsRow.ne (h : ClsRow K C nm bm) (h' : ClsRow K C' nm' bm') (n : nm ≠ nm') : C ≠ C' := fun e => by
  subst e
  obtain ⟨cd, e1, _, _, n1⟩ := h.cls
  obtain ⟨cd', e2, _, _, n2⟩ := h'.cls
  rw [e1] at e2
  cases e2
  exact n (n1.symm.trans n2)
theorem ClsRow.kit (h : ClsRow K C nm bm) (h' : ClsRow K C' nm' bm') : PySem.W.kitOne K (.ref C) (.ref C') = some ((Value.ref C :: bm).contains (.ref C')) := by
  unfold PySem.W.kitOne
  by_cases e : C = C'
  · subst e
    rw [if_pos (by simp)]
    simp
  · rw [if_neg (by simpa using e)]
    show (if _ = true then PySem.W.subIn K (.ref C) (.ref C') else none) = _
    rw [h'.isC, h'.ty, if_pos (by rfl), h.sub]
theorem ErrC.exc (e : ErrC K M C nm) : PySem.W.subIn K (.ref C) (.type "BaseException") = some true := by
  rw [e.row.sub]
  rfl
theorem ErrC.o (e : ErrC K M C nm) : OexC K C := by
  refine ⟨?_, e.sa, e.exc, e.row.ty, e.kp⟩
  obtain ⟨q, N, bs, sn, sub, ab, col, dd, k0, k1, k2, k3, k5, h⟩ := e.row
  exact ⟨_, _, _, _, _, _, _, _, _, _, _, _, _, _, _, h, rfl⟩
theorem ErrC.x (e : ErrC K M C nm) : XfC K C := ⟨e.ga, e.gg, e.exc, e.row.dict⟩
theorem ErrC.c (e : ErrC K M C nm) : ExcC K C := by
  refine ⟨e.ga, e.gg, e.exc, e.row.dict, e.ca, e.gd, e.tk, ?_⟩
  have := e.row.sub (.type "object")
  exact this
theorem ErrC.kit_ne (e : ErrC K M C nm) (e' : ErrC K M C' nm') (n : nm ≠ nm') (n2 : nm' ≠ "MeansError") : PySem.W.kitOne K (.ref C) (.ref C') = some false := by
  rw [e.row.kit e'.row]
  have h1 : C' ≠ C := (e.row.ne e'.row n).symm
  have h2 : C' ≠ M := e'.row.ne e.base n2
  simp [h1, h2]
theorem ErrC.kit_self (e : ErrC K M C nm) : PySem.W.kitOne K (.ref C) (.ref C) = some true := by
  rw [e.row.kit e.row]
  simp
theorem ErrC.kit_base (e : ErrC K M C nm) : PySem.W.kitOne K (.ref C) (.ref M) = some true := by
  rw [e.row.kit e.base]
  simp
theorem ErrC.kit_ve (e : ErrC K M C nm) : PySem.W.kitOne K (.ref C) (.type "ValueError") = some true := by
  unfold PySem.W.kitOne
  rw [if_neg (by simp)]
  show (if PySem.W.kitMeta "ValueError" = true then PySem.W.subIn K (.ref C) (.type "ValueError") else none) = _
  rw [if_pos (by decide +kernel), e.row.sub]
  rfl
theorem ErrC.caught (e : ErrC K M C nm) : PySem.W.exmOne K (.ref C) (.ref M) = some true := by
  unfold PySem.W.exmOne
  have h1 : PySem.W.subIn K (.ref M) (.type "BaseException") = some true := by
    rw [e.base.sub]
    rfl
  rw [h1, if_pos (by rfl)]
  show (if _ = true then PySem.W.subIn K (.ref C) (.ref M) else none) = _
  rw [e.base.isC, e.base.ty, if_pos (by rfl), e.row.sub]
  simp
end

/-! ### an error that is held -/
def ErrAt (C : Addr) (H : Hp) (v : V) (fs : List (Str × V)) : Prop := ∃ a, v = .ref a ∧ ((fs = [] ∧ H a = some (exo a C none)) ∨ ∃ y, H a = some (exo a C (some y)) ∧ H y = some (exd y fs))
theorem ErrAt.same {C : Addr} {H H' : Hp} {v : V} {fs : List (Str × V)} (e : ErrAt C H v fs) (s : Same H H') : ErrAt C H' v fs := by
  obtain ⟨a, rfl, ⟨h1, h2⟩ | ⟨y, h1, h2⟩⟩ := e
  · exact ⟨a, rfl, .inl ⟨h1, s _ _ h2⟩⟩
  · exact ⟨a, rfl, .inr ⟨y, s _ _ h1, s _ _ h2⟩⟩
section
variable {X : Cx} {pins : List (Addr × Obj)} {σ : L2.St} {H : Hp} {s : Shared}
theorem ErrAt.inst {C a : Addr} {fs : List (Str × V)} (I : Inv X pins σ H s) (e : ErrAt C H (.ref a) fs) : ∃ oe od, PySem.W.InstAt s.heap a oe C od := by
  obtain ⟨b, eb, ⟨h1, h2⟩ | ⟨y, h1, h2⟩⟩ := e <;> cases eb
  · obtain ⟨t1, ho⟩ := exo_at I.hok h2
    exact ⟨_, none, ho, rfl, rfl, trivial⟩
  · obtain ⟨t1, ho⟩ := exo_at I.hok h1
    obtain ⟨m, ⟨o, _, _, z, _⟩, _⟩ := exd_at I.hok h2
    exact ⟨_, some o, ho, rfl, rfl, z⟩
end
/-- isinstance of it -/
def rIsO (K : PySem.W.Frag) : List V → Hp → VK → Prop := fun xs H Q => ∃ (v c : V) (cv : Value) (C : Addr) (fs : List (Str × V)) (b : Bool), xs = [v, c] ∧ ErrAt C H v fs ∧ ExcC K C ∧ ClsV c cv ∧ PySem.W.kitOne K (.ref C) cv = some b ∧ Q (.bl b) H
theorem call_isO {X : Cx} : CallR X (.builtin "isinstance") (rIsO X.K) := by
  intro pins s σ H xs us Q I r h
  obtain ⟨v, c, cv, C, fs, b, rfl, he, ce, hc, e, q⟩ := h
  obtain ⟨u1, u2, rfl, r1, r2⟩ := vals2 r
  have e2 := hc.eq r2
  subst e2
  obtain ⟨a, rfl, he'⟩ := id he
  cases (show u1 = Value.ref a from r1)
  obtain ⟨oe, od, J⟩ := he.inst I
  have hcl : (PySem.W.clsIn X.K C).isSome = true := by
    obtain ⟨cd, hcd, _⟩ := PySem.W.any_some ce.hd
    rw [hcd]
    rfl
  exact PySem.W.kia_one (PySem.W.kitx_exc hcl ce.hg ce.hk ce.hs ce.ha ce.hn ce.ht ce.hm) I.kIn J e (fun z => nomatch z) fun tk => ⟨.bl b, H, I.tok tk, rfl, q⟩
/-- a field of it -/
def tOxf (K : PySem.W.Frag) (f : Str) (te : TE) : TE := fun σ H Q => te σ H fun x G => ∃ (C : Addr) (fs : List (Str × V)) (v : V), ErrAt C G x fs ∧ XfC K C ∧ PySem.W.findIn K (.ref C) f = some none ∧ fs.lookup f = some v ∧ Q v G
theorem pe_oxf {X : Cx} {e : Expr} {te : TE} {pos : Pos} {n : Str} (he : PE X e te) (hb : attributeBase e n X.env (eval e X.env) = eval e X.env := by rfl) : PE X (.Attribute e n pos) (tOxf X.K n te) := by
  constructor
  intro pins s0 σ H0 Q I0 h
  refine attr_of hb (thn (he.run pins s0 σ H0 _ I0 h) ?_)
  rintro u s ⟨x, H, I, rx, C, fs, v, ea, T, hno, hl, q⟩
  obtain ⟨a, rfl, h2⟩ := ea
  cases (show u = Value.ref a from rx)
  rcases h2 with ⟨rfl, _⟩ | ⟨y, h1, h2⟩
  · cases hl
  · obtain ⟨t1, ho⟩ := exo_at I.hok h1
    obtain ⟨mA, hns, hr⟩ := exd_at I.hok h2
    obtain ⟨od, hod, hlk⟩ := lookIn_ns hns
    obtain ⟨u, hu, ru⟩ := RelO.some_of (v := v) (o := mA n) (by rw [← hl]; exact hr n)
    have J : PySem.W.InstAt s.heap a _ C (some od) := ⟨ho, rfl, rfl, hod⟩
    exact HandSPX.exc_get I.kIn J T.ga T.gg T.exC (PySem.W.findObj_own T.hdC hno rfl (by rw [hlk, hu])) (handed_of ru) ⟨v, H, I.tok _, ru, q⟩

/-! ### the making -/
theorem PE.imp {X : Cx} {e : Expr} {t t' : TE} (h : PE X e t) (i : ∀ σ H Q, t' σ H Q → t σ H Q) : PE X e t' := ⟨fun pins s σ H Q I q => h.run pins s σ H Q I (i σ H Q q)⟩
def tMkE (C : Addr) (sp : Sp) (g : List V → List V) (ta : TA) : TE := fun σ H Q => ta σ H fun vs G => vs.length ≤ 1000 ∧ ∀ a, G a = none → sp (g (.ref a :: vs)) (upd G a (exo a C none)) (fun v G2 => v = .non ∧ Q (.ref a) G2) (fun _ _ _ => False)
section
variable {X : Cx} {CX : CXT} {k : Nat} {fI C M : Addr} {fd : FuncData} {ps ks : List Str} {sp : Sp} {x nm : Str} {p pos : Pos} {e : Expr} {es : List Expr} {ta tk : TA} {kws : List Keyword}
theorem pe_mkE (T : ErrC X.K M C nm) (iC : PySem.W.findIn X.K (.ref C) "__init__" = some (some (.ref fI))) (tI : PySem.W.typeIn X.K (.ref fI) = some (.type "function")) (F : FnOk X.prog X.w X.K X.mg X.base CX k fI fd ps sp) (room : Room (k + 1) X.A) (hb : Binds X.K fd ps [])
    (hx : Passes CX X (fun _ _ _ => False)) (hg : Gl X x) (hm : X.mg x = some (.ref C)) (ha : PA X (e :: es) ta) (hdb : (x == ("__debug__" : Str)) = false := by decide) (he : starEach (e :: es) X.env = (false, eval e X.env) :: starEach es X.env := by rfl) (hpl : (backTo pos (starEach es X.env)).any (·.1) = false := by rfl) :
    PE X (.Call (.Name x p) (e :: es) [] pos) (tMkE C sp id ta) := by
  constructor
  intro pins s0 σ H0 Q I0 h
  obtain ⟨q, N, bs, sn, sub, ab, col, dd, k0, k1, k2, k3, k5, hC⟩ := T.row
  refine wpAny_Call_Name_kw (ld_glob I0 hg hm ?_ hdb)
  refine PySem.W.callWith_K (h₀ := X.base) I0.ok.mod.kin T.kp ?_ he hpl
  refine thn (ha.run pos pins s0 σ H0 _ I0 h) ?_
  rintro us s1 ⟨vs, H1, I1, r1, hz, q1⟩
  refine ⟨I1.kIn, ?_⟩
  show wpAny _ _ (call (.ref C) us) _ _ _
  obtain ⟨hp, g, dr, tk, os⟩ := s1
  have hsz : hp.objs.size ≤ hp.objs.size + 1 := Nat.le_succ _
  have hq := q1 (hp.objs.size + 1) (I1.hok.fresh hsz)
  have kk : ∀ b o, hp.get? b = some o → ((hp.push (PySem.W.kdv_tup us)).push (PySem.HandSPX.excO C hp.objs.size)).get? b = some o := fun b o z => Heap.get?_push_of_some _ (Heap.get?_push_of_some _ z)
  have here : ((hp.push (PySem.W.kdv_tup us)).push (PySem.HandSPX.excO C hp.objs.size)).get? (hp.objs.size + 1) = some (PySem.HandSPX.excO C hp.objs.size) := by heap_get
  have I2 : Inv X pins σ (upd H1 (hp.objs.size + 1) (exo (hp.objs.size + 1) C none)) ⟨(hp.push (PySem.W.kdv_tup us)).push (PySem.HandSPX.excO C hp.objs.size), g, dr, tk, os⟩ :=
    I1.laid (t' := tk) (a := hp.objs.size + 1) (o := exo (hp.objs.size + 1) C none) (h' := (hp.push (PySem.W.kdv_tup us)).push (PySem.HandSPX.excO C hp.objs.size)) kk hsz (exo_ok here)
  have r2 : Vals (V.ref (hp.objs.size + 1) :: vs) (Value.ref (hp.objs.size + 1) :: us) := .cons rfl r1
  have hl : (Value.ref (hp.objs.size + 1) :: us ++ []).length = ps.length := by
    rw [List.append_nil, ← r2.length]
    exact F.len _ _ _ _ hq
  have hus : us.length ≤ sizeLine := by
    rw [← Paired.length r1, sizeLine_eq]
    omega
  have bd := hb _ (Value.ref (hp.objs.size + 1) :: us) I2.kIn hl
  rw [List.append_nil] at bd
  have run := F.run _ X.stack _ _ ⟨Value.ref (hp.objs.size + 1) :: us, []⟩ _ _ _ _ (room.make C us []) (I2.env0.make C us []) bd r2 hq
  refine wpAny_call (PySem.HandSPX.call_own PySem.F.excBase_ValueError (fun Y => PySem.HandSPX.refsVE_contains Y (.ref M :: veT) rfl) (I1.kIn _ _ hC) (PySem.W.looks_findIn I1.kIn iC) (fun self => PySem.W.bind_fn I1.kIn self tI) hus (codeAny_mono run ?_))
  intro r s' hq'
  rcases r with er | fl
  · exact hx pins σ _ _ er s' I2 hq'
  · cases fl with
    | ret u =>
      obtain ⟨v, G, I3, rv, ev, q3⟩ := I2.after hq'
      cases ev
      exact ⟨rv, ⟨V.ref (hp.objs.size + 1), G, I3, rfl, q3⟩⟩
    | next => exact hq'.elim
    | brk => exact hq'.elim
    | cont => exact hq'.elim
/-- with keywords alone -/
theorem pe_mkEk {gL : List Value → List Value → List Value} {gV : List V → List V → List V} {tk : TA} (T : ErrC X.K M C nm) (iC : PySem.W.findIn X.K (.ref C) "__init__" = some (some (.ref fI))) (tI : PySem.W.typeIn X.K (.ref fI) = some (.type "function")) (F : FnOk X.prog X.w X.K X.mg X.base CX k fI fd ps sp)
    (room : Room (k + 1) X.A) (hb : KBn X.K fd ps 1 ks gL gV) (hx : Passes CX X (fun _ _ _ => False)) (hg : Gl X x) (hm : X.mg x = some (.ref C)) (hkw : PK X kws tk)
    (hall : (backToKw pos (keywordEach kws X.env)).all (·.1.isSome) = true := by rfl) (hks : (backToKw pos (keywordEach kws X.env)).filterMap (·.1) = ks := by rfl) (hdb : (x == ("__debug__" : Str)) = false := by decide)
    (hpl : ((backTo pos (starEach [] X.env)).any (·.1) || (backToKw pos (keywordEach kws X.env)).any (·.1.isNone)) = false := by rfl) :
    PE X (.Call (.Name x p) [] kws pos) (fun σ H Q => tk σ H fun zs G => zs.length = ks.length ∧ ∀ a, G a = none → sp (gV [.ref a] zs) (upd G a (exo a C none)) (fun v G2 => v = .non ∧ Q (.ref a) G2) (fun _ _ _ => False)) := by
  constructor
  intro pins s0 σ H0 Q I0 h
  obtain ⟨q, N, bs, sn, sub, ab, col, dd, k0, k1, k2, k3, k5, hC⟩ := T.row
  refine wpAny_Call_Name_kw (ld_glob I0 hg hm ?_ hdb)
  refine PySem.W.callWith_KW0 (h₀ := X.base) I0.ok.mod.kin T.kp hall ?_ hpl
  refine thn (hkw.run pos pins s0 σ H0 _ I0 h) ?_
  rintro ws s1 ⟨zs, H1, I1, rz, hz, q1⟩
  refine ⟨I1.kIn, ?_⟩
  rw [hks]
  show wpAny _ _ (call (.ref C) [] (ks.zip ws)) _ _ _
  obtain ⟨hp, g, dr, tk, os⟩ := s1
  have hsz : hp.objs.size ≤ hp.objs.size + 1 := Nat.le_succ _
  have hq := q1 (hp.objs.size + 1) (I1.hok.fresh hsz)
  have kk : ∀ b o, hp.get? b = some o → ((hp.push (PySem.W.kdv_tup [])).push (PySem.HandSPX.excO C hp.objs.size)).get? b = some o := fun b o z => Heap.get?_push_of_some _ (Heap.get?_push_of_some _ z)
  have here : ((hp.push (PySem.W.kdv_tup [])).push (PySem.HandSPX.excO C hp.objs.size)).get? (hp.objs.size + 1) = some (PySem.HandSPX.excO C hp.objs.size) := by heap_get
  have I2 : Inv X pins σ (upd H1 (hp.objs.size + 1) (exo (hp.objs.size + 1) C none)) ⟨(hp.push (PySem.W.kdv_tup [])).push (PySem.HandSPX.excO C hp.objs.size), g, dr, tk, os⟩ :=
    I1.laid (t' := tk) (a := hp.objs.size + 1) (o := exo (hp.objs.size + 1) C none) (h' := (hp.push (PySem.W.kdv_tup [])).push (PySem.HandSPX.excO C hp.objs.size)) kk hsz (exo_ok here)
  have r1 : Vals [V.ref (hp.objs.size + 1)] [Value.ref (hp.objs.size + 1)] := .cons rfl .nil
  have r2 := hb.rel r1 rz
  have run := F.run _ X.stack _ _ ⟨[Value.ref (hp.objs.size + 1)], ks.zip ws⟩ _ _ _ _ (room.make C [] (ks.zip ws)) (I2.env0.make C [] (ks.zip ws)) (hb.to _ _ ws I2.kIn rfl (rz.length.symm.trans hz)) r2 hq
  refine wpAny_call (MoX.kw_call PySem.F.excBase_ValueError (fun Y => PySem.HandSPX.refsVE_contains Y (.ref M :: veT) rfl) (I1.kIn _ _ hC) (PySem.W.looks_findIn I1.kIn iC) (fun self => PySem.W.bind_fn I1.kIn self tI) (codeAny_mono run ?_))
  intro r s' hq'
  rcases r with er | fl
  · exact hx pins σ _ _ er s' I2 hq'
  · cases fl with
    | ret u =>
      obtain ⟨v, G, I3, rv, ev, q3⟩ := I2.after hq'
      cases ev
      exact ⟨rv, ⟨V.ref (hp.objs.size + 1), G, I3, rfl, q3⟩⟩
    | next => exact hq'.elim
    | brk => exact hq'.elim
    | cont => exact hq'.elim
/-- an error class without own __init__, called with nothing -/
theorem bare_made {A : Around} {W : Value → Shared → Prop} {pins : List (Addr × Obj)} {σ : L2.St} {H : Hp} {s : Shared} {Q : Value → Shared → Prop} (xn : PySem.W.excIn X.K C [.type "ValueError", .type "Exception", .type "BaseException", .type "object"] "ValueError.__new__" = true) (I : Inv X pins σ H s)
    (h : ∀ h' a, Heap.MadeExcOf s.heap h' a (.ref C) [] → H a = none → Q (.ref a) { s with heap := h' }) : wpAny (model X.prog X.w) A (call (.ref C) []) Q W s := by
  obtain ⟨bm, N, nm, qn, bs, hdct, sn, sub, ab, col, dd, k0, k1, k2, k3, k5, mN, hC, hN, hni, T⟩ := exc_obj I.kIn xn
  obtain ⟨hp, g, dr, tk, os⟩ := s
  exact wpAny_call_exc_subT PySem.F.excBase_ValueError T hC hN hni (fun h' a hm => h h' a hm (I.hok.gone hm.new)) (Nat.zero_le _)
theorem pe_mk0 (T : ErrC X.K M C nm) (xn : PySem.W.excIn X.K C [.type "ValueError", .type "Exception", .type "BaseException", .type "object"] "ValueError.__new__" = true) (hg : Gl X x) (hm : X.mg x = some (.ref C)) (hdb : (x == ("__debug__" : Str)) = false := by decide) :
    PE X (.Call (.Name x p) [] [] pos) (fun σ H Q => ∀ H' v, Same H H' → ErrAt C H' v [] → Q v H') := by
  constructor
  intro pins s σ H Q I h
  refine wpAny_Call_Name_kw (ld_glob I hg hm ?_ hdb)
  refine PySem.W.callWith_K0 I.kIn T.kp ?_
  refine bare_made xn I fun h' a hmd ha => ?_
  obtain ⟨t, ht, _, _⟩ := hmd.there
  have J : Inv X pins σ (upd H a (exo a C none)) { s with heap := h' } := I.laidN hmd.keeps hmd.new ha (exo_ok ht)
  refine ⟨.ref a, _, J, rfl, h _ _ (fun b o q => ?_) ⟨a, rfl, .inl ⟨rfl, upd_same⟩⟩⟩
  rw [upd_ne (ne_of_none q ha)]
  exact q
/-- raise of it -/
theorem pmk_mk0 (T : ErrC X.K M C nm) (xn : PySem.W.excIn X.K C [.type "ValueError", .type "Exception", .type "BaseException", .type "object"] "ValueError.__new__" = true) (hg : Gl X x) (hm : X.mg x = some (.ref C)) (hdb : (x == ("__debug__" : Str)) = false := by decide) :
    PMk X (.Call (.Name x p) [] [] pos) (fun σ H Q => Q (.ref C) none H) := by
  intro pins s σ H Q I h
  refine wpAny_Call_Name_kw (ld_glob I hg hm ?_ hdb)
  refine PySem.W.callWith_K0 I.kIn T.kp ?_
  exact bare_made xn I fun h' a hmd ha => mk_of I hmd (raises_own T.exc T.row.ty) h ha
end
end MoL

/-! # // and ** of instances, and what leaves a def that may raise -/
namespace MoW
open PySem PySem.W
section
variable {prog : Program} {w : World} {A : Around} {E : Value → Shared → Prop} {s : Shared}
theorem int_floordiv_no (i : Int) (t : Tok) (l C dx : Addr) :
    Meets (Builtin.«int.__floordiv__» ⟨[.int i t, .ref l], []⟩) (fun _ R s => s.heap.get? l = some (PySem.W.instObj C dx) ∧ R (.ok (.ret .notImplemented)) s) :=
  .of_wp fun prog w A R s h => by obtain ⟨hp, g, d, tk, os⟩ := s; obtain ⟨hl, h⟩ := h; unfold PySem.W.instObj at hl; wp_walk using wpAny_loadPart' hl, wpAny_load hl; exact ⟨_, rfl, h⟩
end
end MoW
namespace MoW
open PySem PySem.W PyProof.Rows
section
variable {prog : Program} {w : World} {A : Around} {E : Value → Shared → Prop} {s : Shared} {K : Frag} {x C L f : Addr} {h₀ : Heap} {m : Str → Option Value} {dx : Addr} {od : Option Obj} {i : Int} {t : Tok}

theorem bin_own_int0 {op : Operator} {id : String} {Q : Value → Shared → Prop} (F : Fr h₀ L s.heap m) (X₀ : K.In h₀) (I : InstAt s.heap x (instObj C dx) C od)
    (hc : selfFirst K C = true) (hn : subIn K (.type "int") (.ref C) = some false) (h1 : Slot "int" (dunderR op.info.2) id) (hfi : fillsNumberSlot (.type "int") op.info.2 = pure true)
    (hs : findIn K (.ref C) (PySem.dunder op.info.2) = some (some (.ref f))) (hf : isFn K (.ref f) = true)
    (hd : findIn K (.ref C) (dunderR op.info.2) = some none)
    (h : wpAny (model prog w) A (call (.ref f) [.ref x, .int i t]) (W.CmpBack Q) E s) : wpAny (model prog w) A (binaryOp op (.ref x) (.int i t)) Q E s := by
  have X := X₀.keeps F.keep
  obtain ⟨cd, rest, hcd, hm⟩ := mro_first (K := K) (C := C) (cd := default) hc
  unfold binaryOp
  refine wpAny_holding (wpAny_bind ?_)
  unfold binaryOp1
  refine wpAny_bind (I.type.here (wpAny_bind (wpAny_typeOf (typeIs_int s i t) (wpAny_bind ((fills_K X hcd hm hs).here ?_)))))
  have hne : (Value.ref C == Value.type "int") = false := rfl
  simp only [hne, Bool.false_eq_true, if_false]
  refine wpAny_bind (wpAny_of_eq hfi ?_)
  simp only [Bool.and_self, if_true]
  refine wpAny_bind ((looks_subIn X hn).here ?_)
  have hpy : Looks (model prog w) s.heap (numberSlotInPython (.ref C) op.info.2) true := by
    unfold numberSlotInPython
    refine (looks_findIn X hs).andThen ?_
    refine Looks.andThen (a := true) .now ?_
    refine (looks_findIn X hd).andThen ?_
    refine Looks.andThen (a := false) .now ?_
    exact .now
  have hpi : numberSlotInPython (.type "int") op.info.2 = pure false := rfl
  simp only [Bool.false_eq_true, if_false, pure_bind, Bool.not_false, Bool.and_self, if_true]
  refine wpAny_bind (hpy.here ?_)
  simp only [if_true]
  refine wpAny_bind (wpAny_of_eq hpi ?_)
  simp only [Bool.not_false, if_true]
  refine wpAny_bind (wpAny_of_eq h1.lookup ?_)
  refine wpAny_bind (m := tryMethod (.ref x) _ (.int i t)) ?_
  unfold tryMethod
  refine wpAny_bind (special_fn X I hs (beq_iff_eq.mp hf) (wpAny_mono h (fun v s' hv => ?_) fun _ _ e => e))
  cases v <;> first | exact hv.elim | exact wpAny_pure (wpAny_pure (wpAny_pure hv))
end
end MoW

namespace MoL
open PySem PySem.Spec PyProof.Rows L2 MoW
section
variable {X : Cx} {CX : CXT} {k : Nat} {C f g : Addr} {fd : FuncData} {ps : List Str} {sp : Sp} {E : XK}
theorem op_floordiv_own (c : OwnC X.K C) (m : Meth X.K C "__floordiv__" f) (mr : Meth X.K C "__rfloordiv__" g) (run : FnOk X.prog X.w X.K X.mg X.base CX k f fd ps sp) (hr : Room k X.A) (hb : Binds X.K fd ps []) (hx : Passes CX X E) : OpR X (binaryOp .FloorDiv) (rOwn C sp E) :=
  op_bin_own (op := .FloorDiv) F.slot_int_rfloordiv F.fills_int_floordiv c m mr run hr hb hx
theorem op_floordiv_int (c : OwnC X.K C) (m : Meth X.K C "__rfloordiv__" f) (ml : Meth X.K C "__floordiv__" g) (run : FnOk X.prog X.w X.K X.mg X.base CX k f fd ps sp) (hr : Room k X.A) (hb : Binds X.K fd ps []) (hx : Passes CX X E) : OpR X (binaryOp .FloorDiv) (rOwnR C sp E) :=
  op_bin_int (op := .FloorDiv) F.slot_int_floordiv F.fills_int_floordiv (fun s i t b dy Q' E' hb' q => call_meets F.slot_int_floordiv (typeIs_int s i t) F.entry_int_floordiv (F.args_int_floordiv_2 _ _) (int_floordiv_no i t b C dy) ⟨hb', q⟩) c m ml run hr hb hx
/-- x ** i, the class has no mirrored one -/
theorem op_pow_own (c : OwnC X.K C) (m : Meth X.K C "__pow__" f) (no : PySem.W.findIn X.K (.ref C) "__rpow__" = some none) (run : FnOk X.prog X.w X.K X.mg X.base CX k f fd ps sp) (hr : Room k X.A) (hb : Binds X.K fd ps []) (hx : Passes CX X E) :
    OpR X (binaryOp .Pow) (fun x y H Q => Ins H x C ∧ (∃ i, y = .int i) ∧ sp [x, y] H Q E) := by
  intro pins s σ H x y v u Q I rx ry h
  obtain ⟨⟨a, dx, fs, rfl, ha⟩, ⟨i, rfl⟩, hs⟩ := h
  cases (show v = Value.ref a from rx)
  obtain ⟨t, rfl⟩ := (show ∃ t, u = Value.int i t from ry)
  obtain ⟨od, J⟩ := ins_at I ha
  obtain ⟨mm, hF⟩ := I.fr
  exact bin_own_int0 (op := .Pow) hF I.ok.mod.kin J c.first c.ic F.slot_int_rpow F.fills_int_pow m.at_ m.fn no
    (thn (run_fn (us := [.ref a, .int i t]) (vs := [.ref a, .int i]) run hr hb .nil hx I (.cons rfl (.cons ⟨t, rfl⟩ .nil)) hs) fun v s' q => ep_back q)
end
/-- a callee's error is this def's own way out -/
theorem passE {P : Program} {w : World} {K : PySem.W.Frag} {mg : Str → Option Value} {base : Heap} {N : List Str} {qual : Str} {scope : Scope} {f : Addr} {cdv : Value} {A : Around} {outer : List Env} {s : Shared} {H : Hp} {E : XK} :
    Passes (L2.CX P w) (cxOf (L2.CX P w) P w K mg base N qual scope f cdv A outer s H E) E :=
  passes_call (W := fun cls d _ H => E cls d H) (takes_of rfl rfl rfl rfl) fun _ _ _ _ h => h
end MoL

/-! # Defs that hand lambdas on, and the def that tells the word of what a lambda raises -/
namespace MoL
open PySem PySem.Spec PyProof.Rows L2 MoW LamX

/-- a def whose code object is known -/
structure FunC (K : PySem.W.Frag) (x qual : Str) (st : Stmt) (f : Addr) (fd : FuncData) (c : Addr) : Prop where
  ex : ∃ (oc : Value) (od : Option Addr) (kV doc pm : Value) (an : Option Addr) (ct : Value) (osl : Array (Option Value)),
    fd = PySem.W.fnOf x qual (defArgs st) (defBody st) (defScope st) .none kV doc pm an (.ref c) ct ∧ K.lookup f = some ⟨oc, od, .func fd, osl⟩ ∧ PySem.W.codeIn K (.ref c) qual = true
  kp : PySem.W.keepIn K (.ref f) = true
theorem FunC.ok {P : Program} {w : World} {K : PySem.W.Frag} {mg : Str → Option Value} {base : Heap} {x qual : Str} {st : Stmt} {f c : Addr} {fd : FuncData} {N ps : List Str} {k : Nat} {sp : Sp} (F : FunC K x qual st f fd c) (S : FnScope N ps (defScope st))
    (len : ∀ vs H Q E, sp vs H Q E → vs.length = ps.length)
    (h : ∀ (A : Around) (outer : List Env) (s : Shared) (H : Hp) (vs : List V) (Q : VK) (E : XK), Room k (A.deeper (envOfC qual (defScope st) s.heap.objs.size f (.ref c))) → sp vs H Q E →
      ∃ t, PSs (cxOf CX0 P w K mg base N qual (defScope st) f (.ref c) A outer s H E).nox (defBody st) t ∧ t { nx := fun _ G => Q .non G, rt := Q } (start N vs) H) : FnOk P w K mg base CX0 (k + 1) f fd ps sp := by
  obtain ⟨oc, od, kV, doc, pm, an, ct, osl, rfl, lk, hcd⟩ := F.ex
  refine fn_of lk hcd S len fun A outer s H vs Q E hr hsp => ?_
  obtain ⟨t, p, q⟩ := h A outer s H vs Q E hr hsp
  exact ⟨t, p.nox, q⟩

/-- the word of the error of the class at R that the lambda raises; nothing: the text "" -/
def TTw (R : Addr) : (XK → Hp → VK → Prop) → Hp → VK → Prop := fun tl H Q =>
  tl (fun cls d G => cls = .ref R ∧ ∃ y s, d = some y ∧ G y = some (.xd [("word", .str s)]) ∧ Q (.str s) G) H (fun _ G => ∃ v : V, (some (some (V.str "")) : Option (Option V)) = some (some v) ∧ Q v G)
/-- a wish needs to be told of slots of the right number alone -/
theorem takes_len {X : Cx} {W : WX} (tk : Takes X W) : Takes X (fun cls d σ H => σ.length = X.N.length → W cls d σ H) := fun u s' x => by
  obtain ⟨a, B, sI, pins, σ, H, cls, d, e, I, nb, up, sky, na, os, ag, w⟩ := x
  exact tk u s' ⟨a, B, sI, pins, σ, H, cls, d, e, I, nb, up, sky, na, os, ag, w I.len⟩
theorem FunC.fn {K : PySem.W.Frag} {x qual : Str} {st : Stmt} {f c : Addr} {fd : FuncData} (F : FunC K x qual st f fd c) : Fun K x qual st f fd := by
  obtain ⟨⟨oc, od, kV, doc, pm, an, ct, osl, e, lk, hcd⟩, kp⟩ := F
  exact ⟨⟨oc, od, kV, doc, pm, an, _, ct, osl, e, lk, hcd⟩, kp⟩
/-- what a lambda's body lets out is what is wished of the lambda -/
theorem passLam {X : Cx} {A : Around} {outer : List Env} {s : Shared} {H : Hp} {E : XK} {scope : Scope} {f c' : Addr} : Passes (L2.CX X.prog X.w) (lamCx X A outer s H E scope f c') E :=
  passes_call (X := lamCx X A outer s H E scope f c') (W := fun cls d _ H => E cls d H) (takes_of rfl rfl rfl rfl) fun _ _ _ _ h => h
/-- behind a lambda that raised: all but the tables is kept, and the tables stand -/
theorem after {T : List (Addr × Str)} {H H1 G : Hp} {y : Addr} {o : HO} (e1 : ExtN H H1) (t1 : Tabs T H1) (s1 : Same H1 G) (ny : G y = none) : ExtN H (upd G y o) ∧ Tabs T (upd G y o) := by
  have s2 := s1.trans (same_upd (o := o) ny)
  exact ⟨e1.trans (.of s2), t1.ext s2⟩
theorem RatAt.ext {C : Addr} {H H' : Hp} {v : V} {t b : Int} (r : RatAt C H v t b) (s : ExtN H H') : RatAt C H' v t b := by
  obtain ⟨a, dx, e, h⟩ := r
  exact ⟨a, dx, e, s _ _ h fun _ z => by cases z⟩
end MoL

/-! # A walk over a list or over a tuple; classes by their facts alone -/
namespace MoL
open PySem PySem.Spec PyProof.Rows L2 MoW
theorem pi_or {X : Cx} {tg e : Expr} {t t' : TI} (p : PI X tg e t) (q : PI X tg e t') : PI X tg e (fun σ H R => t σ H R ∨ t' σ H R) :=
  ⟨fun pins s σ H R I h => h.elim (p.run pins s σ H R I) (q.run pins s σ H R I)⟩
/-- what the written part says of a class of plain instances with operators; the fields' names apart -/
structure OwnB (K : PySem.W.Frag) (C : Addr) : Prop where
  cl : Cls K C
  ow : OwnC K C
  ha : PySem.W.findIn K (.ref C) "__class__" = some (some (.builtin "object.__class__"))
  hn : PySem.W.specialIn K (.builtin "object.__class__") "__get__" = some (some (.builtin "getset_descriptor.__get__"))
  htk : PySem.W.takesIn K (.builtin "object.__class__") = some true
  hm : PySem.W.mroIn K C (.type "object") = some true
  ki : PySem.W.kitOne K (.ref C) (.type "int") = some false
  ik : PySem.W.kitOne K (.type "int") (.ref C) = some false
theorem OwnB.ty {K : PySem.W.Frag} {C : Addr} {H : Hp} {a dx : Addr} {fs : List (Str × V)} (k : OwnB K C) (h : H a = some (.ins C dx fs)) : TyX K H (.ref a) (.ref C) :=
  .base (.ins h k.cl k.ha k.hn k.htk k.hm)

/-! ### a def that declines: its first row is «if not ..: return NotImplemented» -/
/-- behind such a call: the answer, and the heap as it was -/
def Declines (outer : List Env) (P : Program) (w : World) (H : Hp) (s : Shared) (r : Result) (s' : Shared) : Prop := r = .ok (.ret .notImplemented) ∧ CE outer P w H s (fun v G => v = .non ∧ G = H) .none s'
theorem fn_no {CX : CXT} {P : Program} {w : World} {K : PySem.W.Frag} {mg : Str → Option Value} {base : Heap} {k : Nat} {f : Addr} {name qual : Str} {params : Arguments} {scope : Scope} {dV kV doc pm cdv ct oc : Value} {an od : Option Addr} {osl : Array (Option Value)}
    {N ps : List Str} {test : Expr} {rest : List Stmt} {p1 p2 p3 : Pos}
    (lk : K.lookup f = some ⟨oc, od, .func (PySem.W.fnOf name qual params (.If test [.Return (some (.Name "NotImplemented" p1)) p2] [] p3 :: rest) scope dV kV doc pm an cdv ct), osl⟩) (hcd : PySem.W.codeIn K cdv qual = true) (S : FnScope N ps scope)
    (hg : scope.names.lookup ("NotImplemented" : Str) = some NameKind.globalImplicit) (hmg : mg "NotImplemented" = none) {A : Around} {outer : List Env} {s : Shared} {H : Hp} {args : Args} {us : List Value} {vs : List V} (hl : vs.length = ps.length) (room : Room (k + 1) A)
    (e0 : Env0 P w K mg base A outer s H) (hb : BindsTo s (PySem.W.fnOf name qual params (.If test [.Return (some (.Name "NotImplemented" p1)) p2] [] p3 :: rest) scope dV kV doc pm an cdv ct) args (ps.zip us)) (r : Vals vs us)
    (ht : Room k (A.deeper (envOfC qual scope s.heap.objs.size f cdv)) → ∃ t, PT (cxOf CX P w K mg base N qual scope f cdv A outer s H (fun _ _ _ => False)) test t ∧ t (start N vs) H (fun b G => b = true ∧ G = H)) :
    codeAny (model P w) A (.call (.ref f) args) (fun r s' => Declines outer P w H s r s' ∨ ∃ e, r = .error e ∧ CX outer H s (fun _ _ _ => False) e s') s := by
  have KX : K.In s.heap := e0.mod.kin.keeps fun b o z => (e0.bs b o z).1
  have lim : s.heap.NoLimit := e0.mod.nolimit.keeps fun b o z => (e0.bs b o z).1
  have kinds : ∀ y ∈ ps.zip us, scope.names.lookup y.1 = some .local ∨ (scope.names.lookup y.1 = some .cell ∧ ((cellsFrom (s.heap.objs.size + 1) scope.names []).lookup y.1).isSome = true) := by
    rintro ⟨n, v⟩ hy
    rcases S.par n (List.of_mem_zip hy).1 with q | q
    · exact .inl q
    · exact .inr ⟨q, PySem.W.cellsFrom_some _ _ _ (.inl q)⟩
  refine codeAny_call_function room.depth (KX _ _ lk) rfl S.co S.gen rfl (PySem.W.codeRec_of KX hcd) (hb _ _ _ _ ?_)
  refine wpAny_newFunctionEnv_cells S.kind kinds ?_
  rintro env rfl s1 x
  refine ⟨lim.keeps x.toInCall.keep, codeAny_func ?_⟩
  obtain ⟨t, pt, hq⟩ := ht (room.deeper _)
  have I : Inv (cxOf CX P w K mg base N qual scope f cdv A outer s H (fun _ _ _ => False)) [] (start N vs) H s1 := inv_start S room.hd e0 hl r x
  refine wpAny_mono (Q := fun fl s' => fl = .ret .notImplemented ∧ Inv (cxOf CX P w K mg base N qual scope f cdv A outer s H (fun _ _ _ => False)) [] (start N vs) H s') (wpAny_execs_cons (wpAny_If (thn (pt.run [] s1 _ H _ I hq) ?_))) ?_ ?_
  · rintro d s2 ⟨H2, I2, rfl, rfl⟩
    have g : Gl (cxOf CX P w K mg base N qual scope f cdv A outer s H2 (fun _ _ _ => False)) "NotImplemented" := hg
    exact wpAny_execs_cons (wpAny_Return_some (ld_blt I2 g hmg PyProof.Rows.Boot.«NotImplemented» ⟨rfl, I2⟩))
  · rintro fl s' ⟨rfl, J⟩
    exact .inl ⟨rfl, .non, H, J.os, J.bare, J.base, J.hok, rfl, rfl, rfl⟩
  · intro e s' hs
    exact wpAny_mono hs (fun _ s2 z => .inr ⟨e, rfl, z⟩) fun e2 s2 z => .inr ⟨e2, rfl, z⟩
end MoL

namespace MoW
open PySem PySem.W PyProof.Rows
section
variable {prog : Program} {w : World} {A : Around} {E : Value → Shared → Prop} {s : Shared} {K : Frag} {x y C D L f g fr : Addr} {ox oy : Obj} {od od' : Option Obj} {h₀ : Heap} {m : Str → Option Value}
/-- an instance beside one of another class: its own method declines, the other's mirrored one answers -/
theorem bin_own_other {op : Operator} {Q : Value → Shared → Prop} {R : Shared → Prop} {f' g' : Addr} (X : K.In s.heap) (I : W.InstAt s.heap x ox C od) (J : W.InstAt s.heap y oy D od') (hc : selfFirst K C = true) (hd : selfFirst K D = true) (hne : C ≠ D)
    (hn : subIn K (.ref D) (.ref C) = some false) (h1 : findIn K (.ref C) (PySem.dunder op.info.2) = some (some (.ref f))) (hf : isFn K (.ref f) = true) (h1r : findIn K (.ref C) (dunderR op.info.2) = some (some (.ref f')))
    (h2 : findIn K (.ref D) (PySem.dunder op.info.2) = some (some (.ref g'))) (h2r : findIn K (.ref D) (dunderR op.info.2) = some (some (.ref g))) (hg : isFn K (.ref g) = true)
    (a : wpAny (model prog w) A (call (.ref f) [.ref x, .ref y]) (fun v s' => v = .notImplemented ∧ R s') E s)
    (b : ∀ s', R s' → K.In s'.heap ∧ (∃ ox' o1, W.InstAt s'.heap x ox' C o1) ∧ (∃ oy' o2, W.InstAt s'.heap y oy' D o2) ∧ wpAny (model prog w) A (call (.ref g) [.ref y, .ref x]) (W.CmpBack Q) E s') : wpAny (model prog w) A (binaryOp op (.ref x) (.ref y)) Q E s := by
  obtain ⟨cd, rest, hcd, hm⟩ := mro_first (K := K) (C := C) (cd := default) hc
  obtain ⟨dd, rest2, hdd, hm2⟩ := mro_first (K := K) (C := D) (cd := default) hd
  unfold binaryOp
  refine wpAny_holding (wpAny_bind ?_)
  unfold binaryOp1
  refine wpAny_bind (I.type.here (wpAny_bind (J.type.here (wpAny_bind ((fills_K X hcd hm h1).here ?_)))))
  have ne : (Value.ref C == Value.ref D) = false := by simpa using hne
  simp only [ne, Bool.false_eq_true, if_false]
  refine wpAny_bind ((fills_K X hdd hm2 h2).here ?_)
  simp only [Bool.and_self, if_true]
  refine wpAny_bind ((looks_subIn X hn).here ?_)
  simp only [Bool.false_eq_true, if_false, pure_bind, Bool.not_false, Bool.and_self, if_true]
  have py : ∀ {Z p q : Addr}, findIn K (.ref Z) (PySem.dunder op.info.2) = some (some (.ref p)) → findIn K (.ref Z) (dunderR op.info.2) = some (some (.ref q)) → Looks (model prog w) s.heap (numberSlotInPython (.ref Z) op.info.2) true := by
    intro Z p q z1 z2
    unfold numberSlotInPython
    refine (looks_findIn X z1).andThen (Looks.andThen (a := true) .now ?_)
    exact (looks_findIn X z2).andThen (Looks.andThen (a := true) .now .now)
  refine wpAny_bind ((py h1 h1r).here ?_)
  simp only [if_true]
  refine wpAny_bind ((py h2 h2r).here ?_)
  simp only [Bool.not_true, Bool.false_eq_true, if_false]
  refine wpAny_bind (m := tryMethod (.ref x) _ (.ref y)) ?_
  unfold tryMethod
  refine wpAny_bind (special_fn X I h1 (beq_iff_eq.mp hf) (wpAny_mono a (fun v s' hv => ?_) fun _ _ e => e))
  obtain ⟨rfl, hR⟩ := hv
  obtain ⟨X2, ⟨ox', o1, I2⟩, ⟨oy', o2, J2⟩, b2⟩ := b s' hR
  refine wpAny_pure (wpAny_bind (I2.type.here (wpAny_bind (J2.type.here ?_))))
  rw [ne]
  simp only [Bool.false_eq_true, if_false]
  refine wpAny_bind (m := tryMethod (.ref y) _ (.ref x)) ?_
  unfold tryMethod
  refine wpAny_bind (special_fn X2 J2 h2r (beq_iff_eq.mp hg) (wpAny_mono b2 (fun v s' hv => ?_) fun _ _ e => e))
  cases v <;> first | exact hv.elim | exact wpAny_pure (wpAny_bind (wpAny_rule (wpAny_pure (wpAny_pure hv))))
end
end MoW
namespace MoL
open PySem PySem.Spec PyProof.Rows L2 MoW
/-- a def that declines these values -/
def FnNo (P : Program) (w : World) (K : PySem.W.Frag) (mg : Str → Option Value) (base : Heap) (CX : CXT) (k : Nat) (f : Addr) (pre : List V → Hp → Prop) : Prop :=
  ∀ (A : Around) (outer : List Env) (s : Shared) (H : Hp) (us : List Value) (vs : List V), Room k A → Env0 P w K mg base A outer s H → Vals vs us → pre vs H →
    codeAny (model P w) A (.call (.ref f) ⟨us, []⟩) (fun r s' => Declines outer P w H s r s' ∨ ∃ e, r = .error e ∧ CX outer H s (fun _ _ _ => False) e s') s
section
variable {X : Cx} {CX CX' : CXT} {k k' : Nat} {C D f f' g g' : Addr} {fd : FuncData} {ps : List Str} {sp : Sp} {E : XK} {pre : List V → Hp → Prop}
/-- x op y: x's own def declines, y's mirrored one answers -/
theorem op_other {op : Operator} (c : OwnC X.K C) (d : OwnC X.K D) (ne : C ≠ D) (sub : PySem.W.subIn X.K (.ref D) (.ref C) = some false) (m : Meth X.K C (PySem.dunder op.info.2) f) (mr : Meth X.K C (dunderR op.info.2) f') (m2 : Meth X.K D (PySem.dunder op.info.2) g')
    (m2r : Meth X.K D (dunderR op.info.2) g) (no : FnNo X.prog X.w X.K X.mg X.base CX' k' f pre) (hr' : Room k' X.A) (never : ∀ (H : Hp) s e s', CX' X.stack H s (fun _ _ _ => False) e s' → False) (run : FnOk X.prog X.w X.K X.mg X.base CX k g fd ps sp) (hr : Room k X.A)
    (hb : Binds X.K fd ps []) (hx : Passes CX X E) : OpR X (binaryOp op) (fun x y H Q => Ins H x C ∧ Ins H y D ∧ pre [x, y] H ∧ sp [y, x] H Q E) := by
  intro pins s σ H x y v u Q I rx ry h
  obtain ⟨⟨a, dx, fs, rfl, ha⟩, ⟨b, dy, gs, rfl, hb'⟩, hp, hs⟩ := h
  cases (show v = Value.ref a from rx)
  cases (show u = Value.ref b from ry)
  obtain ⟨od, J⟩ := ins_at I ha
  obtain ⟨od', J'⟩ := ins_at I hb'
  refine bin_own_other (R := fun s' => Inv X pins σ H s') I.kIn J J' c.first d.first ne sub m.at_ m.fn mr.at_ m2.at_ m2r.at_ m2r.fn ?_ ?_
  · refine wpAny_call (codeAny_mono (no X.A X.stack s H [.ref a, .ref b] [.ref a, .ref b] hr' I.env0 (.cons rfl (.cons rfl .nil)) hp) ?_)
    rintro r s' (⟨rfl, ce⟩ | ⟨e, rfl, z⟩)
    · obtain ⟨w0, G, I2, _, ⟨_, rfl⟩⟩ := I.after ce
      exact ⟨rfl, I2⟩
    · exact (never H s e s' z).elim
  · intro s' I2
    obtain ⟨o1, K1⟩ := ins_at I2 ha
    obtain ⟨o2, K2⟩ := ins_at I2 hb'
    exact ⟨I2.kIn, ⟨_, o1, K1⟩, ⟨_, o2, K2⟩, thn (run_fn (us := [.ref b, .ref a]) (vs := [.ref b, .ref a]) run hr hb .nil hx I2 (.cons rfl (.cons rfl .nil)) hs) fun v s' q => ep_back q⟩
end
/-- a def of the text that declines what its first row tells -/
theorem no_of {P : Program} {w : World} {K : PySem.W.Frag} {mg : Str → Option Value} {base : Heap} {x qual : Str} {st : Stmt} {f : Addr} {fd : FuncData} {N ps : List Str} {k : Nat} {test : Expr} {rest : List Stmt} {p1 p2 p3 : Pos} {pre : List V → Hp → Prop}
    (F : Fun K x qual st f fd) (S : FnScope N ps (defScope st)) (hst : defBody st = .If test [.Return (some (.Name "NotImplemented" p1)) p2] [] p3 :: rest) (hg : (defScope st).names.lookup ("NotImplemented" : Str) = some NameKind.globalImplicit) (hmg : mg "NotImplemented" = none)
    (hb : Binds K fd ps []) (len : ∀ vs H, pre vs H → vs.length = ps.length)
    (ht : ∀ (cdv : Value) (A : Around) (outer : List Env) (s : Shared) (H : Hp) (vs : List V), Room k (A.deeper (envOfC qual (defScope st) s.heap.objs.size f cdv)) → pre vs H →
      ∃ t, PT (cxOf CX0 P w K mg base N qual (defScope st) f cdv A outer s H (fun _ _ _ => False)) test t ∧ t (start N vs) H (fun b G => b = true ∧ G = H)) : FnNo P w K mg base CX0 (k + 1) f pre := by
  obtain ⟨oc, od, kV, doc, pm, an, cdv, ct, osl, rfl, lk, hcd⟩ := F.ex
  rw [hst] at lk hb
  intro A outer s H us vs room e0 r hp
  have hl := len vs H hp
  have KX : K.In s.heap := e0.mod.kin.keeps fun b o z => (e0.bs b o z).1
  have hlu : (us ++ []).length = ps.length := by
    rw [List.append_nil, ← r.length]
    exact hl
  have bd := hb s us KX hlu
  rw [List.append_nil] at bd
  exact fn_no lk hcd S hg hmg hl room e0 bd r fun rm => ht cdv A outer s H vs rm hp
end MoL

/-! # None beside an instance under ==, and x in an instance -/
namespace MoW
open PySem PySem.W PyProof.Rows
section
variable {prog : Program} {w : World} {A : Around} {E : Value → Shared → Prop} {s : Shared} {K : Frag} {x C f : Addr} {ox : Obj} {od : Option Obj}
theorem none_eq_no (l : Addr) : Gives (Builtin.«NoneType.__eq__» ⟨[.none, .ref l], []⟩) (.val (Value.notImplemented)) :=
  .of_wp fun M A E s Q h => by obtain ⟨hp, g, d, tk, os⟩ := s; wp_walk; exact ⟨_, rfl, h⟩
/-- None == x: both decline, they are not one thing -/
theorem cmp_none_own {Q : Value → Shared → Prop} {R : Shared → Prop} (hu : A.units < cLine) (X : K.In s.heap) (I : W.InstAt s.heap x ox C od) (hn : subIn K (.ref C) (.type "NoneType") = some false)
    (hs : findIn K (.ref C) "__eq__" = some (some (.ref f))) (hf : isFn K (.ref f) = true)
    (h : wpAny (model prog w) A (call (.ref f) [.ref x, .none]) (fun v s' => v = .notImplemented ∧ Q (.bool false) s') E s) : wpAny (model prog w) A (richCompare .Eq .none (.ref x)) Q E s := by
  have ty : ∀ s' : Shared, s'.TypeIs .none "NoneType" := fun _ => rfl
  unfold richCompare
  simp only [(ty s).oneThing_none]
  refine wpAny_holding (wpAny_bind (wpAny_cRoomFor hu ?_))
  refine wpAny_bind (wpAny_typeOf (ty s) (wpAny_bind (I.type.here ?_)))
  have hne : (Value.type "NoneType" != Value.ref C) = true := rfl
  simp only [hne, if_true]
  refine wpAny_bind ((looks_subIn X hn).here ?_)
  simp only [Bool.false_eq_true, if_false, Bool.not_false, if_true]
  refine wpAny_bind (m := tryCompare .none _ (.ref x)) (wpAny_tryCompare_declines (ty s) PySem.F.slot_NoneType_eq (call_gives PySem.F.slot_NoneType_eq rfl PySem.F.entry_NoneType_eq (PySem.F.args_NoneType_eq_2 _ _) (none_eq_no x) ⟨rfl, ?_⟩))
  refine wpAny_bind (m := tryCompare (.ref x) _ .none) ?_
  unfold tryCompare
  refine wpAny_bind (ifBound_K X I hs hf (wpAny_mono h (fun v s' hv => ?_) fun _ _ e => e))
  obtain ⟨rfl, q⟩ := hv
  exact wpAny_pure (wpAny_bind (wpAny_rule (wpAny_bind (wpAny_of_eq (show isSame .none (.ref x) = pure false from rfl) (wpAny_pure q)))))
/-- x == None, x's own method declines -/
theorem cmp_own_none {Q : Value → Shared → Prop} {R : Shared → Prop} (hu : A.units < cLine) (X : K.In s.heap) (I : W.InstAt s.heap x ox C od) (hn : subIn K (.type "NoneType") (.ref C) = some false)
    (hs : findIn K (.ref C) "__eq__" = some (some (.ref f))) (hf : isFn K (.ref f) = true)
    (h : wpAny (model prog w) A (call (.ref f) [.ref x, .none]) (fun v s' => v = .notImplemented ∧ Q (.bool false) s') E s) : wpAny (model prog w) A (richCompare .Eq (.ref x) .none) Q E s := by
  have ty : ∀ s' : Shared, s'.TypeIs .none "NoneType" := fun _ => rfl
  unfold richCompare
  simp only [oneThing_ref]
  refine wpAny_holding (wpAny_bind (wpAny_cRoomFor hu ?_))
  refine wpAny_bind (I.type.here (wpAny_bind (wpAny_typeOf (ty s) ?_)))
  have hne : (Value.ref C != Value.type "NoneType") = true := rfl
  simp only [hne, if_true]
  refine wpAny_bind ((looks_subIn X hn).here ?_)
  simp only [Bool.false_eq_true, if_false, Bool.not_false, if_true]
  refine wpAny_bind (m := tryCompare (.ref x) _ .none) ?_
  have one : wpAny (model prog w) A (tryCompare (.ref x) "__eq__" .none) (fun r s' => r = none ∧ Q (.bool false) s') E s := by
    unfold tryCompare
    refine wpAny_bind (ifBound_K X I hs hf (wpAny_mono h (fun v s' hv => ?_) fun _ _ e => e))
    obtain ⟨rfl, q⟩ := hv
    exact wpAny_pure ⟨rfl, q⟩
  refine wpAny_mono one (fun r s' z => ?_) fun _ _ e => e
  obtain ⟨rfl, q⟩ := z
  refine wpAny_bind (m := tryCompare .none _ (.ref x)) (wpAny_tryCompare_declines (ty s') PySem.F.slot_NoneType_eq_refl (call_gives PySem.F.slot_NoneType_eq_refl rfl PySem.F.entry_NoneType_eq (PySem.F.args_NoneType_eq_2 _ _) (none_eq_no x) ⟨rfl, ?_⟩))
  exact wpAny_bind (wpAny_rule (wpAny_bind (wpAny_of_eq (show isSame (.ref x) .none = pure false from rfl) (wpAny_pure q))))
end
end MoW
namespace MoL
open PySem PySem.Spec PyProof.Rows L2 MoW
section
variable {X : Cx} {CX CX' : CXT} {k k' : Nat} {C D f f' g g' : Addr} {fd : FuncData} {ps : List Str} {sp : Sp} {E : XK} {pre : List V → Hp → Prop}
/-- x == None and None == x: not equal, the instance's own method declines -/
theorem op_eq_none (h1 : PySem.W.subIn X.K (.ref C) (.type "NoneType") = some false) (h2 : PySem.W.subIn X.K (.type "NoneType") (.ref C) = some false) (m : Meth X.K C "__eq__" f)
    (no : FnNo X.prog X.w X.K X.mg X.base CX' k' f pre) (hr' : Room k' X.A) (never : ∀ (H : Hp) s e s', CX' X.stack H s (fun _ _ _ => False) e s' → False) :
    OpR X (compareOp .Eq) (fun x y H Q => ((x = .non ∧ Ins H y C ∧ pre [y, .non] H) ∨ (y = .non ∧ Ins H x C ∧ pre [x, .non] H)) ∧ Q (.bl false) H) := by
  intro pins s σ H x y v u Q I rx ry h
  obtain ⟨h, q⟩ := h
  have run : ∀ a : Addr, pre [.ref a, .non] H → wpAny (model X.prog X.w) X.A (call (.ref f) [.ref a, .none]) (fun v s' => v = .notImplemented ∧ EP X pins σ Q (.bool false) s') X.xe s := fun a hp => by
    refine wpAny_call (codeAny_mono (no X.A X.stack s H [.ref a, .none] [.ref a, .non] hr' I.env0 (.cons rfl (.cons rfl .nil)) hp) ?_)
    rintro r s' (⟨rfl, ce⟩ | ⟨e, rfl, z⟩)
    · obtain ⟨w0, G, I2, _, ⟨_, rfl⟩⟩ := I.after ce
      exact ⟨rfl, .bl false, _, I2, rfl, q⟩
    · exact (never H s e s' z).elim
  rcases h with ⟨rfl, ⟨a, dx, fs, rfl, ha⟩, hp⟩ | ⟨rfl, ⟨a, dx, fs, rfl, ha⟩, hp⟩
  · cases (show v = Value.none from rx)
    cases (show u = Value.ref a from ry)
    obtain ⟨od, J⟩ := ins_at I ha
    exact cmp_none_own (R := fun _ => True) hr'.units0 I.kIn J h1 m.at_ m.fn (run a hp)
  · cases (show v = Value.ref a from rx)
    cases (show u = Value.none from ry)
    obtain ⟨od, J⟩ := ins_at I ha
    exact cmp_own_none (R := fun _ => True) hr'.units0 I.kIn J h2 m.at_ m.fn (run a hp)
/-- x in an instance -/
theorem op_in_own (m : Meth X.K C "__contains__" f) (F : FnOk X.prog X.w X.K X.mg X.base CX k f fd ps sp) (hr : Room k X.A) (hb : Binds X.K fd ps []) (hx : Passes CX X E) :
    OpR X (compareOp .In) (fun x y H Q => Ins H y C ∧ sp [y, x] H (fun v H' => ∃ b, v = .bl b ∧ Q (.bl b) H') E) := by
  intro pins s σ H x y v u Q I rx ry h
  obtain ⟨⟨a, dx, fs, rfl, ha⟩, hs⟩ := h
  cases (show u = Value.ref a from ry)
  obtain ⟨od, J⟩ := ins_at I ha
  obtain ⟨mm, hF⟩ := I.fr
  refine PySem.W.in_K hF I.ok.mod.kin J m.at_ m.fn (thn (run_fn (us := [.ref a, v]) (vs := [.ref a, x]) F hr hb .nil hx I (.cons rfl (.cons rx .nil)) hs) fun r s' q => ?_)
  obtain ⟨z, H', I', r1, b, rfl, q⟩ := q
  cases (show r = Value.bool b from r1)
  exact wpAny_truthy_bool ⟨.bl b, H', I', rfl, q⟩
end
/-- a list read by place, the written part named (in a lambda's body the context must not show) -/
theorem ix_listK {X : Cx} {K : PySem.W.Frag} (h : X.K = K) : IxR X (rIxL K) := h ▸ ix_list
end MoL

/-! # math.lcm of long numbers, math.comb, a comprehension over zip -/
namespace MoL
open PySem PySem.Spec PyProof.Rows L2 MoW
section
variable {X : Cx}
def rLcm : List V → Hp → VK → Prop := fun vs H Q => ∃ a b : Int, vs = [.int a, .int b] ∧ Sm a ∧ Sm b ∧ Q (.int ((Nat.lcm a.natAbs b.natAbs : Nat) : Int)) H
theorem cr_lcm : CallR X (.builtin "math.lcm") rLcm := by
  intro pins s σ H vs us Q I r h
  obtain ⟨a, b, rfl, sa, sb, q⟩ := h
  obtain ⟨t, u, rfl⟩ := Vals.int2 r
  have la : a.natAbs.log2 < 4000 + 1 := Nat.lt_succ_of_le (Nat.le_of_lt_succ (Nat.lt_succ_of_lt (PySem.Flt.log2_lt_of (by decide) sa)))
  have lb : b.natAbs.log2 < 4000 + 1 := Nat.lt_succ_of_le (Nat.le_of_lt_succ (Nat.lt_succ_of_lt (PySem.Flt.log2_lt_of (by decide) sb)))
  have m1 : (max 1 a.natAbs).log2 < 4001 := by
    rcases Nat.le_total 1 a.natAbs with h | h
    · rw [Nat.max_eq_right h]; exact la
    · rw [Nat.max_eq_left h]; decide
  have m2 : (max a.natAbs b.natAbs).log2 < 4001 := by
    rcases Nat.le_total a.natAbs b.natAbs with h | h
    · rw [Nat.max_eq_right h]; exact lb
    · rw [Nat.max_eq_left h]; exact la
  have hsz : ((((Nat.lcm 1 a.natAbs).lcm b.natAbs : Nat) : Int)).natAbs.log2 < bitsLine := by
    rw [PySem.W.mc_lcm_one]
    have h1 : a.natAbs.lcm b.natAbs < 2 ^ 8000 := Nat.lt_of_le_of_lt (PySem.W.mc_lcm_le _ _) (Nat.lt_of_lt_of_le (Nat.mul_lt_mul'' sa sb) (by rw [← Nat.pow_add]; exact Nat.le_refl _))
    have h2 : ((a.natAbs.lcm b.natAbs : Nat) : Int).natAbs.log2 < 8000 := PySem.Flt.log2_lt_of (by decide) h1
    exact Nat.lt_of_lt_of_le h2 (by decide)
  have e : ((((Nat.lcm 1 a.natAbs).lcm b.natAbs : Nat) : Int)) = ((a.natAbs.lcm b.natAbs : Nat) : Int) := by rw [PySem.W.mc_lcm_one]
  exact call_function_meets PySem.W.MGF.kind_lcm PySem.W.MGF.plain_lcm PySem.W.MGF.entry_lcm (PySem.W.MGF.args_lcm _ _) (PySem.W.mg_run_lcm a t b u (by omega) (by omega) hsz).meets (e ▸ ⟨.int _, H, I.tok _, ⟨_, rfl⟩, q⟩)
def rComb : List V → Hp → VK → Prop := fun vs H Q => ∃ a b : Int, vs = [.int a, .int b] ∧ 0 ≤ a ∧ 0 ≤ b ∧ a < 1000 ∧ b < 1000 ∧ Q (.int (PySem.W.mcComb a b)) H
theorem cr_comb : CallR X (.builtin "math.comb") rComb := by
  intro pins s σ H vs us Q I r h
  obtain ⟨a, b, rfl, ha, hb, ha2, hb2, q⟩ := h
  obtain ⟨t, u, rfl⟩ := Vals.int2 r
  exact PySem.W.mc_comb ha hb (by omega) (.inl (by omega)) fun _ => ⟨.int _, H, I.tok _, ⟨_, rfl⟩, q⟩
end
/-- [e for a, b in zip(xs, ys)]: both lists stay -/
theorem lc_zip {K : PySem.W.Frag} {a b : Addr} {xs ys : List V} {g : TG} {tt : TT} {te : TE} {vs : List Nat} {σ : L2.St} {H1 : Hp} {D : Addr} {Qd : Hp → Prop} (Pv : Nat → Hp → Prop) (h0 : Pv 0 (upd H1 D (.lst [])))
    (hl : ∀ i H, i ≤ min xs.length ys.length → Pv i H → SqL K H a xs ∧ SqL K H b ys)
    (hs : ∀ i x y H T, xs[i]? = some x → ys[i]? = some y → H T = none → Pv i H → g (.ref T) (wipe σ vs) (upd H T (.tup [x, y])) fun σ2 H2 => wipe σ2 vs = wipe σ vs ∧ tt σ2 H2 fun b H3 =>
      if b = true then te σ2 H3 fun y H4 => ∃ acc, H4 D = some (.lst acc) ∧ acc.length < sizeLine ∧ Pv (i + 1) (upd H4 D (.lst (acc ++ [y]))) else Pv (i + 1) H3) (hd : ∀ H, Pv (min xs.length ys.length) H → Qd H) :
    ∃ W : Nat → Nat → Hp → Prop, (∃ m, W 0 m (upd H1 D (.lst []))) ∧ ∀ i m H, W i m H →
      ((Itz K a b).stop i H ∧ Qd H) ∨ ((Itz K a b).go i H ∧ ∃ Nx : Hp → Prop, (∀ H', Nx H' → ∃ m', m' < m ∧ W (i + 1) m' H') ∧ ∀ x H', (Itz K a b).yld i H x H' → g x (wipe σ vs) H' fun σ2 H2 => wipe σ2 vs = wipe σ vs ∧ tt σ2 H2 fun b H3 =>
        if b = true then te σ2 H3 fun y H4 => ∃ acc, H4 D = some (.lst acc) ∧ acc.length < sizeLine ∧ Nx (upd H4 D (.lst (acc ++ [y]))) else Nx H3) := by
  refine ⟨fun i m H => m = min xs.length ys.length - i ∧ i ≤ min xs.length ys.length ∧ Pv i H, ⟨min xs.length ys.length, by simp, Nat.zero_le _, h0⟩, ?_⟩
  rintro i m H ⟨rfl, hi, p⟩
  obtain ⟨q1, q2⟩ := hl i H hi p
  by_cases hlt : i < min xs.length ys.length
  · have l1 : i < xs.length := by omega
    have l2 : i < ys.length := by omega
    refine .inr ⟨⟨xs, ys, xs[i], ys[i], q1, q2, List.getElem?_eq_getElem l1, List.getElem?_eq_getElem l2⟩, Pv (i + 1), fun H' h => ⟨_, by omega, rfl, by omega, h⟩, ?_⟩
    rintro x H' ⟨T, u, v, rfl, hT, rfl, e1, e2⟩
    exact hs i u v H T (e1 _ q1) (e2 _ q2) hT p
  · have e : i = min xs.length ys.length := by omega
    subst e
    exact .inl ⟨⟨xs, ys, q1, q2, by omega⟩, hd H p⟩
/-! ### f(e, .., k = v) in a body whose errors are caught -/
def tCallNS (n m : Nat) (sp : Sp) (gV : List V → List V → List V) (W : L2.St → XK) (t tk : TA) : TE := fun σ H Q => t σ H fun vs H1 => tk σ H1 fun zs H2 => vs.length = n ∧ zs.length = m ∧ sp (gV vs zs) H2 Q (W σ)
section
variable {X : Cx} {CX : CXT} {k n : Nat} {f : Addr} {fd : FuncData} {ps ks : List Str} {sp : Sp} {W : L2.St → XK} {x : Str} {p pos : Pos} {e : Expr} {es : List Expr} {kws : List Keyword} {t tk : TA} {g : List Value → List Value → List Value} {gV : List V → List V → List V}
theorem pe_callNS (F : FnOk X.prog X.w X.K X.mg X.base CX k f fd ps sp) (hr : Room k X.A) (hg : Gl X x) (hm : X.mg x = some (.ref f)) (hk : PySem.W.keepIn X.K (.ref f) = true) (hb : KBn X.K fd ps n ks g gV) (hx : ∀ σ, PassesAt CX X σ (W σ))
    (ha : PA X (e :: es) t) (hkw : PK X kws tk) (hall : (backToKw pos (keywordEach kws X.env)).all (·.1.isSome) = true := by rfl) (hks : (backToKw pos (keywordEach kws X.env)).filterMap (·.1) = ks := by rfl)
    (hdb : (x == ("__debug__" : Str)) = false := by decide) (he : starEach (e :: es) X.env = (false, eval e X.env) :: starEach es X.env := by rfl)
    (hpl : ((backTo pos (starEach (e :: es) X.env)).any (·.1) || (backToKw pos (keywordEach kws X.env)).any (·.1.isNone)) = false := by rfl) :
    PE X (.Call (.Name x p) (e :: es) kws pos) (tCallNS n ks.length sp gV W t tk) := by
  refine ⟨fun pins s σ H Q I h => ?_⟩
  refine wpAny_Call_Name_kw (ld_glob I hg hm ?_ hdb)
  refine PySem.W.callWith_KW (h₀ := X.base) I.ok.mod.kin hk hall (thn (ha.run pos pins s σ H _ I h) fun us s1 ⟨vs, H1, I1, r, q⟩ => ?_) hpl he
  refine thn (hkw.run pos pins s1 σ H1 _ I1 q) fun ws s2 ⟨zs, H2, I2, rz, l1, l2, q2⟩ => ⟨I2.kIn, ?_⟩
  rw [hks]
  have r2 := hb.rel r rz
  refine wpAny_call (codeAny_mono (F.run X.A X.stack s2 H2 ⟨us, ks.zip ws⟩ (g us ws) (gV vs zs) Q (W σ) hr I2.env0 (hb.to s2 us ws I2.kIn (r.length.symm.trans l1) (rz.length.symm.trans l2)) r2 q2) fun r s' hq => ?_)
  cases r with
  | error e => exact hx σ pins _ _ e s' I2 hq
  | ok fl =>
    cases fl with
    | ret u => exact I2.after hq
    | next => exact False.elim hq
    | brk => exact False.elim hq
    | cont => exact False.elim hq
end
/-- a field, the written part named (in a comprehension's block the context must not show) -/
theorem pe_fldK {X : Cx} {K : PySem.W.Frag} {e : Expr} {f : Str} {pos : Pos} {ta : TE} (h : X.K = K) (he : PE X e ta) (hb : attributeBase e f X.env (eval e X.env) = eval e X.env) : PE X (.Attribute e f pos) (tFld K ta f) := h ▸ pe_fld he hb
theorem pg_tupK {X : Cx} {K : PySem.W.Frag} {es : List Expr} {k n : Nat} {pos : Pos} {t : TGs} (h : X.K = K) (hc : X.calm = true) (hp : PGs X es t)
    (hn : (assignEach es X.env).length = n := by rfl) (hst : (assignEach es X.env).findIdx? (·.1) = none := by rfl) : PG X (.Tuple es k pos) (gTup K n t) := h ▸ pg_tup hc hp hn hst
end MoL

/-! # Errors without fields that are caught, calls with keywords alone -/
namespace MoL
open PySem PySem.Spec PyProof.Rows L2 MoW
def rIsNo (K : PySem.W.Frag) (a : Addr) (cls : Value) (d : Option Addr) (D : Addr) : List V → Hp → VK → Prop := fun xs H Q => ∃ (c : V) (cv : Value) (b : Bool), xs = [.ref a, c] ∧ cls = .ref D ∧ d = none ∧ ClsV c cv ∧ PySem.W.kitOne K (.ref D) cv = some b ∧ Q (.bl b) H
theorem call_isN {X : Cx} {a D : Addr} {oe : Obj} {cls : Value} {d : Option Addr} {pn : List (Addr × Obj)} (C : ExcC X.K D) (hz : Zc cls d oe) (hf : ∃ vs, oe.data = .fields vs) : CallR (X.suite a ((a, oe) :: pn)) (.builtin "isinstance") (rIsNo X.K a cls d D) := by
  intro pins s σ H xs us Q I r h
  obtain ⟨c, cv, b, rfl, rfl, rfl, hc, e, q⟩ := h
  exact call_isE C hz hf pins s σ H _ us Q I r ⟨c, cv, b, rfl, fun u r => hc.eq r, e, q⟩
theorem ErrC.em {K : PySem.W.Frag} {M C : Addr} {nm : Str} (e : ErrC K M C nm) : PySem.W.exmOne K (.ref C) (.ref C) = some true := PySem.W.exm_ref e.exc e.row.dict e.row.ty (by rw [e.row.sub]; simp)
section
variable {X : Cx} {CX : CXT} {k : Nat} {f : Addr} {fd : FuncData} {ps ks : List Str} {sp : Sp} {E : XK} {x : Str} {p pos : Pos} {kws : List Keyword} {tk : TA} {g : List Value → List Value → List Value} {gV : List V → List V → List V}
theorem pe_callN0 (F : FnOk X.prog X.w X.K X.mg X.base CX k f fd ps sp) (hr : Room k X.A) (hg : Gl X x) (hm : X.mg x = some (.ref f)) (hk : PySem.W.keepIn X.K (.ref f) = true) (hb : KBn X.K fd ps 0 ks g gV) (hx : Passes CX X E) (hkw : PK X kws tk)
    (hall : (backToKw pos (keywordEach kws X.env)).all (·.1.isSome) = true := by rfl) (hks : (backToKw pos (keywordEach kws X.env)).filterMap (·.1) = ks := by rfl) (hdb : (x == ("__debug__" : Str)) = false := by decide)
    (hpl : ((backTo pos (starEach [] X.env)).any (·.1) || (backToKw pos (keywordEach kws X.env)).any (·.1.isNone)) = false := by rfl) :
    PE X (.Call (.Name x p) [] kws pos) (tCallN 0 ks.length sp gV E tNil tk) := by
  refine ⟨fun pins s σ H Q I h => ?_⟩
  refine wpAny_Call_Name_kw (ld_glob I hg hm ?_ hdb)
  refine PySem.W.callWith_KW0 (h₀ := X.base) I.ok.mod.kin hk hall ?_ hpl
  refine thn (hkw.run pos pins s σ H _ I h) fun ws s2 ⟨zs, H2, I2, rz, l1, l2, q2⟩ => ⟨I2.kIn, ?_⟩
  rw [hks]
  exact run_fnN (us := []) (vs := []) F hr hb hx I2 .nil rz rfl l2 q2
end
end MoL

namespace MoL
open PySem PySem.Spec PyProof.Rows L2 MoW
/-- a slice inside a comprehension -/
theorem sl_listK {X : Cx} {K : PySem.W.Frag} (h : X.K = K) : SlR X (rSlL K) := h ▸ sl_list
end MoL

/-! # Exact fractions as Rats: a Ratio's fields are the numerator and the denominator -/
namespace MoL
open PySem PySem.Spec PyProof.Rows L2 MoW
/-! # Exact fractions: the fields of a Ratio are the numerator and the denominator of a Rat -/
theorem den_pos (x : Rat) : (0 : Int) < (x.den : Int) := Int.natCast_pos.mpr x.den_pos
theorem ine (i : Int) (h : i ≠ 0) : (i : Rat) ≠ 0 := fun z => h (by exact_mod_cast z)
theorem den_ne (x : Rat) : (((x.den : Nat) : Int) : Rat) ≠ 0 := ine _ (by have := den_pos x; omega)
theorem num_is (x : Rat) : (x.num : Rat) = x * (((x.den : Nat) : Int) : Rat) := by
  have h := Rat.num_divInt_den x
  rw [Rat.divInt_eq_div] at h
  have h2 := den_ne x
  generalize (((x.den : Nat) : Int) : Rat) = d at *
  generalize (x.num : Rat) = n at *
  grind
theorem inj {a b : Int} (h : (a : Rat) = b) : a = b := by exact_mod_cast h
/-- lowest terms are one -/
theorem low_is {x : Rat} {t b : Int} (hb : 0 < b) (hc : Nat.gcd t.natAbs b.natAbs = 1) (h : x * (b : Rat) = t) : x.num = t ∧ (x.den : Int) = b := by
  have h0 : Rat.divInt t b = x := by
    rw [Rat.divInt_eq_div, ← h]
    have := ine b (by omega)
    generalize (b : Rat) = c at *
    grind
  have e : b = ((b.toNat : Nat) : Int) := by omega
  have hr : (⟨t, b.toNat, by omega, by rw [show b.toNat = b.natAbs by omega]; exact hc⟩ : Rat) = x := by
    rw [Rat.mk_eq_divInt, ← e]
    exact h0
  rw [← hr]
  exact ⟨rfl, e.symm⟩
/-- any way to write x has a top and a bottom that are not smaller -/
theorem le_of {x : Rat} {p q : Int} (hq : q ≠ 0) (h : x * (q : Rat) = p) : x.num.natAbs ≤ p.natAbs ∧ x.den ≤ q.natAbs := by
  have e : x.num * q = p * (x.den : Int) := inj (by
    rw [Rat.intCast_mul, Rat.intCast_mul, ← h, num_is]
    grind)
  have hc : Nat.Coprime x.num.natAbs x.den := x.reduced
  have e2 : x.num.natAbs * q.natAbs = p.natAbs * x.den := by
    have := congrArg Int.natAbs e
    rw [Int.natAbs_mul, Int.natAbs_mul] at this
    simpa using this
  have d1 : x.den ∣ q.natAbs := hc.symm.dvd_of_dvd_mul_left ⟨p.natAbs, by rw [e2, Nat.mul_comm]⟩
  have d2 : x.num.natAbs ∣ p.natAbs := hc.dvd_of_dvd_mul_right ⟨q.natAbs, e2.symm⟩
  refine ⟨?_, Nat.le_of_dvd (by omega) d1⟩
  rcases Nat.eq_zero_or_pos p.natAbs with h | h
  · rw [h, Nat.zero_mul] at e2
    rcases Nat.mul_eq_zero.mp e2 with h2 | h2
    · omega
    · omega
  · exact Nat.le_of_dvd h d2
/-- sizes: the top below 2 ^ n, the bottom below 2 ^ m -/
structure Bd (n m : Nat) (x : Rat) : Prop where
  top : x.num.natAbs < 2 ^ n
  bot : x.den < 2 ^ m
theorem two_le {a b : Nat} (h : a ≤ b) : 2 ^ a ≤ 2 ^ b := Nat.pow_le_pow_right (by decide) h
theorem lt_le {i a b : Nat} (h : i < 2 ^ a) (l : a ≤ b) : i < 2 ^ b := Nat.lt_of_lt_of_le h (two_le l)
theorem Bd.mono {n m n' m' : Nat} {x : Rat} (b : Bd n m x) (h : n ≤ n') (h2 : m ≤ m') : Bd n' m' x := ⟨lt_le b.top h, lt_le b.bot h2⟩
theorem Bd.of {n m : Nat} {x : Rat} {p q : Int} (hq : q ≠ 0) (h : x * (q : Rat) = p) (h1 : p.natAbs < 2 ^ n) (h2 : q.natAbs < 2 ^ m) : Bd n m x :=
  ⟨Nat.lt_of_le_of_lt (le_of hq h).1 h1, Nat.lt_of_le_of_lt (le_of hq h).2 h2⟩
theorem div_is {p q : Int} (hq : q ≠ 0) : ((p : Rat) / (q : Rat)) * (q : Rat) = p := by
  have := ine q hq
  generalize (q : Rat) = c at *
  grind
theorem Bd.div {n m : Nat} {p q : Int} (hq : q ≠ 0) (h1 : p.natAbs < 2 ^ n) (h2 : q.natAbs < 2 ^ m) : Bd n m ((p : Rat) / (q : Rat)) := .of hq (div_is hq) h1 h2
theorem Bd.int {n m : Nat} {i : Int} (h1 : i.natAbs < 2 ^ n) (h2 : 0 < m) : Bd n m (i : Rat) :=
  ⟨by rw [Rat.num_intCast]; exact h1, by rw [Rat.den_intCast]; exact Nat.one_lt_two_pow (by omega)⟩
theorem nmul {i j : Int} {m n : Nat} (a : i.natAbs < 2 ^ m) (b : j.natAbs < 2 ^ n) : (i * j).natAbs < 2 ^ (m + n) := by
  rw [Int.natAbs_mul, Nat.pow_add]
  exact Nat.mul_lt_mul'' a b
theorem nadd {i j : Int} {n : Nat} (a : i.natAbs < 2 ^ n) (b : j.natAbs < 2 ^ n) : (i + j).natAbs < 2 ^ (n + 1) := by
  rw [Nat.pow_succ]
  omega
theorem dabs (x : Rat) : ((x.den : Nat) : Int).natAbs = x.den := by simp
theorem mul_q (x y : Rat) : (x * y) * (((x.den : Int) * (y.den : Int) : Int) : Rat) = ((x.num * y.num : Int) : Rat) := by
  rw [Rat.intCast_mul, Rat.intCast_mul, num_is, num_is]
  grind
theorem add_q (x y : Rat) : (x + y) * (((x.den : Int) * (y.den : Int) : Int) : Rat) = ((x.num * (y.den : Int) + y.num * (x.den : Int) : Int) : Rat) := by
  rw [Rat.intCast_mul, Rat.intCast_add, Rat.intCast_mul, Rat.intCast_mul, num_is, num_is]
  grind
theorem sub_q (x y : Rat) : (x - y) * (((x.den : Int) * (y.den : Int) : Int) : Rat) = ((x.num * (y.den : Int) - y.num * (x.den : Int) : Int) : Rat) := by
  rw [Rat.intCast_mul, Rat.intCast_sub, Rat.intCast_mul, Rat.intCast_mul, num_is, num_is]
  grind
theorem dd_ne (x y : Rat) : (x.den : Int) * (y.den : Int) ≠ 0 := by
  have := Int.mul_pos (den_pos x) (den_pos y)
  omega
theorem Bd.mul {n m n' m' : Nat} {x y : Rat} (a : Bd n m x) (b : Bd n' m' y) : Bd (n + n') (m + m') (x * y) :=
  .of (dd_ne x y) (mul_q x y) (nmul a.top b.top) (nmul (by rw [dabs]; exact a.bot) (by rw [dabs]; exact b.bot))
theorem Bd.add {n m n' m' e : Nat} {x y : Rat} (a : Bd n m x) (b : Bd n' m' y) (h1 : n + m' ≤ e) (h2 : n' + m ≤ e) : Bd (e + 1) (m + m') (x + y) :=
  .of (dd_ne x y) (add_q x y) (nadd (lt_le (nmul a.top (by rw [dabs]; exact b.bot)) h1) (lt_le (nmul b.top (by rw [dabs]; exact a.bot)) h2)) (nmul (by rw [dabs]; exact a.bot) (by rw [dabs]; exact b.bot))
theorem Bd.neg {n m : Nat} {x : Rat} (a : Bd n m x) : Bd n m (-x) := ⟨by rw [Rat.neg_num, Int.natAbs_neg]; exact a.top, by rw [Rat.neg_den]; exact a.bot⟩
theorem Bd.sub {n m n' m' e : Nat} {x y : Rat} (a : Bd n m x) (b : Bd n' m' y) (h1 : n + m' ≤ e) (h2 : n' + m ≤ e) : Bd (e + 1) (m + m') (x - y) := by
  rw [Rat.sub_eq_add_neg]
  exact a.add b.neg h1 h2
theorem Bd.zero {n m : Nat} (h : 0 < m) : Bd n m 0 := ⟨Nat.two_pow_pos _, Nat.one_lt_two_pow (by omega)⟩
theorem Bd.one {n m : Nat} (h : 0 < n) (h : 0 < m) : Bd n m 1 := ⟨Nat.one_lt_two_pow (by omega), Nat.one_lt_two_pow (by omega)⟩
/-- the gap of two -/
theorem gap_lt (x y : Rat) : x < y ↔ x.num * (y.den : Int) - y.num * (x.den : Int) < 0 := by
  rw [Rat.lt_iff]
  omega
theorem gap_le (x y : Rat) : x ≤ y ↔ x.num * (y.den : Int) - y.num * (x.den : Int) ≤ 0 := by
  rw [Rat.le_iff]
  omega
theorem gap_eq (x y : Rat) : x = y ↔ x.num * (y.den : Int) - y.num * (x.den : Int) = 0 := by
  constructor
  · rintro rfl
    omega
  · intro h
    have h1 : x ≤ y := (gap_le x y).mpr (by omega)
    have h2 : y ≤ x := (gap_le y x).mpr (by omega)
    exact Rat.le_antisymm h1 h2
theorem num_zero {x : Rat} (h : x.num = 0) : x = 0 := by
  have := num_is x
  rw [h] at this
  have h2 := den_ne x
  generalize (((x.den : Nat) : Int) : Rat) = d at *
  grind
theorem num_ne {x : Rat} (h : x ≠ 0) : x.num ≠ 0 := fun z => h (num_zero z)
theorem int_parts (i : Int) : ((i : Rat)).num = i ∧ (((i : Rat)).den : Int) = 1 := ⟨Rat.num_intCast i, by rw [Rat.den_intCast]; rfl⟩

theorem Bd.d {n m : Nat} {x : Rat} (b : Bd n m x) : ((x.den : Int)).natAbs < 2 ^ m := by rw [dabs]; exact b.bot
theorem sm_of {i : Int} {n : Nat} (h : i.natAbs < 2 ^ n) (hn : n ≤ 4000) : Sm i := Sm.of h hn
theorem nle {i : Int} {m n : Nat} (a : i.natAbs < 2 ^ m) (h : m ≤ n) : i.natAbs < 2 ^ n := Nat.lt_of_lt_of_le a (Nat.pow_le_pow_right (by decide) h)
theorem Bd.s1 {n m : Nat} {x : Rat} (b : Bd n m x) (h : n ≤ 4000) : Sm x.num := sm_of b.top h
theorem Bd.s2 {n m : Nat} {x : Rat} (b : Bd n m x) (h : m ≤ 4000) : Sm (x.den : Int) := sm_of b.d h
/-- the value of a top and a bottom -/
def qv (p : Int × Int) : Rat := (p.1 : Rat) / (p.2 : Rat)
theorem qv_mul {p : Int × Int} (h : p.2 ≠ 0) : qv p * (p.2 : Rat) = p.1 := div_is h
theorem div_eq {x : Rat} {p q : Int} (hq : q ≠ 0) (h : x * (q : Rat) = p) : (p : Rat) / (q : Rat) = x := by
  have := ine q hq
  generalize (q : Rat) = c at *
  generalize (p : Rat) = d at *
  grind
/-- lowest terms as the making computes them -/
theorem Norm.rat {t b t' b' : Int} (n : Norm t b t' b') : ((t : Rat) / (b : Rat)).num = t' ∧ ((((t : Rat) / (b : Rat)).den : Nat) : Int) = b' := by
  have hb := n.bne
  have c := n.cross
  refine low_is n.pos n.cop ?_
  have c2 : (t' : Rat) * (b : Rat) = (t : Rat) * (b' : Rat) := by exact_mod_cast c
  have h1 := ine b hb
  have h2 := div_is (p := t) hb
  generalize (t : Rat) / (b : Rat) = z at *
  generalize (b : Rat) = bb at *
  generalize (t : Rat) = tt at *
  generalize (t' : Rat) = tt' at *
  generalize (b' : Rat) = bb' at *
  grind
/-! ### Ratios on the heap -/
abbrev ratO (C dx : Addr) (z : Rat) : HO := .ins C dx [("top", .int z.num), ("bottom", .int ((z.den : Nat) : Int))]
def RatV (C : Addr) (H : Hp) (v : V) (z : Rat) : Prop := ∃ a dx, v = .ref a ∧ H a = some (ratO C dx z)
def NumV (C : Addr) (H : Hp) (v : V) (z : Rat) : Prop := (∃ i : Int, v = .int i ∧ z = (i : Rat)) ∨ RatV C H v z
section
variable {C : Addr} {H H' : Hp} {v : V} {z : Rat}
theorem RatV.ins (r : RatV C H v z) : Ins H v C := by
  obtain ⟨a, dx, e, h⟩ := r
  exact ⟨a, dx, _, e, h⟩
theorem RatV.same (r : RatV C H v z) (s : Same H H') : RatV C H' v z := by
  obtain ⟨a, dx, e, h⟩ := r
  exact ⟨a, dx, e, s _ _ h⟩
theorem RatV.num (r : RatV C H v z) : NumV C H v z := .inr r
theorem NumV.same (n : NumV C H v z) (s : Same H H') : NumV C H' v z := n.imp id fun r => r.same s
theorem NumV.kind (n : NumV C H v z) : (∃ i, v = .int i) ∨ Ins H v C := n.imp (fun ⟨i, e, _⟩ => ⟨i, e⟩) fun r => r.ins
theorem NumV.int (i : Int) : NumV C H (.int i) (i : Rat) := .inl ⟨i, rfl, rfl⟩
theorem RatV.one {z' : Rat} (r : RatV C H v z) (r' : RatV C H v z') : z = z' := by
  obtain ⟨a, dx, rfl, e⟩ := r
  obtain ⟨a', dx', e0, e'⟩ := r'
  cases e0
  rw [e] at e'
  have h := (HO.ins.inj (Option.some.inj e')).2.2
  have h1 : z.num = z'.num := V.int.inj (congrArg Prod.snd (List.cons.inj h).1)
  have h2 : ((z.den : Nat) : Int) = ((z'.den : Nat) : Int) := V.int.inj (congrArg Prod.snd (List.cons.inj (List.cons.inj h).2).1)
  exact Rat.ext h1 (by omega)
theorem RatV.to {z' : Rat} (r : RatV C H v z) (e : z = z') : RatV C H v z' := e ▸ r
theorem RatV.put {d : Addr} {ys : List V} {o : HO} (r : RatV C H v z) (hd : H d = some (.lst ys)) : RatV C (upd H d o) v z := by
  obtain ⟨a, dx, e, h⟩ := r
  refine ⟨a, dx, e, ?_⟩
  rw [upd_ne fun z => by rw [z, hd] at h; cases h]
  exact h
/-- what is kept but at x, which is no Ratio -/
theorem RatV.keep {G G' : Hp} {x : Addr} {o : HO} (r : RatV C G v z) (hx : G x = some o) (ne : ∀ dx z, ratO C dx z ≠ o) (k : ∀ b u, b ≠ x → G b = some u → G' b = some u) : RatV C G' v z := by
  obtain ⟨a, dx, e, h⟩ := r
  exact ⟨a, dx, e, k _ _ (fun w => by subst w; rw [hx] at h; exact ne _ _ (Option.some.inj h).symm) h⟩
end
theorem NumV.put {C : Addr} {H : Hp} {v : V} {z : Rat} {d : Addr} {ys : List V} {o : HO} (r : NumV C H v z) (hd : H d = some (.lst ys)) : NumV C (upd H d o) v z := r.imp id fun r => r.put hd
/-- a new Ratio on the heap -/
theorem madeV {C : Addr} {H : Hp} {x dx : Addr} (nx : H x = none) (nd : H dx = none) (ne : dx ≠ x) (z : Rat) :
    Same H (upd (upd (upd H dx (.own x)) x (.ins C dx [])) x (ratO C dx z)) ∧ RatV C (upd (upd (upd H dx (.own x)) x (.ins C dx [])) x (ratO C dx z)) (.ref x) z := by
  refine ⟨?_, x, dx, rfl, upd_same⟩
  rw [upd_upd]
  exact same_upd' (same_upd nd) nx
/-- a list or a tuple of these things -/
def SeqAt (H : Hp) (v : V) (xs : List V) : Prop := ∃ a, v = .ref a ∧ (H a = some (.lst xs) ∨ H a = some (.tup xs))
theorem SeqAt.same {H H' : Hp} {v : V} {xs : List V} (h : SeqAt H v xs) (s : Same H H') : SeqAt H' v xs := by
  obtain ⟨a, e, h⟩ := h
  exact ⟨a, e, h.imp (s a _) (s a _)⟩
def RatsV (C : Addr) (H : Hp) (xs : List V) (f : Nat → Rat) : Prop := ∀ k x, xs[k]? = some x → RatV C H x (f k)
def NumsV (C : Addr) (H : Hp) (xs : List V) (f : Nat → Rat) : Prop := ∀ k x, xs[k]? = some x → NumV C H x (f k)
theorem push_get {α : Type} {ys : List α} {y x : α} {k : Nat} (h : (ys ++ [y])[k]? = some x) : (k < ys.length ∧ ys[k]? = some x) ∨ (k = ys.length ∧ x = y) := by
  rcases Nat.lt_trichotomy k ys.length with e | e | e
  · rw [List.getElem?_append_left e] at h
    exact .inl ⟨e, h⟩
  · subst e
    rw [List.getElem?_append_right (Nat.le_refl _), Nat.sub_self] at h
    cases h
    exact .inr ⟨rfl, rfl⟩
  · rw [List.getElem?_append_right (Nat.le_of_lt e)] at h
    obtain ⟨j, hj⟩ : ∃ j, k - ys.length = j + 1 := ⟨k - ys.length - 1, by omega⟩
    rw [hj] at h
    simp at h
theorem get_lt {α : Type} {xs : List α} {k : Nat} {x : α} (h : xs[k]? = some x) : k < xs.length := (List.getElem?_eq_some_iff.mp h).1
theorem at_get {xs : List V} {k : Nat} {x : V} (h : xs[k]? = some x) : atI xs (0 + (k : Int)) = some x := by
  rw [Int.zero_add]
  exact atI_nat h
section
variable {C : Addr} {H H' : Hp} {xs : List V} {f : Nat → Rat}
theorem RatsV.same (h : RatsV C H xs f) (s : Same H H') : RatsV C H' xs f := fun k x e => (h k x e).same s
theorem NumsV.same (h : NumsV C H xs f) (s : Same H H') : NumsV C H' xs f := fun k x e => (h k x e).same s
theorem RatsV.nums (h : RatsV C H xs f) : NumsV C H xs f := fun k x e => .inr (h k x e)
theorem RatsV.nil : RatsV C H [] f := fun k x h => by simp at h
theorem NumsV.nil : NumsV C H [] f := fun k x h => by simp at h
theorem RatsV.push {d : Addr} {ys : List V} {y : V} {o : HO} (r : RatsV C H xs f) (hd : H d = some (.lst ys)) (hy : RatV C H y (f xs.length)) : RatsV C (upd H d o) (xs ++ [y]) f := fun k x h => by
  rcases push_get h with ⟨_, h1⟩ | ⟨rfl, rfl⟩
  · exact (r k x h1).put hd
  · exact hy.put hd
theorem NumsV.push {d : Addr} {ys : List V} {y : V} {o : HO} (r : NumsV C H xs f) (hd : H d = some (.lst ys)) (hy : NumV C H y (f xs.length)) : NumsV C (upd H d o) (xs ++ [y]) f := fun k x h => by
  rcases push_get h with ⟨_, h1⟩ | ⟨rfl, rfl⟩
  · exact (r k x h1).put hd
  · exact hy.put hd
theorem RatsV.to {g : Nat → Rat} (h : RatsV C H xs f) (e : ∀ k, k < xs.length → f k = g k) : RatsV C H xs g := fun k x hx => e k (get_lt hx) ▸ h k x hx
theorem NumsV.to {g : Nat → Rat} (h : NumsV C H xs f) (e : ∀ k, k < xs.length → f k = g k) : NumsV C H xs g := fun k x hx => e k (get_lt hx) ▸ h k x hx
theorem RatsV.take {s : Nat} (h : RatsV C H xs f) : RatsV C H (xs.take s) f := fun k x e => by
  rw [List.getElem?_take] at e
  split at e
  · exact h k x e
  · cases e
theorem RatsV.keep {x : Addr} {o : HO} (r : RatsV C H xs f) (hx : H x = some o) (ne : ∀ dx z, ratO C dx z ≠ o) (k : ∀ b u, b ≠ x → H b = some u → H' b = some u) : RatsV C H' xs f := fun j y e => (r j y e).keep hx ne k
end
theorem same_push {H1 H : Hp} {d : Addr} {o : HO} (s : Same H1 H) (hd : H1 d = none) : Same H1 (upd H d o) := fun b u h => by
  rw [upd_ne (ne_of_none h hd)]
  exact s _ _ h
theorem upd_but {H : Hp} {a : Addr} {o : HO} : ∀ b u, b ≠ a → H b = some u → upd H a o b = some u := fun b u hb h => by rw [upd_ne hb]; exact h
/-- a list that grows at d, i items so far, Ratios with the values g -/
def Gro (C : Addr) (H : Hp) (d : Addr) (g : Nat → Rat) (i : Nat) (G : Hp) : Prop := Same H G ∧ ∃ zs : List V, zs.length = i ∧ G d = some (.lst zs) ∧ RatsV C G zs g
theorem Gro.start {C : Addr} {H : Hp} {d : Addr} {g : Nat → Rat} (nd : H d = none) : Gro C H d g 0 (upd H d (.lst [])) := ⟨same_upd nd, [], rfl, upd_same, RatsV.nil⟩
theorem Gro.push {C : Addr} {H G G2 : Hp} {d : Addr} {g : Nat → Rat} {i : Nat} {v : V} (p : Gro C H d g i G) (nd : H d = none) (hi : i ≤ 1000) (s : Same G G2) (r : RatV C G2 v (g i)) :
    ∃ acc, G2 d = some (.lst acc) ∧ acc.length < sizeLine ∧ Gro C H d g (i + 1) (upd G2 d (.lst (acc ++ [v]))) := by
  obtain ⟨sm, zs, rfl, hd, hr⟩ := p
  have hd2 := s _ _ hd
  exact ⟨zs, hd2, small1000 hi, same_push (sm.trans s) nd, zs ++ [v], by rw [List.length_append]; rfl, upd_same, (hr.same s).push hd2 r⟩
/-- a list of ints that grows -/
def GroI (H : Hp) (d : Addr) (g : Nat → Int) (i : Nat) (G : Hp) : Prop := Same H G ∧ G d = some (.lst (((List.range i).map g).map V.int))
theorem GroI.start {H : Hp} {d : Addr} {g : Nat → Int} (nd : H d = none) : GroI H d g 0 (upd H d (.lst [])) := ⟨same_upd nd, upd_same⟩
theorem GroI.push {H G G2 : Hp} {d : Addr} {g : Nat → Int} {i : Nat} (p : GroI H d g i G) (nd : H d = none) (hi : i ≤ 1000) (s : Same G G2) :
    ∃ acc, G2 d = some (.lst acc) ∧ acc.length < sizeLine ∧ GroI H d g (i + 1) (upd G2 d (.lst (acc ++ [V.int (g i)]))) := by
  obtain ⟨sm, hd⟩ := p
  have hd2 := s _ _ hd
  refine ⟨_, hd2, by rw [List.length_map, List.length_map, List.length_range]; exact small1000 hi, same_push (sm.trans s) nd, ?_⟩
  rw [upd_same, List.range_succ, List.map_append, List.map_append]
  rfl
/-- the first n values of g as a list on the heap -/
abbrev intsO (g : Nat → Int) (n : Nat) : HO := .lst (((List.range n).map g).map V.int)
theorem ints_at {g : Nat → Int} {n k : Nat} (h : k < n) : (((List.range n).map g).map V.int)[k]? = some (V.int (g k)) := by
  rw [List.getElem?_map, List.getElem?_map, List.getElem?_range h]
  rfl
theorem ints_len {g : Nat → Int} {n : Nat} : (((List.range n).map g).map V.int).length = n := by
  rw [List.length_map, List.length_map, List.length_range]
theorem ints_get {g : Nat → Int} {n k : Nat} (h : k < n) : atI (((List.range n).map g).map V.int) (0 + (k : Int)) = some (V.int (g k)) := at_get (ints_at h)
end MoL

/-! # Walks over a list or a tuple, the law's feed, lists of pairs -/
namespace MoL
open PySem PySem.Spec PyProof.Rows L2 MoW
section
variable {K : PySem.W.Frag}
theorem kit_seq {K : PySem.W.Frag} {H : Hp} {a : Addr} {xs : List V} (h : H a = some (.lst xs) ∨ H a = some (.tup xs)) : ∃ t, TyX K H (.ref a) t ∧ PySem.W.kitAny K t [.type "list", .type "tuple"] = some true := by
  rcases h with h | h
  · exact ⟨_, .base (.lst h), kitAny_cons (b := true) (kit_ty (by decide +kernel)) (fun z => nomatch z) fun _ => rfl⟩
  · exact ⟨_, .base (.tup h), kitAny_cons (b := false) (kit_ty (by decide +kernel)) (fun _ => kitAny_cons (b := true) (kit_ty (by decide +kernel)) (fun z => nomatch z) fun _ => rfl) (fun z => nomatch z)⟩
/-! ### walks over a list or a tuple -/
theorem for_seq {tl tl' : TE} {a : Addr} {xs : List V} {g : TG} {tb : TS} {D : Ends} {σ : L2.St} {H : Hp} (ha : H a = some (.lst xs) ∨ H a = some (.tup xs)) (h1 : ∀ R : VK, R (.ref a) H → tl σ H R) (h2 : ∀ R : VK, R (.ref a) H → tl' σ H R)
    (Pv : Nat → L2.St → Hp → Prop) (h0 : Pv 0 σ H) (hk : ∀ (i : Nat) (σ : L2.St) (G : Hp), i ≤ xs.length → Pv i σ G → Same H G)
    (step : ∀ (i : Nat) (x : V) (σ : L2.St) (G : Hp), xs[i]? = some x → Pv i σ G → g x σ G fun σ2 H2 => tb { nx := Pv (i + 1), rt := D.rt, bk := D.nx, ct := Pv (i + 1) } σ2 H2)
    (done : ∀ (σ : L2.St) (G : Hp), Pv xs.length σ G → D.nx σ G) : tFor (fun σ H R => iList K tl σ H R ∨ iTup K tl' σ H R) g tb D σ H := by
  rcases ha with h | h
  · exact .inl (h1 _ ⟨a, rfl, ⟨xs, .of h⟩, for_list Pv h0 (fun i σ G hi p => .of (hk i σ G hi p _ _ h)) step done⟩)
  · exact .inr (h2 _ ⟨a, rfl, ⟨xs, .of h⟩, for_tup Pv h0 (fun i σ G hi p => .of (hk i σ G hi p _ _ h)) step done⟩)
/-- what a comprehension asks of a walk -/
abbrev lcR (g : TG) (tt : TT) (te : TE) (vs : List Nat) (σ : L2.St) (Qd : Addr → Hp → Prop) : It → Hp → Prop := fun J H1 => ∀ (D : Addr), H1 D = none → ∃ W : Nat → Nat → Hp → Prop, (∃ m, W 0 m (upd H1 D (.lst []))) ∧ ∀ (i m : Nat) (H : Hp), W i m H →
  J.stop i H ∧ Qd D H ∨ J.go i H ∧ ∃ Nx : Hp → Prop, (∀ H' : Hp, Nx H' → ∃ m', m' < m ∧ W (i + 1) m' H') ∧ ∀ (x : V) (H' : Hp), J.yld i H x H' → g x (wipe σ vs) H' fun σ2 H2 => wipe σ2 vs = wipe σ vs ∧ tt σ2 H2 fun b H3 => if b = true then te σ2 H3 fun y H4 => ∃ acc, H4 D = some (.lst acc) ∧ acc.length < sizeLine ∧ Nx (upd H4 D (.lst (acc ++ [y]))) else Nx H3
theorem lc_seq {tl tl' : TE} {a : Addr} {xs : List V} {g : TG} {tt : TT} {te : TE} {vs : List Nat} {σ : L2.St} {H : Hp} {Qd : Addr → Hp → Prop} (ha : H a = some (.lst xs) ∨ H a = some (.tup xs)) (h1 : ∀ R : VK, R (.ref a) H → tl σ H R) (h2 : ∀ R : VK, R (.ref a) H → tl' σ H R)
    (Pv : Addr → Nat → Hp → Prop) (h0 : ∀ D, H D = none → Pv D 0 (upd H D (.lst []))) (hk : ∀ (D : Addr) (i : Nat) (G : Hp), i ≤ xs.length → Pv D i G → Same H G)
    (step : ∀ (D : Addr) (i : Nat) (x : V) (G : Hp), H D = none → xs[i]? = some x → Pv D i G → g x (wipe σ vs) G fun σ2 H2 => wipe σ2 vs = wipe σ vs ∧ tt σ2 H2 fun b H3 => if b = true then te σ2 H3 fun y H4 => ∃ acc, H4 D = some (.lst acc) ∧ acc.length < sizeLine ∧ Pv D (i + 1) (upd H4 D (.lst (acc ++ [y]))) else Pv D (i + 1) H3)
    (done : ∀ (D : Addr) (G : Hp), H D = none → Pv D xs.length G → Qd D G) : iList K tl σ H (lcR g tt te vs σ Qd) ∨ iTup K tl' σ H (lcR g tt te vs σ Qd) := by
  rcases ha with h | h
  · exact .inl (h1 _ ⟨a, rfl, ⟨xs, .of h⟩, fun D nd => lc_list (Pv D) (h0 D nd) (fun i G hi p => .of (hk D i G hi p _ _ h)) (fun i x G hx p => step D i x G nd hx p) (fun G p => done D G nd p)⟩)
  · exact .inr (h2 _ ⟨a, rfl, ⟨xs, .of h⟩, fun D nd => lc_tup (Pv D) (h0 D nd) (fun i G hi p => .of (hk D i G hi p _ _ h)) (fun i x G hx p => step D i x G nd hx p) (fun G p => done D G nd p)⟩)
theorem cut_drop (xs : List V) (k : Nat) (h : k ≤ xs.length) : cutV xs (some (k : Int)) none = xs.drop k := by
  unfold cutV
  have e1 : HT.sIx xs.length xs.length none = xs.length := rfl
  have e2 : HT.sIx xs.length 0 (some (k : Int)) = k := by
    show (if (k : Int) < 0 then ((k : Int) + (xs.length : Int)).toNat else min (k : Int).toNat xs.length) = _
    rw [if_neg (by omega)]
    omega
  rw [e1, e2]
  exact List.take_of_length_le (by rw [List.length_drop]; omega)
theorem rep_flat {x : V} : ∀ n : Nat, (List.replicate n [x]).flatten = List.replicate n x
  | 0 => rfl
  | n + 1 => by rw [List.replicate_succ, List.flatten_cons, rep_flat n, List.replicate_succ]; rfl
/-! ### the law's drawing of numbers -/
/-- the six places of the feed at f -/
abbrev six (l : Addr) (i r t n s : Int) : HO := .lst [.ref l, .int i, .int r, .int t, .int n, .int s]
def FeedAt (H : Hp) (f : Addr) : Prop := ∃ (l : Addr) (xs : List Int) (i : Nat) (r t n s : Int), H f = some (six l i r t n s) ∧ H l = some (.lst (xs.map V.int)) ∧ i ≤ xs.length ∧ xs.length ≤ 63 ∧ 0 ≤ r
/-- from H to H' only the feed has moved on, and new things have come -/
structure Stp (f : Addr) (H H' : Hp) : Prop where
  feed : FeedAt H' f
  keep : ∀ b o, b ≠ f → H b = some o → H' b = some o
  ls : ∀ l i r t n s, H f = some (six l i r t n s) → ∃ i' r' t' n' s', H' f = some (six l i' r' t' n' s')
theorem FeedAt.same {H H' : Hp} {f : Addr} (h : FeedAt H f) (s : Same H H') : FeedAt H' f := by
  obtain ⟨l, xs, i, r, t, n, z, h1, h2, h3⟩ := h
  exact ⟨l, xs, i, r, t, n, z, s _ _ h1, s _ _ h2, h3⟩
theorem Stp.refl {H : Hp} {f : Addr} (h : FeedAt H f) : Stp f H H := ⟨h, fun _ _ _ e => e, fun _ _ _ _ _ _ e => ⟨_, _, _, _, _, e⟩⟩
theorem Stp.trans {H H1 H2 : Hp} {f : Addr} (a : Stp f H H1) (b : Stp f H1 H2) : Stp f H H2 := ⟨b.feed, fun c o n e => b.keep c o n (a.keep c o n e), fun _ _ _ _ _ _ e => let ⟨_, _, _, _, _, e1⟩ := a.ls _ _ _ _ _ _ e; b.ls _ _ _ _ _ _ e1⟩
theorem Stp.of {H H1 H2 : Hp} {f : Addr} (a : Stp f H H1) (b : Same H1 H2) : Stp f H H2 := ⟨a.feed.same b, fun c o n e => b c o (a.keep c o n e), fun _ _ _ _ _ _ e => let ⟨i', r', t', n', s', e1⟩ := a.ls _ _ _ _ _ _ e; ⟨i', r', t', n', s', b _ _ e1⟩⟩
theorem FeedAt.ne {H : Hp} {f p : Addr} {o : HO} (h : FeedAt H f) (hp : H p = some o) (d : ∀ l i r t n s, six l i r t n s ≠ o) : p ≠ f := by
  obtain ⟨l, xs, i, r, t, n, z, h1, _⟩ := h
  exact ne_of hp h1 fun e => d _ _ _ _ _ _ e.symm
theorem FeedAt.lt {H : Hp} {f p : Addr} (h : FeedAt H f) (hp : H p = none) : f ≠ p := by
  obtain ⟨l, xs, i, r, t, n, z, h1, _⟩ := h
  exact ne_of_none h1 hp

theorem stp_none {H H1 : Hp} {f p : Addr} (st : Stp f H H1) (ne : p ≠ f) (h : H1 p = none) : H p = none := by
  cases e : H p with
  | none => rfl
  | some o => rw [st.keep p o ne e] at h; cases h
theorem Stp.push {H G : Hp} {f d : Addr} {o : HO} (st : Stp f H G) (F : FeedAt H f) (hd : H d = none) (hf : d ≠ f) : Stp f H (upd G d o) := by
  obtain ⟨l0, xs0, i0, r0, t0, n0, z0, e1, e2, _⟩ := F
  obtain ⟨i', r', t', n', s', e3⟩ := st.ls _ _ _ _ _ _ e1
  obtain ⟨l, xs, i, r, t, n, z, h1, h2, h3⟩ := st.feed
  rw [e3] at h1
  have el : l0 = l := by
    have := HO.lst.inj (Option.some.inj h1)
    cases this
    rfl
  subst el
  have dl : l0 ≠ d := fun z => by rw [z, hd] at e2; cases e2
  refine ⟨⟨l0, xs, i, r, t, n, z, ?_, ?_, h3⟩, fun b u hb e => ?_, fun l i r t n s e => ?_⟩
  · rw [upd_ne (Ne.symm hf), e3]
    exact h1
  · rw [upd_ne dl]
    exact h2
  · have : b ≠ d := fun z => by rw [z, hd] at e; cases e
    rw [upd_ne this]
    exact st.keep b u hb e
  · obtain ⟨i2, r2, t2, n2, s2, e4⟩ := st.ls _ _ _ _ _ _ e
    exact ⟨i2, r2, t2, n2, s2, by rw [upd_ne (Ne.symm hf)]; exact e4⟩
/-- the feed at f with these five, the rest as in H -/
structure Now (H H' : Hp) (f l : Addr) (i r t n s : Int) : Prop where
  at_ : H' f = some (six l i r t n s)
  oth : ∀ b, b ≠ f → H' b = H b
theorem Now.put {H H' : Hp} {f l : Addr} {i r t n s i' r' t' n' s' : Int} (h : Now H H' f l i r t n s) : Now H (upd H' f (six l i' r' t' n' s')) f l i' r' t' n' s' :=
  ⟨upd_same, fun b hb => by rw [upd_ne hb]; exact h.oth b hb⟩
theorem fdiv_nn {a b : Int} (h : 0 ≤ a) (h' : 0 < b) : 0 ≤ a.fdiv b := by
  rw [Int.fdiv_eq_ediv_of_nonneg a (by omega)]
  exact Int.ediv_nonneg h (by omega)
theorem lt_mod : (0 : Int) < 2147483647 := by decide
theorem lt_mod' : (0 : Int) < 2147483399 := by decide
/-! ### pairs, rows -/
abbrev two (x y : Int) : HO := .lst [.int x, .int y]
/-- these lists hold the pairs F 0, F 1, .. -/
def Prsd (H : Hp) (rs : List Addr) (F : Nat → Int × Int) : Prop := ∀ k r, rs[k]? = some r → H r = some (two (F k).1 (F k).2)
def PairsAt (H : Hp) (v : V) (n : Nat) (F : Nat → Int × Int) : Prop := ∃ a rs, v = .ref a ∧ H a = some (.lst (rs.map V.ref)) ∧ rs.length = n ∧ Prsd H rs F
theorem Prsd.same {H H' : Hp} {rs : List Addr} {F : Nat → Int × Int} (h : Prsd H rs F) (s : Same H H') : Prsd H' rs F := fun k r e => s _ _ (h k r e)
theorem PairsAt.same {H H' : Hp} {v : V} {n : Nat} {F : Nat → Int × Int} (h : PairsAt H v n F) (s : Same H H') : PairsAt H' v n F := by
  obtain ⟨a, rs, e, h, l, p⟩ := h
  exact ⟨a, rs, e, s _ _ h, l, p.same s⟩
theorem Prsd.nil {H : Hp} {F : Nat → Int × Int} : Prsd H [] F := fun k r h => by simp at h
theorem Prsd.push {H : Hp} {d r : Addr} {rs : List Addr} {F : Nat → Int × Int} {zs : List V} (h : Prsd H rs F) (hr : H r = some (two (F rs.length).1 (F rs.length).2)) (hd : H d = some (.lst (rs.map V.ref))) : Prsd (upd H d (.lst zs)) (rs ++ [r]) F := by
  have ne : ∀ {k : Nat} {x : Addr}, H x = some (two (F k).1 (F k).2) → x ≠ d := fun {k x} hx z => by
    rw [z, hd] at hx
    cases rs with
    | nil => cases hx
    | cons a rs => cases hx
  intro k x hx
  rcases push_get hx with ⟨_, h1⟩ | ⟨rfl, rfl⟩
  · rw [upd_ne (ne (h k x h1))]
    exact h k x h1
  · rw [upd_ne (ne hr)]
    exact hr
theorem pr_get {rs : List Addr} {k : Nat} (h : k < rs.length) : ∃ r, rs[k]? = some r ∧ (rs.map V.ref)[k]? = some (.ref r) := by
  refine ⟨rs[k], List.getElem?_eq_getElem h, ?_⟩
  rw [List.getElem?_map, List.getElem?_eq_getElem h]
  rfl
theorem PairsAt.stp {G G' : Hp} {f : Addr} {v : V} {n : Nat} {F : Nat → Int × Int} (h : PairsAt G v n F) (hF : FeedAt G f) (s : Stp f G G') : PairsAt G' v n F := by
  obtain ⟨a, rs, e, h1, l, p⟩ := h
  refine ⟨a, rs, e, s.keep _ _ (hF.ne h1 fun l i r t n s z => ?_) h1, l, fun k r e => s.keep _ _ (hF.ne (p k r e) fun _ _ _ _ _ _ w => by cases w) (p k r e)⟩
  cases rs with
  | nil => cases z
  | cons x rs =>
    cases rs with
    | nil => cases z
    | cons y rs => cases z
theorem Prsd.stp {G G' : Hp} {f : Addr} {rs : List Addr} {F : Nat → Int × Int} (h : Prsd G rs F) (hF : FeedAt G f) (s : Stp f G G') : Prsd G' rs F := fun k r e => s.keep _ _ (hF.ne (h k r e) fun _ _ _ _ _ _ w => by cases w) (h k r e)
/-- the pairs of a list, (0, 1) behind it -/
def LF (L : List (Int × Int)) : Nat → Int × Int := fun k => L.getD k (0, 1)
def Drw (n m : Nat) (L : List (Int × Int)) : Prop := ∀ x ∈ L, 0 < x.2 ∧ x.1.natAbs < 2 ^ n ∧ x.2.natAbs < 2 ^ m
theorem LF_in {L : List (Int × Int)} {k : Nat} (h : k < L.length) : LF L k = L[k] := by
  show L.getD k (0, 1) = _
  rw [List.getD_eq_getElem?_getD, List.getElem?_eq_getElem h]
  rfl
theorem LF_out {L : List (Int × Int)} {k : Nat} (h : L.length ≤ k) : LF L k = (0, 1) := by
  show L.getD k (0, 1) = _
  rw [List.getD_eq_getElem?_getD, List.getElem?_eq_none h]
  rfl
theorem LF_ok {n m : Nat} {L : List (Int × Int)} (h : Drw n m L) (hm : 1 ≤ m) (k : Nat) : 0 < (LF L k).2 ∧ (LF L k).1.natAbs < 2 ^ n ∧ (LF L k).2.natAbs < 2 ^ m := by
  rcases Nat.lt_or_ge k L.length with e | e
  · rw [LF_in e]
    exact h _ (List.getElem_mem e)
  · rw [LF_out e]
    exact ⟨by decide, Nat.two_pow_pos _, Nat.one_lt_two_pow (by omega)⟩
theorem LF_app {L : List (Int × Int)} {x : Int × Int} {k : Nat} (h : k < L.length) : LF (L ++ [x]) k = LF L k := by
  rw [LF_in h, LF_in (show k < (L ++ [x]).length by rw [List.length_append]; omega), List.getElem_append_left h]
theorem LF_last {L : List (Int × Int)} {x : Int × Int} : LF (L ++ [x]) L.length = x := by
  rw [LF_in (show L.length < (L ++ [x]).length by rw [List.length_append]; show L.length < L.length + 1; omega), List.getElem_append_right (Nat.le_refl _)]
  simp
theorem Prsd.app {H : Hp} {rs : List Addr} {L : List (Int × Int)} {x : Int × Int} (h : Prsd H rs (LF L)) (hl : rs.length ≤ L.length) : Prsd H rs (LF (L ++ [x])) := fun k r e => by
  have := (List.getElem?_eq_some_iff.mp e).1
  rw [LF_app (by omega)]
  exact h k r e
theorem Drw.app {n m : Nat} {L : List (Int × Int)} {x : Int × Int} (h : Drw n m L) (hx : 0 < x.2 ∧ x.1.natAbs < 2 ^ n ∧ x.2.natAbs < 2 ^ m) : Drw n m (L ++ [x]) := fun y hy => by
  rcases List.mem_append.mp hy with e | e
  · exact h y e
  · cases List.mem_singleton.mp e
    exact hx

theorem RatV.stp {C : Addr} {G G' : Hp} {f : Addr} {v : V} {z : Rat} (F : FeedAt G f) (s : Stp f G G') (r : RatV C G v z) : RatV C G' v z := by
  obtain ⟨a, dx, e, h⟩ := r
  exact ⟨a, dx, e, s.keep _ _ (F.ne h fun _ _ _ _ _ _ w => by cases w) h⟩
theorem NumV.stp {C : Addr} {G G' : Hp} {f : Addr} {v : V} {z : Rat} (F : FeedAt G f) (s : Stp f G G') (r : NumV C G v z) : NumV C G' v z := r.imp id fun r => r.stp F s
theorem RatsV.stp {C : Addr} {G G' : Hp} {f : Addr} {xs : List V} {g : Nat → Rat} (h : RatsV C G xs g) (F : FeedAt G f) (s : Stp f G G') : RatsV C G' xs g := fun k x e => (h k x e).stp F s
theorem NumsV.stp {C : Addr} {G G' : Hp} {f : Addr} {xs : List V} {g : Nat → Rat} (h : NumsV C G xs g) (F : FeedAt G f) (s : Stp f G G') : NumsV C G' xs g := fun k x e => (h k x e).stp F s
theorem rats_ne {C : Addr} {G : Hp} {f d : Addr} {xs : List V} {g : Nat → Rat} (h : RatsV C G xs g) (hF : FeedAt G f) (hd : G d = some (.lst xs)) : d ≠ f := hF.ne hd fun l i r t n s z => by
  have e := HO.lst.inj z
  subst e
  obtain ⟨a, dx, fs, e, _⟩ := (h 1 (.int i) rfl).ins
  cases e
end
end MoL

/-! # while by a number that rises, quotients, the last item -/
namespace MoL
open PySem PySem.Spec PyProof.Rows L2 MoW
theorem over_q {x y : Rat} (h : y ≠ 0) : (x / y) * (((x.den : Int) * y.num : Int) : Rat) = ((x.num * (y.den : Int) : Int) : Rat) := by
  rw [Rat.intCast_mul, Rat.intCast_mul, num_is, num_is]
  grind
theorem Bd.over {n m n' m' : Nat} {x y : Rat} (h : y ≠ 0) (a : Bd n m x) (b : Bd n' m' y) : Bd (n + m') (m + n') (x / y) :=
  .of (Int.mul_ne_zero (by have := den_pos x; omega) (num_ne h)) (over_q h) (nmul a.top b.d) (nmul a.d b.top)
abbrev upW (n : Nat) (Pv : Nat → L2.St → Hp → Prop) : Nat → L2.St → Hp → Prop := fun m σ H => ∃ j, m = n - j ∧ j ≤ n ∧ Pv j σ H
theorem while_up {c : TT} {tb : TS} {E : Ends} {σ : L2.St} {H : Hp} (n : Nat) (Pv : Nat → L2.St → Hp → Prop) (h0 : Pv 0 σ H)
    (hs : ∀ j σ H, j ≤ n → Pv j σ H → c σ H fun b H1 => if b = true then ∃ N : L2.St → Hp → Prop, (∀ σ' H', N σ' H' → ∃ m', m' < n - j ∧ upW n Pv m' σ' H') ∧ tb { E with nx := N, ct := N, bk := E.nx } σ H1 else E.nx σ H1) : tWhile c tb E σ H := by
  refine ⟨upW n Pv, ⟨n, 0, rfl, Nat.zero_le _, h0⟩, ?_⟩
  rintro m σ H ⟨j, rfl, hj, p⟩
  exact hs j σ H hj p
theorem up_next {n j : Nat} {Pv : Nat → L2.St → Hp → Prop} (h : j < n) : ∀ σ' H', Pv (j + 1) σ' H' → ∃ m', m' < n - j ∧ upW n Pv m' σ' H' := fun σ' H' p => ⟨n - (j + 1), by omega, j + 1, rfl, h, p⟩
theorem RatsV.upd {C : Addr} {H : Hp} {ys zs : List V} {f : Nat → Rat} {d : Addr} {o : HO} (h : RatsV C H ys f) (hd : H d = some (.lst zs)) : RatsV C (upd H d o) ys f := fun k x e => (h k x e).put hd
theorem at_last {xs : List V} {j : Nat} {v : V} (h : xs.length = j + 1) (hx : xs[j]? = some v) : atI xs (-1) = some v := by
  have e : ixN xs.length (-1) = some j := by
    unfold ixN
    rw [h, if_neg (by decide), if_pos (by omega)]
    congr 1
    omega
  unfold atI
  rw [e]
  exact hx
end MoL

/-! # Finite sums of fractions, rows of lots, tuples of two ints -/
namespace MoL
open PySem PySem.Spec PyProof.Rows L2 MoW
def sumR (f : Nat → Rat) : Nat → Rat
  | 0 => 0
  | n + 1 => sumR f n + f n
section
variable {f g : Nat → Rat} {n m : Nat}
theorem sumR_congr : ∀ {n : Nat}, (∀ k, k < n → f k = g k) → sumR f n = sumR g n
  | 0, _ => rfl
  | n + 1, h => by
    show sumR f n + f n = sumR g n + g n
    rw [sumR_congr (n := n) fun k hk => h k (by omega), h n (by omega)]
theorem sumR_add : ∀ n, sumR (fun k => f k + g k) n = sumR f n + sumR g n
  | 0 => by show (0 : Rat) = 0 + 0; grind
  | n + 1 => by
    show sumR (fun k => f k + g k) n + (f n + g n) = sumR f n + f n + (sumR g n + g n)
    rw [sumR_add n]
    grind
theorem sumR_sub : ∀ n, sumR (fun k => f k - g k) n = sumR f n - sumR g n
  | 0 => by show (0 : Rat) = 0 - 0; grind
  | n + 1 => by
    show sumR (fun k => f k - g k) n + (f n - g n) = sumR f n + f n - (sumR g n + g n)
    rw [sumR_sub n]
    grind
theorem sumR_mul (c : Rat) : ∀ n, sumR (fun k => c * f k) n = c * sumR f n
  | 0 => by show (0 : Rat) = c * 0; grind
  | n + 1 => by
    show sumR (fun k => c * f k) n + c * f n = c * (sumR f n + f n)
    rw [sumR_mul c n]
    grind
theorem sumR_mulr (c : Rat) : ∀ n, sumR (fun k => f k * c) n = sumR f n * c
  | 0 => by show (0 : Rat) = 0 * c; grind
  | n + 1 => by
    show sumR (fun k => f k * c) n + f n * c = (sumR f n + f n) * c
    rw [sumR_mulr c n]
    grind
theorem sumR_zero : ∀ {n : Nat}, (∀ k, k < n → f k = 0) → sumR f n = 0
  | 0, _ => rfl
  | n + 1, h => by
    show sumR f n + f n = 0
    rw [sumR_zero (n := n) fun k hk => h k (by omega), h n (by omega)]
    grind
theorem sumR_head : ∀ n, sumR f (n + 1) = f 0 + sumR (fun k => f (k + 1)) n
  | 0 => by show (0 : Rat) + f 0 = f 0 + 0; grind
  | n + 1 => by
    show sumR f (n + 1) + f (n + 1) = f 0 + (sumR (fun k => f (k + 1)) n + f (n + 1))
    rw [sumR_head n]
    grind
theorem sumR_more : ∀ (d : Nat), (∀ k, n ≤ k → k < n + d → f k = 0) → sumR f (n + d) = sumR f n
  | 0, _ => rfl
  | d + 1, h => by
    show sumR f (n + d) + f (n + d) = sumR f n
    rw [sumR_more d fun k h1 h2 => h k h1 (by omega), h (n + d) (by omega) (by omega)]
    grind
theorem sumR_swap (F : Nat → Nat → Rat) : ∀ n, sumR (fun i => sumR (F i) m) n = sumR (fun j => sumR (fun i => F i j) n) m
  | 0 => (sumR_zero fun _ _ => rfl).symm
  | n + 1 => by
    show sumR (fun i => sumR (F i) m) n + sumR (F n) m = sumR (fun j => sumR (fun i => F i j) n + F n j) m
    rw [sumR_swap F n, ← sumR_add]
theorem sumR_nonneg : ∀ {n : Nat}, (∀ k, k < n → 0 ≤ f k) → 0 ≤ sumR f n
  | 0, _ => Rat.le_refl
  | n + 1, h => Rat.add_nonneg (sumR_nonneg fun k hk => h k (by omega)) (h n (by omega))
end
/-- a sum of ints, as fractions -/
theorem sum_R : ∀ (xs : List Int), ((xs.sum : Int) : Rat) = sumR (fun k => ((xs.getD k 0 : Int) : Rat)) xs.length
  | [] => rfl
  | x :: xs => by
    rw [List.sum_cons, Rat.intCast_add, List.length_cons, sumR_head, sum_R xs]
    rfl
theorem pow_mul_R (x y : Rat) : ∀ n : Nat, (x * y) ^ n = x ^ n * y ^ n
  | 0 => by rw [Rat.pow_zero, Rat.pow_zero, Rat.pow_zero]; grind
  | n + 1 => by rw [Rat.pow_succ, Rat.pow_succ, Rat.pow_succ, pow_mul_R x y n]; grind
theorem pow_ne_R {x : Rat} (h : x ≠ 0) : ∀ n : Nat, x ^ n ≠ 0
  | 0 => by rw [Rat.pow_zero]; decide
  | n + 1 => by
    rw [Rat.pow_succ]
    intro z
    have := pow_ne_R h n
    grind
theorem div_pow_R {x y : Rat} (h : y ≠ 0) (n : Nat) : (x / y) ^ n * y ^ n = x ^ n := by
  rw [← pow_mul_R]
  congr 1
  grind
/-! ### means of rows of lots -/
/-- the row of the points x with the weights w -/
def lotF (w x : Nat → Rat) (n : Nat) (k : Nat) : Rat := sumR (fun j => w j * x j ^ k) n
/-- differences of neighbours, k times -/
def dfF (f : Nat → Rat) : Nat → Nat → Rat
  | 0, i => f i
  | k + 1, i => dfF f k i - dfF f k (i + 1)
theorem dfF_congr {f g : Nat → Rat} : ∀ (k i : Nat), (∀ j, i ≤ j → j ≤ i + k → f j = g j) → dfF f k i = dfF g k i
  | 0, i, h => h i (Nat.le_refl _) (Nat.le_refl _)
  | k + 1, i, h => by
    show dfF f k i - dfF f k (i + 1) = dfF g k i - dfF g k (i + 1)
    rw [dfF_congr k i fun j h1 h2 => h j h1 (by omega), dfF_congr k (i + 1) fun j h1 h2 => h j (by omega) (by omega)]
theorem dfF_lot (w x : Nat → Rat) (n : Nat) : ∀ k i, dfF (lotF w x n) k i = sumR (fun j => w j * x j ^ i * (1 - x j) ^ k) n
  | 0, i => sumR_congr fun j _ => by rw [Rat.pow_zero]; grind
  | k + 1, i => by
    show dfF (lotF w x n) k i - dfF (lotF w x n) k (i + 1) = _
    rw [dfF_lot w x n k i, dfF_lot w x n k (i + 1), ← sumR_sub]
    refine sumR_congr fun j _ => ?_
    rw [Rat.pow_succ, Rat.pow_succ]
    grind
theorem dfF_nonneg {w x : Nat → Rat} {n : Nat} (hw : ∀ j, j < n → 0 ≤ w j) (hx : ∀ j, j < n → 0 ≤ x j ∧ x j ≤ 1) (k i : Nat) : 0 ≤ dfF (lotF w x n) k i := by
  rw [dfF_lot]
  refine sumR_nonneg fun j hj => Rat.mul_nonneg (Rat.mul_nonneg (hw j hj) (Rat.pow_nonneg (hx j hj).1)) (Rat.pow_nonneg ?_)
  have := (hx j hj).2
  grind
/-- in turn j: the means of (x + c) ** j * x ** k -/
def mvL (f : Nat → Rat) (c : Rat) : Nat → Nat → Rat
  | 0, k => f k
  | j + 1, k => mvL f c j (k + 1) + mvL f c j k * c
def mvF (f : Nat → Rat) (c : Rat) (j : Nat) : Rat := mvL f c j 0
theorem mvL_congr {f g : Nat → Rat} {c : Rat} : ∀ (j k : Nat), (∀ i, k ≤ i → i ≤ k + j → f i = g i) → mvL f c j k = mvL g c j k
  | 0, k, h => h k (Nat.le_refl _) (Nat.le_refl _)
  | j + 1, k, h => by
    show mvL f c j (k + 1) + mvL f c j k * c = mvL g c j (k + 1) + mvL g c j k * c
    rw [mvL_congr j k fun i h1 h2 => h i h1 (by omega), mvL_congr j (k + 1) fun i h1 h2 => h i (by omega) (by omega)]
theorem mvF_congr {f g : Nat → Rat} {c : Rat} (j : Nat) (h : ∀ i, i ≤ j → f i = g i) : mvF f c j = mvF g c j := mvL_congr j 0 fun i _ h2 => h i (by omega)
theorem mvL_lot (w x : Nat → Rat) (n : Nat) (c : Rat) : ∀ j k, mvL (lotF w x n) c j k = sumR (fun i => w i * (x i + c) ^ j * x i ^ k) n
  | 0, k => sumR_congr fun i _ => by rw [Rat.pow_zero]; grind
  | j + 1, k => by
    show mvL (lotF w x n) c j (k + 1) + mvL (lotF w x n) c j k * c = _
    rw [mvL_lot w x n c j k, mvL_lot w x n c j (k + 1), ← sumR_mulr, ← sumR_add]
    refine sumR_congr fun i _ => ?_
    rw [Rat.pow_succ, Rat.pow_succ]
    grind
theorem mvF_lot (w x : Nat → Rat) (n : Nat) (c : Rat) (j : Nat) : mvF (lotF w x n) c j = lotF w (fun i => x i + c) n j := by
  show mvL _ _ j 0 = _
  rw [mvL_lot]
  exact sumR_congr fun i _ => by rw [Rat.pow_zero]; grind
theorem mv_step {a b : Int} {x y B c : Rat} (h1 : (a : Rat) = x * B) (h2 : (b : Rat) = y * B) : ((a * (c.den : Int) + b * c.num : Int) : Rat) = (x + y * c) * (B * ((c.den : Int) : Rat)) := by
  rw [Rat.intCast_add, Rat.intCast_mul, Rat.intCast_mul, h1, h2, num_is]
  grind
/-! ### the sums of powers of ints -/
/-- the weights times the k-th powers of the points -/
def powl (ts ps : List Int) (k : Nat) : List Int := List.zipWith (fun p t => p * t ^ k) ps ts
theorem powl_len {ts ps : List Int} (hl : ts.length = ps.length) (k : Nat) : (powl ts ps k).length = ts.length := by
  show (List.zipWith _ _ _).length = _
  rw [List.length_zipWith]
  omega
theorem powl_get {ts ps : List Int} (hl : ts.length = ps.length) {k j : Nat} (hj : j < ts.length) : (powl ts ps k)[j]? = some (ps.getD j 0 * ts.getD j 0 ^ k) := by
  show (List.zipWith _ _ _)[j]? = _
  rw [List.getElem?_zipWith, List.getD_eq_getElem?_getD, List.getD_eq_getElem?_getD, List.getElem?_eq_getElem hj, List.getElem?_eq_getElem (show j < ps.length by omega)]
  rfl
theorem powl_zero {ts ps : List Int} (hl : ts.length = ps.length) : powl ts ps 0 = ps := by
  refine List.ext_getElem? fun j => ?_
  by_cases hj : j < ts.length
  · rw [powl_get hl hj, Int.pow_zero, Int.mul_one, List.getD_eq_getElem?_getD, List.getElem?_eq_getElem (show j < ps.length by omega)]
    rfl
  · rw [List.getElem?_eq_none (by rw [powl_len hl]; omega), List.getElem?_eq_none (by omega)]
theorem lot_ring (p t c d : Rat) (hd : d ≠ 0) : p / d * t * (d * c) = p * (t * c) := by grind
theorem powl_lot {ts ps : List Int} (hl : ts.length = ps.length) {u b : Int} (hu : u ≠ 0) (hb : b ≠ 0) (k : Nat) :
    qv ((powl ts ps k).sum, u * b ^ k) = lotF (fun j => ((ps.getD j 0 : Int) : Rat) / (u : Rat)) (fun j => ((ts.getD j 0 : Int) : Rat) / (b : Rat)) ts.length k := by
  have hq : u * b ^ k ≠ 0 := Int.mul_ne_zero hu (Int.pow_ne_zero hb)
  refine div_eq hq ?_
  show lotF _ _ _ k * ((u * b ^ k : Int) : Rat) = _
  rw [sum_R, powl_len hl, Rat.intCast_mul, Rat.intCast_pow]
  show sumR _ _ * _ = _
  rw [← sumR_mulr]
  refine sumR_congr fun j hj => ?_
  have e : (powl ts ps k).getD j 0 = ps.getD j 0 * ts.getD j 0 ^ k := by
    rw [List.getD_eq_getElem?_getD, powl_get hl hj]
    rfl
  have hu' := ine u hu
  have hb' := ine b hb
  have h3 := div_pow_R (x := ((ts.getD j 0 : Int) : Rat)) hb' k
  rw [e, Rat.intCast_mul, Rat.intCast_pow, ← h3]
  exact lot_ring _ _ _ _ hu'
/-! ### tuples of two ints -/
abbrev tup2 (x y : Int) : HO := .tup [.int x, .int y]
/-- these tuples hold the pairs F 0, F 1, .. -/
def Tups (H : Hp) (rs : List Addr) (F : Nat → Int × Int) : Prop := ∀ k r, rs[k]? = some r → H r = some (tup2 (F k).1 (F k).2)
def TupsAt (H : Hp) (v : V) (n : Nat) (F : Nat → Int × Int) : Prop := ∃ a rs, v = .ref a ∧ H a = some (.lst (rs.map V.ref)) ∧ rs.length = n ∧ Tups H rs F
theorem Tups.same {H H' : Hp} {rs : List Addr} {F : Nat → Int × Int} (h : Tups H rs F) (s : Same H H') : Tups H' rs F := fun k r e => s _ _ (h k r e)
theorem TupsAt.same {H H' : Hp} {v : V} {n : Nat} {F : Nat → Int × Int} (h : TupsAt H v n F) (s : Same H H') : TupsAt H' v n F := by
  obtain ⟨a, rs, e, h, l, p⟩ := h
  exact ⟨a, rs, e, s _ _ h, l, p.same s⟩
theorem Tups.nil {H : Hp} {F : Nat → Int × Int} : Tups H [] F := fun k r h => by simp at h
/-- a list changes, the tuples stay -/
theorem Tups.put {H : Hp} {rs : List Addr} {F : Nat → Int × Int} {d : Addr} {ys : List V} {o : HO} (h : Tups H rs F) (hd : H d = some (.lst ys)) : Tups (upd H d o) rs F := fun k r e => by
  rw [upd_ne fun z => by have := h k r e; rw [z, hd] at this; cases this]
  exact h k r e
theorem Tups.push {H : Hp} {r : Addr} {rs : List Addr} {F : Nat → Int × Int} (h : Tups H rs F) (hr : H r = some (tup2 (F rs.length).1 (F rs.length).2)) : Tups H (rs ++ [r]) F := fun k x hx => by
  rcases push_get hx with ⟨_, h1⟩ | ⟨rfl, rfl⟩
  · exact h k x h1
  · exact hr
theorem Tups.to {H : Hp} {rs : List Addr} {F G : Nat → Int × Int} (h : Tups H rs F) (e : ∀ k, k < rs.length → F k = G k) : Tups H rs G := fun k r hr => e k (get_lt hr) ▸ h k r hr
/-- a list of tuples as data -/
def pdT (p : Int × Int) : PyData := .tuple [.int p.1, .int p.2]
def pdL (F : Nat → Int × Int) (n : Nat) : List PyData := (List.range n).map fun k => pdT (F k)
theorem pdT_eqv (p q : Int × Int) : PyData.eqv (pdT p) (pdT q) = decide (p = q) := by
  obtain ⟨a, b⟩ := p
  obtain ⟨c, d⟩ := q
  have e : PyData.eqv (pdT (a, b)) (pdT (c, d)) = ((a == c) && ((b == d) && true)) := by simp only [pdT, PyData.eqv, PyData.eqvAll]
  rw [e, Bool.eq_iff_iff]
  simp
theorem eqvAll_map {α : Type} (f g : α → Int × Int) : ∀ xs : List α, PyData.eqvAll (xs.map fun k => pdT (f k)) (xs.map fun k => pdT (g k)) = decide (∀ x ∈ xs, f x = g x)
  | [] => by simp [PyData.eqvAll]
  | x :: xs => by
    rw [List.map_cons, List.map_cons]
    simp only [PyData.eqvAll]
    rw [eqvAll_map f g xs, pdT_eqv, Bool.eq_iff_iff]
    simp
theorem pdL_eqv (F G : Nat → Int × Int) (n : Nat) : PyData.eqv (.list (pdL F n)) (.list (pdL G n)) = decide (∀ k, k < n → F k = G k) := by
  simp only [PyData.eqv]
  show PyData.eqvAll (List.map _ _) (List.map _ _) = _
  rw [eqvAll_map, Bool.eq_iff_iff]
  simp
theorem pdL_lay : ∀ (xs : List (Int × Int)), PyData.canLayAll0 (xs.map pdT) = true
  | [] => by simp [PyData.canLayAll0]
  | x :: xs => by
    rw [List.map_cons]
    simp only [PyData.canLayAll0, pdT, PyData.canLay0, pdL_lay xs]
    rfl
theorem pdL_depth : ∀ (xs : List (Int × Int)), PyData.depthAll (xs.map pdT) ≤ 10
  | [] => by simp [PyData.depthAll]
  | x :: xs => by
    rw [List.map_cons]
    have := pdL_depth xs
    simp only [PyData.depthAll, pdT, PyData.depth] at this ⊢
    omega
theorem pdL_shaped (F : Nat → Int × Int) (n : Nat) : PySem.SeqAt.shaped (.list (pdL F n)) = true := by
  have e : pdL F n = ((List.range n).map F).map pdT := by show List.map _ _ = _; rw [List.map_map]; rfl
  rw [e]
  have h1 := pdL_depth ((List.range n).map F)
  have h2 : PyData.depth (.list (((List.range n).map F).map pdT)) ≤ 64 := by
    simp only [PyData.depth]
    omega
  show (PyData.canLay0 (.list (((List.range n).map F).map pdT)) && decide (PyData.depth (.list (((List.range n).map F).map pdT)) ≤ 64)) = true
  rw [Bool.and_eq_true]
  exact ⟨by simp only [PyData.canLay0]; exact pdL_lay _, decide_eq_true h2⟩
theorem dpAll_tups {K : PySem.W.Frag} {H : Hp} {F : Nat → Int × Int} : ∀ (rs : List Addr) (j : Nat), (∀ k r, rs[k]? = some r → H r = some (tup2 (F (j + k)).1 (F (j + k)).2)) → DpAll K H (rs.map V.ref) ((List.range' j rs.length).map fun k => pdT (F k))
  | [], j, _ => .nil
  | r :: rs, j, h => by
    rw [List.map_cons, List.length_cons, List.range'_succ, List.map_cons]
    exact .cons (.tup (.of (h 0 r rfl)) (.cons (.int _) (.cons (.int _) .nil))) (dpAll_tups rs (j + 1) fun k x e => by have := h (k + 1) x e; rw [show j + 1 + k = j + (k + 1) by omega]; exact this)
theorem TupsAt.dp {K : PySem.W.Frag} {H : Hp} {v : V} {n : Nat} {F : Nat → Int × Int} (h : TupsAt H v n F) : Dp K H v (.list (pdL F n)) := by
  obtain ⟨a, rs, rfl, ha, rfl, hp⟩ := h
  refine .lst (.of ha) ?_
  have := dpAll_tups (K := K) (H := H) (F := F) rs 0 (fun k r e => (Nat.zero_add k).symm ▸ hp k r e)
  rw [← List.range_eq_range'] at this
  exact this
theorem ix_tupK {X : Cx} {K : PySem.W.Frag} (h : X.K = K) : IxR X (rIxT K) := h ▸ ix_tup
theorem ref_get {rs : List Addr} {i : Nat} {x : V} (hx : (rs.map V.ref)[i]? = some x) : ∃ r, rs[i]? = some r ∧ x = .ref r := by
  rw [List.getElem?_map] at hx
  cases h : rs[i]? with
  | none => rw [h] at hx; cases hx
  | some r => rw [h] at hx; exact ⟨r, rfl, (Option.some.inj hx).symm⟩
/-! ### the lines of the law's table of differences -/
def ln : Nat → Nat → Int
  | 0, i => if i = 0 then 1 else 0
  | _ + 1, 0 => 1
  | k + 1, i + 1 => ln k (i + 1) - ln k i
theorem ln_zero : ∀ k, ln k 0 = 1
  | 0 => rfl
  | _ + 1 => rfl
theorem ln_out : ∀ (k i : Nat), k < i → ln k i = 0
  | 0, i, h => if_neg (by omega)
  | k + 1, 0, h => absurd h (Nat.not_lt_zero _)
  | k + 1, i + 1, h => by
    show ln k (i + 1) - ln k i = 0
    rw [ln_out k (i + 1) (by omega), ln_out k i (by omega)]
    rfl
theorem ln_lt : ∀ (k i : Nat), (ln k i).natAbs ≤ 2 ^ k
  | 0, i => by
    show (if i = 0 then (1 : Int) else 0).natAbs ≤ 1
    split <;> decide
  | k + 1, 0 => by
    show (1 : Int).natAbs ≤ _
    exact Nat.one_le_two_pow
  | k + 1, i + 1 => by
    show (ln k (i + 1) - ln k i).natAbs ≤ _
    have h1 := ln_lt k (i + 1)
    have h2 := ln_lt k i
    rw [Nat.pow_succ]
    omega
theorem ln_sum (f : Nat → Rat) : ∀ k a, sumR (fun i => (ln k i : Rat) * f (a + i)) (k + 1) = dfF f k a
  | 0, a => by
    show (0 : Rat) + ((ln 0 0 : Int) : Rat) * f (a + 0) = f a
    rw [show ln 0 0 = 1 from rfl, Nat.add_zero, Rat.intCast_one]
    grind
  | k + 1, a => by
    show _ = dfF f k a - dfF f k (a + 1)
    rw [← ln_sum f k a, ← ln_sum f k (a + 1), sumR_head]
    have e1 : sumR (fun i => ((ln (k + 1) (i + 1) : Int) : Rat) * f (a + (i + 1))) (k + 1) = sumR (fun i => ((ln k (i + 1) : Int) : Rat) * f (a + (i + 1))) (k + 1) - sumR (fun i => ((ln k i : Int) : Rat) * f (a + 1 + i)) (k + 1) := by
      rw [← sumR_sub]
      refine sumR_congr fun i _ => ?_
      show ((ln k (i + 1) - ln k i : Int) : Rat) * _ = _
      rw [Rat.intCast_sub, show a + 1 + i = a + (i + 1) by omega]
      grind
    have e2 := sumR_head (f := fun i => ((ln k i : Int) : Rat) * f (a + i)) (k + 1)
    have e3 : sumR (fun i => ((ln k i : Int) : Rat) * f (a + i)) (k + 1 + 1) = sumR (fun i => ((ln k i : Int) : Rat) * f (a + i)) (k + 1) + ((ln k (k + 1) : Int) : Rat) * f (a + (k + 1)) := rfl
    rw [ln_out k (k + 1) (by omega), Rat.intCast_zero] at e3
    have e4 : ((ln (k + 1) 0 : Int) : Rat) = ((ln k 0 : Int) : Rat) := by rw [ln_zero, ln_zero]
    have e1' : sumR (fun k_1 => ((ln (k + 1) (k_1 + 1) : Int) : Rat) * f (a + (k_1 + 1))) (k + 1) = _ := e1
    rw [e1', e4]
    grind
/-- the line after a line -/
theorem ln_next {k : Nat} : ([1] ++ (List.range k).map (fun i => ln k (i + 1) - ln k i)) ++ [-ln k k] = (List.range (k + 2)).map (ln (k + 1)) := by
  refine List.ext_getElem? fun i => ?_
  rcases Nat.lt_or_ge i (k + 2) with h | h
  · rw [List.getElem?_map, List.getElem?_range h]
    rcases Nat.lt_or_ge i (k + 1) with h1 | h1
    · rw [List.getElem?_append_left (by simp; omega)]
      cases i with
      | zero => rfl
      | succ i =>
        rw [List.getElem?_append_right (by simp), List.length_singleton, Nat.add_sub_cancel, List.getElem?_map, List.getElem?_range (by omega)]
        rfl
    · have e : i = k + 1 := by omega
      subst e
      rw [List.getElem?_append_right (by simp)]
      have hlen : ([(1 : Int)] ++ (List.range k).map (fun i => ln k (i + 1) - ln k i)).length = k + 1 := by simp
      rw [hlen, Nat.sub_self]
      show some (-ln k k) = some (ln k (k + 1) - ln k k)
      rw [ln_out k (k + 1) (by omega)]
      congr 1
      omega
  · rw [List.getElem?_eq_none (by simp; omega), List.getElem?_eq_none (by simp; omega)]
/-- the product of m bottoms from a on -/
def WN (F : Nat → Int × Int) (a : Nat) : Nat → Int
  | 0 => 1
  | m + 1 => WN F a m * (F (a + m)).2
theorem WN_pos {F : Nat → Int × Int} {a : Nat} : ∀ m, (∀ k, k < a + m → 0 < (F k).2) → 0 < WN F a m
  | 0, _ => by show (0 : Int) < 1; decide
  | m + 1, h => Int.mul_pos (WN_pos m fun k hk => h k (by omega)) (h (a + m) (by omega))
theorem WN_app {F : Nat → Int × Int} {a : Nat} : ∀ m, WN F 0 (a + m) = WN F 0 a * WN F a m
  | 0 => by show WN F 0 a = WN F 0 a * 1; rw [Int.mul_one]
  | m + 1 => by
    show WN F 0 (a + m) * (F (0 + (a + m))).2 = WN F 0 a * (WN F a m * (F (a + m)).2)
    rw [WN_app m, Nat.zero_add, Int.mul_assoc]
theorem le_mul1 {x y : Int} (hx : 0 < x) (hy : 0 < y) : x ≤ x * y := by
  have : x * 1 ≤ x * y := Int.mul_le_mul_of_nonneg_left (by omega) (by omega)
  omega
theorem WN_le {F : Nat → Int × Int} {a n m : Nat} (h : ∀ k, k < n → 0 < (F k).2) (hm : a + m ≤ n) : WN F a m ≤ WN F 0 n := by
  have h1 : 0 < WN F a m := WN_pos m fun k hk => h k (by omega)
  have h2 : 0 < WN F 0 a := WN_pos a fun k hk => h k (by omega)
  have h3 : 0 < WN F (a + m) (n - (a + m)) := WN_pos _ fun k hk => h k (by omega)
  have e : WN F 0 n = WN F 0 a * WN F a m * WN F (a + m) (n - (a + m)) := by
    have := WN_app (F := F) (a := a + m) (n - (a + m))
    rw [show a + m + (n - (a + m)) = n by omega, WN_app] at this
    exact this
  have h4 : WN F a m ≤ WN F 0 a * WN F a m := by rw [Int.mul_comm]; exact le_mul1 h1 h2
  have h5 := le_mul1 (Int.mul_pos h2 h1) h3
  omega
theorem WN_set {F G : Nat → Int × Int} {a : Nat} {u : Int} (h : ∀ j, (G j).2 = if j = a then (F j).2 * u else (F j).2) : ∀ m, WN G 0 m = WN F 0 m * if a < m then u else 1
  | 0 => by show (1 : Int) = 1 * if a < 0 then u else 1; rw [if_neg (by omega)]; rfl
  | m + 1 => by
    show WN G 0 m * (G (0 + m)).2 = WN F 0 m * (F (0 + m)).2 * _
    rw [WN_set h m, h, Nat.zero_add]
    rcases Nat.lt_trichotomy a m with e | e | e
    · rw [if_pos e, if_neg (by omega), if_pos (by omega), Int.mul_assoc, Int.mul_assoc, Int.mul_comm u]
    · subst e
      rw [if_neg (by omega), if_pos rfl, if_pos (by omega), Int.mul_one, Int.mul_assoc]
    · rw [if_neg (by omega), if_neg (by omega), if_neg (by omega), Int.mul_one, Int.mul_one]
theorem WN_small {F : Nat → Int × Int} {c : Int} (hc : 0 < c) : ∀ m, (∀ k, k < m → 0 < (F k).2 ∧ (F k).2 ≤ c) → WN F 0 m ≤ c ^ m
  | 0, _ => by rw [Int.pow_zero]; exact Int.le_refl _
  | m + 1, h => by
    show WN F 0 m * (F (0 + m)).2 ≤ _
    rw [Nat.zero_add, Int.pow_succ]
    have h1 := WN_small hc m fun k hk => h k (by omega)
    have h2 := h m (by omega)
    have h3 : 0 < WN F 0 m := WN_pos m fun k hk => (h k (by omega)).1
    exact Int.le_trans (Int.mul_le_mul_of_nonneg_left h2.2 (by omega)) (Int.mul_le_mul_of_nonneg_right h1 (by omega))
end MoL

namespace Mo
open PySem PySem.Spec PyProof.Rows L2 MoL MoW
open C8 (pss_cut tCut)
/-! ### the text -/
def topS (i : Nat) : Stmt := PySem.Challenge.pw_momentrows_k62_centred_rows_and_differen.main.body.getD i (.Pass ⟨0, 0, 0, 0⟩)
abbrev s_Ratio___init__ : Stmt := inClass (topS 10) 0
abbrev N_Ratio___init__ : List Str := ["self", "top", "bottom", "shared"]
theorem sc_Ratio___init__ : FnScope N_Ratio___init__ ["self", "top", "bottom"] (defScope s_Ratio___init__) := ⟨rfl, rfl, rfl, by decide +kernel, rfl, by decide +kernel, by decide +kernel⟩
abbrev s_Ratio___sub__ : Stmt := inClass (topS 10) 3
abbrev N_Ratio___sub__ : List Str := ["self", "other"]
theorem sc_Ratio___sub__ : FnScope N_Ratio___sub__ ["self", "other"] (defScope s_Ratio___sub__) := ⟨rfl, rfl, rfl, by decide +kernel, rfl, by decide +kernel, by decide +kernel⟩
abbrev s_Ratio___rsub__ : Stmt := inClass (topS 10) 4
abbrev N_Ratio___rsub__ : List Str := ["self", "other"]
theorem sc_Ratio___rsub__ : FnScope N_Ratio___rsub__ ["self", "other"] (defScope s_Ratio___rsub__) := ⟨rfl, rfl, rfl, by decide +kernel, rfl, by decide +kernel, by decide +kernel⟩
abbrev s_Ratio___neg__ : Stmt := inClass (topS 10) 7
abbrev N_Ratio___neg__ : List Str := ["self"]
theorem sc_Ratio___neg__ : FnScope N_Ratio___neg__ ["self"] (defScope s_Ratio___neg__) := ⟨rfl, rfl, rfl, by decide +kernel, rfl, by decide +kernel, by decide +kernel⟩
abbrev s_Ratio___eq__ : Stmt := inClass (topS 10) 14
abbrev N_Ratio___eq__ : List Str := ["self", "other"]
theorem sc_Ratio___eq__ : FnScope N_Ratio___eq__ ["self", "other"] (defScope s_Ratio___eq__) := ⟨rfl, rfl, rfl, by decide +kernel, rfl, by decide +kernel, by decide +kernel⟩
abbrev s_Ratio_over : Stmt := inClass (topS 10) 20
abbrev N_Ratio_over : List Str := ["self", "other", "divisor"]
theorem sc_Ratio_over : FnScope N_Ratio_over ["self", "other"] (defScope s_Ratio_over) := ⟨rfl, rfl, rfl, by decide +kernel, rfl, by decide +kernel, by decide +kernel⟩
abbrev s_is_whole : Stmt := topS 11
abbrev N_is_whole : List Str := ["x"]
theorem sc_is_whole : FnScope N_is_whole ["x"] (defScope s_is_whole) := ⟨rfl, rfl, rfl, by decide +kernel, rfl, by decide +kernel, by decide +kernel⟩
abbrev s_is_number : Stmt := topS 12
abbrev N_is_number : List Str := ["x"]
theorem sc_is_number : FnScope N_is_number ["x"] (defScope s_is_number) := ⟨rfl, rfl, rfl, by decide +kernel, rfl, by decide +kernel, by decide +kernel⟩
abbrev s_ratio_of : Stmt := topS 13
abbrev N_ratio_of : List Str := ["number"]
theorem sc_ratio_of : FnScope N_ratio_of ["number"] (defScope s_ratio_of) := ⟨rfl, rfl, rfl, by decide +kernel, rfl, by decide +kernel, by decide +kernel⟩
abbrev s_whole_parts : Stmt := topS 14
abbrev N_whole_parts : List Str := ["ratios", "bottom", "number"]
theorem sc_whole_parts : FnScope N_whole_parts ["ratios"] (defScope s_whole_parts) := ⟨rfl, rfl, rfl, by decide +kernel, rfl, by decide +kernel, by decide +kernel⟩
abbrev s__difference : Stmt := topS 16
abbrev N__difference : List Str := ["one", "other"]
theorem sc__difference : FnScope N__difference ["one", "other"] (defScope s__difference) := ⟨rfl, rfl, rfl, by decide +kernel, rfl, by decide +kernel, by decide +kernel⟩
abbrev s__gap : Stmt := topS 20
abbrev N__gap : List Str := ["one", "other"]
theorem sc__gap : FnScope N__gap ["one", "other"] (defScope s__gap) := ⟨rfl, rfl, rfl, by decide +kernel, rfl, by decide +kernel, by decide +kernel⟩
abbrev s_moved_row : Stmt := topS 24
abbrev N_moved_row : List Str := ["row", "by", "numbers", "way", "line", "bottom", "found", "k"]
theorem sc_moved_row : FnScope N_moved_row ["row", "by"] (defScope s_moved_row) := ⟨rfl, rfl, rfl, by decide +kernel, rfl, by decide +kernel, by decide +kernel⟩
abbrev s_row_numbers : Stmt := topS 25
abbrev N_row_numbers : List Str := ["row", "k", "number"]
theorem sc_row_numbers : FnScope N_row_numbers ["row"] (defScope s_row_numbers) := ⟨rfl, rfl, rfl, by decide +kernel, rfl, by decide +kernel, by decide +kernel⟩
abbrev s_centred : Stmt := topS 27
abbrev N_centred : List Str := ["row", "numbers"]
theorem sc_centred : FnScope N_centred ["row"] (defScope s_centred) := ⟨rfl, rfl, rfl, by decide +kernel, rfl, by decide +kernel, by decide +kernel⟩
abbrev s_differences : Stmt := topS 28
abbrev N_differences : List Str := ["row", "found", "line", "k"]
theorem sc_differences : FnScope N_differences ["row"] (defScope s_differences) := ⟨rfl, rfl, rfl, by decide +kernel, rfl, by decide +kernel, by decide +kernel⟩
abbrev s__law_cell : Stmt := topS 30
abbrev N__law_cell : List Str := ["_law_script", "_law_k"]
theorem sc__law_cell : FnScope N__law_cell ["_law_script", "_law_k"] (defScope s__law_cell) := ⟨rfl, rfl, rfl, by decide +kernel, rfl, by decide +kernel, by decide +kernel⟩
abbrev s__law_draw : Stmt := topS 31
abbrev N__law_draw : List Str := ["_law_cell_here", "_law_many", "_law_base", "_law_found", "_law_rest", "_law_k", "_law_number"]
theorem sc__law_draw : FnScope N__law_draw ["_law_cell_here", "_law_many", "_law_base"] (defScope s__law_draw) := ⟨rfl, rfl, rfl, by decide +kernel, rfl, by decide +kernel, by decide +kernel⟩
abbrev s__law_row : Stmt := topS 32
abbrev N__law_row : List Str := ["_law_tops", "_law_parts", "_law_under", "_law_bottom", "_law_size", "_law_row_here", "_law_powers", "_law_scale", "_law_k", "_law_at"]
theorem sc__law_row : FnScope N__law_row ["_law_tops", "_law_parts", "_law_under", "_law_bottom", "_law_size"] (defScope s__law_row) := ⟨rfl, rfl, rfl, by decide +kernel, rfl, by decide +kernel, by decide +kernel⟩
abbrev s__law_ratios : Stmt := topS 33
abbrev N__law_ratios : List Str := ["_law_row_here", "_law_pair_here"]
theorem sc__law_ratios : FnScope N__law_ratios ["_law_row_here"] (defScope s__law_ratios) := ⟨rfl, rfl, rfl, by decide +kernel, rfl, by decide +kernel, by decide +kernel⟩
abbrev s__law_changed : Stmt := topS 34
abbrev N__law_changed : List Str := ["_law_row_here", "_law_cell_here", "_law_digits", "_law_found", "_law_k", "_law_wide", "_law_at", "_law_under", "_law_by"]
theorem sc__law_changed : FnScope N__law_changed ["_law_row_here", "_law_cell_here"] (defScope s__law_changed) := ⟨rfl, rfl, rfl, by decide +kernel, rfl, by decide +kernel, by decide +kernel⟩
abbrev s__law_integer : Stmt := topS 35
abbrev N__law_integer : List Str := ["_law_value"]
theorem sc__law_integer : FnScope N__law_integer ["_law_value"] (defScope s__law_integer) := ⟨rfl, rfl, rfl, by decide +kernel, rfl, by decide +kernel, by decide +kernel⟩
abbrev s__law_pair : Stmt := topS 36
abbrev N__law_pair : List Str := ["_law_value"]
theorem sc__law_pair : FnScope N__law_pair ["_law_value"] (defScope s__law_pair) := ⟨rfl, rfl, rfl, by decide +kernel, rfl, by decide +kernel, by decide +kernel⟩
abbrev s__law_same : Stmt := topS 37
abbrev N__law_same : List Str := ["_law_value", "_law_due", "_law_pair_here"]
theorem sc__law_same : FnScope N__law_same ["_law_value", "_law_due"] (defScope s__law_same) := ⟨rfl, rfl, rfl, by decide +kernel, rfl, by decide +kernel, by decide +kernel⟩
abbrev s__law_same_all : Stmt := topS 38
abbrev N__law_same_all : List Str := ["_law_values", "_law_dues", "_law_k"]
theorem sc__law_same_all : FnScope N__law_same_all ["_law_values", "_law_dues"] (defScope s__law_same_all) := ⟨rfl, rfl, rfl, by decide +kernel, rfl, by decide +kernel, by decide +kernel⟩
abbrev s__law_plus : Stmt := topS 39
abbrev N__law_plus : List Str := ["_law_one", "_law_other"]
theorem sc__law_plus : FnScope N__law_plus ["_law_one", "_law_other"] (defScope s__law_plus) := ⟨rfl, rfl, rfl, by decide +kernel, rfl, by decide +kernel, by decide +kernel⟩
abbrev s__law_table : Stmt := topS 40
abbrev N__law_table : List Str := ["_law_row_here", "_law_lists", "_law_lines", "_law_k", "_law_i", "_law_found", "_law_at", "_law_total"]
theorem sc__law_table : FnScope N__law_table ["_law_row_here"] (defScope s__law_table) := ⟨rfl, rfl, rfl, by decide +kernel, rfl, by decide +kernel, by decide +kernel⟩
abbrev s__law_refused : Stmt := topS 41
abbrev N__law_refused : List Str := ["_law_given", "_law_told"]
theorem sc__law_refused : FnScope N__law_refused ["_law_given"] (defScope s__law_refused) := ⟨rfl, rfl, rfl, by decide +kernel, rfl, by decide +kernel, by decide +kernel⟩
abbrev s_law : Stmt := topS 42
abbrev N_law : List Str := ["_law_script", "_law_digits", "_law_bottom", "_law_tops", "_law_parts", "_law_k", "_law_top", "_law_under", "_law_size", "_law_good", "_law_row_here", "_law_given", "_law_told", "_law_due", "_law_pair_here", "_law_total", "_law_first", "_law_at"]
theorem sc_law : FnScope N_law ["_law_script"] (defScope s_law) := ⟨rfl, rfl, rfl, by decide +kernel, rfl, by decide +kernel, by decide +kernel⟩
/-! ### addresses and function objects -/
structure Ad where
  Ratio : Addr
  NoMean : Addr
  MeansError : Addr
  f_Ratio___init__ : Addr
  f_Ratio___sub__ : Addr
  f_Ratio___rsub__ : Addr
  f_Ratio___neg__ : Addr
  f_Ratio___eq__ : Addr
  f_Ratio_over : Addr
  f_is_whole : Addr
  f_is_number : Addr
  f_ratio_of : Addr
  f_whole_parts : Addr
  f__difference : Addr
  f__gap : Addr
  f_moved_row : Addr
  f_row_numbers : Addr
  f_centred : Addr
  f_differences : Addr
  f__law_cell : Addr
  f__law_draw : Addr
  f__law_row : Addr
  f__law_ratios : Addr
  f__law_changed : Addr
  f__law_integer : Addr
  f__law_pair : Addr
  f__law_same : Addr
  f__law_same_all : Addr
  f__law_plus : Addr
  f__law_table : Addr
  f__law_refused : Addr
  f_law : Addr
structure Fd where
  f_Ratio___init__ : FuncData
  f_Ratio___sub__ : FuncData
  f_Ratio___rsub__ : FuncData
  f_Ratio___neg__ : FuncData
  f_Ratio___eq__ : FuncData
  f_Ratio_over : FuncData
  f_is_whole : FuncData
  f_is_number : FuncData
  f_ratio_of : FuncData
  f_whole_parts : FuncData
  f__difference : FuncData
  f__gap : FuncData
  f_moved_row : FuncData
  f_row_numbers : FuncData
  f_centred : FuncData
  f_differences : FuncData
  f__law_cell : FuncData
  f__law_draw : FuncData
  f__law_row : FuncData
  f__law_ratios : FuncData
  f__law_changed : FuncData
  f__law_integer : FuncData
  f__law_pair : FuncData
  f__law_same : FuncData
  f__law_same_all : FuncData
  f__law_plus : FuncData
  f__law_table : FuncData
  f__law_refused : FuncData
  f_law : FuncData
/-- what the written part says -/
structure Txt (K : PySem.W.Frag) (mg : Str → Option Value) (A : Ad) (D : Fd) : Prop where
  g_Ratio : mg "Ratio" = some (.ref A.Ratio)
  k_Ratio : OwnK K A.Ratio
  kp_Ratio : PySem.W.keepIn K (.ref A.Ratio) = true
  M_Ratio : Mk K A.Ratio A.f_Ratio___init__
  g_MeansError : mg "MeansError" = some (.ref A.MeansError)
  g_NoMean : mg "NoMean" = some (.ref A.NoMean)
  e_NoMean : ErrC K A.MeansError A.NoMean "NoMean"
  xn_NoMean : PySem.W.excIn K A.NoMean [.type "ValueError", .type "Exception", .type "BaseException", .type "object"] "ValueError.__new__" = true
  F_Ratio___init__ : FunD K "__init__" "Ratio.__init__" (defArgs s_Ratio___init__) (defBody s_Ratio___init__) (defScope s_Ratio___init__) [.int 1] [] A.f_Ratio___init__ D.f_Ratio___init__
  b_Ratio___init__ : Binds K D.f_Ratio___init__ ["self", "top", "bottom"] []
  b1_Ratio___init__ : ∃ ds, Vals [.int 1] ds ∧ Binds K D.f_Ratio___init__ ["self", "top", "bottom"] ds
  m_Ratio___init__ : Meth K A.Ratio "__init__" A.f_Ratio___init__
  F_Ratio___sub__ : Fun K "__sub__" "Ratio.__sub__" s_Ratio___sub__ A.f_Ratio___sub__ D.f_Ratio___sub__
  b_Ratio___sub__ : Binds K D.f_Ratio___sub__ ["self", "other"] []
  m_Ratio___sub__ : Meth K A.Ratio "__sub__" A.f_Ratio___sub__
  F_Ratio___rsub__ : Fun K "__rsub__" "Ratio.__rsub__" s_Ratio___rsub__ A.f_Ratio___rsub__ D.f_Ratio___rsub__
  b_Ratio___rsub__ : Binds K D.f_Ratio___rsub__ ["self", "other"] []
  m_Ratio___rsub__ : Meth K A.Ratio "__rsub__" A.f_Ratio___rsub__
  F_Ratio___neg__ : Fun K "__neg__" "Ratio.__neg__" s_Ratio___neg__ A.f_Ratio___neg__ D.f_Ratio___neg__
  b_Ratio___neg__ : Binds K D.f_Ratio___neg__ ["self"] []
  m_Ratio___neg__ : Meth K A.Ratio "__neg__" A.f_Ratio___neg__
  F_Ratio___eq__ : Fun K "__eq__" "Ratio.__eq__" s_Ratio___eq__ A.f_Ratio___eq__ D.f_Ratio___eq__
  b_Ratio___eq__ : Binds K D.f_Ratio___eq__ ["self", "other"] []
  m_Ratio___eq__ : Meth K A.Ratio "__eq__" A.f_Ratio___eq__
  F_Ratio_over : Fun K "over" "Ratio.over" s_Ratio_over A.f_Ratio_over D.f_Ratio_over
  b_Ratio_over : Binds K D.f_Ratio_over ["self", "other"] []
  m_Ratio_over : Meth K A.Ratio "over" A.f_Ratio_over
  F_is_whole : Fun K "is_whole" "is_whole" s_is_whole A.f_is_whole D.f_is_whole
  b_is_whole : Binds K D.f_is_whole ["x"] []
  g_is_whole : mg "is_whole" = some (.ref A.f_is_whole)
  F_is_number : Fun K "is_number" "is_number" s_is_number A.f_is_number D.f_is_number
  b_is_number : Binds K D.f_is_number ["x"] []
  g_is_number : mg "is_number" = some (.ref A.f_is_number)
  F_ratio_of : Fun K "ratio_of" "ratio_of" s_ratio_of A.f_ratio_of D.f_ratio_of
  b_ratio_of : Binds K D.f_ratio_of ["number"] []
  g_ratio_of : mg "ratio_of" = some (.ref A.f_ratio_of)
  F_whole_parts : Fun K "whole_parts" "whole_parts" s_whole_parts A.f_whole_parts D.f_whole_parts
  b_whole_parts : Binds K D.f_whole_parts ["ratios"] []
  g_whole_parts : mg "whole_parts" = some (.ref A.f_whole_parts)
  F__difference : Fun K "_difference" "_difference" s__difference A.f__difference D.f__difference
  b__difference : Binds K D.f__difference ["one", "other"] []
  g__difference : mg "_difference" = some (.ref A.f__difference)
  F__gap : Fun K "_gap" "_gap" s__gap A.f__gap D.f__gap
  b__gap : Binds K D.f__gap ["one", "other"] []
  g__gap : mg "_gap" = some (.ref A.f__gap)
  F_moved_row : Fun K "moved_row" "moved_row" s_moved_row A.f_moved_row D.f_moved_row
  b_moved_row : Binds K D.f_moved_row ["row", "by"] []
  g_moved_row : mg "moved_row" = some (.ref A.f_moved_row)
  F_row_numbers : Fun K "row_numbers" "row_numbers" s_row_numbers A.f_row_numbers D.f_row_numbers
  b_row_numbers : Binds K D.f_row_numbers ["row"] []
  g_row_numbers : mg "row_numbers" = some (.ref A.f_row_numbers)
  F_centred : Fun K "centred" "centred" s_centred A.f_centred D.f_centred
  b_centred : Binds K D.f_centred ["row"] []
  g_centred : mg "centred" = some (.ref A.f_centred)
  F_differences : Fun K "differences" "differences" s_differences A.f_differences D.f_differences
  b_differences : Binds K D.f_differences ["row"] []
  g_differences : mg "differences" = some (.ref A.f_differences)
  F__law_cell : Fun K "_law_cell" "_law_cell" s__law_cell A.f__law_cell D.f__law_cell
  b__law_cell : Binds K D.f__law_cell ["_law_script", "_law_k"] []
  g__law_cell : mg "_law_cell" = some (.ref A.f__law_cell)
  F__law_draw : Fun K "_law_draw" "_law_draw" s__law_draw A.f__law_draw D.f__law_draw
  b__law_draw : Binds K D.f__law_draw ["_law_cell_here", "_law_many", "_law_base"] []
  g__law_draw : mg "_law_draw" = some (.ref A.f__law_draw)
  F__law_row : Fun K "_law_row" "_law_row" s__law_row A.f__law_row D.f__law_row
  b__law_row : Binds K D.f__law_row ["_law_tops", "_law_parts", "_law_under", "_law_bottom", "_law_size"] []
  g__law_row : mg "_law_row" = some (.ref A.f__law_row)
  F__law_ratios : Fun K "_law_ratios" "_law_ratios" s__law_ratios A.f__law_ratios D.f__law_ratios
  b__law_ratios : Binds K D.f__law_ratios ["_law_row_here"] []
  g__law_ratios : mg "_law_ratios" = some (.ref A.f__law_ratios)
  F__law_changed : Fun K "_law_changed" "_law_changed" s__law_changed A.f__law_changed D.f__law_changed
  b__law_changed : Binds K D.f__law_changed ["_law_row_here", "_law_cell_here"] []
  g__law_changed : mg "_law_changed" = some (.ref A.f__law_changed)
  F__law_integer : Fun K "_law_integer" "_law_integer" s__law_integer A.f__law_integer D.f__law_integer
  b__law_integer : Binds K D.f__law_integer ["_law_value"] []
  g__law_integer : mg "_law_integer" = some (.ref A.f__law_integer)
  F__law_pair : Fun K "_law_pair" "_law_pair" s__law_pair A.f__law_pair D.f__law_pair
  b__law_pair : Binds K D.f__law_pair ["_law_value"] []
  g__law_pair : mg "_law_pair" = some (.ref A.f__law_pair)
  F__law_same : Fun K "_law_same" "_law_same" s__law_same A.f__law_same D.f__law_same
  b__law_same : Binds K D.f__law_same ["_law_value", "_law_due"] []
  g__law_same : mg "_law_same" = some (.ref A.f__law_same)
  F__law_same_all : Fun K "_law_same_all" "_law_same_all" s__law_same_all A.f__law_same_all D.f__law_same_all
  b__law_same_all : Binds K D.f__law_same_all ["_law_values", "_law_dues"] []
  g__law_same_all : mg "_law_same_all" = some (.ref A.f__law_same_all)
  F__law_plus : Fun K "_law_plus" "_law_plus" s__law_plus A.f__law_plus D.f__law_plus
  b__law_plus : Binds K D.f__law_plus ["_law_one", "_law_other"] []
  g__law_plus : mg "_law_plus" = some (.ref A.f__law_plus)
  F__law_table : Fun K "_law_table" "_law_table" s__law_table A.f__law_table D.f__law_table
  b__law_table : Binds K D.f__law_table ["_law_row_here"] []
  g__law_table : mg "_law_table" = some (.ref A.f__law_table)
  F__law_refused : Fun K "_law_refused" "_law_refused" s__law_refused A.f__law_refused D.f__law_refused
  b__law_refused : Binds K D.f__law_refused ["_law_given"] []
  g__law_refused : mg "_law_refused" = some (.ref A.f__law_refused)
  F_law : Fun K "law" "law" s_law A.f_law D.f_law
  b_law : Binds K D.f_law ["_law_script"] []
  g_law : mg "law" = some (.ref A.f_law)
  z_isinstance : mg "isinstance" = none
  z_int : mg "int" = none
  z_bool : mg "bool" = none
  z_abs : mg "abs" = none
  z_len : mg "len" = none
  z_max : mg "max" = none
  z_range : mg "range" = none
  z_list : mg "list" = none
  z_tuple : mg "tuple" = none
  z_sum : mg "sum" = none
  g_MOST_NUMBERS : ∃ t, mg "MOST_NUMBERS" = some (.int 13 t)
  g_gcd : mg "gcd" = some (.builtin "math.gcd")
  g_lcm : mg "lcm" = some (.builtin "math.lcm")

section
variable {P : Program} {w : World} {K : PySem.W.Frag} {mg : Str → Option Value} {base : Heap} {A : Ad} {D : Fd}
/-- whether x is an int and no bool -/
def WholeV (K : PySem.W.Frag) (H : Hp) (x : V) (b : Bool) : Prop := ∃ t b1 b2, TyX K H x t ∧ PySem.W.kitOne K t (.type "int") = some b1 ∧ (b1 = true → PySem.W.kitOne K t (.type "bool") = some b2) ∧ b = (b1 && !b2)
theorem whole_int {K : PySem.W.Frag} (i : Int) {H : Hp} : WholeV K H (.int i) true := ⟨_, true, false, .base (.int i), kit_ty (by decide +kernel), fun _ => kit_ty (by decide +kernel), rfl⟩
def sp_is_whole (K : PySem.W.Frag) : Sp := fun vs H Q _ => ∃ x b, vs = [x] ∧ WholeV K H x b ∧ Q (.bl b) H
theorem ok_is_whole (T : Txt K mg A D) : FnOk P w K mg base CX0 1 A.f_is_whole D.f_is_whole ["x"] (sp_is_whole K) := by
  skip
  refine T.F_is_whole.ok sc_is_whole (fun vs H Q E h => ?_) (fun cdv A' outer s H vs Q E hr h => ?_)
  · obtain ⟨x, b, rfl, _⟩ := h
    rfl
  · obtain ⟨x, b, rfl, ⟨t, b1, b2, ty, e1, e2, rfl⟩, q⟩ := h
    refine ⟨_, (pss_one (ps_ret (pe_and (pe_callB call_isi rfl T.z_isinstance (by decide +kernel) (pa_cons (pv 0) (pa_cons (pe_bltn (v := .ty "int") rfl T.z_int (by decide +kernel) rfl) pa_nil))) (pe_one (pe_not (pe_callB call_isi rfl T.z_isinstance (by decide +kernel) (pa_cons (pv 0) (pa_cons (pe_bltn (v := .ty "bool") rfl T.z_bool (by decide +kernel) rfl) pa_nil)))))))), ?_⟩
    refine ⟨x, rfl, x, .ty "int", t, _, b1, rfl, .ty _, ty, e1, b1, rfl, ?_⟩
    cases b1 with
    | false => exact iteF q
    | true => exact iteT ⟨x, rfl, x, .ty "bool", t, _, b2, rfl, .ty _, ty, e2 rfl, b2, rfl, q⟩
theorem ty_same {H H' : Hp} {x : V} {t : Value} (s : Same H H') (h : TyX K H x t) : TyX K H' x t := by
  cases h with
  | base b =>
    refine .base ?_
    cases b with
    | non => exact .non
    | bl y => exact .bl y
    | int i => exact .int i
    | str y => exact .str y
    | flt y => exact .flt y
    | lst e => exact .lst (s _ _ e)
    | frz e => exact .frz (s _ _ e)
    | tup e => exact .tup (s _ _ e)
    | dK e => exact .dK (s _ _ e)
    | dT e => exact .dT (s _ _ e)
    | ins e a b c d f => exact .ins (s _ _ e) a b c d f
  | byt b => exact .byt b
  | set e => exact .set (s _ _ e)
  | kList e c => exact .kList e c
  | kTuple e c => exact .kTuple e c
  | kDict e c => exact .kDict e c
  | fTuple e => exact .fTuple (s _ _ e)
  | fDict e => exact .fDict (s _ _ e)
theorem WholeV.same {H H' : Hp} {x : V} {b : Bool} (h : WholeV K H x b) (s : Same H H') : WholeV K H' x b := by
  obtain ⟨t, b1, b2, ty, r⟩ := h
  exact ⟨t, b1, b2, ty_same s ty, r⟩
/-- neither a Ratio nor an integer -/
def NoNum (K : PySem.W.Frag) (C : Addr) (H : Hp) (x : V) : Prop := ∃ t, TyX K H x t ∧ PySem.W.kitOne K t (.ref C) = some false ∧ WholeV K H x false
theorem NoNum.same {C : Addr} {H H' : Hp} {x : V} (h : NoNum K C H x) (s : Same H H') : NoNum K C H' x := by
  obtain ⟨t, ty, e, w⟩ := h
  exact ⟨t, ty_same s ty, e, w.same s⟩
def sp_isnum (K : PySem.W.Frag) (C : Addr) : Sp := fun vs H Q _ => ∃ x, vs = [x] ∧ ((((∃ i, x = .int i) ∨ Ins H x C) ∧ Q (.bl true) H) ∨ (NoNum K C H x ∧ Q (.bl false) H))
theorem ok_is_number (T : Txt K mg A D) : FnOk P w K mg base CX0 2 A.f_is_number D.f_is_number ["x"] (sp_isnum K A.Ratio) := by
  have G_is_whole : FnOk P w K mg base CX0 1 A.f_is_whole D.f_is_whole ["x"] (sp_is_whole K) := ok_is_whole T
  refine T.F_is_number.ok sc_is_number (fun vs H Q E h => ?_) (fun cdv A' outer s H vs Q E hr h => ?_)
  · obtain ⟨x, rfl, _⟩ := h
    rfl
  · obtain ⟨x, rfl, hx⟩ := h
    refine ⟨_, (pss_one (ps_ret (pe_or (pe_callB call_isi rfl T.z_isinstance (by decide +kernel) (pa_cons (pv 0) (pa_cons (pe_glob (v := .ref A.Ratio) rfl T.g_Ratio rfl) pa_nil))) (pe_one (pe_call G_is_whole (hr.mono (by decide)) rfl T.g_is_whole T.F_is_whole.kp T.b_is_whole .nil pass0 (pa_cons (pv 0) pa_nil)))))), ?_⟩
    rcases hx with ⟨⟨i, rfl⟩ | ⟨a, dx, fs, rfl, ha⟩, q⟩ | ⟨⟨t, ty, e, w⟩, q⟩
    · exact ⟨.int i, rfl, .int i, .ref A.Ratio, _, _, false, rfl, .own _, .base (.int i), T.k_Ratio.ik, false, rfl, iteF ⟨.int i, rfl, _, _, rfl, whole_int i, q⟩⟩
    · exact ⟨.ref a, rfl, .ref a, .ref A.Ratio, _, _, true, rfl, .own _, T.k_Ratio.ty ha, kit_self, true, rfl, iteT q⟩
    · exact ⟨x, rfl, x, .ref A.Ratio, t, _, false, rfl, .own _, ty, e, false, rfl, iteF ⟨x, rfl, _, _, rfl, w, q⟩⟩
def sp_init (C : Addr) : Sp := fun vs H Q _ => ∃ x dx t b, vs = [.ref x, .int t, .int b] ∧ H x = some (.ins C dx []) ∧ b ≠ 0 ∧ Sm b ∧ Q .non (upd H x (ratO C dx ((t : Rat) / (b : Rat))))
theorem rat_make {C : Addr} {H : Hp} {t b : Int} {Q : Hp → Prop} {E : XK} {x dx : Addr} (hb : b ≠ 0) (sb : Sm b) (nx : H x = none) (nd : H dx = none) (ne : dx ≠ x) (q : ∀ G, Same H G → RatV C G (.ref x) ((t : Rat) / (b : Rat)) → Q G) :
    sp_init C [.ref x, .int t, .int b] (upd (upd H dx (.own x)) x (.ins C dx [])) (fun v G => v = .non ∧ Q G) E :=
  ⟨x, dx, t, b, rfl, upd_same, hb, sb, rfl, q _ (madeV nx nd ne _).1 (madeV nx nd ne _).2⟩
theorem ok_Ratio___init__ (T : Txt K mg A D) : FnOk P w K mg base CX0 2 A.f_Ratio___init__ D.f_Ratio___init__ ["self", "top", "bottom"] (sp_init A.Ratio) := by
  have G_is_whole : FnOk P w K mg base CX0 1 A.f_is_whole D.f_is_whole ["x"] (sp_is_whole K) := ok_is_whole T
  refine T.F_Ratio___init__.ok sc_Ratio___init__ (fun vs H Q E h => ?_) (fun cdv A' outer s H vs Q E hr h => ?_)
  · obtain ⟨x, dx, t, b, rfl, _⟩ := h
    rfl
  · obtain ⟨x, dx, t, b, rfl, hx, hb, sb, q⟩ := h
    refine ⟨_, (pss_cons (ps_if (pt_not (pt_val (pe_call G_is_whole (hr.mono (by decide)) rfl T.g_is_whole T.F_is_whole.kp T.b_is_whole .nil pass0 (pa_cons (pv 1) pa_nil)))) (pss_one ps_never) pss_nil)
  (pss_cons (ps_if (pt_not (pt_val (pe_call G_is_whole (hr.mono (by decide)) rfl T.g_is_whole T.F_is_whole.kp T.b_is_whole .nil pass0 (pa_cons (pv 2) pa_nil)))) (pss_one ps_never) pss_nil)
  (pss_cons (ps_if (pt_cmpR op_eq (pv 2) pe_int (nomark _)) (pss_one ps_never) pss_nil)
  (pss_cons (ps_set (i := 3) sc_Ratio___init__.nd rfl (.inl rfl) (pe_callBfun cr_gcd rfl T.g_gcd (pa_cons (pv 1) (pa_cons (pv 2) pa_nil))))
  (pss_cut (ps_if (pt_cmpR op_lt (pv 2) pe_int (nomark _)) (pss_one (ps_set (i := 3) sc_Ratio___init__.nd rfl (.inl rfl) (pe_un un_neg (pv 3)))) pss_nil)
  (pss_cons (ps_fld (pv 0) (pe_op op_fdivA (pv 1) (pv 3)) rfl)
  (pss_one (ps_fld (pv 0) (pe_op op_fdivA (pv 2) (pv 3)) rfl)))))))), ?_⟩
    refine ⟨_, rfl, _, _, rfl, whole_int t, true, rfl, iteF ?_⟩
    refine ⟨_, rfl, _, _, rfl, whole_int b, true, rfl, iteF ?_⟩
    have e0 : decide (V.int b = V.int 0) = false := decide_eq_false fun z => hb (V.int.inj z)
    refine ⟨_, rfl, rfl, _, rfl, ?_⟩
    rw [e0]
    refine iteF ⟨_, rfl, _, rfl, t, b, rfl, ?_⟩
    obtain ⟨g0, gl, nm⟩ := Norm.make (t := t) hb _ rfl
    refine ⟨fun σ' H' => H' = H ∧ ∃ g : Int, (g ≠ 0 ∧ g.natAbs ≤ b.natAbs ∧ Norm t b (t.fdiv g) (b.fdiv g)) ∧ σ' = [some (.ref x), some (.int t), some (.int b), some (.int g)], ?_, ?_⟩
    · refine ⟨_, rfl, _, _, rfl, rfl, _, rfl, ?_⟩
      by_cases hneg : b < 0
      · rw [if_pos hneg] at g0 gl nm
        rw [decide_eq_true hneg]
        exact iteT ⟨_, rfl, _, rfl, rfl, _, ⟨g0, gl, nm⟩, rfl⟩
      · rw [if_neg hneg] at g0 gl nm
        rw [decide_eq_false hneg]
        exact iteF ⟨rfl, _, ⟨g0, gl, nm⟩, rfl⟩
    · rintro σ' H' ⟨rfl, g, ⟨h0, h1, hn⟩, rfl⟩
      have sg : Sm g := sb.le h1
      refine ⟨_, rfl, _, rfl, t, g, rfl, rfl, Sm.div h0 sg, _, rfl, x, A.Ratio, dx, _, rfl, hx, T.k_Ratio.cl, T.k_Ratio.n_top, (by show 0 < 1000; decide), ?_⟩
      refine ⟨_, rfl, _, rfl, b, g, rfl, rfl, Sm.div h0 sg, _, rfl, x, A.Ratio, dx, _, rfl, upd_same, T.k_Ratio.cl, T.k_Ratio.n_bottom, (by show 1 < 1000; decide), ?_⟩
      show Q .non _
      rw [upd_upd]
      obtain ⟨e1, e2⟩ := hn.rat
      have e3 : (HO.ins A.Ratio dx [("top", .int (t.fdiv g)), ("bottom", .int (b.fdiv g))]) = ratO A.Ratio dx ((t : Rat) / (b : Rat)) := by
        show _ = HO.ins A.Ratio dx [("top", .int _), ("bottom", .int _)]
        rw [e1, e2]
      exact e3 ▸ q
def sp_gap (C : Addr) : Sp := fun vs H Q _ => ∃ x y a b, vs = [x, y] ∧ RatV C H x a ∧ NumV C H y b ∧ Bd 3900 3900 a ∧ Bd 3900 3900 b ∧ Q (.int (a.num * (b.den : Int) - b.num * (a.den : Int))) H
theorem ok__gap (T : Txt K mg A D) : FnOk P w K mg base CX0 1 A.f__gap D.f__gap ["one", "other"] (sp_gap A.Ratio) := by
  skip
  refine T.F__gap.ok sc__gap (fun vs H Q E h => ?_) (fun cdv A' outer s H vs Q E hr h => ?_)
  · obtain ⟨x, y, a, b, rfl, _⟩ := h
    rfl
  · obtain ⟨x, y, a, b, rfl, ⟨p, dx, rfl, hp⟩, hy, ba, bb, q⟩ := h
    refine ⟨_, (pss_cons (ps_if (pt_val (pe_callB call_isi rfl T.z_isinstance (by decide +kernel) (pa_cons (pv 1) (pa_cons (pe_glob (v := .ref A.Ratio) rfl T.g_Ratio rfl) pa_nil)))) (pss_one (ps_ret (pe_op op_sub (pe_op op_mulW (pe_fld (pv 0) rfl) (pe_fld (pv 1) rfl)) (pe_op op_mulW (pe_fld (pv 1) rfl) (pe_fld (pv 0) rfl))))) pss_nil)
  (pss_one (ps_ret (pe_op op_sub (pe_fld (pv 0) rfl) (pe_op op_mulW (pv 1) (pe_fld (pv 0) rfl)))))), ?_⟩
    have cl := T.k_Ratio.cl
    have nt := T.k_Ratio.n_top
    have nb := T.k_Ratio.n_bottom
    have s1 := ba.s1 (by decide)
    have s2 := ba.s2 (by decide)
    have s3 := bb.s1 (by decide)
    have s4 := bb.s2 (by decide)
    rcases hy with ⟨i, rfl, rfl⟩ | ⟨c, dy, rfl, hc⟩
    · refine ⟨_, rfl, .int i, .ref A.Ratio, _, _, false, rfl, .own _, .base (.int i), T.k_Ratio.ik, false, rfl, iteF ?_⟩
      refine ⟨_, rfl, p, A.Ratio, dx, _, _, rfl, hp, cl, nt, rfl, ?_⟩
      obtain ⟨e1, e2⟩ := int_parts i
      rw [e1] at s3
      refine ⟨_, rfl, _, rfl, p, A.Ratio, dx, _, _, rfl, hp, cl, nb, rfl, _, _, rfl, rfl, Sm.mul s3 s2, _, _, rfl, rfl, ?_⟩
      rw [e1, e2, Int.mul_one] at q
      exact q
    · refine ⟨_, rfl, .ref c, .ref A.Ratio, _, _, true, rfl, .own _, T.k_Ratio.ty hc, kit_self, true, rfl, iteT ?_⟩
      refine ⟨_, rfl, p, A.Ratio, dx, _, _, rfl, hp, cl, nt, rfl, _, rfl, c, A.Ratio, dy, _, _, rfl, hc, cl, nb, rfl, _, _, rfl, rfl, Sm.mul s1 s4, ?_⟩
      exact ⟨_, rfl, c, A.Ratio, dy, _, _, rfl, hc, cl, nt, rfl, _, rfl, p, A.Ratio, dx, _, _, rfl, hp, cl, nb, rfl, _, _, rfl, rfl, Sm.mul s3 s2, _, _, rfl, rfl, q⟩
/-- a comparison -/
def sp_cmp (C : Addr) (r : Rat → Rat → Bool) : Sp := fun vs H Q _ => ∃ x y a b, vs = [x, y] ∧ RatV C H x a ∧ NumV C H y b ∧ Bd 3900 3900 a ∧ Bd 3900 3900 b ∧ Q (.bl (r a b)) H
abbrev r_eq : Rat → Rat → Bool := fun a b => decide (a = b)
abbrev r_lt : Rat → Rat → Bool := fun a b => decide (a < b)
abbrev r_le : Rat → Rat → Bool := fun a b => decide (a ≤ b)
abbrev r_gt : Rat → Rat → Bool := fun a b => decide (b < a)
abbrev r_ge : Rat → Rat → Bool := fun a b => decide (b ≤ a)
theorem gap_eq' (x y : Rat) : decide (V.int (x.num * (y.den : Int) - y.num * (x.den : Int)) = V.int 0) = decide (x = y) := by
  rw [Bool.eq_iff_iff, decide_eq_true_iff, decide_eq_true_iff, gap_eq]
  exact ⟨V.int.inj, fun e => by rw [e]⟩
theorem gap_gt (x y : Rat) : y < x ↔ 0 < x.num * (y.den : Int) - y.num * (x.den : Int) := by
  rw [gap_lt]
  omega
theorem gap_ge (x y : Rat) : y ≤ x ↔ 0 ≤ x.num * (y.den : Int) - y.num * (x.den : Int) := by
  rw [gap_le]
  omega
theorem ok_Ratio___eq__ (T : Txt K mg A D) : FnOk P w K mg base CX0 3 A.f_Ratio___eq__ D.f_Ratio___eq__ ["self", "other"] (sp_cmp A.Ratio r_eq) := by
  have G__gap : FnOk P w K mg base CX0 1 A.f__gap D.f__gap ["one", "other"] (sp_gap A.Ratio) := ok__gap T
  have G_is_number : FnOk P w K mg base CX0 2 A.f_is_number D.f_is_number ["x"] (sp_isnum K A.Ratio) := ok_is_number T
  refine T.F_Ratio___eq__.ok sc_Ratio___eq__ (fun vs H Q E h => ?_) (fun cdv A' outer s H vs Q E hr h => ?_)
  · obtain ⟨x, y, a, b, rfl, _⟩ := h
    rfl
  · obtain ⟨x, y, a, b, rfl, hx, hy, ba, bb, q⟩ := h
    refine ⟨_, (pss_cons (ps_if (pt_not (pt_val (pe_call G_is_number (hr.mono (by decide)) rfl T.g_is_number T.F_is_number.kp T.b_is_number .nil pass0 (pa_cons (pv 1) pa_nil)))) (pss_one ps_never) pss_nil)
  (pss_one (ps_ret (pe_cmpR op_eq (pe_call G__gap (hr.mono (by decide)) rfl T.g__gap T.F__gap.kp T.b__gap .nil pass0 (pa_cons (pv 0) (pa_cons (pv 1) pa_nil))) pe_int (nomark _))))), ?_⟩
    refine ⟨_, rfl, _, rfl, .inl ⟨hy.kind, true, rfl, iteF ?_⟩⟩
    refine ⟨_, rfl, _, rfl, _, _, _, _, rfl, hx, hy, ba, bb, rfl, ?_⟩
    show Q (.bl (decide (V.int (a.num * (b.den : Int) - b.num * (a.den : Int)) = V.int 0))) H
    rw [gap_eq']
    exact q
def sp_ratio_of (C : Addr) : Sp := fun vs H Q _ => ∃ x a, vs = [x] ∧ NumV C H x a ∧ ∀ H' v, Same H H' → RatV C H' v a → Q v H'
theorem one_div (i : Int) : (i : Rat) / ((1 : Int) : Rat) = (i : Rat) := div_eq (by decide) (by rw [Rat.intCast_one, Rat.mul_one])
theorem so : Sm 1 := .ab (by decide) (by decide)
theorem ok_ratio_of (T : Txt K mg A D) : FnOk P w K mg base CX0 4 A.f_ratio_of D.f_ratio_of ["number"] (sp_ratio_of A.Ratio) := by
  have G_Ratio_init : FnOk P w K mg base CX0 2 A.f_Ratio___init__ D.f_Ratio___init__ ["self", "top", "bottom"] (sp_init A.Ratio) := ok_Ratio___init__ T
  obtain ⟨ds1, d_Ratio_init1, b_Ratio_init1⟩ := T.b1_Ratio___init__
  refine T.F_ratio_of.ok sc_ratio_of (fun vs H Q E h => ?_) (fun cdv A' outer s H vs Q E hr h => ?_)
  · obtain ⟨x, a, rfl, _⟩ := h
    rfl
  · obtain ⟨x, a, rfl, hx, q⟩ := h
    refine ⟨_, (pss_cons (ps_if (pt_val (pe_callB call_isi rfl T.z_isinstance (by decide +kernel) (pa_cons (pv 0) (pa_cons (pe_glob (v := .ref A.Ratio) rfl T.g_Ratio rfl) pa_nil)))) (pss_one (ps_ret (pv 0))) pss_nil)
  (pss_one (ps_ret (pe_make T.M_Ratio G_Ratio_init (hr.mono (by decide)) rfl T.g_Ratio b_Ratio_init1 d_Ratio_init1 pass0 (pa_cons (pv 0) pa_nil))))), ?_⟩
    rcases hx with ⟨i, rfl, rfl⟩ | ⟨c, dy, rfl, hc⟩
    · refine ⟨_, rfl, .int i, .ref A.Ratio, _, _, false, rfl, .own _, .base (.int i), T.k_Ratio.ik, false, rfl, iteF ?_⟩
      exact ⟨_, rfl, fun x dx nx nd ne => rat_make (by decide) so nx nd ne fun G s r => q G _ s (r.to (one_div i))⟩
    · refine ⟨_, rfl, .ref c, .ref A.Ratio, _, _, true, rfl, .own _, T.k_Ratio.ty hc, kit_self, true, rfl, iteT ?_⟩
      exact ⟨_, rfl, q _ _ (Same.refl H) ⟨c, dy, rfl, hc⟩⟩
/-- two Ratios in, a Ratio out -/
def sp_put (C : Addr) (f : Rat → Rat → Rat) : Sp := fun vs H Q _ => ∃ x y a b, vs = [x, y] ∧ RatV C H x a ∧ RatV C H y b ∧ Bd 1990 1990 a ∧ Bd 1990 1990 b ∧ ∀ H' v, Same H H' → RatV C H' v (f a b) → Q v H'
/-- a Ratio and a number in, a Ratio out -/
def sp_bin (C : Addr) (f : Rat → Rat → Rat) : Sp := fun vs H Q _ => ∃ x y a b, vs = [x, y] ∧ RatV C H x a ∧ NumV C H y b ∧ Bd 1990 1990 a ∧ Bd 1990 1990 b ∧ ∀ H' v, Same H H' → RatV C H' v (f a b) → Q v H'
/-- the same, the number on the left -/
def sp_rbin (C : Addr) (f : Rat → Rat → Rat) : Sp := fun vs H Q _ => ∃ x y a b, vs = [x, y] ∧ RatV C H x a ∧ NumV C H y b ∧ Bd 1990 1990 a ∧ Bd 1990 1990 b ∧ ∀ H' v, Same H H' → RatV C H' v (f b a) → Q v H'
abbrev f_sum : Rat → Rat → Rat := fun a b => a + b
abbrev f_dif : Rat → Rat → Rat := fun a b => a - b
abbrev f_pro : Rat → Rat → Rat := fun a b => a * b
theorem dd_sm {a b : Rat} (ba : Bd 1990 1990 a) (bb : Bd 1990 1990 b) : Sm ((a.den : Int) * (b.den : Int)) := sm_of (nmul ba.d bb.d) (by decide)
theorem ok__difference (T : Txt K mg A D) : FnOk P w K mg base CX0 4 A.f__difference D.f__difference ["one", "other"] (sp_put A.Ratio f_dif) := by
  have G_Ratio_init : FnOk P w K mg base CX0 2 A.f_Ratio___init__ D.f_Ratio___init__ ["self", "top", "bottom"] (sp_init A.Ratio) := ok_Ratio___init__ T
  have b_Ratio_init2 := T.b_Ratio___init__
  have d_Ratio_init2 : Vals [] [] := .nil
  refine T.F__difference.ok sc__difference (fun vs H Q E h => ?_) (fun cdv A' outer s H vs Q E hr h => ?_)
  · obtain ⟨x, y, a, b, rfl, _⟩ := h
    rfl
  · obtain ⟨x, y, a, b, rfl, ⟨p, dx, rfl, hp⟩, ⟨c, dy, rfl, hc⟩, ba, bb, q⟩ := h
    refine ⟨_, (pss_one (ps_ret (pe_make T.M_Ratio G_Ratio_init (hr.mono (by decide)) rfl T.g_Ratio b_Ratio_init2 d_Ratio_init2 pass0 (pa_cons (pe_op op_sub (pe_op op_mulW (pe_fld (pv 0) rfl) (pe_fld (pv 1) rfl)) (pe_op op_mulW (pe_fld (pv 1) rfl) (pe_fld (pv 0) rfl))) (pa_cons (pe_op op_mulW (pe_fld (pv 0) rfl) (pe_fld (pv 1) rfl)) pa_nil))))), ?_⟩
    have cl := T.k_Ratio.cl
    have nt := T.k_Ratio.n_top
    have nb := T.k_Ratio.n_bottom
    have s1 := ba.s1 (by decide)
    have s2 := ba.s2 (by decide)
    have s3 := bb.s1 (by decide)
    have s4 := bb.s2 (by decide)
    refine ⟨_, rfl, p, A.Ratio, dx, _, _, rfl, hp, cl, nt, rfl, _, rfl, c, A.Ratio, dy, _, _, rfl, hc, cl, nb, rfl, _, _, rfl, rfl, s1.mul s4, ?_⟩
    refine ⟨_, rfl, c, A.Ratio, dy, _, _, rfl, hc, cl, nt, rfl, _, rfl, p, A.Ratio, dx, _, _, rfl, hp, cl, nb, rfl, _, _, rfl, rfl, s3.mul s2, _, _, rfl, rfl, ?_⟩
    refine ⟨_, rfl, p, A.Ratio, dx, _, _, rfl, hp, cl, nb, rfl, _, rfl, c, A.Ratio, dy, _, _, rfl, hc, cl, nb, rfl, _, _, rfl, rfl, s2.mul s4, ?_⟩
    exact fun x dx nx nd ne => rat_make (dd_ne a b) (dd_sm ba bb) nx nd ne fun G s r => q G _ s (r.to (div_eq (dd_ne a b) (sub_q a b)))
theorem ok_Ratio___sub__ (T : Txt K mg A D) : FnOk P w K mg base CX0 5 A.f_Ratio___sub__ D.f_Ratio___sub__ ["self", "other"] (sp_bin A.Ratio f_dif) := by
  have G__difference : FnOk P w K mg base CX0 4 A.f__difference D.f__difference ["one", "other"] (sp_put A.Ratio f_dif) := ok__difference T
  have G_is_number : FnOk P w K mg base CX0 2 A.f_is_number D.f_is_number ["x"] (sp_isnum K A.Ratio) := ok_is_number T
  have G_ratio_of : FnOk P w K mg base CX0 4 A.f_ratio_of D.f_ratio_of ["number"] (sp_ratio_of A.Ratio) := ok_ratio_of T
  refine T.F_Ratio___sub__.ok sc_Ratio___sub__ (fun vs H Q E h => ?_) (fun cdv A' outer s H vs Q E hr h => ?_)
  · obtain ⟨x, y, a, b, rfl, _⟩ := h
    rfl
  · obtain ⟨x, y, a, b, rfl, hx, hy, ba, bb, q⟩ := h
    refine ⟨_, (pss_cons (ps_if (pt_not (pt_val (pe_call G_is_number (hr.mono (by decide)) rfl T.g_is_number T.F_is_number.kp T.b_is_number .nil pass0 (pa_cons (pv 1) pa_nil)))) (pss_one ps_never) pss_nil)
  (pss_one (ps_ret (pe_call G__difference (hr.mono (by decide)) rfl T.g__difference T.F__difference.kp T.b__difference .nil pass0 (pa_cons (pv 0) (pa_cons (pe_call G_ratio_of (hr.mono (by decide)) rfl T.g_ratio_of T.F_ratio_of.kp T.b_ratio_of .nil pass0 (pa_cons (pv 1) pa_nil)) pa_nil)))))), ?_⟩
    refine ⟨_, rfl, _, rfl, .inl ⟨hy.kind, true, rfl, iteF ?_⟩⟩
    exact ⟨_, rfl, _, rfl, _, _, rfl, hy, fun H1 v s1 r1 => ⟨_, _, _, _, rfl, hx.same s1, r1, ba, bb, fun H' u s2 r2 => q _ _ (s1.trans s2) r2⟩⟩
def sp_neg (C : Addr) : Sp := fun vs H Q _ => ∃ x a, vs = [x] ∧ RatV C H x a ∧ Bd 3900 3900 a ∧ ∀ H' v, Same H H' → RatV C H' v (-a) → Q v H'
theorem neg_q (x : Rat) : (-x) * ((x.den : Int) : Rat) = ((-x.num : Int) : Rat) := by
  rw [Rat.intCast_neg, num_is]
  grind
theorem ok_Ratio___neg__ (T : Txt K mg A D) : FnOk P w K mg base CX0 4 A.f_Ratio___neg__ D.f_Ratio___neg__ ["self"] (sp_neg A.Ratio) := by
  have G_Ratio_init : FnOk P w K mg base CX0 2 A.f_Ratio___init__ D.f_Ratio___init__ ["self", "top", "bottom"] (sp_init A.Ratio) := ok_Ratio___init__ T
  have b_Ratio_init2 := T.b_Ratio___init__
  have d_Ratio_init2 : Vals [] [] := .nil
  refine T.F_Ratio___neg__.ok sc_Ratio___neg__ (fun vs H Q E h => ?_) (fun cdv A' outer s H vs Q E hr h => ?_)
  · obtain ⟨x, a, rfl, _⟩ := h
    rfl
  · obtain ⟨x, a, rfl, ⟨p, dx, rfl, hp⟩, ba, q⟩ := h
    refine ⟨_, (pss_one (ps_ret (pe_make T.M_Ratio G_Ratio_init (hr.mono (by decide)) rfl T.g_Ratio b_Ratio_init2 d_Ratio_init2 pass0 (pa_cons (pe_un un_neg (pe_fld (pv 0) rfl)) (pa_cons (pe_fld (pv 0) rfl) pa_nil))))), ?_⟩
    have cl := T.k_Ratio.cl
    have d0 : (a.den : Int) ≠ 0 := by have := den_pos a; omega
    refine ⟨_, rfl, p, A.Ratio, dx, _, _, rfl, hp, cl, T.k_Ratio.n_top, rfl, _, rfl, ?_⟩
    refine ⟨_, rfl, p, A.Ratio, dx, _, _, rfl, hp, cl, T.k_Ratio.n_bottom, rfl, ?_⟩
    exact fun x dx nx nd ne => rat_make d0 (ba.s2 (by decide)) nx nd ne fun G s r => q G _ s (r.to (div_eq d0 (neg_q a)))
def sp_over (C : Addr) : Sp := fun vs H Q _ => ∃ x y a b, vs = [x, y] ∧ RatV C H x a ∧ NumV C H y b ∧ b ≠ 0 ∧ Bd 1990 1990 a ∧ Bd 1990 1990 b ∧ ∀ H' v, Same H H' → RatV C H' v (a / b) → Q v H'
theorem ok_Ratio_over (T : Txt K mg A D) : FnOk P w K mg base CX0 5 A.f_Ratio_over D.f_Ratio_over ["self", "other"] (sp_over A.Ratio) := by
  have G_Ratio_init : FnOk P w K mg base CX0 2 A.f_Ratio___init__ D.f_Ratio___init__ ["self", "top", "bottom"] (sp_init A.Ratio) := ok_Ratio___init__ T
  have b_Ratio_init2 := T.b_Ratio___init__
  have d_Ratio_init2 : Vals [] [] := .nil
  have G_ratio_of : FnOk P w K mg base CX0 4 A.f_ratio_of D.f_ratio_of ["number"] (sp_ratio_of A.Ratio) := ok_ratio_of T
  refine T.F_Ratio_over.ok sc_Ratio_over (fun vs H Q E h => ?_) (fun cdv A' outer s H vs Q E hr h => ?_)
  · obtain ⟨x, y, a, b, rfl, _⟩ := h
    rfl
  · obtain ⟨x, y, a, b, rfl, hx, hy, hb, ba, bb, q⟩ := h
    refine ⟨_, (pss_cons (ps_set (i := 2) sc_Ratio_over.nd rfl (.inl rfl) (pe_call G_ratio_of (hr.mono (by decide)) rfl T.g_ratio_of T.F_ratio_of.kp T.b_ratio_of .nil pass0 (pa_cons (pv 1) pa_nil)))
  (pss_cons (ps_if (pt_cmpR op_eq (pe_fld (pv 2) rfl) pe_int (nomark _)) (pss_one ps_never) pss_nil)
  (pss_one (ps_ret (pe_make T.M_Ratio G_Ratio_init (hr.mono (by decide)) rfl T.g_Ratio b_Ratio_init2 d_Ratio_init2 pass0 (pa_cons (pe_op op_mulW (pe_fld (pv 0) rfl) (pe_fld (pv 2) rfl)) (pa_cons (pe_op op_mulW (pe_fld (pv 0) rfl) (pe_fld (pv 2) rfl)) pa_nil))))))), ?_⟩
    have cl := T.k_Ratio.cl
    have nt := T.k_Ratio.n_top
    have nb := T.k_Ratio.n_bottom
    have s1 := ba.s1 (by decide)
    have s2 := ba.s2 (by decide)
    have s3 := bb.s1 (by decide)
    have s4 := bb.s2 (by decide)
    refine ⟨_, rfl, _, _, rfl, hy, fun H1 v k1 r1 => ?_⟩
    obtain ⟨p, dx, rfl, hp⟩ := hx.same k1
    obtain ⟨c, dy, rfl, hc⟩ := r1
    have n0 := num_ne hb
    refine ⟨_, rfl, c, A.Ratio, dy, _, _, rfl, hc, cl, nt, rfl, rfl, _, rfl, iteFe (decide_eq_false fun z => n0 (V.int.inj z)) ?_⟩
    refine ⟨_, rfl, p, A.Ratio, dx, _, _, rfl, hp, cl, nt, rfl, _, rfl, c, A.Ratio, dy, _, _, rfl, hc, cl, nb, rfl, _, _, rfl, rfl, s1.mul s4, ?_⟩
    refine ⟨_, rfl, p, A.Ratio, dx, _, _, rfl, hp, cl, nb, rfl, _, rfl, c, A.Ratio, dy, _, _, rfl, hc, cl, nt, rfl, _, _, rfl, rfl, s2.mul s3, ?_⟩
    have d0 : (a.den : Int) * b.num ≠ 0 := Int.mul_ne_zero (by have := den_pos a; omega) n0
    exact fun x dx nx nd ne => rat_make d0 (sm_of (nmul ba.d bb.top) (by decide)) nx nd ne fun G s r => q G _ (k1.trans s) (r.to (div_eq d0 (over_q hb)))
end

end Mo

namespace Mo
open PySem PySem.Spec PyProof.Rows L2 MoL MoW
open C8 (pss_cut tCut)
section
variable {P : Program} {w : World} {K : PySem.W.Frag} {mg : Str → Option Value} {base : Heap} {A : Ad} {D : Fd}
def sp_rown (C : Addr) : Sp := fun vs H Q _ => ∃ v xs f, vs = [v] ∧ SeqAt H v xs ∧ NumsV C H xs f ∧ 0 < xs.length ∧ xs.length ≤ 13 ∧
  ∀ H' d ys, Same H H' → H d = none → H' d = some (.lst ys) → ys.length = xs.length → RatsV C H' ys f → Q (.ref d) H'
theorem ok_row_numbers (T : Txt K mg A D) : FnOk P w K mg base CX0 6 A.f_row_numbers D.f_row_numbers ["row"] (sp_rown A.Ratio) := by
  obtain ⟨tok_MOST_NUMBERS, gc_MOST_NUMBERS⟩ := T.g_MOST_NUMBERS
  have G_is_number : FnOk P w K mg base CX0 2 A.f_is_number D.f_is_number ["x"] (sp_isnum K A.Ratio) := ok_is_number T
  have G_ratio_of : FnOk P w K mg base CX0 4 A.f_ratio_of D.f_ratio_of ["number"] (sp_ratio_of A.Ratio) := ok_ratio_of T
  refine T.F_row_numbers.ok sc_row_numbers (fun vs H Q E h => ?_) (fun cdv A' outer s H vs Q E hr h => ?_)
  · obtain ⟨v, xs, f, rfl, _⟩ := h
    rfl
  · obtain ⟨v, xs, f, rfl, ⟨a, rfl, ha⟩, rr, l0, l1, q⟩ := h
    refine ⟨_, (pss_cons (ps_if (PW.pt (pw_or (pt_not (pt_val (pe_callB call_isiT rfl T.z_isinstance (by decide +kernel) (pa_cons (pv 0) (pa_cons (pe_tup (pa_cons (pe_bltn (v := .ty "list") rfl T.z_list (by decide +kernel) rfl) (pa_cons (pe_bltn (v := .ty "tuple") rfl T.z_tuple (by decide +kernel) rfl) pa_nil))) pa_nil))))) (pw_or (pt_cmpR op_eq (pe_callB call_len_seq rfl T.z_len (by decide +kernel) (pa_cons (pv 0) pa_nil)) pe_int (nomark _)) (pw_or1 (pt_cmpR op_gt (pe_callB call_len_seq rfl T.z_len (by decide +kernel) (pa_cons (pv 0) pa_nil)) (pe_glob (v := .int 13) rfl gc_MOST_NUMBERS ⟨_, rfl⟩) (nomark _)))))) (pss_one ps_never) pss_nil)
  (pss_cons (ps_for PassesOwn.never rfl (pi_range1 rfl T.z_range (pa_cons (pe_callB call_len_seq rfl T.z_len (by decide +kernel) (pa_cons (pv 0) pa_nil)) pa_nil)) (pg_name (i := 1) sc_row_numbers.nd rfl (.inl rfl)) (pss_one (ps_if (pt_not (pt_val (pe_call G_is_number (hr.mono (by decide)) rfl T.g_is_number T.F_is_number.kp T.b_is_number .nil pass0 (pa_cons (pe_ix (ix_list.or ix_tup) (pv 0) (pv 1) (fun _ _ => rfl)) pa_nil)))) (pss_one ps_never) pss_nil)))
  (pss_one (ps_ret (pe_lc (own := [("number", 2)]) (g := gName 2) (tt := tYes) rfl sc_row_numbers.nd (pi_or (pi_list (pv 0)) (pi_tup (pv 0))) (blkOk_by (N := N_row_numbers) (sc := defScope s_row_numbers) (by decide +kernel)) (fun _ _ _ _ _ => (pg_name (i := 2) sc_row_numbers.nd rfl (.inl rfl))) (fun _ _ _ _ _ => pts_nil) (fun _ _ _ _ _ => (pe_call G_ratio_of (hr.mono (by decide)) rfl T.g_ratio_of T.F_ratio_of.kp T.b_ratio_of .nil pass0 (pa_cons (pv 2) pa_nil)))))))), ?_⟩
    refine ⟨_, rfl, by show 2 ≤ sizeLine; decide, fun tp nt => ?_⟩
    have s1 : Same H (upd H tp (.tup [.ty "list", .ty "tuple"])) := same_upd nt
    have ha1 := ha.imp (s1 a _) (s1 a _)
    obtain ⟨t, ty, ka⟩ := kit_seq (K := K) ha1
    refine ⟨.ref a, tp, _, t, _, true, rfl, upd_same, .cons (.ty _) (.cons (.ty _) .nil), ty, ka, true, rfl, iteF ?_⟩
    have rr1 := rr.same s1
    clear ty ka rr
    generalize upd H tp (.tup [.ty "list", .ty "tuple"]) = H1 at s1 ha1 rr1
    have sq : SqL K H1 a xs ∨ SqT K H1 a xs := ha1.imp SqL.of SqT.of
    refine ⟨_, rfl, a, xs, rfl, sq, rfl, _, rfl, iteFe (decide_eq_false fun z => by have := V.int.inj z; omega) ?_⟩
    refine ⟨_, rfl, a, xs, rfl, sq, _, _, rfl, rfl, _, rfl, iteFe (decide_eq_false (by omega)) ?_⟩
    refine ⟨_, rfl, a, xs, rfl, sq, _, rfl, by omega, by omega, ?_⟩
    refine for_range (lo := 0) (fun i σ H' => H' = H1 ∧ ∃ y : Option V, σ = [some (.ref a), y, none]) ⟨rfl, _, rfl⟩ ?_ ?_
    · rintro i σ H' hi ⟨rfl, y, rfl⟩
      have hl : i < xs.length := by omega
      have hx := List.getElem?_eq_getElem hl
      have hat : atI xs (0 + (i : Int)) = some xs[i] := at_get hx
      have hk := (rr1 i _ hx).kind
      rcases ha1 with h | h
      · exact ⟨_, rfl, _, rfl, .inl ⟨a, xs, _, _, rfl, rfl, .of h, hat, _, rfl, .inl ⟨hk, true, rfl, iteF ⟨rfl, _, rfl⟩⟩⟩⟩
      · exact ⟨_, rfl, _, rfl, .inr ⟨a, xs, _, _, rfl, rfl, .of h, hat, _, rfl, .inl ⟨hk, true, rfl, iteF ⟨rfl, _, rfl⟩⟩⟩⟩
    · rintro σ H' ⟨rfl, y, rfl⟩
      refine lc_seq ha1 (fun R r => ⟨_, rfl, r⟩) (fun R r => ⟨_, rfl, r⟩) (fun d i E => Gro A.Ratio H' d f i E) (fun d nd => .start nd) (fun d i E _ p => p.1) ?_ ?_
      · rintro d i z E nd hz p
        exact ⟨rfl, _, rfl, z, f i, rfl, (rr1 i z hz).same p.1, fun G2 v s2 r2 => p.push nd (by have := get_lt hz; omega) s2 r2⟩
      · rintro d E nd ⟨sm, ys, hy, hd, hr⟩
        exact q E d ys (s1.trans sm) (s1.free nd) hd hy hr
/-- these integers are the values f 0, f 1, .. times B -/
def TopsV (B : Int) (ts : List Int) (f : Nat → Rat) : Prop := ∀ (k : Nat) (t : Int), ts[k]? = some t → (t : Rat) = f k * (B : Rat)
theorem getD_at {ts : List Int} {i : Nat} (h : i < ts.length) : ts[i]? = some (ts.getD i 0) := by
  rw [List.getD_eq_getElem?_getD, List.getElem?_eq_getElem h]
  rfl
theorem TopsV.get {B : Int} {ts : List Int} {f : Nat → Rat} (h : TopsV B ts f) {i : Nat} (hi : i < ts.length) : ((ts.getD i 0 : Int) : Rat) = f i * (B : Rat) := h i _ (getD_at hi)
theorem getD_out {ts : List Int} {i : Nat} (h : ts.length ≤ i) : ts.getD i 0 = 0 := by
  rw [List.getD_eq_getElem?_getD, List.getElem?_eq_none h]
  rfl
theorem atI_getD {ts : List Int} {i : Nat} (h : i < ts.length) : atI (ts.map V.int) (0 + (i : Int)) = some (V.int (ts.getD i 0)) := by
  refine at_get ?_
  rw [List.getElem?_map, getD_at h]
  rfl
/-- sizes of all of them -/
def TopsB (e : Nat) (ts : List Int) : Prop := ∀ k, (ts.getD k 0).natAbs < 2 ^ e
theorem TopsB.mono {e e' : Nat} {ts : List Int} (h : TopsB e ts) (l : e ≤ e') : TopsB e' ts := fun k => nle (h k) l
theorem TopsB.of {e : Nat} {ts : List Int} (h : ∀ (k : Nat) (t : Int), ts[k]? = some t → t.natAbs < 2 ^ e) : TopsB e ts := fun k => by
  rcases Nat.lt_or_ge k ts.length with c | c
  · exact h k _ (getD_at c)
  · rw [getD_out c]
    exact Nat.two_pow_pos _
def sp_parts (C : Addr) : Sp := fun vs H Q _ => ∃ v xs f n m, vs = [v] ∧ SeqAt H v xs ∧ RatsV C H xs f ∧ (∀ k, k < xs.length → Bd n m (f k)) ∧ xs.length ≤ 60 ∧ n + m * xs.length + 1 ≤ 3990 ∧
  ∀ H' tp l ts B, Same H H' → H' tp = some (.tup [.ref l, .int B]) → H' l = some (.lst (ts.map V.int)) → ts.length = xs.length → 0 < B → B.natAbs < 2 ^ (m * xs.length + 1) → TopsV B ts f → TopsB (n + m * xs.length + 1) ts → Q (.ref tp) H'
theorem tops_make {B g b : Int} {z : Rat} (hb : (z.den : Int) = b) (h : B = b * g) : ((z.num * g : Int) : Rat) = z * (B : Rat) := by
  rw [h, Rat.intCast_mul, Rat.intCast_mul, num_is, hb]
  grind
theorem ok_whole_parts (T : Txt K mg A D) : FnOk P w K mg base CX0 2 A.f_whole_parts D.f_whole_parts ["ratios"] (sp_parts A.Ratio) := by
  skip
  refine T.F_whole_parts.ok sc_whole_parts (fun vs H Q E h => ?_) (fun cdv A' outer s H vs Q E hr h => ?_)
  · obtain ⟨v, xs, f, n, m, rfl, _⟩ := h
    rfl
  · obtain ⟨v, xs, f, n, m, rfl, ⟨a, rfl, ha⟩, rr, hb, l1, hs, q⟩ := h
    refine ⟨_, (pss_cons (ps_set (i := 1) sc_whole_parts.nd rfl (.inr rfl) pe_int)
  (pss_cons (ps_for PassesOwn.never rfl (pi_or (pi_list (pv 0)) (pi_tup (pv 0))) (pg_name (i := 2) sc_whole_parts.nd rfl (.inl rfl)) (pss_one (ps_set (i := 1) sc_whole_parts.nd rfl (.inr rfl) (pe_callBfun cr_lcm rfl T.g_lcm (pa_cons (pv 1) (pa_cons (pe_fld (pv 2) rfl) pa_nil))))))
  (pss_one (ps_ret (pe_tup (pa_cons (pe_lc (own := [("number", 2)]) (g := gName 2) (tt := tYes) rfl sc_whole_parts.nd (pi_or (pi_list (pv 0)) (pi_tup (pv 0))) (blkOk_by (N := N_whole_parts) (sc := defScope s_whole_parts) (by decide +kernel)) (fun _ _ _ _ _ => (pg_name (i := 2) sc_whole_parts.nd rfl (.inl rfl))) (fun _ _ _ _ _ => pts_nil) (fun _ _ _ _ _ => (pe_op op_mulW (pe_fldK (K := K) rfl (pv 2) rfl) (pe_op op_fdivA (pv 1) (pe_fldK (K := K) rfl (pv 2) rfl))))) (pa_cons (pv 1) pa_nil))))))), ?_⟩
    have cl := T.k_Ratio.cl
    have nt := T.k_Ratio.n_top
    have nb := T.k_Ratio.n_bottom
    have bi : ∀ i, i ≤ xs.length → 2 ^ (m * i) ≤ 2 ^ (m * xs.length) := fun i hi => two_le (Nat.mul_le_mul_left m hi)
    have b1' : 2 ^ (m * xs.length + 1) = 2 * 2 ^ (m * xs.length) := by rw [Nat.pow_succ]; omega
    refine for_seq ha (fun R r => ⟨_, rfl, r⟩) (fun R r => ⟨_, rfl, r⟩) (fun i σ H' => H' = H ∧ ∃ (B : Nat) (y : Option V), σ = [some (.ref a), some (.int (B : Int)), y] ∧ 0 < B ∧ B ≤ 2 ^ (m * i) ∧ ∀ j, j < i → (f j).den ∣ B)
      ⟨rfl, 1, _, rfl, by decide, by simp, fun j h => absurd h (Nat.not_lt_zero _)⟩ (fun i σ G _ p => p.1 ▸ Same.refl H) ?_ ?_
    · rintro i x σ H' hx ⟨rfl, B, y, rfl, b0, b1, hd⟩
      have hl := get_lt hx
      obtain ⟨c, dx, rfl, hc⟩ := rr i x hx
      have hbi := hb i hl
      have := bi i (by omega)
      have := Nat.two_pow_pos (m * xs.length)
      have hm : m ≤ 3990 := by
        have : m * 1 ≤ m * xs.length := Nat.mul_le_mul_left m (by omega)
        omega
      have sB : Sm (B : Int) := sm_of (n := m * xs.length + 1) (by show B < _; omega) (by omega)
      refine ⟨_, rfl, _, rfl, c, A.Ratio, dx, _, _, rfl, hc, cl, nb, rfl, (B : Int), _, rfl, sB, hbi.s2 (by omega), rfl, Nat.lcm B (f i).den, _, rfl, ?_, ?_, ?_⟩
      · exact Nat.lcm_pos b0 (f i).den_pos
      · refine Nat.le_trans (PySem.W.mc_lcm_le _ _) ?_
        rw [Nat.mul_add, Nat.mul_one, Nat.pow_add]
        exact Nat.mul_le_mul b1 (Nat.le_of_lt hbi.bot)
      · intro j hj
        rcases (by omega : j < i ∨ j = i) with e | e
        · exact Nat.dvd_trans (hd j e) (Nat.dvd_lcm_left _ _)
        · subst e
          exact Nat.dvd_lcm_right _ _
    · rintro σ H' ⟨rfl, B, y, rfl, b0, b1, hd⟩
      have hB : B < 2 ^ (m * xs.length + 1) := by
        have := Nat.two_pow_pos (m * xs.length)
        omega
      refine lc_seq ha (fun R r => ⟨_, rfl, r⟩) (fun R r => ⟨_, rfl, r⟩) (fun d i G => GroI H' d (fun k => (f k).num * ((B : Int).fdiv ((f k).den : Int))) i G) (fun d nd => .start nd) (fun d i G _ p => p.1) ?_ ?_
      · rintro d i x G nd hx p
        have hl := get_lt hx
        obtain ⟨c, dx, rfl, hc⟩ := (rr i x hx).same p.1
        have hbi := hb i hl
        have hm : m ≤ 3990 := by
          have : m * 1 ≤ m * xs.length := Nat.mul_le_mul_left m (by omega)
          omega
        have d0 := den_pos (f i)
        obtain ⟨g, hg⟩ := hd i hl
        have ef : (B : Int).fdiv ((f i).den : Int) = (g : Int) := by rw [hg, Int.natCast_mul]; exact Int.mul_fdiv_cancel_left _ (by omega)
        have hgB : g ≤ B := by
          rw [hg]
          exact Nat.le_mul_of_pos_left _ (f i).den_pos
        have g1 : ((g : Int)).natAbs < 2 ^ (m * xs.length + 1) := by
          show g < _
          omega
        refine ⟨rfl, _, rfl, c, A.Ratio, dx, _, _, rfl, hc, cl, nt, rfl, _, rfl, _, rfl, c, A.Ratio, dx, _, _, rfl, hc, cl, nb, rfl, _, _, rfl, rfl, Sm.div (by omega) (hbi.s2 (by omega)), ?_⟩
        exact ⟨_, _, rfl, rfl, (hbi.s1 (by omega)).mul (by rw [ef]; exact sm_of g1 (by omega)), p.push nd (by omega) (Same.refl G)⟩
      · rintro d G nd ⟨sm, hd'⟩
        have lt : ((List.range xs.length).map fun k => (f k).num * ((B : Int).fdiv ((f k).den : Int))).length = xs.length := by rw [List.length_map, List.length_range]
        have tv : ∀ (k : Nat) (t : Int), ((List.range xs.length).map fun k => (f k).num * ((B : Int).fdiv ((f k).den : Int)))[k]? = some t → (t : Rat) = f k * ((B : Int) : Rat) ∧ t.natAbs < 2 ^ (n + m * xs.length + 1) := fun k t e => by
          have hk : k < xs.length := by have := get_lt e; omega
          rw [List.getElem?_map, List.getElem?_range hk] at e
          cases e
          obtain ⟨g, hg⟩ := hd k hk
          have d0 := den_pos (f k)
          have ef : (B : Int).fdiv ((f k).den : Int) = (g : Int) := by rw [hg, Int.natCast_mul]; exact Int.mul_fdiv_cancel_left _ (by omega)
          have hgB : g ≤ B := by
            rw [hg]
            exact Nat.le_mul_of_pos_left _ (f k).den_pos
          dsimp only
          rw [ef]
          refine ⟨tops_make (b := ((f k).den : Int)) rfl (by rw [hg, Int.natCast_mul]), ?_⟩
          have := nmul (hb k hk).top (show ((g : Int)).natAbs < 2 ^ (m * xs.length + 1) by show g < _; omega)
          exact this
        generalize ((List.range xs.length).map fun k => (f k).num * ((B : Int).fdiv ((f k).den : Int))) = ts at *
        refine ⟨_, rfl, by show 2 ≤ sizeLine; decide, fun tp ntp => ?_⟩
        have s2 := same_upd (o := .tup [.ref d, .int (B : Int)]) ntp
        exact q _ tp d ts (B : Int) (sm.trans s2) upd_same (s2 _ _ hd') lt (by omega) hB (fun k t e => (tv k t e).1) (.of fun k t e => (tv k t e).2)
def sp_movedrow (C : Addr) : Sp := fun vs H Q _ => ∃ v y xs f c n m e, vs = [v, y] ∧ SeqAt H v xs ∧ NumsV C H xs f ∧ (∀ k, k < xs.length → Bd n m (f k)) ∧ NumV C H y c ∧ Bd e e c ∧ 0 < xs.length ∧ xs.length ≤ 13 ∧ n + m * xs.length + 1 + (e + 1) * (xs.length + 1) ≤ 3990 ∧
  ∀ H' d ys, Same H H' → H' d = some (.lst ys) → ys.length = xs.length → RatsV C H' ys (mvF f c) → Q (.ref d) H'
theorem ok_moved_row (T : Txt K mg A D) : FnOk P w K mg base CX0 7 A.f_moved_row D.f_moved_row ["row", "by"] (sp_movedrow A.Ratio) := by
  have G_Ratio_init : FnOk P w K mg base CX0 2 A.f_Ratio___init__ D.f_Ratio___init__ ["self", "top", "bottom"] (sp_init A.Ratio) := ok_Ratio___init__ T
  have b_Ratio_init2 := T.b_Ratio___init__
  have d_Ratio_init2 : Vals [] [] := .nil
  have G_is_number : FnOk P w K mg base CX0 2 A.f_is_number D.f_is_number ["x"] (sp_isnum K A.Ratio) := ok_is_number T
  have G_ratio_of : FnOk P w K mg base CX0 4 A.f_ratio_of D.f_ratio_of ["number"] (sp_ratio_of A.Ratio) := ok_ratio_of T
  have G_row_numbers : FnOk P w K mg base CX0 6 A.f_row_numbers D.f_row_numbers ["row"] (sp_rown A.Ratio) := ok_row_numbers T
  have G_whole_parts : FnOk P w K mg base CX0 2 A.f_whole_parts D.f_whole_parts ["ratios"] (sp_parts A.Ratio) := ok_whole_parts T
  refine T.F_moved_row.ok sc_moved_row (fun vs H Q E h => ?_) (fun cdv A' outer s H vs Q E hr h => ?_)
  · obtain ⟨v, y, xs, f, c, n, m, e, rfl, _⟩ := h
    rfl
  · obtain ⟨v, y, xs, f, c, n, m, e, rfl, hv, rr, hb, hy, hc, l0, l1, hs, q⟩ := h
    refine ⟨_, (pss_cons (ps_set (i := 2) sc_moved_row.nd rfl (.inl rfl) (pe_call G_row_numbers (hr.mono (by decide)) rfl T.g_row_numbers T.F_row_numbers.kp T.b_row_numbers .nil pass0 (pa_cons (pv 0) pa_nil)))
  (pss_cons (ps_if (pt_not (pt_val (pe_call G_is_number (hr.mono (by decide)) rfl T.g_is_number T.F_is_number.kp T.b_is_number .nil pass0 (pa_cons (pv 1) pa_nil)))) (pss_one ps_never) pss_nil)
  (pss_cons (ps_set (i := 3) sc_moved_row.nd rfl (.inr rfl) (pe_call G_ratio_of (hr.mono (by decide)) rfl T.g_ratio_of T.F_ratio_of.kp T.b_ratio_of .nil pass0 (pa_cons (pv 1) pa_nil)))
  (pss_cons (ps_asg (pe_call G_whole_parts (hr.mono (by decide)) rfl T.g_whole_parts T.F_whole_parts.kp T.b_whole_parts .nil pass0 (pa_cons (pv 2) pa_nil)) (pg_tup rfl (pgs_cons (pg_name (i := 4) sc_moved_row.nd rfl (.inr rfl)) (pgs_cons (pg_name (i := 5) sc_moved_row.nd rfl (.inl rfl)) pgs_nil))))
  (pss_cons (ps_set (i := 6) sc_moved_row.nd rfl (.inl rfl) (pe_lst pa_nil))
  (pss_cons (ps_while PassesOwn.never (pt_cmpR op_gt (pe_callB call_len_seq rfl T.z_len (by decide +kernel) (pa_cons (pv 4) pa_nil)) pe_int (nomark _)) (pss_cons (ps_expr (pe_bm PySem.F.plainAttrs_list PySem.F.slot_list_append PySem.F.type_list_append mt_append (pv 6) (pa_cons (pe_make T.M_Ratio G_Ratio_init (hr.mono (by decide)) rfl T.g_Ratio b_Ratio_init2 d_Ratio_init2 pass0 (pa_cons (pe_ix ix_list (pv 4) pe_int (fun _ _ => rfl)) (pa_cons (pv 5) pa_nil))) pa_nil)))
  (pss_cons (ps_set (i := 4) sc_moved_row.nd rfl (.inr rfl) (pe_lc (own := [("k", 7)]) (g := gName 7) (tt := tYes) rfl sc_moved_row.nd (pi_range1 rfl T.z_range (pa_cons (pe_op op_sub (pe_callB call_len_seq rfl T.z_len (by decide +kernel) (pa_cons (pv 4) pa_nil)) pe_int) pa_nil)) (blkOk_by (N := N_moved_row) (sc := defScope s_moved_row) (by decide +kernel)) (fun _ _ _ _ _ => (pg_name (i := 7) sc_moved_row.nd rfl (.inl rfl))) (fun _ _ _ _ _ => pts_nil) (fun _ _ _ _ _ => (pe_op op_add (pe_op op_mulW (pe_ix (ix_listK (K := K) rfl) (pv 4) (pe_op op_add (pv 7) pe_int) (fun _ _ => rfl)) (pe_fldK (K := K) rfl (pv 3) rfl)) (pe_op op_mulW (pe_ix (ix_listK (K := K) rfl) (pv 4) (pv 7) (fun _ _ => rfl)) (pe_fldK (K := K) rfl (pv 3) rfl))))))
  (pss_one (ps_set (i := 5) sc_moved_row.nd rfl (.inl rfl) (pe_op op_mulW (pv 5) (pe_fld (pv 3) rfl)))))))
  (pss_one (ps_ret (pv 6))))))))), ?_⟩
    have cl := T.k_Ratio.cl
    have nt := T.k_Ratio.n_top
    have nb := T.k_Ratio.n_bottom
    refine ⟨_, rfl, v, xs, f, rfl, hv, rr, l0, l1, fun H1 d1 ys k1 _ hd1 hl1 r1 => ?_⟩
    refine ⟨_, rfl, _, rfl, .inl ⟨(hy.same k1).kind, true, rfl, iteF ?_⟩⟩
    refine ⟨_, rfl, _, _, rfl, hy.same k1, fun H2 wv k2 rw2 => ?_⟩
    refine ⟨_, rfl, .ref d1, ys, f, n, m, rfl, ⟨d1, rfl, .inl (k2 _ _ hd1)⟩, r1.same k2, (fun k hk => hb k (by omega)), by omega, by rw [hl1]; omega, fun H3 tp l ts B k3 htp hts lt b0 b1 ht hsz => ?_⟩
    refine ⟨tp, _, rfl, .of htp, rfl, _, _, rfl, _, _, rfl, rfl, ?_⟩
    rw [hl1] at b1 hsz lt
    obtain ⟨wa, dw, rfl, hw⟩ := rw2.same k3
    have k13 := (k1.trans k2).trans k3
    refine ⟨by show 0 ≤ sizeLine; decide, fun d nd => ?_⟩
    generalize hE : n + m * xs.length + 1 = E0 at *
    have e3 : (e + 1) * xs.length + (e + 1) ≤ 3990 - E0 := by rw [Nat.mul_add, Nat.mul_one] at hs; omega
    have ej : ∀ j, j ≤ xs.length → E0 + (e + 1) * j + (e + 1) ≤ 3990 := fun j hj => by
      have := Nat.mul_le_mul_left (e + 1) hj
      omega
    have me : m * xs.length + 1 ≤ E0 := by omega
    refine while_up xs.length (fun j σ G => ∃ (l' : Addr) (ts' : List Int) (y7 : Option V) (B' : Int), σ = [some v, some y, some (.ref d1), some (.ref wa), some (.ref l'), some (.int B'), some (.ref d), y7] ∧ Gro A.Ratio H3 d (mvF f c) j G ∧ G l' = some (.lst (ts'.map V.int)) ∧ ts'.length = xs.length - j ∧
        (∀ k, k < ts'.length → ((ts'.getD k 0 : Int) : Rat) = mvL f c j k * (B' : Rat)) ∧ TopsB (E0 + (e + 1) * j) ts' ∧ 0 < B' ∧ B'.natAbs < 2 ^ (E0 + (e + 1) * j) ∧ l' ≠ d)
      ⟨l, ts, none, B, rfl, .start nd, (same_upd nd) _ _ hts, lt, fun k hk => ht.get hk, hsz.mono (Nat.le_add_right _ _), b0, nle b1 (by omega), fun z => by rw [z, nd] at hts; cases hts⟩ ?_
    rintro j σ G hj ⟨l', ts', y7, B', rfl, p, hl', hlen, hval, hbd, B0, Bb, lnd⟩
    have ejj := ej j hj
    refine ⟨_, rfl, l', _, rfl, .inl (.of hl'), _, _, rfl, rfl, _, rfl, ?_⟩
    refine ite2 (fun c1 => ?_) (fun c1 => ?_)
    · have jl : j < xs.length := by
        have := of_decide_eq_true c1
        rw [List.length_map] at this
        omega
      refine ⟨_, up_next jl, ?_⟩
      obtain ⟨zs, hzl, hd, hzr⟩ := p.2
      have ha0 : atI (ts'.map V.int) 0 = some (V.int (ts'.getD 0 0)) := by
        have := atI_getD (ts := ts') (i := 0) (by omega)
        exact this
      refine ⟨_, rfl, .inl ⟨rfl, _, .of hd⟩, _, rfl, l', _, 0, _, rfl, rfl, .of hl', ha0, _, rfl, fun x dx nx nx2 ne => rat_make (by omega) (sm_of Bb (by omega)) nx nx2 ne fun G2 s2 r2 => ?_⟩
      have r3 : RatV A.Ratio G2 (.ref x) (mvF f c j) := r2.to (div_eq (by omega) (hval 0 (by omega)).symm)
      obtain ⟨acc, hacc, hsa, p2⟩ := p.push nd (by omega) s2 r3
      refine ⟨d, acc, _, rfl, rfl, hacc, hsa, ?_⟩
      have hl2 : upd G2 d (.lst (acc ++ [.ref x])) l' = some (.lst (ts'.map V.int)) := by rw [upd_ne lnd]; exact s2 _ _ hl'
      have hw2 := p2.1 _ _ hw
      generalize upd G2 d (.lst (acc ++ [.ref x])) = G3 at p2 hl2 hw2
      refine ⟨_, rfl, l', _, rfl, .inl (.of hl2), _, _, rfl, rfl, _, rfl, by rw [List.length_map]; omega, by rw [List.length_map]; omega, fun d2 nd2 => ?_⟩
      have en : ((((ts'.map V.int).length : Nat) : Int) - 1).toNat = ts'.length - 1 := by rw [List.length_map]; omega
      rw [en]
      refine lc_range (lo := 0) (fun i G4 => GroI G3 d2 (fun k => ts'.getD (k + 1) 0 * (c.den : Int) + ts'.getD k 0 * c.num) i G4) (.start nd2) ?_ ?_
      · rintro i G4 hi pI
        have hl4 := pI.1 _ _ hl2
        have hw4 := pI.1 _ _ hw2
        have ha1 : atI (ts'.map V.int) (0 + (i : Int) + 1) = some (V.int (ts'.getD (i + 1) 0)) := by
          have := atI_getD (ts := ts') (i := i + 1) (by omega)
          rw [show (0 : Int) + (i : Int) + 1 = 0 + ((i + 1 : Nat) : Int) by omega]
          exact this
        have ha0 := atI_getD (ts := ts') (i := i) (by omega)
        refine ⟨rfl, _, rfl, _, rfl, _, _, rfl, rfl, l', _, _, _, rfl, rfl, .of hl4, ha1, _, rfl, wa, A.Ratio, dw, _, _, rfl, hw4, cl, nb, rfl, _, _, rfl, rfl, (sm_of (hbd _) (by omega)).mul (hc.s2 (by omega)), ?_⟩
        exact ⟨_, rfl, _, rfl, l', _, _, _, rfl, rfl, .of hl4, ha0, _, rfl, wa, A.Ratio, dw, _, _, rfl, hw4, cl, nt, rfl, _, _, rfl, rfl, (sm_of (hbd _) (by omega)).mul (hc.s1 (by omega)), _, _, rfl, rfl, pI.push nd2 (by omega) (Same.refl _)⟩
      · rintro G4 ⟨sm4, hd2⟩
        refine ⟨_, rfl, _, rfl, wa, A.Ratio, dw, _, _, rfl, sm4 _ _ hw2, cl, nb, rfl, _, _, rfl, rfl, (sm_of Bb (by omega)).mul (hc.s2 (by omega)), ?_⟩
        have d0 := den_pos c
        have hL : ((List.range (ts'.length - 1)).map fun k => ts'.getD (k + 1) 0 * (c.den : Int) + ts'.getD k 0 * c.num).length = ts'.length - 1 := by rw [List.length_map, List.length_range]
        have hG : ∀ k, k < ts'.length - 1 → ((List.range (ts'.length - 1)).map fun k => ts'.getD (k + 1) 0 * (c.den : Int) + ts'.getD k 0 * c.num).getD k 0 = ts'.getD (k + 1) 0 * (c.den : Int) + ts'.getD k 0 * c.num := fun k hk => by
          rw [List.getD_eq_getElem?_getD, List.getElem?_map, List.getElem?_range hk]
          rfl
        generalize ((List.range (ts'.length - 1)).map fun k => ts'.getD (k + 1) 0 * (c.den : Int) + ts'.getD k 0 * c.num) = us at *
        have e4 : (e + 1) * (j + 1) = (e + 1) * j + (e + 1) := by rw [Nat.mul_add, Nat.mul_one]
        refine ⟨d2, us, _, _, rfl, ⟨p2.1.trans sm4, ?_⟩, hd2, by omega, fun k hk => ?_, .of fun k t ht => ?_, Int.mul_pos B0 d0, ?_, fun z => ?_⟩
        · obtain ⟨zs2, h1, h2, h3⟩ := p2.2
          exact ⟨zs2, h1, sm4 _ _ h2, h3.same sm4⟩
        · rw [hG k (by omega), Rat.intCast_mul]
          exact mv_step (hval (k + 1) (by omega)) (hval k (by omega))
        · have hk : k < us.length := get_lt ht
          rw [getD_at hk] at ht
          cases ht
          rw [hG k (by omega), e4]
          have w1 := nmul (hbd (k + 1)) hc.d
          have w2 := nmul (hbd k) hc.top
          exact nle (nadd w1 w2) (by omega)
        · rw [e4]
          exact nle (nmul Bb hc.d) (by omega)
        · obtain ⟨zs2, h1, h2, h3⟩ := p2.2
          rw [z, h2] at nd2
          cases nd2
    · exact ⟨_, rfl, by
        obtain ⟨sm, zs, hzl, hd, hzr⟩ := p
        have jl : j = xs.length := by
          rcases Nat.lt_or_ge 0 ts'.length with h | h
          · exact absurd (decide_eq_true (by rw [List.length_map]; omega)) c1
          · omega
        exact q G d zs (k13.trans sm) hd (by omega) hzr⟩
end
section
variable {P : Program} {w : World} {K : PySem.W.Frag} {mg : Str → Option Value} {base : Heap} {A : Ad} {D : Fd}
def sp_centred (K : PySem.W.Frag) (A : Ad) : Sp := fun vs H Q E => ∃ v xs f, vs = [v] ∧ SeqAt H v xs ∧ NumsV A.Ratio H xs f ∧ 0 < xs.length ∧ xs.length ≤ 13 ∧ (∀ k, k < xs.length → Bd 1900 1900 (f k)) ∧
  (((xs.length = 1 ∨ f 0 = 0) ∧ ∀ H', Same H H' → E (.ref A.NoMean) none H') ∨
   (xs.length ≠ 1 ∧ f 0 ≠ 0 ∧ ∃ n m e, (∀ k, k < xs.length → Bd n m (f k)) ∧ Bd e e (f 1 / f 0) ∧ n + m * xs.length + 1 + (e + 1) * (xs.length + 1) ≤ 3990 ∧ ∀ H' d ys, Same H H' → H' d = some (.lst ys) → ys.length = xs.length → RatsV A.Ratio H' ys (mvF f (-(f 1 / f 0))) → Q (.ref d) H'))
theorem ok_centred (T : Txt K mg A D) : FnOk P w K mg base (L2.CX P w) 8 A.f_centred D.f_centred ["row"] (sp_centred K A) := by
  have G_Ratio___eq__ : FnOk P w K mg base CX0 3 A.f_Ratio___eq__ D.f_Ratio___eq__ ["self", "other"] (sp_cmp A.Ratio r_eq) := ok_Ratio___eq__ T
  have G_Ratio___neg__ : FnOk P w K mg base CX0 4 A.f_Ratio___neg__ D.f_Ratio___neg__ ["self"] (sp_neg A.Ratio) := ok_Ratio___neg__ T
  have G_Ratio_over : FnOk P w K mg base CX0 5 A.f_Ratio_over D.f_Ratio_over ["self", "other"] (sp_over A.Ratio) := ok_Ratio_over T
  have G_moved_row : FnOk P w K mg base CX0 7 A.f_moved_row D.f_moved_row ["row", "by"] (sp_movedrow A.Ratio) := ok_moved_row T
  have G_row_numbers : FnOk P w K mg base CX0 6 A.f_row_numbers D.f_row_numbers ["row"] (sp_rown A.Ratio) := ok_row_numbers T
  refine T.F_centred.okX sc_centred (fun vs H Q E h => ?_) (fun cdv A' outer s H vs Q E hr h => ?_)
  · obtain ⟨v, xs, f, rfl, _⟩ := h
    rfl
  · obtain ⟨v, xs, f, rfl, hv, rr, l0, l1, hb, h⟩ := h
    refine ⟨_, (pss_cons (ps_set (i := 1) sc_centred.nd rfl (.inl rfl) (pe_call G_row_numbers (hr.mono (by decide)) rfl T.g_row_numbers T.F_row_numbers.kp T.b_row_numbers .nil pass0 (pa_cons (pv 0) pa_nil)))
  (pss_cons (ps_if (PW.pt (pw_or (pt_cmpR op_eq (pe_callB call_len_seq rfl T.z_len (by decide +kernel) (pa_cons (pv 1) pa_nil)) pe_int (nomark _)) (pw_or1 (pt_cmpR (op_eq_own T.k_Ratio.ow T.m_Ratio___eq__ G_Ratio___eq__ (hr.mono (by decide)) T.b_Ratio___eq__ pass0) (pe_ix ix_list (pv 1) pe_int (fun _ _ => rfl)) pe_int (nomark _))))) (pss_one (ps_raise rfl (takes_of rfl rfl rfl rfl) (pmk_mk0 T.e_NoMean T.xn_NoMean rfl T.g_NoMean))) pss_nil)
  (pss_one (ps_ret (pe_call G_moved_row (hr.mono (by decide)) rfl T.g_moved_row T.F_moved_row.kp T.b_moved_row .nil pass0 (pa_cons (pv 1) (pa_cons (pe_un (un_neg_own T.m_Ratio___neg__ G_Ratio___neg__ (hr.mono (by decide)) T.b_Ratio___neg__ pass0) (pe_meth (pe_ix ix_list (pv 1) pe_int (fun _ _ => rfl)) T.k_Ratio.cl T.m_Ratio_over G_Ratio_over (hr.mono (by decide)) T.b_Ratio_over .nil pass0 (pa_cons (pe_ix ix_list (pv 1) pe_int (fun _ _ => rfl)) pa_nil))) pa_nil))))))), ?_⟩
    refine ⟨_, rfl, v, xs, f, rfl, hv, rr, l0, l1, fun H1 d ys k1 _ hd hl r1 => ?_⟩
    have g0 := List.getElem?_eq_getElem (show 0 < ys.length by omega)
    have a0 : atI ys 0 = some ys[0] := atI_nat g0
    have r0 := r1 0 _ g0
    have b0 := hb 0 l0
    refine ⟨_, rfl, d, ys, rfl, .inl (.of hd), rfl, _, rfl, ?_⟩
    rw [hl]
    have e1 : decide (V.int (xs.length : Int) = V.int 1) = decide (xs.length = 1) := by
      rw [Bool.eq_iff_iff, decide_eq_true_iff, decide_eq_true_iff]
      exact ⟨fun z => by have := V.int.inj z; omega, fun z => by rw [z]; rfl⟩
    rw [e1]
    by_cases hl1 : xs.length = 1
    · refine iteTe (decide_eq_true hl1) (iteT ?_)
      rcases h with ⟨_, q⟩ | ⟨h, _⟩
      · exact q _ k1
      · exact absurd hl1 h
    refine iteFe (decide_eq_false hl1) ?_
    refine ⟨_, rfl, d, ys, 0, _, rfl, rfl, .of hd, a0, r0.ins, .inl ⟨_, rfl⟩, _, _, f 0, ((0 : Int) : Rat), rfl, r0, .int 0, b0.mono (by decide) (by decide), .int (by decide) (by decide), _, rfl, ?_⟩
    rcases h with ⟨h, q⟩ | ⟨_, hf, n, m, e, hbn, hbe, hs, q⟩
    · have hf : f 0 = 0 := h.resolve_left hl1
      exact iteTe (decide_eq_true hf) (q _ k1)
    · have g1 := List.getElem?_eq_getElem (show 1 < ys.length by omega)
      have a1 : atI ys 1 = some ys[1] := atI_nat g1
      have r1' := r1 1 _ g1
      have b1 := hb 1 (by omega)
      refine iteFe (decide_eq_false hf) ?_
      obtain ⟨pa, dx, epa, hpa⟩ := id r1'
      refine ⟨_, rfl, _, rfl, d, ys, 1, _, rfl, rfl, .of hd, a1, pa, dx, _, epa, hpa, rfl, _, rfl, d, ys, 0, _, rfl, rfl, .of hd, a0, _, _, f 1, f 0, rfl, r1', r0.num, hf, b1.mono (by decide) (by decide), b0.mono (by decide) (by decide), fun H2 z k2 rz => ?_⟩
      have bo : Bd 3800 3800 (f 1 / f 0) := b1.over hf b0
      refine ⟨rz.ins, z, _, rfl, rz, bo.mono (by decide) (by decide), fun H3 z3 k3 rz3 => ?_⟩
      have k23 := k2.trans k3
      exact ⟨.ref d, z3, ys, f, _, n, m, e, rfl, ⟨d, rfl, .inl (k23 _ _ hd)⟩, (r1.same k23).nums, (fun k hk => hbn k (by omega)), rz3.num, hbe.neg, by omega, by omega, by rw [hl]; exact hs, fun H4 d4 zs k4 h4 hl4 r4 => q H4 d4 zs ((k1.trans k23).trans k4) h4 (by omega) r4⟩
/-- these are lists of Ratios, each shorter than the one before -/
def Rws (C : Addr) (H : Hp) (rs : List Addr) (f : Nat → Rat) (n : Nat) : Prop := ∀ k r, rs[k]? = some r → ∃ ys, H r = some (.lst ys) ∧ ys.length = n - k ∧ RatsV C H ys (dfF f k)
theorem Rws.same {C : Addr} {H H' : Hp} {rs : List Addr} {f : Nat → Rat} {n : Nat} (h : Rws C H rs f n) (s : Same H H') : Rws C H' rs f n := fun k r e => by
  obtain ⟨ys, h1, h2, h3⟩ := h k r e
  exact ⟨ys, s _ _ h1, h2, h3.same s⟩
def sp_diffs (C : Addr) : Sp := fun vs H Q _ => ∃ v xs f, vs = [v] ∧ SeqAt H v xs ∧ NumsV C H xs f ∧ 0 < xs.length ∧ xs.length ≤ 13 ∧ (∀ k i, k + i < xs.length → Bd 1900 1900 (dfF f k i)) ∧
  ∀ H' d rs, Same H H' → H' d = some (.lst (rs.map V.ref)) → rs.length = xs.length → Rws C H' rs f xs.length → (∀ r ∈ rs, r ≠ d) → (∀ r ∈ rs, H r = none) → H d = none → Q (.ref d) H'
theorem ok_differences (T : Txt K mg A D) : FnOk P w K mg base CX0 7 A.f_differences D.f_differences ["row"] (sp_diffs A.Ratio) := by
  have G_Ratio___sub__ : FnOk P w K mg base CX0 5 A.f_Ratio___sub__ D.f_Ratio___sub__ ["self", "other"] (sp_bin A.Ratio f_dif) := ok_Ratio___sub__ T
  have G_row_numbers : FnOk P w K mg base CX0 6 A.f_row_numbers D.f_row_numbers ["row"] (sp_rown A.Ratio) := ok_row_numbers T
  refine T.F_differences.ok sc_differences (fun vs H Q E h => ?_) (fun cdv A' outer s H vs Q E hr h => ?_)
  · obtain ⟨v, xs, f, rfl, _⟩ := h
    rfl
  · obtain ⟨v, xs, f, rfl, hv, rr, l0, l1, hb, q⟩ := h
    refine ⟨_, (pss_cons (ps_set (i := 1) sc_differences.nd rfl (.inl rfl) (pe_lst (pa_cons (pe_call G_row_numbers (hr.mono (by decide)) rfl T.g_row_numbers T.F_row_numbers.kp T.b_row_numbers .nil pass0 (pa_cons (pv 0) pa_nil)) pa_nil)))
  (pss_cons (ps_while PassesOwn.never (pt_cmpR op_gt (pe_callB call_len_seq rfl T.z_len (by decide +kernel) (pa_cons (pe_ix ix_list (pv 1) (pe_un un_neg pe_int) (fun _ _ => rfl)) pa_nil)) pe_int (nomark _)) (pss_cons (ps_set (i := 2) sc_differences.nd rfl (.inr rfl) (pe_ix ix_list (pv 1) (pe_un un_neg pe_int) (fun _ _ => rfl)))
  (pss_one (ps_expr (pe_bm PySem.F.plainAttrs_list PySem.F.slot_list_append PySem.F.type_list_append mt_append (pv 1) (pa_cons (pe_lc (own := [("k", 3)]) (g := gName 3) (tt := tYes) rfl sc_differences.nd (pi_range1 rfl T.z_range (pa_cons (pe_op op_sub (pe_callB call_len_seq rfl T.z_len (by decide +kernel) (pa_cons (pv 2) pa_nil)) pe_int) pa_nil)) (blkOk_by (N := N_differences) (sc := defScope s_differences) (by decide +kernel)) (fun _ _ _ _ _ => (pg_name (i := 3) sc_differences.nd rfl (.inl rfl))) (fun _ _ _ _ _ => pts_nil) (fun _ _ _ _ _ => (pe_op (op_sub_own T.k_Ratio.ow T.m_Ratio___sub__ T.m_Ratio___rsub__ G_Ratio___sub__ (hr.mono (by decide)) T.b_Ratio___sub__ pass0) (pe_ix (ix_listK (K := K) rfl) (pv 2) (pv 3) (fun _ _ => rfl)) (pe_ix (ix_listK (K := K) rfl) (pv 2) (pe_op op_add (pv 3) pe_int) (fun _ _ => rfl))))) pa_nil))))))
  (pss_one (ps_ret (pv 1))))), ?_⟩
    refine ⟨_, rfl, v, xs, f, rfl, hv, rr, l0, l1, fun H1 r0 ys k1 n0 hr0 hl0 rv0 => ?_⟩
    refine ⟨by show 1 ≤ sizeLine; decide, fun d nd => ?_⟩
    have n0d : r0 ≠ d := fun z => by rw [z, nd] at hr0; cases hr0
    have sd := same_upd (o := .lst [V.ref r0]) nd
    have nd0 : H d = none := k1.free nd
    refine while_up (xs.length - 1) (fun j σ G => ∃ (rs : List Addr) (y2 : Option V), σ = [some v, some (.ref d), y2, none] ∧ Same H1 G ∧ G d = some (.lst (rs.map V.ref)) ∧ rs.length = j + 1 ∧ Rws A.Ratio G rs f xs.length ∧ (∀ r ∈ rs, r ≠ d) ∧ ∀ r ∈ rs, H r = none)
      ⟨[r0], none, rfl, sd, upd_same, rfl, fun k r e => ?_, fun r h => by cases List.mem_singleton.mp h; exact n0d, fun r h => by cases List.mem_singleton.mp h; exact n0⟩ ?_
    · cases k with
      | zero =>
        cases e
        exact ⟨ys, sd _ _ hr0, hl0, rv0.same sd⟩
      | succ k => simp at e
    rintro j σ G hj ⟨rs, y2, rfl, sm, hd, hrl, hR, hne, hfr⟩
    have gl : rs[j]? = some rs[j] := List.getElem?_eq_getElem (by omega)
    have hat : atI (rs.map V.ref) (-1) = some (V.ref rs[j]) := at_last (j := j) (by rw [List.length_map]; exact hrl) (by rw [List.getElem?_map, gl]; rfl)
    obtain ⟨zs, hzs, lz, rz⟩ := hR j _ gl
    refine ⟨_, rfl, 1, rfl, d, _, _, _, rfl, rfl, .of hd, hat, _, zs, rfl, .inl (.of hzs), _, _, rfl, rfl, _, rfl, ?_⟩
    refine ite2 (fun c1 => ?_) (fun c1 => ?_)
    · have c1 := of_decide_eq_true c1
      have jl : j < xs.length - 1 := by omega
      refine ⟨_, up_next jl, ?_⟩
      refine ⟨_, rfl, 1, rfl, d, _, _, _, rfl, rfl, .of hd, hat, ?_⟩
      refine ⟨_, rfl, .inl ⟨rfl, _, .of hd⟩, _, rfl, _, zs, rfl, .inl (.of hzs), _, _, rfl, rfl, _, rfl, by omega, by omega, fun d2 nd2 => ?_⟩
      rw [show (((zs.length : Nat) : Int) - 1).toNat = zs.length - 1 by omega]
      refine lc_range (lo := 0) (fun i G2 => Gro A.Ratio G d2 (dfF f (j + 1)) i G2) (.start nd2) ?_ ?_
      · rintro i G2 hi p
        have hx := List.getElem?_eq_getElem (show i < zs.length by omega)
        have hx1 := List.getElem?_eq_getElem (show i + 1 < zs.length by omega)
        have ha1 : atI zs (0 + (i : Int) + 1) = some zs[i + 1] := by
          rw [show (0 : Int) + (i : Int) + 1 = 0 + ((i + 1 : Nat) : Int) by omega]
          exact at_get hx1
        have hz2 := p.1 _ _ hzs
        have w0 := (rz i _ hx).same p.1
        have w1 := (rz (i + 1) _ hx1).same p.1
        refine ⟨rfl, _, rfl, _, rfl, _, zs, _, _, rfl, rfl, .of hz2, at_get hx, _, rfl, _, rfl, _, _, rfl, rfl, _, zs, _, _, rfl, rfl, .of hz2, ha1, w0.ins, .inr w1.ins, _, _, _, _, rfl, w0, w1.num, (hb j i (by omega)).mono (by decide) (by decide), (hb j (i + 1) (by omega)).mono (by decide) (by decide), fun G3 z3 k3 r3 => ?_⟩
        exact p.push nd2 (by omega) k3 r3
      · rintro G2 ⟨sm2, ws, lw, hd2, hw⟩
        have hdd := sm2 _ _ hd
        have d2d : d2 ≠ d := fun z => by rw [z, hd] at nd2; cases nd2
        refine ⟨d, _, _, rfl, rfl, hdd, by rw [List.length_map]; exact small1000 (by omega), ?_⟩
        refine ⟨rs ++ [d2], _, rfl, same_push (sm.trans sm2) nd, by rw [upd_same, List.map_append]; rfl, by rw [List.length_append, hrl]; rfl, fun k r e => ?_, fun r h => ?_, fun r h => ?_⟩
        · rcases push_get e with ⟨hk, e⟩ | ⟨rfl, rfl⟩
          · obtain ⟨us, h1, h2, h3⟩ := hR k r e
            have rd := hne r (List.mem_of_getElem? e)
            exact ⟨us, by rw [upd_ne rd]; exact sm2 _ _ h1, h2, (h3.same sm2).upd hdd⟩
          · refine ⟨ws, by rw [upd_ne d2d]; exact hd2, by rw [hrl]; omega, ?_⟩
            rw [hrl]
            exact hw.upd hdd
        · rcases List.mem_append.mp h with h | h
          · exact hne r h
          · cases List.mem_singleton.mp h
            exact d2d
        · rcases List.mem_append.mp h with h | h
          · exact hfr r h
          · cases List.mem_singleton.mp h
            exact (k1.trans sm).free nd2
    · have c1 : ¬ ((zs.length : Nat) : Int) > 1 := fun z => c1 (decide_eq_true z)
      exact ⟨_, rfl, q G d rs (k1.trans sm) hd (by omega) hR hne hfr nd0⟩
end

end Mo

namespace Mo
open PySem PySem.Spec PyProof.Rows L2 MoL MoW
open C8 (pss_cut tCut)
section
variable {P : Program} {w : World} {K : PySem.W.Frag} {mg : Str → Option Value} {base : Heap} {A : Ad} {D : Fd}
theorem ok__law_integer (T : Txt K mg A D) : FnOk P w K mg base CX0 1 A.f__law_integer D.f__law_integer ["_law_value"] (sp_is_whole K) := by
  skip
  refine T.F__law_integer.ok sc__law_integer (fun vs H Q E h => ?_) (fun cdv A' outer s H vs Q E hr h => ?_)
  · obtain ⟨x, b, rfl, _⟩ := h
    rfl
  · obtain ⟨x, b, rfl, ⟨t, b1, b2, ty, e1, e2, rfl⟩, q⟩ := h
    refine ⟨_, (pss_one (ps_ret (pe_and (pe_callB call_isi rfl T.z_isinstance (by decide +kernel) (pa_cons (pv 0) (pa_cons (pe_bltn (v := .ty "int") rfl T.z_int (by decide +kernel) rfl) pa_nil))) (pe_one (pe_not (pe_callB call_isi rfl T.z_isinstance (by decide +kernel) (pa_cons (pv 0) (pa_cons (pe_bltn (v := .ty "bool") rfl T.z_bool (by decide +kernel) rfl) pa_nil)))))))), ?_⟩
    refine ⟨x, rfl, x, .ty "int", t, _, b1, rfl, .ty _, ty, e1, b1, rfl, ?_⟩
    cases b1 with
    | false => exact iteF q
    | true => exact iteT ⟨x, rfl, x, .ty "bool", t, _, b2, rfl, .ty _, ty, e2 rfl, b2, rfl, q⟩
def sp_cell (K : PySem.W.Frag) : Sp := fun vs H Q _ => ∃ (a : Addr) (ns : List Int) (k : Nat), vs = [.ref a, .int (k : Int)] ∧ SqL K H a (ns.map V.int) ∧ ∀ i, Q (.int i) H
theorem ok__law_cell (T : Txt K mg A D) : FnOk P w K mg base CX0 1 A.f__law_cell D.f__law_cell ["_law_script", "_law_k"] (sp_cell K) := by
  skip
  refine T.F__law_cell.ok sc__law_cell (fun vs H Q E h => ?_) (fun cdv A' outer s H vs Q E hr h => ?_)
  · obtain ⟨a, ns, k, rfl, _⟩ := h
    rfl
  · obtain ⟨a, ns, k, rfl, hS, q⟩ := h
    refine ⟨_, (pss_cons (ps_if (pt_cmpR op_lt (pv 1) (pe_callB call_len_seq rfl T.z_len (by decide +kernel) (pa_cons (pv 0) pa_nil)) (nomark _)) (pss_one (ps_ret (pe_callTy call_int1 rfl T.z_int (by decide +kernel) (pa_cons (pe_ix ix_list (pv 0) (pv 1) (fun _ _ => rfl)) pa_nil)))) pss_nil)
  (pss_one (ps_ret pe_int))), ?_⟩
    refine ⟨_, rfl, _, rfl, a, _, rfl, .inl hS, _, _, rfl, rfl, _, rfl, ?_⟩
    refine ite2 (fun c => ?_) (fun c => q 0)
    have hk : k < ns.length := by
      have := of_decide_eq_true c
      rw [List.length_map] at this
      omega
    exact ⟨_, rfl, _, rfl, a, _, _, _, rfl, rfl, hS, (show atI (ns.map V.int) (k : Int) = some (V.int ns[k]) from atI_nat (by rw [List.getElem?_map, List.getElem?_eq_getElem hk]; rfl)), .inl ⟨_, rfl, q _⟩⟩
theorem lt_mod : (0 : Int) < 2147483647 := by decide
theorem lt_mod' : (0 : Int) < 2147483399 := by decide
/-- n digits below b -/
structure Digs (b : Int) (n : Nat) (ds : List Int) : Prop where
  len : ds.length = n
  all : ∀ k, k < n → 0 ≤ ds.getD k 0 ∧ ds.getD k 0 < b
def sp_draw : Sp := fun vs H Q _ => ∃ (c : Int) (m : Nat) (b : Int), vs = [.int c, .int (m : Int), .int b] ∧ m ≤ 1000 ∧ 0 < b ∧ Sm b ∧ ∀ (H' : Hp) (p : Addr) (ds : List Int), Same H H' → H p = none → H' p = some (.lst (ds.map V.int)) → Digs b m ds → Q (.ref p) H'
theorem ok__law_draw (T : Txt K mg A D) : FnOk P w K mg base CX0 1 A.f__law_draw D.f__law_draw ["_law_cell_here", "_law_many", "_law_base"] (sp_draw) := by
  skip
  refine T.F__law_draw.ok sc__law_draw (fun vs H Q E h => ?_) (fun cdv A' outer s H vs Q E hr h => ?_)
  · obtain ⟨c, m, b, rfl, _⟩ := h
    rfl
  · obtain ⟨c, m, b, rfl, hm, hb, sb, q⟩ := h
    refine ⟨_, (pss_cons (ps_set (i := 3) sc__law_draw.nd rfl (.inl rfl) (pe_lst pa_nil))
  (pss_cons (ps_set (i := 4) sc__law_draw.nd rfl (.inl rfl) pe_int)
  (pss_cut (ps_if (pt_cmpR op_ge (pv 0) (pe_op op_pow pe_int pe_int) (nomark _)) (pss_one (ps_set (i := 4) sc__law_draw.nd rfl (.inl rfl) (pv 0))) pss_nil)
  (pss_cons (ps_for PassesOwn.never rfl (pi_range1 rfl T.z_range (pa_cons (pv 1) pa_nil)) (pg_name (i := 5) sc__law_draw.nd rfl (.inl rfl)) (pss_one (ps_if (pt_cmpR op_gt (pv 4) pe_int (nomark _)) (pss_cons (ps_expr (pe_bm PySem.F.plainAttrs_list PySem.F.slot_list_append PySem.F.type_list_append mt_append (pv 3) (pa_cons (pe_op op_mod (pe_callTy call_int1 rfl T.z_int (by decide +kernel) (pa_cons (pv 4) pa_nil)) (pv 2)) pa_nil)))
  (pss_one (ps_set (i := 4) sc__law_draw.nd rfl (.inl rfl) (pe_op op_fdivA (pv 4) (pv 2))))) (pss_cons (ps_set (i := 6) sc__law_draw.nd rfl (.inl rfl) (pe_op op_mod (pe_callTy call_int1 rfl T.z_int (by decide +kernel) (pa_cons (pe_op op_mul (pe_op op_add (pe_op op_add (pv 0) (pe_op op_mul pe_int (pv 5))) pe_int) pe_int) pa_nil)) pe_int))
  (pss_cons (ps_set (i := 6) sc__law_draw.nd rfl (.inl rfl) (pe_op op_mod (pe_callTy call_int1 rfl T.z_int (by decide +kernel) (pa_cons (pe_op op_mul (pv 6) (pe_op op_add (pe_op op_fdivA (pv 6) pe_int) pe_int)) pa_nil)) pe_int))
  (pss_cons (ps_set (i := 6) sc__law_draw.nd rfl (.inl rfl) (pe_op op_mod (pe_callTy call_int1 rfl T.z_int (by decide +kernel) (pa_cons (pe_op op_mul (pv 6) (pe_op op_add (pe_op op_fdivA (pv 6) pe_int) pe_int)) pa_nil)) pe_int))
  (pss_one (ps_expr (pe_bm PySem.F.plainAttrs_list PySem.F.slot_list_append PySem.F.type_list_append mt_append (pv 3) (pa_cons (pe_op op_mod (pe_callTy call_int1 rfl T.z_int (by decide +kernel) (pa_cons (pv 6) pa_nil)) (pv 2)) pa_nil))))))))))
  (pss_one (ps_ret (pv 3))))))), ?_⟩
    refine ⟨by show 0 ≤ sizeLine; decide, fun p np => ⟨fun σ' H' => H' = upd H p (.lst []) ∧ ∃ r : Int, σ' = [some (.int c), some (.int (m : Int)), some (.int b), some (.ref p), some (.int r), none, none], ?_, ?_⟩⟩
    · refine ⟨_, rfl, _, _, rfl, rfl, ⟨by decide, by decide, by decide⟩, _, _, rfl, rfl, _, rfl, ?_⟩
      exact ite2 (fun _ => ⟨_, rfl, rfl, c, rfl⟩) (fun _ => ⟨rfl, 0, rfl⟩)
    rintro σ H1 ⟨rfl, r, rfl⟩
    refine ⟨_, rfl, _, rfl, by omega, by omega, ?_⟩
    rw [show ((m : Int)).toNat = m by omega]
    refine for_range (lo := 0) (n := m) (fun i σ H' => Same H H' ∧ (∃ ds : List Int, Digs b i ds ∧ H' p = some (.lst (ds.map V.int))) ∧ ∃ (r : Int) (y5 y6 : Option V), σ = [some (.int c), some (.int (m : Int)), some (.int b), some (.ref p), some (.int r), y5, y6])
      ⟨same_upd np, ⟨[], ⟨rfl, fun k h => absurd h (Nat.not_lt_zero _)⟩, upd_same⟩, r, _, _, rfl⟩ ?_ ?_
    · rintro i σ H1 hi ⟨s1, ⟨ds, hl, hp⟩, r, y5, y6, rfl⟩
      have put : ∀ z : Int, 0 ≤ z → z < b → Same H (upd H1 p (.lst (ds.map V.int ++ [.int z]))) ∧ ∃ es : List Int, Digs b (i + 1) es ∧ upd H1 p (.lst (ds.map V.int ++ [.int z])) p = some (.lst (es.map V.int)) := fun z z0 z1 => by
        refine ⟨fun a o e => ?_, ds ++ [z], ⟨by rw [List.length_append, hl.len]; rfl, fun k hk => ?_⟩, by rw [upd_same, List.map_append]; rfl⟩
        · rw [upd_ne (ne_of_none e np)]
          exact s1 _ _ e
        · have hl1 := hl.len
          rcases (by omega : k < i ∨ k = i) with h | h
          · have := hl.all k h
            rw [List.getD_eq_getElem?_getD, List.getElem?_append_left (by omega), ← List.getD_eq_getElem?_getD]
            exact this
          · subst h
            rw [List.getD_eq_getElem?_getD, List.getElem?_append_right (by omega), hl1, Nat.sub_self]
            exact ⟨z0, z1⟩
      have md : ∀ x : Int, 0 ≤ x % b ∧ x % b < b := fun x => ⟨Int.emod_nonneg _ (by omega), Int.emod_lt_of_pos _ hb⟩
      have sz : (ds.map V.int).length < sizeLine := by
        rw [List.length_map, hl.len]
        exact small1000 (by omega)
      refine ⟨_, rfl, _, _, rfl, rfl, _, rfl, ?_⟩
      refine ite2 (fun _ => ?_) (fun _ => ?_)
      · refine ⟨_, rfl, .inl ⟨rfl, _, .of hp⟩, _, rfl, .inl ⟨_, rfl, _, rfl, _, _, rfl, rfl, hb, p, _, _, rfl, rfl, hp, sz, ?_⟩⟩
        refine ⟨_, rfl, _, rfl, _, _, rfl, rfl, sb.div (by omega), ?_⟩
        have md := md r
        exact ⟨(put _ md.1 md.2).1, (put _ md.1 md.2).2, _, _, _, rfl⟩
      · refine ⟨_, rfl, _, rfl, _, _, rfl, rfl, .inl ⟨by decide, by omega⟩, _, _, rfl, rfl, _, _, rfl, rfl, _, _, rfl, rfl, .inr ⟨by decide, by decide⟩, .inl ⟨_, rfl, _, _, rfl, rfl, lt_mod, ?_⟩⟩
        have b1 : ∀ x : Int, 0 ≤ x % 2147483647 ∧ x % 2147483647 < 2147483647 := fun x => ⟨Int.emod_nonneg _ (by decide), Int.emod_lt_of_pos _ (by decide)⟩
        generalize hA : ((c + 7919 * (0 + (i : Int)) + 1) * 48271) % 2147483647 = a1
        have a1b := b1 ((c + 7919 * (0 + (i : Int)) + 1) * 48271)
        rw [hA] at a1b
        refine ⟨_, rfl, _, rfl, _, _, rfl, rfl, ⟨by decide, by decide⟩, _, _, rfl, rfl, _, _, rfl, rfl, .inl ⟨by omega, by omega⟩, .inl ⟨_, rfl, _, _, rfl, rfl, lt_mod, ?_⟩⟩
        generalize hB : (a1 * (a1.fdiv 1009 + 69621)) % 2147483647 = a2
        have a2b := b1 (a1 * (a1.fdiv 1009 + 69621))
        rw [hB] at a2b
        refine ⟨_, rfl, _, rfl, _, _, rfl, rfl, ⟨by decide, by decide⟩, _, _, rfl, rfl, _, _, rfl, rfl, .inl ⟨by omega, by omega⟩, .inl ⟨_, rfl, _, _, rfl, rfl, lt_mod', ?_⟩⟩
        refine ⟨_, rfl, .inl ⟨rfl, _, .of hp⟩, _, rfl, .inl ⟨_, rfl, _, rfl, _, _, rfl, rfl, hb, p, _, _, rfl, rfl, hp, sz, ?_⟩⟩
        exact ⟨(put _ (md _).1 (md _).2).1, (put _ (md _).1 (md _).2).2, _, _, _, rfl⟩
    · rintro σ H1 ⟨s1, ⟨ds, hl, hp⟩, r, y5, y6, rfl⟩
      exact ⟨_, rfl, q _ p ds s1 np hp hl⟩
theorem npow {i : Int} {e : Nat} (h : i.natAbs < 2 ^ e) (k : Nat) : (i ^ k).natAbs < 2 ^ (e * k + 1) := by
  rw [Int.natAbs_pow]
  have : i.natAbs ^ k ≤ (2 ^ e) ^ k := Nat.pow_le_pow_left (Nat.le_of_lt h) k
  rw [← Nat.pow_mul] at this
  exact Nat.lt_of_le_of_lt this (Nat.pow_lt_pow_right (by decide) (by omega))
theorem take_map_push {xs : List Int} {j : Nat} {x : Int} (h : xs[j]? = some x) : (xs.take j).map V.int ++ [V.int x] = (xs.take (j + 1)).map V.int := by
  have hj := (List.getElem?_eq_some_iff.mp h).1
  rw [List.take_add_one, h, List.map_append]
  rfl
theorem int_at {xs : List Int} {j : Nat} (h : j < xs.length) : (xs.map V.int)[j]? = some (V.int (xs.getD j 0)) := by
  rw [List.getElem?_map, getD_at h]
  rfl
/-- the row of the points ts / b with the weights ps / u, as the law computes it -/
def rowT (ts ps : List Int) (u b : Int) (k : Nat) : Int × Int := ((powl ts ps k).sum, u * b ^ k)
def sp_lrow : Sp := fun vs H Q _ => ∃ (ta pa : Addr) (ts ps : List Int) (u b : Int) (n e g : Nat), vs = [.ref ta, .ref pa, .int u, .int b, .int (n : Int)] ∧ H ta = some (.lst (ts.map V.int)) ∧ H pa = some (.lst (ps.map V.int)) ∧ ts.length = ps.length ∧ ts.length ≤ 8 ∧ n ≤ 20 ∧
  (∀ k, (ts.getD k 0).natAbs < 2 ^ e) ∧ (∀ k, (ps.getD k 0).natAbs < 2 ^ g) ∧ u.natAbs < 2 ^ g ∧ b.natAbs < 2 ^ e ∧ e * n + g + e + 9 ≤ 3990 ∧ ∀ H' v, Same H H' → TupsAt H' v n (rowT ts ps u b) → Q v H'
theorem ok__law_row (T : Txt K mg A D) : FnOk P w K mg base CX0 1 A.f__law_row D.f__law_row ["_law_tops", "_law_parts", "_law_under", "_law_bottom", "_law_size"] (sp_lrow) := by
  skip
  refine T.F__law_row.ok sc__law_row (fun vs H Q E h => ?_) (fun cdv A' outer s H vs Q E hr h => ?_)
  · obtain ⟨ta, pa, ts, ps, u, b, n, e, g, rfl, _⟩ := h
    rfl
  · obtain ⟨ta, pa, ts, ps, u, b, n, e, g, rfl, hta, hpa, hl, hl8, hn, ht, hp, hu, hb, hs, q⟩ := h
    refine ⟨_, (pss_cons (ps_set (i := 5) sc__law_row.nd rfl (.inl rfl) (pe_lst pa_nil))
  (pss_cons (ps_set (i := 6) sc__law_row.nd rfl (.inr rfl) (pe_callTy call_list_of rfl T.z_list (by decide +kernel) (pa_cons (pv 1) pa_nil)))
  (pss_cons (ps_set (i := 7) sc__law_row.nd rfl (.inl rfl) (pv 2))
  (pss_cons (ps_for PassesOwn.never rfl (pi_range1 rfl T.z_range (pa_cons (pv 4) pa_nil)) (pg_name (i := 8) sc__law_row.nd rfl (.inl rfl)) (pss_cons (ps_expr (pe_bm PySem.F.plainAttrs_list PySem.F.slot_list_append PySem.F.type_list_append mt_append (pv 5) (pa_cons (pe_tup (pa_cons (pe_callB (cr_sum rfl) rfl T.z_sum (by decide +kernel) (pa_cons (pv 6) pa_nil)) (pa_cons (pv 7) pa_nil))) pa_nil)))
  (pss_cons (ps_set (i := 6) sc__law_row.nd rfl (.inr rfl) (pe_lc (own := [("_law_at", 9)]) (g := gName 9) (tt := tYes) rfl sc__law_row.nd (pi_range1 rfl T.z_range (pa_cons (pe_callB call_len_seq rfl T.z_len (by decide +kernel) (pa_cons (pv 0) pa_nil)) pa_nil)) (blkOk_by (N := N__law_row) (sc := defScope s__law_row) (by decide +kernel)) (fun _ _ _ _ _ => (pg_name (i := 9) sc__law_row.nd rfl (.inl rfl))) (fun _ _ _ _ _ => pts_nil) (fun _ _ _ _ _ => (pe_op op_mulW (pe_ix (ix_listK (K := K) rfl) (pv 6) (pv 9) (fun _ _ => rfl)) (pe_ix (ix_listK (K := K) rfl) (pv 0) (pv 9) (fun _ _ => rfl))))))
  (pss_one (ps_set (i := 7) sc__law_row.nd rfl (.inl rfl) (pe_op op_mulW (pv 7) (pv 3)))))))
  (pss_one (ps_ret (pv 5))))))), ?_⟩
    refine ⟨by show 0 ≤ sizeLine; decide, fun r nr => ?_⟩
    have s1 := same_upd (o := .lst []) nr
    refine ⟨_, rfl, pa, _, rfl, .inl (.of (s1 _ _ hpa)), fun pp npp => ?_⟩
    have s2 := same_upd (o := .lst (ps.map V.int)) npp
    have s12 := s1.trans s2
    refine ⟨_, rfl, _, rfl, _, rfl, by omega, by omega, ?_⟩
    rw [show ((n : Int)).toNat = n by omega]
    have hr2 : upd (upd H r (.lst [])) pp (.lst (ps.map V.int)) r = some (.lst []) := s2 _ _ upd_same
    have en : ∀ i, i < n → e * i + e ≤ e * n := fun i hi => by
      have := Nat.mul_le_mul_left e hi
      rw [Nat.mul_succ] at this
      exact this
    refine for_range (lo := 0) (fun i σ G => Same H G ∧ ∃ (pp : Addr) (rs : List Addr) (y8 : Option V), σ = [some (.ref ta), some (.ref pa), some (.int u), some (.int b), some (.int (n : Int)), some (.ref r), some (.ref pp), some (.int (u * b ^ i)), y8, none] ∧ G pp = some (.lst ((powl ts ps i).map V.int)) ∧ G r = some (.lst (rs.map V.ref)) ∧ rs.length = i ∧ Tups G rs (rowT ts ps u b) ∧ pp ≠ r)
      ⟨s12, pp, [], _, by rw [Int.pow_zero, Int.mul_one]; rfl, by rw [powl_zero hl]; exact upd_same, hr2, rfl, Tups.nil, fun z => by rw [z, upd_same] at npp; cases npp⟩ ?_ ?_
    · rintro i σ G hi ⟨sm, pp, rs, y8, rfl, hpp, hr', lr, hT, ne⟩
      have ll := powl_len hl i
      have eni := en i hi
      refine ⟨_, rfl, .inl ⟨rfl, _, .of hr'⟩, _, rfl, pp, powl ts ps i, rfl, .of hpp, _, rfl, by show 2 ≤ sizeLine; decide, fun pr npr => ?_⟩
      have s3 := same_upd (o := tup2 (powl ts ps i).sum (u * b ^ i)) npr
      have hr3 := s3 _ _ hr'
      refine ⟨r, _, _, rfl, rfl, hr3, by rw [List.length_map]; exact small1000 (by omega), ?_⟩
      have sm3 : Same H (upd (upd G pr (tup2 (powl ts ps i).sum (u * b ^ i))) r (.lst (rs.map V.ref ++ [.ref pr]))) := same_push (sm.trans s3) nr
      have hT3 : Tups (upd (upd G pr (tup2 (powl ts ps i).sum (u * b ^ i))) r (.lst (rs.map V.ref ++ [.ref pr]))) (rs ++ [pr]) (rowT ts ps u b) := ((hT.same s3).push (by rw [lr]; exact upd_same)).put hr3
      have hpp3 : upd (upd G pr (tup2 (powl ts ps i).sum (u * b ^ i))) r (.lst (rs.map V.ref ++ [.ref pr])) pp = some (.lst ((powl ts ps i).map V.int)) := by
        rw [upd_ne ne]
        exact s3 _ _ hpp
      have hr4 : upd (upd G pr (tup2 (powl ts ps i).sum (u * b ^ i))) r (.lst (rs.map V.ref ++ [.ref pr])) r = some (.lst ((rs ++ [pr]).map V.ref)) := by rw [upd_same, List.map_append]; rfl
      generalize upd (upd G pr (tup2 (powl ts ps i).sum (u * b ^ i))) r (.lst (rs.map V.ref ++ [.ref pr])) = G4 at sm3 hT3 hpp3 hr4
      have hta4 := sm3 _ _ hta
      refine ⟨_, rfl, ta, _, rfl, .inl (.of hta4), _, rfl, by rw [List.length_map]; omega, by rw [List.length_map]; omega, fun d2 nd2 => ?_⟩
      rw [show (((ts.map V.int).length : Nat) : Int).toNat = ts.length by rw [List.length_map]; omega]
      refine lc_range (lo := 0) (fun j G2 => Same G4 G2 ∧ G2 d2 = some (.lst (((powl ts ps (i + 1)).take j).map V.int))) ⟨same_upd nd2, upd_same⟩ ?_ ?_
      · rintro j G5 hj ⟨sm5, hd2⟩
        have hg := powl_get hl (k := i) hj
        have hg1 := powl_get hl (k := i + 1) hj
        have hgv : ((powl ts ps i).map V.int)[j]? = some (.int (ps.getD j 0 * ts.getD j 0 ^ i)) := by
          rw [List.getElem?_map, hg]
          rfl
        have b1 := nmul (hp j) (npow (ht j) i)
        refine ⟨rfl, _, rfl, _, rfl, pp, _, _, _, rfl, rfl, .of (sm5 _ _ hpp3), at_get hgv, _, rfl, _, rfl, ta, _, _, _, rfl, rfl, .of (sm5 _ _ hta4), at_get (int_at hj), _, _, rfl, rfl, (sm_of b1 (by omega)).mul (sm_of (ht j) (by omega)), _, hd2, ?_, same_push sm5 nd2, ?_⟩
        · rw [List.length_map, List.length_take]
          exact small1000 (by omega)
        · have e1 : ps.getD j 0 * ts.getD j 0 ^ i * ts.getD j 0 = ps.getD j 0 * ts.getD j 0 ^ (i + 1) := by
            rw [Int.pow_succ, Int.mul_assoc]
          rw [upd_same, ← take_map_push hg1, ← e1]
      · rintro G5 ⟨sm5, hd2⟩
        have l2 := powl_len hl (i + 1)
        rw [List.take_of_length_le (by omega)] at hd2
        have bb := nmul hu (npow hb i)
        refine ⟨_, rfl, _, rfl, _, _, rfl, rfl, (sm_of bb (by omega)).mul (sm_of hb (by omega)), ?_⟩
        refine ⟨sm3.trans sm5, d2, rs ++ [pr], _, by rw [Int.pow_succ, ← Int.mul_assoc]; rfl, hd2, sm5 _ _ hr4, by rw [List.length_append, lr]; rfl, hT3.same sm5, fun z => ?_⟩
        rw [z, hr4] at nd2
        cases nd2
    · rintro σ G ⟨sm, pp, rs, y8, rfl, hpp, hr', lr, hT, ne⟩
      exact ⟨_, rfl, q G _ sm ⟨r, rs, rfl, hr', lr, hT⟩⟩
end
section
variable {P : Program} {w : World} {K : PySem.W.Frag} {mg : Str → Option Value} {base : Heap} {A : Ad} {D : Fd}
def sp_ratios (C : Addr) : Sp := fun vs H Q _ => ∃ v n F, vs = [v] ∧ TupsAt H v n F ∧ n ≤ 60 ∧ (∀ k, k < n → (F k).2 ≠ 0 ∧ Sm (F k).2) ∧ ∀ H' d xs, Same H H' → H d = none → H' d = some (.lst xs) → xs.length = n → RatsV C H' xs (fun k => qv (F k)) → Q (.ref d) H'
theorem ok__law_ratios (T : Txt K mg A D) : FnOk P w K mg base CX0 4 A.f__law_ratios D.f__law_ratios ["_law_row_here"] (sp_ratios A.Ratio) := by
  have G_Ratio_init : FnOk P w K mg base CX0 2 A.f_Ratio___init__ D.f_Ratio___init__ ["self", "top", "bottom"] (sp_init A.Ratio) := ok_Ratio___init__ T
  have b_Ratio_init2 := T.b_Ratio___init__
  have d_Ratio_init2 : Vals [] [] := .nil
  refine T.F__law_ratios.ok sc__law_ratios (fun vs H Q E h => ?_) (fun cdv A' outer s H vs Q E hr h => ?_)
  · obtain ⟨v, n, F, rfl, _⟩ := h
    rfl
  · obtain ⟨v, n, F, rfl, ⟨a, rs, rfl, ha, lr, hp⟩, hn, hc, q⟩ := h
    refine ⟨_, (pss_one (ps_ret (pe_lc (own := [("_law_pair_here", 1)]) (g := gName 1) (tt := tYes) rfl sc__law_ratios.nd (pi_list (pv 0)) (blkOk_by (N := N__law_ratios) (sc := defScope s__law_ratios) (by decide +kernel)) (fun _ _ _ _ _ => (pg_name (i := 1) sc__law_ratios.nd rfl (.inl rfl))) (fun _ _ _ _ _ => pts_nil) (fun _ _ _ _ _ => (pe_make T.M_Ratio G_Ratio_init (hr.mono (by decide)) rfl T.g_Ratio b_Ratio_init2 d_Ratio_init2 pass0 (pa_cons (pe_ix (ix_tupK (K := K) rfl) (pv 1) pe_int (fun _ _ => rfl)) (pa_cons (pe_ix (ix_tupK (K := K) rfl) (pv 1) pe_int (fun _ _ => rfl)) pa_nil))))))), ?_⟩
    refine ⟨_, rfl, a, rfl, ⟨_, .of ha⟩, fun d nd => ?_⟩
    refine lc_list (K := K) (a := a) (xs := rs.map V.ref) (fun i G => Gro A.Ratio H d (fun k => qv (F k)) i G) (.start nd) (fun i G _ p => .of (p.1 _ _ ha)) ?_ ?_
    · rintro i x G hx p
      obtain ⟨r, er, rfl⟩ := ref_get hx
      have il := get_lt er
      have hrr := p.1 _ _ (hp i r er)
      obtain ⟨c1, c2⟩ := hc i (by omega)
      exact ⟨rfl, _, rfl, r, _, 0, _, rfl, rfl, .of hrr, rfl, _, rfl, r, _, 1, _, rfl, rfl, .of hrr, rfl, fun x dx nx nd2 ne => rat_make c1 c2 nx nd2 ne fun G2 s2 r2 => p.push nd (by omega) s2 r2⟩
    · rintro G ⟨sm, xs, hl, hd, hr⟩
      rw [List.length_map] at hl
      exact q G d xs sm nd hd (by omega) hr
def sp_lpair (C : Addr) : Sp := fun vs H Q _ => ∃ v z, vs = [v] ∧ RatV C H v z ∧ ∀ p, H p = none → Q (.ref p) (upd H p (tup2 z.num (z.den : Int)))
theorem ok__law_pair (T : Txt K mg A D) : FnOk P w K mg base CX0 2 A.f__law_pair D.f__law_pair ["_law_value"] (sp_lpair A.Ratio) := by
  have G__law_integer : FnOk P w K mg base CX0 1 A.f__law_integer D.f__law_integer ["_law_value"] (sp_is_whole K) := ok__law_integer T
  refine T.F__law_pair.ok sc__law_pair (fun vs H Q E h => ?_) (fun cdv A' outer s H vs Q E hr h => ?_)
  · obtain ⟨v, z, rfl, _⟩ := h
    rfl
  · obtain ⟨v, z, rfl, ⟨a, dx, rfl, ha⟩, q⟩ := h
    refine ⟨_, (pss_cons (ps_if (pt_not (pt_val (pe_callB call_isi rfl T.z_isinstance (by decide +kernel) (pa_cons (pv 0) (pa_cons (pe_glob (v := .ref A.Ratio) rfl T.g_Ratio rfl) pa_nil))))) (pss_one (ps_ret pe_non)) pss_nil)
  (pss_cons (ps_if (PW.pt (pw_or (pt_not (pt_val (pe_call G__law_integer (hr.mono (by decide)) rfl T.g__law_integer T.F__law_integer.kp T.b__law_integer .nil pass0 (pa_cons (pe_fld (pv 0) rfl) pa_nil)))) (pw_or (pt_not (pt_val (pe_call G__law_integer (hr.mono (by decide)) rfl T.g__law_integer T.F__law_integer.kp T.b__law_integer .nil pass0 (pa_cons (pe_fld (pv 0) rfl) pa_nil)))) (pw_or1 (pt_cmpR op_lt (pe_fld (pv 0) rfl) pe_int (nomark _)))))) (pss_one (ps_ret pe_non)) pss_nil)
  (pss_one (ps_ret (pe_tup (pa_cons (pe_fld (pv 0) rfl) (pa_cons (pe_fld (pv 0) rfl) pa_nil))))))), ?_⟩
    have cl := T.k_Ratio.cl
    have nt := T.k_Ratio.n_top
    have nb := T.k_Ratio.n_bottom
    refine ⟨_, rfl, .ref a, .ref A.Ratio, _, _, true, rfl, .own _, T.k_Ratio.ty ha, kit_self, true, rfl, iteF ?_⟩
    refine ⟨_, rfl, a, A.Ratio, dx, _, _, rfl, ha, cl, nt, rfl, _, _, rfl, whole_int _, true, rfl, iteF ?_⟩
    refine ⟨_, rfl, a, A.Ratio, dx, _, _, rfl, ha, cl, nb, rfl, _, _, rfl, whole_int _, true, rfl, iteF ?_⟩
    refine ⟨_, rfl, a, A.Ratio, dx, _, _, rfl, ha, cl, nb, rfl, _, _, rfl, rfl, _, rfl, iteFe (decide_eq_false (by have := den_pos z; omega)) ?_⟩
    exact ⟨_, rfl, a, A.Ratio, dx, _, _, rfl, ha, cl, nt, rfl, _, rfl, a, A.Ratio, dx, _, _, rfl, ha, cl, nb, rfl, by show 2 ≤ sizeLine; decide, fun p np => q p np⟩
def sp_same (C : Addr) : Sp := fun vs H Q _ => ∃ v t z x y, vs = [v, .ref t] ∧ RatV C H v z ∧ H t = some (tup2 x y) ∧ y ≠ 0 ∧ qv (x, y) = z ∧ Bd 3900 3900 z ∧ Sm x ∧ Sm y ∧ ∀ H', Same H H' → Q (.bl true) H'
theorem cross_of {x y : Int} {z : Rat} (hy : y ≠ 0) (h : qv (x, y) = z) : z.num * y = x * (z.den : Int) := inj (by
  have h1 : z * (y : Rat) = x := by rw [← h]; exact qv_mul (p := (x, y)) hy
  rw [Rat.intCast_mul, Rat.intCast_mul, ← h1, num_is]
  grind)
theorem ok__law_same (T : Txt K mg A D) : FnOk P w K mg base CX0 3 A.f__law_same D.f__law_same ["_law_value", "_law_due"] (sp_same A.Ratio) := by
  have G__law_pair : FnOk P w K mg base CX0 2 A.f__law_pair D.f__law_pair ["_law_value"] (sp_lpair A.Ratio) := ok__law_pair T
  refine T.F__law_same.ok sc__law_same (fun vs H Q E h => ?_) (fun cdv A' outer s H vs Q E hr h => ?_)
  · obtain ⟨v, t, z, x, y, rfl, _⟩ := h
    rfl
  · obtain ⟨v, t, z, x, y, rfl, hv, ht, hy, hz, bz, sx, sy, q⟩ := h
    refine ⟨_, (pss_cons (ps_set (i := 2) sc__law_same.nd rfl (.inl rfl) (pe_call G__law_pair (hr.mono (by decide)) rfl T.g__law_pair T.F__law_pair.kp T.b__law_pair .nil pass0 (pa_cons (pv 0) pa_nil)))
  (pss_one (ps_ret (pe_and (pe_cmpR op_notN (pv 2) pe_non (nomark _)) (pe_one (pe_cmpR op_eq (pe_op op_mulW (pe_ix ix_tup (pv 2) pe_int (fun _ _ => rfl)) (pe_ix ix_tup (pv 1) pe_int (fun _ _ => rfl))) (pe_op op_mulW (pe_ix ix_tup (pv 1) pe_int (fun _ _ => rfl)) (pe_ix ix_tup (pv 2) pe_int (fun _ _ => rfl))) (nomark _))))))), ?_⟩
    refine ⟨_, rfl, v, z, rfl, hv, fun p np => ?_⟩
    have s1 := same_upd (o := tup2 z.num (z.den : Int)) np
    have hp1 : upd H p (tup2 z.num (z.den : Int)) p = some (tup2 z.num (z.den : Int)) := upd_same
    have ht1 := s1 _ _ ht
    refine ⟨_, rfl, rfl, true, rfl, iteT ?_⟩
    refine ⟨_, rfl, p, _, 0, _, rfl, rfl, .of hp1, rfl, _, rfl, t, _, 1, _, rfl, rfl, .of ht1, rfl, _, _, rfl, rfl, (bz.s1 (by decide)).mul sy, ?_⟩
    refine ⟨_, rfl, t, _, 0, _, rfl, rfl, .of ht1, rfl, _, rfl, p, _, 1, _, rfl, rfl, .of hp1, rfl, _, _, rfl, rfl, sx.mul (bz.s2 (by decide)), rfl, ?_⟩
    have e : decide (V.int (z.num * y) = V.int (x * (z.den : Int))) = true := decide_eq_true (by rw [cross_of hy hz])
    exact e ▸ q _ s1
def sp_sameall (C : Addr) : Sp := fun vs H Q _ => ∃ d v xs g n F, vs = [.ref d, v] ∧ H d = some (.lst xs) ∧ RatsV C H xs g ∧ xs.length = n ∧ n ≤ 60 ∧ TupsAt H v n F ∧ (∀ k, k < n → (F k).2 ≠ 0 ∧ qv (F k) = g k ∧ Bd 3900 3900 (g k) ∧ Sm (F k).1 ∧ Sm (F k).2) ∧ ∀ H', Same H H' → Q (.bl true) H'
theorem ok__law_same_all (T : Txt K mg A D) : FnOk P w K mg base CX0 4 A.f__law_same_all D.f__law_same_all ["_law_values", "_law_dues"] (sp_sameall A.Ratio) := by
  have G__law_same : FnOk P w K mg base CX0 3 A.f__law_same D.f__law_same ["_law_value", "_law_due"] (sp_same A.Ratio) := ok__law_same T
  refine T.F__law_same_all.ok sc__law_same_all (fun vs H Q E h => ?_) (fun cdv A' outer s H vs Q E hr h => ?_)
  · obtain ⟨d, v, xs, g, n, F, rfl, _⟩ := h
    rfl
  · obtain ⟨d, v, xs, g, n, F, rfl, hd, rt, hl, hn, ⟨a, rs, rfl, ha, lr, hp⟩, hc, q⟩ := h
    refine ⟨_, (pss_cons (ps_if (PW.pt (pw_or (pt_not (pt_val (pe_callB call_isi rfl T.z_isinstance (by decide +kernel) (pa_cons (pv 0) (pa_cons (pe_bltn (v := .ty "list") rfl T.z_list (by decide +kernel) rfl) pa_nil))))) (pw_or1 (pt_cmpR op_ne (pe_callB call_len_seq rfl T.z_len (by decide +kernel) (pa_cons (pv 0) pa_nil)) (pe_callB call_len_seq rfl T.z_len (by decide +kernel) (pa_cons (pv 1) pa_nil)) (nomark _))))) (pss_one (ps_ret pe_bl)) pss_nil)
  (pss_cons (ps_for PassesOwn.never rfl (pi_range1 rfl T.z_range (pa_cons (pe_callB call_len_seq rfl T.z_len (by decide +kernel) (pa_cons (pv 1) pa_nil)) pa_nil)) (pg_name (i := 2) sc__law_same_all.nd rfl (.inl rfl)) (pss_one (ps_if (pt_not (pt_val (pe_call G__law_same (hr.mono (by decide)) rfl T.g__law_same T.F__law_same.kp T.b__law_same .nil pass0 (pa_cons (pe_ix ix_list (pv 0) (pv 2) (fun _ _ => rfl)) (pa_cons (pe_ix ix_list (pv 1) (pv 2) (fun _ _ => rfl)) pa_nil))))) (pss_one (ps_ret pe_bl)) pss_nil)))
  (pss_one (ps_ret pe_bl)))), ?_⟩
    have e1 : ((xs.length : Int)) = ((rs.map V.ref).length : Int) := by rw [List.length_map]; omega
    refine ⟨_, rfl, .ref d, .ty "list", _, _, true, rfl, .ty _, .base (.lst hd), kit_ty (by decide +kernel), true, rfl, iteF ?_⟩
    refine ⟨_, rfl, d, xs, rfl, .inl (.of hd), _, rfl, a, _, rfl, .inl (.of ha), rfl, _, rfl, iteFe (by rw [e1, decide_eq_true rfl]; rfl) ?_⟩
    refine ⟨_, rfl, a, _, rfl, .inl (.of ha), _, rfl, by rw [List.length_map]; omega, by rw [List.length_map]; omega, ?_⟩
    refine for_range (lo := 0) (fun i σ H' => Same H H' ∧ ∃ y : Option V, σ = [some (.ref d), some (.ref a), y]) ⟨Same.refl H, _, rfl⟩ ?_ ?_
    · rintro k σ G hk ⟨sm, y, rfl⟩
      rw [List.length_map] at hk
      have k1 : k < rs.length := by omega
      have k2 : k < xs.length := by omega
      obtain ⟨r, er, er2⟩ := pr_get k1
      have hx := List.getElem?_eq_getElem k2
      obtain ⟨c1, c2, c3, c4, c5⟩ := hc k (by omega)
      refine ⟨_, rfl, _, rfl, d, xs, _, _, rfl, rfl, .of (sm _ _ hd), at_get hx, _, rfl, _, rfl, a, _, _, _, rfl, rfl, .of (sm _ _ ha), at_get er2, ?_⟩
      exact ⟨_, r, g k, _, _, rfl, (rt k _ hx).same sm, sm _ _ (hp k r er), c1, c2, c3, c4, c5, fun G2 s2 => ⟨true, rfl, iteF ⟨sm.trans s2, _, rfl⟩⟩⟩
    · rintro σ G ⟨sm, y, rfl⟩
      exact q G sm
def sp_plus : Sp := fun vs H Q _ => ∃ a b x y z u, vs = [.ref a, .ref b] ∧ H a = some (tup2 x y) ∧ H b = some (tup2 z u) ∧ Sm x ∧ Sm y ∧ Sm z ∧ Sm u ∧ ∀ p, H p = none → Q (.ref p) (upd H p (tup2 (x * u + z * y) (y * u)))
theorem ok__law_plus (T : Txt K mg A D) : FnOk P w K mg base CX0 1 A.f__law_plus D.f__law_plus ["_law_one", "_law_other"] (sp_plus) := by
  skip
  refine T.F__law_plus.ok sc__law_plus (fun vs H Q E h => ?_) (fun cdv A' outer s H vs Q E hr h => ?_)
  · obtain ⟨a, b, x, y, z, u, rfl, _⟩ := h
    rfl
  · obtain ⟨a, b, x, y, z, u, rfl, ha, hb, s1, s2, s3, s4, q⟩ := h
    refine ⟨_, (pss_one (ps_ret (pe_tup (pa_cons (pe_op op_add (pe_op op_mulW (pe_ix ix_tup (pv 0) pe_int (fun _ _ => rfl)) (pe_ix ix_tup (pv 1) pe_int (fun _ _ => rfl))) (pe_op op_mulW (pe_ix ix_tup (pv 1) pe_int (fun _ _ => rfl)) (pe_ix ix_tup (pv 0) pe_int (fun _ _ => rfl)))) (pa_cons (pe_op op_mulW (pe_ix ix_tup (pv 0) pe_int (fun _ _ => rfl)) (pe_ix ix_tup (pv 1) pe_int (fun _ _ => rfl))) pa_nil))))), ?_⟩
    refine ⟨_, rfl, a, _, 0, _, rfl, rfl, .of ha, rfl, _, rfl, b, _, 1, _, rfl, rfl, .of hb, rfl, _, _, rfl, rfl, s1.mul s4, ?_⟩
    refine ⟨_, rfl, b, _, 0, _, rfl, rfl, .of hb, rfl, _, rfl, a, _, 1, _, rfl, rfl, .of ha, rfl, _, _, rfl, rfl, s3.mul s2, _, _, rfl, rfl, ?_⟩
    exact ⟨_, rfl, a, _, 1, _, rfl, rfl, .of ha, rfl, _, rfl, b, _, 1, _, rfl, rfl, .of hb, rfl, _, _, rfl, rfl, s2.mul s4, by show 2 ≤ sizeLine; decide, fun p np => q p np⟩
/-- a row of pairs with bottoms above 0, all below 2 ^ e, the product of the bottoms below 2 ^ g -/
structure RowOk (F : Nat → Int × Int) (n e g : Nat) : Prop where
  pos : ∀ k, k < n → 0 < (F k).2
  top : ∀ k, k < n → (F k).1.natAbs < 2 ^ e
  bot : ∀ k, k < n → (F k).2.natAbs < 2 ^ e
  all : (WN F 0 n).natAbs < 2 ^ g
/-- the sum of the first m items of a line of the table -/
def tbN (F : Nat → Int × Int) (k a : Nat) : Nat → Int
  | 0 => 0
  | m + 1 => tbN F k a m * (F (a + m)).2 + ln k m * (F (a + m)).1 * WN F a m
theorem tb_val {F : Nat → Int × Int} {k a n : Nat} (h : ∀ j, j < n → 0 < (F j).2) : ∀ m, a + m ≤ n → ((tbN F k a m : Int) : Rat) = sumR (fun i => ((ln k i : Int) : Rat) * qv (F (a + i))) m * ((WN F a m : Int) : Rat)
  | 0, _ => by show ((0 : Int) : Rat) = 0 * _; rw [Rat.intCast_zero]; grind
  | m + 1, hm => by
    show ((tbN F k a m * (F (a + m)).2 + ln k m * (F (a + m)).1 * WN F a m : Int) : Rat) = (_ + _) * ((WN F a m * (F (a + m)).2 : Int) : Rat)
    have ih := tb_val (k := k) (n := n) (a := a) h m (by omega)
    have hq := qv_mul (p := F (a + m)) (by have := h (a + m) (by omega); omega)
    rw [Rat.intCast_add, Rat.intCast_mul, Rat.intCast_mul, Rat.intCast_mul, Rat.intCast_mul, ih, ← hq]
    grind
theorem tb_lt {F : Nat → Int × Int} {k a n e : Nat} (h : ∀ j, j < n → 0 < (F j).2) (ht : ∀ j, j < n → (F j).1.natAbs < 2 ^ e) : ∀ m, a + m ≤ n → (tbN F k a m).natAbs ≤ m * 2 ^ (k + e) * (WN F a m).natAbs
  | 0, _ => by show (0 : Int).natAbs ≤ _; exact Nat.zero_le _
  | m + 1, hm => by
    have ih := tb_lt (k := k) (n := n) (a := a) h ht m (by omega)
    have hb := h (a + m) (by omega)
    have hw : 0 < WN F a m := WN_pos m fun j hj => h j (by omega)
    show (tbN F k a m * (F (a + m)).2 + ln k m * (F (a + m)).1 * WN F a m).natAbs ≤ (m + 1) * 2 ^ (k + e) * (WN F a m * (F (a + m)).2).natAbs
    have h1 : (tbN F k a m * (F (a + m)).2).natAbs ≤ m * 2 ^ (k + e) * (WN F a m * (F (a + m)).2).natAbs := by
      rw [Int.natAbs_mul, Int.natAbs_mul, ← Nat.mul_assoc]
      exact Nat.mul_le_mul_right _ ih
    have h2 : (ln k m * (F (a + m)).1 * WN F a m).natAbs ≤ 2 ^ (k + e) * (WN F a m * (F (a + m)).2).natAbs := by
      rw [Int.natAbs_mul, Int.natAbs_mul, Int.natAbs_mul, Nat.pow_add]
      have a1 := ln_lt k m
      have a2 := ht (a + m) (by omega)
      refine Nat.mul_le_mul (Nat.mul_le_mul a1 (by omega)) ?_
      exact Nat.le_mul_of_pos_right _ (by omega)
    have h3 := Int.natAbs_add_le (tbN F k a m * (F (a + m)).2) (ln k m * (F (a + m)).1 * WN F a m)
    rw [Nat.add_mul, Nat.add_mul, Nat.one_mul]
    omega
/-- a line of the table -/
def tbF (F : Nat → Int × Int) (k a : Nat) : Int × Int := (tbN F k a (k + 1), WN F a (k + 1))
theorem tbF_val {F : Nat → Int × Int} {k a n : Nat} (h : ∀ j, j < n → 0 < (F j).2) (hk : a + k < n) : qv (tbF F k a) = dfF (fun j => qv (F j)) k a := by
  have hw : 0 < WN F a (k + 1) := WN_pos _ fun j hj => h j (by omega)
  refine div_eq (by show WN F a (k + 1) ≠ 0; omega) ?_
  show dfF _ k a * ((WN F a (k + 1) : Int) : Rat) = ((tbN F k a (k + 1) : Int) : Rat)
  rw [tb_val (n := n) h (k + 1) (by omega), ← ln_sum (fun j => qv (F j)) k a]
theorem qv_zero {F : Nat → Int × Int} {a : Nat} : qv (F a) = dfF (fun j => qv (F j)) 0 a := rfl
/-- the table: its first line is the row, the others are the law's sums -/
def tbl (F : Nat → Int × Int) (k : Nat) : Nat → Int × Int := fun a => if k = 0 then F a else tbF F k a
theorem tbl_val {F : Nat → Int × Int} {k a n : Nat} (h : ∀ j, j < n → 0 < (F j).2) (hk : a + k < n) : 0 < (tbl F k a).2 ∧ qv (tbl F k a) = dfF (fun j => qv (F j)) k a := by
  show 0 < (if k = 0 then F a else tbF F k a).2 ∧ qv (if k = 0 then F a else tbF F k a) = _
  split
  · rename_i e
    subst e
    exact ⟨h a (by omega), rfl⟩
  · exact ⟨WN_pos _ fun j hj => h j (by omega), tbF_val h hk⟩
theorem tbN_sm {F : Nat → Int × Int} {k a n e g m : Nat} (ok : RowOk F n e g) (hm : a + m ≤ n) (hk : k ≤ 20) (h13 : m ≤ 16) (he : e + g ≤ 3000) : (tbN F k a m).natAbs < 2 ^ (e + g + 30) ∧ (WN F a m).natAbs < 2 ^ g := by
  have h2 : (WN F a m).natAbs < 2 ^ g := by
    have h3 := WN_le ok.pos hm
    have h4 : 0 < WN F a m := WN_pos m fun j hj => ok.pos j (by omega)
    have := ok.all
    omega
  refine ⟨?_, h2⟩
  have h1 := tb_lt (k := k) ok.pos ok.top m hm
  have h5 : m * 2 ^ (k + e) * (WN F a m).natAbs < 2 ^ 5 * 2 ^ (20 + e) * 2 ^ g := by
    refine Nat.mul_lt_mul_of_le_of_lt (Nat.mul_le_mul (by omega) (two_le (by omega))) h2 ?_
    exact Nat.mul_pos (by decide) (Nat.two_pow_pos _)
  rw [← Nat.pow_add, ← Nat.pow_add] at h5
  exact lt_le (Nat.lt_of_le_of_lt h1 h5) (by omega)
theorem tbl_succ {F : Nat → Int × Int} {k a : Nat} : tbl F (k + 1) a = tbF F (k + 1) a := if_neg (by omega)
/-- lists of tuples, line k of the table -/
def TabAt (H : Hp) (rs : List Addr) (F : Nat → Int × Int) (n : Nat) : Prop := ∀ k r, rs[k]? = some r → TupsAt H (.ref r) (n - k) (tbl F k)
theorem TabAt.same {H H' : Hp} {rs : List Addr} {F : Nat → Int × Int} {n : Nat} (h : TabAt H rs F n) (s : Same H H') : TabAt H' rs F n := fun k r e => (h k r e).same s
theorem TupsAt.put {H : Hp} {v : V} {n : Nat} {F : Nat → Int × Int} {d : Addr} {ys : List V} {o : HO} (h : TupsAt H v n F) (hd : H d = some (.lst ys)) (ne : v ≠ .ref d) : TupsAt (upd H d o) v n F := by
  obtain ⟨a, rs, rfl, h, l, p⟩ := h
  exact ⟨a, rs, rfl, by rw [upd_ne fun z => ne (by rw [z])]; exact h, l, p.put hd⟩
def sp_table : Sp := fun vs H Q _ => ∃ v n F e g, vs = [v] ∧ TupsAt H v n F ∧ 0 < n ∧ n ≤ 13 ∧ RowOk F n e g ∧ e + g ≤ 3000 ∧ ∀ H' d rs, Same H H' → H' d = some (.lst (rs.map V.ref)) → rs.length = n → TabAt H' rs F n → Q (.ref d) H'
theorem ok__law_table (T : Txt K mg A D) : FnOk P w K mg base CX0 2 A.f__law_table D.f__law_table ["_law_row_here"] (sp_table) := by
  have G__law_plus : FnOk P w K mg base CX0 1 A.f__law_plus D.f__law_plus ["_law_one", "_law_other"] (sp_plus) := ok__law_plus T
  refine T.F__law_table.ok sc__law_table (fun vs H Q E h => ?_) (fun cdv A' outer s H vs Q E hr h => ?_)
  · obtain ⟨v, n, F, e, g, rfl, _⟩ := h
    rfl
  · obtain ⟨v, n, F, e, g, rfl, ⟨a, rs0, rfl, ha, lr, hp⟩, n0, n1, ok, hs, q⟩ := h
    refine ⟨_, (pss_cons (ps_set (i := 1) sc__law_table.nd rfl (.inl rfl) (pe_lst (pa_cons (pe_callTy call_list_of rfl T.z_list (by decide +kernel) (pa_cons (pv 0) pa_nil)) pa_nil)))
  (pss_cons (ps_set (i := 2) sc__law_table.nd rfl (.inr rfl) (pe_lst (pa_cons pe_int pa_nil)))
  (pss_cons (ps_for PassesOwn.never rfl (pi_range2 rfl T.z_range (pa_cons pe_int (pa_cons (pe_callB call_len_seq rfl T.z_len (by decide +kernel) (pa_cons (pv 0) pa_nil)) pa_nil))) (pg_name (i := 3) sc__law_table.nd rfl (.inl rfl)) (pss_cons (ps_set (i := 2) sc__law_table.nd rfl (.inr rfl) (pe_op op_cat (pe_op op_cat (pe_lst (pa_cons pe_int pa_nil)) (pe_lc (own := [("_law_i", 4)]) (g := gName 4) (tt := tYes) rfl sc__law_table.nd (pi_range1 rfl T.z_range (pa_cons (pe_op op_sub (pe_callB call_len_seq rfl T.z_len (by decide +kernel) (pa_cons (pv 2) pa_nil)) pe_int) pa_nil)) (blkOk_by (N := N__law_table) (sc := defScope s__law_table) (by decide +kernel)) (fun _ _ _ _ _ => (pg_name (i := 4) sc__law_table.nd rfl (.inl rfl))) (fun _ _ _ _ _ => pts_nil) (fun _ _ _ _ _ => (pe_op op_sub (pe_ix (ix_listK (K := K) rfl) (pv 2) (pe_op op_add (pv 4) pe_int) (fun _ _ => rfl)) (pe_ix (ix_listK (K := K) rfl) (pv 2) (pv 4) (fun _ _ => rfl)))))) (pe_lst (pa_cons (pe_un un_neg (pe_ix ix_list (pv 2) (pe_un un_neg pe_int) (fun _ _ => rfl))) pa_nil))))
  (pss_cons (ps_set (i := 5) sc__law_table.nd rfl (.inl rfl) (pe_lst pa_nil))
  (pss_cons (ps_for PassesOwn.never rfl (pi_range1 rfl T.z_range (pa_cons (pe_op op_sub (pe_callB call_len_seq rfl T.z_len (by decide +kernel) (pa_cons (pv 0) pa_nil)) (pv 3)) pa_nil)) (pg_name (i := 6) sc__law_table.nd rfl (.inl rfl)) (pss_cons (ps_set (i := 7) sc__law_table.nd rfl (.inl rfl) (pe_tup (pa_cons pe_int (pa_cons pe_int pa_nil))))
  (pss_cons (ps_for PassesOwn.never rfl (pi_range1 rfl T.z_range (pa_cons (pe_op op_add (pv 3) pe_int) pa_nil)) (pg_name (i := 4) sc__law_table.nd rfl (.inl rfl)) (pss_one (ps_set (i := 7) sc__law_table.nd rfl (.inl rfl) (pe_call G__law_plus (hr.mono (by decide)) rfl T.g__law_plus T.F__law_plus.kp T.b__law_plus .nil pass0 (pa_cons (pv 7) (pa_cons (pe_tup (pa_cons (pe_op op_mulW (pe_ix ix_list (pv 2) (pv 4) (fun _ _ => rfl)) (pe_ix ix_tup (pe_ix ix_list (pv 0) (pe_op op_add (pv 6) (pv 4)) (fun _ _ => rfl)) pe_int (fun _ _ => rfl))) (pa_cons (pe_ix ix_tup (pe_ix ix_list (pv 0) (pe_op op_add (pv 6) (pv 4)) (fun _ _ => rfl)) pe_int (fun _ _ => rfl)) pa_nil))) pa_nil))))))
  (pss_one (ps_expr (pe_bm PySem.F.plainAttrs_list PySem.F.slot_list_append PySem.F.type_list_append mt_append (pv 5) (pa_cons (pv 7) pa_nil)))))))
  (pss_one (ps_expr (pe_bm PySem.F.plainAttrs_list PySem.F.slot_list_append PySem.F.type_list_append mt_append (pv 1) (pa_cons (pv 5) pa_nil))))))))
  (pss_one (ps_ret (pv 1)))))), ?_⟩
    refine ⟨_, rfl, a, _, rfl, .inl (.of ha), fun r0 nr0 => ⟨by show 1 ≤ sizeLine; decide, fun d nd => ?_⟩⟩
    have k0 := same_upd (o := .lst (rs0.map V.ref)) nr0
    have k1 := same_upd (o := .lst [V.ref r0]) nd
    have h0 : upd H r0 (.lst (rs0.map V.ref)) r0 = some (.lst (rs0.map V.ref)) := upd_same
    have n0d : r0 ≠ d := fun z => by subst z; rw [h0] at nd; cases nd
    have nd0 : H d = none := k0.free nd
    have hT0 : TupsAt (upd (upd H r0 (.lst (rs0.map V.ref))) d (.lst [V.ref r0])) (.ref r0) n (tbl F 0) := ⟨r0, rs0, rfl, k1 _ _ h0, lr, (hp.same k0).same k1⟩
    have hd0 : upd (upd H r0 (.lst (rs0.map V.ref))) d (.lst [V.ref r0]) d = some (.lst [V.ref r0]) := upd_same
    have k01 := k0.trans k1
    show tSeq _ _ _ _ (upd (upd H r0 (.lst (rs0.map V.ref))) d (.lst [V.ref r0]))
    generalize upd (upd H r0 (.lst (rs0.map V.ref))) d (.lst [V.ref r0]) = H1 at hT0 hd0 k01
    clear k0 k1 h0 nd nr0
    refine ⟨by show 1 ≤ sizeLine; decide, fun l nl => ?_⟩
    have k2 := same_upd (o := .lst [V.int 1]) nl
    refine ⟨_, rfl, a, _, rfl, .inl (.of (k2 _ _ (k01 _ _ ha))), _, _, rfl, by rw [List.length_map]; omega, ?_⟩
    rw [show ((((rs0.map V.ref).length : Nat) : Int) - 1).toNat = n - 1 by rw [List.length_map]; omega]
    have pos := ok.pos
    refine for_range (lo := 1) (fun i σ G => Same H G ∧ ∃ (l : Addr) (rs : List Addr) (y3 y4 y5 y6 y7 : Option V), σ = [some (.ref a), some (.ref d), some (.ref l), y3, y4, y5, y6, y7] ∧ G l = some (intsO (ln i) (i + 1)) ∧ G d = some (.lst (rs.map V.ref)) ∧ rs.length = i + 1 ∧ TabAt G rs F n ∧ (∀ r ∈ rs, r ≠ d) ∧ l ≠ d)
      ⟨k01.trans k2, l, [r0], none, none, none, none, none, rfl, upd_same, k2 _ _ hd0, rfl, fun k r e => ?_, fun r h => by cases List.mem_singleton.mp h; exact n0d, fun z => by rw [z, hd0] at nl; cases nl⟩ ?_ ?_
    · cases k with
      | zero =>
        cases e
        exact hT0.same k2
      | succ k => simp at e
    · rintro i σ G hi ⟨sm, l, rs, y3, y4, y5, y6, y7, rfl, hl, hd, hrl, hT, hne, ld⟩
      -- the next line
      refine ⟨by show 1 ≤ sizeLine; decide, fun o1 no1 => ?_⟩
      have q1 := same_upd (o := .lst [V.int 1]) no1
      have ho1 : upd G o1 (.lst [V.int 1]) o1 = some (.lst [V.int 1]) := upd_same
      have hl1 := q1 _ _ hl
      generalize upd G o1 (.lst [V.int 1]) = G1 at q1 ho1 hl1
      refine ⟨_, rfl, l, _, rfl, .inl (.of hl1), _, _, rfl, rfl, _, rfl, by rw [ints_len]; omega, by rw [ints_len]; omega, fun o2 no2 => ?_⟩
      rw [show ((((((List.range (i + 1)).map (ln i)).map V.int).length : Nat) : Int) - 1).toNat = i by rw [ints_len]; omega]
      refine lc_range (lo := 0) (fun j G2 => GroI G1 o2 (fun j => ln i (j + 1) - ln i j) j G2) (.start no2) ?_ ?_
      · rintro j G2 hj p
        have hl2 := p.1 _ _ hl1
        have b1 : atI (((List.range (i + 1)).map (ln i)).map V.int) (0 + (j : Int) + 1) = some (V.int (ln i (j + 1))) := by
          have := ints_get (g := ln i) (n := i + 1) (k := j + 1) (by omega)
          rw [show (0 : Int) + (j : Int) + 1 = 0 + ((j + 1 : Nat) : Int) by omega]
          exact this
        exact ⟨rfl, _, rfl, _, rfl, _, _, rfl, rfl, l, _, _, _, rfl, rfl, .of hl2, b1, _, rfl, _, rfl, l, _, _, _, rfl, rfl, .of hl2, ints_get (by omega), _, _, rfl, rfl, p.push no2 (by omega) (Same.refl _)⟩
      rintro G2 ⟨q2, ho2⟩
      refine ⟨o1, o2, _, _, rfl, rfl, q2 _ _ ho1, ho2, by rw [ints_len]; exact Nat.le_of_lt (small1000 (by show 1 + i ≤ 1000; omega)), fun o3 no3 => ?_⟩
      have q3 := same_upd (o := .lst ([V.int 1] ++ ((List.range i).map (fun j => ln i (j + 1) - ln i j)).map V.int)) no3
      have ho3 : upd G2 o3 (.lst ([V.int 1] ++ ((List.range i).map (fun j => ln i (j + 1) - ln i j)).map V.int)) o3 = some (.lst ([V.int 1] ++ ((List.range i).map (fun j => ln i (j + 1) - ln i j)).map V.int)) := upd_same
      have hl3 := q3 _ _ (q2 _ _ hl1)
      have q13 := (q1.trans q2).trans q3
      generalize upd G2 o3 (.lst ([V.int 1] ++ ((List.range i).map (fun j => ln i (j + 1) - ln i j)).map V.int)) = G3 at q3 ho3 hl3 q13
      refine ⟨_, rfl, 1, rfl, l, _, _, _, rfl, rfl, .of hl3, at_last (j := i) (by rw [ints_len]) (ints_at (by omega)), _, rfl, by show 1 ≤ sizeLine; decide, fun o4 no4 => ?_⟩
      have q4 := same_upd (o := .lst [V.int (-ln i i)]) no4
      have ho4 : upd G3 o4 (.lst [V.int (-ln i i)]) o4 = some (.lst [V.int (-ln i i)]) := upd_same
      refine ⟨o3, o4, _, _, rfl, rfl, q4 _ _ ho3, ho4, ?_, fun o5 no5 => ?_⟩
      · rw [List.length_append, ints_len]
        exact Nat.le_of_lt (small1000 (by show 1 + i + 1 ≤ 1000; omega))
      have eL : ([V.int 1] ++ ((List.range i).map (fun j => ln i (j + 1) - ln i j)).map V.int) ++ [V.int (-ln i i)] = ((List.range (i + 2)).map (ln (i + 1))).map V.int := by
        rw [← ln_next, List.map_append, List.map_append]
        rfl
      rw [eL]
      have q5 := same_upd (o := intsO (ln (i + 1)) (i + 2)) no5
      have ho5 : upd (upd G3 o4 (.lst [V.int (-ln i i)])) o5 (intsO (ln (i + 1)) (i + 2)) o5 = some (intsO (ln (i + 1)) (i + 2)) := upd_same
      have q15 := (q13.trans q4).trans q5
      show tSeq _ _ _ _ (upd (upd G3 o4 (.lst [V.int (-ln i i)])) o5 (intsO (ln (i + 1)) (i + 2)))
      have nd5 : o5 ≠ d := fun z => by
        have := q4 _ _ (q13 _ _ hd)
        rw [z, this] at no5
        cases no5
      clear q1 ho1 hl1 q2 ho2 q3 ho3 hl3 q13 q4 ho4 no3 no4 no5 no2 eL
      generalize upd (upd G3 o4 (.lst [V.int (-ln i i)])) o5 (intsO (ln (i + 1)) (i + 2)) = G5 at ho5 q15
      -- the sums of the line
      refine ⟨by show 0 ≤ sizeLine; decide, fun w nw => ?_⟩
      have q6 := same_upd (o := .lst []) nw
      have hw6 : upd G5 w (.lst []) w = some (.lst []) := upd_same
      have ho6 := q6 _ _ ho5
      have q06 := sm.trans (q15.trans q6)
      refine ⟨_, rfl, a, _, rfl, .inl (.of (q06 _ _ ha)), _, rfl, _, _, rfl, rfl, _, rfl, by rw [List.length_map]; omega, by rw [List.length_map]; omega, ?_⟩
      rw [show ((((rs0.map V.ref).length : Nat) : Int) - (1 + (i : Int))).toNat = n - (i + 1) by rw [List.length_map]; omega]
      have hd5 := q15 _ _ hd
      have wd : w ≠ d := fun z => by rw [z, hd5] at nw; cases nw
      refine for_range (lo := 0) (fun at' σ E => Same G5 E ∧ ∃ (us : List Addr) (y4 y6 y7 : Option V), σ = [some (.ref a), some (.ref d), some (.ref o5), some (.int (1 + (i : Int))), y4, some (.ref w), y6, y7] ∧ E w = some (.lst (us.map V.ref)) ∧ us.length = at' ∧ Tups E us (tbl F (i + 1)))
        ⟨q6, [], _, _, _, rfl, hw6, rfl, Tups.nil⟩ ?_ ?_
      · rintro j σ E hj ⟨se, us, y4, y6, y7, rfl, hw, lu, hU⟩
        refine ⟨by show 2 ≤ sizeLine; decide, fun t0 nt0 => ?_⟩
        have q7 := same_upd (o := tup2 0 1) nt0
        have ht0 : upd E t0 (tup2 0 1) t0 = some (tup2 0 1) := upd_same
        refine ⟨_, rfl, _, _, rfl, rfl, _, rfl, by omega, by omega, ?_⟩
        rw [show (1 + (i : Int) + 1).toNat = i + 2 by omega]
        refine for_range (lo := 0) (fun m σ E2 => Same E E2 ∧ ∃ (t : Addr) (y4 : Option V), σ = [some (.ref a), some (.ref d), some (.ref o5), some (.int (1 + (i : Int))), y4, some (.ref w), some (.int (0 + (j : Int))), some (.ref t)] ∧ E2 t = some (tup2 (tbN F (i + 1) j m) (WN F j m)))
          ⟨q7, t0, _, rfl, ht0⟩ ?_ ?_
        · rintro m σ E2 hm ⟨s2, t, y4, rfl, ht⟩
          have jm : j + m < n := by omega
          have ha2 := s2 _ _ (se _ _ (q15 _ _ (sm _ _ ha)))
          have ho2 := s2 _ _ (se _ _ ho5)
          obtain ⟨r, er, er2⟩ := pr_get (show j + m < rs0.length by omega)
          have hr2 := s2 _ _ (se _ _ (q15 _ _ (sm _ _ (hp _ r er))))
          have ha3 : atI (rs0.map V.ref) (0 + (j : Int) + (0 + (m : Int))) = some (.ref r) := by
            rw [show (0 : Int) + (j : Int) + (0 + (m : Int)) = ((j + m : Nat) : Int) by omega]
            exact atI_nat er2
          obtain ⟨w1, w2⟩ := tbN_sm (k := i + 1) (a := j) (m := m) ok (by omega) (by omega) (by omega) hs
          have w3 : (ln (i + 1) m).natAbs < 2 ^ 14 := Nat.lt_of_le_of_lt (ln_lt _ _) (Nat.pow_lt_pow_right (by decide) (by omega))
          have w4 := ok.top (j + m) jm
          have w5 := ok.bot (j + m) jm
          refine ⟨_, rfl, _, rfl, _, rfl, o5, _, _, _, rfl, rfl, .of ho2, ints_get (by omega), _, rfl, _, rfl, _, rfl, _, _, rfl, rfl, a, _, _, _, rfl, rfl, .of ha2, ha3, r, _, 0, _, rfl, rfl, .of hr2, rfl, _, _, rfl, rfl, (sm_of w3 (by decide)).mul (sm_of w4 (by omega)), ?_⟩
          refine ⟨_, rfl, _, rfl, _, rfl, _, _, rfl, rfl, a, _, _, _, rfl, rfl, .of ha2, ha3, r, _, 1, _, rfl, rfl, .of hr2, rfl, by show 2 ≤ sizeLine; decide, fun tp ntp => ?_⟩
          have q8 := same_upd (o := tup2 (ln (i + 1) m * (F (j + m)).1) (F (j + m)).2) ntp
          refine ⟨t, tp, _, _, _, _, rfl, q8 _ _ ht, upd_same, sm_of w1 (by omega), sm_of w2 (by omega), sm_of (nmul w3 w4) (by omega), sm_of w5 (by omega), fun p np => ?_⟩
          exact ⟨(s2.trans q8).trans (same_upd np), p, _, rfl, upd_same⟩
        · rintro σ E2 ⟨s2, t, y4, rfl, ht⟩
          have hw2 := s2 _ _ hw
          refine ⟨_, rfl, .inl ⟨rfl, _, .of hw2⟩, _, rfl, w, _, _, rfl, rfl, hw2, by rw [List.length_map]; exact small1000 (by omega), ?_⟩
          refine ⟨same_push (se.trans s2) nw, us ++ [t], _, _, _, rfl, by rw [upd_same, List.map_append]; rfl, by rw [List.length_append, lu]; rfl, ((hU.same s2).push ?_).put hw2⟩
          rw [lu, tbl_succ]
          exact ht
      · rintro σ E ⟨se, us, y4, y6, y7, rfl, hw, lu, hU⟩
        have hd6 := se _ _ hd5
        refine ⟨_, rfl, .inl ⟨rfl, _, .of hd6⟩, _, rfl, d, _, _, rfl, rfl, hd6, by rw [List.length_map]; exact small1000 (by omega), ?_⟩
        have sE := (sm.trans q15).trans se
        refine ⟨same_push sE nd0, o5, rs ++ [w], _, _, _, _, _, rfl, by rw [upd_ne nd5]; exact se _ _ ho5, by rw [upd_same, List.map_append]; rfl, by rw [List.length_append, hrl]; rfl, fun k r e => ?_, fun r h => ?_, nd5⟩
        · rcases push_get e with ⟨hk, e⟩ | ⟨rfl, rfl⟩
          · exact TupsAt.put ((hT k r e).same (q15.trans se)) hd6 fun z => hne r (List.mem_of_getElem? e) (V.ref.inj z)
          · rw [hrl]
            exact ⟨_, us, rfl, by rw [upd_ne wd]; exact hw, by omega, hU.put hd6⟩
        · rcases List.mem_append.mp h with h | h
          · exact hne r h
          · cases List.mem_singleton.mp h
            exact wd
    · rintro σ G ⟨sm, l, rs, y3, y4, y5, y6, y7, rfl, hl, hd, hrl, hT, hne, ld⟩
      exact ⟨_, rfl, q G d rs sm hd (by omega) hT⟩
theorem ixN_nat {n k : Nat} (h : k < n) : ixN n (0 + (k : Int)) = some k := by
  unfold ixN
  rw [if_pos (by omega), if_pos (by omega)]
  congr 1
  omega
theorem _root_.MoL.Tups.set {H : Hp} {rs : List Addr} {F : Nat → Int × Int} {t : Addr} {k : Nat} {x y : Int} (h : Tups H rs F) (ht : H t = some (tup2 x y)) : Tups H (rs.set k t) (fun j => if j = k then (x, y) else F j) := fun j r e => by
  rw [List.getElem?_set] at e
  by_cases c : k = j
  · subst c
    rw [if_pos rfl] at e
    split at e
    · cases e
      dsimp only
      rw [if_pos rfl]
      exact ht
    · cases e
  · rw [if_neg c] at e
    dsimp only
    rw [if_neg (Ne.symm c)]
    exact h j r e
theorem p2 : (0 : Int) < 2 := by decide
theorem p3 : (0 : Int) < 3 := by decide
theorem p4 : (0 : Int) < 4 := by decide
theorem p5 : (0 : Int) < 5 := by decide
theorem p9 : (0 : Int) < 9 := by decide
def sp_changed : Sp := fun vs H Q _ => ∃ v c n F e g, vs = [v, .int c] ∧ TupsAt H v n F ∧ 0 < n ∧ n ≤ 13 ∧ RowOk F n e g ∧ 40 ≤ e ∧ 40 ≤ g ∧ e ≤ 2000 ∧ g ≤ 2000 ∧ ∀ H' u F', Same H H' → TupsAt H' u n F' → RowOk F' n (e + 96) (g + 90) → Q u H'
theorem RowOk.set {F : Nat → Int × Int} {n e g a : Nat} {x u : Int} (ok : RowOk F n e g) (ha : a < n) (hx : x.natAbs < 2 ^ (e + 32)) (u0 : 0 < u) (u1 : u.natAbs < 2 ^ 30) : RowOk (fun j => if j = a then (x, (F j).2 * u) else F j) n (e + 32) (g + 30) where
  pos k hk := by
    split
    · exact Int.mul_pos (ok.pos k hk) u0
    · exact ok.pos k hk
  top k hk := by
    split
    · exact hx
    · exact lt_le (ok.top k hk) (by omega)
  bot k hk := by
    split
    · exact lt_le (nmul (ok.bot k hk) u1) (by omega)
    · exact lt_le (ok.bot k hk) (by omega)
  all := by
    rw [WN_set (F := F) (a := a) (u := u) (fun j => by split <;> rfl), if_pos ha]
    exact nmul ok.all u1
theorem ok__law_changed (T : Txt K mg A D) : FnOk P w K mg base CX0 2 A.f__law_changed D.f__law_changed ["_law_row_here", "_law_cell_here"] (sp_changed) := by
  have G__law_draw : FnOk P w K mg base CX0 1 A.f__law_draw D.f__law_draw ["_law_cell_here", "_law_many", "_law_base"] (sp_draw) := ok__law_draw T
  refine T.F__law_changed.ok sc__law_changed (fun vs H Q E h => ?_) (fun cdv A' outer s H vs Q E hr h => ?_)
  · obtain ⟨v, c, n, F, e, g, rfl, _⟩ := h
    rfl
  · obtain ⟨v, c, n, F, e, g, rfl, ⟨a, rs0, rfl, ha, lr, hp⟩, n0, n1, ok, he, hg, he2, hg2, q⟩ := h
    refine ⟨_, (pss_cons (ps_set (i := 2) sc__law_changed.nd rfl (.inl rfl) (pe_call G__law_draw (hr.mono (by decide)) rfl T.g__law_draw T.F__law_draw.kp T.b__law_draw .nil pass0 (pa_cons (pv 1) (pa_cons (pe_op op_add pe_int (pe_op op_mulW pe_int (pe_callB call_len_seq rfl T.z_len (by decide +kernel) (pa_cons (pv 0) pa_nil)))) (pa_cons (pe_op op_pow pe_int pe_int) pa_nil)))))
  (pss_cons (ps_set (i := 3) sc__law_changed.nd rfl (.inl rfl) (pe_callTy call_list_of rfl T.z_list (by decide +kernel) (pa_cons (pv 0) pa_nil)))
  (pss_cut (ps_if (pt_cmpR op_eq (pe_op op_mod (pe_callTy call_int1 rfl T.z_int (by decide +kernel) (pa_cons (pe_ix ix_list (pv 2) pe_int (fun _ _ => rfl)) pa_nil)) pe_int) pe_int (nomark _)) (pss_one (ps_for PassesOwn.never rfl (pi_range1 rfl T.z_range (pa_cons (pe_callB call_len_seq rfl T.z_len (by decide +kernel) (pa_cons (pv 0) pa_nil)) pa_nil)) (pg_name (i := 4) sc__law_changed.nd rfl (.inl rfl)) (pss_cons (ps_set (i := 5) sc__law_changed.nd rfl (.inl rfl) (pe_ix ix_list (pe_lst (pa_cons pe_int (pa_cons (pe_op op_pow pe_int pe_int) pa_nil))) (pe_op op_mod (pe_callTy call_int1 rfl T.z_int (by decide +kernel) (pa_cons (pe_ix ix_list (pv 2) pe_int (fun _ _ => rfl)) pa_nil)) pe_int) (fun _ _ => rfl)))
  (pss_one (ps_asg (pe_tup (pa_cons (pe_op op_sub (pe_op op_mod (pe_callTy call_int1 rfl T.z_int (by decide +kernel) (pa_cons (pe_ix ix_list (pv 2) (pe_op op_add pe_int (pe_op op_mulW pe_int (pv 4))) (fun _ _ => rfl)) pa_nil)) (pe_op op_add (pe_op op_mulW pe_int (pv 5)) pe_int)) (pv 5)) (pa_cons (pe_op op_add pe_int (pe_op op_mod (pe_callTy call_int1 rfl T.z_int (by decide +kernel) (pa_cons (pe_ix ix_list (pv 2) (pe_op op_add pe_int (pe_op op_mulW pe_int (pv 4))) (fun _ _ => rfl)) pa_nil)) pe_int)) pa_nil))) (pg_sub (pv 3) (pv 4) set_list)))))) pss_nil)
  (pss_cons (ps_for PassesOwn.never rfl (pi_range1 rfl T.z_range (pa_cons (pe_op op_mod (pe_callTy call_int1 rfl T.z_int (by decide +kernel) (pa_cons (pe_ix ix_list (pv 2) pe_int (fun _ _ => rfl)) pa_nil)) pe_int) pa_nil)) (pg_name (i := 4) sc__law_changed.nd rfl (.inl rfl)) (pss_cons (ps_set (i := 6) sc__law_changed.nd rfl (.inl rfl) (pe_op op_mod (pe_callTy call_int1 rfl T.z_int (by decide +kernel) (pa_cons (pe_ix ix_list (pv 2) (pe_op op_add pe_int (pe_op op_mulW pe_int (pv 4))) (fun _ _ => rfl)) pa_nil)) (pe_callB call_len_seq rfl T.z_len (by decide +kernel) (pa_cons (pv 0) pa_nil))))
  (pss_cons (ps_set (i := 7) sc__law_changed.nd rfl (.inl rfl) (pe_ix ix_list (pe_lst (pa_cons pe_int (pa_cons pe_int (pa_cons (pe_op op_pow pe_int pe_int) pa_nil)))) (pe_op op_mod (pe_callTy call_int1 rfl T.z_int (by decide +kernel) (pa_cons (pe_ix ix_list (pv 2) pe_int (fun _ _ => rfl)) pa_nil)) pe_int) (fun _ _ => rfl)))
  (pss_cons (ps_set (i := 8) sc__law_changed.nd rfl (.inl rfl) (pe_op op_sub (pe_op op_mod (pe_callTy call_int1 rfl T.z_int (by decide +kernel) (pa_cons (pe_ix ix_list (pv 2) (pe_op op_add pe_int (pe_op op_mulW pe_int (pv 4))) (fun _ _ => rfl)) pa_nil)) pe_int) pe_int))
  (pss_one (ps_asg (pe_tup (pa_cons (pe_op op_add (pe_op op_mulW (pe_ix ix_tup (pe_ix ix_list (pv 3) (pv 6) (fun _ _ => rfl)) pe_int (fun _ _ => rfl)) (pv 7)) (pe_op op_mulW (pv 8) (pe_ix ix_tup (pe_ix ix_list (pv 3) (pv 6) (fun _ _ => rfl)) pe_int (fun _ _ => rfl)))) (pa_cons (pe_op op_mulW (pe_ix ix_tup (pe_ix ix_list (pv 3) (pv 6) (fun _ _ => rfl)) pe_int (fun _ _ => rfl)) (pv 7)) pa_nil))) (pg_sub (pv 3) (pv 6) set_list)))))))
  (pss_one (ps_ret (pv 3))))))), ?_⟩
    have bp : (0 : Int) < 10 ^ (12 : Int).toNat := by decide
    have bs : Sm ((10 : Int) ^ (12 : Int).toNat) := .ab (by decide) (by decide)
    have en : ((rs0.map V.ref).length : Int) = (n : Int) := by rw [List.length_map]; omega
    refine ⟨_, rfl, _, rfl, a, _, rfl, .inl (.of ha), _, _, rfl, rfl, Sm.mul (.ab (by decide) (by decide)) (.ab (by omega) (by omega)), _, _, rfl, rfl, _, _, rfl, rfl, ⟨by decide, by decide, by decide⟩, c, 10 + 2 * n, 10 ^ (12 : Int).toNat, ?_, by omega, bp, bs, fun H1 p ds k1 np hp1 dg => ?_⟩
    · show [V.int c, V.int (10 + 2 * ((rs0.map V.ref).length : Int)), V.int (10 ^ (12 : Int).toNat)] = _
      rw [show (10 : Int) + 2 * ((rs0.map V.ref).length : Int) = ((10 + 2 * n : Nat) : Int) by omega]
    generalize (10 : Int) ^ (12 : Int).toNat = b12 at bp bs dg
    have dl := dg.len
    have dat : ∀ k : Nat, k < 10 + 2 * n → atI (ds.map V.int) (k : Int) = some (.int (ds.getD k 0)) := fun k hk => atI_nat (int_at (by omega))
    refine ⟨_, rfl, a, _, rfl, .inl (.of (k1 _ _ ha)), fun d nd => ?_⟩
    have k2 := same_upd (o := .lst (rs0.map V.ref)) nd
    have hd2 : upd H1 d (.lst (rs0.map V.ref)) d = some (.lst (rs0.map V.ref)) := upd_same
    have hT2 := (hp.same k1).same k2
    generalize upd H1 d (.lst (rs0.map V.ref)) = H2 at k2 hd2 hT2
    refine ⟨fun σ' H' => ∃ (rs : List Addr) (F1 : Nat → Int × Int) (y4 y5 : Option V), σ' = [some (.ref a), some (.int c), some (.ref p), some (.ref d), y4, y5, none, none, none] ∧ Same H1 H' ∧ H' d = some (.lst (rs.map V.ref)) ∧ rs.length = n ∧ Tups H' rs F1 ∧ RowOk F1 n e g, ?_, ?_⟩
    · refine ⟨_, rfl, p, _, 0, _, rfl, rfl, .of (k2 _ _ hp1), dat 0 (by omega), .inl ⟨_, rfl, _, _, rfl, rfl, p4, rfl, _, rfl, ite2 (fun _ => ?_) (fun _ => ⟨rs0, F, _, _, rfl, k2, hd2, lr, hT2, ok⟩)⟩⟩
      refine ⟨_, rfl, a, _, rfl, .inl (.of (k2 _ _ (k1 _ _ ha))), _, rfl, by omega, by omega, ?_⟩
      rw [show (((rs0.map V.ref).length : Nat) : Int).toNat = n by omega]
      refine for_range (lo := 0) (fun k σ G => ∃ (rs : List Addr) (F1 : Nat → Int × Int) (y4 y5 : Option V), σ = [some (.ref a), some (.int c), some (.ref p), some (.ref d), y4, y5, none, none, none] ∧ Same H1 G ∧ G d = some (.lst (rs.map V.ref)) ∧ rs.length = n ∧ Tups G rs F1 ∧ (∀ j, j < n → 0 < (F1 j).2 ∧ (F1 j).1.natAbs < 2 ^ e ∧ (F1 j).2.natAbs < 2 ^ e) ∧ ∀ j, j < k → (F1 j).2 ≤ 5)
        ⟨rs0, F, _, _, rfl, k2, hd2, lr, hT2, fun j hj => ⟨ok.pos j hj, ok.top j hj, ok.bot j hj⟩, fun j h => absurd h (Nat.not_lt_zero _)⟩ ?_ ?_
      · rintro k σ G hk ⟨rs, F1, y4, y5, rfl, sm, hd, hl, hT, hF, h5⟩
        refine ⟨_, _, rfl, rfl, ⟨by decide, by decide, by decide⟩, by show 2 ≤ sizeLine; decide, fun pw npw => ?_⟩
        have q1 := same_upd (o := .lst [V.int 4, .int (10 ^ (9 : Int).toNat)]) npw
        have hpw : upd G pw (.lst [V.int 4, .int (10 ^ (9 : Int).toNat)]) pw = some (.lst [V.int 4, .int (10 ^ (9 : Int).toNat)]) := upd_same
        have hpp := q1 _ _ (sm _ _ hp1)
        refine ⟨_, rfl, p, _, 1, _, rfl, rfl, .of hpp, dat 1 (by omega), .inl ⟨_, rfl, _, _, rfl, rfl, p2, ?_⟩⟩
        obtain ⟨z, hz, z0, z1⟩ : ∃ z : Int, atI [V.int 4, .int (10 ^ (9 : Int).toNat)] (ds.getD 1 0 % 2) = some (.int z) ∧ 4 ≤ z ∧ z ≤ 1000000000 := by
          rcases (by omega : ds.getD 1 0 % 2 = 0 ∨ ds.getD 1 0 % 2 = 1) with e | e <;> rw [e]
          · exact ⟨_, rfl, by decide, by decide⟩
          · exact ⟨_, rfl, by decide, by decide⟩
        refine ⟨pw, _, _, _, rfl, rfl, .of hpw, hz, ?_⟩
        have e10 : (10 : Int) + 2 * (0 + (k : Int)) = ((10 + 2 * k : Nat) : Int) := by omega
        have e11 : (11 : Int) + 2 * (0 + (k : Int)) = ((11 + 2 * k : Nat) : Int) := by omega
        have m2 : CMulW 2 (0 + (k : Int)) := Sm.mul (.ab (by decide) (by decide)) (.ab (by omega) (by omega))
        refine ⟨_, rfl, _, rfl, _, _, rfl, rfl, m2, _, _, rfl, rfl, p, _, _, _, rfl, rfl, .of hpp, by rw [e10]; exact dat _ (by omega), .inl ⟨_, rfl, _, rfl, _, _, rfl, rfl, Sm.mul (.ab (by decide) (by decide)) (.ab (by omega) (by omega)), _, _, rfl, rfl, _, _, rfl, rfl, by omega, ?_⟩⟩
        have x0a : 0 ≤ ds.getD (10 + 2 * k) 0 % (2 * z + 1) := Int.emod_nonneg _ (by omega)
        have x0b : ds.getD (10 + 2 * k) 0 % (2 * z + 1) < 2 * z + 1 := Int.emod_lt_of_pos _ (by omega)
        refine ⟨_, rfl, _, _, rfl, rfl, _, rfl, _, rfl, _, _, rfl, rfl, m2, _, _, rfl, rfl, p, _, _, _, rfl, rfl, .of hpp, by rw [e11]; exact dat _ (by omega), .inl ⟨_, rfl, _, _, rfl, rfl, p5, _, _, rfl, rfl, by show 2 ≤ sizeLine; decide, fun t nt => ?_⟩⟩
        have y0a : 0 ≤ ds.getD (11 + 2 * k) 0 % 5 := Int.emod_nonneg _ (by decide)
        have y0b : ds.getD (11 + 2 * k) 0 % 5 < 5 := Int.emod_lt_of_pos _ (by decide)
        have q2 := same_upd (o := tup2 (ds.getD (10 + 2 * k) 0 % (2 * z + 1) - z) (1 + ds.getD (11 + 2 * k) 0 % 5)) nt
        have q12 := q1.trans q2
        have hd3 := q12 _ _ hd
        have hix : ixN (rs.map V.ref).length (0 + (k : Int)) = some k := ixN_nat (by rw [List.length_map]; omega)
        refine ⟨_, rfl, _, rfl, d, _, _, k, rfl, rfl, hd3, hix, ?_⟩
        refine ⟨rs.set k t, fun j => if j = k then (ds.getD (10 + 2 * k) 0 % (2 * z + 1) - z, 1 + ds.getD (11 + 2 * k) 0 % 5) else F1 j, _, _, rfl, same_push (sm.trans q12) nd, by rw [upd_same, List.map_set], by rw [List.length_set]; exact hl, ((hT.same q12).set upd_same).put hd3, fun j hj => ?_, fun j hj => ?_⟩
        · dsimp only
          split
          · generalize ds.getD (10 + 2 * k) 0 % (2 * z + 1) = x0 at *
            generalize ds.getD (11 + 2 * k) 0 % 5 = y0 at *
            exact ⟨by show 0 < 1 + y0; omega, lt_le (show (x0 - z).natAbs < 2 ^ 31 by omega) (by omega), lt_le (show (1 + y0).natAbs < 2 ^ 3 by omega) (by omega)⟩
          · exact hF j hj
        · dsimp only
          split
          · show 1 + ds.getD (11 + 2 * k) 0 % 5 ≤ 5
            omega
          · exact h5 j (by omega)
      · rintro σ G ⟨rs, F1, y4, y5, rfl, sm, hd, hl, hT, hF, h5⟩
        refine ⟨rs, F1, _, _, rfl, sm, hd, hl, hT, ⟨fun j hj => (hF j hj).1, fun j hj => (hF j hj).2.1, fun j hj => (hF j hj).2.2, ?_⟩⟩
        have h1 := WN_small (F := F1) (c := 5) (by decide) n fun j hj => ⟨(hF j hj).1, h5 j hj⟩
        have h2 : 0 < WN F1 0 n := WN_pos n fun j hj => (hF j (by omega)).1
        have h3 : (5 : Int) ^ n ≤ 5 ^ 13 := by exact_mod_cast Nat.pow_le_pow_right (show 0 < 5 by decide) n1
        exact lt_le (show (WN F1 0 n).natAbs < 2 ^ 40 by
          have h4 : (5 : Int) ^ 13 = 1220703125 := by decide
          omega) hg
    · rintro σ G0 ⟨rs, F1, y4, y5, rfl, sm, hd, hl, hT, ok1⟩
      refine ⟨_, rfl, p, _, 2, _, rfl, rfl, .of (sm _ _ hp1), dat 2 (by omega), .inl ⟨_, rfl, _, _, rfl, rfl, p4, _, rfl, ?_⟩⟩
      have c0 : 0 ≤ ds.getD 2 0 % 4 := Int.emod_nonneg _ (by decide)
      have c1 : ds.getD 2 0 % 4 < 4 := Int.emod_lt_of_pos _ (by decide)
      refine ⟨by show -2 ^ 62 ≤ ds.getD 2 0 % 4; omega, by show ds.getD 2 0 % 4 < 2 ^ 62; omega, ?_⟩
      refine for_range (lo := 0) (n := (ds.getD 2 0 % 4).toNat) (fun k σ G => ∃ (rs : List Addr) (F1 : Nat → Int × Int) (y4 y5 y6 y7 y8 : Option V), σ = [some (.ref a), some (.int c), some (.ref p), some (.ref d), y4, y5, y6, y7, y8] ∧ Same H1 G ∧ G d = some (.lst (rs.map V.ref)) ∧ rs.length = n ∧ Tups G rs F1 ∧ RowOk F1 n (e + 32 * k) (g + 30 * k))
        ⟨rs, F1, _, _, _, _, _, rfl, sm, hd, hl, hT, ok1⟩ ?_ ?_
      · rintro k σ G hk ⟨rs, F1, y4, y5, y6, y7, y8, rfl, sm, hd, hl, hT, ok1⟩
        have k3 : k < 3 := by omega
        have e3 : (3 : Int) + 2 * (0 + (k : Int)) = ((3 + 2 * k : Nat) : Int) := by omega
        have e4 : (4 : Int) + 2 * (0 + (k : Int)) = ((4 + 2 * k : Nat) : Int) := by omega
        have m2 : CMulW 2 (0 + (k : Int)) := Sm.mul (.ab (by decide) (by decide)) (.ab (by omega) (by omega))
        have hpp := sm _ _ hp1
        refine ⟨_, rfl, _, rfl, _, _, rfl, rfl, m2, _, _, rfl, rfl, p, _, _, _, rfl, rfl, .of hpp, by rw [e3]; exact dat _ (by omega), .inl ⟨_, rfl, _, rfl, a, _, rfl, .inl (.of (sm _ _ (k1 _ _ ha))), _, _, rfl, rfl, by omega, ?_⟩⟩
        obtain ⟨at', ha', an⟩ : ∃ at' : Nat, ds.getD (3 + 2 * k) 0 % ((rs0.map V.ref).length : Int) = (at' : Int) ∧ at' < n := by
          have h1 := Int.emod_nonneg (ds.getD (3 + 2 * k) 0) (show ((rs0.map V.ref).length : Int) ≠ 0 by omega)
          have h2 := Int.emod_lt_of_pos (ds.getD (3 + 2 * k) 0) (show (0 : Int) < ((rs0.map V.ref).length : Int) by omega)
          exact ⟨(ds.getD (3 + 2 * k) 0 % ((rs0.map V.ref).length : Int)).toNat, by omega, by omega⟩
        show gName 6 (V.int (ds.getD (3 + 2 * k) 0 % ((rs0.map V.ref).length : Int))) _ _ _
        rw [ha']
        refine ⟨_, _, rfl, rfl, ⟨by decide, by decide, by decide⟩, by show 3 ≤ sizeLine; decide, fun pw npw => ?_⟩
        have q1 := same_upd (o := .lst [V.int 1, .int 7, .int (10 ^ (9 : Int).toNat)]) npw
        have hpw : upd G pw (.lst [V.int 1, .int 7, .int (10 ^ (9 : Int).toNat)]) pw = some (.lst [V.int 1, .int 7, .int (10 ^ (9 : Int).toNat)]) := upd_same
        have hpp := q1 _ _ hpp
        refine ⟨_, rfl, p, _, 9, _, rfl, rfl, .of hpp, dat 9 (by omega), .inl ⟨_, rfl, _, _, rfl, rfl, p3, ?_⟩⟩
        obtain ⟨z, hz, z0, z1⟩ : ∃ z : Int, atI [V.int 1, .int 7, .int (10 ^ (9 : Int).toNat)] (ds.getD 9 0 % 3) = some (.int z) ∧ 0 < z ∧ z ≤ 1000000000 := by
          rcases (by omega : ds.getD 9 0 % 3 = 0 ∨ ds.getD 9 0 % 3 = 1 ∨ ds.getD 9 0 % 3 = 2) with e | e | e <;> rw [e]
          · exact ⟨_, rfl, by decide, by decide⟩
          · exact ⟨_, rfl, by decide, by decide⟩
          · exact ⟨_, rfl, by decide, by decide⟩
        refine ⟨pw, _, _, _, rfl, rfl, .of hpw, hz, ?_⟩
        refine ⟨_, rfl, _, rfl, _, _, rfl, rfl, m2, _, _, rfl, rfl, p, _, _, _, rfl, rfl, .of hpp, by rw [e4]; exact dat _ (by omega), .inl ⟨_, rfl, _, _, rfl, rfl, p9, _, _, rfl, rfl, ?_⟩⟩
        obtain ⟨r, er, er2⟩ := pr_get (show at' < rs.length by omega)
        have hr1 := q1 _ _ (hT _ r er)
        have hd1 := q1 _ _ hd
        have hat := atI_nat er2
        have w1 := ok1.top at' an
        have w2 := ok1.bot at' an
        have wz : z.natAbs < 2 ^ 30 := by omega
        have wy : (ds.getD (4 + 2 * k) 0 % 9 - 4).natAbs < 2 ^ 3 := by omega
        refine ⟨_, rfl, _, rfl, d, _, _, _, rfl, rfl, .of hd1, hat, r, _, 0, _, rfl, rfl, .of hr1, rfl, _, rfl, _, _, rfl, rfl, (sm_of w1 (by omega)).mul (sm_of wz (by decide)), ?_⟩
        refine ⟨_, rfl, _, rfl, _, rfl, d, _, _, _, rfl, rfl, .of hd1, hat, r, _, 1, _, rfl, rfl, .of hr1, rfl, _, _, rfl, rfl, (sm_of wy (by decide)).mul (sm_of w2 (by omega)), _, _, rfl, rfl, ?_⟩
        refine ⟨_, rfl, _, rfl, d, _, _, _, rfl, rfl, .of hd1, hat, r, _, 1, _, rfl, rfl, .of hr1, rfl, _, rfl, _, _, rfl, rfl, (sm_of w2 (by omega)).mul (sm_of wz (by decide)), by show 2 ≤ sizeLine; decide, fun t nt => ?_⟩
        have q2 := same_upd (o := tup2 ((F1 at').1 * z + (ds.getD (4 + 2 * k) 0 % 9 - 4) * (F1 at').2) ((F1 at').2 * z)) nt
        have q12 := q1.trans q2
        have hd3 := q12 _ _ hd
        have hix : ixN (rs.map V.ref).length (at' : Int) = some at' := by
          have := ixN_nat (n := (rs.map V.ref).length) (k := at') (by rw [List.length_map]; omega)
          rw [Int.zero_add] at this
          exact this
        refine ⟨_, rfl, _, rfl, d, _, _, at', rfl, rfl, hd3, hix, ?_⟩
        refine ⟨rs.set at' t, fun j => if j = at' then ((F1 at').1 * z + (ds.getD (4 + 2 * k) 0 % 9 - 4) * (F1 at').2, (F1 j).2 * z) else F1 j, _, _, _, _, _, rfl, same_push (sm.trans q12) nd, by rw [upd_same, List.map_set], by rw [List.length_set]; exact hl, ?_, ?_⟩
        · refine Tups.put (Tups.to ((hT.same q12).set upd_same) fun j _ => ?_) hd3
          split
          · rename_i h
            rw [h]
          · rfl
        · have := ok1.set an (x := (F1 at').1 * z + (ds.getD (4 + 2 * k) 0 % 9 - 4) * (F1 at').2) (lt_le (nadd (nle (nmul w1 wz) (show e + 32 * k + 30 ≤ e + 32 * k + 31 by omega)) (nle (nmul wy w2) (by omega))) (by omega)) z0 wz
          rw [show e + 32 * (k + 1) = e + 32 * k + 32 by omega, show g + 30 * (k + 1) = g + 30 * k + 30 by omega]
          exact this
      · rintro σ G ⟨rs, F1, y4, y5, y6, y7, y8, rfl, sm, hd, hl, hT, ok1⟩
        refine ⟨_, rfl, q G _ F1 (k1.trans sm) ⟨d, rs, rfl, hd, hl, hT⟩ ⟨ok1.pos, fun j hj => lt_le (ok1.top j hj) (by omega), fun j hj => lt_le (ok1.bot j hj) (by omega), lt_le ok1.all (by omega)⟩⟩
end

end Mo

namespace Mo
open PySem PySem.Spec PyProof.Rows L2 MoL MoW
open C8 (pss_cut tCut)
section
variable {P : Program} {w : World} {K : PySem.W.Frag} {mg : Str → Option Value} {base : Heap} {A : Ad} {D : Fd}
def sp_refused (A : Ad) : Sp := fun vs H Q _ => ∃ v xs f, vs = [v] ∧ SeqAt H v xs ∧ NumsV A.Ratio H xs f ∧ 0 < xs.length ∧ xs.length ≤ 13 ∧ (∀ k, k < xs.length → Bd 1900 1900 (f k)) ∧ (xs.length = 1 ∨ f 0 = 0) ∧ ∀ H', Same H H' → Q (.bl true) H'
theorem ok__law_refused (T : Txt K mg A D) : FnOk P w K mg base CX0 9 A.f__law_refused D.f__law_refused ["_law_given"] (sp_refused A) := by
  have G_centred : FnOk P w K mg base (L2.CX P w) 8 A.f_centred D.f_centred ["row"] (sp_centred K A) := ok_centred T
  refine T.F__law_refused.ok sc__law_refused (fun vs H Q E h => ?_) (fun cdv A' outer s H vs Q E hr h => ?_)
  · obtain ⟨v, xs, f, rfl, _⟩ := h
    rfl
  · obtain ⟨v, xs, f, rfl, hv, rr, l0, l1, hb, hc, q⟩ := h
    refine ⟨_, (pss_cons (ps_set (i := 1) sc__law_refused.nd rfl (.inl rfl) pe_bl)
  (pss_cons (ps_try_only rfl rfl ⟨rfl, by decide, .inl T.g_NoMean⟩ takes0 (fun W pn xe tk _ => (pss_one (ps_expr (pe_callS G_centred (hr.mono (by decide)) rfl T.g_centred T.F_centred.kp T.b_centred (fun σ => passAt tk σ) (by exact (pa_cons (pv 0) pa_nil)))))) (fun oa oe cls d pn _ _ => (pss_one (ps_set (i := 1) sc__law_refused.nd rfl (.inl rfl) pe_bl))))
  (pss_one (ps_ret (pv 1))))), ?_⟩
    refine ⟨_, rfl, v, xs, f, rfl, hv, rr, l0, l1, hb, .inl ⟨hc, fun H' k => ?_⟩⟩
    exact ⟨true, T.e_NoMean.em, fun _ _ _ => ⟨_, rfl, q _ k⟩, fun n => Bool.noConfusion n⟩
/-- what the law draws -/
structure Drawn (ts ps : List Int) (u b : Int) : Prop where
  len : ts.length = ps.length
  few : ts.length ≤ 6
  b0 : 0 < b
  b1 : b ≤ 1000000
  u0 : 0 < u
  u1 : u ≤ 60
  tb : ∀ k, k < ts.length → 0 ≤ ts.getD k 0 ∧ ts.getD k 0 ≤ b
  pb : ∀ k, k < ts.length → 0 < ps.getD k 0 ∧ ps.getD k 0 ≤ 1000
theorem sum_lt {xs : List Int} {e : Nat} (h : ∀ x ∈ xs, x.natAbs < 2 ^ e) : xs.sum.natAbs ≤ xs.length * 2 ^ e := by
  induction xs with
  | nil => simp
  | cons x xs ih =>
    rw [List.sum_cons, List.length_cons, Nat.add_mul]
    have h1 := h x (List.mem_cons_self ..)
    have h2 := ih fun y hy => h y (List.mem_cons_of_mem _ hy)
    have h3 := Int.natAbs_add_le x xs.sum
    omega
theorem sum_getD_lt {xs : List Int} {e : Nat} (h : ∀ k, k < xs.length → (xs.getD k 0).natAbs < 2 ^ e) (hl : xs.length ≤ 8) : xs.sum.natAbs < 2 ^ (e + 4) := by
  have h1 := sum_lt (xs := xs) (e := e) fun x hx => by
    obtain ⟨k, hk, e1⟩ := List.getElem_of_mem hx
    have := h k hk
    rw [List.getD_eq_getElem?_getD, List.getElem?_eq_getElem hk] at this
    rw [← e1]
    exact this
  have h2 : xs.length * 2 ^ e ≤ 8 * 2 ^ e := Nat.mul_le_mul_right _ hl
  have h3 : 2 ^ (e + 4) = 16 * 2 ^ e := by rw [Nat.pow_add]; omega
  have := Nat.two_pow_pos e
  omega
theorem Drawn.tl {ts ps : List Int} {u b : Int} (d : Drawn ts ps u b) (k : Nat) : (ts.getD k 0).natAbs < 2 ^ 20 := by
  rcases Nat.lt_or_ge k ts.length with h | h
  · have := d.tb k h
    have := d.b1
    omega
  · rw [getD_out h]
    decide
theorem Drawn.pl {ts ps : List Int} {u b : Int} (d : Drawn ts ps u b) (k : Nat) : (ps.getD k 0).natAbs < 2 ^ 10 := by
  rcases Nat.lt_or_ge k ts.length with h | h
  · have := d.pb k h
    omega
  · rw [getD_out (by rw [← d.len]; exact h)]
    decide
theorem powl_getD {ts ps : List Int} (hl : ts.length = ps.length) {k j : Nat} (hj : j < ts.length) : (powl ts ps k).getD j 0 = ps.getD j 0 * ts.getD j 0 ^ k := by
  rw [List.getD_eq_getElem?_getD, powl_get hl hj]
  rfl
theorem powl_lt {ts ps : List Int} {e g k : Nat} (hl : ts.length = ps.length) (h8 : ts.length ≤ 8) (ht : ∀ k, (ts.getD k 0).natAbs < 2 ^ e) (hp : ∀ k, (ps.getD k 0).natAbs < 2 ^ g) : (powl ts ps k).sum.natAbs < 2 ^ (g + (e * k + 1) + 4) :=
  sum_getD_lt (fun j hj => by
    rw [powl_len hl] at hj
    rw [powl_getD hl hj]
    exact nmul (hp j) (npow (ht j) k)) (by rw [powl_len hl]; exact h8)
theorem rowT_lt {ts ps : List Int} {u b : Int} {n : Nat} (d : Drawn ts ps u b) (hn : n ≤ 9) {k : Nat} (hk : k < n) : 0 < (rowT ts ps u b k).2 ∧ (rowT ts ps u b k).1.natAbs < 2 ^ 176 ∧ (rowT ts ps u b k).2.natAbs < 2 ^ 167 := by
  refine ⟨Int.mul_pos d.u0 (Int.pow_pos d.b0), ?_, ?_⟩
  · have := powl_lt (k := k) d.len (Nat.le_trans d.few (by decide)) d.tl d.pl
    exact lt_le this (by omega)
  · have h1 : u.natAbs < 2 ^ 6 := by have := d.u0; have := d.u1; omega
    have h2 : b.natAbs < 2 ^ 20 := by have := d.b0; have := d.b1; omega
    exact lt_le (nmul h1 (npow h2 k)) (by omega)
theorem good_ok {ts ps : List Int} {u b : Int} {n : Nat} (d : Drawn ts ps u b) (hn : n ≤ 9) : RowOk (rowT ts ps u b) n 176 1504 where
  pos k hk := (rowT_lt d hn hk).1
  top k hk := (rowT_lt d hn hk).2.1
  bot k hk := lt_le (rowT_lt d hn hk).2.2 (by decide)
  all := by
    have h1 := WN_small (F := rowT ts ps u b) (c := 2 ^ 167) (by decide) n fun k hk => by
      obtain ⟨a, _, c⟩ := rowT_lt d hn hk
      refine ⟨a, ?_⟩
      have : ((rowT ts ps u b k).2.natAbs : Int) < ((2 ^ 167 : Nat) : Int) := by exact_mod_cast c
      have e : ((2 ^ 167 : Nat) : Int) = 2 ^ 167 := by decide
      omega
    have h2 : 0 < WN (rowT ts ps u b) 0 n := WN_pos n fun k hk => (rowT_lt d hn (by omega)).1
    have h3 : ((2 : Int) ^ 167) ^ n ≤ ((2 ^ (167 * 9) : Nat) : Int) := by
      rw [← Int.pow_mul]
      exact_mod_cast two_le (show 167 * n ≤ 167 * 9 by omega)
    have h4 : (WN (rowT ts ps u b) 0 n).natAbs ≤ 2 ^ (167 * 9) := by omega
    exact Nat.lt_of_le_of_lt h4 (Nat.pow_lt_pow_right (by decide) (by decide))
theorem tbl_lt {F : Nat → Int × Int} {n e g k a : Nat} (ok : RowOk F n e g) (hk : a + k < n) (hn : n ≤ 13) (he : e + g ≤ 3000) : (tbl F k a).1.natAbs < 2 ^ (e + g + 30) ∧ (tbl F k a).2.natAbs < 2 ^ (e + g + 30) := by
  cases k with
  | zero => exact ⟨lt_le (ok.top a (by omega)) (by omega), lt_le (ok.bot a (by omega)) (by omega)⟩
  | succ k =>
    rw [tbl_succ]
    obtain ⟨h1, h2⟩ := tbN_sm (k := k + 1) (a := a) (m := k + 1 + 1) ok (by omega) (by omega) (by omega) he
    exact ⟨h1, lt_le h2 (by omega)⟩
theorem df_bd {F : Nat → Int × Int} {n e g k a : Nat} (ok : RowOk F n e g) (hk : a + k < n) (hn : n ≤ 13) (he : e + g ≤ 3000) : Bd (e + g + 30) (e + g + 30) (dfF (fun j => qv (F j)) k a) := by
  obtain ⟨h1, h2⟩ := tbl_val (n := n) ok.pos hk
  obtain ⟨h3, h4⟩ := tbl_lt ok hk hn he
  rw [← h2]
  exact .div (by omega) h3 h4
theorem flat_ints (ts : List Int) : (ts.map V.int).all flatV = true := by
  rw [List.all_eq_true]
  intro x hx
  obtain ⟨t, _, rfl⟩ := List.mem_map.mp hx
  rfl
theorem getD_left {xs : List Int} {x : Int} {k : Nat} (h : k < xs.length) : (xs ++ [x]).getD k 0 = xs.getD k 0 := by
  rw [List.getD_eq_getElem?_getD, List.getElem?_append_left h, ← List.getD_eq_getElem?_getD]
theorem getD_last {xs : List Int} {x : Int} : (xs ++ [x]).getD xs.length 0 = x := by
  rw [List.getD_eq_getElem?_getD, List.getElem?_append_right (Nat.le_refl _), Nat.sub_self]
  rfl
theorem p6 : (0 : Int) < 6 := by decide
theorem p60 : (0 : Int) < 60 := by decide
theorem p1000 : (0 : Int) < 1000 := by decide
theorem div_nn {x y : Rat} (h : 0 ≤ x) (h2 : 0 < y) : 0 ≤ x / y := by
  refine Rat.not_lt.mp fun z => ?_
  have h3 := Rat.mul_lt_mul_of_pos_right z h2
  have h5 : y ≠ 0 := fun e => by rw [e] at h2; exact absurd h2 (by decide)
  have h4 : x / y * y = x := by grind
  rw [h4, Rat.zero_mul] at h3
  exact absurd h (Rat.not_le.mpr h3)
theorem qv_nonneg {p : Int × Int} (h : 0 < p.2) (h2 : 0 ≤ qv p) : 0 ≤ p.1 := by
  have e := qv_mul (p := p) (by omega)
  have h3 : (0 : Rat) ≤ (p.2 : Rat) := Rat.intCast_nonneg.mpr (by omega)
  have h4 := Rat.mul_nonneg h2 h3
  rw [e] at h4
  exact Rat.intCast_nonneg.mp h4
theorem range_powl {ts ps : List Int} (hl : ts.length = ps.length) : (List.range ts.length).map (fun j => ps.getD j 0 * ts.getD j 0) = powl ts ps 1 := by
  refine List.ext_getElem? fun j => ?_
  rcases Nat.lt_or_ge j ts.length with h | h
  · rw [List.getElem?_map, List.getElem?_range h, powl_get hl h, Int.pow_succ, Int.pow_zero, Int.one_mul]
    rfl
  · rw [List.getElem?_eq_none (by rw [List.length_map, List.length_range]; exact h), List.getElem?_eq_none (by rw [powl_len hl]; exact h)]
theorem sum_nn {xs : List Int} (h : ∀ x ∈ xs, 0 < x) : 0 ≤ xs.sum := by
  induction xs with
  | nil => exact Int.le_refl _
  | cons x xs ih =>
    rw [List.sum_cons]
    have := h x (List.mem_cons_self ..)
    have := ih fun y hy => h y (List.mem_cons_of_mem _ hy)
    omega
theorem sum_pos {xs : List Int} (h0 : 0 < xs.length) (h : ∀ k, k < xs.length → 0 < xs.getD k 0) : 0 < xs.sum := by
  have hm : ∀ x ∈ xs, 0 < x := fun x hx => by
    obtain ⟨k, hk, e1⟩ := List.getElem_of_mem hx
    have := h k hk
    rw [List.getD_eq_getElem?_getD, List.getElem?_eq_getElem hk] at this
    rw [← e1]
    exact this
  cases xs with
  | nil => exact absurd h0 (by decide)
  | cons x xs =>
    rw [List.sum_cons]
    have := hm x (List.mem_cons_self ..)
    have := sum_nn fun y hy => hm y (List.mem_cons_of_mem _ hy)
    omega
theorem cen_ring (x y u b : Rat) (h : y ≠ 0) : x / y * (b * (y * u)) = x * (u * b) := by grind
theorem cen_ring2 (t b S c : Rat) (h : b ≠ 0) : (t / b + -c) * (b * S) = t * S - c * (b * S) := by grind
theorem nums_rep {C : Addr} {H : Hp} {n : Nat} : NumsV C H (List.replicate n (.int 0)) fun _ => 0 := fun k x e => by
  rw [List.getElem?_replicate] at e
  split at e
  · cases e
    exact .inl ⟨0, rfl, rfl⟩
  · cases e
theorem lot_x {ts ps : List Int} {u b : Int} (d : Drawn ts ps u b) {j : Nat} (hj : j < ts.length) : 0 ≤ ((ts.getD j 0 : Int) : Rat) / (b : Rat) ∧ ((ts.getD j 0 : Int) : Rat) / (b : Rat) ≤ 1 ∧ 0 ≤ ((ps.getD j 0 : Int) : Rat) / (u : Rat) := by
  obtain ⟨t0, t1⟩ := d.tb j hj
  obtain ⟨p0, p1⟩ := d.pb j hj
  have hb : (0 : Rat) < (b : Rat) := Rat.intCast_pos.mpr d.b0
  have hu : (0 : Rat) < (u : Rat) := Rat.intCast_pos.mpr d.u0
  have q0 : (0 : Rat) ≤ ((ts.getD j 0 : Int) : Rat) := Rat.intCast_nonneg.mpr t0
  have q1 : ((ts.getD j 0 : Int) : Rat) ≤ (b : Rat) := Rat.intCast_le_intCast.mpr t1
  have q2 : (0 : Rat) ≤ ((ps.getD j 0 : Int) : Rat) := Rat.intCast_nonneg.mpr (by omega)
  refine ⟨div_nn q0 hb, ?_, div_nn q2 hu⟩
  refine Rat.not_lt.mp fun z => ?_
  have h1 : ((ts.getD j 0 : Int) : Rat) / (b : Rat) * (b : Rat) = ((ts.getD j 0 : Int) : Rat) := div_is (by have := d.b0; omega)
  have h2 := Rat.mul_lt_mul_of_pos_right z hb
  rw [h1, Rat.one_mul] at h2
  exact absurd q1 (Rat.not_le.mpr h2)
def sp_law (K : PySem.W.Frag) : Sp := fun vs H Q _ => ∃ (a : Addr) (ns : List Int), vs = [.ref a] ∧ SqL K H a (ns.map V.int) ∧ ns.length ≤ 63 ∧ ∀ H', Q (.bl true) H'
theorem ok_law (T : Txt K mg A D) : FnOk P w K mg base CX0 10 A.f_law D.f_law ["_law_script"] (sp_law K) := by
  have G__law_cell : FnOk P w K mg base CX0 1 A.f__law_cell D.f__law_cell ["_law_script", "_law_k"] (sp_cell K) := ok__law_cell T
  have G__law_changed : FnOk P w K mg base CX0 2 A.f__law_changed D.f__law_changed ["_law_row_here", "_law_cell_here"] (sp_changed) := ok__law_changed T
  have G__law_draw : FnOk P w K mg base CX0 1 A.f__law_draw D.f__law_draw ["_law_cell_here", "_law_many", "_law_base"] (sp_draw) := ok__law_draw T
  have G__law_ratios : FnOk P w K mg base CX0 4 A.f__law_ratios D.f__law_ratios ["_law_row_here"] (sp_ratios A.Ratio) := ok__law_ratios T
  have G__law_refused : FnOk P w K mg base CX0 9 A.f__law_refused D.f__law_refused ["_law_given"] (sp_refused A) := ok__law_refused T
  have G__law_row : FnOk P w K mg base CX0 1 A.f__law_row D.f__law_row ["_law_tops", "_law_parts", "_law_under", "_law_bottom", "_law_size"] (sp_lrow) := ok__law_row T
  have G__law_same_all : FnOk P w K mg base CX0 4 A.f__law_same_all D.f__law_same_all ["_law_values", "_law_dues"] (sp_sameall A.Ratio) := ok__law_same_all T
  have G__law_table : FnOk P w K mg base CX0 2 A.f__law_table D.f__law_table ["_law_row_here"] (sp_table) := ok__law_table T
  have G_centred : FnOk P w K mg base (L2.CX P w) 8 A.f_centred D.f_centred ["row"] (sp_centred K A) := ok_centred T
  have G_differences : FnOk P w K mg base CX0 7 A.f_differences D.f_differences ["row"] (sp_diffs A.Ratio) := ok_differences T
  refine T.F_law.ok sc_law (fun vs H Q E h => ?_) (fun cdv A' outer s H vs Q E hr h => ?_)
  · obtain ⟨a, ns, rfl, _⟩ := h
    rfl
  · obtain ⟨a, ns, rfl, hS, hl, q⟩ := h
    refine ⟨_, (pss_cons (ps_set (i := 1) sc_law.nd rfl (.inl rfl) (pe_call G__law_draw (hr.mono (by decide)) rfl T.g__law_draw T.F__law_draw.kp T.b__law_draw .nil pass0 (pa_cons (pe_call G__law_cell (hr.mono (by decide)) rfl T.g__law_cell T.F__law_cell.kp T.b__law_cell .nil pass0 (pa_cons (pv 0) (pa_cons pe_int pa_nil))) (pa_cons pe_int (pa_cons (pe_op op_pow pe_int pe_int) pa_nil)))))
  (pss_cons (ps_set (i := 2) sc_law.nd rfl (.inl rfl) (pe_op op_add pe_int (pe_op op_mod (pe_callTy call_int1 rfl T.z_int (by decide +kernel) (pa_cons (pe_ix ix_list (pv 1) pe_int (fun _ _ => rfl)) pa_nil)) (pe_ix ix_list (pe_lst (pa_cons pe_int (pa_cons (pe_op op_pow pe_int pe_int) pa_nil))) (pe_op op_mod (pe_callTy call_int1 rfl T.z_int (by decide +kernel) (pa_cons (pe_ix ix_list (pv 1) pe_int (fun _ _ => rfl)) pa_nil)) pe_int) (fun _ _ => rfl)))))
  (pss_cons (ps_set (i := 3) sc_law.nd rfl (.inr rfl) (pe_lst pa_nil))
  (pss_cons (ps_set (i := 4) sc_law.nd rfl (.inr rfl) (pe_lst pa_nil))
  (pss_cons (ps_for PassesOwn.never rfl (pi_range1 rfl T.z_range (pa_cons (pe_op op_mod (pe_callTy call_int1 rfl T.z_int (by decide +kernel) (pa_cons (pe_ix ix_list (pv 1) pe_int (fun _ _ => rfl)) pa_nil)) pe_int) pa_nil)) (pg_name (i := 5) sc_law.nd rfl (.inl rfl)) (pss_cons (ps_set (i := 6) sc_law.nd rfl (.inl rfl) (pe_op op_mod (pe_callTy call_int1 rfl T.z_int (by decide +kernel) (pa_cons (pe_ix ix_list (pv 1) (pe_op op_add pe_int (pe_op op_mulW pe_int (pv 5))) (fun _ _ => rfl)) pa_nil)) (pe_op op_add (pv 2) pe_int)))
  (pss_one (ps_if (pt_cmpR op_notIn_seq (pv 6) (pv 3) (by with_unfolding_all rfl)) (pss_cons (ps_expr (pe_bm PySem.F.plainAttrs_list PySem.F.slot_list_append PySem.F.type_list_append mt_append (pv 3) (pa_cons (pv 6) pa_nil)))
  (pss_one (ps_expr (pe_bm PySem.F.plainAttrs_list PySem.F.slot_list_append PySem.F.type_list_append mt_append (pv 4) (pa_cons (pe_op op_add pe_int (pe_op op_mod (pe_callTy call_int1 rfl T.z_int (by decide +kernel) (pa_cons (pe_ix ix_list (pv 1) (pe_op op_add pe_int (pe_op op_mulW pe_int (pv 5))) (fun _ _ => rfl)) pa_nil)) pe_int)) pa_nil))))) pss_nil))))
  (pss_cons (ps_set (i := 7) sc_law.nd rfl (.inl rfl) (pe_op op_add pe_int (pe_op op_mod (pe_callTy call_int1 rfl T.z_int (by decide +kernel) (pa_cons (pe_ix ix_list (pv 1) pe_int (fun _ _ => rfl)) pa_nil)) pe_int)))
  (pss_cons (ps_set (i := 8) sc_law.nd rfl (.inl rfl) (pe_op op_add pe_int (pe_op op_mod (pe_callTy call_int1 rfl T.z_int (by decide +kernel) (pa_cons (pe_ix ix_list (pv 1) pe_int (fun _ _ => rfl)) pa_nil)) pe_int)))
  (pss_cons (ps_set (i := 9) sc_law.nd rfl (.inl rfl) (pe_call G__law_row (hr.mono (by decide)) rfl T.g__law_row T.F__law_row.kp T.b__law_row .nil pass0 (pa_cons (pv 3) (pa_cons (pv 4) (pa_cons (pv 7) (pa_cons (pv 2) (pa_cons (pv 8) pa_nil)))))))
  (pss_cons (ps_for PassesOwn.never rfl (pi_list (pe_lst (pa_cons (pv 9) (pa_cons (pe_call G__law_changed (hr.mono (by decide)) rfl T.g__law_changed T.F__law_changed.kp T.b__law_changed .nil pass0 (pa_cons (pv 9) (pa_cons (pe_call G__law_cell (hr.mono (by decide)) rfl T.g__law_cell T.F__law_cell.kp T.b__law_cell .nil pass0 (pa_cons (pv 0) (pa_cons pe_int pa_nil))) pa_nil))) pa_nil)))) (pg_name (i := 10) sc_law.nd rfl (.inl rfl)) (pss_cons (ps_set (i := 11) sc_law.nd rfl (.inl rfl) (pe_call G__law_ratios (hr.mono (by decide)) rfl T.g__law_ratios T.F__law_ratios.kp T.b__law_ratios .nil pass0 (pa_cons (pv 10) pa_nil)))
  (pss_cons (ps_set (i := 12) sc_law.nd rfl (.inl rfl) (pe_call G_differences (hr.mono (by decide)) rfl T.g_differences T.F_differences.kp T.b_differences .nil pass0 (pa_cons (pv 11) pa_nil)))
  (pss_cons (ps_set (i := 13) sc_law.nd rfl (.inl rfl) (pe_call G__law_table (hr.mono (by decide)) rfl T.g__law_table T.F__law_table.kp T.b__law_table .nil pass0 (pa_cons (pv 10) pa_nil)))
  (pss_cons (ps_if (PW.pt (pw_or (pt_not (pt_val (pe_callB call_isi rfl T.z_isinstance (by decide +kernel) (pa_cons (pv 12) (pa_cons (pe_bltn (v := .ty "list") rfl T.z_list (by decide +kernel) rfl) pa_nil))))) (pw_or1 (pt_cmpR op_ne (pe_callB call_len_seq rfl T.z_len (by decide +kernel) (pa_cons (pv 12) pa_nil)) (pv 8) (nomark _))))) (pss_one (ps_ret pe_bl)) pss_nil)
  (pss_cons (ps_for PassesOwn.never rfl (pi_range1 rfl T.z_range (pa_cons (pv 8) pa_nil)) (pg_name (i := 5) sc_law.nd rfl (.inl rfl)) (pss_cons (ps_if (pt_not (pt_val (pe_call G__law_same_all (hr.mono (by decide)) rfl T.g__law_same_all T.F__law_same_all.kp T.b__law_same_all .nil pass0 (pa_cons (pe_ix ix_list (pv 12) (pv 5) (fun _ _ => rfl)) (pa_cons (pe_ix ix_list (pv 13) (pv 5) (fun _ _ => rfl)) pa_nil))))) (pss_one (ps_ret pe_bl)) pss_nil)
  (pss_one (ps_if (PW.pt (pw_and (pt_cmpR (op_eqD hr.units) (pv 10) (pv 9) (nomark _)) (pw_and1 (pt_cmpR op_gt (pe_callB call_len_seq rfl T.z_len (by decide +kernel) (pa_cons (pe_lc (own := [("_law_pair_here", 14)]) (g := gName 14) rfl sc_law.nd (pi_list (pe_ix ix_list (pv 13) (pv 5) (fun _ _ => rfl))) (blkOk_by (N := N_law) (sc := defScope s_law) (by decide +kernel)) (fun _ _ _ _ _ => (pg_name (i := 14) sc_law.nd rfl (.inl rfl))) (fun _ _ _ _ _ => (pts_one (pt_cmpR op_lt (pe_ix (ix_tupK (K := K) rfl) (pv 14) pe_int (fun _ _ => rfl)) pe_int (nomark _)))) (fun _ _ _ _ _ => (pv 14))) pa_nil)) pe_int (nomark _))))) (pss_one (ps_ret pe_bl)) pss_nil))))
  (pss_cons (ps_expr (pe_bm PySem.F.plainAttrs_list PySem.F.slot_list_append PySem.F.type_list_append mt_append (pe_ix ix_list (pv 12) pe_int (fun _ _ => rfl)) (pa_cons pe_non pa_nil)))
  (pss_one (ps_if (PW.pt (pw_or (pt_not (pt_val (pe_call G__law_same_all (hr.mono (by decide)) rfl T.g__law_same_all T.F__law_same_all.kp T.b__law_same_all .nil pass0 (pa_cons (pv 11) (pa_cons (pv 10) pa_nil))))) (pw_or1 (pt_cmpR op_ne (pe_callB call_len_seq rfl T.z_len (by decide +kernel) (pa_cons (pe_ix ix_list (pe_call G_differences (hr.mono (by decide)) rfl T.g_differences T.F_differences.kp T.b_differences .nil pass0 (pa_cons (pe_callTy call_tuple_of rfl T.z_tuple (by decide +kernel) (pa_cons (pv 11) pa_nil)) pa_nil)) pe_int (fun _ _ => rfl)) pa_nil)) (pv 8) (nomark _))))) (pss_one (ps_ret pe_bl)) pss_nil)))))))))
  (pss_cons (ps_if (PW.pt (pw_or (pt_cmpR op_eq (pv 8) pe_int (nomark _)) (pw_or1 (pt_not (pt_truth (pv 3) (by intro _; rfl)))))) (pss_one (ps_ret (pe_and (pe_call G__law_refused (hr.mono (by decide)) rfl T.g__law_refused T.F__law_refused.kp T.b__law_refused .nil pass0 (pa_cons (pe_call G__law_ratios (hr.mono (by decide)) rfl T.g__law_ratios T.F__law_ratios.kp T.b__law_ratios .nil pass0 (pa_cons (pv 9) pa_nil)) pa_nil)) (pe_one (pe_call G__law_refused (hr.mono (by decide)) rfl T.g__law_refused T.F__law_refused.kp T.b__law_refused .nil pass0 (pa_cons (pe_op op_rep (pe_lst (pa_cons pe_int pa_nil)) (pv 8)) pa_nil)))))) pss_nil)
  (pss_cons (ps_set (i := 15) sc_law.nd rfl (.inr rfl) (pe_callB (cr_sum rfl) rfl T.z_sum (by decide +kernel) (pa_cons (pv 4) pa_nil)))
  (pss_cons (ps_set (i := 16) sc_law.nd rfl (.inr rfl) (pe_callB (cr_sum rfl) rfl T.z_sum (by decide +kernel) (pa_cons (pe_lc (own := [("_law_at", 17)]) (g := gName 17) (tt := tYes) rfl sc_law.nd (pi_range1 rfl T.z_range (pa_cons (pe_callB call_len_seq rfl T.z_len (by decide +kernel) (pa_cons (pv 3) pa_nil)) pa_nil)) (blkOk_by (N := N_law) (sc := defScope s_law) (by decide +kernel)) (fun _ _ _ _ _ => (pg_name (i := 17) sc_law.nd rfl (.inl rfl))) (fun _ _ _ _ _ => pts_nil) (fun _ _ _ _ _ => (pe_op op_mulW (pe_ix (ix_listK (K := K) rfl) (pv 4) (pv 17) (fun _ _ => rfl)) (pe_ix (ix_listK (K := K) rfl) (pv 3) (pv 17) (fun _ _ => rfl))))) pa_nil)))
  (pss_cons (ps_set (i := 13) sc_law.nd rfl (.inl rfl) (pe_call G__law_row (hr.mono (by decide)) rfl T.g__law_row T.F__law_row.kp T.b__law_row .nil pass0 (pa_cons (pe_lc (own := [("_law_top", 6)]) (g := gName 6) (tt := tYes) rfl sc_law.nd (pi_list (pv 3)) (blkOk_by (N := N_law) (sc := defScope s_law) (by decide +kernel)) (fun _ _ _ _ _ => (pg_name (i := 6) sc_law.nd rfl (.inl rfl))) (fun _ _ _ _ _ => pts_nil) (fun _ _ _ _ _ => (pe_op op_sub (pe_op op_mulW (pv 6) (pv 15)) (pv 16)))) (pa_cons (pv 4) (pa_cons (pv 7) (pa_cons (pe_op op_mulW (pv 2) (pv 15)) (pa_cons (pv 8) pa_nil)))))))
  (pss_one (ps_ret (pe_and (pe_call G__law_same_all (hr.mono (by decide)) rfl T.g__law_same_all T.F__law_same_all.kp T.b__law_same_all .nil pass0 (pa_cons (pe_call G_centred (hr.mono (by decide)) rfl T.g_centred T.F_centred.kp T.b_centred .nil passL (pa_cons (pe_call G__law_ratios (hr.mono (by decide)) rfl T.g__law_ratios T.F__law_ratios.kp T.b__law_ratios .nil pass0 (pa_cons (pv 9) pa_nil)) pa_nil)) (pa_cons (pv 13) pa_nil))) (pe_one (pe_call G__law_refused (hr.mono (by decide)) rfl T.g__law_refused T.F__law_refused.kp T.b__law_refused .nil pass0 (pa_cons (pe_op op_cat (pe_lst (pa_cons pe_int pa_nil)) (pe_slice sl_list (pe_call G__law_ratios (hr.mono (by decide)) rfl T.g__law_ratios T.F__law_ratios.kp T.b__law_ratios .nil pass0 (pa_cons (pv 9) pa_nil)) (po_some pe_int) po_none)) pa_nil))))))))))))))))))), ?_⟩
    -- the digits
    refine ⟨_, rfl, a, ns, 0, rfl, hS, fun cell => ⟨_, _, rfl, rfl, ⟨by decide, by decide, by decide⟩, cell, 20, 10 ^ (12 : Int).toNat, rfl, by decide, by decide, .ab (by decide) (by decide), fun H1 p ds k1 np hp1 dg => ?_⟩⟩
    have dl := dg.len
    have dat : ∀ k : Nat, k < 20 → atI (ds.map V.int) (k : Int) = some (.int (ds.getD k 0)) := fun k hk => atI_nat (int_at (by omega))
    have d0 : ∀ k : Nat, k < 20 → 0 ≤ ds.getD k 0 := fun k hk => (dg.all k hk).1
    clear dg
    have hS1 := hS.ext k1
    -- the bottom
    refine ⟨_, rfl, p, _, 0, _, rfl, rfl, .of hp1, dat 0 (by decide), .inl ⟨_, rfl, _, _, rfl, rfl, ⟨by decide, by decide, by decide⟩, by show 2 ≤ sizeLine; decide, fun pw npw => ?_⟩⟩
    have k2 := same_upd (o := .lst [V.int 6, .int (10 ^ (6 : Int).toNat)]) npw
    have hpw : upd H1 pw (.lst [V.int 6, .int (10 ^ (6 : Int).toNat)]) pw = some (.lst [V.int 6, .int (10 ^ (6 : Int).toNat)]) := upd_same
    have hp2 := k2 _ _ hp1
    refine ⟨_, rfl, p, _, 1, _, rfl, rfl, .of hp2, dat 1 (by decide), .inl ⟨_, rfl, _, _, rfl, rfl, p2, ?_⟩⟩
    obtain ⟨z, hz, z0, z1⟩ : ∃ z : Int, atI [V.int 6, .int (10 ^ (6 : Int).toNat)] (ds.getD 1 0 % 2) = some (.int z) ∧ 0 < z ∧ z ≤ 1000000 := by
      rcases (by omega : ds.getD 1 0 % 2 = 0 ∨ ds.getD 1 0 % 2 = 1) with e | e <;> rw [e]
      · exact ⟨_, rfl, by decide, by decide⟩
      · exact ⟨_, rfl, by decide, by decide⟩
    refine ⟨pw, _, _, _, rfl, rfl, .of hpw, hz, _, _, rfl, rfl, z0, _, _, rfl, rfl, ?_⟩
    obtain ⟨b, hb, b0, b1⟩ : ∃ b : Int, 1 + ds.getD 0 0 % z = b ∧ 0 < b ∧ b ≤ 1000000 := by
      have h1 := Int.emod_nonneg (ds.getD 0 0) (show z ≠ 0 by omega)
      have h2 := Int.emod_lt_of_pos (ds.getD 0 0) z0
      exact ⟨_, rfl, by omega, by omega⟩
    show gName 2 (V.int (1 + ds.getD 0 0 % z)) _ _ _
    rw [hb]
    have hS2 := hS1.ext k2
    have k12 := k1.trans k2
    generalize upd H1 pw (.lst [V.int 6, .int (10 ^ (6 : Int).toNat)]) = H2 at k2 hp2 hS2 k12
    clear hpw npw hz k1 hS hS1 hp1 z0 z1 np k2
    -- the points and the weights
    refine ⟨by show 0 ≤ sizeLine; decide, fun ta nta => ⟨by show 0 ≤ sizeLine; decide, fun pa npa => ?_⟩⟩
    have k3 := same_upd (o := .lst []) nta
    have k4 := same_upd (o := .lst []) npa
    have hta3 : upd H2 ta (.lst []) ta = some (.lst []) := upd_same
    have ap : ta ≠ pa := fun e => by rw [← e, hta3] at npa; cases npa
    have npa2 : H2 pa = none := k3.free npa
    refine ⟨_, rfl, p, _, 2, _, rfl, rfl, .of (k4 _ _ (k3 _ _ hp2)), dat 2 (by decide), .inl ⟨_, rfl, _, _, rfl, rfl, p6, _, rfl, ?_⟩⟩
    refine ⟨by show -2 ^ 62 ≤ ds.getD 2 0 % 6; omega, by show ds.getD 2 0 % 6 < 2 ^ 62; omega, ?_⟩
    refine for_range (lo := 0) (n := (ds.getD 2 0 % 6).toNat) (fun i σ G => ∃ (ts ps : List Int) (y5 y6 : Option V), σ = [some (.ref a), some (.ref p), some (.int b), some (.ref ta), some (.ref pa), y5, y6, none, none, none, none, none, none, none, none, none, none, none] ∧ Same H2 G ∧ G ta = some (.lst (ts.map V.int)) ∧ G pa = some (.lst (ps.map V.int)) ∧ ts.length = ps.length ∧ ts.length ≤ i ∧
        (∀ k, k < ts.length → 0 ≤ ts.getD k 0 ∧ ts.getD k 0 ≤ b) ∧ ∀ k, k < ts.length → 0 < ps.getD k 0 ∧ ps.getD k 0 ≤ 1000)
      ⟨[], [], _, _, rfl, k3.trans k4, k4 _ _ hta3, upd_same, rfl, Nat.le_refl _, fun k h => absurd h (Nat.not_lt_zero _), fun k h => absurd h (Nat.not_lt_zero _)⟩ ?_ ?_
    · rintro i σ G hi ⟨ts, ps, y5, y6, rfl, sm, hta, hpa, hl, hli, htb, hpb⟩
      have i6 : i < 6 := by omega
      have e5 : (5 : Int) + 2 * (0 + (i : Int)) = ((5 + 2 * i : Nat) : Int) := by omega
      have e6 : (6 : Int) + 2 * (0 + (i : Int)) = ((6 + 2 * i : Nat) : Int) := by omega
      have m2 : CMulW 2 (0 + (i : Int)) := Sm.mul (.ab (by decide) (by decide)) (.ab (by omega) (by omega))
      have hpp := sm _ _ hp2
      refine ⟨_, rfl, _, rfl, _, _, rfl, rfl, m2, _, _, rfl, rfl, p, _, _, _, rfl, rfl, .of hpp, by rw [e5]; exact dat _ (by omega), .inl ⟨_, rfl, _, rfl, _, _, rfl, rfl, _, _, rfl, rfl, by show 0 < b + 1; omega, ?_⟩⟩
      obtain ⟨x, hx, x0, x1⟩ : ∃ x : Int, ds.getD (5 + 2 * i) 0 % (b + 1) = x ∧ 0 ≤ x ∧ x ≤ b := by
        have h1 := Int.emod_nonneg (ds.getD (5 + 2 * i) 0) (show b + 1 ≠ 0 by omega)
        have h2 := Int.emod_lt_of_pos (ds.getD (5 + 2 * i) 0) (show 0 < b + 1 by omega)
        exact ⟨_, rfl, by omega, by omega⟩
      show gName 6 (V.int (ds.getD (5 + 2 * i) 0 % (b + 1))) _ _ _
      rw [hx]
      refine ⟨_, rfl, _, rfl, ta, _, rfl, .inl (.of hta), rfl, flat_ints ts, _, rfl, ite2 (fun _ => ?_) (fun _ => ⟨ts, ps, _, _, rfl, sm, hta, hpa, hl, by omega, htb, hpb⟩)⟩
      refine ⟨_, rfl, .inl ⟨rfl, _, .of hta⟩, _, rfl, ta, _, _, rfl, rfl, hta, by rw [List.length_map]; exact small1000 (by omega), ?_⟩
      have hpa1 : upd G ta (.lst (ts.map V.int ++ [.int x])) pa = some (.lst (ps.map V.int)) := by rw [upd_ne (Ne.symm ap)]; exact hpa
      have sm1 : Same H2 (upd G ta (.lst (ts.map V.int ++ [.int x]))) := same_push sm nta
      refine ⟨_, rfl, .inl ⟨rfl, _, .of hpa1⟩, _, rfl, _, rfl, _, _, rfl, rfl, m2, _, _, rfl, rfl, p, _, _, _, rfl, rfl, .of (sm1 _ _ hp2), by rw [e6]; exact dat _ (by omega), .inl ⟨_, rfl, _, _, rfl, rfl, p1000, _, _, rfl, rfl, pa, _, _, rfl, rfl, hpa1, by rw [List.length_map]; exact small1000 (by omega), ?_⟩⟩
      refine ⟨ts ++ [x], ps ++ [1 + ds.getD (6 + 2 * i) 0 % 1000], _, _, rfl, same_push sm1 npa2, by rw [upd_ne ap, upd_same, List.map_append]; rfl, by rw [upd_same, List.map_append]; rfl, by rw [List.length_append, List.length_append, hl]; rfl, by rw [List.length_append]; show ts.length + 1 ≤ i + 1; omega, fun k hk => ?_, fun k hk => ?_⟩
      · rw [List.length_append] at hk
        rcases (by have : k < ts.length + 1 := hk; omega : k < ts.length ∨ k = ts.length) with h | h
        · rw [getD_left h]
          exact htb k h
        · subst h
          rw [getD_last]
          exact ⟨x0, x1⟩
      · rw [List.length_append] at hk
        rcases (by have : k < ts.length + 1 := hk; omega : k < ts.length ∨ k = ts.length) with h | h
        · rw [getD_left (by omega)]
          exact hpb k h
        · subst h
          rw [hl, getD_last]
          omega
    rintro σ H5 ⟨ts, ps, y5, y6, rfl, k5, hta, hpa, hl, hli, htb, hpb⟩
    have hp5 := k5 _ _ hp2
    have hS5 := hS2.ext k5
    refine ⟨_, rfl, p, _, 3, _, rfl, rfl, .of hp5, dat 3 (by decide), .inl ⟨_, rfl, _, _, rfl, rfl, p60, _, _, rfl, rfl, ?_⟩⟩
    obtain ⟨u, hu, u0, u1⟩ : ∃ u : Int, 1 + ds.getD 3 0 % 60 = u ∧ 0 < u ∧ u ≤ 60 := ⟨_, rfl, by omega, by omega⟩
    show gName 7 (V.int (1 + ds.getD 3 0 % 60)) _ _ _
    rw [hu]
    refine ⟨_, rfl, p, _, 4, _, rfl, rfl, .of hp5, dat 4 (by decide), .inl ⟨_, rfl, _, _, rfl, rfl, p9, _, _, rfl, rfl, ?_⟩⟩
    obtain ⟨n, hn, n0, n9⟩ : ∃ n : Nat, 1 + ds.getD 4 0 % 9 = (n : Int) ∧ 0 < n ∧ n ≤ 9 := ⟨(1 + ds.getD 4 0 % 9).toNat, by omega, by omega, by omega⟩
    show gName 8 (V.int (1 + ds.getD 4 0 % 9)) _ _ _
    rw [hn]
    have dr : Drawn ts ps u b := ⟨hl, by omega, b0, b1, u0, u1, htb, hpb⟩
    clear hu hn hb dat d0 dl htb hpb k3 k4 hta3 hp2 hp5 hS2 k12 npa nta npa2
    refine ⟨_, rfl, _, rfl, _, rfl, _, rfl, _, rfl, ta, pa, ts, ps, u, b, n, 20, 10, rfl, hta, hpa, hl, by omega, by omega, dr.tl, dr.pl, by omega, by omega, by omega, fun H6 gv k6 hgv => ?_⟩
    have okg := good_ok dr n9
    have hS6 := hS5.ext k6
    have hta6 := k6 _ _ hta
    have hpa6 := k6 _ _ hpa
    -- both rows
    refine ⟨_, rfl, _, rfl, _, rfl, a, ns, 1, rfl, hS6, fun cell2 => ⟨gv, cell2, n, rowT ts ps u b, 176, 1504, rfl, hgv, n0, by omega, okg, by decide, by decide, by decide, by decide, fun H7 cv Fc k7 hcv okc => ⟨by show 2 ≤ sizeLine; decide, fun pl npl => ?_⟩⟩⟩
    have k8 := same_upd (o := .lst [gv, cv]) npl
    have hpl : upd H7 pl (.lst [gv, cv]) pl = some (.lst [gv, cv]) := upd_same
    have hgv8 := (hgv.same k7).same k8
    have hcv8 := hcv.same k8
    have hta8 := k8 _ _ (k7 _ _ hta6)
    have hpa8 := k8 _ _ (k7 _ _ hpa6)
    refine ⟨pl, rfl, ⟨_, .of hpl⟩, ?_⟩
    generalize upd H7 pl (.lst [gv, cv]) = H8 at k8 hpl hgv8 hcv8 hta8 hpa8
    clear k8 npl
    refine for_list (K := K) (a := pl) (xs := [gv, cv]) (fun i σ G => Same H8 G ∧ ∃ (y5 y6 y10 y11 y12 y13 y14 : Option V), σ = [some (.ref a), some (.ref p), some (.int b), some (.ref ta), some (.ref pa), y5, y6, some (.int u), some (.int (n : Int)), some gv, y10, y11, y12, y13, y14, none, none, none])
      ⟨Same.refl _, _, _, _, _, _, _, _, rfl⟩ (fun i σ G _ h => .of (h.1 _ _ hpl)) ?_ ?_
    · rintro i x σ G hx ⟨sm, y5, y6, y10, y11, y12, y13, y14, rfl⟩
      obtain ⟨F, hF, okF, hsg⟩ : ∃ F, TupsAt G x n F ∧ RowOk F n 272 1594 ∧ True := by
        have h2 : i < 2 := get_lt hx
        rcases (by omega : i = 0 ∨ i = 1) with e | e <;> subst e <;> cases hx
        · exact ⟨_, hgv8.same sm, ⟨okg.pos, fun k hk => lt_le (okg.top k hk) (by decide), fun k hk => lt_le (okg.bot k hk) (by decide), lt_le okg.all (by decide)⟩, trivial⟩
        · exact ⟨_, hcv8.same sm, okc, trivial⟩
      have bd : ∀ k i, k + i < n → Bd 1900 1900 (dfF (fun j => qv (F j)) k i) := fun k i hk => (df_bd okF (show i + k < n by omega) (by omega) (by decide)).mono (by decide) (by decide)
      refine ⟨_, rfl, x, n, F, rfl, hF, by omega, fun k hk => ⟨by have := okF.pos k hk; omega, sm_of (okF.bot k hk) (by decide)⟩, fun G1 gd xs k1 ngd hgd lx rx => ?_⟩
      refine ⟨_, rfl, .ref gd, xs, _, rfl, ⟨gd, rfl, .inl hgd⟩, rx.nums, by omega, by omega, by rw [lx]; exact bd, fun G2 td rs k2 htd lrs hR hne hfr ntd => ?_⟩
      refine ⟨_, rfl, x, n, F, 272, 1594, rfl, (hF.same k1).same k2, n0, by omega, okF, by decide, fun G3 dd rs2 k3 hdd lrs2 hTab => ?_⟩
      rw [lx] at lrs hR
      have htd3 := k3 _ _ htd
      have hR3 := hR.same k3
      refine ⟨_, rfl, .ref td, .ty "list", _, _, true, rfl, .ty _, .base (.lst htd3), kit_ty (by decide +kernel), true, rfl, iteF ?_⟩
      refine ⟨_, rfl, td, _, rfl, .inl (.of htd3), _, rfl, rfl, _, rfl, iteFe (by rw [List.length_map, lrs, decide_eq_true rfl]; rfl) ?_⟩
      refine ⟨_, rfl, _, rfl, by omega, by omega, ?_⟩
      rw [show ((n : Int)).toNat = n by omega]
      refine for_range (lo := 0) (fun i σ E => Same G3 E ∧ ∃ (y5 y14 : Option V), σ = [some (.ref a), some (.ref p), some (.int b), some (.ref ta), some (.ref pa), y5, y6, some (.int u), some (.int (n : Int)), some gv, some x, some (.ref gd), some (.ref td), some (.ref dd), y14, none, none, none])
        ⟨Same.refl _, _, _, rfl⟩ ?_ ?_
      · rintro k σ E hk ⟨se, y5, y14, rfl⟩
        obtain ⟨r, er, er2⟩ := pr_get (show k < rs.length by omega)
        obtain ⟨r2, fr, fr2⟩ := pr_get (show k < rs2.length by omega)
        obtain ⟨zs, hz, lz, rz⟩ := hR3.same se k r er
        have hT2 := (hTab.same se) k r2 fr
        have htd4 := se _ _ htd3
        have hdd4 := se _ _ hdd
        refine ⟨_, rfl, _, rfl, td, _, _, _, rfl, rfl, .of htd4, at_get er2, _, rfl, _, rfl, dd, _, _, _, rfl, rfl, .of hdd4, at_get fr2, ?_⟩
        refine ⟨r, .ref r2, zs, _, n - k, tbl F k, rfl, hz, rz, lz, by omega, hT2, fun j hj => ?_, fun E2 s2 => ⟨true, rfl, iteF ?_⟩⟩
        · obtain ⟨v1, v2⟩ := tbl_val (n := n) okF.pos (show j + k < n by omega)
          obtain ⟨v3, v4⟩ := tbl_lt (n := n) okF (show j + k < n by omega) (by omega) (by decide)
          exact ⟨by omega, v2, (bd k j (by omega)).mono (by decide) (by decide), sm_of v3 (by decide), sm_of v4 (by decide)⟩
        have hx5 : TupsAt E2 x n F := ((((hF.same k1).same k2).same k3).same se).same s2
        have kG : Same H8 E2 := ((((sm.trans k1).trans k2).trans k3).trans se).trans s2
        have hg5 := hgv8.same kG
        refine ⟨_, rfl, _, rfl, _, _, hx5.dp, hg5.dp, pdL_shaped _ _, pdL_shaped _ _, _, rfl, ite2 (fun c => ?_) (fun _ => iteF ⟨se.trans s2, _, _, rfl⟩)⟩
        have c : ∀ k, k < n → F k = rowT ts ps u b k := by
          rw [pdL_eqv] at c
          exact of_decide_eq_true c
        obtain ⟨r3, us, e3, hus, lus, hU⟩ := hT2.same s2
        cases e3
        refine ⟨_, rfl, _, rfl, dd, _, _, _, rfl, rfl, .of (s2 _ _ hdd4), at_get fr2, r2, rfl, ⟨_, .of hus⟩, fun d3 nd3 => ?_⟩
        refine lc_list (K := K) (a := r2) (xs := us.map V.ref) (fun i G => Same E2 G ∧ G d3 = some (.lst [])) ⟨same_upd nd3, upd_same⟩ (fun i G _ p => .of (p.1 _ _ hus)) ?_ ?_
        · rintro j y G hy ⟨sg, hd3⟩
          obtain ⟨t, et, rfl⟩ := ref_get hy
          have hj := get_lt et
          refine ⟨rfl, _, rfl, t, _, 0, _, rfl, rfl, .of (sg _ _ (hU j t et)), rfl, _, _, rfl, rfl, _, rfl, iteFe (decide_eq_false ?_) ⟨sg, hd3⟩⟩
          have hjk : j + k < n := by omega
          obtain ⟨v1, v2⟩ := tbl_val (n := n) okF.pos hjk
          have h0 : 0 ≤ qv (tbl F k j) := by
            rw [v2, dfF_congr (g := lotF (fun i => ((ps.getD i 0 : Int) : Rat) / (u : Rat)) (fun i => ((ts.getD i 0 : Int) : Rat) / (b : Rat)) ts.length) k j fun i _ h2 => ?_]
            · exact dfF_nonneg (fun i hi => (lot_x dr hi).2.2) (fun i hi => ⟨(lot_x dr hi).1, (lot_x dr hi).2.1⟩) k j
            · rw [c i (by omega)]
              exact powl_lot dr.len (by omega) (by omega) i
          have := qv_nonneg v1 h0
          omega
        · rintro G ⟨sg, hd3⟩
          exact ⟨d3, _, rfl, .inl (.of hd3), _, _, rfl, rfl, _, rfl, iteFe (decide_eq_false (by decide)) ⟨(se.trans s2).trans sg, _, _, rfl⟩⟩
      · rintro σ E ⟨se, y5, y14, rfl⟩
        have htd4 := se _ _ htd3
        obtain ⟨r0, er, er2⟩ := pr_get (show 0 < rs.length by omega)
        obtain ⟨zs, hz, lz, rz⟩ := hR3.same se 0 r0 er
        have nr0 : G1 r0 = none := hfr r0 (List.mem_of_getElem? er)
        refine ⟨_, rfl, td, _, 0, _, rfl, rfl, .of htd4, at_get er2, .inl ⟨rfl, _, .of hz⟩, r0, _, _, rfl, rfl, hz, by rw [lz]; exact small1000 (by omega), ?_⟩
        have kE := (k2.trans k3).trans se
        have s9 : Same G1 (upd E r0 (.lst (zs ++ [V.non]))) := same_push kE nr0
        generalize upd E r0 (.lst (zs ++ [V.non])) = E9 at s9
        have hgd9 := s9 _ _ hgd
        have hF9 : TupsAt E9 x n F := (hF.same k1).same s9
        refine ⟨_, rfl, _, rfl, gd, x, xs, _, n, F, rfl, hgd9, rx.same s9, lx, by omega, hF9, fun j hj => ?_, fun E10 s10 => ⟨true, rfl, iteF ?_⟩⟩
        · have v1 := okF.pos j hj
          exact ⟨by omega, rfl, (bd 0 j (by omega)).mono (by decide) (by decide), sm_of (okF.top j hj) (by decide), sm_of (okF.bot j hj) (by decide)⟩
        refine ⟨_, rfl, gd, xs, rfl, .inl ⟨.of (s10 _ _ hgd9), fun tp ntp => ?_⟩⟩
        have s11 := same_upd (o := .tup xs) ntp
        refine ⟨.ref tp, xs, _, rfl, ⟨tp, rfl, .inr upd_same⟩, ((rx.same s9).same s10).nums.same s11, by omega, by omega, by rw [lx]; exact bd, fun E12 td2 rs3 s12 htd2 lrs3 hR2 _ _ _ => ?_⟩
        obtain ⟨r4, er4, er5⟩ := pr_get (show 0 < rs3.length by omega)
        obtain ⟨zs2, hz2, lz2, rz2⟩ := hR2 0 r4 er4
        refine ⟨td2, _, 0, _, rfl, rfl, .of htd2, at_get er5, r4, _, rfl, .inl (.of hz2), _, rfl, rfl, _, rfl, iteFe ?_ ⟨(((((sm.trans k1).trans s9).trans s10).trans s11).trans s12), _, _, _, _, _, _, _, rfl⟩⟩
        rw [lz2, lx, Nat.sub_zero, decide_eq_true rfl]
        rfl
    · rintro σ G ⟨sm, y5, y6, y10, y11, y12, y13, y14, rfl⟩
      have hgG := hgv8.same sm
      have htaG := sm _ _ hta8
      have hpaG := sm _ _ hpa8
      have rc : ∀ k, k < n → (rowT ts ps u b k).2 ≠ 0 ∧ Sm (rowT ts ps u b k).2 := fun k hk => ⟨by have := okg.pos k hk; omega, sm_of (okg.bot k hk) (by decide)⟩
      have rb : ∀ k, k < n → Bd 1900 1900 (qv (rowT ts ps u b k)) := fun k hk => .div (rc k hk).1 (lt_le (okg.top k hk) (by decide)) (lt_le (okg.bot k hk) (by decide))
      refine ⟨_, rfl, rfl, _, rfl, ?_⟩
      have e1 : decide (V.int (n : Int) = V.int 1) = decide (n = 1) := by
        rw [Bool.eq_iff_iff, decide_eq_true_iff, decide_eq_true_iff]
        exact ⟨fun z => by have := V.int.inj z; omega, fun z => by rw [z]; rfl⟩
      rw [e1]
      by_cases hn1 : n = 1
      · refine iteTe (decide_eq_true hn1) (iteT ?_)
        refine ⟨_, rfl, gv, n, _, rfl, hgG, by omega, rc, fun G1 gd xs k1 _ hgd lx rx => ?_⟩
        refine ⟨.ref gd, xs, _, rfl, ⟨gd, rfl, .inl hgd⟩, rx.nums, by omega, by omega, by rw [lx]; exact rb, .inl (by omega), fun G2 k2 => ⟨true, rfl, iteT ?_⟩⟩
        refine ⟨by show 1 ≤ sizeLine; decide, fun pz nz => ⟨_, rfl, pz, (n : Int), _, rfl, rfl, upd_same, by omega, by omega, by show 1 * _ ≤ sizeLine; rw [Nat.one_mul]; exact Nat.le_of_lt (small1000 (by omega)), fun d nd => ?_⟩⟩
        rw [show ((n : Int)).toNat = n by omega, rep_flat]
        exact ⟨.ref d, List.replicate n (.int 0), fun _ => 0, rfl, ⟨d, rfl, .inl upd_same⟩, nums_rep, by rw [List.length_replicate]; exact n0, by rw [List.length_replicate]; omega, fun _ _ => .zero (by decide), .inr rfl, fun H' _ => q H'⟩
      refine iteFe (decide_eq_false hn1) ⟨_, rfl, _, .inl ⟨_, .of htaG, rfl⟩, ?_⟩
      by_cases ht : ts = []
      · refine iteTe (by rw [ht]; rfl) ?_
        have f0 : qv (rowT ts ps u b 0) = 0 := by
          rw [ht]
          show qv ((List.zipWith _ ps []).sum, _) = 0
          rw [List.zipWith_nil_right]
          show ((0 : Int) : Rat) / _ = 0
          rw [Rat.intCast_zero, Rat.div_def, Rat.zero_mul]
        refine ⟨_, rfl, gv, n, _, rfl, hgG, by omega, rc, fun G1 gd xs k1 _ hgd lx rx => ?_⟩
        refine ⟨.ref gd, xs, _, rfl, ⟨gd, rfl, .inl hgd⟩, rx.nums, by omega, by omega, by rw [lx]; exact rb, .inr f0, fun G2 k2 => ⟨true, rfl, iteT ?_⟩⟩
        refine ⟨by show 1 ≤ sizeLine; decide, fun pz nz => ⟨_, rfl, pz, (n : Int), _, rfl, rfl, upd_same, by omega, by omega, by show 1 * _ ≤ sizeLine; rw [Nat.one_mul]; exact Nat.le_of_lt (small1000 (by omega)), fun d nd => ?_⟩⟩
        rw [show ((n : Int)).toNat = n by omega, rep_flat]
        exact ⟨.ref d, List.replicate n (.int 0), fun _ => 0, rfl, ⟨d, rfl, .inl upd_same⟩, nums_rep, by rw [List.length_replicate]; exact n0, by rw [List.length_replicate]; omega, fun _ _ => .zero (by decide), .inr rfl, fun H' _ => q H'⟩
      have tn : 0 < ts.length := List.length_pos_iff.mpr ht
      refine iteFe (by cases ts with | nil => exact absurd rfl ht | cons x xs => rfl) ?_
      have hl := dr.len
      have few := dr.few
      -- the whole weight and the first number
      refine ⟨_, rfl, pa, ps, rfl, .of hpaG, ?_⟩
      refine ⟨_, rfl, ta, _, rfl, .inl (.of htaG), _, rfl, by rw [List.length_map]; omega, by rw [List.length_map]; omega, fun d1 nd1 => ?_⟩
      rw [show (((ts.map V.int).length : Nat) : Int).toNat = ts.length by rw [List.length_map]; omega]
      refine lc_range (lo := 0) (fun j G2 => GroI G d1 (fun j => ps.getD j 0 * ts.getD j 0) j G2) (.start nd1) ?_ ?_
      · rintro j G2 hj pI
        exact ⟨rfl, _, rfl, _, rfl, pa, _, _, _, rfl, rfl, .of (pI.1 _ _ hpaG), atI_getD (by omega), _, rfl, _, rfl, ta, _, _, _, rfl, rfl, .of (pI.1 _ _ htaG), atI_getD hj, _, _, rfl, rfl, (sm_of (dr.pl j) (by decide)).mul (sm_of (dr.tl j) (by decide)), pI.push nd1 (by omega) (Same.refl _)⟩
      rintro G1 ⟨s1, hd1⟩
      refine ⟨d1, _, rfl, .of hd1, ?_⟩
      rw [show (List.range ts.length).map (fun j => ps.getD j 0 * ts.getD j 0) = powl ts ps 1 from range_powl hl]
      obtain ⟨S, hS⟩ : ∃ S, ps.sum = S := ⟨_, rfl⟩
      obtain ⟨R, hR⟩ : ∃ R, (powl ts ps 1).sum = R := ⟨_, rfl⟩
      rw [hS, hR]
      have Sb : S.natAbs < 2 ^ 14 := by rw [← hS]; exact sum_getD_lt (fun k _ => dr.pl k) (by omega)
      have Rb : R.natAbs < 2 ^ 35 := by rw [← hR]; exact powl_lt (k := 1) hl (by omega) dr.tl dr.pl
      have S0 : 0 < S := by rw [← hS]; exact sum_pos (by omega) fun k hk => (dr.pb k (by omega)).1
      have hta1 := s1 _ _ htaG
      have hpa1 := s1 _ _ hpaG
      -- the row that is due
      refine ⟨_, rfl, ta, rfl, ⟨_, .of hta1⟩, fun d2 nd2 => ?_⟩
      refine lc_list (K := K) (a := ta) (xs := ts.map V.int) (fun i G2 => GroI G1 d2 (fun j => ts.getD j 0 * S - R) i G2) (.start nd2) (fun i G2 _ p => .of (p.1 _ _ hta1)) ?_ ?_
      · rintro j x G2 hx pI
        have hj : j < ts.length := by
          have := get_lt hx
          rw [List.length_map] at this
          exact this
        rw [int_at hj] at hx
        cases hx
        exact ⟨rfl, _, rfl, _, rfl, _, _, rfl, rfl, (sm_of (dr.tl j) (by decide)).mul (sm_of Sb (by decide)), _, rfl, _, _, rfl, rfl, pI.push nd2 (by omega) (Same.refl _)⟩
      rintro G2 ⟨s2, hd2⟩
      rw [List.length_map] at hd2
      obtain ⟨us, hus⟩ : ∃ us, (List.range ts.length).map (fun j => ts.getD j 0 * S - R) = us := ⟨_, rfl⟩
      have lus : us.length = ts.length := by rw [← hus, List.length_map, List.length_range]
      have gus : ∀ j, j < ts.length → us.getD j 0 = ts.getD j 0 * S - R := fun j hj => by
        rw [← hus, List.getD_eq_getElem?_getD, List.getElem?_map, List.getElem?_range hj]
        rfl
      rw [hus] at hd2
      have bS : (b * S).natAbs < 2 ^ 34 := nmul (show b.natAbs < 2 ^ 20 by omega) Sb
      have bS0 : 0 < b * S := Int.mul_pos b0 S0
      have ul : ∀ k, (us.getD k 0).natAbs < 2 ^ 36 := fun k => by
        rcases Nat.lt_or_ge k ts.length with h | h
        · rw [gus k h, Int.sub_eq_add_neg]
          exact nadd (nle (nmul (dr.tl k) Sb) (by decide)) (by rw [Int.natAbs_neg]; exact Rb)
        · rw [getD_out (by omega)]
          decide
      refine ⟨_, rfl, _, rfl, _, rfl, _, rfl, _, _, rfl, rfl, (sm_of (show b.natAbs < 2 ^ 20 by omega) (by decide)).mul (sm_of Sb (by decide)), _, rfl, d2, pa, us, ps, u, b * S, n, 36, 10, rfl, hd2, s2 _ _ hpa1, by omega, by omega, by omega, ul, dr.pl, by omega, nle bS (by decide), by omega, fun G3 dv s3 hdv => ?_⟩
      have s13 := (s1.trans s2).trans s3
      have hg3 := hgG.same s13
      -- the centred row
      refine ⟨_, rfl, gv, n, _, rfl, hg3, by omega, rc, fun G4 gd xs s4 _ hgd lx rx => ?_⟩
      have hb' := ine b (by omega)
      have hu' := ine u (by omega)
      have hS' := ine S (by omega)
      have f0 : qv (rowT ts ps u b 0) * (u : Rat) = (S : Rat) := by
        have := qv_mul (p := rowT ts ps u b 0) (rc 0 n0).1
        show qv (rowT ts ps u b 0) * _ = _
        rw [show (rowT ts ps u b 0).2 = u by show u * b ^ 0 = u; rw [Int.pow_zero, Int.mul_one], show (rowT ts ps u b 0).1 = S by show (powl ts ps 0).sum = S; rw [powl_zero hl, hS]] at this
        exact this
      have f1 : qv (rowT ts ps u b 1) * ((u * b : Int) : Rat) = (R : Rat) := by
        have := qv_mul (p := rowT ts ps u b 1) (rc 1 (by omega)).1
        rw [show (rowT ts ps u b 1).2 = u * b by show u * b ^ 1 = _; rw [Int.pow_succ, Int.pow_zero, Int.one_mul], show (rowT ts ps u b 1).1 = R from hR] at this
        exact this
      have f0n : qv (rowT ts ps u b 0) ≠ 0 := fun z => by
        rw [z, Rat.zero_mul] at f0
        exact hS' f0.symm
      have fc : qv (rowT ts ps u b 1) / qv (rowT ts ps u b 0) * ((b * S : Int) : Rat) = (R : Rat) := by
        rw [Rat.intCast_mul] at f1 ⊢
        rw [← f1, ← f0]
        exact cen_ring _ _ _ _ f0n
      have bdn : ∀ k, k < xs.length → Bd 176 167 (qv (rowT ts ps u b k)) := fun k hk => by
        obtain ⟨a1, a2, a3⟩ := rowT_lt dr n9 (show k < n by omega)
        exact .div (by omega) a2 a3
      refine ⟨.ref gd, xs, _, rfl, ⟨gd, rfl, .inl hgd⟩, rx.nums, by omega, by omega, by rw [lx]; exact rb, .inr ⟨by omega, f0n, 176, 167, 36, bdn, .of (by omega) fc (nle Rb (by decide)) (nle bS (by decide)), by rw [lx]; omega, fun G5 cd ys s5 hcd ly ry => ?_⟩⟩
      refine ⟨_, rfl, cd, dv, ys, _, n, rowT us ps u (b * S), rfl, hcd, ry, by omega, by omega, (hdv.same s4).same s5, fun k hk => ?_, fun G6 s6 => ⟨true, rfl, iteT ?_⟩⟩
      · have h2 : u * (b * S) ^ k ≠ 0 := Int.mul_ne_zero (by omega) (Int.pow_ne_zero (by omega))
        have t1 := powl_lt (ts := us) (ps := ps) (k := k) (by omega) (by omega) ul dr.pl
        have t2 := nmul (show u.natAbs < 2 ^ 6 by omega) (npow bS k)
        have t1' : (rowT us ps u (b * S) k).1.natAbs < 2 ^ 350 := lt_le t1 (by omega)
        have t2' : (rowT us ps u (b * S) k).2.natAbs < 2 ^ 350 := lt_le t2 (by omega)
        have hv : qv (rowT us ps u (b * S) k) = mvF (fun k => qv (rowT ts ps u b k)) (-(qv (rowT ts ps u b 1) / qv (rowT ts ps u b 0))) k := by
          rw [mvF_congr (f := fun k => qv (rowT ts ps u b k)) (g := lotF (fun j => ((ps.getD j 0 : Int) : Rat) / (u : Rat)) (fun j => ((ts.getD j 0 : Int) : Rat) / (b : Rat)) ts.length) k fun i _ => powl_lot hl (by omega) (by omega) i, mvF_lot]
          show qv ((powl us ps k).sum, u * (b * S) ^ k) = _
          rw [powl_lot (ts := us) (ps := ps) (by omega) (by omega) (by omega) k, lus]
          refine sumR_congr fun j hj => ?_
          congr 2
          dsimp only
          rw [gus j hj]
          refine div_eq (by omega) ?_
          rw [Rat.intCast_sub, ← fc]
          simp only [Rat.intCast_mul]
          exact cen_ring2 _ _ _ _ hb'
        exact ⟨h2, hv, hv ▸ .div h2 (lt_le t1' (by decide)) (lt_le t2' (by decide)), sm_of t1' (by decide), sm_of t2' (by decide)⟩
      -- a row that begins with 0
      refine ⟨by show 1 ≤ sizeLine; decide, fun o1 no1 => ?_⟩
      have s7 := same_upd (o := .lst [V.int 0]) no1
      have ho1 : upd G6 o1 (.lst [V.int 0]) o1 = some (.lst [V.int 0]) := upd_same
      have s37 := ((s4.trans s5).trans s6).trans s7
      refine ⟨_, rfl, gv, n, _, rfl, hg3.same s37, by omega, rc, fun G8 gd2 xs2 s8 _ hgd2 lx2 rx2 => ?_⟩
      refine ⟨_, rfl, gd2, xs2, rfl, .of hgd2, fun o2 no2 => ?_⟩
      rw [show (some (1 : Int)) = some ((1 : Nat) : Int) from rfl, cut_drop xs2 1 (by omega)]
      have s9 := same_upd (o := .lst (xs2.drop 1)) no2
      refine ⟨o1, o2, _, _, rfl, rfl, s9 _ _ (s8 _ _ ho1), upd_same, by rw [List.length_drop]; exact Nat.le_of_lt (small1000 (by show 1 + (xs2.length - 1) ≤ 1000; omega)), fun o3 no3 => ?_⟩
      have s10 := same_upd (o := .lst ([V.int 0] ++ xs2.drop 1)) no3
      have rx3 := (rx2.same s9).same s10
      have l3 : ([V.int 0] ++ xs2.drop 1).length = n := by rw [List.length_append, List.length_drop]; show 1 + (xs2.length - 1) = n; omega
      refine ⟨.ref o3, [V.int 0] ++ xs2.drop 1, fun k => if k = 0 then 0 else qv (rowT ts ps u b k), rfl, ⟨o3, rfl, .inl upd_same⟩, fun k x e => ?_, by omega, by omega, fun k hk => ?_, .inr (if_pos rfl), fun H' _ => q H'⟩
      · cases k with
        | zero =>
          cases e
          exact .inl ⟨0, rfl, rfl⟩
        | succ k =>
          rw [List.getElem?_append_right (by simp), List.length_singleton, Nat.add_sub_cancel, List.getElem?_drop, Nat.add_comm 1 k] at e
          show NumV _ _ _ (if k + 1 = 0 then 0 else _)
          rw [if_neg (by omega)]
          exact .inr (rx3 _ _ e)
      · dsimp only
        split
        · exact .zero (by decide)
        · exact rb k (by omega)
end

end Mo

namespace Mo
open PySem PySem.Spec PyProof.Rows L2 MoL MoW
open C8 (pss_cut tCut)
/-! ### what the top has written -/
theorem all_mk {l : PySem.W.OpenLaw} {w : World} {K : PySem.W.Frag} {h : Heap} {mg : Str → Option Value} {fa C_Ratio C_NoMean C_MeansError f0 f1 f2 f3 f4 f5 f6 f7 f8 f9 f10 f11 f12 f13 f14 f15 f16 f17 f18 f19 f20 f21 f22 f23 f24 f25 f26 f27 f28 : Addr} (X : K.In h) (G : h.Ns mainGlobals mg) (hfa : mg "law" = some (.ref fa))
    {od0 an0 od1 an1 od2 an2 od3 an3 od4 an4 od5 an5 od6 an6 od7 an7 od8 an8 od9 an9 od10 an10 od11 an11 od12 an12 od13 an13 od14 an14 od15 an15 od16 an16 od17 an17 od18 an18 od19 an19 od20 an20 od21 an21 od22 an22 od23 an23 od24 an24 od25 an25 od26 an26 od27 an27 od28 an28 : Option Addr} {sl0 sl1 sl2 sl3 sl4 sl5 sl6 sl7 sl8 sl9 sl10 sl11 sl12 sl13 sl14 sl15 sl16 sl17 sl18 sl19 sl20 sl21 sl22 sl23 sl24 sl25 sl26 sl27 sl28 : Array (Option Value)} {oc0 kV0 dc0 pm0 ct0 cd0 oc1 kV1 dc1 pm1 ct1 cd1 oc2 kV2 dc2 pm2 ct2 cd2 oc3 kV3 dc3 pm3 ct3 cd3 oc4 kV4 dc4 pm4 ct4 cd4 oc5 kV5 dc5 pm5 ct5 cd5 oc6 kV6 dc6 pm6 ct6 cd6 oc7 kV7 dc7 pm7 ct7 cd7 oc8 kV8 dc8 pm8 ct8 cd8 oc9 kV9 dc9 pm9 ct9 cd9 oc10 kV10 dc10 pm10 ct10 cd10 oc11 kV11 dc11 pm11 ct11 cd11 oc12 kV12 dc12 pm12 ct12 cd12 oc13 kV13 dc13 pm13 ct13 cd13 oc14 kV14 dc14 pm14 ct14 cd14 oc15 kV15 dc15 pm15 ct15 cd15 oc16 kV16 dc16 pm16 ct16 cd16 oc17 kV17 dc17 pm17 ct17 cd17 oc18 kV18 dc18 pm18 ct18 cd18 oc19 kV19 dc19 pm19 ct19 cd19 oc20 kV20 dc20 pm20 ct20 cd20 oc21 kV21 dc21 pm21 ct21 cd21 oc22 kV22 dc22 pm22 ct22 cd22 oc23 kV23 dc23 pm23 ct23 cd23 oc24 kV24 dc24 pm24 ct24 cd24 oc25 kV25 dc25 pm25 ct25 cd25 oc26 kV26 dc26 pm26 ct26 cd26 oc27 kV27 dc27 pm27 ct27 cd27 oc28 kV28 dc28 pm28 ct28 cd28 : Value} {T0 : Addr} {td0 : Option Addr} {tn0 : Nat} {ts0 : Array (Option Value)} {tt0_0 : Tok} {tok_MOST_NUMBERS : Tok} {q_MeansError : Str} {N_MeansError : Addr} {bs_MeansError sub_MeansError : List Value} {sn_MeansError : List Str} {ab_MeansError : Bool} {col_MeansError : Option Bool} {dd_MeansError : Option Addr} {m0_MeansError m1_MeansError m2_MeansError m3_MeansError m5_MeansError : Option Value} {q_NoMean : Str} {N_NoMean : Addr} {bs_NoMean sub_NoMean : List Value} {sn_NoMean : List Str} {ab_NoMean : Bool} {col_NoMean : Option Bool} {dd_NoMean : Option Addr} {m0_NoMean m1_NoMean m2_NoMean m3_NoMean m5_NoMean : Option Value}
    (g_Ratio : PySem.W.nsIn K mainGlobals "Ratio" = some (some (.ref C_Ratio)))
    (g_MeansError : PySem.W.nsIn K mainGlobals "MeansError" = some (some (.ref C_MeansError)))
    (g_NoMean : PySem.W.nsIn K mainGlobals "NoMean" = some (some (.ref C_NoMean)))
    (xL_MeansError : K.lookup C_MeansError = some (excClassObj "MeansError" q_MeansError C_MeansError N_MeansError bs_MeansError [.type "ValueError", .type "Exception", .type "BaseException", .type "object"] true sn_MeansError sub_MeansError ab_MeansError col_MeansError dd_MeansError m0_MeansError m1_MeansError m2_MeansError m3_MeansError m5_MeansError "ValueError.__new__"))
    (xL_NoMean : K.lookup C_NoMean = some (excClassObj "NoMean" q_NoMean C_NoMean N_NoMean bs_NoMean [.ref C_MeansError, .type "ValueError", .type "Exception", .type "BaseException", .type "object"] true sn_NoMean sub_NoMean ab_NoMean col_NoMean dd_NoMean m0_NoMean m1_NoMean m2_NoMean m3_NoMean m5_NoMean "ValueError.__new__"))
    (a0 : PySem.W.findIn K (.ref C_Ratio) "__init__" = some (some (.ref f0)))
    (i0 : PySem.W.isFn K (.ref f0) = true)
    (l0 : K.lookup f0 = some ⟨oc0, od0, .func (PySem.W.fnOf "__init__" "Ratio.__init__" (defArgs s_Ratio___init__) (defBody s_Ratio___init__) (defScope s_Ratio___init__) (.ref T0) kV0 dc0 pm0 an0 cd0 ct0), sl0⟩)
    (c0 : PySem.W.codeIn K cd0 "Ratio.__init__" = true)
    (k0 : PySem.W.keepIn K (.ref f0) = true)
    (t0 : K.lookup T0 = some ⟨.type "tuple", td0, .seq #[.int 1 tt0_0] tn0, ts0⟩)
    (a1 : PySem.W.findIn K (.ref C_Ratio) "__sub__" = some (some (.ref f1)))
    (i1 : PySem.W.isFn K (.ref f1) = true)
    (l1 : K.lookup f1 = some ⟨oc1, od1, .func (PySem.W.fnOf "__sub__" "Ratio.__sub__" (defArgs s_Ratio___sub__) (defBody s_Ratio___sub__) (defScope s_Ratio___sub__) .none kV1 dc1 pm1 an1 cd1 ct1), sl1⟩)
    (c1 : PySem.W.codeIn K cd1 "Ratio.__sub__" = true)
    (k1 : PySem.W.keepIn K (.ref f1) = true)
    (a2 : PySem.W.findIn K (.ref C_Ratio) "__rsub__" = some (some (.ref f2)))
    (i2 : PySem.W.isFn K (.ref f2) = true)
    (l2 : K.lookup f2 = some ⟨oc2, od2, .func (PySem.W.fnOf "__rsub__" "Ratio.__rsub__" (defArgs s_Ratio___rsub__) (defBody s_Ratio___rsub__) (defScope s_Ratio___rsub__) .none kV2 dc2 pm2 an2 cd2 ct2), sl2⟩)
    (c2 : PySem.W.codeIn K cd2 "Ratio.__rsub__" = true)
    (k2 : PySem.W.keepIn K (.ref f2) = true)
    (a3 : PySem.W.findIn K (.ref C_Ratio) "__neg__" = some (some (.ref f3)))
    (i3 : PySem.W.isFn K (.ref f3) = true)
    (l3 : K.lookup f3 = some ⟨oc3, od3, .func (PySem.W.fnOf "__neg__" "Ratio.__neg__" (defArgs s_Ratio___neg__) (defBody s_Ratio___neg__) (defScope s_Ratio___neg__) .none kV3 dc3 pm3 an3 cd3 ct3), sl3⟩)
    (c3 : PySem.W.codeIn K cd3 "Ratio.__neg__" = true)
    (k3 : PySem.W.keepIn K (.ref f3) = true)
    (a4 : PySem.W.findIn K (.ref C_Ratio) "__eq__" = some (some (.ref f4)))
    (i4 : PySem.W.isFn K (.ref f4) = true)
    (l4 : K.lookup f4 = some ⟨oc4, od4, .func (PySem.W.fnOf "__eq__" "Ratio.__eq__" (defArgs s_Ratio___eq__) (defBody s_Ratio___eq__) (defScope s_Ratio___eq__) .none kV4 dc4 pm4 an4 cd4 ct4), sl4⟩)
    (c4 : PySem.W.codeIn K cd4 "Ratio.__eq__" = true)
    (k4 : PySem.W.keepIn K (.ref f4) = true)
    (a5 : PySem.W.findIn K (.ref C_Ratio) "over" = some (some (.ref f5)))
    (i5 : PySem.W.isFn K (.ref f5) = true)
    (l5 : K.lookup f5 = some ⟨oc5, od5, .func (PySem.W.fnOf "over" "Ratio.over" (defArgs s_Ratio_over) (defBody s_Ratio_over) (defScope s_Ratio_over) .none kV5 dc5 pm5 an5 cd5 ct5), sl5⟩)
    (c5 : PySem.W.codeIn K cd5 "Ratio.over" = true)
    (k5 : PySem.W.keepIn K (.ref f5) = true)
    (a6 : PySem.W.nsIn K mainGlobals "is_whole" = some (some (.ref f6)))
    (l6 : K.lookup f6 = some ⟨oc6, od6, .func (PySem.W.fnOf "is_whole" "is_whole" (defArgs s_is_whole) (defBody s_is_whole) (defScope s_is_whole) .none kV6 dc6 pm6 an6 cd6 ct6), sl6⟩)
    (c6 : PySem.W.codeIn K cd6 "is_whole" = true)
    (k6 : PySem.W.keepIn K (.ref f6) = true)
    (a7 : PySem.W.nsIn K mainGlobals "is_number" = some (some (.ref f7)))
    (l7 : K.lookup f7 = some ⟨oc7, od7, .func (PySem.W.fnOf "is_number" "is_number" (defArgs s_is_number) (defBody s_is_number) (defScope s_is_number) .none kV7 dc7 pm7 an7 cd7 ct7), sl7⟩)
    (c7 : PySem.W.codeIn K cd7 "is_number" = true)
    (k7 : PySem.W.keepIn K (.ref f7) = true)
    (a8 : PySem.W.nsIn K mainGlobals "ratio_of" = some (some (.ref f8)))
    (l8 : K.lookup f8 = some ⟨oc8, od8, .func (PySem.W.fnOf "ratio_of" "ratio_of" (defArgs s_ratio_of) (defBody s_ratio_of) (defScope s_ratio_of) .none kV8 dc8 pm8 an8 cd8 ct8), sl8⟩)
    (c8 : PySem.W.codeIn K cd8 "ratio_of" = true)
    (k8 : PySem.W.keepIn K (.ref f8) = true)
    (a9 : PySem.W.nsIn K mainGlobals "whole_parts" = some (some (.ref f9)))
    (l9 : K.lookup f9 = some ⟨oc9, od9, .func (PySem.W.fnOf "whole_parts" "whole_parts" (defArgs s_whole_parts) (defBody s_whole_parts) (defScope s_whole_parts) .none kV9 dc9 pm9 an9 cd9 ct9), sl9⟩)
    (c9 : PySem.W.codeIn K cd9 "whole_parts" = true)
    (k9 : PySem.W.keepIn K (.ref f9) = true)
    (a10 : PySem.W.nsIn K mainGlobals "_difference" = some (some (.ref f10)))
    (l10 : K.lookup f10 = some ⟨oc10, od10, .func (PySem.W.fnOf "_difference" "_difference" (defArgs s__difference) (defBody s__difference) (defScope s__difference) .none kV10 dc10 pm10 an10 cd10 ct10), sl10⟩)
    (c10 : PySem.W.codeIn K cd10 "_difference" = true)
    (k10 : PySem.W.keepIn K (.ref f10) = true)
    (a11 : PySem.W.nsIn K mainGlobals "_gap" = some (some (.ref f11)))
    (l11 : K.lookup f11 = some ⟨oc11, od11, .func (PySem.W.fnOf "_gap" "_gap" (defArgs s__gap) (defBody s__gap) (defScope s__gap) .none kV11 dc11 pm11 an11 cd11 ct11), sl11⟩)
    (c11 : PySem.W.codeIn K cd11 "_gap" = true)
    (k11 : PySem.W.keepIn K (.ref f11) = true)
    (a12 : PySem.W.nsIn K mainGlobals "moved_row" = some (some (.ref f12)))
    (l12 : K.lookup f12 = some ⟨oc12, od12, .func (PySem.W.fnOf "moved_row" "moved_row" (defArgs s_moved_row) (defBody s_moved_row) (defScope s_moved_row) .none kV12 dc12 pm12 an12 cd12 ct12), sl12⟩)
    (c12 : PySem.W.codeIn K cd12 "moved_row" = true)
    (k12 : PySem.W.keepIn K (.ref f12) = true)
    (a13 : PySem.W.nsIn K mainGlobals "row_numbers" = some (some (.ref f13)))
    (l13 : K.lookup f13 = some ⟨oc13, od13, .func (PySem.W.fnOf "row_numbers" "row_numbers" (defArgs s_row_numbers) (defBody s_row_numbers) (defScope s_row_numbers) .none kV13 dc13 pm13 an13 cd13 ct13), sl13⟩)
    (c13 : PySem.W.codeIn K cd13 "row_numbers" = true)
    (k13 : PySem.W.keepIn K (.ref f13) = true)
    (a14 : PySem.W.nsIn K mainGlobals "centred" = some (some (.ref f14)))
    (l14 : K.lookup f14 = some ⟨oc14, od14, .func (PySem.W.fnOf "centred" "centred" (defArgs s_centred) (defBody s_centred) (defScope s_centred) .none kV14 dc14 pm14 an14 cd14 ct14), sl14⟩)
    (c14 : PySem.W.codeIn K cd14 "centred" = true)
    (k14 : PySem.W.keepIn K (.ref f14) = true)
    (a15 : PySem.W.nsIn K mainGlobals "differences" = some (some (.ref f15)))
    (l15 : K.lookup f15 = some ⟨oc15, od15, .func (PySem.W.fnOf "differences" "differences" (defArgs s_differences) (defBody s_differences) (defScope s_differences) .none kV15 dc15 pm15 an15 cd15 ct15), sl15⟩)
    (c15 : PySem.W.codeIn K cd15 "differences" = true)
    (k15 : PySem.W.keepIn K (.ref f15) = true)
    (a16 : PySem.W.nsIn K mainGlobals "_law_cell" = some (some (.ref f16)))
    (l16 : K.lookup f16 = some ⟨oc16, od16, .func (PySem.W.fnOf "_law_cell" "_law_cell" (defArgs s__law_cell) (defBody s__law_cell) (defScope s__law_cell) .none kV16 dc16 pm16 an16 cd16 ct16), sl16⟩)
    (c16 : PySem.W.codeIn K cd16 "_law_cell" = true)
    (k16 : PySem.W.keepIn K (.ref f16) = true)
    (a17 : PySem.W.nsIn K mainGlobals "_law_draw" = some (some (.ref f17)))
    (l17 : K.lookup f17 = some ⟨oc17, od17, .func (PySem.W.fnOf "_law_draw" "_law_draw" (defArgs s__law_draw) (defBody s__law_draw) (defScope s__law_draw) .none kV17 dc17 pm17 an17 cd17 ct17), sl17⟩)
    (c17 : PySem.W.codeIn K cd17 "_law_draw" = true)
    (k17 : PySem.W.keepIn K (.ref f17) = true)
    (a18 : PySem.W.nsIn K mainGlobals "_law_row" = some (some (.ref f18)))
    (l18 : K.lookup f18 = some ⟨oc18, od18, .func (PySem.W.fnOf "_law_row" "_law_row" (defArgs s__law_row) (defBody s__law_row) (defScope s__law_row) .none kV18 dc18 pm18 an18 cd18 ct18), sl18⟩)
    (c18 : PySem.W.codeIn K cd18 "_law_row" = true)
    (k18 : PySem.W.keepIn K (.ref f18) = true)
    (a19 : PySem.W.nsIn K mainGlobals "_law_ratios" = some (some (.ref f19)))
    (l19 : K.lookup f19 = some ⟨oc19, od19, .func (PySem.W.fnOf "_law_ratios" "_law_ratios" (defArgs s__law_ratios) (defBody s__law_ratios) (defScope s__law_ratios) .none kV19 dc19 pm19 an19 cd19 ct19), sl19⟩)
    (c19 : PySem.W.codeIn K cd19 "_law_ratios" = true)
    (k19 : PySem.W.keepIn K (.ref f19) = true)
    (a20 : PySem.W.nsIn K mainGlobals "_law_changed" = some (some (.ref f20)))
    (l20 : K.lookup f20 = some ⟨oc20, od20, .func (PySem.W.fnOf "_law_changed" "_law_changed" (defArgs s__law_changed) (defBody s__law_changed) (defScope s__law_changed) .none kV20 dc20 pm20 an20 cd20 ct20), sl20⟩)
    (c20 : PySem.W.codeIn K cd20 "_law_changed" = true)
    (k20 : PySem.W.keepIn K (.ref f20) = true)
    (a21 : PySem.W.nsIn K mainGlobals "_law_integer" = some (some (.ref f21)))
    (l21 : K.lookup f21 = some ⟨oc21, od21, .func (PySem.W.fnOf "_law_integer" "_law_integer" (defArgs s__law_integer) (defBody s__law_integer) (defScope s__law_integer) .none kV21 dc21 pm21 an21 cd21 ct21), sl21⟩)
    (c21 : PySem.W.codeIn K cd21 "_law_integer" = true)
    (k21 : PySem.W.keepIn K (.ref f21) = true)
    (a22 : PySem.W.nsIn K mainGlobals "_law_pair" = some (some (.ref f22)))
    (l22 : K.lookup f22 = some ⟨oc22, od22, .func (PySem.W.fnOf "_law_pair" "_law_pair" (defArgs s__law_pair) (defBody s__law_pair) (defScope s__law_pair) .none kV22 dc22 pm22 an22 cd22 ct22), sl22⟩)
    (c22 : PySem.W.codeIn K cd22 "_law_pair" = true)
    (k22 : PySem.W.keepIn K (.ref f22) = true)
    (a23 : PySem.W.nsIn K mainGlobals "_law_same" = some (some (.ref f23)))
    (l23 : K.lookup f23 = some ⟨oc23, od23, .func (PySem.W.fnOf "_law_same" "_law_same" (defArgs s__law_same) (defBody s__law_same) (defScope s__law_same) .none kV23 dc23 pm23 an23 cd23 ct23), sl23⟩)
    (c23 : PySem.W.codeIn K cd23 "_law_same" = true)
    (k23 : PySem.W.keepIn K (.ref f23) = true)
    (a24 : PySem.W.nsIn K mainGlobals "_law_same_all" = some (some (.ref f24)))
    (l24 : K.lookup f24 = some ⟨oc24, od24, .func (PySem.W.fnOf "_law_same_all" "_law_same_all" (defArgs s__law_same_all) (defBody s__law_same_all) (defScope s__law_same_all) .none kV24 dc24 pm24 an24 cd24 ct24), sl24⟩)
    (c24 : PySem.W.codeIn K cd24 "_law_same_all" = true)
    (k24 : PySem.W.keepIn K (.ref f24) = true)
    (a25 : PySem.W.nsIn K mainGlobals "_law_plus" = some (some (.ref f25)))
    (l25 : K.lookup f25 = some ⟨oc25, od25, .func (PySem.W.fnOf "_law_plus" "_law_plus" (defArgs s__law_plus) (defBody s__law_plus) (defScope s__law_plus) .none kV25 dc25 pm25 an25 cd25 ct25), sl25⟩)
    (c25 : PySem.W.codeIn K cd25 "_law_plus" = true)
    (k25 : PySem.W.keepIn K (.ref f25) = true)
    (a26 : PySem.W.nsIn K mainGlobals "_law_table" = some (some (.ref f26)))
    (l26 : K.lookup f26 = some ⟨oc26, od26, .func (PySem.W.fnOf "_law_table" "_law_table" (defArgs s__law_table) (defBody s__law_table) (defScope s__law_table) .none kV26 dc26 pm26 an26 cd26 ct26), sl26⟩)
    (c26 : PySem.W.codeIn K cd26 "_law_table" = true)
    (k26 : PySem.W.keepIn K (.ref f26) = true)
    (a27 : PySem.W.nsIn K mainGlobals "_law_refused" = some (some (.ref f27)))
    (l27 : K.lookup f27 = some ⟨oc27, od27, .func (PySem.W.fnOf "_law_refused" "_law_refused" (defArgs s__law_refused) (defBody s__law_refused) (defScope s__law_refused) .none kV27 dc27 pm27 an27 cd27 ct27), sl27⟩)
    (c27 : PySem.W.codeIn K cd27 "_law_refused" = true)
    (k27 : PySem.W.keepIn K (.ref f27) = true)
    (a28 : PySem.W.nsIn K mainGlobals "law" = some (some (.ref f28)))
    (l28 : K.lookup f28 = some ⟨oc28, od28, .func (PySem.W.fnOf "law" "law" (defArgs s_law) (defBody s_law) (defScope s_law) .none kV28 dc28 pm28 an28 cd28 ct28), sl28⟩)
    (c28 : PySem.W.codeIn K cd28 "law" = true)
    (k28 : PySem.W.keepIn K (.ref f28) = true)
    (pg_Ratio : PySem.W.plainGet K C_Ratio Str.empty = true)
    (hd_Ratio : PySem.W.hasDictIn K C_Ratio = true)
    (po_Ratio : PySem.W.plainOver K C_Ratio = true)
    (sa_Ratio : PySem.W.findIn K (.ref C_Ratio) "__setattr__" = some (some (.builtin "object.__setattr__")))
    (mk_Ratio : PySem.W.makesIn K C_Ratio = true)
    (kc_Ratio : PySem.W.keepIn K (.ref C_Ratio) = true)
    (sf_Ratio : PySem.W.selfFirst K C_Ratio = true)
    (s1_Ratio : PySem.W.subIn K (.ref C_Ratio) (.type "int") = some false)
    (s2_Ratio : PySem.W.subIn K (.type "int") (.ref C_Ratio) = some false)
    (cls_Ratio : PySem.W.findIn K (.ref C_Ratio) "__class__" = some (some (.builtin "object.__class__")))
    (gsd_Ratio : PySem.W.specialIn K (.builtin "object.__class__") "__get__" = some (some (.builtin "getset_descriptor.__get__")))
    (tks_Ratio : PySem.W.takesIn K (.builtin "object.__class__") = some true)
    (mro_Ratio : PySem.W.mroIn K C_Ratio (.type "object") = some true)
    (ki_Ratio : PySem.W.kitOne K (.ref C_Ratio) (.type "int") = some false)
    (ik_Ratio : PySem.W.kitOne K (.type "int") (.ref C_Ratio) = some false)
    (n_top_Ratio : PySem.W.findIn K (.ref C_Ratio) "top" = some none)
    (n_bottom_Ratio : PySem.W.findIn K (.ref C_Ratio) "bottom" = some none)
    (sa_NoMean : PySem.W.findIn K (.ref C_NoMean) "__setattr__" = some (some (.builtin "object.__setattr__")))
    (ga_NoMean : PySem.W.findIn K (.ref C_NoMean) "__getattribute__" = some (some (.builtin "BaseException.__getattribute__")))
    (gg_NoMean : PySem.W.findIn K (.ref C_NoMean) "__getattr__" = some none)
    (cls_NoMean : PySem.W.findIn K (.ref C_NoMean) "__class__" = some (some (.builtin "object.__class__")))
    (kC_NoMean : PySem.W.keepIn K (.ref C_NoMean) = true)
    (xn_NoMean : PySem.W.excIn K C_NoMean [.type "ValueError", .type "Exception", .type "BaseException", .type "object"] "ValueError.__new__" = true)
    (gsd_all : PySem.W.specialIn K (.builtin "object.__class__") "__get__" = some (some (.builtin "getset_descriptor.__get__")))
    (tks_all : PySem.W.takesIn K (.builtin "object.__class__") = some true)
    (z_isinstance : PySem.W.nsIn K mainGlobals "isinstance" = some none)
    (z_int : PySem.W.nsIn K mainGlobals "int" = some none)
    (z_bool : PySem.W.nsIn K mainGlobals "bool" = some none)
    (z_abs : PySem.W.nsIn K mainGlobals "abs" = some none)
    (z_len : PySem.W.nsIn K mainGlobals "len" = some none)
    (z_max : PySem.W.nsIn K mainGlobals "max" = some none)
    (z_range : PySem.W.nsIn K mainGlobals "range" = some none)
    (z_list : PySem.W.nsIn K mainGlobals "list" = some none)
    (z_tuple : PySem.W.nsIn K mainGlobals "tuple" = some none)
    (z_sum : PySem.W.nsIn K mainGlobals "sum" = some none)
    (gc_MOST_NUMBERS : PySem.W.nsIn K mainGlobals "MOST_NUMBERS" = some (some (.int 13 tok_MOST_NUMBERS)))
    (j_gcd : PySem.W.nsIn K mainGlobals "gcd" = some (some (.builtin "math.gcd")))
    (j_lcm : PySem.W.nsIn K mainGlobals "lcm" = some (some (.builtin "math.lcm")))
    : ∃ fd : FuncData, (∀ (s : Shared) (v : Value), BindsTo s fd ⟨[v], []⟩ [("_law_script", v)]) ∧ ∀ base : Heap, K.In base → base.Ns mainGlobals mg → FnOk l.prog w K mg base CX0 10 fa fd ["_law_script"] (sp_law K) := by
  have e := hfa.symm.trans (PySem.W.mg_of X G a28)
  cases e
  have F0 : FunD K "__init__" "Ratio.__init__" (defArgs s_Ratio___init__) (defBody s_Ratio___init__) (defScope s_Ratio___init__) [.int 1] [] f0 _ := ⟨⟨_, _, _, _, _, _, _, _, _, _, rfl, l0, c0, .inr ⟨by simp, _, _, [.int 1 tt0_0], _, rfl, t0, rfl, .cons ⟨_, rfl⟩ (.nil)⟩, .inl rfl⟩, k0⟩
  have F1 := fun_mk (st := s_Ratio___sub__) l1 c1 k1
  have F2 := fun_mk (st := s_Ratio___rsub__) l2 c2 k2
  have F3 := fun_mk (st := s_Ratio___neg__) l3 c3 k3
  have F4 := fun_mk (st := s_Ratio___eq__) l4 c4 k4
  have F5 := fun_mk (st := s_Ratio_over) l5 c5 k5
  have F6 := fun_mk (st := s_is_whole) l6 c6 k6
  have F7 := fun_mk (st := s_is_number) l7 c7 k7
  have F8 := fun_mk (st := s_ratio_of) l8 c8 k8
  have F9 := fun_mk (st := s_whole_parts) l9 c9 k9
  have F10 := fun_mk (st := s__difference) l10 c10 k10
  have F11 := fun_mk (st := s__gap) l11 c11 k11
  have F12 := fun_mk (st := s_moved_row) l12 c12 k12
  have F13 := fun_mk (st := s_row_numbers) l13 c13 k13
  have F14 := fun_mk (st := s_centred) l14 c14 k14
  have F15 := fun_mk (st := s_differences) l15 c15 k15
  have F16 := fun_mk (st := s__law_cell) l16 c16 k16
  have F17 := fun_mk (st := s__law_draw) l17 c17 k17
  have F18 := fun_mk (st := s__law_row) l18 c18 k18
  have F19 := fun_mk (st := s__law_ratios) l19 c19 k19
  have F20 := fun_mk (st := s__law_changed) l20 c20 k20
  have F21 := fun_mk (st := s__law_integer) l21 c21 k21
  have F22 := fun_mk (st := s__law_pair) l22 c22 k22
  have F23 := fun_mk (st := s__law_same) l23 c23 k23
  have F24 := fun_mk (st := s__law_same_all) l24 c24 k24
  have F25 := fun_mk (st := s__law_plus) l25 c25 k25
  have F26 := fun_mk (st := s__law_table) l26 c26 k26
  have F27 := fun_mk (st := s__law_refused) l27 c27 k27
  have F28 := fun_mk (st := s_law) l28 c28 k28
  let A : Ad := { Ratio := C_Ratio, NoMean := C_NoMean, MeansError := C_MeansError, f_Ratio___init__ := f0, f_Ratio___sub__ := f1, f_Ratio___rsub__ := f2, f_Ratio___neg__ := f3, f_Ratio___eq__ := f4, f_Ratio_over := f5, f_is_whole := f6, f_is_number := f7, f_ratio_of := f8, f_whole_parts := f9, f__difference := f10, f__gap := f11, f_moved_row := f12, f_row_numbers := f13, f_centred := f14, f_differences := f15, f__law_cell := f16, f__law_draw := f17, f__law_row := f18, f__law_ratios := f19, f__law_changed := f20, f__law_integer := f21, f__law_pair := f22, f__law_same := f23, f__law_same_all := f24, f__law_plus := f25, f__law_table := f26, f__law_refused := f27, f_law := fa }
  let D : Fd := { f_Ratio___init__ := PySem.W.fnOf "__init__" "Ratio.__init__" (defArgs s_Ratio___init__) (defBody s_Ratio___init__) (defScope s_Ratio___init__) (.ref T0) kV0 dc0 pm0 an0 cd0 ct0, f_Ratio___sub__ := PySem.W.fnOf "__sub__" "Ratio.__sub__" (defArgs s_Ratio___sub__) (defBody s_Ratio___sub__) (defScope s_Ratio___sub__) .none kV1 dc1 pm1 an1 cd1 ct1, f_Ratio___rsub__ := PySem.W.fnOf "__rsub__" "Ratio.__rsub__" (defArgs s_Ratio___rsub__) (defBody s_Ratio___rsub__) (defScope s_Ratio___rsub__) .none kV2 dc2 pm2 an2 cd2 ct2, f_Ratio___neg__ := PySem.W.fnOf "__neg__" "Ratio.__neg__" (defArgs s_Ratio___neg__) (defBody s_Ratio___neg__) (defScope s_Ratio___neg__) .none kV3 dc3 pm3 an3 cd3 ct3, f_Ratio___eq__ := PySem.W.fnOf "__eq__" "Ratio.__eq__" (defArgs s_Ratio___eq__) (defBody s_Ratio___eq__) (defScope s_Ratio___eq__) .none kV4 dc4 pm4 an4 cd4 ct4, f_Ratio_over := PySem.W.fnOf "over" "Ratio.over" (defArgs s_Ratio_over) (defBody s_Ratio_over) (defScope s_Ratio_over) .none kV5 dc5 pm5 an5 cd5 ct5, f_is_whole := PySem.W.fnOf "is_whole" "is_whole" (defArgs s_is_whole) (defBody s_is_whole) (defScope s_is_whole) .none kV6 dc6 pm6 an6 cd6 ct6, f_is_number := PySem.W.fnOf "is_number" "is_number" (defArgs s_is_number) (defBody s_is_number) (defScope s_is_number) .none kV7 dc7 pm7 an7 cd7 ct7, f_ratio_of := PySem.W.fnOf "ratio_of" "ratio_of" (defArgs s_ratio_of) (defBody s_ratio_of) (defScope s_ratio_of) .none kV8 dc8 pm8 an8 cd8 ct8, f_whole_parts := PySem.W.fnOf "whole_parts" "whole_parts" (defArgs s_whole_parts) (defBody s_whole_parts) (defScope s_whole_parts) .none kV9 dc9 pm9 an9 cd9 ct9, f__difference := PySem.W.fnOf "_difference" "_difference" (defArgs s__difference) (defBody s__difference) (defScope s__difference) .none kV10 dc10 pm10 an10 cd10 ct10, f__gap := PySem.W.fnOf "_gap" "_gap" (defArgs s__gap) (defBody s__gap) (defScope s__gap) .none kV11 dc11 pm11 an11 cd11 ct11, f_moved_row := PySem.W.fnOf "moved_row" "moved_row" (defArgs s_moved_row) (defBody s_moved_row) (defScope s_moved_row) .none kV12 dc12 pm12 an12 cd12 ct12, f_row_numbers := PySem.W.fnOf "row_numbers" "row_numbers" (defArgs s_row_numbers) (defBody s_row_numbers) (defScope s_row_numbers) .none kV13 dc13 pm13 an13 cd13 ct13, f_centred := PySem.W.fnOf "centred" "centred" (defArgs s_centred) (defBody s_centred) (defScope s_centred) .none kV14 dc14 pm14 an14 cd14 ct14, f_differences := PySem.W.fnOf "differences" "differences" (defArgs s_differences) (defBody s_differences) (defScope s_differences) .none kV15 dc15 pm15 an15 cd15 ct15, f__law_cell := PySem.W.fnOf "_law_cell" "_law_cell" (defArgs s__law_cell) (defBody s__law_cell) (defScope s__law_cell) .none kV16 dc16 pm16 an16 cd16 ct16, f__law_draw := PySem.W.fnOf "_law_draw" "_law_draw" (defArgs s__law_draw) (defBody s__law_draw) (defScope s__law_draw) .none kV17 dc17 pm17 an17 cd17 ct17, f__law_row := PySem.W.fnOf "_law_row" "_law_row" (defArgs s__law_row) (defBody s__law_row) (defScope s__law_row) .none kV18 dc18 pm18 an18 cd18 ct18, f__law_ratios := PySem.W.fnOf "_law_ratios" "_law_ratios" (defArgs s__law_ratios) (defBody s__law_ratios) (defScope s__law_ratios) .none kV19 dc19 pm19 an19 cd19 ct19, f__law_changed := PySem.W.fnOf "_law_changed" "_law_changed" (defArgs s__law_changed) (defBody s__law_changed) (defScope s__law_changed) .none kV20 dc20 pm20 an20 cd20 ct20, f__law_integer := PySem.W.fnOf "_law_integer" "_law_integer" (defArgs s__law_integer) (defBody s__law_integer) (defScope s__law_integer) .none kV21 dc21 pm21 an21 cd21 ct21, f__law_pair := PySem.W.fnOf "_law_pair" "_law_pair" (defArgs s__law_pair) (defBody s__law_pair) (defScope s__law_pair) .none kV22 dc22 pm22 an22 cd22 ct22, f__law_same := PySem.W.fnOf "_law_same" "_law_same" (defArgs s__law_same) (defBody s__law_same) (defScope s__law_same) .none kV23 dc23 pm23 an23 cd23 ct23, f__law_same_all := PySem.W.fnOf "_law_same_all" "_law_same_all" (defArgs s__law_same_all) (defBody s__law_same_all) (defScope s__law_same_all) .none kV24 dc24 pm24 an24 cd24 ct24, f__law_plus := PySem.W.fnOf "_law_plus" "_law_plus" (defArgs s__law_plus) (defBody s__law_plus) (defScope s__law_plus) .none kV25 dc25 pm25 an25 cd25 ct25, f__law_table := PySem.W.fnOf "_law_table" "_law_table" (defArgs s__law_table) (defBody s__law_table) (defScope s__law_table) .none kV26 dc26 pm26 an26 cd26 ct26, f__law_refused := PySem.W.fnOf "_law_refused" "_law_refused" (defArgs s__law_refused) (defBody s__law_refused) (defScope s__law_refused) .none kV27 dc27 pm27 an27 cd27 ct27, f_law := PySem.W.fnOf "law" "law" (defArgs s_law) (defBody s_law) (defScope s_law) .none kV28 dc28 pm28 an28 cd28 ct28 }
  have T : Txt K mg A D := {
    g_Ratio := PySem.W.mg_of X G g_Ratio,
    kp_Ratio := kc_Ratio,
    M_Ratio := ⟨mk_Ratio, a0, i0, kc_Ratio⟩,
    k_Ratio := ⟨⟨pg_Ratio, hd_Ratio, po_Ratio, sa_Ratio⟩, ⟨sf_Ratio, s1_Ratio, s2_Ratio⟩, cls_Ratio, gsd_Ratio, tks_Ratio, mro_Ratio, ki_Ratio, ik_Ratio, n_top_Ratio, n_bottom_Ratio⟩,
    g_MeansError := PySem.W.mg_of X G g_MeansError,
    g_NoMean := PySem.W.mg_of X G g_NoMean,
    e_NoMean := ⟨⟨_, _, _, _, _, _, _, _, _, _, _, _, _, xL_NoMean⟩, ⟨_, _, _, _, _, _, _, _, _, _, _, _, _, xL_MeansError⟩, sa_NoMean, ga_NoMean, gg_NoMean, cls_NoMean, gsd_all, tks_all, kC_NoMean⟩,
    xn_NoMean := xn_NoMean,
    F_Ratio___init__ := F0,
    b_Ratio___init__ := by obtain ⟨ds, r, b⟩ := F0.binds1 (ps := ["self", "top", "bottom"]) 3 1 (by simp) rfl (fun _ _ _ _ _ _ _ us its h1 h2 => match us, h1, its, h2 with | [_, _, _], _, [_], _ => ⟨_, rfl, by first | rfl | with_unfolding_all rfl | kernel_rfl⟩); cases r; exact b,
    b1_Ratio___init__ := F0.binds1 (ps := ["self", "top", "bottom"]) 2 0 (by simp) rfl (fun _ _ _ _ _ _ _ us its h1 h2 => match us, h1, its, h2 with | [_, _], _, [_], _ => ⟨_, rfl, by first | rfl | with_unfolding_all rfl | kernel_rfl⟩),
    m_Ratio___init__ := ⟨a0, i0, k0⟩,
    F_Ratio___sub__ := F1,
    b_Ratio___sub__ := F1.binds fun _ _ _ _ _ _ us hl => match us, hl with | [_, _], _ => rfl,
    m_Ratio___sub__ := ⟨a1, i1, k1⟩,
    F_Ratio___rsub__ := F2,
    b_Ratio___rsub__ := F2.binds fun _ _ _ _ _ _ us hl => match us, hl with | [_, _], _ => rfl,
    m_Ratio___rsub__ := ⟨a2, i2, k2⟩,
    F_Ratio___neg__ := F3,
    b_Ratio___neg__ := F3.binds fun _ _ _ _ _ _ us hl => match us, hl with | [_], _ => rfl,
    m_Ratio___neg__ := ⟨a3, i3, k3⟩,
    F_Ratio___eq__ := F4,
    b_Ratio___eq__ := F4.binds fun _ _ _ _ _ _ us hl => match us, hl with | [_, _], _ => rfl,
    m_Ratio___eq__ := ⟨a4, i4, k4⟩,
    F_Ratio_over := F5,
    b_Ratio_over := F5.binds fun _ _ _ _ _ _ us hl => match us, hl with | [_, _], _ => rfl,
    m_Ratio_over := ⟨a5, i5, k5⟩,
    F_is_whole := F6,
    b_is_whole := F6.binds fun _ _ _ _ _ _ us hl => match us, hl with | [_], _ => rfl,
    g_is_whole := PySem.W.mg_of X G a6,
    F_is_number := F7,
    b_is_number := F7.binds fun _ _ _ _ _ _ us hl => match us, hl with | [_], _ => rfl,
    g_is_number := PySem.W.mg_of X G a7,
    F_ratio_of := F8,
    b_ratio_of := F8.binds fun _ _ _ _ _ _ us hl => match us, hl with | [_], _ => rfl,
    g_ratio_of := PySem.W.mg_of X G a8,
    F_whole_parts := F9,
    b_whole_parts := F9.binds fun _ _ _ _ _ _ us hl => match us, hl with | [_], _ => rfl,
    g_whole_parts := PySem.W.mg_of X G a9,
    F__difference := F10,
    b__difference := F10.binds fun _ _ _ _ _ _ us hl => match us, hl with | [_, _], _ => rfl,
    g__difference := PySem.W.mg_of X G a10,
    F__gap := F11,
    b__gap := F11.binds fun _ _ _ _ _ _ us hl => match us, hl with | [_, _], _ => rfl,
    g__gap := PySem.W.mg_of X G a11,
    F_moved_row := F12,
    b_moved_row := F12.binds fun _ _ _ _ _ _ us hl => match us, hl with | [_, _], _ => rfl,
    g_moved_row := PySem.W.mg_of X G a12,
    F_row_numbers := F13,
    b_row_numbers := F13.binds fun _ _ _ _ _ _ us hl => match us, hl with | [_], _ => rfl,
    g_row_numbers := PySem.W.mg_of X G a13,
    F_centred := F14,
    b_centred := F14.binds fun _ _ _ _ _ _ us hl => match us, hl with | [_], _ => rfl,
    g_centred := PySem.W.mg_of X G a14,
    F_differences := F15,
    b_differences := F15.binds fun _ _ _ _ _ _ us hl => match us, hl with | [_], _ => rfl,
    g_differences := PySem.W.mg_of X G a15,
    F__law_cell := F16,
    b__law_cell := F16.binds fun _ _ _ _ _ _ us hl => match us, hl with | [_, _], _ => rfl,
    g__law_cell := PySem.W.mg_of X G a16,
    F__law_draw := F17,
    b__law_draw := F17.binds fun _ _ _ _ _ _ us hl => match us, hl with | [_, _, _], _ => rfl,
    g__law_draw := PySem.W.mg_of X G a17,
    F__law_row := F18,
    b__law_row := F18.binds fun _ _ _ _ _ _ us hl => match us, hl with | [_, _, _, _, _], _ => rfl,
    g__law_row := PySem.W.mg_of X G a18,
    F__law_ratios := F19,
    b__law_ratios := F19.binds fun _ _ _ _ _ _ us hl => match us, hl with | [_], _ => rfl,
    g__law_ratios := PySem.W.mg_of X G a19,
    F__law_changed := F20,
    b__law_changed := F20.binds fun _ _ _ _ _ _ us hl => match us, hl with | [_, _], _ => rfl,
    g__law_changed := PySem.W.mg_of X G a20,
    F__law_integer := F21,
    b__law_integer := F21.binds fun _ _ _ _ _ _ us hl => match us, hl with | [_], _ => rfl,
    g__law_integer := PySem.W.mg_of X G a21,
    F__law_pair := F22,
    b__law_pair := F22.binds fun _ _ _ _ _ _ us hl => match us, hl with | [_], _ => rfl,
    g__law_pair := PySem.W.mg_of X G a22,
    F__law_same := F23,
    b__law_same := F23.binds fun _ _ _ _ _ _ us hl => match us, hl with | [_, _], _ => rfl,
    g__law_same := PySem.W.mg_of X G a23,
    F__law_same_all := F24,
    b__law_same_all := F24.binds fun _ _ _ _ _ _ us hl => match us, hl with | [_, _], _ => rfl,
    g__law_same_all := PySem.W.mg_of X G a24,
    F__law_plus := F25,
    b__law_plus := F25.binds fun _ _ _ _ _ _ us hl => match us, hl with | [_, _], _ => rfl,
    g__law_plus := PySem.W.mg_of X G a25,
    F__law_table := F26,
    b__law_table := F26.binds fun _ _ _ _ _ _ us hl => match us, hl with | [_], _ => rfl,
    g__law_table := PySem.W.mg_of X G a26,
    F__law_refused := F27,
    b__law_refused := F27.binds fun _ _ _ _ _ _ us hl => match us, hl with | [_], _ => rfl,
    g__law_refused := PySem.W.mg_of X G a27,
    F_law := F28,
    b_law := F28.binds fun _ _ _ _ _ _ us hl => match us, hl with | [_], _ => rfl,
    g_law := PySem.W.mg_of X G a28,
    z_isinstance := PySem.W.mg_none_of X G z_isinstance,
    z_int := PySem.W.mg_none_of X G z_int,
    z_bool := PySem.W.mg_none_of X G z_bool,
    z_abs := PySem.W.mg_none_of X G z_abs,
    z_len := PySem.W.mg_none_of X G z_len,
    z_max := PySem.W.mg_none_of X G z_max,
    z_range := PySem.W.mg_none_of X G z_range,
    z_list := PySem.W.mg_none_of X G z_list,
    z_tuple := PySem.W.mg_none_of X G z_tuple,
    z_sum := PySem.W.mg_none_of X G z_sum,
    g_MOST_NUMBERS := ⟨_, PySem.W.mg_of X G gc_MOST_NUMBERS⟩,
    g_gcd := PySem.W.mg_of X G j_gcd,
    g_lcm := PySem.W.mg_of X G j_lcm }
  exact ⟨PySem.W.fnOf "law" "law" (defArgs s_law) (defBody s_law) (defScope s_law) .none kV28 dc28 pm28 an28 cd28 ct28, fun s v => .of_eq rfl, fun base _ _ => ok_law (A := A) (D := D) T⟩
end Mo
open PySem PySem.W PyProof.Rows
set_option maxRecDepth 100000 in
set_option maxHeartbeats 0 in
theorem PySem.Challenge.cw_momentrows_k62_centred_rows_and_differen_holds : PySem.Challenge.rw_momentrows_k62_centred_rows_and_differen.Holds := by
  w_on; o_law; k_head; (case hw => w_witness2)
  k_fill
  refine L2.walk_of (l := PySem.Challenge.rw_momentrows_k62_centred_rows_and_differen) (n := 63) (k := 10) (x := "_law_script") (CX := fun _ => L2.CX0) (sp := fun w => Mo.sp_law _) rfl (by decide) rfl ⟨rfl, by decide, by decide⟩ (fun w h Y => PySem.W.kIn_of Y) ?F (fun _ _ a ns hl _ hS => ⟨a, ns, rfl, hS, hl, fun _ => rfl⟩) (fun _ _ _ _ _ h => h)
  case F =>
    intro w mg fa h KX G hmg
    refine' Mo.all_mk KX G hmg ?g_Ratio ?g_MeansError ?g_NoMean ?xL_MeansError ?xL_NoMean ?a0 ?i0 ?l0 ?c0 ?k0 ?t0 ?a1 ?i1 ?l1 ?c1 ?k1 ?a2 ?i2 ?l2 ?c2 ?k2 ?a3 ?i3 ?l3 ?c3 ?k3 ?a4 ?i4 ?l4 ?c4 ?k4 ?a5 ?i5 ?l5 ?c5 ?k5 ?a6 ?l6 ?c6 ?k6 ?a7 ?l7 ?c7 ?k7 ?a8 ?l8 ?c8 ?k8 ?a9 ?l9 ?c9 ?k9 ?a10 ?l10 ?c10 ?k10 ?a11 ?l11 ?c11 ?k11 ?a12 ?l12 ?c12 ?k12 ?a13 ?l13 ?c13 ?k13 ?a14 ?l14 ?c14 ?k14 ?a15 ?l15 ?c15 ?k15 ?a16 ?l16 ?c16 ?k16 ?a17 ?l17 ?c17 ?k17 ?a18 ?l18 ?c18 ?k18 ?a19 ?l19 ?c19 ?k19 ?a20 ?l20 ?c20 ?k20 ?a21 ?l21 ?c21 ?k21 ?a22 ?l22 ?c22 ?k22 ?a23 ?l23 ?c23 ?k23 ?a24 ?l24 ?c24 ?k24 ?a25 ?l25 ?c25 ?k25 ?a26 ?l26 ?c26 ?k26 ?a27 ?l27 ?c27 ?k27 ?a28 ?l28 ?c28 ?k28 ?pg_Ratio ?hd_Ratio ?po_Ratio ?sa_Ratio ?mk_Ratio ?kc_Ratio ?sf_Ratio ?s1_Ratio ?s2_Ratio ?cls_Ratio ?gsd_Ratio ?tks_Ratio ?mro_Ratio ?ki_Ratio ?ik_Ratio ?n_top_Ratio ?n_bottom_Ratio ?sa_NoMean ?ga_NoMean ?gg_NoMean ?cls_NoMean ?kC_NoMean ?xn_NoMean ?gsd_all ?tks_all ?z_isinstance ?z_int ?z_bool ?z_abs ?z_len ?z_max ?z_range ?z_list ?z_tuple ?z_sum ?gc_MOST_NUMBERS ?j_gcd ?j_lcm
    (case g_Ratio => k_is)
    (case g_MeansError => k_is)
    (case g_NoMean => k_is)
    (case xL_MeansError => k_is)
    (case xL_NoMean => k_is)
    (case a0 => k_is)
    (case i0 => k_is)
    (case l0 => k_is)
    (case c0 => k_is)
    (case k0 => k_is)
    (case t0 => k_is)
    (case a1 => k_is)
    (case i1 => k_is)
    (case l1 => k_is)
    (case c1 => k_is)
    (case k1 => k_is)
    (case a2 => k_is)
    (case i2 => k_is)
    (case l2 => k_is)
    (case c2 => k_is)
    (case k2 => k_is)
    (case a3 => k_is)
    (case i3 => k_is)
    (case l3 => k_is)
    (case c3 => k_is)
    (case k3 => k_is)
    (case a4 => k_is)
    (case i4 => k_is)
    (case l4 => k_is)
    (case c4 => k_is)
    (case k4 => k_is)
    (case a5 => k_is)
    (case i5 => k_is)
    (case l5 => k_is)
    (case c5 => k_is)
    (case k5 => k_is)
    (case a6 => k_is)
    (case l6 => k_is)
    (case c6 => k_is)
    (case k6 => k_is)
    (case a7 => k_is)
    (case l7 => k_is)
    (case c7 => k_is)
    (case k7 => k_is)
    (case a8 => k_is)
    (case l8 => k_is)
    (case c8 => k_is)
    (case k8 => k_is)
    (case a9 => k_is)
    (case l9 => k_is)
    (case c9 => k_is)
    (case k9 => k_is)
    (case a10 => k_is)
    (case l10 => k_is)
    (case c10 => k_is)
    (case k10 => k_is)
    (case a11 => k_is)
    (case l11 => k_is)
    (case c11 => k_is)
    (case k11 => k_is)
    (case a12 => k_is)
    (case l12 => k_is)
    (case c12 => k_is)
    (case k12 => k_is)
    (case a13 => k_is)
    (case l13 => k_is)
    (case c13 => k_is)
    (case k13 => k_is)
    (case a14 => k_is)
    (case l14 => k_is)
    (case c14 => k_is)
    (case k14 => k_is)
    (case a15 => k_is)
    (case l15 => k_is)
    (case c15 => k_is)
    (case k15 => k_is)
    (case a16 => k_is)
    (case l16 => k_is)
    (case c16 => k_is)
    (case k16 => k_is)
    (case a17 => k_is)
    (case l17 => k_is)
    (case c17 => k_is)
    (case k17 => k_is)
    (case a18 => k_is)
    (case l18 => k_is)
    (case c18 => k_is)
    (case k18 => k_is)
    (case a19 => k_is)
    (case l19 => k_is)
    (case c19 => k_is)
    (case k19 => k_is)
    (case a20 => k_is)
    (case l20 => k_is)
    (case c20 => k_is)
    (case k20 => k_is)
    (case a21 => k_is)
    (case l21 => k_is)
    (case c21 => k_is)
    (case k21 => k_is)
    (case a22 => k_is)
    (case l22 => k_is)
    (case c22 => k_is)
    (case k22 => k_is)
    (case a23 => k_is)
    (case l23 => k_is)
    (case c23 => k_is)
    (case k23 => k_is)
    (case a24 => k_is)
    (case l24 => k_is)
    (case c24 => k_is)
    (case k24 => k_is)
    (case a25 => k_is)
    (case l25 => k_is)
    (case c25 => k_is)
    (case k25 => k_is)
    (case a26 => k_is)
    (case l26 => k_is)
    (case c26 => k_is)
    (case k26 => k_is)
    (case a27 => k_is)
    (case l27 => k_is)
    (case c27 => k_is)
    (case k27 => k_is)
    (case a28 => k_is)
    (case l28 => k_is)
    (case c28 => k_is)
    (case k28 => k_is)
    (case pg_Ratio => k_is)
    (case hd_Ratio => k_is)
    (case po_Ratio => k_is)
    (case sa_Ratio => k_is)
    (case mk_Ratio => k_is)
    (case kc_Ratio => k_is)
    (case sf_Ratio => k_is)
    (case s1_Ratio => k_is)
    (case s2_Ratio => k_is)
    (case cls_Ratio => k_is)
    (case gsd_Ratio => k_is)
    (case tks_Ratio => k_is)
    (case mro_Ratio => k_is)
    (case ki_Ratio => first | kit_is | k_is)
    (case ik_Ratio => first | kit_is | k_is)
    (case n_top_Ratio => k_is)
    (case n_bottom_Ratio => k_is)
    (case sa_NoMean => k_is)
    (case ga_NoMean => k_is)
    (case gg_NoMean => k_is)
    (case cls_NoMean => k_is)
    (case kC_NoMean => k_is)
    (case xn_NoMean => k_exc)
    (case gsd_all => k_is)
    (case tks_all => k_is)
    (case z_isinstance => k_is)
    (case z_int => k_is)
    (case z_bool => k_is)
    (case z_abs => k_is)
    (case z_len => k_is)
    (case z_max => k_is)
    (case z_range => k_is)
    (case z_list => k_is)
    (case z_tuple => k_is)
    (case z_sum => k_is)
    (case gc_MOST_NUMBERS => k_is)
    (case j_gcd => k_is)
    (case j_lcm => k_is)

