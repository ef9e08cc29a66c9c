import PyProof.Rows.All
import Wide.All
import OpenK.AllK
import Wide.FinOn
import HandS.Comp
import HandS.Words
import HandS.WordsList
import HandS.Exc
import HandS.Wide
import HandS.IsInst
import HandS.OwnEq
import HandS.Gcd
import HandS.Style
import HandS.Defaults
import HandS.Codes
import HandS.WordsExc
import HandS.ExcInit
import HandS.ExcOwn
import HandS.ExcField
import HandS.ExcIs
import HandS.MakeKw
import HandS.MakeKwOnly
import KE.KExcIs
import HandS.ExcValue
import HandS.TryOnly
import PySem.Challenge.RW_momentrows_k69_errors_and_their_fields
set_option Elab.async false
set_option linter.all false
set_option maxRecDepth 100000
set_option maxHeartbeats 4000000
/-! # Operators of own classes, on either side of an int (my own layer over HandS) -/
namespace MoW
open PySem PySem.W
section
variable {prog : Program} {w : World} {A : Around} {E : Value → Shared → Prop} {s : Shared}
theorem int_eq_no (i : Int) (t : Tok) (l C dx : Addr) :
    Meets (Builtin.«int.__eq__» ⟨[.int i t, .ref l], []⟩) (fun _ R s => s.heap.get? l = some (PySem.W.instObj C dx) ∧ R (.ok (.ret .notImplemented)) s) :=
  .of_wp fun prog w A R s h => by obtain ⟨hp, g, d, tk, os⟩ := s; obtain ⟨hl, h⟩ := h; unfold PySem.W.instObj at hl; wp_walk using wpAny_loadPart' hl, wpAny_load hl; exact ⟨_, rfl, h⟩
theorem int_ne_no (i : Int) (t : Tok) (l C dx : Addr) :
    Meets (Builtin.«int.__ne__» ⟨[.int i t, .ref l], []⟩) (fun _ R s => s.heap.get? l = some (PySem.W.instObj C dx) ∧ R (.ok (.ret .notImplemented)) s) :=
  .of_wp fun prog w A R s h => by obtain ⟨hp, g, d, tk, os⟩ := s; obtain ⟨hl, h⟩ := h; unfold PySem.W.instObj at hl; wp_walk using wpAny_loadPart' hl, wpAny_load hl; exact ⟨_, rfl, h⟩
theorem int_lt_no (i : Int) (t : Tok) (l C dx : Addr) :
    Meets (Builtin.«int.__lt__» ⟨[.int i t, .ref l], []⟩) (fun _ R s => s.heap.get? l = some (PySem.W.instObj C dx) ∧ R (.ok (.ret .notImplemented)) s) :=
  .of_wp fun prog w A R s h => by obtain ⟨hp, g, d, tk, os⟩ := s; obtain ⟨hl, h⟩ := h; unfold PySem.W.instObj at hl; wp_walk using wpAny_loadPart' hl, wpAny_load hl; exact ⟨_, rfl, h⟩
theorem int_le_no (i : Int) (t : Tok) (l C dx : Addr) :
    Meets (Builtin.«int.__le__» ⟨[.int i t, .ref l], []⟩) (fun _ R s => s.heap.get? l = some (PySem.W.instObj C dx) ∧ R (.ok (.ret .notImplemented)) s) :=
  .of_wp fun prog w A R s h => by obtain ⟨hp, g, d, tk, os⟩ := s; obtain ⟨hl, h⟩ := h; unfold PySem.W.instObj at hl; wp_walk using wpAny_loadPart' hl, wpAny_load hl; exact ⟨_, rfl, h⟩
theorem int_gt_no (i : Int) (t : Tok) (l C dx : Addr) :
    Meets (Builtin.«int.__gt__» ⟨[.int i t, .ref l], []⟩) (fun _ R s => s.heap.get? l = some (PySem.W.instObj C dx) ∧ R (.ok (.ret .notImplemented)) s) :=
  .of_wp fun prog w A R s h => by obtain ⟨hp, g, d, tk, os⟩ := s; obtain ⟨hl, h⟩ := h; unfold PySem.W.instObj at hl; wp_walk using wpAny_loadPart' hl, wpAny_load hl; exact ⟨_, rfl, h⟩
theorem int_ge_no (i : Int) (t : Tok) (l C dx : Addr) :
    Meets (Builtin.«int.__ge__» ⟨[.int i t, .ref l], []⟩) (fun _ R s => s.heap.get? l = some (PySem.W.instObj C dx) ∧ R (.ok (.ret .notImplemented)) s) :=
  .of_wp fun prog w A R s h => by obtain ⟨hp, g, d, tk, os⟩ := s; obtain ⟨hl, h⟩ := h; unfold PySem.W.instObj at hl; wp_walk using wpAny_loadPart' hl, wpAny_load hl; exact ⟨_, rfl, h⟩
theorem int_add_no (i : Int) (t : Tok) (l C dx : Addr) :
    Meets (Builtin.«int.__add__» ⟨[.int i t, .ref l], []⟩) (fun _ R s => s.heap.get? l = some (PySem.W.instObj C dx) ∧ R (.ok (.ret .notImplemented)) s) :=
  .of_wp fun prog w A R s h => by obtain ⟨hp, g, d, tk, os⟩ := s; obtain ⟨hl, h⟩ := h; unfold PySem.W.instObj at hl; wp_walk using wpAny_loadPart' hl, wpAny_load hl; exact ⟨_, rfl, h⟩
theorem int_sub_no (i : Int) (t : Tok) (l C dx : Addr) :
    Meets (Builtin.«int.__sub__» ⟨[.int i t, .ref l], []⟩) (fun _ R s => s.heap.get? l = some (PySem.W.instObj C dx) ∧ R (.ok (.ret .notImplemented)) s) :=
  .of_wp fun prog w A R s h => by obtain ⟨hp, g, d, tk, os⟩ := s; obtain ⟨hl, h⟩ := h; unfold PySem.W.instObj at hl; wp_walk using wpAny_loadPart' hl, wpAny_load hl; exact ⟨_, rfl, h⟩
theorem int_mul_no (i : Int) (t : Tok) (l C dx : Addr) :
    Meets (Builtin.«int.__mul__» ⟨[.int i t, .ref l], []⟩) (fun _ R s => s.heap.get? l = some (PySem.W.instObj C dx) ∧ R (.ok (.ret .notImplemented)) s) :=
  .of_wp fun prog w A R s h => by obtain ⟨hp, g, d, tk, os⟩ := s; obtain ⟨hl, h⟩ := h; unfold PySem.W.instObj at hl; wp_walk using wpAny_loadPart' hl, wpAny_load hl; exact ⟨_, rfl, h⟩
theorem int_mod_no (i : Int) (t : Tok) (l C dx : Addr) :
    Meets (Builtin.«int.__mod__» ⟨[.int i t, .ref l], []⟩) (fun _ R s => s.heap.get? l = some (PySem.W.instObj C dx) ∧ R (.ok (.ret .notImplemented)) s) :=
  .of_wp fun prog w A R s h => by obtain ⟨hp, g, d, tk, os⟩ := s; obtain ⟨hl, h⟩ := h; unfold PySem.W.instObj at hl; wp_walk using wpAny_loadPart' hl, wpAny_load hl; exact ⟨_, rfl, h⟩
end
end MoW

namespace MoW
open PySem PySem.W PyProof.Rows
section
variable {prog : Program} {w : World} {A : Around} {E : Value → Shared → Prop} {s : Shared} {K : Frag} {x C L f : Addr} {h₀ : Heap} {m : Str → Option Value} {dx : Addr} {od : Option Obj} {i : Int} {t : Tok}

theorem looks_int {M : Model} {h : Heap} : Looks M h (typeOf (.int i t)) (.type "int") := Looks.of_pure rfl

/-- an int compared with an instance: int says it can't, the instance's own mirrored method answers -/
theorem cmp_int_own {op : CmpOp} {id : String} {Q : Value → Shared → Prop} (hu : A.units < cLine) (F : Fr h₀ L s.heap m) (X₀ : K.In h₀) (I : InstAt s.heap x (instObj C dx) C od)
    (hn : subIn K (.ref C) (.type "int") = some false) (h1 : Slot "int" (cmpInfo op).2.1 id)
    (hno : ∀ Q' : Value → Shared → Prop, Q' .notImplemented s → wpAny (model prog w) A (call (.builtin id) [.int i t, .ref x]) Q' E s)
    (hs : findIn K (.ref C) (cmpInfo op).2.2 = some (some (.ref f))) (hf : isFn K (.ref f) = true)
    (h : wpAny (model prog w) A (call (.ref f) [.ref x, .int i t]) (W.CmpBack Q) E s) : wpAny (model prog w) A (richCompare op (.int i t) (.ref x)) Q E s := by
  have X := X₀.keeps F.keep
  have one : wpAny (model prog w) A (tryCompare (.ref x) (cmpInfo op).2.2 (.int i t)) (fun r s' => ∃ v, r = some v ∧ Q v s') E s := by
    unfold tryCompare
    refine wpAny_bind (ifBound_K X I hs hf (wpAny_mono h (fun v s' hv => ?_) fun _ _ e => e))
    cases v <;> first | exact hv.elim | exact wpAny_pure ⟨_, rfl, hv⟩
  unfold richCompare
  simp only [(typeIs_int s i t).oneThing_none]
  refine wpAny_holding (wpAny_bind (wpAny_cRoomFor hu ?_))
  refine wpAny_bind (wpAny_typeOf (typeIs_int s i t) (wpAny_bind (I.type.here ?_)))
  have hne : (Value.type "int" != Value.ref C) = true := rfl
  simp only [hne, if_true]
  refine wpAny_bind ((looks_subIn X hn).here ?_)
  simp only [Bool.false_eq_true, if_false, Bool.not_false, if_true]
  refine wpAny_bind (m := tryCompare (.int i t) _ (.ref x)) (wpAny_tryCompare_declines (typeIs_int s i t) h1 (hno _ ⟨rfl, ?_⟩))
  refine wpAny_bind (m := tryCompare (.ref x) _ (.int i t)) (wpAny_mono one (fun r s' z => ?_) fun _ _ e => e)
  obtain ⟨v, rfl, hq⟩ := z
  exact wpAny_pure hq

theorem mro_first {cd : ClassData} (hc : selfFirst K C = true) : ∃ cd rest, clsIn K C = some cd ∧ cd.mro = .ref C :: rest := by
  obtain ⟨cd, hcd, hm⟩ := any_some hc
  refine ⟨cd, ?_⟩
  cases q : cd.mro with
  | nil => rw [q] at hm; cases hm
  | cons a r => rw [q] at hm; exact ⟨r, hcd, by rw [List.head?_cons] at hm; cases (beq_iff_eq.mp hm); rfl⟩

/-- an int beside an instance: int says it can't, the instance's own reflected method answers -/
theorem bin_int_own {op : Operator} {id : String} {g : Addr} {Q : Value → Shared → Prop} (F : Fr h₀ L s.heap m) (X₀ : K.In h₀) (I : InstAt s.heap x (instObj C dx) C od)
    (hc : selfFirst K C = true) (hn : subIn K (.ref C) (.type "int") = some false) (h1 : Slot "int" (PySem.dunder op.info.2) id) (hfi : fillsNumberSlot (.type "int") op.info.2 = pure true)
    (hno : ∀ Q' : Value → Shared → Prop, Q' .notImplemented s → wpAny (model prog w) A (call (.builtin id) [.int i t, .ref x]) Q' E s)
    (hd : findIn K (.ref C) (PySem.dunder op.info.2) = some (some (.ref g)))
    (hs : findIn K (.ref C) (dunderR op.info.2) = some (some (.ref f))) (hf : isFn K (.ref f) = true)
    (h : wpAny (model prog w) A (call (.ref f) [.ref x, .int i t]) (W.CmpBack Q) E s) : wpAny (model prog w) A (binaryOp op (.int i t) (.ref x)) Q E s := by
  have X := X₀.keeps F.keep
  obtain ⟨cd, rest, hcd, hm⟩ := mro_first (K := K) (C := C) (cd := default) hc
  unfold binaryOp
  refine wpAny_holding (wpAny_bind ?_)
  unfold binaryOp1
  refine wpAny_bind (wpAny_typeOf (typeIs_int s i t) (wpAny_bind (I.type.here (wpAny_bind (wpAny_of_eq hfi ?_)))))
  have hne : (Value.type "int" == Value.ref C) = false := rfl
  simp only [hne, Bool.false_eq_true, if_false]
  refine wpAny_bind ((fills_K X hcd hm hd).here ?_)
  simp only [Bool.and_self, if_true]
  refine wpAny_bind ((looks_subIn X hn).here ?_)
  have hpy : numberSlotInPython (.type "int") op.info.2 = pure false := rfl
  simp only [Bool.false_eq_true, if_false, pure_bind, Bool.not_false, Bool.and_self, if_true, hpy]
  refine wpAny_bind (m := tryMethod (.int i t) _ (.ref x)) (wpAny_tryMethod_declines (typeIs_int s i t) h1 (hno _ ⟨rfl, ?_⟩))
  refine wpAny_bind (m := tryMethod (.ref x) _ (.int i t)) ?_
  unfold tryMethod
  refine wpAny_bind (special_fn X I hs (beq_iff_eq.mp hf) (wpAny_mono h (fun v s' hv => ?_) fun _ _ e => e))
  cases v <;> first | exact hv.elim | exact wpAny_pure (wpAny_bind (wpAny_rule (wpAny_pure (wpAny_pure hv))))

/-- an instance beside an int: its own method answers -/
theorem bin_own_int {op : Operator} {id : String} {g : Addr} {Q : Value → Shared → Prop} (F : Fr h₀ L s.heap m) (X₀ : K.In h₀) (I : InstAt s.heap x (instObj C dx) C od)
    (hc : selfFirst K C = true) (hn : subIn K (.type "int") (.ref C) = some false) (h1 : Slot "int" (dunderR op.info.2) id) (hfi : fillsNumberSlot (.type "int") op.info.2 = pure true)
    (hs : findIn K (.ref C) (PySem.dunder op.info.2) = some (some (.ref f))) (hf : isFn K (.ref f) = true)
    (hd : findIn K (.ref C) (dunderR op.info.2) = some (some (.ref g)))
    (h : wpAny (model prog w) A (call (.ref f) [.ref x, .int i t]) (W.CmpBack Q) E s) : wpAny (model prog w) A (binaryOp op (.ref x) (.int i t)) Q E s := by
  have X := X₀.keeps F.keep
  obtain ⟨cd, rest, hcd, hm⟩ := mro_first (K := K) (C := C) (cd := default) hc
  unfold binaryOp
  refine wpAny_holding (wpAny_bind ?_)
  unfold binaryOp1
  refine wpAny_bind (I.type.here (wpAny_bind (wpAny_typeOf (typeIs_int s i t) (wpAny_bind ((fills_K X hcd hm hs).here ?_)))))
  have hne : (Value.ref C == Value.type "int") = false := rfl
  simp only [hne, Bool.false_eq_true, if_false]
  refine wpAny_bind (wpAny_of_eq hfi ?_)
  simp only [Bool.and_self, if_true]
  refine wpAny_bind ((looks_subIn X hn).here ?_)
  have hpy : Looks (model prog w) s.heap (numberSlotInPython (.ref C) op.info.2) true := by
    unfold numberSlotInPython
    refine (looks_findIn X hs).andThen ?_
    refine Looks.andThen (a := true) .now ?_
    refine (looks_findIn X hd).andThen ?_
    refine Looks.andThen (a := true) .now ?_
    exact .now
  have hpi : numberSlotInPython (.type "int") op.info.2 = pure false := rfl
  simp only [Bool.false_eq_true, if_false, pure_bind, Bool.not_false, Bool.and_self, if_true]
  refine wpAny_bind (hpy.here ?_)
  simp only [if_true]
  refine wpAny_bind (wpAny_of_eq hpi ?_)
  simp only [Bool.not_false, if_true]
  refine wpAny_bind (wpAny_of_eq h1.lookup ?_)
  refine wpAny_bind (m := tryMethod (.ref x) _ (.int i t)) ?_
  unfold tryMethod
  refine wpAny_bind (special_fn X I hs (beq_iff_eq.mp hf) (wpAny_mono h (fun v s' hv => ?_) fun _ _ e => e))
  cases v <;> first | exact hv.elim | exact wpAny_pure (wpAny_pure (wpAny_pure hv))
end
end MoW

namespace MoL
open PySem PySem.Spec PyProof.Rows L2 MoW

/-- an instance of the class at C -/
def Ins (H : Hp) (v : V) (C : Addr) : Prop := ∃ a dx fs, v = .ref a ∧ H a = some (.ins C dx fs)
/-- what the written part says of a class with operators -/
structure OwnC (K : PySem.W.Frag) (C : Addr) : Prop where
  first : PySem.W.selfFirst K C = true
  ci : PySem.W.subIn K (.ref C) (.type "int") = some false
  ic : PySem.W.subIn K (.type "int") (.ref C) = some false

section
variable {X : Cx} {pins : List (Addr × Obj)} {σ : L2.St} {H : Hp} {s : Shared}
theorem ep_back {Q : VK} {u : Value} {s' : Shared} (h : EP X pins σ Q u s') : PySem.W.CmpBack (EP X pins σ Q) u s' := by
  cases u with
  | notImplemented =>
    obtain ⟨v, H', I, r, q⟩ := h
    exfalso
    cases v <;> first | exact nomatch r | (obtain ⟨_, e⟩ := r; exact nomatch e)
  | _ => exact h
theorem ins_at {a C dx : Addr} {fs : List (Str × V)} (I : Inv X pins σ H s) (ha : H a = some (.ins C dx fs)) : ∃ od, PySem.W.InstAt s.heap a (PySem.W.instObj C dx) C od := by
  obtain ⟨mA, J, _⟩ := ins_get I.hok ha
  obtain ⟨od, J, _⟩ := J.look
  exact ⟨_, J⟩
theorem ins_obj {a C dx : Addr} {fs : List (Str × V)} (I : Inv X pins σ H s) (ha : H a = some (.ins C dx fs)) : s.heap.get? a = some (PySem.W.instObj C dx) := by
  obtain ⟨mA, J, _⟩ := ins_get I.hok ha
  exact J.obj
end

section
variable {X : Cx} {CX : CXT} {k : Nat} {C f g : Addr} {fd : FuncData} {ps : List Str} {sp : Sp} {E : XK}
/-- x op y, x an instance, y another one or an int: x's own method answers -/
def rOwn (C : Addr) (sp : Sp) (E : XK) : R2 := fun x y H Q => Ins H x C ∧ ((∃ i, y = .int i) ∨ Ins H y C) ∧ sp [x, y] H Q E
/-- i op y, y an instance: y's own mirrored method answers -/
def rOwnR (C : Addr) (sp : Sp) (E : XK) : R2 := fun x y H Q => (∃ i, x = .int i) ∧ Ins H y C ∧ sp [y, x] H Q E

theorem op_cmp_own {op : CmpOp} (hop : ∀ v u, compareOp op v u = richCompare op v u) (c : OwnC X.K C) (m : Meth X.K C (cmpInfo op).2.1 f) (F : FnOk X.prog X.w X.K X.mg X.base CX k f fd ps sp)
    (hr : Room k X.A) (hb : Binds X.K fd ps []) (hx : Passes CX X E) : OpR X (compareOp op) (rOwn C sp E) := by
  intro pins s σ H x y v u Q I rx ry h
  obtain ⟨⟨a, dx, fs, rfl, ha⟩, hy, hs⟩ := h
  cases (show v = Value.ref a from rx)
  obtain ⟨od, J⟩ := ins_at I ha
  obtain ⟨mm, hF⟩ := I.fr
  rw [hop]
  have hrun : wpAny (model X.prog X.w) X.A (call (.ref f) [.ref a, u]) (PySem.W.CmpBack (EP X pins σ Q)) X.xe s :=
    thn (run_fn (us := [.ref a, u]) (vs := [.ref a, y]) F hr hb .nil hx I (.cons rfl (.cons ry .nil)) hs) fun v s' q => ep_back q
  rcases hy with ⟨i, rfl⟩ | ⟨b, dy, gs, rfl, hb'⟩
  · obtain ⟨t, rfl⟩ := (show ∃ t, u = Value.int i t from ry)
    exact PySem.W.cmp_K (op := op) (tb := .type "int") hr.units0 hF I.ok.mod.kin J looks_int (by unfold PySem.W.notFirst; rw [c.ic]; rfl) m.at_ m.fn hrun
  · cases (show u = Value.ref b from ry)
    obtain ⟨od', J'⟩ := ins_at I hb'
    exact PySem.W.cmp_K (op := op) (tb := .ref C) hr.units0 hF I.ok.mod.kin J J'.type (by simp [PySem.W.notFirst]) m.at_ m.fn hrun

theorem op_cmp_int {op : CmpOp} {id : String} (hop : ∀ v u, compareOp op v u = richCompare op v u) (h1 : Slot "int" (cmpInfo op).2.1 id)
    (hno : ∀ (s : Shared) (i : Int) (t : Tok) (b dy : Addr) (Q' E' : Value → Shared → Prop), s.heap.get? b = some (PySem.W.instObj C dy) → Q' .notImplemented s → wpAny (model X.prog X.w) X.A (call (.builtin id) [.int i t, .ref b]) Q' E' s)
    (c : OwnC X.K C) (m : Meth X.K C (cmpInfo op).2.2 f) (F : FnOk X.prog X.w X.K X.mg X.base CX k f fd ps sp)
    (hr : Room k X.A) (hb : Binds X.K fd ps []) (hx : Passes CX X E) : OpR X (compareOp op) (rOwnR C sp E) := by
  intro pins s σ H x y v u Q I rx ry h
  obtain ⟨⟨i, rfl⟩, ⟨b, dy, gs, rfl, hb'⟩, hs⟩ := h
  obtain ⟨t, rfl⟩ := (show ∃ t, v = Value.int i t from rx)
  cases (show u = Value.ref b from ry)
  obtain ⟨od, J⟩ := ins_at I hb'
  obtain ⟨mm, hF⟩ := I.fr
  rw [hop]
  exact cmp_int_own (op := op) hr.units0 hF I.ok.mod.kin J c.ci h1 (fun Q' q => hno s i t b dy Q' _ (ins_obj I hb') q) m.at_ m.fn
    (thn (run_fn (us := [.ref b, .int i t]) (vs := [.ref b, .int i]) F hr hb .nil hx I (.cons rfl (.cons ⟨t, rfl⟩ .nil)) hs) fun v s' q => ep_back q)

theorem op_bin_own {op : Operator} {id : String} (h1 : Slot "int" (dunderR op.info.2) id) (hfi : fillsNumberSlot (.type "int") op.info.2 = pure true) (c : OwnC X.K C)
    (m : Meth X.K C (PySem.dunder op.info.2) f) (mr : Meth X.K C (dunderR op.info.2) g) (F : FnOk X.prog X.w X.K X.mg X.base CX k f fd ps sp)
    (hr : Room k X.A) (hb : Binds X.K fd ps []) (hx : Passes CX X E) : OpR X (binaryOp op) (rOwn C sp E) := by
  intro pins s σ H x y v u Q I rx ry h
  obtain ⟨⟨a, dx, fs, rfl, ha⟩, hy, hs⟩ := h
  cases (show v = Value.ref a from rx)
  obtain ⟨od, J⟩ := ins_at I ha
  obtain ⟨mm, hF⟩ := I.fr
  have hrun : wpAny (model X.prog X.w) X.A (call (.ref f) [.ref a, u]) (PySem.W.CmpBack (EP X pins σ Q)) X.xe s :=
    thn (run_fn (us := [.ref a, u]) (vs := [.ref a, y]) F hr hb .nil hx I (.cons rfl (.cons ry .nil)) hs) fun v s' q => ep_back q
  rcases hy with ⟨i, rfl⟩ | ⟨b, dy, gs, rfl, hb'⟩
  · obtain ⟨t, rfl⟩ := (show ∃ t, u = Value.int i t from ry)
    exact bin_own_int (op := op) hF I.ok.mod.kin J c.first c.ic h1 hfi m.at_ m.fn mr.at_ hrun
  · cases (show u = Value.ref b from ry)
    obtain ⟨od', J'⟩ := ins_at I hb'
    exact PySem.W.binop_K (op := op) hF I.ok.mod.kin J J'.type c.first m.at_ m.fn hrun

theorem op_bin_int {op : Operator} {id : String} (h1 : Slot "int" (PySem.dunder op.info.2) id) (hfi : fillsNumberSlot (.type "int") op.info.2 = pure true)
    (hno : ∀ (s : Shared) (i : Int) (t : Tok) (b dy : Addr) (Q' E' : Value → Shared → Prop), s.heap.get? b = some (PySem.W.instObj C dy) → Q' .notImplemented s → wpAny (model X.prog X.w) X.A (call (.builtin id) [.int i t, .ref b]) Q' E' s)
    (c : OwnC X.K C) (m : Meth X.K C (dunderR op.info.2) f) (ml : Meth X.K C (PySem.dunder op.info.2) g) (F : FnOk X.prog X.w X.K X.mg X.base CX k f fd ps sp)
    (hr : Room k X.A) (hb : Binds X.K fd ps []) (hx : Passes CX X E) : OpR X (binaryOp op) (rOwnR C sp E) := by
  intro pins s σ H x y v u Q I rx ry h
  obtain ⟨⟨i, rfl⟩, ⟨b, dy, gs, rfl, hb'⟩, hs⟩ := h
  obtain ⟨t, rfl⟩ := (show ∃ t, v = Value.int i t from rx)
  cases (show u = Value.ref b from ry)
  obtain ⟨od, J⟩ := ins_at I hb'
  obtain ⟨mm, hF⟩ := I.fr
  exact bin_int_own (op := op) hF I.ok.mod.kin J c.first c.ci h1 hfi (fun Q' q => hno s i t b dy Q' _ (ins_obj I hb') q) ml.at_ m.at_ m.fn
    (thn (run_fn (us := [.ref b, .int i t]) (vs := [.ref b, .int i]) F hr hb .nil hx I (.cons rfl (.cons ⟨t, rfl⟩ .nil)) hs) fun v s' q => ep_back q)

theorem op_eq_own (c : OwnC X.K C) (m : Meth X.K C "__eq__" f) (F : FnOk X.prog X.w X.K X.mg X.base CX k f fd ps sp)
    (hr : Room k X.A) (hb : Binds X.K fd ps []) (hx : Passes CX X E) : OpR X (compareOp .Eq) (rOwn C sp E) := op_cmp_own (op := .Eq) (fun _ _ => rfl) c m F hr hb hx
theorem op_eq_int (c : OwnC X.K C) (m : Meth X.K C "__eq__" f) (F : FnOk X.prog X.w X.K X.mg X.base CX k f fd ps sp)
    (hr : Room k X.A) (hb : Binds X.K fd ps []) (hx : Passes CX X E) : OpR X (compareOp .Eq) (rOwnR C sp E) := op_cmp_int (op := .Eq) (fun _ _ => rfl) PySem.F.slot_int_eq
  (fun s i t b dy Q' E' hb' q => call_meets PySem.F.slot_int_eq (typeIs_int s i t) PySem.F.entry_int_eq (PySem.F.args_int_eq_2 _ _) (int_eq_no i t b C dy) ⟨hb', q⟩) c m F hr hb hx

theorem op_ne_own (c : OwnC X.K C) (m : Meth X.K C "__ne__" f) (F : FnOk X.prog X.w X.K X.mg X.base CX k f fd ps sp)
    (hr : Room k X.A) (hb : Binds X.K fd ps []) (hx : Passes CX X E) : OpR X (compareOp .NotEq) (rOwn C sp E) := op_cmp_own (op := .NotEq) (fun _ _ => rfl) c m F hr hb hx
theorem op_ne_int (c : OwnC X.K C) (m : Meth X.K C "__ne__" f) (F : FnOk X.prog X.w X.K X.mg X.base CX k f fd ps sp)
    (hr : Room k X.A) (hb : Binds X.K fd ps []) (hx : Passes CX X E) : OpR X (compareOp .NotEq) (rOwnR C sp E) := op_cmp_int (op := .NotEq) (fun _ _ => rfl) PySem.F.slot_int_ne
  (fun s i t b dy Q' E' hb' q => call_meets PySem.F.slot_int_ne (typeIs_int s i t) PySem.F.entry_int_ne (PySem.F.args_int_ne_2 _ _) (int_ne_no i t b C dy) ⟨hb', q⟩) c m F hr hb hx

theorem op_lt_own (c : OwnC X.K C) (m : Meth X.K C "__lt__" f) (F : FnOk X.prog X.w X.K X.mg X.base CX k f fd ps sp)
    (hr : Room k X.A) (hb : Binds X.K fd ps []) (hx : Passes CX X E) : OpR X (compareOp .Lt) (rOwn C sp E) := op_cmp_own (op := .Lt) (fun _ _ => rfl) c m F hr hb hx
theorem op_lt_int (c : OwnC X.K C) (m : Meth X.K C "__gt__" f) (F : FnOk X.prog X.w X.K X.mg X.base CX k f fd ps sp)
    (hr : Room k X.A) (hb : Binds X.K fd ps []) (hx : Passes CX X E) : OpR X (compareOp .Lt) (rOwnR C sp E) := op_cmp_int (op := .Lt) (fun _ _ => rfl) PySem.F.slot_int_lt
  (fun s i t b dy Q' E' hb' q => call_meets PySem.F.slot_int_lt (typeIs_int s i t) PySem.F.entry_int_lt (PySem.F.args_int_lt_2 _ _) (int_lt_no i t b C dy) ⟨hb', q⟩) c m F hr hb hx

theorem op_le_own (c : OwnC X.K C) (m : Meth X.K C "__le__" f) (F : FnOk X.prog X.w X.K X.mg X.base CX k f fd ps sp)
    (hr : Room k X.A) (hb : Binds X.K fd ps []) (hx : Passes CX X E) : OpR X (compareOp .LtE) (rOwn C sp E) := op_cmp_own (op := .LtE) (fun _ _ => rfl) c m F hr hb hx
theorem op_le_int (c : OwnC X.K C) (m : Meth X.K C "__ge__" f) (F : FnOk X.prog X.w X.K X.mg X.base CX k f fd ps sp)
    (hr : Room k X.A) (hb : Binds X.K fd ps []) (hx : Passes CX X E) : OpR X (compareOp .LtE) (rOwnR C sp E) := op_cmp_int (op := .LtE) (fun _ _ => rfl) PySem.F.slot_int_le
  (fun s i t b dy Q' E' hb' q => call_meets PySem.F.slot_int_le (typeIs_int s i t) PySem.F.entry_int_le (PySem.F.args_int_le_2 _ _) (int_le_no i t b C dy) ⟨hb', q⟩) c m F hr hb hx

theorem op_gt_own (c : OwnC X.K C) (m : Meth X.K C "__gt__" f) (F : FnOk X.prog X.w X.K X.mg X.base CX k f fd ps sp)
    (hr : Room k X.A) (hb : Binds X.K fd ps []) (hx : Passes CX X E) : OpR X (compareOp .Gt) (rOwn C sp E) := op_cmp_own (op := .Gt) (fun _ _ => rfl) c m F hr hb hx
theorem op_gt_int (c : OwnC X.K C) (m : Meth X.K C "__lt__" f) (F : FnOk X.prog X.w X.K X.mg X.base CX k f fd ps sp)
    (hr : Room k X.A) (hb : Binds X.K fd ps []) (hx : Passes CX X E) : OpR X (compareOp .Gt) (rOwnR C sp E) := op_cmp_int (op := .Gt) (fun _ _ => rfl) PySem.F.slot_int_gt
  (fun s i t b dy Q' E' hb' q => call_meets PySem.F.slot_int_gt (typeIs_int s i t) PySem.F.entry_int_gt (PySem.F.args_int_gt_2 _ _) (int_gt_no i t b C dy) ⟨hb', q⟩) c m F hr hb hx

theorem op_ge_own (c : OwnC X.K C) (m : Meth X.K C "__ge__" f) (F : FnOk X.prog X.w X.K X.mg X.base CX k f fd ps sp)
    (hr : Room k X.A) (hb : Binds X.K fd ps []) (hx : Passes CX X E) : OpR X (compareOp .GtE) (rOwn C sp E) := op_cmp_own (op := .GtE) (fun _ _ => rfl) c m F hr hb hx
theorem op_ge_int (c : OwnC X.K C) (m : Meth X.K C "__le__" f) (F : FnOk X.prog X.w X.K X.mg X.base CX k f fd ps sp)
    (hr : Room k X.A) (hb : Binds X.K fd ps []) (hx : Passes CX X E) : OpR X (compareOp .GtE) (rOwnR C sp E) := op_cmp_int (op := .GtE) (fun _ _ => rfl) PySem.F.slot_int_ge
  (fun s i t b dy Q' E' hb' q => call_meets PySem.F.slot_int_ge (typeIs_int s i t) PySem.F.entry_int_ge (PySem.F.args_int_ge_2 _ _) (int_ge_no i t b C dy) ⟨hb', q⟩) c m F hr hb hx

theorem op_add_own (c : OwnC X.K C) (m : Meth X.K C "__add__" f) (mr : Meth X.K C "__radd__" g) (F : FnOk X.prog X.w X.K X.mg X.base CX k f fd ps sp)
    (hr : Room k X.A) (hb : Binds X.K fd ps []) (hx : Passes CX X E) : OpR X (binaryOp .Add) (rOwn C sp E) := op_bin_own (op := .Add) PySem.F.slot_int_radd PySem.F.fills_int_add c m mr F hr hb hx
theorem op_add_int (c : OwnC X.K C) (m : Meth X.K C "__radd__" f) (ml : Meth X.K C "__add__" g) (F : FnOk X.prog X.w X.K X.mg X.base CX k f fd ps sp)
    (hr : Room k X.A) (hb : Binds X.K fd ps []) (hx : Passes CX X E) : OpR X (binaryOp .Add) (rOwnR C sp E) := op_bin_int (op := .Add) PySem.F.slot_int_add PySem.F.fills_int_add
  (fun s i t b dy Q' E' hb' q => call_meets PySem.F.slot_int_add (typeIs_int s i t) PySem.F.entry_int_add (PySem.F.args_int_add_2 _ _) (int_add_no i t b C dy) ⟨hb', q⟩) c m ml F hr hb hx

theorem op_sub_own (c : OwnC X.K C) (m : Meth X.K C "__sub__" f) (mr : Meth X.K C "__rsub__" g) (F : FnOk X.prog X.w X.K X.mg X.base CX k f fd ps sp)
    (hr : Room k X.A) (hb : Binds X.K fd ps []) (hx : Passes CX X E) : OpR X (binaryOp .Sub) (rOwn C sp E) := op_bin_own (op := .Sub) PySem.F.slot_int_rsub PySem.F.fills_int_sub c m mr F hr hb hx
theorem op_sub_int (c : OwnC X.K C) (m : Meth X.K C "__rsub__" f) (ml : Meth X.K C "__sub__" g) (F : FnOk X.prog X.w X.K X.mg X.base CX k f fd ps sp)
    (hr : Room k X.A) (hb : Binds X.K fd ps []) (hx : Passes CX X E) : OpR X (binaryOp .Sub) (rOwnR C sp E) := op_bin_int (op := .Sub) PySem.F.slot_int_sub PySem.F.fills_int_sub
  (fun s i t b dy Q' E' hb' q => call_meets PySem.F.slot_int_sub (typeIs_int s i t) PySem.F.entry_int_sub (PySem.F.args_int_sub_2 _ _) (int_sub_no i t b C dy) ⟨hb', q⟩) c m ml F hr hb hx

theorem op_mul_own (c : OwnC X.K C) (m : Meth X.K C "__mul__" f) (mr : Meth X.K C "__rmul__" g) (F : FnOk X.prog X.w X.K X.mg X.base CX k f fd ps sp)
    (hr : Room k X.A) (hb : Binds X.K fd ps []) (hx : Passes CX X E) : OpR X (binaryOp .Mult) (rOwn C sp E) := op_bin_own (op := .Mult) PySem.F.slot_int_rmul PySem.F.fills_int_mul c m mr F hr hb hx
theorem op_mul_int (c : OwnC X.K C) (m : Meth X.K C "__rmul__" f) (ml : Meth X.K C "__mul__" g) (F : FnOk X.prog X.w X.K X.mg X.base CX k f fd ps sp)
    (hr : Room k X.A) (hb : Binds X.K fd ps []) (hx : Passes CX X E) : OpR X (binaryOp .Mult) (rOwnR C sp E) := op_bin_int (op := .Mult) PySem.F.slot_int_mul PySem.F.fills_int_mul
  (fun s i t b dy Q' E' hb' q => call_meets PySem.F.slot_int_mul (typeIs_int s i t) PySem.F.entry_int_mul (PySem.F.args_int_mul_2 _ _) (int_mul_no i t b C dy) ⟨hb', q⟩) c m ml F hr hb hx

theorem op_mod_own (c : OwnC X.K C) (m : Meth X.K C "__mod__" f) (mr : Meth X.K C "__rmod__" g) (F : FnOk X.prog X.w X.K X.mg X.base CX k f fd ps sp)
    (hr : Room k X.A) (hb : Binds X.K fd ps []) (hx : Passes CX X E) : OpR X (binaryOp .Mod) (rOwn C sp E) := op_bin_own (op := .Mod) PySem.F.slot_int_rmod PySem.F.fills_int_mod c m mr F hr hb hx
theorem op_mod_int (c : OwnC X.K C) (m : Meth X.K C "__rmod__" f) (ml : Meth X.K C "__mod__" g) (F : FnOk X.prog X.w X.K X.mg X.base CX k f fd ps sp)
    (hr : Room k X.A) (hb : Binds X.K fd ps []) (hx : Passes CX X E) : OpR X (binaryOp .Mod) (rOwnR C sp E) := op_bin_int (op := .Mod) PySem.F.slot_int_mod PySem.F.fills_int_mod
  (fun s i t b dy Q' E' hb' q => call_meets PySem.F.slot_int_mod (typeIs_int s i t) PySem.F.entry_int_mod (PySem.F.args_int_mod_2 _ _) (int_mod_no i t b C dy) ⟨hb', q⟩) c m ml F hr hb hx
end
end MoL

/-! # Helpers: items of lists read by place, // by any number that is not 0, sizes, lowest terms -/
namespace MoL
open PySem PySem.Spec PyProof.Rows L2 MoW

section
variable {X : Cx}
def rGetL (K : PySem.W.Frag) : V → V → Hp → VK → Prop := fun x y H Q => ∃ p xs j v, x = .ref p ∧ y = .int ((j : Nat) : Int) ∧ SqL K H p xs ∧ xs[j]? = some v ∧ Q v H
theorem get_list : PGet X (rGetL X.K) := by
  intro pins s σ H x y v u Q I rx ry h
  obtain ⟨p, xs, j, z, rfl, rfl, hq, he, q⟩ := h
  cases rx
  obtain ⟨t, rfl⟩ := ry
  obtain ⟨its, r, pl, hz⟩ := I.list hq
  obtain ⟨w, ew, rw'⟩ := r.get he
  have hj : j < xs.length := (List.getElem?_eq_some_iff.mp he).1
  have hn := line63
  exact wpAny_getItem_list pl.isList (by omega) (by omega) (by simpa using ew) ⟨z, H, I, rw', q⟩
/-- // by any number but 0, below 2 ^ 9000 in size -/
def CDivA (_ j : Int) : Prop := j ≠ 0 ∧ j.natAbs.log2 < 9000
theorem op_fdivA : OpR X (binaryOp .FloorDiv) (rI CDivA fun i j => .int (i.fdiv j)) := opI fun i j _ _ _ _ _ hc q => floordiv_int hc.1 q (.inl (PyProof.noPylong_of_log2 hc.2))
end

/-! ### sizes -/
/-- below 2 ^ 4000 in size -/
def Sm (i : Int) : Prop := i.natAbs < 2 ^ 4000
theorem Sm.mul {i j : Int} (a : Sm i) (b : Sm j) : CMulW i j := wide_mul a b (by decide) (by decide) (by decide)
theorem Sm.mulr {i j : Int} (a : Sm i) (b : j.natAbs < 2 ^ 9000) : CMulW i j := wide_mul a b (by decide) (by decide) (by decide)
theorem Sm.div {i j : Int} (h : j ≠ 0) (a : Sm j) : CDivA i j := ⟨h, Nat.lt_of_lt_of_le (PySem.Flt.log2_lt_of (by decide) a) (by decide)⟩
theorem Sm.le {i j : Int} (a : Sm j) (h : i.natAbs ≤ j.natAbs) : Sm i := Nat.lt_of_le_of_lt h a
theorem pow_big {k : Nat} (h : k ≤ 4000) : 2 ^ k ≤ 2 ^ 4000 := Nat.pow_le_pow_right (by decide) h
theorem Sm.of {i : Int} {k : Nat} (h : i.natAbs < 2 ^ k) (hk : k ≤ 4000) : Sm i := Nat.lt_of_lt_of_le h (pow_big hk)

theorem Sm.ab {i : Int} (h1 : -(2 ^ 200) < i) (h2 : i < 2 ^ 200) : Sm i := Sm.of (k := 200) (by omega) (by decide)
theorem iteFe {c : Bool} {A B : Prop} (hc : c = false) (h : B) : if c = true then A else B := by rw [hc]; exact iteF h
theorem iteTe {c : Bool} {A B : Prop} (hc : c = true) (h : A) : if c = true then A else B := by rw [hc]; exact iteT h

/-! ### lowest terms -/
/-- t' / b' is t / b in lowest terms, the bottom above 0 -/
structure Norm (t b t' b' : Int) : Prop where
  ex : ∃ g : Int, t = g * t' ∧ b = g * b' ∧ g ≠ 0
  pos : 0 < b'
  cop : Nat.gcd t'.natAbs b'.natAbs = 1
theorem Norm.cross {t b t' b' : Int} (n : Norm t b t' b') : t' * b = t * b' := by
  obtain ⟨g, h1, h2, _⟩ := n.ex
  rw [h1, h2, Int.mul_comm g t', Int.mul_assoc]
theorem natAbs_le_mul {g x : Int} (h : g ≠ 0) : x.natAbs ≤ (g * x).natAbs := by
  rw [Int.natAbs_mul]
  exact Nat.le_mul_of_pos_left _ (Int.natAbs_pos.mpr h)
theorem Norm.le1 {t b t' b' : Int} (n : Norm t b t' b') : t'.natAbs ≤ t.natAbs := by
  obtain ⟨g, h1, h2, h⟩ := n.ex
  rw [h1]; exact natAbs_le_mul h
theorem Norm.le2 {t b t' b' : Int} (n : Norm t b t' b') : b'.natAbs ≤ b.natAbs := by
  obtain ⟨g, h1, h2, h⟩ := n.ex
  rw [h2]; exact natAbs_le_mul h
/-- what the making computes: g the signed common divisor -/
theorem fdiv_exact {g x y : Int} (h : g ≠ 0) (e : x = g * y) : x.fdiv g = y := by
  rw [e]
  exact Int.mul_fdiv_cancel_left y h
theorem Norm.make {t b : Int} (hb : b ≠ 0) : ∀ g : Int, g = (if b < 0 then -((Nat.gcd t.natAbs b.natAbs : Nat) : Int) else ((Nat.gcd t.natAbs b.natAbs : Nat) : Int)) →
    g ≠ 0 ∧ g.natAbs ≤ b.natAbs ∧ Norm t b (t.fdiv g) (b.fdiv g) := by
  intro g hg
  have hpos : 0 < Nat.gcd t.natAbs b.natAbs := Nat.gcd_pos_of_pos_right _ (Int.natAbs_pos.mpr hb)
  have hle : Nat.gcd t.natAbs b.natAbs ≤ b.natAbs := Nat.gcd_le_right _ (Int.natAbs_pos.mpr hb)
  generalize hd : Nat.gcd t.natAbs b.natAbs = d at hpos hle hg
  have gabs : g.natAbs = d := by
    rw [hg]; split <;> simp
  have g0 : g ≠ 0 := by
    intro z; rw [z] at gabs; simp at gabs; omega
  have d1 : d ∣ t.natAbs := hd ▸ Nat.gcd_dvd_left _ _
  have d2 : d ∣ b.natAbs := hd ▸ Nat.gcd_dvd_right _ _
  have e1 : g ∣ t := Int.natAbs_dvd_natAbs.mp (by rw [gabs]; exact d1)
  have e2 : g ∣ b := Int.natAbs_dvd_natAbs.mp (by rw [gabs]; exact d2)
  obtain ⟨t', ht⟩ := e1
  obtain ⟨b', hb'⟩ := e2
  refine ⟨g0, by rw [gabs]; exact hle, ?_⟩
  rw [fdiv_exact g0 ht, fdiv_exact g0 hb']
  refine ⟨⟨g, ht, hb', g0⟩, ?_, ?_⟩
  · by_cases hneg : b < 0
    · rw [if_pos hneg] at hg
      have gn : g < 0 := by omega
      rw [hb', Int.mul_comm] at hneg
      exact Int.pos_of_mul_neg_left hneg gn
    · rw [if_neg hneg] at hg
      have gp : 0 < g := by omega
      have bp : 0 < g * b' := by rw [← hb']; omega
      exact Int.pos_of_mul_pos_right bp (by omega)
  · have x1 : t.natAbs = d * t'.natAbs := by rw [ht, Int.natAbs_mul, gabs]
    have x2 : b.natAbs = d * b'.natAbs := by rw [hb', Int.natAbs_mul, gabs]
    rw [x1, x2, Nat.gcd_mul_left] at hd
    have : d * Nat.gcd t'.natAbs b'.natAbs = d * 1 := by rw [hd, Nat.mul_one]
    exact Nat.eq_of_mul_eq_mul_left hpos this
end MoL

namespace MoL
open PySem PySem.Spec PyProof.Rows L2 MoW
/-- what the written part says of a class of plain instances with operators and the fields top, bottom -/
structure OwnK (K : PySem.W.Frag) (C : Addr) : Prop where
  cl : Cls K C
  ow : OwnC K C
  ha : PySem.W.findIn K (.ref C) "__class__" = some (some (.builtin "object.__class__"))
  hn : PySem.W.specialIn K (.builtin "object.__class__") "__get__" = some (some (.builtin "getset_descriptor.__get__"))
  htk : PySem.W.takesIn K (.builtin "object.__class__") = some true
  hm : PySem.W.mroIn K C (.type "object") = some true
  ki : PySem.W.kitOne K (.ref C) (.type "int") = some false
  ik : PySem.W.kitOne K (.type "int") (.ref C) = some false
  n_top : NoAttr K C "top"
  n_bottom : NoAttr K C "bottom"
theorem kit_self {K : PySem.W.Frag} {C : Addr} : PySem.W.kitOne K (.ref C) (.ref C) = some true := by
  unfold PySem.W.kitOne
  rw [if_pos (by simp)]
theorem OwnK.ty {K : PySem.W.Frag} {C : Addr} {H : Hp} {a dx : Addr} {fs : List (Str × V)} (k : OwnK K C) (h : H a = some (.ins C dx fs)) : TyX K H (.ref a) (.ref C) :=
  .base (.ins h k.cl k.ha k.hn k.htk k.hm)

/-- a Ratio: an instance of the class at C with these two numbers -/
def RatAt (C : Addr) (H : Hp) (v : V) (t b : Int) : Prop := ∃ a dx, v = .ref a ∧ H a = some (.ins C dx [("top", .int t), ("bottom", .int b)])
theorem RatAt.ins {C : Addr} {H : Hp} {v : V} {t b : Int} (r : RatAt C H v t b) : Ins H v C := by
  obtain ⟨a, dx, e, h⟩ := r
  exact ⟨a, dx, _, e, h⟩
theorem RatAt.same {C : Addr} {H H' : Hp} {v : V} {t b : Int} (r : RatAt C H v t b) (s : Same H H') : RatAt C H' v t b := by
  obtain ⟨a, dx, e, h⟩ := r
  exact ⟨a, dx, e, s _ _ h⟩
theorem Ins.same {C : Addr} {H H' : Hp} {v : V} (r : Ins H v C) (s : Same H H') : Ins H' v C := by
  obtain ⟨a, dx, fs, e, h⟩ := r
  exact ⟨a, dx, fs, e, s _ _ h⟩
theorem same_upd {H : Hp} {p : Addr} {o : HO} (h : H p = none) : Same H (upd H p o) := fun b x e => by
  rw [upd_ne (ne_of_none e h)]
  exact e
theorem same_upd' {H H1 : Hp} {p : Addr} {o : HO} (s : Same H H1) (h : H p = none) : Same H (upd H1 p o) := fun b x e => by
  rw [upd_ne (ne_of_none e h)]
  exact s _ _ e
end MoL

/-! # Signs before an instance, abs of one; lowest terms are one -/
namespace MoL
open PySem PySem.Spec PyProof.Rows L2 MoW
section
variable {X : Cx} {CX : CXT} {k : Nat} {C f g : Addr} {fd : FuncData} {ps : List Str} {sp : Sp} {E : XK}
/-- -x of an instance with its own __neg__ -/
def rOwn1 (C : Addr) (sp : Sp) (E : XK) : V → Hp → VK → Prop := fun x H Q => Ins H x C ∧ sp [x] H Q E
theorem un_neg_own (m : Meth X.K C "__neg__" f) (F : FnOk X.prog X.w X.K X.mg X.base CX k f fd ps sp)
    (hr : Room k X.A) (hb : Binds X.K fd ps []) (hx : Passes CX X E) : UnR X (unaryOp .USub) (rOwn1 C sp E) := by
  intro pins s σ H x v Q I rx h
  obtain ⟨⟨a, dx, fs, rfl, ha⟩, hs⟩ := h
  cases (show v = Value.ref a from rx)
  obtain ⟨od, J⟩ := ins_at I ha
  have hrun : wpAny (model X.prog X.w) X.A (call (.ref f) [.ref a]) (EP X pins σ Q) X.xe s :=
    run_fn (us := [.ref a]) (vs := [.ref a]) F hr hb .nil hx I (.cons rfl .nil) hs
  unfold unaryOp
  refine wpAny_holding ?_
  have e : (UnaryOp.USub == UnaryOp.Not) = false := rfl
  simp only [e, Bool.false_eq_true, if_false]
  exact wpAny_bind (PySem.W.special_fn I.kIn J m.at_ (beq_iff_eq.mp m.fn) (wpAny_mono hrun (fun v s' q => wpAny_pure q) fun _ _ e => e))
theorem UnR.or {f : Value → Sem Value} {r r' : V → Hp → VK → Prop} (h : UnR X f r) (h' : UnR X f r') : UnR X f (fun x H Q => r x H Q ∨ r' x H Q) := by
  intro pins s σ H x v Q I rx q
  rcases q with q | q
  · exact h pins s σ H x v Q I rx q
  · exact h' pins s σ H x v Q I rx q
/-- the callee runs within a built-in -/
theorem run_fn1 {pins : List (Addr × Obj)} {σ : L2.St} {H : Hp} {s : Shared} {Q : VK} {us : List Value} {vs : List V} (F : FnOk X.prog X.w X.K X.mg X.base CX k f fd ps sp) (hr : Room (k + 1) X.A) (hb : Binds X.K fd ps []) (hx : Passes CX X E)
    (I : Inv X pins σ H s) (r : Vals vs us) (h : sp vs H Q E) : wpAny (model X.prog X.w) X.A.in1 (call (.ref f) us) (EP X pins σ Q) X.xe s := by
  have hl : us.length = ps.length := by rw [← r.length]; exact F.len _ _ _ _ h
  have hb' : BindsTo s fd ⟨us, []⟩ (ps.zip us) := by
    have := hb s us I.kIn (by simpa using hl)
    simpa using this
  refine wpAny_call (codeAny_mono (F.run X.A.in1 X.stack s H ⟨us, []⟩ us vs Q E hr.in1 I.env0.in1 hb' r h) fun r s' hq => ?_)
  cases r with
  | error e => exact hx pins σ H s e s' I hq
  | ok fl =>
    cases fl with
    | ret u => exact I.after hq
    | next => exact False.elim hq
    | brk => exact False.elim hq
    | cont => exact False.elim hq
theorem call_abs_own (m : Meth X.K C "__abs__" f) (F : FnOk X.prog X.w X.K X.mg X.base CX k f fd ps sp)
    (hr : Room (k + 1) X.A) (hb : Binds X.K fd ps []) (hx : Passes CX X E) : CallR X (.builtin "abs") (fun xs H Q => ∃ x, xs = [x] ∧ rOwn1 C sp E x H Q) := by
  intro pins s σ H xs us Q I r h
  obtain ⟨x, rfl, ⟨a, dx, fs, rfl, ha⟩, hs⟩ := h
  obtain ⟨u, rfl, ru⟩ := vals1 r
  cases (show u = Value.ref a from ru)
  obtain ⟨od, J⟩ := ins_at I ha
  have hrun := run_fn1 (us := [.ref a]) (vs := [.ref a]) F hr hb hx I (.cons rfl .nil) hs
  refine Calls.call_function_entry kind_abs plain_abs entry_abs (args_abs _) ?_
  unfold Builtin.«abs»
  refine wpAny_bind (m := oneArg "abs" _) (wpAny_pure ?_)
  refine wpAny_bind (m := callSpecial? (.ref a) (Str.ofString "__abs__")) ?_
  exact PySem.W.special_fn I.kIn J m.at_ (beq_iff_eq.mp m.fn) (wpAny_mono hrun (fun v s' q => wpAny_pure ⟨_, rfl, q⟩) fun _ _ e => e)
end
/-! ### lowest terms are one -/
theorem Norm.bne {t b t' b' : Int} (n : Norm t b t' b') : b ≠ 0 := by
  obtain ⟨g, _, h2, h⟩ := n.ex
  rw [h2]
  intro z
  rcases Int.mul_eq_zero.mp z with e | e
  · exact h e
  · have := n.pos; omega
theorem cop_one {t b u c : Int} (hb : 0 < b) (hc : 0 < c) (h1 : Nat.gcd t.natAbs b.natAbs = 1) (h2 : Nat.gcd u.natAbs c.natAbs = 1) (e : t * c = u * b) : t = u ∧ b = c := by
  have en : t.natAbs * c.natAbs = u.natAbs * b.natAbs := by rw [← Int.natAbs_mul, ← Int.natAbs_mul, e]
  have d1 : b.natAbs ∣ c.natAbs := by
    have h : b.natAbs ∣ t.natAbs * c.natAbs := ⟨u.natAbs, by rw [en, Nat.mul_comm]⟩
    exact Nat.Coprime.dvd_of_dvd_mul_left (Nat.Coprime.symm h1) h
  have d2 : c.natAbs ∣ b.natAbs := by
    have h : c.natAbs ∣ u.natAbs * b.natAbs := ⟨t.natAbs, by rw [← en, Nat.mul_comm]⟩
    exact Nat.Coprime.dvd_of_dvd_mul_left (Nat.Coprime.symm h2) h
  have ebc : b = c := by
    have := Nat.dvd_antisymm d1 d2
    omega
  subst ebc
  refine ⟨?_, rfl⟩
  exact Int.eq_of_mul_eq_mul_right (by omega) e
/-- two ways to one value: the same lowest terms -/
theorem Norm.uniq {p q t b p' q' t' b' : Int} (n : Norm p q t b) (m : Norm p' q' t' b') (e : p * q' = p' * q) : t = t' ∧ b = b' := by
  refine cop_one n.pos m.pos n.cop m.cop ?_
  have c1 := n.cross
  have c2 := m.cross
  have q0 := n.bne
  have q1 := m.bne
  have key : (t * b') * (q * q') = (t' * b) * (q * q') := by
    have e1 : (t * b') * (q * q') = (t * q) * (b' * q') := by
      rw [Int.mul_assoc, Int.mul_assoc, Int.mul_left_comm b' q q']
    have e2 : (t' * b) * (q * q') = (t' * q') * (b * q) := by
      rw [Int.mul_assoc, Int.mul_assoc, Int.mul_comm q q', Int.mul_left_comm b q' q]
    rw [e1, e2, c1, c2]
    have e3 : p * b * (b' * q') = (p * q') * (b * b') := by
      rw [Int.mul_assoc, Int.mul_assoc, Int.mul_comm b' q', Int.mul_left_comm b q' b']
    have e4 : p' * b' * (b * q) = (p' * q) * (b * b') := by
      rw [Int.mul_assoc, Int.mul_assoc, Int.mul_comm b q, Int.mul_left_comm b' q b, Int.mul_comm b' b]
    rw [e3, e4, e]
  have qq : q * q' ≠ 0 := fun z => by
    rcases Int.mul_eq_zero.mp z with e | e
    · exact q0 e
    · exact q1 e
  exact Int.eq_of_mul_eq_mul_right qq key
end MoL
namespace MoL
open PySem PySem.Spec PyProof.Rows L2 MoW
theorem call_or {X : Cx} {f : Value} {r r' : List V → Hp → VK → Prop} (h : CallR X f r) (h' : CallR X f r') : CallR X f (fun xs H Q => r xs H Q ∨ r' xs H Q) := by
  intro pins s σ H xs us Q I r q
  rcases q with q | q
  · exact h pins s σ H xs us Q I r q
  · exact h' pins s σ H xs us Q I r q
end MoL

/-! # Errors of the program: making one whose class keeps one field, and what a suite that caught it may ask -/
namespace MoL
open PySem PySem.Spec PyProof.Rows L2 MoW

/-! ### a class call in a body whose errors are caught: the wish speaks of the slots -/
def tMakeA (C : Addr) (sp : Sp) (dvs : List V) (W : L2.St → XK) (t : TA) : TE := fun σ H Q => t σ H fun vs G => ∀ x y, G x = none → G y = none → y ≠ x →
  sp (.ref x :: (vs ++ dvs)) (upd (upd G y (.own x)) x (.ins C y [])) (fun v G2 => v = .non ∧ Q (.ref x) G2) (W σ)
section
variable {X : Cx} {CX : CXT} {k : Nat} {f C : Addr} {fd : FuncData} {ps : List Str} {sp : Sp} {dvs : List V} {ds : List Value} {W : L2.St → XK} {x : Str} {p pos : Pos} {e : Expr} {es : List Expr} {t : TA}
theorem pe_makeA (M : Mk X.K C f) (F : FnOk X.prog X.w X.K X.mg X.base CX k f fd ps sp) (room : Room (k + 1) X.A) (hg : Gl X x) (hm : X.mg x = some (.ref C)) (hb : Binds X.K fd ps ds) (hd : Vals dvs ds) (hx : ∀ σ, PassesAt CX X σ (W σ)) (ha : PA X (e :: es) t)
    (hdb : (x == ("__debug__" : Str)) = false := by decide) (he : starEach (e :: es) X.env = (false, eval e X.env) :: starEach es X.env := by rfl) (hpl : (backTo pos (starEach es X.env)).any (·.1) = false := by rfl) :
    PE X (.Call (.Name x p) (e :: es) [] pos) (tMakeA C sp dvs W t) := by
  constructor
  intro pins s0 σ H0 Q I0 h
  refine wpAny_Call_Name_kw (ld_glob I0 hg hm ?_ hdb)
  refine PySem.W.callWith_K (h₀ := X.base) I0.ok.mod.kin M.kp ?_ he hpl
  refine thn (ha.run pos pins s0 σ H0 _ I0 h) ?_
  rintro us s ⟨vs, H, I, r, h⟩
  refine ⟨I.kIn, ?_⟩
  have hq := h (s.heap.objs.size + 1) s.heap.objs.size (I.hok.fresh (Nat.le_succ _)) (I.hok.fresh (Nat.le_refl _)) (Nat.ne_of_lt (Nat.lt_succ_self _))
  have I2 := Inv.made (C := C) I
  have r2 : Vals (V.ref (s.heap.objs.size + 1) :: (vs ++ dvs)) (Value.ref (s.heap.objs.size + 1) :: (us ++ ds)) := .cons rfl (r.append hd)
  have hl : (Value.ref (s.heap.objs.size + 1) :: us ++ ds).length = ps.length := (F.len _ _ _ _ hq ▸ r2.length).symm
  have run := F.run _ X.stack _ _ ⟨Value.ref (s.heap.objs.size + 1) :: us, []⟩ _ _ _ _ (room.make C us []) (I2.env0.make C us []) (hb _ (Value.ref (s.heap.objs.size + 1) :: us) I2.kIn hl) r2 hq
  refine wpAny_call (make_map (f := f) I.kIn M.makes M.init (beq_iff_eq.mp M.fn) (codeAny_mono run ?_))
  intro r s' hq'
  rcases r with fl | e
  · exact hx σ pins _ _ _ s' I2 hq'
  · cases e with
    | ret u =>
      obtain ⟨v, G, I3, rv, ev, q3⟩ := I2.after hq'
      cases ev
      exact ⟨rv, ⟨V.ref (s.heap.objs.size + 1), G, I3, rfl, q3⟩⟩
    | next => exact hq'.elim
    | brk => exact hq'.elim
    | cont => exact hq'.elim
end

/-! ### isinstance of a caught error that has fields -/
def rIsD (K : PySem.W.Frag) (a : Addr) (cls : Value) (d : Option Addr) (D : Addr) : List V → Hp → VK → Prop := fun xs H Q => ∃ (c : V) (cv : Value) (b : Bool) (y : Addr) (fs : List (Str × V)),
  xs = [.ref a, c] ∧ cls = .ref D ∧ d = some y ∧ H y = some (.xd fs) ∧ ClsV c cv ∧ PySem.W.kitOne K (.ref D) cv = some b ∧ Q (.bl b) H
theorem call_isD {X : Cx} {a D : Addr} {oe : Obj} {cls : Value} {d : Option Addr} {pn : List (Addr × Obj)} (C : ExcC X.K D) (hz : Zc cls d oe) (hf : ∃ vs, oe.data = .fields vs) : CallR (X.suite a ((a, oe) :: pn)) (.builtin "isinstance") (rIsD X.K a cls d D) := by
  intro pins s σ H xs us Q I r h
  obtain ⟨c, cv, b, y, fs, rfl, rfl, rfl, hy, hc, e, q⟩ := h
  obtain ⟨u1, u2, rfl, r1, r2⟩ := vals2 r
  cases (show u1 = Value.ref a from r1)
  have e2 := hc.eq r2
  subst e2
  have hget := (I.pin (a, oe) (List.mem_append_left _ List.mem_cons_self)).1
  have ho : ∃ o, s.heap.get? y = some o := by
    obtain ⟨m, ⟨o, _, _, z, _⟩, _⟩ := (show ObjOk X.prog X.w H s.heap y (.xd fs) from I.hok y _ hy)
    exact ⟨o, z⟩
  obtain ⟨od, ho⟩ := ho
  have J : PySem.W.InstAt s.heap a oe D (some od) := by
    obtain ⟨vs, hv⟩ := hf
    rcases oe with ⟨oc, odd, dt, sl⟩
    obtain ⟨z1, z2⟩ := hz
    dsimp only at z1 z2 hv
    subst z1 z2 hv
    exact ⟨hget, rfl, rfl, ho⟩
  have hcl : (PySem.W.clsIn X.K D).isSome = true := by
    obtain ⟨cd, hcd, _⟩ := PySem.W.any_some C.hd
    rw [hcd]
    rfl
  exact PySem.W.kia_one (PySem.W.kitx_exc hcl C.hg C.hk C.hs C.ha C.hn C.ht C.hm) I.kIn J e (fun z => nomatch z) fun tk => ⟨.bl b, H, I.kept (t' := tk) fun _ _ z => z, rfl, q⟩

/-! ### the making of an error with one field -/
/-- the __init__ of such a class: the field f is what was given -/
def sp_keep (K : PySem.W.Frag) (f : Str) : Sp := fun vs H Q _ => ∃ (e C : Addr) (v : V), vs = [.ref e, v] ∧ OexC K C ∧ PySem.W.findIn K (.ref C) f = some none ∧ H e = some (exo e C none) ∧
  ∀ y, H y = none → y ≠ e → Q .non (upd (upd H y (exd y [(f, v)])) e (exo e C (some y)))
/-- raise C(v): what follows when its __init__ keeps sp_keep -/
theorem mk_keep {K : PySem.W.Frag} {C : Addr} {f : Str} {v : V} {H : Hp} {Q : XK} (T : OexC K C) (hn : PySem.W.findIn K (.ref C) f = some none) (q : ∀ y, H y = none → Q (.ref C) (some y) (upd H y (.xd [(f, v)]))) :
    ([v] : List V).length ≤ 1000 ∧ ∀ a, H a = none → sp_keep K f (.ref a :: ([v] ++ [])) (upd H a (exo a C none))
      (fun w G => w = .non ∧ ∃ (d : Addr) (fs : List (Str × V)), G a = some (exo a C (some d)) ∧ G d = some (exd d fs) ∧ H d = none ∧ Q (.ref C) (some d) (upd (del G a) d (.xd fs))) (fun _ _ _ => False) := by
  refine ⟨by show 1 ≤ 1000; decide, fun a na => ⟨a, C, v, rfl, T, hn, upd_same, fun y ny yne => ⟨rfl, y, [(f, v)], upd_same, ?_, ?_, ?_⟩⟩⟩
  · rw [upd_ne yne, upd_same]
  · rw [upd_ne yne] at ny
    exact ny
  · rw [upd_ne yne] at ny
    have e : upd (del (upd (upd (upd H a (exo a C none)) y (exd y [(f, v)])) a (exo a C (some y))) a) y (.xd [(f, v)]) = upd H y (.xd [(f, v)]) := by
      funext b
      by_cases hb : b = y
      · subst hb
        rw [upd_same, upd_same]
      · rw [upd_ne hb, upd_ne hb]
        by_cases hba : b = a
        · subst hba
          rw [del_same, na]
        · rw [del_ne hba, upd_ne hba, upd_ne hb, upd_ne hba]
    rw [e]
    exact q y ny
end MoL

/-! # An error called with keywords, up to its own __init__ -/
namespace MoX
open PySem PySem.W PySem.Calls PyProof.Rows PySem.HandSPX Builtin Builtin.ObjectAttr
section
variable {M : Model} {A : Around} {E : Value → Shared → Prop} {h : Heap} {g : Array GenState} {d : Drawn} {t : Nat} {os : OsState}
variable {nm q : Str} {C N : Addr} {bs bm bmB : List Value} {hdct : Bool} {sn : List Str} {sub : List Value} {ab : Bool} {col : Option Bool} {dd : Option Addr} {k0 k1 k2 k3 k5 : Option Value} {B newId initId : String}
abbrev clsAt (h : Heap) (nm q : Str) (C N : Addr) (bs bm : List Value) (hdct : Bool) (sn : List Str) (sub : List Value) (ab : Bool) (col : Option Bool) (dd : Option Addr) (k0 k1 k2 k3 k5 : Option Value) (newId : String) : Prop :=
  h.get? C = some (excClassObj nm q C N bs bm hdct sn sub ab col dd k0 k1 k2 k3 k5 newId)
theorem kw_check (F : ExcBaseFacts B newId initId bmB) (hT : ∀ Y : String, bm.contains (.type Y) = bmB.contains (.type Y)) {kw : List (Str × Value)} {Q : Unit → Shared → Prop} (hC : clsAt h nm q C N bs bm hdct sn sub ab col dd k0 k1 k2 k3 k5 newId)
    (hq : Q () ⟨h, g, d, t, os⟩) : wpAny M A (checkBuiltinCall newId ⟨[.ref C], kw⟩) Q E ⟨h, g, d, t, os⟩ := by
  have c1 : (Value.ref C :: bm).contains (.type B) = true := by
    rw [List.contains_cons, hT, F.hasB, Bool.or_true]
  have c2 := F.noStar
  simp only [checkBuiltinCall, F.newKind, F.newSplit, F.newRow]
  repeat (first | refine wpAny_loadPart_at hC ?_ | (refine wpAny_isSubtype_exc hC ?_; rw [c1]) | refine wpAny_staticBase_exc hC ?_ | refine wpAny_madeBy_exc hC ?_ | simp only [bne_self_eq_false, Bool.false_eq_true, if_false] | wp_step)
  exact hq
end
section
variable {prog : Program} {w : World} {A : Around} {E : Value → Shared → Prop} {R : Result → Shared → Prop} {h : Heap} {g : Array GenState} {d : Drawn} {t : Nat} {os : OsState}
variable {nm q : Str} {C N : Addr} {bs bm bmB : List Value} {hdct : Bool} {sn : List Str} {sub : List Value} {ab : Bool} {col : Option Bool} {dd : Option Addr} {k0 k1 k2 k3 k5 : Option Value} {B newId initId : String} {kw : List (Str × Value)} {fI : Addr}
theorem kw_new (F : ExcBaseFacts B newId initId bmB) (hT : ∀ Y : String, bm.contains (.type Y) = bmB.contains (.type Y)) (hC : clsAt h nm q C N bs bm hdct sn sub ab col dd k0 k1 k2 k3 k5 newId)
    (hq : R (.ok (.ret (.ref (h.objs.size + 1)))) ⟨(h.push (W.kdv_tup [])).push (excO C h.objs.size), g, d, t, os⟩) : codeAny (model prog w) A (.builtin newId ⟨[.ref C], kw⟩) R ⟨h, g, d, t, os⟩ := by
  have c0 := F.ends
  have c1 : (Value.ref C :: bm).contains (.type B) = true := by
    rw [List.contains_cons, hT, F.hasB, Bool.or_true]
  have c2 : (Value.ref C :: bm).contains (.type "AttributeError") = false := by
    rw [List.contains_cons, hT, F.noAttr]
    rfl
  have c3 : (Value.ref C :: bm).contains (.type "NameError") = false := by
    rw [List.contains_cons, hT, F.noName]
    rfl
  refine codeAny_builtinAt F.entry ?_
  unfold Builtin.«BaseException.__new__»
  refine PySem.wpAt_bind ?_
  show PySem.wpAt _ _ _ (stack >>= _) _ _ _
  refine PySem.wpAt_bind (PySem.wpAt_stack fun below rest => PySem.wpAt_of_wpAny ?_)
  wp_walk
  refine PySem.wpAt_of_wpAny ?_
  rw [F.owner]
  repeat (first | with_reducible refine wpAny_madeHere_exc F.canon hC ?_ | with_reducible refine wpAny_loadPart_at hC ?_ | (with_reducible refine wpAny_isSubtype_exc hC ?_; first | rw [c1] | rw [c2] | rw [c3]) | wp_step)
  show R _ _
  rw [Heap.size_push]
  exact hq
theorem kw_type (F : ExcBaseFacts B newId initId bmB) (hT : ∀ Y : String, bm.contains (.type Y) = bmB.contains (.type Y)) {Q : Fin → Shared → Prop} (hC : clsAt h nm q C N bs bm hdct sn sub ab col dd k0 k1 k2 k3 k5 newId)
    (hi : W.Looks (model prog w) h (typeLookup (.ref C) "__init__") (some (.ref fI))) (hb : ∀ self, W.Looks (model prog w) h (bindSpecial (.ref fI) self) (.ref fI, [self]))
    (hq : codeAny (model prog w) A (.call (.ref fI) ⟨[.ref (h.objs.size + 1)], kw⟩)
      (fun r s' => match r with
        | .ok (.ret v) => v = .none ∧ Q (.done (.ret (.ref (h.objs.size + 1)))) s'
        | .ok _ => False
        | .error e => E e s')
      ⟨(h.push (W.kdv_tup [])).push (excO C h.objs.size), g, d, t, os⟩) : wpAny (model prog w) A (Builtin.«type.__call__» ⟨[.ref C], kw⟩) Q E ⟨h, g, d, t, os⟩ := by
  repeat (first | with_reducible refine wpAny_loadPart_at hC ?_ | with_reducible refine wpAny_madeBy_exc hC ?_ | wp_step)
  refine codeAny_call_builtin_code (Code.quiet_builtin _ F.quiet) (kw_check F hT hC ?_)
  refine kw_new F hT hC ?_
  show wpAny _ _ _ _ _ _
  have kp : ∀ b o, h.get? b = some o → ((h.push (W.kdv_tup [])).push (excO C h.objs.size)).get? b = some o := fun b o e => Heap.get?_push_of_some _ (Heap.get?_push_of_some _ e)
  have hC1 := kp _ _ hC
  have here : ((h.push (W.kdv_tup [])).push (excO C h.objs.size)).get? (h.objs.size + 1) = some (excO C h.objs.size) := by heap_get
  have cC : (Value.ref C :: bm).contains (.ref C) = true := by simp
  have hi1 := hi.keeps kp
  have hb1 := (hb (.ref (h.objs.size + 1))).keeps kp
  unfold isInstance
  repeat (first | with_reducible refine wpAny_loadPart_at here ?_ | (with_reducible refine wpAny_isSubtype_exc hC1 ?_; rw [cC]) | wp_step)
  show wpAny _ _ (typeLookup (.ref C) _) _ _ _
  refine hi1.at ?_
  refine wpAny_holding (wpAny_bind (hb1.at ?_))
  refine wpAny_bind (wpAny_call (codeAny_mono hq ?_))
  intro r s' z
  rcases r with e | (v | _ | _ | _) <;> first | exact z | exact z.elim | skip
  obtain ⟨rfl, z⟩ := z
  first
    | exact wpAny_pure (wpAny_pure z)
    | (wp_walk; exact z)
theorem kw_call (F : ExcBaseFacts B newId initId bmB) (hT : ∀ Y : String, bm.contains (.type Y) = bmB.contains (.type Y)) (hC : clsAt h nm q C N bs bm hdct sn sub ab col dd k0 k1 k2 k3 k5 newId)
    (hi : W.Looks (model prog w) h (typeLookup (.ref C) "__init__") (some (.ref fI))) (hb : ∀ self, W.Looks (model prog w) h (bindSpecial (.ref fI) self) (.ref fI, [self]))
    (hq : codeAny (model prog w) (A.under (.builtin "type.__call__" ⟨[.ref C], kw⟩)) (.call (.ref fI) ⟨[.ref (h.objs.size + 1)], kw⟩) (W.InitBack (h.objs.size + 1) R) ⟨(h.push (W.kdv_tup [])).push (excO C h.objs.size), g, d, t, os⟩) :
    codeAny (model prog w) A (.call (.ref C) ⟨[], kw⟩) R ⟨h, g, d, t, os⟩ := by
  have f1 := tc_lookup
  have f2 := tc_bind (.ref C)
  have ty : (⟨h, g, d, t, os⟩ : Shared).TypeIs (.ref C) "type" := ⟨_, hC, rfl⟩
  refine codeAny_of_tree ?_
  show wpAny _ _ (callAny (.ref C) _) _ _ _
  repeat (any_goals (first | assumption | with_reducible refine wpAny_loadPart_at hC ?_ | wp_step))
  refine ⟨rfl, ?_⟩
  refine codeAny_call_builtin_at (Code.quiet_builtin _ (by decide +kernel)) entry_typeCall (wpAny_check_type_call_sub hC (kw_type F hT hC hi hb ?_))
  refine codeAny_mono hq ?_
  intro r s' z
  rcases r with e | (v | _ | _ | _) <;> exact z
end
end MoX

/-! # Errors as values: made, held, asked -/
namespace MoL
open PySem PySem.Spec PyProof.Rows L2 MoW

/-! ### what the written part says of an error class over MeansError -/
abbrev veT : List Value := [.type "ValueError", .type "Exception", .type "BaseException", .type "object"]
def ClsRow (K : PySem.W.Frag) (C : Addr) (nm : Str) (bm : List Value) : Prop := ∃ q N bs sn sub ab col dd k0 k1 k2 k3 k5, K.lookup C = some (excClassObj nm q C N bs bm true sn sub ab col dd k0 k1 k2 k3 k5 "ValueError.__new__")
structure ErrC (K : PySem.W.Frag) (M C : Addr) (nm : Str) : Prop where
  row : ClsRow K C nm (.ref M :: veT)
  base : ClsRow K M "MeansError" veT
  sa : PySem.W.findIn K (.ref C) "__setattr__" = some (some (.builtin "object.__setattr__"))
  ga : PySem.W.findIn K (.ref C) "__getattribute__" = some (some (.builtin "BaseException.__getattribute__"))
  gg : PySem.W.findIn K (.ref C) "__getattr__" = some none
  ca : PySem.W.findIn K (.ref C) "__class__" = some (some (.builtin "object.__class__"))
  gd : PySem.W.specialIn K (.builtin "object.__class__") "__get__" = some (some (.builtin "getset_descriptor.__get__"))
  tk : PySem.W.takesIn K (.builtin "object.__class__") = some true
  kp : PySem.W.keepIn K (.ref C) = true
section
variable {K : PySem.W.Frag} {M C C' : Addr} {nm nm' : Str} {bm : List Value}
theorem ClsRow.cls (h : ClsRow K C nm bm) : ∃ cd : ClassData, PySem.W.clsIn K C = some cd ∧ cd.mro = .ref C :: bm ∧ cd.hasDict = true ∧ cd.name = nm := by
  obtain ⟨q, N, bs, sn, sub, ab, col, dd, k0, k1, k2, k3, k5, h⟩ := h
  refine ⟨{ name := nm, bases := bs, mro := .ref C :: bm, ns := N, qualname := q, hasDict := true, slotNames := sn, subclasses := sub, abstract := ab, collection := col, hasDel := false }, ?_, rfl, rfl, rfl⟩
  unfold PySem.W.clsIn
  rw [h] <;> rfl
theorem ClsRow.ty (h : ClsRow K C nm bm) : PySem.W.typeIn K (.ref C) = some (.type "type") := by
  obtain ⟨q, N, bs, sn, sub, ab, col, dd, k0, k1, k2, k3, k5, h⟩ := h
  show (K.lookup C).map _ = _
  rw [h]
  rfl
theorem ClsRow.sub (h : ClsRow K C nm bm) (v : Value) : PySem.W.subIn K (.ref C) v = some ((Value.ref C :: bm).contains v) := by
  obtain ⟨cd, e, m, _⟩ := h.cls
  show PySem.W.mroIn K C v = _
  unfold PySem.W.mroIn
  rw [e, Option.bind_some, m]
  rfl
theorem ClsRow.isC (h : ClsRow K C nm bm) : (PySem.W.clsIn K C).isSome = true := by
  obtain ⟨cd, e, _⟩ := h.cls
  rw [e]
  rfl
theorem ClsRow.dict (h : ClsRow K C nm bm) : PySem.W.hasDictIn K C = true := by
  obtain ⟨cd, e, _, d, _⟩ := h.cls
  unfold PySem.W.hasDictIn
  rw [e]
  exact d
theorem ClsRow.ne (h : ClsRow K C nm bm) (h' : ClsRow K C' nm' bm') (n : nm ≠ nm') : C ≠ C' := fun e => by
  subst e
  obtain ⟨cd, e1, _, _, n1⟩ := h.cls
  obtain ⟨cd', e2, _, _, n2⟩ := h'.cls
  rw [e1] at e2
  cases e2
  exact n (n1.symm.trans n2)
theorem ClsRow.kit (h : ClsRow K C nm bm) (h' : ClsRow K C' nm' bm') : PySem.W.kitOne K (.ref C) (.ref C') = some ((Value.ref C :: bm).contains (.ref C')) := by
  unfold PySem.W.kitOne
  by_cases e : C = C'
  · subst e
    rw [if_pos (by simp)]
    simp
  · rw [if_neg (by simpa using e)]
    show (if _ = true then PySem.W.subIn K (.ref C) (.ref C') else none) = _
    rw [h'.isC, h'.ty, if_pos (by rfl), h.sub]
theorem ErrC.exc (e : ErrC K M C nm) : PySem.W.subIn K (.ref C) (.type "BaseException") = some true := by
  rw [e.row.sub]
  rfl
theorem ErrC.o (e : ErrC K M C nm) : OexC K C := by
  refine ⟨?_, e.sa, e.exc, e.row.ty, e.kp⟩
  obtain ⟨q, N, bs, sn, sub, ab, col, dd, k0, k1, k2, k3, k5, h⟩ := e.row
  exact ⟨_, _, _, _, _, _, _, _, _, _, _, _, _, _, _, h, rfl⟩
theorem ErrC.x (e : ErrC K M C nm) : XfC K C := ⟨e.ga, e.gg, e.exc, e.row.dict⟩
theorem ErrC.c (e : ErrC K M C nm) : ExcC K C := by
  refine ⟨e.ga, e.gg, e.exc, e.row.dict, e.ca, e.gd, e.tk, ?_⟩
  have := e.row.sub (.type "object")
  exact this
theorem ErrC.kit_ne (e : ErrC K M C nm) (e' : ErrC K M C' nm') (n : nm ≠ nm') (n2 : nm' ≠ "MeansError") : PySem.W.kitOne K (.ref C) (.ref C') = some false := by
  rw [e.row.kit e'.row]
  have h1 : C' ≠ C := (e.row.ne e'.row n).symm
  have h2 : C' ≠ M := e'.row.ne e.base n2
  simp [h1, h2]
theorem ErrC.kit_self (e : ErrC K M C nm) : PySem.W.kitOne K (.ref C) (.ref C) = some true := by
  rw [e.row.kit e.row]
  simp
theorem ErrC.kit_base (e : ErrC K M C nm) : PySem.W.kitOne K (.ref C) (.ref M) = some true := by
  rw [e.row.kit e.base]
  simp
theorem ErrC.kit_ve (e : ErrC K M C nm) : PySem.W.kitOne K (.ref C) (.type "ValueError") = some true := by
  unfold PySem.W.kitOne
  rw [if_neg (by simp)]
  show (if PySem.W.kitMeta "ValueError" = true then PySem.W.subIn K (.ref C) (.type "ValueError") else none) = _
  rw [if_pos (by decide +kernel), e.row.sub]
  rfl
theorem ErrC.caught (e : ErrC K M C nm) : PySem.W.exmOne K (.ref C) (.ref M) = some true := by
  unfold PySem.W.exmOne
  have h1 : PySem.W.subIn K (.ref M) (.type "BaseException") = some true := by
    rw [e.base.sub]
    rfl
  rw [h1, if_pos (by rfl)]
  show (if _ = true then PySem.W.subIn K (.ref C) (.ref M) else none) = _
  rw [e.base.isC, e.base.ty, if_pos (by rfl), e.row.sub]
  simp
end

/-! ### an error that is held -/
def ErrAt (C : Addr) (H : Hp) (v : V) (fs : List (Str × V)) : Prop := ∃ a, v = .ref a ∧ ((fs = [] ∧ H a = some (exo a C none)) ∨ ∃ y, H a = some (exo a C (some y)) ∧ H y = some (exd y fs))
theorem ErrAt.same {C : Addr} {H H' : Hp} {v : V} {fs : List (Str × V)} (e : ErrAt C H v fs) (s : Same H H') : ErrAt C H' v fs := by
  obtain ⟨a, rfl, ⟨h1, h2⟩ | ⟨y, h1, h2⟩⟩ := e
  · exact ⟨a, rfl, .inl ⟨h1, s _ _ h2⟩⟩
  · exact ⟨a, rfl, .inr ⟨y, s _ _ h1, s _ _ h2⟩⟩
section
variable {X : Cx} {pins : List (Addr × Obj)} {σ : L2.St} {H : Hp} {s : Shared}
theorem ErrAt.inst {C a : Addr} {fs : List (Str × V)} (I : Inv X pins σ H s) (e : ErrAt C H (.ref a) fs) : ∃ oe od, PySem.W.InstAt s.heap a oe C od := by
  obtain ⟨b, eb, ⟨h1, h2⟩ | ⟨y, h1, h2⟩⟩ := e <;> cases eb
  · obtain ⟨t1, ho⟩ := exo_at I.hok h2
    exact ⟨_, none, ho, rfl, rfl, trivial⟩
  · obtain ⟨t1, ho⟩ := exo_at I.hok h1
    obtain ⟨m, ⟨o, _, _, z, _⟩, _⟩ := exd_at I.hok h2
    exact ⟨_, some o, ho, rfl, rfl, z⟩
end
/-- isinstance of it -/
def rIsO (K : PySem.W.Frag) : List V → Hp → VK → Prop := fun xs H Q => ∃ (v c : V) (cv : Value) (C : Addr) (fs : List (Str × V)) (b : Bool), xs = [v, c] ∧ ErrAt C H v fs ∧ ExcC K C ∧ ClsV c cv ∧ PySem.W.kitOne K (.ref C) cv = some b ∧ Q (.bl b) H
theorem call_isO {X : Cx} : CallR X (.builtin "isinstance") (rIsO X.K) := by
  intro pins s σ H xs us Q I r h
  obtain ⟨v, c, cv, C, fs, b, rfl, he, ce, hc, e, q⟩ := h
  obtain ⟨u1, u2, rfl, r1, r2⟩ := vals2 r
  have e2 := hc.eq r2
  subst e2
  obtain ⟨a, rfl, he'⟩ := id he
  cases (show u1 = Value.ref a from r1)
  obtain ⟨oe, od, J⟩ := he.inst I
  have hcl : (PySem.W.clsIn X.K C).isSome = true := by
    obtain ⟨cd, hcd, _⟩ := PySem.W.any_some ce.hd
    rw [hcd]
    rfl
  exact PySem.W.kia_one (PySem.W.kitx_exc hcl ce.hg ce.hk ce.hs ce.ha ce.hn ce.ht ce.hm) I.kIn J e (fun z => nomatch z) fun tk => ⟨.bl b, H, I.tok tk, rfl, q⟩
/-- a field of it -/
def tOxf (K : PySem.W.Frag) (f : Str) (te : TE) : TE := fun σ H Q => te σ H fun x G => ∃ (C : Addr) (fs : List (Str × V)) (v : V), ErrAt C G x fs ∧ XfC K C ∧ PySem.W.findIn K (.ref C) f = some none ∧ fs.lookup f = some v ∧ Q v G
theorem pe_oxf {X : Cx} {e : Expr} {te : TE} {pos : Pos} {n : Str} (he : PE X e te) (hb : attributeBase e n X.env (eval e X.env) = eval e X.env := by rfl) : PE X (.Attribute e n pos) (tOxf X.K n te) := by
  constructor
  intro pins s0 σ H0 Q I0 h
  refine attr_of hb (thn (he.run pins s0 σ H0 _ I0 h) ?_)
  rintro u s ⟨x, H, I, rx, C, fs, v, ea, T, hno, hl, q⟩
  obtain ⟨a, rfl, h2⟩ := ea
  cases (show u = Value.ref a from rx)
  rcases h2 with ⟨rfl, _⟩ | ⟨y, h1, h2⟩
  · cases hl
  · obtain ⟨t1, ho⟩ := exo_at I.hok h1
    obtain ⟨mA, hns, hr⟩ := exd_at I.hok h2
    obtain ⟨od, hod, hlk⟩ := lookIn_ns hns
    obtain ⟨u, hu, ru⟩ := RelO.some_of (v := v) (o := mA n) (by rw [← hl]; exact hr n)
    have J : PySem.W.InstAt s.heap a _ C (some od) := ⟨ho, rfl, rfl, hod⟩
    exact HandSPX.exc_get I.kIn J T.ga T.gg T.exC (PySem.W.findObj_own T.hdC hno rfl (by rw [hlk, hu])) (handed_of ru) ⟨v, H, I.tok _, ru, q⟩

/-! ### the making -/
theorem imp_pe {X : Cx} {e : Expr} {t t' : TE} (h : PE X e t) (i : ∀ σ H Q, t' σ H Q → t σ H Q) : PE X e t' := ⟨fun pins s σ H Q I q => h.run pins s σ H Q I (i σ H Q q)⟩
def tMkE (C : Addr) (sp : Sp) (g : List V → List V) (ta : TA) : TE := fun σ H Q => ta σ H fun vs G => vs.length ≤ 1000 ∧ ∀ a, G a = none → sp (g (.ref a :: vs)) (upd G a (exo a C none)) (fun v G2 => v = .non ∧ Q (.ref a) G2) (fun _ _ _ => False)
section
variable {X : Cx} {CX : CXT} {k : Nat} {fI C M : Addr} {fd : FuncData} {ps ks : List Str} {sp : Sp} {x nm : Str} {p pos : Pos} {e : Expr} {es : List Expr} {ta tk : TA} {kws : List Keyword}
theorem pe_mkE (T : ErrC X.K M C nm) (iC : PySem.W.findIn X.K (.ref C) "__init__" = some (some (.ref fI))) (tI : PySem.W.typeIn X.K (.ref fI) = some (.type "function")) (F : FnOk X.prog X.w X.K X.mg X.base CX k fI fd ps sp) (room : Room (k + 1) X.A) (hb : Binds X.K fd ps [])
    (hx : Passes CX X (fun _ _ _ => False)) (hg : Gl X x) (hm : X.mg x = some (.ref C)) (ha : PA X (e :: es) ta) (hdb : (x == ("__debug__" : Str)) = false := by decide) (he : starEach (e :: es) X.env = (false, eval e X.env) :: starEach es X.env := by rfl) (hpl : (backTo pos (starEach es X.env)).any (·.1) = false := by rfl) :
    PE X (.Call (.Name x p) (e :: es) [] pos) (tMkE C sp id ta) := by
  constructor
  intro pins s0 σ H0 Q I0 h
  obtain ⟨q, N, bs, sn, sub, ab, col, dd, k0, k1, k2, k3, k5, hC⟩ := T.row
  refine wpAny_Call_Name_kw (ld_glob I0 hg hm ?_ hdb)
  refine PySem.W.callWith_K (h₀ := X.base) I0.ok.mod.kin T.kp ?_ he hpl
  refine thn (ha.run pos pins s0 σ H0 _ I0 h) ?_
  rintro us s1 ⟨vs, H1, I1, r1, hz, q1⟩
  refine ⟨I1.kIn, ?_⟩
  show wpAny _ _ (call (.ref C) us) _ _ _
  obtain ⟨hp, g, dr, tk, os⟩ := s1
  have hsz : hp.objs.size ≤ hp.objs.size + 1 := Nat.le_succ _
  have hq := q1 (hp.objs.size + 1) (I1.hok.fresh hsz)
  have kk : ∀ b o, hp.get? b = some o → ((hp.push (PySem.W.kdv_tup us)).push (PySem.HandSPX.excO C hp.objs.size)).get? b = some o := fun b o z => Heap.get?_push_of_some _ (Heap.get?_push_of_some _ z)
  have here : ((hp.push (PySem.W.kdv_tup us)).push (PySem.HandSPX.excO C hp.objs.size)).get? (hp.objs.size + 1) = some (PySem.HandSPX.excO C hp.objs.size) := by heap_get
  have I2 : Inv X pins σ (upd H1 (hp.objs.size + 1) (exo (hp.objs.size + 1) C none)) ⟨(hp.push (PySem.W.kdv_tup us)).push (PySem.HandSPX.excO C hp.objs.size), g, dr, tk, os⟩ :=
    I1.laid (t' := tk) (a := hp.objs.size + 1) (o := exo (hp.objs.size + 1) C none) (h' := (hp.push (PySem.W.kdv_tup us)).push (PySem.HandSPX.excO C hp.objs.size)) kk hsz (exo_ok here)
  have r2 : Vals (V.ref (hp.objs.size + 1) :: vs) (Value.ref (hp.objs.size + 1) :: us) := .cons rfl r1
  have hl : (Value.ref (hp.objs.size + 1) :: us ++ []).length = ps.length := by
    rw [List.append_nil, ← r2.length]
    exact F.len _ _ _ _ hq
  have hus : us.length ≤ sizeLine := by
    rw [← Paired.length r1, sizeLine_eq]
    omega
  have bd := hb _ (Value.ref (hp.objs.size + 1) :: us) I2.kIn hl
  rw [List.append_nil] at bd
  have run := F.run _ X.stack _ _ ⟨Value.ref (hp.objs.size + 1) :: us, []⟩ _ _ _ _ (room.make C us []) (I2.env0.make C us []) bd r2 hq
  refine wpAny_call (PySem.HandSPX.call_own PySem.F.excBase_ValueError (fun Y => PySem.HandSPX.refsVE_contains Y (.ref M :: veT) rfl) (I1.kIn _ _ hC) (PySem.W.looks_findIn I1.kIn iC) (fun self => PySem.W.bind_fn I1.kIn self tI) hus (codeAny_mono run ?_))
  intro r s' hq'
  rcases r with er | fl
  · exact hx pins σ _ _ er s' I2 hq'
  · cases fl with
    | ret u =>
      obtain ⟨v, G, I3, rv, ev, q3⟩ := I2.after hq'
      cases ev
      exact ⟨rv, ⟨V.ref (hp.objs.size + 1), G, I3, rfl, q3⟩⟩
    | next => exact hq'.elim
    | brk => exact hq'.elim
    | cont => exact hq'.elim
/-- with keywords alone -/
theorem pe_mkEk {gL : List Value → List Value → List Value} {gV : List V → List V → List V} {tk : TA} (T : ErrC X.K M C nm) (iC : PySem.W.findIn X.K (.ref C) "__init__" = some (some (.ref fI))) (tI : PySem.W.typeIn X.K (.ref fI) = some (.type "function")) (F : FnOk X.prog X.w X.K X.mg X.base CX k fI fd ps sp)
    (room : Room (k + 1) X.A) (hb : KBn X.K fd ps 1 ks gL gV) (hx : Passes CX X (fun _ _ _ => False)) (hg : Gl X x) (hm : X.mg x = some (.ref C)) (hkw : PK X kws tk)
    (hall : (backToKw pos (keywordEach kws X.env)).all (·.1.isSome) = true := by rfl) (hks : (backToKw pos (keywordEach kws X.env)).filterMap (·.1) = ks := by rfl) (hdb : (x == ("__debug__" : Str)) = false := by decide)
    (hpl : ((backTo pos (starEach [] X.env)).any (·.1) || (backToKw pos (keywordEach kws X.env)).any (·.1.isNone)) = false := by rfl) :
    PE X (.Call (.Name x p) [] kws pos) (fun σ H Q => tk σ H fun zs G => zs.length = ks.length ∧ ∀ a, G a = none → sp (gV [.ref a] zs) (upd G a (exo a C none)) (fun v G2 => v = .non ∧ Q (.ref a) G2) (fun _ _ _ => False)) := by
  constructor
  intro pins s0 σ H0 Q I0 h
  obtain ⟨q, N, bs, sn, sub, ab, col, dd, k0, k1, k2, k3, k5, hC⟩ := T.row
  refine wpAny_Call_Name_kw (ld_glob I0 hg hm ?_ hdb)
  refine PySem.W.callWith_KW0 (h₀ := X.base) I0.ok.mod.kin T.kp hall ?_ hpl
  refine thn (hkw.run pos pins s0 σ H0 _ I0 h) ?_
  rintro ws s1 ⟨zs, H1, I1, rz, hz, q1⟩
  refine ⟨I1.kIn, ?_⟩
  rw [hks]
  show wpAny _ _ (call (.ref C) [] (ks.zip ws)) _ _ _
  obtain ⟨hp, g, dr, tk, os⟩ := s1
  have hsz : hp.objs.size ≤ hp.objs.size + 1 := Nat.le_succ _
  have hq := q1 (hp.objs.size + 1) (I1.hok.fresh hsz)
  have kk : ∀ b o, hp.get? b = some o → ((hp.push (PySem.W.kdv_tup [])).push (PySem.HandSPX.excO C hp.objs.size)).get? b = some o := fun b o z => Heap.get?_push_of_some _ (Heap.get?_push_of_some _ z)
  have here : ((hp.push (PySem.W.kdv_tup [])).push (PySem.HandSPX.excO C hp.objs.size)).get? (hp.objs.size + 1) = some (PySem.HandSPX.excO C hp.objs.size) := by heap_get
  have I2 : Inv X pins σ (upd H1 (hp.objs.size + 1) (exo (hp.objs.size + 1) C none)) ⟨(hp.push (PySem.W.kdv_tup [])).push (PySem.HandSPX.excO C hp.objs.size), g, dr, tk, os⟩ :=
    I1.laid (t' := tk) (a := hp.objs.size + 1) (o := exo (hp.objs.size + 1) C none) (h' := (hp.push (PySem.W.kdv_tup [])).push (PySem.HandSPX.excO C hp.objs.size)) kk hsz (exo_ok here)
  have r1 : Vals [V.ref (hp.objs.size + 1)] [Value.ref (hp.objs.size + 1)] := .cons rfl .nil
  have r2 := hb.rel r1 rz
  have run := F.run _ X.stack _ _ ⟨[Value.ref (hp.objs.size + 1)], ks.zip ws⟩ _ _ _ _ (room.make C [] (ks.zip ws)) (I2.env0.make C [] (ks.zip ws)) (hb.to _ _ ws I2.kIn rfl (rz.length.symm.trans hz)) r2 hq
  refine wpAny_call (MoX.kw_call PySem.F.excBase_ValueError (fun Y => PySem.HandSPX.refsVE_contains Y (.ref M :: veT) rfl) (I1.kIn _ _ hC) (PySem.W.looks_findIn I1.kIn iC) (fun self => PySem.W.bind_fn I1.kIn self tI) (codeAny_mono run ?_))
  intro r s' hq'
  rcases r with er | fl
  · exact hx pins σ _ _ er s' I2 hq'
  · cases fl with
    | ret u =>
      obtain ⟨v, G, I3, rv, ev, q3⟩ := I2.after hq'
      cases ev
      exact ⟨rv, ⟨V.ref (hp.objs.size + 1), G, I3, rfl, q3⟩⟩
    | next => exact hq'.elim
    | brk => exact hq'.elim
    | cont => exact hq'.elim
/-- an error class without own __init__, called with nothing -/
theorem bare_made {A : Around} {W : Value → Shared → Prop} {pins : List (Addr × Obj)} {σ : L2.St} {H : Hp} {s : Shared} {Q : Value → Shared → Prop} (xn : PySem.W.excIn X.K C [.type "ValueError", .type "Exception", .type "BaseException", .type "object"] "ValueError.__new__" = true) (I : Inv X pins σ H s)
    (h : ∀ h' a, Heap.MadeExcOf s.heap h' a (.ref C) [] → H a = none → Q (.ref a) { s with heap := h' }) : wpAny (model X.prog X.w) A (call (.ref C) []) Q W s := by
  obtain ⟨bm, N, nm, qn, bs, hdct, sn, sub, ab, col, dd, k0, k1, k2, k3, k5, mN, hC, hN, hni, T⟩ := exc_obj I.kIn xn
  obtain ⟨hp, g, dr, tk, os⟩ := s
  exact wpAny_call_exc_subT PySem.F.excBase_ValueError T hC hN hni (fun h' a hm => h h' a hm (I.hok.gone hm.new)) (Nat.zero_le _)
theorem pe_mk0 (T : ErrC X.K M C nm) (xn : PySem.W.excIn X.K C [.type "ValueError", .type "Exception", .type "BaseException", .type "object"] "ValueError.__new__" = true) (hg : Gl X x) (hm : X.mg x = some (.ref C)) (hdb : (x == ("__debug__" : Str)) = false := by decide) :
    PE X (.Call (.Name x p) [] [] pos) (fun σ H Q => ∀ H' v, Same H H' → ErrAt C H' v [] → Q v H') := by
  constructor
  intro pins s σ H Q I h
  refine wpAny_Call_Name_kw (ld_glob I hg hm ?_ hdb)
  refine PySem.W.callWith_K0 I.kIn T.kp ?_
  refine bare_made xn I fun h' a hmd ha => ?_
  obtain ⟨t, ht, _, _⟩ := hmd.there
  have J : Inv X pins σ (upd H a (exo a C none)) { s with heap := h' } := I.laidN hmd.keeps hmd.new ha (exo_ok ht)
  refine ⟨.ref a, _, J, rfl, h _ _ (fun b o q => ?_) ⟨a, rfl, .inl ⟨rfl, upd_same⟩⟩⟩
  rw [upd_ne (ne_of_none q ha)]
  exact q
/-- raise of it -/
theorem pmk_mk0 (T : ErrC X.K M C nm) (xn : PySem.W.excIn X.K C [.type "ValueError", .type "Exception", .type "BaseException", .type "object"] "ValueError.__new__" = true) (hg : Gl X x) (hm : X.mg x = some (.ref C)) (hdb : (x == ("__debug__" : Str)) = false := by decide) :
    PMk X (.Call (.Name x p) [] [] pos) (fun σ H Q => Q (.ref C) none H) := by
  intro pins s σ H Q I h
  refine wpAny_Call_Name_kw (ld_glob I hg hm ?_ hdb)
  refine PySem.W.callWith_K0 I.kIn T.kp ?_
  exact bare_made xn I fun h' a hmd ha => mk_of I hmd (raises_own T.exc T.row.ty) h ha
end

/-! ### the usual errors: one field or two, given by variables -/
theorem vals_rev : ∀ {zs : List V} {ws : List Value}, Vals zs ws → Vals zs.reverse ws.reverse
  | _, _, .nil => .nil
  | _, _, .cons r t => by
    rw [List.reverse_cons, List.reverse_cons]
    exact (vals_rev t).append (.cons r .nil)
theorem sames {H : Hp} {y a : Addr} {o o' : HO} (hy : H y = none) (ha : H a = none) : Same H (upd (upd H y o) a o') := fun b u q => by
  rw [upd_ne (ne_of_none q ha), upd_ne (ne_of_none q hy)]
  exact q
def tMk1 (C : Addr) (f : Str) (i : Nat) : TE := fun σ H Q => ∃ v, σ[i]? = some (some v) ∧ ∀ H' x, Same H H' → ErrAt C H' x [(f, v)] → Q x H'
def tMk2 (C : Addr) (f g : Str) (i j : Nat) : TE := fun σ H Q => ∃ v, σ[i]? = some (some v) ∧ ∃ u, σ[j]? = some (some u) ∧ ∀ H' x, Same H H' → ErrAt C H' x [(g, u), (f, v)] → Q x H'
/-- the __init__ of a class with two fields -/
def sp_keep2 (K : PySem.W.Frag) (f g : Str) : Sp := fun vs H Q _ => ∃ (e C : Addr) (v u : V), vs = [.ref e, v, u] ∧ OexC K C ∧ PySem.W.findIn K (.ref C) f = some none ∧ PySem.W.findIn K (.ref C) g = some none ∧ H e = some (exo e C none) ∧
  ∀ y, H y = none → y ≠ e → Q .non (upd (upd (upd H y (exd y [(f, v)])) e (exo e C (some y))) y (exd y [(g, u), (f, v)]))
theorem keep1 {K : PySem.W.Frag} {M C : Addr} {nm f : Str} {v : V} {H : Hp} {Q : VK} {W : XK} (T : ErrC K M C nm) (hn : PySem.W.findIn K (.ref C) f = some none) (h : ∀ H' x, Same H H' → ErrAt C H' x [(f, v)] → Q x H') (a : Addr) (na : H a = none) :
    sp_keep K f [.ref a, v] (upd H a (exo a C none)) (fun w G => w = .non ∧ Q (.ref a) G) W := by
  refine ⟨a, C, v, rfl, T.o, hn, upd_same, fun y ny yne => ⟨rfl, h _ _ (fun b o q => ?_) ⟨a, rfl, .inr ⟨y, upd_same, ?_⟩⟩⟩⟩
  · have hy : H y = none := by
      rw [upd_ne yne] at ny
      exact ny
    rw [upd_ne (ne_of_none q na), upd_ne (ne_of_none q hy), upd_ne (ne_of_none q na)]
    exact q
  · rw [upd_ne yne, upd_same]
theorem keep2 {K : PySem.W.Frag} {M C : Addr} {nm f g : Str} {v u : V} {H : Hp} {Q : VK} {W : XK} (T : ErrC K M C nm) (hn : PySem.W.findIn K (.ref C) f = some none) (hn2 : PySem.W.findIn K (.ref C) g = some none) (h : ∀ H' x, Same H H' → ErrAt C H' x [(g, u), (f, v)] → Q x H') (a : Addr) (na : H a = none) :
    sp_keep2 K f g [.ref a, v, u] (upd H a (exo a C none)) (fun w G => w = .non ∧ Q (.ref a) G) W := by
  refine ⟨a, C, v, u, rfl, T.o, hn, hn2, upd_same, fun y ny yne => ⟨rfl, h _ _ (fun b o q => ?_) ⟨a, rfl, .inr ⟨y, ?_, upd_same⟩⟩⟩⟩
  · have hy : H y = none := by
      rw [upd_ne yne] at ny
      exact ny
    rw [upd_ne (ne_of_none q hy), upd_ne (ne_of_none q na), upd_ne (ne_of_none q hy), upd_ne (ne_of_none q na)]
    exact q
  · rw [upd_ne (Ne.symm yne), upd_same]
section
variable {X : Cx} {CX : CXT} {k i j : Nat} {fI C M : Addr} {fd : FuncData} {ps ks : List Str} {x nm f g : Str} {p pos kp kp2 : Pos} {e e2 : Expr}
theorem pe_mk1 (T : ErrC X.K M C nm) (iC : PySem.W.findIn X.K (.ref C) "__init__" = some (some (.ref fI))) (tI : PySem.W.typeIn X.K (.ref fI) = some (.type "function")) (F : FnOk X.prog X.w X.K X.mg X.base CX k fI fd ps (sp_keep X.K f)) (room : Room (k + 1) X.A) (hb : Binds X.K fd ps [])
    (hx : Passes CX X (fun _ _ _ => False)) (hg : Gl X x) (hm : X.mg x = some (.ref C)) (hn : PySem.W.findIn X.K (.ref C) f = some none) (ha : PA X [e] (tCons (tVar i) tNil)) (hdb : (x == ("__debug__" : Str)) = false := by decide) (he : starEach [e] X.env = (false, eval e X.env) :: starEach [] X.env := by rfl) :
    PE X (.Call (.Name x p) [e] [] pos) (tMk1 C f i) :=
  imp_pe (pe_mkE T iC tI F room hb hx hg hm ha hdb he (by rfl)) fun σ H Q ⟨v, hv, h⟩ => ⟨v, hv, by show 1 ≤ 1000; decide, keep1 T hn h⟩
theorem pe_mk2 (T : ErrC X.K M C nm) (iC : PySem.W.findIn X.K (.ref C) "__init__" = some (some (.ref fI))) (tI : PySem.W.typeIn X.K (.ref fI) = some (.type "function")) (F : FnOk X.prog X.w X.K X.mg X.base CX k fI fd ps (sp_keep2 X.K f g)) (room : Room (k + 1) X.A) (hb : Binds X.K fd ps [])
    (hx : Passes CX X (fun _ _ _ => False)) (hg : Gl X x) (hm : X.mg x = some (.ref C)) (hn : PySem.W.findIn X.K (.ref C) f = some none) (hn2 : PySem.W.findIn X.K (.ref C) g = some none) (ha : PA X [e, e2] (tCons (tVar i) (tCons (tVar j) tNil))) (hdb : (x == ("__debug__" : Str)) = false := by decide)
    (he : starEach [e, e2] X.env = (false, eval e X.env) :: starEach [e2] X.env := by rfl) (hpl : (backTo pos (starEach [e2] X.env)).any (·.1) = false := by rfl) : PE X (.Call (.Name x p) [e, e2] [] pos) (tMk2 C f g i j) :=
  imp_pe (pe_mkE T iC tI F room hb hx hg hm ha hdb he hpl) fun σ H Q ⟨v, hv, u, hu, h⟩ => ⟨v, hv, u, hu, by show 2 ≤ 1000; decide, keep2 T hn hn2 h⟩
theorem pe_mk1k (T : ErrC X.K M C nm) (iC : PySem.W.findIn X.K (.ref C) "__init__" = some (some (.ref fI))) (tI : PySem.W.typeIn X.K (.ref fI) = some (.type "function")) (F : FnOk X.prog X.w X.K X.mg X.base CX k fI fd ps (sp_keep X.K f)) (room : Room (k + 1) X.A)
    (hb : KBn X.K fd ps 1 [f] (fun us ws => us ++ ws.reverse) (fun vs zs => vs ++ zs.reverse)) (hx : Passes CX X (fun _ _ _ => False)) (hg : Gl X x) (hm : X.mg x = some (.ref C)) (hn : PySem.W.findIn X.K (.ref C) f = some none) (ha : PE X e (tVar i))
    (hall : (backToKw pos (keywordEach [⟨some f, e, kp⟩] X.env)).all (·.1.isSome) = true := by rfl) (hks : (backToKw pos (keywordEach [⟨some f, e, kp⟩] X.env)).filterMap (·.1) = [f] := by rfl) (hdb : (x == ("__debug__" : Str)) = false := by decide)
    (hpl : ((backTo pos (starEach [] X.env)).any (·.1) || (backToKw pos (keywordEach [⟨some f, e, kp⟩] X.env)).any (·.1.isNone)) = false := by rfl) : PE X (.Call (.Name x p) [] [⟨some f, e, kp⟩] pos) (tMk1 C f i) :=
  imp_pe (pe_mkEk T iC tI F room hb hx hg hm (pk_cons ha pk_nil) hall hks hdb hpl) fun σ H Q ⟨v, hv, h⟩ => ⟨v, hv, rfl, keep1 T hn h⟩
theorem pe_mk2k (T : ErrC X.K M C nm) (iC : PySem.W.findIn X.K (.ref C) "__init__" = some (some (.ref fI))) (tI : PySem.W.typeIn X.K (.ref fI) = some (.type "function")) (F : FnOk X.prog X.w X.K X.mg X.base CX k fI fd ps (sp_keep2 X.K f g)) (room : Room (k + 1) X.A)
    (hb : KBn X.K fd ps 1 [g, f] (fun us ws => us ++ ws.reverse) (fun vs zs => vs ++ zs.reverse)) (hx : Passes CX X (fun _ _ _ => False)) (hg : Gl X x) (hm : X.mg x = some (.ref C)) (hn : PySem.W.findIn X.K (.ref C) f = some none) (hn2 : PySem.W.findIn X.K (.ref C) g = some none) (ha : PE X e (tVar j)) (ha2 : PE X e2 (tVar i))
    (hall : (backToKw pos (keywordEach [⟨some g, e, kp⟩, ⟨some f, e2, kp2⟩] X.env)).all (·.1.isSome) = true := by rfl) (hks : (backToKw pos (keywordEach [⟨some g, e, kp⟩, ⟨some f, e2, kp2⟩] X.env)).filterMap (·.1) = [g, f] := by rfl) (hdb : (x == ("__debug__" : Str)) = false := by decide)
    (hpl : ((backTo pos (starEach [] X.env)).any (·.1) || (backToKw pos (keywordEach [⟨some g, e, kp⟩, ⟨some f, e2, kp2⟩] X.env)).any (·.1.isNone)) = false := by rfl) : PE X (.Call (.Name x p) [] [⟨some g, e, kp⟩, ⟨some f, e2, kp2⟩] pos) (tMk2 C f g i j) :=
  imp_pe (pe_mkEk T iC tI F room hb hx hg hm (pk_cons ha (pk_cons ha2 pk_nil)) hall hks hdb hpl) fun σ H Q ⟨v, hv, u, hu, h⟩ => ⟨u, hu, v, hv, rfl, keep2 T hn hn2 h⟩
end
theorem mk_keep2 {K : PySem.W.Frag} {C : Addr} {f g : Str} {v u : V} {H : Hp} {Q : XK} (T : OexC K C) (hn : PySem.W.findIn K (.ref C) f = some none) (hn2 : PySem.W.findIn K (.ref C) g = some none) (q : ∀ y, H y = none → Q (.ref C) (some y) (upd H y (.xd [(g, u), (f, v)]))) :
    ([v, u] : List V).length ≤ 1000 ∧ ∀ a, H a = none → sp_keep2 K f g (.ref a :: ([v, u] ++ [])) (upd H a (exo a C none))
      (fun w G => w = .non ∧ ∃ (d : Addr) (fs : List (Str × V)), G a = some (exo a C (some d)) ∧ G d = some (exd d fs) ∧ H d = none ∧ Q (.ref C) (some d) (upd (del G a) d (.xd fs))) (fun _ _ _ => False) := by
  refine ⟨by show 2 ≤ 1000; decide, fun a na => ⟨a, C, v, u, rfl, T, hn, hn2, upd_same, fun y ny yne => ⟨rfl, y, [(g, u), (f, v)], ?_, upd_same, ?_, ?_⟩⟩⟩
  · rw [upd_ne (Ne.symm yne), upd_same]
  · rw [upd_ne yne] at ny
    exact ny
  · rw [upd_ne yne] at ny
    have e : upd (del (upd (upd (upd (upd H a (exo a C none)) y (exd y [(f, v)])) a (exo a C (some y))) y (exd y [(g, u), (f, v)])) a) y (.xd [(g, u), (f, v)]) = upd H y (.xd [(g, u), (f, v)]) := by
      funext b
      by_cases hb : b = y
      · subst hb
        rw [upd_same, upd_same]
      · rw [upd_ne hb, upd_ne hb]
        by_cases hba : b = a
        · subst hba
          rw [del_same, na]
        · rw [del_ne hba, upd_ne hb, upd_ne hba, upd_ne hb, upd_ne hba]
    rw [e]
    exact q y ny
/-! ### a short text some times -/
def rRepW : R2 := fun x y H Q => ∃ n : Int, x = .str "w" ∧ y = .int n ∧ 0 ≤ n ∧ n < 9 ∧ ∀ z : Str, Q (.str z) H
theorem op_repw {X : Cx} : OpR X (binaryOp .Mult) rRepW := by
  intro pins s σ H x y v u Q I rx ry h
  obtain ⟨n, rfl, rfl, h0, h1, q⟩ := h
  obtain ⟨t, rfl⟩ := rx
  obtain ⟨t2, rfl⟩ := ry
  rcases (by omega : n = 0 ∨ n = 1 ∨ n = 2 ∨ n = 3 ∨ n = 4 ∨ n = 5 ∨ n = 6 ∨ n = 7 ∨ n = 8) with e | e | e | e | e | e | e | e | e <;> subst e
  all_goals
    refine PySem.P.mul_str (by decide) (fun h1 _ => by first | decide | exact absurd (by decide) h1) (fun h1 _ => by first | decide | exact absurd (by decide) h1) ?_
    first
      | exact ⟨.str _, H, I, ⟨_, rfl⟩, q _⟩
      | exact ⟨by decide, ⟨.str _, H, I.tok _, ⟨_, rfl⟩, q _⟩⟩
end MoL

namespace Mo
open PySem PySem.Spec PyProof.Rows L2 MoL MoW
open C8 (pss_cut tCut)
/-! ### the text -/
def topS (i : Nat) : Stmt := PySem.Challenge.pw_momentrows_k69_errors_and_their_fields.main.body.getD i (.Pass ⟨0, 0, 0, 0⟩)
abbrev s_NoRatio___init__ : Stmt := inClass (topS 2) 0
abbrev N_NoRatio___init__ : List Str := ["self", "word"]
theorem sc_NoRatio___init__ : FnScope N_NoRatio___init__ ["self", "word"] (defScope s_NoRatio___init__) := ⟨rfl, rfl, rfl, by decide +kernel, rfl, by decide +kernel, by decide +kernel⟩
abbrev s_NoNumber___init__ : Stmt := inClass (topS 5) 0
abbrev N_NoNumber___init__ : List Str := ["self", "word"]
theorem sc_NoNumber___init__ : FnScope N_NoNumber___init__ ["self", "word"] (defScope s_NoNumber___init__) := ⟨rfl, rfl, rfl, by decide +kernel, rfl, by decide +kernel, by decide +kernel⟩
abbrev s_NoPlace___init__ : Stmt := inClass (topS 6) 0
abbrev N_NoPlace___init__ : List Str := ["self", "part"]
theorem sc_NoPlace___init__ : FnScope N_NoPlace___init__ ["self", "part"] (defScope s_NoPlace___init__) := ⟨rfl, rfl, rfl, by decide +kernel, rfl, by decide +kernel, by decide +kernel⟩
abbrev s_NoRow___init__ : Stmt := inClass (topS 8) 0
abbrev N_NoRow___init__ : List Str := ["self", "index"]
theorem sc_NoRow___init__ : FnScope N_NoRow___init__ ["self", "index"] (defScope s_NoRow___init__) := ⟨rfl, rfl, rfl, by decide +kernel, rfl, by decide +kernel, by decide +kernel⟩
abbrev s_NoLot___init__ : Stmt := inClass (topS 10) 0
abbrev N_NoLot___init__ : List Str := ["self", "part"]
theorem sc_NoLot___init__ : FnScope N_NoLot___init__ ["self", "part"] (defScope s_NoLot___init__) := ⟨rfl, rfl, rfl, by decide +kernel, rfl, by decide +kernel, by decide +kernel⟩
abbrev s_NoBar___init__ : Stmt := inClass (topS 12) 0
abbrev N_NoBar___init__ : List Str := ["self", "part"]
theorem sc_NoBar___init__ : FnScope N_NoBar___init__ ["self", "part"] (defScope s_NoBar___init__) := ⟨rfl, rfl, rfl, by decide +kernel, rfl, by decide +kernel, by decide +kernel⟩
abbrev s_NoWeight___init__ : Stmt := inClass (topS 14) 0
abbrev N_NoWeight___init__ : List Str := ["self", "most"]
theorem sc_NoWeight___init__ : FnScope N_NoWeight___init__ ["self", "most"] (defScope s_NoWeight___init__) := ⟨rfl, rfl, rfl, by decide +kernel, rfl, by decide +kernel, by decide +kernel⟩
abbrev s_NoFit___init__ : Stmt := inClass (topS 15) 0
abbrev N_NoFit___init__ : List Str := ["self", "low", "high"]
theorem sc_NoFit___init__ : FnScope N_NoFit___init__ ["self", "low", "high"] (defScope s_NoFit___init__) := ⟨rfl, rfl, rfl, by decide +kernel, rfl, by decide +kernel, by decide +kernel⟩
abbrev s_NoShares___init__ : Stmt := inClass (topS 16) 0
abbrev N_NoShares___init__ : List Str := ["self", "index"]
theorem sc_NoShares___init__ : FnScope N_NoShares___init__ ["self", "index"] (defScope s_NoShares___init__) := ⟨rfl, rfl, rfl, by decide +kernel, rfl, by decide +kernel, by decide +kernel⟩
abbrev s_NoText___init__ : Stmt := inClass (topS 19) 0
abbrev N_NoText___init__ : List Str := ["self", "part"]
theorem sc_NoText___init__ : FnScope N_NoText___init__ ["self", "part"] (defScope s_NoText___init__) := ⟨rfl, rfl, rfl, by decide +kernel, rfl, by decide +kernel, by decide +kernel⟩
abbrev s__law_cell : Stmt := topS 21
abbrev N__law_cell : List Str := ["_law_script", "_law_k"]
theorem sc__law_cell : FnScope N__law_cell ["_law_script", "_law_k"] (defScope s__law_cell) := ⟨rfl, rfl, rfl, by decide +kernel, rfl, by decide +kernel, by decide +kernel⟩
abbrev s__law_draw : Stmt := topS 22
abbrev N__law_draw : List Str := ["_law_cell_here", "_law_many", "_law_base", "_law_found", "_law_rest", "_law_k", "_law_number"]
theorem sc__law_draw : FnScope N__law_draw ["_law_cell_here", "_law_many", "_law_base"] (defScope s__law_draw) := ⟨rfl, rfl, rfl, by decide +kernel, rfl, by decide +kernel, by decide +kernel⟩
abbrev s__law_is : Stmt := topS 23
abbrev N__law_is : List Str := ["_law_error", "_law_which"]
theorem sc__law_is : FnScope N__law_is ["_law_error", "_law_which"] (defScope s__law_is) := ⟨rfl, rfl, rfl, by decide +kernel, rfl, by decide +kernel, by decide +kernel⟩
abbrev s__law_made : Stmt := topS 24
abbrev N__law_made : List Str := ["_law_one", "_law_other", "_law_named", "_law_made_here"]
theorem sc__law_made : FnScope N__law_made ["_law_one", "_law_other", "_law_named"] (defScope s__law_made) := ⟨rfl, rfl, rfl, by decide +kernel, rfl, by decide +kernel, by decide +kernel⟩
abbrev s__law_caught : Stmt := topS 25
abbrev N__law_caught : List Str := ["_law_which", "_law_one", "_law_other", "_law_caught_here"]
theorem sc__law_caught : FnScope N__law_caught ["_law_which", "_law_one", "_law_other"] (defScope s__law_caught) := ⟨rfl, rfl, rfl, by decide +kernel, rfl, by decide +kernel, by decide +kernel⟩
abbrev s_law : Stmt := topS 26
abbrev N_law : List Str := ["_law_script", "_law_digits", "_law_number", "_law_values", "_law_one", "_law_other", "_law_named", "_law_made_here", "_law_k", "_law_j", "_law_told", "_law_value"]
theorem sc_law : FnScope N_law ["_law_script"] (defScope s_law) := ⟨rfl, rfl, rfl, by decide +kernel, rfl, by decide +kernel, by decide +kernel⟩
/-! ### addresses and function objects -/
structure Ad where
  NoRatio : Addr
  NoPoly : Addr
  NoDivisor : Addr
  NoNumber : Addr
  NoPlace : Addr
  NotSegment : Addr
  NoRow : Addr
  NoMean : Addr
  NoLot : Addr
  NoLotThere : Addr
  NoBar : Addr
  NoPoint : Addr
  NoWeight : Addr
  NoFit : Addr
  NoShares : Addr
  TooMany : Addr
  NoStep : Addr
  NoText : Addr
  MeansError : Addr
  f_NoRatio___init__ : Addr
  f_NoNumber___init__ : Addr
  f_NoPlace___init__ : Addr
  f_NoRow___init__ : Addr
  f_NoLot___init__ : Addr
  f_NoBar___init__ : Addr
  f_NoWeight___init__ : Addr
  f_NoFit___init__ : Addr
  f_NoShares___init__ : Addr
  f_NoText___init__ : Addr
  f__law_cell : Addr
  f__law_draw : Addr
  f__law_is : Addr
  f__law_made : Addr
  f__law_caught : Addr
  f_law : Addr
structure Fd where
  f_NoRatio___init__ : FuncData
  f_NoNumber___init__ : FuncData
  f_NoPlace___init__ : FuncData
  f_NoRow___init__ : FuncData
  f_NoLot___init__ : FuncData
  f_NoBar___init__ : FuncData
  f_NoWeight___init__ : FuncData
  f_NoFit___init__ : FuncData
  f_NoShares___init__ : FuncData
  f_NoText___init__ : FuncData
  f__law_cell : FuncData
  f__law_draw : FuncData
  f__law_is : FuncData
  f__law_made : FuncData
  f__law_caught : FuncData
  f_law : FuncData
/-- what the written part says -/
structure Txt (K : PySem.W.Frag) (mg : Str → Option Value) (A : Ad) (D : Fd) : Prop where
  g_MeansError : mg "MeansError" = some (.ref A.MeansError)
  g_NoRatio : mg "NoRatio" = some (.ref A.NoRatio)
  e_NoRatio : ErrC K A.MeansError A.NoRatio "NoRatio"
  n_NoRatio_word : PySem.W.findIn K (.ref A.NoRatio) "word" = some none
  i_NoRatio : PySem.W.findIn K (.ref A.NoRatio) "__init__" = some (some (.ref A.f_NoRatio___init__))
  ti_NoRatio : PySem.W.typeIn K (.ref A.f_NoRatio___init__) = some (.type "function")
  kb_NoRatio : KBn K D.f_NoRatio___init__ ["self", "word"] 1 ["word"] (fun us ws => us ++ ws.reverse) (fun vs zs => vs ++ zs.reverse)
  g_NoPoly : mg "NoPoly" = some (.ref A.NoPoly)
  e_NoPoly : ErrC K A.MeansError A.NoPoly "NoPoly"
  xn_NoPoly : PySem.W.excIn K A.NoPoly [.type "ValueError", .type "Exception", .type "BaseException", .type "object"] "ValueError.__new__" = true
  g_NoDivisor : mg "NoDivisor" = some (.ref A.NoDivisor)
  e_NoDivisor : ErrC K A.MeansError A.NoDivisor "NoDivisor"
  xn_NoDivisor : PySem.W.excIn K A.NoDivisor [.type "ValueError", .type "Exception", .type "BaseException", .type "object"] "ValueError.__new__" = true
  g_NoNumber : mg "NoNumber" = some (.ref A.NoNumber)
  e_NoNumber : ErrC K A.MeansError A.NoNumber "NoNumber"
  n_NoNumber_word : PySem.W.findIn K (.ref A.NoNumber) "word" = some none
  i_NoNumber : PySem.W.findIn K (.ref A.NoNumber) "__init__" = some (some (.ref A.f_NoNumber___init__))
  ti_NoNumber : PySem.W.typeIn K (.ref A.f_NoNumber___init__) = some (.type "function")
  kb_NoNumber : KBn K D.f_NoNumber___init__ ["self", "word"] 1 ["word"] (fun us ws => us ++ ws.reverse) (fun vs zs => vs ++ zs.reverse)
  g_NoPlace : mg "NoPlace" = some (.ref A.NoPlace)
  e_NoPlace : ErrC K A.MeansError A.NoPlace "NoPlace"
  n_NoPlace_part : PySem.W.findIn K (.ref A.NoPlace) "part" = some none
  i_NoPlace : PySem.W.findIn K (.ref A.NoPlace) "__init__" = some (some (.ref A.f_NoPlace___init__))
  ti_NoPlace : PySem.W.typeIn K (.ref A.f_NoPlace___init__) = some (.type "function")
  kb_NoPlace : KBn K D.f_NoPlace___init__ ["self", "part"] 1 ["part"] (fun us ws => us ++ ws.reverse) (fun vs zs => vs ++ zs.reverse)
  g_NotSegment : mg "NotSegment" = some (.ref A.NotSegment)
  e_NotSegment : ErrC K A.MeansError A.NotSegment "NotSegment"
  xn_NotSegment : PySem.W.excIn K A.NotSegment [.type "ValueError", .type "Exception", .type "BaseException", .type "object"] "ValueError.__new__" = true
  g_NoRow : mg "NoRow" = some (.ref A.NoRow)
  e_NoRow : ErrC K A.MeansError A.NoRow "NoRow"
  n_NoRow_index : PySem.W.findIn K (.ref A.NoRow) "index" = some none
  i_NoRow : PySem.W.findIn K (.ref A.NoRow) "__init__" = some (some (.ref A.f_NoRow___init__))
  ti_NoRow : PySem.W.typeIn K (.ref A.f_NoRow___init__) = some (.type "function")
  kb_NoRow : KBn K D.f_NoRow___init__ ["self", "index"] 1 ["index"] (fun us ws => us ++ ws.reverse) (fun vs zs => vs ++ zs.reverse)
  g_NoMean : mg "NoMean" = some (.ref A.NoMean)
  e_NoMean : ErrC K A.MeansError A.NoMean "NoMean"
  xn_NoMean : PySem.W.excIn K A.NoMean [.type "ValueError", .type "Exception", .type "BaseException", .type "object"] "ValueError.__new__" = true
  g_NoLot : mg "NoLot" = some (.ref A.NoLot)
  e_NoLot : ErrC K A.MeansError A.NoLot "NoLot"
  n_NoLot_part : PySem.W.findIn K (.ref A.NoLot) "part" = some none
  i_NoLot : PySem.W.findIn K (.ref A.NoLot) "__init__" = some (some (.ref A.f_NoLot___init__))
  ti_NoLot : PySem.W.typeIn K (.ref A.f_NoLot___init__) = some (.type "function")
  kb_NoLot : KBn K D.f_NoLot___init__ ["self", "part"] 1 ["part"] (fun us ws => us ++ ws.reverse) (fun vs zs => vs ++ zs.reverse)
  g_NoLotThere : mg "NoLotThere" = some (.ref A.NoLotThere)
  e_NoLotThere : ErrC K A.MeansError A.NoLotThere "NoLotThere"
  xn_NoLotThere : PySem.W.excIn K A.NoLotThere [.type "ValueError", .type "Exception", .type "BaseException", .type "object"] "ValueError.__new__" = true
  g_NoBar : mg "NoBar" = some (.ref A.NoBar)
  e_NoBar : ErrC K A.MeansError A.NoBar "NoBar"
  n_NoBar_part : PySem.W.findIn K (.ref A.NoBar) "part" = some none
  i_NoBar : PySem.W.findIn K (.ref A.NoBar) "__init__" = some (some (.ref A.f_NoBar___init__))
  ti_NoBar : PySem.W.typeIn K (.ref A.f_NoBar___init__) = some (.type "function")
  kb_NoBar : KBn K D.f_NoBar___init__ ["self", "part"] 1 ["part"] (fun us ws => us ++ ws.reverse) (fun vs zs => vs ++ zs.reverse)
  g_NoPoint : mg "NoPoint" = some (.ref A.NoPoint)
  e_NoPoint : ErrC K A.MeansError A.NoPoint "NoPoint"
  xn_NoPoint : PySem.W.excIn K A.NoPoint [.type "ValueError", .type "Exception", .type "BaseException", .type "object"] "ValueError.__new__" = true
  g_NoWeight : mg "NoWeight" = some (.ref A.NoWeight)
  e_NoWeight : ErrC K A.MeansError A.NoWeight "NoWeight"
  n_NoWeight_most : PySem.W.findIn K (.ref A.NoWeight) "most" = some none
  i_NoWeight : PySem.W.findIn K (.ref A.NoWeight) "__init__" = some (some (.ref A.f_NoWeight___init__))
  ti_NoWeight : PySem.W.typeIn K (.ref A.f_NoWeight___init__) = some (.type "function")
  kb_NoWeight : KBn K D.f_NoWeight___init__ ["self", "most"] 1 ["most"] (fun us ws => us ++ ws.reverse) (fun vs zs => vs ++ zs.reverse)
  g_NoFit : mg "NoFit" = some (.ref A.NoFit)
  e_NoFit : ErrC K A.MeansError A.NoFit "NoFit"
  n_NoFit_low : PySem.W.findIn K (.ref A.NoFit) "low" = some none
  n_NoFit_high : PySem.W.findIn K (.ref A.NoFit) "high" = some none
  i_NoFit : PySem.W.findIn K (.ref A.NoFit) "__init__" = some (some (.ref A.f_NoFit___init__))
  ti_NoFit : PySem.W.typeIn K (.ref A.f_NoFit___init__) = some (.type "function")
  kb_NoFit : KBn K D.f_NoFit___init__ ["self", "low", "high"] 1 ["high", "low"] (fun us ws => us ++ ws.reverse) (fun vs zs => vs ++ zs.reverse)
  g_NoShares : mg "NoShares" = some (.ref A.NoShares)
  e_NoShares : ErrC K A.MeansError A.NoShares "NoShares"
  n_NoShares_index : PySem.W.findIn K (.ref A.NoShares) "index" = some none
  i_NoShares : PySem.W.findIn K (.ref A.NoShares) "__init__" = some (some (.ref A.f_NoShares___init__))
  ti_NoShares : PySem.W.typeIn K (.ref A.f_NoShares___init__) = some (.type "function")
  kb_NoShares : KBn K D.f_NoShares___init__ ["self", "index"] 1 ["index"] (fun us ws => us ++ ws.reverse) (fun vs zs => vs ++ zs.reverse)
  g_TooMany : mg "TooMany" = some (.ref A.TooMany)
  e_TooMany : ErrC K A.MeansError A.TooMany "TooMany"
  xn_TooMany : PySem.W.excIn K A.TooMany [.type "ValueError", .type "Exception", .type "BaseException", .type "object"] "ValueError.__new__" = true
  g_NoStep : mg "NoStep" = some (.ref A.NoStep)
  e_NoStep : ErrC K A.MeansError A.NoStep "NoStep"
  xn_NoStep : PySem.W.excIn K A.NoStep [.type "ValueError", .type "Exception", .type "BaseException", .type "object"] "ValueError.__new__" = true
  g_NoText : mg "NoText" = some (.ref A.NoText)
  e_NoText : ErrC K A.MeansError A.NoText "NoText"
  n_NoText_part : PySem.W.findIn K (.ref A.NoText) "part" = some none
  i_NoText : PySem.W.findIn K (.ref A.NoText) "__init__" = some (some (.ref A.f_NoText___init__))
  ti_NoText : PySem.W.typeIn K (.ref A.f_NoText___init__) = some (.type "function")
  kb_NoText : KBn K D.f_NoText___init__ ["self", "part"] 1 ["part"] (fun us ws => us ++ ws.reverse) (fun vs zs => vs ++ zs.reverse)
  F_NoRatio___init__ : Fun K "__init__" "NoRatio.__init__" s_NoRatio___init__ A.f_NoRatio___init__ D.f_NoRatio___init__
  b_NoRatio___init__ : Binds K D.f_NoRatio___init__ ["self", "word"] []
  m_NoRatio___init__ : Meth K A.NoRatio "__init__" A.f_NoRatio___init__
  F_NoNumber___init__ : Fun K "__init__" "NoNumber.__init__" s_NoNumber___init__ A.f_NoNumber___init__ D.f_NoNumber___init__
  b_NoNumber___init__ : Binds K D.f_NoNumber___init__ ["self", "word"] []
  m_NoNumber___init__ : Meth K A.NoNumber "__init__" A.f_NoNumber___init__
  F_NoPlace___init__ : Fun K "__init__" "NoPlace.__init__" s_NoPlace___init__ A.f_NoPlace___init__ D.f_NoPlace___init__
  b_NoPlace___init__ : Binds K D.f_NoPlace___init__ ["self", "part"] []
  m_NoPlace___init__ : Meth K A.NoPlace "__init__" A.f_NoPlace___init__
  F_NoRow___init__ : Fun K "__init__" "NoRow.__init__" s_NoRow___init__ A.f_NoRow___init__ D.f_NoRow___init__
  b_NoRow___init__ : Binds K D.f_NoRow___init__ ["self", "index"] []
  m_NoRow___init__ : Meth K A.NoRow "__init__" A.f_NoRow___init__
  F_NoLot___init__ : Fun K "__init__" "NoLot.__init__" s_NoLot___init__ A.f_NoLot___init__ D.f_NoLot___init__
  b_NoLot___init__ : Binds K D.f_NoLot___init__ ["self", "part"] []
  m_NoLot___init__ : Meth K A.NoLot "__init__" A.f_NoLot___init__
  F_NoBar___init__ : Fun K "__init__" "NoBar.__init__" s_NoBar___init__ A.f_NoBar___init__ D.f_NoBar___init__
  b_NoBar___init__ : Binds K D.f_NoBar___init__ ["self", "part"] []
  m_NoBar___init__ : Meth K A.NoBar "__init__" A.f_NoBar___init__
  F_NoWeight___init__ : Fun K "__init__" "NoWeight.__init__" s_NoWeight___init__ A.f_NoWeight___init__ D.f_NoWeight___init__
  b_NoWeight___init__ : Binds K D.f_NoWeight___init__ ["self", "most"] []
  m_NoWeight___init__ : Meth K A.NoWeight "__init__" A.f_NoWeight___init__
  F_NoFit___init__ : Fun K "__init__" "NoFit.__init__" s_NoFit___init__ A.f_NoFit___init__ D.f_NoFit___init__
  b_NoFit___init__ : Binds K D.f_NoFit___init__ ["self", "low", "high"] []
  m_NoFit___init__ : Meth K A.NoFit "__init__" A.f_NoFit___init__
  F_NoShares___init__ : Fun K "__init__" "NoShares.__init__" s_NoShares___init__ A.f_NoShares___init__ D.f_NoShares___init__
  b_NoShares___init__ : Binds K D.f_NoShares___init__ ["self", "index"] []
  m_NoShares___init__ : Meth K A.NoShares "__init__" A.f_NoShares___init__
  F_NoText___init__ : Fun K "__init__" "NoText.__init__" s_NoText___init__ A.f_NoText___init__ D.f_NoText___init__
  b_NoText___init__ : Binds K D.f_NoText___init__ ["self", "part"] []
  m_NoText___init__ : Meth K A.NoText "__init__" A.f_NoText___init__
  F__law_cell : Fun K "_law_cell" "_law_cell" s__law_cell A.f__law_cell D.f__law_cell
  b__law_cell : Binds K D.f__law_cell ["_law_script", "_law_k"] []
  g__law_cell : mg "_law_cell" = some (.ref A.f__law_cell)
  F__law_draw : Fun K "_law_draw" "_law_draw" s__law_draw A.f__law_draw D.f__law_draw
  b__law_draw : Binds K D.f__law_draw ["_law_cell_here", "_law_many", "_law_base"] []
  g__law_draw : mg "_law_draw" = some (.ref A.f__law_draw)
  F__law_is : Fun K "_law_is" "_law_is" s__law_is A.f__law_is D.f__law_is
  b__law_is : Binds K D.f__law_is ["_law_error", "_law_which"] []
  g__law_is : mg "_law_is" = some (.ref A.f__law_is)
  F__law_made : Fun K "_law_made" "_law_made" s__law_made A.f__law_made D.f__law_made
  b__law_made : Binds K D.f__law_made ["_law_one", "_law_other", "_law_named"] []
  g__law_made : mg "_law_made" = some (.ref A.f__law_made)
  F__law_caught : Fun K "_law_caught" "_law_caught" s__law_caught A.f__law_caught D.f__law_caught
  b__law_caught : Binds K D.f__law_caught ["_law_which", "_law_one", "_law_other"] []
  g__law_caught : mg "_law_caught" = some (.ref A.f__law_caught)
  F_law : Fun K "law" "law" s_law A.f_law D.f_law
  b_law : Binds K D.f_law ["_law_script"] []
  g_law : mg "law" = some (.ref A.f_law)
  z_isinstance : mg "isinstance" = none
  z_int : mg "int" = none
  z_len : mg "len" = none
  z_range : mg "range" = none
  z_ValueError : mg "ValueError" = none

section
variable {P : Program} {w : World} {K : PySem.W.Frag} {mg : Str → Option Value} {base : Heap} {A : Ad} {D : Fd}
/-! ### the eighteen classes -/
def clsL (A : Ad) : List Addr := [A.NoRatio, A.NoPoly, A.NoDivisor, A.NoNumber, A.NoPlace, A.NotSegment, A.NoRow, A.NoMean, A.NoLot, A.NoLotThere, A.NoBar, A.NoPoint, A.NoWeight, A.NoFit, A.NoShares, A.TooMany, A.NoStep, A.NoText]
def nmL : List Str := ["NoRatio", "NoPoly", "NoDivisor", "NoNumber", "NoPlace", "NotSegment", "NoRow", "NoMean", "NoLot", "NoLotThere", "NoBar", "NoPoint", "NoWeight", "NoFit", "NoShares", "TooMany", "NoStep", "NoText"]
def fldL (v u : V) : List (List (Str × V)) := [[("word", v)], [], [], [("word", v)], [("part", v)], [], [("index", v)], [], [("part", v)], [], [("part", v)], [], [("most", v)], [("high", u), ("low", v)], [("index", v)], [], [], [("part", v)]]
theorem errs (T : Txt K mg A D) : ∀ (k : Nat) (C : Addr) (nm : Str), (clsL A)[k]? = some C → nmL[k]? = some nm → ErrC K A.MeansError C nm
  | 0, _, _, h1, h2 => by cases h1; cases h2; exact T.e_NoRatio
  | 1, _, _, h1, h2 => by cases h1; cases h2; exact T.e_NoPoly
  | 2, _, _, h1, h2 => by cases h1; cases h2; exact T.e_NoDivisor
  | 3, _, _, h1, h2 => by cases h1; cases h2; exact T.e_NoNumber
  | 4, _, _, h1, h2 => by cases h1; cases h2; exact T.e_NoPlace
  | 5, _, _, h1, h2 => by cases h1; cases h2; exact T.e_NotSegment
  | 6, _, _, h1, h2 => by cases h1; cases h2; exact T.e_NoRow
  | 7, _, _, h1, h2 => by cases h1; cases h2; exact T.e_NoMean
  | 8, _, _, h1, h2 => by cases h1; cases h2; exact T.e_NoLot
  | 9, _, _, h1, h2 => by cases h1; cases h2; exact T.e_NoLotThere
  | 10, _, _, h1, h2 => by cases h1; cases h2; exact T.e_NoBar
  | 11, _, _, h1, h2 => by cases h1; cases h2; exact T.e_NoPoint
  | 12, _, _, h1, h2 => by cases h1; cases h2; exact T.e_NoWeight
  | 13, _, _, h1, h2 => by cases h1; cases h2; exact T.e_NoFit
  | 14, _, _, h1, h2 => by cases h1; cases h2; exact T.e_NoShares
  | 15, _, _, h1, h2 => by cases h1; cases h2; exact T.e_TooMany
  | 16, _, _, h1, h2 => by cases h1; cases h2; exact T.e_NoStep
  | 17, _, _, h1, h2 => by cases h1; cases h2; exact T.e_NoText
  | n + 18, _, _, h1, _ => by cases h1
theorem nm_nodup : nmL.Nodup := by decide
theorem nm_base : ∀ x ∈ nmL, x ≠ "MeansError" := by decide
theorem nm_at {k : Nat} {C : Addr} (h : (clsL A)[k]? = some C) : ∃ nm, nmL[k]? = some nm := by
  have hk : k < 18 := (List.getElem?_eq_some_iff.mp h).1
  exact ⟨_, List.getElem?_eq_getElem (show k < nmL.length from hk)⟩
theorem kit_all (T : Txt K mg A D) {k j : Nat} {C B : Addr} (hk : (clsL A)[k]? = some C) (hj : (clsL A)[j]? = some B) : PySem.W.kitOne K (.ref C) (.ref B) = some (decide (j = k)) := by
  obtain ⟨n1, e1⟩ := nm_at hk
  obtain ⟨n2, e2⟩ := nm_at hj
  have E1 := errs T _ _ _ hk e1
  have E2 := errs T _ _ _ hj e2
  by_cases h : j = k
  · subst h
    rw [hk] at hj
    cases hj
    rw [decide_eq_true rfl]
    exact E1.kit_self
  · rw [decide_eq_false h]
    refine E1.kit_ne E2 (fun z => ?_) (nm_base _ (List.mem_of_getElem? e2))
    subst z
    exact h (nodup_ix nm_nodup e2 e1)

theorem ok_NoRatio___init__ (T : Txt K mg A D) : FnOk P w K mg base CX0 1 A.f_NoRatio___init__ D.f_NoRatio___init__ ["self", "word"] (sp_keep K "word") := by
  refine T.F_NoRatio___init__.ok sc_NoRatio___init__ (fun vs H Q E h => ?_) (fun cdv A' outer s H vs Q E hr h => ?_)
  · obtain ⟨e, C, v, rfl, _⟩ := h
    rfl
  · obtain ⟨e, C, v, rfl, hT, hn, he, q⟩ := h
    exact ⟨_, pss_one (ps_ost (pv 0) (pv 1)), ⟨_, rfl, _, rfl, e, C, rfl, hT, hn, .inl ⟨he, q⟩⟩⟩
theorem ok_NoNumber___init__ (T : Txt K mg A D) : FnOk P w K mg base CX0 1 A.f_NoNumber___init__ D.f_NoNumber___init__ ["self", "word"] (sp_keep K "word") := by
  refine T.F_NoNumber___init__.ok sc_NoNumber___init__ (fun vs H Q E h => ?_) (fun cdv A' outer s H vs Q E hr h => ?_)
  · obtain ⟨e, C, v, rfl, _⟩ := h
    rfl
  · obtain ⟨e, C, v, rfl, hT, hn, he, q⟩ := h
    exact ⟨_, pss_one (ps_ost (pv 0) (pv 1)), ⟨_, rfl, _, rfl, e, C, rfl, hT, hn, .inl ⟨he, q⟩⟩⟩
theorem ok_NoPlace___init__ (T : Txt K mg A D) : FnOk P w K mg base CX0 1 A.f_NoPlace___init__ D.f_NoPlace___init__ ["self", "part"] (sp_keep K "part") := by
  refine T.F_NoPlace___init__.ok sc_NoPlace___init__ (fun vs H Q E h => ?_) (fun cdv A' outer s H vs Q E hr h => ?_)
  · obtain ⟨e, C, v, rfl, _⟩ := h
    rfl
  · obtain ⟨e, C, v, rfl, hT, hn, he, q⟩ := h
    exact ⟨_, pss_one (ps_ost (pv 0) (pv 1)), ⟨_, rfl, _, rfl, e, C, rfl, hT, hn, .inl ⟨he, q⟩⟩⟩
theorem ok_NoRow___init__ (T : Txt K mg A D) : FnOk P w K mg base CX0 1 A.f_NoRow___init__ D.f_NoRow___init__ ["self", "index"] (sp_keep K "index") := by
  refine T.F_NoRow___init__.ok sc_NoRow___init__ (fun vs H Q E h => ?_) (fun cdv A' outer s H vs Q E hr h => ?_)
  · obtain ⟨e, C, v, rfl, _⟩ := h
    rfl
  · obtain ⟨e, C, v, rfl, hT, hn, he, q⟩ := h
    exact ⟨_, pss_one (ps_ost (pv 0) (pv 1)), ⟨_, rfl, _, rfl, e, C, rfl, hT, hn, .inl ⟨he, q⟩⟩⟩
theorem ok_NoLot___init__ (T : Txt K mg A D) : FnOk P w K mg base CX0 1 A.f_NoLot___init__ D.f_NoLot___init__ ["self", "part"] (sp_keep K "part") := by
  refine T.F_NoLot___init__.ok sc_NoLot___init__ (fun vs H Q E h => ?_) (fun cdv A' outer s H vs Q E hr h => ?_)
  · obtain ⟨e, C, v, rfl, _⟩ := h
    rfl
  · obtain ⟨e, C, v, rfl, hT, hn, he, q⟩ := h
    exact ⟨_, pss_one (ps_ost (pv 0) (pv 1)), ⟨_, rfl, _, rfl, e, C, rfl, hT, hn, .inl ⟨he, q⟩⟩⟩
theorem ok_NoBar___init__ (T : Txt K mg A D) : FnOk P w K mg base CX0 1 A.f_NoBar___init__ D.f_NoBar___init__ ["self", "part"] (sp_keep K "part") := by
  refine T.F_NoBar___init__.ok sc_NoBar___init__ (fun vs H Q E h => ?_) (fun cdv A' outer s H vs Q E hr h => ?_)
  · obtain ⟨e, C, v, rfl, _⟩ := h
    rfl
  · obtain ⟨e, C, v, rfl, hT, hn, he, q⟩ := h
    exact ⟨_, pss_one (ps_ost (pv 0) (pv 1)), ⟨_, rfl, _, rfl, e, C, rfl, hT, hn, .inl ⟨he, q⟩⟩⟩
theorem ok_NoWeight___init__ (T : Txt K mg A D) : FnOk P w K mg base CX0 1 A.f_NoWeight___init__ D.f_NoWeight___init__ ["self", "most"] (sp_keep K "most") := by
  refine T.F_NoWeight___init__.ok sc_NoWeight___init__ (fun vs H Q E h => ?_) (fun cdv A' outer s H vs Q E hr h => ?_)
  · obtain ⟨e, C, v, rfl, _⟩ := h
    rfl
  · obtain ⟨e, C, v, rfl, hT, hn, he, q⟩ := h
    exact ⟨_, pss_one (ps_ost (pv 0) (pv 1)), ⟨_, rfl, _, rfl, e, C, rfl, hT, hn, .inl ⟨he, q⟩⟩⟩
theorem ok_NoFit___init__ (T : Txt K mg A D) : FnOk P w K mg base CX0 1 A.f_NoFit___init__ D.f_NoFit___init__ ["self", "low", "high"] (sp_keep2 K "low" "high") := by
  refine T.F_NoFit___init__.ok sc_NoFit___init__ (fun vs H Q E h => ?_) (fun cdv A' outer s H vs Q E hr h => ?_)
  · obtain ⟨e, C, v, u, rfl, _⟩ := h
    rfl
  · obtain ⟨e, C, v, u, rfl, hT, hn, hn2, he, q⟩ := h
    refine ⟨_, pss_cons (ps_ost (pv 0) (pv 1)) (pss_one (ps_ost (pv 0) (pv 2))), ?_⟩
    refine ⟨_, rfl, _, rfl, e, C, rfl, hT, hn, .inl ⟨he, fun y ny yne => ?_⟩⟩
    refine ⟨_, rfl, _, rfl, e, C, rfl, hT, hn2, .inr ⟨y, _, upd_same, ?_, by show 1 ≤ 900; decide, q y ny yne⟩⟩
    rw [upd_ne yne, upd_same]
theorem ok_NoShares___init__ (T : Txt K mg A D) : FnOk P w K mg base CX0 1 A.f_NoShares___init__ D.f_NoShares___init__ ["self", "index"] (sp_keep K "index") := by
  refine T.F_NoShares___init__.ok sc_NoShares___init__ (fun vs H Q E h => ?_) (fun cdv A' outer s H vs Q E hr h => ?_)
  · obtain ⟨e, C, v, rfl, _⟩ := h
    rfl
  · obtain ⟨e, C, v, rfl, hT, hn, he, q⟩ := h
    exact ⟨_, pss_one (ps_ost (pv 0) (pv 1)), ⟨_, rfl, _, rfl, e, C, rfl, hT, hn, .inl ⟨he, q⟩⟩⟩
theorem ok_NoText___init__ (T : Txt K mg A D) : FnOk P w K mg base CX0 1 A.f_NoText___init__ D.f_NoText___init__ ["self", "part"] (sp_keep K "part") := by
  refine T.F_NoText___init__.ok sc_NoText___init__ (fun vs H Q E h => ?_) (fun cdv A' outer s H vs Q E hr h => ?_)
  · obtain ⟨e, C, v, rfl, _⟩ := h
    rfl
  · obtain ⟨e, C, v, rfl, hT, hn, he, q⟩ := h
    exact ⟨_, pss_one (ps_ost (pv 0) (pv 1)), ⟨_, rfl, _, rfl, e, C, rfl, hT, hn, .inl ⟨he, q⟩⟩⟩

/-! ### the drawing -/
def sp_cell (K : PySem.W.Frag) : Sp := fun vs H Q _ => ∃ (a : Addr) (ns : List Int), vs = [.ref a, .int 0] ∧ SqL K H a (ns.map V.int) ∧ ∀ i, Q (.int i) H
theorem ok__law_cell (T : Txt K mg A D) : FnOk P w K mg base CX0 1 A.f__law_cell D.f__law_cell ["_law_script", "_law_k"] (sp_cell K) := by
  skip
  refine T.F__law_cell.ok sc__law_cell (fun vs H Q E h => ?_) (fun cdv A' outer s H vs Q E hr h => ?_)
  · obtain ⟨a, ns, rfl, _⟩ := h
    rfl
  · obtain ⟨a, ns, rfl, hS, q⟩ := h
    refine ⟨_, (pss_cons (ps_if (pt_cmpR op_lt (pv 1) (pe_callB call_len_seq rfl T.z_len (by decide +kernel) (pa_cons (pv 0) pa_nil)) (nomark _)) (pss_one (ps_ret (pe_callTy call_int1 rfl T.z_int (by decide +kernel) (pa_cons (pe_ix ix_list (pv 0) (pv 1) (fun _ _ => rfl)) pa_nil)))) pss_nil)
  (pss_one (ps_ret pe_int))), ?_⟩
    refine ⟨_, rfl, _, rfl, a, _, rfl, .inl hS, _, _, rfl, rfl, _, rfl, ?_⟩
    cases ns with
    | nil => exact iteFe (by decide) (q 0)
    | cons n ns =>
      refine iteTe (decide_eq_true (by rw [List.map_cons, List.length_cons]; omega)) ?_
      exact ⟨_, rfl, _, rfl, a, _, 0, _, rfl, rfl, hS, (show atI (V.int n :: ns.map V.int) ((0 : Nat) : Int) = some (.int n) from atI_nat rfl), .inl ⟨n, rfl, q n⟩⟩
theorem lt_mod : (0 : Int) < 2147483647 := by decide
theorem lt_mod' : (0 : Int) < 2147483399 := by decide
def sp_draw : Sp := fun vs H Q _ => ∃ c : Int, vs = [.int c, .int 5, .int (10 ^ (42 : Int).toNat)] ∧ ∀ (H' : Hp) (p : Addr) (ds : List Int), Same H H' → H' p = some (.lst (ds.map V.int)) → ds.length = 5 → Q (.ref p) H'
theorem ok__law_draw (T : Txt K mg A D) : FnOk P w K mg base CX0 1 A.f__law_draw D.f__law_draw ["_law_cell_here", "_law_many", "_law_base"] (sp_draw) := by
  skip
  refine T.F__law_draw.ok sc__law_draw (fun vs H Q E h => ?_) (fun cdv A' outer s H vs Q E hr h => ?_)
  · obtain ⟨c, rfl, _⟩ := h
    rfl
  · obtain ⟨c, rfl, q⟩ := h
    refine ⟨_, (pss_cons (ps_set (i := 3) sc__law_draw.nd rfl (.inl rfl) (pe_lst pa_nil))
  (pss_cons (ps_set (i := 4) sc__law_draw.nd rfl (.inl rfl) pe_int)
  (pss_cut (ps_if (pt_cmpR op_ge (pv 0) (pe_op op_pow pe_int pe_int) (nomark _)) (pss_one (ps_set (i := 4) sc__law_draw.nd rfl (.inl rfl) (pv 0))) pss_nil)
  (pss_cons (ps_for PassesOwn.never rfl (pi_range1 rfl T.z_range (pa_cons (pv 1) pa_nil)) (pg_name (i := 5) sc__law_draw.nd rfl (.inl rfl)) (pss_one (ps_if (pt_cmpR op_gt (pv 4) pe_int (nomark _)) (pss_cons (ps_expr (pe_bm PySem.F.plainAttrs_list PySem.F.slot_list_append PySem.F.type_list_append mt_append (pv 3) (pa_cons (pe_op op_mod (pe_callTy call_int1 rfl T.z_int (by decide +kernel) (pa_cons (pv 4) pa_nil)) (pv 2)) pa_nil)))
  (pss_one (ps_set (i := 4) sc__law_draw.nd rfl (.inl rfl) (pe_op op_fdivA (pv 4) (pv 2))))) (pss_cons (ps_set (i := 6) sc__law_draw.nd rfl (.inl rfl) (pe_op op_mod (pe_callTy call_int1 rfl T.z_int (by decide +kernel) (pa_cons (pe_op op_mul (pe_op op_add (pe_op op_add (pv 0) (pe_op op_mul pe_int (pv 5))) pe_int) pe_int) pa_nil)) pe_int))
  (pss_cons (ps_set (i := 6) sc__law_draw.nd rfl (.inl rfl) (pe_op op_mod (pe_callTy call_int1 rfl T.z_int (by decide +kernel) (pa_cons (pe_op op_mul (pv 6) (pe_op op_add (pe_op op_fdivA (pv 6) pe_int) pe_int)) pa_nil)) pe_int))
  (pss_cons (ps_set (i := 6) sc__law_draw.nd rfl (.inl rfl) (pe_op op_mod (pe_callTy call_int1 rfl T.z_int (by decide +kernel) (pa_cons (pe_op op_mul (pv 6) (pe_op op_add (pe_op op_fdivA (pv 6) pe_int) pe_int)) pa_nil)) pe_int))
  (pss_one (ps_expr (pe_bm PySem.F.plainAttrs_list PySem.F.slot_list_append PySem.F.type_list_append mt_append (pv 3) (pa_cons (pe_op op_mod (pe_callTy call_int1 rfl T.z_int (by decide +kernel) (pa_cons (pv 6) pa_nil)) (pv 2)) pa_nil))))))))))
  (pss_one (ps_ret (pv 3))))))), ?_⟩
    have hb : (0 : Int) < 10 ^ (42 : Int).toNat := by decide
    have sb : Sm ((10 : Int) ^ (42 : Int).toNat) := .ab (by decide) (by decide)
    generalize (10 : Int) ^ (42 : Int).toNat = b at hb sb
    refine ⟨by show 0 ≤ sizeLine; decide, fun p np => ⟨fun σ' H' => H' = upd H p (.lst []) ∧ ∃ r : Int, σ' = [some (.int c), some (.int 5), some (.int b), some (.ref p), some (.int r), none, none], ?_, ?_⟩⟩
    · refine ⟨_, rfl, _, _, rfl, rfl, ⟨by decide, by decide, by decide⟩, _, _, rfl, rfl, _, rfl, ?_⟩
      exact ite2 (fun _ => ⟨_, rfl, rfl, c, rfl⟩) (fun _ => ⟨rfl, 0, rfl⟩)
    rintro σ H1 ⟨rfl, r, rfl⟩
    refine ⟨_, rfl, _, rfl, by decide, by decide, ?_⟩
    refine for_range (lo := 0) (n := 5) (fun i σ H' => Same H H' ∧ (∃ ds : List Int, ds.length = i ∧ H' p = some (.lst (ds.map V.int))) ∧ ∃ (r : Int) (y5 y6 : Option V), σ = [some (.int c), some (.int 5), some (.int b), some (.ref p), some (.int r), y5, y6])
      ⟨same_upd np, ⟨[], rfl, upd_same⟩, r, _, _, rfl⟩ ?_ ?_
    · rintro i σ H1 hi ⟨s1, ⟨ds, hl, hp⟩, r, y5, y6, rfl⟩
      have put : ∀ z : Int, Same H (upd H1 p (.lst (ds.map V.int ++ [.int z]))) ∧ ∃ es : List Int, es.length = i + 1 ∧ upd H1 p (.lst (ds.map V.int ++ [.int z])) p = some (.lst (es.map V.int)) := fun z => by
        refine ⟨fun a o e => ?_, ds ++ [z], by rw [List.length_append, hl]; rfl, by rw [upd_same, List.map_append]; rfl⟩
        rw [upd_ne (ne_of_none e np)]
        exact s1 _ _ e
      have sz : (ds.map V.int).length < sizeLine := by
        rw [List.length_map, hl]
        exact small1000 (by omega)
      refine ⟨_, rfl, _, _, rfl, rfl, _, rfl, ?_⟩
      refine ite2 (fun _ => ?_) (fun _ => ?_)
      · refine ⟨_, rfl, .inl ⟨rfl, _, .of hp⟩, _, rfl, .inl ⟨_, rfl, _, rfl, _, _, rfl, rfl, hb, p, _, _, rfl, rfl, hp, sz, ?_⟩⟩
        refine ⟨_, rfl, _, rfl, _, _, rfl, rfl, sb.div (by omega), ?_⟩
        exact ⟨(put _).1, (put _).2, _, _, _, rfl⟩
      · refine ⟨_, rfl, _, rfl, _, _, rfl, rfl, .inl ⟨by decide, by omega⟩, _, _, rfl, rfl, _, _, rfl, rfl, _, _, rfl, rfl, .inr ⟨by decide, by decide⟩, .inl ⟨_, rfl, _, _, rfl, rfl, lt_mod, ?_⟩⟩
        have b1 : ∀ x : Int, 0 ≤ x % 2147483647 ∧ x % 2147483647 < 2147483647 := fun x => ⟨Int.emod_nonneg _ (by decide), Int.emod_lt_of_pos _ (by decide)⟩
        generalize hA : ((c + 7919 * (0 + (i : Int)) + 1) * 48271) % 2147483647 = a1
        have a1b := b1 ((c + 7919 * (0 + (i : Int)) + 1) * 48271)
        rw [hA] at a1b
        refine ⟨_, rfl, _, rfl, _, _, rfl, rfl, ⟨by decide, by decide⟩, _, _, rfl, rfl, _, _, rfl, rfl, .inl ⟨by omega, by omega⟩, .inl ⟨_, rfl, _, _, rfl, rfl, lt_mod, ?_⟩⟩
        generalize hB : (a1 * (a1.fdiv 1009 + 69621)) % 2147483647 = a2
        have a2b := b1 (a1 * (a1.fdiv 1009 + 69621))
        rw [hB] at a2b
        refine ⟨_, rfl, _, rfl, _, _, rfl, rfl, ⟨by decide, by decide⟩, _, _, rfl, rfl, _, _, rfl, rfl, .inl ⟨by omega, by omega⟩, .inl ⟨_, rfl, _, _, rfl, rfl, lt_mod', ?_⟩⟩
        refine ⟨_, rfl, .inl ⟨rfl, _, .of hp⟩, _, rfl, .inl ⟨_, rfl, _, rfl, _, _, rfl, rfl, hb, p, _, _, rfl, rfl, hp, sz, ?_⟩⟩
        exact ⟨(put _).1, (put _).2, _, _, _, rfl⟩
    · rintro σ H1 ⟨s1, ⟨ds, hl, hp⟩, r, y5, y6, rfl⟩
      exact ⟨_, rfl, q _ p ds s1 hp hl⟩
def sp_is (A : Ad) : Sp := fun vs H Q _ => ∃ (v : V) (k j : Nat) (C : Addr) (fs : List (Str × V)), vs = [v, .int (j : Int)] ∧ ErrAt C H v fs ∧ (clsL A)[k]? = some C ∧ j < 18 ∧ Q (.bl (decide (j = k))) H
theorem ok__law_is (T : Txt K mg A D) : FnOk P w K mg base CX0 1 A.f__law_is D.f__law_is ["_law_error", "_law_which"] (sp_is A) := by
  skip
  refine T.F__law_is.ok sc__law_is (fun vs H Q E h => ?_) (fun cdv A' outer s H vs Q E hr h => ?_)
  · obtain ⟨v, k, j, C, fs, rfl, _⟩ := h
    rfl
  · obtain ⟨v, k, j, C, fs, rfl, hv, hC, hj, q⟩ := h
    refine ⟨_, (pss_cons (ps_if (pt_cmpR op_eq (pv 1) pe_int (nomark _)) (pss_one (ps_ret (pe_callB call_isO rfl T.z_isinstance (by decide +kernel) (pa_cons (pv 0) (pa_cons (pe_glob (v := .ref A.NoRatio) rfl T.g_NoRatio rfl) pa_nil))))) pss_nil)
  (pss_cons (ps_if (pt_cmpR op_eq (pv 1) pe_int (nomark _)) (pss_one (ps_ret (pe_callB call_isO rfl T.z_isinstance (by decide +kernel) (pa_cons (pv 0) (pa_cons (pe_glob (v := .ref A.NoPoly) rfl T.g_NoPoly rfl) pa_nil))))) pss_nil)
  (pss_cons (ps_if (pt_cmpR op_eq (pv 1) pe_int (nomark _)) (pss_one (ps_ret (pe_callB call_isO rfl T.z_isinstance (by decide +kernel) (pa_cons (pv 0) (pa_cons (pe_glob (v := .ref A.NoDivisor) rfl T.g_NoDivisor rfl) pa_nil))))) pss_nil)
  (pss_cons (ps_if (pt_cmpR op_eq (pv 1) pe_int (nomark _)) (pss_one (ps_ret (pe_callB call_isO rfl T.z_isinstance (by decide +kernel) (pa_cons (pv 0) (pa_cons (pe_glob (v := .ref A.NoNumber) rfl T.g_NoNumber rfl) pa_nil))))) pss_nil)
  (pss_cons (ps_if (pt_cmpR op_eq (pv 1) pe_int (nomark _)) (pss_one (ps_ret (pe_callB call_isO rfl T.z_isinstance (by decide +kernel) (pa_cons (pv 0) (pa_cons (pe_glob (v := .ref A.NoPlace) rfl T.g_NoPlace rfl) pa_nil))))) pss_nil)
  (pss_cons (ps_if (pt_cmpR op_eq (pv 1) pe_int (nomark _)) (pss_one (ps_ret (pe_callB call_isO rfl T.z_isinstance (by decide +kernel) (pa_cons (pv 0) (pa_cons (pe_glob (v := .ref A.NotSegment) rfl T.g_NotSegment rfl) pa_nil))))) pss_nil)
  (pss_cons (ps_if (pt_cmpR op_eq (pv 1) pe_int (nomark _)) (pss_one (ps_ret (pe_callB call_isO rfl T.z_isinstance (by decide +kernel) (pa_cons (pv 0) (pa_cons (pe_glob (v := .ref A.NoRow) rfl T.g_NoRow rfl) pa_nil))))) pss_nil)
  (pss_cons (ps_if (pt_cmpR op_eq (pv 1) pe_int (nomark _)) (pss_one (ps_ret (pe_callB call_isO rfl T.z_isinstance (by decide +kernel) (pa_cons (pv 0) (pa_cons (pe_glob (v := .ref A.NoMean) rfl T.g_NoMean rfl) pa_nil))))) pss_nil)
  (pss_cons (ps_if (pt_cmpR op_eq (pv 1) pe_int (nomark _)) (pss_one (ps_ret (pe_callB call_isO rfl T.z_isinstance (by decide +kernel) (pa_cons (pv 0) (pa_cons (pe_glob (v := .ref A.NoLot) rfl T.g_NoLot rfl) pa_nil))))) pss_nil)
  (pss_cons (ps_if (pt_cmpR op_eq (pv 1) pe_int (nomark _)) (pss_one (ps_ret (pe_callB call_isO rfl T.z_isinstance (by decide +kernel) (pa_cons (pv 0) (pa_cons (pe_glob (v := .ref A.NoLotThere) rfl T.g_NoLotThere rfl) pa_nil))))) pss_nil)
  (pss_cons (ps_if (pt_cmpR op_eq (pv 1) pe_int (nomark _)) (pss_one (ps_ret (pe_callB call_isO rfl T.z_isinstance (by decide +kernel) (pa_cons (pv 0) (pa_cons (pe_glob (v := .ref A.NoBar) rfl T.g_NoBar rfl) pa_nil))))) pss_nil)
  (pss_cons (ps_if (pt_cmpR op_eq (pv 1) pe_int (nomark _)) (pss_one (ps_ret (pe_callB call_isO rfl T.z_isinstance (by decide +kernel) (pa_cons (pv 0) (pa_cons (pe_glob (v := .ref A.NoPoint) rfl T.g_NoPoint rfl) pa_nil))))) pss_nil)
  (pss_cons (ps_if (pt_cmpR op_eq (pv 1) pe_int (nomark _)) (pss_one (ps_ret (pe_callB call_isO rfl T.z_isinstance (by decide +kernel) (pa_cons (pv 0) (pa_cons (pe_glob (v := .ref A.NoWeight) rfl T.g_NoWeight rfl) pa_nil))))) pss_nil)
  (pss_cons (ps_if (pt_cmpR op_eq (pv 1) pe_int (nomark _)) (pss_one (ps_ret (pe_callB call_isO rfl T.z_isinstance (by decide +kernel) (pa_cons (pv 0) (pa_cons (pe_glob (v := .ref A.NoFit) rfl T.g_NoFit rfl) pa_nil))))) pss_nil)
  (pss_cons (ps_if (pt_cmpR op_eq (pv 1) pe_int (nomark _)) (pss_one (ps_ret (pe_callB call_isO rfl T.z_isinstance (by decide +kernel) (pa_cons (pv 0) (pa_cons (pe_glob (v := .ref A.NoShares) rfl T.g_NoShares rfl) pa_nil))))) pss_nil)
  (pss_cons (ps_if (pt_cmpR op_eq (pv 1) pe_int (nomark _)) (pss_one (ps_ret (pe_callB call_isO rfl T.z_isinstance (by decide +kernel) (pa_cons (pv 0) (pa_cons (pe_glob (v := .ref A.TooMany) rfl T.g_TooMany rfl) pa_nil))))) pss_nil)
  (pss_cons (ps_if (pt_cmpR op_eq (pv 1) pe_int (nomark _)) (pss_one (ps_ret (pe_callB call_isO rfl T.z_isinstance (by decide +kernel) (pa_cons (pv 0) (pa_cons (pe_glob (v := .ref A.NoStep) rfl T.g_NoStep rfl) pa_nil))))) pss_nil)
  (pss_one (ps_ret (pe_callB call_isO rfl T.z_isinstance (by decide +kernel) (pa_cons (pv 0) (pa_cons (pe_glob (v := .ref A.NoText) rfl T.g_NoText rfl) pa_nil)))))))))))))))))))))), ?_⟩
    have E : ExcC K C := by
      obtain ⟨nm, e⟩ := nm_at hC
      exact (errs T _ _ _ hC e).c
    have fin : ∀ B : Addr, (clsL A)[j]? = some B → rIsO K [v, .ref B] H Q := fun B hB => ⟨v, .ref B, _, C, fs, _, rfl, hv, E, .own _, kit_all T hC hB, q⟩
    rcases (by omega : j = 0 ∨ j = 1 ∨ j = 2 ∨ j = 3 ∨ j = 4 ∨ j = 5 ∨ j = 6 ∨ j = 7 ∨ j = 8 ∨ j = 9 ∨ j = 10 ∨ j = 11 ∨ j = 12 ∨ j = 13 ∨ j = 14 ∨ j = 15 ∨ j = 16 ∨ j = 17) with e | e | e | e | e | e | e | e | e | e | e | e | e | e | e | e | e | e <;> subst e
    · exact ⟨_, rfl, rfl, _, rfl, iteTe (by decide) ⟨_, rfl, fin A.NoRatio rfl⟩⟩
    · refine ⟨_, rfl, rfl, _, rfl, iteFe (by decide) ?_⟩
      exact ⟨_, rfl, rfl, _, rfl, iteTe (by decide) ⟨_, rfl, fin A.NoPoly rfl⟩⟩
    · refine ⟨_, rfl, rfl, _, rfl, iteFe (by decide) ?_⟩
      refine ⟨_, rfl, rfl, _, rfl, iteFe (by decide) ?_⟩
      exact ⟨_, rfl, rfl, _, rfl, iteTe (by decide) ⟨_, rfl, fin A.NoDivisor rfl⟩⟩
    · refine ⟨_, rfl, rfl, _, rfl, iteFe (by decide) ?_⟩
      refine ⟨_, rfl, rfl, _, rfl, iteFe (by decide) ?_⟩
      refine ⟨_, rfl, rfl, _, rfl, iteFe (by decide) ?_⟩
      exact ⟨_, rfl, rfl, _, rfl, iteTe (by decide) ⟨_, rfl, fin A.NoNumber rfl⟩⟩
    · refine ⟨_, rfl, rfl, _, rfl, iteFe (by decide) ?_⟩
      refine ⟨_, rfl, rfl, _, rfl, iteFe (by decide) ?_⟩
      refine ⟨_, rfl, rfl, _, rfl, iteFe (by decide) ?_⟩
      refine ⟨_, rfl, rfl, _, rfl, iteFe (by decide) ?_⟩
      exact ⟨_, rfl, rfl, _, rfl, iteTe (by decide) ⟨_, rfl, fin A.NoPlace rfl⟩⟩
    · refine ⟨_, rfl, rfl, _, rfl, iteFe (by decide) ?_⟩
      refine ⟨_, rfl, rfl, _, rfl, iteFe (by decide) ?_⟩
      refine ⟨_, rfl, rfl, _, rfl, iteFe (by decide) ?_⟩
      refine ⟨_, rfl, rfl, _, rfl, iteFe (by decide) ?_⟩
      refine ⟨_, rfl, rfl, _, rfl, iteFe (by decide) ?_⟩
      exact ⟨_, rfl, rfl, _, rfl, iteTe (by decide) ⟨_, rfl, fin A.NotSegment rfl⟩⟩
    · refine ⟨_, rfl, rfl, _, rfl, iteFe (by decide) ?_⟩
      refine ⟨_, rfl, rfl, _, rfl, iteFe (by decide) ?_⟩
      refine ⟨_, rfl, rfl, _, rfl, iteFe (by decide) ?_⟩
      refine ⟨_, rfl, rfl, _, rfl, iteFe (by decide) ?_⟩
      refine ⟨_, rfl, rfl, _, rfl, iteFe (by decide) ?_⟩
      refine ⟨_, rfl, rfl, _, rfl, iteFe (by decide) ?_⟩
      exact ⟨_, rfl, rfl, _, rfl, iteTe (by decide) ⟨_, rfl, fin A.NoRow rfl⟩⟩
    · refine ⟨_, rfl, rfl, _, rfl, iteFe (by decide) ?_⟩
      refine ⟨_, rfl, rfl, _, rfl, iteFe (by decide) ?_⟩
      refine ⟨_, rfl, rfl, _, rfl, iteFe (by decide) ?_⟩
      refine ⟨_, rfl, rfl, _, rfl, iteFe (by decide) ?_⟩
      refine ⟨_, rfl, rfl, _, rfl, iteFe (by decide) ?_⟩
      refine ⟨_, rfl, rfl, _, rfl, iteFe (by decide) ?_⟩
      refine ⟨_, rfl, rfl, _, rfl, iteFe (by decide) ?_⟩
      exact ⟨_, rfl, rfl, _, rfl, iteTe (by decide) ⟨_, rfl, fin A.NoMean rfl⟩⟩
    · refine ⟨_, rfl, rfl, _, rfl, iteFe (by decide) ?_⟩
      refine ⟨_, rfl, rfl, _, rfl, iteFe (by decide) ?_⟩
      refine ⟨_, rfl, rfl, _, rfl, iteFe (by decide) ?_⟩
      refine ⟨_, rfl, rfl, _, rfl, iteFe (by decide) ?_⟩
      refine ⟨_, rfl, rfl, _, rfl, iteFe (by decide) ?_⟩
      refine ⟨_, rfl, rfl, _, rfl, iteFe (by decide) ?_⟩
      refine ⟨_, rfl, rfl, _, rfl, iteFe (by decide) ?_⟩
      refine ⟨_, rfl, rfl, _, rfl, iteFe (by decide) ?_⟩
      exact ⟨_, rfl, rfl, _, rfl, iteTe (by decide) ⟨_, rfl, fin A.NoLot rfl⟩⟩
    · refine ⟨_, rfl, rfl, _, rfl, iteFe (by decide) ?_⟩
      refine ⟨_, rfl, rfl, _, rfl, iteFe (by decide) ?_⟩
      refine ⟨_, rfl, rfl, _, rfl, iteFe (by decide) ?_⟩
      refine ⟨_, rfl, rfl, _, rfl, iteFe (by decide) ?_⟩
      refine ⟨_, rfl, rfl, _, rfl, iteFe (by decide) ?_⟩
      refine ⟨_, rfl, rfl, _, rfl, iteFe (by decide) ?_⟩
      refine ⟨_, rfl, rfl, _, rfl, iteFe (by decide) ?_⟩
      refine ⟨_, rfl, rfl, _, rfl, iteFe (by decide) ?_⟩
      refine ⟨_, rfl, rfl, _, rfl, iteFe (by decide) ?_⟩
      exact ⟨_, rfl, rfl, _, rfl, iteTe (by decide) ⟨_, rfl, fin A.NoLotThere rfl⟩⟩
    · refine ⟨_, rfl, rfl, _, rfl, iteFe (by decide) ?_⟩
      refine ⟨_, rfl, rfl, _, rfl, iteFe (by decide) ?_⟩
      refine ⟨_, rfl, rfl, _, rfl, iteFe (by decide) ?_⟩
      refine ⟨_, rfl, rfl, _, rfl, iteFe (by decide) ?_⟩
      refine ⟨_, rfl, rfl, _, rfl, iteFe (by decide) ?_⟩
      refine ⟨_, rfl, rfl, _, rfl, iteFe (by decide) ?_⟩
      refine ⟨_, rfl, rfl, _, rfl, iteFe (by decide) ?_⟩
      refine ⟨_, rfl, rfl, _, rfl, iteFe (by decide) ?_⟩
      refine ⟨_, rfl, rfl, _, rfl, iteFe (by decide) ?_⟩
      refine ⟨_, rfl, rfl, _, rfl, iteFe (by decide) ?_⟩
      exact ⟨_, rfl, rfl, _, rfl, iteTe (by decide) ⟨_, rfl, fin A.NoBar rfl⟩⟩
    · refine ⟨_, rfl, rfl, _, rfl, iteFe (by decide) ?_⟩
      refine ⟨_, rfl, rfl, _, rfl, iteFe (by decide) ?_⟩
      refine ⟨_, rfl, rfl, _, rfl, iteFe (by decide) ?_⟩
      refine ⟨_, rfl, rfl, _, rfl, iteFe (by decide) ?_⟩
      refine ⟨_, rfl, rfl, _, rfl, iteFe (by decide) ?_⟩
      refine ⟨_, rfl, rfl, _, rfl, iteFe (by decide) ?_⟩
      refine ⟨_, rfl, rfl, _, rfl, iteFe (by decide) ?_⟩
      refine ⟨_, rfl, rfl, _, rfl, iteFe (by decide) ?_⟩
      refine ⟨_, rfl, rfl, _, rfl, iteFe (by decide) ?_⟩
      refine ⟨_, rfl, rfl, _, rfl, iteFe (by decide) ?_⟩
      refine ⟨_, rfl, rfl, _, rfl, iteFe (by decide) ?_⟩
      exact ⟨_, rfl, rfl, _, rfl, iteTe (by decide) ⟨_, rfl, fin A.NoPoint rfl⟩⟩
    · refine ⟨_, rfl, rfl, _, rfl, iteFe (by decide) ?_⟩
      refine ⟨_, rfl, rfl, _, rfl, iteFe (by decide) ?_⟩
      refine ⟨_, rfl, rfl, _, rfl, iteFe (by decide) ?_⟩
      refine ⟨_, rfl, rfl, _, rfl, iteFe (by decide) ?_⟩
      refine ⟨_, rfl, rfl, _, rfl, iteFe (by decide) ?_⟩
      refine ⟨_, rfl, rfl, _, rfl, iteFe (by decide) ?_⟩
      refine ⟨_, rfl, rfl, _, rfl, iteFe (by decide) ?_⟩
      refine ⟨_, rfl, rfl, _, rfl, iteFe (by decide) ?_⟩
      refine ⟨_, rfl, rfl, _, rfl, iteFe (by decide) ?_⟩
      refine ⟨_, rfl, rfl, _, rfl, iteFe (by decide) ?_⟩
      refine ⟨_, rfl, rfl, _, rfl, iteFe (by decide) ?_⟩
      refine ⟨_, rfl, rfl, _, rfl, iteFe (by decide) ?_⟩
      exact ⟨_, rfl, rfl, _, rfl, iteTe (by decide) ⟨_, rfl, fin A.NoWeight rfl⟩⟩
    · refine ⟨_, rfl, rfl, _, rfl, iteFe (by decide) ?_⟩
      refine ⟨_, rfl, rfl, _, rfl, iteFe (by decide) ?_⟩
      refine ⟨_, rfl, rfl, _, rfl, iteFe (by decide) ?_⟩
      refine ⟨_, rfl, rfl, _, rfl, iteFe (by decide) ?_⟩
      refine ⟨_, rfl, rfl, _, rfl, iteFe (by decide) ?_⟩
      refine ⟨_, rfl, rfl, _, rfl, iteFe (by decide) ?_⟩
      refine ⟨_, rfl, rfl, _, rfl, iteFe (by decide) ?_⟩
      refine ⟨_, rfl, rfl, _, rfl, iteFe (by decide) ?_⟩
      refine ⟨_, rfl, rfl, _, rfl, iteFe (by decide) ?_⟩
      refine ⟨_, rfl, rfl, _, rfl, iteFe (by decide) ?_⟩
      refine ⟨_, rfl, rfl, _, rfl, iteFe (by decide) ?_⟩
      refine ⟨_, rfl, rfl, _, rfl, iteFe (by decide) ?_⟩
      refine ⟨_, rfl, rfl, _, rfl, iteFe (by decide) ?_⟩
      exact ⟨_, rfl, rfl, _, rfl, iteTe (by decide) ⟨_, rfl, fin A.NoFit rfl⟩⟩
    · refine ⟨_, rfl, rfl, _, rfl, iteFe (by decide) ?_⟩
      refine ⟨_, rfl, rfl, _, rfl, iteFe (by decide) ?_⟩
      refine ⟨_, rfl, rfl, _, rfl, iteFe (by decide) ?_⟩
      refine ⟨_, rfl, rfl, _, rfl, iteFe (by decide) ?_⟩
      refine ⟨_, rfl, rfl, _, rfl, iteFe (by decide) ?_⟩
      refine ⟨_, rfl, rfl, _, rfl, iteFe (by decide) ?_⟩
      refine ⟨_, rfl, rfl, _, rfl, iteFe (by decide) ?_⟩
      refine ⟨_, rfl, rfl, _, rfl, iteFe (by decide) ?_⟩
      refine ⟨_, rfl, rfl, _, rfl, iteFe (by decide) ?_⟩
      refine ⟨_, rfl, rfl, _, rfl, iteFe (by decide) ?_⟩
      refine ⟨_, rfl, rfl, _, rfl, iteFe (by decide) ?_⟩
      refine ⟨_, rfl, rfl, _, rfl, iteFe (by decide) ?_⟩
      refine ⟨_, rfl, rfl, _, rfl, iteFe (by decide) ?_⟩
      refine ⟨_, rfl, rfl, _, rfl, iteFe (by decide) ?_⟩
      exact ⟨_, rfl, rfl, _, rfl, iteTe (by decide) ⟨_, rfl, fin A.NoShares rfl⟩⟩
    · refine ⟨_, rfl, rfl, _, rfl, iteFe (by decide) ?_⟩
      refine ⟨_, rfl, rfl, _, rfl, iteFe (by decide) ?_⟩
      refine ⟨_, rfl, rfl, _, rfl, iteFe (by decide) ?_⟩
      refine ⟨_, rfl, rfl, _, rfl, iteFe (by decide) ?_⟩
      refine ⟨_, rfl, rfl, _, rfl, iteFe (by decide) ?_⟩
      refine ⟨_, rfl, rfl, _, rfl, iteFe (by decide) ?_⟩
      refine ⟨_, rfl, rfl, _, rfl, iteFe (by decide) ?_⟩
      refine ⟨_, rfl, rfl, _, rfl, iteFe (by decide) ?_⟩
      refine ⟨_, rfl, rfl, _, rfl, iteFe (by decide) ?_⟩
      refine ⟨_, rfl, rfl, _, rfl, iteFe (by decide) ?_⟩
      refine ⟨_, rfl, rfl, _, rfl, iteFe (by decide) ?_⟩
      refine ⟨_, rfl, rfl, _, rfl, iteFe (by decide) ?_⟩
      refine ⟨_, rfl, rfl, _, rfl, iteFe (by decide) ?_⟩
      refine ⟨_, rfl, rfl, _, rfl, iteFe (by decide) ?_⟩
      refine ⟨_, rfl, rfl, _, rfl, iteFe (by decide) ?_⟩
      exact ⟨_, rfl, rfl, _, rfl, iteTe (by decide) ⟨_, rfl, fin A.TooMany rfl⟩⟩
    · refine ⟨_, rfl, rfl, _, rfl, iteFe (by decide) ?_⟩
      refine ⟨_, rfl, rfl, _, rfl, iteFe (by decide) ?_⟩
      refine ⟨_, rfl, rfl, _, rfl, iteFe (by decide) ?_⟩
      refine ⟨_, rfl, rfl, _, rfl, iteFe (by decide) ?_⟩
      refine ⟨_, rfl, rfl, _, rfl, iteFe (by decide) ?_⟩
      refine ⟨_, rfl, rfl, _, rfl, iteFe (by decide) ?_⟩
      refine ⟨_, rfl, rfl, _, rfl, iteFe (by decide) ?_⟩
      refine ⟨_, rfl, rfl, _, rfl, iteFe (by decide) ?_⟩
      refine ⟨_, rfl, rfl, _, rfl, iteFe (by decide) ?_⟩
      refine ⟨_, rfl, rfl, _, rfl, iteFe (by decide) ?_⟩
      refine ⟨_, rfl, rfl, _, rfl, iteFe (by decide) ?_⟩
      refine ⟨_, rfl, rfl, _, rfl, iteFe (by decide) ?_⟩
      refine ⟨_, rfl, rfl, _, rfl, iteFe (by decide) ?_⟩
      refine ⟨_, rfl, rfl, _, rfl, iteFe (by decide) ?_⟩
      refine ⟨_, rfl, rfl, _, rfl, iteFe (by decide) ?_⟩
      refine ⟨_, rfl, rfl, _, rfl, iteFe (by decide) ?_⟩
      exact ⟨_, rfl, rfl, _, rfl, iteTe (by decide) ⟨_, rfl, fin A.NoStep rfl⟩⟩
    · refine ⟨_, rfl, rfl, _, rfl, iteFe (by decide) ?_⟩
      refine ⟨_, rfl, rfl, _, rfl, iteFe (by decide) ?_⟩
      refine ⟨_, rfl, rfl, _, rfl, iteFe (by decide) ?_⟩
      refine ⟨_, rfl, rfl, _, rfl, iteFe (by decide) ?_⟩
      refine ⟨_, rfl, rfl, _, rfl, iteFe (by decide) ?_⟩
      refine ⟨_, rfl, rfl, _, rfl, iteFe (by decide) ?_⟩
      refine ⟨_, rfl, rfl, _, rfl, iteFe (by decide) ?_⟩
      refine ⟨_, rfl, rfl, _, rfl, iteFe (by decide) ?_⟩
      refine ⟨_, rfl, rfl, _, rfl, iteFe (by decide) ?_⟩
      refine ⟨_, rfl, rfl, _, rfl, iteFe (by decide) ?_⟩
      refine ⟨_, rfl, rfl, _, rfl, iteFe (by decide) ?_⟩
      refine ⟨_, rfl, rfl, _, rfl, iteFe (by decide) ?_⟩
      refine ⟨_, rfl, rfl, _, rfl, iteFe (by decide) ?_⟩
      refine ⟨_, rfl, rfl, _, rfl, iteFe (by decide) ?_⟩
      refine ⟨_, rfl, rfl, _, rfl, iteFe (by decide) ?_⟩
      refine ⟨_, rfl, rfl, _, rfl, iteFe (by decide) ?_⟩
      refine ⟨_, rfl, rfl, _, rfl, iteFe (by decide) ?_⟩
      exact ⟨_, rfl, fin A.NoText rfl⟩
end

end Mo

namespace Mo
open PySem PySem.Spec PyProof.Rows L2 MoL MoW
open C8 (pss_cut tCut)
section
variable {P : Program} {w : World} {K : PySem.W.Frag} {mg : Str → Option Value} {base : Heap} {A : Ad} {D : Fd}
/-! ### all of them in a list -/
def sp_made (A : Ad) : Sp := fun vs H Q _ => ∃ (v u : V) (b : Bool), vs = [v, u, .bl b] ∧ ∀ (H' : Hp) (p : Addr) (xs : List V), Same H H' → H' p = some (.lst xs) → xs.length = 18 →
  (∀ (k : Nat) (x : V) (C : Addr) (fs : List (Str × V)), xs[k]? = some x → (clsL A)[k]? = some C → (fldL v u)[k]? = some fs → ErrAt C H' x fs) → Q (.ref p) H'
theorem ok__law_made (T : Txt K mg A D) : FnOk P w K mg base CX0 3 A.f__law_made D.f__law_made ["_law_one", "_law_other", "_law_named"] (sp_made A) := by
  have G_NoBar___init__ : FnOk P w K mg base CX0 1 A.f_NoBar___init__ D.f_NoBar___init__ ["self", "part"] (sp_keep K "part") := ok_NoBar___init__ T
  have G_NoFit___init__ : FnOk P w K mg base CX0 1 A.f_NoFit___init__ D.f_NoFit___init__ ["self", "low", "high"] (sp_keep2 K "low" "high") := ok_NoFit___init__ T
  have G_NoLot___init__ : FnOk P w K mg base CX0 1 A.f_NoLot___init__ D.f_NoLot___init__ ["self", "part"] (sp_keep K "part") := ok_NoLot___init__ T
  have G_NoNumber___init__ : FnOk P w K mg base CX0 1 A.f_NoNumber___init__ D.f_NoNumber___init__ ["self", "word"] (sp_keep K "word") := ok_NoNumber___init__ T
  have G_NoPlace___init__ : FnOk P w K mg base CX0 1 A.f_NoPlace___init__ D.f_NoPlace___init__ ["self", "part"] (sp_keep K "part") := ok_NoPlace___init__ T
  have G_NoRatio___init__ : FnOk P w K mg base CX0 1 A.f_NoRatio___init__ D.f_NoRatio___init__ ["self", "word"] (sp_keep K "word") := ok_NoRatio___init__ T
  have G_NoRow___init__ : FnOk P w K mg base CX0 1 A.f_NoRow___init__ D.f_NoRow___init__ ["self", "index"] (sp_keep K "index") := ok_NoRow___init__ T
  have G_NoShares___init__ : FnOk P w K mg base CX0 1 A.f_NoShares___init__ D.f_NoShares___init__ ["self", "index"] (sp_keep K "index") := ok_NoShares___init__ T
  have G_NoText___init__ : FnOk P w K mg base CX0 1 A.f_NoText___init__ D.f_NoText___init__ ["self", "part"] (sp_keep K "part") := ok_NoText___init__ T
  have G_NoWeight___init__ : FnOk P w K mg base CX0 1 A.f_NoWeight___init__ D.f_NoWeight___init__ ["self", "most"] (sp_keep K "most") := ok_NoWeight___init__ T
  refine T.F__law_made.ok sc__law_made (fun vs H Q E h => ?_) (fun cdv A' outer s H vs Q E hr h => ?_)
  · obtain ⟨v, u, b, rfl, _⟩ := h
    rfl
  · obtain ⟨v, u, b, rfl, q⟩ := h
    refine ⟨_, (pss_cons (ps_set (i := 3) sc__law_made.nd rfl (.inl rfl) (pe_lst (pa_cons (pe_mk1 T.e_NoRatio T.i_NoRatio T.ti_NoRatio G_NoRatio___init__ (hr.mono (by decide)) T.b_NoRatio___init__ pass0 rfl T.g_NoRatio T.n_NoRatio_word (by exact (pa_cons (pv 0) pa_nil))) (pa_cons (pe_mk0 T.e_NoPoly T.xn_NoPoly rfl T.g_NoPoly) (pa_cons (pe_mk0 T.e_NoDivisor T.xn_NoDivisor rfl T.g_NoDivisor) (pa_cons (pe_mk1 T.e_NoNumber T.i_NoNumber T.ti_NoNumber G_NoNumber___init__ (hr.mono (by decide)) T.b_NoNumber___init__ pass0 rfl T.g_NoNumber T.n_NoNumber_word (by exact (pa_cons (pv 0) pa_nil))) (pa_cons (pe_mk1 T.e_NoPlace T.i_NoPlace T.ti_NoPlace G_NoPlace___init__ (hr.mono (by decide)) T.b_NoPlace___init__ pass0 rfl T.g_NoPlace T.n_NoPlace_part (by exact (pa_cons (pv 0) pa_nil))) (pa_cons (pe_mk0 T.e_NotSegment T.xn_NotSegment rfl T.g_NotSegment) (pa_cons (pe_mk1 T.e_NoRow T.i_NoRow T.ti_NoRow G_NoRow___init__ (hr.mono (by decide)) T.b_NoRow___init__ pass0 rfl T.g_NoRow T.n_NoRow_index (by exact (pa_cons (pv 0) pa_nil))) (pa_cons (pe_mk0 T.e_NoMean T.xn_NoMean rfl T.g_NoMean) pa_nil))))))))))
  (pss_cons (ps_set (i := 3) sc__law_made.nd rfl (.inl rfl) (pe_op op_cat (pv 3) (pe_lst (pa_cons (pe_mk1 T.e_NoLot T.i_NoLot T.ti_NoLot G_NoLot___init__ (hr.mono (by decide)) T.b_NoLot___init__ pass0 rfl T.g_NoLot T.n_NoLot_part (by exact (pa_cons (pv 0) pa_nil))) (pa_cons (pe_mk0 T.e_NoLotThere T.xn_NoLotThere rfl T.g_NoLotThere) (pa_cons (pe_mk1 T.e_NoBar T.i_NoBar T.ti_NoBar G_NoBar___init__ (hr.mono (by decide)) T.b_NoBar___init__ pass0 rfl T.g_NoBar T.n_NoBar_part (by exact (pa_cons (pv 0) pa_nil))) (pa_cons (pe_mk0 T.e_NoPoint T.xn_NoPoint rfl T.g_NoPoint) (pa_cons (pe_mk1 T.e_NoWeight T.i_NoWeight T.ti_NoWeight G_NoWeight___init__ (hr.mono (by decide)) T.b_NoWeight___init__ pass0 rfl T.g_NoWeight T.n_NoWeight_most (by exact (pa_cons (pv 0) pa_nil))) (pa_cons (pe_mk2 T.e_NoFit T.i_NoFit T.ti_NoFit G_NoFit___init__ (hr.mono (by decide)) T.b_NoFit___init__ pass0 rfl T.g_NoFit T.n_NoFit_low T.n_NoFit_high (by exact (pa_cons (pv 0) (pa_cons (pv 1) pa_nil)))) (pa_cons (pe_mk1 T.e_NoShares T.i_NoShares T.ti_NoShares G_NoShares___init__ (hr.mono (by decide)) T.b_NoShares___init__ pass0 rfl T.g_NoShares T.n_NoShares_index (by exact (pa_cons (pv 0) pa_nil))) pa_nil))))))))))
  (pss_cons (ps_if (pt_val (pv 2)) (pss_cons (ps_set (i := 3) sc__law_made.nd rfl (.inl rfl) (pe_lst (pa_cons (pe_mk1k T.e_NoRatio T.i_NoRatio T.ti_NoRatio G_NoRatio___init__ (hr.mono (by decide)) T.kb_NoRatio pass0 rfl T.g_NoRatio T.n_NoRatio_word (pv 0)) (pa_cons (pe_mk0 T.e_NoPoly T.xn_NoPoly rfl T.g_NoPoly) (pa_cons (pe_mk0 T.e_NoDivisor T.xn_NoDivisor rfl T.g_NoDivisor) (pa_cons (pe_mk1k T.e_NoNumber T.i_NoNumber T.ti_NoNumber G_NoNumber___init__ (hr.mono (by decide)) T.kb_NoNumber pass0 rfl T.g_NoNumber T.n_NoNumber_word (pv 0)) (pa_cons (pe_mk1k T.e_NoPlace T.i_NoPlace T.ti_NoPlace G_NoPlace___init__ (hr.mono (by decide)) T.kb_NoPlace pass0 rfl T.g_NoPlace T.n_NoPlace_part (pv 0)) (pa_cons (pe_mk0 T.e_NotSegment T.xn_NotSegment rfl T.g_NotSegment) pa_nil))))))))
  (pss_cons (ps_set (i := 3) sc__law_made.nd rfl (.inl rfl) (pe_op op_cat (pv 3) (pe_lst (pa_cons (pe_mk1k T.e_NoRow T.i_NoRow T.ti_NoRow G_NoRow___init__ (hr.mono (by decide)) T.kb_NoRow pass0 rfl T.g_NoRow T.n_NoRow_index (pv 0)) (pa_cons (pe_mk0 T.e_NoMean T.xn_NoMean rfl T.g_NoMean) (pa_cons (pe_mk1k T.e_NoLot T.i_NoLot T.ti_NoLot G_NoLot___init__ (hr.mono (by decide)) T.kb_NoLot pass0 rfl T.g_NoLot T.n_NoLot_part (pv 0)) (pa_cons (pe_mk0 T.e_NoLotThere T.xn_NoLotThere rfl T.g_NoLotThere) (pa_cons (pe_mk1k T.e_NoBar T.i_NoBar T.ti_NoBar G_NoBar___init__ (hr.mono (by decide)) T.kb_NoBar pass0 rfl T.g_NoBar T.n_NoBar_part (pv 0)) (pa_cons (pe_mk0 T.e_NoPoint T.xn_NoPoint rfl T.g_NoPoint) pa_nil)))))))))
  (pss_cons (ps_set (i := 3) sc__law_made.nd rfl (.inl rfl) (pe_op op_cat (pv 3) (pe_lst (pa_cons (pe_mk1k T.e_NoWeight T.i_NoWeight T.ti_NoWeight G_NoWeight___init__ (hr.mono (by decide)) T.kb_NoWeight pass0 rfl T.g_NoWeight T.n_NoWeight_most (pv 0)) (pa_cons (pe_mk2k T.e_NoFit T.i_NoFit T.ti_NoFit G_NoFit___init__ (hr.mono (by decide)) T.kb_NoFit pass0 rfl T.g_NoFit T.n_NoFit_low T.n_NoFit_high (pv 1) (pv 0)) (pa_cons (pe_mk1k T.e_NoShares T.i_NoShares T.ti_NoShares G_NoShares___init__ (hr.mono (by decide)) T.kb_NoShares pass0 rfl T.g_NoShares T.n_NoShares_index (pv 0)) pa_nil))))))
  (pss_one (ps_ret (pe_op op_cat (pv 3) (pe_lst (pa_cons (pe_mk0 T.e_TooMany T.xn_TooMany rfl T.g_TooMany) (pa_cons (pe_mk0 T.e_NoStep T.xn_NoStep rfl T.g_NoStep) (pa_cons (pe_mk1k T.e_NoText T.i_NoText T.ti_NoText G_NoText___init__ (hr.mono (by decide)) T.kb_NoText pass0 rfl T.g_NoText T.n_NoText_part (pv 0)) pa_nil)))))))))) pss_nil)
  (pss_one (ps_ret (pe_op op_cat (pv 3) (pe_lst (pa_cons (pe_mk0 T.e_TooMany T.xn_TooMany rfl T.g_TooMany) (pa_cons (pe_mk0 T.e_NoStep T.xn_NoStep rfl T.g_NoStep) (pa_cons (pe_mk1 T.e_NoText T.i_NoText T.ti_NoText G_NoText___init__ (hr.mono (by decide)) T.b_NoText___init__ pass0 rfl T.g_NoText T.n_NoText_part (by exact (pa_cons (pv 0) pa_nil))) pa_nil)))))))))), ?_⟩
    refine ⟨_, rfl, fun G1 x1 s1 e1 => ?_⟩
    refine fun G2 x2 s2 e2 => ?_
    refine fun G3 x3 s3 e3 => ?_
    refine ⟨_, rfl, fun G4 x4 s4 e4 => ?_⟩
    refine ⟨_, rfl, fun G5 x5 s5 e5 => ?_⟩
    refine fun G6 x6 s6 e6 => ?_
    refine ⟨_, rfl, fun G7 x7 s7 e7 => ?_⟩
    refine fun G8 x8 s8 e8 => ?_
    refine ⟨by show 8 ≤ sizeLine; decide, fun p9 n9 => ?_⟩
    have s9 : Same G8 (upd G8 p9 (.lst [x1, x2, x3, x4, x5, x6, x7, x8])) := same_upd n9
    have h9 : upd G8 p9 (.lst [x1, x2, x3, x4, x5, x6, x7, x8]) p9 = some (.lst [x1, x2, x3, x4, x5, x6, x7, x8]) := upd_same
    show tSeq _ _ _ _ (upd G8 p9 (.lst [x1, x2, x3, x4, x5, x6, x7, x8]))
    generalize upd G8 p9 (.lst [x1, x2, x3, x4, x5, x6, x7, x8]) = G9 at s9 h9
    refine ⟨_, rfl, ?_⟩
    refine ⟨_, rfl, fun G10 x10 s10 e10 => ?_⟩
    refine fun G11 x11 s11 e11 => ?_
    refine ⟨_, rfl, fun G12 x12 s12 e12 => ?_⟩
    refine fun G13 x13 s13 e13 => ?_
    refine ⟨_, rfl, fun G14 x14 s14 e14 => ?_⟩
    refine ⟨_, rfl, _, rfl, fun G15 x15 s15 e15 => ?_⟩
    refine ⟨_, rfl, fun G16 x16 s16 e16 => ?_⟩
    refine ⟨by show 7 ≤ sizeLine; decide, fun p17 n17 => ?_⟩
    have s17 : Same G16 (upd G16 p17 (.lst [x10, x11, x12, x13, x14, x15, x16])) := same_upd n17
    have h17 : upd G16 p17 (.lst [x10, x11, x12, x13, x14, x15, x16]) p17 = some (.lst [x10, x11, x12, x13, x14, x15, x16]) := upd_same
    have old17 := (s17 _ _ (s16 _ _ (s15 _ _ (s14 _ _ (s13 _ _ (s12 _ _ (s11 _ _ (s10 _ _ h9))))))))
    refine ⟨p9, p17, [x1, x2, x3, x4, x5, x6, x7, x8], [x10, x11, x12, x13, x14, x15, x16], rfl, rfl, old17, h17, by show 15 ≤ sizeLine; decide, fun p18 n18 => ?_⟩
    have s18 : Same (upd G16 p17 (.lst [x10, x11, x12, x13, x14, x15, x16])) (upd (upd G16 p17 (.lst [x10, x11, x12, x13, x14, x15, x16])) p18 (.lst [x1, x2, x3, x4, x5, x6, x7, x8, x10, x11, x12, x13, x14, x15, x16])) := same_upd n18
    have h18 : upd (upd G16 p17 (.lst [x10, x11, x12, x13, x14, x15, x16])) p18 (.lst [x1, x2, x3, x4, x5, x6, x7, x8, x10, x11, x12, x13, x14, x15, x16]) p18 = some (.lst [x1, x2, x3, x4, x5, x6, x7, x8, x10, x11, x12, x13, x14, x15, x16]) := upd_same
    show tSeq _ _ _ _ (upd (upd G16 p17 (.lst [x10, x11, x12, x13, x14, x15, x16])) p18 (.lst [x1, x2, x3, x4, x5, x6, x7, x8, x10, x11, x12, x13, x14, x15, x16]))
    generalize upd (upd G16 p17 (.lst [x10, x11, x12, x13, x14, x15, x16])) p18 (.lst [x1, x2, x3, x4, x5, x6, x7, x8, x10, x11, x12, x13, x14, x15, x16]) = G18 at s18 h18
    generalize upd G16 p17 (.lst [x10, x11, x12, x13, x14, x15, x16]) = G17 at s17 h17 s18 old17
    refine ⟨_, rfl, b, rfl, ?_⟩
    cases b with
    | false =>
      refine iteF ?_
      refine ⟨_, rfl, ?_⟩
      refine fun G19 x19 s19 e19 => ?_
      refine fun G20 x20 s20 e20 => ?_
      refine ⟨_, rfl, fun G21 x21 s21 e21 => ?_⟩
      refine ⟨by show 3 ≤ sizeLine; decide, fun p22 n22 => ?_⟩
      have s22 : Same G21 (upd G21 p22 (.lst [x19, x20, x21])) := same_upd n22
      have h22 : upd G21 p22 (.lst [x19, x20, x21]) p22 = some (.lst [x19, x20, x21]) := upd_same
      have old22 := (s22 _ _ (s21 _ _ (s20 _ _ (s19 _ _ h18))))
      refine ⟨p18, p22, [x1, x2, x3, x4, x5, x6, x7, x8, x10, x11, x12, x13, x14, x15, x16], [x19, x20, x21], rfl, rfl, old22, h22, by show 18 ≤ sizeLine; decide, fun p23 n23 => ?_⟩
      have s23 : Same (upd G21 p22 (.lst [x19, x20, x21])) (upd (upd G21 p22 (.lst [x19, x20, x21])) p23 (.lst [x1, x2, x3, x4, x5, x6, x7, x8, x10, x11, x12, x13, x14, x15, x16, x19, x20, x21])) := same_upd n23
      have h23 : upd (upd G21 p22 (.lst [x19, x20, x21])) p23 (.lst [x1, x2, x3, x4, x5, x6, x7, x8, x10, x11, x12, x13, x14, x15, x16, x19, x20, x21]) p23 = some (.lst [x1, x2, x3, x4, x5, x6, x7, x8, x10, x11, x12, x13, x14, x15, x16, x19, x20, x21]) := upd_same
      show Q (.ref p23) (upd (upd G21 p22 (.lst [x19, x20, x21])) p23 (.lst [x1, x2, x3, x4, x5, x6, x7, x8, x10, x11, x12, x13, x14, x15, x16, x19, x20, x21]))
      generalize upd (upd G21 p22 (.lst [x19, x20, x21])) p23 (.lst [x1, x2, x3, x4, x5, x6, x7, x8, x10, x11, x12, x13, x14, x15, x16, x19, x20, x21]) = G23 at s23 h23
      generalize upd G21 p22 (.lst [x19, x20, x21]) = G22 at s22 h22 s23 old22
      have z23 := fun (b : Addr) (o : HO) (e : G23 b = some o) => e
      have z22 := s23.trans z23
      have z21 := s22.trans z22
      have z20 := s21.trans z21
      have z19 := s20.trans z20
      have z18 := s19.trans z19
      have z17 := s18.trans z18
      have z16 := s17.trans z17
      have z15 := s16.trans z16
      have z14 := s15.trans z15
      have z13 := s14.trans z14
      have z12 := s13.trans z13
      have z11 := s12.trans z12
      have z10 := s11.trans z11
      have z9 := s10.trans z10
      have z8 := s9.trans z9
      have z7 := s8.trans z8
      have z6 := s7.trans z7
      have z5 := s6.trans z6
      have z4 := s5.trans z5
      have z3 := s4.trans z4
      have z2 := s3.trans z3
      have z1 := s2.trans z2
      have z0 := s1.trans z1
      refine q _ p23 [x1, x2, x3, x4, x5, x6, x7, x8, x10, x11, x12, x13, x14, x15, x16, x19, x20, x21] z0 h23 rfl ?_
      intro k x C fs hx hC hf
      have hk : k < 18 := (List.getElem?_eq_some_iff.mp hx).1
      rcases (by omega : k = 0 ∨ k = 1 ∨ k = 2 ∨ k = 3 ∨ k = 4 ∨ k = 5 ∨ k = 6 ∨ k = 7 ∨ k = 8 ∨ k = 9 ∨ k = 10 ∨ k = 11 ∨ k = 12 ∨ k = 13 ∨ k = 14 ∨ k = 15 ∨ k = 16 ∨ k = 17) with e | e | e | e | e | e | e | e | e | e | e | e | e | e | e | e | e | e <;> subst e <;> cases hx <;> cases hC <;> cases hf
      · exact e1.same z1
      · exact e2.same z2
      · exact e3.same z3
      · exact e4.same z4
      · exact e5.same z5
      · exact e6.same z6
      · exact e7.same z7
      · exact e8.same z8
      · exact e10.same z10
      · exact e11.same z11
      · exact e12.same z12
      · exact e13.same z13
      · exact e14.same z14
      · exact e15.same z15
      · exact e16.same z16
      · exact e19.same z19
      · exact e20.same z20
      · exact e21.same z21
    | true =>
      refine iteT ?_
      refine ⟨_, rfl, fun G24 x24 s24 e24 => ?_⟩
      refine fun G25 x25 s25 e25 => ?_
      refine fun G26 x26 s26 e26 => ?_
      refine ⟨_, rfl, fun G27 x27 s27 e27 => ?_⟩
      refine ⟨_, rfl, fun G28 x28 s28 e28 => ?_⟩
      refine fun G29 x29 s29 e29 => ?_
      refine ⟨by show 6 ≤ sizeLine; decide, fun p30 n30 => ?_⟩
      have s30 : Same G29 (upd G29 p30 (.lst [x24, x25, x26, x27, x28, x29])) := same_upd n30
      have h30 : upd G29 p30 (.lst [x24, x25, x26, x27, x28, x29]) p30 = some (.lst [x24, x25, x26, x27, x28, x29]) := upd_same
      show tSeq _ _ _ _ (upd G29 p30 (.lst [x24, x25, x26, x27, x28, x29]))
      generalize upd G29 p30 (.lst [x24, x25, x26, x27, x28, x29]) = G30 at s30 h30
      refine ⟨_, rfl, ?_⟩
      refine ⟨_, rfl, fun G31 x31 s31 e31 => ?_⟩
      refine fun G32 x32 s32 e32 => ?_
      refine ⟨_, rfl, fun G33 x33 s33 e33 => ?_⟩
      refine fun G34 x34 s34 e34 => ?_
      refine ⟨_, rfl, fun G35 x35 s35 e35 => ?_⟩
      refine fun G36 x36 s36 e36 => ?_
      refine ⟨by show 6 ≤ sizeLine; decide, fun p37 n37 => ?_⟩
      have s37 : Same G36 (upd G36 p37 (.lst [x31, x32, x33, x34, x35, x36])) := same_upd n37
      have h37 : upd G36 p37 (.lst [x31, x32, x33, x34, x35, x36]) p37 = some (.lst [x31, x32, x33, x34, x35, x36]) := upd_same
      have old37 := (s37 _ _ (s36 _ _ (s35 _ _ (s34 _ _ (s33 _ _ (s32 _ _ (s31 _ _ h30)))))))
      refine ⟨p30, p37, [x24, x25, x26, x27, x28, x29], [x31, x32, x33, x34, x35, x36], rfl, rfl, old37, h37, by show 12 ≤ sizeLine; decide, fun p38 n38 => ?_⟩
      have s38 : Same (upd G36 p37 (.lst [x31, x32, x33, x34, x35, x36])) (upd (upd G36 p37 (.lst [x31, x32, x33, x34, x35, x36])) p38 (.lst [x24, x25, x26, x27, x28, x29, x31, x32, x33, x34, x35, x36])) := same_upd n38
      have h38 : upd (upd G36 p37 (.lst [x31, x32, x33, x34, x35, x36])) p38 (.lst [x24, x25, x26, x27, x28, x29, x31, x32, x33, x34, x35, x36]) p38 = some (.lst [x24, x25, x26, x27, x28, x29, x31, x32, x33, x34, x35, x36]) := upd_same
      show tSeq _ _ _ _ (upd (upd G36 p37 (.lst [x31, x32, x33, x34, x35, x36])) p38 (.lst [x24, x25, x26, x27, x28, x29, x31, x32, x33, x34, x35, x36]))
      generalize upd (upd G36 p37 (.lst [x31, x32, x33, x34, x35, x36])) p38 (.lst [x24, x25, x26, x27, x28, x29, x31, x32, x33, x34, x35, x36]) = G38 at s38 h38
      generalize upd G36 p37 (.lst [x31, x32, x33, x34, x35, x36]) = G37 at s37 h37 s38 old37
      refine ⟨_, rfl, ?_⟩
      refine ⟨_, rfl, fun G39 x39 s39 e39 => ?_⟩
      refine ⟨_, rfl, _, rfl, fun G40 x40 s40 e40 => ?_⟩
      refine ⟨_, rfl, fun G41 x41 s41 e41 => ?_⟩
      refine ⟨by show 3 ≤ sizeLine; decide, fun p42 n42 => ?_⟩
      have s42 : Same G41 (upd G41 p42 (.lst [x39, x40, x41])) := same_upd n42
      have h42 : upd G41 p42 (.lst [x39, x40, x41]) p42 = some (.lst [x39, x40, x41]) := upd_same
      have old42 := (s42 _ _ (s41 _ _ (s40 _ _ (s39 _ _ h38))))
      refine ⟨p38, p42, [x24, x25, x26, x27, x28, x29, x31, x32, x33, x34, x35, x36], [x39, x40, x41], rfl, rfl, old42, h42, by show 15 ≤ sizeLine; decide, fun p43 n43 => ?_⟩
      have s43 : Same (upd G41 p42 (.lst [x39, x40, x41])) (upd (upd G41 p42 (.lst [x39, x40, x41])) p43 (.lst [x24, x25, x26, x27, x28, x29, x31, x32, x33, x34, x35, x36, x39, x40, x41])) := same_upd n43
      have h43 : upd (upd G41 p42 (.lst [x39, x40, x41])) p43 (.lst [x24, x25, x26, x27, x28, x29, x31, x32, x33, x34, x35, x36, x39, x40, x41]) p43 = some (.lst [x24, x25, x26, x27, x28, x29, x31, x32, x33, x34, x35, x36, x39, x40, x41]) := upd_same
      show tSeq _ _ _ _ (upd (upd G41 p42 (.lst [x39, x40, x41])) p43 (.lst [x24, x25, x26, x27, x28, x29, x31, x32, x33, x34, x35, x36, x39, x40, x41]))
      generalize upd (upd G41 p42 (.lst [x39, x40, x41])) p43 (.lst [x24, x25, x26, x27, x28, x29, x31, x32, x33, x34, x35, x36, x39, x40, x41]) = G43 at s43 h43
      generalize upd G41 p42 (.lst [x39, x40, x41]) = G42 at s42 h42 s43 old42
      refine ⟨_, rfl, ?_⟩
      refine fun G44 x44 s44 e44 => ?_
      refine fun G45 x45 s45 e45 => ?_
      refine ⟨_, rfl, fun G46 x46 s46 e46 => ?_⟩
      refine ⟨by show 3 ≤ sizeLine; decide, fun p47 n47 => ?_⟩
      have s47 : Same G46 (upd G46 p47 (.lst [x44, x45, x46])) := same_upd n47
      have h47 : upd G46 p47 (.lst [x44, x45, x46]) p47 = some (.lst [x44, x45, x46]) := upd_same
      have old47 := (s47 _ _ (s46 _ _ (s45 _ _ (s44 _ _ h43))))
      refine ⟨p43, p47, [x24, x25, x26, x27, x28, x29, x31, x32, x33, x34, x35, x36, x39, x40, x41], [x44, x45, x46], rfl, rfl, old47, h47, by show 18 ≤ sizeLine; decide, fun p48 n48 => ?_⟩
      have s48 : Same (upd G46 p47 (.lst [x44, x45, x46])) (upd (upd G46 p47 (.lst [x44, x45, x46])) p48 (.lst [x24, x25, x26, x27, x28, x29, x31, x32, x33, x34, x35, x36, x39, x40, x41, x44, x45, x46])) := same_upd n48
      have h48 : upd (upd G46 p47 (.lst [x44, x45, x46])) p48 (.lst [x24, x25, x26, x27, x28, x29, x31, x32, x33, x34, x35, x36, x39, x40, x41, x44, x45, x46]) p48 = some (.lst [x24, x25, x26, x27, x28, x29, x31, x32, x33, x34, x35, x36, x39, x40, x41, x44, x45, x46]) := upd_same
      show Q (.ref p48) (upd (upd G46 p47 (.lst [x44, x45, x46])) p48 (.lst [x24, x25, x26, x27, x28, x29, x31, x32, x33, x34, x35, x36, x39, x40, x41, x44, x45, x46]))
      generalize upd (upd G46 p47 (.lst [x44, x45, x46])) p48 (.lst [x24, x25, x26, x27, x28, x29, x31, x32, x33, x34, x35, x36, x39, x40, x41, x44, x45, x46]) = G48 at s48 h48
      generalize upd G46 p47 (.lst [x44, x45, x46]) = G47 at s47 h47 s48 old47
      have z43 := fun (b : Addr) (o : HO) (e : G48 b = some o) => e
      have z42 := s48.trans z43
      have z41 := s47.trans z42
      have z40 := s46.trans z41
      have z39 := s45.trans z40
      have z38 := s44.trans z39
      have z37 := s43.trans z38
      have z36 := s42.trans z37
      have z35 := s41.trans z36
      have z34 := s40.trans z35
      have z33 := s39.trans z34
      have z32 := s38.trans z33
      have z31 := s37.trans z32
      have z30 := s36.trans z31
      have z29 := s35.trans z30
      have z28 := s34.trans z29
      have z27 := s33.trans z28
      have z26 := s32.trans z27
      have z25 := s31.trans z26
      have z24 := s30.trans z25
      have z23 := s29.trans z24
      have z22 := s28.trans z23
      have z21 := s27.trans z22
      have z20 := s26.trans z21
      have z19 := s25.trans z20
      have z18 := s24.trans z19
      have z17 := s18.trans z18
      have z16 := s17.trans z17
      have z15 := s16.trans z16
      have z14 := s15.trans z15
      have z13 := s14.trans z14
      have z12 := s13.trans z13
      have z11 := s12.trans z12
      have z10 := s11.trans z11
      have z9 := s10.trans z10
      have z8 := s9.trans z9
      have z7 := s8.trans z8
      have z6 := s7.trans z7
      have z5 := s6.trans z6
      have z4 := s5.trans z5
      have z3 := s4.trans z4
      have z2 := s3.trans z3
      have z1 := s2.trans z2
      have z0 := s1.trans z1
      refine q _ p48 [x24, x25, x26, x27, x28, x29, x31, x32, x33, x34, x35, x36, x39, x40, x41, x44, x45, x46] z0 h48 rfl ?_
      intro k x C fs hx hC hf
      have hk : k < 18 := (List.getElem?_eq_some_iff.mp hx).1
      rcases (by omega : k = 0 ∨ k = 1 ∨ k = 2 ∨ k = 3 ∨ k = 4 ∨ k = 5 ∨ k = 6 ∨ k = 7 ∨ k = 8 ∨ k = 9 ∨ k = 10 ∨ k = 11 ∨ k = 12 ∨ k = 13 ∨ k = 14 ∨ k = 15 ∨ k = 16 ∨ k = 17) with e | e | e | e | e | e | e | e | e | e | e | e | e | e | e | e | e | e <;> subst e <;> cases hx <;> cases hC <;> cases hf
      · exact e24.same z19
      · exact e25.same z20
      · exact e26.same z21
      · exact e27.same z22
      · exact e28.same z23
      · exact e29.same z24
      · exact e31.same z26
      · exact e32.same z27
      · exact e33.same z28
      · exact e34.same z29
      · exact e35.same z30
      · exact e36.same z31
      · exact e39.same z34
      · exact e40.same z35
      · exact e41.same z36
      · exact e44.same z39
      · exact e45.same z40
      · exact e46.same z41
def sp_caught : Sp := fun vs H Q _ => ∃ (n : Int) (v u : V), vs = [.int n, v, u] ∧ ∀ H', Q (.bl true) H'
theorem ok__law_caught (T : Txt K mg A D) : FnOk P w K mg base CX0 3 A.f__law_caught D.f__law_caught ["_law_which", "_law_one", "_law_other"] (sp_caught) := by
  have G_NoFit___init__ : FnOk P w K mg base CX0 1 A.f_NoFit___init__ D.f_NoFit___init__ ["self", "low", "high"] (sp_keep2 K "low" "high") := ok_NoFit___init__ T
  have G_NoText___init__ : FnOk P w K mg base CX0 1 A.f_NoText___init__ D.f_NoText___init__ ["self", "part"] (sp_keep K "part") := ok_NoText___init__ T
  have G_NoWeight___init__ : FnOk P w K mg base CX0 1 A.f_NoWeight___init__ D.f_NoWeight___init__ ["self", "most"] (sp_keep K "most") := ok_NoWeight___init__ T
  refine T.F__law_caught.ok sc__law_caught (fun vs H Q E h => ?_) (fun cdv A' outer s H vs Q E hr h => ?_)
  · obtain ⟨n, v, u, rfl, _⟩ := h
    rfl
  · obtain ⟨n, v, u, rfl, q⟩ := h
    refine ⟨_, (pss_cons (ps_set (i := 3) sc__law_caught.nd rfl (.inl rfl) pe_bl)
  (pss_cons (ps_try_only rfl rfl ⟨rfl, by decide, .inl T.g_MeansError⟩ takes0 (fun W pn xe tk _ => (pss_cons (ps_if (pt_cmpR op_eq (pv 0) pe_int (nomark _)) (pss_one (ps_raise rfl tk (pmk_oex T.e_NoFit.o T.i_NoFit T.ti_NoFit G_NoFit___init__ (hr.mono (by decide)) T.b_NoFit___init__ .nil pass0 rfl T.g_NoFit (by exact (pa_cons (pv 1) (pa_cons (pv 2) pa_nil)))))) pss_nil)
  (pss_cons (ps_if (pt_cmpR op_eq (pv 0) pe_int (nomark _)) (pss_one (ps_raise rfl tk (pmk_oex T.e_NoText.o T.i_NoText T.ti_NoText G_NoText___init__ (hr.mono (by decide)) T.b_NoText___init__ .nil pass0 rfl T.g_NoText (by exact (pa_cons (pv 1) pa_nil))))) pss_nil)
  (pss_cons (ps_if (pt_cmpR op_eq (pv 0) pe_int (nomark _)) (pss_one (ps_raise rfl tk (pmk_mk0 T.e_TooMany T.xn_TooMany rfl T.g_TooMany))) pss_nil)
  (pss_one (ps_raise rfl tk (pmk_oex T.e_NoWeight.o T.i_NoWeight T.ti_NoWeight G_NoWeight___init__ (hr.mono (by decide)) T.b_NoWeight___init__ .nil pass0 rfl T.g_NoWeight (by exact (pa_cons (pv 1) pa_nil))))))))) (fun oa oe cls d pn _ _ => (pss_one (ps_set (i := 3) sc__law_caught.nd rfl (.inl rfl) pe_bl))))
  (pss_one (ps_ret (pv 3))))), ?_⟩
    refine ⟨_, rfl, rfl, _, rfl, ?_⟩
    have sk : ∀ {c : Bool} {a b : Prop}, a → b → (if c = true then a else b) := fun {c a b} x y => by cases c <;> assumption
    refine sk ⟨_, rfl, _, rfl, ⟨by show 2 ≤ 1000; decide, fun a na => ⟨a, A.NoFit, v, u, rfl, T.e_NoFit.o, T.n_NoFit_low, T.n_NoFit_high, upd_same, fun y ny yne => ⟨rfl, y, [("high", u), ("low", v)], (by rw [upd_ne (Ne.symm yne), upd_same]), upd_same, (by rw [upd_ne yne] at ny; exact ny), ⟨true, T.e_NoFit.caught, fun _ _ _ => ⟨_, rfl, q _⟩, fun z => Bool.noConfusion z⟩⟩⟩⟩⟩ ?_
    refine ⟨_, rfl, rfl, _, rfl, ?_⟩
    refine sk ⟨_, rfl, ⟨by show 1 ≤ 1000; decide, fun a na => ⟨a, A.NoText, v, rfl, T.e_NoText.o, T.n_NoText_part, upd_same, fun y ny yne => ⟨rfl, y, [("part", v)], upd_same, (by rw [upd_ne yne, upd_same]), (by rw [upd_ne yne] at ny; exact ny), ⟨true, T.e_NoText.caught, fun _ _ _ => ⟨_, rfl, q _⟩, fun z => Bool.noConfusion z⟩⟩⟩⟩⟩ ?_
    refine ⟨_, rfl, rfl, _, rfl, ?_⟩
    refine sk ⟨true, T.e_TooMany.caught, fun _ _ _ => ⟨_, rfl, q _⟩, fun z => Bool.noConfusion z⟩ ?_
    exact ⟨_, rfl, ⟨by show 1 ≤ 1000; decide, fun a na => ⟨a, A.NoWeight, v, rfl, T.e_NoWeight.o, T.n_NoWeight_most, upd_same, fun y ny yne => ⟨rfl, y, [("most", v)], upd_same, (by rw [upd_ne yne, upd_same]), (by rw [upd_ne yne] at ny; exact ny), ⟨true, T.e_NoWeight.caught, fun _ _ _ => ⟨_, rfl, q _⟩, fun z => Bool.noConfusion z⟩⟩⟩⟩⟩
end

end Mo

namespace Mo
open PySem PySem.Spec PyProof.Rows L2 MoL MoW
open C8 (pss_cut tCut)
section
variable {P : Program} {w : World} {K : PySem.W.Frag} {mg : Str → Option Value} {base : Heap} {A : Ad} {D : Fd}
/-! ### the values that are passed -/
def ValAt (H : Hp) (v : V) : Prop := (∃ i, v = .int i) ∨ (∃ s, v = .str s) ∨ v = .non ∨ (∃ b, v = .bl b) ∨ ∃ t i, v = .ref t ∧ H t = some (.tup [.int i, .str "a"])
theorem ValAt.same {H H' : Hp} {v : V} (h : ValAt H v) (s : Same H H') : ValAt H' v := by
  rcases h with h | h | h | h | ⟨t, i, e, h⟩
  · exact .inl h
  · exact .inr (.inl h)
  · exact .inr (.inr (.inl h))
  · exact .inr (.inr (.inr (.inl h)))
  · exact .inr (.inr (.inr (.inr ⟨t, i, e, s _ _ h⟩)))
theorem ne_same {H : Hp} {v : V} {Q : VK} (h : ValAt H v) (q : Q (.bl false) H) : rNe v v H Q ∨ rNeD K v v H Q := by
  have e : (!decide (v = v)) = false := by rw [decide_eq_true rfl]; rfl
  have sc : scal v v = true → rNe v v H Q := fun z => ⟨z, by rw [e]; exact q⟩
  rcases h with ⟨i, rfl⟩ | ⟨s, rfl⟩ | rfl | ⟨b, rfl⟩ | ⟨t, i, rfl, h⟩
  · exact .inl (sc rfl)
  · exact .inl (sc rfl)
  · exact .inl (sc rfl)
  · exact .inl (sc rfl)
  · have dp : Dp K H (.ref t) (.tuple [.int i, .str "a"]) := .tup (.of h) (.cons (.int _) (.cons (.str _) .nil))
    have sh : SeqAt.shaped (.tuple [.int i, .str "a"]) = true := by
      have so : PyData.canLay0 (.str "a") = true := by decide +kernel
      simp [SeqAt.shaped, PyData.canLay0, PyData.canLayAll0, PyData.depth, PyData.depthAll] at so ⊢
      exact so
    refine .inr ⟨_, _, dp, dp, sh, sh, ?_⟩
    have z : (!PyData.eqv (.tuple [.int i, .str "a"]) (.tuple [.int i, .str "a"])) = false := by
      simp [PyData.eqv, PyData.eqvAll]
    rw [z]
    exact q
def sp_law (K : PySem.W.Frag) : Sp := fun vs H Q _ => ∃ (a : Addr) (ns : List Int), vs = [.ref a] ∧ SqL K H a (ns.map V.int) ∧ ns.length ≤ 63 ∧ ∀ H', Q (.bl true) H'
theorem ok_law (T : Txt K mg A D) : FnOk P w K mg base CX0 4 A.f_law D.f_law ["_law_script"] (sp_law K) := by
  have G__law_caught : FnOk P w K mg base CX0 3 A.f__law_caught D.f__law_caught ["_law_which", "_law_one", "_law_other"] (sp_caught) := ok__law_caught T
  have G__law_cell : FnOk P w K mg base CX0 1 A.f__law_cell D.f__law_cell ["_law_script", "_law_k"] (sp_cell K) := ok__law_cell T
  have G__law_draw : FnOk P w K mg base CX0 1 A.f__law_draw D.f__law_draw ["_law_cell_here", "_law_many", "_law_base"] (sp_draw) := ok__law_draw T
  have G__law_is : FnOk P w K mg base CX0 1 A.f__law_is D.f__law_is ["_law_error", "_law_which"] (sp_is A) := ok__law_is T
  have G__law_made : FnOk P w K mg base CX0 3 A.f__law_made D.f__law_made ["_law_one", "_law_other", "_law_named"] (sp_made A) := ok__law_made T
  refine T.F_law.ok sc_law (fun vs H Q E h => ?_) (fun cdv A' outer s H vs Q E hr h => ?_)
  · obtain ⟨a, ns, rfl, _⟩ := h
    rfl
  · obtain ⟨a, ns, rfl, hS, hl, q⟩ := h
    refine ⟨_, (pss_cons (ps_set (i := 1) sc_law.nd rfl (.inl rfl) (pe_call G__law_draw (hr.mono (by decide)) rfl T.g__law_draw T.F__law_draw.kp T.b__law_draw .nil pass0 (pa_cons (pe_call G__law_cell (hr.mono (by decide)) rfl T.g__law_cell T.F__law_cell.kp T.b__law_cell .nil pass0 (pa_cons (pv 0) (pa_cons pe_int pa_nil))) (pa_cons pe_int (pa_cons (pe_op op_pow pe_int pe_int) pa_nil)))))
  (pss_cons (ps_set (i := 2) sc_law.nd rfl (.inl rfl) (pe_op op_sub (pe_op op_mod (pe_callTy call_int1 rfl T.z_int (by decide +kernel) (pa_cons (pe_ix ix_list (pv 1) pe_int (fun _ _ => rfl)) pa_nil)) (pe_op op_add (pe_op op_mulW pe_int (pe_op op_pow pe_int pe_int)) pe_int)) (pe_op op_pow pe_int pe_int)))
  (pss_cons (ps_set (i := 3) sc_law.nd rfl (.inl rfl) (pe_lst (pa_cons (pv 2) (pa_cons (pe_op op_repw pe_str (pe_op op_mod (pe_callTy call_int1 rfl T.z_int (by decide +kernel) (pa_cons (pe_ix ix_list (pv 1) pe_int (fun _ _ => rfl)) pa_nil)) pe_int)) (pa_cons pe_non (pa_cons pe_bl (pa_cons (pe_tup (pa_cons (pv 2) (pa_cons pe_str pa_nil))) (pa_cons (pe_un un_neg pe_int) pa_nil))))))))
  (pss_cons (ps_set (i := 4) sc_law.nd rfl (.inl rfl) (pe_ix ix_list (pv 3) (pe_op op_mod (pe_callTy call_int1 rfl T.z_int (by decide +kernel) (pa_cons (pe_ix ix_list (pv 1) pe_int (fun _ _ => rfl)) pa_nil)) pe_int) (fun _ _ => rfl)))
  (pss_cons (ps_set (i := 5) sc_law.nd rfl (.inl rfl) (pe_ix ix_list (pv 3) (pe_op op_mod (pe_callTy call_int1 rfl T.z_int (by decide +kernel) (pa_cons (pe_ix ix_list (pv 1) pe_int (fun _ _ => rfl)) pa_nil)) pe_int) (fun _ _ => rfl)))
  (pss_cons (ps_for PassesOwn.never rfl (pi_list (pe_lst (pa_cons pe_bl (pa_cons pe_bl pa_nil)))) (pg_name (i := 6) sc_law.nd rfl (.inl rfl)) (pss_cons (ps_set (i := 7) sc_law.nd rfl (.inl rfl) (pe_call G__law_made (hr.mono (by decide)) rfl T.g__law_made T.F__law_made.kp T.b__law_made .nil pass0 (pa_cons (pv 4) (pa_cons (pv 5) (pa_cons (pv 6) pa_nil)))))
  (pss_cons (ps_if (pt_cmpR op_ne (pe_callB call_len_seq rfl T.z_len (by decide +kernel) (pa_cons (pv 7) pa_nil)) pe_int (nomark _)) (pss_one (ps_ret pe_bl)) pss_nil)
  (pss_cons (ps_for PassesOwn.never rfl (pi_range1 rfl T.z_range (pa_cons pe_int pa_nil)) (pg_name (i := 8) sc_law.nd rfl (.inl rfl)) (pss_cons (ps_if (PW.pt (pw_or (pt_not (pt_val (pe_callB call_isO rfl T.z_isinstance (by decide +kernel) (pa_cons (pe_ix ix_list (pv 7) (pv 8) (fun _ _ => rfl)) (pa_cons (pe_glob (v := .ref A.MeansError) rfl T.g_MeansError rfl) pa_nil))))) (pw_or1 (pt_not (pt_val (pe_callB call_isO rfl T.z_isinstance (by decide +kernel) (pa_cons (pe_ix ix_list (pv 7) (pv 8) (fun _ _ => rfl)) (pa_cons (pe_bltn (v := .ty "ValueError") rfl T.z_ValueError (by decide +kernel) rfl) pa_nil)))))))) (pss_one (ps_ret pe_bl)) pss_nil)
  (pss_one (ps_for PassesOwn.never rfl (pi_range1 rfl T.z_range (pa_cons pe_int pa_nil)) (pg_name (i := 9) sc_law.nd rfl (.inl rfl)) (pss_one (ps_if (pt_cmpR op_ne (pe_call G__law_is (hr.mono (by decide)) rfl T.g__law_is T.F__law_is.kp T.b__law_is .nil pass0 (pa_cons (pe_ix ix_list (pv 7) (pv 8) (fun _ _ => rfl)) (pa_cons (pv 9) pa_nil))) (pe_cmpR op_eq (pv 9) (pv 8) (nomark _)) (nomark _)) (pss_one (ps_ret pe_bl)) pss_nil))))))
  (pss_cons (ps_set (i := 10) sc_law.nd rfl (.inl rfl) (pe_lst (pa_cons (pe_oxf (pe_ix ix_list (pv 7) pe_int (fun _ _ => rfl))) (pa_cons (pe_oxf (pe_ix ix_list (pv 7) pe_int (fun _ _ => rfl))) (pa_cons (pe_oxf (pe_ix ix_list (pv 7) pe_int (fun _ _ => rfl))) (pa_cons (pe_oxf (pe_ix ix_list (pv 7) pe_int (fun _ _ => rfl))) (pa_cons (pe_oxf (pe_ix ix_list (pv 7) pe_int (fun _ _ => rfl))) (pa_cons (pe_oxf (pe_ix ix_list (pv 7) pe_int (fun _ _ => rfl))) (pa_cons (pe_oxf (pe_ix ix_list (pv 7) pe_int (fun _ _ => rfl))) pa_nil)))))))))
  (pss_cons (ps_set (i := 10) sc_law.nd rfl (.inl rfl) (pe_op op_cat (pv 10) (pe_lst (pa_cons (pe_oxf (pe_ix ix_list (pv 7) pe_int (fun _ _ => rfl))) (pa_cons (pe_oxf (pe_ix ix_list (pv 7) pe_int (fun _ _ => rfl))) (pa_cons (pe_oxf (pe_ix ix_list (pv 7) pe_int (fun _ _ => rfl))) pa_nil))))))
  (pss_cons (ps_for PassesOwn.never rfl (pi_list (pv 10)) (pg_name (i := 11) sc_law.nd rfl (.inl rfl)) (pss_one (ps_if (pt_cmpR (op_ne.or (op_neD hr.units)) (pv 11) (pv 4) (nomark _)) (pss_one (ps_ret pe_bl)) pss_nil)))
  (pss_one (ps_if (pt_cmpR (op_ne.or (op_neD hr.units)) (pe_oxf (pe_ix ix_list (pv 7) pe_int (fun _ _ => rfl))) (pv 5) (nomark _)) (pss_one (ps_ret pe_bl)) pss_nil)))))))))
  (pss_one (ps_ret (pe_call G__law_caught (hr.mono (by decide)) rfl T.g__law_caught T.F__law_caught.kp T.b__law_caught .nil pass0 (pa_cons (pe_op op_mod (pe_callTy call_int1 rfl T.z_int (by decide +kernel) (pa_cons (pe_ix ix_list (pv 1) pe_int (fun _ _ => rfl)) pa_nil)) pe_int) (pa_cons (pv 4) (pa_cons (pv 5) pa_nil)))))))))))), ?_⟩
    refine ⟨_, rfl, a, ns, rfl, hS, fun c => ⟨_, _, rfl, rfl, ⟨by decide, by decide, by decide⟩, c, rfl, fun H1 p ds s1 hp hl => ?_⟩⟩
    obtain ⟨d0, d1, d2, d3, d4, rfl⟩ : ∃ d0 d1 d2 d3 d4, ds = [d0, d1, d2, d3, d4] := by
      match ds, hl with
      | [d0, d1, d2, d3, d4], _ => exact ⟨d0, d1, d2, d3, d4, rfl⟩
    have hp : H1 p = some (.lst [.int d0, .int d1, .int d2, .int d3, .int d4]) := hp
    clear s1 hl hS
    -- the number
    refine ⟨_, rfl, p, _, 0, _, rfl, rfl, .of hp, rfl, .inl ⟨_, rfl, _, _, rfl, rfl, ⟨by decide, by decide, by decide⟩, _, _, rfl, rfl, Sm.mul (.ab (by decide) (by decide)) (.ab (by decide) (by decide)), _, _, rfl, rfl, _, _, rfl, rfl, (by show (0 : Int) < 2 * 10 ^ (40 : Int).toNat + 1; decide), ?_⟩⟩
    refine ⟨_, _, rfl, rfl, ⟨by decide, by decide, by decide⟩, _, _, rfl, rfl, ?_⟩
    -- the values
    refine ⟨_, rfl, _, rfl, p, _, 0, _, rfl, rfl, .of hp, rfl, .inl ⟨_, rfl, _, _, rfl, rfl, (by show (0 : Int) < 9; decide), _, rfl, rfl, Int.emod_nonneg _ (by decide), Int.emod_lt_of_pos _ (by decide), fun ws => ?_⟩⟩
    refine ⟨_, rfl, by show 2 ≤ sizeLine; decide, fun t nt => ⟨_, rfl, by show 6 ≤ sizeLine; decide, fun pv npv => ?_⟩⟩
    have s1 : Same H1 (upd H1 t (.tup [.int (d0 % (2 * 10 ^ (40 : Int).toNat + 1) - 10 ^ (40 : Int).toNat), .str "a"])) := same_upd nt
    have ht : upd H1 t (.tup [.int (d0 % (2 * 10 ^ (40 : Int).toNat + 1) - 10 ^ (40 : Int).toNat), .str "a"]) t = some (.tup [.int (d0 % (2 * 10 ^ (40 : Int).toNat + 1) - 10 ^ (40 : Int).toNat), .str "a"]) := upd_same
    have hp1 := s1 _ _ hp
    have s2 : Same (upd H1 t (.tup [.int (d0 % (2 * 10 ^ (40 : Int).toNat + 1) - 10 ^ (40 : Int).toNat), .str "a"])) (upd (upd H1 t (.tup [.int (d0 % (2 * 10 ^ (40 : Int).toNat + 1) - 10 ^ (40 : Int).toNat), .str "a"])) pv (.lst [.int (d0 % (2 * 10 ^ (40 : Int).toNat + 1) - 10 ^ (40 : Int).toNat), .str ws, .non, .bl true, .ref t, .int (-1)])) := same_upd npv
    have hv : upd (upd H1 t (.tup [.int (d0 % (2 * 10 ^ (40 : Int).toNat + 1) - 10 ^ (40 : Int).toNat), .str "a"])) pv (.lst [.int (d0 % (2 * 10 ^ (40 : Int).toNat + 1) - 10 ^ (40 : Int).toNat), .str ws, .non, .bl true, .ref t, .int (-1)]) pv = some (.lst [.int (d0 % (2 * 10 ^ (40 : Int).toNat + 1) - 10 ^ (40 : Int).toNat), .str ws, .non, .bl true, .ref t, .int (-1)]) := upd_same
    have ht2 := s2 _ _ ht
    have hp2 := s2 _ _ hp1
    show tSeq _ _ _ _ (upd (upd H1 t (.tup [.int (d0 % (2 * 10 ^ (40 : Int).toNat + 1) - 10 ^ (40 : Int).toNat), .str "a"])) pv (.lst [.int (d0 % (2 * 10 ^ (40 : Int).toNat + 1) - 10 ^ (40 : Int).toNat), .str ws, .non, .bl true, .ref t, .int (-1)]))
    generalize upd (upd H1 t (.tup [.int (d0 % (2 * 10 ^ (40 : Int).toNat + 1) - 10 ^ (40 : Int).toNat), .str "a"])) pv (.lst [.int (d0 % (2 * 10 ^ (40 : Int).toNat + 1) - 10 ^ (40 : Int).toNat), .str ws, .non, .bl true, .ref t, .int (-1)]) = H2 at s2 hv ht2 hp2
    clear s1 s2 ht hp1 hp npv nt
    have pick : ∀ k : Int, 0 ≤ k → k < 6 → ∃ v, atI [V.int (d0 % (2 * 10 ^ (40 : Int).toNat + 1) - 10 ^ (40 : Int).toNat), .str ws, .non, .bl true, .ref t, .int (-1)] k = some v ∧ ValAt H2 v := by
      intro k k0 k1
      rcases (by omega : k = 0 ∨ k = 1 ∨ k = 2 ∨ k = 3 ∨ k = 4 ∨ k = 5) with e | e | e | e | e | e <;> subst e
      · exact ⟨_, rfl, .inl ⟨_, rfl⟩⟩
      · exact ⟨_, rfl, .inr (.inl ⟨_, rfl⟩)⟩
      · exact ⟨_, rfl, .inr (.inr (.inl rfl))⟩
      · exact ⟨_, rfl, .inr (.inr (.inr (.inl ⟨_, rfl⟩)))⟩
      · exact ⟨_, rfl, .inr (.inr (.inr (.inr ⟨t, (d0 % (2 * 10 ^ (40 : Int).toNat + 1) - 10 ^ (40 : Int).toNat), rfl, ht2⟩)))⟩
      · exact ⟨_, rfl, .inl ⟨_, rfl⟩⟩
    have p6 : (0 : Int) < 6 := by decide
    obtain ⟨v, gv, vv⟩ := pick (d1 % 6) (Int.emod_nonneg _ (by decide)) (Int.emod_lt_of_pos _ p6)
    obtain ⟨u, gu, vu⟩ := pick (d2 % 6) (Int.emod_nonneg _ (by decide)) (Int.emod_lt_of_pos _ p6)
    refine ⟨_, rfl, _, rfl, p, _, 1, _, rfl, rfl, .of hp2, rfl, .inl ⟨_, rfl, _, _, rfl, rfl, p6, pv, _, _, v, rfl, rfl, .of hv, gv, ?_⟩⟩
    refine ⟨_, rfl, _, rfl, p, _, 2, _, rfl, rfl, .of hp2, rfl, .inl ⟨_, rfl, _, _, rfl, rfl, p6, pv, _, _, u, rfl, rfl, .of hv, gu, ?_⟩⟩
    clear gv gu pick hv ht2
    -- both ways of calling
    refine ⟨by show 2 ≤ sizeLine; decide, fun pl nl => ⟨pl, rfl, ⟨_, .of upd_same⟩, ?_⟩⟩
    have s3 : Same H2 (upd H2 pl (.lst [.bl false, .bl true])) := same_upd nl
    have hL : upd H2 pl (.lst [.bl false, .bl true]) pl = some (.lst [.bl false, .bl true]) := upd_same
    refine for_list (K := K) (a := pl) (xs := [.bl false, .bl true]) (fun i σ H' => Same (upd H2 pl (.lst [.bl false, .bl true])) H' ∧ ∃ y6 y7 y8 y9 y10 y11 : Option V, σ = [some (.ref a), some (.ref p), some (.int (d0 % (2 * 10 ^ (40 : Int).toNat + 1) - 10 ^ (40 : Int).toNat)), some (.ref pv), some v, some u, y6, y7, y8, y9, y10, y11])
      ⟨fun _ _ e => e, _, _, _, _, _, _, rfl⟩ (fun i σ H' _ h => .of (h.1 _ _ hL)) ?_ ?_
    · rintro i z σ H3 hz ⟨s4, y6, y7, y8, y9, y10, y11, rfl⟩
      obtain ⟨b, rfl⟩ : ∃ b, z = .bl b := by
        rcases i with _ | _ | i
        · cases hz; exact ⟨_, rfl⟩
        · cases hz; exact ⟨_, rfl⟩
        · cases hz
      refine ⟨_, rfl, _, rfl, _, rfl, v, u, b, rfl, fun H4 pm xs s5 hm hlen hx => ?_⟩
      have vv4 := (vv.same s3).same (s4.trans s5)
      have vu4 := (vu.same s3).same (s4.trans s5)
      have S4 := s4.trans s5
      clear s5 s4
      have el : (!decide (V.int ((xs.length : Nat) : Int) = V.int 18)) = false := by
        rw [hlen]
        rfl
      refine ⟨_, rfl, pm, _, rfl, .inl (.of hm), rfl, _, rfl, iteFe el ?_⟩
      have at_ : ∀ k : Nat, k < 18 → ∃ (x : V) (C : Addr) (fs : List (Str × V)) (nm : Str), atI xs (0 + (k : Int)) = some x ∧ atI xs (k : Int) = some x ∧ (clsL A)[k]? = some C ∧ (fldL v u)[k]? = some fs ∧ ErrAt C H4 x fs ∧ ErrC K A.MeansError C nm := fun k hk => by
        have k1 : k < xs.length := by omega
        have k2 : k < (clsL A).length := hk
        have k3 : k < (fldL v u).length := hk
        have e1 := List.getElem?_eq_getElem k1
        have e2 := List.getElem?_eq_getElem k2
        have e3 := List.getElem?_eq_getElem k3
        obtain ⟨nm, e4⟩ := nm_at e2
        refine ⟨_, _, _, nm, ?_, atI_nat e1, e2, e3, hx k _ _ _ e1 e2 e3, errs T _ _ _ e2 e4⟩
        rw [Int.zero_add]
        exact atI_nat e1
      -- each is of its class alone
      refine ⟨18, rfl, by decide, by decide, ?_⟩
      refine for_range (lo := 0) (n := 18) (fun i σ H' => H' = H4 ∧ ∃ y8 y9 y10 y11 : Option V, σ = [some (.ref a), some (.ref p), some (.int (d0 % (2 * 10 ^ (40 : Int).toNat + 1) - 10 ^ (40 : Int).toNat)), some (.ref pv), some v, some u, some (.bl b), some (.ref pm), y8, y9, y10, y11])
        ⟨rfl, _, _, _, _, rfl⟩ ?_ ?_
      · rintro k σ H5 hk ⟨rfl, y8, y9, y10, y11, rfl⟩
        obtain ⟨x, C, fs, nm, g0, _, hC, _, e, E⟩ := at_ k hk
        refine ⟨_, rfl, _, rfl, pm, xs, _, x, rfl, rfl, .of hm, g0, x, .ref A.MeansError, _, C, fs, true, rfl, e, E.c, .own _, E.kit_base, true, rfl, iteF ?_⟩
        refine ⟨_, rfl, _, rfl, pm, xs, _, x, rfl, rfl, .of hm, g0, x, .ty "ValueError", _, C, fs, true, rfl, e, E.c, .ty _, E.kit_ve, true, rfl, iteF ?_⟩
        refine ⟨18, rfl, by decide, by decide, ?_⟩
        refine for_range (lo := 0) (n := 18) (fun i σ H' => H' = H5 ∧ ∃ y9 y10 y11 : Option V, σ = [some (.ref a), some (.ref p), some (.int (d0 % (2 * 10 ^ (40 : Int).toNat + 1) - 10 ^ (40 : Int).toNat)), some (.ref pv), some v, some u, some (.bl b), some (.ref pm), some (.int (0 + (k : Int))), y9, y10, y11])
          ⟨rfl, _, _, _, rfl⟩ ?_ ?_
        · rintro j σ H6 hj ⟨rfl, y9, y10, y11, rfl⟩
          have ej : (!decide (V.bl (decide (j = k)) = V.bl (decide (V.int (0 + (j : Int)) = V.int (0 + (k : Int)))))) = false := by
            have : decide (V.int (0 + (j : Int)) = V.int (0 + (k : Int))) = decide (j = k) := by
              rw [Bool.eq_iff_iff]
              simp
              omega
            rw [this, decide_eq_true rfl]
            rfl
          refine ⟨_, rfl, _, rfl, pm, xs, _, x, rfl, rfl, .of hm, g0, _, rfl, x, k, j, C, fs, (by rw [Int.zero_add]; rfl), e, hC, hj, ?_⟩
          refine ⟨_, rfl, _, rfl, rfl, rfl, _, rfl, iteFe ej ?_⟩
          exact ⟨rfl, _, _, _, rfl⟩
        · rintro σ H6 ⟨rfl, y9, y10, y11, rfl⟩
          exact ⟨rfl, _, _, _, _, rfl⟩
      rintro σ H5 ⟨rfl, y8, y9, y10, y11, rfl⟩
      -- what they keep
      have fld : ∀ (k : Nat) (C : Addr) (fs : List (Str × V)) (f : Str) (z : V), k < 18 → (clsL A)[k]? = some C → (fldL v u)[k]? = some fs → fs.lookup f = some z → PySem.W.findIn K (.ref C) f = some none →
          ∃ x, atI xs (k : Int) = some x ∧ ErrAt C H5 x fs ∧ XfC K C := fun k C fs f z hk h1 h2 _ _ => by
        obtain ⟨x, C', fs', nm, _, g, e1, e2, e3, e4⟩ := at_ k hk
        rw [h1] at e1
        rw [h2] at e2
        cases e1
        cases e2
        exact ⟨x, g, e3, e4.x⟩
      obtain ⟨x0, g0, e0, X0⟩ := fld 0 A.NoRatio [("word", v)] "word" v (by decide) rfl rfl rfl T.n_NoRatio_word
      obtain ⟨x1, g1, e1, X1⟩ := fld 3 A.NoNumber [("word", v)] "word" v (by decide) rfl rfl rfl T.n_NoNumber_word
      obtain ⟨x2, g2, e2, X2⟩ := fld 4 A.NoPlace [("part", v)] "part" v (by decide) rfl rfl rfl T.n_NoPlace_part
      obtain ⟨x3, g3, e3, X3⟩ := fld 6 A.NoRow [("index", v)] "index" v (by decide) rfl rfl rfl T.n_NoRow_index
      obtain ⟨x4, g4, e4, X4⟩ := fld 8 A.NoLot [("part", v)] "part" v (by decide) rfl rfl rfl T.n_NoLot_part
      obtain ⟨x5, g5, e5, X5⟩ := fld 10 A.NoBar [("part", v)] "part" v (by decide) rfl rfl rfl T.n_NoBar_part
      obtain ⟨x6, g6, e6, X6⟩ := fld 12 A.NoWeight [("most", v)] "most" v (by decide) rfl rfl rfl T.n_NoWeight_most
      obtain ⟨x7, g7, e7, X7⟩ := fld 13 A.NoFit [("high", u), ("low", v)] "low" v (by decide) rfl rfl rfl T.n_NoFit_low
      obtain ⟨x8, g8, e8, X8⟩ := fld 14 A.NoShares [("index", v)] "index" v (by decide) rfl rfl rfl T.n_NoShares_index
      obtain ⟨x9, g9, e9, X9⟩ := fld 17 A.NoText [("part", v)] "part" v (by decide) rfl rfl rfl T.n_NoText_part
      obtain ⟨x99, g99, e99, X99⟩ := fld 13 A.NoFit [("high", u), ("low", v)] "high" u (by decide) rfl rfl rfl T.n_NoFit_high
      refine ⟨_, rfl, pm, xs, 0, x0, rfl, rfl, .of hm, g0, A.NoRatio, _, v, e0, X0, T.n_NoRatio_word, rfl, ?_⟩
      refine ⟨_, rfl, pm, xs, 3, x1, rfl, rfl, .of hm, g1, A.NoNumber, _, v, e1, X1, T.n_NoNumber_word, rfl, ?_⟩
      refine ⟨_, rfl, pm, xs, 4, x2, rfl, rfl, .of hm, g2, A.NoPlace, _, v, e2, X2, T.n_NoPlace_part, rfl, ?_⟩
      refine ⟨_, rfl, pm, xs, 6, x3, rfl, rfl, .of hm, g3, A.NoRow, _, v, e3, X3, T.n_NoRow_index, rfl, ?_⟩
      refine ⟨_, rfl, pm, xs, 8, x4, rfl, rfl, .of hm, g4, A.NoLot, _, v, e4, X4, T.n_NoLot_part, rfl, ?_⟩
      refine ⟨_, rfl, pm, xs, 10, x5, rfl, rfl, .of hm, g5, A.NoBar, _, v, e5, X5, T.n_NoBar_part, rfl, ?_⟩
      refine ⟨_, rfl, pm, xs, 12, x6, rfl, rfl, .of hm, g6, A.NoWeight, _, v, e6, X6, T.n_NoWeight_most, rfl, ?_⟩
      refine ⟨by show 7 ≤ sizeLine; decide, fun p1 n1 => ?_⟩
      have t1 : Same H5 (upd H5 p1 (.lst [v, v, v, v, v, v, v])) := same_upd n1
      have l1 : upd H5 p1 (.lst [v, v, v, v, v, v, v]) p1 = some (.lst [v, v, v, v, v, v, v]) := upd_same
      refine ⟨_, rfl, ?_⟩
      refine ⟨_, rfl, pm, xs, 13, x7, rfl, rfl, .of (t1 _ _ hm), g7, A.NoFit, _, v, e7.same t1, X7, T.n_NoFit_low, rfl, ?_⟩
      refine ⟨_, rfl, pm, xs, 14, x8, rfl, rfl, .of (t1 _ _ hm), g8, A.NoShares, _, v, e8.same t1, X8, T.n_NoShares_index, rfl, ?_⟩
      refine ⟨_, rfl, pm, xs, 17, x9, rfl, rfl, .of (t1 _ _ hm), g9, A.NoText, _, v, e9.same t1, X9, T.n_NoText_part, rfl, ?_⟩
      refine ⟨by show 3 ≤ sizeLine; decide, fun p2 n2 => ?_⟩
      have t2 := t1.trans (same_upd (o := .lst [v, v, v]) n2)
      have l2 : upd (upd H5 p1 (.lst [v, v, v, v, v, v, v])) p2 (.lst [v, v, v]) p1 = some (.lst [v, v, v, v, v, v, v]) := (same_upd (o := .lst [v, v, v]) n2) _ _ l1
      refine ⟨p1, p2, [v, v, v, v, v, v, v], [v, v, v], rfl, rfl, l2, upd_same, by show 10 ≤ sizeLine; decide, fun p3 n3 => ?_⟩
      have t3 := t2.trans (same_upd (o := .lst [v, v, v, v, v, v, v, v, v, v]) n3)
      have l3 : upd (upd (upd H5 p1 (.lst [v, v, v, v, v, v, v])) p2 (.lst [v, v, v])) p3 (.lst [v, v, v, v, v, v, v, v, v, v]) p3 = some (.lst [v, v, v, v, v, v, v, v, v, v]) := upd_same
      show tSeq _ _ _ _ (upd (upd (upd H5 p1 (.lst [v, v, v, v, v, v, v])) p2 (.lst [v, v, v])) p3 (.lst [v, v, v, v, v, v, v, v, v, v]))
      generalize upd (upd (upd H5 p1 (.lst [v, v, v, v, v, v, v])) p2 (.lst [v, v, v])) p3 (.lst [v, v, v, v, v, v, v, v, v, v]) = H6 at t3 l3
      refine ⟨_, rfl, p3, rfl, ⟨_, .of l3⟩, ?_⟩
      refine for_list (K := K) (a := p3) (xs := [v, v, v, v, v, v, v, v, v, v]) (fun i σ H' => H' = H6 ∧ ∃ y8 y9 y11 : Option V, σ = [some (.ref a), some (.ref p), some (.int (d0 % (2 * 10 ^ (40 : Int).toNat + 1) - 10 ^ (40 : Int).toNat)), some (.ref pv), some v, some u, some (.bl b), some (.ref pm), y8, y9, some (.ref p3), y11])
        ⟨rfl, _, _, _, rfl⟩ (fun i σ H' _ h => by rw [h.1]; exact .of l3) ?_ ?_
      · rintro j z σ H7 hz ⟨rfl, y8, y9, y11, rfl⟩
        have ez : z = v := by
          have := List.mem_of_getElem? hz
          simpa using this
        subst ez
        exact ⟨_, rfl, _, rfl, ne_same (vv4.same t3) ⟨_, rfl, iteF ⟨rfl, _, _, _, rfl⟩⟩⟩
      · rintro σ H7 ⟨rfl, y8, y9, y11, rfl⟩
        refine ⟨_, rfl, pm, xs, 13, x99, rfl, rfl, .of (t3 _ _ hm), g99, A.NoFit, _, u, e99.same t3, X99, T.n_NoFit_high, rfl, ?_⟩
        exact ⟨_, rfl, ne_same (vu4.same t3) ⟨_, rfl, iteF ⟨S4.trans t3, _, _, _, _, _, _, rfl⟩⟩⟩
    · rintro σ H3 ⟨s4, y6, y7, y8, y9, y10, y11, rfl⟩
      have hp3 := s4 _ _ (s3 _ _ hp2)
      exact ⟨_, rfl, p, _, 3, _, rfl, rfl, .of hp3, rfl, .inl ⟨_, rfl, _, _, rfl, rfl, (by show (0 : Int) < 4; decide), _, rfl, _, rfl, _, v, u, rfl, fun H' => q H'⟩⟩
end

end Mo

namespace Mo
open PySem PySem.Spec PyProof.Rows L2 MoL MoW
open C8 (pss_cut tCut)
/-! ### what the top has written -/
theorem all_mk {l : PySem.W.OpenLaw} {w : World} {K : PySem.W.Frag} {h : Heap} {mg : Str → Option Value} {fa C_NoRatio C_NoPoly C_NoDivisor C_NoNumber C_NoPlace C_NotSegment C_NoRow C_NoMean C_NoLot C_NoLotThere C_NoBar C_NoPoint C_NoWeight C_NoFit C_NoShares C_TooMany C_NoStep C_NoText C_MeansError f0 f1 f2 f3 f4 f5 f6 f7 f8 f9 f10 f11 f12 f13 f14 f15 : Addr} (X : K.In h) (G : h.Ns mainGlobals mg) (hfa : mg "law" = some (.ref fa))
    {od0 an0 od1 an1 od2 an2 od3 an3 od4 an4 od5 an5 od6 an6 od7 an7 od8 an8 od9 an9 od10 an10 od11 an11 od12 an12 od13 an13 od14 an14 od15 an15 : Option Addr} {sl0 sl1 sl2 sl3 sl4 sl5 sl6 sl7 sl8 sl9 sl10 sl11 sl12 sl13 sl14 sl15 : Array (Option Value)} {oc0 kV0 dc0 pm0 cd0 ct0 oc1 kV1 dc1 pm1 cd1 ct1 oc2 kV2 dc2 pm2 cd2 ct2 oc3 kV3 dc3 pm3 cd3 ct3 oc4 kV4 dc4 pm4 cd4 ct4 oc5 kV5 dc5 pm5 cd5 ct5 oc6 kV6 dc6 pm6 cd6 ct6 oc7 kV7 dc7 pm7 cd7 ct7 oc8 kV8 dc8 pm8 cd8 ct8 oc9 kV9 dc9 pm9 cd9 ct9 oc10 kV10 dc10 pm10 cd10 ct10 oc11 kV11 dc11 pm11 cd11 ct11 oc12 kV12 dc12 pm12 cd12 ct12 oc13 kV13 dc13 pm13 cd13 ct13 oc14 kV14 dc14 pm14 cd14 ct14 oc15 kV15 dc15 pm15 cd15 ct15 : Value} {q_MeansError : Str} {N_MeansError : Addr} {bs_MeansError sub_MeansError : List Value} {sn_MeansError : List Str} {ab_MeansError : Bool} {col_MeansError : Option Bool} {dd_MeansError : Option Addr} {m0_MeansError m1_MeansError m2_MeansError m3_MeansError m5_MeansError : Option Value} {q_NoRatio : Str} {N_NoRatio : Addr} {bs_NoRatio sub_NoRatio : List Value} {sn_NoRatio : List Str} {ab_NoRatio : Bool} {col_NoRatio : Option Bool} {dd_NoRatio : Option Addr} {m0_NoRatio m1_NoRatio m2_NoRatio m3_NoRatio m5_NoRatio : Option Value} {q_NoPoly : Str} {N_NoPoly : Addr} {bs_NoPoly sub_NoPoly : List Value} {sn_NoPoly : List Str} {ab_NoPoly : Bool} {col_NoPoly : Option Bool} {dd_NoPoly : Option Addr} {m0_NoPoly m1_NoPoly m2_NoPoly m3_NoPoly m5_NoPoly : Option Value} {q_NoDivisor : Str} {N_NoDivisor : Addr} {bs_NoDivisor sub_NoDivisor : List Value} {sn_NoDivisor : List Str} {ab_NoDivisor : Bool} {col_NoDivisor : Option Bool} {dd_NoDivisor : Option Addr} {m0_NoDivisor m1_NoDivisor m2_NoDivisor m3_NoDivisor m5_NoDivisor : Option Value} {q_NoNumber : Str} {N_NoNumber : Addr} {bs_NoNumber sub_NoNumber : List Value} {sn_NoNumber : List Str} {ab_NoNumber : Bool} {col_NoNumber : Option Bool} {dd_NoNumber : Option Addr} {m0_NoNumber m1_NoNumber m2_NoNumber m3_NoNumber m5_NoNumber : Option Value} {q_NoPlace : Str} {N_NoPlace : Addr} {bs_NoPlace sub_NoPlace : List Value} {sn_NoPlace : List Str} {ab_NoPlace : Bool} {col_NoPlace : Option Bool} {dd_NoPlace : Option Addr} {m0_NoPlace m1_NoPlace m2_NoPlace m3_NoPlace m5_NoPlace : Option Value} {q_NotSegment : Str} {N_NotSegment : Addr} {bs_NotSegment sub_NotSegment : List Value} {sn_NotSegment : List Str} {ab_NotSegment : Bool} {col_NotSegment : Option Bool} {dd_NotSegment : Option Addr} {m0_NotSegment m1_NotSegment m2_NotSegment m3_NotSegment m5_NotSegment : Option Value} {q_NoRow : Str} {N_NoRow : Addr} {bs_NoRow sub_NoRow : List Value} {sn_NoRow : List Str} {ab_NoRow : Bool} {col_NoRow : Option Bool} {dd_NoRow : Option Addr} {m0_NoRow m1_NoRow m2_NoRow m3_NoRow m5_NoRow : Option Value} {q_NoMean : Str} {N_NoMean : Addr} {bs_NoMean sub_NoMean : List Value} {sn_NoMean : List Str} {ab_NoMean : Bool} {col_NoMean : Option Bool} {dd_NoMean : Option Addr} {m0_NoMean m1_NoMean m2_NoMean m3_NoMean m5_NoMean : Option Value} {q_NoLot : Str} {N_NoLot : Addr} {bs_NoLot sub_NoLot : List Value} {sn_NoLot : List Str} {ab_NoLot : Bool} {col_NoLot : Option Bool} {dd_NoLot : Option Addr} {m0_NoLot m1_NoLot m2_NoLot m3_NoLot m5_NoLot : Option Value} {q_NoLotThere : Str} {N_NoLotThere : Addr} {bs_NoLotThere sub_NoLotThere : List Value} {sn_NoLotThere : List Str} {ab_NoLotThere : Bool} {col_NoLotThere : Option Bool} {dd_NoLotThere : Option Addr} {m0_NoLotThere m1_NoLotThere m2_NoLotThere m3_NoLotThere m5_NoLotThere : Option Value} {q_NoBar : Str} {N_NoBar : Addr} {bs_NoBar sub_NoBar : List Value} {sn_NoBar : List Str} {ab_NoBar : Bool} {col_NoBar : Option Bool} {dd_NoBar : Option Addr} {m0_NoBar m1_NoBar m2_NoBar m3_NoBar m5_NoBar : Option Value} {q_NoPoint : Str} {N_NoPoint : Addr} {bs_NoPoint sub_NoPoint : List Value} {sn_NoPoint : List Str} {ab_NoPoint : Bool} {col_NoPoint : Option Bool} {dd_NoPoint : Option Addr} {m0_NoPoint m1_NoPoint m2_NoPoint m3_NoPoint m5_NoPoint : Option Value} {q_NoWeight : Str} {N_NoWeight : Addr} {bs_NoWeight sub_NoWeight : List Value} {sn_NoWeight : List Str} {ab_NoWeight : Bool} {col_NoWeight : Option Bool} {dd_NoWeight : Option Addr} {m0_NoWeight m1_NoWeight m2_NoWeight m3_NoWeight m5_NoWeight : Option Value} {q_NoFit : Str} {N_NoFit : Addr} {bs_NoFit sub_NoFit : List Value} {sn_NoFit : List Str} {ab_NoFit : Bool} {col_NoFit : Option Bool} {dd_NoFit : Option Addr} {m0_NoFit m1_NoFit m2_NoFit m3_NoFit m5_NoFit : Option Value} {q_NoShares : Str} {N_NoShares : Addr} {bs_NoShares sub_NoShares : List Value} {sn_NoShares : List Str} {ab_NoShares : Bool} {col_NoShares : Option Bool} {dd_NoShares : Option Addr} {m0_NoShares m1_NoShares m2_NoShares m3_NoShares m5_NoShares : Option Value} {q_TooMany : Str} {N_TooMany : Addr} {bs_TooMany sub_TooMany : List Value} {sn_TooMany : List Str} {ab_TooMany : Bool} {col_TooMany : Option Bool} {dd_TooMany : Option Addr} {m0_TooMany m1_TooMany m2_TooMany m3_TooMany m5_TooMany : Option Value} {q_NoStep : Str} {N_NoStep : Addr} {bs_NoStep sub_NoStep : List Value} {sn_NoStep : List Str} {ab_NoStep : Bool} {col_NoStep : Option Bool} {dd_NoStep : Option Addr} {m0_NoStep m1_NoStep m2_NoStep m3_NoStep m5_NoStep : Option Value} {q_NoText : Str} {N_NoText : Addr} {bs_NoText sub_NoText : List Value} {sn_NoText : List Str} {ab_NoText : Bool} {col_NoText : Option Bool} {dd_NoText : Option Addr} {m0_NoText m1_NoText m2_NoText m3_NoText m5_NoText : Option Value}
    (g_MeansError : PySem.W.nsIn K mainGlobals "MeansError" = some (some (.ref C_MeansError)))
    (g_NoRatio : PySem.W.nsIn K mainGlobals "NoRatio" = some (some (.ref C_NoRatio)))
    (g_NoPoly : PySem.W.nsIn K mainGlobals "NoPoly" = some (some (.ref C_NoPoly)))
    (g_NoDivisor : PySem.W.nsIn K mainGlobals "NoDivisor" = some (some (.ref C_NoDivisor)))
    (g_NoNumber : PySem.W.nsIn K mainGlobals "NoNumber" = some (some (.ref C_NoNumber)))
    (g_NoPlace : PySem.W.nsIn K mainGlobals "NoPlace" = some (some (.ref C_NoPlace)))
    (g_NotSegment : PySem.W.nsIn K mainGlobals "NotSegment" = some (some (.ref C_NotSegment)))
    (g_NoRow : PySem.W.nsIn K mainGlobals "NoRow" = some (some (.ref C_NoRow)))
    (g_NoMean : PySem.W.nsIn K mainGlobals "NoMean" = some (some (.ref C_NoMean)))
    (g_NoLot : PySem.W.nsIn K mainGlobals "NoLot" = some (some (.ref C_NoLot)))
    (g_NoLotThere : PySem.W.nsIn K mainGlobals "NoLotThere" = some (some (.ref C_NoLotThere)))
    (g_NoBar : PySem.W.nsIn K mainGlobals "NoBar" = some (some (.ref C_NoBar)))
    (g_NoPoint : PySem.W.nsIn K mainGlobals "NoPoint" = some (some (.ref C_NoPoint)))
    (g_NoWeight : PySem.W.nsIn K mainGlobals "NoWeight" = some (some (.ref C_NoWeight)))
    (g_NoFit : PySem.W.nsIn K mainGlobals "NoFit" = some (some (.ref C_NoFit)))
    (g_NoShares : PySem.W.nsIn K mainGlobals "NoShares" = some (some (.ref C_NoShares)))
    (g_TooMany : PySem.W.nsIn K mainGlobals "TooMany" = some (some (.ref C_TooMany)))
    (g_NoStep : PySem.W.nsIn K mainGlobals "NoStep" = some (some (.ref C_NoStep)))
    (g_NoText : PySem.W.nsIn K mainGlobals "NoText" = some (some (.ref C_NoText)))
    (xL_MeansError : K.lookup C_MeansError = some (excClassObj "MeansError" q_MeansError C_MeansError N_MeansError bs_MeansError [.type "ValueError", .type "Exception", .type "BaseException", .type "object"] true sn_MeansError sub_MeansError ab_MeansError col_MeansError dd_MeansError m0_MeansError m1_MeansError m2_MeansError m3_MeansError m5_MeansError "ValueError.__new__"))
    (xL_NoRatio : K.lookup C_NoRatio = some (excClassObj "NoRatio" q_NoRatio C_NoRatio N_NoRatio bs_NoRatio [.ref C_MeansError, .type "ValueError", .type "Exception", .type "BaseException", .type "object"] true sn_NoRatio sub_NoRatio ab_NoRatio col_NoRatio dd_NoRatio m0_NoRatio m1_NoRatio m2_NoRatio m3_NoRatio m5_NoRatio "ValueError.__new__"))
    (xL_NoPoly : K.lookup C_NoPoly = some (excClassObj "NoPoly" q_NoPoly C_NoPoly N_NoPoly bs_NoPoly [.ref C_MeansError, .type "ValueError", .type "Exception", .type "BaseException", .type "object"] true sn_NoPoly sub_NoPoly ab_NoPoly col_NoPoly dd_NoPoly m0_NoPoly m1_NoPoly m2_NoPoly m3_NoPoly m5_NoPoly "ValueError.__new__"))
    (xL_NoDivisor : K.lookup C_NoDivisor = some (excClassObj "NoDivisor" q_NoDivisor C_NoDivisor N_NoDivisor bs_NoDivisor [.ref C_MeansError, .type "ValueError", .type "Exception", .type "BaseException", .type "object"] true sn_NoDivisor sub_NoDivisor ab_NoDivisor col_NoDivisor dd_NoDivisor m0_NoDivisor m1_NoDivisor m2_NoDivisor m3_NoDivisor m5_NoDivisor "ValueError.__new__"))
    (xL_NoNumber : K.lookup C_NoNumber = some (excClassObj "NoNumber" q_NoNumber C_NoNumber N_NoNumber bs_NoNumber [.ref C_MeansError, .type "ValueError", .type "Exception", .type "BaseException", .type "object"] true sn_NoNumber sub_NoNumber ab_NoNumber col_NoNumber dd_NoNumber m0_NoNumber m1_NoNumber m2_NoNumber m3_NoNumber m5_NoNumber "ValueError.__new__"))
    (xL_NoPlace : K.lookup C_NoPlace = some (excClassObj "NoPlace" q_NoPlace C_NoPlace N_NoPlace bs_NoPlace [.ref C_MeansError, .type "ValueError", .type "Exception", .type "BaseException", .type "object"] true sn_NoPlace sub_NoPlace ab_NoPlace col_NoPlace dd_NoPlace m0_NoPlace m1_NoPlace m2_NoPlace m3_NoPlace m5_NoPlace "ValueError.__new__"))
    (xL_NotSegment : K.lookup C_NotSegment = some (excClassObj "NotSegment" q_NotSegment C_NotSegment N_NotSegment bs_NotSegment [.ref C_MeansError, .type "ValueError", .type "Exception", .type "BaseException", .type "object"] true sn_NotSegment sub_NotSegment ab_NotSegment col_NotSegment dd_NotSegment m0_NotSegment m1_NotSegment m2_NotSegment m3_NotSegment m5_NotSegment "ValueError.__new__"))
    (xL_NoRow : K.lookup C_NoRow = some (excClassObj "NoRow" q_NoRow C_NoRow N_NoRow bs_NoRow [.ref C_MeansError, .type "ValueError", .type "Exception", .type "BaseException", .type "object"] true sn_NoRow sub_NoRow ab_NoRow col_NoRow dd_NoRow m0_NoRow m1_NoRow m2_NoRow m3_NoRow m5_NoRow "ValueError.__new__"))
    (xL_NoMean : K.lookup C_NoMean = some (excClassObj "NoMean" q_NoMean C_NoMean N_NoMean bs_NoMean [.ref C_MeansError, .type "ValueError", .type "Exception", .type "BaseException", .type "object"] true sn_NoMean sub_NoMean ab_NoMean col_NoMean dd_NoMean m0_NoMean m1_NoMean m2_NoMean m3_NoMean m5_NoMean "ValueError.__new__"))
    (xL_NoLot : K.lookup C_NoLot = some (excClassObj "NoLot" q_NoLot C_NoLot N_NoLot bs_NoLot [.ref C_MeansError, .type "ValueError", .type "Exception", .type "BaseException", .type "object"] true sn_NoLot sub_NoLot ab_NoLot col_NoLot dd_NoLot m0_NoLot m1_NoLot m2_NoLot m3_NoLot m5_NoLot "ValueError.__new__"))
    (xL_NoLotThere : K.lookup C_NoLotThere = some (excClassObj "NoLotThere" q_NoLotThere C_NoLotThere N_NoLotThere bs_NoLotThere [.ref C_MeansError, .type "ValueError", .type "Exception", .type "BaseException", .type "object"] true sn_NoLotThere sub_NoLotThere ab_NoLotThere col_NoLotThere dd_NoLotThere m0_NoLotThere m1_NoLotThere m2_NoLotThere m3_NoLotThere m5_NoLotThere "ValueError.__new__"))
    (xL_NoBar : K.lookup C_NoBar = some (excClassObj "NoBar" q_NoBar C_NoBar N_NoBar bs_NoBar [.ref C_MeansError, .type "ValueError", .type "Exception", .type "BaseException", .type "object"] true sn_NoBar sub_NoBar ab_NoBar col_NoBar dd_NoBar m0_NoBar m1_NoBar m2_NoBar m3_NoBar m5_NoBar "ValueError.__new__"))
    (xL_NoPoint : K.lookup C_NoPoint = some (excClassObj "NoPoint" q_NoPoint C_NoPoint N_NoPoint bs_NoPoint [.ref C_MeansError, .type "ValueError", .type "Exception", .type "BaseException", .type "object"] true sn_NoPoint sub_NoPoint ab_NoPoint col_NoPoint dd_NoPoint m0_NoPoint m1_NoPoint m2_NoPoint m3_NoPoint m5_NoPoint "ValueError.__new__"))
    (xL_NoWeight : K.lookup C_NoWeight = some (excClassObj "NoWeight" q_NoWeight C_NoWeight N_NoWeight bs_NoWeight [.ref C_MeansError, .type "ValueError", .type "Exception", .type "BaseException", .type "object"] true sn_NoWeight sub_NoWeight ab_NoWeight col_NoWeight dd_NoWeight m0_NoWeight m1_NoWeight m2_NoWeight m3_NoWeight m5_NoWeight "ValueError.__new__"))
    (xL_NoFit : K.lookup C_NoFit = some (excClassObj "NoFit" q_NoFit C_NoFit N_NoFit bs_NoFit [.ref C_MeansError, .type "ValueError", .type "Exception", .type "BaseException", .type "object"] true sn_NoFit sub_NoFit ab_NoFit col_NoFit dd_NoFit m0_NoFit m1_NoFit m2_NoFit m3_NoFit m5_NoFit "ValueError.__new__"))
    (xL_NoShares : K.lookup C_NoShares = some (excClassObj "NoShares" q_NoShares C_NoShares N_NoShares bs_NoShares [.ref C_MeansError, .type "ValueError", .type "Exception", .type "BaseException", .type "object"] true sn_NoShares sub_NoShares ab_NoShares col_NoShares dd_NoShares m0_NoShares m1_NoShares m2_NoShares m3_NoShares m5_NoShares "ValueError.__new__"))
    (xL_TooMany : K.lookup C_TooMany = some (excClassObj "TooMany" q_TooMany C_TooMany N_TooMany bs_TooMany [.ref C_MeansError, .type "ValueError", .type "Exception", .type "BaseException", .type "object"] true sn_TooMany sub_TooMany ab_TooMany col_TooMany dd_TooMany m0_TooMany m1_TooMany m2_TooMany m3_TooMany m5_TooMany "ValueError.__new__"))
    (xL_NoStep : K.lookup C_NoStep = some (excClassObj "NoStep" q_NoStep C_NoStep N_NoStep bs_NoStep [.ref C_MeansError, .type "ValueError", .type "Exception", .type "BaseException", .type "object"] true sn_NoStep sub_NoStep ab_NoStep col_NoStep dd_NoStep m0_NoStep m1_NoStep m2_NoStep m3_NoStep m5_NoStep "ValueError.__new__"))
    (xL_NoText : K.lookup C_NoText = some (excClassObj "NoText" q_NoText C_NoText N_NoText bs_NoText [.ref C_MeansError, .type "ValueError", .type "Exception", .type "BaseException", .type "object"] true sn_NoText sub_NoText ab_NoText col_NoText dd_NoText m0_NoText m1_NoText m2_NoText m3_NoText m5_NoText "ValueError.__new__"))
    (a0 : PySem.W.findIn K (.ref C_NoRatio) "__init__" = some (some (.ref f0)))
    (i0 : PySem.W.isFn K (.ref f0) = true)
    (l0 : K.lookup f0 = some ⟨oc0, od0, .func (PySem.W.fnOf "__init__" "NoRatio.__init__" (defArgs s_NoRatio___init__) (defBody s_NoRatio___init__) (defScope s_NoRatio___init__) .none kV0 dc0 pm0 an0 cd0 ct0), sl0⟩)
    (c0 : PySem.W.codeIn K cd0 "NoRatio.__init__" = true)
    (k0 : PySem.W.keepIn K (.ref f0) = true)
    (a1 : PySem.W.findIn K (.ref C_NoNumber) "__init__" = some (some (.ref f1)))
    (i1 : PySem.W.isFn K (.ref f1) = true)
    (l1 : K.lookup f1 = some ⟨oc1, od1, .func (PySem.W.fnOf "__init__" "NoNumber.__init__" (defArgs s_NoNumber___init__) (defBody s_NoNumber___init__) (defScope s_NoNumber___init__) .none kV1 dc1 pm1 an1 cd1 ct1), sl1⟩)
    (c1 : PySem.W.codeIn K cd1 "NoNumber.__init__" = true)
    (k1 : PySem.W.keepIn K (.ref f1) = true)
    (a2 : PySem.W.findIn K (.ref C_NoPlace) "__init__" = some (some (.ref f2)))
    (i2 : PySem.W.isFn K (.ref f2) = true)
    (l2 : K.lookup f2 = some ⟨oc2, od2, .func (PySem.W.fnOf "__init__" "NoPlace.__init__" (defArgs s_NoPlace___init__) (defBody s_NoPlace___init__) (defScope s_NoPlace___init__) .none kV2 dc2 pm2 an2 cd2 ct2), sl2⟩)
    (c2 : PySem.W.codeIn K cd2 "NoPlace.__init__" = true)
    (k2 : PySem.W.keepIn K (.ref f2) = true)
    (a3 : PySem.W.findIn K (.ref C_NoRow) "__init__" = some (some (.ref f3)))
    (i3 : PySem.W.isFn K (.ref f3) = true)
    (l3 : K.lookup f3 = some ⟨oc3, od3, .func (PySem.W.fnOf "__init__" "NoRow.__init__" (defArgs s_NoRow___init__) (defBody s_NoRow___init__) (defScope s_NoRow___init__) .none kV3 dc3 pm3 an3 cd3 ct3), sl3⟩)
    (c3 : PySem.W.codeIn K cd3 "NoRow.__init__" = true)
    (k3 : PySem.W.keepIn K (.ref f3) = true)
    (a4 : PySem.W.findIn K (.ref C_NoLot) "__init__" = some (some (.ref f4)))
    (i4 : PySem.W.isFn K (.ref f4) = true)
    (l4 : K.lookup f4 = some ⟨oc4, od4, .func (PySem.W.fnOf "__init__" "NoLot.__init__" (defArgs s_NoLot___init__) (defBody s_NoLot___init__) (defScope s_NoLot___init__) .none kV4 dc4 pm4 an4 cd4 ct4), sl4⟩)
    (c4 : PySem.W.codeIn K cd4 "NoLot.__init__" = true)
    (k4 : PySem.W.keepIn K (.ref f4) = true)
    (a5 : PySem.W.findIn K (.ref C_NoBar) "__init__" = some (some (.ref f5)))
    (i5 : PySem.W.isFn K (.ref f5) = true)
    (l5 : K.lookup f5 = some ⟨oc5, od5, .func (PySem.W.fnOf "__init__" "NoBar.__init__" (defArgs s_NoBar___init__) (defBody s_NoBar___init__) (defScope s_NoBar___init__) .none kV5 dc5 pm5 an5 cd5 ct5), sl5⟩)
    (c5 : PySem.W.codeIn K cd5 "NoBar.__init__" = true)
    (k5 : PySem.W.keepIn K (.ref f5) = true)
    (a6 : PySem.W.findIn K (.ref C_NoWeight) "__init__" = some (some (.ref f6)))
    (i6 : PySem.W.isFn K (.ref f6) = true)
    (l6 : K.lookup f6 = some ⟨oc6, od6, .func (PySem.W.fnOf "__init__" "NoWeight.__init__" (defArgs s_NoWeight___init__) (defBody s_NoWeight___init__) (defScope s_NoWeight___init__) .none kV6 dc6 pm6 an6 cd6 ct6), sl6⟩)
    (c6 : PySem.W.codeIn K cd6 "NoWeight.__init__" = true)
    (k6 : PySem.W.keepIn K (.ref f6) = true)
    (a7 : PySem.W.findIn K (.ref C_NoFit) "__init__" = some (some (.ref f7)))
    (i7 : PySem.W.isFn K (.ref f7) = true)
    (l7 : K.lookup f7 = some ⟨oc7, od7, .func (PySem.W.fnOf "__init__" "NoFit.__init__" (defArgs s_NoFit___init__) (defBody s_NoFit___init__) (defScope s_NoFit___init__) .none kV7 dc7 pm7 an7 cd7 ct7), sl7⟩)
    (c7 : PySem.W.codeIn K cd7 "NoFit.__init__" = true)
    (k7 : PySem.W.keepIn K (.ref f7) = true)
    (a8 : PySem.W.findIn K (.ref C_NoShares) "__init__" = some (some (.ref f8)))
    (i8 : PySem.W.isFn K (.ref f8) = true)
    (l8 : K.lookup f8 = some ⟨oc8, od8, .func (PySem.W.fnOf "__init__" "NoShares.__init__" (defArgs s_NoShares___init__) (defBody s_NoShares___init__) (defScope s_NoShares___init__) .none kV8 dc8 pm8 an8 cd8 ct8), sl8⟩)
    (c8 : PySem.W.codeIn K cd8 "NoShares.__init__" = true)
    (k8 : PySem.W.keepIn K (.ref f8) = true)
    (a9 : PySem.W.findIn K (.ref C_NoText) "__init__" = some (some (.ref f9)))
    (i9 : PySem.W.isFn K (.ref f9) = true)
    (l9 : K.lookup f9 = some ⟨oc9, od9, .func (PySem.W.fnOf "__init__" "NoText.__init__" (defArgs s_NoText___init__) (defBody s_NoText___init__) (defScope s_NoText___init__) .none kV9 dc9 pm9 an9 cd9 ct9), sl9⟩)
    (c9 : PySem.W.codeIn K cd9 "NoText.__init__" = true)
    (k9 : PySem.W.keepIn K (.ref f9) = true)
    (a10 : PySem.W.nsIn K mainGlobals "_law_cell" = some (some (.ref f10)))
    (l10 : K.lookup f10 = some ⟨oc10, od10, .func (PySem.W.fnOf "_law_cell" "_law_cell" (defArgs s__law_cell) (defBody s__law_cell) (defScope s__law_cell) .none kV10 dc10 pm10 an10 cd10 ct10), sl10⟩)
    (c10 : PySem.W.codeIn K cd10 "_law_cell" = true)
    (k10 : PySem.W.keepIn K (.ref f10) = true)
    (a11 : PySem.W.nsIn K mainGlobals "_law_draw" = some (some (.ref f11)))
    (l11 : K.lookup f11 = some ⟨oc11, od11, .func (PySem.W.fnOf "_law_draw" "_law_draw" (defArgs s__law_draw) (defBody s__law_draw) (defScope s__law_draw) .none kV11 dc11 pm11 an11 cd11 ct11), sl11⟩)
    (c11 : PySem.W.codeIn K cd11 "_law_draw" = true)
    (k11 : PySem.W.keepIn K (.ref f11) = true)
    (a12 : PySem.W.nsIn K mainGlobals "_law_is" = some (some (.ref f12)))
    (l12 : K.lookup f12 = some ⟨oc12, od12, .func (PySem.W.fnOf "_law_is" "_law_is" (defArgs s__law_is) (defBody s__law_is) (defScope s__law_is) .none kV12 dc12 pm12 an12 cd12 ct12), sl12⟩)
    (c12 : PySem.W.codeIn K cd12 "_law_is" = true)
    (k12 : PySem.W.keepIn K (.ref f12) = true)
    (a13 : PySem.W.nsIn K mainGlobals "_law_made" = some (some (.ref f13)))
    (l13 : K.lookup f13 = some ⟨oc13, od13, .func (PySem.W.fnOf "_law_made" "_law_made" (defArgs s__law_made) (defBody s__law_made) (defScope s__law_made) .none kV13 dc13 pm13 an13 cd13 ct13), sl13⟩)
    (c13 : PySem.W.codeIn K cd13 "_law_made" = true)
    (k13 : PySem.W.keepIn K (.ref f13) = true)
    (a14 : PySem.W.nsIn K mainGlobals "_law_caught" = some (some (.ref f14)))
    (l14 : K.lookup f14 = some ⟨oc14, od14, .func (PySem.W.fnOf "_law_caught" "_law_caught" (defArgs s__law_caught) (defBody s__law_caught) (defScope s__law_caught) .none kV14 dc14 pm14 an14 cd14 ct14), sl14⟩)
    (c14 : PySem.W.codeIn K cd14 "_law_caught" = true)
    (k14 : PySem.W.keepIn K (.ref f14) = true)
    (a15 : PySem.W.nsIn K mainGlobals "law" = some (some (.ref f15)))
    (l15 : K.lookup f15 = some ⟨oc15, od15, .func (PySem.W.fnOf "law" "law" (defArgs s_law) (defBody s_law) (defScope s_law) .none kV15 dc15 pm15 an15 cd15 ct15), sl15⟩)
    (c15 : PySem.W.codeIn K cd15 "law" = true)
    (k15 : PySem.W.keepIn K (.ref f15) = true)
    (sa_NoRatio : PySem.W.findIn K (.ref C_NoRatio) "__setattr__" = some (some (.builtin "object.__setattr__")))
    (ga_NoRatio : PySem.W.findIn K (.ref C_NoRatio) "__getattribute__" = some (some (.builtin "BaseException.__getattribute__")))
    (gg_NoRatio : PySem.W.findIn K (.ref C_NoRatio) "__getattr__" = some none)
    (cls_NoRatio : PySem.W.findIn K (.ref C_NoRatio) "__class__" = some (some (.builtin "object.__class__")))
    (kC_NoRatio : PySem.W.keepIn K (.ref C_NoRatio) = true)
    (n_NoRatio_word : PySem.W.findIn K (.ref C_NoRatio) "word" = some none)
    (ti_NoRatio : PySem.W.typeIn K (.ref f0) = some (.type "function"))
    (sa_NoPoly : PySem.W.findIn K (.ref C_NoPoly) "__setattr__" = some (some (.builtin "object.__setattr__")))
    (ga_NoPoly : PySem.W.findIn K (.ref C_NoPoly) "__getattribute__" = some (some (.builtin "BaseException.__getattribute__")))
    (gg_NoPoly : PySem.W.findIn K (.ref C_NoPoly) "__getattr__" = some none)
    (cls_NoPoly : PySem.W.findIn K (.ref C_NoPoly) "__class__" = some (some (.builtin "object.__class__")))
    (kC_NoPoly : PySem.W.keepIn K (.ref C_NoPoly) = true)
    (xn_NoPoly : PySem.W.excIn K C_NoPoly [.type "ValueError", .type "Exception", .type "BaseException", .type "object"] "ValueError.__new__" = true)
    (sa_NoDivisor : PySem.W.findIn K (.ref C_NoDivisor) "__setattr__" = some (some (.builtin "object.__setattr__")))
    (ga_NoDivisor : PySem.W.findIn K (.ref C_NoDivisor) "__getattribute__" = some (some (.builtin "BaseException.__getattribute__")))
    (gg_NoDivisor : PySem.W.findIn K (.ref C_NoDivisor) "__getattr__" = some none)
    (cls_NoDivisor : PySem.W.findIn K (.ref C_NoDivisor) "__class__" = some (some (.builtin "object.__class__")))
    (kC_NoDivisor : PySem.W.keepIn K (.ref C_NoDivisor) = true)
    (xn_NoDivisor : PySem.W.excIn K C_NoDivisor [.type "ValueError", .type "Exception", .type "BaseException", .type "object"] "ValueError.__new__" = true)
    (sa_NoNumber : PySem.W.findIn K (.ref C_NoNumber) "__setattr__" = some (some (.builtin "object.__setattr__")))
    (ga_NoNumber : PySem.W.findIn K (.ref C_NoNumber) "__getattribute__" = some (some (.builtin "BaseException.__getattribute__")))
    (gg_NoNumber : PySem.W.findIn K (.ref C_NoNumber) "__getattr__" = some none)
    (cls_NoNumber : PySem.W.findIn K (.ref C_NoNumber) "__class__" = some (some (.builtin "object.__class__")))
    (kC_NoNumber : PySem.W.keepIn K (.ref C_NoNumber) = true)
    (n_NoNumber_word : PySem.W.findIn K (.ref C_NoNumber) "word" = some none)
    (ti_NoNumber : PySem.W.typeIn K (.ref f1) = some (.type "function"))
    (sa_NoPlace : PySem.W.findIn K (.ref C_NoPlace) "__setattr__" = some (some (.builtin "object.__setattr__")))
    (ga_NoPlace : PySem.W.findIn K (.ref C_NoPlace) "__getattribute__" = some (some (.builtin "BaseException.__getattribute__")))
    (gg_NoPlace : PySem.W.findIn K (.ref C_NoPlace) "__getattr__" = some none)
    (cls_NoPlace : PySem.W.findIn K (.ref C_NoPlace) "__class__" = some (some (.builtin "object.__class__")))
    (kC_NoPlace : PySem.W.keepIn K (.ref C_NoPlace) = true)
    (n_NoPlace_part : PySem.W.findIn K (.ref C_NoPlace) "part" = some none)
    (ti_NoPlace : PySem.W.typeIn K (.ref f2) = some (.type "function"))
    (sa_NotSegment : PySem.W.findIn K (.ref C_NotSegment) "__setattr__" = some (some (.builtin "object.__setattr__")))
    (ga_NotSegment : PySem.W.findIn K (.ref C_NotSegment) "__getattribute__" = some (some (.builtin "BaseException.__getattribute__")))
    (gg_NotSegment : PySem.W.findIn K (.ref C_NotSegment) "__getattr__" = some none)
    (cls_NotSegment : PySem.W.findIn K (.ref C_NotSegment) "__class__" = some (some (.builtin "object.__class__")))
    (kC_NotSegment : PySem.W.keepIn K (.ref C_NotSegment) = true)
    (xn_NotSegment : PySem.W.excIn K C_NotSegment [.type "ValueError", .type "Exception", .type "BaseException", .type "object"] "ValueError.__new__" = true)
    (sa_NoRow : PySem.W.findIn K (.ref C_NoRow) "__setattr__" = some (some (.builtin "object.__setattr__")))
    (ga_NoRow : PySem.W.findIn K (.ref C_NoRow) "__getattribute__" = some (some (.builtin "BaseException.__getattribute__")))
    (gg_NoRow : PySem.W.findIn K (.ref C_NoRow) "__getattr__" = some none)
    (cls_NoRow : PySem.W.findIn K (.ref C_NoRow) "__class__" = some (some (.builtin "object.__class__")))
    (kC_NoRow : PySem.W.keepIn K (.ref C_NoRow) = true)
    (n_NoRow_index : PySem.W.findIn K (.ref C_NoRow) "index" = some none)
    (ti_NoRow : PySem.W.typeIn K (.ref f3) = some (.type "function"))
    (sa_NoMean : PySem.W.findIn K (.ref C_NoMean) "__setattr__" = some (some (.builtin "object.__setattr__")))
    (ga_NoMean : PySem.W.findIn K (.ref C_NoMean) "__getattribute__" = some (some (.builtin "BaseException.__getattribute__")))
    (gg_NoMean : PySem.W.findIn K (.ref C_NoMean) "__getattr__" = some none)
    (cls_NoMean : PySem.W.findIn K (.ref C_NoMean) "__class__" = some (some (.builtin "object.__class__")))
    (kC_NoMean : PySem.W.keepIn K (.ref C_NoMean) = true)
    (xn_NoMean : PySem.W.excIn K C_NoMean [.type "ValueError", .type "Exception", .type "BaseException", .type "object"] "ValueError.__new__" = true)
    (sa_NoLot : PySem.W.findIn K (.ref C_NoLot) "__setattr__" = some (some (.builtin "object.__setattr__")))
    (ga_NoLot : PySem.W.findIn K (.ref C_NoLot) "__getattribute__" = some (some (.builtin "BaseException.__getattribute__")))
    (gg_NoLot : PySem.W.findIn K (.ref C_NoLot) "__getattr__" = some none)
    (cls_NoLot : PySem.W.findIn K (.ref C_NoLot) "__class__" = some (some (.builtin "object.__class__")))
    (kC_NoLot : PySem.W.keepIn K (.ref C_NoLot) = true)
    (n_NoLot_part : PySem.W.findIn K (.ref C_NoLot) "part" = some none)
    (ti_NoLot : PySem.W.typeIn K (.ref f4) = some (.type "function"))
    (sa_NoLotThere : PySem.W.findIn K (.ref C_NoLotThere) "__setattr__" = some (some (.builtin "object.__setattr__")))
    (ga_NoLotThere : PySem.W.findIn K (.ref C_NoLotThere) "__getattribute__" = some (some (.builtin "BaseException.__getattribute__")))
    (gg_NoLotThere : PySem.W.findIn K (.ref C_NoLotThere) "__getattr__" = some none)
    (cls_NoLotThere : PySem.W.findIn K (.ref C_NoLotThere) "__class__" = some (some (.builtin "object.__class__")))
    (kC_NoLotThere : PySem.W.keepIn K (.ref C_NoLotThere) = true)
    (xn_NoLotThere : PySem.W.excIn K C_NoLotThere [.type "ValueError", .type "Exception", .type "BaseException", .type "object"] "ValueError.__new__" = true)
    (sa_NoBar : PySem.W.findIn K (.ref C_NoBar) "__setattr__" = some (some (.builtin "object.__setattr__")))
    (ga_NoBar : PySem.W.findIn K (.ref C_NoBar) "__getattribute__" = some (some (.builtin "BaseException.__getattribute__")))
    (gg_NoBar : PySem.W.findIn K (.ref C_NoBar) "__getattr__" = some none)
    (cls_NoBar : PySem.W.findIn K (.ref C_NoBar) "__class__" = some (some (.builtin "object.__class__")))
    (kC_NoBar : PySem.W.keepIn K (.ref C_NoBar) = true)
    (n_NoBar_part : PySem.W.findIn K (.ref C_NoBar) "part" = some none)
    (ti_NoBar : PySem.W.typeIn K (.ref f5) = some (.type "function"))
    (sa_NoPoint : PySem.W.findIn K (.ref C_NoPoint) "__setattr__" = some (some (.builtin "object.__setattr__")))
    (ga_NoPoint : PySem.W.findIn K (.ref C_NoPoint) "__getattribute__" = some (some (.builtin "BaseException.__getattribute__")))
    (gg_NoPoint : PySem.W.findIn K (.ref C_NoPoint) "__getattr__" = some none)
    (cls_NoPoint : PySem.W.findIn K (.ref C_NoPoint) "__class__" = some (some (.builtin "object.__class__")))
    (kC_NoPoint : PySem.W.keepIn K (.ref C_NoPoint) = true)
    (xn_NoPoint : PySem.W.excIn K C_NoPoint [.type "ValueError", .type "Exception", .type "BaseException", .type "object"] "ValueError.__new__" = true)
    (sa_NoWeight : PySem.W.findIn K (.ref C_NoWeight) "__setattr__" = some (some (.builtin "object.__setattr__")))
    (ga_NoWeight : PySem.W.findIn K (.ref C_NoWeight) "__getattribute__" = some (some (.builtin "BaseException.__getattribute__")))
    (gg_NoWeight : PySem.W.findIn K (.ref C_NoWeight) "__getattr__" = some none)
    (cls_NoWeight : PySem.W.findIn K (.ref C_NoWeight) "__class__" = some (some (.builtin "object.__class__")))
    (kC_NoWeight : PySem.W.keepIn K (.ref C_NoWeight) = true)
    (n_NoWeight_most : PySem.W.findIn K (.ref C_NoWeight) "most" = some none)
    (ti_NoWeight : PySem.W.typeIn K (.ref f6) = some (.type "function"))
    (sa_NoFit : PySem.W.findIn K (.ref C_NoFit) "__setattr__" = some (some (.builtin "object.__setattr__")))
    (ga_NoFit : PySem.W.findIn K (.ref C_NoFit) "__getattribute__" = some (some (.builtin "BaseException.__getattribute__")))
    (gg_NoFit : PySem.W.findIn K (.ref C_NoFit) "__getattr__" = some none)
    (cls_NoFit : PySem.W.findIn K (.ref C_NoFit) "__class__" = some (some (.builtin "object.__class__")))
    (kC_NoFit : PySem.W.keepIn K (.ref C_NoFit) = true)
    (n_NoFit_low : PySem.W.findIn K (.ref C_NoFit) "low" = some none)
    (n_NoFit_high : PySem.W.findIn K (.ref C_NoFit) "high" = some none)
    (ti_NoFit : PySem.W.typeIn K (.ref f7) = some (.type "function"))
    (sa_NoShares : PySem.W.findIn K (.ref C_NoShares) "__setattr__" = some (some (.builtin "object.__setattr__")))
    (ga_NoShares : PySem.W.findIn K (.ref C_NoShares) "__getattribute__" = some (some (.builtin "BaseException.__getattribute__")))
    (gg_NoShares : PySem.W.findIn K (.ref C_NoShares) "__getattr__" = some none)
    (cls_NoShares : PySem.W.findIn K (.ref C_NoShares) "__class__" = some (some (.builtin "object.__class__")))
    (kC_NoShares : PySem.W.keepIn K (.ref C_NoShares) = true)
    (n_NoShares_index : PySem.W.findIn K (.ref C_NoShares) "index" = some none)
    (ti_NoShares : PySem.W.typeIn K (.ref f8) = some (.type "function"))
    (sa_TooMany : PySem.W.findIn K (.ref C_TooMany) "__setattr__" = some (some (.builtin "object.__setattr__")))
    (ga_TooMany : PySem.W.findIn K (.ref C_TooMany) "__getattribute__" = some (some (.builtin "BaseException.__getattribute__")))
    (gg_TooMany : PySem.W.findIn K (.ref C_TooMany) "__getattr__" = some none)
    (cls_TooMany : PySem.W.findIn K (.ref C_TooMany) "__class__" = some (some (.builtin "object.__class__")))
    (kC_TooMany : PySem.W.keepIn K (.ref C_TooMany) = true)
    (xn_TooMany : PySem.W.excIn K C_TooMany [.type "ValueError", .type "Exception", .type "BaseException", .type "object"] "ValueError.__new__" = true)
    (sa_NoStep : PySem.W.findIn K (.ref C_NoStep) "__setattr__" = some (some (.builtin "object.__setattr__")))
    (ga_NoStep : PySem.W.findIn K (.ref C_NoStep) "__getattribute__" = some (some (.builtin "BaseException.__getattribute__")))
    (gg_NoStep : PySem.W.findIn K (.ref C_NoStep) "__getattr__" = some none)
    (cls_NoStep : PySem.W.findIn K (.ref C_NoStep) "__class__" = some (some (.builtin "object.__class__")))
    (kC_NoStep : PySem.W.keepIn K (.ref C_NoStep) = true)
    (xn_NoStep : PySem.W.excIn K C_NoStep [.type "ValueError", .type "Exception", .type "BaseException", .type "object"] "ValueError.__new__" = true)
    (sa_NoText : PySem.W.findIn K (.ref C_NoText) "__setattr__" = some (some (.builtin "object.__setattr__")))
    (ga_NoText : PySem.W.findIn K (.ref C_NoText) "__getattribute__" = some (some (.builtin "BaseException.__getattribute__")))
    (gg_NoText : PySem.W.findIn K (.ref C_NoText) "__getattr__" = some none)
    (cls_NoText : PySem.W.findIn K (.ref C_NoText) "__class__" = some (some (.builtin "object.__class__")))
    (kC_NoText : PySem.W.keepIn K (.ref C_NoText) = true)
    (n_NoText_part : PySem.W.findIn K (.ref C_NoText) "part" = some none)
    (ti_NoText : PySem.W.typeIn K (.ref f9) = some (.type "function"))
    (gsd_all : PySem.W.specialIn K (.builtin "object.__class__") "__get__" = some (some (.builtin "getset_descriptor.__get__")))
    (tks_all : PySem.W.takesIn K (.builtin "object.__class__") = some true)
    (z_isinstance : PySem.W.nsIn K mainGlobals "isinstance" = some none)
    (z_int : PySem.W.nsIn K mainGlobals "int" = some none)
    (z_len : PySem.W.nsIn K mainGlobals "len" = some none)
    (z_range : PySem.W.nsIn K mainGlobals "range" = some none)
    (z_ValueError : PySem.W.nsIn K mainGlobals "ValueError" = some none)
    : ∃ fd : FuncData, (∀ (s : Shared) (v : Value), BindsTo s fd ⟨[v], []⟩ [("_law_script", v)]) ∧ ∀ base : Heap, K.In base → base.Ns mainGlobals mg → FnOk l.prog w K mg base CX0 4 fa fd ["_law_script"] (sp_law K) := by
  have e := hfa.symm.trans (PySem.W.mg_of X G a15)
  cases e
  have F0 := fun_mk (st := s_NoRatio___init__) l0 c0 k0
  have F1 := fun_mk (st := s_NoNumber___init__) l1 c1 k1
  have F2 := fun_mk (st := s_NoPlace___init__) l2 c2 k2
  have F3 := fun_mk (st := s_NoRow___init__) l3 c3 k3
  have F4 := fun_mk (st := s_NoLot___init__) l4 c4 k4
  have F5 := fun_mk (st := s_NoBar___init__) l5 c5 k5
  have F6 := fun_mk (st := s_NoWeight___init__) l6 c6 k6
  have F7 := fun_mk (st := s_NoFit___init__) l7 c7 k7
  have F8 := fun_mk (st := s_NoShares___init__) l8 c8 k8
  have F9 := fun_mk (st := s_NoText___init__) l9 c9 k9
  have F10 := fun_mk (st := s__law_cell) l10 c10 k10
  have F11 := fun_mk (st := s__law_draw) l11 c11 k11
  have F12 := fun_mk (st := s__law_is) l12 c12 k12
  have F13 := fun_mk (st := s__law_made) l13 c13 k13
  have F14 := fun_mk (st := s__law_caught) l14 c14 k14
  have F15 := fun_mk (st := s_law) l15 c15 k15
  let A : Ad := { NoRatio := C_NoRatio, NoPoly := C_NoPoly, NoDivisor := C_NoDivisor, NoNumber := C_NoNumber, NoPlace := C_NoPlace, NotSegment := C_NotSegment, NoRow := C_NoRow, NoMean := C_NoMean, NoLot := C_NoLot, NoLotThere := C_NoLotThere, NoBar := C_NoBar, NoPoint := C_NoPoint, NoWeight := C_NoWeight, NoFit := C_NoFit, NoShares := C_NoShares, TooMany := C_TooMany, NoStep := C_NoStep, NoText := C_NoText, MeansError := C_MeansError, f_NoRatio___init__ := f0, f_NoNumber___init__ := f1, f_NoPlace___init__ := f2, f_NoRow___init__ := f3, f_NoLot___init__ := f4, f_NoBar___init__ := f5, f_NoWeight___init__ := f6, f_NoFit___init__ := f7, f_NoShares___init__ := f8, f_NoText___init__ := f9, f__law_cell := f10, f__law_draw := f11, f__law_is := f12, f__law_made := f13, f__law_caught := f14, f_law := fa }
  let D : Fd := { f_NoRatio___init__ := PySem.W.fnOf "__init__" "NoRatio.__init__" (defArgs s_NoRatio___init__) (defBody s_NoRatio___init__) (defScope s_NoRatio___init__) .none kV0 dc0 pm0 an0 cd0 ct0, f_NoNumber___init__ := PySem.W.fnOf "__init__" "NoNumber.__init__" (defArgs s_NoNumber___init__) (defBody s_NoNumber___init__) (defScope s_NoNumber___init__) .none kV1 dc1 pm1 an1 cd1 ct1, f_NoPlace___init__ := PySem.W.fnOf "__init__" "NoPlace.__init__" (defArgs s_NoPlace___init__) (defBody s_NoPlace___init__) (defScope s_NoPlace___init__) .none kV2 dc2 pm2 an2 cd2 ct2, f_NoRow___init__ := PySem.W.fnOf "__init__" "NoRow.__init__" (defArgs s_NoRow___init__) (defBody s_NoRow___init__) (defScope s_NoRow___init__) .none kV3 dc3 pm3 an3 cd3 ct3, f_NoLot___init__ := PySem.W.fnOf "__init__" "NoLot.__init__" (defArgs s_NoLot___init__) (defBody s_NoLot___init__) (defScope s_NoLot___init__) .none kV4 dc4 pm4 an4 cd4 ct4, f_NoBar___init__ := PySem.W.fnOf "__init__" "NoBar.__init__" (defArgs s_NoBar___init__) (defBody s_NoBar___init__) (defScope s_NoBar___init__) .none kV5 dc5 pm5 an5 cd5 ct5, f_NoWeight___init__ := PySem.W.fnOf "__init__" "NoWeight.__init__" (defArgs s_NoWeight___init__) (defBody s_NoWeight___init__) (defScope s_NoWeight___init__) .none kV6 dc6 pm6 an6 cd6 ct6, f_NoFit___init__ := PySem.W.fnOf "__init__" "NoFit.__init__" (defArgs s_NoFit___init__) (defBody s_NoFit___init__) (defScope s_NoFit___init__) .none kV7 dc7 pm7 an7 cd7 ct7, f_NoShares___init__ := PySem.W.fnOf "__init__" "NoShares.__init__" (defArgs s_NoShares___init__) (defBody s_NoShares___init__) (defScope s_NoShares___init__) .none kV8 dc8 pm8 an8 cd8 ct8, f_NoText___init__ := PySem.W.fnOf "__init__" "NoText.__init__" (defArgs s_NoText___init__) (defBody s_NoText___init__) (defScope s_NoText___init__) .none kV9 dc9 pm9 an9 cd9 ct9, f__law_cell := PySem.W.fnOf "_law_cell" "_law_cell" (defArgs s__law_cell) (defBody s__law_cell) (defScope s__law_cell) .none kV10 dc10 pm10 an10 cd10 ct10, f__law_draw := PySem.W.fnOf "_law_draw" "_law_draw" (defArgs s__law_draw) (defBody s__law_draw) (defScope s__law_draw) .none kV11 dc11 pm11 an11 cd11 ct11, f__law_is := PySem.W.fnOf "_law_is" "_law_is" (defArgs s__law_is) (defBody s__law_is) (defScope s__law_is) .none kV12 dc12 pm12 an12 cd12 ct12, f__law_made := PySem.W.fnOf "_law_made" "_law_made" (defArgs s__law_made) (defBody s__law_made) (defScope s__law_made) .none kV13 dc13 pm13 an13 cd13 ct13, f__law_caught := PySem.W.fnOf "_law_caught" "_law_caught" (defArgs s__law_caught) (defBody s__law_caught) (defScope s__law_caught) .none kV14 dc14 pm14 an14 cd14 ct14, f_law := PySem.W.fnOf "law" "law" (defArgs s_law) (defBody s_law) (defScope s_law) .none kV15 dc15 pm15 an15 cd15 ct15 }
  have T : Txt K mg A D := {
    g_MeansError := PySem.W.mg_of X G g_MeansError,
    g_NoRatio := PySem.W.mg_of X G g_NoRatio,
    e_NoRatio := ⟨⟨_, _, _, _, _, _, _, _, _, _, _, _, _, xL_NoRatio⟩, ⟨_, _, _, _, _, _, _, _, _, _, _, _, _, xL_MeansError⟩, sa_NoRatio, ga_NoRatio, gg_NoRatio, cls_NoRatio, gsd_all, tks_all, kC_NoRatio⟩,
    n_NoRatio_word := n_NoRatio_word,
    i_NoRatio := a0,
    ti_NoRatio := ti_NoRatio,
    kb_NoRatio := ⟨fun s us ws _ l1 l2 => match us, l1, ws, l2 with | [_], _, [_], _ => .of_eq rfl, fun r1 r2 => r1.append (vals_rev r2)⟩,
    g_NoPoly := PySem.W.mg_of X G g_NoPoly,
    e_NoPoly := ⟨⟨_, _, _, _, _, _, _, _, _, _, _, _, _, xL_NoPoly⟩, ⟨_, _, _, _, _, _, _, _, _, _, _, _, _, xL_MeansError⟩, sa_NoPoly, ga_NoPoly, gg_NoPoly, cls_NoPoly, gsd_all, tks_all, kC_NoPoly⟩,
    xn_NoPoly := xn_NoPoly,
    g_NoDivisor := PySem.W.mg_of X G g_NoDivisor,
    e_NoDivisor := ⟨⟨_, _, _, _, _, _, _, _, _, _, _, _, _, xL_NoDivisor⟩, ⟨_, _, _, _, _, _, _, _, _, _, _, _, _, xL_MeansError⟩, sa_NoDivisor, ga_NoDivisor, gg_NoDivisor, cls_NoDivisor, gsd_all, tks_all, kC_NoDivisor⟩,
    xn_NoDivisor := xn_NoDivisor,
    g_NoNumber := PySem.W.mg_of X G g_NoNumber,
    e_NoNumber := ⟨⟨_, _, _, _, _, _, _, _, _, _, _, _, _, xL_NoNumber⟩, ⟨_, _, _, _, _, _, _, _, _, _, _, _, _, xL_MeansError⟩, sa_NoNumber, ga_NoNumber, gg_NoNumber, cls_NoNumber, gsd_all, tks_all, kC_NoNumber⟩,
    n_NoNumber_word := n_NoNumber_word,
    i_NoNumber := a1,
    ti_NoNumber := ti_NoNumber,
    kb_NoNumber := ⟨fun s us ws _ l1 l2 => match us, l1, ws, l2 with | [_], _, [_], _ => .of_eq rfl, fun r1 r2 => r1.append (vals_rev r2)⟩,
    g_NoPlace := PySem.W.mg_of X G g_NoPlace,
    e_NoPlace := ⟨⟨_, _, _, _, _, _, _, _, _, _, _, _, _, xL_NoPlace⟩, ⟨_, _, _, _, _, _, _, _, _, _, _, _, _, xL_MeansError⟩, sa_NoPlace, ga_NoPlace, gg_NoPlace, cls_NoPlace, gsd_all, tks_all, kC_NoPlace⟩,
    n_NoPlace_part := n_NoPlace_part,
    i_NoPlace := a2,
    ti_NoPlace := ti_NoPlace,
    kb_NoPlace := ⟨fun s us ws _ l1 l2 => match us, l1, ws, l2 with | [_], _, [_], _ => .of_eq rfl, fun r1 r2 => r1.append (vals_rev r2)⟩,
    g_NotSegment := PySem.W.mg_of X G g_NotSegment,
    e_NotSegment := ⟨⟨_, _, _, _, _, _, _, _, _, _, _, _, _, xL_NotSegment⟩, ⟨_, _, _, _, _, _, _, _, _, _, _, _, _, xL_MeansError⟩, sa_NotSegment, ga_NotSegment, gg_NotSegment, cls_NotSegment, gsd_all, tks_all, kC_NotSegment⟩,
    xn_NotSegment := xn_NotSegment,
    g_NoRow := PySem.W.mg_of X G g_NoRow,
    e_NoRow := ⟨⟨_, _, _, _, _, _, _, _, _, _, _, _, _, xL_NoRow⟩, ⟨_, _, _, _, _, _, _, _, _, _, _, _, _, xL_MeansError⟩, sa_NoRow, ga_NoRow, gg_NoRow, cls_NoRow, gsd_all, tks_all, kC_NoRow⟩,
    n_NoRow_index := n_NoRow_index,
    i_NoRow := a3,
    ti_NoRow := ti_NoRow,
    kb_NoRow := ⟨fun s us ws _ l1 l2 => match us, l1, ws, l2 with | [_], _, [_], _ => .of_eq rfl, fun r1 r2 => r1.append (vals_rev r2)⟩,
    g_NoMean := PySem.W.mg_of X G g_NoMean,
    e_NoMean := ⟨⟨_, _, _, _, _, _, _, _, _, _, _, _, _, xL_NoMean⟩, ⟨_, _, _, _, _, _, _, _, _, _, _, _, _, xL_MeansError⟩, sa_NoMean, ga_NoMean, gg_NoMean, cls_NoMean, gsd_all, tks_all, kC_NoMean⟩,
    xn_NoMean := xn_NoMean,
    g_NoLot := PySem.W.mg_of X G g_NoLot,
    e_NoLot := ⟨⟨_, _, _, _, _, _, _, _, _, _, _, _, _, xL_NoLot⟩, ⟨_, _, _, _, _, _, _, _, _, _, _, _, _, xL_MeansError⟩, sa_NoLot, ga_NoLot, gg_NoLot, cls_NoLot, gsd_all, tks_all, kC_NoLot⟩,
    n_NoLot_part := n_NoLot_part,
    i_NoLot := a4,
    ti_NoLot := ti_NoLot,
    kb_NoLot := ⟨fun s us ws _ l1 l2 => match us, l1, ws, l2 with | [_], _, [_], _ => .of_eq rfl, fun r1 r2 => r1.append (vals_rev r2)⟩,
    g_NoLotThere := PySem.W.mg_of X G g_NoLotThere,
    e_NoLotThere := ⟨⟨_, _, _, _, _, _, _, _, _, _, _, _, _, xL_NoLotThere⟩, ⟨_, _, _, _, _, _, _, _, _, _, _, _, _, xL_MeansError⟩, sa_NoLotThere, ga_NoLotThere, gg_NoLotThere, cls_NoLotThere, gsd_all, tks_all, kC_NoLotThere⟩,
    xn_NoLotThere := xn_NoLotThere,
    g_NoBar := PySem.W.mg_of X G g_NoBar,
    e_NoBar := ⟨⟨_, _, _, _, _, _, _, _, _, _, _, _, _, xL_NoBar⟩, ⟨_, _, _, _, _, _, _, _, _, _, _, _, _, xL_MeansError⟩, sa_NoBar, ga_NoBar, gg_NoBar, cls_NoBar, gsd_all, tks_all, kC_NoBar⟩,
    n_NoBar_part := n_NoBar_part,
    i_NoBar := a5,
    ti_NoBar := ti_NoBar,
    kb_NoBar := ⟨fun s us ws _ l1 l2 => match us, l1, ws, l2 with | [_], _, [_], _ => .of_eq rfl, fun r1 r2 => r1.append (vals_rev r2)⟩,
    g_NoPoint := PySem.W.mg_of X G g_NoPoint,
    e_NoPoint := ⟨⟨_, _, _, _, _, _, _, _, _, _, _, _, _, xL_NoPoint⟩, ⟨_, _, _, _, _, _, _, _, _, _, _, _, _, xL_MeansError⟩, sa_NoPoint, ga_NoPoint, gg_NoPoint, cls_NoPoint, gsd_all, tks_all, kC_NoPoint⟩,
    xn_NoPoint := xn_NoPoint,
    g_NoWeight := PySem.W.mg_of X G g_NoWeight,
    e_NoWeight := ⟨⟨_, _, _, _, _, _, _, _, _, _, _, _, _, xL_NoWeight⟩, ⟨_, _, _, _, _, _, _, _, _, _, _, _, _, xL_MeansError⟩, sa_NoWeight, ga_NoWeight, gg_NoWeight, cls_NoWeight, gsd_all, tks_all, kC_NoWeight⟩,
    n_NoWeight_most := n_NoWeight_most,
    i_NoWeight := a6,
    ti_NoWeight := ti_NoWeight,
    kb_NoWeight := ⟨fun s us ws _ l1 l2 => match us, l1, ws, l2 with | [_], _, [_], _ => .of_eq rfl, fun r1 r2 => r1.append (vals_rev r2)⟩,
    g_NoFit := PySem.W.mg_of X G g_NoFit,
    e_NoFit := ⟨⟨_, _, _, _, _, _, _, _, _, _, _, _, _, xL_NoFit⟩, ⟨_, _, _, _, _, _, _, _, _, _, _, _, _, xL_MeansError⟩, sa_NoFit, ga_NoFit, gg_NoFit, cls_NoFit, gsd_all, tks_all, kC_NoFit⟩,
    n_NoFit_low := n_NoFit_low,
    n_NoFit_high := n_NoFit_high,
    i_NoFit := a7,
    ti_NoFit := ti_NoFit,
    kb_NoFit := ⟨fun s us ws _ l1 l2 => match us, l1, ws, l2 with | [_], _, [_, _], _ => .of_eq rfl, fun r1 r2 => r1.append (vals_rev r2)⟩,
    g_NoShares := PySem.W.mg_of X G g_NoShares,
    e_NoShares := ⟨⟨_, _, _, _, _, _, _, _, _, _, _, _, _, xL_NoShares⟩, ⟨_, _, _, _, _, _, _, _, _, _, _, _, _, xL_MeansError⟩, sa_NoShares, ga_NoShares, gg_NoShares, cls_NoShares, gsd_all, tks_all, kC_NoShares⟩,
    n_NoShares_index := n_NoShares_index,
    i_NoShares := a8,
    ti_NoShares := ti_NoShares,
    kb_NoShares := ⟨fun s us ws _ l1 l2 => match us, l1, ws, l2 with | [_], _, [_], _ => .of_eq rfl, fun r1 r2 => r1.append (vals_rev r2)⟩,
    g_TooMany := PySem.W.mg_of X G g_TooMany,
    e_TooMany := ⟨⟨_, _, _, _, _, _, _, _, _, _, _, _, _, xL_TooMany⟩, ⟨_, _, _, _, _, _, _, _, _, _, _, _, _, xL_MeansError⟩, sa_TooMany, ga_TooMany, gg_TooMany, cls_TooMany, gsd_all, tks_all, kC_TooMany⟩,
    xn_TooMany := xn_TooMany,
    g_NoStep := PySem.W.mg_of X G g_NoStep,
    e_NoStep := ⟨⟨_, _, _, _, _, _, _, _, _, _, _, _, _, xL_NoStep⟩, ⟨_, _, _, _, _, _, _, _, _, _, _, _, _, xL_MeansError⟩, sa_NoStep, ga_NoStep, gg_NoStep, cls_NoStep, gsd_all, tks_all, kC_NoStep⟩,
    xn_NoStep := xn_NoStep,
    g_NoText := PySem.W.mg_of X G g_NoText,
    e_NoText := ⟨⟨_, _, _, _, _, _, _, _, _, _, _, _, _, xL_NoText⟩, ⟨_, _, _, _, _, _, _, _, _, _, _, _, _, xL_MeansError⟩, sa_NoText, ga_NoText, gg_NoText, cls_NoText, gsd_all, tks_all, kC_NoText⟩,
    n_NoText_part := n_NoText_part,
    i_NoText := a9,
    ti_NoText := ti_NoText,
    kb_NoText := ⟨fun s us ws _ l1 l2 => match us, l1, ws, l2 with | [_], _, [_], _ => .of_eq rfl, fun r1 r2 => r1.append (vals_rev r2)⟩,
    F_NoRatio___init__ := F0,
    b_NoRatio___init__ := F0.binds fun _ _ _ _ _ _ us hl => match us, hl with | [_, _], _ => rfl,
    m_NoRatio___init__ := ⟨a0, i0, k0⟩,
    F_NoNumber___init__ := F1,
    b_NoNumber___init__ := F1.binds fun _ _ _ _ _ _ us hl => match us, hl with | [_, _], _ => rfl,
    m_NoNumber___init__ := ⟨a1, i1, k1⟩,
    F_NoPlace___init__ := F2,
    b_NoPlace___init__ := F2.binds fun _ _ _ _ _ _ us hl => match us, hl with | [_, _], _ => rfl,
    m_NoPlace___init__ := ⟨a2, i2, k2⟩,
    F_NoRow___init__ := F3,
    b_NoRow___init__ := F3.binds fun _ _ _ _ _ _ us hl => match us, hl with | [_, _], _ => rfl,
    m_NoRow___init__ := ⟨a3, i3, k3⟩,
    F_NoLot___init__ := F4,
    b_NoLot___init__ := F4.binds fun _ _ _ _ _ _ us hl => match us, hl with | [_, _], _ => rfl,
    m_NoLot___init__ := ⟨a4, i4, k4⟩,
    F_NoBar___init__ := F5,
    b_NoBar___init__ := F5.binds fun _ _ _ _ _ _ us hl => match us, hl with | [_, _], _ => rfl,
    m_NoBar___init__ := ⟨a5, i5, k5⟩,
    F_NoWeight___init__ := F6,
    b_NoWeight___init__ := F6.binds fun _ _ _ _ _ _ us hl => match us, hl with | [_, _], _ => rfl,
    m_NoWeight___init__ := ⟨a6, i6, k6⟩,
    F_NoFit___init__ := F7,
    b_NoFit___init__ := F7.binds fun _ _ _ _ _ _ us hl => match us, hl with | [_, _, _], _ => rfl,
    m_NoFit___init__ := ⟨a7, i7, k7⟩,
    F_NoShares___init__ := F8,
    b_NoShares___init__ := F8.binds fun _ _ _ _ _ _ us hl => match us, hl with | [_, _], _ => rfl,
    m_NoShares___init__ := ⟨a8, i8, k8⟩,
    F_NoText___init__ := F9,
    b_NoText___init__ := F9.binds fun _ _ _ _ _ _ us hl => match us, hl with | [_, _], _ => rfl,
    m_NoText___init__ := ⟨a9, i9, k9⟩,
    F__law_cell := F10,
    b__law_cell := F10.binds fun _ _ _ _ _ _ us hl => match us, hl with | [_, _], _ => rfl,
    g__law_cell := PySem.W.mg_of X G a10,
    F__law_draw := F11,
    b__law_draw := F11.binds fun _ _ _ _ _ _ us hl => match us, hl with | [_, _, _], _ => rfl,
    g__law_draw := PySem.W.mg_of X G a11,
    F__law_is := F12,
    b__law_is := F12.binds fun _ _ _ _ _ _ us hl => match us, hl with | [_, _], _ => rfl,
    g__law_is := PySem.W.mg_of X G a12,
    F__law_made := F13,
    b__law_made := F13.binds fun _ _ _ _ _ _ us hl => match us, hl with | [_, _, _], _ => rfl,
    g__law_made := PySem.W.mg_of X G a13,
    F__law_caught := F14,
    b__law_caught := F14.binds fun _ _ _ _ _ _ us hl => match us, hl with | [_, _, _], _ => rfl,
    g__law_caught := PySem.W.mg_of X G a14,
    F_law := F15,
    b_law := F15.binds fun _ _ _ _ _ _ us hl => match us, hl with | [_], _ => rfl,
    g_law := PySem.W.mg_of X G a15,
    z_isinstance := PySem.W.mg_none_of X G z_isinstance,
    z_int := PySem.W.mg_none_of X G z_int,
    z_len := PySem.W.mg_none_of X G z_len,
    z_range := PySem.W.mg_none_of X G z_range,
    z_ValueError := PySem.W.mg_none_of X G z_ValueError }
  exact ⟨PySem.W.fnOf "law" "law" (defArgs s_law) (defBody s_law) (defScope s_law) .none kV15 dc15 pm15 an15 cd15 ct15, fun s v => .of_eq rfl, fun base _ _ => ok_law (A := A) (D := D) T⟩
end Mo
open PySem PySem.W PyProof.Rows
set_option maxRecDepth 100000 in
set_option maxHeartbeats 0 in
theorem PySem.Challenge.cw_momentrows_k69_errors_and_their_fields_holds : PySem.Challenge.rw_momentrows_k69_errors_and_their_fields.Holds := by
  w_on; o_law; k_head; (case hw => w_witness2)
  k_fill
  refine L2.walk_of (l := PySem.Challenge.rw_momentrows_k69_errors_and_their_fields) (n := 63) (k := 4) (x := "_law_script") (CX := fun _ => L2.CX0) (sp := fun w => Mo.sp_law _) rfl (by decide) rfl ⟨rfl, by decide, by decide⟩ (fun w h Y => PySem.W.kIn_of Y) ?F (fun _ _ a ns hl _ hS => ⟨a, ns, rfl, hS, hl, fun _ => rfl⟩) (fun _ _ _ _ _ h => h)
  case F =>
    intro w mg fa h KX G hmg
    refine' Mo.all_mk KX G hmg ?g_MeansError ?g_NoRatio ?g_NoPoly ?g_NoDivisor ?g_NoNumber ?g_NoPlace ?g_NotSegment ?g_NoRow ?g_NoMean ?g_NoLot ?g_NoLotThere ?g_NoBar ?g_NoPoint ?g_NoWeight ?g_NoFit ?g_NoShares ?g_TooMany ?g_NoStep ?g_NoText ?xL_MeansError ?xL_NoRatio ?xL_NoPoly ?xL_NoDivisor ?xL_NoNumber ?xL_NoPlace ?xL_NotSegment ?xL_NoRow ?xL_NoMean ?xL_NoLot ?xL_NoLotThere ?xL_NoBar ?xL_NoPoint ?xL_NoWeight ?xL_NoFit ?xL_NoShares ?xL_TooMany ?xL_NoStep ?xL_NoText ?a0 ?i0 ?l0 ?c0 ?k0 ?a1 ?i1 ?l1 ?c1 ?k1 ?a2 ?i2 ?l2 ?c2 ?k2 ?a3 ?i3 ?l3 ?c3 ?k3 ?a4 ?i4 ?l4 ?c4 ?k4 ?a5 ?i5 ?l5 ?c5 ?k5 ?a6 ?i6 ?l6 ?c6 ?k6 ?a7 ?i7 ?l7 ?c7 ?k7 ?a8 ?i8 ?l8 ?c8 ?k8 ?a9 ?i9 ?l9 ?c9 ?k9 ?a10 ?l10 ?c10 ?k10 ?a11 ?l11 ?c11 ?k11 ?a12 ?l12 ?c12 ?k12 ?a13 ?l13 ?c13 ?k13 ?a14 ?l14 ?c14 ?k14 ?a15 ?l15 ?c15 ?k15 ?sa_NoRatio ?ga_NoRatio ?gg_NoRatio ?cls_NoRatio ?kC_NoRatio ?n_NoRatio_word ?ti_NoRatio ?sa_NoPoly ?ga_NoPoly ?gg_NoPoly ?cls_NoPoly ?kC_NoPoly ?xn_NoPoly ?sa_NoDivisor ?ga_NoDivisor ?gg_NoDivisor ?cls_NoDivisor ?kC_NoDivisor ?xn_NoDivisor ?sa_NoNumber ?ga_NoNumber ?gg_NoNumber ?cls_NoNumber ?kC_NoNumber ?n_NoNumber_word ?ti_NoNumber ?sa_NoPlace ?ga_NoPlace ?gg_NoPlace ?cls_NoPlace ?kC_NoPlace ?n_NoPlace_part ?ti_NoPlace ?sa_NotSegment ?ga_NotSegment ?gg_NotSegment ?cls_NotSegment ?kC_NotSegment ?xn_NotSegment ?sa_NoRow ?ga_NoRow ?gg_NoRow ?cls_NoRow ?kC_NoRow ?n_NoRow_index ?ti_NoRow ?sa_NoMean ?ga_NoMean ?gg_NoMean ?cls_NoMean ?kC_NoMean ?xn_NoMean ?sa_NoLot ?ga_NoLot ?gg_NoLot ?cls_NoLot ?kC_NoLot ?n_NoLot_part ?ti_NoLot ?sa_NoLotThere ?ga_NoLotThere ?gg_NoLotThere ?cls_NoLotThere ?kC_NoLotThere ?xn_NoLotThere ?sa_NoBar ?ga_NoBar ?gg_NoBar ?cls_NoBar ?kC_NoBar ?n_NoBar_part ?ti_NoBar ?sa_NoPoint ?ga_NoPoint ?gg_NoPoint ?cls_NoPoint ?kC_NoPoint ?xn_NoPoint ?sa_NoWeight ?ga_NoWeight ?gg_NoWeight ?cls_NoWeight ?kC_NoWeight ?n_NoWeight_most ?ti_NoWeight ?sa_NoFit ?ga_NoFit ?gg_NoFit ?cls_NoFit ?kC_NoFit ?n_NoFit_low ?n_NoFit_high ?ti_NoFit ?sa_NoShares ?ga_NoShares ?gg_NoShares ?cls_NoShares ?kC_NoShares ?n_NoShares_index ?ti_NoShares ?sa_TooMany ?ga_TooMany ?gg_TooMany ?cls_TooMany ?kC_TooMany ?xn_TooMany ?sa_NoStep ?ga_NoStep ?gg_NoStep ?cls_NoStep ?kC_NoStep ?xn_NoStep ?sa_NoText ?ga_NoText ?gg_NoText ?cls_NoText ?kC_NoText ?n_NoText_part ?ti_NoText ?gsd_all ?tks_all ?z_isinstance ?z_int ?z_len ?z_range ?z_ValueError
    (case g_MeansError => k_is)
    (case g_NoRatio => k_is)
    (case g_NoPoly => k_is)
    (case g_NoDivisor => k_is)
    (case g_NoNumber => k_is)
    (case g_NoPlace => k_is)
    (case g_NotSegment => k_is)
    (case g_NoRow => k_is)
    (case g_NoMean => k_is)
    (case g_NoLot => k_is)
    (case g_NoLotThere => k_is)
    (case g_NoBar => k_is)
    (case g_NoPoint => k_is)
    (case g_NoWeight => k_is)
    (case g_NoFit => k_is)
    (case g_NoShares => k_is)
    (case g_TooMany => k_is)
    (case g_NoStep => k_is)
    (case g_NoText => k_is)
    (case xL_MeansError => k_is)
    (case xL_NoRatio => k_is)
    (case xL_NoPoly => k_is)
    (case xL_NoDivisor => k_is)
    (case xL_NoNumber => k_is)
    (case xL_NoPlace => k_is)
    (case xL_NotSegment => k_is)
    (case xL_NoRow => k_is)
    (case xL_NoMean => k_is)
    (case xL_NoLot => k_is)
    (case xL_NoLotThere => k_is)
    (case xL_NoBar => k_is)
    (case xL_NoPoint => k_is)
    (case xL_NoWeight => k_is)
    (case xL_NoFit => k_is)
    (case xL_NoShares => k_is)
    (case xL_TooMany => k_is)
    (case xL_NoStep => k_is)
    (case xL_NoText => k_is)
    (case a0 => k_is)
    (case i0 => k_is)
    (case l0 => k_is)
    (case c0 => k_is)
    (case k0 => k_is)
    (case a1 => k_is)
    (case i1 => k_is)
    (case l1 => k_is)
    (case c1 => k_is)
    (case k1 => k_is)
    (case a2 => k_is)
    (case i2 => k_is)
    (case l2 => k_is)
    (case c2 => k_is)
    (case k2 => k_is)
    (case a3 => k_is)
    (case i3 => k_is)
    (case l3 => k_is)
    (case c3 => k_is)
    (case k3 => k_is)
    (case a4 => k_is)
    (case i4 => k_is)
    (case l4 => k_is)
    (case c4 => k_is)
    (case k4 => k_is)
    (case a5 => k_is)
    (case i5 => k_is)
    (case l5 => k_is)
    (case c5 => k_is)
    (case k5 => k_is)
    (case a6 => k_is)
    (case i6 => k_is)
    (case l6 => k_is)
    (case c6 => k_is)
    (case k6 => k_is)
    (case a7 => k_is)
    (case i7 => k_is)
    (case l7 => k_is)
    (case c7 => k_is)
    (case k7 => k_is)
    (case a8 => k_is)
    (case i8 => k_is)
    (case l8 => k_is)
    (case c8 => k_is)
    (case k8 => k_is)
    (case a9 => k_is)
    (case i9 => k_is)
    (case l9 => k_is)
    (case c9 => k_is)
    (case k9 => k_is)
    (case a10 => k_is)
    (case l10 => k_is)
    (case c10 => k_is)
    (case k10 => k_is)
    (case a11 => k_is)
    (case l11 => k_is)
    (case c11 => k_is)
    (case k11 => k_is)
    (case a12 => k_is)
    (case l12 => k_is)
    (case c12 => k_is)
    (case k12 => k_is)
    (case a13 => k_is)
    (case l13 => k_is)
    (case c13 => k_is)
    (case k13 => k_is)
    (case a14 => k_is)
    (case l14 => k_is)
    (case c14 => k_is)
    (case k14 => k_is)
    (case a15 => k_is)
    (case l15 => k_is)
    (case c15 => k_is)
    (case k15 => k_is)
    (case sa_NoRatio => k_is)
    (case ga_NoRatio => k_is)
    (case gg_NoRatio => k_is)
    (case cls_NoRatio => k_is)
    (case kC_NoRatio => k_is)
    (case n_NoRatio_word => k_is)
    (case ti_NoRatio => k_is)
    (case sa_NoPoly => k_is)
    (case ga_NoPoly => k_is)
    (case gg_NoPoly => k_is)
    (case cls_NoPoly => k_is)
    (case kC_NoPoly => k_is)
    (case xn_NoPoly => k_exc)
    (case sa_NoDivisor => k_is)
    (case ga_NoDivisor => k_is)
    (case gg_NoDivisor => k_is)
    (case cls_NoDivisor => k_is)
    (case kC_NoDivisor => k_is)
    (case xn_NoDivisor => k_exc)
    (case sa_NoNumber => k_is)
    (case ga_NoNumber => k_is)
    (case gg_NoNumber => k_is)
    (case cls_NoNumber => k_is)
    (case kC_NoNumber => k_is)
    (case n_NoNumber_word => k_is)
    (case ti_NoNumber => k_is)
    (case sa_NoPlace => k_is)
    (case ga_NoPlace => k_is)
    (case gg_NoPlace => k_is)
    (case cls_NoPlace => k_is)
    (case kC_NoPlace => k_is)
    (case n_NoPlace_part => k_is)
    (case ti_NoPlace => k_is)
    (case sa_NotSegment => k_is)
    (case ga_NotSegment => k_is)
    (case gg_NotSegment => k_is)
    (case cls_NotSegment => k_is)
    (case kC_NotSegment => k_is)
    (case xn_NotSegment => k_exc)
    (case sa_NoRow => k_is)
    (case ga_NoRow => k_is)
    (case gg_NoRow => k_is)
    (case cls_NoRow => k_is)
    (case kC_NoRow => k_is)
    (case n_NoRow_index => k_is)
    (case ti_NoRow => k_is)
    (case sa_NoMean => k_is)
    (case ga_NoMean => k_is)
    (case gg_NoMean => k_is)
    (case cls_NoMean => k_is)
    (case kC_NoMean => k_is)
    (case xn_NoMean => k_exc)
    (case sa_NoLot => k_is)
    (case ga_NoLot => k_is)
    (case gg_NoLot => k_is)
    (case cls_NoLot => k_is)
    (case kC_NoLot => k_is)
    (case n_NoLot_part => k_is)
    (case ti_NoLot => k_is)
    (case sa_NoLotThere => k_is)
    (case ga_NoLotThere => k_is)
    (case gg_NoLotThere => k_is)
    (case cls_NoLotThere => k_is)
    (case kC_NoLotThere => k_is)
    (case xn_NoLotThere => k_exc)
    (case sa_NoBar => k_is)
    (case ga_NoBar => k_is)
    (case gg_NoBar => k_is)
    (case cls_NoBar => k_is)
    (case kC_NoBar => k_is)
    (case n_NoBar_part => k_is)
    (case ti_NoBar => k_is)
    (case sa_NoPoint => k_is)
    (case ga_NoPoint => k_is)
    (case gg_NoPoint => k_is)
    (case cls_NoPoint => k_is)
    (case kC_NoPoint => k_is)
    (case xn_NoPoint => k_exc)
    (case sa_NoWeight => k_is)
    (case ga_NoWeight => k_is)
    (case gg_NoWeight => k_is)
    (case cls_NoWeight => k_is)
    (case kC_NoWeight => k_is)
    (case n_NoWeight_most => k_is)
    (case ti_NoWeight => k_is)
    (case sa_NoFit => k_is)
    (case ga_NoFit => k_is)
    (case gg_NoFit => k_is)
    (case cls_NoFit => k_is)
    (case kC_NoFit => k_is)
    (case n_NoFit_low => k_is)
    (case n_NoFit_high => k_is)
    (case ti_NoFit => k_is)
    (case sa_NoShares => k_is)
    (case ga_NoShares => k_is)
    (case gg_NoShares => k_is)
    (case cls_NoShares => k_is)
    (case kC_NoShares => k_is)
    (case n_NoShares_index => k_is)
    (case ti_NoShares => k_is)
    (case sa_TooMany => k_is)
    (case ga_TooMany => k_is)
    (case gg_TooMany => k_is)
    (case cls_TooMany => k_is)
    (case kC_TooMany => k_is)
    (case xn_TooMany => k_exc)
    (case sa_NoStep => k_is)
    (case ga_NoStep => k_is)
    (case gg_NoStep => k_is)
    (case cls_NoStep => k_is)
    (case kC_NoStep => k_is)
    (case xn_NoStep => k_exc)
    (case sa_NoText => k_is)
    (case ga_NoText => k_is)
    (case gg_NoText => k_is)
    (case cls_NoText => k_is)
    (case kC_NoText => k_is)
    (case n_NoText_part => k_is)
    (case ti_NoText => k_is)
    (case gsd_all => k_is)
    (case tks_all => k_is)
    (case z_isinstance => k_is)
    (case z_int => k_is)
    (case z_len => k_is)
    (case z_range => k_is)
    (case z_ValueError => k_is)

