import PyProof.Rows.All
import Wide.All
import OpenK.AllK
import Wide.FinOn
import PyProof.ExcClass
import HandS.Base
import HandS.Call
import HandS.Exc
import HandS.Defaults
import HandS.Words
import HandS.Head0
import HandS.Head1
import HandS.Head2
import HandS.Head3
import HandS.HeadHook4
import PySem.Challenge.RW_momentrows_k40_bars_are_checked
import HandS.Comp
import HandS.WordsList
import HandS.Wide
import HandS.IsInst
import HandS.OwnEq
import HandS.Gcd
import HandS.Style
import HandS.Codes
import HandS.WordsExc
import HandS.ExcInit
import HandS.ExcOwn
import HandS.ExcField
import HandS.ExcIs
import HandS.MakeKw
import HandS.MakeKwOnly
import KE.KExcIs
import HandS.ExcValue
import HandS.EndTab
import HandS.Iter
import KE.KMathGC
import KE.KRevSl
import HandS.Star
import PyProof.InstNe
import PyProof.NeKinds
import HandS.TupAny
import HandS.HeadWalk
import HandS.Conv
set_option Elab.async false
set_option linter.all false
set_option maxRecDepth 100000
set_option maxHeartbeats 4000000
/-! # The small end, first half: what the top has left, as one list of tests that a Hook looks at -/
namespace MoH
open PySem PySem.Spec PyProof.Rows L2 He
abbrev veB : List Value := [.type "ValueError", .type "Exception", .type "BaseException", .type "object"]
abbrev Tst : Type := PySem.W.Frag → Bool
def exAll (L : List Tst) (K : PySem.W.Frag) : Bool := L.all fun t => t K
theorem exq {L : List Tst} {K : PySem.W.Frag} (h : exAll L K = true) (i : Nat) {t : Tst} (e : L[i]? = some t) : t K = true := List.all_eq_true.mp h t (List.mem_of_getElem? e)

/-! ### classes -/
def gdB (K : PySem.W.Frag) : Bool := eqO (PySem.W.specialIn K (.builtin "object.__class__") "__get__") (some (some (.builtin "getset_descriptor.__get__"))) && decide (PySem.W.takesIn K (.builtin "object.__class__") = some true)
def ownB (K : PySem.W.Frag) (C : Addr) : Bool := PySem.W.plainGet K C Str.empty && (PySem.W.hasDictIn K C && (PySem.W.plainOver K C && (eqO (PySem.W.findIn K (.ref C) "__setattr__") (some (some (.builtin "object.__setattr__"))) &&
  (PySem.W.selfFirst K C && (decide (PySem.W.subIn K (.ref C) (.type "int") = some false) && (decide (PySem.W.subIn K (.type "int") (.ref C) = some false) &&
  (eqO (PySem.W.findIn K (.ref C) "__class__") (some (some (.builtin "object.__class__"))) && (decide (PySem.W.mroIn K C (.type "object") = some true) &&
  (decide (PySem.W.kitOne K (.ref C) (.type "int") = some false) && decide (PySem.W.kitOne K (.type "int") (.ref C) = some false))))))))))
/-! ### error classes -/
def errB (K : PySem.W.Frag) (C : Addr) (t : Str → List Value → Bool) : Bool := match K.lookup C with
  | some ⟨.type c, _, .cls cd, sl⟩ => decide (c = "type") && (cd.hasDict && (!cd.hasDel && ((match sl.toList with
    | [_, _, _, _, some (.builtin n), _] => decide (n = "ValueError.__new__")
    | _ => false) && (match cd.mro with
    | v :: bm => decide (v = .ref C) && t cd.name bm
    | _ => false))))
  | _ => false
def rowB (K : PySem.W.Frag) (C : Addr) (nm : Str) (bm : List Value) : Bool := errB K C fun n b => decide (n = nm) && decide (b = bm)
/-- an error class that is raised or caught -/
def excB (K : PySem.W.Frag) (C : Addr) : Bool := errB K C (fun _ b => PySem.HandSPX.refsVE b) && (eqO (PySem.W.findIn K (.ref C) "__setattr__") (some (some (.builtin "object.__setattr__"))) && (eqO (PySem.W.findIn K (.ref C) "__getattribute__") (some (some (.builtin "BaseException.__getattribute__"))) && (eqO (PySem.W.findIn K (.ref C) "__getattr__") (some none) &&
  (eqO (PySem.W.findIn K (.ref C) "__class__") (some (some (.builtin "object.__class__"))) && (decide (PySem.W.mroIn K C (.type "object") = some true) && (PySem.W.keepIn K (.ref C) && (decide (PySem.W.subIn K (.ref C) (.type "BaseException") = some true) && (decide (PySem.W.typeIn K (.ref C) = some (.type "type")) &&
  (PySem.W.hasDictIn K C && decide (PySem.W.subIn K (.ref C) (.ref C) = some true))))))))))
/-- an error class that is made as a value -/
def valB (K : PySem.W.Frag) (M C : Addr) (nm : Str) : Bool := rowB K C nm (.ref M :: veB) && (rowB K M "MeansError" veB && (eqO (PySem.W.findIn K (.ref C) "__setattr__") (some (some (.builtin "object.__setattr__"))) && (eqO (PySem.W.findIn K (.ref C) "__getattribute__") (some (some (.builtin "BaseException.__getattribute__"))) &&
  (eqO (PySem.W.findIn K (.ref C) "__getattr__") (some none) && (eqO (PySem.W.findIn K (.ref C) "__class__") (some (some (.builtin "object.__class__"))) && PySem.W.keepIn K (.ref C))))))
/-! ### a Hook that looks at given addresses alone -/
def told (K : PySem.W.Frag) : List DefD → List FnW
  | [] => []
  | d :: r => fnW K d.at_ :: told K r
def want : List DefD → List FnW
  | [] => []
  | d :: r => d.val :: want r
theorem told_map (K : PySem.W.Frag) : ∀ l, told K l = l.map fun d => fnW K d.at_
  | [] => rfl
  | d :: r => congrArg _ (told_map K r)
theorem want_map : ∀ l, want l = l.map DefD.val
  | [] => rfl
  | d :: r => congrArg _ (want_map r)
section
variable (fa : List Fa) (fn : List DefD) (tf : List Defn) (ex : PySem.W.Frag → Bool)
def sawK (g : Addr → Option Obj) (K : PySem.W.Frag) : Bool × List FnW := (((fa.all fun f => f.ok K) && fn.all fun d => d.ok K) && (ex K && tabsB g tf K), told K fn)
def sawA (as : List Addr) (g : Addr → Option Obj) : Bool × List FnW := sawK fa fn tf ex g (frT g as)
end
theorem said {fa : List Fa} {fn : List DefD} {tf : List Defn} {ex : PySem.W.Frag → Bool} {as : List Addr} {w : World} {h : Heap} (e : sawA fa fn tf ex as h.get? = (true, want fn)) : SaysX fa fn [] tf ex w h (frT h.get? as) := by
  obtain ⟨e1, e2⟩ := Prod.mk.inj (show (_, _) = (_, _) from e)
  obtain ⟨a1, a2⟩ := ba e1
  obtain ⟨b1, b2⟩ := ba a2
  have tb : ∀ p ∈ tf, PySem.W.codeHdIn (frT h.get? as) (cT (frT h.get? as) p).1 (cT (frT h.get? as) p).2 = true ∧ ∃ o, h.get? (cT (frT h.get? as) p).2 = some o ∧ emptyTab o = true := fun p hp => by
    obtain ⟨c1, c2⟩ := ba (List.all_eq_true.mp b2 p hp)
    cases q : h.get? (cT (frT h.get? as) p).2 with
    | none =>
      rw [q] at c2
      cases c2
    | some o =>
      rw [q] at c2
      exact ⟨c1, o, rfl, c2⟩
  have ts : SaysT fa fn [] w (frT h.get? as) := by
    show ((((fa.all fun f => f.ok (frT h.get? as)) && fn.all fun d => d.ok (frT h.get? as)), fn.map fun d => fnW (frT h.get? as) d.at_), ([] : List _)) = ((true, fn.map DefD.val), [])
    rw [a1, ← told_map, ← want_map, e2]
  refine { t := ts, more := b1, hd := fun p hp => (tb p hp).1, out := fun p hp => ?_, empty := fun p hp => ?_ }
  · obtain ⟨_, o, q, z⟩ := tb p hp
    exact frT_none q z
  · obtain ⟨_, o, q, z⟩ := tb p hp
    rw [q, emptyTab_eq z]
def hookA (fa : List Fa) (fn : List DefD) (tf : List Defn) (ex : PySem.W.Frag → Bool) (as : List Addr) : PySem.W.Hook where
  α := Bool × List FnW
  obs := fun s => sawA fa fn tf ex as s.heap.get?
  val := fun _ => (true, want fn)
  says := fun w h => ∃ K : PySem.W.Frag, K.In h ∧ SaysX fa fn [] tf ex w h K
  of := fun _ _ e => ⟨_, frT_in, said e⟩
  keeps := fun _ _ _ ⟨K, hK, c⟩ k => ⟨K, PySem.W.Frag.In.keeps hK k, { t := c.t, more := c.more, hd := c.hd, out := c.out, empty := fun p hp => k _ _ (c.empty p hp) }⟩
theorem sawA_eq {fa : List Fa} {fn : List DefD} {tf : List Defn} {ex : PySem.W.Frag → Bool} {as : List Addr} {s : PySem.W.SharedT} : sawA fa fn tf ex as (HandSHeadRun.getT s) = (hookA fa fn tf ex as).obs s.abs := by
  have e : HandSHeadRun.getT s = s.abs.heap.get? := funext fun a => HandSHeadRun.getT_eq s a
  rw [e]
  rfl

/-! ### two runs in one -/
theorem both_runs {α β γ δ : Type} {X : Option α} {f : α → β} {g : α → γ} {k : α → δ} {b : β} {c : γ} {d : δ} (h1 : X.map (fun s => (f s, g s)) = some (b, c)) (h2 : X.map k = some d) : X.map (fun s => (f s, g s, k s)) = some (b, c, d) := by
  cases X with
  | none => cases h1
  | some x =>
    have e1 : (f x, g x) = (b, c) := Option.some.inj h1
    have e2 : k x = d := Option.some.inj h2
    obtain ⟨e3, e4⟩ := Prod.mk.inj e1
    show some (f x, g x, k x) = some (b, c, d)
    rw [e2, e3, e4]
end MoH

namespace Mo
open PySem PySem.Spec PyProof.Rows L2
/-! ### the text -/
def topS (i : Nat) : Stmt := PySem.Challenge.pw_momentrows_k40_bars_are_checked.main.body.getD i (.Pass ⟨0, 0, 0, 0⟩)
abbrev s_NoBar___init__ : Stmt := inClass (topS 11) 0
abbrev s_Ratio___init__ : Stmt := inClass (topS 15) 0
abbrev s_Ratio___neg__ : Stmt := inClass (topS 15) 7
abbrev s_Ratio___eq__ : Stmt := inClass (topS 15) 14
abbrev s_Ratio___ne__ : Stmt := inClass (topS 15) 15
abbrev s_Ratio___lt__ : Stmt := inClass (topS 15) 16
abbrev s_Ratio___ge__ : Stmt := inClass (topS 15) 19
abbrev s_is_whole : Stmt := topS 16
abbrev s_is_number : Stmt := topS 17
abbrev s_ratio_of : Stmt := topS 18
abbrev s_whole_parts : Stmt := topS 19
abbrev s__gap : Stmt := topS 27
abbrev s_trimmed : Stmt := topS 30
abbrev s_mean : Stmt := topS 35
abbrev s_row_numbers : Stmt := topS 36
abbrev s_paired : Stmt := topS 37
abbrev s__over_one_bottom : Stmt := topS 38
abbrev s_Poly___init__ : Stmt := inClass (topS 41) 0
abbrev s_Poly___eq__ : Stmt := inClass (topS 41) 2
abbrev s_Poly___mul__ : Stmt := inClass (topS 41) 7
abbrev s_Poly___rmul__ : Stmt := inClass (topS 41) 8
abbrev s_poly_of : Stmt := topS 42
abbrev s__is_operand : Stmt := topS 43
abbrev s_product_polys : Stmt := topS 47
abbrev s_Bar___init__ : Stmt := inClass (topS 51) 0
abbrev s_Bar_product : Stmt := inClass (topS 51) 1
abbrev s_check_bar : Stmt := topS 52
abbrev s_Place___init__ : Stmt := inClass (topS 54) 0
abbrev s_Place_all_factors : Stmt := inClass (topS 54) 7
abbrev s__law_cell : Stmt := topS 56
abbrev s__law_draw : Stmt := topS 57
abbrev s__law_scene : Stmt := topS 58
abbrev s__law_row : Stmt := topS 59
abbrev s__law_ratios : Stmt := topS 60
abbrev s__law_place : Stmt := topS 61
abbrev s__law_changed : Stmt := topS 62
abbrev s__law_factors : Stmt := topS 63
abbrev s__law_scale : Stmt := topS 64
abbrev s__law_whole : Stmt := topS 65
abbrev s__law_multiply : Stmt := topS 66
abbrev s__law_mean : Stmt := topS 67
abbrev s__law_trim : Stmt := topS 68
abbrev s__law_integer : Stmt := topS 69
abbrev s__law_pair : Stmt := topS 70
abbrev s__law_pairs : Stmt := topS 71
abbrev s__law_read_poly : Stmt := topS 72
abbrev s__law_equal_pairs : Stmt := topS 73
abbrev s__law_base : Stmt := topS 74
abbrev s__law_due : Stmt := topS 75
abbrev s__law_told : Stmt := topS 76
abbrev s__law_kept : Stmt := topS 77
abbrev s_law : Stmt := topS 78
/-! ### what the top has left -/
def dd0 : He.DefD := ⟨("NoBar", some "__init__"), "__init__", "NoBar.__init__", defArgs s_NoBar___init__, defBody s_NoBar___init__, defScope s_NoBar___init__, [], []⟩
def dd1 : He.DefD := ⟨("Ratio", some "__init__"), "__init__", "Ratio.__init__", defArgs s_Ratio___init__, defBody s_Ratio___init__, defScope s_Ratio___init__, [.int 1], []⟩
def dd2 : He.DefD := ⟨("Ratio", some "__neg__"), "__neg__", "Ratio.__neg__", defArgs s_Ratio___neg__, defBody s_Ratio___neg__, defScope s_Ratio___neg__, [], []⟩
def dd3 : He.DefD := ⟨("Ratio", some "__eq__"), "__eq__", "Ratio.__eq__", defArgs s_Ratio___eq__, defBody s_Ratio___eq__, defScope s_Ratio___eq__, [], []⟩
def dd4 : He.DefD := ⟨("Ratio", some "__ne__"), "__ne__", "Ratio.__ne__", defArgs s_Ratio___ne__, defBody s_Ratio___ne__, defScope s_Ratio___ne__, [], []⟩
def dd5 : He.DefD := ⟨("Ratio", some "__lt__"), "__lt__", "Ratio.__lt__", defArgs s_Ratio___lt__, defBody s_Ratio___lt__, defScope s_Ratio___lt__, [], []⟩
def dd6 : He.DefD := ⟨("Ratio", some "__ge__"), "__ge__", "Ratio.__ge__", defArgs s_Ratio___ge__, defBody s_Ratio___ge__, defScope s_Ratio___ge__, [], []⟩
def dd7 : He.DefD := ⟨("is_whole", none), "is_whole", "is_whole", defArgs s_is_whole, defBody s_is_whole, defScope s_is_whole, [], []⟩
def dd8 : He.DefD := ⟨("is_number", none), "is_number", "is_number", defArgs s_is_number, defBody s_is_number, defScope s_is_number, [], []⟩
def dd9 : He.DefD := ⟨("ratio_of", none), "ratio_of", "ratio_of", defArgs s_ratio_of, defBody s_ratio_of, defScope s_ratio_of, [], []⟩
def dd10 : He.DefD := ⟨("whole_parts", none), "whole_parts", "whole_parts", defArgs s_whole_parts, defBody s_whole_parts, defScope s_whole_parts, [], []⟩
def dd11 : He.DefD := ⟨("_gap", none), "_gap", "_gap", defArgs s__gap, defBody s__gap, defScope s__gap, [], []⟩
def dd12 : He.DefD := ⟨("trimmed", none), "trimmed", "trimmed", defArgs s_trimmed, defBody s_trimmed, defScope s_trimmed, [], []⟩
def dd13 : He.DefD := ⟨("mean", none), "mean", "mean", defArgs s_mean, defBody s_mean, defScope s_mean, [], []⟩
def dd14 : He.DefD := ⟨("row_numbers", none), "row_numbers", "row_numbers", defArgs s_row_numbers, defBody s_row_numbers, defScope s_row_numbers, [], []⟩
def dd15 : He.DefD := ⟨("paired", none), "paired", "paired", defArgs s_paired, defBody s_paired, defScope s_paired, [], []⟩
def dd16 : He.DefD := ⟨("_over_one_bottom", none), "_over_one_bottom", "_over_one_bottom", defArgs s__over_one_bottom, defBody s__over_one_bottom, defScope s__over_one_bottom, [], []⟩
def dd17 : He.DefD := ⟨("Poly", some "__init__"), "__init__", "Poly.__init__", defArgs s_Poly___init__, defBody s_Poly___init__, defScope s_Poly___init__, [], []⟩
def dd18 : He.DefD := ⟨("Poly", some "__eq__"), "__eq__", "Poly.__eq__", defArgs s_Poly___eq__, defBody s_Poly___eq__, defScope s_Poly___eq__, [], []⟩
def dd19 : He.DefD := ⟨("Poly", some "__mul__"), "__mul__", "Poly.__mul__", defArgs s_Poly___mul__, defBody s_Poly___mul__, defScope s_Poly___mul__, [], []⟩
def dd20 : He.DefD := ⟨("Poly", some "__rmul__"), "__rmul__", "Poly.__rmul__", defArgs s_Poly___rmul__, defBody s_Poly___rmul__, defScope s_Poly___rmul__, [], []⟩
def dd21 : He.DefD := ⟨("poly_of", none), "poly_of", "poly_of", defArgs s_poly_of, defBody s_poly_of, defScope s_poly_of, [], []⟩
def dd22 : He.DefD := ⟨("_is_operand", none), "_is_operand", "_is_operand", defArgs s__is_operand, defBody s__is_operand, defScope s__is_operand, [], []⟩
def dd23 : He.DefD := ⟨("product_polys", none), "_product", "_product", defArgs s_product_polys, defBody s_product_polys, defScope s_product_polys, [], []⟩
def dd24 : He.DefD := ⟨("Bar", some "__init__"), "__init__", "Bar.__init__", defArgs s_Bar___init__, defBody s_Bar___init__, defScope s_Bar___init__, [.non], []⟩
def dd25 : He.DefD := ⟨("Bar", some "product"), "product", "Bar.product", defArgs s_Bar_product, defBody s_Bar_product, defScope s_Bar_product, [], []⟩
def dd26 : He.DefD := ⟨("check_bar", none), "check_bar", "check_bar", defArgs s_check_bar, defBody s_check_bar, defScope s_check_bar, [], []⟩
def dd27 : He.DefD := ⟨("Place", some "__init__"), "__init__", "Place.__init__", defArgs s_Place___init__, defBody s_Place___init__, defScope s_Place___init__, [.non, .non], []⟩
def dd28 : He.DefD := ⟨("Place", some "all_factors"), "all_factors", "Place.all_factors", defArgs s_Place_all_factors, defBody s_Place_all_factors, defScope s_Place_all_factors, [], []⟩
def dd29 : He.DefD := ⟨("_law_cell", none), "_law_cell", "_law_cell", defArgs s__law_cell, defBody s__law_cell, defScope s__law_cell, [], []⟩
def dd30 : He.DefD := ⟨("_law_draw", none), "_law_draw", "_law_draw", defArgs s__law_draw, defBody s__law_draw, defScope s__law_draw, [], []⟩
def dd31 : He.DefD := ⟨("_law_scene", none), "_law_scene", "_law_scene", defArgs s__law_scene, defBody s__law_scene, defScope s__law_scene, [], []⟩
def dd32 : He.DefD := ⟨("_law_row", none), "_law_row", "_law_row", defArgs s__law_row, defBody s__law_row, defScope s__law_row, [], []⟩
def dd33 : He.DefD := ⟨("_law_ratios", none), "_law_ratios", "_law_ratios", defArgs s__law_ratios, defBody s__law_ratios, defScope s__law_ratios, [], []⟩
def dd34 : He.DefD := ⟨("_law_place", none), "_law_place", "_law_place", defArgs s__law_place, defBody s__law_place, defScope s__law_place, [], []⟩
def dd35 : He.DefD := ⟨("_law_changed", none), "_law_changed", "_law_changed", defArgs s__law_changed, defBody s__law_changed, defScope s__law_changed, [], []⟩
def dd36 : He.DefD := ⟨("_law_factors", none), "_law_factors", "_law_factors", defArgs s__law_factors, defBody s__law_factors, defScope s__law_factors, [], []⟩
def dd37 : He.DefD := ⟨("_law_scale", none), "_law_scale", "_law_scale", defArgs s__law_scale, defBody s__law_scale, defScope s__law_scale, [], []⟩
def dd38 : He.DefD := ⟨("_law_whole", none), "_law_whole", "_law_whole", defArgs s__law_whole, defBody s__law_whole, defScope s__law_whole, [], []⟩
def dd39 : He.DefD := ⟨("_law_multiply", none), "_law_multiply", "_law_multiply", defArgs s__law_multiply, defBody s__law_multiply, defScope s__law_multiply, [], []⟩
def dd40 : He.DefD := ⟨("_law_mean", none), "_law_mean", "_law_mean", defArgs s__law_mean, defBody s__law_mean, defScope s__law_mean, [], []⟩
def dd41 : He.DefD := ⟨("_law_trim", none), "_law_trim", "_law_trim", defArgs s__law_trim, defBody s__law_trim, defScope s__law_trim, [], []⟩
def dd42 : He.DefD := ⟨("_law_integer", none), "_law_integer", "_law_integer", defArgs s__law_integer, defBody s__law_integer, defScope s__law_integer, [], []⟩
def dd43 : He.DefD := ⟨("_law_pair", none), "_law_pair", "_law_pair", defArgs s__law_pair, defBody s__law_pair, defScope s__law_pair, [], []⟩
def dd44 : He.DefD := ⟨("_law_pairs", none), "_law_pairs", "_law_pairs", defArgs s__law_pairs, defBody s__law_pairs, defScope s__law_pairs, [], []⟩
def dd45 : He.DefD := ⟨("_law_read_poly", none), "_law_read_poly", "_law_read_poly", defArgs s__law_read_poly, defBody s__law_read_poly, defScope s__law_read_poly, [], []⟩
def dd46 : He.DefD := ⟨("_law_equal_pairs", none), "_law_equal_pairs", "_law_equal_pairs", defArgs s__law_equal_pairs, defBody s__law_equal_pairs, defScope s__law_equal_pairs, [], []⟩
def dd47 : He.DefD := ⟨("_law_base", none), "_law_base", "_law_base", defArgs s__law_base, defBody s__law_base, defScope s__law_base, [], []⟩
def dd48 : He.DefD := ⟨("_law_due", none), "_law_due", "_law_due", defArgs s__law_due, defBody s__law_due, defScope s__law_due, [], []⟩
def dd49 : He.DefD := ⟨("_law_told", none), "_law_told", "_law_told", defArgs s__law_told, defBody s__law_told, defScope s__law_told, [], []⟩
def dd50 : He.DefD := ⟨("_law_kept", none), "_law_kept", "_law_kept", defArgs s__law_kept, defBody s__law_kept, defScope s__law_kept, [], []⟩
def dd51 : He.DefD := ⟨("law", none), "law", "law", defArgs s_law, defBody s_law, defScope s_law, [], []⟩
def fnL0 : List He.DefD := [dd0, dd1, dd2, dd3, dd4, dd5, dd6, dd7, dd8, dd9, dd10, dd11, dd12, dd13, dd14, dd15, dd16, dd17, dd18, dd19, dd20, dd21, dd22, dd23, dd24, dd25, dd26, dd27, dd28, dd29]
def fnL1 : List He.DefD := [dd30, dd31, dd32, dd33, dd34, dd35, dd36, dd37, dd38, dd39, dd40, dd41, dd42, dd43, dd44, dd45, dd46, dd47, dd48, dd49, dd50, dd51]
def fnL : List He.DefD := fnL0 ++ fnL1
def tfL : List He.Defn := []
def faL : List He.Fa := [.int "MOST_NUMBERS" 13]
def exL0 : List MoH.Tst := [fun K => MoH.gdB K, fun K => decide (PySem.W.nsIn K mainGlobals "Ratio" = some (some (.ref (He.ga K "Ratio")))), fun K => decide (PySem.W.nsIn K mainGlobals "Poly" = some (some (.ref (He.ga K "Poly")))), fun K => decide (PySem.W.nsIn K mainGlobals "Place" = some (some (.ref (He.ga K "Place")))), fun K => decide (PySem.W.nsIn K mainGlobals "Bar" = some (some (.ref (He.ga K "Bar")))), fun K => decide (PySem.W.nsIn K mainGlobals "NoBar" = some (some (.ref (He.ga K "NoBar")))), fun K => decide (PySem.W.nsIn K mainGlobals "MeansError" = some (some (.ref (He.ga K "MeansError")))), fun K => MoH.ownB K (He.ga K "Ratio"), fun K => PySem.W.makesIn K (He.ga K "Ratio"), fun K => PySem.W.keepIn K (.ref (He.ga K "Ratio")), fun K => decide (PySem.W.findIn K (.ref (He.ga K "Ratio")) "top" = some none), fun K => decide (PySem.W.findIn K (.ref (He.ga K "Ratio")) "bottom" = some none), fun K => MoH.ownB K (He.ga K "Poly"), fun K => PySem.W.makesIn K (He.ga K "Poly"), fun K => PySem.W.keepIn K (.ref (He.ga K "Poly")), fun K => decide (PySem.W.findIn K (.ref (He.ga K "Poly")) "coefficients" = some none), fun K => decide (PySem.W.findIn K (.ref (He.ga K "Poly")) "degree" = some none), fun K => decide (PySem.W.findIn K (.ref (He.ga K "Poly")) "lead" = some none), fun K => MoH.ownB K (He.ga K "Place"), fun K => PySem.W.makesIn K (He.ga K "Place"), fun K => PySem.W.keepIn K (.ref (He.ga K "Place")), fun K => decide (PySem.W.findIn K (.ref (He.ga K "Place")) "low" = some none), fun K => decide (PySem.W.findIn K (.ref (He.ga K "Place")) "high" = some none), fun K => MoH.ownB K (He.ga K "Bar"), fun K => PySem.W.makesIn K (He.ga K "Bar"), fun K => PySem.W.keepIn K (.ref (He.ga K "Bar")), fun K => decide (PySem.W.findIn K (.ref (He.ga K "Bar")) "factor" = some none), fun K => decide (PySem.W.findIn K (.ref (He.ga K "Bar")) "base" = some none), fun K => decide (PySem.W.findIn K (.ref (He.ga K "Bar")) "other" = some none), fun K => MoH.excB K (He.ga K "NoBar")]
def exL1 : List MoH.Tst := [fun K => decide (PySem.W.findIn K (.ref (He.ga K "NoBar")) "part" = some none), fun K => decide (PySem.W.typeIn K (.ref (He.fAd K ("NoBar", some "__init__"))) = some (.type "function")), fun K => decide (PySem.W.findIn K (.ref (He.ga K "NoBar")) "__init__" = some (some (.ref (He.fAd K ("NoBar", some "__init__"))))), fun K => PySem.W.isFn K (.ref (He.fAd K ("NoBar", some "__init__"))), fun K => PySem.W.keepIn K (.ref (He.fAd K ("NoBar", some "__init__"))), fun K => decide (PySem.W.findIn K (.ref (He.ga K "Ratio")) "__init__" = some (some (.ref (He.fAd K ("Ratio", some "__init__"))))), fun K => PySem.W.isFn K (.ref (He.fAd K ("Ratio", some "__init__"))), fun K => PySem.W.keepIn K (.ref (He.fAd K ("Ratio", some "__init__"))), fun K => decide (PySem.W.findIn K (.ref (He.ga K "Ratio")) "__neg__" = some (some (.ref (He.fAd K ("Ratio", some "__neg__"))))), fun K => PySem.W.isFn K (.ref (He.fAd K ("Ratio", some "__neg__"))), fun K => PySem.W.keepIn K (.ref (He.fAd K ("Ratio", some "__neg__"))), fun K => decide (PySem.W.findIn K (.ref (He.ga K "Ratio")) "__eq__" = some (some (.ref (He.fAd K ("Ratio", some "__eq__"))))), fun K => PySem.W.isFn K (.ref (He.fAd K ("Ratio", some "__eq__"))), fun K => PySem.W.keepIn K (.ref (He.fAd K ("Ratio", some "__eq__"))), fun K => decide (PySem.W.findIn K (.ref (He.ga K "Ratio")) "__ne__" = some (some (.ref (He.fAd K ("Ratio", some "__ne__"))))), fun K => PySem.W.isFn K (.ref (He.fAd K ("Ratio", some "__ne__"))), fun K => PySem.W.keepIn K (.ref (He.fAd K ("Ratio", some "__ne__"))), fun K => decide (PySem.W.findIn K (.ref (He.ga K "Ratio")) "__lt__" = some (some (.ref (He.fAd K ("Ratio", some "__lt__"))))), fun K => PySem.W.isFn K (.ref (He.fAd K ("Ratio", some "__lt__"))), fun K => PySem.W.keepIn K (.ref (He.fAd K ("Ratio", some "__lt__"))), fun K => decide (PySem.W.findIn K (.ref (He.ga K "Ratio")) "__ge__" = some (some (.ref (He.fAd K ("Ratio", some "__ge__"))))), fun K => PySem.W.isFn K (.ref (He.fAd K ("Ratio", some "__ge__"))), fun K => PySem.W.keepIn K (.ref (He.fAd K ("Ratio", some "__ge__"))), fun K => decide (PySem.W.nsIn K mainGlobals "is_whole" = some (some (.ref (He.fAd K ("is_whole", none))))), fun K => PySem.W.keepIn K (.ref (He.fAd K ("is_whole", none))), fun K => decide (PySem.W.nsIn K mainGlobals "is_number" = some (some (.ref (He.fAd K ("is_number", none))))), fun K => PySem.W.keepIn K (.ref (He.fAd K ("is_number", none))), fun K => decide (PySem.W.nsIn K mainGlobals "ratio_of" = some (some (.ref (He.fAd K ("ratio_of", none))))), fun K => PySem.W.keepIn K (.ref (He.fAd K ("ratio_of", none))), fun K => decide (PySem.W.nsIn K mainGlobals "whole_parts" = some (some (.ref (He.fAd K ("whole_parts", none)))))]
def exL2 : List MoH.Tst := [fun K => PySem.W.keepIn K (.ref (He.fAd K ("whole_parts", none))), fun K => decide (PySem.W.nsIn K mainGlobals "_gap" = some (some (.ref (He.fAd K ("_gap", none))))), fun K => PySem.W.keepIn K (.ref (He.fAd K ("_gap", none))), fun K => decide (PySem.W.nsIn K mainGlobals "trimmed" = some (some (.ref (He.fAd K ("trimmed", none))))), fun K => PySem.W.keepIn K (.ref (He.fAd K ("trimmed", none))), fun K => decide (PySem.W.nsIn K mainGlobals "mean" = some (some (.ref (He.fAd K ("mean", none))))), fun K => PySem.W.keepIn K (.ref (He.fAd K ("mean", none))), fun K => decide (PySem.W.nsIn K mainGlobals "row_numbers" = some (some (.ref (He.fAd K ("row_numbers", none))))), fun K => PySem.W.keepIn K (.ref (He.fAd K ("row_numbers", none))), fun K => decide (PySem.W.nsIn K mainGlobals "paired" = some (some (.ref (He.fAd K ("paired", none))))), fun K => PySem.W.keepIn K (.ref (He.fAd K ("paired", none))), fun K => decide (PySem.W.nsIn K mainGlobals "_over_one_bottom" = some (some (.ref (He.fAd K ("_over_one_bottom", none))))), fun K => PySem.W.keepIn K (.ref (He.fAd K ("_over_one_bottom", none))), fun K => decide (PySem.W.findIn K (.ref (He.ga K "Poly")) "__init__" = some (some (.ref (He.fAd K ("Poly", some "__init__"))))), fun K => PySem.W.isFn K (.ref (He.fAd K ("Poly", some "__init__"))), fun K => PySem.W.keepIn K (.ref (He.fAd K ("Poly", some "__init__"))), fun K => decide (PySem.W.findIn K (.ref (He.ga K "Poly")) "__eq__" = some (some (.ref (He.fAd K ("Poly", some "__eq__"))))), fun K => PySem.W.isFn K (.ref (He.fAd K ("Poly", some "__eq__"))), fun K => PySem.W.keepIn K (.ref (He.fAd K ("Poly", some "__eq__"))), fun K => decide (PySem.W.findIn K (.ref (He.ga K "Poly")) "__mul__" = some (some (.ref (He.fAd K ("Poly", some "__mul__"))))), fun K => PySem.W.isFn K (.ref (He.fAd K ("Poly", some "__mul__"))), fun K => PySem.W.keepIn K (.ref (He.fAd K ("Poly", some "__mul__"))), fun K => decide (PySem.W.findIn K (.ref (He.ga K "Poly")) "__rmul__" = some (some (.ref (He.fAd K ("Poly", some "__rmul__"))))), fun K => PySem.W.isFn K (.ref (He.fAd K ("Poly", some "__rmul__"))), fun K => PySem.W.keepIn K (.ref (He.fAd K ("Poly", some "__rmul__"))), fun K => decide (PySem.W.nsIn K mainGlobals "poly_of" = some (some (.ref (He.fAd K ("poly_of", none))))), fun K => PySem.W.keepIn K (.ref (He.fAd K ("poly_of", none))), fun K => decide (PySem.W.nsIn K mainGlobals "_is_operand" = some (some (.ref (He.fAd K ("_is_operand", none))))), fun K => PySem.W.keepIn K (.ref (He.fAd K ("_is_operand", none))), fun K => decide (PySem.W.nsIn K mainGlobals "product_polys" = some (some (.ref (He.fAd K ("product_polys", none)))))]
def exL3 : List MoH.Tst := [fun K => PySem.W.keepIn K (.ref (He.fAd K ("product_polys", none))), fun K => decide (PySem.W.findIn K (.ref (He.ga K "Bar")) "__init__" = some (some (.ref (He.fAd K ("Bar", some "__init__"))))), fun K => PySem.W.isFn K (.ref (He.fAd K ("Bar", some "__init__"))), fun K => PySem.W.keepIn K (.ref (He.fAd K ("Bar", some "__init__"))), fun K => decide (PySem.W.findIn K (.ref (He.ga K "Bar")) "product" = some (some (.ref (He.fAd K ("Bar", some "product"))))), fun K => PySem.W.isFn K (.ref (He.fAd K ("Bar", some "product"))), fun K => PySem.W.keepIn K (.ref (He.fAd K ("Bar", some "product"))), fun K => decide (PySem.W.nsIn K mainGlobals "check_bar" = some (some (.ref (He.fAd K ("check_bar", none))))), fun K => PySem.W.keepIn K (.ref (He.fAd K ("check_bar", none))), fun K => decide (PySem.W.findIn K (.ref (He.ga K "Place")) "__init__" = some (some (.ref (He.fAd K ("Place", some "__init__"))))), fun K => PySem.W.isFn K (.ref (He.fAd K ("Place", some "__init__"))), fun K => PySem.W.keepIn K (.ref (He.fAd K ("Place", some "__init__"))), fun K => decide (PySem.W.findIn K (.ref (He.ga K "Place")) "all_factors" = some (some (.ref (He.fAd K ("Place", some "all_factors"))))), fun K => PySem.W.isFn K (.ref (He.fAd K ("Place", some "all_factors"))), fun K => PySem.W.keepIn K (.ref (He.fAd K ("Place", some "all_factors"))), fun K => decide (PySem.W.nsIn K mainGlobals "_law_cell" = some (some (.ref (He.fAd K ("_law_cell", none))))), fun K => PySem.W.keepIn K (.ref (He.fAd K ("_law_cell", none))), fun K => decide (PySem.W.nsIn K mainGlobals "_law_draw" = some (some (.ref (He.fAd K ("_law_draw", none))))), fun K => PySem.W.keepIn K (.ref (He.fAd K ("_law_draw", none))), fun K => decide (PySem.W.nsIn K mainGlobals "_law_scene" = some (some (.ref (He.fAd K ("_law_scene", none))))), fun K => PySem.W.keepIn K (.ref (He.fAd K ("_law_scene", none))), fun K => decide (PySem.W.nsIn K mainGlobals "_law_row" = some (some (.ref (He.fAd K ("_law_row", none))))), fun K => PySem.W.keepIn K (.ref (He.fAd K ("_law_row", none))), fun K => decide (PySem.W.nsIn K mainGlobals "_law_ratios" = some (some (.ref (He.fAd K ("_law_ratios", none))))), fun K => PySem.W.keepIn K (.ref (He.fAd K ("_law_ratios", none))), fun K => decide (PySem.W.nsIn K mainGlobals "_law_place" = some (some (.ref (He.fAd K ("_law_place", none))))), fun K => PySem.W.keepIn K (.ref (He.fAd K ("_law_place", none))), fun K => decide (PySem.W.nsIn K mainGlobals "_law_changed" = some (some (.ref (He.fAd K ("_law_changed", none))))), fun K => PySem.W.keepIn K (.ref (He.fAd K ("_law_changed", none))), fun K => decide (PySem.W.nsIn K mainGlobals "_law_factors" = some (some (.ref (He.fAd K ("_law_factors", none)))))]
def exL4 : List MoH.Tst := [fun K => PySem.W.keepIn K (.ref (He.fAd K ("_law_factors", none))), fun K => decide (PySem.W.nsIn K mainGlobals "_law_scale" = some (some (.ref (He.fAd K ("_law_scale", none))))), fun K => PySem.W.keepIn K (.ref (He.fAd K ("_law_scale", none))), fun K => decide (PySem.W.nsIn K mainGlobals "_law_whole" = some (some (.ref (He.fAd K ("_law_whole", none))))), fun K => PySem.W.keepIn K (.ref (He.fAd K ("_law_whole", none))), fun K => decide (PySem.W.nsIn K mainGlobals "_law_multiply" = some (some (.ref (He.fAd K ("_law_multiply", none))))), fun K => PySem.W.keepIn K (.ref (He.fAd K ("_law_multiply", none))), fun K => decide (PySem.W.nsIn K mainGlobals "_law_mean" = some (some (.ref (He.fAd K ("_law_mean", none))))), fun K => PySem.W.keepIn K (.ref (He.fAd K ("_law_mean", none))), fun K => decide (PySem.W.nsIn K mainGlobals "_law_trim" = some (some (.ref (He.fAd K ("_law_trim", none))))), fun K => PySem.W.keepIn K (.ref (He.fAd K ("_law_trim", none))), fun K => decide (PySem.W.nsIn K mainGlobals "_law_integer" = some (some (.ref (He.fAd K ("_law_integer", none))))), fun K => PySem.W.keepIn K (.ref (He.fAd K ("_law_integer", none))), fun K => decide (PySem.W.nsIn K mainGlobals "_law_pair" = some (some (.ref (He.fAd K ("_law_pair", none))))), fun K => PySem.W.keepIn K (.ref (He.fAd K ("_law_pair", none))), fun K => decide (PySem.W.nsIn K mainGlobals "_law_pairs" = some (some (.ref (He.fAd K ("_law_pairs", none))))), fun K => PySem.W.keepIn K (.ref (He.fAd K ("_law_pairs", none))), fun K => decide (PySem.W.nsIn K mainGlobals "_law_read_poly" = some (some (.ref (He.fAd K ("_law_read_poly", none))))), fun K => PySem.W.keepIn K (.ref (He.fAd K ("_law_read_poly", none))), fun K => decide (PySem.W.nsIn K mainGlobals "_law_equal_pairs" = some (some (.ref (He.fAd K ("_law_equal_pairs", none))))), fun K => PySem.W.keepIn K (.ref (He.fAd K ("_law_equal_pairs", none))), fun K => decide (PySem.W.nsIn K mainGlobals "_law_base" = some (some (.ref (He.fAd K ("_law_base", none))))), fun K => PySem.W.keepIn K (.ref (He.fAd K ("_law_base", none))), fun K => decide (PySem.W.nsIn K mainGlobals "_law_due" = some (some (.ref (He.fAd K ("_law_due", none))))), fun K => PySem.W.keepIn K (.ref (He.fAd K ("_law_due", none))), fun K => decide (PySem.W.nsIn K mainGlobals "_law_told" = some (some (.ref (He.fAd K ("_law_told", none))))), fun K => PySem.W.keepIn K (.ref (He.fAd K ("_law_told", none))), fun K => decide (PySem.W.nsIn K mainGlobals "_law_kept" = some (some (.ref (He.fAd K ("_law_kept", none))))), fun K => PySem.W.keepIn K (.ref (He.fAd K ("_law_kept", none))), fun K => decide (PySem.W.nsIn K mainGlobals "law" = some (some (.ref (He.fAd K ("law", none)))))]
def exL5 : List MoH.Tst := [fun K => PySem.W.keepIn K (.ref (He.fAd K ("law", none))), fun K => decide (PySem.W.kitOne K (.ref (He.ga K "Ratio")) (.ref (He.ga K "Poly")) = some false), fun K => decide (PySem.W.subIn K (.ref (He.ga K "Ratio")) (.ref (He.ga K "Poly")) = some false), fun K => decide (PySem.W.subIn K (.ref (He.ga K "Poly")) (.ref (He.ga K "Ratio")) = some false), fun K => decide (PySem.W.kitOne K (.ref (He.ga K "Poly")) (.ref (He.ga K "Ratio")) = some false), fun K => decide (PySem.W.nsIn K mainGlobals "isinstance" = some none), fun K => decide (PySem.W.nsIn K mainGlobals "int" = some none), fun K => decide (PySem.W.nsIn K mainGlobals "bool" = some none), fun K => decide (PySem.W.nsIn K mainGlobals "abs" = some none), fun K => decide (PySem.W.nsIn K mainGlobals "len" = some none), fun K => decide (PySem.W.nsIn K mainGlobals "max" = some none), fun K => decide (PySem.W.nsIn K mainGlobals "range" = some none), fun K => decide (PySem.W.nsIn K mainGlobals "list" = some none), fun K => decide (PySem.W.nsIn K mainGlobals "tuple" = some none), fun K => decide (PySem.W.nsIn K mainGlobals "min" = some none), fun K => decide (PySem.W.nsIn K mainGlobals "sum" = some none), fun K => decide (PySem.W.nsIn K mainGlobals "any" = some none), fun K => decide (PySem.W.nsIn K mainGlobals "all" = some none), fun K => decide (PySem.W.nsIn K mainGlobals "NotImplemented" = some none), fun K => decide (PySem.W.nsIn K mainGlobals "gcd" = some (some (.builtin "math.gcd"))), fun K => decide (PySem.W.nsIn K mainGlobals "lcm" = some (some (.builtin "math.lcm")))]
def exL : List MoH.Tst := exL0 ++ exL1 ++ exL2 ++ exL3 ++ exL4 ++ exL5
abbrev RW : PySem.W.OpenRow := PySem.W.OpenLaw.row PySem.Challenge.rw_momentrows_k40_bars_are_checked
def adL0 : List Addr := [3, 375, 622, 768, 687, 191, 59, 374, 621, 767, 686, 190, 58, 188, 208, 257, 306, 313, 320, 341, 386, 393, 400, 405, 447, 461, 480, 485, 490, 497, 509, 523, 558, 565, 633, 640, 657, 677, 684, 696, 711, 760, 779, 786, 793, 798, 803, 810, 817, 824, 831, 836, 841, 848, 855, 862, 869, 876, 883, 890]
def adL1 : List Addr := [895, 902, 909, 914, 919, 187, 207, 256, 305, 312, 319, 340, 385, 392, 399, 404, 446, 460, 479, 484, 489, 496, 508, 522, 557, 564, 632, 639, 656, 676, 683, 695, 710, 759, 778, 785, 792, 797, 802, 809, 816, 823, 830, 835, 840, 847, 854, 861, 868, 875, 882, 889, 894, 901, 908, 913, 918, 201, 670, 704]
def adL : List Addr := adL0 ++ adL1
abbrev hkX : PySem.W.Hook := MoH.hookA faL fnL tfL (MoH.exAll exL) adL
def obX (s : PySem.W.SharedT) : Bool × List He.FnW := MoH.sawA faL fnL tfL (MoH.exAll exL) adL (HandSHeadRun.getT s)
theorem obX_eq (s : PySem.W.SharedT) : obX s = hkX.obs s.abs := MoH.sawA_eq
def nmL0 : List PySem.Str := ["_wall", "MeansError", "NoRatio", "NoPoly", "NoDivisor", "NoNumber", "NoPlace", "NoRow", "NoMean", "NoBar", "MOST_POWER_ratios", "MOST_DIGITS", "Ratio", "is_whole", "is_number", "ratio_of", "whole_parts", "_sum", "sum_ratios", "_difference", "_product", "product_ratios", "_floor", "_remainder", "_gap", "_are_digits", "trimmed", "value_parts", "long_division", "MOST_NUMBERS"]
def nmL1 : List PySem.Str := ["mean", "row_numbers", "paired", "_over_one_bottom", "MOST_POWER_polys", "Poly", "poly_of", "_is_operand", "sum_polys", "_coefficient", "product_polys", "_divided", "Bar", "check_bar", "Place", "_law_cell", "_law_draw", "_law_scene", "_law_row", "_law_ratios", "_law_place", "_law_changed", "_law_factors", "_law_scale", "_law_whole", "_law_multiply", "_law_mean", "_law_trim", "_law_integer", "_law_pair"]
def nmL2 : List PySem.Str := ["_law_pairs", "_law_read_poly", "_law_equal_pairs", "_law_base", "_law_due", "_law_told", "_law_kept"]
def nmL : List PySem.Str := nmL0 ++ nmL1 ++ nmL2
abbrev qvX : Program := PySem.W.view RW.prog [0, 78]
noncomputable abbrev wholeX (w : World) := HandSHeadRun.wholeF (fun p => HandSHeadRun.stepQ (HandSHeadRun.denQ HandSHeadRun.tabQ) p w) HandSHeadRun.fenceQ 14000 RW.prog
theorem runA (w : World) : (wholeX w).map (fun x => (HandSHeadRun.looksF RW.prog x.1.heap x.2.abs, HandSHeadRun.seenQ qvX nmL (importedModules RW.prog.main.body) (fun s => PySem.W.xlAt qvX [] s && PySem.W.recOk RW.toRowW.records s) x.2.abs)) = some (true, PySem.W.openGood qvX nmL) := by
  kernel_rfl
theorem runB (w : World) : (wholeX w).map (fun x => obX x.2) = some (true, MoH.want fnL) := by
  kernel_rfl
theorem runX (w : World) : HandSHeadRun.RunEqI RW qvX hkX obX 14000 nmL w := MoH.both_runs (runA w) (runB w)
abbrev dfX : PySem.DefRec := HandSHeadRun.topDef RW.prog 78
set_option maxHeartbeats 0 in
theorem holds_of (call : PySem.W.WalkO qvX nmL (PySem.W.XL qvX []) hkX.says RW.toRowW dfX [] fun f vs => PySem.call f vs) : PySem.Challenge.rw_momentrows_k40_bars_are_checked.Holds := by
  w_on; o_law
  refine HandSHeadRun.head_imp (r := RW) (q := qvX) (H := hkX) (ob := obX) (M := 14000) (loose := nmL) (d := dfX) (kwd := []) obX_eq runX (by kernel_rfl) (by kernel_rfl) (by kernel_rfl) (by rfl) (by first | assumption | decide +kernel) (by decide +kernel) ⟨rfl, rfl, rfl, rfl, rfl, by decide +kernel⟩ ?hw ?hc
  case hw => w_witness2
  case hc => exact call
end Mo

/-! # Operators of own classes, on either side of an int (my own layer over HandS) -/
namespace MoW
open PySem PySem.W
section
variable {prog : Program} {w : World} {A : Around} {E : Value → Shared → Prop} {s : Shared}
theorem int_eq_no (i : Int) (t : Tok) (l C dx : Addr) :
    Meets (Builtin.«int.__eq__» ⟨[.int i t, .ref l], []⟩) (fun _ R s => s.heap.get? l = some (PySem.W.instObj C dx) ∧ R (.ok (.ret .notImplemented)) s) :=
  .of_wp fun prog w A R s h => by obtain ⟨hp, g, d, tk, os⟩ := s; obtain ⟨hl, h⟩ := h; unfold PySem.W.instObj at hl; wp_walk using wpAny_loadPart' hl, wpAny_load hl; exact ⟨_, rfl, h⟩
theorem int_ne_no (i : Int) (t : Tok) (l C dx : Addr) :
    Meets (Builtin.«int.__ne__» ⟨[.int i t, .ref l], []⟩) (fun _ R s => s.heap.get? l = some (PySem.W.instObj C dx) ∧ R (.ok (.ret .notImplemented)) s) :=
  .of_wp fun prog w A R s h => by obtain ⟨hp, g, d, tk, os⟩ := s; obtain ⟨hl, h⟩ := h; unfold PySem.W.instObj at hl; wp_walk using wpAny_loadPart' hl, wpAny_load hl; exact ⟨_, rfl, h⟩
theorem int_lt_no (i : Int) (t : Tok) (l C dx : Addr) :
    Meets (Builtin.«int.__lt__» ⟨[.int i t, .ref l], []⟩) (fun _ R s => s.heap.get? l = some (PySem.W.instObj C dx) ∧ R (.ok (.ret .notImplemented)) s) :=
  .of_wp fun prog w A R s h => by obtain ⟨hp, g, d, tk, os⟩ := s; obtain ⟨hl, h⟩ := h; unfold PySem.W.instObj at hl; wp_walk using wpAny_loadPart' hl, wpAny_load hl; exact ⟨_, rfl, h⟩
theorem int_le_no (i : Int) (t : Tok) (l C dx : Addr) :
    Meets (Builtin.«int.__le__» ⟨[.int i t, .ref l], []⟩) (fun _ R s => s.heap.get? l = some (PySem.W.instObj C dx) ∧ R (.ok (.ret .notImplemented)) s) :=
  .of_wp fun prog w A R s h => by obtain ⟨hp, g, d, tk, os⟩ := s; obtain ⟨hl, h⟩ := h; unfold PySem.W.instObj at hl; wp_walk using wpAny_loadPart' hl, wpAny_load hl; exact ⟨_, rfl, h⟩
theorem int_gt_no (i : Int) (t : Tok) (l C dx : Addr) :
    Meets (Builtin.«int.__gt__» ⟨[.int i t, .ref l], []⟩) (fun _ R s => s.heap.get? l = some (PySem.W.instObj C dx) ∧ R (.ok (.ret .notImplemented)) s) :=
  .of_wp fun prog w A R s h => by obtain ⟨hp, g, d, tk, os⟩ := s; obtain ⟨hl, h⟩ := h; unfold PySem.W.instObj at hl; wp_walk using wpAny_loadPart' hl, wpAny_load hl; exact ⟨_, rfl, h⟩
theorem int_ge_no (i : Int) (t : Tok) (l C dx : Addr) :
    Meets (Builtin.«int.__ge__» ⟨[.int i t, .ref l], []⟩) (fun _ R s => s.heap.get? l = some (PySem.W.instObj C dx) ∧ R (.ok (.ret .notImplemented)) s) :=
  .of_wp fun prog w A R s h => by obtain ⟨hp, g, d, tk, os⟩ := s; obtain ⟨hl, h⟩ := h; unfold PySem.W.instObj at hl; wp_walk using wpAny_loadPart' hl, wpAny_load hl; exact ⟨_, rfl, h⟩
theorem int_add_no (i : Int) (t : Tok) (l C dx : Addr) :
    Meets (Builtin.«int.__add__» ⟨[.int i t, .ref l], []⟩) (fun _ R s => s.heap.get? l = some (PySem.W.instObj C dx) ∧ R (.ok (.ret .notImplemented)) s) :=
  .of_wp fun prog w A R s h => by obtain ⟨hp, g, d, tk, os⟩ := s; obtain ⟨hl, h⟩ := h; unfold PySem.W.instObj at hl; wp_walk using wpAny_loadPart' hl, wpAny_load hl; exact ⟨_, rfl, h⟩
theorem int_sub_no (i : Int) (t : Tok) (l C dx : Addr) :
    Meets (Builtin.«int.__sub__» ⟨[.int i t, .ref l], []⟩) (fun _ R s => s.heap.get? l = some (PySem.W.instObj C dx) ∧ R (.ok (.ret .notImplemented)) s) :=
  .of_wp fun prog w A R s h => by obtain ⟨hp, g, d, tk, os⟩ := s; obtain ⟨hl, h⟩ := h; unfold PySem.W.instObj at hl; wp_walk using wpAny_loadPart' hl, wpAny_load hl; exact ⟨_, rfl, h⟩
theorem int_mul_no (i : Int) (t : Tok) (l C dx : Addr) :
    Meets (Builtin.«int.__mul__» ⟨[.int i t, .ref l], []⟩) (fun _ R s => s.heap.get? l = some (PySem.W.instObj C dx) ∧ R (.ok (.ret .notImplemented)) s) :=
  .of_wp fun prog w A R s h => by obtain ⟨hp, g, d, tk, os⟩ := s; obtain ⟨hl, h⟩ := h; unfold PySem.W.instObj at hl; wp_walk using wpAny_loadPart' hl, wpAny_load hl; exact ⟨_, rfl, h⟩
theorem int_mod_no (i : Int) (t : Tok) (l C dx : Addr) :
    Meets (Builtin.«int.__mod__» ⟨[.int i t, .ref l], []⟩) (fun _ R s => s.heap.get? l = some (PySem.W.instObj C dx) ∧ R (.ok (.ret .notImplemented)) s) :=
  .of_wp fun prog w A R s h => by obtain ⟨hp, g, d, tk, os⟩ := s; obtain ⟨hl, h⟩ := h; unfold PySem.W.instObj at hl; wp_walk using wpAny_loadPart' hl, wpAny_load hl; exact ⟨_, rfl, h⟩
end
end MoW

namespace MoW
open PySem PySem.W PyProof.Rows
section
variable {prog : Program} {w : World} {A : Around} {E : Value → Shared → Prop} {s : Shared} {K : Frag} {x C L f : Addr} {h₀ : Heap} {m : Str → Option Value} {dx : Addr} {od : Option Obj} {i : Int} {t : Tok}

theorem looks_int {M : Model} {h : Heap} : Looks M h (typeOf (.int i t)) (.type "int") := Looks.of_pure rfl

/-- an int compared with an instance: int says it can't, the instance's own mirrored method answers -/
theorem cmp_int_own {op : CmpOp} {id : String} {Q : Value → Shared → Prop} (hu : A.units < cLine) (F : Fr h₀ L s.heap m) (X₀ : K.In h₀) (I : InstAt s.heap x (instObj C dx) C od)
    (hn : subIn K (.ref C) (.type "int") = some false) (h1 : Slot "int" (cmpInfo op).2.1 id)
    (hno : ∀ Q' : Value → Shared → Prop, Q' .notImplemented s → wpAny (model prog w) A (call (.builtin id) [.int i t, .ref x]) Q' E s)
    (hs : findIn K (.ref C) (cmpInfo op).2.2 = some (some (.ref f))) (hf : isFn K (.ref f) = true)
    (h : wpAny (model prog w) A (call (.ref f) [.ref x, .int i t]) (W.CmpBack Q) E s) : wpAny (model prog w) A (richCompare op (.int i t) (.ref x)) Q E s := by
  have X := X₀.keeps F.keep
  have one : wpAny (model prog w) A (tryCompare (.ref x) (cmpInfo op).2.2 (.int i t)) (fun r s' => ∃ v, r = some v ∧ Q v s') E s := by
    unfold tryCompare
    refine wpAny_bind (ifBound_K X I hs hf (wpAny_mono h (fun v s' hv => ?_) fun _ _ e => e))
    cases v <;> first | exact hv.elim | exact wpAny_pure ⟨_, rfl, hv⟩
  unfold richCompare
  simp only [(typeIs_int s i t).oneThing_none]
  refine wpAny_holding (wpAny_bind (wpAny_cRoomFor hu ?_))
  refine wpAny_bind (wpAny_typeOf (typeIs_int s i t) (wpAny_bind (I.type.here ?_)))
  have hne : (Value.type "int" != Value.ref C) = true := rfl
  simp only [hne, if_true]
  refine wpAny_bind ((looks_subIn X hn).here ?_)
  simp only [Bool.false_eq_true, if_false, Bool.not_false, if_true]
  refine wpAny_bind (m := tryCompare (.int i t) _ (.ref x)) (wpAny_tryCompare_declines (typeIs_int s i t) h1 (hno _ ⟨rfl, ?_⟩))
  refine wpAny_bind (m := tryCompare (.ref x) _ (.int i t)) (wpAny_mono one (fun r s' z => ?_) fun _ _ e => e)
  obtain ⟨v, rfl, hq⟩ := z
  exact wpAny_pure hq

theorem mro_first {cd : ClassData} (hc : selfFirst K C = true) : ∃ cd rest, clsIn K C = some cd ∧ cd.mro = .ref C :: rest := by
  obtain ⟨cd, hcd, hm⟩ := any_some hc
  refine ⟨cd, ?_⟩
  cases q : cd.mro with
  | nil => rw [q] at hm; cases hm
  | cons a r => rw [q] at hm; exact ⟨r, hcd, by rw [List.head?_cons] at hm; cases (beq_iff_eq.mp hm); rfl⟩

/-- an int beside an instance: int says it can't, the instance's own reflected method answers -/
theorem bin_int_own {op : Operator} {id : String} {g : Addr} {Q : Value → Shared → Prop} (F : Fr h₀ L s.heap m) (X₀ : K.In h₀) (I : InstAt s.heap x (instObj C dx) C od)
    (hc : selfFirst K C = true) (hn : subIn K (.ref C) (.type "int") = some false) (h1 : Slot "int" (PySem.dunder op.info.2) id) (hfi : fillsNumberSlot (.type "int") op.info.2 = pure true)
    (hno : ∀ Q' : Value → Shared → Prop, Q' .notImplemented s → wpAny (model prog w) A (call (.builtin id) [.int i t, .ref x]) Q' E s)
    (hd : findIn K (.ref C) (PySem.dunder op.info.2) = some (some (.ref g)))
    (hs : findIn K (.ref C) (dunderR op.info.2) = some (some (.ref f))) (hf : isFn K (.ref f) = true)
    (h : wpAny (model prog w) A (call (.ref f) [.ref x, .int i t]) (W.CmpBack Q) E s) : wpAny (model prog w) A (binaryOp op (.int i t) (.ref x)) Q E s := by
  have X := X₀.keeps F.keep
  obtain ⟨cd, rest, hcd, hm⟩ := mro_first (K := K) (C := C) (cd := default) hc
  unfold binaryOp
  refine wpAny_holding (wpAny_bind ?_)
  unfold binaryOp1
  refine wpAny_bind (wpAny_typeOf (typeIs_int s i t) (wpAny_bind (I.type.here (wpAny_bind (wpAny_of_eq hfi ?_)))))
  have hne : (Value.type "int" == Value.ref C) = false := rfl
  simp only [hne, Bool.false_eq_true, if_false]
  refine wpAny_bind ((fills_K X hcd hm hd).here ?_)
  simp only [Bool.and_self, if_true]
  refine wpAny_bind ((looks_subIn X hn).here ?_)
  have hpy : numberSlotInPython (.type "int") op.info.2 = pure false := rfl
  simp only [Bool.false_eq_true, if_false, pure_bind, Bool.not_false, Bool.and_self, if_true, hpy]
  refine wpAny_bind (m := tryMethod (.int i t) _ (.ref x)) (wpAny_tryMethod_declines (typeIs_int s i t) h1 (hno _ ⟨rfl, ?_⟩))
  refine wpAny_bind (m := tryMethod (.ref x) _ (.int i t)) ?_
  unfold tryMethod
  refine wpAny_bind (special_fn X I hs (beq_iff_eq.mp hf) (wpAny_mono h (fun v s' hv => ?_) fun _ _ e => e))
  cases v <;> first | exact hv.elim | exact wpAny_pure (wpAny_bind (wpAny_rule (wpAny_pure (wpAny_pure hv))))

/-- an instance beside an int: its own method answers -/
theorem bin_own_int {op : Operator} {id : String} {g : Addr} {Q : Value → Shared → Prop} (F : Fr h₀ L s.heap m) (X₀ : K.In h₀) (I : InstAt s.heap x (instObj C dx) C od)
    (hc : selfFirst K C = true) (hn : subIn K (.type "int") (.ref C) = some false) (h1 : Slot "int" (dunderR op.info.2) id) (hfi : fillsNumberSlot (.type "int") op.info.2 = pure true)
    (hs : findIn K (.ref C) (PySem.dunder op.info.2) = some (some (.ref f))) (hf : isFn K (.ref f) = true)
    (hd : findIn K (.ref C) (dunderR op.info.2) = some (some (.ref g)))
    (h : wpAny (model prog w) A (call (.ref f) [.ref x, .int i t]) (W.CmpBack Q) E s) : wpAny (model prog w) A (binaryOp op (.ref x) (.int i t)) Q E s := by
  have X := X₀.keeps F.keep
  obtain ⟨cd, rest, hcd, hm⟩ := mro_first (K := K) (C := C) (cd := default) hc
  unfold binaryOp
  refine wpAny_holding (wpAny_bind ?_)
  unfold binaryOp1
  refine wpAny_bind (I.type.here (wpAny_bind (wpAny_typeOf (typeIs_int s i t) (wpAny_bind ((fills_K X hcd hm hs).here ?_)))))
  have hne : (Value.ref C == Value.type "int") = false := rfl
  simp only [hne, Bool.false_eq_true, if_false]
  refine wpAny_bind (wpAny_of_eq hfi ?_)
  simp only [Bool.and_self, if_true]
  refine wpAny_bind ((looks_subIn X hn).here ?_)
  have hpy : Looks (model prog w) s.heap (numberSlotInPython (.ref C) op.info.2) true := by
    unfold numberSlotInPython
    refine (looks_findIn X hs).andThen ?_
    refine Looks.andThen (a := true) .now ?_
    refine (looks_findIn X hd).andThen ?_
    refine Looks.andThen (a := true) .now ?_
    exact .now
  have hpi : numberSlotInPython (.type "int") op.info.2 = pure false := rfl
  simp only [Bool.false_eq_true, if_false, pure_bind, Bool.not_false, Bool.and_self, if_true]
  refine wpAny_bind (hpy.here ?_)
  simp only [if_true]
  refine wpAny_bind (wpAny_of_eq hpi ?_)
  simp only [Bool.not_false, if_true]
  refine wpAny_bind (wpAny_of_eq h1.lookup ?_)
  refine wpAny_bind (m := tryMethod (.ref x) _ (.int i t)) ?_
  unfold tryMethod
  refine wpAny_bind (special_fn X I hs (beq_iff_eq.mp hf) (wpAny_mono h (fun v s' hv => ?_) fun _ _ e => e))
  cases v <;> first | exact hv.elim | exact wpAny_pure (wpAny_pure (wpAny_pure hv))
end
end MoW

namespace MoL
open PySem PySem.Spec PyProof.Rows L2 MoW

/-- an instance of the class at C -/
def Ins (H : Hp) (v : V) (C : Addr) : Prop := ∃ a dx fs, v = .ref a ∧ H a = some (.ins C dx fs)
/-- what the written part says of a class with operators -/
structure OwnC (K : PySem.W.Frag) (C : Addr) : Prop where
  first : PySem.W.selfFirst K C = true
  ci : PySem.W.subIn K (.ref C) (.type "int") = some false
  ic : PySem.W.subIn K (.type "int") (.ref C) = some false

section
variable {X : Cx} {pins : List (Addr × Obj)} {σ : L2.St} {H : Hp} {s : Shared}
theorem ep_back {Q : VK} {u : Value} {s' : Shared} (h : EP X pins σ Q u s') : PySem.W.CmpBack (EP X pins σ Q) u s' := by
  cases u with
  | notImplemented =>
    obtain ⟨v, H', I, r, q⟩ := h
    exfalso
    cases v <;> first | exact nomatch r | (obtain ⟨_, e⟩ := r; exact nomatch e)
  | _ => exact h
theorem ins_at {a C dx : Addr} {fs : List (Str × V)} (I : Inv X pins σ H s) (ha : H a = some (.ins C dx fs)) : ∃ od, PySem.W.InstAt s.heap a (PySem.W.instObj C dx) C od := by
  obtain ⟨mA, J, _⟩ := ins_get I.hok ha
  obtain ⟨od, J, _⟩ := J.look
  exact ⟨_, J⟩
theorem ins_obj {a C dx : Addr} {fs : List (Str × V)} (I : Inv X pins σ H s) (ha : H a = some (.ins C dx fs)) : s.heap.get? a = some (PySem.W.instObj C dx) := by
  obtain ⟨mA, J, _⟩ := ins_get I.hok ha
  exact J.obj
end

section
variable {X : Cx} {CX : CXT} {k : Nat} {C f g : Addr} {fd : FuncData} {ps : List Str} {sp : Sp} {E : XK}
/-- x op y, x an instance, y another one or an int: x's own method answers -/
def rOwn (C : Addr) (sp : Sp) (E : XK) : R2 := fun x y H Q => Ins H x C ∧ ((∃ i, y = .int i) ∨ Ins H y C) ∧ sp [x, y] H Q E
/-- i op y, y an instance: y's own mirrored method answers -/
def rOwnR (C : Addr) (sp : Sp) (E : XK) : R2 := fun x y H Q => (∃ i, x = .int i) ∧ Ins H y C ∧ sp [y, x] H Q E

theorem op_cmp_own {op : CmpOp} (hop : ∀ v u, compareOp op v u = richCompare op v u) (c : OwnC X.K C) (m : Meth X.K C (cmpInfo op).2.1 f) (F : FnOk X.prog X.w X.K X.mg X.base CX k f fd ps sp)
    (hr : Room k X.A) (hb : Binds X.K fd ps []) (hx : Passes CX X E) : OpR X (compareOp op) (rOwn C sp E) := by
  intro pins s σ H x y v u Q I rx ry h
  obtain ⟨⟨a, dx, fs, rfl, ha⟩, hy, hs⟩ := h
  cases (show v = Value.ref a from rx)
  obtain ⟨od, J⟩ := ins_at I ha
  obtain ⟨mm, hF⟩ := I.fr
  rw [hop]
  have hrun : wpAny (model X.prog X.w) X.A (call (.ref f) [.ref a, u]) (PySem.W.CmpBack (EP X pins σ Q)) X.xe s :=
    thn (run_fn (us := [.ref a, u]) (vs := [.ref a, y]) F hr hb .nil hx I (.cons rfl (.cons ry .nil)) hs) fun v s' q => ep_back q
  rcases hy with ⟨i, rfl⟩ | ⟨b, dy, gs, rfl, hb'⟩
  · obtain ⟨t, rfl⟩ := (show ∃ t, u = Value.int i t from ry)
    exact PySem.W.cmp_K (op := op) (tb := .type "int") hr.units0 hF I.ok.mod.kin J looks_int (by unfold PySem.W.notFirst; rw [c.ic]; rfl) m.at_ m.fn hrun
  · cases (show u = Value.ref b from ry)
    obtain ⟨od', J'⟩ := ins_at I hb'
    exact PySem.W.cmp_K (op := op) (tb := .ref C) hr.units0 hF I.ok.mod.kin J J'.type (by simp [PySem.W.notFirst]) m.at_ m.fn hrun

theorem op_cmp_int {op : CmpOp} {id : String} (hop : ∀ v u, compareOp op v u = richCompare op v u) (h1 : Slot "int" (cmpInfo op).2.1 id)
    (hno : ∀ (s : Shared) (i : Int) (t : Tok) (b dy : Addr) (Q' E' : Value → Shared → Prop), s.heap.get? b = some (PySem.W.instObj C dy) → Q' .notImplemented s → wpAny (model X.prog X.w) X.A (call (.builtin id) [.int i t, .ref b]) Q' E' s)
    (c : OwnC X.K C) (m : Meth X.K C (cmpInfo op).2.2 f) (F : FnOk X.prog X.w X.K X.mg X.base CX k f fd ps sp)
    (hr : Room k X.A) (hb : Binds X.K fd ps []) (hx : Passes CX X E) : OpR X (compareOp op) (rOwnR C sp E) := by
  intro pins s σ H x y v u Q I rx ry h
  obtain ⟨⟨i, rfl⟩, ⟨b, dy, gs, rfl, hb'⟩, hs⟩ := h
  obtain ⟨t, rfl⟩ := (show ∃ t, v = Value.int i t from rx)
  cases (show u = Value.ref b from ry)
  obtain ⟨od, J⟩ := ins_at I hb'
  obtain ⟨mm, hF⟩ := I.fr
  rw [hop]
  exact cmp_int_own (op := op) hr.units0 hF I.ok.mod.kin J c.ci h1 (fun Q' q => hno s i t b dy Q' _ (ins_obj I hb') q) m.at_ m.fn
    (thn (run_fn (us := [.ref b, .int i t]) (vs := [.ref b, .int i]) F hr hb .nil hx I (.cons rfl (.cons ⟨t, rfl⟩ .nil)) hs) fun v s' q => ep_back q)

theorem op_bin_own {op : Operator} {id : String} (h1 : Slot "int" (dunderR op.info.2) id) (hfi : fillsNumberSlot (.type "int") op.info.2 = pure true) (c : OwnC X.K C)
    (m : Meth X.K C (PySem.dunder op.info.2) f) (mr : Meth X.K C (dunderR op.info.2) g) (F : FnOk X.prog X.w X.K X.mg X.base CX k f fd ps sp)
    (hr : Room k X.A) (hb : Binds X.K fd ps []) (hx : Passes CX X E) : OpR X (binaryOp op) (rOwn C sp E) := by
  intro pins s σ H x y v u Q I rx ry h
  obtain ⟨⟨a, dx, fs, rfl, ha⟩, hy, hs⟩ := h
  cases (show v = Value.ref a from rx)
  obtain ⟨od, J⟩ := ins_at I ha
  obtain ⟨mm, hF⟩ := I.fr
  have hrun : wpAny (model X.prog X.w) X.A (call (.ref f) [.ref a, u]) (PySem.W.CmpBack (EP X pins σ Q)) X.xe s :=
    thn (run_fn (us := [.ref a, u]) (vs := [.ref a, y]) F hr hb .nil hx I (.cons rfl (.cons ry .nil)) hs) fun v s' q => ep_back q
  rcases hy with ⟨i, rfl⟩ | ⟨b, dy, gs, rfl, hb'⟩
  · obtain ⟨t, rfl⟩ := (show ∃ t, u = Value.int i t from ry)
    exact bin_own_int (op := op) hF I.ok.mod.kin J c.first c.ic h1 hfi m.at_ m.fn mr.at_ hrun
  · cases (show u = Value.ref b from ry)
    obtain ⟨od', J'⟩ := ins_at I hb'
    exact PySem.W.binop_K (op := op) hF I.ok.mod.kin J J'.type c.first m.at_ m.fn hrun

theorem op_bin_int {op : Operator} {id : String} (h1 : Slot "int" (PySem.dunder op.info.2) id) (hfi : fillsNumberSlot (.type "int") op.info.2 = pure true)
    (hno : ∀ (s : Shared) (i : Int) (t : Tok) (b dy : Addr) (Q' E' : Value → Shared → Prop), s.heap.get? b = some (PySem.W.instObj C dy) → Q' .notImplemented s → wpAny (model X.prog X.w) X.A (call (.builtin id) [.int i t, .ref b]) Q' E' s)
    (c : OwnC X.K C) (m : Meth X.K C (dunderR op.info.2) f) (ml : Meth X.K C (PySem.dunder op.info.2) g) (F : FnOk X.prog X.w X.K X.mg X.base CX k f fd ps sp)
    (hr : Room k X.A) (hb : Binds X.K fd ps []) (hx : Passes CX X E) : OpR X (binaryOp op) (rOwnR C sp E) := by
  intro pins s σ H x y v u Q I rx ry h
  obtain ⟨⟨i, rfl⟩, ⟨b, dy, gs, rfl, hb'⟩, hs⟩ := h
  obtain ⟨t, rfl⟩ := (show ∃ t, v = Value.int i t from rx)
  cases (show u = Value.ref b from ry)
  obtain ⟨od, J⟩ := ins_at I hb'
  obtain ⟨mm, hF⟩ := I.fr
  exact bin_int_own (op := op) hF I.ok.mod.kin J c.first c.ci h1 hfi (fun Q' q => hno s i t b dy Q' _ (ins_obj I hb') q) ml.at_ m.at_ m.fn
    (thn (run_fn (us := [.ref b, .int i t]) (vs := [.ref b, .int i]) F hr hb .nil hx I (.cons rfl (.cons ⟨t, rfl⟩ .nil)) hs) fun v s' q => ep_back q)

theorem op_eq_own (c : OwnC X.K C) (m : Meth X.K C "__eq__" f) (F : FnOk X.prog X.w X.K X.mg X.base CX k f fd ps sp)
    (hr : Room k X.A) (hb : Binds X.K fd ps []) (hx : Passes CX X E) : OpR X (compareOp .Eq) (rOwn C sp E) := op_cmp_own (op := .Eq) (fun _ _ => rfl) c m F hr hb hx
theorem op_eq_int (c : OwnC X.K C) (m : Meth X.K C "__eq__" f) (F : FnOk X.prog X.w X.K X.mg X.base CX k f fd ps sp)
    (hr : Room k X.A) (hb : Binds X.K fd ps []) (hx : Passes CX X E) : OpR X (compareOp .Eq) (rOwnR C sp E) := op_cmp_int (op := .Eq) (fun _ _ => rfl) PySem.F.slot_int_eq
  (fun s i t b dy Q' E' hb' q => call_meets PySem.F.slot_int_eq (typeIs_int s i t) PySem.F.entry_int_eq (PySem.F.args_int_eq_2 _ _) (int_eq_no i t b C dy) ⟨hb', q⟩) c m F hr hb hx

theorem op_ne_own (c : OwnC X.K C) (m : Meth X.K C "__ne__" f) (F : FnOk X.prog X.w X.K X.mg X.base CX k f fd ps sp)
    (hr : Room k X.A) (hb : Binds X.K fd ps []) (hx : Passes CX X E) : OpR X (compareOp .NotEq) (rOwn C sp E) := op_cmp_own (op := .NotEq) (fun _ _ => rfl) c m F hr hb hx
theorem op_ne_int (c : OwnC X.K C) (m : Meth X.K C "__ne__" f) (F : FnOk X.prog X.w X.K X.mg X.base CX k f fd ps sp)
    (hr : Room k X.A) (hb : Binds X.K fd ps []) (hx : Passes CX X E) : OpR X (compareOp .NotEq) (rOwnR C sp E) := op_cmp_int (op := .NotEq) (fun _ _ => rfl) PySem.F.slot_int_ne
  (fun s i t b dy Q' E' hb' q => call_meets PySem.F.slot_int_ne (typeIs_int s i t) PySem.F.entry_int_ne (PySem.F.args_int_ne_2 _ _) (int_ne_no i t b C dy) ⟨hb', q⟩) c m F hr hb hx

theorem op_lt_own (c : OwnC X.K C) (m : Meth X.K C "__lt__" f) (F : FnOk X.prog X.w X.K X.mg X.base CX k f fd ps sp)
    (hr : Room k X.A) (hb : Binds X.K fd ps []) (hx : Passes CX X E) : OpR X (compareOp .Lt) (rOwn C sp E) := op_cmp_own (op := .Lt) (fun _ _ => rfl) c m F hr hb hx
theorem op_lt_int (c : OwnC X.K C) (m : Meth X.K C "__gt__" f) (F : FnOk X.prog X.w X.K X.mg X.base CX k f fd ps sp)
    (hr : Room k X.A) (hb : Binds X.K fd ps []) (hx : Passes CX X E) : OpR X (compareOp .Lt) (rOwnR C sp E) := op_cmp_int (op := .Lt) (fun _ _ => rfl) PySem.F.slot_int_lt
  (fun s i t b dy Q' E' hb' q => call_meets PySem.F.slot_int_lt (typeIs_int s i t) PySem.F.entry_int_lt (PySem.F.args_int_lt_2 _ _) (int_lt_no i t b C dy) ⟨hb', q⟩) c m F hr hb hx

theorem op_le_own (c : OwnC X.K C) (m : Meth X.K C "__le__" f) (F : FnOk X.prog X.w X.K X.mg X.base CX k f fd ps sp)
    (hr : Room k X.A) (hb : Binds X.K fd ps []) (hx : Passes CX X E) : OpR X (compareOp .LtE) (rOwn C sp E) := op_cmp_own (op := .LtE) (fun _ _ => rfl) c m F hr hb hx
theorem op_le_int (c : OwnC X.K C) (m : Meth X.K C "__ge__" f) (F : FnOk X.prog X.w X.K X.mg X.base CX k f fd ps sp)
    (hr : Room k X.A) (hb : Binds X.K fd ps []) (hx : Passes CX X E) : OpR X (compareOp .LtE) (rOwnR C sp E) := op_cmp_int (op := .LtE) (fun _ _ => rfl) PySem.F.slot_int_le
  (fun s i t b dy Q' E' hb' q => call_meets PySem.F.slot_int_le (typeIs_int s i t) PySem.F.entry_int_le (PySem.F.args_int_le_2 _ _) (int_le_no i t b C dy) ⟨hb', q⟩) c m F hr hb hx

theorem op_gt_own (c : OwnC X.K C) (m : Meth X.K C "__gt__" f) (F : FnOk X.prog X.w X.K X.mg X.base CX k f fd ps sp)
    (hr : Room k X.A) (hb : Binds X.K fd ps []) (hx : Passes CX X E) : OpR X (compareOp .Gt) (rOwn C sp E) := op_cmp_own (op := .Gt) (fun _ _ => rfl) c m F hr hb hx
theorem op_gt_int (c : OwnC X.K C) (m : Meth X.K C "__lt__" f) (F : FnOk X.prog X.w X.K X.mg X.base CX k f fd ps sp)
    (hr : Room k X.A) (hb : Binds X.K fd ps []) (hx : Passes CX X E) : OpR X (compareOp .Gt) (rOwnR C sp E) := op_cmp_int (op := .Gt) (fun _ _ => rfl) PySem.F.slot_int_gt
  (fun s i t b dy Q' E' hb' q => call_meets PySem.F.slot_int_gt (typeIs_int s i t) PySem.F.entry_int_gt (PySem.F.args_int_gt_2 _ _) (int_gt_no i t b C dy) ⟨hb', q⟩) c m F hr hb hx

theorem op_ge_own (c : OwnC X.K C) (m : Meth X.K C "__ge__" f) (F : FnOk X.prog X.w X.K X.mg X.base CX k f fd ps sp)
    (hr : Room k X.A) (hb : Binds X.K fd ps []) (hx : Passes CX X E) : OpR X (compareOp .GtE) (rOwn C sp E) := op_cmp_own (op := .GtE) (fun _ _ => rfl) c m F hr hb hx
theorem op_ge_int (c : OwnC X.K C) (m : Meth X.K C "__le__" f) (F : FnOk X.prog X.w X.K X.mg X.base CX k f fd ps sp)
    (hr : Room k X.A) (hb : Binds X.K fd ps []) (hx : Passes CX X E) : OpR X (compareOp .GtE) (rOwnR C sp E) := op_cmp_int (op := .GtE) (fun _ _ => rfl) PySem.F.slot_int_ge
  (fun s i t b dy Q' E' hb' q => call_meets PySem.F.slot_int_ge (typeIs_int s i t) PySem.F.entry_int_ge (PySem.F.args_int_ge_2 _ _) (int_ge_no i t b C dy) ⟨hb', q⟩) c m F hr hb hx

theorem op_add_own (c : OwnC X.K C) (m : Meth X.K C "__add__" f) (mr : Meth X.K C "__radd__" g) (F : FnOk X.prog X.w X.K X.mg X.base CX k f fd ps sp)
    (hr : Room k X.A) (hb : Binds X.K fd ps []) (hx : Passes CX X E) : OpR X (binaryOp .Add) (rOwn C sp E) := op_bin_own (op := .Add) PySem.F.slot_int_radd PySem.F.fills_int_add c m mr F hr hb hx
theorem op_add_int (c : OwnC X.K C) (m : Meth X.K C "__radd__" f) (ml : Meth X.K C "__add__" g) (F : FnOk X.prog X.w X.K X.mg X.base CX k f fd ps sp)
    (hr : Room k X.A) (hb : Binds X.K fd ps []) (hx : Passes CX X E) : OpR X (binaryOp .Add) (rOwnR C sp E) := op_bin_int (op := .Add) PySem.F.slot_int_add PySem.F.fills_int_add
  (fun s i t b dy Q' E' hb' q => call_meets PySem.F.slot_int_add (typeIs_int s i t) PySem.F.entry_int_add (PySem.F.args_int_add_2 _ _) (int_add_no i t b C dy) ⟨hb', q⟩) c m ml F hr hb hx

theorem op_sub_own (c : OwnC X.K C) (m : Meth X.K C "__sub__" f) (mr : Meth X.K C "__rsub__" g) (F : FnOk X.prog X.w X.K X.mg X.base CX k f fd ps sp)
    (hr : Room k X.A) (hb : Binds X.K fd ps []) (hx : Passes CX X E) : OpR X (binaryOp .Sub) (rOwn C sp E) := op_bin_own (op := .Sub) PySem.F.slot_int_rsub PySem.F.fills_int_sub c m mr F hr hb hx
theorem op_sub_int (c : OwnC X.K C) (m : Meth X.K C "__rsub__" f) (ml : Meth X.K C "__sub__" g) (F : FnOk X.prog X.w X.K X.mg X.base CX k f fd ps sp)
    (hr : Room k X.A) (hb : Binds X.K fd ps []) (hx : Passes CX X E) : OpR X (binaryOp .Sub) (rOwnR C sp E) := op_bin_int (op := .Sub) PySem.F.slot_int_sub PySem.F.fills_int_sub
  (fun s i t b dy Q' E' hb' q => call_meets PySem.F.slot_int_sub (typeIs_int s i t) PySem.F.entry_int_sub (PySem.F.args_int_sub_2 _ _) (int_sub_no i t b C dy) ⟨hb', q⟩) c m ml F hr hb hx

theorem op_mul_own (c : OwnC X.K C) (m : Meth X.K C "__mul__" f) (mr : Meth X.K C "__rmul__" g) (F : FnOk X.prog X.w X.K X.mg X.base CX k f fd ps sp)
    (hr : Room k X.A) (hb : Binds X.K fd ps []) (hx : Passes CX X E) : OpR X (binaryOp .Mult) (rOwn C sp E) := op_bin_own (op := .Mult) PySem.F.slot_int_rmul PySem.F.fills_int_mul c m mr F hr hb hx
theorem op_mul_int (c : OwnC X.K C) (m : Meth X.K C "__rmul__" f) (ml : Meth X.K C "__mul__" g) (F : FnOk X.prog X.w X.K X.mg X.base CX k f fd ps sp)
    (hr : Room k X.A) (hb : Binds X.K fd ps []) (hx : Passes CX X E) : OpR X (binaryOp .Mult) (rOwnR C sp E) := op_bin_int (op := .Mult) PySem.F.slot_int_mul PySem.F.fills_int_mul
  (fun s i t b dy Q' E' hb' q => call_meets PySem.F.slot_int_mul (typeIs_int s i t) PySem.F.entry_int_mul (PySem.F.args_int_mul_2 _ _) (int_mul_no i t b C dy) ⟨hb', q⟩) c m ml F hr hb hx

theorem op_mod_own (c : OwnC X.K C) (m : Meth X.K C "__mod__" f) (mr : Meth X.K C "__rmod__" g) (F : FnOk X.prog X.w X.K X.mg X.base CX k f fd ps sp)
    (hr : Room k X.A) (hb : Binds X.K fd ps []) (hx : Passes CX X E) : OpR X (binaryOp .Mod) (rOwn C sp E) := op_bin_own (op := .Mod) PySem.F.slot_int_rmod PySem.F.fills_int_mod c m mr F hr hb hx
theorem op_mod_int (c : OwnC X.K C) (m : Meth X.K C "__rmod__" f) (ml : Meth X.K C "__mod__" g) (F : FnOk X.prog X.w X.K X.mg X.base CX k f fd ps sp)
    (hr : Room k X.A) (hb : Binds X.K fd ps []) (hx : Passes CX X E) : OpR X (binaryOp .Mod) (rOwnR C sp E) := op_bin_int (op := .Mod) PySem.F.slot_int_mod PySem.F.fills_int_mod
  (fun s i t b dy Q' E' hb' q => call_meets PySem.F.slot_int_mod (typeIs_int s i t) PySem.F.entry_int_mod (PySem.F.args_int_mod_2 _ _) (int_mod_no i t b C dy) ⟨hb', q⟩) c m ml F hr hb hx
end
end MoL

/-! # Helpers: items of lists read by place, // by any number that is not 0, sizes, lowest terms -/
namespace MoL
open PySem PySem.Spec PyProof.Rows L2 MoW

section
variable {X : Cx}
def rGetL (K : PySem.W.Frag) : V → V → Hp → VK → Prop := fun x y H Q => ∃ p xs j v, x = .ref p ∧ y = .int ((j : Nat) : Int) ∧ SqL K H p xs ∧ xs[j]? = some v ∧ Q v H
theorem get_list : PGet X (rGetL X.K) := by
  intro pins s σ H x y v u Q I rx ry h
  obtain ⟨p, xs, j, z, rfl, rfl, hq, he, q⟩ := h
  cases rx
  obtain ⟨t, rfl⟩ := ry
  obtain ⟨its, r, pl, hz⟩ := I.list hq
  obtain ⟨w, ew, rw'⟩ := r.get he
  have hj : j < xs.length := (List.getElem?_eq_some_iff.mp he).1
  have hn := line63
  exact wpAny_getItem_list pl.isList (by omega) (by omega) (by simpa using ew) ⟨z, H, I, rw', q⟩
/-- // by any number but 0, below 2 ^ 9000 in size -/
def CDivA (_ j : Int) : Prop := j ≠ 0 ∧ j.natAbs.log2 < 9000
theorem op_fdivA : OpR X (binaryOp .FloorDiv) (rI CDivA fun i j => .int (i.fdiv j)) := opI fun i j _ _ _ _ _ hc q => floordiv_int hc.1 q (.inl (PyProof.noPylong_of_log2 hc.2))
end

/-! ### sizes -/
/-- below 2 ^ 4000 in size -/
def Sm (i : Int) : Prop := i.natAbs < 2 ^ 4000
theorem Sm.mul {i j : Int} (a : Sm i) (b : Sm j) : CMulW i j := wide_mul a b (by decide) (by decide) (by decide)
theorem Sm.mulr {i j : Int} (a : Sm i) (b : j.natAbs < 2 ^ 9000) : CMulW i j := wide_mul a b (by decide) (by decide) (by decide)
theorem Sm.div {i j : Int} (h : j ≠ 0) (a : Sm j) : CDivA i j := ⟨h, Nat.lt_of_lt_of_le (PySem.Flt.log2_lt_of (by decide) a) (by decide)⟩
theorem Sm.le {i j : Int} (a : Sm j) (h : i.natAbs ≤ j.natAbs) : Sm i := Nat.lt_of_le_of_lt h a
theorem pow_big {k : Nat} (h : k ≤ 4000) : 2 ^ k ≤ 2 ^ 4000 := Nat.pow_le_pow_right (by decide) h
theorem Sm.of {i : Int} {k : Nat} (h : i.natAbs < 2 ^ k) (hk : k ≤ 4000) : Sm i := Nat.lt_of_lt_of_le h (pow_big hk)

theorem Sm.ab {i : Int} (h1 : -(2 ^ 200) < i) (h2 : i < 2 ^ 200) : Sm i := Sm.of (k := 200) (by omega) (by decide)
theorem iteFe {c : Bool} {A B : Prop} (hc : c = false) (h : B) : if c = true then A else B := by rw [hc]; exact iteF h
theorem iteTe {c : Bool} {A B : Prop} (hc : c = true) (h : A) : if c = true then A else B := by rw [hc]; exact iteT h

/-! ### lowest terms -/
/-- t' / b' is t / b in lowest terms, the bottom above 0 -/
structure Norm (t b t' b' : Int) : Prop where
  ex : ∃ g : Int, t = g * t' ∧ b = g * b' ∧ g ≠ 0
  pos : 0 < b'
  cop : Nat.gcd t'.natAbs b'.natAbs = 1
theorem Norm.cross {t b t' b' : Int} (n : Norm t b t' b') : t' * b = t * b' := by
  obtain ⟨g, h1, h2, _⟩ := n.ex
  rw [h1, h2, Int.mul_comm g t', Int.mul_assoc]
theorem natAbs_le_mul {g x : Int} (h : g ≠ 0) : x.natAbs ≤ (g * x).natAbs := by
  rw [Int.natAbs_mul]
  exact Nat.le_mul_of_pos_left _ (Int.natAbs_pos.mpr h)
theorem Norm.le1 {t b t' b' : Int} (n : Norm t b t' b') : t'.natAbs ≤ t.natAbs := by
  obtain ⟨g, h1, h2, h⟩ := n.ex
  rw [h1]; exact natAbs_le_mul h
theorem Norm.le2 {t b t' b' : Int} (n : Norm t b t' b') : b'.natAbs ≤ b.natAbs := by
  obtain ⟨g, h1, h2, h⟩ := n.ex
  rw [h2]; exact natAbs_le_mul h
/-- what the making computes: g the signed common divisor -/
theorem fdiv_exact {g x y : Int} (h : g ≠ 0) (e : x = g * y) : x.fdiv g = y := by
  rw [e]
  exact Int.mul_fdiv_cancel_left y h
theorem Norm.make {t b : Int} (hb : b ≠ 0) : ∀ g : Int, g = (if b < 0 then -((Nat.gcd t.natAbs b.natAbs : Nat) : Int) else ((Nat.gcd t.natAbs b.natAbs : Nat) : Int)) →
    g ≠ 0 ∧ g.natAbs ≤ b.natAbs ∧ Norm t b (t.fdiv g) (b.fdiv g) := by
  intro g hg
  have hpos : 0 < Nat.gcd t.natAbs b.natAbs := Nat.gcd_pos_of_pos_right _ (Int.natAbs_pos.mpr hb)
  have hle : Nat.gcd t.natAbs b.natAbs ≤ b.natAbs := Nat.gcd_le_right _ (Int.natAbs_pos.mpr hb)
  generalize hd : Nat.gcd t.natAbs b.natAbs = d at hpos hle hg
  have gabs : g.natAbs = d := by
    rw [hg]; split <;> simp
  have g0 : g ≠ 0 := by
    intro z; rw [z] at gabs; simp at gabs; omega
  have d1 : d ∣ t.natAbs := hd ▸ Nat.gcd_dvd_left _ _
  have d2 : d ∣ b.natAbs := hd ▸ Nat.gcd_dvd_right _ _
  have e1 : g ∣ t := Int.natAbs_dvd_natAbs.mp (by rw [gabs]; exact d1)
  have e2 : g ∣ b := Int.natAbs_dvd_natAbs.mp (by rw [gabs]; exact d2)
  obtain ⟨t', ht⟩ := e1
  obtain ⟨b', hb'⟩ := e2
  refine ⟨g0, by rw [gabs]; exact hle, ?_⟩
  rw [fdiv_exact g0 ht, fdiv_exact g0 hb']
  refine ⟨⟨g, ht, hb', g0⟩, ?_, ?_⟩
  · by_cases hneg : b < 0
    · rw [if_pos hneg] at hg
      have gn : g < 0 := by omega
      rw [hb', Int.mul_comm] at hneg
      exact Int.pos_of_mul_neg_left hneg gn
    · rw [if_neg hneg] at hg
      have gp : 0 < g := by omega
      have bp : 0 < g * b' := by rw [← hb']; omega
      exact Int.pos_of_mul_pos_right bp (by omega)
  · have x1 : t.natAbs = d * t'.natAbs := by rw [ht, Int.natAbs_mul, gabs]
    have x2 : b.natAbs = d * b'.natAbs := by rw [hb', Int.natAbs_mul, gabs]
    rw [x1, x2, Nat.gcd_mul_left] at hd
    have : d * Nat.gcd t'.natAbs b'.natAbs = d * 1 := by rw [hd, Nat.mul_one]
    exact Nat.eq_of_mul_eq_mul_left hpos this
end MoL

namespace MoL
open PySem PySem.Spec PyProof.Rows L2 MoW
/-- what the written part says of a class of plain instances with operators and the fields top, bottom -/
structure OwnK (K : PySem.W.Frag) (C : Addr) : Prop where
  cl : Cls K C
  ow : OwnC K C
  ha : PySem.W.findIn K (.ref C) "__class__" = some (some (.builtin "object.__class__"))
  hn : PySem.W.specialIn K (.builtin "object.__class__") "__get__" = some (some (.builtin "getset_descriptor.__get__"))
  htk : PySem.W.takesIn K (.builtin "object.__class__") = some true
  hm : PySem.W.mroIn K C (.type "object") = some true
  ki : PySem.W.kitOne K (.ref C) (.type "int") = some false
  ik : PySem.W.kitOne K (.type "int") (.ref C) = some false
  n_top : NoAttr K C "top"
  n_bottom : NoAttr K C "bottom"
theorem kit_self {K : PySem.W.Frag} {C : Addr} : PySem.W.kitOne K (.ref C) (.ref C) = some true := by
  unfold PySem.W.kitOne
  rw [if_pos (by simp)]
theorem OwnK.ty {K : PySem.W.Frag} {C : Addr} {H : Hp} {a dx : Addr} {fs : List (Str × V)} (k : OwnK K C) (h : H a = some (.ins C dx fs)) : TyX K H (.ref a) (.ref C) :=
  .base (.ins h k.cl k.ha k.hn k.htk k.hm)

/-- a Ratio: an instance of the class at C with these two numbers -/
def RatAt (C : Addr) (H : Hp) (v : V) (t b : Int) : Prop := ∃ a dx, v = .ref a ∧ H a = some (.ins C dx [("top", .int t), ("bottom", .int b)])
theorem RatAt.ins {C : Addr} {H : Hp} {v : V} {t b : Int} (r : RatAt C H v t b) : Ins H v C := by
  obtain ⟨a, dx, e, h⟩ := r
  exact ⟨a, dx, _, e, h⟩
theorem RatAt.same {C : Addr} {H H' : Hp} {v : V} {t b : Int} (r : RatAt C H v t b) (s : Same H H') : RatAt C H' v t b := by
  obtain ⟨a, dx, e, h⟩ := r
  exact ⟨a, dx, e, s _ _ h⟩
theorem Ins.same {C : Addr} {H H' : Hp} {v : V} (r : Ins H v C) (s : Same H H') : Ins H' v C := by
  obtain ⟨a, dx, fs, e, h⟩ := r
  exact ⟨a, dx, fs, e, s _ _ h⟩
theorem same_upd {H : Hp} {p : Addr} {o : HO} (h : H p = none) : Same H (upd H p o) := fun b x e => by
  rw [upd_ne (ne_of_none e h)]
  exact e
theorem same_upd' {H H1 : Hp} {p : Addr} {o : HO} (s : Same H H1) (h : H p = none) : Same H (upd H1 p o) := fun b x e => by
  rw [upd_ne (ne_of_none e h)]
  exact s _ _ e
end MoL

/-! # Signs before an instance, abs of one; lowest terms are one -/
namespace MoL
open PySem PySem.Spec PyProof.Rows L2 MoW
section
variable {X : Cx} {CX : CXT} {k : Nat} {C f g : Addr} {fd : FuncData} {ps : List Str} {sp : Sp} {E : XK}
/-- -x of an instance with its own __neg__ -/
def rOwn1 (C : Addr) (sp : Sp) (E : XK) : V → Hp → VK → Prop := fun x H Q => Ins H x C ∧ sp [x] H Q E
theorem un_neg_own (m : Meth X.K C "__neg__" f) (F : FnOk X.prog X.w X.K X.mg X.base CX k f fd ps sp)
    (hr : Room k X.A) (hb : Binds X.K fd ps []) (hx : Passes CX X E) : UnR X (unaryOp .USub) (rOwn1 C sp E) := by
  intro pins s σ H x v Q I rx h
  obtain ⟨⟨a, dx, fs, rfl, ha⟩, hs⟩ := h
  cases (show v = Value.ref a from rx)
  obtain ⟨od, J⟩ := ins_at I ha
  have hrun : wpAny (model X.prog X.w) X.A (call (.ref f) [.ref a]) (EP X pins σ Q) X.xe s :=
    run_fn (us := [.ref a]) (vs := [.ref a]) F hr hb .nil hx I (.cons rfl .nil) hs
  unfold unaryOp
  refine wpAny_holding ?_
  have e : (UnaryOp.USub == UnaryOp.Not) = false := rfl
  simp only [e, Bool.false_eq_true, if_false]
  exact wpAny_bind (PySem.W.special_fn I.kIn J m.at_ (beq_iff_eq.mp m.fn) (wpAny_mono hrun (fun v s' q => wpAny_pure q) fun _ _ e => e))
theorem UnR.or {f : Value → Sem Value} {r r' : V → Hp → VK → Prop} (h : UnR X f r) (h' : UnR X f r') : UnR X f (fun x H Q => r x H Q ∨ r' x H Q) := by
  intro pins s σ H x v Q I rx q
  rcases q with q | q
  · exact h pins s σ H x v Q I rx q
  · exact h' pins s σ H x v Q I rx q
/-- the callee runs within a built-in -/
theorem run_fn1 {pins : List (Addr × Obj)} {σ : L2.St} {H : Hp} {s : Shared} {Q : VK} {us : List Value} {vs : List V} (F : FnOk X.prog X.w X.K X.mg X.base CX k f fd ps sp) (hr : Room (k + 1) X.A) (hb : Binds X.K fd ps []) (hx : Passes CX X E)
    (I : Inv X pins σ H s) (r : Vals vs us) (h : sp vs H Q E) : wpAny (model X.prog X.w) X.A.in1 (call (.ref f) us) (EP X pins σ Q) X.xe s := by
  have hl : us.length = ps.length := by rw [← r.length]; exact F.len _ _ _ _ h
  have hb' : BindsTo s fd ⟨us, []⟩ (ps.zip us) := by
    have := hb s us I.kIn (by simpa using hl)
    simpa using this
  refine wpAny_call (codeAny_mono (F.run X.A.in1 X.stack s H ⟨us, []⟩ us vs Q E hr.in1 I.env0.in1 hb' r h) fun r s' hq => ?_)
  cases r with
  | error e => exact hx pins σ H s e s' I hq
  | ok fl =>
    cases fl with
    | ret u => exact I.after hq
    | next => exact False.elim hq
    | brk => exact False.elim hq
    | cont => exact False.elim hq
theorem call_abs_own (m : Meth X.K C "__abs__" f) (F : FnOk X.prog X.w X.K X.mg X.base CX k f fd ps sp)
    (hr : Room (k + 1) X.A) (hb : Binds X.K fd ps []) (hx : Passes CX X E) : CallR X (.builtin "abs") (fun xs H Q => ∃ x, xs = [x] ∧ rOwn1 C sp E x H Q) := by
  intro pins s σ H xs us Q I r h
  obtain ⟨x, rfl, ⟨a, dx, fs, rfl, ha⟩, hs⟩ := h
  obtain ⟨u, rfl, ru⟩ := vals1 r
  cases (show u = Value.ref a from ru)
  obtain ⟨od, J⟩ := ins_at I ha
  have hrun := run_fn1 (us := [.ref a]) (vs := [.ref a]) F hr hb hx I (.cons rfl .nil) hs
  refine Calls.call_function_entry kind_abs plain_abs entry_abs (args_abs _) ?_
  unfold Builtin.«abs»
  refine wpAny_bind (m := oneArg "abs" _) (wpAny_pure ?_)
  refine wpAny_bind (m := callSpecial? (.ref a) (Str.ofString "__abs__")) ?_
  exact PySem.W.special_fn I.kIn J m.at_ (beq_iff_eq.mp m.fn) (wpAny_mono hrun (fun v s' q => wpAny_pure ⟨_, rfl, q⟩) fun _ _ e => e)
end
/-! ### lowest terms are one -/
theorem Norm.bne {t b t' b' : Int} (n : Norm t b t' b') : b ≠ 0 := by
  obtain ⟨g, _, h2, h⟩ := n.ex
  rw [h2]
  intro z
  rcases Int.mul_eq_zero.mp z with e | e
  · exact h e
  · have := n.pos; omega
theorem cop_one {t b u c : Int} (hb : 0 < b) (hc : 0 < c) (h1 : Nat.gcd t.natAbs b.natAbs = 1) (h2 : Nat.gcd u.natAbs c.natAbs = 1) (e : t * c = u * b) : t = u ∧ b = c := by
  have en : t.natAbs * c.natAbs = u.natAbs * b.natAbs := by rw [← Int.natAbs_mul, ← Int.natAbs_mul, e]
  have d1 : b.natAbs ∣ c.natAbs := by
    have h : b.natAbs ∣ t.natAbs * c.natAbs := ⟨u.natAbs, by rw [en, Nat.mul_comm]⟩
    exact Nat.Coprime.dvd_of_dvd_mul_left (Nat.Coprime.symm h1) h
  have d2 : c.natAbs ∣ b.natAbs := by
    have h : c.natAbs ∣ u.natAbs * b.natAbs := ⟨t.natAbs, by rw [← en, Nat.mul_comm]⟩
    exact Nat.Coprime.dvd_of_dvd_mul_left (Nat.Coprime.symm h2) h
  have ebc : b = c := by
    have := Nat.dvd_antisymm d1 d2
    omega
  subst ebc
  refine ⟨?_, rfl⟩
  exact Int.eq_of_mul_eq_mul_right (by omega) e
/-- two ways to one value: the same lowest terms -/
theorem Norm.uniq {p q t b p' q' t' b' : Int} (n : Norm p q t b) (m : Norm p' q' t' b') (e : p * q' = p' * q) : t = t' ∧ b = b' := by
  refine cop_one n.pos m.pos n.cop m.cop ?_
  have c1 := n.cross
  have c2 := m.cross
  have q0 := n.bne
  have q1 := m.bne
  have key : (t * b') * (q * q') = (t' * b) * (q * q') := by
    have e1 : (t * b') * (q * q') = (t * q) * (b' * q') := by
      rw [Int.mul_assoc, Int.mul_assoc, Int.mul_left_comm b' q q']
    have e2 : (t' * b) * (q * q') = (t' * q') * (b * q) := by
      rw [Int.mul_assoc, Int.mul_assoc, Int.mul_comm q q', Int.mul_left_comm b q' q]
    rw [e1, e2, c1, c2]
    have e3 : p * b * (b' * q') = (p * q') * (b * b') := by
      rw [Int.mul_assoc, Int.mul_assoc, Int.mul_comm b' q', Int.mul_left_comm b q' b']
    have e4 : p' * b' * (b * q) = (p' * q) * (b * b') := by
      rw [Int.mul_assoc, Int.mul_assoc, Int.mul_comm b q, Int.mul_left_comm b' q b, Int.mul_comm b' b]
    rw [e3, e4, e]
  have qq : q * q' ≠ 0 := fun z => by
    rcases Int.mul_eq_zero.mp z with e | e
    · exact q0 e
    · exact q1 e
  exact Int.eq_of_mul_eq_mul_right qq key
end MoL
namespace MoL
open PySem PySem.Spec PyProof.Rows L2 MoW
theorem call_or {X : Cx} {f : Value} {r r' : List V → Hp → VK → Prop} (h : CallR X f r) (h' : CallR X f r') : CallR X f (fun xs H Q => r xs H Q ∨ r' xs H Q) := by
  intro pins s σ H xs us Q I r q
  rcases q with q | q
  · exact h pins s σ H xs us Q I r q
  · exact h' pins s σ H xs us Q I r q
end MoL

/-! # Errors of the program: making one whose class keeps one field, and what a suite that caught it may ask -/
namespace MoL
open PySem PySem.Spec PyProof.Rows L2 MoW

/-! ### a class call in a body whose errors are caught: the wish speaks of the slots -/
def tMakeA (C : Addr) (sp : Sp) (dvs : List V) (W : L2.St → XK) (t : TA) : TE := fun σ H Q => t σ H fun vs G => ∀ x y, G x = none → G y = none → y ≠ x →
  sp (.ref x :: (vs ++ dvs)) (upd (upd G y (.own x)) x (.ins C y [])) (fun v G2 => v = .non ∧ Q (.ref x) G2) (W σ)
section
variable {X : Cx} {CX : CXT} {k : Nat} {f C : Addr} {fd : FuncData} {ps : List Str} {sp : Sp} {dvs : List V} {ds : List Value} {W : L2.St → XK} {x : Str} {p pos : Pos} {e : Expr} {es : List Expr} {t : TA}
theorem pe_makeA (M : Mk X.K C f) (F : FnOk X.prog X.w X.K X.mg X.base CX k f fd ps sp) (room : Room (k + 1) X.A) (hg : Gl X x) (hm : X.mg x = some (.ref C)) (hb : Binds X.K fd ps ds) (hd : Vals dvs ds) (hx : ∀ σ, PassesAt CX X σ (W σ)) (ha : PA X (e :: es) t)
    (hdb : (x == ("__debug__" : Str)) = false := by decide) (he : starEach (e :: es) X.env = (false, eval e X.env) :: starEach es X.env := by rfl) (hpl : (backTo pos (starEach es X.env)).any (·.1) = false := by rfl) :
    PE X (.Call (.Name x p) (e :: es) [] pos) (tMakeA C sp dvs W t) := by
  constructor
  intro pins s0 σ H0 Q I0 h
  refine wpAny_Call_Name_kw (ld_glob I0 hg hm ?_ hdb)
  refine PySem.W.callWith_K (h₀ := X.base) I0.ok.mod.kin M.kp ?_ he hpl
  refine thn (ha.run pos pins s0 σ H0 _ I0 h) ?_
  rintro us s ⟨vs, H, I, r, h⟩
  refine ⟨I.kIn, ?_⟩
  have hq := h (s.heap.objs.size + 1) s.heap.objs.size (I.hok.fresh (Nat.le_succ _)) (I.hok.fresh (Nat.le_refl _)) (Nat.ne_of_lt (Nat.lt_succ_self _))
  have I2 := Inv.made (C := C) I
  have r2 : Vals (V.ref (s.heap.objs.size + 1) :: (vs ++ dvs)) (Value.ref (s.heap.objs.size + 1) :: (us ++ ds)) := .cons rfl (r.append hd)
  have hl : (Value.ref (s.heap.objs.size + 1) :: us ++ ds).length = ps.length := (F.len _ _ _ _ hq ▸ r2.length).symm
  have run := F.run _ X.stack _ _ ⟨Value.ref (s.heap.objs.size + 1) :: us, []⟩ _ _ _ _ (room.make C us []) (I2.env0.make C us []) (hb _ (Value.ref (s.heap.objs.size + 1) :: us) I2.kIn hl) r2 hq
  refine wpAny_call (make_map (f := f) I.kIn M.makes M.init (beq_iff_eq.mp M.fn) (codeAny_mono run ?_))
  intro r s' hq'
  rcases r with fl | e
  · exact hx σ pins _ _ _ s' I2 hq'
  · cases e with
    | ret u =>
      obtain ⟨v, G, I3, rv, ev, q3⟩ := I2.after hq'
      cases ev
      exact ⟨rv, ⟨V.ref (s.heap.objs.size + 1), G, I3, rfl, q3⟩⟩
    | next => exact hq'.elim
    | brk => exact hq'.elim
    | cont => exact hq'.elim
end

/-! ### isinstance of a caught error that has fields -/
def rIsD (K : PySem.W.Frag) (a : Addr) (cls : Value) (d : Option Addr) (D : Addr) : List V → Hp → VK → Prop := fun xs H Q => ∃ (c : V) (cv : Value) (b : Bool) (y : Addr) (fs : List (Str × V)),
  xs = [.ref a, c] ∧ cls = .ref D ∧ d = some y ∧ H y = some (.xd fs) ∧ ClsV c cv ∧ PySem.W.kitOne K (.ref D) cv = some b ∧ Q (.bl b) H
theorem call_isD {X : Cx} {a D : Addr} {oe : Obj} {cls : Value} {d : Option Addr} {pn : List (Addr × Obj)} (C : ExcC X.K D) (hz : Zc cls d oe) (hf : ∃ vs, oe.data = .fields vs) : CallR (X.suite a ((a, oe) :: pn)) (.builtin "isinstance") (rIsD X.K a cls d D) := by
  intro pins s σ H xs us Q I r h
  obtain ⟨c, cv, b, y, fs, rfl, rfl, rfl, hy, hc, e, q⟩ := h
  obtain ⟨u1, u2, rfl, r1, r2⟩ := vals2 r
  cases (show u1 = Value.ref a from r1)
  have e2 := hc.eq r2
  subst e2
  have hget := (I.pin (a, oe) (List.mem_append_left _ List.mem_cons_self)).1
  have ho : ∃ o, s.heap.get? y = some o := by
    obtain ⟨m, ⟨o, _, _, z, _⟩, _⟩ := (show ObjOk X.prog X.w H s.heap y (.xd fs) from I.hok y _ hy)
    exact ⟨o, z⟩
  obtain ⟨od, ho⟩ := ho
  have J : PySem.W.InstAt s.heap a oe D (some od) := by
    obtain ⟨vs, hv⟩ := hf
    rcases oe with ⟨oc, odd, dt, sl⟩
    obtain ⟨z1, z2⟩ := hz
    dsimp only at z1 z2 hv
    subst z1 z2 hv
    exact ⟨hget, rfl, rfl, ho⟩
  have hcl : (PySem.W.clsIn X.K D).isSome = true := by
    obtain ⟨cd, hcd, _⟩ := PySem.W.any_some C.hd
    rw [hcd]
    rfl
  exact PySem.W.kia_one (PySem.W.kitx_exc hcl C.hg C.hk C.hs C.ha C.hn C.ht C.hm) I.kIn J e (fun z => nomatch z) fun tk => ⟨.bl b, H, I.kept (t' := tk) fun _ _ z => z, rfl, q⟩

/-! ### the making of an error with one field -/
/-- the __init__ of such a class: the field f is what was given -/
def sp_keep (K : PySem.W.Frag) (f : Str) : Sp := fun vs H Q _ => ∃ (e C : Addr) (v : V), vs = [.ref e, v] ∧ OexC K C ∧ PySem.W.findIn K (.ref C) f = some none ∧ H e = some (exo e C none) ∧
  ∀ y, H y = none → y ≠ e → Q .non (upd (upd H y (exd y [(f, v)])) e (exo e C (some y)))
/-- raise C(v): what follows when its __init__ keeps sp_keep -/
theorem mk_keep {K : PySem.W.Frag} {C : Addr} {f : Str} {v : V} {H : Hp} {Q : XK} (T : OexC K C) (hn : PySem.W.findIn K (.ref C) f = some none) (q : ∀ y, H y = none → Q (.ref C) (some y) (upd H y (.xd [(f, v)]))) :
    ([v] : List V).length ≤ 1000 ∧ ∀ a, H a = none → sp_keep K f (.ref a :: ([v] ++ [])) (upd H a (exo a C none))
      (fun w G => w = .non ∧ ∃ (d : Addr) (fs : List (Str × V)), G a = some (exo a C (some d)) ∧ G d = some (exd d fs) ∧ H d = none ∧ Q (.ref C) (some d) (upd (del G a) d (.xd fs))) (fun _ _ _ => False) := by
  refine ⟨by show 1 ≤ 1000; decide, fun a na => ⟨a, C, v, rfl, T, hn, upd_same, fun y ny yne => ⟨rfl, y, [(f, v)], upd_same, ?_, ?_, ?_⟩⟩⟩
  · rw [upd_ne yne, upd_same]
  · rw [upd_ne yne] at ny
    exact ny
  · rw [upd_ne yne] at ny
    have e : upd (del (upd (upd (upd H a (exo a C none)) y (exd y [(f, v)])) a (exo a C (some y))) a) y (.xd [(f, v)]) = upd H y (.xd [(f, v)]) := by
      funext b
      by_cases hb : b = y
      · subst hb
        rw [upd_same, upd_same]
      · rw [upd_ne hb, upd_ne hb]
        by_cases hba : b = a
        · subst hba
          rw [del_same, na]
        · rw [del_ne hba, upd_ne hba, upd_ne hb, upd_ne hba]
    rw [e]
    exact q y ny
end MoL

/-! # An error called with keywords, up to its own __init__ -/
namespace MoX
open PySem PySem.W PySem.Calls PyProof.Rows PySem.HandSPX Builtin Builtin.ObjectAttr
section
variable {M : Model} {A : Around} {E : Value → Shared → Prop} {h : Heap} {g : Array GenState} {d : Drawn} {t : Nat} {os : OsState}
variable {nm q : Str} {C N : Addr} {bs bm bmB : List Value} {hdct : Bool} {sn : List Str} {sub : List Value} {ab : Bool} {col : Option Bool} {dd : Option Addr} {k0 k1 k2 k3 k5 : Option Value} {B newId initId : String}
abbrev clsAt (h : Heap) (nm q : Str) (C N : Addr) (bs bm : List Value) (hdct : Bool) (sn : List Str) (sub : List Value) (ab : Bool) (col : Option Bool) (dd : Option Addr) (k0 k1 k2 k3 k5 : Option Value) (newId : String) : Prop :=
  h.get? C = some (excClassObj nm q C N bs bm hdct sn sub ab col dd k0 k1 k2 k3 k5 newId)
theorem kw_check (F : ExcBaseFacts B newId initId bmB) (hT : ∀ Y : String, bm.contains (.type Y) = bmB.contains (.type Y)) {kw : List (Str × Value)} {Q : Unit → Shared → Prop} (hC : clsAt h nm q C N bs bm hdct sn sub ab col dd k0 k1 k2 k3 k5 newId)
    (hq : Q () ⟨h, g, d, t, os⟩) : wpAny M A (checkBuiltinCall newId ⟨[.ref C], kw⟩) Q E ⟨h, g, d, t, os⟩ := by
  have c1 : (Value.ref C :: bm).contains (.type B) = true := by
    rw [List.contains_cons, hT, F.hasB, Bool.or_true]
  have c2 := F.noStar
  simp only [checkBuiltinCall, F.newKind, F.newSplit, F.newRow]
  repeat (first | refine wpAny_loadPart_at hC ?_ | (refine wpAny_isSubtype_exc hC ?_; rw [c1]) | refine wpAny_staticBase_exc hC ?_ | refine wpAny_madeBy_exc hC ?_ | simp only [bne_self_eq_false, Bool.false_eq_true, if_false] | wp_step)
  exact hq
end
section
variable {prog : Program} {w : World} {A : Around} {E : Value → Shared → Prop} {R : Result → Shared → Prop} {h : Heap} {g : Array GenState} {d : Drawn} {t : Nat} {os : OsState}
variable {nm q : Str} {C N : Addr} {bs bm bmB : List Value} {hdct : Bool} {sn : List Str} {sub : List Value} {ab : Bool} {col : Option Bool} {dd : Option Addr} {k0 k1 k2 k3 k5 : Option Value} {B newId initId : String} {kw : List (Str × Value)} {fI : Addr}
theorem kw_new (F : ExcBaseFacts B newId initId bmB) (hT : ∀ Y : String, bm.contains (.type Y) = bmB.contains (.type Y)) (hC : clsAt h nm q C N bs bm hdct sn sub ab col dd k0 k1 k2 k3 k5 newId)
    (hq : R (.ok (.ret (.ref (h.objs.size + 1)))) ⟨(h.push (W.kdv_tup [])).push (excO C h.objs.size), g, d, t, os⟩) : codeAny (model prog w) A (.builtin newId ⟨[.ref C], kw⟩) R ⟨h, g, d, t, os⟩ := by
  have c0 := F.ends
  have c1 : (Value.ref C :: bm).contains (.type B) = true := by
    rw [List.contains_cons, hT, F.hasB, Bool.or_true]
  have c2 : (Value.ref C :: bm).contains (.type "AttributeError") = false := by
    rw [List.contains_cons, hT, F.noAttr]
    rfl
  have c3 : (Value.ref C :: bm).contains (.type "NameError") = false := by
    rw [List.contains_cons, hT, F.noName]
    rfl
  refine codeAny_builtinAt F.entry ?_
  unfold Builtin.«BaseException.__new__»
  refine PySem.wpAt_bind ?_
  show PySem.wpAt _ _ _ (stack >>= _) _ _ _
  refine PySem.wpAt_bind (PySem.wpAt_stack fun below rest => PySem.wpAt_of_wpAny ?_)
  wp_walk
  refine PySem.wpAt_of_wpAny ?_
  rw [F.owner]
  repeat (first | with_reducible refine wpAny_madeHere_exc F.canon hC ?_ | with_reducible refine wpAny_loadPart_at hC ?_ | (with_reducible refine wpAny_isSubtype_exc hC ?_; first | rw [c1] | rw [c2] | rw [c3]) | wp_step)
  show R _ _
  rw [Heap.size_push]
  exact hq
theorem kw_type (F : ExcBaseFacts B newId initId bmB) (hT : ∀ Y : String, bm.contains (.type Y) = bmB.contains (.type Y)) {Q : Fin → Shared → Prop} (hC : clsAt h nm q C N bs bm hdct sn sub ab col dd k0 k1 k2 k3 k5 newId)
    (hi : W.Looks (model prog w) h (typeLookup (.ref C) "__init__") (some (.ref fI))) (hb : ∀ self, W.Looks (model prog w) h (bindSpecial (.ref fI) self) (.ref fI, [self]))
    (hq : codeAny (model prog w) A (.call (.ref fI) ⟨[.ref (h.objs.size + 1)], kw⟩)
      (fun r s' => match r with
        | .ok (.ret v) => v = .none ∧ Q (.done (.ret (.ref (h.objs.size + 1)))) s'
        | .ok _ => False
        | .error e => E e s')
      ⟨(h.push (W.kdv_tup [])).push (excO C h.objs.size), g, d, t, os⟩) : wpAny (model prog w) A (Builtin.«type.__call__» ⟨[.ref C], kw⟩) Q E ⟨h, g, d, t, os⟩ := by
  repeat (first | with_reducible refine wpAny_loadPart_at hC ?_ | with_reducible refine wpAny_madeBy_exc hC ?_ | wp_step)
  refine codeAny_call_builtin_code (Code.quiet_builtin _ F.quiet) (kw_check F hT hC ?_)
  refine kw_new F hT hC ?_
  show wpAny _ _ _ _ _ _
  have kp : ∀ b o, h.get? b = some o → ((h.push (W.kdv_tup [])).push (excO C h.objs.size)).get? b = some o := fun b o e => Heap.get?_push_of_some _ (Heap.get?_push_of_some _ e)
  have hC1 := kp _ _ hC
  have here : ((h.push (W.kdv_tup [])).push (excO C h.objs.size)).get? (h.objs.size + 1) = some (excO C h.objs.size) := by heap_get
  have cC : (Value.ref C :: bm).contains (.ref C) = true := by simp
  have hi1 := hi.keeps kp
  have hb1 := (hb (.ref (h.objs.size + 1))).keeps kp
  unfold isInstance
  repeat (first | with_reducible refine wpAny_loadPart_at here ?_ | (with_reducible refine wpAny_isSubtype_exc hC1 ?_; rw [cC]) | wp_step)
  show wpAny _ _ (typeLookup (.ref C) _) _ _ _
  refine hi1.at ?_
  refine wpAny_holding (wpAny_bind (hb1.at ?_))
  refine wpAny_bind (wpAny_call (codeAny_mono hq ?_))
  intro r s' z
  rcases r with e | (v | _ | _ | _) <;> first | exact z | exact z.elim | skip
  obtain ⟨rfl, z⟩ := z
  first
    | exact wpAny_pure (wpAny_pure z)
    | (wp_walk; exact z)
theorem kw_call (F : ExcBaseFacts B newId initId bmB) (hT : ∀ Y : String, bm.contains (.type Y) = bmB.contains (.type Y)) (hC : clsAt h nm q C N bs bm hdct sn sub ab col dd k0 k1 k2 k3 k5 newId)
    (hi : W.Looks (model prog w) h (typeLookup (.ref C) "__init__") (some (.ref fI))) (hb : ∀ self, W.Looks (model prog w) h (bindSpecial (.ref fI) self) (.ref fI, [self]))
    (hq : codeAny (model prog w) (A.under (.builtin "type.__call__" ⟨[.ref C], kw⟩)) (.call (.ref fI) ⟨[.ref (h.objs.size + 1)], kw⟩) (W.InitBack (h.objs.size + 1) R) ⟨(h.push (W.kdv_tup [])).push (excO C h.objs.size), g, d, t, os⟩) :
    codeAny (model prog w) A (.call (.ref C) ⟨[], kw⟩) R ⟨h, g, d, t, os⟩ := by
  have f1 := tc_lookup
  have f2 := tc_bind (.ref C)
  have ty : (⟨h, g, d, t, os⟩ : Shared).TypeIs (.ref C) "type" := ⟨_, hC, rfl⟩
  refine codeAny_of_tree ?_
  show wpAny _ _ (callAny (.ref C) _) _ _ _
  repeat (any_goals (first | assumption | with_reducible refine wpAny_loadPart_at hC ?_ | wp_step))
  refine ⟨rfl, ?_⟩
  refine codeAny_call_builtin_at (Code.quiet_builtin _ (by decide +kernel)) entry_typeCall (wpAny_check_type_call_sub hC (kw_type F hT hC hi hb ?_))
  refine codeAny_mono hq ?_
  intro r s' z
  rcases r with e | (v | _ | _ | _) <;> exact z
end
end MoX

/-! # Errors as values: made, held, asked -/
namespace MoL
open PySem PySem.Spec PyProof.Rows L2 MoW

/-! ### what the written part says of an error class over MeansError -/
abbrev veT : List Value := [.type "ValueError", .type "Exception", .type "BaseException", .type "object"]
def ClsRow (K : PySem.W.Frag) (C : Addr) (nm : Str) (bm : List Value) : Prop := ∃ q N bs sn sub ab col dd k0 k1 k2 k3 k5, K.lookup C = some (excClassObj nm q C N bs bm true sn sub ab col dd k0 k1 k2 k3 k5 "ValueError.__new__")
structure ErrC (K : PySem.W.Frag) (M C : Addr) (nm : Str) : Prop where
  row : ClsRow K C nm (.ref M :: veT)
  base : ClsRow K M "MeansError" veT
  sa : PySem.W.findIn K (.ref C) "__setattr__" = some (some (.builtin "object.__setattr__"))
  ga : PySem.W.findIn K (.ref C) "__getattribute__" = some (some (.builtin "BaseException.__getattribute__"))
  gg : PySem.W.findIn K (.ref C) "__getattr__" = some none
  ca : PySem.W.findIn K (.ref C) "__class__" = some (some (.builtin "object.__class__"))
  gd : PySem.W.specialIn K (.builtin "object.__class__") "__get__" = some (some (.builtin "getset_descriptor.__get__"))
  tk : PySem.W.takesIn K (.builtin "object.__class__") = some true
  kp : PySem.W.keepIn K (.ref C) = true
section
variable {K : PySem.W.Frag} {M C C' : Addr} {nm nm' : Str} {bm : List Value}
theorem ClsRow.cls (h : ClsRow K C nm bm) : ∃ cd : ClassData, PySem.W.clsIn K C = some cd ∧ cd.mro = .ref C :: bm ∧ cd.hasDict = true ∧ cd.name = nm := by
  obtain ⟨q, N, bs, sn, sub, ab, col, dd, k0, k1, k2, k3, k5, h⟩ := h
  refine ⟨{ name := nm, bases := bs, mro := .ref C :: bm, ns := N, qualname := q, hasDict := true, slotNames := sn, subclasses := sub, abstract := ab, collection := col, hasDel := false }, ?_, rfl, rfl, rfl⟩
  unfold PySem.W.clsIn
  rw [h] <;> rfl
theorem ClsRow.ty (h : ClsRow K C nm bm) : PySem.W.typeIn K (.ref C) = some (.type "type") := by
  obtain ⟨q, N, bs, sn, sub, ab, col, dd, k0, k1, k2, k3, k5, h⟩ := h
  show (K.lookup C).map _ = _
  rw [h]
  rfl
theorem ClsRow.sub (h : ClsRow K C nm bm) (v : Value) : PySem.W.subIn K (.ref C) v = some ((Value.ref C :: bm).contains v) := by
  obtain ⟨cd, e, m, _⟩ := h.cls
  show PySem.W.mroIn K C v = _
  unfold PySem.W.mroIn
  rw [e, Option.bind_some, m]
  rfl
theorem ClsRow.isC (h : ClsRow K C nm bm) : (PySem.W.clsIn K C).isSome = true := by
  obtain ⟨cd, e, _⟩ := h.cls
  rw [e]
  rfl
theorem ClsRow.dict (h : ClsRow K C nm bm) : PySem.W.hasDictIn K C = true := by
  obtain ⟨cd, e, _, d, _⟩ := h.cls
  unfold PySem.W.hasDictIn
  rw [e]
  exact d
theorem ClsRow.ne (h : ClsRow K C nm bm) (h' : ClsRow K C' nm' bm') (n : nm ≠ nm') : C ≠ C' := fun e => by
  subst e
  obtain ⟨cd, e1, _, _, n1⟩ := h.cls
  obtain ⟨cd', e2, _, _, n2⟩ := h'.cls
  rw [e1] at e2
  cases e2
  exact n (n1.symm.trans n2)
theorem ClsRow.kit (h : ClsRow K C nm bm) (h' : ClsRow K C' nm' bm') : PySem.W.kitOne K (.ref C) (.ref C') = some ((Value.ref C :: bm).contains (.ref C')) := by
  unfold PySem.W.kitOne
  by_cases e : C = C'
  · subst e
    rw [if_pos (by simp)]
    simp
  · rw [if_neg (by simpa using e)]
    show (if _ = true then PySem.W.subIn K (.ref C) (.ref C') else none) = _
    rw [h'.isC, h'.ty, if_pos (by rfl), h.sub]
theorem ErrC.exc (e : ErrC K M C nm) : PySem.W.subIn K (.ref C) (.type "BaseException") = some true := by
  rw [e.row.sub]
  rfl
theorem ErrC.o (e : ErrC K M C nm) : OexC K C := by
  refine ⟨?_, e.sa, e.exc, e.row.ty, e.kp⟩
  obtain ⟨q, N, bs, sn, sub, ab, col, dd, k0, k1, k2, k3, k5, h⟩ := e.row
  exact ⟨_, _, _, _, _, _, _, _, _, _, _, _, _, _, _, h, rfl⟩
theorem ErrC.x (e : ErrC K M C nm) : XfC K C := ⟨e.ga, e.gg, e.exc, e.row.dict⟩
theorem ErrC.c (e : ErrC K M C nm) : ExcC K C := by
  refine ⟨e.ga, e.gg, e.exc, e.row.dict, e.ca, e.gd, e.tk, ?_⟩
  have := e.row.sub (.type "object")
  exact this
theorem ErrC.kit_ne (e : ErrC K M C nm) (e' : ErrC K M C' nm') (n : nm ≠ nm') (n2 : nm' ≠ "MeansError") : PySem.W.kitOne K (.ref C) (.ref C') = some false := by
  rw [e.row.kit e'.row]
  have h1 : C' ≠ C := (e.row.ne e'.row n).symm
  have h2 : C' ≠ M := e'.row.ne e.base n2
  simp [h1, h2]
theorem ErrC.kit_self (e : ErrC K M C nm) : PySem.W.kitOne K (.ref C) (.ref C) = some true := by
  rw [e.row.kit e.row]
  simp
theorem ErrC.kit_base (e : ErrC K M C nm) : PySem.W.kitOne K (.ref C) (.ref M) = some true := by
  rw [e.row.kit e.base]
  simp
theorem ErrC.kit_ve (e : ErrC K M C nm) : PySem.W.kitOne K (.ref C) (.type "ValueError") = some true := by
  unfold PySem.W.kitOne
  rw [if_neg (by simp)]
  show (if PySem.W.kitMeta "ValueError" = true then PySem.W.subIn K (.ref C) (.type "ValueError") else none) = _
  rw [if_pos (by decide +kernel), e.row.sub]
  rfl
theorem ErrC.caught (e : ErrC K M C nm) : PySem.W.exmOne K (.ref C) (.ref M) = some true := by
  unfold PySem.W.exmOne
  have h1 : PySem.W.subIn K (.ref M) (.type "BaseException") = some true := by
    rw [e.base.sub]
    rfl
  rw [h1, if_pos (by rfl)]
  show (if _ = true then PySem.W.subIn K (.ref C) (.ref M) else none) = _
  rw [e.base.isC, e.base.ty, if_pos (by rfl), e.row.sub]
  simp
end

/-! ### an error that is held -/
def ErrAt (C : Addr) (H : Hp) (v : V) (fs : List (Str × V)) : Prop := ∃ a, v = .ref a ∧ ((fs = [] ∧ H a = some (exo a C none)) ∨ ∃ y, H a = some (exo a C (some y)) ∧ H y = some (exd y fs))
theorem ErrAt.same {C : Addr} {H H' : Hp} {v : V} {fs : List (Str × V)} (e : ErrAt C H v fs) (s : Same H H') : ErrAt C H' v fs := by
  obtain ⟨a, rfl, ⟨h1, h2⟩ | ⟨y, h1, h2⟩⟩ := e
  · exact ⟨a, rfl, .inl ⟨h1, s _ _ h2⟩⟩
  · exact ⟨a, rfl, .inr ⟨y, s _ _ h1, s _ _ h2⟩⟩
section
variable {X : Cx} {pins : List (Addr × Obj)} {σ : L2.St} {H : Hp} {s : Shared}
theorem ErrAt.inst {C a : Addr} {fs : List (Str × V)} (I : Inv X pins σ H s) (e : ErrAt C H (.ref a) fs) : ∃ oe od, PySem.W.InstAt s.heap a oe C od := by
  obtain ⟨b, eb, ⟨h1, h2⟩ | ⟨y, h1, h2⟩⟩ := e <;> cases eb
  · obtain ⟨t1, ho⟩ := exo_at I.hok h2
    exact ⟨_, none, ho, rfl, rfl, trivial⟩
  · obtain ⟨t1, ho⟩ := exo_at I.hok h1
    obtain ⟨m, ⟨o, _, _, z, _⟩, _⟩ := exd_at I.hok h2
    exact ⟨_, some o, ho, rfl, rfl, z⟩
end
/-- isinstance of it -/
def rIsO (K : PySem.W.Frag) : List V → Hp → VK → Prop := fun xs H Q => ∃ (v c : V) (cv : Value) (C : Addr) (fs : List (Str × V)) (b : Bool), xs = [v, c] ∧ ErrAt C H v fs ∧ ExcC K C ∧ ClsV c cv ∧ PySem.W.kitOne K (.ref C) cv = some b ∧ Q (.bl b) H
theorem call_isO {X : Cx} : CallR X (.builtin "isinstance") (rIsO X.K) := by
  intro pins s σ H xs us Q I r h
  obtain ⟨v, c, cv, C, fs, b, rfl, he, ce, hc, e, q⟩ := h
  obtain ⟨u1, u2, rfl, r1, r2⟩ := vals2 r
  have e2 := hc.eq r2
  subst e2
  obtain ⟨a, rfl, he'⟩ := id he
  cases (show u1 = Value.ref a from r1)
  obtain ⟨oe, od, J⟩ := he.inst I
  have hcl : (PySem.W.clsIn X.K C).isSome = true := by
    obtain ⟨cd, hcd, _⟩ := PySem.W.any_some ce.hd
    rw [hcd]
    rfl
  exact PySem.W.kia_one (PySem.W.kitx_exc hcl ce.hg ce.hk ce.hs ce.ha ce.hn ce.ht ce.hm) I.kIn J e (fun z => nomatch z) fun tk => ⟨.bl b, H, I.tok tk, rfl, q⟩
/-- a field of it -/
def tOxf (K : PySem.W.Frag) (f : Str) (te : TE) : TE := fun σ H Q => te σ H fun x G => ∃ (C : Addr) (fs : List (Str × V)) (v : V), ErrAt C G x fs ∧ XfC K C ∧ PySem.W.findIn K (.ref C) f = some none ∧ fs.lookup f = some v ∧ Q v G
theorem pe_oxf {X : Cx} {e : Expr} {te : TE} {pos : Pos} {n : Str} (he : PE X e te) (hb : attributeBase e n X.env (eval e X.env) = eval e X.env := by rfl) : PE X (.Attribute e n pos) (tOxf X.K n te) := by
  constructor
  intro pins s0 σ H0 Q I0 h
  refine attr_of hb (thn (he.run pins s0 σ H0 _ I0 h) ?_)
  rintro u s ⟨x, H, I, rx, C, fs, v, ea, T, hno, hl, q⟩
  obtain ⟨a, rfl, h2⟩ := ea
  cases (show u = Value.ref a from rx)
  rcases h2 with ⟨rfl, _⟩ | ⟨y, h1, h2⟩
  · cases hl
  · obtain ⟨t1, ho⟩ := exo_at I.hok h1
    obtain ⟨mA, hns, hr⟩ := exd_at I.hok h2
    obtain ⟨od, hod, hlk⟩ := lookIn_ns hns
    obtain ⟨u, hu, ru⟩ := RelO.some_of (v := v) (o := mA n) (by rw [← hl]; exact hr n)
    have J : PySem.W.InstAt s.heap a _ C (some od) := ⟨ho, rfl, rfl, hod⟩
    exact HandSPX.exc_get I.kIn J T.ga T.gg T.exC (PySem.W.findObj_own T.hdC hno rfl (by rw [hlk, hu])) (handed_of ru) ⟨v, H, I.tok _, ru, q⟩

/-! ### the making -/
theorem PE.imp {X : Cx} {e : Expr} {t t' : TE} (h : PE X e t) (i : ∀ σ H Q, t' σ H Q → t σ H Q) : PE X e t' := ⟨fun pins s σ H Q I q => h.run pins s σ H Q I (i σ H Q q)⟩
def tMkE (C : Addr) (sp : Sp) (g : List V → List V) (ta : TA) : TE := fun σ H Q => ta σ H fun vs G => vs.length ≤ 1000 ∧ ∀ a, G a = none → sp (g (.ref a :: vs)) (upd G a (exo a C none)) (fun v G2 => v = .non ∧ Q (.ref a) G2) (fun _ _ _ => False)
section
variable {X : Cx} {CX : CXT} {k : Nat} {fI C M : Addr} {fd : FuncData} {ps ks : List Str} {sp : Sp} {x nm : Str} {p pos : Pos} {e : Expr} {es : List Expr} {ta tk : TA} {kws : List Keyword}
theorem pe_mkE (T : ErrC X.K M C nm) (iC : PySem.W.findIn X.K (.ref C) "__init__" = some (some (.ref fI))) (tI : PySem.W.typeIn X.K (.ref fI) = some (.type "function")) (F : FnOk X.prog X.w X.K X.mg X.base CX k fI fd ps sp) (room : Room (k + 1) X.A) (hb : Binds X.K fd ps [])
    (hx : Passes CX X (fun _ _ _ => False)) (hg : Gl X x) (hm : X.mg x = some (.ref C)) (ha : PA X (e :: es) ta) (hdb : (x == ("__debug__" : Str)) = false := by decide) (he : starEach (e :: es) X.env = (false, eval e X.env) :: starEach es X.env := by rfl) (hpl : (backTo pos (starEach es X.env)).any (·.1) = false := by rfl) :
    PE X (.Call (.Name x p) (e :: es) [] pos) (tMkE C sp id ta) := by
  constructor
  intro pins s0 σ H0 Q I0 h
  obtain ⟨q, N, bs, sn, sub, ab, col, dd, k0, k1, k2, k3, k5, hC⟩ := T.row
  refine wpAny_Call_Name_kw (ld_glob I0 hg hm ?_ hdb)
  refine PySem.W.callWith_K (h₀ := X.base) I0.ok.mod.kin T.kp ?_ he hpl
  refine thn (ha.run pos pins s0 σ H0 _ I0 h) ?_
  rintro us s1 ⟨vs, H1, I1, r1, hz, q1⟩
  refine ⟨I1.kIn, ?_⟩
  show wpAny _ _ (call (.ref C) us) _ _ _
  obtain ⟨hp, g, dr, tk, os⟩ := s1
  have hsz : hp.objs.size ≤ hp.objs.size + 1 := Nat.le_succ _
  have hq := q1 (hp.objs.size + 1) (I1.hok.fresh hsz)
  have kk : ∀ b o, hp.get? b = some o → ((hp.push (PySem.W.kdv_tup us)).push (PySem.HandSPX.excO C hp.objs.size)).get? b = some o := fun b o z => Heap.get?_push_of_some _ (Heap.get?_push_of_some _ z)
  have here : ((hp.push (PySem.W.kdv_tup us)).push (PySem.HandSPX.excO C hp.objs.size)).get? (hp.objs.size + 1) = some (PySem.HandSPX.excO C hp.objs.size) := by heap_get
  have I2 : Inv X pins σ (upd H1 (hp.objs.size + 1) (exo (hp.objs.size + 1) C none)) ⟨(hp.push (PySem.W.kdv_tup us)).push (PySem.HandSPX.excO C hp.objs.size), g, dr, tk, os⟩ :=
    I1.laid (t' := tk) (a := hp.objs.size + 1) (o := exo (hp.objs.size + 1) C none) (h' := (hp.push (PySem.W.kdv_tup us)).push (PySem.HandSPX.excO C hp.objs.size)) kk hsz (exo_ok here)
  have r2 : Vals (V.ref (hp.objs.size + 1) :: vs) (Value.ref (hp.objs.size + 1) :: us) := .cons rfl r1
  have hl : (Value.ref (hp.objs.size + 1) :: us ++ []).length = ps.length := by
    rw [List.append_nil, ← r2.length]
    exact F.len _ _ _ _ hq
  have hus : us.length ≤ sizeLine := by
    rw [← Paired.length r1, sizeLine_eq]
    omega
  have bd := hb _ (Value.ref (hp.objs.size + 1) :: us) I2.kIn hl
  rw [List.append_nil] at bd
  have run := F.run _ X.stack _ _ ⟨Value.ref (hp.objs.size + 1) :: us, []⟩ _ _ _ _ (room.make C us []) (I2.env0.make C us []) bd r2 hq
  refine wpAny_call (PySem.HandSPX.call_own PySem.F.excBase_ValueError (fun Y => PySem.HandSPX.refsVE_contains Y (.ref M :: veT) rfl) (I1.kIn _ _ hC) (PySem.W.looks_findIn I1.kIn iC) (fun self => PySem.W.bind_fn I1.kIn self tI) hus (codeAny_mono run ?_))
  intro r s' hq'
  rcases r with er | fl
  · exact hx pins σ _ _ er s' I2 hq'
  · cases fl with
    | ret u =>
      obtain ⟨v, G, I3, rv, ev, q3⟩ := I2.after hq'
      cases ev
      exact ⟨rv, ⟨V.ref (hp.objs.size + 1), G, I3, rfl, q3⟩⟩
    | next => exact hq'.elim
    | brk => exact hq'.elim
    | cont => exact hq'.elim
/-- with keywords alone -/
theorem pe_mkEk {gL : List Value → List Value → List Value} {gV : List V → List V → List V} {tk : TA} (T : ErrC X.K M C nm) (iC : PySem.W.findIn X.K (.ref C) "__init__" = some (some (.ref fI))) (tI : PySem.W.typeIn X.K (.ref fI) = some (.type "function")) (F : FnOk X.prog X.w X.K X.mg X.base CX k fI fd ps sp)
    (room : Room (k + 1) X.A) (hb : KBn X.K fd ps 1 ks gL gV) (hx : Passes CX X (fun _ _ _ => False)) (hg : Gl X x) (hm : X.mg x = some (.ref C)) (hkw : PK X kws tk)
    (hall : (backToKw pos (keywordEach kws X.env)).all (·.1.isSome) = true := by rfl) (hks : (backToKw pos (keywordEach kws X.env)).filterMap (·.1) = ks := by rfl) (hdb : (x == ("__debug__" : Str)) = false := by decide)
    (hpl : ((backTo pos (starEach [] X.env)).any (·.1) || (backToKw pos (keywordEach kws X.env)).any (·.1.isNone)) = false := by rfl) :
    PE X (.Call (.Name x p) [] kws pos) (fun σ H Q => tk σ H fun zs G => zs.length = ks.length ∧ ∀ a, G a = none → sp (gV [.ref a] zs) (upd G a (exo a C none)) (fun v G2 => v = .non ∧ Q (.ref a) G2) (fun _ _ _ => False)) := by
  constructor
  intro pins s0 σ H0 Q I0 h
  obtain ⟨q, N, bs, sn, sub, ab, col, dd, k0, k1, k2, k3, k5, hC⟩ := T.row
  refine wpAny_Call_Name_kw (ld_glob I0 hg hm ?_ hdb)
  refine PySem.W.callWith_KW0 (h₀ := X.base) I0.ok.mod.kin T.kp hall ?_ hpl
  refine thn (hkw.run pos pins s0 σ H0 _ I0 h) ?_
  rintro ws s1 ⟨zs, H1, I1, rz, hz, q1⟩
  refine ⟨I1.kIn, ?_⟩
  rw [hks]
  show wpAny _ _ (call (.ref C) [] (ks.zip ws)) _ _ _
  obtain ⟨hp, g, dr, tk, os⟩ := s1
  have hsz : hp.objs.size ≤ hp.objs.size + 1 := Nat.le_succ _
  have hq := q1 (hp.objs.size + 1) (I1.hok.fresh hsz)
  have kk : ∀ b o, hp.get? b = some o → ((hp.push (PySem.W.kdv_tup [])).push (PySem.HandSPX.excO C hp.objs.size)).get? b = some o := fun b o z => Heap.get?_push_of_some _ (Heap.get?_push_of_some _ z)
  have here : ((hp.push (PySem.W.kdv_tup [])).push (PySem.HandSPX.excO C hp.objs.size)).get? (hp.objs.size + 1) = some (PySem.HandSPX.excO C hp.objs.size) := by heap_get
  have I2 : Inv X pins σ (upd H1 (hp.objs.size + 1) (exo (hp.objs.size + 1) C none)) ⟨(hp.push (PySem.W.kdv_tup [])).push (PySem.HandSPX.excO C hp.objs.size), g, dr, tk, os⟩ :=
    I1.laid (t' := tk) (a := hp.objs.size + 1) (o := exo (hp.objs.size + 1) C none) (h' := (hp.push (PySem.W.kdv_tup [])).push (PySem.HandSPX.excO C hp.objs.size)) kk hsz (exo_ok here)
  have r1 : Vals [V.ref (hp.objs.size + 1)] [Value.ref (hp.objs.size + 1)] := .cons rfl .nil
  have r2 := hb.rel r1 rz
  have run := F.run _ X.stack _ _ ⟨[Value.ref (hp.objs.size + 1)], ks.zip ws⟩ _ _ _ _ (room.make C [] (ks.zip ws)) (I2.env0.make C [] (ks.zip ws)) (hb.to _ _ ws I2.kIn rfl (rz.length.symm.trans hz)) r2 hq
  refine wpAny_call (MoX.kw_call PySem.F.excBase_ValueError (fun Y => PySem.HandSPX.refsVE_contains Y (.ref M :: veT) rfl) (I1.kIn _ _ hC) (PySem.W.looks_findIn I1.kIn iC) (fun self => PySem.W.bind_fn I1.kIn self tI) (codeAny_mono run ?_))
  intro r s' hq'
  rcases r with er | fl
  · exact hx pins σ _ _ er s' I2 hq'
  · cases fl with
    | ret u =>
      obtain ⟨v, G, I3, rv, ev, q3⟩ := I2.after hq'
      cases ev
      exact ⟨rv, ⟨V.ref (hp.objs.size + 1), G, I3, rfl, q3⟩⟩
    | next => exact hq'.elim
    | brk => exact hq'.elim
    | cont => exact hq'.elim
/-- an error class without own __init__, called with nothing -/
theorem bare_made {A : Around} {W : Value → Shared → Prop} {pins : List (Addr × Obj)} {σ : L2.St} {H : Hp} {s : Shared} {Q : Value → Shared → Prop} (xn : PySem.W.excIn X.K C [.type "ValueError", .type "Exception", .type "BaseException", .type "object"] "ValueError.__new__" = true) (I : Inv X pins σ H s)
    (h : ∀ h' a, Heap.MadeExcOf s.heap h' a (.ref C) [] → H a = none → Q (.ref a) { s with heap := h' }) : wpAny (model X.prog X.w) A (call (.ref C) []) Q W s := by
  obtain ⟨bm, N, nm, qn, bs, hdct, sn, sub, ab, col, dd, k0, k1, k2, k3, k5, mN, hC, hN, hni, T⟩ := exc_obj I.kIn xn
  obtain ⟨hp, g, dr, tk, os⟩ := s
  exact wpAny_call_exc_subT PySem.F.excBase_ValueError T hC hN hni (fun h' a hm => h h' a hm (I.hok.gone hm.new)) (Nat.zero_le _)
theorem pe_mk0 (T : ErrC X.K M C nm) (xn : PySem.W.excIn X.K C [.type "ValueError", .type "Exception", .type "BaseException", .type "object"] "ValueError.__new__" = true) (hg : Gl X x) (hm : X.mg x = some (.ref C)) (hdb : (x == ("__debug__" : Str)) = false := by decide) :
    PE X (.Call (.Name x p) [] [] pos) (fun σ H Q => ∀ H' v, Same H H' → ErrAt C H' v [] → Q v H') := by
  constructor
  intro pins s σ H Q I h
  refine wpAny_Call_Name_kw (ld_glob I hg hm ?_ hdb)
  refine PySem.W.callWith_K0 I.kIn T.kp ?_
  refine bare_made xn I fun h' a hmd ha => ?_
  obtain ⟨t, ht, _, _⟩ := hmd.there
  have J : Inv X pins σ (upd H a (exo a C none)) { s with heap := h' } := I.laidN hmd.keeps hmd.new ha (exo_ok ht)
  refine ⟨.ref a, _, J, rfl, h _ _ (fun b o q => ?_) ⟨a, rfl, .inl ⟨rfl, upd_same⟩⟩⟩
  rw [upd_ne (ne_of_none q ha)]
  exact q
/-- raise of it -/
theorem pmk_mk0 (T : ErrC X.K M C nm) (xn : PySem.W.excIn X.K C [.type "ValueError", .type "Exception", .type "BaseException", .type "object"] "ValueError.__new__" = true) (hg : Gl X x) (hm : X.mg x = some (.ref C)) (hdb : (x == ("__debug__" : Str)) = false := by decide) :
    PMk X (.Call (.Name x p) [] [] pos) (fun σ H Q => Q (.ref C) none H) := by
  intro pins s σ H Q I h
  refine wpAny_Call_Name_kw (ld_glob I hg hm ?_ hdb)
  refine PySem.W.callWith_K0 I.kIn T.kp ?_
  exact bare_made xn I fun h' a hmd ha => mk_of I hmd (raises_own T.exc T.row.ty) h ha
end
end MoL

/-! # // and ** of instances, and what leaves a def that may raise -/
namespace MoW
open PySem PySem.W
section
variable {prog : Program} {w : World} {A : Around} {E : Value → Shared → Prop} {s : Shared}
theorem int_floordiv_no (i : Int) (t : Tok) (l C dx : Addr) :
    Meets (Builtin.«int.__floordiv__» ⟨[.int i t, .ref l], []⟩) (fun _ R s => s.heap.get? l = some (PySem.W.instObj C dx) ∧ R (.ok (.ret .notImplemented)) s) :=
  .of_wp fun prog w A R s h => by obtain ⟨hp, g, d, tk, os⟩ := s; obtain ⟨hl, h⟩ := h; unfold PySem.W.instObj at hl; wp_walk using wpAny_loadPart' hl, wpAny_load hl; exact ⟨_, rfl, h⟩
end
end MoW
namespace MoW
open PySem PySem.W PyProof.Rows
section
variable {prog : Program} {w : World} {A : Around} {E : Value → Shared → Prop} {s : Shared} {K : Frag} {x C L f : Addr} {h₀ : Heap} {m : Str → Option Value} {dx : Addr} {od : Option Obj} {i : Int} {t : Tok}

theorem bin_own_int0 {op : Operator} {id : String} {Q : Value → Shared → Prop} (F : Fr h₀ L s.heap m) (X₀ : K.In h₀) (I : InstAt s.heap x (instObj C dx) C od)
    (hc : selfFirst K C = true) (hn : subIn K (.type "int") (.ref C) = some false) (h1 : Slot "int" (dunderR op.info.2) id) (hfi : fillsNumberSlot (.type "int") op.info.2 = pure true)
    (hs : findIn K (.ref C) (PySem.dunder op.info.2) = some (some (.ref f))) (hf : isFn K (.ref f) = true)
    (hd : findIn K (.ref C) (dunderR op.info.2) = some none)
    (h : wpAny (model prog w) A (call (.ref f) [.ref x, .int i t]) (W.CmpBack Q) E s) : wpAny (model prog w) A (binaryOp op (.ref x) (.int i t)) Q E s := by
  have X := X₀.keeps F.keep
  obtain ⟨cd, rest, hcd, hm⟩ := mro_first (K := K) (C := C) (cd := default) hc
  unfold binaryOp
  refine wpAny_holding (wpAny_bind ?_)
  unfold binaryOp1
  refine wpAny_bind (I.type.here (wpAny_bind (wpAny_typeOf (typeIs_int s i t) (wpAny_bind ((fills_K X hcd hm hs).here ?_)))))
  have hne : (Value.ref C == Value.type "int") = false := rfl
  simp only [hne, Bool.false_eq_true, if_false]
  refine wpAny_bind (wpAny_of_eq hfi ?_)
  simp only [Bool.and_self, if_true]
  refine wpAny_bind ((looks_subIn X hn).here ?_)
  have hpy : Looks (model prog w) s.heap (numberSlotInPython (.ref C) op.info.2) true := by
    unfold numberSlotInPython
    refine (looks_findIn X hs).andThen ?_
    refine Looks.andThen (a := true) .now ?_
    refine (looks_findIn X hd).andThen ?_
    refine Looks.andThen (a := false) .now ?_
    exact .now
  have hpi : numberSlotInPython (.type "int") op.info.2 = pure false := rfl
  simp only [Bool.false_eq_true, if_false, pure_bind, Bool.not_false, Bool.and_self, if_true]
  refine wpAny_bind (hpy.here ?_)
  simp only [if_true]
  refine wpAny_bind (wpAny_of_eq hpi ?_)
  simp only [Bool.not_false, if_true]
  refine wpAny_bind (wpAny_of_eq h1.lookup ?_)
  refine wpAny_bind (m := tryMethod (.ref x) _ (.int i t)) ?_
  unfold tryMethod
  refine wpAny_bind (special_fn X I hs (beq_iff_eq.mp hf) (wpAny_mono h (fun v s' hv => ?_) fun _ _ e => e))
  cases v <;> first | exact hv.elim | exact wpAny_pure (wpAny_pure (wpAny_pure hv))
end
end MoW

namespace MoL
open PySem PySem.Spec PyProof.Rows L2 MoW
section
variable {X : Cx} {CX : CXT} {k : Nat} {C f g : Addr} {fd : FuncData} {ps : List Str} {sp : Sp} {E : XK}
theorem op_floordiv_own (c : OwnC X.K C) (m : Meth X.K C "__floordiv__" f) (mr : Meth X.K C "__rfloordiv__" g) (run : FnOk X.prog X.w X.K X.mg X.base CX k f fd ps sp) (hr : Room k X.A) (hb : Binds X.K fd ps []) (hx : Passes CX X E) : OpR X (binaryOp .FloorDiv) (rOwn C sp E) :=
  op_bin_own (op := .FloorDiv) F.slot_int_rfloordiv F.fills_int_floordiv c m mr run hr hb hx
theorem op_floordiv_int (c : OwnC X.K C) (m : Meth X.K C "__rfloordiv__" f) (ml : Meth X.K C "__floordiv__" g) (run : FnOk X.prog X.w X.K X.mg X.base CX k f fd ps sp) (hr : Room k X.A) (hb : Binds X.K fd ps []) (hx : Passes CX X E) : OpR X (binaryOp .FloorDiv) (rOwnR C sp E) :=
  op_bin_int (op := .FloorDiv) F.slot_int_floordiv F.fills_int_floordiv (fun s i t b dy Q' E' hb' q => call_meets F.slot_int_floordiv (typeIs_int s i t) F.entry_int_floordiv (F.args_int_floordiv_2 _ _) (int_floordiv_no i t b C dy) ⟨hb', q⟩) c m ml run hr hb hx
/-- x ** i, the class has no mirrored one -/
theorem op_pow_own (c : OwnC X.K C) (m : Meth X.K C "__pow__" f) (no : PySem.W.findIn X.K (.ref C) "__rpow__" = some none) (run : FnOk X.prog X.w X.K X.mg X.base CX k f fd ps sp) (hr : Room k X.A) (hb : Binds X.K fd ps []) (hx : Passes CX X E) :
    OpR X (binaryOp .Pow) (fun x y H Q => Ins H x C ∧ (∃ i, y = .int i) ∧ sp [x, y] H Q E) := by
  intro pins s σ H x y v u Q I rx ry h
  obtain ⟨⟨a, dx, fs, rfl, ha⟩, ⟨i, rfl⟩, hs⟩ := h
  cases (show v = Value.ref a from rx)
  obtain ⟨t, rfl⟩ := (show ∃ t, u = Value.int i t from ry)
  obtain ⟨od, J⟩ := ins_at I ha
  obtain ⟨mm, hF⟩ := I.fr
  exact bin_own_int0 (op := .Pow) hF I.ok.mod.kin J c.first c.ic F.slot_int_rpow F.fills_int_pow m.at_ m.fn no
    (thn (run_fn (us := [.ref a, .int i t]) (vs := [.ref a, .int i]) run hr hb .nil hx I (.cons rfl (.cons ⟨t, rfl⟩ .nil)) hs) fun v s' q => ep_back q)
end
/-- a callee's error is this def's own way out -/
theorem passE {P : Program} {w : World} {K : PySem.W.Frag} {mg : Str → Option Value} {base : Heap} {N : List Str} {qual : Str} {scope : Scope} {f : Addr} {cdv : Value} {A : Around} {outer : List Env} {s : Shared} {H : Hp} {E : XK} :
    Passes (L2.CX P w) (cxOf (L2.CX P w) P w K mg base N qual scope f cdv A outer s H E) E :=
  passes_call (W := fun cls d _ H => E cls d H) (takes_of rfl rfl rfl rfl) fun _ _ _ _ h => h
end MoL

/-! # Defs that hand lambdas on, and the def that tells the word of what a lambda raises -/
namespace MoL
open PySem PySem.Spec PyProof.Rows L2 MoW LamX

/-- a def whose code object is known -/
structure FunC (K : PySem.W.Frag) (x qual : Str) (st : Stmt) (f : Addr) (fd : FuncData) (c : Addr) : Prop where
  ex : ∃ (oc : Value) (od : Option Addr) (kV doc pm : Value) (an : Option Addr) (ct : Value) (osl : Array (Option Value)),
    fd = PySem.W.fnOf x qual (defArgs st) (defBody st) (defScope st) .none kV doc pm an (.ref c) ct ∧ K.lookup f = some ⟨oc, od, .func fd, osl⟩ ∧ PySem.W.codeIn K (.ref c) qual = true
  kp : PySem.W.keepIn K (.ref f) = true
theorem FunC.ok {P : Program} {w : World} {K : PySem.W.Frag} {mg : Str → Option Value} {base : Heap} {x qual : Str} {st : Stmt} {f c : Addr} {fd : FuncData} {N ps : List Str} {k : Nat} {sp : Sp} (F : FunC K x qual st f fd c) (S : FnScope N ps (defScope st))
    (len : ∀ vs H Q E, sp vs H Q E → vs.length = ps.length)
    (h : ∀ (A : Around) (outer : List Env) (s : Shared) (H : Hp) (vs : List V) (Q : VK) (E : XK), Room k (A.deeper (envOfC qual (defScope st) s.heap.objs.size f (.ref c))) → sp vs H Q E →
      ∃ t, PSs (cxOf CX0 P w K mg base N qual (defScope st) f (.ref c) A outer s H E).nox (defBody st) t ∧ t { nx := fun _ G => Q .non G, rt := Q } (start N vs) H) : FnOk P w K mg base CX0 (k + 1) f fd ps sp := by
  obtain ⟨oc, od, kV, doc, pm, an, ct, osl, rfl, lk, hcd⟩ := F.ex
  refine fn_of lk hcd S len fun A outer s H vs Q E hr hsp => ?_
  obtain ⟨t, p, q⟩ := h A outer s H vs Q E hr hsp
  exact ⟨t, p.nox, q⟩

/-- the word of the error of the class at R that the lambda raises; nothing: the text "" -/
def TTw (R : Addr) : (XK → Hp → VK → Prop) → Hp → VK → Prop := fun tl H Q =>
  tl (fun cls d G => cls = .ref R ∧ ∃ y s, d = some y ∧ G y = some (.xd [("word", .str s)]) ∧ Q (.str s) G) H (fun _ G => ∃ v : V, (some (some (V.str "")) : Option (Option V)) = some (some v) ∧ Q v G)
/-- a wish needs to be told of slots of the right number alone -/
theorem takes_len {X : Cx} {W : WX} (tk : Takes X W) : Takes X (fun cls d σ H => σ.length = X.N.length → W cls d σ H) := fun u s' x => by
  obtain ⟨a, B, sI, pins, σ, H, cls, d, e, I, nb, up, sky, na, os, ag, w⟩ := x
  exact tk u s' ⟨a, B, sI, pins, σ, H, cls, d, e, I, nb, up, sky, na, os, ag, w I.len⟩
theorem FunC.fn {K : PySem.W.Frag} {x qual : Str} {st : Stmt} {f c : Addr} {fd : FuncData} (F : FunC K x qual st f fd c) : Fun K x qual st f fd := by
  obtain ⟨⟨oc, od, kV, doc, pm, an, ct, osl, e, lk, hcd⟩, kp⟩ := F
  exact ⟨⟨oc, od, kV, doc, pm, an, _, ct, osl, e, lk, hcd⟩, kp⟩
/-- what a lambda's body lets out is what is wished of the lambda -/
theorem passLam {X : Cx} {A : Around} {outer : List Env} {s : Shared} {H : Hp} {E : XK} {scope : Scope} {f c' : Addr} : Passes (L2.CX X.prog X.w) (lamCx X A outer s H E scope f c') E :=
  passes_call (X := lamCx X A outer s H E scope f c') (W := fun cls d _ H => E cls d H) (takes_of rfl rfl rfl rfl) fun _ _ _ _ h => h
/-- behind a lambda that raised: all but the tables is kept, and the tables stand -/
theorem after {T : List (Addr × Str)} {H H1 G : Hp} {y : Addr} {o : HO} (e1 : ExtN H H1) (t1 : Tabs T H1) (s1 : Same H1 G) (ny : G y = none) : ExtN H (upd G y o) ∧ Tabs T (upd G y o) := by
  have s2 := s1.trans (same_upd (o := o) ny)
  exact ⟨e1.trans (.of s2), t1.ext s2⟩
theorem RatAt.ext {C : Addr} {H H' : Hp} {v : V} {t b : Int} (r : RatAt C H v t b) (s : ExtN H H') : RatAt C H' v t b := by
  obtain ⟨a, dx, e, h⟩ := r
  exact ⟨a, dx, e, s _ _ h fun _ z => by cases z⟩
end MoL

/-! # A walk over a list or over a tuple; classes by their facts alone -/
namespace MoL
open PySem PySem.Spec PyProof.Rows L2 MoW
theorem pi_or {X : Cx} {tg e : Expr} {t t' : TI} (p : PI X tg e t) (q : PI X tg e t') : PI X tg e (fun σ H R => t σ H R ∨ t' σ H R) :=
  ⟨fun pins s σ H R I h => h.elim (p.run pins s σ H R I) (q.run pins s σ H R I)⟩
/-- what the written part says of a class of plain instances with operators; the fields' names apart -/
structure OwnB (K : PySem.W.Frag) (C : Addr) : Prop where
  cl : Cls K C
  ow : OwnC K C
  ha : PySem.W.findIn K (.ref C) "__class__" = some (some (.builtin "object.__class__"))
  hn : PySem.W.specialIn K (.builtin "object.__class__") "__get__" = some (some (.builtin "getset_descriptor.__get__"))
  htk : PySem.W.takesIn K (.builtin "object.__class__") = some true
  hm : PySem.W.mroIn K C (.type "object") = some true
  ki : PySem.W.kitOne K (.ref C) (.type "int") = some false
  ik : PySem.W.kitOne K (.type "int") (.ref C) = some false
theorem OwnB.ty {K : PySem.W.Frag} {C : Addr} {H : Hp} {a dx : Addr} {fs : List (Str × V)} (k : OwnB K C) (h : H a = some (.ins C dx fs)) : TyX K H (.ref a) (.ref C) :=
  .base (.ins h k.cl k.ha k.hn k.htk k.hm)

/-! ### a def that declines: its first row is «if not ..: return NotImplemented» -/
/-- behind such a call: the answer, and the heap as it was -/
def Declines (outer : List Env) (P : Program) (w : World) (H : Hp) (s : Shared) (r : Result) (s' : Shared) : Prop := r = .ok (.ret .notImplemented) ∧ CE outer P w H s (fun v G => v = .non ∧ G = H) .none s'
theorem fn_no {CX : CXT} {P : Program} {w : World} {K : PySem.W.Frag} {mg : Str → Option Value} {base : Heap} {k : Nat} {f : Addr} {name qual : Str} {params : Arguments} {scope : Scope} {dV kV doc pm cdv ct oc : Value} {an od : Option Addr} {osl : Array (Option Value)}
    {N ps : List Str} {test : Expr} {rest : List Stmt} {p1 p2 p3 : Pos}
    (lk : K.lookup f = some ⟨oc, od, .func (PySem.W.fnOf name qual params (.If test [.Return (some (.Name "NotImplemented" p1)) p2] [] p3 :: rest) scope dV kV doc pm an cdv ct), osl⟩) (hcd : PySem.W.codeIn K cdv qual = true) (S : FnScope N ps scope)
    (hg : scope.names.lookup ("NotImplemented" : Str) = some NameKind.globalImplicit) (hmg : mg "NotImplemented" = none) {A : Around} {outer : List Env} {s : Shared} {H : Hp} {args : Args} {us : List Value} {vs : List V} (hl : vs.length = ps.length) (room : Room (k + 1) A)
    (e0 : Env0 P w K mg base A outer s H) (hb : BindsTo s (PySem.W.fnOf name qual params (.If test [.Return (some (.Name "NotImplemented" p1)) p2] [] p3 :: rest) scope dV kV doc pm an cdv ct) args (ps.zip us)) (r : Vals vs us)
    (ht : Room k (A.deeper (envOfC qual scope s.heap.objs.size f cdv)) → ∃ t, PT (cxOf CX P w K mg base N qual scope f cdv A outer s H (fun _ _ _ => False)) test t ∧ t (start N vs) H (fun b G => b = true ∧ G = H)) :
    codeAny (model P w) A (.call (.ref f) args) (fun r s' => Declines outer P w H s r s' ∨ ∃ e, r = .error e ∧ CX outer H s (fun _ _ _ => False) e s') s := by
  have KX : K.In s.heap := e0.mod.kin.keeps fun b o z => (e0.bs b o z).1
  have lim : s.heap.NoLimit := e0.mod.nolimit.keeps fun b o z => (e0.bs b o z).1
  have kinds : ∀ y ∈ ps.zip us, scope.names.lookup y.1 = some .local ∨ (scope.names.lookup y.1 = some .cell ∧ ((cellsFrom (s.heap.objs.size + 1) scope.names []).lookup y.1).isSome = true) := by
    rintro ⟨n, v⟩ hy
    rcases S.par n (List.of_mem_zip hy).1 with q | q
    · exact .inl q
    · exact .inr ⟨q, PySem.W.cellsFrom_some _ _ _ (.inl q)⟩
  refine codeAny_call_function room.depth (KX _ _ lk) rfl S.co S.gen rfl (PySem.W.codeRec_of KX hcd) (hb _ _ _ _ ?_)
  refine wpAny_newFunctionEnv_cells S.kind kinds ?_
  rintro env rfl s1 x
  refine ⟨lim.keeps x.toInCall.keep, codeAny_func ?_⟩
  obtain ⟨t, pt, hq⟩ := ht (room.deeper _)
  have I : Inv (cxOf CX P w K mg base N qual scope f cdv A outer s H (fun _ _ _ => False)) [] (start N vs) H s1 := inv_start S room.hd e0 hl r x
  refine wpAny_mono (Q := fun fl s' => fl = .ret .notImplemented ∧ Inv (cxOf CX P w K mg base N qual scope f cdv A outer s H (fun _ _ _ => False)) [] (start N vs) H s') (wpAny_execs_cons (wpAny_If (thn (pt.run [] s1 _ H _ I hq) ?_))) ?_ ?_
  · rintro d s2 ⟨H2, I2, rfl, rfl⟩
    have g : Gl (cxOf CX P w K mg base N qual scope f cdv A outer s H2 (fun _ _ _ => False)) "NotImplemented" := hg
    exact wpAny_execs_cons (wpAny_Return_some (ld_blt I2 g hmg PyProof.Rows.Boot.«NotImplemented» ⟨rfl, I2⟩))
  · rintro fl s' ⟨rfl, J⟩
    exact .inl ⟨rfl, .non, H, J.os, J.bare, J.base, J.hok, rfl, rfl, rfl⟩
  · intro e s' hs
    exact wpAny_mono hs (fun _ s2 z => .inr ⟨e, rfl, z⟩) fun e2 s2 z => .inr ⟨e2, rfl, z⟩
end MoL

namespace MoW
open PySem PySem.W PyProof.Rows
section
variable {prog : Program} {w : World} {A : Around} {E : Value → Shared → Prop} {s : Shared} {K : Frag} {x y C D L f g fr : Addr} {ox oy : Obj} {od od' : Option Obj} {h₀ : Heap} {m : Str → Option Value}
/-- an instance beside one of another class: its own method declines, the other's mirrored one answers -/
theorem bin_own_other {op : Operator} {Q : Value → Shared → Prop} {R : Shared → Prop} {f' g' : Addr} (X : K.In s.heap) (I : W.InstAt s.heap x ox C od) (J : W.InstAt s.heap y oy D od') (hc : selfFirst K C = true) (hd : selfFirst K D = true) (hne : C ≠ D)
    (hn : subIn K (.ref D) (.ref C) = some false) (h1 : findIn K (.ref C) (PySem.dunder op.info.2) = some (some (.ref f))) (hf : isFn K (.ref f) = true) (h1r : findIn K (.ref C) (dunderR op.info.2) = some (some (.ref f')))
    (h2 : findIn K (.ref D) (PySem.dunder op.info.2) = some (some (.ref g'))) (h2r : findIn K (.ref D) (dunderR op.info.2) = some (some (.ref g))) (hg : isFn K (.ref g) = true)
    (a : wpAny (model prog w) A (call (.ref f) [.ref x, .ref y]) (fun v s' => v = .notImplemented ∧ R s') E s)
    (b : ∀ s', R s' → K.In s'.heap ∧ (∃ ox' o1, W.InstAt s'.heap x ox' C o1) ∧ (∃ oy' o2, W.InstAt s'.heap y oy' D o2) ∧ wpAny (model prog w) A (call (.ref g) [.ref y, .ref x]) (W.CmpBack Q) E s') : wpAny (model prog w) A (binaryOp op (.ref x) (.ref y)) Q E s := by
  obtain ⟨cd, rest, hcd, hm⟩ := mro_first (K := K) (C := C) (cd := default) hc
  obtain ⟨dd, rest2, hdd, hm2⟩ := mro_first (K := K) (C := D) (cd := default) hd
  unfold binaryOp
  refine wpAny_holding (wpAny_bind ?_)
  unfold binaryOp1
  refine wpAny_bind (I.type.here (wpAny_bind (J.type.here (wpAny_bind ((fills_K X hcd hm h1).here ?_)))))
  have ne : (Value.ref C == Value.ref D) = false := by simpa using hne
  simp only [ne, Bool.false_eq_true, if_false]
  refine wpAny_bind ((fills_K X hdd hm2 h2).here ?_)
  simp only [Bool.and_self, if_true]
  refine wpAny_bind ((looks_subIn X hn).here ?_)
  simp only [Bool.false_eq_true, if_false, pure_bind, Bool.not_false, Bool.and_self, if_true]
  have py : ∀ {Z p q : Addr}, findIn K (.ref Z) (PySem.dunder op.info.2) = some (some (.ref p)) → findIn K (.ref Z) (dunderR op.info.2) = some (some (.ref q)) → Looks (model prog w) s.heap (numberSlotInPython (.ref Z) op.info.2) true := by
    intro Z p q z1 z2
    unfold numberSlotInPython
    refine (looks_findIn X z1).andThen (Looks.andThen (a := true) .now ?_)
    exact (looks_findIn X z2).andThen (Looks.andThen (a := true) .now .now)
  refine wpAny_bind ((py h1 h1r).here ?_)
  simp only [if_true]
  refine wpAny_bind ((py h2 h2r).here ?_)
  simp only [Bool.not_true, Bool.false_eq_true, if_false]
  refine wpAny_bind (m := tryMethod (.ref x) _ (.ref y)) ?_
  unfold tryMethod
  refine wpAny_bind (special_fn X I h1 (beq_iff_eq.mp hf) (wpAny_mono a (fun v s' hv => ?_) fun _ _ e => e))
  obtain ⟨rfl, hR⟩ := hv
  obtain ⟨X2, ⟨ox', o1, I2⟩, ⟨oy', o2, J2⟩, b2⟩ := b s' hR
  refine wpAny_pure (wpAny_bind (I2.type.here (wpAny_bind (J2.type.here ?_))))
  rw [ne]
  simp only [Bool.false_eq_true, if_false]
  refine wpAny_bind (m := tryMethod (.ref y) _ (.ref x)) ?_
  unfold tryMethod
  refine wpAny_bind (special_fn X2 J2 h2r (beq_iff_eq.mp hg) (wpAny_mono b2 (fun v s' hv => ?_) fun _ _ e => e))
  cases v <;> first | exact hv.elim | exact wpAny_pure (wpAny_bind (wpAny_rule (wpAny_pure (wpAny_pure hv))))
end
end MoW
namespace MoL
open PySem PySem.Spec PyProof.Rows L2 MoW
/-- a def that declines these values -/
def FnNo (P : Program) (w : World) (K : PySem.W.Frag) (mg : Str → Option Value) (base : Heap) (CX : CXT) (k : Nat) (f : Addr) (pre : List V → Hp → Prop) : Prop :=
  ∀ (A : Around) (outer : List Env) (s : Shared) (H : Hp) (us : List Value) (vs : List V), Room k A → Env0 P w K mg base A outer s H → Vals vs us → pre vs H →
    codeAny (model P w) A (.call (.ref f) ⟨us, []⟩) (fun r s' => Declines outer P w H s r s' ∨ ∃ e, r = .error e ∧ CX outer H s (fun _ _ _ => False) e s') s
section
variable {X : Cx} {CX CX' : CXT} {k k' : Nat} {C D f f' g g' : Addr} {fd : FuncData} {ps : List Str} {sp : Sp} {E : XK} {pre : List V → Hp → Prop}
/-- x op y: x's own def declines, y's mirrored one answers -/
theorem op_other {op : Operator} (c : OwnC X.K C) (d : OwnC X.K D) (ne : C ≠ D) (sub : PySem.W.subIn X.K (.ref D) (.ref C) = some false) (m : Meth X.K C (PySem.dunder op.info.2) f) (mr : Meth X.K C (dunderR op.info.2) f') (m2 : Meth X.K D (PySem.dunder op.info.2) g')
    (m2r : Meth X.K D (dunderR op.info.2) g) (no : FnNo X.prog X.w X.K X.mg X.base CX' k' f pre) (hr' : Room k' X.A) (never : ∀ (H : Hp) s e s', CX' X.stack H s (fun _ _ _ => False) e s' → False) (run : FnOk X.prog X.w X.K X.mg X.base CX k g fd ps sp) (hr : Room k X.A)
    (hb : Binds X.K fd ps []) (hx : Passes CX X E) : OpR X (binaryOp op) (fun x y H Q => Ins H x C ∧ Ins H y D ∧ pre [x, y] H ∧ sp [y, x] H Q E) := by
  intro pins s σ H x y v u Q I rx ry h
  obtain ⟨⟨a, dx, fs, rfl, ha⟩, ⟨b, dy, gs, rfl, hb'⟩, hp, hs⟩ := h
  cases (show v = Value.ref a from rx)
  cases (show u = Value.ref b from ry)
  obtain ⟨od, J⟩ := ins_at I ha
  obtain ⟨od', J'⟩ := ins_at I hb'
  refine bin_own_other (R := fun s' => Inv X pins σ H s') I.kIn J J' c.first d.first ne sub m.at_ m.fn mr.at_ m2.at_ m2r.at_ m2r.fn ?_ ?_
  · refine wpAny_call (codeAny_mono (no X.A X.stack s H [.ref a, .ref b] [.ref a, .ref b] hr' I.env0 (.cons rfl (.cons rfl .nil)) hp) ?_)
    rintro r s' (⟨rfl, ce⟩ | ⟨e, rfl, z⟩)
    · obtain ⟨w0, G, I2, _, ⟨_, rfl⟩⟩ := I.after ce
      exact ⟨rfl, I2⟩
    · exact (never H s e s' z).elim
  · intro s' I2
    obtain ⟨o1, K1⟩ := ins_at I2 ha
    obtain ⟨o2, K2⟩ := ins_at I2 hb'
    exact ⟨I2.kIn, ⟨_, o1, K1⟩, ⟨_, o2, K2⟩, thn (run_fn (us := [.ref b, .ref a]) (vs := [.ref b, .ref a]) run hr hb .nil hx I2 (.cons rfl (.cons rfl .nil)) hs) fun v s' q => ep_back q⟩
end
/-- a def of the text that declines what its first row tells -/
theorem no_of {P : Program} {w : World} {K : PySem.W.Frag} {mg : Str → Option Value} {base : Heap} {x qual : Str} {st : Stmt} {f : Addr} {fd : FuncData} {N ps : List Str} {k : Nat} {test : Expr} {rest : List Stmt} {p1 p2 p3 : Pos} {pre : List V → Hp → Prop}
    (F : Fun K x qual st f fd) (S : FnScope N ps (defScope st)) (hst : defBody st = .If test [.Return (some (.Name "NotImplemented" p1)) p2] [] p3 :: rest) (hg : (defScope st).names.lookup ("NotImplemented" : Str) = some NameKind.globalImplicit) (hmg : mg "NotImplemented" = none)
    (hb : Binds K fd ps []) (len : ∀ vs H, pre vs H → vs.length = ps.length)
    (ht : ∀ (cdv : Value) (A : Around) (outer : List Env) (s : Shared) (H : Hp) (vs : List V), Room k (A.deeper (envOfC qual (defScope st) s.heap.objs.size f cdv)) → pre vs H →
      ∃ t, PT (cxOf CX0 P w K mg base N qual (defScope st) f cdv A outer s H (fun _ _ _ => False)) test t ∧ t (start N vs) H (fun b G => b = true ∧ G = H)) : FnNo P w K mg base CX0 (k + 1) f pre := by
  obtain ⟨oc, od, kV, doc, pm, an, cdv, ct, osl, rfl, lk, hcd⟩ := F.ex
  rw [hst] at lk hb
  intro A outer s H us vs room e0 r hp
  have hl := len vs H hp
  have KX : K.In s.heap := e0.mod.kin.keeps fun b o z => (e0.bs b o z).1
  have hlu : (us ++ []).length = ps.length := by
    rw [List.append_nil, ← r.length]
    exact hl
  have bd := hb s us KX hlu
  rw [List.append_nil] at bd
  exact fn_no lk hcd S hg hmg hl room e0 bd r fun rm => ht cdv A outer s H vs rm hp
end MoL

/-! # None beside an instance under ==, and x in an instance -/
namespace MoW
open PySem PySem.W PyProof.Rows
section
variable {prog : Program} {w : World} {A : Around} {E : Value → Shared → Prop} {s : Shared} {K : Frag} {x C f : Addr} {ox : Obj} {od : Option Obj}
theorem none_eq_no (l : Addr) : Gives (Builtin.«NoneType.__eq__» ⟨[.none, .ref l], []⟩) (.val (Value.notImplemented)) :=
  .of_wp fun M A E s Q h => by obtain ⟨hp, g, d, tk, os⟩ := s; wp_walk; exact ⟨_, rfl, h⟩
/-- None == x: both decline, they are not one thing -/
theorem cmp_none_own {Q : Value → Shared → Prop} {R : Shared → Prop} (hu : A.units < cLine) (X : K.In s.heap) (I : W.InstAt s.heap x ox C od) (hn : subIn K (.ref C) (.type "NoneType") = some false)
    (hs : findIn K (.ref C) "__eq__" = some (some (.ref f))) (hf : isFn K (.ref f) = true)
    (h : wpAny (model prog w) A (call (.ref f) [.ref x, .none]) (fun v s' => v = .notImplemented ∧ Q (.bool false) s') E s) : wpAny (model prog w) A (richCompare .Eq .none (.ref x)) Q E s := by
  have ty : ∀ s' : Shared, s'.TypeIs .none "NoneType" := fun _ => rfl
  unfold richCompare
  simp only [(ty s).oneThing_none]
  refine wpAny_holding (wpAny_bind (wpAny_cRoomFor hu ?_))
  refine wpAny_bind (wpAny_typeOf (ty s) (wpAny_bind (I.type.here ?_)))
  have hne : (Value.type "NoneType" != Value.ref C) = true := rfl
  simp only [hne, if_true]
  refine wpAny_bind ((looks_subIn X hn).here ?_)
  simp only [Bool.false_eq_true, if_false, Bool.not_false, if_true]
  refine wpAny_bind (m := tryCompare .none _ (.ref x)) (wpAny_tryCompare_declines (ty s) PySem.F.slot_NoneType_eq (call_gives PySem.F.slot_NoneType_eq rfl PySem.F.entry_NoneType_eq (PySem.F.args_NoneType_eq_2 _ _) (none_eq_no x) ⟨rfl, ?_⟩))
  refine wpAny_bind (m := tryCompare (.ref x) _ .none) ?_
  unfold tryCompare
  refine wpAny_bind (ifBound_K X I hs hf (wpAny_mono h (fun v s' hv => ?_) fun _ _ e => e))
  obtain ⟨rfl, q⟩ := hv
  exact wpAny_pure (wpAny_bind (wpAny_rule (wpAny_bind (wpAny_of_eq (show isSame .none (.ref x) = pure false from rfl) (wpAny_pure q)))))
/-- x == None, x's own method declines -/
theorem cmp_own_none {Q : Value → Shared → Prop} {R : Shared → Prop} (hu : A.units < cLine) (X : K.In s.heap) (I : W.InstAt s.heap x ox C od) (hn : subIn K (.type "NoneType") (.ref C) = some false)
    (hs : findIn K (.ref C) "__eq__" = some (some (.ref f))) (hf : isFn K (.ref f) = true)
    (h : wpAny (model prog w) A (call (.ref f) [.ref x, .none]) (fun v s' => v = .notImplemented ∧ Q (.bool false) s') E s) : wpAny (model prog w) A (richCompare .Eq (.ref x) .none) Q E s := by
  have ty : ∀ s' : Shared, s'.TypeIs .none "NoneType" := fun _ => rfl
  unfold richCompare
  simp only [oneThing_ref]
  refine wpAny_holding (wpAny_bind (wpAny_cRoomFor hu ?_))
  refine wpAny_bind (I.type.here (wpAny_bind (wpAny_typeOf (ty s) ?_)))
  have hne : (Value.ref C != Value.type "NoneType") = true := rfl
  simp only [hne, if_true]
  refine wpAny_bind ((looks_subIn X hn).here ?_)
  simp only [Bool.false_eq_true, if_false, Bool.not_false, if_true]
  refine wpAny_bind (m := tryCompare (.ref x) _ .none) ?_
  have one : wpAny (model prog w) A (tryCompare (.ref x) "__eq__" .none) (fun r s' => r = none ∧ Q (.bool false) s') E s := by
    unfold tryCompare
    refine wpAny_bind (ifBound_K X I hs hf (wpAny_mono h (fun v s' hv => ?_) fun _ _ e => e))
    obtain ⟨rfl, q⟩ := hv
    exact wpAny_pure ⟨rfl, q⟩
  refine wpAny_mono one (fun r s' z => ?_) fun _ _ e => e
  obtain ⟨rfl, q⟩ := z
  refine wpAny_bind (m := tryCompare .none _ (.ref x)) (wpAny_tryCompare_declines (ty s') PySem.F.slot_NoneType_eq_refl (call_gives PySem.F.slot_NoneType_eq_refl rfl PySem.F.entry_NoneType_eq (PySem.F.args_NoneType_eq_2 _ _) (none_eq_no x) ⟨rfl, ?_⟩))
  exact wpAny_bind (wpAny_rule (wpAny_bind (wpAny_of_eq (show isSame (.ref x) .none = pure false from rfl) (wpAny_pure q))))
end
end MoW
namespace MoL
open PySem PySem.Spec PyProof.Rows L2 MoW
section
variable {X : Cx} {CX CX' : CXT} {k k' : Nat} {C D f f' g g' : Addr} {fd : FuncData} {ps : List Str} {sp : Sp} {E : XK} {pre : List V → Hp → Prop}
/-- x == None and None == x: not equal, the instance's own method declines -/
theorem op_eq_none (h1 : PySem.W.subIn X.K (.ref C) (.type "NoneType") = some false) (h2 : PySem.W.subIn X.K (.type "NoneType") (.ref C) = some false) (m : Meth X.K C "__eq__" f)
    (no : FnNo X.prog X.w X.K X.mg X.base CX' k' f pre) (hr' : Room k' X.A) (never : ∀ (H : Hp) s e s', CX' X.stack H s (fun _ _ _ => False) e s' → False) :
    OpR X (compareOp .Eq) (fun x y H Q => ((x = .non ∧ Ins H y C ∧ pre [y, .non] H) ∨ (y = .non ∧ Ins H x C ∧ pre [x, .non] H)) ∧ Q (.bl false) H) := by
  intro pins s σ H x y v u Q I rx ry h
  obtain ⟨h, q⟩ := h
  have run : ∀ a : Addr, pre [.ref a, .non] H → wpAny (model X.prog X.w) X.A (call (.ref f) [.ref a, .none]) (fun v s' => v = .notImplemented ∧ EP X pins σ Q (.bool false) s') X.xe s := fun a hp => by
    refine wpAny_call (codeAny_mono (no X.A X.stack s H [.ref a, .none] [.ref a, .non] hr' I.env0 (.cons rfl (.cons rfl .nil)) hp) ?_)
    rintro r s' (⟨rfl, ce⟩ | ⟨e, rfl, z⟩)
    · obtain ⟨w0, G, I2, _, ⟨_, rfl⟩⟩ := I.after ce
      exact ⟨rfl, .bl false, _, I2, rfl, q⟩
    · exact (never H s e s' z).elim
  rcases h with ⟨rfl, ⟨a, dx, fs, rfl, ha⟩, hp⟩ | ⟨rfl, ⟨a, dx, fs, rfl, ha⟩, hp⟩
  · cases (show v = Value.none from rx)
    cases (show u = Value.ref a from ry)
    obtain ⟨od, J⟩ := ins_at I ha
    exact cmp_none_own (R := fun _ => True) hr'.units0 I.kIn J h1 m.at_ m.fn (run a hp)
  · cases (show v = Value.ref a from rx)
    cases (show u = Value.none from ry)
    obtain ⟨od, J⟩ := ins_at I ha
    exact cmp_own_none (R := fun _ => True) hr'.units0 I.kIn J h2 m.at_ m.fn (run a hp)
/-- x in an instance -/
theorem op_in_own (m : Meth X.K C "__contains__" f) (F : FnOk X.prog X.w X.K X.mg X.base CX k f fd ps sp) (hr : Room k X.A) (hb : Binds X.K fd ps []) (hx : Passes CX X E) :
    OpR X (compareOp .In) (fun x y H Q => Ins H y C ∧ sp [y, x] H (fun v H' => ∃ b, v = .bl b ∧ Q (.bl b) H') E) := by
  intro pins s σ H x y v u Q I rx ry h
  obtain ⟨⟨a, dx, fs, rfl, ha⟩, hs⟩ := h
  cases (show u = Value.ref a from ry)
  obtain ⟨od, J⟩ := ins_at I ha
  obtain ⟨mm, hF⟩ := I.fr
  refine PySem.W.in_K hF I.ok.mod.kin J m.at_ m.fn (thn (run_fn (us := [.ref a, v]) (vs := [.ref a, x]) F hr hb .nil hx I (.cons rfl (.cons rx .nil)) hs) fun r s' q => ?_)
  obtain ⟨z, H', I', r1, b, rfl, q⟩ := q
  cases (show r = Value.bool b from r1)
  exact wpAny_truthy_bool ⟨.bl b, H', I', rfl, q⟩
end
/-- a list read by place, the written part named (in a lambda's body the context must not show) -/
theorem ix_listK {X : Cx} {K : PySem.W.Frag} (h : X.K = K) : IxR X (rIxL K) := h ▸ ix_list
end MoL

/-! # math.lcm of long numbers, math.comb, a comprehension over zip -/
namespace MoL
open PySem PySem.Spec PyProof.Rows L2 MoW
section
variable {X : Cx}
def rLcm : List V → Hp → VK → Prop := fun vs H Q => ∃ a b : Int, vs = [.int a, .int b] ∧ Sm a ∧ Sm b ∧ Q (.int ((Nat.lcm a.natAbs b.natAbs : Nat) : Int)) H
theorem cr_lcm : CallR X (.builtin "math.lcm") rLcm := by
  intro pins s σ H vs us Q I r h
  obtain ⟨a, b, rfl, sa, sb, q⟩ := h
  obtain ⟨t, u, rfl⟩ := Vals.int2 r
  have la : a.natAbs.log2 < 4000 + 1 := Nat.lt_succ_of_le (Nat.le_of_lt_succ (Nat.lt_succ_of_lt (PySem.Flt.log2_lt_of (by decide) sa)))
  have lb : b.natAbs.log2 < 4000 + 1 := Nat.lt_succ_of_le (Nat.le_of_lt_succ (Nat.lt_succ_of_lt (PySem.Flt.log2_lt_of (by decide) sb)))
  have m1 : (max 1 a.natAbs).log2 < 4001 := by
    rcases Nat.le_total 1 a.natAbs with h | h
    · rw [Nat.max_eq_right h]; exact la
    · rw [Nat.max_eq_left h]; decide
  have m2 : (max a.natAbs b.natAbs).log2 < 4001 := by
    rcases Nat.le_total a.natAbs b.natAbs with h | h
    · rw [Nat.max_eq_right h]; exact lb
    · rw [Nat.max_eq_left h]; exact la
  have hsz : ((((Nat.lcm 1 a.natAbs).lcm b.natAbs : Nat) : Int)).natAbs.log2 < bitsLine := by
    rw [PySem.W.mc_lcm_one]
    have h1 : a.natAbs.lcm b.natAbs < 2 ^ 8000 := Nat.lt_of_le_of_lt (PySem.W.mc_lcm_le _ _) (Nat.lt_of_lt_of_le (Nat.mul_lt_mul'' sa sb) (by rw [← Nat.pow_add]; exact Nat.le_refl _))
    have h2 : ((a.natAbs.lcm b.natAbs : Nat) : Int).natAbs.log2 < 8000 := PySem.Flt.log2_lt_of (by decide) h1
    exact Nat.lt_of_lt_of_le h2 (by decide)
  have e : ((((Nat.lcm 1 a.natAbs).lcm b.natAbs : Nat) : Int)) = ((a.natAbs.lcm b.natAbs : Nat) : Int) := by rw [PySem.W.mc_lcm_one]
  exact call_function_meets PySem.W.MGF.kind_lcm PySem.W.MGF.plain_lcm PySem.W.MGF.entry_lcm (PySem.W.MGF.args_lcm _ _) (PySem.W.mg_run_lcm a t b u (by omega) (by omega) hsz).meets (e ▸ ⟨.int _, H, I.tok _, ⟨_, rfl⟩, q⟩)
def rComb : List V → Hp → VK → Prop := fun vs H Q => ∃ a b : Int, vs = [.int a, .int b] ∧ 0 ≤ a ∧ 0 ≤ b ∧ a < 1000 ∧ b < 1000 ∧ Q (.int (PySem.W.mcComb a b)) H
theorem cr_comb : CallR X (.builtin "math.comb") rComb := by
  intro pins s σ H vs us Q I r h
  obtain ⟨a, b, rfl, ha, hb, ha2, hb2, q⟩ := h
  obtain ⟨t, u, rfl⟩ := Vals.int2 r
  exact PySem.W.mc_comb ha hb (by omega) (.inl (by omega)) fun _ => ⟨.int _, H, I.tok _, ⟨_, rfl⟩, q⟩
end
/-- [e for a, b in zip(xs, ys)]: both lists stay -/
theorem lc_zip {K : PySem.W.Frag} {a b : Addr} {xs ys : List V} {g : TG} {tt : TT} {te : TE} {vs : List Nat} {σ : L2.St} {H1 : Hp} {D : Addr} {Qd : Hp → Prop} (Pv : Nat → Hp → Prop) (h0 : Pv 0 (upd H1 D (.lst [])))
    (hl : ∀ i H, i ≤ min xs.length ys.length → Pv i H → SqL K H a xs ∧ SqL K H b ys)
    (hs : ∀ i x y H T, xs[i]? = some x → ys[i]? = some y → H T = none → Pv i H → g (.ref T) (wipe σ vs) (upd H T (.tup [x, y])) fun σ2 H2 => wipe σ2 vs = wipe σ vs ∧ tt σ2 H2 fun b H3 =>
      if b = true then te σ2 H3 fun y H4 => ∃ acc, H4 D = some (.lst acc) ∧ acc.length < sizeLine ∧ Pv (i + 1) (upd H4 D (.lst (acc ++ [y]))) else Pv (i + 1) H3) (hd : ∀ H, Pv (min xs.length ys.length) H → Qd H) :
    ∃ W : Nat → Nat → Hp → Prop, (∃ m, W 0 m (upd H1 D (.lst []))) ∧ ∀ i m H, W i m H →
      ((Itz K a b).stop i H ∧ Qd H) ∨ ((Itz K a b).go i H ∧ ∃ Nx : Hp → Prop, (∀ H', Nx H' → ∃ m', m' < m ∧ W (i + 1) m' H') ∧ ∀ x H', (Itz K a b).yld i H x H' → g x (wipe σ vs) H' fun σ2 H2 => wipe σ2 vs = wipe σ vs ∧ tt σ2 H2 fun b H3 =>
        if b = true then te σ2 H3 fun y H4 => ∃ acc, H4 D = some (.lst acc) ∧ acc.length < sizeLine ∧ Nx (upd H4 D (.lst (acc ++ [y]))) else Nx H3) := by
  refine ⟨fun i m H => m = min xs.length ys.length - i ∧ i ≤ min xs.length ys.length ∧ Pv i H, ⟨min xs.length ys.length, by simp, Nat.zero_le _, h0⟩, ?_⟩
  rintro i m H ⟨rfl, hi, p⟩
  obtain ⟨q1, q2⟩ := hl i H hi p
  by_cases hlt : i < min xs.length ys.length
  · have l1 : i < xs.length := by omega
    have l2 : i < ys.length := by omega
    refine .inr ⟨⟨xs, ys, xs[i], ys[i], q1, q2, List.getElem?_eq_getElem l1, List.getElem?_eq_getElem l2⟩, Pv (i + 1), fun H' h => ⟨_, by omega, rfl, by omega, h⟩, ?_⟩
    rintro x H' ⟨T, u, v, rfl, hT, rfl, e1, e2⟩
    exact hs i u v H T (e1 _ q1) (e2 _ q2) hT p
  · have e : i = min xs.length ys.length := by omega
    subst e
    exact .inl ⟨⟨xs, ys, q1, q2, by omega⟩, hd H p⟩
/-! ### f(e, .., k = v) in a body whose errors are caught -/
def tCallNS (n m : Nat) (sp : Sp) (gV : List V → List V → List V) (W : L2.St → XK) (t tk : TA) : TE := fun σ H Q => t σ H fun vs H1 => tk σ H1 fun zs H2 => vs.length = n ∧ zs.length = m ∧ sp (gV vs zs) H2 Q (W σ)
section
variable {X : Cx} {CX : CXT} {k n : Nat} {f : Addr} {fd : FuncData} {ps ks : List Str} {sp : Sp} {W : L2.St → XK} {x : Str} {p pos : Pos} {e : Expr} {es : List Expr} {kws : List Keyword} {t tk : TA} {g : List Value → List Value → List Value} {gV : List V → List V → List V}
theorem pe_callNS (F : FnOk X.prog X.w X.K X.mg X.base CX k f fd ps sp) (hr : Room k X.A) (hg : Gl X x) (hm : X.mg x = some (.ref f)) (hk : PySem.W.keepIn X.K (.ref f) = true) (hb : KBn X.K fd ps n ks g gV) (hx : ∀ σ, PassesAt CX X σ (W σ))
    (ha : PA X (e :: es) t) (hkw : PK X kws tk) (hall : (backToKw pos (keywordEach kws X.env)).all (·.1.isSome) = true := by rfl) (hks : (backToKw pos (keywordEach kws X.env)).filterMap (·.1) = ks := by rfl)
    (hdb : (x == ("__debug__" : Str)) = false := by decide) (he : starEach (e :: es) X.env = (false, eval e X.env) :: starEach es X.env := by rfl)
    (hpl : ((backTo pos (starEach (e :: es) X.env)).any (·.1) || (backToKw pos (keywordEach kws X.env)).any (·.1.isNone)) = false := by rfl) :
    PE X (.Call (.Name x p) (e :: es) kws pos) (tCallNS n ks.length sp gV W t tk) := by
  refine ⟨fun pins s σ H Q I h => ?_⟩
  refine wpAny_Call_Name_kw (ld_glob I hg hm ?_ hdb)
  refine PySem.W.callWith_KW (h₀ := X.base) I.ok.mod.kin hk hall (thn (ha.run pos pins s σ H _ I h) fun us s1 ⟨vs, H1, I1, r, q⟩ => ?_) hpl he
  refine thn (hkw.run pos pins s1 σ H1 _ I1 q) fun ws s2 ⟨zs, H2, I2, rz, l1, l2, q2⟩ => ⟨I2.kIn, ?_⟩
  rw [hks]
  have r2 := hb.rel r rz
  refine wpAny_call (codeAny_mono (F.run X.A X.stack s2 H2 ⟨us, ks.zip ws⟩ (g us ws) (gV vs zs) Q (W σ) hr I2.env0 (hb.to s2 us ws I2.kIn (r.length.symm.trans l1) (rz.length.symm.trans l2)) r2 q2) fun r s' hq => ?_)
  cases r with
  | error e => exact hx σ pins _ _ e s' I2 hq
  | ok fl =>
    cases fl with
    | ret u => exact I2.after hq
    | next => exact False.elim hq
    | brk => exact False.elim hq
    | cont => exact False.elim hq
end
/-- a field, the written part named (in a comprehension's block the context must not show) -/
theorem pe_fldK {X : Cx} {K : PySem.W.Frag} {e : Expr} {f : Str} {pos : Pos} {ta : TE} (h : X.K = K) (he : PE X e ta) (hb : attributeBase e f X.env (eval e X.env) = eval e X.env) : PE X (.Attribute e f pos) (tFld K ta f) := h ▸ pe_fld he hb
theorem pg_tupK {X : Cx} {K : PySem.W.Frag} {es : List Expr} {k n : Nat} {pos : Pos} {t : TGs} (h : X.K = K) (hc : X.calm = true) (hp : PGs X es t)
    (hn : (assignEach es X.env).length = n := by rfl) (hst : (assignEach es X.env).findIdx? (·.1) = none := by rfl) : PG X (.Tuple es k pos) (gTup K n t) := h ▸ pg_tup hc hp hn hst
end MoL

/-! # Errors without fields that are caught, calls with keywords alone -/
namespace MoL
open PySem PySem.Spec PyProof.Rows L2 MoW
def rIsNo (K : PySem.W.Frag) (a : Addr) (cls : Value) (d : Option Addr) (D : Addr) : List V → Hp → VK → Prop := fun xs H Q => ∃ (c : V) (cv : Value) (b : Bool), xs = [.ref a, c] ∧ cls = .ref D ∧ d = none ∧ ClsV c cv ∧ PySem.W.kitOne K (.ref D) cv = some b ∧ Q (.bl b) H
theorem call_isN {X : Cx} {a D : Addr} {oe : Obj} {cls : Value} {d : Option Addr} {pn : List (Addr × Obj)} (C : ExcC X.K D) (hz : Zc cls d oe) (hf : ∃ vs, oe.data = .fields vs) : CallR (X.suite a ((a, oe) :: pn)) (.builtin "isinstance") (rIsNo X.K a cls d D) := by
  intro pins s σ H xs us Q I r h
  obtain ⟨c, cv, b, rfl, rfl, rfl, hc, e, q⟩ := h
  exact call_isE C hz hf pins s σ H _ us Q I r ⟨c, cv, b, rfl, fun u r => hc.eq r, e, q⟩
theorem ErrC.em {K : PySem.W.Frag} {M C : Addr} {nm : Str} (e : ErrC K M C nm) : PySem.W.exmOne K (.ref C) (.ref C) = some true := PySem.W.exm_ref e.exc e.row.dict e.row.ty (by rw [e.row.sub]; simp)
section
variable {X : Cx} {CX : CXT} {k : Nat} {f : Addr} {fd : FuncData} {ps ks : List Str} {sp : Sp} {E : XK} {x : Str} {p pos : Pos} {kws : List Keyword} {tk : TA} {g : List Value → List Value → List Value} {gV : List V → List V → List V}
theorem pe_callN0 (F : FnOk X.prog X.w X.K X.mg X.base CX k f fd ps sp) (hr : Room k X.A) (hg : Gl X x) (hm : X.mg x = some (.ref f)) (hk : PySem.W.keepIn X.K (.ref f) = true) (hb : KBn X.K fd ps 0 ks g gV) (hx : Passes CX X E) (hkw : PK X kws tk)
    (hall : (backToKw pos (keywordEach kws X.env)).all (·.1.isSome) = true := by rfl) (hks : (backToKw pos (keywordEach kws X.env)).filterMap (·.1) = ks := by rfl) (hdb : (x == ("__debug__" : Str)) = false := by decide)
    (hpl : ((backTo pos (starEach [] X.env)).any (·.1) || (backToKw pos (keywordEach kws X.env)).any (·.1.isNone)) = false := by rfl) :
    PE X (.Call (.Name x p) [] kws pos) (tCallN 0 ks.length sp gV E tNil tk) := by
  refine ⟨fun pins s σ H Q I h => ?_⟩
  refine wpAny_Call_Name_kw (ld_glob I hg hm ?_ hdb)
  refine PySem.W.callWith_KW0 (h₀ := X.base) I.ok.mod.kin hk hall ?_ hpl
  refine thn (hkw.run pos pins s σ H _ I h) fun ws s2 ⟨zs, H2, I2, rz, l1, l2, q2⟩ => ⟨I2.kIn, ?_⟩
  rw [hks]
  exact run_fnN (us := []) (vs := []) F hr hb hx I2 .nil rz rfl l2 q2
end
end MoL

namespace MoL
open PySem PySem.Spec PyProof.Rows L2 MoW
/-- a slice inside a comprehension -/
theorem sl_listK {X : Cx} {K : PySem.W.Frag} (h : X.K = K) : SlR X (rSlL K) := h ▸ sl_list
end MoL

/-! # Exact fractions as Rats: a Ratio's fields are the numerator and the denominator -/
namespace MoL
open PySem PySem.Spec PyProof.Rows L2 MoW
/-! # Exact fractions: the fields of a Ratio are the numerator and the denominator of a Rat -/
theorem den_pos (x : Rat) : (0 : Int) < (x.den : Int) := Int.natCast_pos.mpr x.den_pos
theorem ine (i : Int) (h : i ≠ 0) : (i : Rat) ≠ 0 := fun z => h (by exact_mod_cast z)
theorem den_ne (x : Rat) : (((x.den : Nat) : Int) : Rat) ≠ 0 := ine _ (by have := den_pos x; omega)
theorem num_is (x : Rat) : (x.num : Rat) = x * (((x.den : Nat) : Int) : Rat) := by
  have h := Rat.num_divInt_den x
  rw [Rat.divInt_eq_div] at h
  have h2 := den_ne x
  generalize (((x.den : Nat) : Int) : Rat) = d at *
  generalize (x.num : Rat) = n at *
  grind
theorem inj {a b : Int} (h : (a : Rat) = b) : a = b := by exact_mod_cast h
/-- lowest terms are one -/
theorem low_is {x : Rat} {t b : Int} (hb : 0 < b) (hc : Nat.gcd t.natAbs b.natAbs = 1) (h : x * (b : Rat) = t) : x.num = t ∧ (x.den : Int) = b := by
  have h0 : Rat.divInt t b = x := by
    rw [Rat.divInt_eq_div, ← h]
    have := ine b (by omega)
    generalize (b : Rat) = c at *
    grind
  have e : b = ((b.toNat : Nat) : Int) := by omega
  have hr : (⟨t, b.toNat, by omega, by rw [show b.toNat = b.natAbs by omega]; exact hc⟩ : Rat) = x := by
    rw [Rat.mk_eq_divInt, ← e]
    exact h0
  rw [← hr]
  exact ⟨rfl, e.symm⟩
/-- any way to write x has a top and a bottom that are not smaller -/
theorem le_of {x : Rat} {p q : Int} (hq : q ≠ 0) (h : x * (q : Rat) = p) : x.num.natAbs ≤ p.natAbs ∧ x.den ≤ q.natAbs := by
  have e : x.num * q = p * (x.den : Int) := inj (by
    rw [Rat.intCast_mul, Rat.intCast_mul, ← h, num_is]
    grind)
  have hc : Nat.Coprime x.num.natAbs x.den := x.reduced
  have e2 : x.num.natAbs * q.natAbs = p.natAbs * x.den := by
    have := congrArg Int.natAbs e
    rw [Int.natAbs_mul, Int.natAbs_mul] at this
    simpa using this
  have d1 : x.den ∣ q.natAbs := hc.symm.dvd_of_dvd_mul_left ⟨p.natAbs, by rw [e2, Nat.mul_comm]⟩
  have d2 : x.num.natAbs ∣ p.natAbs := hc.dvd_of_dvd_mul_right ⟨q.natAbs, e2.symm⟩
  refine ⟨?_, Nat.le_of_dvd (by omega) d1⟩
  rcases Nat.eq_zero_or_pos p.natAbs with h | h
  · rw [h, Nat.zero_mul] at e2
    rcases Nat.mul_eq_zero.mp e2 with h2 | h2
    · omega
    · omega
  · exact Nat.le_of_dvd h d2
/-- sizes: the top below 2 ^ n, the bottom below 2 ^ m -/
structure Bd (n m : Nat) (x : Rat) : Prop where
  top : x.num.natAbs < 2 ^ n
  bot : x.den < 2 ^ m
theorem two_le {a b : Nat} (h : a ≤ b) : 2 ^ a ≤ 2 ^ b := Nat.pow_le_pow_right (by decide) h
theorem lt_le {i a b : Nat} (h : i < 2 ^ a) (l : a ≤ b) : i < 2 ^ b := Nat.lt_of_lt_of_le h (two_le l)
theorem Bd.mono {n m n' m' : Nat} {x : Rat} (b : Bd n m x) (h : n ≤ n') (h2 : m ≤ m') : Bd n' m' x := ⟨lt_le b.top h, lt_le b.bot h2⟩
theorem Bd.of {n m : Nat} {x : Rat} {p q : Int} (hq : q ≠ 0) (h : x * (q : Rat) = p) (h1 : p.natAbs < 2 ^ n) (h2 : q.natAbs < 2 ^ m) : Bd n m x :=
  ⟨Nat.lt_of_le_of_lt (le_of hq h).1 h1, Nat.lt_of_le_of_lt (le_of hq h).2 h2⟩
theorem div_is {p q : Int} (hq : q ≠ 0) : ((p : Rat) / (q : Rat)) * (q : Rat) = p := by
  have := ine q hq
  generalize (q : Rat) = c at *
  grind
theorem Bd.div {n m : Nat} {p q : Int} (hq : q ≠ 0) (h1 : p.natAbs < 2 ^ n) (h2 : q.natAbs < 2 ^ m) : Bd n m ((p : Rat) / (q : Rat)) := .of hq (div_is hq) h1 h2
theorem Bd.int {n m : Nat} {i : Int} (h1 : i.natAbs < 2 ^ n) (h2 : 0 < m) : Bd n m (i : Rat) :=
  ⟨by rw [Rat.num_intCast]; exact h1, by rw [Rat.den_intCast]; exact Nat.one_lt_two_pow (by omega)⟩
theorem nmul {i j : Int} {m n : Nat} (a : i.natAbs < 2 ^ m) (b : j.natAbs < 2 ^ n) : (i * j).natAbs < 2 ^ (m + n) := by
  rw [Int.natAbs_mul, Nat.pow_add]
  exact Nat.mul_lt_mul'' a b
theorem nadd {i j : Int} {n : Nat} (a : i.natAbs < 2 ^ n) (b : j.natAbs < 2 ^ n) : (i + j).natAbs < 2 ^ (n + 1) := by
  rw [Nat.pow_succ]
  omega
theorem dabs (x : Rat) : ((x.den : Nat) : Int).natAbs = x.den := by simp
theorem mul_q (x y : Rat) : (x * y) * (((x.den : Int) * (y.den : Int) : Int) : Rat) = ((x.num * y.num : Int) : Rat) := by
  rw [Rat.intCast_mul, Rat.intCast_mul, num_is, num_is]
  grind
theorem add_q (x y : Rat) : (x + y) * (((x.den : Int) * (y.den : Int) : Int) : Rat) = ((x.num * (y.den : Int) + y.num * (x.den : Int) : Int) : Rat) := by
  rw [Rat.intCast_mul, Rat.intCast_add, Rat.intCast_mul, Rat.intCast_mul, num_is, num_is]
  grind
theorem sub_q (x y : Rat) : (x - y) * (((x.den : Int) * (y.den : Int) : Int) : Rat) = ((x.num * (y.den : Int) - y.num * (x.den : Int) : Int) : Rat) := by
  rw [Rat.intCast_mul, Rat.intCast_sub, Rat.intCast_mul, Rat.intCast_mul, num_is, num_is]
  grind
theorem dd_ne (x y : Rat) : (x.den : Int) * (y.den : Int) ≠ 0 := by
  have := Int.mul_pos (den_pos x) (den_pos y)
  omega
theorem Bd.mul {n m n' m' : Nat} {x y : Rat} (a : Bd n m x) (b : Bd n' m' y) : Bd (n + n') (m + m') (x * y) :=
  .of (dd_ne x y) (mul_q x y) (nmul a.top b.top) (nmul (by rw [dabs]; exact a.bot) (by rw [dabs]; exact b.bot))
theorem Bd.add {n m n' m' e : Nat} {x y : Rat} (a : Bd n m x) (b : Bd n' m' y) (h1 : n + m' ≤ e) (h2 : n' + m ≤ e) : Bd (e + 1) (m + m') (x + y) :=
  .of (dd_ne x y) (add_q x y) (nadd (lt_le (nmul a.top (by rw [dabs]; exact b.bot)) h1) (lt_le (nmul b.top (by rw [dabs]; exact a.bot)) h2)) (nmul (by rw [dabs]; exact a.bot) (by rw [dabs]; exact b.bot))
theorem Bd.neg {n m : Nat} {x : Rat} (a : Bd n m x) : Bd n m (-x) := ⟨by rw [Rat.neg_num, Int.natAbs_neg]; exact a.top, by rw [Rat.neg_den]; exact a.bot⟩
theorem Bd.sub {n m n' m' e : Nat} {x y : Rat} (a : Bd n m x) (b : Bd n' m' y) (h1 : n + m' ≤ e) (h2 : n' + m ≤ e) : Bd (e + 1) (m + m') (x - y) := by
  rw [Rat.sub_eq_add_neg]
  exact a.add b.neg h1 h2
theorem Bd.zero {n m : Nat} (h : 0 < m) : Bd n m 0 := ⟨Nat.two_pow_pos _, Nat.one_lt_two_pow (by omega)⟩
theorem Bd.one {n m : Nat} (h : 0 < n) (h : 0 < m) : Bd n m 1 := ⟨Nat.one_lt_two_pow (by omega), Nat.one_lt_two_pow (by omega)⟩
/-- the gap of two -/
theorem gap_lt (x y : Rat) : x < y ↔ x.num * (y.den : Int) - y.num * (x.den : Int) < 0 := by
  rw [Rat.lt_iff]
  omega
theorem gap_le (x y : Rat) : x ≤ y ↔ x.num * (y.den : Int) - y.num * (x.den : Int) ≤ 0 := by
  rw [Rat.le_iff]
  omega
theorem gap_eq (x y : Rat) : x = y ↔ x.num * (y.den : Int) - y.num * (x.den : Int) = 0 := by
  constructor
  · rintro rfl
    omega
  · intro h
    have h1 : x ≤ y := (gap_le x y).mpr (by omega)
    have h2 : y ≤ x := (gap_le y x).mpr (by omega)
    exact Rat.le_antisymm h1 h2
theorem num_zero {x : Rat} (h : x.num = 0) : x = 0 := by
  have := num_is x
  rw [h] at this
  have h2 := den_ne x
  generalize (((x.den : Nat) : Int) : Rat) = d at *
  grind
theorem num_ne {x : Rat} (h : x ≠ 0) : x.num ≠ 0 := fun z => h (num_zero z)
theorem int_parts (i : Int) : ((i : Rat)).num = i ∧ (((i : Rat)).den : Int) = 1 := ⟨Rat.num_intCast i, by rw [Rat.den_intCast]; rfl⟩

theorem Bd.d {n m : Nat} {x : Rat} (b : Bd n m x) : ((x.den : Int)).natAbs < 2 ^ m := by rw [dabs]; exact b.bot
theorem sm_of {i : Int} {n : Nat} (h : i.natAbs < 2 ^ n) (hn : n ≤ 4000) : Sm i := Sm.of h hn
theorem nle {i : Int} {m n : Nat} (a : i.natAbs < 2 ^ m) (h : m ≤ n) : i.natAbs < 2 ^ n := Nat.lt_of_lt_of_le a (Nat.pow_le_pow_right (by decide) h)
theorem Bd.s1 {n m : Nat} {x : Rat} (b : Bd n m x) (h : n ≤ 4000) : Sm x.num := sm_of b.top h
theorem Bd.s2 {n m : Nat} {x : Rat} (b : Bd n m x) (h : m ≤ 4000) : Sm (x.den : Int) := sm_of b.d h
/-- the value of a top and a bottom -/
def qv (p : Int × Int) : Rat := (p.1 : Rat) / (p.2 : Rat)
theorem qv_mul {p : Int × Int} (h : p.2 ≠ 0) : qv p * (p.2 : Rat) = p.1 := div_is h
theorem div_eq {x : Rat} {p q : Int} (hq : q ≠ 0) (h : x * (q : Rat) = p) : (p : Rat) / (q : Rat) = x := by
  have := ine q hq
  generalize (q : Rat) = c at *
  generalize (p : Rat) = d at *
  grind
/-- lowest terms as the making computes them -/
theorem Norm.rat {t b t' b' : Int} (n : Norm t b t' b') : ((t : Rat) / (b : Rat)).num = t' ∧ ((((t : Rat) / (b : Rat)).den : Nat) : Int) = b' := by
  have hb := n.bne
  have c := n.cross
  refine low_is n.pos n.cop ?_
  have c2 : (t' : Rat) * (b : Rat) = (t : Rat) * (b' : Rat) := by exact_mod_cast c
  have h1 := ine b hb
  have h2 := div_is (p := t) hb
  generalize (t : Rat) / (b : Rat) = z at *
  generalize (b : Rat) = bb at *
  generalize (t : Rat) = tt at *
  generalize (t' : Rat) = tt' at *
  generalize (b' : Rat) = bb' at *
  grind
/-! ### Ratios on the heap -/
abbrev ratO (C dx : Addr) (z : Rat) : HO := .ins C dx [("top", .int z.num), ("bottom", .int ((z.den : Nat) : Int))]
def RatV (C : Addr) (H : Hp) (v : V) (z : Rat) : Prop := ∃ a dx, v = .ref a ∧ H a = some (ratO C dx z)
def NumV (C : Addr) (H : Hp) (v : V) (z : Rat) : Prop := (∃ i : Int, v = .int i ∧ z = (i : Rat)) ∨ RatV C H v z
section
variable {C : Addr} {H H' : Hp} {v : V} {z : Rat}
theorem RatV.ins (r : RatV C H v z) : Ins H v C := by
  obtain ⟨a, dx, e, h⟩ := r
  exact ⟨a, dx, _, e, h⟩
theorem RatV.same (r : RatV C H v z) (s : Same H H') : RatV C H' v z := by
  obtain ⟨a, dx, e, h⟩ := r
  exact ⟨a, dx, e, s _ _ h⟩
theorem RatV.num (r : RatV C H v z) : NumV C H v z := .inr r
theorem NumV.same (n : NumV C H v z) (s : Same H H') : NumV C H' v z := n.imp id fun r => r.same s
theorem NumV.kind (n : NumV C H v z) : (∃ i, v = .int i) ∨ Ins H v C := n.imp (fun ⟨i, e, _⟩ => ⟨i, e⟩) fun r => r.ins
theorem NumV.int (i : Int) : NumV C H (.int i) (i : Rat) := .inl ⟨i, rfl, rfl⟩
theorem RatV.one {z' : Rat} (r : RatV C H v z) (r' : RatV C H v z') : z = z' := by
  obtain ⟨a, dx, rfl, e⟩ := r
  obtain ⟨a', dx', e0, e'⟩ := r'
  cases e0
  rw [e] at e'
  have h := (HO.ins.inj (Option.some.inj e')).2.2
  have h1 : z.num = z'.num := V.int.inj (congrArg Prod.snd (List.cons.inj h).1)
  have h2 : ((z.den : Nat) : Int) = ((z'.den : Nat) : Int) := V.int.inj (congrArg Prod.snd (List.cons.inj (List.cons.inj h).2).1)
  exact Rat.ext h1 (by omega)
theorem RatV.to {z' : Rat} (r : RatV C H v z) (e : z = z') : RatV C H v z' := e ▸ r
theorem RatV.put {d : Addr} {ys : List V} {o : HO} (r : RatV C H v z) (hd : H d = some (.lst ys)) : RatV C (upd H d o) v z := by
  obtain ⟨a, dx, e, h⟩ := r
  refine ⟨a, dx, e, ?_⟩
  rw [upd_ne fun z => by rw [z, hd] at h; cases h]
  exact h
/-- what is kept but at x, which is no Ratio -/
theorem RatV.keep {G G' : Hp} {x : Addr} {o : HO} (r : RatV C G v z) (hx : G x = some o) (ne : ∀ dx z, ratO C dx z ≠ o) (k : ∀ b u, b ≠ x → G b = some u → G' b = some u) : RatV C G' v z := by
  obtain ⟨a, dx, e, h⟩ := r
  exact ⟨a, dx, e, k _ _ (fun w => by subst w; rw [hx] at h; exact ne _ _ (Option.some.inj h).symm) h⟩
end
theorem NumV.put {C : Addr} {H : Hp} {v : V} {z : Rat} {d : Addr} {ys : List V} {o : HO} (r : NumV C H v z) (hd : H d = some (.lst ys)) : NumV C (upd H d o) v z := r.imp id fun r => r.put hd
/-- a new Ratio on the heap -/
theorem madeV {C : Addr} {H : Hp} {x dx : Addr} (nx : H x = none) (nd : H dx = none) (ne : dx ≠ x) (z : Rat) :
    Same H (upd (upd (upd H dx (.own x)) x (.ins C dx [])) x (ratO C dx z)) ∧ RatV C (upd (upd (upd H dx (.own x)) x (.ins C dx [])) x (ratO C dx z)) (.ref x) z := by
  refine ⟨?_, x, dx, rfl, upd_same⟩
  rw [upd_upd]
  exact same_upd' (same_upd nd) nx
/-- a list or a tuple of these things -/
def SeqAt (H : Hp) (v : V) (xs : List V) : Prop := ∃ a, v = .ref a ∧ (H a = some (.lst xs) ∨ H a = some (.tup xs))
theorem SeqAt.same {H H' : Hp} {v : V} {xs : List V} (h : SeqAt H v xs) (s : Same H H') : SeqAt H' v xs := by
  obtain ⟨a, e, h⟩ := h
  exact ⟨a, e, h.imp (s a _) (s a _)⟩
def RatsV (C : Addr) (H : Hp) (xs : List V) (f : Nat → Rat) : Prop := ∀ k x, xs[k]? = some x → RatV C H x (f k)
def NumsV (C : Addr) (H : Hp) (xs : List V) (f : Nat → Rat) : Prop := ∀ k x, xs[k]? = some x → NumV C H x (f k)
theorem push_get {α : Type} {ys : List α} {y x : α} {k : Nat} (h : (ys ++ [y])[k]? = some x) : (k < ys.length ∧ ys[k]? = some x) ∨ (k = ys.length ∧ x = y) := by
  rcases Nat.lt_trichotomy k ys.length with e | e | e
  · rw [List.getElem?_append_left e] at h
    exact .inl ⟨e, h⟩
  · subst e
    rw [List.getElem?_append_right (Nat.le_refl _), Nat.sub_self] at h
    cases h
    exact .inr ⟨rfl, rfl⟩
  · rw [List.getElem?_append_right (Nat.le_of_lt e)] at h
    obtain ⟨j, hj⟩ : ∃ j, k - ys.length = j + 1 := ⟨k - ys.length - 1, by omega⟩
    rw [hj] at h
    simp at h
theorem get_lt {α : Type} {xs : List α} {k : Nat} {x : α} (h : xs[k]? = some x) : k < xs.length := (List.getElem?_eq_some_iff.mp h).1
theorem at_get {xs : List V} {k : Nat} {x : V} (h : xs[k]? = some x) : atI xs (0 + (k : Int)) = some x := by
  rw [Int.zero_add]
  exact atI_nat h
section
variable {C : Addr} {H H' : Hp} {xs : List V} {f : Nat → Rat}
theorem RatsV.same (h : RatsV C H xs f) (s : Same H H') : RatsV C H' xs f := fun k x e => (h k x e).same s
theorem NumsV.same (h : NumsV C H xs f) (s : Same H H') : NumsV C H' xs f := fun k x e => (h k x e).same s
theorem RatsV.nums (h : RatsV C H xs f) : NumsV C H xs f := fun k x e => .inr (h k x e)
theorem RatsV.nil : RatsV C H [] f := fun k x h => by simp at h
theorem NumsV.nil : NumsV C H [] f := fun k x h => by simp at h
theorem RatsV.push {d : Addr} {ys : List V} {y : V} {o : HO} (r : RatsV C H xs f) (hd : H d = some (.lst ys)) (hy : RatV C H y (f xs.length)) : RatsV C (upd H d o) (xs ++ [y]) f := fun k x h => by
  rcases push_get h with ⟨_, h1⟩ | ⟨rfl, rfl⟩
  · exact (r k x h1).put hd
  · exact hy.put hd
theorem NumsV.push {d : Addr} {ys : List V} {y : V} {o : HO} (r : NumsV C H xs f) (hd : H d = some (.lst ys)) (hy : NumV C H y (f xs.length)) : NumsV C (upd H d o) (xs ++ [y]) f := fun k x h => by
  rcases push_get h with ⟨_, h1⟩ | ⟨rfl, rfl⟩
  · exact (r k x h1).put hd
  · exact hy.put hd
theorem RatsV.to {g : Nat → Rat} (h : RatsV C H xs f) (e : ∀ k, k < xs.length → f k = g k) : RatsV C H xs g := fun k x hx => e k (get_lt hx) ▸ h k x hx
theorem NumsV.to {g : Nat → Rat} (h : NumsV C H xs f) (e : ∀ k, k < xs.length → f k = g k) : NumsV C H xs g := fun k x hx => e k (get_lt hx) ▸ h k x hx
theorem RatsV.take {s : Nat} (h : RatsV C H xs f) : RatsV C H (xs.take s) f := fun k x e => by
  rw [List.getElem?_take] at e
  split at e
  · exact h k x e
  · cases e
theorem RatsV.keep {x : Addr} {o : HO} (r : RatsV C H xs f) (hx : H x = some o) (ne : ∀ dx z, ratO C dx z ≠ o) (k : ∀ b u, b ≠ x → H b = some u → H' b = some u) : RatsV C H' xs f := fun j y e => (r j y e).keep hx ne k
end
theorem same_push {H1 H : Hp} {d : Addr} {o : HO} (s : Same H1 H) (hd : H1 d = none) : Same H1 (upd H d o) := fun b u h => by
  rw [upd_ne (ne_of_none h hd)]
  exact s _ _ h
theorem upd_but {H : Hp} {a : Addr} {o : HO} : ∀ b u, b ≠ a → H b = some u → upd H a o b = some u := fun b u hb h => by rw [upd_ne hb]; exact h
/-- a list that grows at d, i items so far, Ratios with the values g -/
def Gro (C : Addr) (H : Hp) (d : Addr) (g : Nat → Rat) (i : Nat) (G : Hp) : Prop := Same H G ∧ ∃ zs : List V, zs.length = i ∧ G d = some (.lst zs) ∧ RatsV C G zs g
theorem Gro.start {C : Addr} {H : Hp} {d : Addr} {g : Nat → Rat} (nd : H d = none) : Gro C H d g 0 (upd H d (.lst [])) := ⟨same_upd nd, [], rfl, upd_same, RatsV.nil⟩
theorem Gro.push {C : Addr} {H G G2 : Hp} {d : Addr} {g : Nat → Rat} {i : Nat} {v : V} (p : Gro C H d g i G) (nd : H d = none) (hi : i ≤ 1000) (s : Same G G2) (r : RatV C G2 v (g i)) :
    ∃ acc, G2 d = some (.lst acc) ∧ acc.length < sizeLine ∧ Gro C H d g (i + 1) (upd G2 d (.lst (acc ++ [v]))) := by
  obtain ⟨sm, zs, rfl, hd, hr⟩ := p
  have hd2 := s _ _ hd
  exact ⟨zs, hd2, small1000 hi, same_push (sm.trans s) nd, zs ++ [v], by rw [List.length_append]; rfl, upd_same, (hr.same s).push hd2 r⟩
/-- a list of ints that grows -/
def GroI (H : Hp) (d : Addr) (g : Nat → Int) (i : Nat) (G : Hp) : Prop := Same H G ∧ G d = some (.lst (((List.range i).map g).map V.int))
theorem GroI.start {H : Hp} {d : Addr} {g : Nat → Int} (nd : H d = none) : GroI H d g 0 (upd H d (.lst [])) := ⟨same_upd nd, upd_same⟩
theorem GroI.push {H G G2 : Hp} {d : Addr} {g : Nat → Int} {i : Nat} (p : GroI H d g i G) (nd : H d = none) (hi : i ≤ 1000) (s : Same G G2) :
    ∃ acc, G2 d = some (.lst acc) ∧ acc.length < sizeLine ∧ GroI H d g (i + 1) (upd G2 d (.lst (acc ++ [V.int (g i)]))) := by
  obtain ⟨sm, hd⟩ := p
  have hd2 := s _ _ hd
  refine ⟨_, hd2, by rw [List.length_map, List.length_map, List.length_range]; exact small1000 hi, same_push (sm.trans s) nd, ?_⟩
  rw [upd_same, List.range_succ, List.map_append, List.map_append]
  rfl
/-- the first n values of g as a list on the heap -/
abbrev intsO (g : Nat → Int) (n : Nat) : HO := .lst (((List.range n).map g).map V.int)
theorem ints_at {g : Nat → Int} {n k : Nat} (h : k < n) : (((List.range n).map g).map V.int)[k]? = some (V.int (g k)) := by
  rw [List.getElem?_map, List.getElem?_map, List.getElem?_range h]
  rfl
theorem ints_len {g : Nat → Int} {n : Nat} : (((List.range n).map g).map V.int).length = n := by
  rw [List.length_map, List.length_map, List.length_range]
theorem ints_get {g : Nat → Int} {n k : Nat} (h : k < n) : atI (((List.range n).map g).map V.int) (0 + (k : Int)) = some (V.int (g k)) := at_get (ints_at h)
end MoL

/-! # Walks over a list or a tuple, the law's feed, lists of pairs -/
namespace MoL
open PySem PySem.Spec PyProof.Rows L2 MoW
section
variable {K : PySem.W.Frag}
theorem kit_seq {K : PySem.W.Frag} {H : Hp} {a : Addr} {xs : List V} (h : H a = some (.lst xs) ∨ H a = some (.tup xs)) : ∃ t, TyX K H (.ref a) t ∧ PySem.W.kitAny K t [.type "list", .type "tuple"] = some true := by
  rcases h with h | h
  · exact ⟨_, .base (.lst h), kitAny_cons (b := true) (kit_ty (by decide +kernel)) (fun z => nomatch z) fun _ => rfl⟩
  · exact ⟨_, .base (.tup h), kitAny_cons (b := false) (kit_ty (by decide +kernel)) (fun _ => kitAny_cons (b := true) (kit_ty (by decide +kernel)) (fun z => nomatch z) fun _ => rfl) (fun z => nomatch z)⟩
/-! ### walks over a list or a tuple -/
theorem for_seq {tl tl' : TE} {a : Addr} {xs : List V} {g : TG} {tb : TS} {D : Ends} {σ : L2.St} {H : Hp} (ha : H a = some (.lst xs) ∨ H a = some (.tup xs)) (h1 : ∀ R : VK, R (.ref a) H → tl σ H R) (h2 : ∀ R : VK, R (.ref a) H → tl' σ H R)
    (Pv : Nat → L2.St → Hp → Prop) (h0 : Pv 0 σ H) (hk : ∀ (i : Nat) (σ : L2.St) (G : Hp), i ≤ xs.length → Pv i σ G → Same H G)
    (step : ∀ (i : Nat) (x : V) (σ : L2.St) (G : Hp), xs[i]? = some x → Pv i σ G → g x σ G fun σ2 H2 => tb { nx := Pv (i + 1), rt := D.rt, bk := D.nx, ct := Pv (i + 1) } σ2 H2)
    (done : ∀ (σ : L2.St) (G : Hp), Pv xs.length σ G → D.nx σ G) : tFor (fun σ H R => iList K tl σ H R ∨ iTup K tl' σ H R) g tb D σ H := by
  rcases ha with h | h
  · exact .inl (h1 _ ⟨a, rfl, ⟨xs, .of h⟩, for_list Pv h0 (fun i σ G hi p => .of (hk i σ G hi p _ _ h)) step done⟩)
  · exact .inr (h2 _ ⟨a, rfl, ⟨xs, .of h⟩, for_tup Pv h0 (fun i σ G hi p => .of (hk i σ G hi p _ _ h)) step done⟩)
/-- what a comprehension asks of a walk -/
abbrev lcR (g : TG) (tt : TT) (te : TE) (vs : List Nat) (σ : L2.St) (Qd : Addr → Hp → Prop) : It → Hp → Prop := fun J H1 => ∀ (D : Addr), H1 D = none → ∃ W : Nat → Nat → Hp → Prop, (∃ m, W 0 m (upd H1 D (.lst []))) ∧ ∀ (i m : Nat) (H : Hp), W i m H →
  J.stop i H ∧ Qd D H ∨ J.go i H ∧ ∃ Nx : Hp → Prop, (∀ H' : Hp, Nx H' → ∃ m', m' < m ∧ W (i + 1) m' H') ∧ ∀ (x : V) (H' : Hp), J.yld i H x H' → g x (wipe σ vs) H' fun σ2 H2 => wipe σ2 vs = wipe σ vs ∧ tt σ2 H2 fun b H3 => if b = true then te σ2 H3 fun y H4 => ∃ acc, H4 D = some (.lst acc) ∧ acc.length < sizeLine ∧ Nx (upd H4 D (.lst (acc ++ [y]))) else Nx H3
theorem lc_seq {tl tl' : TE} {a : Addr} {xs : List V} {g : TG} {tt : TT} {te : TE} {vs : List Nat} {σ : L2.St} {H : Hp} {Qd : Addr → Hp → Prop} (ha : H a = some (.lst xs) ∨ H a = some (.tup xs)) (h1 : ∀ R : VK, R (.ref a) H → tl σ H R) (h2 : ∀ R : VK, R (.ref a) H → tl' σ H R)
    (Pv : Addr → Nat → Hp → Prop) (h0 : ∀ D, H D = none → Pv D 0 (upd H D (.lst []))) (hk : ∀ (D : Addr) (i : Nat) (G : Hp), i ≤ xs.length → Pv D i G → Same H G)
    (step : ∀ (D : Addr) (i : Nat) (x : V) (G : Hp), H D = none → xs[i]? = some x → Pv D i G → g x (wipe σ vs) G fun σ2 H2 => wipe σ2 vs = wipe σ vs ∧ tt σ2 H2 fun b H3 => if b = true then te σ2 H3 fun y H4 => ∃ acc, H4 D = some (.lst acc) ∧ acc.length < sizeLine ∧ Pv D (i + 1) (upd H4 D (.lst (acc ++ [y]))) else Pv D (i + 1) H3)
    (done : ∀ (D : Addr) (G : Hp), H D = none → Pv D xs.length G → Qd D G) : iList K tl σ H (lcR g tt te vs σ Qd) ∨ iTup K tl' σ H (lcR g tt te vs σ Qd) := by
  rcases ha with h | h
  · exact .inl (h1 _ ⟨a, rfl, ⟨xs, .of h⟩, fun D nd => lc_list (Pv D) (h0 D nd) (fun i G hi p => .of (hk D i G hi p _ _ h)) (fun i x G hx p => step D i x G nd hx p) (fun G p => done D G nd p)⟩)
  · exact .inr (h2 _ ⟨a, rfl, ⟨xs, .of h⟩, fun D nd => lc_tup (Pv D) (h0 D nd) (fun i G hi p => .of (hk D i G hi p _ _ h)) (fun i x G hx p => step D i x G nd hx p) (fun G p => done D G nd p)⟩)
theorem cut_drop (xs : List V) (k : Nat) (h : k ≤ xs.length) : cutV xs (some (k : Int)) none = xs.drop k := by
  unfold cutV
  have e1 : HT.sIx xs.length xs.length none = xs.length := rfl
  have e2 : HT.sIx xs.length 0 (some (k : Int)) = k := by
    show (if (k : Int) < 0 then ((k : Int) + (xs.length : Int)).toNat else min (k : Int).toNat xs.length) = _
    rw [if_neg (by omega)]
    omega
  rw [e1, e2]
  exact List.take_of_length_le (by rw [List.length_drop]; omega)
theorem rep_flat {x : V} : ∀ n : Nat, (List.replicate n [x]).flatten = List.replicate n x
  | 0 => rfl
  | n + 1 => by rw [List.replicate_succ, List.flatten_cons, rep_flat n, List.replicate_succ]; rfl
/-! ### the law's drawing of numbers -/
/-- the six places of the feed at f -/
abbrev six (l : Addr) (i r t n s : Int) : HO := .lst [.ref l, .int i, .int r, .int t, .int n, .int s]
def FeedAt (H : Hp) (f : Addr) : Prop := ∃ (l : Addr) (xs : List Int) (i : Nat) (r t n s : Int), H f = some (six l i r t n s) ∧ H l = some (.lst (xs.map V.int)) ∧ i ≤ xs.length ∧ xs.length ≤ 63 ∧ 0 ≤ r
/-- from H to H' only the feed has moved on, and new things have come -/
structure Stp (f : Addr) (H H' : Hp) : Prop where
  feed : FeedAt H' f
  keep : ∀ b o, b ≠ f → H b = some o → H' b = some o
  ls : ∀ l i r t n s, H f = some (six l i r t n s) → ∃ i' r' t' n' s', H' f = some (six l i' r' t' n' s')
theorem FeedAt.same {H H' : Hp} {f : Addr} (h : FeedAt H f) (s : Same H H') : FeedAt H' f := by
  obtain ⟨l, xs, i, r, t, n, z, h1, h2, h3⟩ := h
  exact ⟨l, xs, i, r, t, n, z, s _ _ h1, s _ _ h2, h3⟩
theorem Stp.refl {H : Hp} {f : Addr} (h : FeedAt H f) : Stp f H H := ⟨h, fun _ _ _ e => e, fun _ _ _ _ _ _ e => ⟨_, _, _, _, _, e⟩⟩
theorem Stp.trans {H H1 H2 : Hp} {f : Addr} (a : Stp f H H1) (b : Stp f H1 H2) : Stp f H H2 := ⟨b.feed, fun c o n e => b.keep c o n (a.keep c o n e), fun _ _ _ _ _ _ e => let ⟨_, _, _, _, _, e1⟩ := a.ls _ _ _ _ _ _ e; b.ls _ _ _ _ _ _ e1⟩
theorem Stp.of {H H1 H2 : Hp} {f : Addr} (a : Stp f H H1) (b : Same H1 H2) : Stp f H H2 := ⟨a.feed.same b, fun c o n e => b c o (a.keep c o n e), fun _ _ _ _ _ _ e => let ⟨i', r', t', n', s', e1⟩ := a.ls _ _ _ _ _ _ e; ⟨i', r', t', n', s', b _ _ e1⟩⟩
theorem FeedAt.ne {H : Hp} {f p : Addr} {o : HO} (h : FeedAt H f) (hp : H p = some o) (d : ∀ l i r t n s, six l i r t n s ≠ o) : p ≠ f := by
  obtain ⟨l, xs, i, r, t, n, z, h1, _⟩ := h
  exact ne_of hp h1 fun e => d _ _ _ _ _ _ e.symm
theorem FeedAt.lt {H : Hp} {f p : Addr} (h : FeedAt H f) (hp : H p = none) : f ≠ p := by
  obtain ⟨l, xs, i, r, t, n, z, h1, _⟩ := h
  exact ne_of_none h1 hp

theorem stp_none {H H1 : Hp} {f p : Addr} (st : Stp f H H1) (ne : p ≠ f) (h : H1 p = none) : H p = none := by
  cases e : H p with
  | none => rfl
  | some o => rw [st.keep p o ne e] at h; cases h
theorem Stp.push {H G : Hp} {f d : Addr} {o : HO} (st : Stp f H G) (F : FeedAt H f) (hd : H d = none) (hf : d ≠ f) : Stp f H (upd G d o) := by
  obtain ⟨l0, xs0, i0, r0, t0, n0, z0, e1, e2, _⟩ := F
  obtain ⟨i', r', t', n', s', e3⟩ := st.ls _ _ _ _ _ _ e1
  obtain ⟨l, xs, i, r, t, n, z, h1, h2, h3⟩ := st.feed
  rw [e3] at h1
  have el : l0 = l := by
    have := HO.lst.inj (Option.some.inj h1)
    cases this
    rfl
  subst el
  have dl : l0 ≠ d := fun z => by rw [z, hd] at e2; cases e2
  refine ⟨⟨l0, xs, i, r, t, n, z, ?_, ?_, h3⟩, fun b u hb e => ?_, fun l i r t n s e => ?_⟩
  · rw [upd_ne (Ne.symm hf), e3]
    exact h1
  · rw [upd_ne dl]
    exact h2
  · have : b ≠ d := fun z => by rw [z, hd] at e; cases e
    rw [upd_ne this]
    exact st.keep b u hb e
  · obtain ⟨i2, r2, t2, n2, s2, e4⟩ := st.ls _ _ _ _ _ _ e
    exact ⟨i2, r2, t2, n2, s2, by rw [upd_ne (Ne.symm hf)]; exact e4⟩
/-- the feed at f with these five, the rest as in H -/
structure Now (H H' : Hp) (f l : Addr) (i r t n s : Int) : Prop where
  at_ : H' f = some (six l i r t n s)
  oth : ∀ b, b ≠ f → H' b = H b
theorem Now.put {H H' : Hp} {f l : Addr} {i r t n s i' r' t' n' s' : Int} (h : Now H H' f l i r t n s) : Now H (upd H' f (six l i' r' t' n' s')) f l i' r' t' n' s' :=
  ⟨upd_same, fun b hb => by rw [upd_ne hb]; exact h.oth b hb⟩
theorem fdiv_nn {a b : Int} (h : 0 ≤ a) (h' : 0 < b) : 0 ≤ a.fdiv b := by
  rw [Int.fdiv_eq_ediv_of_nonneg a (by omega)]
  exact Int.ediv_nonneg h (by omega)
theorem lt_mod : (0 : Int) < 2147483647 := by decide
theorem lt_mod' : (0 : Int) < 2147483399 := by decide
/-! ### pairs, rows -/
abbrev two (x y : Int) : HO := .lst [.int x, .int y]
/-- these lists hold the pairs F 0, F 1, .. -/
def Prsd (H : Hp) (rs : List Addr) (F : Nat → Int × Int) : Prop := ∀ k r, rs[k]? = some r → H r = some (two (F k).1 (F k).2)
def PairsAt (H : Hp) (v : V) (n : Nat) (F : Nat → Int × Int) : Prop := ∃ a rs, v = .ref a ∧ H a = some (.lst (rs.map V.ref)) ∧ rs.length = n ∧ Prsd H rs F
theorem Prsd.same {H H' : Hp} {rs : List Addr} {F : Nat → Int × Int} (h : Prsd H rs F) (s : Same H H') : Prsd H' rs F := fun k r e => s _ _ (h k r e)
theorem PairsAt.same {H H' : Hp} {v : V} {n : Nat} {F : Nat → Int × Int} (h : PairsAt H v n F) (s : Same H H') : PairsAt H' v n F := by
  obtain ⟨a, rs, e, h, l, p⟩ := h
  exact ⟨a, rs, e, s _ _ h, l, p.same s⟩
theorem Prsd.nil {H : Hp} {F : Nat → Int × Int} : Prsd H [] F := fun k r h => by simp at h
theorem Prsd.push {H : Hp} {d r : Addr} {rs : List Addr} {F : Nat → Int × Int} {zs : List V} (h : Prsd H rs F) (hr : H r = some (two (F rs.length).1 (F rs.length).2)) (hd : H d = some (.lst (rs.map V.ref))) : Prsd (upd H d (.lst zs)) (rs ++ [r]) F := by
  have ne : ∀ {k : Nat} {x : Addr}, H x = some (two (F k).1 (F k).2) → x ≠ d := fun {k x} hx z => by
    rw [z, hd] at hx
    cases rs with
    | nil => cases hx
    | cons a rs => cases hx
  intro k x hx
  rcases push_get hx with ⟨_, h1⟩ | ⟨rfl, rfl⟩
  · rw [upd_ne (ne (h k x h1))]
    exact h k x h1
  · rw [upd_ne (ne hr)]
    exact hr
theorem pr_get {rs : List Addr} {k : Nat} (h : k < rs.length) : ∃ r, rs[k]? = some r ∧ (rs.map V.ref)[k]? = some (.ref r) := by
  refine ⟨rs[k], List.getElem?_eq_getElem h, ?_⟩
  rw [List.getElem?_map, List.getElem?_eq_getElem h]
  rfl
theorem PairsAt.stp {G G' : Hp} {f : Addr} {v : V} {n : Nat} {F : Nat → Int × Int} (h : PairsAt G v n F) (hF : FeedAt G f) (s : Stp f G G') : PairsAt G' v n F := by
  obtain ⟨a, rs, e, h1, l, p⟩ := h
  refine ⟨a, rs, e, s.keep _ _ (hF.ne h1 fun l i r t n s z => ?_) h1, l, fun k r e => s.keep _ _ (hF.ne (p k r e) fun _ _ _ _ _ _ w => by cases w) (p k r e)⟩
  cases rs with
  | nil => cases z
  | cons x rs =>
    cases rs with
    | nil => cases z
    | cons y rs => cases z
theorem Prsd.stp {G G' : Hp} {f : Addr} {rs : List Addr} {F : Nat → Int × Int} (h : Prsd G rs F) (hF : FeedAt G f) (s : Stp f G G') : Prsd G' rs F := fun k r e => s.keep _ _ (hF.ne (h k r e) fun _ _ _ _ _ _ w => by cases w) (h k r e)
/-- the pairs of a list, (0, 1) behind it -/
def LF (L : List (Int × Int)) : Nat → Int × Int := fun k => L.getD k (0, 1)
def Drw (n m : Nat) (L : List (Int × Int)) : Prop := ∀ x ∈ L, 0 < x.2 ∧ x.1.natAbs < 2 ^ n ∧ x.2.natAbs < 2 ^ m
theorem LF_in {L : List (Int × Int)} {k : Nat} (h : k < L.length) : LF L k = L[k] := by
  show L.getD k (0, 1) = _
  rw [List.getD_eq_getElem?_getD, List.getElem?_eq_getElem h]
  rfl
theorem LF_out {L : List (Int × Int)} {k : Nat} (h : L.length ≤ k) : LF L k = (0, 1) := by
  show L.getD k (0, 1) = _
  rw [List.getD_eq_getElem?_getD, List.getElem?_eq_none h]
  rfl
theorem LF_ok {n m : Nat} {L : List (Int × Int)} (h : Drw n m L) (hm : 1 ≤ m) (k : Nat) : 0 < (LF L k).2 ∧ (LF L k).1.natAbs < 2 ^ n ∧ (LF L k).2.natAbs < 2 ^ m := by
  rcases Nat.lt_or_ge k L.length with e | e
  · rw [LF_in e]
    exact h _ (List.getElem_mem e)
  · rw [LF_out e]
    exact ⟨by decide, Nat.two_pow_pos _, Nat.one_lt_two_pow (by omega)⟩
theorem LF_app {L : List (Int × Int)} {x : Int × Int} {k : Nat} (h : k < L.length) : LF (L ++ [x]) k = LF L k := by
  rw [LF_in h, LF_in (show k < (L ++ [x]).length by rw [List.length_append]; omega), List.getElem_append_left h]
theorem LF_last {L : List (Int × Int)} {x : Int × Int} : LF (L ++ [x]) L.length = x := by
  rw [LF_in (show L.length < (L ++ [x]).length by rw [List.length_append]; show L.length < L.length + 1; omega), List.getElem_append_right (Nat.le_refl _)]
  simp
theorem Prsd.app {H : Hp} {rs : List Addr} {L : List (Int × Int)} {x : Int × Int} (h : Prsd H rs (LF L)) (hl : rs.length ≤ L.length) : Prsd H rs (LF (L ++ [x])) := fun k r e => by
  have := (List.getElem?_eq_some_iff.mp e).1
  rw [LF_app (by omega)]
  exact h k r e
theorem Drw.app {n m : Nat} {L : List (Int × Int)} {x : Int × Int} (h : Drw n m L) (hx : 0 < x.2 ∧ x.1.natAbs < 2 ^ n ∧ x.2.natAbs < 2 ^ m) : Drw n m (L ++ [x]) := fun y hy => by
  rcases List.mem_append.mp hy with e | e
  · exact h y e
  · cases List.mem_singleton.mp e
    exact hx

theorem RatV.stp {C : Addr} {G G' : Hp} {f : Addr} {v : V} {z : Rat} (F : FeedAt G f) (s : Stp f G G') (r : RatV C G v z) : RatV C G' v z := by
  obtain ⟨a, dx, e, h⟩ := r
  exact ⟨a, dx, e, s.keep _ _ (F.ne h fun _ _ _ _ _ _ w => by cases w) h⟩
theorem NumV.stp {C : Addr} {G G' : Hp} {f : Addr} {v : V} {z : Rat} (F : FeedAt G f) (s : Stp f G G') (r : NumV C G v z) : NumV C G' v z := r.imp id fun r => r.stp F s
theorem RatsV.stp {C : Addr} {G G' : Hp} {f : Addr} {xs : List V} {g : Nat → Rat} (h : RatsV C G xs g) (F : FeedAt G f) (s : Stp f G G') : RatsV C G' xs g := fun k x e => (h k x e).stp F s
theorem NumsV.stp {C : Addr} {G G' : Hp} {f : Addr} {xs : List V} {g : Nat → Rat} (h : NumsV C G xs g) (F : FeedAt G f) (s : Stp f G G') : NumsV C G' xs g := fun k x e => (h k x e).stp F s
theorem rats_ne {C : Addr} {G : Hp} {f d : Addr} {xs : List V} {g : Nat → Rat} (h : RatsV C G xs g) (hF : FeedAt G f) (hd : G d = some (.lst xs)) : d ≠ f := hF.ne hd fun l i r t n s z => by
  have e := HO.lst.inj z
  subst e
  obtain ⟨a, dx, fs, e, _⟩ := (h 1 (.int i) rfl).ins
  cases e
end
end MoL

/-! # while by a number that rises, quotients, the last item -/
namespace MoL
open PySem PySem.Spec PyProof.Rows L2 MoW
theorem over_q {x y : Rat} (h : y ≠ 0) : (x / y) * (((x.den : Int) * y.num : Int) : Rat) = ((x.num * (y.den : Int) : Int) : Rat) := by
  rw [Rat.intCast_mul, Rat.intCast_mul, num_is, num_is]
  grind
theorem Bd.over {n m n' m' : Nat} {x y : Rat} (h : y ≠ 0) (a : Bd n m x) (b : Bd n' m' y) : Bd (n + m') (m + n') (x / y) :=
  .of (Int.mul_ne_zero (by have := den_pos x; omega) (num_ne h)) (over_q h) (nmul a.top b.d) (nmul a.d b.top)
abbrev upW (n : Nat) (Pv : Nat → L2.St → Hp → Prop) : Nat → L2.St → Hp → Prop := fun m σ H => ∃ j, m = n - j ∧ j ≤ n ∧ Pv j σ H
theorem while_up {c : TT} {tb : TS} {E : Ends} {σ : L2.St} {H : Hp} (n : Nat) (Pv : Nat → L2.St → Hp → Prop) (h0 : Pv 0 σ H)
    (hs : ∀ j σ H, j ≤ n → Pv j σ H → c σ H fun b H1 => if b = true then ∃ N : L2.St → Hp → Prop, (∀ σ' H', N σ' H' → ∃ m', m' < n - j ∧ upW n Pv m' σ' H') ∧ tb { E with nx := N, ct := N, bk := E.nx } σ H1 else E.nx σ H1) : tWhile c tb E σ H := by
  refine ⟨upW n Pv, ⟨n, 0, rfl, Nat.zero_le _, h0⟩, ?_⟩
  rintro m σ H ⟨j, rfl, hj, p⟩
  exact hs j σ H hj p
theorem up_next {n j : Nat} {Pv : Nat → L2.St → Hp → Prop} (h : j < n) : ∀ σ' H', Pv (j + 1) σ' H' → ∃ m', m' < n - j ∧ upW n Pv m' σ' H' := fun σ' H' p => ⟨n - (j + 1), by omega, j + 1, rfl, h, p⟩
theorem RatsV.upd {C : Addr} {H : Hp} {ys zs : List V} {f : Nat → Rat} {d : Addr} {o : HO} (h : RatsV C H ys f) (hd : H d = some (.lst zs)) : RatsV C (upd H d o) ys f := fun k x e => (h k x e).put hd
theorem at_last {xs : List V} {j : Nat} {v : V} (h : xs.length = j + 1) (hx : xs[j]? = some v) : atI xs (-1) = some v := by
  have e : ixN xs.length (-1) = some j := by
    unfold ixN
    rw [h, if_neg (by decide), if_pos (by omega)]
    congr 1
    omega
  unfold atI
  rw [e]
  exact hx
end MoL

/-! # Finite sums of fractions, rows of lots, tuples of two ints -/
namespace MoL
open PySem PySem.Spec PyProof.Rows L2 MoW
def sumR (f : Nat → Rat) : Nat → Rat
  | 0 => 0
  | n + 1 => sumR f n + f n
section
variable {f g : Nat → Rat} {n m : Nat}
theorem sumR_congr : ∀ {n : Nat}, (∀ k, k < n → f k = g k) → sumR f n = sumR g n
  | 0, _ => rfl
  | n + 1, h => by
    show sumR f n + f n = sumR g n + g n
    rw [sumR_congr (n := n) fun k hk => h k (by omega), h n (by omega)]
theorem sumR_add : ∀ n, sumR (fun k => f k + g k) n = sumR f n + sumR g n
  | 0 => by show (0 : Rat) = 0 + 0; grind
  | n + 1 => by
    show sumR (fun k => f k + g k) n + (f n + g n) = sumR f n + f n + (sumR g n + g n)
    rw [sumR_add n]
    grind
theorem sumR_sub : ∀ n, sumR (fun k => f k - g k) n = sumR f n - sumR g n
  | 0 => by show (0 : Rat) = 0 - 0; grind
  | n + 1 => by
    show sumR (fun k => f k - g k) n + (f n - g n) = sumR f n + f n - (sumR g n + g n)
    rw [sumR_sub n]
    grind
theorem sumR_mul (c : Rat) : ∀ n, sumR (fun k => c * f k) n = c * sumR f n
  | 0 => by show (0 : Rat) = c * 0; grind
  | n + 1 => by
    show sumR (fun k => c * f k) n + c * f n = c * (sumR f n + f n)
    rw [sumR_mul c n]
    grind
theorem sumR_mulr (c : Rat) : ∀ n, sumR (fun k => f k * c) n = sumR f n * c
  | 0 => by show (0 : Rat) = 0 * c; grind
  | n + 1 => by
    show sumR (fun k => f k * c) n + f n * c = (sumR f n + f n) * c
    rw [sumR_mulr c n]
    grind
theorem sumR_zero : ∀ {n : Nat}, (∀ k, k < n → f k = 0) → sumR f n = 0
  | 0, _ => rfl
  | n + 1, h => by
    show sumR f n + f n = 0
    rw [sumR_zero (n := n) fun k hk => h k (by omega), h n (by omega)]
    grind
theorem sumR_head : ∀ n, sumR f (n + 1) = f 0 + sumR (fun k => f (k + 1)) n
  | 0 => by show (0 : Rat) + f 0 = f 0 + 0; grind
  | n + 1 => by
    show sumR f (n + 1) + f (n + 1) = f 0 + (sumR (fun k => f (k + 1)) n + f (n + 1))
    rw [sumR_head n]
    grind
theorem sumR_more : ∀ (d : Nat), (∀ k, n ≤ k → k < n + d → f k = 0) → sumR f (n + d) = sumR f n
  | 0, _ => rfl
  | d + 1, h => by
    show sumR f (n + d) + f (n + d) = sumR f n
    rw [sumR_more d fun k h1 h2 => h k h1 (by omega), h (n + d) (by omega) (by omega)]
    grind
theorem sumR_swap (F : Nat → Nat → Rat) : ∀ n, sumR (fun i => sumR (F i) m) n = sumR (fun j => sumR (fun i => F i j) n) m
  | 0 => (sumR_zero fun _ _ => rfl).symm
  | n + 1 => by
    show sumR (fun i => sumR (F i) m) n + sumR (F n) m = sumR (fun j => sumR (fun i => F i j) n + F n j) m
    rw [sumR_swap F n, ← sumR_add]
theorem sumR_nonneg : ∀ {n : Nat}, (∀ k, k < n → 0 ≤ f k) → 0 ≤ sumR f n
  | 0, _ => Rat.le_refl
  | n + 1, h => Rat.add_nonneg (sumR_nonneg fun k hk => h k (by omega)) (h n (by omega))
end
/-- a sum of ints, as fractions -/
theorem sum_R : ∀ (xs : List Int), ((xs.sum : Int) : Rat) = sumR (fun k => ((xs.getD k 0 : Int) : Rat)) xs.length
  | [] => rfl
  | x :: xs => by
    rw [List.sum_cons, Rat.intCast_add, List.length_cons, sumR_head, sum_R xs]
    rfl
theorem pow_mul_R (x y : Rat) : ∀ n : Nat, (x * y) ^ n = x ^ n * y ^ n
  | 0 => by rw [Rat.pow_zero, Rat.pow_zero, Rat.pow_zero]; grind
  | n + 1 => by rw [Rat.pow_succ, Rat.pow_succ, Rat.pow_succ, pow_mul_R x y n]; grind
theorem pow_ne_R {x : Rat} (h : x ≠ 0) : ∀ n : Nat, x ^ n ≠ 0
  | 0 => by rw [Rat.pow_zero]; decide
  | n + 1 => by
    rw [Rat.pow_succ]
    intro z
    have := pow_ne_R h n
    grind
theorem div_pow_R {x y : Rat} (h : y ≠ 0) (n : Nat) : (x / y) ^ n * y ^ n = x ^ n := by
  rw [← pow_mul_R]
  congr 1
  grind
/-! ### means of rows of lots -/
/-- the row of the points x with the weights w -/
def lotF (w x : Nat → Rat) (n : Nat) (k : Nat) : Rat := sumR (fun j => w j * x j ^ k) n
/-- differences of neighbours, k times -/
def dfF (f : Nat → Rat) : Nat → Nat → Rat
  | 0, i => f i
  | k + 1, i => dfF f k i - dfF f k (i + 1)
theorem dfF_congr {f g : Nat → Rat} : ∀ (k i : Nat), (∀ j, i ≤ j → j ≤ i + k → f j = g j) → dfF f k i = dfF g k i
  | 0, i, h => h i (Nat.le_refl _) (Nat.le_refl _)
  | k + 1, i, h => by
    show dfF f k i - dfF f k (i + 1) = dfF g k i - dfF g k (i + 1)
    rw [dfF_congr k i fun j h1 h2 => h j h1 (by omega), dfF_congr k (i + 1) fun j h1 h2 => h j (by omega) (by omega)]
theorem dfF_lot (w x : Nat → Rat) (n : Nat) : ∀ k i, dfF (lotF w x n) k i = sumR (fun j => w j * x j ^ i * (1 - x j) ^ k) n
  | 0, i => sumR_congr fun j _ => by rw [Rat.pow_zero]; grind
  | k + 1, i => by
    show dfF (lotF w x n) k i - dfF (lotF w x n) k (i + 1) = _
    rw [dfF_lot w x n k i, dfF_lot w x n k (i + 1), ← sumR_sub]
    refine sumR_congr fun j _ => ?_
    rw [Rat.pow_succ, Rat.pow_succ]
    grind
theorem dfF_nonneg {w x : Nat → Rat} {n : Nat} (hw : ∀ j, j < n → 0 ≤ w j) (hx : ∀ j, j < n → 0 ≤ x j ∧ x j ≤ 1) (k i : Nat) : 0 ≤ dfF (lotF w x n) k i := by
  rw [dfF_lot]
  refine sumR_nonneg fun j hj => Rat.mul_nonneg (Rat.mul_nonneg (hw j hj) (Rat.pow_nonneg (hx j hj).1)) (Rat.pow_nonneg ?_)
  have := (hx j hj).2
  grind
/-- in turn j: the means of (x + c) ** j * x ** k -/
def mvL (f : Nat → Rat) (c : Rat) : Nat → Nat → Rat
  | 0, k => f k
  | j + 1, k => mvL f c j (k + 1) + mvL f c j k * c
def mvF (f : Nat → Rat) (c : Rat) (j : Nat) : Rat := mvL f c j 0
theorem mvL_congr {f g : Nat → Rat} {c : Rat} : ∀ (j k : Nat), (∀ i, k ≤ i → i ≤ k + j → f i = g i) → mvL f c j k = mvL g c j k
  | 0, k, h => h k (Nat.le_refl _) (Nat.le_refl _)
  | j + 1, k, h => by
    show mvL f c j (k + 1) + mvL f c j k * c = mvL g c j (k + 1) + mvL g c j k * c
    rw [mvL_congr j k fun i h1 h2 => h i h1 (by omega), mvL_congr j (k + 1) fun i h1 h2 => h i (by omega) (by omega)]
theorem mvF_congr {f g : Nat → Rat} {c : Rat} (j : Nat) (h : ∀ i, i ≤ j → f i = g i) : mvF f c j = mvF g c j := mvL_congr j 0 fun i _ h2 => h i (by omega)
theorem mvL_lot (w x : Nat → Rat) (n : Nat) (c : Rat) : ∀ j k, mvL (lotF w x n) c j k = sumR (fun i => w i * (x i + c) ^ j * x i ^ k) n
  | 0, k => sumR_congr fun i _ => by rw [Rat.pow_zero]; grind
  | j + 1, k => by
    show mvL (lotF w x n) c j (k + 1) + mvL (lotF w x n) c j k * c = _
    rw [mvL_lot w x n c j k, mvL_lot w x n c j (k + 1), ← sumR_mulr, ← sumR_add]
    refine sumR_congr fun i _ => ?_
    rw [Rat.pow_succ, Rat.pow_succ]
    grind
theorem mvF_lot (w x : Nat → Rat) (n : Nat) (c : Rat) (j : Nat) : mvF (lotF w x n) c j = lotF w (fun i => x i + c) n j := by
  show mvL _ _ j 0 = _
  rw [mvL_lot]
  exact sumR_congr fun i _ => by rw [Rat.pow_zero]; grind
theorem mv_step {a b : Int} {x y B c : Rat} (h1 : (a : Rat) = x * B) (h2 : (b : Rat) = y * B) : ((a * (c.den : Int) + b * c.num : Int) : Rat) = (x + y * c) * (B * ((c.den : Int) : Rat)) := by
  rw [Rat.intCast_add, Rat.intCast_mul, Rat.intCast_mul, h1, h2, num_is]
  grind
/-! ### the sums of powers of ints -/
/-- the weights times the k-th powers of the points -/
def powl (ts ps : List Int) (k : Nat) : List Int := List.zipWith (fun p t => p * t ^ k) ps ts
theorem powl_len {ts ps : List Int} (hl : ts.length = ps.length) (k : Nat) : (powl ts ps k).length = ts.length := by
  show (List.zipWith _ _ _).length = _
  rw [List.length_zipWith]
  omega
theorem powl_get {ts ps : List Int} (hl : ts.length = ps.length) {k j : Nat} (hj : j < ts.length) : (powl ts ps k)[j]? = some (ps.getD j 0 * ts.getD j 0 ^ k) := by
  show (List.zipWith _ _ _)[j]? = _
  rw [List.getElem?_zipWith, List.getD_eq_getElem?_getD, List.getD_eq_getElem?_getD, List.getElem?_eq_getElem hj, List.getElem?_eq_getElem (show j < ps.length by omega)]
  rfl
theorem powl_zero {ts ps : List Int} (hl : ts.length = ps.length) : powl ts ps 0 = ps := by
  refine List.ext_getElem? fun j => ?_
  by_cases hj : j < ts.length
  · rw [powl_get hl hj, Int.pow_zero, Int.mul_one, List.getD_eq_getElem?_getD, List.getElem?_eq_getElem (show j < ps.length by omega)]
    rfl
  · rw [List.getElem?_eq_none (by rw [powl_len hl]; omega), List.getElem?_eq_none (by omega)]
theorem lot_ring (p t c d : Rat) (hd : d ≠ 0) : p / d * t * (d * c) = p * (t * c) := by grind
theorem powl_lot {ts ps : List Int} (hl : ts.length = ps.length) {u b : Int} (hu : u ≠ 0) (hb : b ≠ 0) (k : Nat) :
    qv ((powl ts ps k).sum, u * b ^ k) = lotF (fun j => ((ps.getD j 0 : Int) : Rat) / (u : Rat)) (fun j => ((ts.getD j 0 : Int) : Rat) / (b : Rat)) ts.length k := by
  have hq : u * b ^ k ≠ 0 := Int.mul_ne_zero hu (Int.pow_ne_zero hb)
  refine div_eq hq ?_
  show lotF _ _ _ k * ((u * b ^ k : Int) : Rat) = _
  rw [sum_R, powl_len hl, Rat.intCast_mul, Rat.intCast_pow]
  show sumR _ _ * _ = _
  rw [← sumR_mulr]
  refine sumR_congr fun j hj => ?_
  have e : (powl ts ps k).getD j 0 = ps.getD j 0 * ts.getD j 0 ^ k := by
    rw [List.getD_eq_getElem?_getD, powl_get hl hj]
    rfl
  have hu' := ine u hu
  have hb' := ine b hb
  have h3 := div_pow_R (x := ((ts.getD j 0 : Int) : Rat)) hb' k
  rw [e, Rat.intCast_mul, Rat.intCast_pow, ← h3]
  exact lot_ring _ _ _ _ hu'
/-! ### tuples of two ints -/
abbrev tup2 (x y : Int) : HO := .tup [.int x, .int y]
/-- these tuples hold the pairs F 0, F 1, .. -/
def Tups (H : Hp) (rs : List Addr) (F : Nat → Int × Int) : Prop := ∀ k r, rs[k]? = some r → H r = some (tup2 (F k).1 (F k).2)
def TupsAt (H : Hp) (v : V) (n : Nat) (F : Nat → Int × Int) : Prop := ∃ a rs, v = .ref a ∧ H a = some (.lst (rs.map V.ref)) ∧ rs.length = n ∧ Tups H rs F
theorem Tups.same {H H' : Hp} {rs : List Addr} {F : Nat → Int × Int} (h : Tups H rs F) (s : Same H H') : Tups H' rs F := fun k r e => s _ _ (h k r e)
theorem TupsAt.same {H H' : Hp} {v : V} {n : Nat} {F : Nat → Int × Int} (h : TupsAt H v n F) (s : Same H H') : TupsAt H' v n F := by
  obtain ⟨a, rs, e, h, l, p⟩ := h
  exact ⟨a, rs, e, s _ _ h, l, p.same s⟩
theorem Tups.nil {H : Hp} {F : Nat → Int × Int} : Tups H [] F := fun k r h => by simp at h
/-- a list changes, the tuples stay -/
theorem Tups.put {H : Hp} {rs : List Addr} {F : Nat → Int × Int} {d : Addr} {ys : List V} {o : HO} (h : Tups H rs F) (hd : H d = some (.lst ys)) : Tups (upd H d o) rs F := fun k r e => by
  rw [upd_ne fun z => by have := h k r e; rw [z, hd] at this; cases this]
  exact h k r e
theorem Tups.push {H : Hp} {r : Addr} {rs : List Addr} {F : Nat → Int × Int} (h : Tups H rs F) (hr : H r = some (tup2 (F rs.length).1 (F rs.length).2)) : Tups H (rs ++ [r]) F := fun k x hx => by
  rcases push_get hx with ⟨_, h1⟩ | ⟨rfl, rfl⟩
  · exact h k x h1
  · exact hr
theorem Tups.to {H : Hp} {rs : List Addr} {F G : Nat → Int × Int} (h : Tups H rs F) (e : ∀ k, k < rs.length → F k = G k) : Tups H rs G := fun k r hr => e k (get_lt hr) ▸ h k r hr
/-- a list of tuples as data -/
def pdT (p : Int × Int) : PyData := .tuple [.int p.1, .int p.2]
def pdL (F : Nat → Int × Int) (n : Nat) : List PyData := (List.range n).map fun k => pdT (F k)
theorem pdT_eqv (p q : Int × Int) : PyData.eqv (pdT p) (pdT q) = decide (p = q) := by
  obtain ⟨a, b⟩ := p
  obtain ⟨c, d⟩ := q
  have e : PyData.eqv (pdT (a, b)) (pdT (c, d)) = ((a == c) && ((b == d) && true)) := by simp only [pdT, PyData.eqv, PyData.eqvAll]
  rw [e, Bool.eq_iff_iff]
  simp
theorem eqvAll_map {α : Type} (f g : α → Int × Int) : ∀ xs : List α, PyData.eqvAll (xs.map fun k => pdT (f k)) (xs.map fun k => pdT (g k)) = decide (∀ x ∈ xs, f x = g x)
  | [] => by simp [PyData.eqvAll]
  | x :: xs => by
    rw [List.map_cons, List.map_cons]
    simp only [PyData.eqvAll]
    rw [eqvAll_map f g xs, pdT_eqv, Bool.eq_iff_iff]
    simp
theorem pdL_eqv (F G : Nat → Int × Int) (n : Nat) : PyData.eqv (.list (pdL F n)) (.list (pdL G n)) = decide (∀ k, k < n → F k = G k) := by
  simp only [PyData.eqv]
  show PyData.eqvAll (List.map _ _) (List.map _ _) = _
  rw [eqvAll_map, Bool.eq_iff_iff]
  simp
theorem pdL_lay : ∀ (xs : List (Int × Int)), PyData.canLayAll0 (xs.map pdT) = true
  | [] => by simp [PyData.canLayAll0]
  | x :: xs => by
    rw [List.map_cons]
    simp only [PyData.canLayAll0, pdT, PyData.canLay0, pdL_lay xs]
    rfl
theorem pdL_depth : ∀ (xs : List (Int × Int)), PyData.depthAll (xs.map pdT) ≤ 10
  | [] => by simp [PyData.depthAll]
  | x :: xs => by
    rw [List.map_cons]
    have := pdL_depth xs
    simp only [PyData.depthAll, pdT, PyData.depth] at this ⊢
    omega
theorem pdL_shaped (F : Nat → Int × Int) (n : Nat) : PySem.SeqAt.shaped (.list (pdL F n)) = true := by
  have e : pdL F n = ((List.range n).map F).map pdT := by show List.map _ _ = _; rw [List.map_map]; rfl
  rw [e]
  have h1 := pdL_depth ((List.range n).map F)
  have h2 : PyData.depth (.list (((List.range n).map F).map pdT)) ≤ 64 := by
    simp only [PyData.depth]
    omega
  show (PyData.canLay0 (.list (((List.range n).map F).map pdT)) && decide (PyData.depth (.list (((List.range n).map F).map pdT)) ≤ 64)) = true
  rw [Bool.and_eq_true]
  exact ⟨by simp only [PyData.canLay0]; exact pdL_lay _, decide_eq_true h2⟩
theorem dpAll_tups {K : PySem.W.Frag} {H : Hp} {F : Nat → Int × Int} : ∀ (rs : List Addr) (j : Nat), (∀ k r, rs[k]? = some r → H r = some (tup2 (F (j + k)).1 (F (j + k)).2)) → DpAll K H (rs.map V.ref) ((List.range' j rs.length).map fun k => pdT (F k))
  | [], j, _ => .nil
  | r :: rs, j, h => by
    rw [List.map_cons, List.length_cons, List.range'_succ, List.map_cons]
    exact .cons (.tup (.of (h 0 r rfl)) (.cons (.int _) (.cons (.int _) .nil))) (dpAll_tups rs (j + 1) fun k x e => by have := h (k + 1) x e; rw [show j + 1 + k = j + (k + 1) by omega]; exact this)
theorem TupsAt.dp {K : PySem.W.Frag} {H : Hp} {v : V} {n : Nat} {F : Nat → Int × Int} (h : TupsAt H v n F) : Dp K H v (.list (pdL F n)) := by
  obtain ⟨a, rs, rfl, ha, rfl, hp⟩ := h
  refine .lst (.of ha) ?_
  have := dpAll_tups (K := K) (H := H) (F := F) rs 0 (fun k r e => (Nat.zero_add k).symm ▸ hp k r e)
  rw [← List.range_eq_range'] at this
  exact this
theorem ix_tupK {X : Cx} {K : PySem.W.Frag} (h : X.K = K) : IxR X (rIxT K) := h ▸ ix_tup
theorem ref_get {rs : List Addr} {i : Nat} {x : V} (hx : (rs.map V.ref)[i]? = some x) : ∃ r, rs[i]? = some r ∧ x = .ref r := by
  rw [List.getElem?_map] at hx
  cases h : rs[i]? with
  | none => rw [h] at hx; cases hx
  | some r => rw [h] at hx; exact ⟨r, rfl, (Option.some.inj hx).symm⟩
/-! ### the lines of the law's table of differences -/
def ln : Nat → Nat → Int
  | 0, i => if i = 0 then 1 else 0
  | _ + 1, 0 => 1
  | k + 1, i + 1 => ln k (i + 1) - ln k i
theorem ln_zero : ∀ k, ln k 0 = 1
  | 0 => rfl
  | _ + 1 => rfl
theorem ln_out : ∀ (k i : Nat), k < i → ln k i = 0
  | 0, i, h => if_neg (by omega)
  | k + 1, 0, h => absurd h (Nat.not_lt_zero _)
  | k + 1, i + 1, h => by
    show ln k (i + 1) - ln k i = 0
    rw [ln_out k (i + 1) (by omega), ln_out k i (by omega)]
    rfl
theorem ln_lt : ∀ (k i : Nat), (ln k i).natAbs ≤ 2 ^ k
  | 0, i => by
    show (if i = 0 then (1 : Int) else 0).natAbs ≤ 1
    split <;> decide
  | k + 1, 0 => by
    show (1 : Int).natAbs ≤ _
    exact Nat.one_le_two_pow
  | k + 1, i + 1 => by
    show (ln k (i + 1) - ln k i).natAbs ≤ _
    have h1 := ln_lt k (i + 1)
    have h2 := ln_lt k i
    rw [Nat.pow_succ]
    omega
theorem ln_sum (f : Nat → Rat) : ∀ k a, sumR (fun i => (ln k i : Rat) * f (a + i)) (k + 1) = dfF f k a
  | 0, a => by
    show (0 : Rat) + ((ln 0 0 : Int) : Rat) * f (a + 0) = f a
    rw [show ln 0 0 = 1 from rfl, Nat.add_zero, Rat.intCast_one]
    grind
  | k + 1, a => by
    show _ = dfF f k a - dfF f k (a + 1)
    rw [← ln_sum f k a, ← ln_sum f k (a + 1), sumR_head]
    have e1 : sumR (fun i => ((ln (k + 1) (i + 1) : Int) : Rat) * f (a + (i + 1))) (k + 1) = sumR (fun i => ((ln k (i + 1) : Int) : Rat) * f (a + (i + 1))) (k + 1) - sumR (fun i => ((ln k i : Int) : Rat) * f (a + 1 + i)) (k + 1) := by
      rw [← sumR_sub]
      refine sumR_congr fun i _ => ?_
      show ((ln k (i + 1) - ln k i : Int) : Rat) * _ = _
      rw [Rat.intCast_sub, show a + 1 + i = a + (i + 1) by omega]
      grind
    have e2 := sumR_head (f := fun i => ((ln k i : Int) : Rat) * f (a + i)) (k + 1)
    have e3 : sumR (fun i => ((ln k i : Int) : Rat) * f (a + i)) (k + 1 + 1) = sumR (fun i => ((ln k i : Int) : Rat) * f (a + i)) (k + 1) + ((ln k (k + 1) : Int) : Rat) * f (a + (k + 1)) := rfl
    rw [ln_out k (k + 1) (by omega), Rat.intCast_zero] at e3
    have e4 : ((ln (k + 1) 0 : Int) : Rat) = ((ln k 0 : Int) : Rat) := by rw [ln_zero, ln_zero]
    have e1' : sumR (fun k_1 => ((ln (k + 1) (k_1 + 1) : Int) : Rat) * f (a + (k_1 + 1))) (k + 1) = _ := e1
    rw [e1', e4]
    grind
/-- the line after a line -/
theorem ln_next {k : Nat} : ([1] ++ (List.range k).map (fun i => ln k (i + 1) - ln k i)) ++ [-ln k k] = (List.range (k + 2)).map (ln (k + 1)) := by
  refine List.ext_getElem? fun i => ?_
  rcases Nat.lt_or_ge i (k + 2) with h | h
  · rw [List.getElem?_map, List.getElem?_range h]
    rcases Nat.lt_or_ge i (k + 1) with h1 | h1
    · rw [List.getElem?_append_left (by simp; omega)]
      cases i with
      | zero => rfl
      | succ i =>
        rw [List.getElem?_append_right (by simp), List.length_singleton, Nat.add_sub_cancel, List.getElem?_map, List.getElem?_range (by omega)]
        rfl
    · have e : i = k + 1 := by omega
      subst e
      rw [List.getElem?_append_right (by simp)]
      have hlen : ([(1 : Int)] ++ (List.range k).map (fun i => ln k (i + 1) - ln k i)).length = k + 1 := by simp
      rw [hlen, Nat.sub_self]
      show some (-ln k k) = some (ln k (k + 1) - ln k k)
      rw [ln_out k (k + 1) (by omega)]
      congr 1
      omega
  · rw [List.getElem?_eq_none (by simp; omega), List.getElem?_eq_none (by simp; omega)]
/-- the product of m bottoms from a on -/
def WN (F : Nat → Int × Int) (a : Nat) : Nat → Int
  | 0 => 1
  | m + 1 => WN F a m * (F (a + m)).2
theorem WN_pos {F : Nat → Int × Int} {a : Nat} : ∀ m, (∀ k, k < a + m → 0 < (F k).2) → 0 < WN F a m
  | 0, _ => by show (0 : Int) < 1; decide
  | m + 1, h => Int.mul_pos (WN_pos m fun k hk => h k (by omega)) (h (a + m) (by omega))
theorem WN_app {F : Nat → Int × Int} {a : Nat} : ∀ m, WN F 0 (a + m) = WN F 0 a * WN F a m
  | 0 => by show WN F 0 a = WN F 0 a * 1; rw [Int.mul_one]
  | m + 1 => by
    show WN F 0 (a + m) * (F (0 + (a + m))).2 = WN F 0 a * (WN F a m * (F (a + m)).2)
    rw [WN_app m, Nat.zero_add, Int.mul_assoc]
theorem le_mul1 {x y : Int} (hx : 0 < x) (hy : 0 < y) : x ≤ x * y := by
  have : x * 1 ≤ x * y := Int.mul_le_mul_of_nonneg_left (by omega) (by omega)
  omega
theorem WN_le {F : Nat → Int × Int} {a n m : Nat} (h : ∀ k, k < n → 0 < (F k).2) (hm : a + m ≤ n) : WN F a m ≤ WN F 0 n := by
  have h1 : 0 < WN F a m := WN_pos m fun k hk => h k (by omega)
  have h2 : 0 < WN F 0 a := WN_pos a fun k hk => h k (by omega)
  have h3 : 0 < WN F (a + m) (n - (a + m)) := WN_pos _ fun k hk => h k (by omega)
  have e : WN F 0 n = WN F 0 a * WN F a m * WN F (a + m) (n - (a + m)) := by
    have := WN_app (F := F) (a := a + m) (n - (a + m))
    rw [show a + m + (n - (a + m)) = n by omega, WN_app] at this
    exact this
  have h4 : WN F a m ≤ WN F 0 a * WN F a m := by rw [Int.mul_comm]; exact le_mul1 h1 h2
  have h5 := le_mul1 (Int.mul_pos h2 h1) h3
  omega
theorem WN_set {F G : Nat → Int × Int} {a : Nat} {u : Int} (h : ∀ j, (G j).2 = if j = a then (F j).2 * u else (F j).2) : ∀ m, WN G 0 m = WN F 0 m * if a < m then u else 1
  | 0 => by show (1 : Int) = 1 * if a < 0 then u else 1; rw [if_neg (by omega)]; rfl
  | m + 1 => by
    show WN G 0 m * (G (0 + m)).2 = WN F 0 m * (F (0 + m)).2 * _
    rw [WN_set h m, h, Nat.zero_add]
    rcases Nat.lt_trichotomy a m with e | e | e
    · rw [if_pos e, if_neg (by omega), if_pos (by omega), Int.mul_assoc, Int.mul_assoc, Int.mul_comm u]
    · subst e
      rw [if_neg (by omega), if_pos rfl, if_pos (by omega), Int.mul_one, Int.mul_assoc]
    · rw [if_neg (by omega), if_neg (by omega), if_neg (by omega), Int.mul_one, Int.mul_one]
theorem WN_small {F : Nat → Int × Int} {c : Int} (hc : 0 < c) : ∀ m, (∀ k, k < m → 0 < (F k).2 ∧ (F k).2 ≤ c) → WN F 0 m ≤ c ^ m
  | 0, _ => by rw [Int.pow_zero]; exact Int.le_refl _
  | m + 1, h => by
    show WN F 0 m * (F (0 + m)).2 ≤ _
    rw [Nat.zero_add, Int.pow_succ]
    have h1 := WN_small hc m fun k hk => h k (by omega)
    have h2 := h m (by omega)
    have h3 : 0 < WN F 0 m := WN_pos m fun k hk => (h k (by omega)).1
    exact Int.le_trans (Int.mul_le_mul_of_nonneg_left h2.2 (by omega)) (Int.mul_le_mul_of_nonneg_right h1 (by omega))
end MoL

/-! # Polynomials over Rat on the heap, operators between two classes -/
namespace MoW
open PySem PySem.W PyProof.Rows
section
variable {prog : Program} {w : World} {A : Around} {E : Value → Shared → Prop} {s : Shared} {K : Frag} {x y C D L f g fr : Addr} {ox oy : Obj} {od od' : Option Obj} {h₀ : Heap} {m : Str → Option Value}
/-- an instance beside one of another class: its own method answers -/
theorem bin_own_two {op : Operator} {Q : Value → Shared → Prop} {f' g' : Addr} (X : K.In s.heap) (I : W.InstAt s.heap x ox C od) (J : W.InstAt s.heap y oy D od') (hc : selfFirst K C = true) (hd : selfFirst K D = true) (hne : C ≠ D)
    (hn : subIn K (.ref D) (.ref C) = some false) (h1 : findIn K (.ref C) (PySem.dunder op.info.2) = some (some (.ref f))) (hf : isFn K (.ref f) = true) (h1r : findIn K (.ref C) (dunderR op.info.2) = some (some (.ref f')))
    (h2 : findIn K (.ref D) (PySem.dunder op.info.2) = some (some (.ref g'))) (h2r : findIn K (.ref D) (dunderR op.info.2) = some (some (.ref g)))
    (a : wpAny (model prog w) A (call (.ref f) [.ref x, .ref y]) (W.CmpBack Q) E s) : wpAny (model prog w) A (binaryOp op (.ref x) (.ref y)) Q E s := by
  obtain ⟨cd, rest, hcd, hm⟩ := mro_first (K := K) (C := C) (cd := default) hc
  obtain ⟨dd, rest2, hdd, hm2⟩ := mro_first (K := K) (C := D) (cd := default) hd
  unfold binaryOp
  refine wpAny_holding (wpAny_bind ?_)
  unfold binaryOp1
  refine wpAny_bind (I.type.here (wpAny_bind (J.type.here (wpAny_bind ((fills_K X hcd hm h1).here ?_)))))
  have ne : (Value.ref C == Value.ref D) = false := by simpa using hne
  simp only [ne, Bool.false_eq_true, if_false]
  refine wpAny_bind ((fills_K X hdd hm2 h2).here ?_)
  simp only [Bool.and_self, if_true]
  refine wpAny_bind ((looks_subIn X hn).here ?_)
  simp only [Bool.false_eq_true, if_false, pure_bind, Bool.not_false, Bool.and_self, if_true]
  have py : ∀ {Z p q : Addr}, findIn K (.ref Z) (PySem.dunder op.info.2) = some (some (.ref p)) → findIn K (.ref Z) (dunderR op.info.2) = some (some (.ref q)) → Looks (model prog w) s.heap (numberSlotInPython (.ref Z) op.info.2) true := by
    intro Z p q z1 z2
    unfold numberSlotInPython
    refine (looks_findIn X z1).andThen (Looks.andThen (a := true) .now ?_)
    exact (looks_findIn X z2).andThen (Looks.andThen (a := true) .now .now)
  refine wpAny_bind ((py h1 h1r).here ?_)
  simp only [if_true]
  refine wpAny_bind ((py h2 h2r).here ?_)
  simp only [Bool.not_true, Bool.false_eq_true, if_false]
  refine wpAny_bind (m := tryMethod (.ref x) _ (.ref y)) ?_
  unfold tryMethod
  refine wpAny_bind (special_fn X I h1 (beq_iff_eq.mp hf) (wpAny_mono a (fun v s' hv => ?_) fun _ _ e => e))
  cases v <;> first | exact hv.elim | exact wpAny_pure (wpAny_pure (wpAny_pure hv))
end
end MoW
namespace MoL
open PySem PySem.Spec PyProof.Rows L2 MoW
section
variable {X : Cx} {CX CX' : CXT} {k k' : Nat} {C D f f' g g' : Addr} {fd : FuncData} {ps : List Str} {sp : Sp} {E : XK} {pre : List V → Hp → Prop}
/-- x op y, two classes: x's own def answers -/
theorem op_two {op : Operator} (c : OwnC X.K C) (d : OwnC X.K D) (ne : C ≠ D) (sub : PySem.W.subIn X.K (.ref D) (.ref C) = some false) (m : Meth X.K C (PySem.dunder op.info.2) f) (mr : Meth X.K C (dunderR op.info.2) f') (m2 : Meth X.K D (PySem.dunder op.info.2) g')
    (m2r : Meth X.K D (dunderR op.info.2) g) (run : FnOk X.prog X.w X.K X.mg X.base CX k f fd ps sp) (hr : Room k X.A)
    (hb : Binds X.K fd ps []) (hx : Passes CX X E) : OpR X (binaryOp op) (fun x y H Q => Ins H x C ∧ Ins H y D ∧ sp [x, y] H Q E) := by
  intro pins s σ H x y v u Q I rx ry h
  obtain ⟨⟨a, dx, fs, rfl, ha⟩, ⟨b, dy, gs, rfl, hb'⟩, hs⟩ := h
  cases (show v = Value.ref a from rx)
  cases (show u = Value.ref b from ry)
  obtain ⟨od, J⟩ := ins_at I ha
  obtain ⟨od', J'⟩ := ins_at I hb'
  exact bin_own_two I.kIn J J' c.first d.first ne sub m.at_ m.fn mr.at_ m2.at_ m2r.at_ (thn (run_fn (us := [.ref a, .ref b]) (vs := [.ref a, .ref b]) run hr hb .nil hx I (.cons rfl (.cons rfl .nil)) hs) fun v s' q => ep_back q)
end
/-! ### integers over one bottom -/
/-- these integers are the values f 0, f 1, .. times B -/
def TopsV (B : Int) (ts : List Int) (f : Nat → Rat) : Prop := ∀ (k : Nat) (t : Int), ts[k]? = some t → (t : Rat) = f k * (B : Rat)
theorem getD_at {ts : List Int} {i : Nat} (h : i < ts.length) : ts[i]? = some (ts.getD i 0) := by
  rw [List.getD_eq_getElem?_getD, List.getElem?_eq_getElem h]
  rfl
theorem TopsV.get {B : Int} {ts : List Int} {f : Nat → Rat} (h : TopsV B ts f) {i : Nat} (hi : i < ts.length) : ((ts.getD i 0 : Int) : Rat) = f i * (B : Rat) := h i _ (getD_at hi)
theorem getD_out {ts : List Int} {i : Nat} (h : ts.length ≤ i) : ts.getD i 0 = 0 := by
  rw [List.getD_eq_getElem?_getD, List.getElem?_eq_none h]
  rfl
theorem int_at {xs : List Int} {j : Nat} (h : j < xs.length) : (xs.map V.int)[j]? = some (V.int (xs.getD j 0)) := by
  rw [List.getElem?_map, getD_at h]
  rfl
theorem atI_getD {ts : List Int} {i : Nat} (h : i < ts.length) : atI (ts.map V.int) (0 + (i : Int)) = some (V.int (ts.getD i 0)) := at_get (int_at h)
/-- sizes of all of them -/
def TopsB (e : Nat) (ts : List Int) : Prop := ∀ k, (ts.getD k 0).natAbs < 2 ^ e
theorem TopsB.mono {e e' : Nat} {ts : List Int} (h : TopsB e ts) (l : e ≤ e') : TopsB e' ts := fun k => nle (h k) l
theorem TopsB.of {e : Nat} {ts : List Int} (h : ∀ (k : Nat) (t : Int), ts[k]? = some t → t.natAbs < 2 ^ e) : TopsB e ts := fun k => by
  rcases Nat.lt_or_ge k ts.length with c | c
  · exact h k _ (getD_at c)
  · rw [getD_out c]
    exact Nat.two_pow_pos _
/-- with zeros behind them -/
theorem TopsV.all {B : Int} {ts : List Int} {f : Nat → Rat} (h : TopsV B ts f) (hz : ∀ k, ts.length ≤ k → f k = 0) (i : Nat) : ((ts.getD i 0 : Int) : Rat) = f i * (B : Rat) := by
  rcases Nat.lt_or_ge i ts.length with c | c
  · exact h.get c
  · rw [getD_out c, hz i c, Rat.intCast_zero, Rat.zero_mul]
theorem sum_lt {xs : List Int} {e : Nat} (h : ∀ x ∈ xs, x.natAbs < 2 ^ e) : xs.sum.natAbs ≤ xs.length * 2 ^ e := by
  induction xs with
  | nil => simp
  | cons x xs ih =>
    rw [List.sum_cons, List.length_cons, Nat.add_mul]
    have h1 := h x (List.mem_cons_self ..)
    have h2 := ih fun y hy => h y (List.mem_cons_of_mem _ hy)
    have h3 := Int.natAbs_add_le x xs.sum
    omega
theorem range_sum (h : Nat → Int) : ∀ n, ((((List.range n).map h).sum : Int) : Rat) = sumR (fun a => ((h a : Int) : Rat)) n
  | 0 => rfl
  | n + 1 => by
    rw [List.range_succ, List.map_append, List.sum_append, Rat.intCast_add, range_sum h n]
    show _ + (((h n + 0 : Int)) : Rat) = _ + _
    rw [Int.add_zero]
theorem range_sum_lt {h : Nat → Int} {e n : Nat} (hh : ∀ a, a < n → (h a).natAbs < 2 ^ e) : ((List.range n).map h).sum.natAbs ≤ n * 2 ^ e := by
  have := sum_lt (xs := (List.range n).map h) (e := e) fun x hx => by
    obtain ⟨a, ha, rfl⟩ := List.mem_map.mp hx
    exact hh a (List.mem_range.mp ha)
  rw [List.length_map, List.length_range] at this
  exact this
/-- one term of a product -/
abbrev cvT (ts us : List Int) (i a : Nat) : Int := if a ≤ i then ts.getD a 0 * us.getD (i - a) 0 else 0
/-- coefficient i of the product -/
def cv (ts us : List Int) (i : Nat) : Int := ((List.range ts.length).map (cvT ts us i)).sum
/-- coefficient i when k rows and j places of the next are done -/
def cvP (ts us : List Int) (k j i : Nat) : Int := ((List.range k).map (cvT ts us i)).sum + (if k ≤ i ∧ i < k + j then ts.getD k 0 * us.getD (i - k) 0 else 0)
theorem cvP_zero {ts us : List Int} (i : Nat) : cvP ts us 0 0 i = 0 := by
  show (0 : Int) + _ = 0
  rw [if_neg (by omega)]
  rfl
theorem cvP_step {ts us : List Int} {k j : Nat} : cvP ts us k (j + 1) (k + j) = cvP ts us k j (k + j) + ts.getD k 0 * us.getD j 0 := by
  show _ + (if k ≤ k + j ∧ k + j < k + (j + 1) then _ else _) = _ + (if k ≤ k + j ∧ k + j < k + j then _ else _) + _
  rw [if_pos (by omega), if_neg (by omega), Nat.add_sub_cancel_left, Int.add_zero]
theorem cvP_else {ts us : List Int} {k j i : Nat} (h : i ≠ k + j) : cvP ts us k (j + 1) i = cvP ts us k j i := by
  show _ + (if k ≤ i ∧ i < k + (j + 1) then _ else _) = _ + (if k ≤ i ∧ i < k + j then _ else _)
  congr 1
  by_cases c : k ≤ i ∧ i < k + j
  · rw [if_pos c, if_pos (by omega)]
  · rw [if_neg c, if_neg (by omega)]
theorem cvP_next {ts us : List Int} {k i : Nat} : cvP ts us k us.length i = cvP ts us (k + 1) 0 i := by
  show ((List.range k).map (cvT ts us i)).sum + _ = ((List.range (k + 1)).map (cvT ts us i)).sum + _
  rw [List.range_succ, List.map_append, List.sum_append, if_neg (show ¬ (k + 1 ≤ i ∧ i < k + 1 + 0) by omega)]
  show _ + (if k ≤ i ∧ i < k + us.length then _ else _) = _ + ((if k ≤ i then ts.getD k 0 * us.getD (i - k) 0 else 0) + 0) + 0
  rw [Int.add_zero, Int.add_zero]
  congr 1
  by_cases c : k ≤ i
  · rw [if_pos c]
    by_cases c2 : i < k + us.length
    · rw [if_pos ⟨c, c2⟩]
    · rw [if_neg (by omega), show us.getD (i - k) 0 = 0 by rw [List.getD_eq_getElem?_getD, List.getElem?_eq_none (by omega)]; rfl, Int.mul_zero]
  · rw [if_neg c, if_neg (by omega)]
theorem cvP_all {ts us : List Int} {i : Nat} : cvP ts us ts.length 0 i = cv ts us i := by
  show ((List.range ts.length).map (cvT ts us i)).sum + (if ts.length ≤ i ∧ i < ts.length + 0 then _ else _) = _
  rw [if_neg (by omega), Int.add_zero]
  rfl
def cvL (ts us : List Int) (n k j : Nat) : List Int := (List.range n).map (cvP ts us k j)
theorem cvL_len {ts us : List Int} {n k j : Nat} : (cvL ts us n k j).length = n := by
  show (List.map _ _).length = n
  rw [List.length_map, List.length_range]
theorem cvL_at {ts us : List Int} {n k j i : Nat} (h : i < n) : (cvL ts us n k j)[i]? = some (cvP ts us k j i) := by
  show (List.map _ _)[i]? = _
  rw [List.getElem?_map, List.getElem?_range h]
  rfl
theorem cvL_set {ts us : List Int} {n k j : Nat} (h : k + j < n) : ((cvL ts us n k j).map V.int).set (k + j) (V.int (cvP ts us k j (k + j) + ts.getD k 0 * us.getD j 0)) = (cvL ts us n k (j + 1)).map V.int := by
  refine List.ext_getElem? fun i => ?_
  rw [List.getElem?_set, List.length_map, cvL_len, List.getElem?_map, List.getElem?_map]
  by_cases e : k + j = i
  · subst e
    rw [if_pos rfl, if_pos h, cvL_at h, ← cvP_step]
    rfl
  · rw [if_neg e]
    by_cases c : i < n
    · rw [cvL_at c, cvL_at c, cvP_else (Ne.symm e)]
    · rw [List.getElem?_eq_none (by rw [cvL_len]; omega), List.getElem?_eq_none (by rw [cvL_len]; omega)]
theorem cvL_next {ts us : List Int} {n k : Nat} : cvL ts us n k us.length = cvL ts us n (k + 1) 0 := List.map_congr_left fun i _ => cvP_next
theorem cvL_zero {ts us : List Int} {n : Nat} : (cvL ts us n 0 0).map V.int = List.replicate n (V.int 0) := by
  refine List.ext_getElem? fun i => ?_
  rw [List.getElem?_map, List.getElem?_replicate]
  by_cases c : i < n
  · rw [cvL_at c, if_pos c, cvP_zero]
    rfl
  · rw [List.getElem?_eq_none (by rw [cvL_len]; omega), if_neg c]
    rfl

theorem cvT_lt {ts us : List Int} {e : Nat} (h1 : TopsB e ts) (h2 : TopsB e us) (i a : Nat) : (cvT ts us i a).natAbs < 2 ^ (e + e) := by
  show (if a ≤ i then ts.getD a 0 * us.getD (i - a) 0 else 0).natAbs < _
  split
  · exact nmul (h1 _) (h2 _)
  · exact Nat.two_pow_pos _
theorem cvP_lt {ts us : List Int} {e : Nat} (h1 : TopsB e ts) (h2 : TopsB e us) {k j i : Nat} (hk : k ≤ 60) : (cvP ts us k j i).natAbs < 2 ^ (e + e + 6) := by
  have a := range_sum_lt (n := k) (h := cvT ts us i) (e := e + e) fun a _ => cvT_lt h1 h2 i a
  have b : (if k ≤ i ∧ i < k + j then ts.getD k 0 * us.getD (i - k) 0 else 0).natAbs < 2 ^ (e + e) := by
    split
    · exact nmul (h1 _) (h2 _)
    · exact Nat.two_pow_pos _
  have c := Int.natAbs_add_le ((List.range k).map (cvT ts us i)).sum (if k ≤ i ∧ i < k + j then ts.getD k 0 * us.getD (i - k) 0 else 0)
  have d : k * 2 ^ (e + e) ≤ 60 * 2 ^ (e + e) := Nat.mul_le_mul_right _ hk
  have f : 2 ^ (e + e + 6) = 64 * 2 ^ (e + e) := by rw [Nat.pow_add]; omega
  show (_ + _ : Int).natAbs < _
  omega
/-- the coefficients of a product -/
def mulF (f g : Nat → Rat) (i : Nat) : Rat := sumR (fun a => f a * g (i - a)) (i + 1)
theorem cv_val {U B : Int} {ts us : List Int} {f g : Nat → Rat} (hf : TopsV U ts f) (hg : TopsV B us g) (zf : ∀ k, ts.length ≤ k → f k = 0) (zg : ∀ k, us.length ≤ k → g k = 0) (i : Nat) : ((cv ts us i : Int) : Rat) = mulF f g i * ((U * B : Int) : Rat) := by
  have e1 : ((cv ts us i : Int) : Rat) = sumR (fun a => (if a ≤ i then f a * g (i - a) else 0) * ((U * B : Int) : Rat)) ts.length := by
    show ((((List.range ts.length).map (cvT ts us i)).sum : Int) : Rat) = _
    rw [range_sum]
    refine sumR_congr fun a _ => ?_
    show (((if a ≤ i then ts.getD a 0 * us.getD (i - a) 0 else 0 : Int)) : Rat) = _
    split
    · rw [Rat.intCast_mul, Rat.intCast_mul, hf.all zf, hg.all zg]
      grind
    · rw [Rat.intCast_zero, Rat.zero_mul]
  rw [e1, sumR_mulr]
  congr 1
  have a1 := sumR_more (f := fun a => if a ≤ i then f a * g (i - a) else 0) (n := ts.length) (i + 1) fun k h1 _ => by
    rw [zf k h1]
    split
    · exact Rat.zero_mul _
    · rfl
  have a2 := sumR_more (f := fun a => if a ≤ i then f a * g (i - a) else 0) (n := i + 1) ts.length fun k h1 _ => if_neg (by omega)
  rw [← a1, Nat.add_comm, a2]
  exact sumR_congr fun a ha => if_pos (by omega)
theorem mulF_out {f g : Nat → Rat} {s s2 : Nat} (zf : ∀ k, s ≤ k → f k = 0) (zg : ∀ k, s2 ≤ k → g k = 0) {i : Nat} (h : s + s2 ≤ i + 1) : mulF f g i = 0 := sumR_zero fun a ha => by
  rcases Nat.lt_or_ge a s with c | c
  · rw [zg (i - a) (by omega), Rat.mul_zero]
  · rw [zf a c, Rat.zero_mul]
/-! ### polynomials on the heap -/
/-- a Poly with the coefficients f 0, f 1, .., of which s count -/
structure PolyV (CP CR : Addr) (H : Hp) (v : V) (s : Nat) (f : Nat → Rat) : Prop where
  ex : ∃ a dx tp ys l, v = .ref a ∧ H a = some (.ins CP dx [("coefficients", .ref tp), ("degree", .int ((s : Int) - 1)), ("lead", l)]) ∧ H tp = some (.tup ys) ∧ ys.length = s ∧ RatsV CR H ys f ∧ RatV CR H l (f (s - 1))
  zero : ∀ k, s ≤ k → f k = 0
  last : 0 < s → f (s - 1) ≠ 0
section
variable {CP CR : Addr} {H H' : Hp} {v : V} {s : Nat} {f : Nat → Rat}
theorem PolyV.same (h : PolyV CP CR H v s f) (k : Same H H') : PolyV CP CR H' v s f := by
  obtain ⟨⟨a, dx, tp, ys, l, e, h1, h2, h3, h4, h5⟩, z, z2⟩ := h
  exact ⟨⟨a, dx, tp, ys, l, e, k _ _ h1, k _ _ h2, h3, h4.same k, h5.same k⟩, z, z2⟩
theorem PolyV.ins (h : PolyV CP CR H v s f) : Ins H v CP := by
  obtain ⟨⟨a, dx, tp, ys, l, e, h1, _⟩, _⟩ := h
  exact ⟨a, dx, _, e, h1⟩
theorem PolyV.to {g : Nat → Rat} (h : PolyV CP CR H v s f) (e : ∀ k, f k = g k) : PolyV CP CR H v s g := (funext e : f = g) ▸ h
/-- the count of the coefficients is told by them -/
theorem size_one {s s' : Nat} (z : ∀ k, s ≤ k → f k = 0) (l : 0 < s → f (s - 1) ≠ 0) (z' : ∀ k, s' ≤ k → f k = 0) (l' : 0 < s' → f (s' - 1) ≠ 0) : s = s' := by
  rcases Nat.lt_trichotomy s s' with h | h | h
  · exact absurd (z (s' - 1) (by omega)) (l' (by omega))
  · exact h
  · exact absurd (z' (s - 1) (by omega)) (l (by omega))
theorem PolyV.stp {fd : Addr} (h : PolyV CP CR H v s f) (F : FeedAt H fd) (k : Stp fd H H') : PolyV CP CR H' v s f := by
  obtain ⟨⟨a, dx, tp, ys, l, e, h1, h2, h3, h4, h5⟩, z, z2⟩ := h
  exact ⟨⟨a, dx, tp, ys, l, e, k.keep _ _ (F.ne h1 fun _ _ _ _ _ _ w => by cases w) h1, k.keep _ _ (F.ne h2 fun _ _ _ _ _ _ w => by cases w) h2, h3, h4.stp F k, h5.stp F k⟩, z, z2⟩
end
/-- a number as a Poly -/
abbrev numF (c : Rat) : Nat → Rat := fun k => if k = 0 then c else 0
/-- a Poly, or a number that means one -/
def OperV (CP CR : Addr) (H : Hp) (v : V) (s : Nat) (f : Nat → Rat) : Prop := PolyV CP CR H v s f ∨ ∃ c, NumV CR H v c ∧ s = (if c = 0 then 0 else 1) ∧ f = numF c
theorem OperV.same {CP CR : Addr} {H H' : Hp} {v : V} {s : Nat} {f : Nat → Rat} (h : OperV CP CR H v s f) (k : Same H H') : OperV CP CR H' v s f := h.imp (fun h => h.same k) fun ⟨c, h, r⟩ => ⟨c, h.same k, r⟩
theorem OperV.kind {CP CR : Addr} {H : Hp} {v : V} {s : Nat} {f : Nat → Rat} (h : OperV CP CR H v s f) : Ins H v CP ∨ ((∃ i, v = .int i) ∨ Ins H v CR) := h.imp (fun h => h.ins) fun ⟨c, h, _⟩ => h.kind
theorem OperV.zero {CP CR : Addr} {H : Hp} {v : V} {s : Nat} {f : Nat → Rat} (h : OperV CP CR H v s f) : ∀ k, s ≤ k → f k = 0 := by
  rcases h with h | ⟨c, h, rfl, rfl⟩
  · exact h.zero
  · intro k hk
    show (if k = 0 then c else 0) = 0
    split
    · rename_i e
      subst e
      split at hk
      · assumption
      · omega
    · rfl
theorem numF_bd {c : Rat} {n m : Nat} (h : Bd n m c) (hm : 0 < m) (k : Nat) : Bd n m (numF c k) := by
  show Bd n m (if k = 0 then c else 0)
  split
  · exact h
  · exact .zero hm
theorem made_but {H G : Hp} {x : Addr} {dx : Addr} {o : HO} (nx : H x = none) (nd : H dx = none) (k : ∀ b u, b ≠ x → upd (upd H dx (.own x)) x o b = some u → G b = some u) : Same H G := fun b u h => by
  have h1 : b ≠ x := fun z => by rw [z, nx] at h; cases h
  have h2 : b ≠ dx := fun z => by rw [z, nd] at h; cases h
  exact k b u h1 (by rw [upd_ne h1, upd_ne h2]; exact h)
theorem rat_ne_nil {C C' d : Addr} : ∀ dx z, ratO C dx z ≠ .ins C' d [] := fun _ _ w => by
  have := (HO.ins.inj w).2.2
  cases this
theorem rat_ne_co {C C' d : Addr} {v : V} {r : List (Str × V)} : ∀ dx z, ratO C dx z ≠ .ins C' d (("coefficients", v) :: r) := fun _ _ w => by
  have h : ("top" : Str) = "coefficients" := congrArg Prod.fst (List.cons.inj (HO.ins.inj w).2.2).1
  exact absurd h (by decide)
/-- no operand of one class is of the other -/
theorem ne_cls {K : PySem.W.Frag} {C D : Addr} (h : PySem.W.kitOne K (.ref C) (.ref D) = some false) : C ≠ D := fun e => by
  rw [e, kit_self] at h
  cases h
end MoL

/-! # A product of two rows of fractions, entry by entry; rows of pairs that change -/
namespace MoL
open PySem PySem.Spec PyProof.Rows L2 MoW
abbrev rvT (f g : Nat → Rat) (i a : Nat) : Rat := if a ≤ i then f a * g (i - a) else 0
/-- coefficient i when k rows and j places of the next are done -/
def rvP (f g : Nat → Rat) (k j i : Nat) : Rat := sumR (rvT f g i) k + (if k ≤ i ∧ i < k + j then f k * g (i - k) else 0)
section
variable {f g : Nat → Rat} {k j i n m : Nat}
theorem rvP_zero : rvP f g 0 0 i = 0 := by
  show (0 : Rat) + _ = 0
  rw [if_neg (by omega)]
  exact Rat.add_zero _
theorem rvP_step : rvP f g k (j + 1) (k + j) = rvP f g k j (k + j) + f k * g j := by
  show _ + (if k ≤ k + j ∧ k + j < k + (j + 1) then _ else _) = _ + (if k ≤ k + j ∧ k + j < k + j then _ else _) + _
  rw [if_pos (by omega), if_neg (by omega), Nat.add_sub_cancel_left, Rat.add_zero]
theorem rvP_else (h : i ≠ k + j) : rvP f g k (j + 1) i = rvP f g k j i := by
  show _ + (if k ≤ i ∧ i < k + (j + 1) then _ else _) = _ + (if k ≤ i ∧ i < k + j then _ else _)
  congr 1
  by_cases c : k ≤ i ∧ i < k + j
  · rw [if_pos c, if_pos (by omega)]
  · rw [if_neg c, if_neg (by omega)]
theorem rvP_next (zg : ∀ k, m ≤ k → g k = 0) : rvP f g k m i = rvP f g (k + 1) 0 i := by
  show sumR (rvT f g i) k + _ = sumR (rvT f g i) k + rvT f g i k + _
  rw [if_neg (show ¬ (k + 1 ≤ i ∧ i < k + 1 + 0) by omega), Rat.add_zero]
  congr 1
  show _ = if k ≤ i then _ else _
  by_cases c : k ≤ i
  · rw [if_pos c]
    by_cases c2 : i < k + m
    · rw [if_pos ⟨c, c2⟩]
    · rw [if_neg (by omega), zg (i - k) (by omega), Rat.mul_zero]
  · rw [if_neg c, if_neg (by omega)]
theorem rvP_all (zf : ∀ k, n ≤ k → f k = 0) : rvP f g n 0 i = mulF f g i := by
  show sumR (rvT f g i) n + (if n ≤ i ∧ i < n + 0 then _ else _) = _
  rw [if_neg (by omega), Rat.add_zero]
  have a1 := sumR_more (f := rvT f g i) (n := n) (i + 1) fun k h1 _ => by
    show (if k ≤ i then f k * g (i - k) else 0) = 0
    rw [zf k h1]
    split
    · exact Rat.zero_mul _
    · rfl
  have a2 := sumR_more (f := rvT f g i) (n := i + 1) n fun k h1 _ => if_neg (by omega)
  rw [← a1, Nat.add_comm, a2]
  exact sumR_congr fun a ha => if_pos (by omega)
end
theorem Prsd.put {H : Hp} {rs : List Addr} {F : Nat → Int × Int} {d : Addr} {qs : List Addr} {o : HO} (h : Prsd H rs F) (hd : H d = some (.lst (qs.map V.ref))) : Prsd (upd H d o) rs F := fun k x hx => by
  have e := h k x hx
  rw [upd_ne fun z => by
    rw [z, hd] at e
    cases qs with
    | nil => cases e
    | cons a qs => cases e]
  exact e
theorem Prsd.set {H : Hp} {r : Addr} {rs : List Addr} {F : Nat → Int × Int} {i : Nat} {x : Int × Int} (h : Prsd H rs F) (hr : H r = some (two x.1 x.2)) : Prsd H (rs.set i r) (fun k => if k = i then x else F k) := fun k y hy => by
  rw [List.getElem?_set] at hy
  dsimp only
  by_cases e : i = k
  · rw [if_pos e] at hy
    rw [if_pos e.symm]
    split at hy
    · cases hy
      exact hr
    · cases hy
  · rw [if_neg e] at hy
    rw [if_neg (Ne.symm e)]
    exact h k y hy
theorem Prsd.to {H : Hp} {rs : List Addr} {F G : Nat → Int × Int} (h : Prsd H rs F) (e : ∀ k, k < rs.length → F k = G k) : Prsd H rs G := fun k r hr => e k (get_lt hr) ▸ h k r hr
theorem PairsAt.to {H : Hp} {v : V} {n : Nat} {F G : Nat → Int × Int} (h : PairsAt H v n F) (e : ∀ k, k < n → F k = G k) : PairsAt H v n G := by
  obtain ⟨a, rs, e1, h1, l, p⟩ := h
  exact ⟨a, rs, e1, h1, l, p.to fun k hk => e k (by omega)⟩
/-- the place of a number from 0 on -/
theorem ix_nat {xs : List V} {i : Nat} (h : i < xs.length) : ixN xs.length (i : Int) = some i := by
  unfold ixN
  rw [if_pos (by omega), if_pos (by omega)]
  congr 1
end MoL

/-! # Common bottoms; the division of rows of fractions; walks with a step below 0 -/
namespace MoL
open PySem PySem.Spec PyProof.Rows L2 MoW
/-! ### common bottoms -/
theorem den_dvd {x : Rat} {p q : Int} (h : x * (q : Rat) = p) : x.den ∣ q.natAbs := by
  have e : x.num * q = p * (x.den : Int) := inj (by
    rw [Rat.intCast_mul, Rat.intCast_mul, ← h, num_is]
    grind)
  have hc : Nat.Coprime x.num.natAbs x.den := x.reduced
  have e2 : x.num.natAbs * q.natAbs = p.natAbs * x.den := by
    have := congrArg Int.natAbs e
    rw [Int.natAbs_mul, Int.natAbs_mul] at this
    simpa using this
  exact hc.symm.dvd_of_dvd_mul_left ⟨p.natAbs, by rw [e2, Nat.mul_comm]⟩
/-- N times z is an integer below 2 ^ e -/
def Cm (N : Int) (e : Nat) (z : Rat) : Prop := ∃ t : Int, z * (N : Rat) = t ∧ t.natAbs < 2 ^ e
section
variable {N M : Int} {e g : Nat} {z y : Rat}
theorem Cm.mono (h : Cm N e z) (l : e ≤ g) : Cm N g z := h.elim fun t h => ⟨t, h.1, nle h.2 l⟩
theorem Cm.den (h : Cm N e z) : z.den ∣ N.natAbs := h.elim fun t h => den_dvd h.1
theorem Cm.bd {m : Nat} (h : Cm N e z) (h0 : N ≠ 0) (hN : N.natAbs < 2 ^ m) : Bd e m z := h.elim fun t h => .of h0 h.1 h.2 hN
theorem Cm.zero : Cm N e 0 := ⟨0, by rw [Rat.zero_mul]; rfl, Nat.two_pow_pos _⟩
theorem Cm.neg (h : Cm N e z) : Cm N e (-z) := h.elim fun t h => ⟨-t, by rw [Rat.intCast_neg, ← h.1]; grind, by rw [Int.natAbs_neg]; exact h.2⟩
theorem Cm.add (h : Cm N e z) (h' : Cm N e y) : Cm N (e + 1) (z + y) := by
  obtain ⟨t, h1, h2⟩ := h
  obtain ⟨u, h3, h4⟩ := h'
  exact ⟨t + u, by rw [Rat.intCast_add, ← h1, ← h3]; grind, nadd h2 h4⟩
theorem Cm.mul (h : Cm N e z) (h' : Cm M g y) : Cm (N * M) (e + g) (z * y) := by
  obtain ⟨t, h1, h2⟩ := h
  obtain ⟨u, h3, h4⟩ := h'
  exact ⟨t * u, by rw [Rat.intCast_mul, Rat.intCast_mul, ← h1, ← h3]; grind, nmul h2 h4⟩
/-- over a bottom that is a multiple -/
theorem Cm.up {c : Int} {k : Nat} (h : Cm N e z) (hc : c.natAbs < 2 ^ k) : Cm (N * c) (e + k) z := by
  obtain ⟨t, h1, h2⟩ := h
  exact ⟨t * c, by rw [Rat.intCast_mul, Rat.intCast_mul, ← h1]; grind, nmul h2 hc⟩
theorem Cm.up' {c : Int} {k : Nat} (h : Cm N e z) (hc : c.natAbs < 2 ^ k) : Cm (c * N) (e + k) z := by rw [Int.mul_comm]; exact h.up hc
end
theorem Cm.sum {N : Int} {e : Nat} {f : Nat → Rat} : ∀ n : Nat, (∀ k, k < n → Cm N e (f k)) → ∃ t : Int, sumR f n * (N : Rat) = t ∧ t.natAbs ≤ n * 2 ^ e
  | 0, _ => ⟨0, by show (0 : Rat) * _ = _; rw [Rat.zero_mul]; rfl, by simp⟩
  | n + 1, h => by
    obtain ⟨t, h1, h2⟩ := Cm.sum n fun k hk => h k (by omega)
    obtain ⟨u, h3, h4⟩ := h n (by omega)
    refine ⟨t + u, ?_, ?_⟩
    · show (sumR f n + f n) * _ = _
      rw [Rat.intCast_add, ← h1, ← h3]
      grind
    · rw [Nat.succ_mul]
      omega
theorem Cm.mulF {N M : Int} {e g : Nat} {f h : Nat → Rat} (hf : ∀ k, Cm N e (f k)) (hh : ∀ k, Cm M g (h k)) {i : Nat} (hi : i < 63) : Cm (N * M) (e + g + 6) (mulF f h i) := by
  obtain ⟨t, h1, h2⟩ := Cm.sum (f := fun a => f a * h (i - a)) (N := N * M) (e := e + g) (i + 1) fun k _ => (hf k).mul (hh _)
  refine ⟨t, h1, ?_⟩
  have : (i + 1) * 2 ^ (e + g) ≤ 63 * 2 ^ (e + g) := Nat.mul_le_mul_right _ hi
  have := Nat.two_pow_pos (e + g)
  rw [Nat.pow_add]
  omega
/-! ### the product, linear in its second row -/
section
variable {g q r : Nat → Rat} {i k m n : Nat}
theorem sumR_one {F : Nat → Rat} {j : Nat} : ∀ {n : Nat}, j < n → (∀ a, a < n → a ≠ j → F a = 0) → sumR F n = F j
  | 0, h, _ => absurd h (Nat.not_lt_zero _)
  | n + 1, h, z => by
    show sumR F n + F n = _
    rcases (by omega : j < n ∨ j = n) with e | e
    · rw [sumR_one e fun a ha => z a (by omega), z n (by omega) (by omega), Rat.add_zero]
    · subst e
      rw [sumR_zero fun a ha => z a (by omega) (by omega), Rat.zero_add]
theorem mulF_add : mulF g (fun i => q i + r i) i = mulF g q i + mulF g r i := by
  show sumR _ _ = sumR _ _ + sumR _ _
  rw [← sumR_add]
  exact sumR_congr fun a _ => by grind
theorem mulF_smul {u : Rat} : mulF g (fun i => u * q i) i = u * mulF g q i := by
  show sumR _ _ = _ * sumR _ _
  rw [← sumR_mul]
  exact sumR_congr fun a _ => by grind
theorem mulF_one {t : Rat} : mulF g (fun i => if i = k then t else 0) i = if k ≤ i then g (i - k) * t else 0 := by
  show sumR _ _ = _
  split
  · rename_i h
    rw [sumR_one (j := i - k) (by omega) fun a ha ne => by show _ * (if _ then _ else _) = _; rw [if_neg (by omega), Rat.mul_zero]]
    show _ * (if _ then _ else _) = _
    rw [if_pos (by omega)]
  · exact sumR_zero fun a ha => by show _ * (if _ then _ else _) = _; rw [if_neg (by omega), Rat.mul_zero]
theorem mulF_next {t u : Rat} : mulF g (fun i => (if i = k then t else 0) + u * q i) i = (if k ≤ i then g (i - k) * t else 0) + u * mulF g q i := by
  rw [mulF_add (q := fun i => if i = k then t else 0) (r := fun i => u * q i), mulF_one, mulF_smul]
/-- quotient and remainder are told by the product -/
theorem div_one {q2 r2 : Nat → Rat} (gm : g m ≠ 0) (gz : ∀ k, m < k → g k = 0) (qz : ∀ k, n ≤ k → q k = 0) (qz2 : ∀ k, n ≤ k → q2 k = 0) (rz : ∀ k, m ≤ k → r k = 0) (rz2 : ∀ k, m ≤ k → r2 k = 0) (h : ∀ k, mulF g q k + r k = mulF g q2 k + r2 k) : (∀ k, q k = q2 k) ∧ ∀ k, r k = r2 k := by
  have main : ∀ d, d ≤ n → ∀ k, n - d ≤ k → q k = q2 k := by
    intro d
    induction d with
    | zero => exact fun _ k hk => by rw [qz k (by omega), qz2 k (by omega)]
    | succ d ih =>
      intro hd k hk
      rcases (by omega : n - d ≤ k ∨ k = n - (d + 1)) with e | e
      · exact ih (by omega) k e
      · have up := ih (by omega)
        have h0 := h (m + k)
        rw [rz _ (by omega), rz2 _ (by omega), Rat.add_zero, Rat.add_zero] at h0
        have h1 : mulF g q (m + k) - mulF g q2 (m + k) = g m * (q k - q2 k) := by
          show sumR _ _ - sumR _ _ = _
          rw [← sumR_sub, sumR_one (j := m) (by omega)]
          · rw [Nat.add_sub_cancel_left]
            grind
          · intro a ha ne
            rcases Nat.lt_or_ge m a with c | c
            · rw [gz a c, Rat.zero_mul, Rat.zero_mul]
              exact Rat.sub_self
            · rw [up (m + k - a) (by omega)]
              grind
        rw [h0] at h1
        have h2 : g m * (q k - q2 k) = 0 := by grind
        rcases Rat.mul_eq_zero.mp h2 with c | c
        · exact absurd c gm
        · grind
  have hq : ∀ k, q k = q2 k := fun k => main n (Nat.le_refl _) k (by omega)
  refine ⟨hq, fun k => ?_⟩
  have h0 := h k
  rw [show q = q2 from funext hq] at h0
  grind
end
/-! ### long division over integers -/
abbrev inF (ts : List Int) : Nat → Rat := fun i => ((ts.getD i 0 : Int) : Rat)
/-- the quotient so far, its last place at K -/
abbrev shF (K : Nat) (qs : List Int) : Nat → Rat := fun i => if K ≤ i then ((qs.getD (i - K) 0 : Int) : Rat) else 0
theorem getD_map {qs : List Int} {u : Int} {i : Nat} : (qs.map (fun q => u * q)).getD i 0 = u * qs.getD i 0 := by
  rw [List.getD_eq_getElem?_getD, List.getD_eq_getElem?_getD, List.getElem?_map]
  cases qs[i]? with
  | none => simp
  | some x => rfl
theorem shF_next {k : Nat} {qs : List Int} {tm up : Int} : shF k (tm :: qs.map (fun q => up * q)) = fun i => (if i = k then (tm : Rat) else 0) + (up : Rat) * shF (k + 1) qs i := funext fun i => by
  show (if k ≤ i then (((tm :: qs.map (fun q => up * q)).getD (i - k) 0 : Int) : Rat) else 0) = _ + _ * (if k + 1 ≤ i then _ else _)
  rcases Nat.lt_trichotomy i k with h | h | h
  · rw [if_neg (by omega), if_neg (by omega), if_neg (by omega), Rat.mul_zero, Rat.add_zero]
  · subst h
    rw [if_pos (Nat.le_refl _), if_pos rfl, if_neg (by omega), Nat.sub_self, Rat.mul_zero, Rat.add_zero]
    rfl
  · obtain ⟨j, rfl⟩ : ∃ j, i = k + 1 + j := ⟨i - (k + 1), by omega⟩
    rw [if_pos (by omega), if_neg (by omega), if_pos (by omega), show k + 1 + j - k = j + 1 by omega, Nat.add_sub_cancel_left, Rat.zero_add, ← Rat.intCast_mul, ← getD_map]
    rfl
theorem ld_step {ts ds rs rs' qs : List Int} {sc up tm : Int} {k : Nat} (h : ∀ i, (sc : Rat) * inF ts i = mulF (inF ds) (shF (k + 1) qs) i + inF rs i)
    (hr : ∀ i, rs'.getD i 0 = up * rs.getD i 0 - (if k ≤ i then tm * ds.getD (i - k) 0 else 0)) (i : Nat) : ((sc * up : Int) : Rat) * inF ts i = mulF (inF ds) (shF k (tm :: qs.map (fun q => up * q))) i + inF rs' i := by
  have h1 := h i
  rw [shF_next, mulF_next, show inF rs' i = (up : Rat) * inF rs i - (if k ≤ i then inF ds (i - k) * (tm : Rat) else 0) by
    show ((rs'.getD i 0 : Int) : Rat) = _
    rw [hr i, Rat.intCast_sub, Rat.intCast_mul]
    congr 1
    split
    · rw [Rat.intCast_mul, Rat.mul_comm]
    · rfl, Rat.intCast_mul]
  generalize (if k ≤ i then inF ds (i - k) * (tm : Rat) else 0) = z at *
  grind
theorem exact_div {x g : Int} (h : g ∣ x) (hg : g ≠ 0) : x.fdiv g * g = x := by
  obtain ⟨u, rfl⟩ := h
  rw [Int.mul_fdiv_cancel_left _ hg, Int.mul_comm]
theorem fdiv_le {x g : Int} (h : g ∣ x) (hg : g ≠ 0) : (x.fdiv g).natAbs ≤ x.natAbs := by
  have := congrArg Int.natAbs (exact_div h hg)
  rw [Int.natAbs_mul] at this
  rw [← this]
  exact Nat.le_mul_of_pos_right _ (by omega)
theorem cut_to (xs : List V) (s : Nat) : cutV xs none (some (s : Int)) = xs.take s := by
  unfold cutV
  have e1 : HT.sIx xs.length 0 none = 0 := rfl
  have e2 : HT.sIx xs.length xs.length (some (s : Int)) = min s xs.length := by
    show (if (s : Int) < 0 then ((s : Int) + (xs.length : Int)).toNat else min (s : Int).toNat xs.length) = _
    rw [if_neg (by omega)]
    omega
  rw [e1, e2, Nat.sub_zero, List.drop_zero]
  rcases Nat.le_total s xs.length with h | h
  · rw [Nat.min_eq_left h]
  · rw [Nat.min_eq_right h, List.take_length, List.take_of_length_le h]
end MoL

/-! # Operators of a class that has no mirrored def -/
namespace MoW
open PySem PySem.W PyProof PyProof.Rows
section
variable {prog : Program} {w : World} {A : Around} {E : Value → Shared → Prop} {s : Shared} {K : Frag} {x y C D L f g fr : Addr} {ox oy : Obj} {od od' : Option Obj} {h₀ : Heap} {m : Str → Option Value}
theorem bin_own_two0 {op : Operator} {Q : Value → Shared → Prop} {g' : Addr} (X : K.In s.heap) (I : W.InstAt s.heap x ox C od) (J : W.InstAt s.heap y oy D od') (hc : selfFirst K C = true) (hd : selfFirst K D = true) (hne : C ≠ D)
    (hn : subIn K (.ref D) (.ref C) = some false) (h1 : findIn K (.ref C) (PySem.dunder op.info.2) = some (some (.ref f))) (hf : isFn K (.ref f) = true) (h1r : findIn K (.ref C) (dunderR op.info.2) = some none)
    (h2 : findIn K (.ref D) (PySem.dunder op.info.2) = some (some (.ref g'))) (h2r : findIn K (.ref D) (dunderR op.info.2) = some (some (.ref g)))
    (a : wpAny (model prog w) A (call (.ref f) [.ref x, .ref y]) (W.CmpBack Q) E s) : wpAny (model prog w) A (binaryOp op (.ref x) (.ref y)) Q E s := by
  obtain ⟨cd, rest, hcd, hm⟩ := mro_first (K := K) (C := C) (cd := default) hc
  obtain ⟨dd, rest2, hdd, hm2⟩ := mro_first (K := K) (C := D) (cd := default) hd
  unfold binaryOp
  refine wpAny_holding (wpAny_bind ?_)
  unfold binaryOp1
  refine wpAny_bind (I.type.here (wpAny_bind (J.type.here (wpAny_bind ((fills_K X hcd hm h1).here ?_)))))
  have ne : (Value.ref C == Value.ref D) = false := by simpa using hne
  simp only [ne, Bool.false_eq_true, if_false]
  refine wpAny_bind ((fills_K X hdd hm2 h2).here ?_)
  simp only [Bool.and_self, if_true]
  refine wpAny_bind ((looks_subIn X hn).here ?_)
  simp only [Bool.false_eq_true, if_false, pure_bind, Bool.not_false, Bool.and_self, if_true]
  have py : ∀ {Z p q : Addr}, findIn K (.ref Z) (PySem.dunder op.info.2) = some (some (.ref p)) → findIn K (.ref Z) (dunderR op.info.2) = some (some (.ref q)) → Looks (model prog w) s.heap (numberSlotInPython (.ref Z) op.info.2) true := by
    intro Z p q z1 z2
    unfold numberSlotInPython
    refine (looks_findIn X z1).andThen (Looks.andThen (a := true) .now ?_)
    exact (looks_findIn X z2).andThen (Looks.andThen (a := true) .now .now)
  have py0 : ∀ {Z p : Addr}, findIn K (.ref Z) (PySem.dunder op.info.2) = some (some (.ref p)) → findIn K (.ref Z) (dunderR op.info.2) = some none → Looks (model prog w) s.heap (numberSlotInPython (.ref Z) op.info.2) true := by
    intro Z p z1 z2
    unfold numberSlotInPython
    refine (looks_findIn X z1).andThen (Looks.andThen (a := true) .now ?_)
    exact (looks_findIn X z2).andThen (Looks.andThen (a := false) .now .now)
  refine wpAny_bind ((py0 h1 h1r).here ?_)
  simp only [if_true]
  refine wpAny_bind ((py h2 h2r).here ?_)
  simp only [Bool.not_true, Bool.false_eq_true, if_false]
  refine wpAny_bind (m := tryMethod (.ref x) _ (.ref y)) ?_
  unfold tryMethod
  refine wpAny_bind (special_fn X I h1 (beq_iff_eq.mp hf) (wpAny_mono a (fun v s' hv => ?_) fun _ _ e => e))
  cases v <;> first | exact hv.elim | exact wpAny_pure (wpAny_pure (wpAny_pure hv))
end
end MoW
namespace MoL
open PySem PySem.Spec PyProof.Rows L2 MoW LamX
section
variable {X : Cx} {CX CX' : CXT} {k k' : Nat} {C D f f' g g' : Addr} {fd : FuncData} {ps : List Str} {sp : Sp} {E : XK} {pre : List V → Hp → Prop}
/-- x op y, two classes: x's own def answers, x's class has no mirrored one -/
theorem op_two0 {op : Operator} (c : OwnC X.K C) (d : OwnC X.K D) (ne : C ≠ D) (sub : PySem.W.subIn X.K (.ref D) (.ref C) = some false) (m : Meth X.K C (PySem.dunder op.info.2) f) (no : PySem.W.findIn X.K (.ref C) (dunderR op.info.2) = some none) (m2 : Meth X.K D (PySem.dunder op.info.2) g')
    (m2r : Meth X.K D (dunderR op.info.2) g) (run : FnOk X.prog X.w X.K X.mg X.base CX k f fd ps sp) (hr : Room k X.A)
    (hb : Binds X.K fd ps []) (hx : Passes CX X E) : OpR X (binaryOp op) (fun x y H Q => Ins H x C ∧ Ins H y D ∧ sp [x, y] H Q E) := by
  intro pins s σ H x y v u Q I rx ry h
  obtain ⟨⟨a, dx, fs, rfl, ha⟩, ⟨b, dy, gs, rfl, hb'⟩, hs⟩ := h
  cases (show v = Value.ref a from rx)
  cases (show u = Value.ref b from ry)
  obtain ⟨od, J⟩ := ins_at I ha
  obtain ⟨od', J'⟩ := ins_at I hb'
  exact bin_own_two0 I.kIn J J' c.first d.first ne sub m.at_ m.fn no m2.at_ m2r.at_ (thn (run_fn (us := [.ref a, .ref b]) (vs := [.ref a, .ref b]) run hr hb .nil hx I (.cons rfl (.cons rfl .nil)) hs) fun v s' q => ep_back q)
theorem op_bin_own0 {op : Operator} {id : String} (h1 : Slot "int" (dunderR op.info.2) id) (hfi : fillsNumberSlot (.type "int") op.info.2 = pure true) (c : OwnC X.K C)
    (m : Meth X.K C (PySem.dunder op.info.2) f) (no : PySem.W.findIn X.K (.ref C) (dunderR op.info.2) = some none) (F : FnOk X.prog X.w X.K X.mg X.base CX k f fd ps sp)
    (hr : Room k X.A) (hb : Binds X.K fd ps []) (hx : Passes CX X E) : OpR X (binaryOp op) (rOwn C sp E) := by
  intro pins s σ H x y v u Q I rx ry h
  obtain ⟨⟨a, dx, fs, rfl, ha⟩, hy, hs⟩ := h
  cases (show v = Value.ref a from rx)
  obtain ⟨od, J⟩ := ins_at I ha
  obtain ⟨mm, hF⟩ := I.fr
  have hrun : wpAny (model X.prog X.w) X.A (call (.ref f) [.ref a, u]) (PySem.W.CmpBack (EP X pins σ Q)) X.xe s :=
    thn (run_fn (us := [.ref a, u]) (vs := [.ref a, y]) F hr hb .nil hx I (.cons rfl (.cons ry .nil)) hs) fun v s' q => ep_back q
  rcases hy with ⟨i, rfl⟩ | ⟨b, dy, gs, rfl, hb'⟩
  · obtain ⟨t, rfl⟩ := (show ∃ t, u = Value.int i t from ry)
    exact bin_own_int0 (op := op) hF I.ok.mod.kin J c.first c.ic h1 hfi m.at_ m.fn no hrun
  · cases (show u = Value.ref b from ry)
    obtain ⟨od', J'⟩ := ins_at I hb'
    exact PySem.W.binop_K (op := op) hF I.ok.mod.kin J J'.type c.first m.at_ m.fn hrun
theorem op_floordiv_own0 (c : OwnC X.K C) (m : Meth X.K C "__floordiv__" f) (no : PySem.W.findIn X.K (.ref C) "__rfloordiv__" = some none) (run : FnOk X.prog X.w X.K X.mg X.base CX k f fd ps sp) (hr : Room k X.A) (hb : Binds X.K fd ps []) (hx : Passes CX X E) : OpR X (binaryOp .FloorDiv) (rOwn C sp E) :=
  op_bin_own0 (op := .FloorDiv) PySem.F.slot_int_rfloordiv PySem.F.fills_int_floordiv c m no run hr hb hx
theorem op_mod_own0 (c : OwnC X.K C) (m : Meth X.K C "__mod__" f) (no : PySem.W.findIn X.K (.ref C) "__rmod__" = some none) (run : FnOk X.prog X.w X.K X.mg X.base CX k f fd ps sp) (hr : Room k X.A) (hb : Binds X.K fd ps []) (hx : Passes CX X E) : OpR X (binaryOp .Mod) (rOwn C sp E) :=
  op_bin_own0 (op := .Mod) PySem.F.slot_int_rmod PySem.F.fills_int_mod c m no run hr hb hx
end
end MoL

/-! # A list from its end: xs[::-1] -/
namespace MoL
open PySem PySem.Spec PyProof.Rows L2 MoW LamX
section
variable {X : Cx} {e : Expr} {te : TE} {lo hi st : Option Expr} {tl th ts : TO} {pos p2 : Pos}
/-- xs[lo:hi:step] as lo, hi and step are read -/
def tSl3 (r : V → Option Int → Option Int → Option Int → Hp → VK → Prop) (te : TE) (tl th ts : TO) : TE := fun σ H Q => te σ H fun x H1 => tl σ H1 fun l H2 => th σ H2 fun u H3 => ts σ H3 fun t H4 => r x l u t H4 Q
/-- a list read from its end: a new list -/
def rRev (K : PySem.W.Frag) : V → Option Int → Option Int → Option Int → Hp → VK → Prop := fun x lo hi t H Q => ∃ a xs, x = .ref a ∧ lo = none ∧ hi = none ∧ t = some (-1) ∧ SqL K H a xs ∧ ∀ p, H p = none → Q (.ref p) (upd H p (.lst xs.reverse))
theorem pe_rev {st : Expr} (he : PE X e te) (hl : PO X none tl) (hu : PO X none th) (ht : PO X (some st) ts) : PE X (.Subscript e (.Slice none none (some st) p2) pos) (tSl3 (rRev X.K) te tl th ts) := by
  refine ⟨fun pins s σ H Q I h => ?_⟩
  refine Subscript_ (thn (he.run pins s σ H _ I h) fun v s1 ⟨x, H1, I1, r1, q1⟩ => ?_)
  refine wpAny_Slice (thn (hl.run pins s1 σ H1 _ I1 q1) fun vl s2 ⟨l, H2, I2, pl, q2⟩ => thn (hu.run pins s2 σ H2 _ I2 q2) fun vu s3 ⟨u, H3, I3, pu, q3⟩ => thn (ht.run pins s3 σ H3 _ I3 q3) fun vt s4 ⟨t, H4, I4, pt, q4⟩ => ?_)
  have I5 : Inv X pins σ H4 { s4 with heap := s4.heap.push { cls := .type "slice", data := .fields #[vl, vu, vt] } } := I4.kept (t' := s4.toks) fun b ob q => Heap.get?_push_of_some _ q
  obtain ⟨a, xs, rfl, rfl, rfl, rfl, hx, q⟩ := q4
  cases r1
  obtain ⟨its, r, hlist, hz⟩ := I5.list hx
  have hlen := r.length
  have hg : wpAny (model X.prog X.w) X.A (getItem (.ref a) (.ref s4.heap.objs.size)) (EP X pins σ Q) X.xe { s4 with heap := s4.heap.push { cls := .type "slice", data := .fields #[vl, vu, vt] } } := by
    refine wpAny_getItem_list_slice hlist.isList (Heap.IsSliceOf.new ..) pl pu pt (by simp) ?_ (by rw [List.size_toArray] <;> omega)
    rw [PySem.W.krv_pick]
    refine ⟨.ref _, _, I5.laid (t' := s4.toks) (o := .lst xs.reverse) (fun b ob q => Heap.get?_push_of_some _ q) (Nat.le_refl _) ?_, rfl, q _ (I5.hok.fresh (Nat.le_refl _))⟩
    exact ⟨by rw [List.length_reverse]; exact hz, _, 0, r.reverse, Heap.get?_push_size _ rfl⟩
  show wpAny (model X.prog X.w) X.A (subscriptTail e (.Slice none none (some st) p2) (.ref a) (.ref s4.heap.objs.size)) (EP X pins σ Q) X.xe { s4 with heap := s4.heap.push { cls := .type "slice", data := .fields #[vl, vu, vt] } }
  exact tail_any hlist.isList.typeIs slot_list_getitem.lookup hg (by with_unfolding_all rfl)
end
end MoL

/-! # Calling an instance -/
namespace MoL
open PySem PySem.Spec PyProof.Rows L2 MoW
theorem call_o {K : PySem.W.Frag} {C f : Addr} {x q : Str} {st : Stmt} {fd : FuncData} (m : Meth K C "__call__" f) (F : Fun K x q st f fd) : StX.CallO K C f := ⟨m.at_, m.fn, by
  obtain ⟨oc, od, kV, doc, pm, an, cdv, ct, osl, e, lk, hc⟩ := F.ex
  subst e
  unfold PySem.W.fnIn
  rw [lk]⟩
/-- f(e, ..), f gives an instance of C whose object is tracked; the reading names no context -/
def tCallI (C : Addr) (sp : Sp) (E : XK) (tf : TE) (t : TA) : TE := fun σ H Q => tf σ H fun y H1 => ∃ a, y = V.ref a ∧ t σ H1 fun vs H2 => (∃ dx fs, H2 a = some (.ins C dx fs)) ∧ sp (V.ref a :: vs) H2 Q E
section
variable {X : Cx} {CX : CXT} {k : Nat} {g C : Addr} {sp : Sp} {E : XK} {e fe : Expr} {es : List Expr} {tf : TE} {t : TA} {pos : Pos}
theorem pe_callI (hf : PE X fe tf) (c : StX.CallO X.K C g) (F : FnR X.prog X.w X.K X.mg X.base CX k g sp) (hr : Room k X.A) (hx : Passes CX X E) (ha : PA X (e :: es) t)
    (ht : eval (.Call fe (e :: es) [] pos) X.env = (do callWith pos (← eval fe X.env) [] (backTo pos (starEach (e :: es) X.env)) (backToKw pos (keywordEach [] X.env))) := by rfl)
    (he : starEach (e :: es) X.env = (false, eval e X.env) :: starEach es X.env := by rfl) (hpl : (backTo pos (starEach es X.env)).any (·.1) = false := by rfl) : PE X (.Call fe (e :: es) [] pos) (tCallI C sp E tf t) := by
  refine ⟨fun pins s σ H Q I h => ?_⟩
  refine Call_ (thn (hf.run pins s σ H _ I h) fun u s1 ⟨y, H1, I1, ry, a, ey, q⟩ => ?_) ht
  subst ey
  obtain rfl : u = Value.ref a := ry
  refine StX.callO_with (thn (ha.run pos pins s1 σ H1 _ I1 q) fun us s2 ⟨vs, H2, I2, r, hi, q2⟩ => ?_) he hpl
  have hi : StX.InsC X H2 a C := .inr hi
  obtain ⟨ox, od, J, hd⟩ := StX.insC_at I2 hi
  exact ⟨⟨C, ox, od, J, hd⟩, StX.run_callO c F hr hx I2 hi r q2⟩
end
end MoL

/-! # Methods called in a try's body, methods called with keywords, slices with a step -/
namespace MoL
open PySem PySem.Spec PyProof.Rows L2 MoW
section
variable {X : Cx} {CX : CXT} {k : Nat} {f C : Addr} {fd : FuncData} {ps : List Str} {sp : Sp} {E : L2.St → XK} {m : Str} {pos apos : Pos} {e o : Expr} {es : List Expr} {ta : TE} {t : TA}
/-- o.m(..), what is raised is wished for at the caller's slots -/
def tMethT (C : Addr) (m : Str) (sp : Sp) (E : L2.St → XK) (ta : TE) (t : TA) : TE := fun σ H Q => ta σ H fun x H1 => ∃ a dx fs, x = .ref a ∧ H1 a = some (.ins C dx fs) ∧ fs.lookup m = none ∧
  t σ H1 fun vs H2 => sp (x :: vs) H2 Q (E σ)
theorem pe_methT {pl : Sem Bool} (he : PE X o ta) (c : Cls X.K C) (hm : Meth X.K C m f) (F : FnOk X.prog X.w X.K X.mg X.base CX k f fd ps sp) (hr : Room k X.A) (hb : Binds X.K fd ps []) (hx : ∀ σ, PassesAt CX X σ (E σ)) (ha : PA X (e :: es) t)
    (hst : starEach (e :: es) X.env = (false, eval e X.env) :: starEach es X.env := by rfl) (hpl : (backTo pos (starEach es X.env)).any (·.1) = false := by rfl)
    (ht : eval (.Call (.Attribute o m apos) (e :: es) [] pos) X.env = (do
      let ov ← eval o X.env
      standAt apos.atName
      let (f, first) ← holding [ov] (getMethod ov m pl)
      callWith pos f first (backTo pos (starEach (e :: es) X.env)) (backToKw pos (keywordEach [] X.env))) := by rfl) :
    PE X (.Call (.Attribute o m apos) (e :: es) [] pos) (tMethT C m sp E ta t) := by
  refine ⟨fun pins s σ H Q I h => ?_⟩
  refine PySem.W.methodCall_KW (pl := pl) (thn (he.run pins s σ H _ I h) fun u s1 ⟨x, H1, I1, rx, a, dx, fs, ex, ea, l, q⟩ => ?_) ht
  subst ex
  obtain rfl : u = Value.ref a := rx
  refine getmeth_ok I1 ea c hm l ?_
  refine PySem.W.callWith_K (first := [.ref a]) (h₀ := X.base) I.ok.mod.kin hm.kp (thn (ha.run pos pins s1 σ H1 _ I1 q) fun us s2 ⟨vs, H2, I2, r, q2⟩ => ⟨I2.kIn, ?_⟩) hst hpl
  exact run_fnS (us := .ref a :: us) (vs := .ref a :: vs) F hr hb (hx σ) I2 (.cons rfl r) q2
end
section
variable {X : Cx} {CX : CXT} {k : Nat} {f C : Addr} {fd : FuncData} {ps ks : List Str} {sp : Sp} {E : XK} {m : Str} {pos apos : Pos} {o : Expr} {kws : List Keyword} {ta : TE} {tk : TA} {g : List Value → List Value → List Value} {gV : List V → List V → List V}
/-- o.m(k = v, ..) -/
def tMethK (C : Addr) (m : Str) (n : Nat) (sp : Sp) (gV : List V → List V → List V) (E : XK) (ta : TE) (tk : TA) : TE := fun σ H Q => ta σ H fun x H1 => ∃ a dx fs, x = .ref a ∧ H1 a = some (.ins C dx fs) ∧ fs.lookup m = none ∧
  tk σ H1 fun zs H2 => zs.length = n ∧ sp (gV [x] zs) H2 Q E
theorem pe_methK {pl : Sem Bool} (he : PE X o ta) (c : Cls X.K C) (hm : Meth X.K C m f) (F : FnOk X.prog X.w X.K X.mg X.base CX k f fd ps sp) (hr : Room k X.A) (hb : KBn X.K fd ps 1 ks g gV) (hx : Passes CX X E) (hkw : PK X kws tk)
    (hall : (backToKw pos (keywordEach kws X.env)).all (·.1.isSome) = true := by rfl) (hks : (backToKw pos (keywordEach kws X.env)).filterMap (·.1) = ks := by rfl)
    (hpl : ((backTo pos (starEach [] X.env)).any (·.1) || (backToKw pos (keywordEach kws X.env)).any (·.1.isNone)) = false := by rfl)
    (ht : eval (.Call (.Attribute o m apos) [] kws pos) X.env = (do
      let ov ← eval o X.env
      standAt apos.atName
      let (f, first) ← holding [ov] (getMethod ov m pl)
      callWith pos f first (backTo pos (starEach [] X.env)) (backToKw pos (keywordEach kws X.env))) := by rfl) :
    PE X (.Call (.Attribute o m apos) [] kws pos) (tMethK C m ks.length sp gV E ta tk) := by
  refine ⟨fun pins s σ H Q I h => ?_⟩
  refine PySem.W.methodCall_KW (pl := pl) (thn (he.run pins s σ H _ I h) fun u s1 ⟨x, H1, I1, rx, a, dx, fs, ex, ea, l, q⟩ => ?_) ht
  subst ex
  obtain rfl : u = Value.ref a := rx
  refine getmeth_ok I1 ea c hm l ?_
  refine PySem.W.callWith_KW0 (first := [.ref a]) (h₀ := X.base) I.ok.mod.kin hm.kp hall ?_ hpl
  refine thn (hkw.run pos pins s1 σ H1 _ I1 q) fun ws s2 ⟨zs, H2, I2, rz, l2, q2⟩ => ⟨I2.kIn, ?_⟩
  rw [hks]
  exact run_fnN (us := [.ref a]) (vs := [.ref a]) F hr hb hx I2 (.cons rfl .nil) rz rfl l2 q2
end
/-! ### xs[lo:hi:step] -/
/-- the items that a slice takes -/
def pickV (xs : List V) (lo hi st : Option Int) : List V := (sliceRange (sliceBounds lo hi st xs.length).1 (sliceBounds lo hi st xs.length).2.1 (sliceBounds lo hi st xs.length).2.2).filterMap fun k => xs[k]?
theorem pair_get {α β : Type} {F : α → β → Prop} : ∀ {l₁ : List α} {l₂ : List β} (k : Nat), Paired F l₁ l₂ → (l₁[k]? = none ∧ l₂[k]? = none) ∨ ∃ a b, l₁[k]? = some a ∧ l₂[k]? = some b ∧ F a b
  | _, _, k, .nil => .inl ⟨by simp, by simp⟩
  | _, _, 0, .cons h _ => .inr ⟨_, _, rfl, rfl, h⟩
  | _, _, k + 1, .cons _ h => by
    rcases pair_get k h with ⟨a, b⟩ | ⟨a, b, e1, e2, f⟩
    · exact .inl ⟨by simpa using a, by simpa using b⟩
    · exact .inr ⟨a, b, by simpa using e1, by simpa using e2, f⟩
theorem pair_pick {α β : Type} {F : α → β → Prop} {l₁ : List α} {l₂ : List β} (h : Paired F l₁ l₂) : ∀ ks : List Nat, Paired F (ks.filterMap fun k => l₁[k]?) (ks.filterMap fun k => l₂[k]?)
  | [] => .nil
  | k :: ks => by
    rcases pair_get k h with ⟨a, b⟩ | ⟨a, b, e1, e2, f⟩
    · rw [List.filterMap_cons_none a, List.filterMap_cons_none b]
      exact pair_pick h ks
    · rw [List.filterMap_cons_some e1, List.filterMap_cons_some e2]
      exact .cons f (pair_pick h ks)
section
variable {X : Cx} {e : Expr} {te : TE} {lo hi : Option Expr} {tl th ts : TO} {pos p2 : Pos}
def rStep (K : PySem.W.Frag) : V → Option Int → Option Int → Option Int → Hp → VK → Prop := fun x lo hi t H Q => ∃ a xs, x = .ref a ∧ t ≠ some 0 ∧ SqL K H a xs ∧ (pickV xs lo hi t).length ≤ sizeLine ∧ ∀ p, H p = none → Q (.ref p) (upd H p (.lst (pickV xs lo hi t)))
theorem pe_step {st : Expr} (he : PE X e te) (hl : PO X lo tl) (hu : PO X hi th) (ht : PO X (some st) ts) : PE X (.Subscript e (.Slice lo hi (some st) p2) pos) (tSl3 (rStep X.K) te tl th ts) := by
  refine ⟨fun pins s σ H Q I h => ?_⟩
  refine Subscript_ (thn (he.run pins s σ H _ I h) fun v s1 ⟨x, H1, I1, r1, q1⟩ => ?_)
  refine wpAny_Slice (thn (hl.run pins s1 σ H1 _ I1 q1) fun vl s2 ⟨l, H2, I2, pl, q2⟩ => thn (hu.run pins s2 σ H2 _ I2 q2) fun vu s3 ⟨u, H3, I3, pu, q3⟩ => thn (ht.run pins s3 σ H3 _ I3 q3) fun vt s4 ⟨t, H4, I4, pt, q4⟩ => ?_)
  have I5 : Inv X pins σ H4 { s4 with heap := s4.heap.push { cls := .type "slice", data := .fields #[vl, vu, vt] } } := I4.kept (t' := s4.toks) fun b ob q => Heap.get?_push_of_some _ q
  obtain ⟨a, xs, rfl, h0, hx, hsz, q⟩ := q4
  cases r1
  obtain ⟨its, r, hlist, hz⟩ := I5.list hx
  have hlen := r.length
  have hg : wpAny (model X.prog X.w) X.A (getItem (.ref a) (.ref s4.heap.objs.size)) (EP X pins σ Q) X.xe { s4 with heap := s4.heap.push { cls := .type "slice", data := .fields #[vl, vu, vt] } } := by
    refine wpAny_getItem_list_slice hlist.isList (Heap.IsSliceOf.new ..) pl pu pt h0 ?_ (by rw [List.size_toArray] <;> omega)
    have rp : Vals (pickV xs l u t) ((sliceRange (sliceBounds l u t its.length).1 (sliceBounds l u t its.length).2.1 (sliceBounds l u t its.length).2.2).filterMap fun k => its[k]?) := by
      unfold pickV
      rw [hlen]
      exact pair_pick r _
    have ep : slicePick its.toArray l u t = ((sliceRange (sliceBounds l u t its.length).1 (sliceBounds l u t its.length).2.1 (sliceBounds l u t its.length).2.2).filterMap fun k => its[k]?).toArray := by
      unfold slicePick
      simp only [List.size_toArray, List.getElem?_toArray]
    rw [ep]
    refine ⟨.ref _, _, I5.laid (t' := s4.toks) (o := .lst (pickV xs l u t)) (fun b ob q => Heap.get?_push_of_some _ q) (Nat.le_refl _) ?_, rfl, q _ (I5.hok.fresh (Nat.le_refl _))⟩
    exact ⟨hsz, _, 0, rp, Heap.get?_push_size _ rfl⟩
  show wpAny (model X.prog X.w) X.A (subscriptTail e (.Slice lo hi (some st) p2) (.ref a) (.ref s4.heap.objs.size)) (EP X pins σ Q) X.xe { s4 with heap := s4.heap.push { cls := .type "slice", data := .fields #[vl, vu, vt] } }
  exact tail_any hlist.isList.typeIs slot_list_getitem.lookup hg (by with_unfolding_all rfl)
end
end MoL

/-! # == by an own __eq__ that may answer False: tuples, != of instances, != of lists -/
namespace MoB
open PySem PySem.SeqAt
open AutoSeq1 (wpAny_loadPart')
open MeetsSeq MeetsSeq2 MeetsSeq3 SeqRoads2
section
variable {prog : Program} {w : World} {A : Around} {R : Result → Shared → Prop}
/-- two tuples, item by item: f i is what the i-th comparison gives -/
theorem tuple_eqB (l b : Addr) (items items2 : Array Value) (n n2 : Nat) (dd dd2 : Option Addr) (sl sl2 : Array (Option Value)) (f : Nat → Bool) (I : Nat → Shared → Prop)
    (turn : ∀ i (h1 : i < items.size) (h2 : i < items2.size) s, I i s → wpAny (model prog w) A.in1 (eqBool items[i] items2[i]) (fun r s' => r = f i ∧ I (i + 1) s') (fun e s' => R (.error e) s') s)
    (fin : ∀ i s, I i s → R (.ok (.ret (.bool ((List.range (min items.size items2.size)).all f && items.size == items2.size)))) s) {s : Shared} (hl1 : s.heap.get? l = some { cls := .type "tuple", dict := dd, data := .seq items n, slots := sl }) (hb1 : s.heap.get? b = some { cls := .type "tuple", dict := dd2, data := .seq items2 n2, slots := sl2 }) (h : I 0 s) :
    wpAny (model prog w) A.in1 (Builtin.«tuple.__eq__» ⟨[.ref l, .ref b], []⟩) (GQ.FinOf prog w A R) (fun e s' => R (.error e) s') s := by
  have f2 := AutoSeq1.sub_tuple_tuple
  have hZ : (items.toList.zip items2.toList).length = min items.size items2.size := by simp
  have h0 := h
  obtain ⟨hp, g, d, tk, os⟩ := s
  wp_walk using wpAny_loadPart' hl1, wpAny_loadPart' hb1, wpAny_forIn_list _ (fun rest b s' => b.1 = none ∧ ∃ i, rest = (items.toList.zip items2.toList).drop i ∧ (List.range (min items.size items2.size)).all f = ((List.range (min items.size items2.size)).drop i).all f ∧ I i s') _
  case turn =>
    rintro ⟨y, x⟩ rest b s' ⟨hb', i, hz, hR, hI⟩
    have hlt : i < (items.toList.zip items2.toList).length := by
      rcases Nat.lt_or_ge i (items.toList.zip items2.toList).length with h' | h'
      · exact h'
      · rw [List.drop_of_length_le h'] at hz; cases hz
    have hm : i < min items.size items2.size := hZ ▸ hlt
    have h1 : i < items.size := Nat.lt_of_lt_of_le hm (Nat.min_le_left _ _)
    have h2 : i < items2.size := Nat.lt_of_lt_of_le hm (Nat.min_le_right _ _)
    rw [List.drop_eq_getElem_cons hlt] at hz
    injection hz with hyx hrest
    have hy : y = items[i] := by have := congrArg Prod.fst hyx; simpa using this
    have hx : x = items2[i] := by have := congrArg Prod.snd hyx; simpa using this
    subst hy hx
    have hd : (List.range (min items.size items2.size)).drop i = i :: (List.range (min items.size items2.size)).drop (i + 1) := by simp [List.drop_eq_getElem_cons, hm]
    rw [hd, List.all_cons] at hR
    refine wpAny_bind (wpAny_mono (turn i h1 h2 s' hI) (fun r s2 q2 => ?_) fun _ _ x => x)
    obtain ⟨hr, q2⟩ := q2
    subst hr
    have hfin := fin _ _ q2
    cases hy : f i with
    | true =>
      rw [hy] at hR
      wp_walk
      exact ⟨rfl, i + 1, hrest, by simpa using hR, q2⟩
    | false =>
      rw [hy] at hR
      have e0 : (List.range (min items.size items2.size)).all f = false := by simpa using hR
      rw [e0] at hfin
      wp_walk
      simpa using hfin
  case fin =>
    rintro ⟨b1, b2⟩ s' ⟨hb', i, hz, hR, hI⟩
    simp only at hb'
    subst hb'
    have hge : min items.size items2.size ≤ i := by
      rcases Nat.lt_or_ge i (items.toList.zip items2.toList).length with h' | h'
      · rw [List.drop_eq_getElem_cons h'] at hz; cases hz
      · exact hZ ▸ h'
    rw [List.drop_of_length_le (by simpa using hge)] at hR
    have hfin := fin _ _ hI
    rw [hR] at hfin
    wp_walk
    simpa [Builtin.Tuple.tupleCompareSizes] using hfin
  case h =>
    exact ⟨rfl, 0, rfl, rfl, h0⟩
end
section
variable {prog : Program} {w : World} {A : Around} {E : Value → Shared → Prop} {s : Shared}
theorem rc_tupB {l b : Addr} {items items2 : Array Value} {Q : Value → Shared → Prop} (hu : A.units < cLine) (f : Nat → Bool) (I : Nat → Shared → Prop)
    (hl : s.heap.IsTuple l items) (hb : s.heap.IsTuple b items2)
    (turn : ∀ i (h1 : i < items.size) (h2 : i < items2.size) s, I i s → wpAny (model prog w) A.in1 (eqBool items[i] items2[i]) (fun r s' => r = f i ∧ I (i + 1) s') E s)
    (fin : ∀ i s, I i s → Q (.bool ((List.range (min items.size items2.size)).all f && items.size == items2.size)) s) (h : I 0 s) : wpAny (model prog w) A (richCompare .Eq (.ref l) (.ref b)) Q E s := by
  obtain ⟨⟨cls, dd, data, sl⟩, ho, hc, n, hd⟩ := id hl
  obtain ⟨⟨cls2, dd2, data2, sl2⟩, ho2, hc2, n2, hd2⟩ := id hb
  simp only at hc hd hc2 hd2
  subst hc hd hc2 hd2
  refine wpAny_richCompare_same_room (op := .Eq) ⟨_, ho, rfl⟩ ⟨_, ho2, rfl⟩ F.slot_tuple_eq (GQ.call_here F.slot_tuple_eq ⟨_, ho, rfl⟩ F.entry_tuple_eq (F.args_tuple_eq_2 _ _) ?_) hu
  exact tuple_eqB (R := wants (fun v s' => v ≠ .notImplemented ∧ Q v s') E) l b items items2 n n2 dd dd2 sl sl2 f I turn (fun i s' q => ⟨(fun x => nomatch x), fin i s' q⟩) ho ho2 h
end
end MoB
namespace MoW
open PySem PySem.W PyProof.Rows
section
variable {prog : Program} {w : World} {A : Around} {E : Value → Shared → Prop} {s : Shared} {K : Frag} {x y C f : Addr} {ox oy : Obj} {od od' : Option Obj}
theorem ne_slot : Slot "object" "__ne__" "object.__ne__" := Slot.of (T := "object") (name := "__ne__") (owner := "object") (n := "__ne__") (by rw [typeLookup_type, builtinLookup_eq_fast]; kernel_rfl) (by decide +kernel) (by decide +kernel) (by decide +kernel) (.inl (by decide +kernel)) (by rw [isSubtype_type]; kernel_rfl)
/-- x != y, the class has an own __eq__ and object's __ne__ -/
theorem ne_own {Q : Value → Shared → Prop} (hu : A.units + 1 < cLine) (X : K.In s.heap) (I : InstAt s.heap x ox C od) (J : InstAt s.heap y oy C od') (hm : mroIn K C (.type "object") = some true)
    (hn : findIn K (.ref C) "__ne__" = some (some (.builtin "object.__ne__"))) (he : findIn K (.ref C) "__eq__" = some (some (.ref f))) (hf : isFn K (.ref f) = true)
    (h : wpAny (model prog w) A.in1 (call (.ref f) [.ref x, .ref y]) (fun v s' => ∃ b, v = .bool b ∧ Q (.bool (!b)) s') E s) : wpAny (model prog w) A (richCompare .NotEq (.ref x) (.ref y)) Q E s := by
  have top : Looks (model prog w) s.heap (isInstance (.ref x) (.type "object")) true := I.type.andThen (looks_mroIn X hm)
  have body : wpAny (model prog w) A.in1 (Builtin.«object.__ne__» ⟨[.ref x, .ref y], []⟩) (fun fin s' => match fin with | .done f => wants (fun v s' => ∃ b, v = .bool b ∧ Q (.bool b) s') E (.ok f) s' | .again c' => c'.quiet = true ∧ codeAny (model prog w) A c' (wants (fun v s' => ∃ b, v = .bool b ∧ Q (.bool b) s') E) s') (fun e s' => wants (fun v s' => ∃ b, v = .bool b ∧ Q (.bool b) s') E (.error e) s') s := by
    unfold Builtin.«object.__ne__»
    repeat (first
      | with_reducible refine wpAny_cRoomFor hu ?_
      | (refine wpAny_bind (m := callSpecialIfBound? (.ref x) (Str.ofString "__eq__") [.ref y])
          (ifBound_K X I he hf (wpAny_mono h (fun r s' hr => by
            obtain ⟨b, rfl, hq⟩ := hr
            repeat (first | exact ⟨_, rfl, hq⟩ | exact wpAny_pure ⟨_, rfl, hq⟩ | (refine wpAny_bind (m := truthy (.bool _)) (wpAny_truthy_bool ?_)) | wp_step)) fun _ _ e => e)))
      | wp_step)
  have one : wpAny (model prog w) A (tryCompare (.ref x) "__ne__" (.ref y)) (fun r s' => ∃ v, r = some v ∧ Q v s') E s := by
    unfold tryCompare
    simp only [callSpecialIfBound?, bindSpecialIfBound?]
    have cl : wpAny (model prog w) A (call (.builtin "object.__ne__") ([.ref x] ++ [.ref y])) (fun v s' => ∃ b, v = .bool b ∧ Q (.bool b) s') E s :=
      wpAny_call (codeAny_call_builtin ne_slot.plain PySem.F.cmpEntry_ne (check_slot PySem.F.cmpKind_ne PySem.F.cmpSplit_ne top (PySem.F.cmpArgs_ne _ _) body))
    have fin : wpAny (model prog w) A (call (.builtin "object.__ne__") ([.ref x] ++ [.ref y]) >>= fun v => pure (some v)) (fun r s' => ∃ b, r = some (.bool b) ∧ Q (.bool b) s') E s := wpAny_bind (wpAny_mono cl (fun v s' h' => by
      obtain ⟨b, rfl, q⟩ := h'
      exact wpAny_pure ⟨b, rfl, q⟩) fun _ _ h' => h')
    have bnd : bindSpecial (.builtin "object.__ne__") (.ref x) = pure (.builtin "object.__ne__", [.ref x]) := ne_slot.bind _
    refine wpAny_bind (wpAny_mono (Q := fun r s' => ∃ b, r = some (.bool b) ∧ Q (.bool b) s') ?_ (fun r s' hr => ?_) fun _ _ e => e)
    · refine wpAny_holding (wpAny_bind (wpAny_bind (wpAny_bind (I.type.here ((looks_findIn X hn).here ?_)))))
      refine wpAny_bind (wpAny_askSetting (wpAny_ite ?_))
      split
      · exact wpAny_bind (wpAny_of_eq bnd (wpAny_pure (by exact fin)))
      · exact wpAny_tryCatch (wpAny_bind (wpAny_of_eq bnd (wpAny_pure (by exact fin))))
    · obtain ⟨b, rfl, q⟩ := hr
      exact wpAny_pure ⟨_, rfl, q⟩
  unfold richCompare
  simp only [oneThing_ref]
  refine wpAny_holding (wpAny_bind (wpAny_cRoomFor (Nat.lt_of_succ_lt hu) ?_))
  refine wpAny_bind (I.type.here (wpAny_bind (J.type.here ?_)))
  rw [show (Value.ref C != Value.ref C) = false from by simp]
  simp only [Bool.false_eq_true, if_false]
  refine wpAny_bind (wpAny_pure ?_)
  simp only [Bool.false_eq_true, if_false]
  refine wpAny_bind (wpAny_mono one (fun r s' z => ?_) fun _ _ e => e)
  obtain ⟨v, rfl, hq⟩ := z
  exact wpAny_pure hq
end
end MoW
namespace MoL
open PySem PySem.Spec PyProof.Rows L2 MoW
section
variable {X : Cx} {CX : CXT} {n : Nat} {C f : Addr} {fd : FuncData} {ps : List Str} {sp : Sp} {E : XK}
/-- the callee runs somewhere below the body -/
theorem run_sub {A : Around} {pins : List (Addr × Obj)} {σ : L2.St} {H : Hp} {s : Shared} {Q : VK} {us : List Value} {vs : List V} (F : FnOk X.prog X.w X.K X.mg X.base CX n f fd ps sp) (sb : Sub X n A) (hb : Binds X.K fd ps []) (hx : Passes CX X E)
    (I : Inv X pins σ H s) (r : Vals vs us) (h : sp vs H Q E) : wpAny (model X.prog X.w) A (call (.ref f) us) (EP X pins σ Q) X.xe s := by
  have e0 : Env0 X.prog X.w X.K X.mg X.base A X.stack s H := by
    have e := I.env0
    exact ⟨by rw [sb.fr]; exact e.frames, e.mod, e.bs, e.bsz, e.funs, e.frf, e.hok, e.bare⟩
  have hl := F.len _ _ _ _ h
  have hu : us.length = ps.length := by rw [← r.length]; exact hl
  refine wpAny_call (codeAny_mono (F.run A X.stack s H ⟨us, []⟩ us vs Q E sb.room e0 (by
    have := hb s us I.kIn (by simpa using hu)
    simpa using this) r h) fun r s' hq => ?_)
  cases r with
  | error e => exact hx pins σ H s e s' I hq
  | ok fl =>
    cases fl with
    | ret w => exact I.after hq
    | next => exact False.elim hq
    | brk => exact False.elim hq
    | cont => exact False.elim hq
/-- == gives what D says, and only makes objects -/
def EqB (X : Cx) (n : Nat) (D : V → V → Hp → Bool → Prop) : Prop :=
  ∀ (A : Around) (pins : List (Addr × Obj)) (s : Shared) (σ : L2.St) (H : Hp) (x y : V) (u v : Value) (b : Bool), Sub X n A → Inv X pins σ H s → RelV x u → RelV y v → D x y H b →
    wpAny (model X.prog X.w) A (eqBool u v) (fun r s' => r = b ∧ ∃ H', Inv X pins σ H' s' ∧ Ext H H') X.xe s
def RcB (X : Cx) (n : Nat) (D : V → V → Hp → Bool → Prop) : Prop :=
  ∀ (A : Around) (pins : List (Addr × Obj)) (s : Shared) (σ : L2.St) (H : Hp) (x y : V) (u v : Value) (b : Bool), Sub X n A → Inv X pins σ H s → RelV x u → RelV y v → D x y H b →
    wpAny (model X.prog X.w) A (richCompare .Eq u v) (fun r s' => r = .bool b ∧ ∃ H', Inv X pins σ H' s' ∧ Ext H H') X.xe s
def MonB (D : V → V → Hp → Bool → Prop) : Prop := ∀ x y H H' b, Ext H H' → D x y H b → D x y H' b
theorem RcB.eqB {D : V → V → Hp → Bool → Prop} (h : RcB X n D) (hr : ∀ x y H b, D x y H b → ∃ a c, x = .ref a ∧ y = .ref c ∧ (a = c → b = true)) : EqB X n D := by
  intro A pins s σ H x y u v b sb I rx ry d
  obtain ⟨a, c, rfl, rfl, same⟩ := hr _ _ _ _ d
  cases rx
  cases ry
  by_cases hab : a = c
  · have e := same hab
    subst hab
    subst e
    exact SeqAt.EqAt.same (A := A) (s := s) (.ref a) X.prog X.w X.xe _ ⟨rfl, H, I, Ext.rfl'⟩
  · refine GQ.eqBool_refG hab (wpAny_mono (h A pins s σ H (.ref a) (.ref c) _ _ b sb I rfl rfl d) (fun r s' q => ?_) fun _ _ x => x)
    obtain ⟨hr', q⟩ := q
    exact ⟨b, hr', rfl, q⟩
/-- instances of C with an own == -/
def InsB (C : Addr) (R : Addr → Addr → Hp → Bool → Prop) : V → V → Hp → Bool → Prop := fun x y H r => ∃ a b dx dy fs gs, x = .ref a ∧ y = .ref b ∧ H a = some (.ins C dx fs) ∧ H b = some (.ins C dy gs) ∧ R a b H r
def spEqB (R : Addr → Addr → Hp → Bool → Prop) : Sp := fun vs H Q _ => ∃ a b r, vs = [.ref a, .ref b] ∧ R a b H r ∧ ∀ H', Ext H H' → Q (.bl r) H'
theorem rcB_ins {R : Addr → Addr → Hp → Bool → Prop} (F : FnOk X.prog X.w X.K X.mg X.base CX n f fd ps (spEqB R)) (hs : PySem.W.findIn X.K (.ref C) "__eq__" = some (some (.ref f))) (hf : PySem.W.isFn X.K (.ref f) = true) (hb : Binds X.K fd ps []) (hx : Passes CX X E) : RcB X n (InsB C R) := by
  intro A pins s σ H x y u v r sb I rx ry d
  obtain ⟨a, b, dx, dy, fs, gs, rfl, rfl, ha, hb', hr⟩ := d
  cases rx
  cases ry
  obtain ⟨mA, J, _⟩ := ins_get I.hok ha
  obtain ⟨mB, J', _⟩ := ins_get I.hok hb'
  obtain ⟨od, J, _⟩ := J.look
  obtain ⟨od', J', _⟩ := J'.look
  obtain ⟨m, hF⟩ := I.fr
  refine PySem.W.cmp_K (op := .Eq) (tb := .ref C) sb.room.units0 hF I.ok.mod.kin J J'.type (by simp [PySem.W.notFirst]) hs hf ?_
  have hsp : spEqB R [.ref a, .ref b] H (fun v H' => v = .bl r ∧ Ext H H') E := ⟨a, b, r, rfl, hr, fun H' e => ⟨rfl, e⟩⟩
  refine wpAny_mono (run_sub (us := [.ref a, .ref b]) (vs := [.ref a, .ref b]) F sb hb hx I (.cons rfl (.cons rfl .nil)) hsp) (fun w s' q => ?_) fun _ _ e => e
  obtain ⟨z, H', I', rz, ez, ex⟩ := q
  subst ez
  cases rz
  exact ⟨rfl, H', I', ex⟩
/-- two tuples: f i tells of the i-th two -/
def TupB (K : PySem.W.Frag) (D : V → V → Hp → Bool → Prop) : V → V → Hp → Bool → Prop := fun x y H r => ∃ a b xs ys f, x = .ref a ∧ y = .ref b ∧ SqT K H a xs ∧ SqT K H b ys ∧ (∀ i u v, xs[i]? = some u → ys[i]? = some v → D u v H (f i)) ∧ r = ((List.range (min xs.length ys.length)).all f && xs.length == ys.length)
theorem rcB_tup {D : V → V → Hp → Bool → Prop} (hD : MonB D) (h : EqB X n D) : RcB X (n + 1) (TupB X.K D) := by
  intro A pins s σ H x y u v r sb I rx ry d
  obtain ⟨a, b, xs, ys, f, rfl, rfl, ha, hb, p, rfl⟩ := d
  cases rx
  cases ry
  obtain ⟨its, r, e, z⟩ := I.tuple ha
  obtain ⟨its2, r2, e2, z2⟩ := I.tuple hb
  have l1 := r.length
  have l2 := r2.length
  refine MoB.rc_tupB sb.room.units0 f (fun _ s' => LoopI X pins σ H s') e e2 (fun i h1 h2 s' l => ?_) (fun i s' q => ?_) ⟨H, I, Ext.rfl'⟩
  · obtain ⟨H1, I1, e1⟩ := l
    have g1 : its[i]? = some its.toArray[i] := by
      have h1' : i < its.length := by simpa using h1
      rw [List.getElem?_eq_getElem h1'] <;> simp
    have g2 : its2[i]? = some its2.toArray[i] := by
      have h2' : i < its2.length := by simpa using h2
      rw [List.getElem?_eq_getElem h2'] <;> simp
    have k1 : i < xs.length := by rw [l1]; simpa using h1
    have k2 : i < ys.length := by rw [l2]; simpa using h2
    obtain ⟨u, hu, ru⟩ := r.get (List.getElem?_eq_getElem k1)
    obtain ⟨v, hv, rv⟩ := r2.get (List.getElem?_eq_getElem k2)
    rw [g1] at hu
    rw [g2] at hv
    rw [Option.some.inj hu, Option.some.inj hv]
    refine wpAny_mono (h A.in1 pins s' σ H1 _ _ u v (f i) sb.in1 I1 ru rv (hD _ _ _ _ _ e1 (p i _ _ (List.getElem?_eq_getElem k1) (List.getElem?_eq_getElem k2)))) (fun r s2 q => ?_) fun _ _ x => x
    obtain ⟨hr, H2, I2, e2⟩ := q
    exact ⟨hr, H2, I2, e1.trans e2⟩
  · rw [List.size_toArray, List.size_toArray, ← l1, ← l2]
    exact ⟨rfl, q⟩
/-- x == y as an expression -/
theorem op_eqB {D : V → V → Hp → Bool → Prop} (h : RcB X n D) (hr : Room n X.A) : OpR X (compareOp .Eq) (fun x y H Q => ∃ r, D x y H r ∧ ∀ H', Ext H H' → Q (.bl r) H') := by
  intro pins s σ H x y v u Q I rx ry hq
  obtain ⟨r, d, q⟩ := hq
  show wpAny (model X.prog X.w) X.A (richCompare .Eq v u) (EP X pins σ Q) X.xe s
  refine wpAny_mono (h X.A pins s σ H x y v u r ⟨hr, rfl⟩ I rx ry d) (fun w s' z => ?_) fun _ _ x => x
  obtain ⟨hr', H', I', e⟩ := z
  subst hr'
  exact ⟨.bl r, H', I', rfl, q H' e⟩
/-- x != y, two instances of a class with an own == and object's != -/
theorem op_ne_own0 (hm : PySem.W.mroIn X.K C (.type "object") = some true) (hn : PySem.W.findIn X.K (.ref C) "__ne__" = some (some (.builtin "object.__ne__"))) (m : Meth X.K C "__eq__" f) (run : FnOk X.prog X.w X.K X.mg X.base CX n f fd ps sp) (hr : Room (n + 1) X.A) (hb : Binds X.K fd ps []) (hx : Passes CX X E) :
    OpR X (compareOp .NotEq) (fun x y H Q => Ins H x C ∧ Ins H y C ∧ sp [x, y] H (fun v H' => ∃ b, v = .bl b ∧ Q (.bl (!b)) H') E) := by
  intro pins s σ H x y v u Q I rx ry h
  obtain ⟨⟨a, dx, fs, rfl, ha⟩, ⟨b, dy, gs, rfl, hb'⟩, hs⟩ := h
  cases (show v = Value.ref a from rx)
  cases (show u = Value.ref b from ry)
  obtain ⟨mA, J, _⟩ := ins_get I.hok ha
  obtain ⟨mB, J', _⟩ := ins_get I.hok hb'
  obtain ⟨od, J, _⟩ := J.look
  obtain ⟨od', J', _⟩ := J'.look
  show wpAny (model X.prog X.w) X.A (richCompare .NotEq (.ref a) (.ref b)) (EP X pins σ Q) X.xe s
  have sb : Sub X (n + 1) X.A := ⟨hr, rfl⟩
  refine ne_own (Nat.lt_of_le_of_lt (by show X.A.units + 1 ≤ X.A.in1.units; first | exact Nat.le_refl _ | (simp [Around.in1, Around.units])) sb.in1.room.units0) I.kIn J J' hm hn m.at_ m.fn ?_
  refine wpAny_mono (run_sub (us := [.ref a, .ref b]) (vs := [.ref a, .ref b]) run sb.in1 hb hx I (.cons rfl (.cons rfl .nil)) hs) (fun w s' q => ?_) fun _ _ e => e
  obtain ⟨z, H', I', rz, c, rfl, q⟩ := q
  cases rz
  exact ⟨c, rfl, .bl (!c), H', I', rfl, q⟩
end
end MoL

/-! # != of two lists of the same things -/
namespace MoL
open PySem PySem.Spec PyProof.Rows L2 MoW
/-- what is seen to be equal to itself without a call -/
def selfV (x : V) : Prop := (∃ i, x = .int i) ∨ ∃ a, x = .ref a
theorem eqAt_self {A : Around} {s : Shared} {x : V} {u v : Value} (h : selfV x) (ru : RelV x u) (rv : RelV x v) : PySem.SeqAt.EqAt A s u v true := by
  rcases h with ⟨i, rfl⟩ | ⟨a, rfl⟩
  · have q := eqAt_V (A := A) (s := s) ru rv rfl rfl
    rw [show eqV (V.int i) (V.int i) = true by show (i == i) = true; simp] at q
    exact q
  · cases (show u = Value.ref a from ru)
    cases (show v = Value.ref a from rv)
    exact PySem.SeqAt.EqAt.same _
theorem op_neL {X : Cx} (hu : X.A.units + 64 < cLine) : OpR X (compareOp .NotEq) (fun x y H Q => ∃ a b xs, x = .ref a ∧ y = .ref b ∧ H a = some (.lst xs) ∧ H b = some (.lst xs) ∧ (∀ z ∈ xs, selfV z) ∧ Q (.bl false) H) := by
  intro pins s σ H x y v u Q I rx ry h
  obtain ⟨a, b, xs, rfl, rfl, ha, hb, hs, q⟩ := h
  cases rx
  cases ry
  obtain ⟨z, its, k, r, e⟩ := I.hok a _ ha
  obtain ⟨z2, its2, k2, r2, e2⟩ := I.hok b _ hb
  have l1 := r.length
  have l2 := r2.length
  show wpAny (model X.prog X.w) X.A (richCompare .NotEq (.ref a) (.ref b)) (EP X pins σ Q) X.xe s
  refine wpAny_richCompare_same_room (op := .NotEq) ⟨_, e, rfl⟩ ⟨_, e2, rfl⟩ F.slot_list_ne (GQ.call_here F.slot_list_ne ⟨_, e, rfl⟩ F.entry_list_ne (F.args_list_ne_2 _ _) ?_) (Nat.lt_of_le_of_lt (Nat.le_add_right _ 64) hu)
  have hm := PySem.SeqAt.list_neAt a b its.toArray its2.toArray k k2 none none #[] #[] (by rw [List.size_toArray, List.size_toArray]; omega) (fun _ => true) X.prog X.w X.A (wants (fun v s' => v ≠ .notImplemented ∧ EP X pins σ Q v s') X.xe) s
  refine hm ⟨e, e2, fun j h1 h2 => ?_, ?_⟩
  · have k1 : j < xs.length := by rw [l1]; simpa using h1
    obtain ⟨u1, hu1, ru⟩ := r.get (List.getElem?_eq_getElem k1)
    obtain ⟨v1, hv1, rv⟩ := r2.get (List.getElem?_eq_getElem k1)
    have g1 : its[j]? = some its.toArray[j] := by
      have h1' : j < its.length := by simpa using h1
      rw [List.getElem?_eq_getElem h1'] <;> simp
    have g2 : its2[j]? = some its2.toArray[j] := by
      have h2' : j < its2.length := by simpa using h2
      rw [List.getElem?_eq_getElem h2'] <;> simp
    rw [g1] at hu1
    rw [g2] at hv1
    rw [Option.some.inj hu1, Option.some.inj hv1]
    exact eqAt_self (hs _ (List.getElem_mem k1)) ru rv
  · have e0 : (List.range its.toArray.size).all (fun _ => true) = true := by simp
    rw [e0]
    exact ⟨(fun x => nomatch x), .bl false, H, I, rfl, q⟩
end MoL

/-! # x in a list, its items compared by an own == that may answer False -/
namespace MoB
open PySem PySem.SeqAt
open AutoSeq1 (wpAny_loadPart')
open MeetsSeq MeetsSeq2 MeetsSeq3 SeqRoads2
section
variable {prog : Program} {w : World} {A : Around} {R : Result → Shared → Prop}
/-- at each turn the list is read anew: N items, f i is what the i-th comparison gives -/
def InI (prog : Program) (w : World) (A : Around) (E : Value → Shared → Prop) (l : Addr) (x : Value) (N : Nat) (f : Nat → Bool) (I : Nat → Shared → Prop) : Prop :=
  ∀ i s, I i s → ∃ (items : Array Value) (n : Nat), s.heap.get? l = some { cls := .type "list", data := .seq items n } ∧ items.size = N ∧
    ∀ (h1 : i < items.size), wpAny (model prog w) A.in1 (eqBool items[i] x) (fun r s' => r = f i ∧ I (i + 1) s') E s
theorem in_loopB (l : Addr) (x : Value) (N : Nat) (f : Nat → Bool) (I : Nat → Shared → Prop) (hl : InI prog w A (fun e s' => R (.error e) s') l x N f I)
    (fin : ∀ i s, I i s → R (.ok (.ret (.bool ((List.range N).any f)))) s) (k : Nat) :
    ∀ i : Nat, N - i = k → i ≤ N → (List.range N).any f = ((List.range N).drop i).any f → ∀ s, I i s →
      wpAny (model prog w) A.in1 (Builtin.«list.__contains__.loop» ⟨[.ref l, x, rawInt i], []⟩) (GQ.FinOf prog w A R) (fun e s' => R (.error e) s') s := by
  induction k with
  | zero =>
    intro i hk hi hd s h
    obtain ⟨items, n, hl1, hs1, _⟩ := hl _ _ h
    have hR := fin _ _ h
    rw [hd, List.drop_of_length_le (by rw [List.length_range]; omega)] at hR
    obtain ⟨hp, g, d, tk, os⟩ := s
    wp_walk using wpAny_loadPart' hl1
    have hi1 : items[((i : Nat) : Int).toNat]? = none := by simp; omega
    rw [hi1]
    wp_walk
    exact hR
  | succ k ih =>
    intro i hk hi hd s h
    obtain ⟨items, n, hl1, hs1, turn⟩ := hl _ _ h
    have hlt : i < items.size := by omega
    have ht := turn hlt
    have hd' : (List.range N).drop i = i :: (List.range N).drop (i + 1) := by
      rw [List.drop_eq_getElem_cons (by rw [List.length_range]; omega), List.getElem_range]
    rw [hd', List.any_cons] at hd
    obtain ⟨hp, g, d, tk, os⟩ := s
    wp_walk using wpAny_loadPart' hl1
    have hi1 : items[((i : Nat) : Int).toNat]? = some items[i] := by simp [hlt]
    have hc : ((i : Int) + 1) = ((i + 1 : Nat) : Int) := by omega
    rw [hi1]
    refine wpAny_bind (wpAny_mono ht (fun r s2 h2 => ?_) fun _ _ x => x)
    obtain ⟨hr, h2⟩ := h2
    subst hr
    have hfin := fin _ _ h2
    cases hb : f i with
    | true =>
      rw [hb, Bool.true_or] at hd
      rw [hd] at hfin
      wp_walk
      exact hfin
    | false =>
      rw [hb, Bool.false_or] at hd
      have hrec := ih (i + 1) (by omega) (by omega) hd s2 h2
      obtain ⟨hp2, g2, d2, tk2, os2⟩ := s2
      wp_walk
      rw [hc]
      exact ⟨plainId_quiet plain_contains_loop _, codeAny_builtin entry_contains_loop (by
        rw [Around.under_plainId plain_contains_loop _]
        exact hrec)⟩
theorem in_listB (l : Addr) (x : Value) (N : Nat) (f : Nat → Bool) (I : Nat → Shared → Prop) (hl : InI prog w A (fun e s' => R (.error e) s') l x N f I)
    (fin : ∀ i s, I i s → R (.ok (.ret (.bool ((List.range N).any f)))) s) {s : Shared} (h : I 0 s) :
    wpAny (model prog w) A.in1 (Builtin.«list.__contains__» ⟨[.ref l, x], []⟩) (GQ.FinOf prog w A R) (fun e s' => R (.error e) s') s := by
  obtain ⟨items, n, hl1, hs1, _⟩ := hl _ _ h
  have hrec := in_loopB (A := A) (R := R) l x N f I hl fin _ 0 rfl (Nat.zero_le _) rfl s h
  obtain ⟨hp, g, d, tk, os⟩ := s
  wp_walk using wpAny_loadPart' hl1
  exact ⟨plainId_quiet plain_contains_loop _, codeAny_builtin entry_contains_loop (by
    rw [Around.under_plainId plain_contains_loop _]
    exact hrec)⟩
end
end MoB
namespace MoL
open PySem PySem.Spec PyProof.Rows L2 MoW
/-- what is never reached -/
theorem pe_never {X : Cx} {e : Expr} : PE X e (fun _ _ _ => False) := ⟨fun _ _ _ _ _ _ h => h.elim⟩
/-- x in a list: f i tells of the i-th item and x -/
theorem op_inB {D : V → V → Hp → Bool → Prop} (hD : MonB D) (h : EqB X n D) (hr : Room (n + 1) X.A) : OpR X (compareOp .In) (fun x y H Q => ∃ a xs f, y = .ref a ∧ H a = some (.lst xs) ∧ (∀ i u, xs[i]? = some u → D u x H (f i)) ∧ ∀ H', Ext H H' → Q (.bl ((List.range xs.length).any f)) H') := by
  intro pins s σ H x y v u Q I rx ry hq
  obtain ⟨a, xs, f, rfl, ha, p, q'⟩ := hq
  cases ry
  have hin : MoB.InI X.prog X.w X.A X.xe a v xs.length f (fun _ s' => LoopI X pins σ H s') := by
    rintro i s' ⟨H1, I1, e1⟩
    obtain ⟨z, its, k, r, e⟩ := I1.hok a _ (e1 _ _ ha)
    have l1 := r.length
    refine ⟨its.toArray, k, e, by rw [List.size_toArray, l1], fun h1 => ?_⟩
    have g1 : its[i]? = some its.toArray[i] := by
      have h1' : i < its.length := by simpa using h1
      rw [List.getElem?_eq_getElem h1'] <;> simp
    have k1 : i < xs.length := by rw [l1]; simpa using h1
    obtain ⟨u, hu, ru⟩ := r.get (List.getElem?_eq_getElem k1)
    rw [g1] at hu
    rw [Option.some.inj hu]
    have sb : Sub X (n + 1) X.A := ⟨hr, rfl⟩
    refine wpAny_mono (h X.A.in1 pins s' σ H1 _ x u v (f i) sb.in1 I1 ru rx (hD _ _ _ _ _ e1 (p i _ (List.getElem?_eq_getElem k1)))) (fun r s2 q => ?_) fun _ _ x => x
    obtain ⟨hr', H2, I2, e2⟩ := q
    exact ⟨hr', H2, I2, e1.trans e2⟩
  have h0 : LoopI X pins σ H s := ⟨H, I, Ext.rfl'⟩
  obtain ⟨items, k, hl1, _⟩ := hin 0 s h0
  show wpAny (model X.prog X.w) X.A (do return .bool (← contains (.ref a) v)) (EP X pins σ Q) X.xe s
  refine wpAny_bind (wpAny_contains_slot ⟨_, hl1, rfl⟩ F.slot_list_contains (wpAny_mono (GQ.call_here (Q := fun r s' => ∃ b, r = .bool b ∧ EP X pins σ Q (.bool b) s') F.slot_list_contains ⟨_, hl1, rfl⟩ F.entry_list_contains (F.args_list_contains_2 _ _) ?_) (fun r s' hv => ?_) fun _ _ e => e))
  · refine MoB.in_listB (R := wants (fun r s' => ∃ b, r = .bool b ∧ EP X pins σ Q (.bool b) s') X.xe) a v xs.length f _ hin (fun i s' q => ?_) h0
    obtain ⟨H1, I1, e1⟩ := q
    exact ⟨_, rfl, .bl _, H1, I1, rfl, q' H1 e1⟩
  · obtain ⟨b, rfl, q2⟩ := hv
    exact wpAny_truthy_bool (wpAny_pure q2)
end MoL

/-! # The small end, second half: what the tests say -/
namespace MoH
open PySem PySem.Spec PyProof.Rows L2 MoW MoL He
/-! ### defs -/
section
variable {K : PySem.W.Frag} {x q : Str} {st : Stmt} {f : Addr} {fd : FuncData} {kws : List (Str × V)}
theorem fun_ofD (F : FunD K x q (defArgs st) (defBody st) (defScope st) [] kws f fd) : Fun K x q st f fd := by
  obtain ⟨⟨oc, od, dV, kV, doc, pm, an, cdv, ct, osl, e, lk, hc, hD, _⟩, kp⟩ := F
  rcases hD with ⟨_, rfl⟩ | ⟨z, _⟩
  · exact ⟨⟨oc, od, kV, doc, pm, an, cdv, ct, osl, e, lk, hc⟩, kp⟩
  · exact absurd rfl z
theorem funC_ofD {p : Str × Option Str} (F : FunD K x q (defArgs st) (defBody st) (defScope st) [] kws (fAd K p) fd) : FunC K x q st (fAd K p) fd (codeOf K p) := by
  obtain ⟨⟨oc, od, dV, kV, doc, pm, an, cdv, ct, osl, e, lk, hc, hD, _⟩, kp⟩ := F
  rcases hD with ⟨_, rfl⟩ | ⟨z, _⟩
  · obtain ⟨c, rfl⟩ := codeIn_ref hc
    have ec : codeOf K p = c := codeOf_eq lk (by rw [e])
    rw [ec]
    exact ⟨⟨oc, od, kV, doc, pm, an, ct, osl, e, lk, hc⟩, kp⟩
  · exact absurd rfl z
end

theorem ownB_ok {K : PySem.W.Frag} {C : Addr} (h : ownB K C = true) (g : gdB K = true) : OwnB K C := by
  obtain ⟨g1, g2⟩ := ba g
  obtain ⟨h1, h⟩ := ba h
  obtain ⟨h2, h⟩ := ba h
  obtain ⟨h3, h⟩ := ba h
  obtain ⟨h4, h⟩ := ba h
  obtain ⟨h5, h⟩ := ba h
  obtain ⟨h6, h⟩ := ba h
  obtain ⟨h7, h⟩ := ba h
  obtain ⟨h8, h⟩ := ba h
  obtain ⟨h9, h⟩ := ba h
  obtain ⟨ha, hb⟩ := ba h
  exact ⟨⟨h1, h2, h3, eqO_ok h4⟩, ⟨h5, of_decide_eq_true h6, of_decide_eq_true h7⟩, eqO_ok h8, eqO_ok g1, of_decide_eq_true g2, of_decide_eq_true h9, of_decide_eq_true ha, of_decide_eq_true hb⟩
theorem ownK_ok {K : PySem.W.Frag} {C : Addr} (h : ownB K C = true) (g : gdB K = true) (n1 : PySem.W.findIn K (.ref C) "top" = some none) (n2 : PySem.W.findIn K (.ref C) "bottom" = some none) : OwnK K C := by
  obtain ⟨a1, a2, a3, a4, a5, a6, a7, a8⟩ := ownB_ok h g
  exact ⟨a1, a2, a3, a4, a5, a6, a7, a8, n1, n2⟩

theorem errB_ok {K : PySem.W.Frag} {C : Addr} {t : Str → List Value → Bool} (h : errB K C t = true) : ∃ nm q N bs bm sn sub ab col dd k0 k1 k2 k3 k5, K.lookup C = some (excClassObj nm q C N bs bm true sn sub ab col dd k0 k1 k2 k3 k5 "ValueError.__new__") ∧ t nm bm = true := by
  unfold errB at h
  cases e : K.lookup C with
  | none =>
    rw [e] at h
    cases h
  | some o =>
    obtain ⟨oc, od, dt, sl⟩ := o
    rw [e] at h
    cases oc with
    | type c =>
      cases dt with
      | cls cd =>
        obtain ⟨h1, h⟩ := ba h
        obtain ⟨h2, h⟩ := ba h
        obtain ⟨h3, h⟩ := ba h
        obtain ⟨h4, h5⟩ := ba h
        obtain ⟨nm, bs, mro, N, q, hd, sn, sub, ab, col, hdel⟩ := cd
        have e1 : c = "type" := of_decide_eq_true h1
        have e2 : hd = true := h2
        have e3 : hdel = false := by
          cases hdel with
          | false => rfl
          | true => cases h3
        obtain ⟨k0, k1, k2, k3, k5, e4⟩ : ∃ k0 k1 k2 k3 k5, sl.toList = [k0, k1, k2, k3, some (.builtin "ValueError.__new__"), k5] := by
          generalize sl.toList = l at h4
          match l, h4 with
          | [k0, k1, k2, k3, some (.builtin n), k5], z =>
            have en : n = "ValueError.__new__" := of_decide_eq_true z
            exact ⟨k0, k1, k2, k3, k5, by rw [en]⟩
        have e5 : sl = #[k0, k1, k2, k3, some (.builtin "ValueError.__new__"), k5] := by
          rw [← Array.toArray_toList (xs := sl), e4]
        cases mro with
        | nil => cases h5
        | cons v bm =>
          obtain ⟨h6, h7⟩ := ba h5
          have e6 : v = .ref C := of_decide_eq_true h6
          subst e1 e2 e3 e5 e6
          exact ⟨nm, q, N, bs, bm, sn, sub, ab, col, od, k0, k1, k2, k3, k5, rfl, h7⟩
      | _ => cases h
    | _ => cases dt <;> cases h
theorem rowB_ok {K : PySem.W.Frag} {C : Addr} {nm : Str} {bm : List Value} (h : rowB K C nm bm = true) : ClsRow K C nm bm := by
  obtain ⟨n, q, N, bs, b, sn, sub, ab, col, dd, k0, k1, k2, k3, k5, e, t⟩ := errB_ok h
  obtain ⟨t1, t2⟩ := ba t
  have e1 : n = nm := of_decide_eq_true t1
  have e2 : b = bm := of_decide_eq_true t2
  subst e1 e2
  exact ⟨q, N, bs, sn, sub, ab, col, dd, k0, k1, k2, k3, k5, e⟩
theorem excB_ok {K : PySem.W.Frag} {C : Addr} (h : excB K C = true) (g : gdB K = true) : OexC K C ∧ XfC K C ∧ ExcC K C ∧ PySem.W.exmOne K (.ref C) (.ref C) = some true := by
  obtain ⟨g1, g2⟩ := ba g
  obtain ⟨h1, h⟩ := ba h
  obtain ⟨h2, h⟩ := ba h
  obtain ⟨h3, h⟩ := ba h
  obtain ⟨h4, h⟩ := ba h
  obtain ⟨h5, h⟩ := ba h
  obtain ⟨h6, h⟩ := ba h
  obtain ⟨h7, h⟩ := ba h
  obtain ⟨h8, h⟩ := ba h
  obtain ⟨h9, h⟩ := ba h
  obtain ⟨ha, hb⟩ := ba h
  have eC := of_decide_eq_true h8
  have tC := of_decide_eq_true h9
  have sC := of_decide_eq_true hb
  exact ⟨⟨errB_ok h1, eqO_ok h2, eC, tC, h7⟩, ⟨eqO_ok h3, eqO_ok h4, eC, ha⟩, ⟨eqO_ok h3, eqO_ok h4, eC, ha, eqO_ok h5, eqO_ok g1, of_decide_eq_true g2, of_decide_eq_true h6⟩, PySem.W.exm_ref eC ha tC sC⟩
theorem valB_ok {K : PySem.W.Frag} {M C : Addr} {nm : Str} (h : valB K M C nm = true) (g : gdB K = true) : ErrC K M C nm := by
  obtain ⟨g1, g2⟩ := ba g
  obtain ⟨h1, h⟩ := ba h
  obtain ⟨h2, h⟩ := ba h
  obtain ⟨h3, h⟩ := ba h
  obtain ⟨h4, h⟩ := ba h
  obtain ⟨h5, h⟩ := ba h
  obtain ⟨h6, h7⟩ := ba h
  exact ⟨rowB_ok h1, rowB_ok h2, eqO_ok h3, eqO_ok h4, eqO_ok h5, eqO_ok h6, eqO_ok g1, of_decide_eq_true g2, h7⟩

end MoH

/-! # x in a tuple, its items compared by an own == that may answer False -/
namespace MoB
open PySem PySem.SeqAt
open AutoSeq1 (wpAny_loadPart')
open MeetsSeq MeetsSeq2 MeetsSeq3 SeqRoads2
section
variable {prog : Program} {w : World} {A : Around} {R : Result → Shared → Prop}
theorem in_tupB (l : Addr) (x : Value) (items : Array Value) (n : Nat) (dd : Option Addr) (sl : Array (Option Value)) (f : Nat → Bool) (I : Nat → Shared → Prop)
    (turn : ∀ i (h1 : i < items.size) s, I i s → wpAny (model prog w) A.in1 (eqBool items[i] x) (fun r s' => r = f i ∧ I (i + 1) s') (fun e s' => R (.error e) s') s)
    (fin : ∀ i s, I i s → R (.ok (.ret (.bool ((List.range items.size).any f)))) s) {s : Shared} (hl1 : s.heap.get? l = some { cls := .type "tuple", dict := dd, data := .seq items n, slots := sl }) (h : I 0 s) :
    wpAny (model prog w) A.in1 (Builtin.«tuple.__contains__» ⟨[.ref l, x], []⟩) (GQ.FinOf prog w A R) (fun e s' => R (.error e) s') s := by
  have h0 := h
  obtain ⟨hp, g, d, tk, os⟩ := s
  wp_walk using wpAny_loadPart' hl1, wpAny_forIn_array _ (fun rest b s' => b.1 = none ∧ ∃ i, rest = items.toList.drop i ∧ (List.range items.size).any f = ((List.range items.size).drop i).any f ∧ I i s') _
  case turn =>
    rintro y rest b s' ⟨hb', i, hz, hR, hI⟩
    have hlt : i < items.toList.length := by
      rcases Nat.lt_or_ge i items.toList.length with h' | h'
      · exact h'
      · rw [List.drop_of_length_le h'] at hz; cases hz
    have h1 : i < items.size := by simpa using hlt
    rw [List.drop_eq_getElem_cons hlt] at hz
    injection hz with hyx hrest
    have hy : y = items[i] := by simpa using hyx
    subst hy
    have hd : (List.range items.size).drop i = i :: (List.range items.size).drop (i + 1) := by simp [List.drop_eq_getElem_cons, h1]
    rw [hd, List.any_cons] at hR
    refine wpAny_bind (wpAny_mono (turn i h1 s' hI) (fun r s2 q2 => ?_) fun _ _ x => x)
    obtain ⟨hr, q2⟩ := q2
    subst hr
    have hfin := fin _ _ q2
    cases hy : f i with
    | true =>
      rw [hy] at hR
      have e0 : (List.range items.size).any f = true := by simpa using hR
      rw [e0] at hfin
      wp_walk
      simpa using hfin
    | false =>
      rw [hy] at hR
      wp_walk
      exact ⟨rfl, i + 1, hrest, by simpa using hR, q2⟩
  case fin =>
    rintro ⟨b1, b2⟩ s' ⟨hb', i, hz, hR, hI⟩
    simp only at hb'
    subst hb'
    have hge : items.toList.length ≤ i := by
      rcases Nat.lt_or_ge i items.toList.length with h' | h'
      · rw [List.drop_eq_getElem_cons h'] at hz; cases hz
      · exact h'
    rw [List.drop_of_length_le (show (List.range items.size).length ≤ i by simpa using hge)] at hR
    have hfin := fin _ _ hI
    rw [hR] at hfin
    wp_walk
    simpa using hfin
  case h =>
    exact ⟨rfl, 0, rfl, rfl, h0⟩
end
end MoB
namespace MoL
open PySem PySem.Spec PyProof.Rows L2 MoW
/-- x in a tuple: f i tells of the i-th item and x -/
theorem op_inT {D : V → V → Hp → Bool → Prop} {K : PySem.W.Frag} (hK : X.K = K) (hD : MonB D) (h : EqB X n D) (hr : Room (n + 1) X.A) : OpR X (compareOp .In) (fun x y H Q => ∃ a xs f, y = .ref a ∧ SqT K H a xs ∧ (∀ i u, xs[i]? = some u → D u x H (f i)) ∧ ∀ H', Ext H H' → Q (.bl ((List.range xs.length).any f)) H') := by
  subst hK
  intro pins s σ H x y v u Q I rx ry hq
  obtain ⟨a, xs, f, rfl, ha, p, q'⟩ := hq
  cases ry
  obtain ⟨its, r, e, z⟩ := I.tuple ha
  have l1 := r.length
  have sb : Sub X (n + 1) X.A := ⟨hr, rfl⟩
  obtain ⟨⟨cls, dd, data, sl⟩, ho, hc, k, hd⟩ := e
  simp only at hc hd
  subst hc hd
  show wpAny (model X.prog X.w) X.A (do return .bool (← contains (.ref a) v)) (EP X pins σ Q) X.xe s
  refine wpAny_bind (wpAny_contains_slot ⟨_, ho, rfl⟩ F.slot_tuple_contains (wpAny_mono (GQ.call_here (Q := fun r s' => ∃ b, r = .bool b ∧ EP X pins σ Q (.bool b) s') F.slot_tuple_contains ⟨_, ho, rfl⟩ F.entry_tuple_contains (F.args_tuple_contains_2 _ _) ?_) (fun r s' hv => ?_) fun _ _ e => e))
  · refine MoB.in_tupB (R := wants (fun r s' => ∃ b, r = .bool b ∧ EP X pins σ Q (.bool b) s') X.xe) a v its.toArray k _ _ f (fun _ s' => LoopI X pins σ H s') (fun i h1 s' l => ?_) (fun i s' q => ?_) ho ⟨H, I, Ext.rfl'⟩
    · obtain ⟨H1, I1, e1⟩ := l
      have g1 : its[i]? = some its.toArray[i] := by
        have h1' : i < its.length := by simpa using h1
        rw [List.getElem?_eq_getElem h1'] <;> simp
      have k1 : i < xs.length := by rw [l1]; simpa using h1
      obtain ⟨u, hu, ru⟩ := r.get (List.getElem?_eq_getElem k1)
      rw [g1] at hu
      rw [Option.some.inj hu]
      refine wpAny_mono (h X.A.in1 pins s' σ H1 _ x u v (f i) sb.in1 I1 ru rx (hD _ _ _ _ _ e1 (p i _ (List.getElem?_eq_getElem k1)))) (fun r s2 q => ?_) fun _ _ x => x
      obtain ⟨hr', H2, I2, e2⟩ := q
      exact ⟨hr', H2, I2, e1.trans e2⟩
    · obtain ⟨H1, I1, e1⟩ := q
      have q2 := q' H1 e1
      rw [l1] at q2
      exact ⟨_, by rw [List.size_toArray], .bl _, H1, I1, rfl, q2⟩
  · obtain ⟨b, rfl, q2⟩ := hv
    exact wpAny_truthy_bool (wpAny_pure q2)
theorem unr_or {X : Cx} {f : Value → Sem Value} {r r' : V → Hp → VK → Prop} (h : UnR X f r) (h' : UnR X f r') : UnR X f (fun x H Q => r x H Q ∨ r' x H Q) := fun pins s σ H x v Q I rx q => q.elim (h pins s σ H x v Q I rx) (h' pins s σ H x v Q I rx)
theorem sl_tupK {X : Cx} {K : PySem.W.Frag} (h : X.K = K) : SlR X (rSlA K) := h ▸ sl_tupA
end MoL

namespace Mo
open PySem PySem.Spec PyProof.Rows L2 MoL MoW
open C8 (pss_cut tCut)
/-! ### the text -/
abbrev N_NoBar___init__ : List Str := ["self", "part"]
theorem sc_NoBar___init__ : FnScope N_NoBar___init__ ["self", "part"] (defScope s_NoBar___init__) := ⟨rfl, rfl, rfl, by decide +kernel, rfl, by decide +kernel, by decide +kernel⟩
abbrev N_Ratio___init__ : List Str := ["self", "top", "bottom", "shared"]
theorem sc_Ratio___init__ : FnScope N_Ratio___init__ ["self", "top", "bottom"] (defScope s_Ratio___init__) := ⟨rfl, rfl, rfl, by decide +kernel, rfl, by decide +kernel, by decide +kernel⟩
abbrev N_Ratio___neg__ : List Str := ["self"]
theorem sc_Ratio___neg__ : FnScope N_Ratio___neg__ ["self"] (defScope s_Ratio___neg__) := ⟨rfl, rfl, rfl, by decide +kernel, rfl, by decide +kernel, by decide +kernel⟩
abbrev N_Ratio___eq__ : List Str := ["self", "other"]
theorem sc_Ratio___eq__ : FnScope N_Ratio___eq__ ["self", "other"] (defScope s_Ratio___eq__) := ⟨rfl, rfl, rfl, by decide +kernel, rfl, by decide +kernel, by decide +kernel⟩
abbrev N_Ratio___ne__ : List Str := ["self", "other"]
theorem sc_Ratio___ne__ : FnScope N_Ratio___ne__ ["self", "other"] (defScope s_Ratio___ne__) := ⟨rfl, rfl, rfl, by decide +kernel, rfl, by decide +kernel, by decide +kernel⟩
abbrev N_Ratio___lt__ : List Str := ["self", "other"]
theorem sc_Ratio___lt__ : FnScope N_Ratio___lt__ ["self", "other"] (defScope s_Ratio___lt__) := ⟨rfl, rfl, rfl, by decide +kernel, rfl, by decide +kernel, by decide +kernel⟩
abbrev N_Ratio___ge__ : List Str := ["self", "other"]
theorem sc_Ratio___ge__ : FnScope N_Ratio___ge__ ["self", "other"] (defScope s_Ratio___ge__) := ⟨rfl, rfl, rfl, by decide +kernel, rfl, by decide +kernel, by decide +kernel⟩
abbrev N_is_whole : List Str := ["x"]
theorem sc_is_whole : FnScope N_is_whole ["x"] (defScope s_is_whole) := ⟨rfl, rfl, rfl, by decide +kernel, rfl, by decide +kernel, by decide +kernel⟩
abbrev N_is_number : List Str := ["x"]
theorem sc_is_number : FnScope N_is_number ["x"] (defScope s_is_number) := ⟨rfl, rfl, rfl, by decide +kernel, rfl, by decide +kernel, by decide +kernel⟩
abbrev N_ratio_of : List Str := ["number"]
theorem sc_ratio_of : FnScope N_ratio_of ["number"] (defScope s_ratio_of) := ⟨rfl, rfl, rfl, by decide +kernel, rfl, by decide +kernel, by decide +kernel⟩
abbrev N_whole_parts : List Str := ["ratios", "bottom", "number"]
theorem sc_whole_parts : FnScope N_whole_parts ["ratios"] (defScope s_whole_parts) := ⟨rfl, rfl, rfl, by decide +kernel, rfl, by decide +kernel, by decide +kernel⟩
abbrev N__gap : List Str := ["one", "other"]
theorem sc__gap : FnScope N__gap ["one", "other"] (defScope s__gap) := ⟨rfl, rfl, rfl, by decide +kernel, rfl, by decide +kernel, by decide +kernel⟩
abbrev N_trimmed : List Str := ["numbers", "size"]
theorem sc_trimmed : FnScope N_trimmed ["numbers"] (defScope s_trimmed) := ⟨rfl, rfl, rfl, by decide +kernel, rfl, by decide +kernel, by decide +kernel⟩
abbrev N_mean : List Str := ["row", "p", "factors", "tops", "bottom"]
theorem sc_mean : FnScope N_mean ["row", "p"] (defScope s_mean) := ⟨rfl, rfl, rfl, by decide +kernel, rfl, by decide +kernel, by decide +kernel⟩
abbrev N_row_numbers : List Str := ["row", "k", "number"]
theorem sc_row_numbers : FnScope N_row_numbers ["row"] (defScope s_row_numbers) := ⟨rfl, rfl, rfl, by decide +kernel, rfl, by decide +kernel, by decide +kernel⟩
abbrev N_paired : List Str := ["factors", "tops", "k"]
theorem sc_paired : FnScope N_paired ["factors", "tops"] (defScope s_paired) := ⟨rfl, rfl, rfl, by decide +kernel, rfl, by decide +kernel, by decide +kernel⟩
abbrev N__over_one_bottom : List Str := ["row", "p", "numbers", "factors", "under", "tops", "bottom"]
theorem sc__over_one_bottom : FnScope N__over_one_bottom ["row", "p"] (defScope s__over_one_bottom) := ⟨rfl, rfl, rfl, by decide +kernel, rfl, by decide +kernel, by decide +kernel⟩
abbrev N_Poly___init__ : List Str := ["self", "coefficients", "number"]
theorem sc_Poly___init__ : FnScope N_Poly___init__ ["self", "coefficients"] (defScope s_Poly___init__) := ⟨rfl, rfl, rfl, by decide +kernel, rfl, by decide +kernel, by decide +kernel⟩
abbrev N_Poly___eq__ : List Str := ["self", "other"]
theorem sc_Poly___eq__ : FnScope N_Poly___eq__ ["self", "other"] (defScope s_Poly___eq__) := ⟨rfl, rfl, rfl, by decide +kernel, rfl, by decide +kernel, by decide +kernel⟩
abbrev N_Poly___mul__ : List Str := ["self", "other"]
theorem sc_Poly___mul__ : FnScope N_Poly___mul__ ["self", "other"] (defScope s_Poly___mul__) := ⟨rfl, rfl, rfl, by decide +kernel, rfl, by decide +kernel, by decide +kernel⟩
abbrev N_Poly___rmul__ : List Str := ["self", "other"]
theorem sc_Poly___rmul__ : FnScope N_Poly___rmul__ ["self", "other"] (defScope s_Poly___rmul__) := ⟨rfl, rfl, rfl, by decide +kernel, rfl, by decide +kernel, by decide +kernel⟩
abbrev N_poly_of : List Str := ["q"]
theorem sc_poly_of : FnScope N_poly_of ["q"] (defScope s_poly_of) := ⟨rfl, rfl, rfl, by decide +kernel, rfl, by decide +kernel, by decide +kernel⟩
abbrev N__is_operand : List Str := ["x"]
theorem sc__is_operand : FnScope N__is_operand ["x"] (defScope s__is_operand) := ⟨rfl, rfl, rfl, by decide +kernel, rfl, by decide +kernel, by decide +kernel⟩
abbrev N_product_polys : List Str := ["one", "other", "tops", "bottom", "factors", "under", "size", "found", "k", "j", "top"]
theorem sc_product_polys : FnScope N_product_polys ["one", "other"] (defScope s_product_polys) := ⟨rfl, rfl, rfl, by decide +kernel, rfl, by decide +kernel, by decide +kernel⟩
abbrev N_Bar___init__ : List Str := ["self", "factor", "base", "other"]
theorem sc_Bar___init__ : FnScope N_Bar___init__ ["self", "factor", "base", "other"] (defScope s_Bar___init__) := ⟨rfl, rfl, rfl, by decide +kernel, rfl, by decide +kernel, by decide +kernel⟩
abbrev N_Bar_product : List Str := ["self"]
theorem sc_Bar_product : FnScope N_Bar_product ["self"] (defScope s_Bar_product) := ⟨rfl, rfl, rfl, by decide +kernel, rfl, by decide +kernel, by decide +kernel⟩
abbrev N_check_bar : List Str := ["row", "place", "bar", "numbers", "u", "square", "mixed"]
theorem sc_check_bar : FnScope N_check_bar ["row", "place", "bar"] (defScope s_check_bar) := ⟨rfl, rfl, rfl, by decide +kernel, rfl, by decide +kernel, by decide +kernel⟩
abbrev N_Place___init__ : List Str := ["self", "low", "high"]
theorem sc_Place___init__ : FnScope N_Place___init__ ["self", "low", "high"] (defScope s_Place___init__) := ⟨rfl, rfl, rfl, by decide +kernel, rfl, by decide +kernel, by decide +kernel⟩
abbrev N_Place_all_factors : List Str := ["self", "found"]
theorem sc_Place_all_factors : FnScope N_Place_all_factors ["self"] (defScope s_Place_all_factors) := ⟨rfl, rfl, rfl, by decide +kernel, rfl, by decide +kernel, by decide +kernel⟩
abbrev N__law_cell : List Str := ["_law_script", "_law_k"]
theorem sc__law_cell : FnScope N__law_cell ["_law_script", "_law_k"] (defScope s__law_cell) := ⟨rfl, rfl, rfl, by decide +kernel, rfl, by decide +kernel, by decide +kernel⟩
abbrev N__law_draw : List Str := ["_law_cell_here", "_law_many", "_law_base_here", "_law_found", "_law_rest", "_law_k", "_law_number"]
theorem sc__law_draw : FnScope N__law_draw ["_law_cell_here", "_law_many", "_law_base_here"] (defScope s__law_draw) := ⟨rfl, rfl, rfl, by decide +kernel, rfl, by decide +kernel, by decide +kernel⟩
abbrev N__law_scene : List Str := ["_law_cell_here", "_law_most", "_law_digits", "_law_wide", "_law_bottom", "_law_low", "_law_high", "_law_shape", "_law_tops", "_law_parts", "_law_k", "_law_top"]
theorem sc__law_scene : FnScope N__law_scene ["_law_cell_here", "_law_most"] (defScope s__law_scene) := ⟨rfl, rfl, rfl, by decide +kernel, rfl, by decide +kernel, by decide +kernel⟩
abbrev N__law_row : List Str := ["_law_tops", "_law_parts", "_law_under", "_law_bottom", "_law_size", "_law_row_here", "_law_powers", "_law_scale_here", "_law_k", "_law_at"]
theorem sc__law_row : FnScope N__law_row ["_law_tops", "_law_parts", "_law_under", "_law_bottom", "_law_size"] (defScope s__law_row) := ⟨rfl, rfl, rfl, by decide +kernel, rfl, by decide +kernel, by decide +kernel⟩
abbrev N__law_ratios : List Str := ["_law_row_here", "_law_pair_here"]
theorem sc__law_ratios : FnScope N__law_ratios ["_law_row_here"] (defScope s__law_ratios) := ⟨rfl, rfl, rfl, by decide +kernel, rfl, by decide +kernel, by decide +kernel⟩
abbrev N__law_place : List Str := ["_law_shape", "_law_low", "_law_high", "_law_bottom"]
theorem sc__law_place : FnScope N__law_place ["_law_shape", "_law_low", "_law_high", "_law_bottom"] (defScope s__law_place) := ⟨rfl, rfl, rfl, by decide +kernel, rfl, by decide +kernel, by decide +kernel⟩
abbrev N__law_changed : List Str := ["_law_row_here", "_law_cell_here", "_law_digits", "_law_found", "_law_k", "_law_wide", "_law_at", "_law_under", "_law_by"]
theorem sc__law_changed : FnScope N__law_changed ["_law_row_here", "_law_cell_here"] (defScope s__law_changed) := ⟨rfl, rfl, rfl, by decide +kernel, rfl, by decide +kernel, by decide +kernel⟩
abbrev N__law_factors : List Str := ["_law_shape", "_law_low", "_law_high", "_law_bottom", "_law_found"]
theorem sc__law_factors : FnScope N__law_factors ["_law_shape", "_law_low", "_law_high", "_law_bottom"] (defScope s__law_factors) := ⟨rfl, rfl, rfl, by decide +kernel, rfl, by decide +kernel, by decide +kernel⟩
abbrev N__law_scale : List Str := ["_law_pairs_here", "_law_scale_here", "_law_pair_here", "_law_one", "_law_other", "_law_k", "_law_rest"]
theorem sc__law_scale : FnScope N__law_scale ["_law_pairs_here"] (defScope s__law_scale) := ⟨rfl, rfl, rfl, by decide +kernel, rfl, by decide +kernel, by decide +kernel⟩
abbrev N__law_whole : List Str := ["_law_pairs_here", "_law_scale_here", "_law_pair_here"]
theorem sc__law_whole : FnScope N__law_whole ["_law_pairs_here"] (defScope s__law_whole) := ⟨rfl, rfl, rfl, by decide +kernel, rfl, by decide +kernel, by decide +kernel⟩
abbrev N__law_multiply : List Str := ["_law_one", "_law_other", "_law_found", "_law_k", "_law_i", "_law_j"]
theorem sc__law_multiply : FnScope N__law_multiply ["_law_one", "_law_other"] (defScope s__law_multiply) := ⟨rfl, rfl, rfl, by decide +kernel, rfl, by decide +kernel, by decide +kernel⟩
abbrev N__law_mean : List Str := ["_law_poly", "_law_numbers", "_law_total", "_law_k"]
theorem sc__law_mean : FnScope N__law_mean ["_law_poly", "_law_numbers"] (defScope s__law_mean) := ⟨rfl, rfl, rfl, by decide +kernel, rfl, by decide +kernel, by decide +kernel⟩
abbrev N__law_trim : List Str := ["_law_row_here", "_law_size", "_law_k"]
theorem sc__law_trim : FnScope N__law_trim ["_law_row_here"] (defScope s__law_trim) := ⟨rfl, rfl, rfl, by decide +kernel, rfl, by decide +kernel, by decide +kernel⟩
abbrev N__law_integer : List Str := ["_law_value"]
theorem sc__law_integer : FnScope N__law_integer ["_law_value"] (defScope s__law_integer) := ⟨rfl, rfl, rfl, by decide +kernel, rfl, by decide +kernel, by decide +kernel⟩
abbrev N__law_pair : List Str := ["_law_value"]
theorem sc__law_pair : FnScope N__law_pair ["_law_value"] (defScope s__law_pair) := ⟨rfl, rfl, rfl, by decide +kernel, rfl, by decide +kernel, by decide +kernel⟩
abbrev N__law_pairs : List Str := ["_law_values", "_law_found", "_law_value", "_law_pair_here"]
theorem sc__law_pairs : FnScope N__law_pairs ["_law_values"] (defScope s__law_pairs) := ⟨rfl, rfl, rfl, by decide +kernel, rfl, by decide +kernel, by decide +kernel⟩
abbrev N__law_read_poly : List Str := ["_law_poly"]
theorem sc__law_read_poly : FnScope N__law_read_poly ["_law_poly"] (defScope s__law_read_poly) := ⟨rfl, rfl, rfl, by decide +kernel, rfl, by decide +kernel, by decide +kernel⟩
abbrev N__law_equal_pairs : List Str := ["_law_one", "_law_other", "_law_k"]
theorem sc__law_equal_pairs : FnScope N__law_equal_pairs ["_law_one", "_law_other"] (defScope s__law_equal_pairs) := ⟨rfl, rfl, rfl, by decide +kernel, rfl, by decide +kernel, by decide +kernel⟩
abbrev N__law_base : List Str := ["_law_tops", "_law_bottom", "_law_digits", "_law_base_here", "_law_top", "_law_k"]
theorem sc__law_base : FnScope N__law_base ["_law_tops", "_law_bottom", "_law_digits"] (defScope s__law_base) := ⟨rfl, rfl, rfl, by decide +kernel, rfl, by decide +kernel, by decide +kernel⟩
abbrev N__law_due : List Str := ["_law_chosen", "_law_factor", "_law_base_here", "_law_other", "_law_numbers", "_law_half", "_law_product", "_law_crossed", "_law_value"]
theorem sc__law_due : FnScope N__law_due ["_law_chosen", "_law_factor", "_law_base_here", "_law_other", "_law_numbers"] (defScope s__law_due) := ⟨rfl, rfl, rfl, by decide +kernel, rfl, by decide +kernel, by decide +kernel⟩
abbrev N__law_told : List Str := ["_law_given", "_law_place_here", "_law_bar", "_law_told_here", "e"]
theorem sc__law_told : FnScope N__law_told ["_law_given", "_law_place_here", "_law_bar"] (defScope s__law_told) := ⟨rfl, rfl, rfl, by decide +kernel, rfl, by decide +kernel, by decide +kernel⟩
abbrev N__law_kept : List Str := ["_law_poly", "_law_row_here", "_law_told_here", "_law_value"]
theorem sc__law_kept : FnScope N__law_kept ["_law_poly", "_law_row_here"] (defScope s__law_kept) := ⟨rfl, rfl, rfl, by decide +kernel, rfl, by decide +kernel, by decide +kernel⟩
abbrev N_law : List Str := ["_law_script", "_law_scene_here", "_law_digits", "_law_row_here", "_law_place_here", "_law_factors_here", "_law_choice", "_law_factor", "_law_pair_here", "_law_base_here", "_law_other", "_law_k", "_law_bar", "_law_due_here", "_law_wanted", "_law_given", "_law_product", "_law_kept_here", "_law_scaled", "_law_scale_here", "_law_value"]
theorem sc_law : FnScope N_law ["_law_script"] (defScope s_law) := ⟨rfl, rfl, rfl, by decide +kernel, rfl, by decide +kernel, by decide +kernel⟩
/-! ### addresses and function objects -/
structure Ad where
  Ratio : Addr
  Poly : Addr
  Place : Addr
  Bar : Addr
  NoBar : Addr
  MeansError : Addr
  f_NoBar___init__ : Addr
  f_Ratio___init__ : Addr
  f_Ratio___neg__ : Addr
  f_Ratio___eq__ : Addr
  f_Ratio___ne__ : Addr
  f_Ratio___lt__ : Addr
  f_Ratio___ge__ : Addr
  f_is_whole : Addr
  f_is_number : Addr
  f_ratio_of : Addr
  f_whole_parts : Addr
  f__gap : Addr
  f_trimmed : Addr
  f_mean : Addr
  f_row_numbers : Addr
  f_paired : Addr
  f__over_one_bottom : Addr
  f_Poly___init__ : Addr
  f_Poly___eq__ : Addr
  f_Poly___mul__ : Addr
  f_Poly___rmul__ : Addr
  f_poly_of : Addr
  f__is_operand : Addr
  f_product_polys : Addr
  f_Bar___init__ : Addr
  f_Bar_product : Addr
  f_check_bar : Addr
  f_Place___init__ : Addr
  f_Place_all_factors : Addr
  f__law_cell : Addr
  f__law_draw : Addr
  f__law_scene : Addr
  f__law_row : Addr
  f__law_ratios : Addr
  f__law_place : Addr
  f__law_changed : Addr
  f__law_factors : Addr
  f__law_scale : Addr
  f__law_whole : Addr
  f__law_multiply : Addr
  f__law_mean : Addr
  f__law_trim : Addr
  f__law_integer : Addr
  f__law_pair : Addr
  f__law_pairs : Addr
  f__law_read_poly : Addr
  f__law_equal_pairs : Addr
  f__law_base : Addr
  f__law_due : Addr
  f__law_told : Addr
  f__law_kept : Addr
  f_law : Addr
structure Fd where
  f_NoBar___init__ : FuncData
  f_Ratio___init__ : FuncData
  f_Ratio___neg__ : FuncData
  f_Ratio___eq__ : FuncData
  f_Ratio___ne__ : FuncData
  f_Ratio___lt__ : FuncData
  f_Ratio___ge__ : FuncData
  f_is_whole : FuncData
  f_is_number : FuncData
  f_ratio_of : FuncData
  f_whole_parts : FuncData
  f__gap : FuncData
  f_trimmed : FuncData
  f_mean : FuncData
  f_row_numbers : FuncData
  f_paired : FuncData
  f__over_one_bottom : FuncData
  f_Poly___init__ : FuncData
  f_Poly___eq__ : FuncData
  f_Poly___mul__ : FuncData
  f_Poly___rmul__ : FuncData
  f_poly_of : FuncData
  f__is_operand : FuncData
  f_product_polys : FuncData
  f_Bar___init__ : FuncData
  f_Bar_product : FuncData
  f_check_bar : FuncData
  f_Place___init__ : FuncData
  f_Place_all_factors : FuncData
  f__law_cell : FuncData
  f__law_draw : FuncData
  f__law_scene : FuncData
  f__law_row : FuncData
  f__law_ratios : FuncData
  f__law_place : FuncData
  f__law_changed : FuncData
  f__law_factors : FuncData
  f__law_scale : FuncData
  f__law_whole : FuncData
  f__law_multiply : FuncData
  f__law_mean : FuncData
  f__law_trim : FuncData
  f__law_integer : FuncData
  f__law_pair : FuncData
  f__law_pairs : FuncData
  f__law_read_poly : FuncData
  f__law_equal_pairs : FuncData
  f__law_base : FuncData
  f__law_due : FuncData
  f__law_told : FuncData
  f__law_kept : FuncData
  f_law : FuncData
/-- what the written part says -/
structure Txt (K : PySem.W.Frag) (mg : Str → Option Value) (A : Ad) (D : Fd) : Prop where
  g_Ratio : mg "Ratio" = some (.ref A.Ratio)
  k_Ratio : OwnK K A.Ratio
  kp_Ratio : PySem.W.keepIn K (.ref A.Ratio) = true
  M_Ratio : Mk K A.Ratio A.f_Ratio___init__
  g_Poly : mg "Poly" = some (.ref A.Poly)
  k_Poly : OwnB K A.Poly
  n_Poly_coefficients : NoAttr K A.Poly "coefficients"
  n_Poly_degree : NoAttr K A.Poly "degree"
  n_Poly_lead : NoAttr K A.Poly "lead"
  kp_Poly : PySem.W.keepIn K (.ref A.Poly) = true
  M_Poly : Mk K A.Poly A.f_Poly___init__
  g_Place : mg "Place" = some (.ref A.Place)
  k_Place : OwnB K A.Place
  n_Place_low : NoAttr K A.Place "low"
  n_Place_high : NoAttr K A.Place "high"
  kp_Place : PySem.W.keepIn K (.ref A.Place) = true
  M_Place : Mk K A.Place A.f_Place___init__
  g_Bar : mg "Bar" = some (.ref A.Bar)
  k_Bar : OwnB K A.Bar
  n_Bar_factor : NoAttr K A.Bar "factor"
  n_Bar_base : NoAttr K A.Bar "base"
  n_Bar_other : NoAttr K A.Bar "other"
  kp_Bar : PySem.W.keepIn K (.ref A.Bar) = true
  M_Bar : Mk K A.Bar A.f_Bar___init__
  g_MeansError : mg "MeansError" = some (.ref A.MeansError)
  g_NoBar : mg "NoBar" = some (.ref A.NoBar)
  o_NoBar : OexC K A.NoBar
  x_NoBar : XfC K A.NoBar
  c_NoBar : ExcC K A.NoBar
  em_NoBar : PySem.W.exmOne K (.ref A.NoBar) (.ref A.NoBar) = some true
  n_NoBar_part : PySem.W.findIn K (.ref A.NoBar) "part" = some none
  i_NoBar : PySem.W.findIn K (.ref A.NoBar) "__init__" = some (some (.ref A.f_NoBar___init__))
  ti_NoBar : PySem.W.typeIn K (.ref A.f_NoBar___init__) = some (.type "function")
  F_NoBar___init__ : Fun K "__init__" "NoBar.__init__" s_NoBar___init__ A.f_NoBar___init__ D.f_NoBar___init__
  b_NoBar___init__ : Binds K D.f_NoBar___init__ ["self", "part"] []
  m_NoBar___init__ : Meth K A.NoBar "__init__" A.f_NoBar___init__
  F_Ratio___init__ : FunD K "__init__" "Ratio.__init__" (defArgs s_Ratio___init__) (defBody s_Ratio___init__) (defScope s_Ratio___init__) [.int 1] [] A.f_Ratio___init__ D.f_Ratio___init__
  b_Ratio___init__ : Binds K D.f_Ratio___init__ ["self", "top", "bottom"] []
  b1_Ratio___init__ : ∃ ds, Vals [.int 1] ds ∧ Binds K D.f_Ratio___init__ ["self", "top", "bottom"] ds
  m_Ratio___init__ : Meth K A.Ratio "__init__" A.f_Ratio___init__
  F_Ratio___neg__ : Fun K "__neg__" "Ratio.__neg__" s_Ratio___neg__ A.f_Ratio___neg__ D.f_Ratio___neg__
  b_Ratio___neg__ : Binds K D.f_Ratio___neg__ ["self"] []
  m_Ratio___neg__ : Meth K A.Ratio "__neg__" A.f_Ratio___neg__
  F_Ratio___eq__ : Fun K "__eq__" "Ratio.__eq__" s_Ratio___eq__ A.f_Ratio___eq__ D.f_Ratio___eq__
  b_Ratio___eq__ : Binds K D.f_Ratio___eq__ ["self", "other"] []
  m_Ratio___eq__ : Meth K A.Ratio "__eq__" A.f_Ratio___eq__
  F_Ratio___ne__ : Fun K "__ne__" "Ratio.__ne__" s_Ratio___ne__ A.f_Ratio___ne__ D.f_Ratio___ne__
  b_Ratio___ne__ : Binds K D.f_Ratio___ne__ ["self", "other"] []
  m_Ratio___ne__ : Meth K A.Ratio "__ne__" A.f_Ratio___ne__
  F_Ratio___lt__ : Fun K "__lt__" "Ratio.__lt__" s_Ratio___lt__ A.f_Ratio___lt__ D.f_Ratio___lt__
  b_Ratio___lt__ : Binds K D.f_Ratio___lt__ ["self", "other"] []
  m_Ratio___lt__ : Meth K A.Ratio "__lt__" A.f_Ratio___lt__
  F_Ratio___ge__ : Fun K "__ge__" "Ratio.__ge__" s_Ratio___ge__ A.f_Ratio___ge__ D.f_Ratio___ge__
  b_Ratio___ge__ : Binds K D.f_Ratio___ge__ ["self", "other"] []
  m_Ratio___ge__ : Meth K A.Ratio "__ge__" A.f_Ratio___ge__
  F_is_whole : Fun K "is_whole" "is_whole" s_is_whole A.f_is_whole D.f_is_whole
  b_is_whole : Binds K D.f_is_whole ["x"] []
  g_is_whole : mg "is_whole" = some (.ref A.f_is_whole)
  F_is_number : Fun K "is_number" "is_number" s_is_number A.f_is_number D.f_is_number
  b_is_number : Binds K D.f_is_number ["x"] []
  g_is_number : mg "is_number" = some (.ref A.f_is_number)
  F_ratio_of : Fun K "ratio_of" "ratio_of" s_ratio_of A.f_ratio_of D.f_ratio_of
  b_ratio_of : Binds K D.f_ratio_of ["number"] []
  g_ratio_of : mg "ratio_of" = some (.ref A.f_ratio_of)
  F_whole_parts : Fun K "whole_parts" "whole_parts" s_whole_parts A.f_whole_parts D.f_whole_parts
  b_whole_parts : Binds K D.f_whole_parts ["ratios"] []
  g_whole_parts : mg "whole_parts" = some (.ref A.f_whole_parts)
  F__gap : Fun K "_gap" "_gap" s__gap A.f__gap D.f__gap
  b__gap : Binds K D.f__gap ["one", "other"] []
  g__gap : mg "_gap" = some (.ref A.f__gap)
  F_trimmed : Fun K "trimmed" "trimmed" s_trimmed A.f_trimmed D.f_trimmed
  b_trimmed : Binds K D.f_trimmed ["numbers"] []
  g_trimmed : mg "trimmed" = some (.ref A.f_trimmed)
  F_mean : Fun K "mean" "mean" s_mean A.f_mean D.f_mean
  b_mean : Binds K D.f_mean ["row", "p"] []
  g_mean : mg "mean" = some (.ref A.f_mean)
  F_row_numbers : Fun K "row_numbers" "row_numbers" s_row_numbers A.f_row_numbers D.f_row_numbers
  b_row_numbers : Binds K D.f_row_numbers ["row"] []
  g_row_numbers : mg "row_numbers" = some (.ref A.f_row_numbers)
  F_paired : Fun K "paired" "paired" s_paired A.f_paired D.f_paired
  b_paired : Binds K D.f_paired ["factors", "tops"] []
  g_paired : mg "paired" = some (.ref A.f_paired)
  F__over_one_bottom : Fun K "_over_one_bottom" "_over_one_bottom" s__over_one_bottom A.f__over_one_bottom D.f__over_one_bottom
  b__over_one_bottom : Binds K D.f__over_one_bottom ["row", "p"] []
  g__over_one_bottom : mg "_over_one_bottom" = some (.ref A.f__over_one_bottom)
  F_Poly___init__ : Fun K "__init__" "Poly.__init__" s_Poly___init__ A.f_Poly___init__ D.f_Poly___init__
  b_Poly___init__ : Binds K D.f_Poly___init__ ["self", "coefficients"] []
  m_Poly___init__ : Meth K A.Poly "__init__" A.f_Poly___init__
  F_Poly___eq__ : Fun K "__eq__" "Poly.__eq__" s_Poly___eq__ A.f_Poly___eq__ D.f_Poly___eq__
  b_Poly___eq__ : Binds K D.f_Poly___eq__ ["self", "other"] []
  m_Poly___eq__ : Meth K A.Poly "__eq__" A.f_Poly___eq__
  F_Poly___mul__ : Fun K "__mul__" "Poly.__mul__" s_Poly___mul__ A.f_Poly___mul__ D.f_Poly___mul__
  b_Poly___mul__ : Binds K D.f_Poly___mul__ ["self", "other"] []
  m_Poly___mul__ : Meth K A.Poly "__mul__" A.f_Poly___mul__
  F_Poly___rmul__ : Fun K "__rmul__" "Poly.__rmul__" s_Poly___rmul__ A.f_Poly___rmul__ D.f_Poly___rmul__
  b_Poly___rmul__ : Binds K D.f_Poly___rmul__ ["self", "other"] []
  m_Poly___rmul__ : Meth K A.Poly "__rmul__" A.f_Poly___rmul__
  F_poly_of : Fun K "poly_of" "poly_of" s_poly_of A.f_poly_of D.f_poly_of
  b_poly_of : Binds K D.f_poly_of ["q"] []
  g_poly_of : mg "poly_of" = some (.ref A.f_poly_of)
  F__is_operand : Fun K "_is_operand" "_is_operand" s__is_operand A.f__is_operand D.f__is_operand
  b__is_operand : Binds K D.f__is_operand ["x"] []
  g__is_operand : mg "_is_operand" = some (.ref A.f__is_operand)
  F_product_polys : Fun K "_product" "_product" s_product_polys A.f_product_polys D.f_product_polys
  b_product_polys : Binds K D.f_product_polys ["one", "other"] []
  g_product_polys : mg "product_polys" = some (.ref A.f_product_polys)
  kb_Bar___init__ : ∃ its : List Value, KBn K D.f_Bar___init__ ["self", "factor", "base", "other"] 2 ["base", "other"] (fun us ws => us ++ ws ++ its.drop 1) (fun vs zs => vs ++ zs ++ [])
  F_Bar___init__ : FunD K "__init__" "Bar.__init__" (defArgs s_Bar___init__) (defBody s_Bar___init__) (defScope s_Bar___init__) [.non] [] A.f_Bar___init__ D.f_Bar___init__
  b_Bar___init__ : Binds K D.f_Bar___init__ ["self", "factor", "base", "other"] []
  b1_Bar___init__ : ∃ ds, Vals [.non] ds ∧ Binds K D.f_Bar___init__ ["self", "factor", "base", "other"] ds
  m_Bar___init__ : Meth K A.Bar "__init__" A.f_Bar___init__
  F_Bar_product : Fun K "product" "Bar.product" s_Bar_product A.f_Bar_product D.f_Bar_product
  b_Bar_product : Binds K D.f_Bar_product ["self"] []
  m_Bar_product : Meth K A.Bar "product" A.f_Bar_product
  F_check_bar : Fun K "check_bar" "check_bar" s_check_bar A.f_check_bar D.f_check_bar
  b_check_bar : Binds K D.f_check_bar ["row", "place", "bar"] []
  g_check_bar : mg "check_bar" = some (.ref A.f_check_bar)
  F_Place___init__ : FunD K "__init__" "Place.__init__" (defArgs s_Place___init__) (defBody s_Place___init__) (defScope s_Place___init__) [.non, .non] [] A.f_Place___init__ D.f_Place___init__
  b_Place___init__ : Binds K D.f_Place___init__ ["self", "low", "high"] []
  b2_Place___init__ : ∃ ds, Vals [.non, .non] ds ∧ Binds K D.f_Place___init__ ["self", "low", "high"] ds
  b1_Place___init__ : ∃ ds, Vals [.non] ds ∧ Binds K D.f_Place___init__ ["self", "low", "high"] ds
  m_Place___init__ : Meth K A.Place "__init__" A.f_Place___init__
  F_Place_all_factors : Fun K "all_factors" "Place.all_factors" s_Place_all_factors A.f_Place_all_factors D.f_Place_all_factors
  b_Place_all_factors : Binds K D.f_Place_all_factors ["self"] []
  m_Place_all_factors : Meth K A.Place "all_factors" A.f_Place_all_factors
  F__law_cell : Fun K "_law_cell" "_law_cell" s__law_cell A.f__law_cell D.f__law_cell
  b__law_cell : Binds K D.f__law_cell ["_law_script", "_law_k"] []
  g__law_cell : mg "_law_cell" = some (.ref A.f__law_cell)
  F__law_draw : Fun K "_law_draw" "_law_draw" s__law_draw A.f__law_draw D.f__law_draw
  b__law_draw : Binds K D.f__law_draw ["_law_cell_here", "_law_many", "_law_base_here"] []
  g__law_draw : mg "_law_draw" = some (.ref A.f__law_draw)
  F__law_scene : Fun K "_law_scene" "_law_scene" s__law_scene A.f__law_scene D.f__law_scene
  b__law_scene : Binds K D.f__law_scene ["_law_cell_here", "_law_most"] []
  g__law_scene : mg "_law_scene" = some (.ref A.f__law_scene)
  F__law_row : Fun K "_law_row" "_law_row" s__law_row A.f__law_row D.f__law_row
  b__law_row : Binds K D.f__law_row ["_law_tops", "_law_parts", "_law_under", "_law_bottom", "_law_size"] []
  g__law_row : mg "_law_row" = some (.ref A.f__law_row)
  F__law_ratios : Fun K "_law_ratios" "_law_ratios" s__law_ratios A.f__law_ratios D.f__law_ratios
  b__law_ratios : Binds K D.f__law_ratios ["_law_row_here"] []
  g__law_ratios : mg "_law_ratios" = some (.ref A.f__law_ratios)
  F__law_place : Fun K "_law_place" "_law_place" s__law_place A.f__law_place D.f__law_place
  b__law_place : Binds K D.f__law_place ["_law_shape", "_law_low", "_law_high", "_law_bottom"] []
  g__law_place : mg "_law_place" = some (.ref A.f__law_place)
  F__law_changed : Fun K "_law_changed" "_law_changed" s__law_changed A.f__law_changed D.f__law_changed
  b__law_changed : Binds K D.f__law_changed ["_law_row_here", "_law_cell_here"] []
  g__law_changed : mg "_law_changed" = some (.ref A.f__law_changed)
  F__law_factors : Fun K "_law_factors" "_law_factors" s__law_factors A.f__law_factors D.f__law_factors
  b__law_factors : Binds K D.f__law_factors ["_law_shape", "_law_low", "_law_high", "_law_bottom"] []
  g__law_factors : mg "_law_factors" = some (.ref A.f__law_factors)
  F__law_scale : Fun K "_law_scale" "_law_scale" s__law_scale A.f__law_scale D.f__law_scale
  b__law_scale : Binds K D.f__law_scale ["_law_pairs_here"] []
  g__law_scale : mg "_law_scale" = some (.ref A.f__law_scale)
  F__law_whole : Fun K "_law_whole" "_law_whole" s__law_whole A.f__law_whole D.f__law_whole
  b__law_whole : Binds K D.f__law_whole ["_law_pairs_here"] []
  g__law_whole : mg "_law_whole" = some (.ref A.f__law_whole)
  F__law_multiply : Fun K "_law_multiply" "_law_multiply" s__law_multiply A.f__law_multiply D.f__law_multiply
  b__law_multiply : Binds K D.f__law_multiply ["_law_one", "_law_other"] []
  g__law_multiply : mg "_law_multiply" = some (.ref A.f__law_multiply)
  F__law_mean : Fun K "_law_mean" "_law_mean" s__law_mean A.f__law_mean D.f__law_mean
  b__law_mean : Binds K D.f__law_mean ["_law_poly", "_law_numbers"] []
  g__law_mean : mg "_law_mean" = some (.ref A.f__law_mean)
  F__law_trim : Fun K "_law_trim" "_law_trim" s__law_trim A.f__law_trim D.f__law_trim
  b__law_trim : Binds K D.f__law_trim ["_law_row_here"] []
  g__law_trim : mg "_law_trim" = some (.ref A.f__law_trim)
  F__law_integer : Fun K "_law_integer" "_law_integer" s__law_integer A.f__law_integer D.f__law_integer
  b__law_integer : Binds K D.f__law_integer ["_law_value"] []
  g__law_integer : mg "_law_integer" = some (.ref A.f__law_integer)
  F__law_pair : Fun K "_law_pair" "_law_pair" s__law_pair A.f__law_pair D.f__law_pair
  b__law_pair : Binds K D.f__law_pair ["_law_value"] []
  g__law_pair : mg "_law_pair" = some (.ref A.f__law_pair)
  F__law_pairs : Fun K "_law_pairs" "_law_pairs" s__law_pairs A.f__law_pairs D.f__law_pairs
  b__law_pairs : Binds K D.f__law_pairs ["_law_values"] []
  g__law_pairs : mg "_law_pairs" = some (.ref A.f__law_pairs)
  F__law_read_poly : Fun K "_law_read_poly" "_law_read_poly" s__law_read_poly A.f__law_read_poly D.f__law_read_poly
  b__law_read_poly : Binds K D.f__law_read_poly ["_law_poly"] []
  g__law_read_poly : mg "_law_read_poly" = some (.ref A.f__law_read_poly)
  F__law_equal_pairs : Fun K "_law_equal_pairs" "_law_equal_pairs" s__law_equal_pairs A.f__law_equal_pairs D.f__law_equal_pairs
  b__law_equal_pairs : Binds K D.f__law_equal_pairs ["_law_one", "_law_other"] []
  g__law_equal_pairs : mg "_law_equal_pairs" = some (.ref A.f__law_equal_pairs)
  F__law_base : Fun K "_law_base" "_law_base" s__law_base A.f__law_base D.f__law_base
  b__law_base : Binds K D.f__law_base ["_law_tops", "_law_bottom", "_law_digits"] []
  g__law_base : mg "_law_base" = some (.ref A.f__law_base)
  F__law_due : Fun K "_law_due" "_law_due" s__law_due A.f__law_due D.f__law_due
  b__law_due : Binds K D.f__law_due ["_law_chosen", "_law_factor", "_law_base_here", "_law_other", "_law_numbers"] []
  g__law_due : mg "_law_due" = some (.ref A.f__law_due)
  F__law_told : Fun K "_law_told" "_law_told" s__law_told A.f__law_told D.f__law_told
  b__law_told : Binds K D.f__law_told ["_law_given", "_law_place_here", "_law_bar"] []
  g__law_told : mg "_law_told" = some (.ref A.f__law_told)
  F__law_kept : Fun K "_law_kept" "_law_kept" s__law_kept A.f__law_kept D.f__law_kept
  b__law_kept : Binds K D.f__law_kept ["_law_poly", "_law_row_here"] []
  g__law_kept : mg "_law_kept" = some (.ref A.f__law_kept)
  F_law : Fun K "law" "law" s_law A.f_law D.f_law
  b_law : Binds K D.f_law ["_law_script"] []
  g_law : mg "law" = some (.ref A.f_law)
  kit_RP : PySem.W.kitOne K (.ref A.Ratio) (.ref A.Poly) = some false
  sub_RP : PySem.W.subIn K (.ref A.Ratio) (.ref A.Poly) = some false
  sub_PR : PySem.W.subIn K (.ref A.Poly) (.ref A.Ratio) = some false
  kit_PR : PySem.W.kitOne K (.ref A.Poly) (.ref A.Ratio) = some false
  z_isinstance : mg "isinstance" = none
  z_int : mg "int" = none
  z_bool : mg "bool" = none
  z_abs : mg "abs" = none
  z_len : mg "len" = none
  z_max : mg "max" = none
  z_range : mg "range" = none
  z_list : mg "list" = none
  z_tuple : mg "tuple" = none
  z_min : mg "min" = none
  z_sum : mg "sum" = none
  z_any : mg "any" = none
  z_all : mg "all" = none
  z_NotImplemented : mg "NotImplemented" = none
  g_MOST_NUMBERS : ∃ t, mg "MOST_NUMBERS" = some (.int 13 t)
  g_gcd : mg "gcd" = some (.builtin "math.gcd")
  g_lcm : mg "lcm" = some (.builtin "math.lcm")

section
variable {P : Program} {w : World} {K : PySem.W.Frag} {mg : Str → Option Value} {base : Heap} {A : Ad} {D : Fd}
/-- whether x is an int and no bool -/
def WholeV (K : PySem.W.Frag) (H : Hp) (x : V) (b : Bool) : Prop := ∃ t b1 b2, TyX K H x t ∧ PySem.W.kitOne K t (.type "int") = some b1 ∧ (b1 = true → PySem.W.kitOne K t (.type "bool") = some b2) ∧ b = (b1 && !b2)
theorem whole_int {K : PySem.W.Frag} (i : Int) {H : Hp} : WholeV K H (.int i) true := ⟨_, true, false, .base (.int i), kit_ty (by decide +kernel), fun _ => kit_ty (by decide +kernel), rfl⟩
def sp_is_whole (K : PySem.W.Frag) : Sp := fun vs H Q _ => ∃ x b, vs = [x] ∧ WholeV K H x b ∧ Q (.bl b) H
theorem ok_is_whole (T : Txt K mg A D) : FnOk P w K mg base CX0 1 A.f_is_whole D.f_is_whole ["x"] (sp_is_whole K) := by
  skip
  refine T.F_is_whole.ok sc_is_whole (fun vs H Q E h => ?_) (fun cdv A' outer s H vs Q E hr h => ?_)
  · obtain ⟨x, b, rfl, _⟩ := h
    rfl
  · obtain ⟨x, b, rfl, ⟨t, b1, b2, ty, e1, e2, rfl⟩, q⟩ := h
    refine ⟨_, (pss_one (ps_ret (pe_and (pe_callB call_isi rfl T.z_isinstance (by decide +kernel) (pa_cons (pv 0) (pa_cons (pe_bltn (v := .ty "int") rfl T.z_int (by decide +kernel) rfl) pa_nil))) (pe_one (pe_not (pe_callB call_isi rfl T.z_isinstance (by decide +kernel) (pa_cons (pv 0) (pa_cons (pe_bltn (v := .ty "bool") rfl T.z_bool (by decide +kernel) rfl) pa_nil)))))))), ?_⟩
    refine ⟨x, rfl, x, .ty "int", t, _, b1, rfl, .ty _, ty, e1, b1, rfl, ?_⟩
    cases b1 with
    | false => exact iteF q
    | true => exact iteT ⟨x, rfl, x, .ty "bool", t, _, b2, rfl, .ty _, ty, e2 rfl, b2, rfl, q⟩
theorem ty_same {H H' : Hp} {x : V} {t : Value} (s : Same H H') (h : TyX K H x t) : TyX K H' x t := by
  cases h with
  | base b =>
    refine .base ?_
    cases b with
    | non => exact .non
    | bl y => exact .bl y
    | int i => exact .int i
    | str y => exact .str y
    | flt y => exact .flt y
    | lst e => exact .lst (s _ _ e)
    | frz e => exact .frz (s _ _ e)
    | tup e => exact .tup (s _ _ e)
    | dK e => exact .dK (s _ _ e)
    | dT e => exact .dT (s _ _ e)
    | ins e a b c d f => exact .ins (s _ _ e) a b c d f
  | byt b => exact .byt b
  | set e => exact .set (s _ _ e)
  | kList e c => exact .kList e c
  | kTuple e c => exact .kTuple e c
  | kDict e c => exact .kDict e c
  | fTuple e => exact .fTuple (s _ _ e)
  | fDict e => exact .fDict (s _ _ e)
theorem WholeV.same {H H' : Hp} {x : V} {b : Bool} (h : WholeV K H x b) (s : Same H H') : WholeV K H' x b := by
  obtain ⟨t, b1, b2, ty, r⟩ := h
  exact ⟨t, b1, b2, ty_same s ty, r⟩
/-- neither a Ratio nor an integer -/
def NoNum (K : PySem.W.Frag) (C : Addr) (H : Hp) (x : V) : Prop := ∃ t, TyX K H x t ∧ PySem.W.kitOne K t (.ref C) = some false ∧ WholeV K H x false
theorem NoNum.same {C : Addr} {H H' : Hp} {x : V} (h : NoNum K C H x) (s : Same H H') : NoNum K C H' x := by
  obtain ⟨t, ty, e, w⟩ := h
  exact ⟨t, ty_same s ty, e, w.same s⟩
def sp_isnum (K : PySem.W.Frag) (C : Addr) : Sp := fun vs H Q _ => ∃ x, vs = [x] ∧ ((((∃ i, x = .int i) ∨ Ins H x C) ∧ Q (.bl true) H) ∨ (NoNum K C H x ∧ Q (.bl false) H))
theorem ok_is_number (T : Txt K mg A D) : FnOk P w K mg base CX0 2 A.f_is_number D.f_is_number ["x"] (sp_isnum K A.Ratio) := by
  have G_is_whole : FnOk P w K mg base CX0 1 A.f_is_whole D.f_is_whole ["x"] (sp_is_whole K) := ok_is_whole T
  refine T.F_is_number.ok sc_is_number (fun vs H Q E h => ?_) (fun cdv A' outer s H vs Q E hr h => ?_)
  · obtain ⟨x, rfl, _⟩ := h
    rfl
  · obtain ⟨x, rfl, hx⟩ := h
    refine ⟨_, (pss_one (ps_ret (pe_or (pe_callB call_isi rfl T.z_isinstance (by decide +kernel) (pa_cons (pv 0) (pa_cons (pe_glob (v := .ref A.Ratio) rfl T.g_Ratio rfl) pa_nil))) (pe_one (pe_call G_is_whole (hr.mono (by decide)) rfl T.g_is_whole T.F_is_whole.kp T.b_is_whole .nil pass0 (pa_cons (pv 0) pa_nil)))))), ?_⟩
    rcases hx with ⟨⟨i, rfl⟩ | ⟨a, dx, fs, rfl, ha⟩, q⟩ | ⟨⟨t, ty, e, w⟩, q⟩
    · exact ⟨.int i, rfl, .int i, .ref A.Ratio, _, _, false, rfl, .own _, .base (.int i), T.k_Ratio.ik, false, rfl, iteF ⟨.int i, rfl, _, _, rfl, whole_int i, q⟩⟩
    · exact ⟨.ref a, rfl, .ref a, .ref A.Ratio, _, _, true, rfl, .own _, T.k_Ratio.ty ha, kit_self, true, rfl, iteT q⟩
    · exact ⟨x, rfl, x, .ref A.Ratio, t, _, false, rfl, .own _, ty, e, false, rfl, iteF ⟨x, rfl, _, _, rfl, w, q⟩⟩
def sp_init (C : Addr) : Sp := fun vs H Q _ => ∃ x dx t b, vs = [.ref x, .int t, .int b] ∧ H x = some (.ins C dx []) ∧ b ≠ 0 ∧ Sm b ∧ Q .non (upd H x (ratO C dx ((t : Rat) / (b : Rat))))
theorem rat_make {C : Addr} {H : Hp} {t b : Int} {Q : Hp → Prop} {E : XK} {x dx : Addr} (hb : b ≠ 0) (sb : Sm b) (nx : H x = none) (nd : H dx = none) (ne : dx ≠ x) (q : ∀ G, Same H G → RatV C G (.ref x) ((t : Rat) / (b : Rat)) → Q G) :
    sp_init C [.ref x, .int t, .int b] (upd (upd H dx (.own x)) x (.ins C dx [])) (fun v G => v = .non ∧ Q G) E :=
  ⟨x, dx, t, b, rfl, upd_same, hb, sb, rfl, q _ (madeV nx nd ne _).1 (madeV nx nd ne _).2⟩
theorem ok_Ratio___init__ (T : Txt K mg A D) : FnOk P w K mg base CX0 2 A.f_Ratio___init__ D.f_Ratio___init__ ["self", "top", "bottom"] (sp_init A.Ratio) := by
  have G_is_whole : FnOk P w K mg base CX0 1 A.f_is_whole D.f_is_whole ["x"] (sp_is_whole K) := ok_is_whole T
  refine T.F_Ratio___init__.ok sc_Ratio___init__ (fun vs H Q E h => ?_) (fun cdv A' outer s H vs Q E hr h => ?_)
  · obtain ⟨x, dx, t, b, rfl, _⟩ := h
    rfl
  · obtain ⟨x, dx, t, b, rfl, hx, hb, sb, q⟩ := h
    refine ⟨_, (pss_cons (ps_if (pt_not (pt_val (pe_call G_is_whole (hr.mono (by decide)) rfl T.g_is_whole T.F_is_whole.kp T.b_is_whole .nil pass0 (pa_cons (pv 1) pa_nil)))) (pss_one ps_never) pss_nil)
  (pss_cons (ps_if (pt_not (pt_val (pe_call G_is_whole (hr.mono (by decide)) rfl T.g_is_whole T.F_is_whole.kp T.b_is_whole .nil pass0 (pa_cons (pv 2) pa_nil)))) (pss_one ps_never) pss_nil)
  (pss_cons (ps_if (pt_cmpR op_eq (pv 2) pe_int (nomark _)) (pss_one ps_never) pss_nil)
  (pss_cons (ps_set (i := 3) sc_Ratio___init__.nd rfl (.inl rfl) (pe_callBfun cr_gcd rfl T.g_gcd (pa_cons (pv 1) (pa_cons (pv 2) pa_nil))))
  (pss_cut (ps_if (pt_cmpR op_lt (pv 2) pe_int (nomark _)) (pss_one (ps_set (i := 3) sc_Ratio___init__.nd rfl (.inl rfl) (pe_un un_neg (pv 3)))) pss_nil)
  (pss_cons (ps_fld (pv 0) (pe_op op_fdivA (pv 1) (pv 3)) rfl)
  (pss_one (ps_fld (pv 0) (pe_op op_fdivA (pv 2) (pv 3)) rfl)))))))), ?_⟩
    refine ⟨_, rfl, _, _, rfl, whole_int t, true, rfl, iteF ?_⟩
    refine ⟨_, rfl, _, _, rfl, whole_int b, true, rfl, iteF ?_⟩
    have e0 : decide (V.int b = V.int 0) = false := decide_eq_false fun z => hb (V.int.inj z)
    refine ⟨_, rfl, rfl, _, rfl, ?_⟩
    rw [e0]
    refine iteF ⟨_, rfl, _, rfl, t, b, rfl, ?_⟩
    obtain ⟨g0, gl, nm⟩ := Norm.make (t := t) hb _ rfl
    refine ⟨fun σ' H' => H' = H ∧ ∃ g : Int, (g ≠ 0 ∧ g.natAbs ≤ b.natAbs ∧ Norm t b (t.fdiv g) (b.fdiv g)) ∧ σ' = [some (.ref x), some (.int t), some (.int b), some (.int g)], ?_, ?_⟩
    · refine ⟨_, rfl, _, _, rfl, rfl, _, rfl, ?_⟩
      by_cases hneg : b < 0
      · rw [if_pos hneg] at g0 gl nm
        rw [decide_eq_true hneg]
        exact iteT ⟨_, rfl, _, rfl, rfl, _, ⟨g0, gl, nm⟩, rfl⟩
      · rw [if_neg hneg] at g0 gl nm
        rw [decide_eq_false hneg]
        exact iteF ⟨rfl, _, ⟨g0, gl, nm⟩, rfl⟩
    · rintro σ' H' ⟨rfl, g, ⟨h0, h1, hn⟩, rfl⟩
      have sg : Sm g := sb.le h1
      refine ⟨_, rfl, _, rfl, t, g, rfl, rfl, Sm.div h0 sg, _, rfl, x, A.Ratio, dx, _, rfl, hx, T.k_Ratio.cl, T.k_Ratio.n_top, (by show 0 < 1000; decide), ?_⟩
      refine ⟨_, rfl, _, rfl, b, g, rfl, rfl, Sm.div h0 sg, _, rfl, x, A.Ratio, dx, _, rfl, upd_same, T.k_Ratio.cl, T.k_Ratio.n_bottom, (by show 1 < 1000; decide), ?_⟩
      show Q .non _
      rw [upd_upd]
      obtain ⟨e1, e2⟩ := hn.rat
      have e3 : (HO.ins A.Ratio dx [("top", .int (t.fdiv g)), ("bottom", .int (b.fdiv g))]) = ratO A.Ratio dx ((t : Rat) / (b : Rat)) := by
        show _ = HO.ins A.Ratio dx [("top", .int _), ("bottom", .int _)]
        rw [e1, e2]
      exact e3 ▸ q
def sp_gap (C : Addr) : Sp := fun vs H Q _ => ∃ x y a b, vs = [x, y] ∧ RatV C H x a ∧ NumV C H y b ∧ Bd 3900 3900 a ∧ Bd 3900 3900 b ∧ Q (.int (a.num * (b.den : Int) - b.num * (a.den : Int))) H
theorem ok__gap (T : Txt K mg A D) : FnOk P w K mg base CX0 1 A.f__gap D.f__gap ["one", "other"] (sp_gap A.Ratio) := by
  skip
  refine T.F__gap.ok sc__gap (fun vs H Q E h => ?_) (fun cdv A' outer s H vs Q E hr h => ?_)
  · obtain ⟨x, y, a, b, rfl, _⟩ := h
    rfl
  · obtain ⟨x, y, a, b, rfl, ⟨p, dx, rfl, hp⟩, hy, ba, bb, q⟩ := h
    refine ⟨_, (pss_cons (ps_if (pt_val (pe_callB call_isi rfl T.z_isinstance (by decide +kernel) (pa_cons (pv 1) (pa_cons (pe_glob (v := .ref A.Ratio) rfl T.g_Ratio rfl) pa_nil)))) (pss_one (ps_ret (pe_op op_sub (pe_op op_mulW (pe_fld (pv 0) rfl) (pe_fld (pv 1) rfl)) (pe_op op_mulW (pe_fld (pv 1) rfl) (pe_fld (pv 0) rfl))))) pss_nil)
  (pss_one (ps_ret (pe_op op_sub (pe_fld (pv 0) rfl) (pe_op op_mulW (pv 1) (pe_fld (pv 0) rfl)))))), ?_⟩
    have cl := T.k_Ratio.cl
    have nt := T.k_Ratio.n_top
    have nb := T.k_Ratio.n_bottom
    have s1 := ba.s1 (by decide)
    have s2 := ba.s2 (by decide)
    have s3 := bb.s1 (by decide)
    have s4 := bb.s2 (by decide)
    rcases hy with ⟨i, rfl, rfl⟩ | ⟨c, dy, rfl, hc⟩
    · refine ⟨_, rfl, .int i, .ref A.Ratio, _, _, false, rfl, .own _, .base (.int i), T.k_Ratio.ik, false, rfl, iteF ?_⟩
      refine ⟨_, rfl, p, A.Ratio, dx, _, _, rfl, hp, cl, nt, rfl, ?_⟩
      obtain ⟨e1, e2⟩ := int_parts i
      rw [e1] at s3
      refine ⟨_, rfl, _, rfl, p, A.Ratio, dx, _, _, rfl, hp, cl, nb, rfl, _, _, rfl, rfl, Sm.mul s3 s2, _, _, rfl, rfl, ?_⟩
      rw [e1, e2, Int.mul_one] at q
      exact q
    · refine ⟨_, rfl, .ref c, .ref A.Ratio, _, _, true, rfl, .own _, T.k_Ratio.ty hc, kit_self, true, rfl, iteT ?_⟩
      refine ⟨_, rfl, p, A.Ratio, dx, _, _, rfl, hp, cl, nt, rfl, _, rfl, c, A.Ratio, dy, _, _, rfl, hc, cl, nb, rfl, _, _, rfl, rfl, Sm.mul s1 s4, ?_⟩
      exact ⟨_, rfl, c, A.Ratio, dy, _, _, rfl, hc, cl, nt, rfl, _, rfl, p, A.Ratio, dx, _, _, rfl, hp, cl, nb, rfl, _, _, rfl, rfl, Sm.mul s3 s2, _, _, rfl, rfl, q⟩
/-- a comparison -/
def sp_cmp (C : Addr) (r : Rat → Rat → Bool) : Sp := fun vs H Q _ => ∃ x y a b, vs = [x, y] ∧ RatV C H x a ∧ NumV C H y b ∧ Bd 3900 3900 a ∧ Bd 3900 3900 b ∧ Q (.bl (r a b)) H
abbrev r_eq : Rat → Rat → Bool := fun a b => decide (a = b)
abbrev r_lt : Rat → Rat → Bool := fun a b => decide (a < b)
abbrev r_le : Rat → Rat → Bool := fun a b => decide (a ≤ b)
abbrev r_gt : Rat → Rat → Bool := fun a b => decide (b < a)
abbrev r_ge : Rat → Rat → Bool := fun a b => decide (b ≤ a)
theorem gap_eq' (x y : Rat) : decide (V.int (x.num * (y.den : Int) - y.num * (x.den : Int)) = V.int 0) = decide (x = y) := by
  rw [Bool.eq_iff_iff, decide_eq_true_iff, decide_eq_true_iff, gap_eq]
  exact ⟨V.int.inj, fun e => by rw [e]⟩
theorem gap_gt (x y : Rat) : y < x ↔ 0 < x.num * (y.den : Int) - y.num * (x.den : Int) := by
  rw [gap_lt]
  omega
theorem gap_ge (x y : Rat) : y ≤ x ↔ 0 ≤ x.num * (y.den : Int) - y.num * (x.den : Int) := by
  rw [gap_le]
  omega
theorem ok_Ratio___eq__ (T : Txt K mg A D) : FnOk P w K mg base CX0 3 A.f_Ratio___eq__ D.f_Ratio___eq__ ["self", "other"] (sp_cmp A.Ratio r_eq) := by
  have G__gap : FnOk P w K mg base CX0 1 A.f__gap D.f__gap ["one", "other"] (sp_gap A.Ratio) := ok__gap T
  have G_is_number : FnOk P w K mg base CX0 2 A.f_is_number D.f_is_number ["x"] (sp_isnum K A.Ratio) := ok_is_number T
  refine T.F_Ratio___eq__.ok sc_Ratio___eq__ (fun vs H Q E h => ?_) (fun cdv A' outer s H vs Q E hr h => ?_)
  · obtain ⟨x, y, a, b, rfl, _⟩ := h
    rfl
  · obtain ⟨x, y, a, b, rfl, hx, hy, ba, bb, q⟩ := h
    refine ⟨_, (pss_cons (ps_if (pt_not (pt_val (pe_call G_is_number (hr.mono (by decide)) rfl T.g_is_number T.F_is_number.kp T.b_is_number .nil pass0 (pa_cons (pv 1) pa_nil)))) (pss_one ps_never) pss_nil)
  (pss_one (ps_ret (pe_cmpR op_eq (pe_call G__gap (hr.mono (by decide)) rfl T.g__gap T.F__gap.kp T.b__gap .nil pass0 (pa_cons (pv 0) (pa_cons (pv 1) pa_nil))) pe_int (nomark _))))), ?_⟩
    refine ⟨_, rfl, _, rfl, .inl ⟨hy.kind, true, rfl, iteF ?_⟩⟩
    refine ⟨_, rfl, _, rfl, _, _, _, _, rfl, hx, hy, ba, bb, rfl, ?_⟩
    show Q (.bl (decide (V.int (a.num * (b.den : Int) - b.num * (a.den : Int)) = V.int 0))) H
    rw [gap_eq']
    exact q
abbrev r_ne : Rat → Rat → Bool := fun a b => !decide (a = b)
theorem ok_Ratio___ne__ (T : Txt K mg A D) : FnOk P w K mg base CX0 4 A.f_Ratio___ne__ D.f_Ratio___ne__ ["self", "other"] (sp_cmp A.Ratio r_ne) := by
  have G_Ratio___eq__ : FnOk P w K mg base CX0 3 A.f_Ratio___eq__ D.f_Ratio___eq__ ["self", "other"] (sp_cmp A.Ratio r_eq) := ok_Ratio___eq__ T
  refine T.F_Ratio___ne__.ok sc_Ratio___ne__ (fun vs H Q E h => ?_) (fun cdv A' outer s H vs Q E hr h => ?_)
  · obtain ⟨x, y, a, b, rfl, _⟩ := h
    rfl
  · obtain ⟨x, y, a, b, rfl, hx, hy, ba, bb, q⟩ := h
    refine ⟨_, (pss_one (ps_ret (pe_not (pe_cmpR (op_eq_own T.k_Ratio.ow T.m_Ratio___eq__ G_Ratio___eq__ (hr.mono (by decide)) T.b_Ratio___eq__ pass0) (pv 0) (pv 1) (nomark _))))), ?_⟩
    exact ⟨_, rfl, _, rfl, hx.ins, hy.kind, x, y, a, b, rfl, hx, hy, ba, bb, ⟨_, rfl, q⟩⟩
theorem ok_Ratio___lt__ (T : Txt K mg A D) : FnOk P w K mg base CX0 3 A.f_Ratio___lt__ D.f_Ratio___lt__ ["self", "other"] (sp_cmp A.Ratio r_lt) := by
  have G__gap : FnOk P w K mg base CX0 1 A.f__gap D.f__gap ["one", "other"] (sp_gap A.Ratio) := ok__gap T
  have G_is_number : FnOk P w K mg base CX0 2 A.f_is_number D.f_is_number ["x"] (sp_isnum K A.Ratio) := ok_is_number T
  refine T.F_Ratio___lt__.ok sc_Ratio___lt__ (fun vs H Q E h => ?_) (fun cdv A' outer s H vs Q E hr h => ?_)
  · obtain ⟨x, y, a, b, rfl, _⟩ := h
    rfl
  · obtain ⟨x, y, a, b, rfl, hx, hy, ba, bb, q⟩ := h
    refine ⟨_, (pss_cons (ps_if (pt_not (pt_val (pe_call G_is_number (hr.mono (by decide)) rfl T.g_is_number T.F_is_number.kp T.b_is_number .nil pass0 (pa_cons (pv 1) pa_nil)))) (pss_one ps_never) pss_nil)
  (pss_one (ps_ret (pe_cmpR op_lt (pe_call G__gap (hr.mono (by decide)) rfl T.g__gap T.F__gap.kp T.b__gap .nil pass0 (pa_cons (pv 0) (pa_cons (pv 1) pa_nil))) pe_int (nomark _))))), ?_⟩
    refine ⟨_, rfl, _, rfl, .inl ⟨hy.kind, true, rfl, iteF ?_⟩⟩
    refine ⟨_, rfl, _, rfl, _, _, _, _, rfl, hx, hy, ba, bb, _, _, rfl, rfl, ?_⟩
    show Q (.bl (decide (a.num * (b.den : Int) - b.num * (a.den : Int) < 0))) H
    rw [← decide_eq_decide.mpr (gap_lt a b)]
    exact q
theorem gap_le' {a b : Rat} : b ≤ a ↔ a.num * (b.den : Int) - b.num * (a.den : Int) ≥ 0 := by
  rw [gap_le]
  omega
theorem ok_Ratio___ge__ (T : Txt K mg A D) : FnOk P w K mg base CX0 3 A.f_Ratio___ge__ D.f_Ratio___ge__ ["self", "other"] (sp_cmp A.Ratio r_ge) := by
  have G__gap : FnOk P w K mg base CX0 1 A.f__gap D.f__gap ["one", "other"] (sp_gap A.Ratio) := ok__gap T
  have G_is_number : FnOk P w K mg base CX0 2 A.f_is_number D.f_is_number ["x"] (sp_isnum K A.Ratio) := ok_is_number T
  refine T.F_Ratio___ge__.ok sc_Ratio___ge__ (fun vs H Q E h => ?_) (fun cdv A' outer s H vs Q E hr h => ?_)
  · obtain ⟨x, y, a, b, rfl, _⟩ := h
    rfl
  · obtain ⟨x, y, a, b, rfl, hx, hy, ba, bb, q⟩ := h
    refine ⟨_, (pss_cons (ps_if (pt_not (pt_val (pe_call G_is_number (hr.mono (by decide)) rfl T.g_is_number T.F_is_number.kp T.b_is_number .nil pass0 (pa_cons (pv 1) pa_nil)))) (pss_one ps_never) pss_nil)
  (pss_one (ps_ret (pe_cmpR op_ge (pe_call G__gap (hr.mono (by decide)) rfl T.g__gap T.F__gap.kp T.b__gap .nil pass0 (pa_cons (pv 0) (pa_cons (pv 1) pa_nil))) pe_int (nomark _))))), ?_⟩
    refine ⟨_, rfl, _, rfl, .inl ⟨hy.kind, true, rfl, iteF ?_⟩⟩
    refine ⟨_, rfl, _, rfl, x, y, a, b, rfl, hx, hy, ba, bb, ?_⟩
    refine ⟨_, _, rfl, rfl, ?_⟩
    have e : decide (a.num * (b.den : Int) - b.num * (a.den : Int) ≥ 0) = r_ge a b := by
      rw [Bool.eq_iff_iff, decide_eq_true_iff, decide_eq_true_iff, gap_le']
    show Q (.bl (decide (a.num * (b.den : Int) - b.num * (a.den : Int) ≥ 0))) _
    rw [e]
    exact q
def sp_ratio_of (C : Addr) : Sp := fun vs H Q _ => ∃ x a, vs = [x] ∧ NumV C H x a ∧ ∀ H' v, Same H H' → RatV C H' v a → Q v H'
theorem one_div (i : Int) : (i : Rat) / ((1 : Int) : Rat) = (i : Rat) := div_eq (by decide) (by rw [Rat.intCast_one, Rat.mul_one])
theorem so : Sm 1 := .ab (by decide) (by decide)
theorem ok_ratio_of (T : Txt K mg A D) : FnOk P w K mg base CX0 4 A.f_ratio_of D.f_ratio_of ["number"] (sp_ratio_of A.Ratio) := by
  have G_Ratio_init : FnOk P w K mg base CX0 2 A.f_Ratio___init__ D.f_Ratio___init__ ["self", "top", "bottom"] (sp_init A.Ratio) := ok_Ratio___init__ T
  obtain ⟨ds1, d_Ratio_init1, b_Ratio_init1⟩ := T.b1_Ratio___init__
  refine T.F_ratio_of.ok sc_ratio_of (fun vs H Q E h => ?_) (fun cdv A' outer s H vs Q E hr h => ?_)
  · obtain ⟨x, a, rfl, _⟩ := h
    rfl
  · obtain ⟨x, a, rfl, hx, q⟩ := h
    refine ⟨_, (pss_cons (ps_if (pt_val (pe_callB call_isi rfl T.z_isinstance (by decide +kernel) (pa_cons (pv 0) (pa_cons (pe_glob (v := .ref A.Ratio) rfl T.g_Ratio rfl) pa_nil)))) (pss_one (ps_ret (pv 0))) pss_nil)
  (pss_one (ps_ret (pe_make T.M_Ratio G_Ratio_init (hr.mono (by decide)) rfl T.g_Ratio b_Ratio_init1 d_Ratio_init1 pass0 (pa_cons (pv 0) pa_nil))))), ?_⟩
    rcases hx with ⟨i, rfl, rfl⟩ | ⟨c, dy, rfl, hc⟩
    · refine ⟨_, rfl, .int i, .ref A.Ratio, _, _, false, rfl, .own _, .base (.int i), T.k_Ratio.ik, false, rfl, iteF ?_⟩
      exact ⟨_, rfl, fun x dx nx nd ne => rat_make (by decide) so nx nd ne fun G s r => q G _ s (r.to (one_div i))⟩
    · refine ⟨_, rfl, .ref c, .ref A.Ratio, _, _, true, rfl, .own _, T.k_Ratio.ty hc, kit_self, true, rfl, iteT ?_⟩
      exact ⟨_, rfl, q _ _ (Same.refl H) ⟨c, dy, rfl, hc⟩⟩
def sp_neg (C : Addr) : Sp := fun vs H Q _ => ∃ x a, vs = [x] ∧ RatV C H x a ∧ Bd 3900 3900 a ∧ ∀ H' v, Same H H' → RatV C H' v (-a) → Q v H'
theorem neg_q (x : Rat) : (-x) * ((x.den : Int) : Rat) = ((-x.num : Int) : Rat) := by
  rw [Rat.intCast_neg, num_is]
  grind
theorem ok_Ratio___neg__ (T : Txt K mg A D) : FnOk P w K mg base CX0 4 A.f_Ratio___neg__ D.f_Ratio___neg__ ["self"] (sp_neg A.Ratio) := by
  have G_Ratio_init : FnOk P w K mg base CX0 2 A.f_Ratio___init__ D.f_Ratio___init__ ["self", "top", "bottom"] (sp_init A.Ratio) := ok_Ratio___init__ T
  have b_Ratio_init2 := T.b_Ratio___init__
  have d_Ratio_init2 : Vals [] [] := .nil
  refine T.F_Ratio___neg__.ok sc_Ratio___neg__ (fun vs H Q E h => ?_) (fun cdv A' outer s H vs Q E hr h => ?_)
  · obtain ⟨x, a, rfl, _⟩ := h
    rfl
  · obtain ⟨x, a, rfl, ⟨p, dx, rfl, hp⟩, ba, q⟩ := h
    refine ⟨_, (pss_one (ps_ret (pe_make T.M_Ratio G_Ratio_init (hr.mono (by decide)) rfl T.g_Ratio b_Ratio_init2 d_Ratio_init2 pass0 (pa_cons (pe_un un_neg (pe_fld (pv 0) rfl)) (pa_cons (pe_fld (pv 0) rfl) pa_nil))))), ?_⟩
    have cl := T.k_Ratio.cl
    have d0 : (a.den : Int) ≠ 0 := by have := den_pos a; omega
    refine ⟨_, rfl, p, A.Ratio, dx, _, _, rfl, hp, cl, T.k_Ratio.n_top, rfl, _, rfl, ?_⟩
    refine ⟨_, rfl, p, A.Ratio, dx, _, _, rfl, hp, cl, T.k_Ratio.n_bottom, rfl, ?_⟩
    exact fun x dx nx nd ne => rat_make d0 (ba.s2 (by decide)) nx nd ne fun G s r => q G _ s (r.to (div_eq d0 (neg_q a)))
end

end Mo

namespace Mo
open PySem PySem.Spec PyProof.Rows L2 MoL MoW
open C8 (pss_cut tCut)
section
variable {P : Program} {w : World} {K : PySem.W.Frag} {mg : Str → Option Value} {base : Heap} {A : Ad} {D : Fd}
def sp_cell (K : PySem.W.Frag) : Sp := fun vs H Q _ => ∃ (a : Addr) (ns : List Int) (k : Nat), vs = [.ref a, .int (k : Int)] ∧ SqL K H a (ns.map V.int) ∧ ∀ i, Q (.int i) H
theorem ok__law_cell (T : Txt K mg A D) : FnOk P w K mg base CX0 1 A.f__law_cell D.f__law_cell ["_law_script", "_law_k"] (sp_cell K) := by
  skip
  refine T.F__law_cell.ok sc__law_cell (fun vs H Q E h => ?_) (fun cdv A' outer s H vs Q E hr h => ?_)
  · obtain ⟨a, ns, k, rfl, _⟩ := h
    rfl
  · obtain ⟨a, ns, k, rfl, hS, q⟩ := h
    refine ⟨_, (pss_cons (ps_if (pt_cmpR op_lt (pv 1) (pe_callB call_len_seq rfl T.z_len (by decide +kernel) (pa_cons (pv 0) pa_nil)) (nomark _)) (pss_one (ps_ret (pe_callTy call_int1 rfl T.z_int (by decide +kernel) (pa_cons (pe_ix ix_list (pv 0) (pv 1) (fun _ _ => rfl)) pa_nil)))) pss_nil)
  (pss_one (ps_ret pe_int))), ?_⟩
    refine ⟨_, rfl, _, rfl, a, _, rfl, .inl hS, _, _, rfl, rfl, _, rfl, ?_⟩
    refine ite2 (fun c => ?_) (fun c => q 0)
    have hk : k < ns.length := by
      have := of_decide_eq_true c
      rw [List.length_map] at this
      omega
    exact ⟨_, rfl, _, rfl, a, _, _, _, rfl, rfl, hS, (show atI (ns.map V.int) (k : Int) = some (V.int ns[k]) from atI_nat (by rw [List.getElem?_map, List.getElem?_eq_getElem hk]; rfl)), .inl ⟨_, rfl, q _⟩⟩
theorem lt_mod : (0 : Int) < 2147483647 := by decide
theorem lt_mod' : (0 : Int) < 2147483399 := by decide
/-- n digits below b -/
structure Digs (b : Int) (n : Nat) (ds : List Int) : Prop where
  len : ds.length = n
  all : ∀ k, k < n → 0 ≤ ds.getD k 0 ∧ ds.getD k 0 < b
def sp_draw : Sp := fun vs H Q _ => ∃ (c : Int) (m : Nat) (b : Int), vs = [.int c, .int (m : Int), .int b] ∧ m ≤ 1000 ∧ 0 < b ∧ Sm b ∧ ∀ (H' : Hp) (p : Addr) (ds : List Int), Same H H' → H p = none → H' p = some (.lst (ds.map V.int)) → Digs b m ds → Q (.ref p) H'
theorem ok__law_draw (T : Txt K mg A D) : FnOk P w K mg base CX0 1 A.f__law_draw D.f__law_draw ["_law_cell_here", "_law_many", "_law_base_here"] (sp_draw) := by
  skip
  refine T.F__law_draw.ok sc__law_draw (fun vs H Q E h => ?_) (fun cdv A' outer s H vs Q E hr h => ?_)
  · obtain ⟨c, m, b, rfl, _⟩ := h
    rfl
  · obtain ⟨c, m, b, rfl, hm, hb, sb, q⟩ := h
    refine ⟨_, (pss_cons (ps_set (i := 3) sc__law_draw.nd rfl (.inl rfl) (pe_lst pa_nil))
  (pss_cons (ps_set (i := 4) sc__law_draw.nd rfl (.inl rfl) pe_int)
  (pss_cut (ps_if (pt_cmpR op_ge (pv 0) (pe_op op_pow pe_int pe_int) (nomark _)) (pss_one (ps_set (i := 4) sc__law_draw.nd rfl (.inl rfl) (pv 0))) pss_nil)
  (pss_cons (ps_for PassesOwn.never rfl (pi_range1 rfl T.z_range (pa_cons (pv 1) pa_nil)) (pg_name (i := 5) sc__law_draw.nd rfl (.inl rfl)) (pss_one (ps_if (pt_cmpR op_gt (pv 4) pe_int (nomark _)) (pss_cons (ps_expr (pe_bm PySem.F.plainAttrs_list PySem.F.slot_list_append PySem.F.type_list_append mt_append (pv 3) (pa_cons (pe_op op_mod (pe_callTy call_int1 rfl T.z_int (by decide +kernel) (pa_cons (pv 4) pa_nil)) (pv 2)) pa_nil)))
  (pss_one (ps_set (i := 4) sc__law_draw.nd rfl (.inl rfl) (pe_op op_fdivA (pv 4) (pv 2))))) (pss_cons (ps_set (i := 6) sc__law_draw.nd rfl (.inl rfl) (pe_op op_mod (pe_callTy call_int1 rfl T.z_int (by decide +kernel) (pa_cons (pe_op op_mul (pe_op op_add (pe_op op_add (pv 0) (pe_op op_mul pe_int (pv 5))) pe_int) pe_int) pa_nil)) pe_int))
  (pss_cons (ps_set (i := 6) sc__law_draw.nd rfl (.inl rfl) (pe_op op_mod (pe_callTy call_int1 rfl T.z_int (by decide +kernel) (pa_cons (pe_op op_mul (pv 6) (pe_op op_add (pe_op op_fdivA (pv 6) pe_int) pe_int)) pa_nil)) pe_int))
  (pss_cons (ps_set (i := 6) sc__law_draw.nd rfl (.inl rfl) (pe_op op_mod (pe_callTy call_int1 rfl T.z_int (by decide +kernel) (pa_cons (pe_op op_mul (pv 6) (pe_op op_add (pe_op op_fdivA (pv 6) pe_int) pe_int)) pa_nil)) pe_int))
  (pss_one (ps_expr (pe_bm PySem.F.plainAttrs_list PySem.F.slot_list_append PySem.F.type_list_append mt_append (pv 3) (pa_cons (pe_op op_mod (pe_callTy call_int1 rfl T.z_int (by decide +kernel) (pa_cons (pv 6) pa_nil)) (pv 2)) pa_nil))))))))))
  (pss_one (ps_ret (pv 3))))))), ?_⟩
    refine ⟨by show 0 ≤ sizeLine; decide, fun p np => ⟨fun σ' H' => H' = upd H p (.lst []) ∧ ∃ r : Int, σ' = [some (.int c), some (.int (m : Int)), some (.int b), some (.ref p), some (.int r), none, none], ?_, ?_⟩⟩
    · refine ⟨_, rfl, _, _, rfl, rfl, ⟨by decide, by decide, by decide⟩, _, _, rfl, rfl, _, rfl, ?_⟩
      exact ite2 (fun _ => ⟨_, rfl, rfl, c, rfl⟩) (fun _ => ⟨rfl, 0, rfl⟩)
    rintro σ H1 ⟨rfl, r, rfl⟩
    refine ⟨_, rfl, _, rfl, by omega, by omega, ?_⟩
    rw [show ((m : Int)).toNat = m by omega]
    refine for_range (lo := 0) (n := m) (fun i σ H' => Same H H' ∧ (∃ ds : List Int, Digs b i ds ∧ H' p = some (.lst (ds.map V.int))) ∧ ∃ (r : Int) (y5 y6 : Option V), σ = [some (.int c), some (.int (m : Int)), some (.int b), some (.ref p), some (.int r), y5, y6])
      ⟨same_upd np, ⟨[], ⟨rfl, fun k h => absurd h (Nat.not_lt_zero _)⟩, upd_same⟩, r, _, _, rfl⟩ ?_ ?_
    · rintro i σ H1 hi ⟨s1, ⟨ds, hl, hp⟩, r, y5, y6, rfl⟩
      have put : ∀ z : Int, 0 ≤ z → z < b → Same H (upd H1 p (.lst (ds.map V.int ++ [.int z]))) ∧ ∃ es : List Int, Digs b (i + 1) es ∧ upd H1 p (.lst (ds.map V.int ++ [.int z])) p = some (.lst (es.map V.int)) := fun z z0 z1 => by
        refine ⟨fun a o e => ?_, ds ++ [z], ⟨by rw [List.length_append, hl.len]; rfl, fun k hk => ?_⟩, by rw [upd_same, List.map_append]; rfl⟩
        · rw [upd_ne (ne_of_none e np)]
          exact s1 _ _ e
        · have hl1 := hl.len
          rcases (by omega : k < i ∨ k = i) with h | h
          · have := hl.all k h
            rw [List.getD_eq_getElem?_getD, List.getElem?_append_left (by omega), ← List.getD_eq_getElem?_getD]
            exact this
          · subst h
            rw [List.getD_eq_getElem?_getD, List.getElem?_append_right (by omega), hl1, Nat.sub_self]
            exact ⟨z0, z1⟩
      have md : ∀ x : Int, 0 ≤ x % b ∧ x % b < b := fun x => ⟨Int.emod_nonneg _ (by omega), Int.emod_lt_of_pos _ hb⟩
      have sz : (ds.map V.int).length < sizeLine := by
        rw [List.length_map, hl.len]
        exact small1000 (by omega)
      refine ⟨_, rfl, _, _, rfl, rfl, _, rfl, ?_⟩
      refine ite2 (fun _ => ?_) (fun _ => ?_)
      · refine ⟨_, rfl, .inl ⟨rfl, _, .of hp⟩, _, rfl, .inl ⟨_, rfl, _, rfl, _, _, rfl, rfl, hb, p, _, _, rfl, rfl, hp, sz, ?_⟩⟩
        refine ⟨_, rfl, _, rfl, _, _, rfl, rfl, sb.div (by omega), ?_⟩
        have md := md r
        exact ⟨(put _ md.1 md.2).1, (put _ md.1 md.2).2, _, _, _, rfl⟩
      · refine ⟨_, rfl, _, rfl, _, _, rfl, rfl, .inl ⟨by decide, by omega⟩, _, _, rfl, rfl, _, _, rfl, rfl, _, _, rfl, rfl, .inr ⟨by decide, by decide⟩, .inl ⟨_, rfl, _, _, rfl, rfl, lt_mod, ?_⟩⟩
        have b1 : ∀ x : Int, 0 ≤ x % 2147483647 ∧ x % 2147483647 < 2147483647 := fun x => ⟨Int.emod_nonneg _ (by decide), Int.emod_lt_of_pos _ (by decide)⟩
        generalize hA : ((c + 7919 * (0 + (i : Int)) + 1) * 48271) % 2147483647 = a1
        have a1b := b1 ((c + 7919 * (0 + (i : Int)) + 1) * 48271)
        rw [hA] at a1b
        refine ⟨_, rfl, _, rfl, _, _, rfl, rfl, ⟨by decide, by decide⟩, _, _, rfl, rfl, _, _, rfl, rfl, .inl ⟨by omega, by omega⟩, .inl ⟨_, rfl, _, _, rfl, rfl, lt_mod, ?_⟩⟩
        generalize hB : (a1 * (a1.fdiv 1009 + 69621)) % 2147483647 = a2
        have a2b := b1 (a1 * (a1.fdiv 1009 + 69621))
        rw [hB] at a2b
        refine ⟨_, rfl, _, rfl, _, _, rfl, rfl, ⟨by decide, by decide⟩, _, _, rfl, rfl, _, _, rfl, rfl, .inl ⟨by omega, by omega⟩, .inl ⟨_, rfl, _, _, rfl, rfl, lt_mod', ?_⟩⟩
        refine ⟨_, rfl, .inl ⟨rfl, _, .of hp⟩, _, rfl, .inl ⟨_, rfl, _, rfl, _, _, rfl, rfl, hb, p, _, _, rfl, rfl, hp, sz, ?_⟩⟩
        exact ⟨(put _ (md _).1 (md _).2).1, (put _ (md _).1 (md _).2).2, _, _, _, rfl⟩
    · rintro σ H1 ⟨s1, ⟨ds, hl, hp⟩, r, y5, y6, rfl⟩
      exact ⟨_, rfl, q _ p ds s1 np hp hl⟩
/-! ### the scene that most laws of lots draw -/
structure Scene where
  shape : Int
  low : Int
  high : Int
  bottom : Int
  tops : List Int
  parts : List Int
  under : Int
def SceneAt (H : Hp) (v : V) (S : Scene) : Prop := ∃ t pt pw, v = .ref t ∧ H t = some (.tup [.int S.shape, .int S.low, .int S.high, .int S.bottom, .ref pt, .ref pw, .int S.under]) ∧ H pt = some (.lst (S.tops.map V.int)) ∧ H pw = some (.lst (S.parts.map V.int))
theorem SceneAt.same {H H' : Hp} {v : V} {S : Scene} (h : SceneAt H v S) (s : Same H H') : SceneAt H' v S := by
  obtain ⟨t, pt, pw, e, h1, h2, h3⟩ := h
  exact ⟨t, pt, pw, e, s _ _ h1, s _ _ h2, s _ _ h3⟩
structure SceneOk (m : Nat) (S : Scene) : Prop where
  sh0 : 0 ≤ S.shape
  sh1 : S.shape < 3
  b0 : 1 ≤ S.bottom
  b1 : S.bottom ≤ 1000
  l0 : S.low.natAbs ≤ 1000000
  h0 : S.low < S.high
  h1 : S.high ≤ S.low + 2000000
  len : S.parts.length = S.tops.length
  lm : S.tops.length ≤ m
  nd : S.tops.Nodup
  lo : ∀ t ∈ S.tops, S.low ≤ t
  hi : S.shape = 2 → ∀ t ∈ S.tops, t ≤ S.high
  tb : ∀ t ∈ S.tops, t ≤ S.low + 2000000
  p0 : ∀ p ∈ S.parts, 1 ≤ p
  p1 : ∀ p ∈ S.parts, p ≤ 1000000
  u0 : 1 ≤ S.under
  u1 : S.under ≤ 60
def sp_scene : Sp := fun vs H Q _ => ∃ (c : Int) (m : Nat), vs = [.int c, .int (m : Int)] ∧ m ≤ 20 ∧ ∀ H' v S, Same H H' → SceneAt H' v S → SceneOk m S → Q v H'
theorem digs_at {b : Int} {n : Nat} {ds : List Int} (h : Digs b n ds) {k : Nat} (hk : k < n) : atI (ds.map V.int) (k : Int) = some (.int (ds.getD k 0)) := by
  have hl := h.len
  refine atI_nat ?_
  rw [List.getElem?_map, List.getElem?_eq_getElem (show k < ds.length by omega), List.getD_eq_getElem?_getD, List.getElem?_eq_getElem (show k < ds.length by omega)]
  rfl
theorem sS {z : Int} (h : z.natAbs < 2 ^ 62) : Sm z := sm_of h (by decide)
theorem md {z n : Int} (h : 0 < n) : 0 ≤ z % n ∧ z % n < n := ⟨Int.emod_nonneg _ (by omega), Int.emod_lt_of_pos _ h⟩
theorem ok__law_scene (T : Txt K mg A D) : FnOk P w K mg base CX0 2 A.f__law_scene D.f__law_scene ["_law_cell_here", "_law_most"] (sp_scene) := by
  have G__law_draw : FnOk P w K mg base CX0 1 A.f__law_draw D.f__law_draw ["_law_cell_here", "_law_many", "_law_base_here"] (sp_draw) := ok__law_draw T
  refine T.F__law_scene.ok sc__law_scene (fun vs H Q E h => ?_) (fun cdv A' outer s H vs Q E hr h => ?_)
  · obtain ⟨c, m, rfl, _⟩ := h
    rfl
  · obtain ⟨c, m, rfl, hm, q⟩ := h
    refine ⟨_, (pss_cons (ps_set (i := 2) sc__law_scene.nd rfl (.inl rfl) (pe_call G__law_draw (hr.mono (by decide)) rfl T.g__law_draw T.F__law_draw.kp T.b__law_draw .nil pass0 (pa_cons (pv 0) (pa_cons (pe_op op_add pe_int (pe_op op_mulW pe_int (pv 1))) (pa_cons (pe_op op_pow pe_int pe_int) pa_nil)))))
  (pss_cons (ps_set (i := 3) sc__law_scene.nd rfl (.inl rfl) (pe_ix ix_list (pe_lst (pa_cons pe_int (pa_cons pe_int (pa_cons (pe_op op_pow pe_int pe_int) pa_nil)))) (pe_op op_mod (pe_callTy call_int1 rfl T.z_int (by decide +kernel) (pa_cons (pe_ix ix_list (pv 2) pe_int (fun _ _ => rfl)) pa_nil)) pe_int) (fun _ _ => rfl)))
  (pss_cons (ps_set (i := 4) sc__law_scene.nd rfl (.inl rfl) (pe_op op_add pe_int (pe_op op_mod (pe_callTy call_int1 rfl T.z_int (by decide +kernel) (pa_cons (pe_ix ix_list (pv 2) pe_int (fun _ _ => rfl)) pa_nil)) (pe_ix ix_list (pe_lst (pa_cons pe_int (pa_cons pe_int (pa_cons pe_int pa_nil)))) (pe_op op_mod (pe_callTy call_int1 rfl T.z_int (by decide +kernel) (pa_cons (pe_ix ix_list (pv 2) pe_int (fun _ _ => rfl)) pa_nil)) pe_int) (fun _ _ => rfl)))))
  (pss_cons (ps_set (i := 5) sc__law_scene.nd rfl (.inl rfl) (pe_op op_sub (pe_op op_mod (pe_callTy call_int1 rfl T.z_int (by decide +kernel) (pa_cons (pe_ix ix_list (pv 2) pe_int (fun _ _ => rfl)) pa_nil)) (pe_op op_add (pe_op op_mulW pe_int (pv 3)) pe_int)) (pv 3)))
  (pss_cons (ps_set (i := 6) sc__law_scene.nd rfl (.inl rfl) (pe_op op_add (pe_op op_add (pv 5) pe_int) (pe_op op_mod (pe_callTy call_int1 rfl T.z_int (by decide +kernel) (pa_cons (pe_ix ix_list (pv 2) pe_int (fun _ _ => rfl)) pa_nil)) (pe_op op_mulW pe_int (pv 3)))))
  (pss_cons (ps_set (i := 7) sc__law_scene.nd rfl (.inl rfl) (pe_op op_mod (pe_callTy call_int1 rfl T.z_int (by decide +kernel) (pa_cons (pe_ix ix_list (pv 2) pe_int (fun _ _ => rfl)) pa_nil)) pe_int))
  (pss_cons (ps_set (i := 8) sc__law_scene.nd rfl (.inl rfl) (pe_lst pa_nil))
  (pss_cons (ps_set (i := 9) sc__law_scene.nd rfl (.inl rfl) (pe_lst pa_nil))
  (pss_cons (ps_for PassesOwn.never rfl (pi_range1 rfl T.z_range (pa_cons (pe_op op_mod (pe_callTy call_int1 rfl T.z_int (by decide +kernel) (pa_cons (pe_ix ix_list (pv 2) pe_int (fun _ _ => rfl)) pa_nil)) (pe_op op_add (pv 1) pe_int)) pa_nil)) (pg_name (i := 10) sc__law_scene.nd rfl (.inl rfl)) (pss_cons (ps_set (i := 11) sc__law_scene.nd rfl (.inl rfl) (pe_op op_add (pv 5) (pe_op op_mod (pe_callTy call_int1 rfl T.z_int (by decide +kernel) (pa_cons (pe_ix ix_list (pv 2) (pe_op op_add pe_int (pe_op op_mulW pe_int (pv 10))) (fun _ _ => rfl)) pa_nil)) (pe_op op_add (pe_op op_mulW pe_int (pv 3)) pe_int))))
  (pss_cut (ps_if (pt_cmpR op_eq (pv 7) pe_int (nomark _)) (pss_one (ps_set (i := 11) sc__law_scene.nd rfl (.inl rfl) (pe_op op_add (pv 5) (pe_op op_mod (pe_callTy call_int1 rfl T.z_int (by decide +kernel) (pa_cons (pe_ix ix_list (pv 2) (pe_op op_add pe_int (pe_op op_mulW pe_int (pv 10))) (fun _ _ => rfl)) pa_nil)) (pe_op op_add (pe_op op_sub (pv 6) (pv 5)) pe_int))))) pss_nil)
  (pss_cut (ps_if (pt_cmpR op_eq (pe_op op_mod (pe_callTy call_int1 rfl T.z_int (by decide +kernel) (pa_cons (pe_ix ix_list (pv 2) (pe_op op_add pe_int (pe_op op_mulW pe_int (pv 10))) (fun _ _ => rfl)) pa_nil)) pe_int) pe_int (nomark _)) (pss_one (ps_set (i := 11) sc__law_scene.nd rfl (.inl rfl) (pv 5))) pss_nil)
  (pss_cut (ps_if (pt_cmpR op_eq (pe_op op_mod (pe_callTy call_int1 rfl T.z_int (by decide +kernel) (pa_cons (pe_ix ix_list (pv 2) (pe_op op_add pe_int (pe_op op_mulW pe_int (pv 10))) (fun _ _ => rfl)) pa_nil)) pe_int) pe_int (nomark _)) (pss_one (ps_set (i := 11) sc__law_scene.nd rfl (.inl rfl) (pv 6))) pss_nil)
  (pss_one (ps_if (pt_cmpR op_notIn_seq (pv 11) (pv 8) (by with_unfolding_all rfl)) (pss_cons (ps_expr (pe_bm PySem.F.plainAttrs_list PySem.F.slot_list_append PySem.F.type_list_append mt_append (pv 8) (pa_cons (pv 11) pa_nil)))
  (pss_one (ps_expr (pe_bm PySem.F.plainAttrs_list PySem.F.slot_list_append PySem.F.type_list_append mt_append (pv 9) (pa_cons (pe_op op_add pe_int (pe_op op_mod (pe_callTy call_int1 rfl T.z_int (by decide +kernel) (pa_cons (pe_ix ix_list (pv 2) (pe_op op_add pe_int (pe_op op_mulW pe_int (pv 10))) (fun _ _ => rfl)) pa_nil)) (pe_ix ix_list (pe_lst (pa_cons pe_int (pa_cons (pe_op op_pow pe_int pe_int) pa_nil))) (pe_op op_mod (pe_op op_fdivA (pe_callTy call_int1 rfl T.z_int (by decide +kernel) (pa_cons (pe_ix ix_list (pv 2) (pe_op op_add pe_int (pe_op op_mulW pe_int (pv 10))) (fun _ _ => rfl)) pa_nil)) pe_int) pe_int) (fun _ _ => rfl)))) pa_nil))))) pss_nil)))))))
  (pss_one (ps_ret (pe_tup (pa_cons (pv 7) (pa_cons (pv 5) (pa_cons (pv 6) (pa_cons (pv 4) (pa_cons (pv 8) (pa_cons (pv 9) (pa_cons (pe_op op_add pe_int (pe_op op_mod (pe_callTy call_int1 rfl T.z_int (by decide +kernel) (pa_cons (pe_ix ix_list (pv 2) pe_int (fun _ _ => rfl)) pa_nil)) pe_int)) pa_nil))))))))))))))))))), ?_⟩
    have smm : Sm (m : Int) := sS (by omega)
    have c3 : ∀ (k : Nat) {σ : L2.St} {H : Hp} (R : VK), R (.int (k : Int)) H → tC (.int (k : Int)) σ H R := fun _ _ _ _ r => r
    refine ⟨_, rfl, _, rfl, _, _, rfl, rfl, (sS (by decide)).mul smm, _, _, rfl, rfl, _, _, rfl, rfl, ⟨by decide, by decide, by decide⟩, c, 8 + 3 * m, 10 ^ 12, rfl, by omega, by decide, .ab (by decide) (by decide), fun H1 p ds k1 np hp hd => ?_⟩
    -- wide
    refine ⟨_, _, rfl, rfl, ⟨by decide, by decide, by decide⟩, by show 3 ≤ sizeLine; decide, fun l2 n2 => ?_⟩
    have j2 := same_upd (o := .lst [V.int 3, .int 12, .int (10 ^ (6 : Int).toNat)]) n2
    have h2 : upd H1 l2 (.lst [V.int 3, .int 12, .int (10 ^ (6 : Int).toNat)]) l2 = some (.lst [V.int 3, .int 12, .int (10 ^ (6 : Int).toNat)]) := upd_same
    generalize upd H1 l2 (.lst [V.int 3, .int 12, .int (10 ^ (6 : Int).toNat)]) = H2 at j2 h2
    have hp2 := j2 _ _ hp
    refine ⟨_, rfl, p, _, _, _, rfl, rfl, .of hp2, digs_at hd (k := 1) (by omega), .inl ⟨_, rfl, _, _, rfl, rfl, (show (0 : Int) < 3 by decide), ?_⟩⟩
    obtain ⟨wd, hwd, w0, w1⟩ : ∃ wd : Int, atI [V.int 3, .int 12, .int (10 ^ (6 : Int).toNat)] (ds.getD 1 0 % 3) = some (.int wd) ∧ 0 < wd ∧ wd ≤ 1000000 := by
      have := md (z := ds.getD 1 0) (n := 3) (by decide)
      rcases (by omega : ds.getD 1 0 % 3 = 0 ∨ ds.getD 1 0 % 3 = 1 ∨ ds.getD 1 0 % 3 = 2) with e | e | e <;> rw [e]
      · exact ⟨_, rfl, by decide, by decide⟩
      · exact ⟨_, rfl, by decide, by decide⟩
      · exact ⟨_, rfl, by decide, by decide⟩
    refine ⟨l2, _, _, _, rfl, rfl, .of h2, hwd, ?_⟩
    -- bottom
    refine ⟨_, rfl, p, _, _, _, rfl, rfl, .of hp2, digs_at hd (k := 2) (by omega), .inl ⟨_, rfl, by show 3 ≤ sizeLine; decide, fun l3 n3 => ?_⟩⟩
    have j3 := same_upd (o := .lst [V.int 1, .int 6, .int 1000]) n3
    have h3 : upd H2 l3 (.lst [V.int 1, .int 6, .int 1000]) l3 = some (.lst [V.int 1, .int 6, .int 1000]) := upd_same
    generalize upd H2 l3 (.lst [V.int 1, .int 6, .int 1000]) = H3 at j3 h3
    have hp3 := j3 _ _ hp2
    refine ⟨_, rfl, p, _, _, _, rfl, rfl, .of hp3, digs_at hd (k := 3) (by omega), .inl ⟨_, rfl, _, _, rfl, rfl, (show (0 : Int) < 3 by decide), ?_⟩⟩
    obtain ⟨bm, hbm, b0, b1⟩ : ∃ bm : Int, atI [V.int 1, .int 6, .int 1000] (ds.getD 3 0 % 3) = some (.int bm) ∧ 0 < bm ∧ bm ≤ 1000 := by
      have := md (z := ds.getD 3 0) (n := 3) (by decide)
      rcases (by omega : ds.getD 3 0 % 3 = 0 ∨ ds.getD 3 0 % 3 = 1 ∨ ds.getD 3 0 % 3 = 2) with e | e | e <;> rw [e]
      · exact ⟨_, rfl, by decide, by decide⟩
      · exact ⟨_, rfl, by decide, by decide⟩
      · exact ⟨_, rfl, by decide, by decide⟩
    refine ⟨l3, _, _, _, rfl, rfl, .of h3, hbm, _, _, rfl, rfl, b0, _, _, rfl, rfl, ?_⟩
    have k3 := (k1.trans j2).trans j3
    have mb := md (z := ds.getD 2 0) b0
    -- low
    refine ⟨_, rfl, p, _, _, _, rfl, rfl, .of hp3, digs_at hd (k := 4) (by omega), .inl ⟨_, rfl, _, rfl, _, _, rfl, rfl, (sS (by decide)).mul (sS (by omega)), _, _, rfl, rfl, _, _, rfl, rfl, (show (0 : Int) < 2 * wd + 1 by omega), _, rfl, _, _, rfl, rfl, ?_⟩⟩
    have ml := md (z := ds.getD 4 0) (show (0 : Int) < 2 * wd + 1 by omega)
    -- high
    refine ⟨_, rfl, _, _, rfl, rfl, _, rfl, p, _, _, _, rfl, rfl, .of hp3, digs_at hd (k := 5) (by omega), .inl ⟨_, rfl, _, rfl, _, _, rfl, rfl, (sS (by decide)).mul (sS (by omega)), _, _, rfl, rfl, (show (0 : Int) < 2 * wd by omega), _, _, rfl, rfl, ?_⟩⟩
    have mh := md (z := ds.getD 5 0) (show (0 : Int) < 2 * wd by omega)
    -- shape
    refine ⟨_, rfl, p, _, _, _, rfl, rfl, .of hp3, digs_at hd (k := 0) (by omega), .inl ⟨_, rfl, _, _, rfl, rfl, (show (0 : Int) < 3 by decide), ?_⟩⟩
    have ms := md (z := ds.getD 0 0) (n := 3) (by decide)
    obtain ⟨low, elow⟩ : ∃ low : Int, low = ds.getD 4 0 % (2 * wd + 1) - wd := ⟨_, rfl⟩
    obtain ⟨high, ehigh⟩ : ∃ high : Int, high = low + 1 + ds.getD 5 0 % (2 * wd) := ⟨_, rfl⟩
    obtain ⟨sh, esh⟩ : ∃ sh : Int, sh = ds.getD 0 0 % 3 := ⟨_, rfl⟩
    obtain ⟨bot, ebot⟩ : ∃ bot : Int, bot = 1 + ds.getD 2 0 % bm := ⟨_, rfl⟩
    have k3 := (k1.trans j2).trans j3
    refine ⟨by show 0 ≤ sizeLine; decide, fun pt npt => ⟨by show 0 ≤ sizeLine; decide, fun pw npw => ?_⟩⟩
    have tw : pt ≠ pw := fun z => by rw [← z, upd_same] at npw; cases npw
    have npw3 : H3 pw = none := by rw [upd_ne (Ne.symm tw)] at npw; exact npw
    have sA := (same_upd (o := .lst []) npt).trans (same_upd (o := .lst []) npw)
    have hA : upd (upd H3 pt (.lst [])) pw (.lst []) pt = some (.lst []) := by rw [upd_ne tw, upd_same]
    have hW : upd (upd H3 pt (.lst [])) pw (.lst []) pw = some (.lst []) := upd_same
    have mn := md (z := ds.getD 6 0) (n := (m : Int) + 1) (by omega)
    refine ⟨_, rfl, p, _, _, _, rfl, rfl, .of (sA _ _ hp3), digs_at hd (k := 6) (by omega), .inl ⟨_, rfl, _, rfl, _, _, rfl, rfl, _, _, rfl, rfl, (show (0 : Int) < (m : Int) + 1 by omega), _, rfl, by omega, by omega, ?_⟩⟩
    refine for_range (lo := 0) (fun i σ G => Same H3 G ∧ ∃ (ts ps : List Int) (y10 y11 : Option V), σ = [some (.int c), some (.int (m : Int)), some (.ref p), some (.int wd), some (.int bot), some (.int low), some (.int high), some (.int sh), some (.ref pt), some (.ref pw), y10, y11] ∧ G pt = some (.lst (ts.map V.int)) ∧ G pw = some (.lst (ps.map V.int)) ∧ ps.length = ts.length ∧ ts.length ≤ i ∧ ts.Nodup ∧ (∀ t ∈ ts, low ≤ t) ∧ (sh = 2 → ∀ t ∈ ts, t ≤ high) ∧ (∀ t ∈ ts, t ≤ low + 2000000) ∧ (∀ z ∈ ps, 1 ≤ z) ∧ ∀ z ∈ ps, z ≤ 1000000)
      ⟨sA, [], [], _, _, by rw [ehigh, elow, esh, ebot]; rfl, hA, hW, rfl, Nat.le_refl _, List.nodup_nil, (fun t h => by cases h), (fun _ t h => by cases h), (fun t h => by cases h), (fun t h => by cases h), (fun t h => by cases h)⟩ ?_ ?_
    · rintro i σ G hi ⟨sG, ts, ps, y10, y11, rfl, gt, gw, ll, li, nd, lo, hiT, tb, p0, p1⟩
      have hpG := sG _ _ hp3
      have ix : i < m := by omega
      have at8 : ∀ j : Nat, j < 3 → atI (ds.map V.int) (((8 + j : Nat) : Int) + 3 * (0 + (i : Int))) = some (.int (ds.getD (8 + j + 3 * i) 0)) := fun j hj => by
        rw [show ((8 + j : Nat) : Int) + 3 * (0 + (i : Int)) = ((8 + j + 3 * i : Nat) : Int) by omega]
        exact digs_at hd (by omega)
      have s3 : Sm (0 + (i : Int)) := sS (by omega)
      have m1 := md (z := ds.getD (8 + 0 + 3 * i) 0) (show (0 : Int) < 2 * wd + 1 by omega)
      refine ⟨_, rfl, _, rfl, _, rfl, _, _, rfl, rfl, (sS (by decide)).mul s3, _, _, rfl, rfl, p, _, _, _, rfl, rfl, .of hpG, at8 0 (by decide), .inl ⟨_, rfl, _, rfl, _, _, rfl, rfl, (sS (by decide)).mul (sS (by omega)), _, _, rfl, rfl, _, _, rfl, rfl, (show (0 : Int) < 2 * wd + 1 by omega), _, _, rfl, rfl, ?_⟩⟩
      -- in a segment
      refine ⟨fun σ G' => G' = G ∧ ∃ top : Int, σ = [some (.int c), some (.int (m : Int)), some (.ref p), some (.int wd), some (.int bot), some (.int low), some (.int high), some (.int sh), some (.ref pt), some (.ref pw), some (.int (0 + (i : Int))), some (.int top)] ∧ low ≤ top ∧ top ≤ low + 2000000 ∧ (sh = 2 → top ≤ high), ?_, ?_⟩
      · refine ⟨_, rfl, rfl, _, rfl, ite2 (fun cc => ?_) (fun cc => ?_)⟩
        · have m2 := md (z := ds.getD (8 + 0 + 3 * i) 0) (show (0 : Int) < high - low + 1 by omega)
          refine ⟨_, rfl, _, rfl, _, rfl, _, _, rfl, rfl, (sS (by decide)).mul s3, _, _, rfl, rfl, p, _, _, _, rfl, rfl, .of hpG, at8 0 (by decide), .inl ⟨_, rfl, _, rfl, _, rfl, _, _, rfl, rfl, _, _, rfl, rfl, _, _, rfl, rfl, (show (0 : Int) < high - low + 1 by omega), _, _, rfl, rfl, ?_⟩⟩
          exact ⟨rfl, _, rfl, by omega, by omega, fun _ => by omega⟩
        · refine ⟨rfl, _, rfl, by omega, by omega, fun e => ?_⟩
          exact absurd (decide_eq_true (congrArg V.int e)) cc
      rintro σ G' ⟨rfl, top, rfl, t0, t1, t2⟩
      -- at the low end
      refine ⟨fun σ G2 => G2 = G' ∧ ∃ top : Int, σ = [some (.int c), some (.int (m : Int)), some (.ref p), some (.int wd), some (.int bot), some (.int low), some (.int high), some (.int sh), some (.ref pt), some (.ref pw), some (.int (0 + (i : Int))), some (.int top)] ∧ low ≤ top ∧ top ≤ low + 2000000 ∧ (sh = 2 → top ≤ high), ?_, ?_⟩
      · refine ⟨_, rfl, _, rfl, _, _, rfl, rfl, (sS (by decide)).mul s3, _, _, rfl, rfl, p, _, _, _, rfl, rfl, .of hpG, at8 1 (by decide), .inl ⟨_, rfl, _, _, rfl, rfl, (show (0 : Int) < 6 by decide), rfl, _, rfl, ite2 (fun cc => ?_) (fun cc => ?_)⟩⟩
        · exact ⟨_, rfl, rfl, _, rfl, by omega, by omega, fun _ => by omega⟩
        · exact ⟨rfl, _, rfl, t0, t1, t2⟩
      clear t0 t1 t2 top
      rintro σ G2 ⟨rfl, top, rfl, t0, t1, t2⟩
      -- at the high end
      refine ⟨fun σ G3 => G3 = G2 ∧ ∃ top : Int, σ = [some (.int c), some (.int (m : Int)), some (.ref p), some (.int wd), some (.int bot), some (.int low), some (.int high), some (.int sh), some (.ref pt), some (.ref pw), some (.int (0 + (i : Int))), some (.int top)] ∧ low ≤ top ∧ top ≤ low + 2000000 ∧ (sh = 2 → top ≤ high), ?_, ?_⟩
      · refine ⟨_, rfl, _, rfl, _, _, rfl, rfl, (sS (by decide)).mul s3, _, _, rfl, rfl, p, _, _, _, rfl, rfl, .of hpG, at8 1 (by decide), .inl ⟨_, rfl, _, _, rfl, rfl, (show (0 : Int) < 6 by decide), rfl, _, rfl, ite2 (fun cc => ?_) (fun cc => ?_)⟩⟩
        · exact ⟨_, rfl, rfl, _, rfl, by omega, by omega, fun _ => Int.le_refl _⟩
        · exact ⟨rfl, _, rfl, t0, t1, t2⟩
      clear t0 t1 t2 top
      rintro σ G3 ⟨rfl, top, rfl, t0, t1, t2⟩
      -- a new one
      have nin : inV (.int top) (ts.map V.int) = decide (top ∈ ts) := by
        unfold inV
        rw [Bool.eq_iff_iff, List.any_eq_true, decide_eq_true_iff]
        constructor
        · rintro ⟨v, hv, e⟩
          obtain ⟨z, hz, rfl⟩ := List.mem_map.mp hv
          have : (z == top) = true := e
          exact beq_iff_eq.mp this ▸ hz
        · intro h
          exact ⟨_, List.mem_map.mpr ⟨top, h, rfl⟩, by show (top == top) = true; exact beq_self_eq_true top⟩
      have flat : (ts.map V.int).all flatV = true := by
        rw [List.all_eq_true]
        intro v hv
        obtain ⟨z, _, rfl⟩ := List.mem_map.mp hv
        rfl
      refine ⟨_, rfl, _, rfl, pt, _, rfl, .inl (.of gt), rfl, flat, _, rfl, ?_⟩
      rw [nin, if_pos rfl]
      refine ite2 (fun cc => ?_) (fun _ => ⟨sG, ts, ps, _, _, rfl, gt, gw, ll, by omega, nd, lo, hiT, tb, p0, p1⟩)
      have nt : top ∉ ts := fun h => by
        rw [decide_eq_true h] at cc
        cases cc
      refine ⟨_, rfl, .inl ⟨rfl, _, .of gt⟩, _, rfl, pt, _, _, rfl, rfl, gt, by rw [List.length_map]; exact small1000 (by omega), ?_⟩
      have sU : Same H3 (upd G3 pt (.lst (ts.map V.int ++ [V.int top]))) := fun a o ha => by
        rw [upd_ne (fun z => by rw [z, npt] at ha; cases ha)]
        exact sG _ _ ha
      have uT : upd G3 pt (.lst (ts.map V.int ++ [V.int top])) pt = some (.lst (ts.map V.int ++ [V.int top])) := upd_same
      have uW : upd G3 pt (.lst (ts.map V.int ++ [V.int top])) pw = some (.lst (ps.map V.int)) := by rw [upd_ne (Ne.symm tw)]; exact gw
      generalize upd G3 pt (.lst (ts.map V.int ++ [V.int top])) = G4 at sU uT uW
      refine ⟨_, rfl, .inl ⟨rfl, _, .of uW⟩, _, rfl, _, rfl, _, _, rfl, rfl, (sS (by decide)).mul s3, _, _, rfl, rfl, p, _, _, _, rfl, rfl, .of (sU _ _ hp3), at8 2 (by decide), .inl ⟨_, rfl, _, _, rfl, rfl, ⟨by decide, by decide, by decide⟩, by show 2 ≤ sizeLine; decide, fun l5 n5 => ?_⟩⟩
      have j5 := same_upd (o := .lst [V.int 4, .int (10 ^ (6 : Int).toNat)]) n5
      have h5 : upd G4 l5 (.lst [V.int 4, .int (10 ^ (6 : Int).toNat)]) l5 = some (.lst [V.int 4, .int (10 ^ (6 : Int).toNat)]) := upd_same
      generalize upd G4 l5 (.lst [V.int 4, .int (10 ^ (6 : Int).toNat)]) = G5 at j5 h5
      refine ⟨_, rfl, _, rfl, _, _, rfl, rfl, (sS (by decide)).mul s3, _, _, rfl, rfl, p, _, _, _, rfl, rfl, .of (j5 _ _ (sU _ _ hp3)), at8 1 (by decide), .inl ⟨_, rfl, _, _, rfl, rfl, ⟨by decide, by decide⟩, _, _, rfl, rfl, (show (0 : Int) < 2 by decide), ?_⟩⟩
      obtain ⟨pm, hpm, q0, q1⟩ : ∃ pm : Int, atI [V.int 4, .int (10 ^ (6 : Int).toNat)] ((ds.getD (8 + 1 + 3 * i) 0).fdiv 6 % 2) = some (.int pm) ∧ 0 < pm ∧ pm ≤ 1000000 := by
        have := md (z := (ds.getD (8 + 1 + 3 * i) 0).fdiv 6) (n := 2) (by decide)
        rcases (by omega : (ds.getD (8 + 1 + 3 * i) 0).fdiv 6 % 2 = 0 ∨ (ds.getD (8 + 1 + 3 * i) 0).fdiv 6 % 2 = 1) with e | e <;> rw [e]
        · exact ⟨_, rfl, by decide, by decide⟩
        · exact ⟨_, rfl, by decide, by decide⟩
      have m3 := md (z := ds.getD (8 + 2 + 3 * i) 0) q0
      refine ⟨l5, _, _, _, rfl, rfl, .of h5, hpm, _, _, rfl, rfl, q0, _, _, rfl, rfl, pw, _, _, rfl, rfl, j5 _ _ uW, by rw [List.length_map]; exact small1000 (by omega), ?_⟩
      refine ⟨fun a o ha => ?_, ts ++ [top], ps ++ [1 + ds.getD (8 + 2 + 3 * i) 0 % pm], _, _, rfl, ?_, ?_, ?_, ?_, ?_, ?_, ?_, ?_, ?_, ?_⟩
      · rw [upd_ne (fun z => by rw [z, npw3] at ha; cases ha)]
        exact j5 _ _ (sU _ _ ha)
      · rw [upd_ne tw, j5 _ _ uT, List.map_append]
        rfl
      · rw [upd_same, List.map_append]
        rfl
      · rw [List.length_append, List.length_append, ll]
        rfl
      · rw [List.length_append]
        show ts.length + 1 ≤ i + 1
        omega
      · exact List.nodup_append.mpr ⟨nd, List.pairwise_singleton _ _, fun a ha b hb e => nt (by rw [List.mem_singleton] at hb; rw [← hb, ← e]; exact ha)⟩
      · intro t h
        rcases List.mem_append.mp h with h | h
        · exact lo t h
        · rw [List.mem_singleton.mp h]; exact t0
      · intro e t h
        rcases List.mem_append.mp h with h | h
        · exact hiT e t h
        · rw [List.mem_singleton.mp h]; exact t2 e
      · intro t h
        rcases List.mem_append.mp h with h | h
        · exact tb t h
        · rw [List.mem_singleton.mp h]; exact t1
      · intro t h
        rcases List.mem_append.mp h with h | h
        · exact p0 t h
        · rw [List.mem_singleton.mp h]; omega
      · intro t h
        rcases List.mem_append.mp h with h | h
        · exact p1 t h
        · rw [List.mem_singleton.mp h]; omega
    · rintro σ G ⟨sG, ts, ps, y10, y11, rfl, gt, gw, ll, li, nd, lo, hiT, tb, p0, p1⟩
      refine ⟨_, rfl, _, rfl, _, rfl, _, rfl, _, rfl, _, rfl, _, rfl, p, _, _, _, rfl, rfl, .of (sG _ _ hp3), digs_at hd (k := 7) (by omega), .inl ⟨_, rfl, _, _, rfl, rfl, (show (0 : Int) < 60 by decide), _, _, rfl, rfl, by show 7 ≤ sizeLine; decide, fun rt nrt => ?_⟩⟩
      have mu := md (z := ds.getD 7 0) (n := 60) (by decide)
      have sR := same_upd (o := .tup [V.int sh, .int low, .int high, .int bot, .ref pt, .ref pw, .int (1 + ds.getD 7 0 % 60)]) nrt
      refine q _ (.ref rt) ⟨sh, low, high, bot, ts, ps, 1 + ds.getD 7 0 % 60⟩ (k3.trans (sG.trans sR)) ⟨rt, pt, pw, rfl, upd_same, sR _ _ gt, sR _ _ gw⟩ ?_
      exact { sh0 := by show 0 ≤ sh; omega, sh1 := by show sh < 3; omega, b0 := by show 1 ≤ bot; omega, b1 := by show bot ≤ 1000; omega, l0 := by show low.natAbs ≤ 1000000; omega, h0 := by show low < high; omega, h1 := by show high ≤ low + 2000000; omega, len := ll, lm := by show ts.length ≤ m; omega, nd := nd, lo := lo, hi := hiT, tb := tb, p0 := p0, p1 := p1, u0 := by show 1 ≤ 1 + ds.getD 7 0 % 60; omega, u1 := by show 1 + ds.getD 7 0 % 60 ≤ 60; omega }
end

end Mo

namespace Mo
open PySem PySem.Spec PyProof.Rows L2 MoL MoW
open C8 (pss_cut tCut)
section
variable {P : Program} {w : World} {K : PySem.W.Frag} {mg : Str → Option Value} {base : Heap} {A : Ad} {D : Fd}
theorem npow {i : Int} {e : Nat} (h : i.natAbs < 2 ^ e) (k : Nat) : (i ^ k).natAbs < 2 ^ (e * k + 1) := by
  rw [Int.natAbs_pow]
  have : i.natAbs ^ k ≤ (2 ^ e) ^ k := Nat.pow_le_pow_left (Nat.le_of_lt h) k
  rw [← Nat.pow_mul] at this
  exact Nat.lt_of_le_of_lt this (Nat.pow_lt_pow_right (by decide) (by omega))
theorem take_map_push {xs : List Int} {j : Nat} {x : Int} (h : xs[j]? = some x) : (xs.take j).map V.int ++ [V.int x] = (xs.take (j + 1)).map V.int := by
  have hj := (List.getElem?_eq_some_iff.mp h).1
  rw [List.take_add_one, h, List.map_append]
  rfl
theorem int_at {xs : List Int} {j : Nat} (h : j < xs.length) : (xs.map V.int)[j]? = some (V.int (xs.getD j 0)) := by
  rw [List.getElem?_map, MoL.getD_at h]
  rfl
/-- the row of the points ts / b with the weights ps / u, as the law computes it -/
def rowT (ts ps : List Int) (u b : Int) (k : Nat) : Int × Int := ((powl ts ps k).sum, u * b ^ k)
def sp_lrow : Sp := fun vs H Q _ => ∃ (ta pa : Addr) (ts ps : List Int) (u b : Int) (n e g : Nat), vs = [.ref ta, .ref pa, .int u, .int b, .int (n : Int)] ∧ H ta = some (.lst (ts.map V.int)) ∧ H pa = some (.lst (ps.map V.int)) ∧ ts.length = ps.length ∧ ts.length ≤ 8 ∧ n ≤ 20 ∧
  (∀ k, (ts.getD k 0).natAbs < 2 ^ e) ∧ (∀ k, (ps.getD k 0).natAbs < 2 ^ g) ∧ u.natAbs < 2 ^ g ∧ b.natAbs < 2 ^ e ∧ e * n + g + e + 9 ≤ 3990 ∧ ∀ H' v, Same H H' → TupsAt H' v n (rowT ts ps u b) → Q v H'
theorem ok__law_row (T : Txt K mg A D) : FnOk P w K mg base CX0 1 A.f__law_row D.f__law_row ["_law_tops", "_law_parts", "_law_under", "_law_bottom", "_law_size"] (sp_lrow) := by
  skip
  refine T.F__law_row.ok sc__law_row (fun vs H Q E h => ?_) (fun cdv A' outer s H vs Q E hr h => ?_)
  · obtain ⟨ta, pa, ts, ps, u, b, n, e, g, rfl, _⟩ := h
    rfl
  · obtain ⟨ta, pa, ts, ps, u, b, n, e, g, rfl, hta, hpa, hl, hl8, hn, ht, hp, hu, hb, hs, q⟩ := h
    refine ⟨_, (pss_cons (ps_set (i := 5) sc__law_row.nd rfl (.inl rfl) (pe_lst pa_nil))
  (pss_cons (ps_set (i := 6) sc__law_row.nd rfl (.inr rfl) (pe_callTy call_list_of rfl T.z_list (by decide +kernel) (pa_cons (pv 1) pa_nil)))
  (pss_cons (ps_set (i := 7) sc__law_row.nd rfl (.inl rfl) (pv 2))
  (pss_cons (ps_for PassesOwn.never rfl (pi_range1 rfl T.z_range (pa_cons (pv 4) pa_nil)) (pg_name (i := 8) sc__law_row.nd rfl (.inl rfl)) (pss_cons (ps_expr (pe_bm PySem.F.plainAttrs_list PySem.F.slot_list_append PySem.F.type_list_append mt_append (pv 5) (pa_cons (pe_tup (pa_cons (pe_callB (cr_sum rfl) rfl T.z_sum (by decide +kernel) (pa_cons (pv 6) pa_nil)) (pa_cons (pv 7) pa_nil))) pa_nil)))
  (pss_cons (ps_set (i := 6) sc__law_row.nd rfl (.inr rfl) (pe_lc (own := [("_law_at", 9)]) (g := gName 9) (tt := tYes) rfl sc__law_row.nd (pi_range1 rfl T.z_range (pa_cons (pe_callB call_len_seq rfl T.z_len (by decide +kernel) (pa_cons (pv 0) pa_nil)) pa_nil)) (blkOk_by (N := N__law_row) (sc := defScope s__law_row) (by decide +kernel)) (fun _ _ _ _ _ => (pg_name (i := 9) sc__law_row.nd rfl (.inl rfl))) (fun _ _ _ _ _ => pts_nil) (fun _ _ _ _ _ => (pe_op op_mulW (pe_ix (ix_listK (K := K) rfl) (pv 6) (pv 9) (fun _ _ => rfl)) (pe_ix (ix_listK (K := K) rfl) (pv 0) (pv 9) (fun _ _ => rfl))))))
  (pss_one (ps_set (i := 7) sc__law_row.nd rfl (.inl rfl) (pe_op op_mulW (pv 7) (pv 3)))))))
  (pss_one (ps_ret (pv 5))))))), ?_⟩
    refine ⟨by show 0 ≤ sizeLine; decide, fun r nr => ?_⟩
    have s1 := same_upd (o := .lst []) nr
    refine ⟨_, rfl, pa, _, rfl, .inl (.of (s1 _ _ hpa)), fun pp npp => ?_⟩
    have s2 := same_upd (o := .lst (ps.map V.int)) npp
    have s12 := s1.trans s2
    refine ⟨_, rfl, _, rfl, _, rfl, by omega, by omega, ?_⟩
    rw [show ((n : Int)).toNat = n by omega]
    have hr2 : upd (upd H r (.lst [])) pp (.lst (ps.map V.int)) r = some (.lst []) := s2 _ _ upd_same
    have en : ∀ i, i < n → e * i + e ≤ e * n := fun i hi => by
      have := Nat.mul_le_mul_left e hi
      rw [Nat.mul_succ] at this
      exact this
    refine for_range (lo := 0) (fun i σ G => Same H G ∧ ∃ (pp : Addr) (rs : List Addr) (y8 : Option V), σ = [some (.ref ta), some (.ref pa), some (.int u), some (.int b), some (.int (n : Int)), some (.ref r), some (.ref pp), some (.int (u * b ^ i)), y8, none] ∧ G pp = some (.lst ((powl ts ps i).map V.int)) ∧ G r = some (.lst (rs.map V.ref)) ∧ rs.length = i ∧ Tups G rs (rowT ts ps u b) ∧ pp ≠ r)
      ⟨s12, pp, [], _, by rw [Int.pow_zero, Int.mul_one]; rfl, by rw [powl_zero hl]; exact upd_same, hr2, rfl, Tups.nil, fun z => by rw [z, upd_same] at npp; cases npp⟩ ?_ ?_
    · rintro i σ G hi ⟨sm, pp, rs, y8, rfl, hpp, hr', lr, hT, ne⟩
      have ll := powl_len hl i
      have eni := en i hi
      refine ⟨_, rfl, .inl ⟨rfl, _, .of hr'⟩, _, rfl, pp, powl ts ps i, rfl, .of hpp, _, rfl, by show 2 ≤ sizeLine; decide, fun pr npr => ?_⟩
      have s3 := same_upd (o := tup2 (powl ts ps i).sum (u * b ^ i)) npr
      have hr3 := s3 _ _ hr'
      refine ⟨r, _, _, rfl, rfl, hr3, by rw [List.length_map]; exact small1000 (by omega), ?_⟩
      have sm3 : Same H (upd (upd G pr (tup2 (powl ts ps i).sum (u * b ^ i))) r (.lst (rs.map V.ref ++ [.ref pr]))) := same_push (sm.trans s3) nr
      have hT3 : Tups (upd (upd G pr (tup2 (powl ts ps i).sum (u * b ^ i))) r (.lst (rs.map V.ref ++ [.ref pr]))) (rs ++ [pr]) (rowT ts ps u b) := ((hT.same s3).push (by rw [lr]; exact upd_same)).put hr3
      have hpp3 : upd (upd G pr (tup2 (powl ts ps i).sum (u * b ^ i))) r (.lst (rs.map V.ref ++ [.ref pr])) pp = some (.lst ((powl ts ps i).map V.int)) := by
        rw [upd_ne ne]
        exact s3 _ _ hpp
      have hr4 : upd (upd G pr (tup2 (powl ts ps i).sum (u * b ^ i))) r (.lst (rs.map V.ref ++ [.ref pr])) r = some (.lst ((rs ++ [pr]).map V.ref)) := by rw [upd_same, List.map_append]; rfl
      generalize upd (upd G pr (tup2 (powl ts ps i).sum (u * b ^ i))) r (.lst (rs.map V.ref ++ [.ref pr])) = G4 at sm3 hT3 hpp3 hr4
      have hta4 := sm3 _ _ hta
      refine ⟨_, rfl, ta, _, rfl, .inl (.of hta4), _, rfl, by rw [List.length_map]; omega, by rw [List.length_map]; omega, fun d2 nd2 => ?_⟩
      rw [show (((ts.map V.int).length : Nat) : Int).toNat = ts.length by rw [List.length_map]; omega]
      refine lc_range (lo := 0) (fun j G2 => Same G4 G2 ∧ G2 d2 = some (.lst (((powl ts ps (i + 1)).take j).map V.int))) ⟨same_upd nd2, upd_same⟩ ?_ ?_
      · rintro j G5 hj ⟨sm5, hd2⟩
        have hg := powl_get hl (k := i) hj
        have hg1 := powl_get hl (k := i + 1) hj
        have hgv : ((powl ts ps i).map V.int)[j]? = some (.int (ps.getD j 0 * ts.getD j 0 ^ i)) := by
          rw [List.getElem?_map, hg]
          rfl
        have b1 := nmul (hp j) (npow (ht j) i)
        refine ⟨rfl, _, rfl, _, rfl, pp, _, _, _, rfl, rfl, .of (sm5 _ _ hpp3), at_get hgv, _, rfl, _, rfl, ta, _, _, _, rfl, rfl, .of (sm5 _ _ hta4), at_get (int_at hj), _, _, rfl, rfl, (sm_of b1 (by omega)).mul (sm_of (ht j) (by omega)), _, hd2, ?_, same_push sm5 nd2, ?_⟩
        · rw [List.length_map, List.length_take]
          exact small1000 (by omega)
        · have e1 : ps.getD j 0 * ts.getD j 0 ^ i * ts.getD j 0 = ps.getD j 0 * ts.getD j 0 ^ (i + 1) := by
            rw [Int.pow_succ, Int.mul_assoc]
          rw [upd_same, ← take_map_push hg1, ← e1]
      · rintro G5 ⟨sm5, hd2⟩
        have l2 := powl_len hl (i + 1)
        rw [List.take_of_length_le (by omega)] at hd2
        have bb := nmul hu (npow hb i)
        refine ⟨_, rfl, _, rfl, _, _, rfl, rfl, (sm_of bb (by omega)).mul (sm_of hb (by omega)), ?_⟩
        refine ⟨sm3.trans sm5, d2, rs ++ [pr], _, by rw [Int.pow_succ, ← Int.mul_assoc]; rfl, hd2, sm5 _ _ hr4, by rw [List.length_append, lr]; rfl, hT3.same sm5, fun z => ?_⟩
        rw [z, hr4] at nd2
        cases nd2
    · rintro σ G ⟨sm, pp, rs, y8, rfl, hpp, hr', lr, hT, ne⟩
      exact ⟨_, rfl, q G _ sm ⟨r, rs, rfl, hr', lr, hT⟩⟩
theorem ok__law_integer (T : Txt K mg A D) : FnOk P w K mg base CX0 1 A.f__law_integer D.f__law_integer ["_law_value"] (sp_is_whole K) := by
  skip
  refine T.F__law_integer.ok sc__law_integer (fun vs H Q E h => ?_) (fun cdv A' outer s H vs Q E hr h => ?_)
  · obtain ⟨x, b, rfl, _⟩ := h
    rfl
  · obtain ⟨x, b, rfl, ⟨t, b1, b2, ty, e1, e2, rfl⟩, q⟩ := h
    refine ⟨_, (pss_one (ps_ret (pe_and (pe_callB call_isi rfl T.z_isinstance (by decide +kernel) (pa_cons (pv 0) (pa_cons (pe_bltn (v := .ty "int") rfl T.z_int (by decide +kernel) rfl) pa_nil))) (pe_one (pe_not (pe_callB call_isi rfl T.z_isinstance (by decide +kernel) (pa_cons (pv 0) (pa_cons (pe_bltn (v := .ty "bool") rfl T.z_bool (by decide +kernel) rfl) pa_nil)))))))), ?_⟩
    refine ⟨x, rfl, x, .ty "int", t, _, b1, rfl, .ty _, ty, e1, b1, rfl, ?_⟩
    cases b1 with
    | false => exact iteF q
    | true => exact iteT ⟨x, rfl, x, .ty "bool", t, _, b2, rfl, .ty _, ty, e2 rfl, b2, rfl, q⟩
end
section
variable {P : Program} {w : World} {K : PySem.W.Frag} {mg : Str → Option Value} {base : Heap} {A : Ad} {D : Fd}
def sp_ratios (C : Addr) : Sp := fun vs H Q _ => ∃ v n F, vs = [v] ∧ TupsAt H v n F ∧ n ≤ 60 ∧ (∀ k, k < n → (F k).2 ≠ 0 ∧ Sm (F k).2) ∧ ∀ H' d xs, Same H H' → H d = none → H' d = some (.lst xs) → xs.length = n → RatsV C H' xs (fun k => qv (F k)) → Q (.ref d) H'
theorem ok__law_ratios (T : Txt K mg A D) : FnOk P w K mg base CX0 4 A.f__law_ratios D.f__law_ratios ["_law_row_here"] (sp_ratios A.Ratio) := by
  have G_Ratio_init : FnOk P w K mg base CX0 2 A.f_Ratio___init__ D.f_Ratio___init__ ["self", "top", "bottom"] (sp_init A.Ratio) := ok_Ratio___init__ T
  have b_Ratio_init2 := T.b_Ratio___init__
  have d_Ratio_init2 : Vals [] [] := .nil
  refine T.F__law_ratios.ok sc__law_ratios (fun vs H Q E h => ?_) (fun cdv A' outer s H vs Q E hr h => ?_)
  · obtain ⟨v, n, F, rfl, _⟩ := h
    rfl
  · obtain ⟨v, n, F, rfl, ⟨a, rs, rfl, ha, lr, hp⟩, hn, hc, q⟩ := h
    refine ⟨_, (pss_one (ps_ret (pe_lc (own := [("_law_pair_here", 1)]) (g := gName 1) (tt := tYes) rfl sc__law_ratios.nd (pi_list (pv 0)) (blkOk_by (N := N__law_ratios) (sc := defScope s__law_ratios) (by decide +kernel)) (fun _ _ _ _ _ => (pg_name (i := 1) sc__law_ratios.nd rfl (.inl rfl))) (fun _ _ _ _ _ => pts_nil) (fun _ _ _ _ _ => (pe_make T.M_Ratio G_Ratio_init (hr.mono (by decide)) rfl T.g_Ratio b_Ratio_init2 d_Ratio_init2 pass0 (pa_cons (pe_ix (ix_tupK (K := K) rfl) (pv 1) pe_int (fun _ _ => rfl)) (pa_cons (pe_ix (ix_tupK (K := K) rfl) (pv 1) pe_int (fun _ _ => rfl)) pa_nil))))))), ?_⟩
    refine ⟨_, rfl, a, rfl, ⟨_, .of ha⟩, fun d nd => ?_⟩
    refine lc_list (K := K) (a := a) (xs := rs.map V.ref) (fun i G => Gro A.Ratio H d (fun k => qv (F k)) i G) (.start nd) (fun i G _ p => .of (p.1 _ _ ha)) ?_ ?_
    · rintro i x G hx p
      obtain ⟨r, er, rfl⟩ := ref_get hx
      have il := get_lt er
      have hrr := p.1 _ _ (hp i r er)
      obtain ⟨c1, c2⟩ := hc i (by omega)
      exact ⟨rfl, _, rfl, r, _, 0, _, rfl, rfl, .of hrr, rfl, _, rfl, r, _, 1, _, rfl, rfl, .of hrr, rfl, fun x dx nx nd2 ne => rat_make c1 c2 nx nd2 ne fun G2 s2 r2 => p.push nd (by omega) s2 r2⟩
    · rintro G ⟨sm, xs, hl, hd, hr⟩
      rw [List.length_map] at hl
      exact q G d xs sm nd hd (by omega) hr
def sp_lpair (C : Addr) : Sp := fun vs H Q _ => ∃ v z, vs = [v] ∧ RatV C H v z ∧ ∀ p, H p = none → Q (.ref p) (upd H p (tup2 z.num (z.den : Int)))
theorem ok__law_pair (T : Txt K mg A D) : FnOk P w K mg base CX0 2 A.f__law_pair D.f__law_pair ["_law_value"] (sp_lpair A.Ratio) := by
  have G__law_integer : FnOk P w K mg base CX0 1 A.f__law_integer D.f__law_integer ["_law_value"] (sp_is_whole K) := ok__law_integer T
  refine T.F__law_pair.ok sc__law_pair (fun vs H Q E h => ?_) (fun cdv A' outer s H vs Q E hr h => ?_)
  · obtain ⟨v, z, rfl, _⟩ := h
    rfl
  · obtain ⟨v, z, rfl, ⟨a, dx, rfl, ha⟩, q⟩ := h
    refine ⟨_, (pss_cons (ps_if (pt_not (pt_val (pe_callB call_isi rfl T.z_isinstance (by decide +kernel) (pa_cons (pv 0) (pa_cons (pe_glob (v := .ref A.Ratio) rfl T.g_Ratio rfl) pa_nil))))) (pss_one (ps_ret pe_non)) pss_nil)
  (pss_cons (ps_if (PW.pt (pw_or (pt_not (pt_val (pe_call G__law_integer (hr.mono (by decide)) rfl T.g__law_integer T.F__law_integer.kp T.b__law_integer .nil pass0 (pa_cons (pe_fld (pv 0) rfl) pa_nil)))) (pw_or (pt_not (pt_val (pe_call G__law_integer (hr.mono (by decide)) rfl T.g__law_integer T.F__law_integer.kp T.b__law_integer .nil pass0 (pa_cons (pe_fld (pv 0) rfl) pa_nil)))) (pw_or1 (pt_cmpR op_lt (pe_fld (pv 0) rfl) pe_int (nomark _)))))) (pss_one (ps_ret pe_non)) pss_nil)
  (pss_one (ps_ret (pe_tup (pa_cons (pe_fld (pv 0) rfl) (pa_cons (pe_fld (pv 0) rfl) pa_nil))))))), ?_⟩
    have cl := T.k_Ratio.cl
    have nt := T.k_Ratio.n_top
    have nb := T.k_Ratio.n_bottom
    refine ⟨_, rfl, .ref a, .ref A.Ratio, _, _, true, rfl, .own _, T.k_Ratio.ty ha, kit_self, true, rfl, iteF ?_⟩
    refine ⟨_, rfl, a, A.Ratio, dx, _, _, rfl, ha, cl, nt, rfl, _, _, rfl, whole_int _, true, rfl, iteF ?_⟩
    refine ⟨_, rfl, a, A.Ratio, dx, _, _, rfl, ha, cl, nb, rfl, _, _, rfl, whole_int _, true, rfl, iteF ?_⟩
    refine ⟨_, rfl, a, A.Ratio, dx, _, _, rfl, ha, cl, nb, rfl, _, _, rfl, rfl, _, rfl, iteFe (decide_eq_false (by have := den_pos z; omega)) ?_⟩
    exact ⟨_, rfl, a, A.Ratio, dx, _, _, rfl, ha, cl, nt, rfl, _, rfl, a, A.Ratio, dx, _, _, rfl, ha, cl, nb, rfl, by show 2 ≤ sizeLine; decide, fun p np => q p np⟩
structure RowOk (F : Nat → Int × Int) (n e g : Nat) : Prop where
  pos : ∀ k, k < n → 0 < (F k).2
  top : ∀ k, k < n → (F k).1.natAbs < 2 ^ e
  bot : ∀ k, k < n → (F k).2.natAbs < 2 ^ e
  all : (WN F 0 n).natAbs < 2 ^ g
/-- the sum of the first m items of a line of the table -/
theorem ixN_nat {n k : Nat} (h : k < n) : ixN n (0 + (k : Int)) = some k := by
  unfold ixN
  rw [if_pos (by omega), if_pos (by omega)]
  congr 1
  omega
theorem _root_.MoL.Tups.set {H : Hp} {rs : List Addr} {F : Nat → Int × Int} {t : Addr} {k : Nat} {x y : Int} (h : Tups H rs F) (ht : H t = some (tup2 x y)) : Tups H (rs.set k t) (fun j => if j = k then (x, y) else F j) := fun j r e => by
  rw [List.getElem?_set] at e
  by_cases c : k = j
  · subst c
    rw [if_pos rfl] at e
    split at e
    · cases e
      dsimp only
      rw [if_pos rfl]
      exact ht
    · cases e
  · rw [if_neg c] at e
    dsimp only
    rw [if_neg (Ne.symm c)]
    exact h j r e
theorem p2 : (0 : Int) < 2 := by decide
theorem p3 : (0 : Int) < 3 := by decide
theorem p4 : (0 : Int) < 4 := by decide
theorem p5 : (0 : Int) < 5 := by decide
theorem p9 : (0 : Int) < 9 := by decide
def sp_changed : Sp := fun vs H Q _ => ∃ v c n F e g, vs = [v, .int c] ∧ TupsAt H v n F ∧ 0 < n ∧ n ≤ 13 ∧ RowOk F n e g ∧ 40 ≤ e ∧ 40 ≤ g ∧ e ≤ 2000 ∧ g ≤ 2000 ∧ ∀ H' u F', Same H H' → TupsAt H' u n F' → RowOk F' n (e + 96) (g + 90) → Q u H'
theorem RowOk.set {F : Nat → Int × Int} {n e g a : Nat} {x u : Int} (ok : RowOk F n e g) (ha : a < n) (hx : x.natAbs < 2 ^ (e + 32)) (u0 : 0 < u) (u1 : u.natAbs < 2 ^ 30) : RowOk (fun j => if j = a then (x, (F j).2 * u) else F j) n (e + 32) (g + 30) where
  pos k hk := by
    split
    · exact Int.mul_pos (ok.pos k hk) u0
    · exact ok.pos k hk
  top k hk := by
    split
    · exact hx
    · exact lt_le (ok.top k hk) (by omega)
  bot k hk := by
    split
    · exact lt_le (nmul (ok.bot k hk) u1) (by omega)
    · exact lt_le (ok.bot k hk) (by omega)
  all := by
    rw [WN_set (F := F) (a := a) (u := u) (fun j => by split <;> rfl), if_pos ha]
    exact nmul ok.all u1
theorem ok__law_changed (T : Txt K mg A D) : FnOk P w K mg base CX0 2 A.f__law_changed D.f__law_changed ["_law_row_here", "_law_cell_here"] (sp_changed) := by
  have G__law_draw : FnOk P w K mg base CX0 1 A.f__law_draw D.f__law_draw ["_law_cell_here", "_law_many", "_law_base_here"] (sp_draw) := ok__law_draw T
  refine T.F__law_changed.ok sc__law_changed (fun vs H Q E h => ?_) (fun cdv A' outer s H vs Q E hr h => ?_)
  · obtain ⟨v, c, n, F, e, g, rfl, _⟩ := h
    rfl
  · obtain ⟨v, c, n, F, e, g, rfl, ⟨a, rs0, rfl, ha, lr, hp⟩, n0, n1, ok, he, hg, he2, hg2, q⟩ := h
    refine ⟨_, (pss_cons (ps_set (i := 2) sc__law_changed.nd rfl (.inl rfl) (pe_call G__law_draw (hr.mono (by decide)) rfl T.g__law_draw T.F__law_draw.kp T.b__law_draw .nil pass0 (pa_cons (pv 1) (pa_cons (pe_op op_add pe_int (pe_op op_mulW pe_int (pe_callB call_len_seq rfl T.z_len (by decide +kernel) (pa_cons (pv 0) pa_nil)))) (pa_cons (pe_op op_pow pe_int pe_int) pa_nil)))))
  (pss_cons (ps_set (i := 3) sc__law_changed.nd rfl (.inl rfl) (pe_callTy call_list_of rfl T.z_list (by decide +kernel) (pa_cons (pv 0) pa_nil)))
  (pss_cut (ps_if (pt_cmpR op_eq (pe_op op_mod (pe_callTy call_int1 rfl T.z_int (by decide +kernel) (pa_cons (pe_ix ix_list (pv 2) pe_int (fun _ _ => rfl)) pa_nil)) pe_int) pe_int (nomark _)) (pss_one (ps_for PassesOwn.never rfl (pi_range1 rfl T.z_range (pa_cons (pe_callB call_len_seq rfl T.z_len (by decide +kernel) (pa_cons (pv 0) pa_nil)) pa_nil)) (pg_name (i := 4) sc__law_changed.nd rfl (.inl rfl)) (pss_cons (ps_set (i := 5) sc__law_changed.nd rfl (.inl rfl) (pe_ix ix_list (pe_lst (pa_cons pe_int (pa_cons (pe_op op_pow pe_int pe_int) pa_nil))) (pe_op op_mod (pe_callTy call_int1 rfl T.z_int (by decide +kernel) (pa_cons (pe_ix ix_list (pv 2) pe_int (fun _ _ => rfl)) pa_nil)) pe_int) (fun _ _ => rfl)))
  (pss_one (ps_asg (pe_tup (pa_cons (pe_op op_sub (pe_op op_mod (pe_callTy call_int1 rfl T.z_int (by decide +kernel) (pa_cons (pe_ix ix_list (pv 2) (pe_op op_add pe_int (pe_op op_mulW pe_int (pv 4))) (fun _ _ => rfl)) pa_nil)) (pe_op op_add (pe_op op_mulW pe_int (pv 5)) pe_int)) (pv 5)) (pa_cons (pe_op op_add pe_int (pe_op op_mod (pe_callTy call_int1 rfl T.z_int (by decide +kernel) (pa_cons (pe_ix ix_list (pv 2) (pe_op op_add pe_int (pe_op op_mulW pe_int (pv 4))) (fun _ _ => rfl)) pa_nil)) pe_int)) pa_nil))) (pg_sub (pv 3) (pv 4) set_list)))))) pss_nil)
  (pss_cons (ps_for PassesOwn.never rfl (pi_range1 rfl T.z_range (pa_cons (pe_op op_mod (pe_callTy call_int1 rfl T.z_int (by decide +kernel) (pa_cons (pe_ix ix_list (pv 2) pe_int (fun _ _ => rfl)) pa_nil)) pe_int) pa_nil)) (pg_name (i := 4) sc__law_changed.nd rfl (.inl rfl)) (pss_cons (ps_set (i := 6) sc__law_changed.nd rfl (.inl rfl) (pe_op op_mod (pe_callTy call_int1 rfl T.z_int (by decide +kernel) (pa_cons (pe_ix ix_list (pv 2) (pe_op op_add pe_int (pe_op op_mulW pe_int (pv 4))) (fun _ _ => rfl)) pa_nil)) (pe_callB call_len_seq rfl T.z_len (by decide +kernel) (pa_cons (pv 0) pa_nil))))
  (pss_cons (ps_set (i := 7) sc__law_changed.nd rfl (.inl rfl) (pe_ix ix_list (pe_lst (pa_cons pe_int (pa_cons pe_int (pa_cons (pe_op op_pow pe_int pe_int) pa_nil)))) (pe_op op_mod (pe_callTy call_int1 rfl T.z_int (by decide +kernel) (pa_cons (pe_ix ix_list (pv 2) pe_int (fun _ _ => rfl)) pa_nil)) pe_int) (fun _ _ => rfl)))
  (pss_cons (ps_set (i := 8) sc__law_changed.nd rfl (.inl rfl) (pe_op op_sub (pe_op op_mod (pe_callTy call_int1 rfl T.z_int (by decide +kernel) (pa_cons (pe_ix ix_list (pv 2) (pe_op op_add pe_int (pe_op op_mulW pe_int (pv 4))) (fun _ _ => rfl)) pa_nil)) pe_int) pe_int))
  (pss_one (ps_asg (pe_tup (pa_cons (pe_op op_add (pe_op op_mulW (pe_ix ix_tup (pe_ix ix_list (pv 3) (pv 6) (fun _ _ => rfl)) pe_int (fun _ _ => rfl)) (pv 7)) (pe_op op_mulW (pv 8) (pe_ix ix_tup (pe_ix ix_list (pv 3) (pv 6) (fun _ _ => rfl)) pe_int (fun _ _ => rfl)))) (pa_cons (pe_op op_mulW (pe_ix ix_tup (pe_ix ix_list (pv 3) (pv 6) (fun _ _ => rfl)) pe_int (fun _ _ => rfl)) (pv 7)) pa_nil))) (pg_sub (pv 3) (pv 6) set_list)))))))
  (pss_one (ps_ret (pv 3))))))), ?_⟩
    have bp : (0 : Int) < 10 ^ (12 : Int).toNat := by decide
    have bs : Sm ((10 : Int) ^ (12 : Int).toNat) := .ab (by decide) (by decide)
    have en : ((rs0.map V.ref).length : Int) = (n : Int) := by rw [List.length_map]; omega
    refine ⟨_, rfl, _, rfl, a, _, rfl, .inl (.of ha), _, _, rfl, rfl, Sm.mul (.ab (by decide) (by decide)) (.ab (by omega) (by omega)), _, _, rfl, rfl, _, _, rfl, rfl, ⟨by decide, by decide, by decide⟩, c, 10 + 2 * n, 10 ^ (12 : Int).toNat, ?_, by omega, bp, bs, fun H1 p ds k1 np hp1 dg => ?_⟩
    · show [V.int c, V.int (10 + 2 * ((rs0.map V.ref).length : Int)), V.int (10 ^ (12 : Int).toNat)] = _
      rw [show (10 : Int) + 2 * ((rs0.map V.ref).length : Int) = ((10 + 2 * n : Nat) : Int) by omega]
    generalize (10 : Int) ^ (12 : Int).toNat = b12 at bp bs dg
    have dl := dg.len
    have dat : ∀ k : Nat, k < 10 + 2 * n → atI (ds.map V.int) (k : Int) = some (.int (ds.getD k 0)) := fun k hk => atI_nat (int_at (by omega))
    refine ⟨_, rfl, a, _, rfl, .inl (.of (k1 _ _ ha)), fun d nd => ?_⟩
    have k2 := same_upd (o := .lst (rs0.map V.ref)) nd
    have hd2 : upd H1 d (.lst (rs0.map V.ref)) d = some (.lst (rs0.map V.ref)) := upd_same
    have hT2 := (hp.same k1).same k2
    generalize upd H1 d (.lst (rs0.map V.ref)) = H2 at k2 hd2 hT2
    refine ⟨fun σ' H' => ∃ (rs : List Addr) (F1 : Nat → Int × Int) (y4 y5 : Option V), σ' = [some (.ref a), some (.int c), some (.ref p), some (.ref d), y4, y5, none, none, none] ∧ Same H1 H' ∧ H' d = some (.lst (rs.map V.ref)) ∧ rs.length = n ∧ Tups H' rs F1 ∧ RowOk F1 n e g, ?_, ?_⟩
    · refine ⟨_, rfl, p, _, 0, _, rfl, rfl, .of (k2 _ _ hp1), dat 0 (by omega), .inl ⟨_, rfl, _, _, rfl, rfl, p4, rfl, _, rfl, ite2 (fun _ => ?_) (fun _ => ⟨rs0, F, _, _, rfl, k2, hd2, lr, hT2, ok⟩)⟩⟩
      refine ⟨_, rfl, a, _, rfl, .inl (.of (k2 _ _ (k1 _ _ ha))), _, rfl, by omega, by omega, ?_⟩
      rw [show (((rs0.map V.ref).length : Nat) : Int).toNat = n by omega]
      refine for_range (lo := 0) (fun k σ G => ∃ (rs : List Addr) (F1 : Nat → Int × Int) (y4 y5 : Option V), σ = [some (.ref a), some (.int c), some (.ref p), some (.ref d), y4, y5, none, none, none] ∧ Same H1 G ∧ G d = some (.lst (rs.map V.ref)) ∧ rs.length = n ∧ Tups G rs F1 ∧ (∀ j, j < n → 0 < (F1 j).2 ∧ (F1 j).1.natAbs < 2 ^ e ∧ (F1 j).2.natAbs < 2 ^ e) ∧ ∀ j, j < k → (F1 j).2 ≤ 5)
        ⟨rs0, F, _, _, rfl, k2, hd2, lr, hT2, fun j hj => ⟨ok.pos j hj, ok.top j hj, ok.bot j hj⟩, fun j h => absurd h (Nat.not_lt_zero _)⟩ ?_ ?_
      · rintro k σ G hk ⟨rs, F1, y4, y5, rfl, sm, hd, hl, hT, hF, h5⟩
        refine ⟨_, _, rfl, rfl, ⟨by decide, by decide, by decide⟩, by show 2 ≤ sizeLine; decide, fun pw npw => ?_⟩
        have q1 := same_upd (o := .lst [V.int 4, .int (10 ^ (9 : Int).toNat)]) npw
        have hpw : upd G pw (.lst [V.int 4, .int (10 ^ (9 : Int).toNat)]) pw = some (.lst [V.int 4, .int (10 ^ (9 : Int).toNat)]) := upd_same
        have hpp := q1 _ _ (sm _ _ hp1)
        refine ⟨_, rfl, p, _, 1, _, rfl, rfl, .of hpp, dat 1 (by omega), .inl ⟨_, rfl, _, _, rfl, rfl, p2, ?_⟩⟩
        obtain ⟨z, hz, z0, z1⟩ : ∃ z : Int, atI [V.int 4, .int (10 ^ (9 : Int).toNat)] (ds.getD 1 0 % 2) = some (.int z) ∧ 4 ≤ z ∧ z ≤ 1000000000 := by
          rcases (by omega : ds.getD 1 0 % 2 = 0 ∨ ds.getD 1 0 % 2 = 1) with e | e <;> rw [e]
          · exact ⟨_, rfl, by decide, by decide⟩
          · exact ⟨_, rfl, by decide, by decide⟩
        refine ⟨pw, _, _, _, rfl, rfl, .of hpw, hz, ?_⟩
        have e10 : (10 : Int) + 2 * (0 + (k : Int)) = ((10 + 2 * k : Nat) : Int) := by omega
        have e11 : (11 : Int) + 2 * (0 + (k : Int)) = ((11 + 2 * k : Nat) : Int) := by omega
        have m2 : CMulW 2 (0 + (k : Int)) := Sm.mul (.ab (by decide) (by decide)) (.ab (by omega) (by omega))
        refine ⟨_, rfl, _, rfl, _, _, rfl, rfl, m2, _, _, rfl, rfl, p, _, _, _, rfl, rfl, .of hpp, by rw [e10]; exact dat _ (by omega), .inl ⟨_, rfl, _, rfl, _, _, rfl, rfl, Sm.mul (.ab (by decide) (by decide)) (.ab (by omega) (by omega)), _, _, rfl, rfl, _, _, rfl, rfl, by omega, ?_⟩⟩
        have x0a : 0 ≤ ds.getD (10 + 2 * k) 0 % (2 * z + 1) := Int.emod_nonneg _ (by omega)
        have x0b : ds.getD (10 + 2 * k) 0 % (2 * z + 1) < 2 * z + 1 := Int.emod_lt_of_pos _ (by omega)
        refine ⟨_, rfl, _, _, rfl, rfl, _, rfl, _, rfl, _, _, rfl, rfl, m2, _, _, rfl, rfl, p, _, _, _, rfl, rfl, .of hpp, by rw [e11]; exact dat _ (by omega), .inl ⟨_, rfl, _, _, rfl, rfl, p5, _, _, rfl, rfl, by show 2 ≤ sizeLine; decide, fun t nt => ?_⟩⟩
        have y0a : 0 ≤ ds.getD (11 + 2 * k) 0 % 5 := Int.emod_nonneg _ (by decide)
        have y0b : ds.getD (11 + 2 * k) 0 % 5 < 5 := Int.emod_lt_of_pos _ (by decide)
        have q2 := same_upd (o := tup2 (ds.getD (10 + 2 * k) 0 % (2 * z + 1) - z) (1 + ds.getD (11 + 2 * k) 0 % 5)) nt
        have q12 := q1.trans q2
        have hd3 := q12 _ _ hd
        have hix : ixN (rs.map V.ref).length (0 + (k : Int)) = some k := ixN_nat (by rw [List.length_map]; omega)
        refine ⟨_, rfl, _, rfl, d, _, _, k, rfl, rfl, hd3, hix, ?_⟩
        refine ⟨rs.set k t, fun j => if j = k then (ds.getD (10 + 2 * k) 0 % (2 * z + 1) - z, 1 + ds.getD (11 + 2 * k) 0 % 5) else F1 j, _, _, rfl, same_push (sm.trans q12) nd, by rw [upd_same, List.map_set], by rw [List.length_set]; exact hl, ((hT.same q12).set upd_same).put hd3, fun j hj => ?_, fun j hj => ?_⟩
        · dsimp only
          split
          · generalize ds.getD (10 + 2 * k) 0 % (2 * z + 1) = x0 at *
            generalize ds.getD (11 + 2 * k) 0 % 5 = y0 at *
            exact ⟨by show 0 < 1 + y0; omega, lt_le (show (x0 - z).natAbs < 2 ^ 31 by omega) (by omega), lt_le (show (1 + y0).natAbs < 2 ^ 3 by omega) (by omega)⟩
          · exact hF j hj
        · dsimp only
          split
          · show 1 + ds.getD (11 + 2 * k) 0 % 5 ≤ 5
            omega
          · exact h5 j (by omega)
      · rintro σ G ⟨rs, F1, y4, y5, rfl, sm, hd, hl, hT, hF, h5⟩
        refine ⟨rs, F1, _, _, rfl, sm, hd, hl, hT, ⟨fun j hj => (hF j hj).1, fun j hj => (hF j hj).2.1, fun j hj => (hF j hj).2.2, ?_⟩⟩
        have h1 := WN_small (F := F1) (c := 5) (by decide) n fun j hj => ⟨(hF j hj).1, h5 j hj⟩
        have h2 : 0 < WN F1 0 n := WN_pos n fun j hj => (hF j (by omega)).1
        have h3 : (5 : Int) ^ n ≤ 5 ^ 13 := by exact_mod_cast Nat.pow_le_pow_right (show 0 < 5 by decide) n1
        exact lt_le (show (WN F1 0 n).natAbs < 2 ^ 40 by
          have h4 : (5 : Int) ^ 13 = 1220703125 := by decide
          omega) hg
    · rintro σ G0 ⟨rs, F1, y4, y5, rfl, sm, hd, hl, hT, ok1⟩
      refine ⟨_, rfl, p, _, 2, _, rfl, rfl, .of (sm _ _ hp1), dat 2 (by omega), .inl ⟨_, rfl, _, _, rfl, rfl, p4, _, rfl, ?_⟩⟩
      have c0 : 0 ≤ ds.getD 2 0 % 4 := Int.emod_nonneg _ (by decide)
      have c1 : ds.getD 2 0 % 4 < 4 := Int.emod_lt_of_pos _ (by decide)
      refine ⟨by show -2 ^ 62 ≤ ds.getD 2 0 % 4; omega, by show ds.getD 2 0 % 4 < 2 ^ 62; omega, ?_⟩
      refine for_range (lo := 0) (n := (ds.getD 2 0 % 4).toNat) (fun k σ G => ∃ (rs : List Addr) (F1 : Nat → Int × Int) (y4 y5 y6 y7 y8 : Option V), σ = [some (.ref a), some (.int c), some (.ref p), some (.ref d), y4, y5, y6, y7, y8] ∧ Same H1 G ∧ G d = some (.lst (rs.map V.ref)) ∧ rs.length = n ∧ Tups G rs F1 ∧ RowOk F1 n (e + 32 * k) (g + 30 * k))
        ⟨rs, F1, _, _, _, _, _, rfl, sm, hd, hl, hT, ok1⟩ ?_ ?_
      · rintro k σ G hk ⟨rs, F1, y4, y5, y6, y7, y8, rfl, sm, hd, hl, hT, ok1⟩
        have k3 : k < 3 := by omega
        have e3 : (3 : Int) + 2 * (0 + (k : Int)) = ((3 + 2 * k : Nat) : Int) := by omega
        have e4 : (4 : Int) + 2 * (0 + (k : Int)) = ((4 + 2 * k : Nat) : Int) := by omega
        have m2 : CMulW 2 (0 + (k : Int)) := Sm.mul (.ab (by decide) (by decide)) (.ab (by omega) (by omega))
        have hpp := sm _ _ hp1
        refine ⟨_, rfl, _, rfl, _, _, rfl, rfl, m2, _, _, rfl, rfl, p, _, _, _, rfl, rfl, .of hpp, by rw [e3]; exact dat _ (by omega), .inl ⟨_, rfl, _, rfl, a, _, rfl, .inl (.of (sm _ _ (k1 _ _ ha))), _, _, rfl, rfl, by omega, ?_⟩⟩
        obtain ⟨at', ha', an⟩ : ∃ at' : Nat, ds.getD (3 + 2 * k) 0 % ((rs0.map V.ref).length : Int) = (at' : Int) ∧ at' < n := by
          have h1 := Int.emod_nonneg (ds.getD (3 + 2 * k) 0) (show ((rs0.map V.ref).length : Int) ≠ 0 by omega)
          have h2 := Int.emod_lt_of_pos (ds.getD (3 + 2 * k) 0) (show (0 : Int) < ((rs0.map V.ref).length : Int) by omega)
          exact ⟨(ds.getD (3 + 2 * k) 0 % ((rs0.map V.ref).length : Int)).toNat, by omega, by omega⟩
        show gName 6 (V.int (ds.getD (3 + 2 * k) 0 % ((rs0.map V.ref).length : Int))) _ _ _
        rw [ha']
        refine ⟨_, _, rfl, rfl, ⟨by decide, by decide, by decide⟩, by show 3 ≤ sizeLine; decide, fun pw npw => ?_⟩
        have q1 := same_upd (o := .lst [V.int 1, .int 7, .int (10 ^ (9 : Int).toNat)]) npw
        have hpw : upd G pw (.lst [V.int 1, .int 7, .int (10 ^ (9 : Int).toNat)]) pw = some (.lst [V.int 1, .int 7, .int (10 ^ (9 : Int).toNat)]) := upd_same
        have hpp := q1 _ _ hpp
        refine ⟨_, rfl, p, _, 9, _, rfl, rfl, .of hpp, dat 9 (by omega), .inl ⟨_, rfl, _, _, rfl, rfl, p3, ?_⟩⟩
        obtain ⟨z, hz, z0, z1⟩ : ∃ z : Int, atI [V.int 1, .int 7, .int (10 ^ (9 : Int).toNat)] (ds.getD 9 0 % 3) = some (.int z) ∧ 0 < z ∧ z ≤ 1000000000 := by
          rcases (by omega : ds.getD 9 0 % 3 = 0 ∨ ds.getD 9 0 % 3 = 1 ∨ ds.getD 9 0 % 3 = 2) with e | e | e <;> rw [e]
          · exact ⟨_, rfl, by decide, by decide⟩
          · exact ⟨_, rfl, by decide, by decide⟩
          · exact ⟨_, rfl, by decide, by decide⟩
        refine ⟨pw, _, _, _, rfl, rfl, .of hpw, hz, ?_⟩
        refine ⟨_, rfl, _, rfl, _, _, rfl, rfl, m2, _, _, rfl, rfl, p, _, _, _, rfl, rfl, .of hpp, by rw [e4]; exact dat _ (by omega), .inl ⟨_, rfl, _, _, rfl, rfl, p9, _, _, rfl, rfl, ?_⟩⟩
        obtain ⟨r, er, er2⟩ := pr_get (show at' < rs.length by omega)
        have hr1 := q1 _ _ (hT _ r er)
        have hd1 := q1 _ _ hd
        have hat := atI_nat er2
        have w1 := ok1.top at' an
        have w2 := ok1.bot at' an
        have wz : z.natAbs < 2 ^ 30 := by omega
        have wy : (ds.getD (4 + 2 * k) 0 % 9 - 4).natAbs < 2 ^ 3 := by omega
        refine ⟨_, rfl, _, rfl, d, _, _, _, rfl, rfl, .of hd1, hat, r, _, 0, _, rfl, rfl, .of hr1, rfl, _, rfl, _, _, rfl, rfl, (sm_of w1 (by omega)).mul (sm_of wz (by decide)), ?_⟩
        refine ⟨_, rfl, _, rfl, _, rfl, d, _, _, _, rfl, rfl, .of hd1, hat, r, _, 1, _, rfl, rfl, .of hr1, rfl, _, _, rfl, rfl, (sm_of wy (by decide)).mul (sm_of w2 (by omega)), _, _, rfl, rfl, ?_⟩
        refine ⟨_, rfl, _, rfl, d, _, _, _, rfl, rfl, .of hd1, hat, r, _, 1, _, rfl, rfl, .of hr1, rfl, _, rfl, _, _, rfl, rfl, (sm_of w2 (by omega)).mul (sm_of wz (by decide)), by show 2 ≤ sizeLine; decide, fun t nt => ?_⟩
        have q2 := same_upd (o := tup2 ((F1 at').1 * z + (ds.getD (4 + 2 * k) 0 % 9 - 4) * (F1 at').2) ((F1 at').2 * z)) nt
        have q12 := q1.trans q2
        have hd3 := q12 _ _ hd
        have hix : ixN (rs.map V.ref).length (at' : Int) = some at' := by
          have := ixN_nat (n := (rs.map V.ref).length) (k := at') (by rw [List.length_map]; omega)
          rw [Int.zero_add] at this
          exact this
        refine ⟨_, rfl, _, rfl, d, _, _, at', rfl, rfl, hd3, hix, ?_⟩
        refine ⟨rs.set at' t, fun j => if j = at' then ((F1 at').1 * z + (ds.getD (4 + 2 * k) 0 % 9 - 4) * (F1 at').2, (F1 j).2 * z) else F1 j, _, _, _, _, _, rfl, same_push (sm.trans q12) nd, by rw [upd_same, List.map_set], by rw [List.length_set]; exact hl, ?_, ?_⟩
        · refine Tups.put (Tups.to ((hT.same q12).set upd_same) fun j _ => ?_) hd3
          split
          · rename_i h
            rw [h]
          · rfl
        · have := ok1.set an (x := (F1 at').1 * z + (ds.getD (4 + 2 * k) 0 % 9 - 4) * (F1 at').2) (lt_le (nadd (nle (nmul w1 wz) (show e + 32 * k + 30 ≤ e + 32 * k + 31 by omega)) (nle (nmul wy w2) (by omega))) (by omega)) z0 wz
          rw [show e + 32 * (k + 1) = e + 32 * k + 32 by omega, show g + 30 * (k + 1) = g + 30 * k + 30 by omega]
          exact this
      · rintro σ G ⟨rs, F1, y4, y5, y6, y7, y8, rfl, sm, hd, hl, hT, ok1⟩
        refine ⟨_, rfl, q G _ F1 (k1.trans sm) ⟨d, rs, rfl, hd, hl, hT⟩ ⟨ok1.pos, fun j hj => lt_le (ok1.top j hj) (by omega), fun j hj => lt_le (ok1.bot j hj) (by omega), lt_le ok1.all (by omega)⟩⟩
end

end Mo

namespace Mo
open PySem PySem.Spec PyProof.Rows L2 MoL MoW
open C8 (pss_cut tCut)
section
variable {P : Program} {w : World} {K : PySem.W.Frag} {mg : Str → Option Value} {base : Heap} {A : Ad} {D : Fd}
/-! ### rows of ints: their product, their sum with a row, their end -/
def prdL (ts us : List Int) : List Int := (List.range (ts.length + us.length - 1)).map (cv ts us)
theorem prdL_len {ts us : List Int} : (prdL ts us).length = ts.length + us.length - 1 := by
  unfold prdL
  rw [List.length_map, List.length_range]
theorem cut_last (xs : List V) : cutV xs none (some (-1)) = xs.take (xs.length - 1) := by
  unfold cutV
  have e1 : HT.sIx xs.length 0 none = 0 := rfl
  have e2 : HT.sIx xs.length xs.length (some (-1)) = xs.length - 1 := by
    show (if (-1 : Int) < 0 then ((-1 : Int) + (xs.length : Int)).toNat else min (-1 : Int).toNat xs.length) = _
    rw [if_pos (by decide)]
    omega
  rw [e1, e2, Nat.sub_zero, List.drop_zero]
theorem cvL_prd {ts us : List Int} : ((cvL ts us (ts.length + us.length) ts.length 0).map V.int).take (ts.length + us.length - 1) = (prdL ts us).map V.int := by
  unfold cvL prdL
  rw [List.map_congr_left (fun i _ => cvP_all), ← List.map_take, ← List.map_take, List.take_range, Nat.min_eq_left (by omega)]
def sp_lmul : Sp := fun vs H Q _ => ∃ (la lb : Addr) (ts us : List Int) (e : Nat), vs = [.ref la, .ref lb] ∧ H la = some (.lst (ts.map V.int)) ∧ H lb = some (.lst (us.map V.int)) ∧ ts.length + us.length ≤ 60 ∧ 1 ≤ ts.length + us.length ∧ TopsB e ts ∧ TopsB e us ∧ e ≤ 1900 ∧
  ∀ H' d, Same H H' → H d = none → H' d = some (.lst ((prdL ts us).map V.int)) → Q (.ref d) H'
theorem ok__law_multiply (T : Txt K mg A D) : FnOk P w K mg base CX0 1 A.f__law_multiply D.f__law_multiply ["_law_one", "_law_other"] (sp_lmul) := by
  skip
  refine T.F__law_multiply.ok sc__law_multiply (fun vs H Q E h => ?_) (fun cdv A' outer s H vs Q E hr h => ?_)
  · obtain ⟨la, lb, ts, us, e, rfl, _⟩ := h
    rfl
  · obtain ⟨la, lb, ts, us, e, rfl, ha, hb, hn, hn1, bt, bu, he, q⟩ := h
    refine ⟨_, (pss_cons (ps_setLc (i := 2) (own := [("_law_k", 3)]) (g := gName 3) (tt := tYes) rfl sc__law_multiply.nd rfl rfl rfl (pi_range1 rfl T.z_range (pa_cons (pe_op op_add (pe_callB call_len_seq rfl T.z_len (by decide +kernel) (pa_cons (pv 0) pa_nil)) (pe_callB call_len_seq rfl T.z_len (by decide +kernel) (pa_cons (pv 1) pa_nil))) pa_nil)) (blkOk_by (N := N__law_multiply) (sc := defScope s__law_multiply) (by decide +kernel)) (fun _ _ _ _ _ => (pg_name (i := 3) sc__law_multiply.nd rfl (.inl rfl))) (fun _ _ _ _ _ => pts_nil) (fun _ _ _ _ _ => pe_int))
  (pss_cons (ps_for PassesOwn.never rfl (pi_range1 rfl T.z_range (pa_cons (pe_callB call_len_seq rfl T.z_len (by decide +kernel) (pa_cons (pv 0) pa_nil)) pa_nil)) (pg_name (i := 4) sc__law_multiply.nd rfl (.inl rfl)) (pss_one (ps_for PassesOwn.never rfl (pi_range1 rfl T.z_range (pa_cons (pe_callB call_len_seq rfl T.z_len (by decide +kernel) (pa_cons (pv 1) pa_nil)) pa_nil)) (pg_name (i := 5) sc__law_multiply.nd rfl (.inl rfl)) (pss_one (ps_asg (pe_op op_add (pe_ix ix_list (pv 2) (pe_op op_add (pv 4) (pv 5)) (fun _ _ => rfl)) (pe_op op_mulW (pe_ix ix_list (pv 0) (pv 4) (fun _ _ => rfl)) (pe_ix ix_list (pv 1) (pv 5) (fun _ _ => rfl)))) (pg_sub (pv 2) (pe_op op_add (pv 4) (pv 5)) set_list))))))
  (pss_one (ps_ret (pe_slice sl_list (pv 2) po_none (po_some (pe_un un_neg pe_int))))))), ?_⟩
    refine ⟨_, rfl, la, _, rfl, .inl (.of ha), _, rfl, lb, _, rfl, .inl (.of hb), _, _, rfl, rfl, _, rfl, by rw [List.length_map, List.length_map]; omega, by rw [List.length_map, List.length_map]; omega, fun d nd => ?_⟩
    have en : (((ts.map V.int).length : Nat) : Int).toNat = ts.length := by rw [List.length_map]; omega
    have em : (((us.map V.int).length : Nat) : Int).toNat = us.length := by rw [List.length_map]; omega
    rw [show ((((ts.map V.int).length : Nat) : Int) + (((us.map V.int).length : Nat) : Int)).toNat = ts.length + us.length by rw [List.length_map, List.length_map]; omega]
    refine lc_range (lo := 0) (fun j G => Same H G ∧ G d = some (.lst (List.replicate j (V.int 0)))) ⟨same_upd nd, upd_same⟩ ?_ ?_
    · rintro j G hj ⟨sm, hd⟩
      exact ⟨rfl, _, hd, by rw [List.length_replicate]; exact small1000 (by omega), same_push sm nd, by rw [upd_same, List.replicate_succ']⟩
    rintro G ⟨sm, hd⟩
    rw [← cvL_zero (ts := ts) (us := us)] at hd
    refine ⟨_, rfl, la, _, rfl, .inl (.of (sm _ _ ha)), _, rfl, by rw [List.length_map]; omega, by rw [List.length_map]; omega, ?_⟩
    rw [en]
    refine for_range (lo := 0) (fun k σ G => Same H G ∧ G d = some (.lst ((cvL ts us (ts.length + us.length) k 0).map V.int)) ∧ ∃ (y3 y4 y5 : Option V), σ = [some (.ref la), some (.ref lb), some (.ref d), y3, y4, y5]) ⟨sm, hd, _, _, _, rfl⟩ ?_ ?_
    · clear sm hd G
      rintro k σ G hk ⟨sm, hd, y3, y4, y5, rfl⟩
      refine ⟨_, rfl, lb, _, rfl, .inl (.of (sm _ _ hb)), _, rfl, by rw [List.length_map]; omega, by rw [List.length_map]; omega, ?_⟩
      rw [em]
      refine for_range (lo := 0) (fun j σ G => Same H G ∧ G d = some (.lst ((cvL ts us (ts.length + us.length) k j).map V.int)) ∧ ∃ (y5 : Option V), σ = [some (.ref la), some (.ref lb), some (.ref d), y3, some (.int (0 + (k : Int))), y5]) ⟨sm, hd, _, rfl⟩ ?_ ?_
      · clear sm hd G y5
        rintro j σ G hj ⟨sm, hd, y5, rfl⟩
        have ei : (0 + (k : Int)) + (0 + (j : Int)) = ((k + j : Nat) : Int) := by omega
        have hi : k + j < ts.length + us.length := by omega
        have hat : atI ((cvL ts us (ts.length + us.length) k j).map V.int) ((0 + (k : Int)) + (0 + (j : Int))) = some (V.int (cvP ts us k j (k + j))) := by
          rw [ei]
          refine atI_nat ?_
          rw [List.getElem?_map, cvL_at hi]
          rfl
        have hix : ixN ((cvL ts us (ts.length + us.length) k j).map V.int).length ((0 + (k : Int)) + (0 + (j : Int))) = some (k + j) := by
          rw [ei, List.length_map, cvL_len]
          show (if (0 : Int) ≤ ((k + j : Nat) : Int) then if ((k + j : Nat) : Int) < ((ts.length + us.length : Nat) : Int) then some (((k + j : Nat) : Int)).toNat else none else _) = _
          rw [if_pos (by omega), if_pos (by omega)]
          congr 1
        refine ⟨_, rfl, _, rfl, _, rfl, _, _, rfl, rfl, d, _, _, _, rfl, rfl, .of hd, hat, _, rfl, _, rfl, la, _, _, _, rfl, rfl, .of (sm _ _ ha), atI_getD (show k < ts.length by omega), _, rfl, _, rfl, lb, _, _, _, rfl, rfl, .of (sm _ _ hb), atI_getD (show j < us.length by omega), _, _, rfl, rfl, (sm_of (bt k) (by omega)).mul (sm_of (bu j) (by omega)), _, _, rfl, rfl, ?_⟩
        refine ⟨_, rfl, _, rfl, _, rfl, _, _, rfl, rfl, d, _, _, _, rfl, rfl, hd, hix, ?_⟩
        exact ⟨same_push sm nd, by rw [upd_same]; exact congrArg (fun z => some (HO.lst z)) (cvL_set hi), _, rfl⟩
      · clear sm hd G
        rintro σ G ⟨sm, hd, y5, rfl⟩
        refine ⟨sm, ?_, _, _, _, rfl⟩
        rw [← cvL_next]
        exact hd
    · clear sm hd G
      rintro σ G ⟨sm, hd, y3, y4, y5, rfl⟩
      refine ⟨_, rfl, _, rfl, _, rfl, d, _, rfl, .of hd, fun o no => q _ o (sm.trans (same_upd no)) (sm.free no) ?_⟩
      rw [upd_same]
      show some (HO.lst (cutV _ none (some (-1)))) = _
      rw [cut_last, List.length_map, cvL_len, cvL_prd]
def dotN (ts us : List Int) (k : Nat) : Int := ((List.range k).map fun j => ts.getD j 0 * us.getD j 0).sum
theorem dotN_succ {ts us : List Int} {k : Nat} : dotN ts us (k + 1) = dotN ts us k + ts.getD k 0 * us.getD k 0 := by
  unfold dotN
  rw [List.range_succ, List.map_append, List.sum_append]
  exact congrArg (_ + ·) (Int.add_zero _)
def sp_lmean : Sp := fun vs H Q _ => ∃ (la lb : Addr) (ts us : List Int) (e e2 : Nat), vs = [.ref la, .ref lb] ∧ H la = some (.lst (ts.map V.int)) ∧ H lb = some (.lst (us.map V.int)) ∧ ts.length ≤ us.length ∧ ts.length ≤ 1000 ∧ TopsB e ts ∧ TopsB e2 us ∧ e ≤ 3900 ∧ e2 ≤ 3900 ∧ Q (.int (dotN ts us ts.length)) H
theorem ok__law_mean (T : Txt K mg A D) : FnOk P w K mg base CX0 1 A.f__law_mean D.f__law_mean ["_law_poly", "_law_numbers"] (sp_lmean) := by
  skip
  refine T.F__law_mean.ok sc__law_mean (fun vs H Q E h => ?_) (fun cdv A' outer s H vs Q E hr h => ?_)
  · obtain ⟨la, lb, ts, us, e, e2, rfl, _⟩ := h
    rfl
  · obtain ⟨la, lb, ts, us, e, e2, rfl, ha, hb, hl, hn, bt, bu, he, he2, q⟩ := h
    refine ⟨_, (pss_cons (ps_set (i := 2) sc__law_mean.nd rfl (.inl rfl) pe_int)
  (pss_cons (ps_for PassesOwn.never rfl (pi_range1 rfl T.z_range (pa_cons (pe_callB call_len_seq rfl T.z_len (by decide +kernel) (pa_cons (pv 0) pa_nil)) pa_nil)) (pg_name (i := 3) sc__law_mean.nd rfl (.inl rfl)) (pss_one (ps_set (i := 2) sc__law_mean.nd rfl (.inl rfl) (pe_op op_add (pv 2) (pe_op op_mulW (pe_ix ix_list (pv 0) (pv 3) (fun _ _ => rfl)) (pe_ix ix_list (pv 1) (pv 3) (fun _ _ => rfl)))))))
  (pss_one (ps_ret (pv 2))))), ?_⟩
    refine ⟨_, rfl, la, _, rfl, .inl (.of ha), _, rfl, by rw [List.length_map]; omega, by rw [List.length_map]; omega, ?_⟩
    rw [show (((ts.map V.int).length : Nat) : Int).toNat = ts.length by rw [List.length_map]; omega]
    refine for_range (lo := 0) (fun k σ G => G = H ∧ ∃ (y3 : Option V), σ = [some (.ref la), some (.ref lb), some (.int (dotN ts us k)), y3]) ⟨rfl, _, rfl⟩ ?_ ?_
    · rintro k σ G hk ⟨rfl, y3, rfl⟩
      refine ⟨_, rfl, _, rfl, _, rfl, la, _, _, _, rfl, rfl, .of ha, atI_getD (show k < ts.length by omega), _, rfl, _, rfl, lb, _, _, _, rfl, rfl, .of hb, atI_getD (show k < us.length by omega), _, _, rfl, rfl, (sm_of (bt k) (by omega)).mul (sm_of (bu k) (by omega)), _, _, rfl, rfl, ?_⟩
      exact ⟨rfl, _, by rw [dotN_succ]; rfl⟩
    · rintro σ G ⟨rfl, y3, rfl⟩
      exact ⟨_, rfl, q⟩
def sp_ltrim : Sp := fun vs H Q _ => ∃ (la : Addr) (ts : List Int), vs = [.ref la] ∧ H la = some (.lst (ts.map V.int)) ∧ ts.length ≤ 1000 ∧
  ∀ H' d m, Same H H' → H d = none → m ≤ ts.length → (∀ k, m ≤ k → ts.getD k 0 = 0) → (0 < m → ts.getD (m - 1) 0 ≠ 0) → H' d = some (.lst ((ts.take m).map V.int)) → Q (.ref d) H'
theorem ok__law_trim (T : Txt K mg A D) : FnOk P w K mg base CX0 1 A.f__law_trim D.f__law_trim ["_law_row_here"] (sp_ltrim) := by
  skip
  refine T.F__law_trim.ok sc__law_trim (fun vs H Q E h => ?_) (fun cdv A' outer s H vs Q E hr h => ?_)
  · obtain ⟨la, ts, rfl, _⟩ := h
    rfl
  · obtain ⟨la, ts, rfl, ha, hn, q⟩ := h
    refine ⟨_, (pss_cons (ps_set (i := 1) sc__law_trim.nd rfl (.inl rfl) (pe_callB call_len_seq rfl T.z_len (by decide +kernel) (pa_cons (pv 0) pa_nil)))
  (pss_cons (ps_for PassesOwn.never rfl (pi_range1 rfl T.z_range (pa_cons (pe_callB call_len_seq rfl T.z_len (by decide +kernel) (pa_cons (pv 0) pa_nil)) pa_nil)) (pg_name (i := 2) sc__law_trim.nd rfl (.inl rfl)) (pss_one (ps_if (PW.pt (pw_and (pt_cmpR op_eq (pv 1) (pe_op op_sub (pe_callB call_len_seq rfl T.z_len (by decide +kernel) (pa_cons (pv 0) pa_nil)) (pv 2)) (nomark _)) (pw_and1 (pt_cmpR op_eq (pe_ix ix_list (pv 0) (pe_op op_sub (pv 1) pe_int) (fun _ _ => rfl)) pe_int (nomark _))))) (pss_one (ps_set (i := 1) sc__law_trim.nd rfl (.inl rfl) (pe_op op_sub (pv 1) pe_int))) pss_nil)))
  (pss_one (ps_ret (pe_slice sl_list (pv 0) po_none (po_some (pv 1))))))), ?_⟩
    refine ⟨_, rfl, la, _, rfl, .inl (.of ha), ?_⟩
    refine ⟨_, rfl, la, _, rfl, .inl (.of ha), _, rfl, by rw [List.length_map]; omega, by rw [List.length_map]; omega, ?_⟩
    rw [show (((ts.map V.int).length : Nat) : Int).toNat = ts.length by rw [List.length_map]; omega]
    refine for_range (lo := 0) (fun i σ G => G = H ∧ ∃ (m : Nat) (y2 : Option V), σ = [some (.ref la), some (.int (m : Int)), y2] ∧ m ≤ ts.length ∧ (∀ k, m ≤ k → ts.getD k 0 = 0) ∧ ts.length ≤ m + i ∧ (ts.length < m + i → ts.getD (m - 1) 0 ≠ 0)) ⟨rfl, ts.length, _, by rw [List.length_map]; rfl, Nat.le_refl _, fun k hk => by rw [List.getD_eq_getElem?_getD, List.getElem?_eq_none hk]; rfl, Nat.le_refl _, fun c => absurd c (Nat.lt_irrefl _)⟩ ?_ ?_
    · rintro i σ G hi ⟨rfl, m, y2, rfl, m0, m1, m2, m3⟩
      refine ⟨_, rfl, _, rfl, la, _, rfl, .inl (.of ha), _, rfl, _, _, rfl, rfl, rfl, _, rfl, ite2 (fun c => ?_) (fun c => iteF ?_)⟩
      · have c' : (m : Int) = (((ts.map V.int).length : Nat) : Int) - (0 + (i : Int)) := V.int.inj (of_decide_eq_true c)
        rw [List.length_map] at c'
        have hat : atI (ts.map V.int) ((m : Int) - 1) = some (V.int (ts.getD (m - 1) 0)) := by
          rw [show (m : Int) - 1 = ((m - 1 : Nat) : Int) by omega]
          exact atI_nat (int_at (by omega))
        refine ⟨_, rfl, _, rfl, _, _, rfl, rfl, la, _, _, _, rfl, rfl, .of ha, hat, rfl, _, rfl, ite2 (fun c2 => ?_) (fun c2 => ?_)⟩
        · have z : ts.getD (m - 1) 0 = 0 := V.int.inj (of_decide_eq_true c2)
          refine ⟨_, rfl, _, _, rfl, rfl, rfl, m - 1, _, by rw [show ((m - 1 : Nat) : Int) = (m : Int) - 1 by omega]; rfl, by omega, fun k hk => ?_, by omega, fun x => by omega⟩
          rcases (by omega : k = m - 1 ∨ m ≤ k) with e | e
          · rw [e]; exact z
          · exact m1 k e
        · exact ⟨rfl, m, _, rfl, m0, m1, by omega, fun _ e => c2 (decide_eq_true (congrArg V.int e))⟩
      · have c' : ¬ (m : Int) = (((ts.map V.int).length : Nat) : Int) - (0 + (i : Int)) := fun e => c (decide_eq_true (congrArg V.int e))
        rw [List.length_map] at c'
        exact ⟨rfl, m, _, rfl, m0, m1, by omega, fun _ => m3 (by omega)⟩
    · rintro σ G ⟨rfl, m, y2, rfl, m0, m1, m2, m3⟩
      refine ⟨_, rfl, _, rfl, _, rfl, la, _, rfl, .of ha, fun o no => q _ o m (same_upd no) no m0 m1 (fun c => m3 (by omega)) ?_⟩
      rw [upd_same]
      show some (HO.lst (cutV _ none (some (m : Int)))) = _
      rw [cut_to, List.map_take]
end

end Mo

namespace Mo
open PySem PySem.Spec PyProof.Rows L2 MoL MoW
open C8 (pss_cut tCut)
section
variable {P : Program} {w : World} {K : PySem.W.Frag} {mg : Str → Option Value} {base : Heap} {A : Ad} {D : Fd}
theorem qv_pos {p b : Int} (hb : 0 < b) (hp : 0 < p) : 0 < qv (p, b) := by
  have h := qv_mul (p := (p, b)) (show b ≠ 0 by omega)
  have h : qv (p, b) * (b : Rat) = (p : Rat) := h
  have hb' : (0 : Rat) < (b : Rat) := by exact_mod_cast hb
  have hp' : (0 : Rat) < (p : Rat) := by exact_mod_cast hp
  refine Rat.not_le.mp fun z => ?_
  have z2 : 0 ≤ -qv (p, b) := by grind
  have := Rat.mul_nonneg z2 (Rat.le_of_lt hb')
  rw [Rat.neg_mul, h] at this
  grind
theorem qv_sub {x y b : Int} (hb : 0 < b) : qv (x, b) - qv (y, b) = qv (x - y, b) := by
  have b0 : b ≠ 0 := by omega
  have h1 := qv_mul (p := (x, b)) b0
  have h2 := qv_mul (p := (y, b)) b0
  have h1 : qv (x, b) * (b : Rat) = (x : Rat) := h1
  have h2 : qv (y, b) * (b : Rat) = (y : Rat) := h2
  refine (div_eq b0 ?_).symm
  rw [Rat.intCast_sub, ← h1, ← h2]
  grind
end
section
variable {P : Program} {w : World} {K : PySem.W.Frag} {mg : Str → Option Value} {base : Heap} {A : Ad} {D : Fd}
/-! ### places -/
def EndV (A : Ad) (H : Hp) (v : V) : Option Rat → Prop
  | none => v = .non
  | some z => RatV A.Ratio H v z
theorem EndV.same {A : Ad} {H H' : Hp} {v : V} : ∀ {o : Option Rat}, EndV A H v o → Same H H' → EndV A H' v o
  | none, h, _ => h
  | some _, h, k => RatV.same h k
def PlaceV (A : Ad) (H : Hp) (v : V) (lo hi : Option Rat) : Prop := ∃ a dx l h, v = .ref a ∧ H a = some (.ins A.Place dx [("low", l), ("high", h)]) ∧ EndV A H l lo ∧ EndV A H h hi
theorem PlaceV.same {A : Ad} {H H' : Hp} {v : V} {lo hi : Option Rat} (h : PlaceV A H v lo hi) (k : Same H H') : PlaceV A H' v lo hi := by
  obtain ⟨a, dx, l, u, e, h1, h2, h3⟩ := h
  exact ⟨a, dx, l, u, e, k _ _ h1, h2.same k, h3.same k⟩
/-- the high end has a low end below it -/
def OkEnds (lo hi : Option Rat) : Prop := ∀ w, hi = some w → ∃ z, lo = some z ∧ z < w
theorem nn_ref {a : Addr} : (!decide (V.ref a = V.non)) = true := by rw [decide_eq_false fun z => by cases z]; rfl
theorem nn_non : (!decide (V.non = V.non)) = false := by rw [decide_eq_true rfl]; rfl
theorem is_ref {a : Addr} : decide (V.ref a = V.non) = false := decide_eq_false fun z => by cases z
theorem EndV.keep {A : Ad} {H G : Hp} {x : Addr} {o : HO} {v : V} (hx : H x = some o) (ne : ∀ dx z, ratO A.Ratio dx z ≠ o) (k : ∀ b u, b ≠ x → H b = some u → G b = some u) : ∀ {e : Option Rat}, EndV A H v e → EndV A G v e
  | none, h => h
  | some _, h => RatV.keep h hx ne k
def sp_place (K : PySem.W.Frag) (A : Ad) : Sp := fun vs H Q _ => ∃ (x dx : Addr) (l h : V) (lo hi : Option Rat), vs = [.ref x, l, h] ∧ H x = some (.ins A.Place dx []) ∧ EndV A H l lo ∧ EndV A H h hi ∧ (∀ z, lo = some z → Bd 3900 3900 z) ∧ (∀ z, hi = some z → Bd 3900 3900 z) ∧ OkEnds lo hi ∧
  ∀ G, (∀ b o, b ≠ x → H b = some o → G b = some o) → PlaceV A G (.ref x) lo hi → Q .non G
theorem rat_ne_lo {C C' d : Addr} {v : V} {r : List (Str × V)} : ∀ dx z, ratO C dx z ≠ .ins C' d (("low", v) :: r) := fun _ _ w => by
  have h : ("top" : Str) = "low" := congrArg Prod.fst (List.cons.inj (HO.ins.inj w).2.2).1
  exact absurd h (by decide)
theorem ok_Place___init__ (T : Txt K mg A D) : FnOk P w K mg base CX0 6 A.f_Place___init__ D.f_Place___init__ ["self", "low", "high"] (sp_place K A) := by
  have G_Ratio___ge__ : FnOk P w K mg base CX0 3 A.f_Ratio___ge__ D.f_Ratio___ge__ ["self", "other"] (sp_cmp A.Ratio r_ge) := ok_Ratio___ge__ T
  have G_is_number : FnOk P w K mg base CX0 2 A.f_is_number D.f_is_number ["x"] (sp_isnum K A.Ratio) := ok_is_number T
  have G_ratio_of : FnOk P w K mg base CX0 4 A.f_ratio_of D.f_ratio_of ["number"] (sp_ratio_of A.Ratio) := ok_ratio_of T
  refine T.F_Place___init__.ok sc_Place___init__ (fun vs H Q E h => ?_) (fun cdv A' outer s H vs Q E hr h => ?_)
  · obtain ⟨x, dx, l, h, lo, hi, rfl, _⟩ := h
    rfl
  · obtain ⟨x, dx, l, u, lo, hi, rfl, hx, el, eh, bl, bh, ok, q⟩ := h
    refine ⟨_, (pss_cons (ps_if (PW.pt (pw_and (pt_cmpR op_notN (pv 1) pe_non (nomark _)) (pw_and1 (pt_not (pt_val (pe_call G_is_number (hr.mono (by decide)) rfl T.g_is_number T.F_is_number.kp T.b_is_number .nil pass0 (pa_cons (pv 1) pa_nil))))))) (pss_one ps_never) pss_nil)
  (pss_cons (ps_if (PW.pt (pw_and (pt_cmpR op_notN (pv 2) pe_non (nomark _)) (pw_and1 (pt_not (pt_val (pe_call G_is_number (hr.mono (by decide)) rfl T.g_is_number T.F_is_number.kp T.b_is_number .nil pass0 (pa_cons (pv 2) pa_nil))))))) (pss_one ps_never) pss_nil)
  (pss_cons (ps_if (PW.pt (pw_and (pt_cmpR op_notN (pv 2) pe_non (nomark _)) (pw_and1 (PW.pt (pw_or (pt_cmpR op_isN (pv 1) pe_non (nomark _)) (pw_or1 (pt_cmpR (op_ge_own T.k_Ratio.ow T.m_Ratio___ge__ G_Ratio___ge__ (hr.mono (by decide)) T.b_Ratio___ge__ pass0) (pv 1) (pv 2) (nomark _)))))))) (pss_one ps_never) pss_nil)
  (pss_cons (ps_fld (pv 0) (pe_ifExp (pt_cmpR op_isN (pv 1) pe_non (nomark _)) pe_non (pe_call G_ratio_of (hr.mono (by decide)) rfl T.g_ratio_of T.F_ratio_of.kp T.b_ratio_of .nil pass0 (pa_cons (pv 1) pa_nil))) rfl)
  (pss_one (ps_fld (pv 0) (pe_ifExp (pt_cmpR op_isN (pv 2) pe_non (nomark _)) pe_non (pe_call G_ratio_of (hr.mono (by decide)) rfl T.g_ratio_of T.F_ratio_of.kp T.b_ratio_of .nil pass0 (pa_cons (pv 2) pa_nil))) rfl)))))), ?_⟩
    have cl := T.k_Place.cl
    have two : ∀ (G : Hp) (l' u' : V), G x = some (.ins A.Place dx []) → EndV A G l' lo → EndV A G u' hi → Same H G → Q .non (upd (upd G x (.ins A.Place dx [("low", l')])) x (.ins A.Place dx [("low", l'), ("high", u')])) := fun G l' u' gx e1 e2 k => by
      rw [upd_upd]
      have kk : ∀ b o, b ≠ x → G b = some o → upd G x (.ins A.Place dx [("low", l'), ("high", u')]) b = some o := upd_but
      exact q _ (fun b o hb h => kk b o hb (k _ _ h)) ⟨x, dx, l', u', rfl, upd_same, e1.keep gx rat_ne_nil kk, e2.keep gx rat_ne_nil kk⟩
    cases lo with
    | none =>
      cases hi with
      | some w =>
        obtain ⟨z, hz, _⟩ := ok w rfl
        cases hz
      | none =>
        cases (show l = .non from el)
        cases (show u = .non from eh)
        refine ⟨_, rfl, rfl, _, rfl, iteFe nn_non ?_⟩
        refine ⟨_, rfl, rfl, _, rfl, iteFe nn_non ?_⟩
        refine ⟨_, rfl, rfl, _, rfl, iteFe nn_non ?_⟩
        refine ⟨_, rfl, rfl, _, rfl, iteT ?_⟩
        refine ⟨_, rfl, x, A.Place, dx, _, rfl, hx, cl, T.n_Place_low, (by show 0 < 1000; decide), ?_⟩
        refine ⟨_, rfl, rfl, _, rfl, iteT ?_⟩
        exact ⟨_, rfl, x, A.Place, dx, _, rfl, upd_same, cl, T.n_Place_high, (by show 1 < 1000; decide), two H .non .non hx rfl rfl (Same.refl H)⟩
    | some z =>
      have el : RatV A.Ratio H l z := el
      obtain ⟨la, ld, e0, hla⟩ := id el
      subst e0
      have lk := el.num.kind
      cases hi with
      | none =>
        cases (show u = .non from eh)
        refine ⟨_, rfl, rfl, _, rfl, iteTe nn_ref ⟨_, rfl, _, rfl, .inl ⟨lk, true, rfl, iteF ?_⟩⟩⟩
        refine ⟨_, rfl, rfl, _, rfl, iteFe nn_non ?_⟩
        refine ⟨_, rfl, rfl, _, rfl, iteFe nn_non ?_⟩
        refine ⟨_, rfl, rfl, _, rfl, iteFe is_ref ⟨_, rfl, _, _, rfl, el.num, fun H1 v1 k1 r1 => ?_⟩⟩
        refine ⟨_, rfl, x, A.Place, dx, _, rfl, k1 _ _ hx, cl, T.n_Place_low, (by show 0 < 1000; decide), ?_⟩
        refine ⟨_, rfl, rfl, _, rfl, iteT ?_⟩
        exact ⟨_, rfl, x, A.Place, dx, _, rfl, upd_same, cl, T.n_Place_high, (by show 1 < 1000; decide), two H1 v1 .non (k1 _ _ hx) r1 rfl k1⟩
      | some w =>
        have eh : RatV A.Ratio H u w := eh
        obtain ⟨ua, ud, e0, hua⟩ := id eh
        subst e0
        have uk := eh.num.kind
        have zw : z < w := by
          obtain ⟨z', hz, h⟩ := ok w rfl
          cases hz
          exact h
        refine ⟨_, rfl, rfl, _, rfl, iteTe nn_ref ⟨_, rfl, _, rfl, .inl ⟨lk, true, rfl, iteF ?_⟩⟩⟩
        refine ⟨_, rfl, rfl, _, rfl, iteTe nn_ref ⟨_, rfl, _, rfl, .inl ⟨uk, true, rfl, iteF ?_⟩⟩⟩
        refine ⟨_, rfl, rfl, _, rfl, iteTe nn_ref ⟨_, rfl, rfl, _, rfl, iteFe is_ref ⟨_, rfl, _, rfl, el.ins, .inr eh.ins, _, _, z, w, rfl, el, eh.num, bl z rfl, bh w rfl, ?_⟩⟩⟩
        have e1 : r_ge z w = false := decide_eq_false (Rat.not_le.mpr zw)
        refine ⟨false, by rw [e1], iteF ?_⟩
        refine ⟨_, rfl, rfl, _, rfl, iteFe is_ref ⟨_, rfl, _, _, rfl, el.num, fun H1 v1 k1 r1 => ?_⟩⟩
        have hx1 := k1 _ _ hx
        refine ⟨_, rfl, x, A.Place, dx, _, rfl, hx1, cl, T.n_Place_low, (by show 0 < 1000; decide), ?_⟩
        have kk : ∀ b o, b ≠ x → H1 b = some o → upd H1 x (.ins A.Place dx [("low", v1)]) b = some o := upd_but
        have r1' := r1.keep hx1 rat_ne_nil kk
        have eh1 := (eh.same k1).keep hx1 rat_ne_nil kk
        have hx2 : upd H1 x (.ins A.Place dx [("low", v1)]) x = some (.ins A.Place dx [("low", v1)]) := upd_same
        have kf : ∀ b o, b ≠ x → H b = some o → upd H1 x (.ins A.Place dx [("low", v1)]) b = some o := fun b o hb h => kk b o hb (k1 _ _ h)
        show tSeq _ _ _ _ (upd H1 x (.ins A.Place dx [("low", v1)]))
        generalize upd H1 x (.ins A.Place dx [("low", v1)]) = H2 at *
        refine ⟨_, rfl, rfl, _, rfl, iteFe is_ref ⟨_, rfl, _, _, rfl, eh1.num, fun H3 v3 k3 r3 => ?_⟩⟩
        have hx3 := k3 _ _ hx2
        refine ⟨_, rfl, x, A.Place, dx, _, rfl, hx3, cl, T.n_Place_high, (by show 1 < 1000; decide), ?_⟩
        have k4 : ∀ b o, b ≠ x → H3 b = some o → upd H3 x (.ins A.Place dx [("low", v1), ("high", v3)]) b = some o := upd_but
        exact q _ (fun b o hb h => k4 b o hb (k3 _ _ (kf b o hb h))) ⟨x, dx, v1, v3, rfl, upd_same, (r1'.same k3).keep hx3 rat_ne_lo k4, r3.keep hx3 rat_ne_lo k4⟩
/-- the making of a Place -/
theorem place_make {H : Hp} {E : XK} {x dx : Addr} {l h : V} {lo hi : Option Rat} {Q : Hp → Prop} (nx : H x = none) (nd : H dx = none) (el : EndV A H l lo) (eh : EndV A H h hi) (bl : ∀ z, lo = some z → Bd 3900 3900 z) (bh : ∀ z, hi = some z → Bd 3900 3900 z) (ok : OkEnds lo hi)
    (q : ∀ G, Same H G → PlaceV A G (.ref x) lo hi → Q G) : sp_place K A [.ref x, l, h] (upd (upd H dx (.own x)) x (.ins A.Place dx [])) (fun v G => v = .non ∧ Q G) E := by
  have s0 : Same H (upd (upd H dx (.own x)) x (.ins A.Place dx [])) := same_upd' (same_upd nd) nx
  exact ⟨x, dx, l, h, lo, hi, rfl, upd_same, el.same s0, eh.same s0, bl, bh, ok, fun G k pl => ⟨rfl, q G (made_but nx nd k) pl⟩⟩
/-! ### the place of a scene -/
def scLo (S : Scene) : Option Rat := if 0 < S.shape then some (qv (S.low, S.bottom)) else none
def scHi (S : Scene) : Option Rat := if S.shape = 2 then some (qv (S.high, S.bottom)) else none
theorem sc_bd {z b : Int} (hz : z.natAbs ≤ 3000000) (h0 : 1 ≤ b) (h1 : b ≤ 1000) : Bd 3900 3900 (qv (z, b)) := by
  have h : Bd 22 10 (qv (z, b)) := .of (p := z) (q := b) (by omega) (qv_mul (p := (z, b)) (by omega)) (show z.natAbs < 2 ^ 22 by omega) (show b.natAbs < 2 ^ 10 by omega)
  exact h.mono (by decide) (by decide)
theorem sc_ends {m : Nat} {S : Scene} (ok : SceneOk m S) : OkEnds (scLo S) (scHi S) := fun w hw => by
  have h0 := ok.h0
  have b0 := ok.b0
  unfold scHi at hw
  by_cases c : S.shape = 2
  · rw [if_pos c] at hw
    cases hw
    refine ⟨qv (S.low, S.bottom), if_pos (by omega), ?_⟩
    have := qv_pos (p := S.high - S.low) (b := S.bottom) (by omega) (by omega)
    rw [← qv_sub (by omega)] at this
    grind
  · rw [if_neg c] at hw
    cases hw
def sp_lplace (A : Ad) : Sp := fun vs H Q _ => ∃ (S : Scene) (m : Nat), vs = [.int S.shape, .int S.low, .int S.high, .int S.bottom] ∧ SceneOk m S ∧ ∀ H' v, Same H H' → PlaceV A H' v (scLo S) (scHi S) → Q v H'
theorem ok__law_place (T : Txt K mg A D) : FnOk P w K mg base CX0 8 A.f__law_place D.f__law_place ["_law_shape", "_law_low", "_law_high", "_law_bottom"] (sp_lplace A) := by
  have G_Place_init : FnOk P w K mg base CX0 6 A.f_Place___init__ D.f_Place___init__ ["self", "low", "high"] (sp_place K A) := ok_Place___init__ T
  obtain ⟨ds0, d_Place_init0, b_Place_init0⟩ := T.b2_Place___init__
  obtain ⟨ds1, d_Place_init1, b_Place_init1⟩ := T.b1_Place___init__
  have b_Place_init2 := T.b_Place___init__
  have d_Place_init2 : Vals [] [] := .nil
  have G_Ratio_init : FnOk P w K mg base CX0 2 A.f_Ratio___init__ D.f_Ratio___init__ ["self", "top", "bottom"] (sp_init A.Ratio) := ok_Ratio___init__ T
  have b_Ratio_init2 := T.b_Ratio___init__
  have d_Ratio_init2 : Vals [] [] := .nil
  refine T.F__law_place.ok sc__law_place (fun vs H Q E h => ?_) (fun cdv A' outer s H vs Q E hr h => ?_)
  · obtain ⟨S, m, rfl, _⟩ := h
    rfl
  · obtain ⟨S, m, rfl, ok, q⟩ := h
    refine ⟨_, (pss_cons (ps_if (pt_cmpR op_eq (pv 0) pe_int (nomark _)) (pss_one (ps_ret (pe_make0 T.M_Place G_Place_init (hr.mono (by decide)) rfl T.g_Place b_Place_init0 d_Place_init0 pass0))) pss_nil)
  (pss_cons (ps_if (pt_cmpR op_eq (pv 0) pe_int (nomark _)) (pss_one (ps_ret (pe_make T.M_Place G_Place_init (hr.mono (by decide)) rfl T.g_Place b_Place_init1 d_Place_init1 pass0 (pa_cons (pe_make T.M_Ratio G_Ratio_init (hr.mono (by decide)) rfl T.g_Ratio b_Ratio_init2 d_Ratio_init2 pass0 (pa_cons (pv 1) (pa_cons (pv 3) pa_nil))) pa_nil)))) pss_nil)
  (pss_one (ps_ret (pe_make T.M_Place G_Place_init (hr.mono (by decide)) rfl T.g_Place b_Place_init2 d_Place_init2 pass0 (pa_cons (pe_make T.M_Ratio G_Ratio_init (hr.mono (by decide)) rfl T.g_Ratio b_Ratio_init2 d_Ratio_init2 pass0 (pa_cons (pv 1) (pa_cons (pv 3) pa_nil))) (pa_cons (pe_make T.M_Ratio G_Ratio_init (hr.mono (by decide)) rfl T.g_Ratio b_Ratio_init2 d_Ratio_init2 pass0 (pa_cons (pv 2) (pa_cons (pv 3) pa_nil))) pa_nil))))))), ?_⟩
    have b0 := ok.b0
    have b1 := ok.b1
    have l0 := ok.l0
    have h0 := ok.h0
    have h1 := ok.h1
    have sh0 := ok.sh0
    have sh1 := ok.sh1
    have bne : S.bottom ≠ 0 := by omega
    have sb : Sm S.bottom := sS (by omega)
    have lbd : Bd 3900 3900 (qv (S.low, S.bottom)) := sc_bd (by omega) b0 b1
    have ubd : Bd 3900 3900 (qv (S.high, S.bottom)) := sc_bd (by omega) b0 b1
    have oke := sc_ends ok
    refine ⟨_, rfl, rfl, _, rfl, ite2 (fun c => ?_) (fun c => ?_)⟩
    · have c := V.int.inj (of_decide_eq_true c)
      refine fun x dx nx nd ne => place_make (lo := none) (hi := none) nx nd rfl rfl (fun z hz => by cases hz) (fun z hz => by cases hz) (fun w hw => by cases hw) fun G k hv => q _ _ k ?_
      have e1 : scLo S = none := if_neg (by omega)
      have e2 : scHi S = none := if_neg (by omega)
      rw [e1, e2]
      exact hv
    have c : S.shape ≠ 0 := fun e => c (decide_eq_true (congrArg V.int e))
    have e1 : scLo S = some (qv (S.low, S.bottom)) := if_pos (by omega)
    refine ⟨_, rfl, rfl, _, rfl, ite2 (fun c2 => ?_) (fun c2 => ?_)⟩
    · have c2 := V.int.inj (of_decide_eq_true c2)
      have e2 : scHi S = none := if_neg (by omega)
      refine ⟨_, rfl, _, rfl, fun xr dr nr ndr ner => rat_make bne sb nr ndr ner fun G1 k1 r1 => ?_⟩
      refine fun x dx nx nd ne => place_make (lo := some (qv (S.low, S.bottom))) (hi := none) nx nd r1 rfl (fun z hz => by cases hz; exact lbd) (fun z hz => by cases hz) (fun w hw => by cases hw) fun G k hv => q _ _ (k1.trans k) ?_
      rw [e1, e2]
      exact hv
    have c2 : S.shape ≠ 1 := fun e => c2 (decide_eq_true (congrArg V.int e))
    have e2 : scHi S = some (qv (S.high, S.bottom)) := if_pos (by omega)
    rw [e1, e2] at q oke
    refine ⟨_, rfl, _, rfl, fun xr dr nr ndr ner => rat_make bne sb nr ndr ner fun G1 k1 r1 => ?_⟩
    refine ⟨_, rfl, _, rfl, fun xr2 dr2 nr2 ndr2 ner2 => rat_make bne sb nr2 ndr2 ner2 fun G2 k2 r2 => ?_⟩
    exact fun x dx nx nd ne => place_make (lo := some (qv (S.low, S.bottom))) (hi := some (qv (S.high, S.bottom))) nx nd (r1.same k2) r2 (fun z hz => by cases hz; exact lbd) (fun z hz => by cases hz; exact ubd) oke fun G k hv => q _ _ ((k1.trans k2).trans k) hv
end

end Mo

namespace Mo
open PySem PySem.Spec PyProof.Rows L2 MoL MoW
open C8 (pss_cut tCut)
section
variable {P : Program} {w : World} {K : PySem.W.Frag} {mg : Str → Option Value} {base : Heap} {A : Ad} {D : Fd}
def sp_rown (C : Addr) : Sp := fun vs H Q _ => ∃ v xs f, vs = [v] ∧ SeqAt H v xs ∧ NumsV C H xs f ∧ 0 < xs.length ∧ xs.length ≤ 13 ∧
  ∀ H' d ys, Same H H' → H d = none → H' d = some (.lst ys) → ys.length = xs.length → RatsV C H' ys f → Q (.ref d) H'
theorem ok_row_numbers (T : Txt K mg A D) : FnOk P w K mg base CX0 6 A.f_row_numbers D.f_row_numbers ["row"] (sp_rown A.Ratio) := by
  obtain ⟨tok_MOST_NUMBERS, gc_MOST_NUMBERS⟩ := T.g_MOST_NUMBERS
  have G_is_number : FnOk P w K mg base CX0 2 A.f_is_number D.f_is_number ["x"] (sp_isnum K A.Ratio) := ok_is_number T
  have G_ratio_of : FnOk P w K mg base CX0 4 A.f_ratio_of D.f_ratio_of ["number"] (sp_ratio_of A.Ratio) := ok_ratio_of T
  refine T.F_row_numbers.ok sc_row_numbers (fun vs H Q E h => ?_) (fun cdv A' outer s H vs Q E hr h => ?_)
  · obtain ⟨v, xs, f, rfl, _⟩ := h
    rfl
  · obtain ⟨v, xs, f, rfl, ⟨a, rfl, ha⟩, rr, l0, l1, q⟩ := h
    refine ⟨_, (pss_cons (ps_if (PW.pt (pw_or (pt_not (pt_val (pe_callB call_isiT rfl T.z_isinstance (by decide +kernel) (pa_cons (pv 0) (pa_cons (pe_tup (pa_cons (pe_bltn (v := .ty "list") rfl T.z_list (by decide +kernel) rfl) (pa_cons (pe_bltn (v := .ty "tuple") rfl T.z_tuple (by decide +kernel) rfl) pa_nil))) pa_nil))))) (pw_or (pt_cmpR op_eq (pe_callB call_len_seq rfl T.z_len (by decide +kernel) (pa_cons (pv 0) pa_nil)) pe_int (nomark _)) (pw_or1 (pt_cmpR op_gt (pe_callB call_len_seq rfl T.z_len (by decide +kernel) (pa_cons (pv 0) pa_nil)) (pe_glob (v := .int 13) rfl gc_MOST_NUMBERS ⟨_, rfl⟩) (nomark _)))))) (pss_one ps_never) pss_nil)
  (pss_cons (ps_for PassesOwn.never rfl (pi_range1 rfl T.z_range (pa_cons (pe_callB call_len_seq rfl T.z_len (by decide +kernel) (pa_cons (pv 0) pa_nil)) pa_nil)) (pg_name (i := 1) sc_row_numbers.nd rfl (.inl rfl)) (pss_one (ps_if (pt_not (pt_val (pe_call G_is_number (hr.mono (by decide)) rfl T.g_is_number T.F_is_number.kp T.b_is_number .nil pass0 (pa_cons (pe_ix (ix_list.or ix_tup) (pv 0) (pv 1) (fun _ _ => rfl)) pa_nil)))) (pss_one ps_never) pss_nil)))
  (pss_one (ps_ret (pe_lc (own := [("number", 2)]) (g := gName 2) (tt := tYes) rfl sc_row_numbers.nd (pi_or (pi_list (pv 0)) (pi_tup (pv 0))) (blkOk_by (N := N_row_numbers) (sc := defScope s_row_numbers) (by decide +kernel)) (fun _ _ _ _ _ => (pg_name (i := 2) sc_row_numbers.nd rfl (.inl rfl))) (fun _ _ _ _ _ => pts_nil) (fun _ _ _ _ _ => (pe_call G_ratio_of (hr.mono (by decide)) rfl T.g_ratio_of T.F_ratio_of.kp T.b_ratio_of .nil pass0 (pa_cons (pv 2) pa_nil)))))))), ?_⟩
    refine ⟨_, rfl, by show 2 ≤ sizeLine; decide, fun tp nt => ?_⟩
    have s1 : Same H (upd H tp (.tup [.ty "list", .ty "tuple"])) := same_upd nt
    have ha1 := ha.imp (s1 a _) (s1 a _)
    obtain ⟨t, ty, ka⟩ := kit_seq (K := K) ha1
    refine ⟨.ref a, tp, _, t, _, true, rfl, upd_same, .cons (.ty _) (.cons (.ty _) .nil), ty, ka, true, rfl, iteF ?_⟩
    have rr1 := rr.same s1
    clear ty ka rr
    generalize upd H tp (.tup [.ty "list", .ty "tuple"]) = H1 at s1 ha1 rr1
    have sq : SqL K H1 a xs ∨ SqT K H1 a xs := ha1.imp SqL.of SqT.of
    refine ⟨_, rfl, a, xs, rfl, sq, rfl, _, rfl, iteFe (decide_eq_false fun z => by have := V.int.inj z; omega) ?_⟩
    refine ⟨_, rfl, a, xs, rfl, sq, _, _, rfl, rfl, _, rfl, iteFe (decide_eq_false (by omega)) ?_⟩
    refine ⟨_, rfl, a, xs, rfl, sq, _, rfl, by omega, by omega, ?_⟩
    refine for_range (lo := 0) (fun i σ H' => H' = H1 ∧ ∃ y : Option V, σ = [some (.ref a), y, none]) ⟨rfl, _, rfl⟩ ?_ ?_
    · rintro i σ H' hi ⟨rfl, y, rfl⟩
      have hl : i < xs.length := by omega
      have hx := List.getElem?_eq_getElem hl
      have hat : atI xs (0 + (i : Int)) = some xs[i] := at_get hx
      have hk := (rr1 i _ hx).kind
      rcases ha1 with h | h
      · exact ⟨_, rfl, _, rfl, .inl ⟨a, xs, _, _, rfl, rfl, .of h, hat, _, rfl, .inl ⟨hk, true, rfl, iteF ⟨rfl, _, rfl⟩⟩⟩⟩
      · exact ⟨_, rfl, _, rfl, .inr ⟨a, xs, _, _, rfl, rfl, .of h, hat, _, rfl, .inl ⟨hk, true, rfl, iteF ⟨rfl, _, rfl⟩⟩⟩⟩
    · rintro σ H' ⟨rfl, y, rfl⟩
      refine lc_seq ha1 (fun R r => ⟨_, rfl, r⟩) (fun R r => ⟨_, rfl, r⟩) (fun d i E => Gro A.Ratio H' d f i E) (fun d nd => .start nd) (fun d i E _ p => p.1) ?_ ?_
      · rintro d i z E nd hz p
        exact ⟨rfl, _, rfl, z, f i, rfl, (rr1 i z hz).same p.1, fun G2 v s2 r2 => p.push nd (by have := get_lt hz; omega) s2 r2⟩
      · rintro d E nd ⟨sm, ys, hy, hd, hr⟩
        exact q E d ys (s1.trans sm) (s1.free nd) hd hy hr
def sp_partsN (C : Addr) : Sp := fun vs H Q _ => ∃ (v : V) (xs : List V) (f : Nat → Rat) (N : Int) (e m : Nat), vs = [v] ∧ SeqAt H v xs ∧ RatsV C H xs f ∧ (∀ k, k < xs.length → Cm N e (f k)) ∧ 0 < N ∧ N.natAbs < 2 ^ m ∧ xs.length ≤ 60 ∧ e ≤ 3990 ∧ m ≤ 3990 ∧
  ∀ H' tp l ts B, Same H H' → H' tp = some (.tup [.ref l, .int B]) → H' l = some (.lst (ts.map V.int)) → ts.length = xs.length → 0 < B → B.natAbs < 2 ^ m → TopsV B ts f → TopsB e ts → Q (.ref tp) H'
theorem tops_make {B g b : Int} {z : Rat} (hb : (z.den : Int) = b) (h : B = b * g) : ((z.num * g : Int) : Rat) = z * (B : Rat) := by
  rw [h, Rat.intCast_mul, Rat.intCast_mul, num_is, hb]
  grind
theorem tops_lt {N : Int} {e B g : Nat} {z : Rat} {t : Int} (h : Cm N e z) (hB : B ∣ N.natAbs) (N0 : 0 < N) (ht : (t : Rat) = z * (((B : Nat) : Int) : Rat)) : t.natAbs < 2 ^ e := by
  obtain ⟨u, h1, h2⟩ := h
  obtain ⟨c, hc⟩ := hB
  have e1 : N = (B : Int) * (c : Int) := by
    rw [← Int.natCast_mul, ← hc]
    omega
  have e2 : u = t * c := inj (by
    rw [Rat.intCast_mul, ht, ← h1, e1, Rat.intCast_mul]
    grind)
  have c0 : 0 < c := by
    rcases Nat.eq_zero_or_pos c with z | z
    · subst z
      omega
    · exact z
  rw [e2, Int.natAbs_mul] at h2
  refine Nat.lt_of_le_of_lt ?_ h2
  exact Nat.le_mul_of_pos_right _ c0
theorem ok_whole_parts (T : Txt K mg A D) : FnOk P w K mg base CX0 2 A.f_whole_parts D.f_whole_parts ["ratios"] (sp_partsN A.Ratio) := by
  skip
  refine T.F_whole_parts.ok sc_whole_parts (fun vs H Q E h => ?_) (fun cdv A' outer s H vs Q E hr h => ?_)
  · obtain ⟨v, xs, f, N, e, m, rfl, _⟩ := h
    rfl
  · obtain ⟨v, xs, f, N, e, m, rfl, ⟨a, rfl, ha⟩, rr, hC, N0, Nm, l1, he, hm, q⟩ := h
    refine ⟨_, (pss_cons (ps_set (i := 1) sc_whole_parts.nd rfl (.inr rfl) pe_int)
  (pss_cons (ps_for PassesOwn.never rfl (pi_or (pi_list (pv 0)) (pi_tup (pv 0))) (pg_name (i := 2) sc_whole_parts.nd rfl (.inl rfl)) (pss_one (ps_set (i := 1) sc_whole_parts.nd rfl (.inr rfl) (pe_callBfun cr_lcm rfl T.g_lcm (pa_cons (pv 1) (pa_cons (pe_fld (pv 2) rfl) pa_nil))))))
  (pss_one (ps_ret (pe_tup (pa_cons (pe_lc (own := [("number", 2)]) (g := gName 2) (tt := tYes) rfl sc_whole_parts.nd (pi_or (pi_list (pv 0)) (pi_tup (pv 0))) (blkOk_by (N := N_whole_parts) (sc := defScope s_whole_parts) (by decide +kernel)) (fun _ _ _ _ _ => (pg_name (i := 2) sc_whole_parts.nd rfl (.inl rfl))) (fun _ _ _ _ _ => pts_nil) (fun _ _ _ _ _ => (pe_op op_mulW (pe_fldK (K := K) rfl (pv 2) rfl) (pe_op op_fdivA (pv 1) (pe_fldK (K := K) rfl (pv 2) rfl))))) (pa_cons (pv 1) pa_nil))))))), ?_⟩
    have cl := T.k_Ratio.cl
    have nt := T.k_Ratio.n_top
    have nb := T.k_Ratio.n_bottom
    have hb : ∀ i, i < xs.length → Bd e m (f i) := fun i hi => (hC i hi).bd (by omega) Nm
    have leN : ∀ {B : Nat}, B ∣ N.natAbs → B < 2 ^ m := fun h => Nat.lt_of_le_of_lt (Nat.le_of_dvd (by omega) h) Nm
    refine for_seq ha (fun R r => ⟨_, rfl, r⟩) (fun R r => ⟨_, rfl, r⟩) (fun i σ H' => H' = H ∧ ∃ (B : Nat) (y : Option V), σ = [some (.ref a), some (.int (B : Int)), y] ∧ 0 < B ∧ B ∣ N.natAbs ∧ ∀ j, j < i → (f j).den ∣ B)
      ⟨rfl, 1, _, rfl, by decide, Nat.one_dvd _, fun j h => absurd h (Nat.not_lt_zero _)⟩ (fun i σ G _ p => p.1 ▸ Same.refl H) ?_ ?_
    · rintro i x σ H' hx ⟨rfl, B, y, rfl, b0, b1, hd⟩
      have hl := get_lt hx
      obtain ⟨c, dx, rfl, hc⟩ := rr i x hx
      have hbi := hb i hl
      have sB : Sm (B : Int) := sm_of (n := m) (leN b1) (by omega)
      refine ⟨_, rfl, _, rfl, c, A.Ratio, dx, _, _, rfl, hc, cl, nb, rfl, (B : Int), _, rfl, sB, hbi.s2 (by omega), rfl, Nat.lcm B (f i).den, _, rfl, ?_, ?_, ?_⟩
      · exact Nat.lcm_pos b0 (f i).den_pos
      · exact Nat.lcm_dvd b1 (hC i hl).den
      · intro j hj
        rcases (by omega : j < i ∨ j = i) with e | e
        · exact Nat.dvd_trans (hd j e) (Nat.dvd_lcm_left _ _)
        · subst e
          exact Nat.dvd_lcm_right _ _
    · rintro σ H' ⟨rfl, B, y, rfl, b0, b1, hd⟩
      have hB := leN b1
      refine lc_seq ha (fun R r => ⟨_, rfl, r⟩) (fun R r => ⟨_, rfl, r⟩) (fun d i G => GroI H' d (fun k => (f k).num * ((B : Int).fdiv ((f k).den : Int))) i G) (fun d nd => .start nd) (fun d i G _ p => p.1) ?_ ?_
      · rintro d i x G nd hx p
        have hl := get_lt hx
        obtain ⟨c, dx, rfl, hc⟩ := (rr i x hx).same p.1
        have hbi := hb i hl
        have d0 := den_pos (f i)
        obtain ⟨g, hg⟩ := hd i hl
        have ef : (B : Int).fdiv ((f i).den : Int) = (g : Int) := by rw [hg, Int.natCast_mul]; exact Int.mul_fdiv_cancel_left _ (by omega)
        have hgB : g ≤ B := by
          rw [hg]
          exact Nat.le_mul_of_pos_left _ (f i).den_pos
        have g1 : ((g : Int)).natAbs < 2 ^ m := by
          show g < _
          omega
        refine ⟨rfl, _, rfl, c, A.Ratio, dx, _, _, rfl, hc, cl, nt, rfl, _, rfl, _, rfl, c, A.Ratio, dx, _, _, rfl, hc, cl, nb, rfl, _, _, rfl, rfl, Sm.div (by omega) (hbi.s2 (by omega)), ?_⟩
        exact ⟨_, _, rfl, rfl, (hbi.s1 (by omega)).mul (by rw [ef]; exact sm_of g1 (by omega)), p.push nd (by omega) (Same.refl G)⟩
      · rintro d G nd ⟨sm, hd'⟩
        have lt : ((List.range xs.length).map fun k => (f k).num * ((B : Int).fdiv ((f k).den : Int))).length = xs.length := by rw [List.length_map, List.length_range]
        have tv : ∀ (k : Nat) (t : Int), ((List.range xs.length).map fun k => (f k).num * ((B : Int).fdiv ((f k).den : Int)))[k]? = some t → (t : Rat) = f k * ((B : Int) : Rat) ∧ t.natAbs < 2 ^ e := fun k t e => by
          have hk : k < xs.length := by have := get_lt e; omega
          rw [List.getElem?_map, List.getElem?_range hk] at e
          cases e
          obtain ⟨g, hg⟩ := hd k hk
          have d0 := den_pos (f k)
          have ef : (B : Int).fdiv ((f k).den : Int) = (g : Int) := by rw [hg, Int.natCast_mul]; exact Int.mul_fdiv_cancel_left _ (by omega)
          dsimp only
          rw [ef]
          have tm := tops_make (z := f k) (b := ((f k).den : Int)) (B := (B : Int)) (g := g) rfl (by rw [hg, Int.natCast_mul])
          exact ⟨tm, tops_lt (g := g) (hC k hk) b1 N0 tm⟩
        generalize ((List.range xs.length).map fun k => (f k).num * ((B : Int).fdiv ((f k).den : Int))) = ts at *
        refine ⟨_, rfl, by show 2 ≤ sizeLine; decide, fun tp ntp => ?_⟩
        have s2 := same_upd (o := .tup [.ref d, .int (B : Int)]) ntp
        exact q _ tp d ts (B : Int) (sm.trans s2) upd_same (s2 _ _ hd') lt (by omega) hB (fun k t e => (tv k t e).1) (.of fun k t e => (tv k t e).2)
/-! ### the mean of a Poly -/
def sp_paired : Sp := fun vs H Q _ => ∃ (a b : Addr) (fs ts : List Int) (e d : Nat), vs = [.ref a, .ref b] ∧ H a = some (.lst (fs.map V.int)) ∧ H b = some (.lst (ts.map V.int)) ∧ fs.length ≤ ts.length ∧ ts.length ≤ 60 ∧ TopsB e fs ∧ TopsB d ts ∧ e ≤ 1900 ∧ d ≤ 1900 ∧ ∀ H' , Same H H' → Q (.int (((List.range fs.length).map fun k => fs.getD k 0 * ts.getD k 0).sum)) H'
theorem ok_paired (T : Txt K mg A D) : FnOk P w K mg base CX0 1 A.f_paired D.f_paired ["factors", "tops"] (sp_paired) := by
  skip
  refine T.F_paired.ok sc_paired (fun vs H Q E h => ?_) (fun cdv A' outer s H vs Q E hr h => ?_)
  · obtain ⟨a, b, fs, ts, e, d, rfl, _⟩ := h
    rfl
  · obtain ⟨a, b, fs, ts, e, d, rfl, ha, hb, hl, h60, be, bd, e1, d1, q⟩ := h
    refine ⟨_, (pss_one (ps_ret (pe_callB (cr_sum rfl) rfl T.z_sum (by decide +kernel) (pa_cons (pe_lc (own := [("k", 2)]) (g := gName 2) (tt := tYes) rfl sc_paired.nd (pi_range1 rfl T.z_range (pa_cons (pe_callB call_len_seq rfl T.z_len (by decide +kernel) (pa_cons (pv 0) pa_nil)) pa_nil)) (blkOk_by (N := N_paired) (sc := defScope s_paired) (by decide +kernel)) (fun _ _ _ _ _ => (pg_name (i := 2) sc_paired.nd rfl (.inl rfl))) (fun _ _ _ _ _ => pts_nil) (fun _ _ _ _ _ => (pe_op op_mulW (pe_ix (ix_listK (K := K) rfl) (pv 0) (pv 2) (fun _ _ => rfl)) (pe_ix (ix_listK (K := K) rfl) (pv 1) (pv 2) (fun _ _ => rfl))))) pa_nil)))), ?_⟩
    refine ⟨_, rfl, a, _, rfl, .inl (.of ha), _, rfl, by rw [List.length_map]; omega, by rw [List.length_map]; omega, fun o no => ?_⟩
    rw [show (((fs.map V.int).length : Nat) : Int).toNat = fs.length by rw [List.length_map]; omega]
    refine lc_range (lo := 0) (fun i G => GroI H o (fun k => fs.getD k 0 * ts.getD k 0) i G) (.start no) ?_ ?_
    · rintro i G hi p
      exact ⟨rfl, _, rfl, _, rfl, a, _, _, _, rfl, rfl, .of (p.1 _ _ ha), atI_getD hi, _, rfl, _, rfl, b, _, _, _, rfl, rfl, .of (p.1 _ _ hb), atI_getD (show i < ts.length by omega), _, _, rfl, rfl, (sm_of (be i) (by omega)).mul (sm_of (bd i) (by omega)), p.push no (by omega) (Same.refl G)⟩
    · rintro G ⟨sm, ho⟩
      exact ⟨o, _, rfl, .of ho, q G sm⟩
/-! ### a list without the zeros at its end -/
def sp_trimmed (C : Addr) : Sp := fun vs H Q _ => ∃ a xs f, vs = [.ref a] ∧ H a = some (.lst xs) ∧ RatsV C H xs f ∧ xs.length ≤ 60 ∧ (∀ k, k < xs.length → Bd 3900 3900 (f k)) ∧
  ∀ H' d s, Same H H' → H' d = some (.lst (xs.take s)) → s ≤ xs.length → (∀ k, s ≤ k → k < xs.length → f k = 0) → (0 < s → f (s - 1) ≠ 0) → Q (.ref d) H'
theorem cut_take (xs : List V) (s : Nat) : cutV xs none (some (s : Int)) = xs.take s := by
  unfold cutV
  have e1 : HT.sIx xs.length 0 none = 0 := rfl
  rw [e1]
  rcases Nat.le_total s xs.length with h | h
  · have e2 : HT.sIx xs.length xs.length (some (s : Int)) = s := by
      show (if (s : Int) < 0 then ((s : Int) + (xs.length : Int)).toNat else min (s : Int).toNat xs.length) = s
      rw [if_neg (by omega)]
      omega
    rw [e2]
    rfl
  · have e2 : HT.sIx xs.length xs.length (some (s : Int)) = xs.length := by
      show (if (s : Int) < 0 then ((s : Int) + (xs.length : Int)).toNat else min (s : Int).toNat xs.length) = _
      rw [if_neg (by omega)]
      omega
    rw [e2, List.take_of_length_le h]
    show (List.drop 0 xs).take (xs.length - 0) = xs
    rw [List.drop_zero, Nat.sub_zero, List.take_length]
theorem ok_trimmed (T : Txt K mg A D) : FnOk P w K mg base CX0 4 A.f_trimmed D.f_trimmed ["numbers"] (sp_trimmed A.Ratio) := by
  have G_Ratio___eq__ : FnOk P w K mg base CX0 3 A.f_Ratio___eq__ D.f_Ratio___eq__ ["self", "other"] (sp_cmp A.Ratio r_eq) := ok_Ratio___eq__ T
  refine T.F_trimmed.ok sc_trimmed (fun vs H Q E h => ?_) (fun cdv A' outer s H vs Q E hr h => ?_)
  · obtain ⟨a, xs, f, rfl, _⟩ := h
    rfl
  · obtain ⟨a, xs, f, rfl, ha, rr, l1, hb, q⟩ := h
    refine ⟨_, (pss_cons (ps_set (i := 1) sc_trimmed.nd rfl (.inl rfl) (pe_callB call_len_seq rfl T.z_len (by decide +kernel) (pa_cons (pv 0) pa_nil)))
  (pss_cons (ps_while PassesOwn.never (PW.pt (pw_and (pt_cmpR op_gt (pv 1) pe_int (nomark _)) (pw_and1 (pt_cmpR (op_eq_own T.k_Ratio.ow T.m_Ratio___eq__ G_Ratio___eq__ (hr.mono (by decide)) T.b_Ratio___eq__ pass0) (pe_ix ix_list (pv 0) (pe_op op_sub (pv 1) pe_int) (fun _ _ => rfl)) pe_int (nomark _))))) (pss_one (ps_set (i := 1) sc_trimmed.nd rfl (.inl rfl) (pe_op op_sub (pv 1) pe_int))))
  (pss_one (ps_ret (pe_slice sl_list (pv 0) po_none (po_some (pv 1))))))), ?_⟩
    refine ⟨_, rfl, a, xs, rfl, .inl (.of ha), ?_⟩
    have fin : ∀ s : Nat, s ≤ xs.length → (∀ k, s ≤ k → k < xs.length → f k = 0) → ((s = 0) ∨ (0 < s ∧ f (s - 1) ≠ 0)) → tRet (tSl (rSlL K) (tVar 0) tNoPart (tPart (tVar 1))) { nx := fun x H' => Q V.non H', rt := Q } [some (.ref a), some (.int (s : Int))] H := fun s hs hz hc => by
      refine ⟨_, rfl, _, rfl, _, rfl, a, xs, rfl, .of ha, fun d nd => ?_⟩
      rw [cut_take]
      refine q _ d s (same_upd nd) upd_same hs hz fun h => ?_
      rcases hc with h2 | h2
      · omega
      · exact h2.2
    refine while_up xs.length (fun j σ H' => H' = H ∧ (∀ k, xs.length - j ≤ k → k < xs.length → f k = 0) ∧ σ = [some (.ref a), some (.int ((xs.length - j : Nat) : Int))]) ⟨rfl, fun k h1 h2 => absurd h2 (by omega), rfl⟩ ?_
    rintro j σ H' hj ⟨rfl, hz, rfl⟩
    obtain ⟨s, hs⟩ : ∃ s, xs.length - j = s := ⟨_, rfl⟩
    rw [hs] at hz ⊢
    refine ⟨_, rfl, _, _, rfl, rfl, _, rfl, ite2 (fun h0 => ?_) (fun h0 => ?_)⟩
    · have s0 : 0 < s := by
        have := of_decide_eq_true h0
        omega
      have hx := List.getElem?_eq_getElem (show s - 1 < xs.length by omega)
      have hat : atI xs ((s : Int) - 1) = some xs[s - 1] := by
        rw [show (s : Int) - 1 = ((s - 1 : Nat) : Int) by omega]
        exact atI_nat hx
      have hr := rr _ _ hx
      refine ⟨_, rfl, _, rfl, _, _, rfl, rfl, a, xs, _, _, rfl, rfl, .of ha, hat, hr.ins, .inl ⟨_, rfl⟩, _, _, f (s - 1), ((0 : Int) : Rat), rfl, hr, .int 0, hb _ (by omega), .int (by decide) (by decide), ?_⟩
      refine ⟨_, rfl, ite2 (fun c => ?_) (fun c => fin s (by omega) hz (.inr ⟨s0, fun z => c (decide_eq_true z)⟩))⟩
      have f0 : f (s - 1) = 0 := of_decide_eq_true c
      refine ⟨_, fun σ' H' p => ⟨xs.length - (j + 1), by omega, j + 1, rfl, by omega, p⟩, _, rfl, _, _, rfl, rfl, rfl, fun k h1 h2 => ?_, ?_⟩
      · rcases (by omega : k = s - 1 ∨ s ≤ k) with e | e
        · rw [e]; exact f0
        · exact hz k e h2
      · show [some (V.ref a), some (V.int ((s : Int) - 1))] = _
        rw [show (s : Int) - 1 = ((xs.length - (j + 1) : Nat) : Int) by omega]
    · refine fin s (by omega) hz (.inl ?_)
      rcases Nat.eq_zero_or_pos s with e | e
      · exact e
      · exact absurd (decide_eq_true (by omega)) h0
def sp_poly (K : PySem.W.Frag) (A : Ad) : Sp := fun vs H Q _ => ∃ (x dx a : Addr) (xs : List V) (f : Nat → Rat), vs = [.ref x, .ref a] ∧ H x = some (.ins A.Poly dx []) ∧ (H a = some (.lst xs) ∨ H a = some (.tup xs)) ∧ NumsV A.Ratio H xs f ∧ xs.length ≤ 60 ∧ (∀ k, k < xs.length → Bd 3900 3900 (f k)) ∧ (∀ k, xs.length ≤ k → f k = 0) ∧
  ∀ G s, (∀ b o, b ≠ x → H b = some o → G b = some o) → PolyV A.Poly A.Ratio G (.ref x) s f → s ≤ xs.length → Q .non G
theorem ok_Poly___init__ (T : Txt K mg A D) : FnOk P w K mg base CX0 6 A.f_Poly___init__ D.f_Poly___init__ ["self", "coefficients"] (sp_poly K A) := by
  have G_Ratio_init : FnOk P w K mg base CX0 2 A.f_Ratio___init__ D.f_Ratio___init__ ["self", "top", "bottom"] (sp_init A.Ratio) := ok_Ratio___init__ T
  obtain ⟨ds1, d_Ratio_init1, b_Ratio_init1⟩ := T.b1_Ratio___init__
  have G_is_number : FnOk P w K mg base CX0 2 A.f_is_number D.f_is_number ["x"] (sp_isnum K A.Ratio) := ok_is_number T
  have G_ratio_of : FnOk P w K mg base CX0 4 A.f_ratio_of D.f_ratio_of ["number"] (sp_ratio_of A.Ratio) := ok_ratio_of T
  have G_trimmed : FnOk P w K mg base CX0 4 A.f_trimmed D.f_trimmed ["numbers"] (sp_trimmed A.Ratio) := ok_trimmed T
  refine T.F_Poly___init__.ok sc_Poly___init__ (fun vs H Q E h => ?_) (fun cdv A' outer s H vs Q E hr h => ?_)
  · obtain ⟨x, dx, a, xs, f, rfl, _⟩ := h
    rfl
  · obtain ⟨x, dx, a, xs, f, rfl, hx, ha, rr, l1, hb, hz, q⟩ := h
    refine ⟨_, (pss_cons (ps_if (pt_not (pt_val (pe_callB call_isiT rfl T.z_isinstance (by decide +kernel) (pa_cons (pv 1) (pa_cons (pe_tup (pa_cons (pe_bltn (v := .ty "list") rfl T.z_list (by decide +kernel) rfl) (pa_cons (pe_bltn (v := .ty "tuple") rfl T.z_tuple (by decide +kernel) rfl) pa_nil))) pa_nil))))) (pss_one ps_never) pss_nil)
  (pss_cons (ps_for PassesOwn.never rfl (pi_or (pi_list (pv 1)) (pi_tup (pv 1))) (pg_name (i := 2) sc_Poly___init__.nd rfl (.inl rfl)) (pss_one (ps_if (pt_not (pt_val (pe_call G_is_number (hr.mono (by decide)) rfl T.g_is_number T.F_is_number.kp T.b_is_number .nil pass0 (pa_cons (pv 2) pa_nil)))) (pss_one ps_never) pss_nil)))
  (pss_cons (ps_fld (pv 0) (pe_callTy call_tuple_of rfl T.z_tuple (by decide +kernel) (pa_cons (pe_call G_trimmed (hr.mono (by decide)) rfl T.g_trimmed T.F_trimmed.kp T.b_trimmed .nil pass0 (pa_cons (pe_lc (own := [("number", 2)]) (g := gName 2) (tt := tYes) rfl sc_Poly___init__.nd (pi_or (pi_list (pv 1)) (pi_tup (pv 1))) (blkOk_by (N := N_Poly___init__) (sc := defScope s_Poly___init__) (by decide +kernel)) (fun _ _ _ _ _ => (pg_name (i := 2) sc_Poly___init__.nd rfl (.inl rfl))) (fun _ _ _ _ _ => pts_nil) (fun _ _ _ _ _ => (pe_call G_ratio_of (hr.mono (by decide)) rfl T.g_ratio_of T.F_ratio_of.kp T.b_ratio_of .nil pass0 (pa_cons (pv 2) pa_nil)))) pa_nil)) pa_nil)) rfl)
  (pss_cons (ps_fld (pv 0) (pe_op op_sub (pe_callB call_len_seq rfl T.z_len (by decide +kernel) (pa_cons (pe_fld (pv 0) rfl) pa_nil)) pe_int) rfl)
  (pss_cons (ps_fld (pv 0) (pe_make T.M_Ratio G_Ratio_init (hr.mono (by decide)) rfl T.g_Ratio b_Ratio_init1 d_Ratio_init1 pass0 (pa_cons pe_int pa_nil)) rfl)
  (pss_one (ps_if (pt_cmpR op_ge (pe_fld (pv 0) rfl) pe_int (nomark _)) (pss_one (ps_fld (pv 0) (pe_ix ix_tup (pe_fld (pv 0) rfl) (pe_fld (pv 0) rfl) (fun _ _ => rfl)) rfl)) pss_nil))))))), ?_⟩
    refine ⟨_, rfl, by show 2 ≤ sizeLine; decide, fun tp nt => ?_⟩
    have s1 : Same H (upd H tp (.tup [.ty "list", .ty "tuple"])) := same_upd nt
    have ha1 := ha.imp (s1 a _) (s1 a _)
    obtain ⟨t, ty, ka⟩ := kit_seq (K := K) ha1
    refine ⟨.ref a, tp, _, t, _, true, rfl, upd_same, .cons (.ty _) (.cons (.ty _) .nil), ty, ka, true, rfl, iteF ?_⟩
    have rr1 := rr.same s1
    have hx1 := s1 _ _ hx
    clear ty ka rr hx ha
    generalize upd H tp (.tup [.ty "list", .ty "tuple"]) = H1 at s1 ha1 rr1 hx1
    refine for_seq ha1 (fun R r => ⟨_, rfl, r⟩) (fun R r => ⟨_, rfl, r⟩) (fun i σ G => G = H1 ∧ ∃ y : Option V, σ = [some (.ref x), some (.ref a), y]) ⟨rfl, _, rfl⟩ (fun i σ G _ p => p.1 ▸ Same.refl H1) ?_ ?_
    · rintro i y σ G hy ⟨rfl, z, rfl⟩
      exact ⟨_, rfl, _, rfl, .inl ⟨(rr1 i y hy).kind, true, rfl, iteF ⟨rfl, _, rfl⟩⟩⟩
    · rintro σ G ⟨rfl, y, rfl⟩
      refine lc_seq ha1 (fun R r => ⟨_, rfl, r⟩) (fun R r => ⟨_, rfl, r⟩) (fun d i E => Gro A.Ratio G d f i E) (fun d nd => .start nd) (fun d i E _ p => p.1) ?_ ?_
      · rintro d i z E nd hz2 p
        exact ⟨rfl, _, rfl, z, _, rfl, (rr1 i z hz2).same p.1, fun G2 v s2 r2 => p.push nd (by have := get_lt hz2; omega) s2 r2⟩
      · rintro d E nd ⟨sm, ys, hy, hd, hr⟩
        refine ⟨d, ys, f, rfl, hd, hr, by omega, fun k hk => hb k (by omega), fun H2 d2 s s2 hd2 hs z1 z2 => ?_⟩
        rw [hy] at hs z1
        refine ⟨d2, ys.take s, rfl, .inl ⟨.of hd2, fun tp2 ntp2 => ?_⟩⟩
        have s3 := same_upd (o := .tup (ys.take s)) ntp2
        have sx := (sm.trans s2).trans s3
        have hx2 := sx _ _ hx1
        have hr2 : RatsV A.Ratio (upd H2 tp2 (.tup (ys.take s))) (ys.take s) f := ((hr.same s2).same s3).take
        have htp2 : upd H2 tp2 (.tup (ys.take s)) tp2 = some (.tup (ys.take s)) := upd_same
        have ls : (ys.take s).length = s := by rw [List.length_take]; omega
        have zz : ∀ k, s ≤ k → f k = 0 := fun k hk => by
          rcases Nat.lt_or_ge k xs.length with h | h
          · exact z1 k hk h
          · exact hz k h
        generalize ys.take s = zs at *
        generalize upd H2 tp2 (.tup zs) = H3 at *
        clear hr hd hd2 s3 s2 sm
        have cl := T.k_Poly.cl
        refine ⟨_, rfl, x, A.Poly, dx, _, rfl, hx2, cl, T.n_Poly_coefficients, (by show 0 < 1000; decide), ?_⟩
        have k4 : ∀ b o, b ≠ x → H3 b = some o → upd H3 x (.ins A.Poly dx [("coefficients", .ref tp2)]) b = some o := upd_but
        have hr4 := hr2.keep hx2 rat_ne_nil k4
        have ht4 := k4 _ _ (ne_of htp2 hx2 fun z => by cases z) htp2
        have hx4 : upd H3 x (.ins A.Poly dx [("coefficients", .ref tp2)]) x = some (.ins A.Poly dx [("coefficients", .ref tp2)]) := upd_same
        refine ⟨_, rfl, x, A.Poly, dx, _, _, rfl, hx4, cl, T.n_Poly_coefficients, rfl, tp2, zs, rfl, .inr (.of ht4), _, _, rfl, rfl, _, rfl, x, A.Poly, dx, _, rfl, hx4, cl, T.n_Poly_degree, (by show 1 < 1000; decide), ?_⟩
        rw [ls]
        have e5 : upd (upd H3 x (.ins A.Poly dx [("coefficients", .ref tp2)])) x (.ins A.Poly dx [("coefficients", .ref tp2), ("degree", .int ((s : Int) - 1))]) = upd H3 x (.ins A.Poly dx [("coefficients", .ref tp2), ("degree", .int ((s : Int) - 1))]) := upd_upd
        have k5 : ∀ b o, b ≠ x → H3 b = some o → upd H3 x (.ins A.Poly dx [("coefficients", .ref tp2), ("degree", .int ((s : Int) - 1))]) b = some o := upd_but
        have hr5 := hr2.keep hx2 rat_ne_nil k5
        have ht5 := k5 _ _ (ne_of htp2 hx2 fun z => by cases z) htp2
        have hx5 : upd H3 x (.ins A.Poly dx [("coefficients", .ref tp2), ("degree", .int ((s : Int) - 1))]) x = some (.ins A.Poly dx [("coefficients", .ref tp2), ("degree", .int ((s : Int) - 1))]) := upd_same
        show tSeq _ _ _ _ (upd (upd H3 x (.ins A.Poly dx [("coefficients", .ref tp2)])) x (.ins A.Poly dx [("coefficients", .ref tp2), ("degree", .int ((s : Int) - 1))]))
        rw [e5]
        clear hr4 ht4 hx4 k4 e5
        generalize upd H3 x (.ins A.Poly dx [("coefficients", .ref tp2), ("degree", .int ((s : Int) - 1))]) = H5 at *
        refine fun r dr nr nd2 ne => rat_make (by decide) so nr nd2 ne fun H6 s6 r6 => ?_
        have r6 := r6.to (one_div 0)
        have hx6 := s6 _ _ hx5
        have hr6 := hr5.same s6
        have ht6 := s6 _ _ ht5
        refine ⟨_, rfl, x, A.Poly, dx, _, rfl, hx6, cl, T.n_Poly_lead, (by show 2 < 1000; decide), ?_⟩
        have fd : ∀ (l : V) (b : Addr) (o : HO), b ≠ x → H b = some o → upd H6 x (.ins A.Poly dx [("coefficients", .ref tp2), ("degree", .int ((s : Int) - 1)), ("lead", l)]) b = some o := fun l b o hb h => upd_but _ _ hb (s6 _ _ (k5 _ _ hb (sx _ _ (s1 _ _ h))))
        have pl : ∀ l : V, RatV A.Ratio H6 l (f (s - 1)) → PolyV A.Poly A.Ratio (upd H6 x (.ins A.Poly dx [("coefficients", .ref tp2), ("degree", .int ((s : Int) - 1)), ("lead", l)])) (.ref x) s f := fun l hl =>
          ⟨⟨x, dx, tp2, zs, l, rfl, upd_same, upd_but _ _ (ne_of ht6 hx6 fun z => by cases z) ht6, ls, hr6.keep hx6 rat_ne_co upd_but, hl.keep hx6 rat_ne_co upd_but⟩, zz, z2⟩
        have hx7 : upd H6 x (.ins A.Poly dx [("coefficients", .ref tp2), ("degree", .int ((s : Int) - 1)), ("lead", .ref r)]) x = some (.ins A.Poly dx [("coefficients", .ref tp2), ("degree", .int ((s : Int) - 1)), ("lead", .ref r)]) := upd_same
        have ht7 : upd H6 x (.ins A.Poly dx [("coefficients", .ref tp2), ("degree", .int ((s : Int) - 1)), ("lead", .ref r)]) tp2 = some (.tup zs) := upd_but _ _ (ne_of ht6 hx6 fun z => by cases z) ht6
        refine ⟨_, rfl, x, A.Poly, dx, _, _, rfl, hx7, cl, T.n_Poly_degree, rfl, _, _, rfl, rfl, _, rfl, ?_⟩
        refine ite2 (fun c => ?_) (fun c => ?_)
        · have s0 : 0 < s := by
            have := of_decide_eq_true c
            omega
          have hg := List.getElem?_eq_getElem (show s - 1 < zs.length by omega)
          have hat : atI zs ((s : Int) - 1) = some zs[s - 1] := by
            rw [show (s : Int) - 1 = ((s - 1 : Nat) : Int) by omega]
            exact atI_nat hg
          refine ⟨_, rfl, x, A.Poly, dx, _, _, rfl, hx7, cl, T.n_Poly_coefficients, rfl, _, rfl, x, A.Poly, dx, _, _, rfl, hx7, cl, T.n_Poly_degree, rfl, tp2, zs, _, _, rfl, rfl, .of ht7, hat, _, rfl, x, A.Poly, dx, _, rfl, hx7, cl, T.n_Poly_lead, (by show 3 < 1000; decide), ?_⟩
          show Q .non (upd (upd H6 x (.ins A.Poly dx [("coefficients", .ref tp2), ("degree", .int ((s : Int) - 1)), ("lead", .ref r)])) x (.ins A.Poly dx [("coefficients", .ref tp2), ("degree", .int ((s : Int) - 1)), ("lead", zs[s - 1])]))
          rw [upd_upd]
          exact q _ s (fd _) (pl _ (hr6 _ _ hg)) hs
        · have s0 : s = 0 := by
            rcases Nat.eq_zero_or_pos s with e | e
            · exact e
            · exact absurd (decide_eq_true (by omega)) c
          exact q _ s (fd _) (pl _ (r6.to (by rw [s0, zz 0 (by omega), Rat.intCast_zero]))) hs
/-- the making of a Poly -/
theorem poly_make {H : Hp} {E : XK} {x dx a : Addr} {xs : List V} {f : Nat → Rat} {Q : Hp → Prop} (nx : H x = none) (nd : H dx = none) (ha : H a = some (.lst xs) ∨ H a = some (.tup xs)) (hr : NumsV A.Ratio H xs f) (l1 : xs.length ≤ 60) (hb : ∀ k, k < xs.length → Bd 3900 3900 (f k)) (hz : ∀ k, xs.length ≤ k → f k = 0)
    (q : ∀ G s, Same H G → PolyV A.Poly A.Ratio G (.ref x) s f → s ≤ xs.length → Q G) : sp_poly K A [.ref x, .ref a] (upd (upd H dx (.own x)) x (.ins A.Poly dx [])) (fun v G => v = .non ∧ Q G) E := by
  have s0 : Same H (upd (upd H dx (.own x)) x (.ins A.Poly dx [])) := same_upd' (same_upd nd) nx
  exact ⟨x, dx, a, xs, f, rfl, upd_same, ha.imp (s0 a _) (s0 a _), hr.same s0, l1, hb, hz, fun G s k pl hs => ⟨rfl, q G s (made_but nx nd k) pl hs⟩⟩
def sp_over1 (A : Ad) : Sp := fun vs H Q _ => ∃ (v p : V) (xs : List V) (s : Nat) (f g : Nat → Rat) (N M : Int) (e n d m : Nat), vs = [v, p] ∧ SeqAt H v xs ∧ NumsV A.Ratio H xs f ∧ 0 < xs.length ∧ xs.length ≤ 13 ∧ PolyV A.Poly A.Ratio H p s g ∧ s ≤ xs.length ∧ (∀ k, k < xs.length → Cm N e (f k)) ∧ 0 < N ∧ N.natAbs < 2 ^ n ∧ (∀ k, Cm M d (g k)) ∧ 0 < M ∧ M.natAbs < 2 ^ m ∧ e ≤ 1900 ∧ n ≤ 1900 ∧ d ≤ 1900 ∧ m ≤ 1900 ∧
  ∀ H' tp lf lt fs ts B U, Same H H' → H' tp = some (.tup [.ref lf, .ref lt, .int (B * U)]) → H' lf = some (.lst (fs.map V.int)) → H' lt = some (.lst (ts.map V.int)) → fs.length = s → ts.length = xs.length → 0 < B → 0 < U → B.natAbs < 2 ^ n → U.natAbs < 2 ^ m → TopsV B ts f → TopsV U fs g → TopsB e ts → TopsB d fs → Q (.ref tp) H'
theorem ok__over_one_bottom (T : Txt K mg A D) : FnOk P w K mg base CX0 7 A.f__over_one_bottom D.f__over_one_bottom ["row", "p"] (sp_over1 A) := by
  have G_row_numbers : FnOk P w K mg base CX0 6 A.f_row_numbers D.f_row_numbers ["row"] (sp_rown A.Ratio) := ok_row_numbers T
  have G_whole_parts : FnOk P w K mg base CX0 2 A.f_whole_parts D.f_whole_parts ["ratios"] (sp_partsN A.Ratio) := ok_whole_parts T
  refine T.F__over_one_bottom.ok sc__over_one_bottom (fun vs H Q E h => ?_) (fun cdv A' outer s H vs Q E hr h => ?_)
  · obtain ⟨v, p, xs, s, f, g, N, M, e, n, d, m, rfl, _⟩ := h
    rfl
  · obtain ⟨v, p, xs, s, f, g, N, M, e, n, d, m, rfl, hv, rr, l0, l1, hp, hs, cf, N0, N1, cg, M0, M1, he, hn, hd, hm, q⟩ := h
    refine ⟨_, (pss_cons (ps_set (i := 2) sc__over_one_bottom.nd rfl (.inl rfl) (pe_call G_row_numbers (hr.mono (by decide)) rfl T.g_row_numbers T.F_row_numbers.kp T.b_row_numbers .nil pass0 (pa_cons (pv 0) pa_nil)))
  (pss_cons (ps_if (pt_cmpR op_ge (pe_fld (pv 1) rfl) (pe_callB call_len_seq rfl T.z_len (by decide +kernel) (pa_cons (pv 2) pa_nil)) (nomark _)) (pss_one ps_never) pss_nil)
  (pss_cons (ps_asg (pe_call G_whole_parts (hr.mono (by decide)) rfl T.g_whole_parts T.F_whole_parts.kp T.b_whole_parts .nil pass0 (pa_cons (pe_fld (pv 1) rfl) pa_nil)) (pg_tup rfl (pgs_cons (pg_name (i := 3) sc__over_one_bottom.nd rfl (.inl rfl)) (pgs_cons (pg_name (i := 4) sc__over_one_bottom.nd rfl (.inl rfl)) pgs_nil))))
  (pss_cons (ps_asg (pe_call G_whole_parts (hr.mono (by decide)) rfl T.g_whole_parts T.F_whole_parts.kp T.b_whole_parts .nil pass0 (pa_cons (pv 2) pa_nil)) (pg_tup rfl (pgs_cons (pg_name (i := 5) sc__over_one_bottom.nd rfl (.inl rfl)) (pgs_cons (pg_name (i := 6) sc__over_one_bottom.nd rfl (.inl rfl)) pgs_nil))))
  (pss_one (ps_ret (pe_tup (pa_cons (pv 3) (pa_cons (pv 5) (pa_cons (pe_op op_mulW (pv 6) (pv 4)) pa_nil)))))))))), ?_⟩
    have cl := T.k_Poly.cl
    refine ⟨_, rfl, v, xs, f, rfl, hv, rr, l0, l1, fun H1 d1 ys k1 _ hd1 hl1 r1 => ?_⟩
    have hp1 := hp.same k1
    obtain ⟨⟨a, dx, tp, zs, l, rfl, h1, h2, h3, h4, h5⟩, z, z2⟩ := hp1
    refine ⟨_, rfl, a, A.Poly, dx, _, _, rfl, h1, cl, T.n_Poly_degree, rfl, _, rfl, d1, ys, rfl, .inl (.of hd1), _, _, rfl, rfl, _, rfl, iteFe (decide_eq_false (by omega)) ?_⟩
    refine ⟨_, rfl, a, A.Poly, dx, _, _, rfl, h1, cl, T.n_Poly_coefficients, rfl, .ref tp, zs, g, M, d, m, rfl, ⟨tp, rfl, .inr h2⟩, h4, fun k _ => cg k, M0, M1, by omega, by omega, by omega, fun H2 pu lu us U k2 hpu hlu lm u0 u1 hus bus => ?_⟩
    refine ⟨pu, _, rfl, .of hpu, rfl, _, _, rfl, _, _, rfl, rfl, ?_⟩
    refine ⟨_, rfl, .ref d1, ys, f, N, e, n, rfl, ⟨d1, rfl, .inl (k2 _ _ hd1)⟩, r1.same k2, fun k hk => cf k (by omega), N0, N1, by omega, by omega, by omega, fun H3 pt lt ts B k3 hpt hlt ln b0 b1 hts bts => ?_⟩
    refine ⟨pt, _, rfl, .of hpt, rfl, _, _, rfl, _, _, rfl, rfl, ?_⟩
    refine ⟨_, rfl, _, rfl, _, rfl, _, rfl, _, _, rfl, rfl, (sm_of b1 (by omega)).mul (sm_of u1 (by omega)), by show 3 ≤ sizeLine; decide, fun o no => ?_⟩
    have k4 := same_upd (o := .tup [V.ref lu, .ref lt, .int (B * U)]) no
    exact q _ o lu lt us ts B U (((k1.trans k2).trans k3).trans k4) upd_same (k4 _ _ (k3 _ _ hlu)) (k4 _ _ hlt) (by omega) (by omega) b0 u0 b1 u1 hts hus bts bus
def sp_mean (A : Ad) : Sp := fun vs H Q _ => ∃ (v p : V) (xs : List V) (s : Nat) (f g : Nat → Rat) (N M : Int) (e n d m : Nat), vs = [v, p] ∧ SeqAt H v xs ∧ NumsV A.Ratio H xs f ∧ 0 < xs.length ∧ xs.length ≤ 13 ∧ PolyV A.Poly A.Ratio H p s g ∧ s ≤ xs.length ∧ (∀ k, k < xs.length → Cm N e (f k)) ∧ 0 < N ∧ N.natAbs < 2 ^ n ∧ (∀ k, Cm M d (g k)) ∧ 0 < M ∧ M.natAbs < 2 ^ m ∧ e ≤ 1900 ∧ n ≤ 1900 ∧ d ≤ 1900 ∧ m ≤ 1900 ∧
  ∀ H' u, Same H H' → RatV A.Ratio H' u (sumR (fun k => g k * f k) s) → Q u H'
theorem ok_mean (T : Txt K mg A D) : FnOk P w K mg base CX0 8 A.f_mean D.f_mean ["row", "p"] (sp_mean A) := by
  have G_Ratio_init : FnOk P w K mg base CX0 2 A.f_Ratio___init__ D.f_Ratio___init__ ["self", "top", "bottom"] (sp_init A.Ratio) := ok_Ratio___init__ T
  have b_Ratio_init2 := T.b_Ratio___init__
  have d_Ratio_init2 : Vals [] [] := .nil
  have G__over_one_bottom : FnOk P w K mg base CX0 7 A.f__over_one_bottom D.f__over_one_bottom ["row", "p"] (sp_over1 A) := ok__over_one_bottom T
  have G_paired : FnOk P w K mg base CX0 1 A.f_paired D.f_paired ["factors", "tops"] (sp_paired) := ok_paired T
  refine T.F_mean.ok sc_mean (fun vs H Q E h => ?_) (fun cdv A' outer s H vs Q E hr h => ?_)
  · obtain ⟨v, p, xs, s, f, g, N, M, e, n, d, m, rfl, _⟩ := h
    rfl
  · obtain ⟨v, p, xs, s, f, g, N, M, e, n, d, m, rfl, hv, rr, l0, l1, hp, hs, cf, N0, N1, cg, M0, M1, he, hn, hd, hm, q⟩ := h
    refine ⟨_, (pss_cons (ps_asg (pe_call G__over_one_bottom (hr.mono (by decide)) rfl T.g__over_one_bottom T.F__over_one_bottom.kp T.b__over_one_bottom .nil pass0 (pa_cons (pv 0) (pa_cons (pv 1) pa_nil))) (pg_tup rfl (pgs_cons (pg_name (i := 2) sc_mean.nd rfl (.inl rfl)) (pgs_cons (pg_name (i := 3) sc_mean.nd rfl (.inl rfl)) (pgs_cons (pg_name (i := 4) sc_mean.nd rfl (.inl rfl)) pgs_nil)))))
  (pss_one (ps_ret (pe_make T.M_Ratio G_Ratio_init (hr.mono (by decide)) rfl T.g_Ratio b_Ratio_init2 d_Ratio_init2 pass0 (pa_cons (pe_call G_paired (hr.mono (by decide)) rfl T.g_paired T.F_paired.kp T.b_paired .nil pass0 (pa_cons (pv 2) (pa_cons (pv 3) pa_nil))) (pa_cons (pv 4) pa_nil)))))), ?_⟩
    refine ⟨_, rfl, _, rfl, v, p, xs, s, f, g, N, M, e, n, d, m, rfl, hv, rr, l0, l1, hp, hs, cf, N0, N1, cg, M0, M1, he, hn, hd, hm, fun H1 tp lf lt fs ts B U k1 htp hlf hlt lm ln b0 u0 b1 u1 hts hus bts bus => ?_⟩
    refine ⟨tp, _, rfl, .of htp, rfl, _, _, rfl, _, _, rfl, _, _, rfl, rfl, ?_⟩
    refine ⟨_, rfl, _, rfl, lf, lt, fs, ts, d, e, rfl, hlf, hlt, by omega, by omega, bus, bts, hd, he, fun H2 k2 => ⟨_, rfl, ?_⟩⟩
    have bu : B * U ≠ 0 := by have := Int.mul_pos b0 u0; omega
    refine fun x dx nx nd ne => rat_make bu (sm_of (nmul b1 u1) (by omega)) nx nd ne fun G s3 r3 => q G _ ((k1.trans k2).trans s3) (r3.to (div_eq bu ?_))
    rw [range_sum, lm, ← sumR_mulr]
    refine sumR_congr fun k hk => ?_
    rw [Rat.intCast_mul, Rat.intCast_mul, hus.get (by omega), hts.get (by omega)]
    grind
end

end Mo

namespace Mo
open PySem PySem.Spec PyProof.Rows L2 MoL MoW
open C8 (pss_cut tCut)
section
variable {P : Program} {w : World} {K : PySem.W.Frag} {mg : Str → Option Value} {base : Heap} {A : Ad} {D : Fd}
def sp_operand (A : Ad) : Sp := fun vs H Q _ => ∃ x, vs = [x] ∧ (Ins H x A.Poly ∨ ((∃ i, x = .int i) ∨ Ins H x A.Ratio)) ∧ Q (.bl true) H
theorem ok__is_operand (T : Txt K mg A D) : FnOk P w K mg base CX0 3 A.f__is_operand D.f__is_operand ["x"] (sp_operand A) := by
  have G_is_number : FnOk P w K mg base CX0 2 A.f_is_number D.f_is_number ["x"] (sp_isnum K A.Ratio) := ok_is_number T
  refine T.F__is_operand.ok sc__is_operand (fun vs H Q E h => ?_) (fun cdv A' outer s H vs Q E hr h => ?_)
  · obtain ⟨x, rfl, _⟩ := h
    rfl
  · obtain ⟨x, rfl, hx, q⟩ := h
    refine ⟨_, (pss_one (ps_ret (pe_or (pe_callB call_isi rfl T.z_isinstance (by decide +kernel) (pa_cons (pv 0) (pa_cons (pe_glob (v := .ref A.Poly) rfl T.g_Poly rfl) pa_nil))) (pe_one (pe_call G_is_number (hr.mono (by decide)) rfl T.g_is_number T.F_is_number.kp T.b_is_number .nil pass0 (pa_cons (pv 0) pa_nil)))))), ?_⟩
    rcases hx with ⟨a, dx, fs, rfl, ha⟩ | ⟨i, rfl⟩ | ⟨a, dx, fs, rfl, ha⟩
    · exact ⟨_, rfl, .ref a, .ref A.Poly, _, _, true, rfl, .own _, T.k_Poly.ty ha, kit_self, true, rfl, iteT q⟩
    · exact ⟨_, rfl, .int i, .ref A.Poly, _, _, false, rfl, .own _, .base (.int i), T.k_Poly.ik, false, rfl, iteF ⟨_, rfl, _, rfl, .inl ⟨.inl ⟨i, rfl⟩, q⟩⟩⟩
    · exact ⟨_, rfl, .ref a, .ref A.Poly, _, _, false, rfl, .own _, T.k_Ratio.ty ha, T.kit_RP, false, rfl, iteF ⟨_, rfl, _, rfl, .inl ⟨.inr ⟨a, dx, fs, rfl, ha⟩, q⟩⟩⟩
def sp_polyof (A : Ad) : Sp := fun vs H Q _ => ∃ x s f, vs = [x] ∧ OperV A.Poly A.Ratio H x s f ∧ (∀ k, Bd 3900 3900 (f k)) ∧ ∀ H' v, Same H H' → PolyV A.Poly A.Ratio H' v s f → Q v H'
theorem numF_size {CP CR : Addr} {H : Hp} {v : V} {s : Nat} {c : Rat} (h : PolyV CP CR H v s (numF c)) (hs : s ≤ 1) : s = (if c = 0 then 0 else 1) := by
  rcases (by omega : s = 0 ∨ s = 1) with e | e
  · have := h.zero 0 (by omega)
    rw [if_pos (show c = 0 from this)]
    exact e
  · have := h.last (by omega)
    rw [e] at this
    rw [if_neg (show c ≠ 0 from this)]
    exact e
theorem ok_poly_of (T : Txt K mg A D) : FnOk P w K mg base CX0 8 A.f_poly_of D.f_poly_of ["q"] (sp_polyof A) := by
  have G_Poly_init : FnOk P w K mg base CX0 6 A.f_Poly___init__ D.f_Poly___init__ ["self", "coefficients"] (sp_poly K A) := ok_Poly___init__ T
  have b_Poly_init1 := T.b_Poly___init__
  have d_Poly_init1 : Vals [] [] := .nil
  refine T.F_poly_of.ok sc_poly_of (fun vs H Q E h => ?_) (fun cdv A' outer s H vs Q E hr h => ?_)
  · obtain ⟨x, s, f, rfl, _⟩ := h
    rfl
  · obtain ⟨x, s, f, rfl, hx, hb, q⟩ := h
    refine ⟨_, (pss_cons (ps_if (pt_val (pe_callB call_isi rfl T.z_isinstance (by decide +kernel) (pa_cons (pv 0) (pa_cons (pe_glob (v := .ref A.Poly) rfl T.g_Poly rfl) pa_nil)))) (pss_one (ps_ret (pv 0))) pss_nil)
  (pss_one (ps_ret (pe_make T.M_Poly G_Poly_init (hr.mono (by decide)) rfl T.g_Poly b_Poly_init1 d_Poly_init1 pass0 (pa_cons (pe_lst (pa_cons (pv 0) pa_nil)) pa_nil))))), ?_⟩
    rcases hx with hx | ⟨c, hc, rfl, rfl⟩
    · obtain ⟨a, dx, fs, rfl, ha⟩ := hx.ins
      exact ⟨_, rfl, .ref a, .ref A.Poly, _, _, true, rfl, .own _, T.k_Poly.ty ha, kit_self, true, rfl, iteT ⟨_, rfl, q H _ (Same.refl H) hx⟩⟩
    · have tail : tRet (tMake A.Poly (sp_poly K A) [] E0 (tCons (tLst (tCons (tVar 0) tNil)) tNil)) { nx := fun x H' => Q V.non H', rt := Q } (start N_poly_of [x]) H := by
        refine ⟨_, rfl, by show 1 ≤ sizeLine; decide, fun d nd => ?_⟩
        have s1 := same_upd (o := .lst [x]) nd
        refine fun y dy ny ndy ne => poly_make (xs := [x]) (f := numF c) ny ndy (.inl upd_same) (fun k z e => ?_) (by show 1 ≤ 60; decide) (fun k _ => hb k) (fun k hk => ?_) fun G s s2 pl hs => q G _ (s1.trans s2) (numF_size pl hs ▸ pl)
        · cases k with
          | zero =>
            cases e
            exact hc.same s1
          | succ k => simp at e
        · exact if_neg (by have : 1 ≤ k := hk; omega)
      rcases hc.kind with ⟨i, rfl⟩ | ⟨a, dx, fs, rfl, ha⟩
      · exact ⟨_, rfl, .int i, .ref A.Poly, _, _, false, rfl, .own _, .base (.int i), T.k_Poly.ik, false, rfl, iteF tail⟩
      · exact ⟨_, rfl, .ref a, .ref A.Poly, _, _, false, rfl, .own _, T.k_Ratio.ty ha, T.kit_RP, false, rfl, iteF tail⟩
def sp_pprodN (A : Ad) : Sp := fun vs H Q _ => ∃ (p u : V) (n m n2 m2 s s2 e : Nat) (f g : Nat → Rat) (N M : Int), vs = [p, u] ∧ PolyV A.Poly A.Ratio H p s f ∧ PolyV A.Poly A.Ratio H u s2 g ∧ (∀ k, Cm N n (f k)) ∧ 0 < N ∧ N.natAbs < 2 ^ m ∧ (∀ k, Cm M n2 (g k)) ∧ 0 < M ∧ M.natAbs < 2 ^ m2 ∧ s + s2 ≤ 60 ∧ n ≤ e ∧ n2 ≤ e ∧ e + e + 6 ≤ 3900 ∧ m + m2 ≤ 3900 ∧
  ∀ H' v s3, Same H H' → PolyV A.Poly A.Ratio H' v s3 (mulF f g) → s3 ≤ s + s2 → Q v H'
theorem ok_product_polys (T : Txt K mg A D) : FnOk P w K mg base CX0 9 A.f_product_polys D.f_product_polys ["one", "other"] (sp_pprodN A) := by
  have G_Poly_init : FnOk P w K mg base CX0 6 A.f_Poly___init__ D.f_Poly___init__ ["self", "coefficients"] (sp_poly K A) := ok_Poly___init__ T
  have b_Poly_init1 := T.b_Poly___init__
  have d_Poly_init1 : Vals [] [] := .nil
  have G_Ratio_init : FnOk P w K mg base CX0 2 A.f_Ratio___init__ D.f_Ratio___init__ ["self", "top", "bottom"] (sp_init A.Ratio) := ok_Ratio___init__ T
  have b_Ratio_init2 := T.b_Ratio___init__
  have d_Ratio_init2 : Vals [] [] := .nil
  have G_whole_parts : FnOk P w K mg base CX0 2 A.f_whole_parts D.f_whole_parts ["ratios"] (sp_partsN A.Ratio) := ok_whole_parts T
  refine T.F_product_polys.ok sc_product_polys (fun vs H Q E h => ?_) (fun cdv A' outer s H vs Q E hr h => ?_)
  · obtain ⟨p, u, n, m, n2, m2, s, s2, e, f, g, N, M, rfl, _⟩ := h
    rfl
  · obtain ⟨p, u, n, m, n2, m2, s, s2, e, f, g, N, M, rfl, hp, hu, bf, N0, N1, bg, M0, M1, hs, he1, he2, he, hmm, q⟩ := h
    refine ⟨_, (pss_cons (ps_asg (pe_call G_whole_parts (hr.mono (by decide)) rfl T.g_whole_parts T.F_whole_parts.kp T.b_whole_parts .nil pass0 (pa_cons (pe_fld (pv 0) rfl) pa_nil)) (pg_tup rfl (pgs_cons (pg_name (i := 2) sc_product_polys.nd rfl (.inl rfl)) (pgs_cons (pg_name (i := 3) sc_product_polys.nd rfl (.inr rfl)) pgs_nil))))
  (pss_cons (ps_asg (pe_call G_whole_parts (hr.mono (by decide)) rfl T.g_whole_parts T.F_whole_parts.kp T.b_whole_parts .nil pass0 (pa_cons (pe_fld (pv 1) rfl) pa_nil)) (pg_tup rfl (pgs_cons (pg_name (i := 4) sc_product_polys.nd rfl (.inl rfl)) (pgs_cons (pg_name (i := 5) sc_product_polys.nd rfl (.inr rfl)) pgs_nil))))
  (pss_cons (ps_set (i := 6) sc_product_polys.nd rfl (.inl rfl) (pe_op op_add (pe_callB call_len_seq rfl T.z_len (by decide +kernel) (pa_cons (pv 2) pa_nil)) (pe_callB call_len_seq rfl T.z_len (by decide +kernel) (pa_cons (pv 4) pa_nil))))
  (pss_cons (ps_set (i := 7) sc_product_polys.nd rfl (.inl rfl) (pe_op op_rep (pe_lst (pa_cons pe_int pa_nil)) (pv 6)))
  (pss_cons (ps_for PassesOwn.never rfl (pi_range1 rfl T.z_range (pa_cons (pe_callB call_len_seq rfl T.z_len (by decide +kernel) (pa_cons (pv 2) pa_nil)) pa_nil)) (pg_name (i := 8) sc_product_polys.nd rfl (.inl rfl)) (pss_one (ps_for PassesOwn.never rfl (pi_range1 rfl T.z_range (pa_cons (pe_callB call_len_seq rfl T.z_len (by decide +kernel) (pa_cons (pv 4) pa_nil)) pa_nil)) (pg_name (i := 9) sc_product_polys.nd rfl (.inl rfl)) (pss_one (ps_asg (pe_op op_add (pe_ix ix_list (pv 7) (pe_op op_add (pv 8) (pv 9)) (fun _ _ => rfl)) (pe_op op_mulW (pe_ix ix_list (pv 2) (pv 8) (fun _ _ => rfl)) (pe_ix ix_list (pv 4) (pv 9) (fun _ _ => rfl)))) (pg_sub (pv 7) (pe_op op_add (pv 8) (pv 9)) set_list))))))
  (pss_one (ps_ret (pe_make T.M_Poly G_Poly_init (hr.mono (by decide)) rfl T.g_Poly b_Poly_init1 d_Poly_init1 pass0 (pa_cons (pe_lc (own := [("top", 10)]) (g := gName 10) (tt := tYes) rfl sc_product_polys.nd (pi_list (pv 7)) (blkOk_by (N := N_product_polys) (sc := defScope s_product_polys) (by decide +kernel)) (fun _ _ _ _ _ => (pg_name (i := 10) sc_product_polys.nd rfl (.inl rfl))) (fun _ _ _ _ _ => pts_nil) (fun _ _ _ _ _ => (pe_make T.M_Ratio G_Ratio_init (hr.mono (by decide)) rfl T.g_Ratio b_Ratio_init2 d_Ratio_init2 pass0 (pa_cons (pv 10) (pa_cons (pe_op op_mulW (pv 3) (pv 5)) pa_nil))))) pa_nil))))))))), ?_⟩
    have cl := T.k_Poly.cl
    obtain ⟨⟨a, dx, tp, ys, l, rfl, h1, h2, h3, h4, h5⟩, z, z2⟩ := hp
    obtain ⟨⟨a', dx', tp', ys', l', rfl, h1', h2', h3', h4', h5'⟩, z', z2'⟩ := hu
    refine ⟨_, rfl, a, A.Poly, dx, _, _, rfl, h1, cl, T.n_Poly_coefficients, rfl, .ref tp, ys, f, N, n, m, rfl, ⟨tp, rfl, .inr h2⟩, h4, fun k _ => bf k, N0, N1, by omega, by omega, by omega, fun H1 pt lt ts U k1 hpt hlt ln u0 u1 hts bts => ?_⟩
    refine ⟨pt, _, rfl, .of hpt, rfl, _, _, rfl, _, _, rfl, rfl, ?_⟩
    refine ⟨_, rfl, a', A.Poly, dx', _, _, rfl, k1 _ _ h1', cl, T.n_Poly_coefficients, rfl, .ref tp', ys', g, M, n2, m2, rfl, ⟨tp', rfl, .inr (k1 _ _ h2')⟩, h4'.same k1, fun k _ => bg k, M0, M1, by omega, by omega, by omega, fun H2 pu lu us B k2 hpu hlu lm b0 b1 hus bus => ?_⟩
    refine ⟨pu, _, rfl, .of hpu, rfl, _, _, rfl, _, _, rfl, rfl, ?_⟩
    rw [h3] at ln
    rw [h3'] at lm
    have bts := bts.mono he1
    have bus := bus.mono he2
    have hlt2 := k2 _ _ hlt
    have k12 := k1.trans k2
    have zf : ∀ k, ts.length ≤ k → f k = 0 := fun k hk => z k (by omega)
    have zg : ∀ k, us.length ≤ k → g k = 0 := fun k hk => z' k (by omega)
    clear k1 k2 hlt hpt hpu h1 h2 h4 h1' h2' h4' h5 h5'
    refine ⟨_, rfl, lt, _, rfl, .inl (.of hlt2), _, rfl, lu, _, rfl, .inl (.of hlu), _, _, rfl, rfl, ?_⟩
    refine ⟨by show 1 ≤ sizeLine; decide, fun pz nz => ?_⟩
    have k3 := same_upd (o := .lst [.int 0]) nz
    have el : (((ts.map V.int).length : Nat) : Int) + (((us.map V.int).length : Nat) : Int) = ((s + s2 : Nat) : Int) := by
      rw [List.length_map, List.length_map]
      omega
    refine ⟨_, rfl, pz, ((s + s2 : Nat) : Int), _, rfl, by show V.int ((((ts.map V.int).length : Nat) : Int) + (((us.map V.int).length : Nat) : Int)) = _; rw [el], upd_same, by omega, by omega, by show 1 * _ ≤ sizeLine; rw [Nat.one_mul]; exact Nat.le_of_lt (small1000 (by omega)), fun d nd => ?_⟩
    rw [show (((s + s2 : Nat) : Int)).toNat = s + s2 by omega, rep_flat, ← cvL_zero (ts := ts) (us := us)]
    have k4 := same_upd (o := .lst ((cvL ts us (s + s2) 0 0).map V.int)) nd
    have nd2 : H2 d = none := k3.free nd
    have k34 := k3.trans k4
    have hd := upd_same (a := d) (o := HO.lst ((cvL ts us (s + s2) 0 0).map V.int)) (H := upd H2 pz (.lst [.int 0]))
    have hlt4 := k34 _ _ hlt2
    generalize upd (upd H2 pz (.lst [.int 0])) d (.lst ((cvL ts us (s + s2) 0 0).map V.int)) = H4 at *
    clear k3 k4 nz nd
    refine ⟨_, rfl, lt, _, rfl, .inl (.of hlt4), _, rfl, by rw [List.length_map]; omega, by rw [List.length_map]; omega, ?_⟩
    have en : (((ts.map V.int).length : Nat) : Int).toNat = s := by
      rw [List.length_map]
      omega
    have em : (((us.map V.int).length : Nat) : Int).toNat = s2 := by
      rw [List.length_map]
      omega
    rw [en]
    refine for_range (lo := 0) (fun k σ G => Same H2 G ∧ G d = some (.lst ((cvL ts us (s + s2) k 0).map V.int)) ∧ ∃ (y6 : Option V) (y8 y9 : Option V), σ = [some (.ref a), some (.ref a'), some (.ref lt), some (.int U), some (.ref lu), some (.int B), y6, some (.ref d), y8, y9, none]) ⟨k34, hd, _, _, _, rfl⟩ ?_ ?_
    · rintro k σ G hk ⟨sm, hd, y6, y8, y9, rfl⟩
      refine ⟨_, rfl, lu, _, rfl, .inl (.of (sm _ _ hlu)), _, rfl, by rw [List.length_map]; omega, by rw [List.length_map]; omega, ?_⟩
      rw [em]
      refine for_range (lo := 0) (fun j σ G => Same H2 G ∧ G d = some (.lst ((cvL ts us (s + s2) k j).map V.int)) ∧ ∃ (y9 : Option V), σ = [some (.ref a), some (.ref a'), some (.ref lt), some (.int U), some (.ref lu), some (.int B), y6, some (.ref d), some (.int (0 + (k : Int))), y9, none]) ⟨sm, hd, _, rfl⟩ ?_ ?_
      · rintro j σ G hj ⟨sm, hd, y9, rfl⟩
        have ei : (0 + (k : Int)) + (0 + (j : Int)) = ((k + j : Nat) : Int) := by omega
        have hi : k + j < s + s2 := by omega
        have hat : atI ((cvL ts us (s + s2) k j).map V.int) ((0 + (k : Int)) + (0 + (j : Int))) = some (V.int (cvP ts us k j (k + j))) := by
          rw [ei]
          refine atI_nat ?_
          rw [List.getElem?_map, cvL_at hi]
          rfl
        have hix : ixN ((cvL ts us (s + s2) k j).map V.int).length ((0 + (k : Int)) + (0 + (j : Int))) = some (k + j) := by
          rw [ei, List.length_map, cvL_len]
          show (if (0 : Int) ≤ ((k + j : Nat) : Int) then if ((k + j : Nat) : Int) < ((s + s2 : Nat) : Int) then some (((k + j : Nat) : Int)).toNat else none else _) = _
          rw [if_pos (by omega), if_pos (by omega)]
          congr 1
        refine ⟨_, rfl, _, rfl, _, rfl, _, _, rfl, rfl, d, _, _, _, rfl, rfl, .of hd, hat, _, rfl, _, rfl, lt, _, _, _, rfl, rfl, .of (sm _ _ hlt2), atI_getD (show k < ts.length by omega), _, rfl, _, rfl, lu, _, _, _, rfl, rfl, .of (sm _ _ hlu), atI_getD (show j < us.length by omega), _, _, rfl, rfl, (sm_of (bts k) (by omega)).mul (sm_of (bus j) (by omega)), _, _, rfl, rfl, ?_⟩
        refine ⟨_, rfl, _, rfl, _, rfl, _, _, rfl, rfl, d, _, _, _, rfl, rfl, hd, hix, ?_⟩
        exact ⟨same_push sm nd2, by rw [upd_same]; exact congrArg (fun z => some (HO.lst z)) (cvL_set hi), _, rfl⟩
      · rintro σ G ⟨sm, hd, y9, rfl⟩
        refine ⟨sm, ?_, _, _, _, rfl⟩
        rw [← cvL_next, lm]
        exact hd
    · rintro σ G ⟨sm, hd, y6, y8, y9, rfl⟩
      have ub : (U * B).natAbs < 2 ^ (m + m2) := nle (nmul u1 b1) (by omega)
      have ub0 := Int.mul_pos u0 b0
      have sz : ∀ i, (cv ts us i).natAbs < 2 ^ (e + e + 6) := fun i => by
        rw [← cvP_all]
        exact cvP_lt bts bus (by omega)
      have hv := fun i => cv_val hts hus zf zg i
      have bd : ∀ i, Bd (e + e + 6) (m + m2) (mulF f g i) := fun i => .of (by omega) (hv i).symm (sz i) ub
      refine ⟨_, rfl, d, rfl, ⟨_, .of hd⟩, fun dn ndn => ?_⟩
      refine lc_list (K := K) (a := d) (xs := (cvL ts us (s + s2) s 0).map V.int) (fun i E => Gro A.Ratio G dn (mulF f g) i E) (.start ndn) (fun i E _ p => .of (p.1 _ _ hd)) ?_ ?_
      · rintro i x E hx pI
        have hi : i < s + s2 := by
          have := get_lt hx
          rw [List.length_map, cvL_len] at this
          exact this
        rw [List.getElem?_map, cvL_at hi] at hx
        cases hx
        have ecv : cvP ts us s 0 i = cv ts us i := by rw [← ln]; exact cvP_all
        refine ⟨rfl, _, rfl, _, rfl, _, rfl, _, _, rfl, rfl, (sm_of u1 (by omega)).mul (sm_of b1 (by omega)), fun r dr nr nd3 ne => rat_make (by omega) (sm_of ub (by omega)) nr nd3 ne fun E2 k6 r6 => ?_⟩
        exact pI.push ndn (by omega) k6 (r6.to (by rw [ecv]; exact div_eq (by omega) (hv i).symm))
      · rintro E ⟨sm2, zs, hz, hdn, hr⟩
        rw [List.length_map, cvL_len] at hz
        exact fun x dx nx ndx ne => poly_make nx ndx (.inl hdn) hr.nums (by omega) (fun k _ => (bd k).mono (by omega) (by omega)) (fun k hk => mulF_out z z' (by omega)) fun G7 s7 k7 pl hs7 => q G7 _ s7 ((k12.trans sm).trans (sm2.trans k7)) pl (by omega)
def sp_pmulN (A : Ad) : Sp := fun vs H Q _ => ∃ (p u : V) (n m n2 m2 s s2 e : Nat) (f g : Nat → Rat) (N M : Int), vs = [p, u] ∧ PolyV A.Poly A.Ratio H p s f ∧ PolyV A.Poly A.Ratio H u s2 g ∧ (∀ k, Cm N n (f k)) ∧ 0 < N ∧ N.natAbs < 2 ^ m ∧ (∀ k, Cm M n2 (g k)) ∧ 0 < M ∧ M.natAbs < 2 ^ m2 ∧ s + s2 ≤ 60 ∧ n ≤ e ∧ n2 ≤ e ∧ e + e + 6 ≤ 3900 ∧ m + m2 ≤ 3900 ∧
  ∀ H' v s3, Same H H' → PolyV A.Poly A.Ratio H' v s3 (mulF f g) → s3 ≤ s + s2 → Q v H'
theorem ok_Poly___mul__ (T : Txt K mg A D) : FnOk P w K mg base CX0 10 A.f_Poly___mul__ D.f_Poly___mul__ ["self", "other"] (sp_pmulN A) := by
  have G__is_operand : FnOk P w K mg base CX0 3 A.f__is_operand D.f__is_operand ["x"] (sp_operand A) := ok__is_operand T
  have G_poly_of : FnOk P w K mg base CX0 8 A.f_poly_of D.f_poly_of ["q"] (sp_polyof A) := ok_poly_of T
  have G_product_polys : FnOk P w K mg base CX0 9 A.f_product_polys D.f_product_polys ["one", "other"] (sp_pprodN A) := ok_product_polys T
  refine T.F_Poly___mul__.ok sc_Poly___mul__ (fun vs H Q E h => ?_) (fun cdv A' outer s H vs Q E hr h => ?_)
  · obtain ⟨p, u, n, m, n2, m2, s, s2, e, f, g, N, M, rfl, _⟩ := h
    rfl
  · obtain ⟨p, u, n, m, n2, m2, s, s2, e, f, g, N, M, rfl, hp, hu, bf, N0, N1, bg, M0, M1, hs, e1, e2, he, hm, q⟩ := h
    refine ⟨_, (pss_cons (ps_if (pt_not (pt_val (pe_call G__is_operand (hr.mono (by decide)) rfl T.g__is_operand T.F__is_operand.kp T.b__is_operand .nil pass0 (pa_cons (pv 1) pa_nil)))) (pss_one ps_never) pss_nil)
  (pss_one (ps_ret (pe_call G_product_polys (hr.mono (by decide)) rfl T.g_product_polys T.F_product_polys.kp T.b_product_polys .nil pass0 (pa_cons (pv 0) (pa_cons (pe_call G_poly_of (hr.mono (by decide)) rfl T.g_poly_of T.F_poly_of.kp T.b_poly_of .nil pass0 (pa_cons (pv 1) pa_nil)) pa_nil)))))), ?_⟩
    have ou : OperV A.Poly A.Ratio H u s2 g := .inl hu
    refine ⟨_, rfl, _, rfl, ou.kind, true, rfl, iteF ?_⟩
    refine ⟨_, rfl, _, rfl, u, s2, g, rfl, ou, fun k => ((bg k).bd (by omega) M1).mono (by omega) (by omega), fun H1 v k1 hv => ⟨p, v, n, m, n2, m2, s, s2, e, f, g, N, M, rfl, hp.same k1, hv, bf, N0, N1, bg, M0, M1, hs, e1, e2, he, hm, fun H2 v2 s3 k2 h2 h3 => q H2 v2 s3 (k1.trans k2) h2 h3⟩⟩
def RatB (C : Addr) : Addr → Addr → Hp → Bool → Prop := fun a b H r => ∃ z w, RatV C H (.ref a) z ∧ RatV C H (.ref b) w ∧ Bd 3900 3900 z ∧ Bd 3900 3900 w ∧ r = decide (z = w)
theorem eqB_imp {C : Addr} : ∀ (vs : List V) (H : Hp) (Q : VK) (E : XK), spEqB (RatB C) vs H Q E → sp_cmp C r_eq vs H Q E := fun vs H Q E h => by
  obtain ⟨a, b, r, rfl, ⟨z, w, r1, r2, b1, b2, rfl⟩, q⟩ := h
  exact ⟨.ref a, .ref b, z, w, rfl, r1, r2.num, b1, b2, q H fun _ _ h => h⟩
theorem eqB_mon {C : Addr} : MonB (InsB C (RatB C)) := fun x y H H' b k h => by
  obtain ⟨a, c, dx, dy, fs, gs, e1, e2, h1, h2, z, w, r1, r2, s⟩ := h
  exact ⟨a, c, dx, dy, fs, gs, e1, e2, k _ _ h1, k _ _ h2, z, w, r1.same k, r2.same k, s⟩
theorem eqB_ref {C : Addr} : ∀ (x y : V) (H : Hp) (b : Bool), InsB C (RatB C) x y H b → ∃ a c, x = .ref a ∧ y = .ref c ∧ (a = c → b = true) := fun x y H b h => by
  obtain ⟨a, c, dx, dy, fs, gs, e1, e2, h1, h2, z, w, r1, r2, _, _, rfl⟩ := h
  refine ⟨a, c, e1, e2, fun e => ?_⟩
  subst e
  exact decide_eq_true (r1.one r2)
def sp_peqB (A : Ad) : Sp := fun vs H Q _ => ∃ p u s s2 f g, vs = [p, u] ∧ PolyV A.Poly A.Ratio H p s f ∧ PolyV A.Poly A.Ratio H u s2 g ∧ (∀ k, Bd 3900 3900 (f k)) ∧ (∀ k, Bd 3900 3900 (g k)) ∧ ∀ H' r, Same H H' → (r = true ↔ ∀ k, f k = g k) → Q (.bl r) H'
theorem ok_Poly___eq__ (T : Txt K mg A D) : FnOk P w K mg base CX0 5 A.f_Poly___eq__ D.f_Poly___eq__ ["self", "other"] (sp_peqB A) := by
  have G_Ratio___eq__ : FnOk P w K mg base CX0 3 A.f_Ratio___eq__ D.f_Ratio___eq__ ["self", "other"] (sp_cmp A.Ratio r_eq) := ok_Ratio___eq__ T
  refine T.F_Poly___eq__.ok sc_Poly___eq__ (fun vs H Q E h => ?_) (fun cdv A' outer s H vs Q E hr h => ?_)
  · obtain ⟨p, u, s, s2, f, g, rfl, _⟩ := h
    rfl
  · obtain ⟨p, u, s, s2, f, g, rfl, hp, hu, bf, bg, q⟩ := h
    refine ⟨_, (pss_one (ps_ret (pe_and (pe_callB call_isi rfl T.z_isinstance (by decide +kernel) (pa_cons (pv 1) (pa_cons (pe_glob (v := .ref A.Poly) rfl T.g_Poly rfl) pa_nil))) (pe_one (pe_cmpR (op_eqB (rcB_tup eqB_mon (RcB.eqB (rcB_ins (G_Ratio___eq__.imp eqB_imp) T.m_Ratio___eq__.at_ T.m_Ratio___eq__.fn T.b_Ratio___eq__ pass0) eqB_ref)) (hr.mono (by decide))) (pe_fld (pv 0) rfl) (pe_fld (pv 1) rfl) (nomark _)))))), ?_⟩
    have cl := T.k_Poly.cl
    obtain ⟨⟨a, dx, tp, ys, l, rfl, h1, h2, h3, h4, h5⟩, hz, z2⟩ := hp
    obtain ⟨⟨a', dx', tp', ys', l', rfl, h1', h2', h3', h4', h5'⟩, hz', z2'⟩ := hu
    refine ⟨_, rfl, .ref a', .ref A.Poly, _, _, true, rfl, .own _, T.k_Poly.ty h1', kit_self, true, rfl, iteT ?_⟩
    refine ⟨_, rfl, a, A.Poly, dx, _, _, rfl, h1, cl, T.n_Poly_coefficients, rfl, _, rfl, a', A.Poly, dx', _, _, rfl, h1', cl, T.n_Poly_coefficients, rfl, _, ⟨tp, tp', ys, ys', fun i => decide (f i = g i), rfl, rfl, .of h2, .of h2', fun i x y ex ey => ?_, rfl⟩, fun H' k => q H' _ k ?_⟩
    · have r1 := h4 i x ex
      have r2 := h4' i y ey
      have ⟨b, db, e1, g1⟩ := r1
      have ⟨c, dc, e2, g2⟩ := r2
      subst e1 e2
      exact ⟨b, c, db, dc, _, _, rfl, rfl, g1, g2, f i, g i, r1, r2, bf i, bg i, rfl⟩
    · rw [Bool.and_eq_true, List.all_eq_true, beq_iff_eq, h3, h3']
      constructor
      · rintro ⟨e1, e2⟩ k
        rcases Nat.lt_or_ge k s with c | c
        · exact of_decide_eq_true (e1 k (List.mem_range.mpr (by omega)))
        · rw [hz k c, hz' k (by omega)]
      · intro e
        have eg : f = g := funext e
        subst eg
        exact ⟨fun k _ => decide_eq_true rfl, size_one hz z2 hz' z2'⟩
/-- u + t x -/
abbrev linF (u t : Rat) : Nat → Rat := fun k => if k = 0 then u else if k = 1 then t else 0
/-- the factors of a place, their sizes, how many -/
def facF (lo hi : Option Rat) : Nat → Nat → Rat
  | 0 => numF 1
  | 1 => linF (-(lo.getD 0)) 1
  | 2 => linF (hi.getD 0) (-1)
  | _ => mulF (linF (-(lo.getD 0)) 1) (linF (hi.getD 0) (-1))
def facS : Nat → Nat
  | 0 => 1
  | 1 => 2
  | 2 => 2
  | _ => 3
def facN (lo hi : Option Rat) : Nat := if hi.isSome then 4 else if lo.isSome then 2 else 1
structure FacsAt (A : Ad) (H : Hp) (lo hi : Option Rat) (zs : List V) (n : Nat) : Prop where
  len : zs.length = n
  at_ : ∀ k x, zs[k]? = some x → PolyV A.Poly A.Ratio H x (facS k) (facF lo hi k)
theorem FacsAt.same {A : Ad} {H H' : Hp} {lo hi : Option Rat} {zs : List V} {n : Nat} (h : FacsAt A H lo hi zs n) (k : Same H H') : FacsAt A H' lo hi zs n := ⟨h.len, fun j x e => (h.at_ j x e).same k⟩
theorem poly_put {CP CR : Addr} {H : Hp} {v : V} {s : Nat} {f : Nat → Rat} {d : Addr} {ys : List V} {o : HO} (h : PolyV CP CR H v s f) (hd : H d = some (.lst ys)) : PolyV CP CR (upd H d o) v s f := by
  obtain ⟨⟨a, dx, tp, zs, l, e, h1, h2, h3, h4, h5⟩, z, z2⟩ := h
  refine ⟨⟨a, dx, tp, zs, l, e, ?_, ?_, h3, fun j x e => (h4 j x e).put hd, h5.put hd⟩, z, z2⟩
  · rw [upd_ne fun e => by rw [e, hd] at h1; cases h1]
    exact h1
  · rw [upd_ne fun e => by rw [e, hd] at h2; cases h2]
    exact h2
theorem FacsAt.push {A : Ad} {H : Hp} {lo hi : Option Rat} {zs : List V} {n : Nat} {d : Addr} {ys : List V} {o : HO} {x : V} (h : FacsAt A H lo hi zs n) (hd : H d = some (.lst ys)) (hx : PolyV A.Poly A.Ratio H x (facS n) (facF lo hi n)) : FacsAt A (upd H d o) lo hi (zs ++ [x]) (n + 1) := by
  refine ⟨by rw [List.length_append, h.len]; rfl, fun k y e => ?_⟩
  rcases push_get e with ⟨_, e1⟩ | ⟨rfl, rfl⟩
  · exact poly_put (h.at_ k y e1) hd
  · rw [h.len]
    exact poly_put hx hd
/-- a Poly of two numbers -/
theorem lin_nums {C : Addr} {H : Hp} {v u : V} {z t : Rat} (hv : NumV C H v z) (hu : NumV C H u t) : NumsV C H [v, u] (linF z t) := fun k x e => by
  cases k with
  | zero =>
    cases e
    exact hv
  | succ k =>
    cases k with
    | zero =>
      cases e
      exact hu
    | succ k => simp at e
theorem lin_size {CP CR : Addr} {H : Hp} {v : V} {s : Nat} {z t : Rat} (h : PolyV CP CR H v s (linF z t)) (ht : t ≠ 0) (hs : s ≤ 2) : s = 2 := by
  rcases (by omega : s = 2 ∨ s ≤ 1) with e | e
  · exact e
  · exact absurd (h.zero 1 e) ht
theorem mulF_lin {z t : Rat} : ∀ k, mulF (linF z 1) (linF t (-1)) k = if k = 0 then z * t else if k = 1 then t - z else if k = 2 then -1 else 0
  | 0 => by
    show (0 : Rat) + z * t = _
    rw [if_pos rfl]
    grind
  | 1 => by
    show (0 : Rat) + z * (-1) + 1 * t = t - z
    grind
  | 2 => by
    show (0 : Rat) + z * 0 + 1 * (-1) + 0 * t = -1
    grind
  | k + 3 => by
    rw [if_neg (by omega), if_neg (by omega), if_neg (by omega)]
    exact mulF_out (s := 2) (s2 := 2) (fun k hk => by show (if k = 0 then _ else if k = 1 then _ else _) = _; rw [if_neg (by omega), if_neg (by omega)]) (fun k hk => by show (if k = 0 then _ else if k = 1 then _ else _) = _; rw [if_neg (by omega), if_neg (by omega)]) (by omega)
theorem lin_cm {N : Int} {e : Nat} {z t : Rat} (hz : Cm N e z) (ht : Cm N e t) (k : Nat) : Cm N e (linF z t k) := by
  show Cm N e (if k = 0 then z else if k = 1 then t else 0)
  split
  · exact hz
  · split
    · exact ht
    · exact .zero
theorem cm_int {N : Int} {e : Nat} (h : N.natAbs < 2 ^ e) : Cm N e 1 ∧ Cm N e (-1) := ⟨⟨N, Rat.one_mul _, h⟩, ⟨-N, by rw [Rat.intCast_neg]; grind, by rw [Int.natAbs_neg]; exact h⟩⟩
def sp_allf (A : Ad) : Sp := fun vs H Q _ => ∃ (v : V) (lo hi : Option Rat) (N : Int) (e : Nat), vs = [v] ∧ PlaceV A H v lo hi ∧ OkEnds lo hi ∧ (∀ z, lo = some z → Cm N e z) ∧ (∀ z, hi = some z → Cm N e z) ∧ 0 < N ∧ N.natAbs < 2 ^ e ∧ e ≤ 1900 ∧
  ∀ H' d zs, Same H H' → H d = none → H' d = some (.lst zs) → FacsAt A H' lo hi zs (facN lo hi) → Q (.ref d) H'
theorem ok_Place_all_factors (T : Txt K mg A D) : FnOk P w K mg base CX0 11 A.f_Place_all_factors D.f_Place_all_factors ["self"] (sp_allf A) := by
  have G_Poly_init : FnOk P w K mg base CX0 6 A.f_Poly___init__ D.f_Poly___init__ ["self", "coefficients"] (sp_poly K A) := ok_Poly___init__ T
  have b_Poly_init1 := T.b_Poly___init__
  have d_Poly_init1 : Vals [] [] := .nil
  have G_Poly___mul__ : FnOk P w K mg base CX0 10 A.f_Poly___mul__ D.f_Poly___mul__ ["self", "other"] (sp_pmulN A) := ok_Poly___mul__ T
  have G_Ratio___neg__ : FnOk P w K mg base CX0 4 A.f_Ratio___neg__ D.f_Ratio___neg__ ["self"] (sp_neg A.Ratio) := ok_Ratio___neg__ T
  refine T.F_Place_all_factors.ok sc_Place_all_factors (fun vs H Q E h => ?_) (fun cdv A' outer s H vs Q E hr h => ?_)
  · obtain ⟨v, lo, hi, N, e, rfl, _⟩ := h
    rfl
  · obtain ⟨v, lo, hi, N, e, rfl, ⟨a, dx, l, u, rfl, ha, el, eh⟩, ok, cl, ch, N0, N1, he, q⟩ := h
    refine ⟨_, (pss_cons (ps_set (i := 1) sc_Place_all_factors.nd rfl (.inl rfl) (pe_lst (pa_cons (pe_make T.M_Poly G_Poly_init (hr.mono (by decide)) rfl T.g_Poly b_Poly_init1 d_Poly_init1 pass0 (pa_cons (pe_lst (pa_cons pe_int pa_nil)) pa_nil)) pa_nil)))
  (pss_cut (ps_if (pt_cmpR op_notN (pe_fld (pv 0) rfl) pe_non (nomark _)) (pss_one (ps_expr (pe_bm PySem.F.plainAttrs_list PySem.F.slot_list_append PySem.F.type_list_append mt_append (pv 1) (pa_cons (pe_make T.M_Poly G_Poly_init (hr.mono (by decide)) rfl T.g_Poly b_Poly_init1 d_Poly_init1 pass0 (pa_cons (pe_lst (pa_cons (pe_un (un_neg_own T.m_Ratio___neg__ G_Ratio___neg__ (hr.mono (by decide)) T.b_Ratio___neg__ pass0) (pe_fld (pv 0) rfl)) (pa_cons pe_int pa_nil))) pa_nil)) pa_nil)))) pss_nil)
  (pss_cut (ps_if (pt_cmpR op_notN (pe_fld (pv 0) rfl) pe_non (nomark _)) (pss_cons (ps_expr (pe_bm PySem.F.plainAttrs_list PySem.F.slot_list_append PySem.F.type_list_append mt_append (pv 1) (pa_cons (pe_make T.M_Poly G_Poly_init (hr.mono (by decide)) rfl T.g_Poly b_Poly_init1 d_Poly_init1 pass0 (pa_cons (pe_lst (pa_cons (pe_fld (pv 0) rfl) (pa_cons (pe_un un_neg pe_int) pa_nil))) pa_nil)) pa_nil)))
  (pss_one (ps_expr (pe_bm PySem.F.plainAttrs_list PySem.F.slot_list_append PySem.F.type_list_append mt_append (pv 1) (pa_cons (pe_op (op_mul_own T.k_Poly.ow T.m_Poly___mul__ T.m_Poly___rmul__ G_Poly___mul__ (hr.mono (by decide)) T.b_Poly___mul__ pass0) (pe_ix ix_list (pv 1) pe_int (fun _ _ => rfl)) (pe_ix ix_list (pv 1) pe_int (fun _ _ => rfl))) pa_nil))))) pss_nil)
  (pss_one (ps_ret (pv 1)))))), ?_⟩
    have clp := T.k_Place.cl
    refine ⟨by show 1 ≤ sizeLine; decide, fun l0 nl0 => ?_⟩
    have s0 := same_upd (o := .lst [V.int 1]) nl0
    have hl0 : upd H l0 (.lst [V.int 1]) l0 = some (.lst [V.int 1]) := upd_same
    refine fun p0 d0 np0 nd0 ne0 => poly_make (f := numF 1) np0 nd0 (.inl hl0) (fun k v e => ?_) (by show 1 ≤ 60; decide) (fun k _ => numF_bd (.one (by decide) (by decide)) (by decide) k) (fun k hk => if_neg (by have : 1 ≤ k := hk; omega)) fun G1 s1 k1 h1 e1 => ?_
    · cases k with
      | zero =>
        cases e
        exact .inl ⟨1, rfl, rfl⟩
      | succ k => simp at e
    have es1 : s1 = 1 := by
      rcases (by have : s1 ≤ 1 := e1; omega : s1 = 1 ∨ s1 = 0) with e | e
      · exact e
      · exact absurd (h1.zero 0 (by omega)) (by show (1 : Rat) ≠ 0; decide)
    subst es1
    refine ⟨by show 1 ≤ sizeLine; decide, fun d nd => ?_⟩
    have k2 := (s0.trans k1).trans (same_upd (o := .lst [V.ref p0]) nd)
    have hd2 : upd G1 d (.lst [V.ref p0]) d = some (.lst [V.ref p0]) := upd_same
    have nd0' : H d = none := (s0.trans k1).free nd
    have f2 : FacsAt A (upd G1 d (.lst [V.ref p0])) lo hi [V.ref p0] 1 := ⟨rfl, fun k x e => by
      cases k with
      | zero =>
        cases e
        exact h1.same (same_upd nd)
      | succ k => simp at e⟩
    generalize upd G1 d (.lst [V.ref p0]) = G2 at *
    clear s0 hl0 np0 nd0 ne0 h1 k1 e1 nl0 nd
    -- the low end
    refine ⟨fun σ' E' => σ' = [some (.ref a), some (.ref d)] ∧ Same H E' ∧ ∃ zs, E' d = some (.lst zs) ∧ FacsAt A E' lo hi zs (if lo.isSome then 2 else 1), ?_, ?_⟩
    · refine ⟨_, rfl, a, A.Place, dx, _, _, rfl, k2 _ _ ha, clp, T.n_Place_low, rfl, rfl, _, rfl, ?_⟩
      cases lo with
      | none =>
        cases (show l = .non from el)
        exact iteFe nn_non ⟨rfl, k2, _, hd2, f2⟩
      | some z =>
        have el : RatV A.Ratio H l z := el
        obtain ⟨la, ld, e0, hla⟩ := id el
        subst e0
        have cz := cl z rfl
        have bz := cz.bd (by omega) N1
        refine iteTe nn_ref ⟨_, rfl, .inl ⟨rfl, _, .of hd2⟩, _, rfl, a, A.Place, dx, _, _, rfl, k2 _ _ ha, clp, T.n_Place_low, rfl, (el.same k2).ins, _, z, rfl, el.same k2, bz.mono (by omega) (by omega), fun G3 v3 k3 r3 => ?_⟩
        refine ⟨by show 2 ≤ sizeLine; decide, fun l4 nl4 => ?_⟩
        have k4 := same_upd (o := .lst [v3, V.int 1]) nl4
        have hl4 : upd G3 l4 (.lst [v3, V.int 1]) l4 = some (.lst [v3, V.int 1]) := upd_same
        refine fun p5 d5 np5 nd5 ne5 => poly_make (f := linF (-z) 1) np5 nd5 (.inl hl4) (lin_nums (r3.same k4).num (.int 1)) (by show 2 ≤ 60; decide) (fun k _ => ((lin_cm cz.neg (cm_int N1).1 k).bd (by omega) N1).mono (by omega) (by omega)) (fun k hk => by have : 2 ≤ k := hk; show (if k = 0 then _ else if k = 1 then _ else _) = _; rw [if_neg (by omega), if_neg (by omega)]) fun G5 s5 k5 h5 e5 => ?_
        have es5 := lin_size h5 (by decide) e5
        subst es5
        have k35 := (k3.trans k4).trans k5
        have hd5 := k35 _ _ hd2
        refine ⟨d, _, _, rfl, rfl, hd5, by show 1 < sizeLine; decide, rfl, same_push (k2.trans k35) nd0', _, upd_same, ?_⟩
        exact (f2.same k35).push hd5 h5
    rintro σ E ⟨rfl, k6, zs, hd6, f6⟩
    clear k2 hd2 f2
    -- the high end
    refine ⟨fun σ' E' => σ' = [some (.ref a), some (.ref d)] ∧ Same H E' ∧ ∃ zs, E' d = some (.lst zs) ∧ FacsAt A E' lo hi zs (facN lo hi), ?_, ?_⟩
    · refine ⟨_, rfl, a, A.Place, dx, _, _, rfl, k6 _ _ ha, clp, T.n_Place_high, rfl, rfl, _, rfl, ?_⟩
      cases hi with
      | none =>
        cases (show u = .non from eh)
        exact iteFe nn_non ⟨rfl, k6, _, hd6, f6⟩
      | some w =>
        have eh : RatV A.Ratio H u w := eh
        obtain ⟨ua, ud, e0, hua⟩ := id eh
        subst e0
        obtain ⟨z, hz, zw⟩ := ok w rfl
        subst hz
        have f6 : FacsAt A E (some z) (some w) zs 2 := f6
        have cz := cl z rfl
        have cw := ch w rfl
        refine iteTe nn_ref ⟨_, rfl, .inl ⟨rfl, _, .of hd6⟩, _, rfl, a, A.Place, dx, _, _, rfl, k6 _ _ ha, clp, T.n_Place_high, rfl, 1, rfl, by show 2 ≤ sizeLine; decide, fun l4 nl4 => ?_⟩
        have k4 := same_upd (o := .lst [V.ref ua, V.int (-1)]) nl4
        have hl4 : upd E l4 (.lst [V.ref ua, V.int (-1)]) l4 = some (.lst [V.ref ua, V.int (-1)]) := upd_same
        have m1 : NumV A.Ratio (upd E l4 (.lst [V.ref ua, V.int (-1)])) (.int (-1)) (-1) := .inl ⟨-1, rfl, by rfl⟩
        refine fun p5 d5 np5 nd5 ne5 => poly_make (f := linF w (-1)) np5 nd5 (.inl hl4) (lin_nums ((eh.same k6).same k4).num m1) (by show 2 ≤ 60; decide) (fun k _ => ((lin_cm cw (cm_int N1).2 k).bd (by omega) N1).mono (by omega) (by omega)) (fun k hk => by have : 2 ≤ k := hk; show (if k = 0 then _ else if k = 1 then _ else _) = _; rw [if_neg (by omega), if_neg (by omega)]) fun G5 s5 k5 h5 e5 => ?_
        have es5 := lin_size h5 (by decide) e5
        subst es5
        have k35 := k4.trans k5
        have hd5 := k35 _ _ hd6
        have lz : zs.length = 2 := f6.len
        refine ⟨d, _, _, rfl, rfl, hd5, by rw [lz]; decide, ?_⟩
        have k7 := same_push (o := .lst (zs ++ [V.ref p5])) (k6.trans k35) nd0'
        have f7 : FacsAt A (upd G5 d (.lst (zs ++ [V.ref p5]))) (some z) (some w) (zs ++ [V.ref p5]) 3 := (f6.same k35).push hd5 h5
        have hd7 : upd G5 d (.lst (zs ++ [V.ref p5])) d = some (.lst (zs ++ [V.ref p5])) := upd_same
        show tSeq _ _ _ _ (upd G5 d (.lst (zs ++ [V.ref p5])))
        generalize upd G5 d (.lst (zs ++ [V.ref p5])) = G7 at *
        generalize zs ++ [V.ref p5] = ys at *
        have ly : ys.length = 3 := f7.len
        have y1 := List.getElem?_eq_getElem (show 1 < ys.length by omega)
        have y2 := List.getElem?_eq_getElem (show 2 < ys.length by omega)
        have q1 : PolyV A.Poly A.Ratio G7 ys[1] 2 (linF (-z) 1) := f7.at_ 1 _ y1
        have q2 : PolyV A.Poly A.Ratio G7 ys[2] 2 (linF w (-1)) := f7.at_ 2 _ y2
        have a1 : atI ys 1 = some ys[1] := (atI_nat y1 :)
        have a2 : atI ys 2 = some ys[2] := (atI_nat y2 :)
        refine ⟨_, rfl, .inl ⟨rfl, _, .of hd7⟩, _, rfl, d, _, 1, _, rfl, rfl, .of hd7, a1, _, rfl, d, _, 2, _, rfl, rfl, .of hd7, a2, q1.ins, .inr q2.ins, ?_⟩
        refine ⟨_, _, e, e, e, e, 2, 2, e, _, _, N, N, rfl, q1, q2, lin_cm cz.neg (cm_int N1).1, N0, N1, lin_cm cw (cm_int N1).2, N0, N1, by decide, Nat.le_refl _, Nat.le_refl _, by omega, by omega, fun G8 v8 s8 k8 h8 e8 => ?_⟩
        have es8 : s8 = 3 := by
          rcases (by omega : s8 = 3 ∨ s8 ≤ 2 ∨ s8 = 4) with e | e | e
          · exact e
          · have := h8.zero 2 e
            rw [mulF_lin, if_neg (by decide), if_neg (by decide), if_pos rfl] at this
            exact absurd this (by decide)
          · have := h8.last (by omega)
            rw [e, mulF_lin] at this
            exact absurd rfl this
        subst es8
        have hd8 := k8 _ _ hd7
        refine ⟨d, _, _, rfl, rfl, hd8, by rw [ly]; decide, rfl, same_push (k7.trans k8) nd0', _, upd_same, ?_⟩
        exact (f7.same k8).push hd8 h8
    · rintro σ E ⟨rfl, k8, ys, hd8, f8⟩
      exact ⟨_, rfl, q E d ys k8 nd0' hd8 f8⟩
end

end Mo

namespace Mo
open PySem PySem.Spec PyProof.Rows L2 MoL MoW
open C8 (pss_cut tCut)
section
variable {P : Program} {w : World} {K : PySem.W.Frag} {mg : Str → Option Value} {base : Heap} {A : Ad} {D : Fd}
theorem TupsAt.put {H : Hp} {v : V} {n : Nat} {F : Nat → Int × Int} {d : Addr} {ys : List V} {o : HO} (h : TupsAt H v n F) (hd : H d = some (.lst ys)) (ne : v ≠ .ref d) : TupsAt (upd H d o) v n F := by
  obtain ⟨a, rs, rfl, h, l, p⟩ := h
  exact ⟨a, rs, rfl, by rw [upd_ne fun z => ne (by rw [z])]; exact h, l, p.put hd⟩
end
section
variable {P : Program} {w : World} {K : PySem.W.Frag} {mg : Str → Option Value} {base : Heap} {A : Ad} {D : Fd}
/-! ### the factors of a scene's place, as rows of pairs -/
def facT (S : Scene) : Nat → Nat → Int × Int
  | 0, _ => (1, 1)
  | 1, k => if k = 0 then (-S.low, S.bottom) else (1, 1)
  | 2, k => if k = 0 then (S.high, S.bottom) else (-1, 1)
  | _, k => if k = 0 then (-S.low * S.high, S.bottom * S.bottom) else if k = 1 then (S.low + S.high, S.bottom) else (-1, 1)
theorem tups1 {H : Hp} {a t : Addr} {x y : Int} {F : Nat → Int × Int} (ha : H a = some (.lst [.ref t])) (ht : H t = some (tup2 x y)) (e : F 0 = (x, y)) : TupsAt H (.ref a) 1 F := ⟨a, [t], rfl, ha, rfl, fun k r hr => by
  match k, hr with
  | 0, hr => cases hr; rw [e]; exact ht⟩
theorem tups2 {H : Hp} {a t t2 : Addr} {x y x2 y2 : Int} {F : Nat → Int × Int} (ha : H a = some (.lst [.ref t, .ref t2])) (ht : H t = some (tup2 x y)) (ht2 : H t2 = some (tup2 x2 y2)) (e : F 0 = (x, y)) (e2 : F 1 = (x2, y2)) : TupsAt H (.ref a) 2 F := ⟨a, [t, t2], rfl, ha, rfl, fun k r hr => by
  match k, hr with
  | 0, hr => cases hr; rw [e]; exact ht
  | 1, hr => cases hr; rw [e2]; exact ht2⟩
theorem tups3 {H : Hp} {a t t2 t3 : Addr} {x y x2 y2 x3 y3 : Int} {F : Nat → Int × Int} (ha : H a = some (.lst [.ref t, .ref t2, .ref t3])) (ht : H t = some (tup2 x y)) (ht2 : H t2 = some (tup2 x2 y2)) (ht3 : H t3 = some (tup2 x3 y3)) (e : F 0 = (x, y)) (e2 : F 1 = (x2, y2)) (e3 : F 2 = (x3, y3)) : TupsAt H (.ref a) 3 F := ⟨a, [t, t2, t3], rfl, ha, rfl, fun k r hr => by
  match k, hr with
  | 0, hr => cases hr; rw [e]; exact ht
  | 1, hr => cases hr; rw [e2]; exact ht2
  | 2, hr => cases hr; rw [e3]; exact ht3⟩
structure FacL (G : Hp) (d : Addr) (ys : List Addr) (S : Scene) : Prop where
  at_ : G d = some (.lst (ys.map V.ref))
  fac : ∀ j y, ys[j]? = some y → y ≠ d ∧ TupsAt G (.ref y) (facS j) (facT S j)
theorem FacL.same {G G' : Hp} {d : Addr} {ys : List Addr} {S : Scene} (h : FacL G d ys S) (k : Same G G') : FacL G' d ys S := ⟨k _ _ h.at_, fun j y e => ⟨(h.fac j y e).1, (h.fac j y e).2.same k⟩⟩
theorem FacL.push {G : Hp} {d l : Addr} {ys : List Addr} {S : Scene} (h : FacL G d ys S) (ne : l ≠ d) (t : TupsAt G (.ref l) (facS ys.length) (facT S ys.length)) : FacL (upd G d (.lst (ys.map V.ref ++ [.ref l]))) d (ys ++ [l]) S where
  at_ := by rw [upd_same, List.map_append]; rfl
  fac j y e := by
    have p : y ≠ d ∧ TupsAt G (.ref y) (facS j) (facT S j) := by
      rw [List.getElem?_append] at e
      split at e
      · exact h.fac j y e
      · next c =>
        have hj := get_lt e
        have hj : j - ys.length < 1 := hj
        have ej : j = ys.length := by omega
        subst ej
        rw [Nat.sub_self] at e
        cases e
        exact ⟨ne, t⟩
    exact ⟨p.1, TupsAt.put p.2 h.at_ (fun z => p.1 (V.ref.inj z))⟩
theorem FacL.two {H G : Hp} {d t t2 l : Addr} {ys : List Addr} {S : Scene} {x y x2 y2 : Int} (h : FacL G d ys S) (sm : Same H G) (d0 : H d = none) (nt : G t = none) (nt2 : upd G t (tup2 x y) t2 = none) (nl : upd (upd G t (tup2 x y)) t2 (tup2 x2 y2) l = none)
    (es : facS ys.length = 2) (e : facT S ys.length 0 = (x, y)) (e2 : facT S ys.length 1 = (x2, y2)) :
    upd (upd (upd G t (tup2 x y)) t2 (tup2 x2 y2)) l (.lst [.ref t, .ref t2]) d = some (.lst (ys.map V.ref)) ∧ FacL (upd (upd (upd (upd G t (tup2 x y)) t2 (tup2 x2 y2)) l (.lst [.ref t, .ref t2])) d (.lst (ys.map V.ref ++ [.ref l]))) d (ys ++ [l]) S ∧ Same H (upd (upd (upd (upd G t (tup2 x y)) t2 (tup2 x2 y2)) l (.lst [.ref t, .ref t2])) d (.lst (ys.map V.ref ++ [.ref l]))) := by
  have k1 := same_upd (o := tup2 x y) nt
  have k2 := same_upd (o := tup2 x2 y2) nt2
  have k3 := same_upd (o := .lst [.ref t, .ref t2]) nl
  have kk := (k1.trans k2).trans k3
  have ne : l ≠ d := fun z => by
    rw [z, (k1.trans k2) _ _ h.at_] at nl
    cases nl
  have tl : TupsAt (upd (upd (upd G t (tup2 x y)) t2 (tup2 x2 y2)) l (.lst [.ref t, .ref t2])) (.ref l) (facS ys.length) (facT S ys.length) := by
    rw [es]
    exact tups2 upd_same (k3 _ _ (k2 _ _ upd_same)) (k3 _ _ upd_same) e e2
  exact ⟨kk _ _ h.at_, (h.same kk).push ne tl, same_push (sm.trans kk) d0⟩
theorem FacL.three {H G : Hp} {d t t2 t3 l : Addr} {ys : List Addr} {S : Scene} {x y x2 y2 x3 y3 : Int} (h : FacL G d ys S) (sm : Same H G) (d0 : H d = none) (nt : G t = none) (nt2 : upd G t (tup2 x y) t2 = none) (nt3 : upd (upd G t (tup2 x y)) t2 (tup2 x2 y2) t3 = none) (nl : upd (upd (upd G t (tup2 x y)) t2 (tup2 x2 y2)) t3 (tup2 x3 y3) l = none)
    (es : facS ys.length = 3) (e : facT S ys.length 0 = (x, y)) (e2 : facT S ys.length 1 = (x2, y2)) (e3 : facT S ys.length 2 = (x3, y3)) :
    upd (upd (upd (upd G t (tup2 x y)) t2 (tup2 x2 y2)) t3 (tup2 x3 y3)) l (.lst [.ref t, .ref t2, .ref t3]) d = some (.lst (ys.map V.ref)) ∧ FacL (upd (upd (upd (upd (upd G t (tup2 x y)) t2 (tup2 x2 y2)) t3 (tup2 x3 y3)) l (.lst [.ref t, .ref t2, .ref t3])) d (.lst (ys.map V.ref ++ [.ref l]))) d (ys ++ [l]) S ∧ Same H (upd (upd (upd (upd (upd G t (tup2 x y)) t2 (tup2 x2 y2)) t3 (tup2 x3 y3)) l (.lst [.ref t, .ref t2, .ref t3])) d (.lst (ys.map V.ref ++ [.ref l]))) := by
  have k1 := same_upd (o := tup2 x y) nt
  have k2 := same_upd (o := tup2 x2 y2) nt2
  have k3 := same_upd (o := tup2 x3 y3) nt3
  have k4 := same_upd (o := .lst [.ref t, .ref t2, .ref t3]) nl
  have kk := ((k1.trans k2).trans k3).trans k4
  have ne : l ≠ d := fun z => by
    rw [z, ((k1.trans k2).trans k3) _ _ h.at_] at nl
    cases nl
  have tl : TupsAt (upd (upd (upd (upd G t (tup2 x y)) t2 (tup2 x2 y2)) t3 (tup2 x3 y3)) l (.lst [.ref t, .ref t2, .ref t3])) (.ref l) (facS ys.length) (facT S ys.length) := by
    rw [es]
    exact tups3 upd_same (k4 _ _ (k3 _ _ (k2 _ _ upd_same))) (k4 _ _ (k3 _ _ upd_same)) (k4 _ _ upd_same) e e2 e3
  exact ⟨kk _ _ h.at_, (h.same kk).push ne tl, same_push (sm.trans kk) d0⟩
def scN (S : Scene) : Nat := if S.shape = 2 then 4 else if 0 < S.shape then 2 else 1
def sp_lfac : Sp := fun vs H Q _ => ∃ (S : Scene) (m : Nat), vs = [.int S.shape, .int S.low, .int S.high, .int S.bottom] ∧ SceneOk m S ∧ ∀ H' d ys, Same H H' → H d = none → FacL H' d ys S → ys.length = scN S → Q (.ref d) H'
theorem ok__law_factors (T : Txt K mg A D) : FnOk P w K mg base CX0 1 A.f__law_factors D.f__law_factors ["_law_shape", "_law_low", "_law_high", "_law_bottom"] (sp_lfac) := by
  skip
  refine T.F__law_factors.ok sc__law_factors (fun vs H Q E h => ?_) (fun cdv A' outer s H vs Q E hr h => ?_)
  · obtain ⟨S, m, rfl, _⟩ := h
    rfl
  · obtain ⟨S, m, rfl, ok, q⟩ := h
    refine ⟨_, (pss_cons (ps_set (i := 4) sc__law_factors.nd rfl (.inl rfl) (pe_lst (pa_cons (pe_lst (pa_cons (pe_tup (pa_cons pe_int (pa_cons pe_int pa_nil))) pa_nil)) pa_nil)))
  (pss_cut (ps_if (pt_cmpR op_gt (pv 0) pe_int (nomark _)) (pss_one (ps_expr (pe_bm PySem.F.plainAttrs_list PySem.F.slot_list_append PySem.F.type_list_append mt_append (pv 4) (pa_cons (pe_lst (pa_cons (pe_tup (pa_cons (pe_un un_neg (pv 1)) (pa_cons (pv 3) pa_nil))) (pa_cons (pe_tup (pa_cons pe_int (pa_cons pe_int pa_nil))) pa_nil))) pa_nil)))) pss_nil)
  (pss_cut (ps_if (pt_cmpR op_eq (pv 0) pe_int (nomark _)) (pss_cons (ps_expr (pe_bm PySem.F.plainAttrs_list PySem.F.slot_list_append PySem.F.type_list_append mt_append (pv 4) (pa_cons (pe_lst (pa_cons (pe_tup (pa_cons (pv 2) (pa_cons (pv 3) pa_nil))) (pa_cons (pe_tup (pa_cons (pe_un un_neg pe_int) (pa_cons pe_int pa_nil))) pa_nil))) pa_nil)))
  (pss_one (ps_expr (pe_bm PySem.F.plainAttrs_list PySem.F.slot_list_append PySem.F.type_list_append mt_append (pv 4) (pa_cons (pe_lst (pa_cons (pe_tup (pa_cons (pe_op op_mulW (pe_un un_neg (pv 1)) (pv 2)) (pa_cons (pe_op op_mulW (pv 3) (pv 3)) pa_nil))) (pa_cons (pe_tup (pa_cons (pe_op op_add (pv 1) (pv 2)) (pa_cons (pv 3) pa_nil))) (pa_cons (pe_tup (pa_cons (pe_un un_neg pe_int) (pa_cons pe_int pa_nil))) pa_nil)))) pa_nil))))) pss_nil)
  (pss_one (ps_ret (pv 4)))))), ?_⟩
    have b0 := ok.b0
    have b1 := ok.b1
    have l0 := ok.l0
    have h0 := ok.h0
    have h1 := ok.h1
    have sh0 := ok.sh0
    have sh1 := ok.sh1
    refine ⟨by show 2 ≤ sizeLine; decide, fun t1 n1 => ⟨by show 1 ≤ sizeLine; decide, fun l1 m1 => ⟨by show 1 ≤ sizeLine; decide, fun d nd => ?_⟩⟩⟩
    have s1 := same_upd (o := tup2 1 1) n1
    have s2 := same_upd (o := .lst [.ref t1]) m1
    have s3 := same_upd (o := .lst [.ref l1]) nd
    have s12 := s1.trans s2
    have sm := s12.trans s3
    have d0 : H d = none := s12.free nd
    have f1 : FacL (upd (upd (upd H t1 (tup2 1 1)) l1 (.lst [.ref t1])) d (.lst [.ref l1])) d [l1] S := ⟨upd_same, fun j y e => by
      match j, e with
      | 0, e =>
        cases e
        exact ⟨fun z => by (rw [← z, upd_same] at nd; cases nd), tups1 (x := 1) (y := 1) (s3 _ _ upd_same) (s3 _ _ (s2 _ _ upd_same)) rfl⟩⟩
    show tSeq _ _ _ _ (upd (upd (upd H t1 (tup2 1 1)) l1 (.lst [.ref t1])) d (.lst [.ref l1]))
    generalize upd (upd (upd H t1 (tup2 1 1)) l1 (.lst [.ref t1])) d (.lst [.ref l1]) = G at sm f1
    clear s1 s2 s3 s12 n1 m1 nd
    refine ⟨fun σ' G' => ∃ ys, FacL G' d ys S ∧ Same H G' ∧ ys.length = (if 0 < S.shape then 2 else 1) ∧ σ' = [some (.int S.shape), some (.int S.low), some (.int S.high), some (.int S.bottom), some (.ref d)], ?_, ?_⟩
    · refine ⟨_, rfl, _, _, rfl, rfl, _, rfl, ite2 (fun c => ?_) (fun c => ?_)⟩
      · have c := of_decide_eq_true c
        refine ⟨_, rfl, .inl ⟨rfl, _, .of f1.at_⟩, _, rfl, _, rfl, _, rfl, by show 2 ≤ sizeLine; decide, fun t nt => ⟨by show 2 ≤ sizeLine; decide, fun t2 nt2 => ⟨by show 2 ≤ sizeLine; decide, fun l nl => ?_⟩⟩⟩
        obtain ⟨g1, g2, g3⟩ := f1.two sm d0 nt nt2 nl rfl rfl rfl
        exact ⟨d, _, _, rfl, rfl, g1, by show 1 < sizeLine; decide, [l1, l], g2, g3, by rw [if_pos c]; rfl, rfl⟩
      · have c : ¬ 0 < S.shape := fun e => c (decide_eq_true e)
        exact ⟨[l1], f1, sm, by rw [if_neg c]; rfl, rfl⟩
    rintro σ G1 ⟨ys, f2, sm2, ly, rfl⟩
    clear f1 sm
    refine ⟨fun σ' G' => ∃ ys, FacL G' d ys S ∧ Same H G' ∧ ys.length = scN S ∧ σ' = [some (.int S.shape), some (.int S.low), some (.int S.high), some (.int S.bottom), some (.ref d)], ?_, ?_⟩
    · refine ⟨_, rfl, rfl, _, rfl, ite2 (fun c => ?_) (fun c => ?_)⟩
      · have c := V.int.inj (of_decide_eq_true c)
        rw [if_pos (by omega)] at ly
        refine ⟨_, rfl, .inl ⟨rfl, _, .of f2.at_⟩, _, rfl, _, rfl, by show 2 ≤ sizeLine; decide, fun t nt => ⟨_, rfl, by show 2 ≤ sizeLine; decide, fun t2 nt2 => ⟨by show 2 ≤ sizeLine; decide, fun l nl => ?_⟩⟩⟩
        obtain ⟨g1, g2, g3⟩ := f2.two sm2 d0 nt nt2 nl (by rw [ly]; rfl) (by rw [ly]; rfl) (by rw [ly]; rfl)
        refine ⟨d, _, _, rfl, rfl, g1, by rw [List.length_map, ly]; decide, ?_⟩
        have ly2 : (ys ++ [l]).length = 3 := by rw [List.length_append, ly]; rfl
        rw [show ys.map V.ref ++ [V.ref l] = (ys ++ [l]).map V.ref by rw [List.map_append]; rfl] at *
        generalize ys ++ [l] = zs at *
        have sl : Sm S.low := sS (by omega)
        have shi : Sm S.high := sS (by omega)
        have sb : Sm S.bottom := sS (by omega)
        have snl : Sm (-S.low) := sS (by omega)
        refine ⟨_, rfl, .inl ⟨rfl, _, .of g2.at_⟩, _, rfl, _, rfl, _, rfl, _, _, rfl, rfl, snl.mul shi, _, rfl, _, rfl, _, _, rfl, rfl, sb.mul sb, by show 2 ≤ sizeLine; decide, fun t3 nt3 => ⟨_, rfl, _, rfl, _, _, rfl, rfl, _, rfl, by show 2 ≤ sizeLine; decide, fun t4 nt4 => ⟨_, rfl, by show 2 ≤ sizeLine; decide, fun t5 nt5 => ⟨by show 3 ≤ sizeLine; decide, fun l2 nl2 => ?_⟩⟩⟩⟩
        obtain ⟨e1, e2, e3⟩ := g2.three g3 d0 nt3 nt4 nt5 nl2 (by rw [ly2]; rfl) (by rw [ly2]; rfl) (by rw [ly2]; rfl) (by rw [ly2]; rfl)
        exact ⟨d, _, _, rfl, rfl, e1, by rw [List.length_map, ly2]; decide, zs ++ [l2], e2, e3, by rw [List.length_append, ly2]; unfold scN; rw [if_pos c]; rfl, rfl⟩
      · have c : ¬ S.shape = 2 := fun e => c (decide_eq_true (congrArg V.int e))
        exact ⟨ys, f2, sm2, by rw [ly]; unfold scN; rw [if_neg c], rfl⟩
    rintro σ G2 ⟨ys, f3, sm3, ly, rfl⟩
    exact ⟨_, rfl, q _ _ _ sm3 d0 f3 ly⟩
end

end Mo

namespace Mo
open PySem PySem.Spec PyProof.Rows L2 MoL MoW
open C8 (pss_cut tCut)
section
variable {P : Program} {w : World} {K : PySem.W.Frag} {mg : Str → Option Value} {base : Heap} {A : Ad} {D : Fd}
/-! ### the smallest common bottom of a row of pairs, by Euclid -/
def lcmF (F : Nat → Int × Int) : Nat → Nat
  | 0 => 1
  | k + 1 => Nat.lcm (lcmF F k) (F k).2.toNat
theorem lcm_pos {F : Nat → Int × Int} : ∀ {m : Nat}, (∀ k, k < m → 0 < (F k).2) → 0 < lcmF F m
  | 0, _ => Nat.one_pos
  | m + 1, h => Nat.lcm_pos (lcm_pos fun k hk => h k (by omega)) (by have := h m (by omega); omega)
theorem lcm_le {F : Nat → Int × Int} : ∀ {m : Nat}, (∀ k, k < m → 0 < (F k).2) → (lcmF F m : Int) ≤ WN F 0 m
  | 0, _ => Int.le_refl _
  | m + 1, h => by
    have h1 := lcm_le (m := m) fun k hk => h k (by omega)
    have h2 := h m (by omega)
    have h3 : Nat.lcm (lcmF F m) (F m).2.toNat ≤ lcmF F m * (F m).2.toNat := Nat.div_le_self _ _
    have h4 : ((lcmF F m * (F m).2.toNat : Nat) : Int) = (lcmF F m : Int) * (F m).2 := by
      rw [Int.natCast_mul, Int.toNat_of_nonneg (by omega)]
    have h5 := Int.mul_le_mul_of_nonneg_right h1 (Int.le_of_lt h2)
    have e : WN F 0 (m + 1) = WN F 0 m * (F m).2 := by
      show WN F 0 m * (F (0 + m)).2 = _
      rw [Nat.zero_add]
    show ((Nat.lcm (lcmF F m) (F m).2.toNat : Nat) : Int) ≤ _
    omega
theorem lcm_lt {F : Nat → Int × Int} {n g i : Nat} (pos : ∀ k, k < n → 0 < (F k).2) (hW : WN F 0 n < 2 ^ g) (hg : g ≤ 3900) (hi : i ≤ n) : lcmF F i < 2 ^ 3900 := by
  have h1 := lcm_le (m := i) fun k hk => pos k (by omega)
  have h2 := WN_le (a := 0) (m := i) pos (by omega)
  have h3 : (2 : Nat) ^ g ≤ 2 ^ 3900 := Nat.pow_le_pow_right (by decide) hg
  have h4 : ((2 ^ g : Nat) : Int) = (2 : Int) ^ g := by rw [Int.natCast_pow]; rfl
  omega
theorem bot_lt {F : Nat → Int × Int} {n g i : Nat} (pos : ∀ k, k < n → 0 < (F k).2) (hW : WN F 0 n < 2 ^ g) (hg : g ≤ 3900) (hi : i < n) : (F i).2.toNat < 2 ^ 3900 := by
  have h2 := WN_le (a := i) (m := 1) pos (by omega)
  have e : WN F i 1 = (F i).2 := by
    show 1 * (F (i + 0)).2 = _
    rw [Int.one_mul, Nat.add_zero]
  have h3 : (2 : Nat) ^ g ≤ 2 ^ 3900 := Nat.pow_le_pow_right (by decide) hg
  have h4 : ((2 ^ g : Nat) : Int) = (2 : Int) ^ g := by rw [Int.natCast_pow]; rfl
  have := pos i hi
  omega
/-- Euclid after k turns -/
structure Eu (m b k x y : Nat) : Prop where
  x0 : 0 < x
  gcd : Nat.gcd x y = Nat.gcd m b
  xs : x < 2 ^ 3900
  ys : y < 2 ^ 3900
  lt : 0 < k → y < x
  pr : x * y * 2 ^ (k - 1) ≤ 2 ^ 7800
theorem Eu.zero {m b : Nat} (h : 0 < m) (hm : m < 2 ^ 3900) (hb : b < 2 ^ 3900) : Eu m b 0 m b where
  x0 := h
  gcd := rfl
  xs := hm
  ys := hb
  lt := fun z => absurd z (Nat.lt_irrefl _)
  pr := by
    rw [show 0 - 1 = 0 from rfl, Nat.pow_zero, Nat.mul_one, show (2 : Nat) ^ 7800 = 2 ^ 3900 * 2 ^ 3900 by rw [← Nat.pow_add]]
    exact Nat.mul_le_mul (Nat.le_of_lt hm) (Nat.le_of_lt hb)
theorem Eu.end_ {m b k x : Nat} (h : Eu m b k x 0) : x = Nat.gcd m b := by
  rw [← h.gcd, Nat.gcd_zero_right]
theorem Eu.next {m b k x y : Nat} (h : Eu m b k x y) (hy : 0 < y) : Eu m b (k + 1) y (x % y) where
  x0 := hy
  gcd := by rw [← h.gcd, Nat.gcd_comm x y, Nat.gcd_rec y x, Nat.gcd_comm]
  xs := h.ys
  ys := Nat.lt_trans (Nat.mod_lt _ hy) h.ys
  lt := fun _ => Nat.mod_lt _ hy
  pr := by
    rw [Nat.add_sub_cancel]
    have ml := Nat.mod_lt x hy
    rcases Nat.eq_zero_or_pos k with e | e
    · subst e
      rw [Nat.pow_zero, Nat.mul_one, show (2 : Nat) ^ 7800 = 2 ^ 3900 * 2 ^ 3900 by rw [← Nat.pow_add]]
      exact Nat.mul_le_mul (Nat.le_of_lt h.ys) (Nat.le_of_lt (Nat.lt_trans ml h.ys))
    · have lt := h.lt e
      have d := Nat.div_add_mod x y
      have q1 : 1 ≤ x / y := Nat.div_pos (Nat.le_of_lt lt) hy
      have q2 : y * 1 ≤ y * (x / y) := Nat.mul_le_mul_left y q1
      have two : 2 * (x % y) ≤ x := by omega
      refine Nat.le_trans ?_ h.pr
      rw [show k = (k - 1) + 1 by omega, Nat.pow_succ, show (k - 1 + 1) - 1 = k - 1 by omega]
      have : y * (x % y) * (2 ^ (k - 1) * 2) = y * (2 * (x % y)) * 2 ^ (k - 1) := by grind
      rw [this, Nat.mul_comm x y]
      exact Nat.mul_le_mul_right _ (Nat.mul_le_mul_left _ two)
theorem Eu.stop {m b k x y : Nat} (h : Eu m b k x y) (hk : 7801 < k) : y = 0 := by
  rcases Nat.eq_zero_or_pos y with e | e
  · exact e
  have h1 : 1 ≤ x * y := Nat.mul_pos h.x0 e
  have h2 := Nat.mul_le_mul_right (2 ^ (k - 1)) h1
  rw [Nat.one_mul] at h2
  have h3 := (Nat.pow_le_pow_iff_right (by decide : 1 < 2)).mp (Nat.le_trans h2 h.pr)
  omega
def sp_lscale : Sp := fun vs H Q _ => ∃ v n F g, vs = [v] ∧ TupsAt H v n F ∧ n ≤ 60 ∧ (∀ k, k < n → 0 < (F k).2) ∧ WN F 0 n < 2 ^ g ∧ g ≤ 3900 ∧ Q (.int (lcmF F n)) H
theorem ok__law_scale (T : Txt K mg A D) : FnOk P w K mg base CX0 1 A.f__law_scale D.f__law_scale ["_law_pairs_here"] (sp_lscale) := by
  skip
  refine T.F__law_scale.ok sc__law_scale (fun vs H Q E h => ?_) (fun cdv A' outer s H vs Q E hr h => ?_)
  · obtain ⟨v, n, F, g, rfl, _⟩ := h
    rfl
  · obtain ⟨v, n, F, g, rfl, ⟨a, rs, rfl, ha, lr, hT⟩, hn, pos, hW, hg, q⟩ := h
    refine ⟨_, (pss_cons (ps_set (i := 1) sc__law_scale.nd rfl (.inl rfl) pe_int)
  (pss_cut (ps_for PassesOwn.never rfl (pi_list (pv 0)) (pg_name (i := 2) sc__law_scale.nd rfl (.inl rfl)) (pss_cons (ps_set (i := 3) sc__law_scale.nd rfl (.inl rfl) (pv 1))
  (pss_cons (ps_set (i := 4) sc__law_scale.nd rfl (.inl rfl) (pe_ix ix_tup (pv 2) pe_int (fun _ _ => rfl)))
  (pss_cut (ps_for PassesOwn.never rfl (pi_range1 rfl T.z_range (pa_cons pe_int pa_nil)) (pg_name (i := 5) sc__law_scale.nd rfl (.inl rfl)) (pss_cons (ps_if (pt_cmpR op_eq (pv 4) pe_int (nomark _)) (pss_one ps_break) pss_nil)
  (pss_cons (ps_set (i := 6) sc__law_scale.nd rfl (.inl rfl) (pe_op op_mod (pe_callTy call_int1 rfl T.z_int (by decide +kernel) (pa_cons (pv 3) pa_nil)) (pe_callTy call_int1 rfl T.z_int (by decide +kernel) (pa_cons (pv 4) pa_nil))))
  (pss_cons (ps_set (i := 3) sc__law_scale.nd rfl (.inl rfl) (pv 4))
  (pss_one (ps_set (i := 4) sc__law_scale.nd rfl (.inl rfl) (pv 6)))))))
  (pss_one (ps_set (i := 1) sc__law_scale.nd rfl (.inl rfl) (pe_op op_mulW (pv 1) (pe_op op_fdivA (pe_ix ix_tup (pv 2) pe_int (fun _ _ => rfl)) (pv 3)))))))))
  (pss_one (ps_ret (pv 1))))), ?_⟩
    have lW : ∀ i, i ≤ n → lcmF F i < 2 ^ 3900 := fun i hi => lcm_lt pos hW hg hi
    have bW : ∀ i, i < n → (F i).2.toNat < 2 ^ 3900 := fun i hi => bot_lt pos hW hg hi
    refine ⟨fun σ G => G = H ∧ ∃ y2 y3 y4 y5 y6, σ = [some (.ref a), some (.int (lcmF F n)), y2, y3, y4, y5, y6], ?_, ?_⟩
    · refine ⟨_, rfl, a, rfl, ⟨_, .of ha⟩, for_list (fun i σ G => G = H ∧ ∃ y2 y3 y4 y5 y6, σ = [some (.ref a), some (.int (lcmF F i)), y2, y3, y4, y5, y6]) ⟨rfl, _, _, _, _, _, rfl⟩ (fun i σ G _ p => by rw [p.1]; exact .of ha) ?_ ?_⟩
      · rintro i x σ G hx ⟨rfl, y2, y3, y4, y5, y6, rfl⟩
        obtain ⟨r, er, rfl⟩ := ref_get hx
        have il : i < n := by
          have := get_lt er
          omega
        have hr := hT i r er
        have b0 := pos i il
        obtain ⟨b, hb⟩ : ∃ b : Nat, (F i).2 = (b : Int) := ⟨(F i).2.toNat, by omega⟩
        have hbn : (F i).2.toNat = b := by omega
        have lw := lW i (by omega)
        have bw := bW i il
        rw [hbn] at bw
        rw [hb] at hr
        have lpos := lcm_pos (fun k hk => pos k (by omega)) (m := i)
        refine ⟨_, rfl, _, rfl, r, _, 1, _, rfl, rfl, .of hr, rfl, ?_⟩
        refine ⟨fun σ G' => G' = G ∧ ∃ y5 y6, σ = [some (.ref a), some (.int (lcmF F i)), some (.ref r), some (.int ((lcmF F i).gcd b : Nat)), some (.int 0), y5, y6], ?_, ?_⟩
        · refine ⟨_, rfl, by decide, by decide, ?_⟩
          rw [show (20000 : Int).toNat = 20000 from rfl]
          refine for_range (lo := 0) (fun k σ G' => G' = G ∧ ∃ (x y : Nat) (y5 y6 : Option V), σ = [some (.ref a), some (.int (lcmF F i)), some (.ref r), some (.int x), some (.int y), y5, y6] ∧ Eu (lcmF F i) b k x y) ⟨rfl, _, _, _, _, rfl, Eu.zero lpos lw bw⟩ ?_ ?_
          · rintro k σ G' hk ⟨rfl, x, y, y5, y6, rfl, eu⟩
            refine ⟨_, rfl, rfl, _, rfl, ite2 (fun c => ?_) (fun c => ?_)⟩
            · have c : (y : Int) = 0 := V.int.inj (of_decide_eq_true c)
              have c : y = 0 := by omega
              subst c
              exact ⟨rfl, _, _, by rw [eu.end_]; rfl⟩
            · have c : y ≠ 0 := fun e => c (decide_eq_true (congrArg V.int (by rw [e]; rfl)))
              refine ⟨_, rfl, .inl ⟨_, rfl, _, rfl, .inl ⟨_, rfl, _, _, rfl, rfl, (show (0 : Int) < (y : Int) by omega), _, rfl, _, rfl, ?_⟩⟩⟩
              exact ⟨rfl, y, x % y, _, _, rfl, eu.next (by omega)⟩
          · rintro σ G' ⟨rfl, x, y, y5, y6, rfl, eu⟩
            have c := eu.stop (by decide)
            subst c
            exact ⟨rfl, _, _, by rw [eu.end_]; rfl⟩
        · rintro σ G' ⟨rfl, y5, y6, rfl⟩
          have gpos : 0 < (lcmF F i).gcd b := Nat.gcd_pos_of_pos_left _ lpos
          have gle : (lcmF F i).gcd b ≤ b := Nat.gcd_le_right _ (by omega)
          have fd : (b : Int).fdiv (((lcmF F i).gcd b : Nat) : Int) = ((b / (lcmF F i).gcd b : Nat) : Int) := by
            rw [Int.fdiv_eq_ediv_of_nonneg _ (by omega)]
            rfl
          have val : (lcmF F i : Int) * ((b : Int).fdiv (((lcmF F i).gcd b : Nat) : Int)) = ((lcmF F (i + 1) : Nat) : Int) := by
            rw [fd, ← Int.natCast_mul]
            congr 1
            show _ = Nat.lcm (lcmF F i) (F i).2.toNat
            rw [hbn]
            exact (Nat.mul_div_assoc _ (Nat.gcd_dvd_right _ _)).symm
          have qle : b / (lcmF F i).gcd b ≤ b := Nat.div_le_self _ _
          have sg : Sm (((lcmF F i).gcd b : Nat) : Int) := sm_of (n := 3900) (by show (lcmF F i).gcd b < _; exact Nat.lt_of_le_of_lt gle bw) (by decide)
          have sq : Sm ((b / (lcmF F i).gcd b : Nat) : Int) := sm_of (n := 3900) (by show b / (lcmF F i).gcd b < _; exact Nat.lt_of_le_of_lt qle bw) (by decide)
          have sl : Sm ((lcmF F i : Nat) : Int) := sm_of (n := 3900) (by show lcmF F i < _; exact lw) (by decide)
          refine ⟨_, rfl, _, rfl, r, _, 1, _, rfl, rfl, .of hr, rfl, _, rfl, _, _, rfl, rfl, sg.div (by omega), _, _, rfl, rfl, by rw [fd]; exact sl.mul sq, ?_⟩
          exact ⟨rfl, _, _, _, _, _, congrArg (fun z => [some (V.ref a), some (V.int z), some (V.ref r), some (V.int (((lcmF F i).gcd b : Nat) : Int)), some (V.int 0), y5, y6]) val⟩
      · rintro σ G ⟨rfl, y2, y3, y4, y5, y6, rfl⟩
        rw [List.length_map, lr]
        exact ⟨rfl, _, _, _, _, _, rfl⟩
    rintro σ G ⟨rfl, y2, y3, y4, y5, y6, rfl⟩
    exact ⟨_, rfl, q⟩
/-- entry k of the row of pairs over its smallest common bottom -/
def whF (F : Nat → Int × Int) (n k : Nat) : Int := (F k).1 * ((lcmF F n / (F k).2.toNat : Nat) : Int)
def whL (F : Nat → Int × Int) (n : Nat) : List Int := (List.range n).map (whF F n)
def sp_lwhole : Sp := fun vs H Q _ => ∃ v n F g, vs = [v] ∧ TupsAt H v n F ∧ n ≤ 60 ∧ (∀ k, k < n → 0 < (F k).2 ∧ Sm (F k).1) ∧ WN F 0 n < 2 ^ g ∧ g ≤ 3900 ∧ ∀ H' d, Same H H' → H d = none → H' d = some (.lst ((whL F n).map V.int)) → Q (.ref d) H'
theorem ok__law_whole (T : Txt K mg A D) : FnOk P w K mg base CX0 2 A.f__law_whole D.f__law_whole ["_law_pairs_here"] (sp_lwhole) := by
  have G__law_scale : FnOk P w K mg base CX0 1 A.f__law_scale D.f__law_scale ["_law_pairs_here"] (sp_lscale) := ok__law_scale T
  refine T.F__law_whole.ok sc__law_whole (fun vs H Q E h => ?_) (fun cdv A' outer s H vs Q E hr h => ?_)
  · obtain ⟨v, n, F, g, rfl, _⟩ := h
    rfl
  · obtain ⟨v, n, F, g, rfl, hv, hn, hc, hW, hg, q⟩ := h
    refine ⟨_, (pss_cons (ps_set (i := 1) sc__law_whole.nd rfl (.inr rfl) (pe_call G__law_scale (hr.mono (by decide)) rfl T.g__law_scale T.F__law_scale.kp T.b__law_scale .nil pass0 (pa_cons (pv 0) pa_nil)))
  (pss_one (ps_ret (pe_lc (own := [("_law_pair_here", 2)]) (g := gName 2) (tt := tYes) rfl sc__law_whole.nd (pi_list (pv 0)) (blkOk_by (N := N__law_whole) (sc := defScope s__law_whole) (by decide +kernel)) (fun _ _ _ _ _ => (pg_name (i := 2) sc__law_whole.nd rfl (.inl rfl))) (fun _ _ _ _ _ => pts_nil) (fun _ _ _ _ _ => (pe_op op_mulW (pe_ix (ix_tupK (K := K) rfl) (pv 2) pe_int (fun _ _ => rfl)) (pe_op op_fdivA (pv 1) (pe_ix (ix_tupK (K := K) rfl) (pv 2) pe_int (fun _ _ => rfl))))))))), ?_⟩
    refine ⟨_, rfl, v, n, F, g, rfl, hv, hn, fun k hk => (hc k hk).1, hW, hg, ?_⟩
    obtain ⟨a, rs, rfl, ha, lr, hT⟩ := hv
    refine ⟨_, rfl, a, rfl, ⟨_, .of ha⟩, fun d nd => ?_⟩
    have lW := lcm_lt (fun k hk => (hc k hk).1) hW hg (Nat.le_refl n)
    refine lc_list (K := K) (a := a) (xs := rs.map V.ref) (fun i G => Same H G ∧ G d = some (.lst (((List.range i).map (whF F n)).map V.int))) ⟨same_upd nd, upd_same⟩ (fun i G _ p => .of (p.1 _ _ ha)) ?_ ?_
    · rintro i x G hx ⟨sm, hd⟩
      obtain ⟨r, er, rfl⟩ := ref_get hx
      have il : i < n := by
        have := get_lt er
        omega
      have hr := sm _ _ (hT i r er)
      obtain ⟨b0, s1⟩ := hc i il
      have bW := bot_lt (fun k hk => (hc k hk).1) hW hg il
      have fd : ((lcmF F n : Nat) : Int).fdiv (F i).2 = ((lcmF F n / (F i).2.toNat : Nat) : Int) := by
        rw [Int.fdiv_eq_ediv_of_nonneg _ (by omega)]
        conv => lhs; rw [← Int.toNat_of_nonneg (Int.le_of_lt b0)]
        rfl
      have qle : lcmF F n / (F i).2.toNat ≤ lcmF F n := Nat.div_le_self _ _
      have sb : Sm (F i).2 := sm_of (n := 3900) (by omega) (by decide)
      have sq : Sm ((lcmF F n / (F i).2.toNat : Nat) : Int) := sm_of (n := 3900) (by show lcmF F n / (F i).2.toNat < _; exact Nat.lt_of_le_of_lt qle lW) (by decide)
      refine ⟨rfl, _, rfl, r, _, 0, _, rfl, rfl, .of hr, rfl, _, rfl, _, rfl, r, _, 1, _, rfl, rfl, .of hr, rfl, _, _, rfl, rfl, sb.div (by omega), _, _, rfl, rfl, by rw [fd]; exact s1.mul sq, ?_⟩
      refine ⟨_, hd, by rw [List.length_map, List.length_map, List.length_range]; exact small1000 (by omega), same_push sm nd, ?_⟩
      rw [upd_same, List.range_succ, List.map_append, List.map_append, fd]
      rfl
    · rintro G ⟨sm, hd⟩
      rw [List.length_map, lr] at hd
      exact q G d sm nd hd
end

end Mo

namespace Mo
open PySem PySem.Spec PyProof.Rows L2 MoL MoW
open C8 (pss_cut tCut)
section
variable {P : Program} {w : World} {K : PySem.W.Frag} {mg : Str → Option Value} {base : Heap} {A : Ad} {D : Fd}
/-! ### rows of pairs that are equal -/
def sp_leq : Sp := fun vs H Q _ => ∃ v u n F F2, vs = [v, u] ∧ TupsAt H v n F ∧ TupsAt H u n F2 ∧ n ≤ 60 ∧ (∀ k, k < n → (F k).1 * (F2 k).2 = (F2 k).1 * (F k).2 ∧ Sm (F k).1 ∧ Sm (F k).2 ∧ Sm (F2 k).1 ∧ Sm (F2 k).2) ∧ Q (.bl true) H
theorem ok__law_equal_pairs (T : Txt K mg A D) : FnOk P w K mg base CX0 1 A.f__law_equal_pairs D.f__law_equal_pairs ["_law_one", "_law_other"] (sp_leq) := by
  skip
  refine T.F__law_equal_pairs.ok sc__law_equal_pairs (fun vs H Q E h => ?_) (fun cdv A' outer s H vs Q E hr h => ?_)
  · obtain ⟨v, u, n, F, F2, rfl, _⟩ := h
    rfl
  · obtain ⟨v, u, n, F, F2, rfl, ⟨a, rs, rfl, ha, lr, hT⟩, ⟨b, ss, rfl, hb, ls, hU⟩, hn, hc, q⟩ := h
    refine ⟨_, (pss_cons (ps_if (pt_cmpR op_ne (pe_callB call_len_seq rfl T.z_len (by decide +kernel) (pa_cons (pv 0) pa_nil)) (pe_callB call_len_seq rfl T.z_len (by decide +kernel) (pa_cons (pv 1) pa_nil)) (nomark _)) (pss_one (ps_ret pe_bl)) pss_nil)
  (pss_cons (ps_for PassesOwn.never rfl (pi_range1 rfl T.z_range (pa_cons (pe_callB call_len_seq rfl T.z_len (by decide +kernel) (pa_cons (pv 0) pa_nil)) pa_nil)) (pg_name (i := 2) sc__law_equal_pairs.nd rfl (.inl rfl)) (pss_one (ps_if (pt_cmpR op_ne (pe_op op_mulW (pe_ix ix_tup (pe_ix ix_list (pv 0) (pv 2) (fun _ _ => rfl)) pe_int (fun _ _ => rfl)) (pe_ix ix_tup (pe_ix ix_list (pv 1) (pv 2) (fun _ _ => rfl)) pe_int (fun _ _ => rfl))) (pe_op op_mulW (pe_ix ix_tup (pe_ix ix_list (pv 1) (pv 2) (fun _ _ => rfl)) pe_int (fun _ _ => rfl)) (pe_ix ix_tup (pe_ix ix_list (pv 0) (pv 2) (fun _ _ => rfl)) pe_int (fun _ _ => rfl))) (nomark _)) (pss_one (ps_ret pe_bl)) pss_nil)))
  (pss_one (ps_ret pe_bl)))), ?_⟩
    have e1 : ((rs.map V.ref).length : Int) = ((ss.map V.ref).length : Int) := by rw [List.length_map, List.length_map]; omega
    refine ⟨_, rfl, a, _, rfl, .inl (.of ha), _, rfl, b, _, rfl, .inl (.of hb), rfl, _, rfl, iteFe (by rw [e1, decide_eq_true rfl]; rfl) ?_⟩
    refine ⟨_, rfl, a, _, rfl, .inl (.of ha), _, rfl, by rw [List.length_map]; omega, by rw [List.length_map]; omega, ?_⟩
    refine for_range (lo := 0) (fun i σ G => G = H ∧ ∃ y : Option V, σ = [some (.ref a), some (.ref b), y]) ⟨rfl, _, rfl⟩ ?_ ?_
    · rintro k σ G hk ⟨rfl, y, rfl⟩
      rw [List.length_map] at hk
      obtain ⟨r, er, er2⟩ := pr_get (show k < rs.length by omega)
      obtain ⟨t, et, et2⟩ := pr_get (show k < ss.length by omega)
      have hr := hT k r er
      have ht := hU k t et
      obtain ⟨c, s1, s2, s3, s4⟩ := hc k (by omega)
      refine ⟨_, rfl, _, rfl, a, _, _, _, rfl, rfl, .of ha, at_get er2, r, _, 0, _, rfl, rfl, .of hr, rfl, _, rfl, _, rfl, b, _, _, _, rfl, rfl, .of hb, at_get et2, t, _, 1, _, rfl, rfl, .of ht, rfl, _, _, rfl, rfl, s1.mul s4, ?_⟩
      refine ⟨_, rfl, _, rfl, b, _, _, _, rfl, rfl, .of hb, at_get et2, t, _, 0, _, rfl, rfl, .of ht, rfl, _, rfl, _, rfl, a, _, _, _, rfl, rfl, .of ha, at_get er2, r, _, 1, _, rfl, rfl, .of hr, rfl, _, _, rfl, rfl, s3.mul s2, ?_⟩
      refine ⟨rfl, _, rfl, iteFe (by rw [decide_eq_true (congrArg V.int c)]; rfl) ⟨rfl, _, rfl⟩⟩
    · rintro σ G ⟨rfl, y, rfl⟩
      exact q
end

end Mo

namespace Mo
open PySem PySem.Spec PyProof.Rows L2 MoL MoW
open C8 (pss_cut tCut)
section
variable {P : Program} {w : World} {K : PySem.W.Frag} {mg : Str → Option Value} {base : Heap} {A : Ad} {D : Fd}
/-! ### a row of Ratios, read as pairs -/
theorem for_seqN {tl tl' : TE} {a : Addr} {xs : List V} {g : TG} {tb : TS} {D : Ends} {σ : L2.St} {H0 H : Hp} (k0 : Same H0 H) (ha : H0 a = some (.lst xs) ∨ H0 a = some (.tup xs)) (h1 : ∀ R : VK, R (.ref a) H → tl σ H R) (h2 : ∀ R : VK, R (.ref a) H → tl' σ H R)
    (Pv : Nat → L2.St → Hp → Prop) (h0 : Pv 0 σ H) (hk : ∀ (i : Nat) (σ : L2.St) (G : Hp), i ≤ xs.length → Pv i σ G → Same H0 G)
    (step : ∀ (i : Nat) (x : V) (σ : L2.St) (G : Hp), xs[i]? = some x → Pv i σ G → g x σ G fun σ2 H2 => tb { nx := Pv (i + 1), rt := D.rt, bk := D.nx, ct := Pv (i + 1) } σ2 H2)
    (done : ∀ (σ : L2.St) (G : Hp), Pv xs.length σ G → D.nx σ G) : tFor (fun σ H R => iList K tl σ H R ∨ iTup K tl' σ H R) g tb D σ H := by
  rcases ha with h | h
  · exact .inl (h1 _ ⟨a, rfl, ⟨xs, .of (k0 _ _ h)⟩, for_list Pv h0 (fun i σ G hi p => .of (hk i σ G hi p _ _ h)) step done⟩)
  · exact .inr (h2 _ ⟨a, rfl, ⟨xs, .of (k0 _ _ h)⟩, for_tup Pv h0 (fun i σ G hi p => .of (hk i σ G hi p _ _ h)) step done⟩)
def sp_lprs (C : Addr) : Sp := fun vs H Q _ => ∃ (a : Addr) (xs : List V) (g : Nat → Rat), vs = [.ref a] ∧ (H a = some (.lst xs) ∨ H a = some (.tup xs)) ∧ RatsV C H xs g ∧ xs.length ≤ 60 ∧ ∀ H' d, Same H H' → H d = none → TupsAt H' (.ref d) xs.length (fun k => ((g k).num, ((g k).den : Int))) → Q (.ref d) H'
theorem ok__law_pairs (T : Txt K mg A D) : FnOk P w K mg base CX0 3 A.f__law_pairs D.f__law_pairs ["_law_values"] (sp_lprs A.Ratio) := by
  have G__law_pair : FnOk P w K mg base CX0 2 A.f__law_pair D.f__law_pair ["_law_value"] (sp_lpair A.Ratio) := ok__law_pair T
  refine T.F__law_pairs.ok sc__law_pairs (fun vs H Q E h => ?_) (fun cdv A' outer s H vs Q E hr h => ?_)
  · obtain ⟨a, xs, g, rfl, _⟩ := h
    rfl
  · obtain ⟨a, xs, g, rfl, ha, rv, hn, q⟩ := h
    refine ⟨_, (pss_cons (ps_set (i := 1) sc__law_pairs.nd rfl (.inl rfl) (pe_lst pa_nil))
  (pss_cons (ps_for PassesOwn.never rfl (pi_or (pi_list (pv 0)) (pi_tup (pv 0))) (pg_name (i := 2) sc__law_pairs.nd rfl (.inl rfl)) (pss_cons (ps_set (i := 3) sc__law_pairs.nd rfl (.inl rfl) (pe_call G__law_pair (hr.mono (by decide)) rfl T.g__law_pair T.F__law_pair.kp T.b__law_pair .nil pass0 (pa_cons (pv 2) pa_nil)))
  (pss_cons (ps_if (pt_cmpR op_isN (pv 3) pe_non (nomark _)) (pss_one (ps_ret pe_non)) pss_nil)
  (pss_one (ps_expr (pe_bm PySem.F.plainAttrs_list PySem.F.slot_list_append PySem.F.type_list_append mt_append (pv 1) (pa_cons (pv 3) pa_nil)))))))
  (pss_one (ps_ret (pv 1))))), ?_⟩
    refine ⟨by show 0 ≤ sizeLine; decide, fun d nd => ?_⟩
    refine for_seqN (same_upd nd) ha (fun R r => ⟨_, rfl, r⟩) (fun R r => ⟨_, rfl, r⟩) (fun i σ G => Same H G ∧ ∃ (rs : List Addr) (y2 y3 : Option V), σ = [some (.ref a), some (.ref d), y2, y3] ∧ G d = some (.lst (rs.map V.ref)) ∧ rs.length = i ∧ Tups G rs (fun k => ((g k).num, ((g k).den : Int)))) ⟨same_upd nd, [], _, _, rfl, upd_same, rfl, Tups.nil⟩ (fun i σ G _ p => p.1) ?_ ?_
    · rintro i x σ G hx ⟨sm, rs, y2, y3, rfl, hd, lr, hT⟩
      have il := get_lt hx
      refine ⟨_, rfl, x, g i, rfl, (rv i x hx).same sm, fun p np => ?_⟩
      have s3 := same_upd (o := tup2 (g i).num ((g i).den : Int)) np
      have hd3 := s3 _ _ hd
      refine ⟨_, rfl, rfl, _, rfl, iteFe is_ref ?_⟩
      refine ⟨_, rfl, .inl ⟨rfl, _, .of hd3⟩, _, rfl, d, _, _, rfl, rfl, hd3, by rw [List.length_map]; exact small1000 (by omega), ?_⟩
      refine ⟨same_push (sm.trans s3) nd, rs ++ [p], _, _, rfl, by rw [upd_same, List.map_append]; rfl, by rw [List.length_append, lr]; rfl, ?_⟩
      exact ((hT.same s3).push (by rw [lr]; exact upd_same)).put hd3
    · rintro σ G ⟨sm, rs, y2, y3, rfl, hd, lr, hT⟩
      exact ⟨_, rfl, q G d sm nd ⟨d, rs, rfl, hd, lr, hT⟩⟩
/-! ### a Poly, read as pairs -/
def sp_lread (A : Ad) : Sp := fun vs H Q _ => ∃ p s f, vs = [p] ∧ PolyV A.Poly A.Ratio H p s f ∧ s ≤ 60 ∧ ∀ H' d, Same H H' → H d = none → TupsAt H' (.ref d) s (fun k => ((f k).num, ((f k).den : Int))) → Q (.ref d) H'
theorem ok__law_read_poly (T : Txt K mg A D) : FnOk P w K mg base CX0 4 A.f__law_read_poly D.f__law_read_poly ["_law_poly"] (sp_lread A) := by
  have G__law_pairs : FnOk P w K mg base CX0 3 A.f__law_pairs D.f__law_pairs ["_law_values"] (sp_lprs A.Ratio) := ok__law_pairs T
  refine T.F__law_read_poly.ok sc__law_read_poly (fun vs H Q E h => ?_) (fun cdv A' outer s H vs Q E hr h => ?_)
  · obtain ⟨p, s, f, rfl, _⟩ := h
    rfl
  · obtain ⟨p, s, f, rfl, ⟨⟨a, dx, tp, ys, l, rfl, h1, h2, h3, h4, h5⟩, z, z2⟩, hs, q⟩ := h
    refine ⟨_, (pss_cons (ps_if (PW.pt (pw_or (pt_not (pt_val (pe_callB call_isi rfl T.z_isinstance (by decide +kernel) (pa_cons (pv 0) (pa_cons (pe_glob (v := .ref A.Poly) rfl T.g_Poly rfl) pa_nil))))) (pw_or1 (pt_not (pt_val (pe_callB call_isi rfl T.z_isinstance (by decide +kernel) (pa_cons (pe_fld (pv 0) rfl) (pa_cons (pe_bltn (v := .ty "tuple") rfl T.z_tuple (by decide +kernel) rfl) pa_nil)))))))) (pss_one (ps_ret pe_non)) pss_nil)
  (pss_one (ps_ret (pe_call G__law_pairs (hr.mono (by decide)) rfl T.g__law_pairs T.F__law_pairs.kp T.b__law_pairs .nil pass0 (pa_cons (pe_fld (pv 0) rfl) pa_nil))))), ?_⟩
    have cl := T.k_Poly.cl
    refine ⟨_, rfl, .ref a, .ref A.Poly, _, _, true, rfl, .own _, T.k_Poly.ty h1, kit_self, true, rfl, iteF ?_⟩
    refine ⟨_, rfl, a, A.Poly, dx, _, _, rfl, h1, cl, T.n_Poly_coefficients, rfl, .ref tp, .ty "tuple", _, _, true, rfl, .ty _, .base (.tup h2), kit_ty (by decide +kernel), true, rfl, iteF ?_⟩
    refine ⟨_, rfl, a, A.Poly, dx, _, _, rfl, h1, cl, T.n_Poly_coefficients, rfl, tp, ys, f, rfl, .inr h2, h4, by omega, fun H' d k nd ht => q H' d k nd ?_⟩
    rw [h3] at ht
    exact ht
end

end Mo

namespace Mo
open PySem PySem.Spec PyProof.Rows L2 MoL MoW
open C8 (pss_cut tCut)
section
variable {P : Program} {w : World} {K : PySem.W.Frag} {mg : Str → Option Value} {base : Heap} {A : Ad} {D : Fd}
/-! ### a bar's base, drawn -/
theorem prdL_B {ts us : List Int} {e : Nat} (h1 : TopsB e ts) (h2 : TopsB e us) (hn : ts.length ≤ 60) : TopsB (e + e + 6) (prdL ts us) := TopsB.of fun k t ht => by
  unfold prdL at ht
  rw [List.getElem?_map] at ht
  obtain ⟨i, _, rfl⟩ := Option.map_eq_some_iff.mp ht
  rw [← cvP_all]
  exact cvP_lt h1 h2 hn
/-- a drawn base: its length, its sizes -/
structure BaseOk (n : Nat) (bs : List Int) : Prop where
  l0 : 1 ≤ bs.length
  l1 : bs.length ≤ n
  sz : TopsB 106 bs
def sp_lbase : Sp := fun vs H Q _ => ∃ (pt dg : Addr) (ts ds : List Int) (bot b : Int) (n : Nat), vs = [.ref pt, .int bot, .ref dg] ∧ H pt = some (.lst (ts.map V.int)) ∧ H dg = some (.lst (ds.map V.int)) ∧ Digs b n ds ∧ 8 ≤ n ∧ ts.length ≤ 2 ∧ (∀ t ∈ ts, t.natAbs < 2 ^ 22) ∧ bot.natAbs < 2 ^ 22 ∧ ∀ H' d bs, Same H H' → H d = none → H' d = some (.lst (bs.map V.int)) → BaseOk 4 bs → Q (.ref d) H'
theorem ok__law_base (T : Txt K mg A D) : FnOk P w K mg base CX0 2 A.f__law_base D.f__law_base ["_law_tops", "_law_bottom", "_law_digits"] (sp_lbase) := by
  have G__law_multiply : FnOk P w K mg base CX0 1 A.f__law_multiply D.f__law_multiply ["_law_one", "_law_other"] (sp_lmul) := ok__law_multiply T
  refine T.F__law_base.ok sc__law_base (fun vs H Q E h => ?_) (fun cdv A' outer s H vs Q E hr h => ?_)
  · obtain ⟨pt, dg, ts, ds, bot, b, n, rfl, _⟩ := h
    rfl
  · obtain ⟨pt, dg, ts, ds, bot, b, n, rfl, ht, hdg, hd, h8, hl, hts, hb, q⟩ := h
    refine ⟨_, (pss_cons (ps_set (i := 3) sc__law_base.nd rfl (.inl rfl) (pe_lst (pa_cons (pe_op op_add pe_int (pe_op op_mod (pe_callTy call_int1 rfl T.z_int (by decide +kernel) (pa_cons (pe_ix ix_list (pv 2) pe_int (fun _ _ => rfl)) pa_nil)) pe_int)) pa_nil)))
  (pss_cons (ps_for PassesOwn.never rfl (pi_list (pv 0)) (pg_name (i := 4) sc__law_base.nd rfl (.inl rfl)) (pss_one (ps_set (i := 3) sc__law_base.nd rfl (.inl rfl) (pe_call G__law_multiply (hr.mono (by decide)) rfl T.g__law_multiply T.F__law_multiply.kp T.b__law_multiply .nil pass0 (pa_cons (pv 3) (pa_cons (pe_lst (pa_cons (pe_un un_neg (pv 4)) (pa_cons (pv 1) pa_nil))) pa_nil))))))
  (pss_cut (ps_if (pt_cmpR op_eq (pe_op op_mod (pe_callTy call_int1 rfl T.z_int (by decide +kernel) (pa_cons (pe_ix ix_list (pv 2) pe_int (fun _ _ => rfl)) pa_nil)) pe_int) pe_int (nomark _)) (pss_one (ps_setLc (i := 3) (own := [("_law_k", 5)]) (g := gName 5) (tt := tYes) rfl sc__law_base.nd rfl rfl rfl (pi_range1 rfl T.z_range (pa_cons (pe_op op_add pe_int (pe_op op_mod (pe_callTy call_int1 rfl T.z_int (by decide +kernel) (pa_cons (pe_ix ix_list (pv 2) pe_int (fun _ _ => rfl)) pa_nil)) pe_int)) pa_nil)) (blkOk_by (N := N__law_base) (sc := defScope s__law_base) (by decide +kernel)) (fun _ _ _ _ _ => (pg_name (i := 5) sc__law_base.nd rfl (.inl rfl))) (fun _ _ _ _ _ => pts_nil) (fun _ _ _ _ _ => (pe_op op_sub (pe_op op_mod (pe_callTy call_int1 rfl T.z_int (by decide +kernel) (pa_cons (pe_ix (ix_listK (K := K) rfl) (pv 2) (pe_op op_add pe_int (pv 5)) (fun _ _ => rfl)) pa_nil)) pe_int) pe_int)))) pss_nil)
  (pss_cut (ps_if (pt_cmpR op_eq (pe_op op_mod (pe_callTy call_int1 rfl T.z_int (by decide +kernel) (pa_cons (pe_ix ix_list (pv 2) pe_int (fun _ _ => rfl)) pa_nil)) pe_int) pe_int (nomark _)) (pss_one (ps_set (i := 3) sc__law_base.nd rfl (.inl rfl) (pe_lst (pa_cons pe_int (pa_cons pe_int pa_nil))))) pss_nil)
  (pss_one (ps_ret (pv 3))))))), ?_⟩
    refine ⟨_, rfl, dg, _, _, _, rfl, rfl, .of hdg, digs_at hd (k := 2) (by omega), .inl ⟨_, rfl, _, _, rfl, rfl, (show (0 : Int) < 3 by decide), _, _, rfl, rfl, by show 1 ≤ sizeLine; decide, fun d nd => ?_⟩⟩
    have m2 := md (z := ds.getD 2 0) (n := 3) (by decide)
    refine ⟨_, rfl, pt, rfl, ⟨_, .of (same_upd nd _ _ ht)⟩, for_list (fun i σ G => Same H G ∧ i ≤ ts.length ∧ ∃ (d : Addr) (bs : List Int) (y4 y5 : Option V), σ = [some (.ref pt), some (.int bot), some (.ref dg), some (.ref d), y4, y5] ∧ H d = none ∧ G d = some (.lst (bs.map V.int)) ∧ bs.length = i + 1 ∧ TopsB (28 * 2 ^ i - 6) bs) ⟨same_upd nd, Nat.zero_le _, d, [1 + ds.getD 2 0 % 3], _, _, rfl, nd, upd_same, rfl, TopsB.of fun k t e => ?_⟩ (fun i σ G _ p => .of (p.1 _ _ ht)) ?_ ?_⟩
    · match k, e with
      | 0, e =>
        cases e
        show _ < 2 ^ 22
        omega
    · rintro i x σ G hx ⟨sm, hi, d, bs, y4, y5, rfl, d0, hdd, lb, hB⟩
      rw [List.getElem?_map] at hx
      obtain ⟨t, et, rfl⟩ := Option.map_eq_some_iff.mp hx
      have bt := hts t (List.mem_of_getElem? et)
      have il := (List.getElem?_eq_some_iff.mp et).1
      have p1 : 1 ≤ 2 ^ i := Nat.one_le_two_pow
      have p2 : 2 ^ i ≤ 2 ^ 1 := Nat.pow_le_pow_right (by decide) (by omega)
      have e22 : (2 : Nat) ^ 22 ≤ 2 ^ (28 * 2 ^ i - 6) := Nat.pow_le_pow_right (by decide) (by omega)
      refine ⟨_, rfl, _, rfl, _, rfl, _, rfl, by show 2 ≤ sizeLine; decide, fun l nl => ?_⟩
      have s3 := same_upd (o := .lst [V.int (-t), .int bot]) nl
      refine ⟨d, l, bs, [-t, bot], 28 * 2 ^ i - 6, rfl, s3 _ _ hdd, upd_same, by show bs.length + 2 ≤ 60; omega, by omega, hB, TopsB.of fun k z ez => ?_, by omega, fun H' d' k nd' hd' => ?_⟩
      · match k, ez with
        | 0, ez => cases ez; rw [Int.natAbs_neg]; omega
        | 1, ez => cases ez; omega
      · refine ⟨(sm.trans s3).trans k, by omega, d', prdL bs [-t, bot], _, _, rfl, (sm.trans s3).free nd', hd', ?_, ?_⟩
        · rw [prdL_len]
          show bs.length + 2 - 1 = _
          omega
        · have hB2 : TopsB (28 * 2 ^ i - 6) [-t, bot] := TopsB.of fun k z ez => by
            match k, ez with
            | 0, ez => cases ez; rw [Int.natAbs_neg]; omega
            | 1, ez => cases ez; omega
          exact (prdL_B hB hB2 (by omega)).mono (by rw [Nat.pow_succ]; omega)
    rintro σ G ⟨sm, hi, d, bs, y4, y5, rfl, d0, hdd, lb, hB⟩
    have hi2 : (ts.map V.int).length = ts.length := List.length_map _
    rw [hi2] at lb hB
    have p2 : 2 ^ ts.length ≤ 2 ^ 2 := Nat.pow_le_pow_right (by decide) hl
    have ok : BaseOk 4 bs := ⟨by omega, by omega, hB.mono (by omega)⟩
    clear hi hB lb hi2
    refine ⟨fun σ' G' => Same H G' ∧ ∃ (d : Addr) (bs : List Int) (y4 y5 : Option V), σ' = [some (.ref pt), some (.int bot), some (.ref dg), some (.ref d), y4, y5] ∧ H d = none ∧ G' d = some (.lst (bs.map V.int)) ∧ BaseOk 4 bs, ?_, ?_⟩
    · refine ⟨_, rfl, dg, _, _, _, rfl, rfl, .of (sm _ _ hdg), digs_at hd (k := 3) (by omega), .inl ⟨_, rfl, _, _, rfl, rfl, (show (0 : Int) < 3 by decide), rfl, _, rfl, ite2 (fun c => ?_) (fun c => ⟨sm, d, bs, _, _, rfl, d0, hdd, ok⟩)⟩⟩
      have m4 := md (z := ds.getD 2 0) (n := 4) (by decide)
      refine ⟨_, rfl, dg, _, _, _, rfl, rfl, .of (sm _ _ hdg), digs_at hd (k := 2) (by omega), .inl ⟨_, rfl, _, _, rfl, rfl, (show (0 : Int) < 4 by decide), _, _, rfl, rfl, _, rfl, by omega, by omega, fun d2 nd2 => ?_⟩⟩
      refine lc_range (lo := 0) (fun j E => Same G E ∧ ∃ cs : List Int, E d2 = some (.lst (cs.map V.int)) ∧ cs.length = j ∧ ∀ z ∈ cs, z.natAbs ≤ 3) ⟨same_upd nd2, [], upd_same, rfl, fun z h => by cases h⟩ ?_ ?_
      · rintro j E hj ⟨k, cs, hcs, lc, sc⟩
        have at4 : atI (ds.map V.int) (4 + (0 + (j : Int))) = some (.int (ds.getD (4 + j) 0)) := by
          rw [show (4 : Int) + (0 + (j : Int)) = ((4 + j : Nat) : Int) by omega]
          exact digs_at hd (by omega)
        have m7 := md (z := ds.getD (4 + j) 0) (n := 7) (by decide)
        refine ⟨rfl, _, rfl, _, rfl, _, _, rfl, rfl, dg, _, _, _, rfl, rfl, .of ((sm.trans k) _ _ hdg), at4, .inl ⟨_, rfl, _, _, rfl, rfl, (show (0 : Int) < 7 by decide), _, _, rfl, rfl, _, hcs, by rw [List.length_map]; exact small1000 (by omega), same_push k nd2, cs ++ [ds.getD (4 + j) 0 % 7 - 3], by rw [upd_same, List.map_append]; rfl, by rw [List.length_append, lc]; rfl, fun z hz => ?_⟩⟩
        rcases List.mem_append.mp hz with h | h
        · exact sc z h
        · rw [List.mem_singleton.mp h]; omega
      · rintro E ⟨k, cs, hcs, lc, sc⟩
        refine ⟨sm.trans k, d2, cs, _, _, rfl, sm.free nd2, hcs, by omega, by omega, TopsB.of fun k z e => ?_⟩
        have := sc z (List.mem_of_getElem? e)
        have p : (2 : Nat) ^ 2 ≤ 2 ^ 106 := Nat.pow_le_pow_right (by decide) (by decide)
        omega
    clear sm hdd d0 ok d bs y4 y5
    rintro σ G ⟨sm, d, bs, y4, y5, rfl, d0, hdd, ok⟩
    refine ⟨fun σ' G' => Same H G' ∧ ∃ (d : Addr) (bs : List Int) (y4 y5 : Option V), σ' = [some (.ref pt), some (.int bot), some (.ref dg), some (.ref d), y4, y5] ∧ H d = none ∧ G' d = some (.lst (bs.map V.int)) ∧ BaseOk 4 bs, ?_, ?_⟩
    · refine ⟨_, rfl, dg, _, _, _, rfl, rfl, .of (sm _ _ hdg), digs_at hd (k := 3) (by omega), .inl ⟨_, rfl, _, _, rfl, rfl, (show (0 : Int) < 12 by decide), rfl, _, rfl, ite2 (fun c => ?_) (fun c => ⟨sm, d, bs, _, _, rfl, d0, hdd, ok⟩)⟩⟩
      refine ⟨by show 2 ≤ sizeLine; decide, fun d2 nd2 => ?_⟩
      exact ⟨sm.trans (same_upd nd2), d2, [0, 0], _, _, rfl, sm.free nd2, upd_same, by decide, by decide, TopsB.of fun k z e => by
        match k, e with
        | 0, e => cases e; exact Nat.two_pow_pos _
        | 1, e => cases e; exact Nat.two_pow_pos _⟩
    clear sm hdd d0 ok d bs y4 y5
    rintro σ G ⟨sm, d, bs, y4, y5, rfl, d0, hdd, ok⟩
    exact ⟨_, rfl, q G d bs sm d0 hdd ok⟩
end

end Mo

namespace Mo
open PySem PySem.Spec PyProof.Rows L2 MoL MoW
open C8 (pss_cut tCut)
section
variable {P : Program} {w : World} {K : PySem.W.Frag} {mg : Str → Option Value} {base : Heap} {A : Ad} {D : Fd}
/-! ### what a bar's check has to tell -/
structure TrimAt (ts : List Int) (m : Nat) : Prop where
  le : m ≤ ts.length
  z : ∀ k, m ≤ k → ts.getD k 0 = 0
  nz : 0 < m → ts.getD (m - 1) 0 ≠ 0
def dueV (P C N : List Int) (m1 m2 : Nat) (o : Bool) : V :=
  if N.length < m1 ∨ N.length < m2 then .str "degree"
  else if o = false then (if 0 ≤ dotN (P.take m1) N m1 then .str "mean" else .non)
  else if dotN (P.take m1) N m1 ≠ 0 then .str "mean"
  else if dotN (C.take m2) N m2 = 0 then .str "other" else .non
def OthAt (H : Hp) (v : V) : Option (List Int) → Prop
  | none => v = .non
  | some os => ∃ o, v = .ref o ∧ H o = some (.lst (os.map V.int))
@[irreducible] def sp_ldue : Sp := fun vs H Q _ => ∃ (ch : Bool) (fa ba na : Addr) (ov : V) (f b N : List Int) (o : Option (List Int)) (e e2 : Nat), vs = [.bl ch, .ref fa, .ref ba, ov, .ref na] ∧ H fa = some (.lst (f.map V.int)) ∧ H ba = some (.lst (b.map V.int)) ∧ H na = some (.lst (N.map V.int)) ∧ OthAt H ov o ∧ 1 ≤ f.length ∧ f.length ≤ 10 ∧ 1 ≤ b.length ∧ b.length ≤ 10 ∧ (∀ os, o = some os → 1 ≤ os.length ∧ os.length ≤ 10 ∧ TopsB (e + e + 6) os) ∧ N.length ≤ 60 ∧ TopsB e f ∧ TopsB e b ∧ e ≤ 900 ∧ TopsB e2 N ∧ e2 ≤ 3900 ∧
  (ch = false → Q (.str "factor") H) ∧ (ch = true → ∀ H' m1 m2, Same H H' → TrimAt (prdL (prdL f b) b) m1 → (∀ os, o = some os → TrimAt (prdL (prdL f b) os) m2) → (o = none → m2 = 0) → Q (dueV (prdL (prdL f b) b) (prdL (prdL f b) (o.getD [])) N m1 m2 o.isSome) H')
theorem ok__law_due (T : Txt K mg A D) : FnOk P w K mg base CX0 2 A.f__law_due D.f__law_due ["_law_chosen", "_law_factor", "_law_base_here", "_law_other", "_law_numbers"] (sp_ldue) := by
  have G__law_mean : FnOk P w K mg base CX0 1 A.f__law_mean D.f__law_mean ["_law_poly", "_law_numbers"] (sp_lmean) := ok__law_mean T
  have G__law_multiply : FnOk P w K mg base CX0 1 A.f__law_multiply D.f__law_multiply ["_law_one", "_law_other"] (sp_lmul) := ok__law_multiply T
  have G__law_trim : FnOk P w K mg base CX0 1 A.f__law_trim D.f__law_trim ["_law_row_here"] (sp_ltrim) := ok__law_trim T
  refine T.F__law_due.ok sc__law_due (fun vs H Q E h => ?_) (fun cdv A' outer s H vs Q E hr h => ?_)
  · unfold sp_ldue at h
    obtain ⟨ch, fa, ba, na, ov, f, b, N, o, e, e2, rfl, _⟩ := h
    rfl
  · unfold sp_ldue at h
    obtain ⟨ch, fa, ba, na, ov, f, b, N, o, e, e2, rfl, hf, hb, hN, ho, f1, f2, b1, b2, co, n2, bf, bb, he, bN, he2, q0, q1⟩ := h
    refine ⟨_, (pss_cons (ps_if (pt_not (pt_val (pv 0))) (pss_one (ps_ret pe_str)) pss_nil)
  (pss_cons (ps_set (i := 5) sc__law_due.nd rfl (.inl rfl) (pe_call G__law_multiply (hr.mono (by decide)) rfl T.g__law_multiply T.F__law_multiply.kp T.b__law_multiply .nil pass0 (pa_cons (pv 1) (pa_cons (pv 2) pa_nil))))
  (pss_cons (ps_set (i := 6) sc__law_due.nd rfl (.inl rfl) (pe_call G__law_trim (hr.mono (by decide)) rfl T.g__law_trim T.F__law_trim.kp T.b__law_trim .nil pass0 (pa_cons (pe_call G__law_multiply (hr.mono (by decide)) rfl T.g__law_multiply T.F__law_multiply.kp T.b__law_multiply .nil pass0 (pa_cons (pv 5) (pa_cons (pv 2) pa_nil))) pa_nil)))
  (pss_cons (ps_set (i := 7) sc__law_due.nd rfl (.inl rfl) (pe_lst pa_nil))
  (pss_cut (ps_if (pt_cmpR op_notN (pv 3) pe_non (nomark _)) (pss_one (ps_set (i := 7) sc__law_due.nd rfl (.inl rfl) (pe_call G__law_trim (hr.mono (by decide)) rfl T.g__law_trim T.F__law_trim.kp T.b__law_trim .nil pass0 (pa_cons (pe_call G__law_multiply (hr.mono (by decide)) rfl T.g__law_multiply T.F__law_multiply.kp T.b__law_multiply .nil pass0 (pa_cons (pv 5) (pa_cons (pv 3) pa_nil))) pa_nil)))) pss_nil)
  (pss_cons (ps_if (PW.pt (pw_or (pt_cmpR op_gt (pe_callB call_len_seq rfl T.z_len (by decide +kernel) (pa_cons (pv 6) pa_nil)) (pe_callB call_len_seq rfl T.z_len (by decide +kernel) (pa_cons (pv 4) pa_nil)) (nomark _)) (pw_or1 (pt_cmpR op_gt (pe_callB call_len_seq rfl T.z_len (by decide +kernel) (pa_cons (pv 7) pa_nil)) (pe_callB call_len_seq rfl T.z_len (by decide +kernel) (pa_cons (pv 4) pa_nil)) (nomark _))))) (pss_one (ps_ret pe_str)) pss_nil)
  (pss_cons (ps_set (i := 8) sc__law_due.nd rfl (.inl rfl) (pe_call G__law_mean (hr.mono (by decide)) rfl T.g__law_mean T.F__law_mean.kp T.b__law_mean .nil pass0 (pa_cons (pv 6) (pa_cons (pv 4) pa_nil))))
  (pss_cons (ps_if (pt_cmpR op_isN (pv 3) pe_non (nomark _)) (pss_cons (ps_if (pt_cmpR op_ge (pv 8) pe_int (nomark _)) (pss_one (ps_ret pe_str)) pss_nil)
  (pss_one (ps_ret pe_non))) pss_nil)
  (pss_cons (ps_if (pt_cmpR op_ne (pv 8) pe_int (nomark _)) (pss_one (ps_ret pe_str)) pss_nil)
  (pss_cons (ps_if (pt_cmpR op_eq (pe_call G__law_mean (hr.mono (by decide)) rfl T.g__law_mean T.F__law_mean.kp T.b__law_mean .nil pass0 (pa_cons (pv 7) (pa_cons (pv 4) pa_nil))) pe_int (nomark _)) (pss_one (ps_ret pe_str)) pss_nil)
  (pss_one (ps_ret pe_non)))))))))))), ?_⟩
    refine ⟨_, rfl, ch, rfl, ?_⟩
    cases ch with
    | false => exact iteT (q0 rfl)
    | true =>
    refine iteF ?_
    have bh := prdL_B bf bb (by omega)
    have lh : (prdL f b).length = f.length + b.length - 1 := prdL_len
    refine ⟨_, rfl, _, rfl, fa, ba, f, b, e, rfl, hf, hb, by omega, by omega, bf, bb, by omega, fun H1 d1 k1 nd1 hd1 => ?_⟩
    have lp : (prdL (prdL f b) b).length = (prdL f b).length + b.length - 1 := prdL_len
    have bP := prdL_B bh (bb.mono (show e ≤ e + e + 6 by omega)) (by omega)
    refine ⟨_, rfl, _, rfl, d1, ba, prdL f b, b, e + e + 6, rfl, hd1, k1 _ _ hb, by omega, by omega, bh, bb.mono (by omega), by omega, fun H2 d2 k2 nd2 hd2 => ⟨d2, _, rfl, hd2, by omega, fun H3 d3 m1 k3 nd3 c1 c2 c3 hd3 => ?_⟩⟩
    refine ⟨by show 0 ≤ sizeLine; decide, fun d4 nd4 => ?_⟩
    have k4 := same_upd (o := .lst []) nd4
    have h4 : upd H3 d4 (.lst []) d4 = some (.lst []) := upd_same
    show tCut _ _ _ _ (upd H3 d4 (.lst []))
    generalize upd H3 d4 (.lst []) = H4 at k4 h4
    have kk := ((k1.trans k2).trans k3).trans k4
    have hd14 := ((k2.trans k3).trans k4) _ _ hd1
    have hd34 := k4 _ _ hd3
    refine ⟨fun σ G => Same H4 G ∧ ∃ (d7 : Addr) (m2 : Nat), σ = [some (.bl true), some (.ref fa), some (.ref ba), some ov, some (.ref na), some (.ref d1), some (.ref d3), some (.ref d7), none] ∧ G d7 = some (.lst (((prdL (prdL f b) (o.getD [])).take m2).map V.int)) ∧ (∀ os, o = some os → TrimAt (prdL (prdL f b) os) m2) ∧ (o = none → m2 = 0), ?_, ?_⟩
    · cases o with
      | none =>
        cases ho
        exact ⟨_, rfl, rfl, _, rfl, iteFe nn_non ⟨Same.refl _, d4, 0, rfl, h4, fun os w => (by cases w), fun _ => rfl⟩⟩
      | some os =>
        obtain ⟨oa, rfl, hoa⟩ := ho
        obtain ⟨o1, o2, o3⟩ := co os rfl
        have lc : (prdL (prdL f b) os).length = (prdL f b).length + os.length - 1 := prdL_len
        refine ⟨_, rfl, rfl, _, rfl, iteTe nn_ref ?_⟩
        refine ⟨_, rfl, _, rfl, d1, oa, prdL f b, os, e + e + 6, rfl, hd14, kk _ _ hoa, by omega, by omega, bh, o3, by omega, fun H5 d5 k5 nd5 hd5 => ⟨d5, _, rfl, hd5, by omega, fun H6 d6 m2 k6 nd6 g1 g2 g3 hd6 => ?_⟩⟩
        exact ⟨k5.trans k6, d6, m2, rfl, hd6, fun os' w => by cases w; exact ⟨g1, g2, g3⟩, fun w => by cases w⟩
    rintro σ G ⟨k5, d7, m2, rfl, hd7, t2, t0⟩
    have q2 := q1 rfl G m1 m2 (kk.trans k5) ⟨c1, c2, c3⟩ t2 t0
    have hd3G := k5 _ _ hd34
    have hNG := (kk.trans k5) _ _ hN
    have l3 : ((prdL (prdL f b) b).take m1).length = m1 := by rw [List.length_take]; omega
    have l7 : ((prdL (prdL f b) (o.getD [])).take m2).length = m2 := by
      rw [List.length_take]
      cases o with
      | none => have := t0 rfl; omega
      | some os => have := (t2 os rfl).le; exact Nat.min_eq_left this
    have tk : ∀ {e : Nat} {xs : List Int} {m : Nat}, TopsB e xs → TopsB e (xs.take m) := fun hx => TopsB.of fun k z ez => by
      rw [List.getElem?_take] at ez
      split at ez
      · have := hx k
        rw [List.getD_eq_getElem?_getD, ez] at this
        exact this
      · cases ez
    have bP1 := tk (m := m1) bP
    refine ⟨_, rfl, d3, _, rfl, .inl (.of hd3G), _, rfl, na, _, rfl, .inl (.of hNG), _, _, rfl, rfl, _, rfl, ite2 (fun c => iteT ?_) (fun c => ?_)⟩
    · have c := of_decide_eq_true c
      rw [List.length_map, List.length_map, l3] at c
      have e1 : dueV (prdL (prdL f b) b) (prdL (prdL f b) (o.getD [])) N m1 m2 o.isSome = .str "degree" := if_pos (by omega)
      rw [e1] at q2
      exact q2
    have c' : ¬ N.length < m1 := fun w => c (decide_eq_true (by rw [List.length_map, List.length_map, l3]; omega))
    refine ⟨_, rfl, d7, _, rfl, .inl (.of hd7), _, rfl, na, _, rfl, .inl (.of hNG), _, _, rfl, rfl, _, rfl, ite2 (fun c => ?_) (fun c => ?_)⟩
    · have c := of_decide_eq_true c
      rw [List.length_map, List.length_map, l7] at c
      have e1 : dueV (prdL (prdL f b) b) (prdL (prdL f b) (o.getD [])) N m1 m2 o.isSome = .str "degree" := if_pos (by omega)
      rw [e1] at q2
      exact q2
    have c2' : ¬ N.length < m2 := fun w => c (decide_eq_true (by rw [List.length_map, List.length_map, l7]; omega))
    refine ⟨_, rfl, _, rfl, d3, na, _, N, _, e2, rfl, hd3G, hNG, by omega, by omega, bP1, bN, by omega, he2, ?_⟩
    rw [l3]
    unfold dueV at q2
    rw [if_neg (by omega)] at q2
    cases o with
    | none =>
      cases ho
      rw [if_pos (show (none : Option (List Int)).isSome = false from rfl)] at q2
      refine ⟨_, rfl, rfl, _, rfl, iteTe (decide_eq_true rfl) ?_⟩
      refine ⟨_, rfl, _, _, rfl, rfl, _, rfl, ite2 (fun c => ?_) (fun c => ?_)⟩
      · rw [if_pos (of_decide_eq_true c)] at q2
        exact q2
      · rw [if_neg (fun w => c (decide_eq_true w))] at q2
        exact q2
    | some os =>
      obtain ⟨oa, rfl, hoa⟩ := ho
      obtain ⟨o1, o2, o3⟩ := co os rfl
      rw [if_neg (show ¬ (some os).isSome = false from fun w => by cases w)] at q2
      refine ⟨_, rfl, rfl, _, rfl, iteFe is_ref ?_⟩
      by_cases z : dotN ((prdL (prdL f b) b).take m1) N m1 = 0
      · rw [if_neg (fun w => w z)] at q2
        refine ⟨_, rfl, rfl, _, rfl, iteFe (by rw [decide_eq_true (congrArg V.int z)]; rfl) ?_⟩
        have bC : TopsB (e + e + 6 + (e + e + 6) + 6) ((prdL (prdL f b) os).take m2) := tk (prdL_B bh o3 (by omega))
        refine ⟨_, rfl, _, rfl, d7, na, _, N, _, e2, rfl, hd7, hNG, by omega, by omega, bC, bN, by omega, he2, ?_⟩
        rw [l7]
        refine ⟨rfl, _, rfl, ite2 (fun c => ?_) (fun c => ?_)⟩
        · rw [if_pos (V.int.inj (of_decide_eq_true c))] at q2
          exact q2
        · rw [if_neg (fun w => c (decide_eq_true (congrArg V.int w)))] at q2
          exact q2
      · rw [if_pos z] at q2
        refine ⟨_, rfl, rfl, _, rfl, iteTe (by rw [decide_eq_false (fun w => z (V.int.inj w))]; rfl) ?_⟩
        exact q2
end

end Mo

namespace Mo
open PySem PySem.Spec PyProof.Rows L2 MoL MoW
open C8 (pss_cut tCut)
section
variable {P : Program} {w : World} {K : PySem.W.Frag} {mg : Str → Option Value} {base : Heap} {A : Ad} {D : Fd}
theorem ok_NoBar___init__ (T : Txt K mg A D) : FnOk P w K mg base CX0 1 A.f_NoBar___init__ D.f_NoBar___init__ ["self", "part"] (sp_keep K "part") := by
  skip
  refine T.F_NoBar___init__.ok sc_NoBar___init__ (fun vs H Q E h => ?_) (fun cdv A' outer s H vs Q E hr h => ?_)
  · obtain ⟨e, C, v, rfl, _⟩ := h
    rfl
  · obtain ⟨e, C, v, rfl, hT, hn, he, q⟩ := h
    refine ⟨_, pss_one (ps_ost (pv 0) (pv 1)), ?_⟩
    exact ⟨_, rfl, _, rfl, e, C, rfl, hT, hn, .inl ⟨he, q⟩⟩
/-! ### bars -/
def OPolyV (A : Ad) (H : Hp) (v : V) : Option (Nat × (Nat → Rat)) → Prop
  | none => v = .non
  | some z => PolyV A.Poly A.Ratio H v z.1 z.2
theorem OPolyV.same {A : Ad} {H H' : Hp} {v : V} : ∀ {o : Option (Nat × (Nat → Rat))}, OPolyV A H v o → Same H H' → OPolyV A H' v o
  | none, h, _ => h
  | some _, h, k => PolyV.same h k
structure BarD where
  s1 : Nat
  f : Nat → Rat
  s2 : Nat
  b : Nat → Rat
  o : Option (Nat × (Nat → Rat))
def BarV (A : Ad) (H : Hp) (v : V) (B : BarD) : Prop := ∃ a dx pf pb po, v = .ref a ∧ H a = some (.ins A.Bar dx [("factor", pf), ("base", pb), ("other", po)]) ∧ PolyV A.Poly A.Ratio H pf B.s1 B.f ∧ PolyV A.Poly A.Ratio H pb B.s2 B.b ∧ OPolyV A H po B.o
theorem BarV.same {A : Ad} {H H' : Hp} {v : V} {B : BarD} (h : BarV A H v B) (k : Same H H') : BarV A H' v B := by
  obtain ⟨a, dx, pf, pb, po, e, h1, h2, h3, h4⟩ := h
  exact ⟨a, dx, pf, pb, po, e, k _ _ h1, h2.same k, h3.same k, h4.same k⟩
def sp_barnew (A : Ad) : Sp := fun vs H Q _ => ∃ o dx pf pb po, vs = [.ref o, pf, pb, po] ∧ H o = some (.ins A.Bar dx []) ∧ Q .non (upd H o (.ins A.Bar dx [("factor", pf), ("base", pb), ("other", po)]))
theorem ok_Bar___init__ (T : Txt K mg A D) : FnOk P w K mg base CX0 1 A.f_Bar___init__ D.f_Bar___init__ ["self", "factor", "base", "other"] (sp_barnew A) := by
  skip
  refine T.F_Bar___init__.ok sc_Bar___init__ (fun vs H Q E h => ?_) (fun cdv A' outer s H vs Q E hr h => ?_)
  · obtain ⟨o, dx, pf, pb, po, rfl, _⟩ := h
    rfl
  · obtain ⟨o, dx, pf, pb, po, rfl, ho, q⟩ := h
    refine ⟨_, (pss_cons (ps_fld (pv 0) (pv 1) rfl)
  (pss_cons (ps_fld (pv 0) (pv 2) rfl)
  (pss_one (ps_fld (pv 0) (pv 3) rfl)))), ?_⟩
    have cl := T.k_Bar.cl
    refine ⟨_, rfl, _, rfl, o, A.Bar, dx, _, rfl, ho, cl, T.n_Bar_factor, (by show 0 < 1000; decide), ?_⟩
    refine ⟨_, rfl, _, rfl, o, A.Bar, dx, _, rfl, upd_same, cl, T.n_Bar_base, (by show 1 < 1000; decide), ?_⟩
    refine ⟨_, rfl, _, rfl, o, A.Bar, dx, _, rfl, upd_same, cl, T.n_Bar_other, (by show 2 < 1000; decide), ?_⟩
    show Q .non (upd (upd (upd H o (.ins A.Bar dx [("factor", pf)])) o (.ins A.Bar dx [("factor", pf), ("base", pb)])) o (.ins A.Bar dx [("factor", pf), ("base", pb), ("other", po)]))
    rw [upd_upd, upd_upd]
    exact q
theorem bar_make {H : Hp} {E : XK} {x dx : Addr} {pf pb po : V} {B : BarD} {Q : Hp → Prop} (nx : H x = none) (nd : H dx = none) (h1 : PolyV A.Poly A.Ratio H pf B.s1 B.f) (h2 : PolyV A.Poly A.Ratio H pb B.s2 B.b) (h3 : OPolyV A H po B.o) (q : ∀ G, Same H G → BarV A G (.ref x) B → Q G) : sp_barnew A [.ref x, pf, pb, po] (upd (upd H dx (.own x)) x (.ins A.Bar dx [])) (fun v G => v = .non ∧ Q G) E := by
  refine ⟨x, dx, pf, pb, po, rfl, upd_same, rfl, ?_⟩
  rw [upd_upd]
  have k := same_upd' (o := .ins A.Bar dx [("factor", pf), ("base", pb), ("other", po)]) (same_upd (o := .own x) nd) nx
  exact q _ k ⟨x, dx, pf, pb, po, rfl, upd_same, h1.same k, h2.same k, h3.same k⟩
/-- sizes of a bar: its factor over N, the rest integers -/
structure BarOk (N : Int) (e : Nat) (B : BarD) : Prop where
  N0 : 0 < N
  N1 : N.natAbs < 2 ^ e
  he : e ≤ 200
  cf : ∀ k, Cm N e (B.f k)
  cb : ∀ k, Cm 1 e (B.b k)
  co : ∀ z, B.o = some z → (∀ k, Cm 1 e (z.2 k)) ∧ z.1 ≤ 10
  l1 : B.s1 ≤ 10
  l2 : B.s2 ≤ 10
theorem cm_out {N : Int} {e s : Nat} {f : Nat → Rat} (h : ∀ k, k < s → Cm N e (f k)) (z : ∀ k, s ≤ k → f k = 0) (k : Nat) : Cm N e (f k) := by
  rcases Nat.lt_or_ge k s with c | c
  · exact h k c
  · rw [z k c]; exact .zero
def sp_barprod (A : Ad) : Sp := fun vs H Q _ => ∃ v B N e, vs = [v] ∧ BarV A H v B ∧ BarOk N e B ∧ ∀ H' u s, Same H H' → PolyV A.Poly A.Ratio H' u s (mulF (mulF B.f B.b) B.b) → s ≤ 30 → Q u H'
/-- factor * base * third, for a third Poly of integers -/
theorem bar_mul {N : Int} {e : Nat} {B : BarD} (ok : BarOk N e B) {H : Hp} {pf pb : V} (h1 : PolyV A.Poly A.Ratio H pf B.s1 B.f) (h2 : PolyV A.Poly A.Ratio H pb B.s2 B.b) {E : XK} {Q : VK} (q : ∀ H' u s, Same H H' → PolyV A.Poly A.Ratio H' u s (mulF B.f B.b) → s ≤ 20 → (∀ k, Cm N (e + e + 6) (mulF B.f B.b k)) → Q u H') : sp_pmulN A [pf, pb] H Q E := by
  have he := ok.he
  have l1 := ok.l1
  have l2 := ok.l2
  refine ⟨pf, pb, e, e, e, e, B.s1, B.s2, e, B.f, B.b, N, 1, rfl, h1, h2, ok.cf, ok.N0, ok.N1, ok.cb, by decide, ?_, by omega, Nat.le_refl _, Nat.le_refl _, by omega, by omega, fun H' u s k hu hs => q H' u s k hu (by omega) fun j => ?_⟩
  · have := Nat.one_lt_two_pow (n := e) (by
      intro z
      have n1 := ok.N1
      have := ok.N0
      rw [z] at n1
      omega)
    show 1 < 2 ^ e
    exact this
  · refine cm_out (s := s) (fun j hj => ?_) hu.zero j
    have := Cm.mulF (i := j) ok.cf ok.cb (by omega)
    rw [Int.mul_one] at this
    exact this
theorem bar_mul2 {N : Int} {e s1 s3 : Nat} {f g : Nat → Rat} (N0 : 0 < N) (N1 : N.natAbs < 2 ^ e) (he : e ≤ 200) (cf : ∀ k, Cm N (e + e + 6) (f k)) (cg : ∀ k, Cm 1 e (g k)) (l1 : s1 ≤ 20) (l3 : s3 ≤ 10) {H : Hp} {p u : V} (h1 : PolyV A.Poly A.Ratio H p s1 f) (h2 : PolyV A.Poly A.Ratio H u s3 g) {E : XK} {Q : VK} (q : ∀ H' v s, Same H H' → PolyV A.Poly A.Ratio H' v s (mulF f g) → s ≤ 30 → (∀ k, Cm N (e + e + e + 12) (mulF f g k)) → Q v H') : sp_pmulN A [p, u] H Q E := by
  refine ⟨p, u, e + e + 6, e, e, 1, s1, s3, e + e + 6, f, g, N, 1, rfl, h1, h2, cf, N0, N1, cg, by decide, by decide, by omega, Nat.le_refl _, by omega, by omega, by omega, fun H' v s k hu hs => q H' v s k hu (by omega) fun j => ?_⟩
  refine cm_out (s := s) (fun j hj => ?_) hu.zero j
  have := Cm.mulF (i := j) cf cg (by omega)
  rw [Int.mul_one] at this
  exact this.mono (by omega)
theorem ok_Bar_product (T : Txt K mg A D) : FnOk P w K mg base CX0 11 A.f_Bar_product D.f_Bar_product ["self"] (sp_barprod A) := by
  have G_Poly___mul__ : FnOk P w K mg base CX0 10 A.f_Poly___mul__ D.f_Poly___mul__ ["self", "other"] (sp_pmulN A) := ok_Poly___mul__ T
  refine T.F_Bar_product.ok sc_Bar_product (fun vs H Q E h => ?_) (fun cdv A' outer s H vs Q E hr h => ?_)
  · obtain ⟨v, B, N, e, rfl, _⟩ := h
    rfl
  · obtain ⟨v, B, N, e, rfl, hv, ok, q⟩ := h
    refine ⟨_, (pss_one (ps_ret (pe_op (op_mul_own T.k_Poly.ow T.m_Poly___mul__ T.m_Poly___rmul__ G_Poly___mul__ (hr.mono (by decide)) T.b_Poly___mul__ pass0) (pe_op (op_mul_own T.k_Poly.ow T.m_Poly___mul__ T.m_Poly___rmul__ G_Poly___mul__ (hr.mono (by decide)) T.b_Poly___mul__ pass0) (pe_fld (pv 0) rfl) (pe_fld (pv 0) rfl)) (pe_fld (pv 0) rfl)))), ?_⟩
    have cl := T.k_Bar.cl
    obtain ⟨a, dx, pf, pb, po, rfl, h1, h2, h3, h4⟩ := hv
    refine ⟨_, rfl, a, A.Bar, dx, _, _, rfl, h1, cl, T.n_Bar_factor, rfl, _, rfl, a, A.Bar, dx, _, _, rfl, h1, cl, T.n_Bar_base, rfl, h2.ins, .inr h3.ins, bar_mul ok h2 h3 fun H1 u1 s1 k1 hu1 hs1 cf1 => ?_⟩
    refine ⟨_, rfl, a, A.Bar, dx, _, _, rfl, k1 _ _ h1, cl, T.n_Bar_base, rfl, hu1.ins, .inr (h3.same k1).ins, bar_mul2 ok.N0 ok.N1 ok.he cf1 ok.cb hs1 ok.l2 hu1 (h3.same k1) fun H2 u2 s2 k2 hu2 hs2 cf2 => ?_⟩
    exact q H2 u2 s2 (k1.trans k2) hu2 hs2
end

end Mo

namespace Mo
open PySem PySem.Spec PyProof.Rows L2 MoL MoW
open C8 (pss_cut tCut)
section
variable {P : Program} {w : World} {K : PySem.W.Frag} {mg : Str → Option Value} {base : Heap} {A : Ad} {D : Fd}
theorem fac_cm {lo hi : Option Rat} {N : Int} {e : Nat} (cl : ∀ z, lo = some z → Cm N e z) (ch : ∀ z, hi = some z → Cm N e z) (N1 : N.natAbs < 2 ^ e) : ∀ k i, Cm (N * N) (e + e + 6) (facF lo hi k i) := by
  have g : ∀ {o : Option Rat}, (∀ z, o = some z → Cm N e z) → Cm N e (o.getD 0) := fun {o} h => by
    cases o with
    | none => exact .zero
    | some z => exact h z rfl
  have c1 := cm_int N1
  intro k i
  match k with
  | 0 =>
    have h : Cm (N * N) (e + e) (numF 1 i) := by
      show Cm _ _ (if i = 0 then 1 else 0)
      split
      · exact c1.1.up N1
      · exact .zero
    exact h.mono (by omega)
  | 1 => exact ((lin_cm (g cl).neg c1.1 i).up N1).mono (by omega)
  | 2 => exact ((lin_cm (g ch) c1.2 i).up N1).mono (by omega)
  | k + 3 =>
    rcases Nat.lt_or_ge i 63 with h | h
    · exact Cm.mulF (lin_cm (g cl).neg c1.1) (lin_cm (g ch) c1.2) h
    · show Cm _ _ (mulF _ _ i)
      rw [mulF_lin, if_neg (by omega), if_neg (by omega), if_neg (by omega)]
      exact .zero
end
section
variable {P : Program} {w : World} {K : PySem.W.Frag} {mg : Str → Option Value} {base : Heap} {A : Ad} {D : Fd}
/-! ### a bar is checked -/
/-- the mean of a Poly over the first n numbers -/
def mnF (F : Nat → Rat) (n : Nat) (p : Nat → Rat) : Rat := sumR (fun k => p k * F k) n
def FacIs (lo hi : Option Rat) (f : Nat → Rat) : Prop := ∃ j, j < facN lo hi ∧ ∀ k, f k = facF lo hi j k
def Above (n : Nat) (p : Nat → Rat) : Prop := ∃ k, n ≤ k ∧ p k ≠ 0
inductive ChkR (lo hi : Option Rat) (n : Nat) (F : Nat → Rat) (B : BarD) : Option Str → Prop
  | fac : ¬ FacIs lo hi B.f → ChkR lo hi n F B (some "factor")
  | deg : FacIs lo hi B.f → Above n (mulF (mulF B.f B.b) B.b) → ChkR lo hi n F B (some "degree")
  | mean : FacIs lo hi B.f → ¬ Above n (mulF (mulF B.f B.b) B.b) → B.o = none → 0 ≤ mnF F n (mulF (mulF B.f B.b) B.b) → ChkR lo hi n F B (some "mean")
  | good : FacIs lo hi B.f → ¬ Above n (mulF (mulF B.f B.b) B.b) → B.o = none → mnF F n (mulF (mulF B.f B.b) B.b) < 0 → ChkR lo hi n F B none
  | deg2 {z} : FacIs lo hi B.f → ¬ Above n (mulF (mulF B.f B.b) B.b) → B.o = some z → Above n (mulF (mulF B.f B.b) z.2) → ChkR lo hi n F B (some "degree")
  | mean2 {z} : FacIs lo hi B.f → ¬ Above n (mulF (mulF B.f B.b) B.b) → B.o = some z → ¬ Above n (mulF (mulF B.f B.b) z.2) → mnF F n (mulF (mulF B.f B.b) B.b) ≠ 0 → ChkR lo hi n F B (some "mean")
  | other {z} : FacIs lo hi B.f → ¬ Above n (mulF (mulF B.f B.b) B.b) → B.o = some z → ¬ Above n (mulF (mulF B.f B.b) z.2) → mnF F n (mulF (mulF B.f B.b) B.b) = 0 → mnF F n (mulF (mulF B.f B.b) z.2) = 0 → ChkR lo hi n F B (some "other")
  | good2 {z} : FacIs lo hi B.f → ¬ Above n (mulF (mulF B.f B.b) B.b) → B.o = some z → ¬ Above n (mulF (mulF B.f B.b) z.2) → mnF F n (mulF (mulF B.f B.b) B.b) = 0 → mnF F n (mulF (mulF B.f B.b) z.2) ≠ 0 → ChkR lo hi n F B none
def OutB (A : Ad) (Q : VK) (E : XK) (H : Hp) : Option Str → Prop
  | none => Q .non H
  | some p => ∀ q, H q = none → E (.ref A.NoBar) (some q) (upd H q (.xd [("part", .str p)]))
/-- what a row and a place are to keep -/
structure ChkIn (A : Ad) (H : Hp) (v pl : V) (xs : List V) (F : Nat → Rat) (lo hi : Option Rat) (M : Int) (e1 : Nat) (N0 : Int) (e0 : Nat) : Prop where
  row : SeqAt H v xs
  nums : NumsV A.Ratio H xs F
  l0 : 0 < xs.length
  l1 : xs.length ≤ 13
  cm : ∀ k, k < xs.length → Cm M e1 (F k)
  M0 : 0 < M
  M1 : M.natAbs < 2 ^ e1
  he1 : e1 ≤ 1800
  pl : PlaceV A H pl lo hi
  ok : OkEnds lo hi
  clo : ∀ z, lo = some z → Cm N0 e0 z
  chi : ∀ z, hi = some z → Cm N0 e0 z
  p0 : 0 < N0
  p1 : N0.natAbs < 2 ^ e0
  he0 : e0 ≤ 400
theorem ChkIn.same {H H' : Hp} {v pl : V} {xs : List V} {F : Nat → Rat} {lo hi : Option Rat} {M : Int} {e1 : Nat} {N0 : Int} {e0 : Nat} (h : ChkIn A H v pl xs F lo hi M e1 N0 e0) (k : Same H H') : ChkIn A H' v pl xs F lo hi M e1 N0 e0 := { h with row := h.row.same k, nums := h.nums.same k, pl := h.pl.same k }
def sp_check (K : PySem.W.Frag) (A : Ad) : Sp := fun vs H Q E => ∃ v pl br xs F lo hi M e1 N0 e0 N e B, vs = [v, pl, br] ∧ ChkIn A H v pl xs F lo hi M e1 N0 e0 ∧ BarV A H br B ∧ BarOk N e B ∧ ∀ H' r, Same H H' → ChkR lo hi xs.length F B r → OutB A Q E H' r
theorem above_iff {s n : Nat} {f : Nat → Rat} (z : ∀ k, s ≤ k → f k = 0) (l : 0 < s → f (s - 1) ≠ 0) : Above n f ↔ n < s := by
  constructor
  · rintro ⟨k, h1, h2⟩
    rcases Nat.lt_or_ge n s with c | c
    · exact c
    · exact absurd (z k (by omega)) h2
  · intro h
    exact ⟨s - 1, by omega, l (by omega)⟩
/-- the mean that the program tells -/
theorem mean_is {s n : Nat} {f F : Nat → Rat} (z : ∀ k, s ≤ k → f k = 0) (h : s ≤ n) : sumR (fun k => f k * F k) s = mnF F n f := by
  obtain ⟨d, rfl⟩ : ∃ d, n = s + d := ⟨n - s, by omega⟩
  exact (sumR_more d fun k h1 _ => by rw [z k h1, Rat.zero_mul]).symm
theorem mn_bd {F p : Nat → Rat} {n : Nat} {M N : Int} {e d : Nat} (hF : ∀ k, k < n → Cm M e (F k)) (hp : ∀ k, Cm N d (p k)) (hn : n ≤ 13) (M0 : 0 < M) (N0 : 0 < N) (M1 : M.natAbs < 2 ^ e) (N1 : N.natAbs < 2 ^ d) (h : e + d + 4 ≤ 3900) : Bd 3900 3900 (mnF F n p) := by
  obtain ⟨t, h1, h2⟩ := Cm.sum (f := fun k => p k * F k) (N := N * M) (e := d + e) n fun k hk => (hp k).mul (hF k hk)
  have h3 : Cm (N * M) (d + e + 4) (mnF F n p) := by
    refine ⟨t, h1, ?_⟩
    have : n * 2 ^ (d + e) ≤ 13 * 2 ^ (d + e) := Nat.mul_le_mul_right _ hn
    have := Nat.two_pow_pos (d + e)
    have e4 : 2 ^ (d + e + 4) = 2 ^ (d + e) * 16 := Nat.pow_add 2 (d + e) 4
    omega
  have := Int.mul_pos N0 M0
  exact (h3.bd (by omega) (nmul N1 M1)).mono (by omega) (by omega)
theorem ok_check_bar (T : Txt K mg A D) : FnOk P w K mg base (L2.CX P w) 12 A.f_check_bar D.f_check_bar ["row", "place", "bar"] (sp_check K A) := by
  have G_Bar_product : FnOk P w K mg base CX0 11 A.f_Bar_product D.f_Bar_product ["self"] (sp_barprod A) := ok_Bar_product T
  have G_NoBar___init__ : FnOk P w K mg base CX0 1 A.f_NoBar___init__ D.f_NoBar___init__ ["self", "part"] (sp_keep K "part") := ok_NoBar___init__ T
  have G_Place_all_factors : FnOk P w K mg base CX0 11 A.f_Place_all_factors D.f_Place_all_factors ["self"] (sp_allf A) := ok_Place_all_factors T
  have G_Poly___eq__ : FnOk P w K mg base CX0 5 A.f_Poly___eq__ D.f_Poly___eq__ ["self", "other"] (sp_peqB A) := ok_Poly___eq__ T
  have G_Poly___mul__ : FnOk P w K mg base CX0 10 A.f_Poly___mul__ D.f_Poly___mul__ ["self", "other"] (sp_pmulN A) := ok_Poly___mul__ T
  have G_Ratio___eq__ : FnOk P w K mg base CX0 3 A.f_Ratio___eq__ D.f_Ratio___eq__ ["self", "other"] (sp_cmp A.Ratio r_eq) := ok_Ratio___eq__ T
  have G_Ratio___ge__ : FnOk P w K mg base CX0 3 A.f_Ratio___ge__ D.f_Ratio___ge__ ["self", "other"] (sp_cmp A.Ratio r_ge) := ok_Ratio___ge__ T
  have G_Ratio___ne__ : FnOk P w K mg base CX0 4 A.f_Ratio___ne__ D.f_Ratio___ne__ ["self", "other"] (sp_cmp A.Ratio r_ne) := ok_Ratio___ne__ T
  have G_mean : FnOk P w K mg base CX0 8 A.f_mean D.f_mean ["row", "p"] (sp_mean A) := ok_mean T
  have G_row_numbers : FnOk P w K mg base CX0 6 A.f_row_numbers D.f_row_numbers ["row"] (sp_rown A.Ratio) := ok_row_numbers T
  refine T.F_check_bar.okX sc_check_bar (fun vs H Q E h => ?_) (fun cdv A' outer s H vs Q E hr h => ?_)
  · obtain ⟨v, pl, br, xs, F, lo, hi, M, e1, N0, e0, N, e, B, rfl, _⟩ := h
    rfl
  · obtain ⟨v, pl, br, xs, F, lo, hi, M, e1, N0, e0, N, e, B, rfl, ci, hb, ok, q⟩ := h
    refine ⟨_, (pss_cons (ps_set (i := 3) sc_check_bar.nd rfl (.inl rfl) (pe_call G_row_numbers (hr.mono (by decide)) rfl T.g_row_numbers T.F_row_numbers.kp T.b_row_numbers .nil pass0 (pa_cons (pv 0) pa_nil)))
  (pss_cons (ps_if (pt_not (pt_val (pe_callB (cr_any rfl) rfl T.z_any (by decide +kernel) (pa_cons (pe_lc (own := [("u", 4)]) (g := gName 4) (tt := tYes) rfl sc_check_bar.nd (pi_list (pe_meth0 (pv 1) T.k_Place.cl T.m_Place_all_factors G_Place_all_factors (hr.mono (by decide)) T.b_Place_all_factors .nil pass0)) (blkOk_by (N := N_check_bar) (sc := defScope s_check_bar) (by decide +kernel)) (fun _ _ _ _ _ => (pg_name (i := 4) sc_check_bar.nd rfl (.inl rfl))) (fun _ _ _ _ _ => pts_nil) (fun _ _ _ _ _ => (pe_cmpR (op_eq_own T.k_Poly.ow T.m_Poly___eq__ G_Poly___eq__ (hr.mono (by decide)) T.b_Poly___eq__ pass0) (pe_fldK (K := K) rfl (pv 2) rfl) (pv 4) (nomark _)))) pa_nil)))) (pss_one (ps_raise rfl (takes_of rfl rfl rfl rfl) (pmk_oex T.o_NoBar T.i_NoBar T.ti_NoBar G_NoBar___init__ (hr.mono (by decide)) T.b_NoBar___init__ .nil pass0 rfl T.g_NoBar (by exact (pa_cons pe_str pa_nil))))) pss_nil)
  (pss_cons (ps_set (i := 5) sc_check_bar.nd rfl (.inl rfl) (pe_meth0 (pv 2) T.k_Bar.cl T.m_Bar_product G_Bar_product (hr.mono (by decide)) T.b_Bar_product .nil pass0))
  (pss_cons (ps_if (pt_cmpR op_ge (pe_fld (pv 5) rfl) (pe_callB call_len_seq rfl T.z_len (by decide +kernel) (pa_cons (pv 3) pa_nil)) (nomark _)) (pss_one (ps_raise rfl (takes_of rfl rfl rfl rfl) (pmk_oex T.o_NoBar T.i_NoBar T.ti_NoBar G_NoBar___init__ (hr.mono (by decide)) T.b_NoBar___init__ .nil pass0 rfl T.g_NoBar (by exact (pa_cons pe_str pa_nil))))) pss_nil)
  (pss_cons (ps_if (pt_cmpR op_isN (pe_fld (pv 2) rfl) pe_non (nomark _)) (pss_cons (ps_if (pt_cmpR (op_ge_own T.k_Ratio.ow T.m_Ratio___ge__ G_Ratio___ge__ (hr.mono (by decide)) T.b_Ratio___ge__ pass0) (pe_call G_mean (hr.mono (by decide)) rfl T.g_mean T.F_mean.kp T.b_mean .nil pass0 (pa_cons (pv 3) (pa_cons (pv 5) pa_nil))) pe_int (nomark _)) (pss_one (ps_raise rfl (takes_of rfl rfl rfl rfl) (pmk_oex T.o_NoBar T.i_NoBar T.ti_NoBar G_NoBar___init__ (hr.mono (by decide)) T.b_NoBar___init__ .nil pass0 rfl T.g_NoBar (by exact (pa_cons pe_str pa_nil))))) pss_nil)
  (pss_one ps_retN)) pss_nil)
  (pss_cons (ps_set (i := 6) sc_check_bar.nd rfl (.inl rfl) (pe_op (op_mul_own T.k_Poly.ow T.m_Poly___mul__ T.m_Poly___rmul__ G_Poly___mul__ (hr.mono (by decide)) T.b_Poly___mul__ pass0) (pe_op (op_mul_own T.k_Poly.ow T.m_Poly___mul__ T.m_Poly___rmul__ G_Poly___mul__ (hr.mono (by decide)) T.b_Poly___mul__ pass0) (pe_fld (pv 2) rfl) (pe_fld (pv 2) rfl)) (pe_fld (pv 2) rfl)))
  (pss_cons (ps_if (pt_cmpR op_ge (pe_fld (pv 6) rfl) (pe_callB call_len_seq rfl T.z_len (by decide +kernel) (pa_cons (pv 3) pa_nil)) (nomark _)) (pss_one (ps_raise rfl (takes_of rfl rfl rfl rfl) (pmk_oex T.o_NoBar T.i_NoBar T.ti_NoBar G_NoBar___init__ (hr.mono (by decide)) T.b_NoBar___init__ .nil pass0 rfl T.g_NoBar (by exact (pa_cons pe_str pa_nil))))) pss_nil)
  (pss_cons (ps_if (pt_cmpR (op_ne_own T.k_Ratio.ow T.m_Ratio___ne__ G_Ratio___ne__ (hr.mono (by decide)) T.b_Ratio___ne__ pass0) (pe_call G_mean (hr.mono (by decide)) rfl T.g_mean T.F_mean.kp T.b_mean .nil pass0 (pa_cons (pv 3) (pa_cons (pv 5) pa_nil))) pe_int (nomark _)) (pss_one (ps_raise rfl (takes_of rfl rfl rfl rfl) (pmk_oex T.o_NoBar T.i_NoBar T.ti_NoBar G_NoBar___init__ (hr.mono (by decide)) T.b_NoBar___init__ .nil pass0 rfl T.g_NoBar (by exact (pa_cons pe_str pa_nil))))) pss_nil)
  (pss_one (ps_if (pt_cmpR (op_eq_own T.k_Ratio.ow T.m_Ratio___eq__ G_Ratio___eq__ (hr.mono (by decide)) T.b_Ratio___eq__ pass0) (pe_call G_mean (hr.mono (by decide)) rfl T.g_mean T.F_mean.kp T.b_mean .nil pass0 (pa_cons (pv 3) (pa_cons (pv 6) pa_nil))) pe_int (nomark _)) (pss_one (ps_raise rfl (takes_of rfl rfl rfl rfl) (pmk_oex T.o_NoBar T.i_NoBar T.ti_NoBar G_NoBar___init__ (hr.mono (by decide)) T.b_NoBar___init__ .nil pass0 rfl T.g_NoBar (by exact (pa_cons pe_str pa_nil))))) pss_nil)))))))))), ?_⟩
    have cl := T.k_Bar.cl
    have he1 := ci.he1
    have he0 := ci.he0
    have he := ok.he
    refine ⟨_, rfl, v, xs, F, rfl, ci.row, ci.nums, ci.l0, ci.l1, fun H1 d1 ys k1 nd1 hd1 ly r1 => ?_⟩
    have ci1 := ci.same k1
    have hb1 := hb.same k1
    obtain ⟨a, dx, pf, pb, po, rfl, h1, h2, h3, h4⟩ := id hb1
    -- is it a factor of the place?
    obtain ⟨qa, qdx, ql, qu, rfl, hqa, _, _⟩ := id ci1.pl
    refine ⟨_, rfl, qa, _, _, rfl, hqa, rfl, _, lo, hi, N0, e0, rfl, ci1.pl, ci.ok, ci.clo, ci.chi, ci.p0, ci.p1, by omega, fun H2 d2 zs k2 nd2 hd2 fa => ⟨d2, rfl, ⟨_, .of hd2⟩, fun d nd => ?_⟩⟩
    refine lc_list (K := K) (a := d2) (xs := zs) (fun i G => Same H2 G ∧ ∃ rs : List Bool, G d = some (.lst (rs.map V.bl)) ∧ rs.length = i ∧ ∀ j, j < i → (rs.getD j false = true ↔ ∀ k, B.f k = facF lo hi j k)) ⟨same_upd nd, [], upd_same, rfl, fun j h => absurd h (Nat.not_lt_zero _)⟩ (fun i G _ p => .of (p.1 _ _ hd2)) ?_ ?_
    · rintro i x G hx ⟨sm, rs, hd, lr, hr⟩
      have il := get_lt hx
      have s2 := k2.trans sm
      have hx2 := (fa.at_ i x hx).same sm
      refine ⟨rfl, _, rfl, a, A.Bar, dx, _, _, rfl, s2 _ _ h1, cl, T.n_Bar_factor, rfl, _, rfl, (h2.same s2).ins, .inr hx2.ins, pf, x, _, _, B.f, facF lo hi i, rfl, h2.same s2, hx2, fun k => ((ok.cf k).bd (by have := ok.N0; omega) ok.N1).mono (by omega) (by omega), fun k => ((fac_cm ci.clo ci.chi ci.p1 i k).bd (by have := Int.mul_pos ci.p0 ci.p0; omega) (nmul ci.p1 ci.p1)).mono (by omega) (by omega), fun G2 r k3 er => ?_⟩
      refine ⟨_, k3 _ _ hd, by rw [List.length_map]; have := fa.len; unfold facN at this; exact small1000 (by split at this <;> (try split at this) <;> omega), same_push (sm.trans k3) nd, rs ++ [r], by rw [upd_same, List.map_append]; rfl, by rw [List.length_append, lr]; rfl, fun j hj => ?_⟩
      rcases (by omega : j < i ∨ j = i) with c | c
      · rw [← hr j c, List.getD_eq_getElem?_getD, List.getElem?_append_left (by omega), ← List.getD_eq_getElem?_getD]
      · subst c
        rw [← er, List.getD_eq_getElem?_getD, List.getElem?_append_right (by omega), lr, Nat.sub_self]
        rfl
    rintro G ⟨sm, rs, hd, lr, hr⟩
    rw [fa.len] at lr
    have lz := fa.len
    rw [lz] at hr
    have k3 := (k1.trans k2).trans sm
    have k13 := k2.trans sm
    have any : (rs.any id = true) ↔ FacIs lo hi B.f := by
      rw [List.any_eq_true]
      constructor
      · rintro ⟨b, hb, e⟩
        obtain ⟨j, hj⟩ := List.getElem?_of_mem hb
        have jl := get_lt hj
        refine ⟨j, by omega, (hr j (by omega)).mp ?_⟩
        rw [List.getD_eq_getElem?_getD, hj]
        exact e
      · rintro ⟨j, jl, e⟩
        have hj := (hr j jl).mpr e
        rw [List.getD_eq_getElem?_getD, List.getElem?_eq_getElem (by omega)] at hj
        exact ⟨_, List.getElem_mem (by omega), hj⟩
    refine ⟨d, _, rfl, .of hd, ?_⟩
    by_cases fi : FacIs lo hi B.f
    rotate_left
    · refine ⟨rs.any id, rfl, ?_⟩
      rw [show rs.any id = false from Bool.eq_false_iff.mpr fun z => fi (any.mp z)]
      exact iteT (mk_keep (v := .str "factor") T.o_NoBar T.n_NoBar_part fun p np => q G (some "factor") k3 (.fac fi) p np)
    refine ⟨rs.any id, rfl, ?_⟩
    rw [any.mpr fi]
    refine iteF ?_
    clear any hr hd hd2 fa lz lr rs
    have hb3 := hb.same k3
    have hd1 := k13 _ _ hd1
    have r1 := r1.same k13
    replace h1 := k13 _ _ h1
    replace h2 := h2.same k13
    replace h3 := h3.same k13
    replace h4 := h4.same k13
    have ci3 := ci.same k3
    clear hb1 ci1
    -- its product
    refine ⟨_, rfl, a, _, _, rfl, h1, rfl, _, B, N, e, rfl, hb3, ok, fun H4 u4 s4 k4 hu4 hs4 => ?_⟩
    have sqc : ∀ k, Cm N (e + e + e + 12) (mulF (mulF B.f B.b) B.b k) := by
      have l1 := ok.l1
      have l2 := ok.l2
      have c1 : ∀ k, Cm N (e + e + 6) (mulF B.f B.b k) := cm_out (s := 20) (fun j hj => by
        have := Cm.mulF (i := j) ok.cf ok.cb (by omega)
        rw [Int.mul_one] at this
        exact this) fun k hk => mulF_out h2.zero h3.zero (by omega)
      refine cm_out (s := s4) (fun j hj => ?_) hu4.zero
      have := Cm.mulF (i := j) c1 ok.cb (by omega)
      rw [Int.mul_one] at this
      exact this.mono (by omega)
    have ab := above_iff (n := xs.length) hu4.zero hu4.3
    obtain ⟨⟨pa, pd, tp, ws, l, rfl, g1, g2, g3, g4, g5⟩, gz, gl⟩ := id hu4
    have hd4 := k4 _ _ hd1
    refine ⟨_, rfl, pa, A.Poly, pd, _, _, rfl, g1, T.k_Poly.cl, T.n_Poly_degree, rfl, _, rfl, d1, ys, rfl, .inl (.of hd4), _, _, rfl, rfl, _, rfl, ite2 (fun c => ?_) (fun c => ?_)⟩
    · have c := of_decide_eq_true c
      exact mk_keep (v := .str "degree") T.o_NoBar T.n_NoBar_part fun p np => q H4 (some "degree") (k3.trans k4) (.deg fi (ab.mpr (by omega))) p np
    have c : ¬ xs.length < s4 := fun z => c (decide_eq_true (by omega))
    have nab : ¬ Above xs.length (mulF (mulF B.f B.b) B.b) := fun z => c (ab.mp z)
    have mean : ∀ {H5 : Hp} {E5 : XK} {Q5 : VK} {u : V} {s : Nat} {g : Nat → Rat}, Same G H5 → PolyV A.Poly A.Ratio H5 u s g → s ≤ xs.length → (∀ k, Cm N (e + e + e + 12) (g k)) → (∀ H' y, Same H5 H' → RatV A.Ratio H' y (mnF F xs.length g) → Bd 3900 3900 (mnF F xs.length g) → Q5 y H') → sp_mean A [.ref d1, u] H5 Q5 E5 := fun {H5 E5 Q5 u s g} k5 hu hs hc q5 => by
      refine ⟨.ref d1, u, ys, s, F, g, M, N, e1, e1, e + e + e + 12, e, rfl, ⟨d1, rfl, .inl (k5 _ _ hd1)⟩, (r1.same k5).nums, by rw [ly]; exact ci.l0, by rw [ly]; exact ci.l1, hu, by omega, fun k hk => ci.cm k (by omega), ci.M0, ci.M1, hc, ok.N0, ok.N1, by omega, by omega, by omega, by omega, fun H' y k6 r6 => ?_⟩
      rw [mean_is hu.zero hs] at r6
      exact q5 H' y k6 r6 (mn_bd ci.cm hc ci.l1 ci.M0 ok.N0 ci.M1 (nle ok.N1 (show e ≤ e + e + e + 12 by omega)) (by omega))
    have h14 := k4 _ _ h1
    refine ⟨_, rfl, a, A.Bar, dx, _, _, rfl, h14, cl, T.n_Bar_other, rfl, ?_⟩
    cases eo : B.o with
    | none =>
      rw [eo] at h4
      cases h4
      refine ⟨rfl, _, rfl, iteTe (decide_eq_true rfl) ?_⟩
      refine ⟨_, rfl, _, rfl, mean (E5 := E) k4 hu4 (by omega) sqc fun H5 y5 k5 r5 b5 => ?_⟩
      refine ⟨r5.ins, .inl ⟨_, rfl⟩, _, _, _, ((0 : Int) : Rat), rfl, r5, .inl ⟨_, rfl, rfl⟩, b5, .int (nle (show (0 : Int).natAbs < 2 ^ 1 by decide) (by decide)) (by decide), ?_⟩
      have k45 := (k3.trans k4).trans k5
      by_cases c0 : 0 ≤ mnF F xs.length (mulF (mulF B.f B.b) B.b)
      · refine ⟨true, congrArg V.bl (decide_eq_true (by rw [Rat.intCast_zero]; exact c0)), iteT (mk_keep (v := .str "mean") T.o_NoBar T.n_NoBar_part fun p np => q H5 (some "mean") k45 (.mean fi nab eo c0) p np)⟩
      · exact ⟨false, congrArg V.bl (decide_eq_false (by rw [Rat.intCast_zero]; exact c0)), iteF (q H5 none k45 (.good fi nab eo (Rat.not_le.mp c0)))⟩
    | some z =>
      rw [eo] at h4
      obtain ⟨b, dz, fz, rfl, hz⟩ := (show PolyV A.Poly A.Ratio G po z.1 z.2 from h4).ins
      refine ⟨rfl, _, rfl, iteFe is_ref ?_⟩
      have h4 : PolyV A.Poly A.Ratio G (.ref b) z.1 z.2 := h4
      obtain ⟨co, lo3⟩ := ok.co z eo
      -- the mixed one
      refine ⟨_, rfl, a, A.Bar, dx, _, _, rfl, h14, cl, T.n_Bar_factor, rfl, _, rfl, a, A.Bar, dx, _, _, rfl, h14, cl, T.n_Bar_base, rfl, (h2.same k4).ins, .inr (h3.same k4).ins, bar_mul ok (h2.same k4) (h3.same k4) fun H5 u5 s5 k5 hu5 hs5 cf5 => ?_⟩
      have k45 := k4.trans k5
      refine ⟨_, rfl, a, A.Bar, dx, _, _, rfl, k5 _ _ h14, cl, T.n_Bar_other, rfl, hu5.ins, .inr (h4.same k45).ins, bar_mul2 ok.N0 ok.N1 ok.he cf5 co hs5 lo3 hu5 (h4.same k45) fun H6 u6 s6 k6 hu6 hs6 cf6 => ?_⟩
      have k46 := k45.trans k6
      have ab2 := above_iff (n := xs.length) hu6.zero hu6.3
      obtain ⟨⟨pa6, pd6, tp6, ws6, l6, rfl, g16, g26, g36, g46, g56⟩, gz6, gl6⟩ := id hu6
      refine ⟨_, rfl, pa6, A.Poly, pd6, _, _, rfl, g16, T.k_Poly.cl, T.n_Poly_degree, rfl, _, rfl, d1, ys, rfl, .inl (.of (k46 _ _ hd1)), _, _, rfl, rfl, _, rfl, ite2 (fun c2 => ?_) (fun c2 => ?_)⟩
      · have c2 := of_decide_eq_true c2
        exact mk_keep (v := .str "degree") T.o_NoBar T.n_NoBar_part fun p np => q H6 (some "degree") (k3.trans k46) (.deg2 fi nab eo (ab2.mpr (by omega))) p np
      have c2 : ¬ xs.length < s6 := fun z => c2 (decide_eq_true (by omega))
      have nab2 : ¬ Above xs.length (mulF (mulF B.f B.b) z.2) := fun z => c2 (ab2.mp z)
      have hu46 := hu4.same (k5.trans k6)
      refine ⟨_, rfl, _, rfl, mean (E5 := E) k46 hu46 (by omega) sqc fun H7 y7 k7 r7 b7 => ?_⟩
      refine ⟨r7.ins, .inl ⟨_, rfl⟩, _, _, _, ((0 : Int) : Rat), rfl, r7, .inl ⟨_, rfl, rfl⟩, b7, .int (nle (show (0 : Int).natAbs < 2 ^ 1 by decide) (by decide)) (by decide), ?_⟩
      by_cases c0 : mnF F xs.length (mulF (mulF B.f B.b) B.b) = 0
      rotate_left
      · refine ⟨true, ?_, iteT (mk_keep (v := .str "mean") T.o_NoBar T.n_NoBar_part fun p np => q H7 (some "mean") ((k3.trans k46).trans k7) (.mean2 fi nab eo nab2 c0) p np)⟩
        show V.bl (!decide _) = _
        rw [decide_eq_false (by rw [Rat.intCast_zero]; exact c0)]
        rfl
      refine ⟨false, ?_, iteF ?_⟩
      · show V.bl (!decide _) = _
        rw [decide_eq_true (by rw [Rat.intCast_zero]; exact c0)]
        rfl
      refine ⟨_, rfl, _, rfl, mean (E5 := E) (k46.trans k7) (hu6.same k7) (by omega) cf6 fun H8 y8 k8 r8 b8 => ?_⟩
      refine ⟨r8.ins, .inl ⟨_, rfl⟩, _, _, _, ((0 : Int) : Rat), rfl, r8, .inl ⟨_, rfl, rfl⟩, b8, .int (nle (show (0 : Int).natAbs < 2 ^ 1 by decide) (by decide)) (by decide), ?_⟩
      have k58 := ((k3.trans k46).trans k7).trans k8
      by_cases c1 : mnF F xs.length (mulF (mulF B.f B.b) z.2) = 0
      · exact ⟨true, congrArg V.bl (decide_eq_true (by rw [Rat.intCast_zero]; exact c1)), iteT (mk_keep (v := .str "other") T.o_NoBar T.n_NoBar_part fun p np => q H8 (some "other") k58 (.other fi nab eo nab2 c0 c1) p np)⟩
      · exact ⟨false, congrArg V.bl (decide_eq_false (by rw [Rat.intCast_zero]; exact c1)), iteF (q H8 none k58 (.good2 fi nab eo nab2 c0 c1))⟩
end

end Mo

namespace Mo
open PySem PySem.Spec PyProof.Rows L2 MoL MoW
open C8 (pss_cut tCut)
section
variable {P : Program} {w : World} {K : PySem.W.Frag} {mg : Str → Option Value} {base : Heap} {A : Ad} {D : Fd}
/-- pairs with bottoms above 0, tops below 2 ^ a, bottoms below 2 ^ b -/
structure FOk (F : Nat → Int × Int) (n a b : Nat) : Prop where
  pos : ∀ k, k < n → 0 < (F k).2
  top : ∀ k, k < n → (F k).1.natAbs < 2 ^ a
  bot : ∀ k, k < n → (F k).2.natAbs < 2 ^ b
/-- their values, 0 behind them -/
def cof (F : Nat → Int × Int) (n : Nat) : Nat → Rat := fun k => if k < n then qv (F k) else 0
theorem cof_in {F : Nat → Int × Int} {n k : Nat} (h : k < n) : cof F n k = qv (F k) := if_pos h
theorem cof_out {F : Nat → Int × Int} {n k : Nat} (h : n ≤ k) : cof F n k = 0 := if_neg (by omega)
theorem FOk.mono {F : Nat → Int × Int} {n a b a' b' : Nat} (h : FOk F n a b) (h1 : a ≤ a') (h2 : b ≤ b') : FOk F n a' b' := ⟨h.pos, fun k hk => lt_le (h.top k hk) h1, fun k hk => lt_le (h.bot k hk) h2⟩
theorem FOk.bd {F : Nat → Int × Int} {n a b : Nat} (h : FOk F n a b) (hb : 0 < b) (k : Nat) : Bd a b (cof F n k) := by
  show Bd a b (if k < n then qv (F k) else 0)
  split
  · rename_i hk
    exact .div (by have := h.pos k hk; omega) (h.top k hk) (h.bot k hk)
  · exact .zero hb
theorem FOk.sm {F : Nat → Int × Int} {n a b k : Nat} (h : FOk F n a b) (hk : k < n) (ha : a ≤ 4000) (hb : b ≤ 4000) : Sm (F k).1 ∧ Sm (F k).2 := ⟨sm_of (h.top k hk) ha, sm_of (h.bot k hk) hb⟩
end
section
variable {P : Program} {w : World} {K : PySem.W.Frag} {mg : Str → Option Value} {base : Heap} {A : Ad} {D : Fd}
theorem sum_lt {xs : List Int} {e : Nat} (h : ∀ x ∈ xs, x.natAbs < 2 ^ e) : xs.sum.natAbs ≤ xs.length * 2 ^ e := by
  induction xs with
  | nil => simp
  | cons x xs ih =>
    rw [List.sum_cons, List.length_cons, Nat.add_mul]
    have h1 := h x (List.mem_cons_self ..)
    have h2 := ih fun y hy => h y (List.mem_cons_of_mem _ hy)
    have h3 := Int.natAbs_add_le x xs.sum
    omega
theorem sum_getD_lt {xs : List Int} {e : Nat} (h : ∀ k, k < xs.length → (xs.getD k 0).natAbs < 2 ^ e) (hl : xs.length ≤ 8) : xs.sum.natAbs < 2 ^ (e + 4) := by
  have h1 := sum_lt (xs := xs) (e := e) fun x hx => by
    obtain ⟨k, hk, e1⟩ := List.getElem_of_mem hx
    have := h k hk
    rw [List.getD_eq_getElem?_getD, List.getElem?_eq_getElem hk] at this
    rw [← e1]
    exact this
  have h2 : xs.length * 2 ^ e ≤ 8 * 2 ^ e := Nat.mul_le_mul_right _ hl
  have h3 : 2 ^ (e + 4) = 16 * 2 ^ e := by rw [Nat.pow_add]; omega
  have := Nat.two_pow_pos e
  omega
theorem powl_getD {ts ps : List Int} (hl : ts.length = ps.length) {k j : Nat} (hj : j < ts.length) : (powl ts ps k).getD j 0 = ps.getD j 0 * ts.getD j 0 ^ k := by
  rw [List.getD_eq_getElem?_getD, powl_get hl hj]
  rfl
theorem powl_lt {ts ps : List Int} {e g k : Nat} (hl : ts.length = ps.length) (h8 : ts.length ≤ 8) (ht : ∀ k, (ts.getD k 0).natAbs < 2 ^ e) (hp : ∀ k, (ps.getD k 0).natAbs < 2 ^ g) : (powl ts ps k).sum.natAbs < 2 ^ (g + (e * k + 1) + 4) :=
  sum_getD_lt (fun j hj => by
    rw [powl_len hl] at hj
    rw [powl_getD hl hj]
    exact nmul (hp j) (npow (ht j) k)) (by rw [powl_len hl]; exact h8)
end
section
variable {P : Program} {w : World} {K : PySem.W.Frag} {mg : Str → Option Value} {base : Heap} {A : Ad} {D : Fd}
/-! ### sizes of a scene's row -/
theorem SceneOk.tl {m : Nat} {S : Scene} (ok : SceneOk m S) (k : Nat) : (S.tops.getD k 0).natAbs < 2 ^ 22 := by
  rcases Nat.lt_or_ge k S.tops.length with h | h
  · have hm : S.tops.getD k 0 ∈ S.tops := by
      rw [List.getD_eq_getElem?_getD, List.getElem?_eq_getElem h]
      exact List.getElem_mem h
    have := ok.lo _ hm
    have := ok.tb _ hm
    have := ok.l0
    omega
  · rw [getD_out h]
    decide
theorem SceneOk.pl {m : Nat} {S : Scene} (ok : SceneOk m S) (k : Nat) : (S.parts.getD k 0).natAbs < 2 ^ 20 := by
  rcases Nat.lt_or_ge k S.parts.length with h | h
  · have hm : S.parts.getD k 0 ∈ S.parts := by
      rw [List.getD_eq_getElem?_getD, List.getElem?_eq_getElem h]
      exact List.getElem_mem h
    have := ok.p0 _ hm
    have := ok.p1 _ hm
    omega
  · rw [getD_out h]
    decide
theorem sc_bot {m : Nat} {S : Scene} (ok : SceneOk m S) (k : Nat) : 0 < S.under * S.bottom ^ k ∧ (S.under * S.bottom ^ k).natAbs < 2 ^ (6 + 10 * k) := by
  have u0 := ok.u0
  have u1 := ok.u1
  have b0 := ok.b0
  have b1 := ok.b1
  refine ⟨Int.mul_pos (by omega) (Int.pow_pos (by omega)), ?_⟩
  rw [Int.natAbs_mul, Int.natAbs_pow, Nat.pow_add, Nat.pow_mul]
  have h1 : S.bottom.natAbs ^ k ≤ (2 ^ 10) ^ k := Nat.pow_le_pow_left (by omega) k
  have h2 : S.under.natAbs < 2 ^ 6 := by omega
  exact Nat.lt_of_le_of_lt (Nat.mul_le_mul_left _ h1) (Nat.mul_lt_mul_of_pos_right h2 (Nat.pow_pos (by decide)))
theorem sc_WN {m : Nat} {S : Scene} (ok : SceneOk m S) : ∀ n, 0 < WN (rowT S.tops S.parts S.under S.bottom) 0 n ∧ (WN (rowT S.tops S.parts S.under S.bottom) 0 n).natAbs ≤ 2 ^ (6 * n + 5 * (n * (n - 1)))
  | 0 => ⟨Int.one_pos, Nat.le_refl 1⟩
  | n + 1 => by
    obtain ⟨h0, h1⟩ := sc_WN ok n
    obtain ⟨g0, g1⟩ := sc_bot ok n
    have e : WN (rowT S.tops S.parts S.under S.bottom) 0 (n + 1) = WN (rowT S.tops S.parts S.under S.bottom) 0 n * (S.under * S.bottom ^ n) := by
      show WN _ 0 n * (rowT S.tops S.parts S.under S.bottom (0 + n)).2 = _
      rw [Nat.zero_add]
      rfl
    rw [e]
    refine ⟨Int.mul_pos h0 g0, ?_⟩
    rw [Int.natAbs_mul]
    have h2 := Nat.mul_le_mul h1 (Nat.le_of_lt g1)
    rw [← Nat.pow_add] at h2
    refine Nat.le_trans h2 (Nat.pow_le_pow_right (by decide) (Nat.le_of_eq ?_))
    rw [Nat.add_sub_cancel]
    cases n with
    | zero => rfl
    | succ n =>
      rw [Nat.add_sub_cancel]
      grind
/-- the row of a scene -/
abbrev scF (S : Scene) : Nat → Int × Int := rowT S.tops S.parts S.under S.bottom
theorem sc_row {m n : Nat} {S : Scene} (ok : SceneOk m S) (hm : m ≤ 8) : RowOk (scF S) n (25 + 22 * n) (6 * n + 5 * (n * (n - 1)) + 1) where
  pos k _ := (sc_bot ok k).1
  top k hk := by
    have := powl_lt (k := k) ok.len.symm (Nat.le_trans ok.lm hm) ok.tl ok.pl
    exact lt_le this (by omega)
  bot k hk := lt_le (sc_bot ok k).2 (by omega)
  all := Nat.lt_of_le_of_lt (sc_WN ok n).2 (Nat.pow_lt_pow_right (by decide) (by omega))
/-! ### a row of pairs, over its smallest common bottom -/
theorem dvd_lcmF {F : Nat → Int × Int} : ∀ {n k : Nat}, k < n → (F k).2.toNat ∣ lcmF F n
  | n + 1, k, h => by
    rcases (by omega : k < n ∨ k = n) with c | c
    · exact Nat.dvd_trans (dvd_lcmF c) (Nat.dvd_lcm_left _ _)
    · subst c
      exact Nat.dvd_lcm_right _ _
theorem whL_len {F : Nat → Int × Int} {n : Nat} : (whL F n).length = n := by unfold whL; rw [List.length_map, List.length_range]
theorem whF_val {F : Nat → Int × Int} {n k : Nat} (h : 0 < (F k).2) (hk : k < n) : ((whF F n k : Int) : Rat) = qv (F k) * ((lcmF F n : Int) : Rat) := by
  obtain ⟨c, hc⟩ := dvd_lcmF (F := F) hk
  have p : 0 < (F k).2.toNat := by omega
  have e1 : lcmF F n / (F k).2.toNat = c := by rw [hc, Nat.mul_div_cancel_left _ p]
  have e2 : ((lcmF F n : Nat) : Int) = (F k).2 * (c : Int) := by
    rw [hc, Int.natCast_mul, Int.toNat_of_nonneg (Int.le_of_lt h)]
  have e3 := qv_mul (p := F k) (by omega)
  unfold whF
  rw [e1, e2, Rat.intCast_mul, Rat.intCast_mul, ← e3]
  grind
theorem whL_get {F : Nat → Int × Int} {n k : Nat} (hk : k < n) : (whL F n).getD k 0 = whF F n k := by
  unfold whL
  rw [List.getD_eq_getElem?_getD, List.getElem?_map, List.getElem?_range hk]
  rfl
theorem whL_tops {F : Nat → Int × Int} {n : Nat} (h : ∀ k, k < n → 0 < (F k).2) : TopsV (lcmF F n : Int) (whL F n) (cof F n) := fun k t e => by
  have kl := get_lt e
  rw [whL_len] at kl
  have := whL_get (F := F) kl
  rw [List.getD_eq_getElem?_getD, e] at this
  cases this
  rw [cof_in kl]
  exact whF_val (h k kl) kl
theorem whF_lt {F : Nat → Int × Int} {n k e g : Nat} (hk : k < n) (h1 : (F k).1.natAbs < 2 ^ e) (h2 : lcmF F n < 2 ^ g) : (whF F n k).natAbs < 2 ^ (e + g) := by
  unfold whF
  exact nmul h1 (Nat.lt_of_le_of_lt (Nat.div_le_self _ _) h2)
theorem whL_B {F : Nat → Int × Int} {n e g : Nat} (h1 : ∀ k, k < n → (F k).1.natAbs < 2 ^ e) (h2 : lcmF F n < 2 ^ g) : TopsB (e + g) (whL F n) := TopsB.of fun k t et => by
  have kl := get_lt et
  rw [whL_len] at kl
  have := whL_get (F := F) kl
  rw [List.getD_eq_getElem?_getD, et] at this
  cases this
  exact whF_lt kl (h1 k kl) h2
theorem lcm_ltg {F : Nat → Int × Int} {n g : Nat} (pos : ∀ k, k < n → 0 < (F k).2) (hW : (WN F 0 n).natAbs < 2 ^ g) : lcmF F n < 2 ^ g := by
  have h1 := lcm_le pos
  have h2 := WN_pos (F := F) (a := 0) n fun k hk => pos k (by omega)
  omega
theorem row_cm {F : Nat → Int × Int} {n e g : Nat} (ok : RowOk F n e g) {k : Nat} (hk : k < n) : Cm (lcmF F n : Int) (e + g) (qv (F k)) := ⟨whF F n k, (whF_val (ok.pos k hk) hk).symm, whF_lt hk (ok.top k hk) (lcm_ltg ok.pos ok.all)⟩
end

end Mo

namespace Mo
open PySem PySem.Spec PyProof.Rows L2 MoL MoW
open C8 (pss_cut tCut)
section
variable {P : Program} {w : World} {K : PySem.W.Frag} {mg : Str → Option Value} {base : Heap} {A : Ad} {D : Fd}
/-! ### what the law finds is what the program finds -/
theorem prdL_tops {U B : Int} {ts us : List Int} {f g : Nat → Rat} (hf : TopsV U ts f) (hg : TopsV B us g) (zf : ∀ k, ts.length ≤ k → f k = 0) (zg : ∀ k, us.length ≤ k → g k = 0) : TopsV (U * B) (prdL ts us) (mulF f g) := fun k t e => by
  unfold prdL at e
  rw [List.getElem?_map] at e
  obtain ⟨i, hi, rfl⟩ := Option.map_eq_some_iff.mp e
  have il := get_lt hi
  rw [List.length_range] at il
  rw [List.getElem?_range il] at hi
  cases hi
  exact cv_val hf hg zf zg k
theorem prdL_out {ts us : List Int} {f g : Nat → Rat} (zf : ∀ k, ts.length ≤ k → f k = 0) (zg : ∀ k, us.length ≤ k → g k = 0) : ∀ k, (prdL ts us).length ≤ k → mulF f g k = 0 := fun k hk => by
  rw [prdL_len] at hk
  exact mulF_out zf zg (by omega)
def intF (bs : List Int) (k : Nat) : Rat := ((bs.getD k 0 : Int) : Rat)
theorem intF_tops {bs : List Int} : TopsV 1 bs (intF bs) := fun k t e => by
  have : bs.getD k 0 = t := by rw [List.getD_eq_getElem?_getD, e]; rfl
  show _ = ((bs.getD k 0 : Int) : Rat) * _
  rw [this, Rat.intCast_one, Rat.mul_one]
theorem intF_out {bs : List Int} : ∀ k, bs.length ≤ k → intF bs k = 0 := fun k hk => by
  unfold intF
  rw [getD_out hk, Rat.intCast_zero]
theorem intF_cm {bs : List Int} {e : Nat} (h : TopsB e bs) (k : Nat) : Cm 1 e (intF bs k) := ⟨bs.getD k 0, by rw [Rat.intCast_one, Rat.mul_one]; rfl, h k⟩
theorem trim_zero {ts : List Int} {m : Nat} {U : Int} {f : Nat → Rat} (hT : TopsV U ts f) (zf : ∀ k, ts.length ≤ k → f k = 0) (hU : U ≠ 0) (t : TrimAt ts m) : (∀ k, m ≤ k → f k = 0) ∧ (0 < m → f (m - 1) ≠ 0) := by
  have hU' : ((U : Int) : Rat) ≠ 0 := fun z => hU (Rat.intCast_eq_zero_iff.mp z)
  constructor
  · intro k hk
    rcases Nat.lt_or_ge k ts.length with c | c
    · have h1 := hT.get c
      rw [t.z k hk, Rat.intCast_zero] at h1
      rcases Rat.mul_eq_zero.mp h1.symm with h | h
      · exact h
      · exact absurd h hU'
    · exact zf k c
  · intro h z
    have h1 := hT.get (show m - 1 < ts.length by have := t.le; omega)
    rw [z, Rat.zero_mul] at h1
    exact t.nz h (Rat.intCast_eq_zero_iff.mp h1)
theorem trim_above {ts : List Int} {m n : Nat} {U : Int} {f : Nat → Rat} (hT : TopsV U ts f) (zf : ∀ k, ts.length ≤ k → f k = 0) (hU : U ≠ 0) (t : TrimAt ts m) : Above n f ↔ n < m := above_iff (trim_zero hT zf hU t).1 (trim_zero hT zf hU t).2
theorem dot_val {P N : List Int} {m n : Nat} {U M : Int} {f F : Nat → Rat} (hT : TopsV U P f) (hN : TopsV M N F) (hm : m ≤ P.length) (lN : N.length = n) (mn : m ≤ n) (z : ∀ k, m ≤ k → f k = 0) : ((dotN (P.take m) N m : Int) : Rat) = mnF F n f * ((U * M : Int) : Rat) := by
  unfold dotN
  rw [range_sum, ← mean_is z mn, ← sumR_mulr]
  refine sumR_congr fun k hk => ?_
  have e1 : (P.take m).getD k 0 = P.getD k 0 := by rw [List.getD_eq_getElem?_getD, List.getElem?_take, if_pos hk, ← List.getD_eq_getElem?_getD]
  rw [e1, Rat.intCast_mul, Rat.intCast_mul, hT.get (by omega), hN.get (by omega)]
  grind
theorem sgn_of {x c : Int} {y : Rat} (c0 : 0 < c) (h : (x : Rat) = y * (c : Rat)) : (0 ≤ x ↔ 0 ≤ y) ∧ (x = 0 ↔ y = 0) := by
  have c1 : (0 : Rat) < (c : Rat) := Rat.intCast_pos.mpr c0
  refine ⟨⟨fun p => ?_, fun p => ?_⟩, ⟨fun p => ?_, fun p => ?_⟩⟩
  · rcases (Rat.le_total : (0 : Rat) ≤ y ∨ y ≤ 0) with g | g
    · exact g
    · have h2 := Rat.mul_le_mul_of_nonneg_right g (Rat.le_of_lt c1)
      rw [← h, Rat.zero_mul] at h2
      have h3 : (x : Rat) ≤ ((0 : Int) : Rat) := h2
      have : x = 0 := by have := Rat.intCast_le_intCast.mp h3; omega
      rw [this, Rat.intCast_zero] at h
      rcases Rat.mul_eq_zero.mp h.symm with e | e
      · rw [e]; exact Rat.le_refl
      · rw [e] at c1; exact absurd c1 (Rat.lt_irrefl)
  · have h2 := Rat.mul_le_mul_of_nonneg_right p (Rat.le_of_lt c1)
    rw [← h, Rat.zero_mul] at h2
    have h3 : ((0 : Int) : Rat) ≤ (x : Rat) := h2
    exact Rat.intCast_le_intCast.mp h3
  · rw [p, Rat.intCast_zero] at h
    rcases Rat.mul_eq_zero.mp h.symm with e | e
    · exact e
    · rw [e] at c1; exact absurd c1 (Rat.lt_irrefl)
  · rw [p, Rat.zero_mul] at h
    exact Rat.intCast_eq_zero_iff.mp h
def optS : Option Str → V
  | none => .non
  | some p => .str p
theorem due_val {lo hi : Option Rat} {n m1 m2 s : Nat} {F : Nat → Rat} {B : BarD} {r : Option Str} {fw bs N : List Int} {o : Option (List Int)} {L M : Int} (hb : B.b = intF bs) (hf : TopsV L fw B.f) (zf : ∀ k, fw.length ≤ k → B.f k = 0) (L0 : 0 < L) (hN : TopsV M N F) (lN : N.length = n) (M0 : 0 < M)
    (t1 : TrimAt (prdL (prdL fw bs) bs) m1) (ho : B.o = o.map fun os => (s, intF os)) (t2 : ∀ os, o = some os → TrimAt (prdL (prdL fw bs) os) m2) (t0 : o = none → m2 = 0) (hr : ChkR lo hi n F B r) (fi : FacIs lo hi B.f) :
    dueV (prdL (prdL fw bs) bs) (prdL (prdL fw bs) (o.getD [])) N m1 m2 o.isSome = optS r := by
  have T1 := prdL_tops hf (intF_tops (bs := bs)) zf intF_out
  have Z1 := prdL_out (us := bs) zf intF_out
  have T2 := prdL_tops T1 (intF_tops (bs := bs)) Z1 intF_out
  have Z2 := prdL_out (us := bs) Z1 intF_out
  rw [Int.mul_one, Int.mul_one, ← hb] at T2
  rw [← hb] at Z2
  have T3 : ∀ os : List Int, TopsV L (prdL (prdL fw bs) os) (mulF (mulF B.f B.b) (intF os)) := fun os => by
    have := prdL_tops T1 (intF_tops (bs := os)) Z1 intF_out
    rw [Int.mul_one, Int.mul_one, ← hb] at this
    exact this
  have Z3 : ∀ (os : List Int) k, (prdL (prdL fw bs) os).length ≤ k → mulF (mulF B.f B.b) (intF os) k = 0 := fun os => by
    have := prdL_out (us := os) Z1 intF_out
    rw [← hb] at this
    exact this
  have Ln : L ≠ 0 := by omega
  have a1 := trim_above (n := n) T2 Z2 Ln t1
  have LM := Int.mul_pos L0 M0
  have v1 : m1 ≤ n → _ := fun h => sgn_of LM (dot_val T2 hN t1.le lN h (trim_zero T2 Z2 Ln t1).1)
  have a2 : ∀ os, o = some os → (Above n (mulF (mulF B.f B.b) (intF os)) ↔ n < m2) := fun os e => trim_above (T3 os) (Z3 os) Ln (t2 os e)
  have v2 : ∀ os, o = some os → m2 ≤ n → _ := fun os e h => sgn_of LM (dot_val (T3 os) hN (t2 os e).le lN h (trim_zero (T3 os) (Z3 os) Ln (t2 os e)).1)
  unfold dueV
  cases hr with
  | fac h => exact absurd fi h
  | deg _ h => exact if_pos (.inl (by have := a1.mp h; omega))
  | mean _ h eo hm =>
    have c1 : ¬ n < m1 := fun c => h (a1.mpr c)
    cases o with
    | some os => rw [eo] at ho; cases ho
    | none =>
      have c2 := t0 rfl
      rw [if_neg (by omega), if_pos (show (none : Option (List Int)).isSome = false from rfl), if_pos ((v1 (by omega)).1.mpr hm)]
      rfl
  | good _ h eo hm =>
    have c1 : ¬ n < m1 := fun c => h (a1.mpr c)
    cases o with
    | some os => rw [eo] at ho; cases ho
    | none =>
      have c2 := t0 rfl
      rw [if_neg (by omega), if_pos (show (none : Option (List Int)).isSome = false from rfl), if_neg (fun z => Rat.not_le.mpr hm ((v1 (by omega)).1.mp z))]
      rfl
  | deg2 _ h eo g =>
    cases o with
    | none => rw [eo] at ho; cases ho
    | some os =>
      rw [eo] at ho
      cases ho
      exact if_pos (.inr (by have := (a2 os rfl).mp g; omega))
  | mean2 _ h eo g hm =>
    have c1 : ¬ n < m1 := fun c => h (a1.mpr c)
    cases o with
    | none => rw [eo] at ho; cases ho
    | some os =>
      rw [eo] at ho
      cases ho
      have c2 : ¬ n < m2 := fun c => g ((a2 os rfl).mpr c)
      rw [if_neg (by omega), if_neg (fun w => by cases w), if_pos (fun z => hm ((v1 (by omega)).2.mp z))]
      rfl
  | other _ h eo g hm hc =>
    have c1 : ¬ n < m1 := fun c => h (a1.mpr c)
    cases o with
    | none => rw [eo] at ho; cases ho
    | some os =>
      rw [eo] at ho
      cases ho
      have c2 : ¬ n < m2 := fun c => g ((a2 os rfl).mpr c)
      rw [if_neg (by omega), if_neg (fun w => by cases w), if_neg (fun z => z ((v1 (by omega)).2.mpr hm)), Option.getD_some, if_pos ((v2 os rfl (by omega)).2.mpr hc)]
      rfl
  | good2 _ h eo g hm hc =>
    have c1 : ¬ n < m1 := fun c => h (a1.mpr c)
    cases o with
    | none => rw [eo] at ho; cases ho
    | some os =>
      rw [eo] at ho
      cases ho
      have c2 : ¬ n < m2 := fun c => g ((a2 os rfl).mpr c)
      rw [if_neg (by omega), if_neg (fun w => by cases w), if_neg (fun z => z ((v1 (by omega)).2.mpr hm)), Option.getD_some, if_neg (fun z => hc ((v2 os rfl (by omega)).2.mp z))]
      rfl
/-! ### the factor that is drawn -/
/-- entries of the factors -/
def tabF (l h : Rat) : Nat → Nat → Rat
  | 0, k => if k = 0 then 1 else 0
  | 1, k => if k = 0 then -l else if k = 1 then 1 else 0
  | 2, k => if k = 0 then h else if k = 1 then -1 else 0
  | _, k => if k = 0 then -l * h else if k = 1 then l + h else if k = 2 then -1 else 0
theorem fac_tab {lo hi : Option Rat} : ∀ j k, facF lo hi j k = tabF (lo.getD 0) (hi.getD 0) j k
  | 0, _ => rfl
  | 1, _ => rfl
  | 2, _ => rfl
  | j + 3, k => by
    show mulF _ _ k = if k = 0 then _ else if k = 1 then _ else if k = 2 then _ else _
    rw [mulF_lin]
    split
    · rfl
    · split
      · grind
      · rfl
theorem scN_le (S : Scene) : 1 ≤ scN S ∧ scN S ≤ 4 := by
  unfold scN
  split
  · omega
  · split <;> omega
theorem facN_sc {m : Nat} {S : Scene} (ok : SceneOk m S) : facN (scLo S) (scHi S) = scN S := by
  have := ok.sh0
  have := ok.sh1
  unfold facN scN scLo scHi
  by_cases c : S.shape = 2
  · rw [if_pos c, if_pos c, if_pos (show (0 : Int) < S.shape by omega)]
    rfl
  · rw [if_neg c, if_neg c]
    by_cases d : 0 < S.shape
    · rw [if_pos d, if_pos d]
      rfl
    · rw [if_neg d, if_neg d]
      rfl
theorem sc_val {m : Nat} {S : Scene} (ok : SceneOk m S) {j : Nat} (hj : j < scN S) (k : Nat) : cof (facT S j) (facS j) k = facF (scLo S) (scHi S) j k := by
  have b0 := ok.b0
  have sh0 := ok.sh0
  have sh1 := ok.sh1
  have q1 : qv (1, 1) = 1 := by unfold qv; rw [Rat.intCast_one]; decide +kernel
  have qm : qv (-1, 1) = -1 := by unfold qv; decide +kernel
  have bn : ((S.bottom : Int) : Rat) ≠ 0 := fun z => by have := Rat.intCast_eq_zero_iff.mp z; omega
  rw [fac_tab]
  unfold cof
  have hlo : 1 ≤ j → (scLo S).getD 0 = qv (S.low, S.bottom) := fun h => by
    unfold scLo
    unfold scN at hj
    rw [if_pos (by split at hj <;> (try split at hj) <;> omega)]
    rfl
  have hhi : 2 ≤ j → (scHi S).getD 0 = qv (S.high, S.bottom) := fun h => by
    unfold scHi
    unfold scN at hj
    rw [if_pos (by split at hj <;> (try split at hj) <;> omega)]
    rfl
  have ng : ∀ z : Int, qv (-z, S.bottom) = -qv (z, S.bottom) := fun z => by
    unfold qv
    rw [Rat.intCast_neg]
    grind
  match j, hj with
  | 0, _ =>
    show (if k < 1 then qv (1, 1) else 0) = if k = 0 then 1 else 0
    rw [q1]
    by_cases c : k = 0
    · rw [if_pos c, if_pos (by omega)]
    · rw [if_neg c, if_neg (by omega)]
  | 1, _ =>
    show (if k < 2 then qv (if k = 0 then (-S.low, S.bottom) else (1, 1)) else 0) = if k = 0 then -((scLo S).getD 0) else if k = 1 then 1 else 0
    rw [hlo (by decide)]
    by_cases c : k = 0
    · rw [if_pos c, if_pos (by omega), if_pos c, ng]
    · rw [if_neg c, if_neg c, q1]
      by_cases d : k = 1
      · rw [if_pos d, if_pos (by omega)]
      · rw [if_neg d, if_neg (by omega)]
  | 2, _ =>
    show (if k < 2 then qv (if k = 0 then (S.high, S.bottom) else (-1, 1)) else 0) = if k = 0 then (scHi S).getD 0 else if k = 1 then -1 else 0
    rw [hhi (by decide)]
    by_cases c : k = 0
    · rw [if_pos c, if_pos (by omega), if_pos c]
    · rw [if_neg c, if_neg c, qm]
      by_cases d : k = 1
      · rw [if_pos d, if_pos (by omega)]
      · rw [if_neg d, if_neg (by omega)]
  | j + 3, _ =>
    show (if k < 3 then qv (if k = 0 then (-S.low * S.high, S.bottom * S.bottom) else if k = 1 then (S.low + S.high, S.bottom) else (-1, 1)) else 0) = if k = 0 then -((scLo S).getD 0) * (scHi S).getD 0 else if k = 1 then (scLo S).getD 0 + (scHi S).getD 0 else if k = 2 then -1 else 0
    rw [hlo (by omega), hhi (by omega)]
    by_cases c : k = 0
    · rw [if_pos c, if_pos (by omega), if_pos c]
      unfold qv
      show ((-S.low * S.high : Int) : Rat) / ((S.bottom * S.bottom : Int) : Rat) = -((S.low : Rat) / (S.bottom : Rat)) * ((S.high : Rat) / (S.bottom : Rat))
      rw [Rat.intCast_mul, Rat.intCast_mul, Rat.intCast_neg]
      grind
    · rw [if_neg c, if_neg c]
      by_cases d : k = 1
      · rw [if_pos d, if_pos (by omega), if_pos d]
        unfold qv
        show ((S.low + S.high : Int) : Rat) / (S.bottom : Rat) = (S.low : Rat) / (S.bottom : Rat) + (S.high : Rat) / (S.bottom : Rat)
        rw [Rat.intCast_add]
        grind
      · rw [if_neg d, if_neg d, qm]
        by_cases e : k = 2
        · rw [if_pos e, if_pos (by omega)]
        · rw [if_neg e, if_neg (by omega)]
structure FacOk (S : Scene) (n : Nat) (F : Nat → Int × Int) (ch : Bool) : Prop where
  n0 : 1 ≤ n
  n1 : n ≤ 3
  pos : ∀ k, k < n → 0 < (F k).2
  top : ∀ k, k < n → (F k).1.natAbs < 2 ^ 46
  bot : ∀ k, k < n → (F k).2 ≤ 1000000
  last : (F (n - 1)).1 ≠ 0
  is_ : ch = true ↔ FacIs (scLo S) (scHi S) (cof F n)
theorem facT_sz {m : Nat} {S : Scene} (ok : SceneOk m S) {j k : Nat} : 0 < (facT S j k).2 ∧ (facT S j k).2 ≤ 1000000 ∧ (facT S j k).1.natAbs < 2 ^ 45 := by
  have b0 := ok.b0
  have b1 := ok.b1
  have l0 := ok.l0
  have h0 := ok.h0
  have h1 := ok.h1
  have b2 : S.bottom * S.bottom ≤ 1000 * 1000 := Int.mul_le_mul b1 b1 (by omega) (by decide)
  have b3 := Int.mul_pos (show 0 < S.bottom by omega) (show 0 < S.bottom by omega)
  have lh : (-S.low * S.high).natAbs < 2 ^ 45 := nle (nmul (m := 22) (n := 22) (by omega) (by omega)) (by decide)
  match j with
  | 0 => exact ⟨Int.one_pos, (by decide : (1 : Int) ≤ 1000000), (by decide : (1 : Int).natAbs < 2 ^ 45)⟩
  | 1 => 
    show 0 < (if k = 0 then (-S.low, S.bottom) else (1, 1)).2 ∧ (if k = 0 then (-S.low, S.bottom) else (1, 1)).2 ≤ 1000000 ∧ (if k = 0 then (-S.low, S.bottom) else (1, 1)).1.natAbs < 2 ^ 45
    split
    · exact ⟨by show 0 < S.bottom; omega, by show S.bottom ≤ _; omega, by show (-S.low).natAbs < _; omega⟩
    · exact ⟨by decide, by decide, by decide⟩
  | 2 => 
    show 0 < (if k = 0 then (S.high, S.bottom) else (-1, 1)).2 ∧ (if k = 0 then (S.high, S.bottom) else (-1, 1)).2 ≤ 1000000 ∧ (if k = 0 then (S.high, S.bottom) else (-1, 1)).1.natAbs < 2 ^ 45
    split
    · exact ⟨by show 0 < S.bottom; omega, by show S.bottom ≤ _; omega, by show (S.high).natAbs < _; omega⟩
    · exact ⟨by decide, by decide, by decide⟩
  | j + 3 =>
    show 0 < (if k = 0 then (-S.low * S.high, S.bottom * S.bottom) else if k = 1 then (S.low + S.high, S.bottom) else (-1, 1)).2 ∧ (if k = 0 then (-S.low * S.high, S.bottom * S.bottom) else if k = 1 then (S.low + S.high, S.bottom) else (-1, 1)).2 ≤ 1000000 ∧ (if k = 0 then (-S.low * S.high, S.bottom * S.bottom) else if k = 1 then (S.low + S.high, S.bottom) else (-1, 1)).1.natAbs < 2 ^ 45
    split
    · exact ⟨b3, by show S.bottom * S.bottom ≤ _; omega, lh⟩
    · split
      · exact ⟨by show 0 < S.bottom; omega, by show S.bottom ≤ _; omega, by show (S.low + S.high).natAbs < _; omega⟩
      · exact ⟨by decide, by decide, by decide⟩
theorem facS_le (j : Nat) : 1 ≤ facS j ∧ facS j ≤ 3 := by
  match j with
  | 0 => exact ⟨by decide, by decide⟩
  | 1 => exact ⟨by decide, by decide⟩
  | 2 => exact ⟨by decide, by decide⟩
  | j + 3 => exact ⟨by show 1 ≤ 3; decide, by show 3 ≤ 3; decide⟩
theorem facT_last (S : Scene) (j : Nat) : (facT S j (facS j - 1)).1 ≠ 0 := by
  match j with
  | 0 => exact (by decide : (1 : Int) ≠ 0)
  | 1 => exact (by decide : (1 : Int) ≠ 0)
  | 2 => exact (by decide : (-1 : Int) ≠ 0)
  | j + 3 => exact (by decide : (-1 : Int) ≠ 0)
theorem fac_ok1 {m : Nat} {S : Scene} (ok : SceneOk m S) {j : Nat} (hj : j < scN S) : FacOk S (facS j) (facT S j) true where
  n0 := (facS_le j).1
  n1 := (facS_le j).2
  pos k _ := (facT_sz ok).1
  top k _ := nle (facT_sz ok).2.2 (by decide)
  bot k _ := (facT_sz ok).2.1
  last := facT_last S j
  is_ := ⟨fun _ => ⟨j, by rw [facN_sc ok]; exact hj, fun k => sc_val ok hj k⟩, fun _ => rfl⟩
theorem two_tab {l h : Rat} {j i : Nat} (hj : j < 4) (hi : i < 4) (e : ∀ k, 2 * tabF l h j k = tabF l h i k) : False := by
  have e0 := e 0
  have e1 := e 1
  have e2 := e 2
  rcases (by omega : j = 0 ∨ j = 1 ∨ j = 2 ∨ j = 3) with rfl | rfl | rfl | rfl <;> rcases (by omega : i = 0 ∨ i = 1 ∨ i = 2 ∨ i = 3) with rfl | rfl | rfl | rfl <;> simp [tabF] at e0 e1 e2 <;> grind
theorem fac_ok2 {m : Nat} {S : Scene} (ok : SceneOk m S) {j : Nat} (hj : j < scN S) : FacOk S (facS j) (fun k => (2 * (facT S j k).1, (facT S j k).2)) false where
  n0 := (facS_le j).1
  n1 := (facS_le j).2
  pos k _ := (facT_sz ok).1
  top k _ := by
    have := (facT_sz ok (j := j) (k := k)).2.2
    show (2 * (facT S j k).1).natAbs < _
    omega
  bot k _ := (facT_sz ok).2.1
  last := by
    have := facT_last S j
    show 2 * (facT S j (facS j - 1)).1 ≠ 0
    omega
  is_ := ⟨fun h => Bool.noConfusion h, fun ⟨i, hi, e⟩ => by
    rw [facN_sc ok] at hi
    have h4 := (scN_le S).2
    refine (two_tab (l := (scLo S).getD 0) (h := (scHi S).getD 0) (show j < 4 by omega) (show i < 4 by omega) fun k => ?_).elim
    rw [← fac_tab, ← fac_tab, ← e k, ← sc_val ok hj]
    unfold cof
    split
    · unfold qv
      rw [Rat.intCast_mul]
      show 2 * _ = ((2 : Int) : Rat) * _ / _
      have : ((2 : Int) : Rat) = 2 := rfl
      rw [this]
      grind
    · rw [Rat.mul_zero]⟩
theorem fac_ok3 {m : Nat} {S : Scene} (ok : SceneOk m S) : FacOk S 2 (fun k => if k = 0 then (S.bottom - S.low, S.bottom) else (1, 1)) false where
  n0 := by decide
  n1 := by decide
  pos k _ := by
    have := ok.b0
    split
    · show 0 < S.bottom; omega
    · decide
  top k _ := by
    have := ok.b0
    have := ok.b1
    have := ok.l0
    split
    · show (S.bottom - S.low).natAbs < _; omega
    · decide
  bot k _ := by
    have := ok.b1
    split
    · show S.bottom ≤ _; omega
    · decide
  last := (by decide : (1 : Int) ≠ 0)
  is_ := ⟨fun h => Bool.noConfusion h, fun ⟨i, hi, e⟩ => by
    rw [facN_sc ok] at hi
    have h4 := (scN_le S).2
    have b0 := ok.b0
    have bn : ((S.bottom : Int) : Rat) ≠ 0 := fun z => by have := Rat.intCast_eq_zero_iff.mp z; omega
    have e0 := e 0
    have e1 := e 1
    have e2 := e 2
    rw [fac_tab] at e0 e1 e2
    have v0 : cof (fun k => if k = 0 then (S.bottom - S.low, S.bottom) else (1, 1)) 2 0 = 1 - qv (S.low, S.bottom) := by
      show ((S.bottom - S.low : Int) : Rat) / (S.bottom : Rat) = 1 - (S.low : Rat) / (S.bottom : Rat)
      rw [Rat.intCast_sub]
      grind
    have v1 : cof (fun k => if k = 0 then (S.bottom - S.low, S.bottom) else (1, 1)) 2 1 = 1 := by
      show qv (1, 1) = 1
      unfold qv
      decide +kernel
    have v2 : cof (fun k => if k = 0 then (S.bottom - S.low, S.bottom) else (1, 1)) 2 2 = 0 := rfl
    rw [v0] at e0
    rw [v1] at e1
    rw [v2] at e2
    have hlo : i = 1 → (scLo S).getD 0 = qv (S.low, S.bottom) := fun h => by
      unfold scLo
      unfold scN at hi
      rw [if_pos (by have := ok.sh0; split at hi <;> (try split at hi) <;> omega)]
      rfl
    rcases (by omega : i = 0 ∨ i = 1 ∨ i = 2 ∨ i = 3) with rfl | rfl | rfl | rfl
    · simp [tabF] at e1
    · rw [hlo rfl] at e0
      simp [tabF] at e0
      grind
    · simp [tabF] at e1
      grind
    · simp [tabF] at e2
      grind⟩
end

end Mo

namespace Mo
open PySem PySem.Spec PyProof.Rows L2 MoL MoW
open C8 (pss_cut tCut)
section
variable {P : Program} {w : World} {K : PySem.W.Frag} {mg : Str → Option Value} {base : Heap} {A : Ad} {D : Fd}
theorem cross_of {x y : Int} {z : Rat} (hy : y ≠ 0) (h : qv (x, y) = z) : z.num * y = x * (z.den : Int) := inj (by
  have h1 : z * (y : Rat) = x := by rw [← h]; exact qv_mul (p := (x, y)) hy
  rw [Rat.intCast_mul, Rat.intCast_mul, ← h1, num_is]
  grind)
end
section
variable {P : Program} {w : World} {K : PySem.W.Frag} {mg : Str → Option Value} {base : Heap} {A : Ad} {D : Fd}
def resO : Option Str → HO
  | none => .tup [.str "told", .non]
  | some p => .tup [.str "refused", .str p]
def sp_told (K : PySem.W.Frag) (A : Ad) : Sp := fun vs H Q _ => ∃ v pl br xs F lo hi M e1 N0 e0 N e B, vs = [v, pl, br] ∧ ChkIn A H v pl xs F lo hi M e1 N0 e0 ∧ BarV A H br B ∧ BarOk N e B ∧ ∀ H' r t, Same H H' → ChkR lo hi xs.length F B r → H' t = some (resO r) → Q (.ref t) H'
theorem ok__law_told (T : Txt K mg A D) : FnOk P w K mg base CX0 13 A.f__law_told D.f__law_told ["_law_given", "_law_place_here", "_law_bar"] (sp_told K A) := by
  have G_check_bar : FnOk P w K mg base (L2.CX P w) 12 A.f_check_bar D.f_check_bar ["row", "place", "bar"] (sp_check K A) := ok_check_bar T
  refine T.F__law_told.ok sc__law_told (fun vs H Q E h => ?_) (fun cdv A' outer s H vs Q E hr h => ?_)
  · obtain ⟨v, pl, br, xs, F, lo, hi, M, e1, N0, e0, N, e, B, rfl, _⟩ := h
    rfl
  · obtain ⟨v, pl, br, xs, F, lo, hi, M, e1, N0, e0, N, e, B, rfl, ci, hb, ok, q⟩ := h
    refine ⟨_, (pss_cons (ps_set (i := 3) sc__law_told.nd rfl (.inl rfl) (pe_tup (pa_cons pe_str (pa_cons pe_str pa_nil))))
  (pss_cons (ps_try_as (i := 4) rfl rfl sc__law_told.nd rfl rfl ⟨rfl, by decide, .inl T.g_NoBar⟩ takes0 (fun W pn xe tk _ => (pss_one (ps_set (i := 3) sc__law_told.nd rfl (.inl rfl) (pe_tup (pa_cons pe_str (pa_cons (pe_callS G_check_bar (hr.mono (by decide)) rfl T.g_check_bar T.F_check_bar.kp T.b_check_bar (fun σ => passAt tk σ) (by exact (pa_cons (pv 0) (pa_cons (pv 1) (pa_cons (pv 2) pa_nil))))) pa_nil)))))) (fun oa oe cls d pn hz hf => (pss_one (ps_set (i := 3) sc__law_told.nd rfl (.inl rfl) (pe_tup (pa_cons pe_str (pa_cons (pe_xf T.x_NoBar T.n_NoBar_part hz hf (pv 4)) pa_nil)))))))
  (pss_one (ps_ret (pv 3))))), ?_⟩
    refine ⟨by show 2 ≤ sizeLine; decide, fun t0 n0 => ?_⟩
    have s0 := same_upd (o := .tup [V.str "told", .str "nothing"]) n0
    refine ⟨_, rfl, _, rfl, _, rfl, v, pl, br, xs, F, lo, hi, M, e1, N0, e0, N, e, B, rfl, ci.same s0, hb.same s0, ok, fun H1 r k1 hr => ?_⟩
    cases r with
    | none =>
      refine ⟨by show 2 ≤ sizeLine; decide, fun t nt => ?_⟩
      exact ⟨_, rfl, q _ none t ((s0.trans k1).trans (same_upd nt)) hr upd_same⟩
    | some p =>
      refine fun qd nq => ⟨true, T.em_NoBar, fun _ a0 _ => ?_, fun n => Bool.noConfusion n⟩
      refine ⟨_, rfl, rfl, rfl, qd, _, _, rfl, upd_same, rfl, by show 2 ≤ sizeLine; decide, fun t nt => ?_⟩
      exact ⟨_, rfl, q _ (some p) t (((s0.trans k1).trans (same_upd nq)).trans (same_upd nt)) hr upd_same⟩
def sp_kept (A : Ad) : Sp := fun vs H Q _ => ∃ p ra s bs, vs = [p, .ref ra] ∧ H ra = some (.lst (bs.map V.int)) ∧ PolyV A.Poly A.Ratio H p s (intF bs) ∧ s ≤ 60 ∧ bs.length ≤ 60 ∧ TopsB 900 bs ∧ ∀ H', Same H H' → Q (.bl true) H'
theorem ok__law_kept (T : Txt K mg A D) : FnOk P w K mg base CX0 5 A.f__law_kept D.f__law_kept ["_law_poly", "_law_row_here"] (sp_kept A) := by
  have G__law_equal_pairs : FnOk P w K mg base CX0 1 A.f__law_equal_pairs D.f__law_equal_pairs ["_law_one", "_law_other"] (sp_leq) := ok__law_equal_pairs T
  have G__law_read_poly : FnOk P w K mg base CX0 4 A.f__law_read_poly D.f__law_read_poly ["_law_poly"] (sp_lread A) := ok__law_read_poly T
  have G__law_trim : FnOk P w K mg base CX0 1 A.f__law_trim D.f__law_trim ["_law_row_here"] (sp_ltrim) := ok__law_trim T
  refine T.F__law_kept.ok sc__law_kept (fun vs H Q E h => ?_) (fun cdv A' outer s H vs Q E hr h => ?_)
  · obtain ⟨p, ra, s, bs, rfl, _⟩ := h
    rfl
  · obtain ⟨p, ra, s, bs, rfl, ha, hp, hs, hl, hB, q⟩ := h
    refine ⟨_, (pss_cons (ps_set (i := 2) sc__law_kept.nd rfl (.inl rfl) (pe_call G__law_read_poly (hr.mono (by decide)) rfl T.g__law_read_poly T.F__law_read_poly.kp T.b__law_read_poly .nil pass0 (pa_cons (pv 0) pa_nil)))
  (pss_one (ps_ret (pe_and (pe_cmpR op_notN (pv 2) pe_non (nomark _)) (pe_one (pe_call G__law_equal_pairs (hr.mono (by decide)) rfl T.g__law_equal_pairs T.F__law_equal_pairs.kp T.b__law_equal_pairs .nil pass0 (pa_cons (pv 2) (pa_cons (pe_lc (own := [("_law_value", 3)]) (g := gName 3) (tt := tYes) rfl sc__law_kept.nd (pi_list (pe_call G__law_trim (hr.mono (by decide)) rfl T.g__law_trim T.F__law_trim.kp T.b__law_trim .nil pass0 (pa_cons (pv 1) pa_nil))) (blkOk_by (N := N__law_kept) (sc := defScope s__law_kept) (by decide +kernel)) (fun _ _ _ _ _ => (pg_name (i := 3) sc__law_kept.nd rfl (.inl rfl))) (fun _ _ _ _ _ => pts_nil) (fun _ _ _ _ _ => (pe_tup (pa_cons (pv 3) (pa_cons pe_int pa_nil))))) pa_nil)))))))), ?_⟩
    refine ⟨_, rfl, p, s, intF bs, rfl, hp, hs, fun H1 d k1 nd hT => ?_⟩
    refine ⟨_, rfl, rfl, true, congrArg V.bl nn_ref, iteT ?_⟩
    refine ⟨_, rfl, _, rfl, ra, bs, rfl, k1 _ _ ha, by omega, fun H2 d2 m k2 nd2 m0 m1 m2 hd2 => ⟨d2, rfl, ⟨_, .of hd2⟩, fun d3 nd3 => ?_⟩⟩
    have em : s = m := size_one hp.zero hp.3 (fun k hk => by unfold intF; rw [m1 k hk, Rat.intCast_zero]) (fun h z => m2 h (Rat.intCast_eq_zero_iff.mp z))
    subst em
    refine lc_list (K := K) (a := d2) (xs := (bs.take s).map V.int) (fun i G => Same H2 G ∧ ∃ rs : List Addr, G d3 = some (.lst (rs.map V.ref)) ∧ rs.length = i ∧ Tups G rs (fun k => (bs.getD k 0, 1))) ⟨same_upd nd3, [], upd_same, rfl, Tups.nil⟩ (fun i G _ p => .of (p.1 _ _ hd2)) ?_ ?_
    · rintro i x G hx ⟨sm, rs, hd, lr, hR⟩
      have il := get_lt hx
      rw [List.length_map, List.length_take] at il
      rw [List.getElem?_map, List.getElem?_take, if_pos (by omega)] at hx
      have ex : x = V.int (bs.getD i 0) := by
        rw [List.getElem?_eq_getElem (show i < bs.length by omega)] at hx
        cases hx
        rw [List.getD_eq_getElem?_getD, List.getElem?_eq_getElem (show i < bs.length by omega)]
        rfl
      subst ex
      refine ⟨rfl, _, rfl, by show 2 ≤ sizeLine; decide, fun t nt => ?_⟩
      have s3 := same_upd (o := tup2 (bs.getD i 0) 1) nt
      have hd3 := s3 _ _ hd
      refine ⟨_, hd3, by rw [List.length_map]; exact small1000 (by omega), same_push (sm.trans s3) nd3, rs ++ [t], by rw [upd_same, List.map_append]; rfl, by rw [List.length_append, lr]; rfl, ?_⟩
      exact ((hR.same s3).push (by rw [lr]; exact upd_same)).put hd3
    · rintro G ⟨sm, rs, hd, lr, hR⟩
      rw [List.length_map, List.length_take, Nat.min_eq_left m0] at lr
      refine ⟨.ref d, .ref d3, s, _, _, rfl, (hT.same k2).same sm, ⟨d3, rs, rfl, hd, lr, hR⟩, hs, fun k hk => ?_, q _ ((k1.trans k2).trans sm)⟩
      have e1 : (intF bs k).num = bs.getD k 0 := Rat.num_intCast _
      have e2 : (intF bs k).den = 1 := Rat.den_intCast _
      refine ⟨?_, ?_, ?_, ?_, ?_⟩
      · show (intF bs k).num * 1 = bs.getD k 0 * ((intF bs k).den : Int)
        rw [e1, e2]
        rfl
      · show Sm (intF bs k).num
        rw [e1]
        exact sm_of (hB k) (by decide)
      · show Sm ((intF bs k).den : Int)
        rw [e2]
        exact sS (by decide)
      · exact sm_of (hB k) (by decide)
      · exact sS (z := 1) (by decide)
theorem chk_total {lo hi : Option Rat} {n : Nat} {F : Nat → Rat} {B : BarD} : ∃ r, ChkR lo hi n F B r := by
  by_cases f : FacIs lo hi B.f
  rotate_left
  · exact ⟨_, .fac f⟩
  by_cases a : Above n (mulF (mulF B.f B.b) B.b)
  · exact ⟨_, .deg f a⟩
  cases e : B.o with
  | none =>
    by_cases m : 0 ≤ mnF F n (mulF (mulF B.f B.b) B.b)
    · exact ⟨_, .mean f a e m⟩
    · exact ⟨_, .good f a e (Rat.not_le.mp m)⟩
  | some z =>
    by_cases b : Above n (mulF (mulF B.f B.b) z.2)
    · exact ⟨_, .deg2 f a e b⟩
    by_cases m : mnF F n (mulF (mulF B.f B.b) B.b) = 0
    rotate_left
    · exact ⟨_, .mean2 f a e b m⟩
    by_cases c : mnF F n (mulF (mulF B.f B.b) z.2) = 0
    · exact ⟨_, .other f a e b m c⟩
    · exact ⟨_, .good2 f a e b m c⟩
theorem chk_fac {lo hi : Option Rat} {n : Nat} {F : Nat → Rat} {B : BarD} {r : Option Str} (h : ChkR lo hi n F B r) (f : ¬ FacIs lo hi B.f) : r = some "factor" := by
  cases h with
  | fac => rfl
  | deg h => exact absurd h f
  | mean h => exact absurd h f
  | good h => exact absurd h f
  | deg2 h => exact absurd h f
  | mean2 h => exact absurd h f
  | other h => exact absurd h f
  | good2 h => exact absurd h f
theorem optS_inj : ∀ {r s : Option Str}, optS r = optS s → r = s
  | none, none, _ => rfl
  | none, some _, h => by cases h
  | some _, none, h => by cases h
  | some _, some _, h => by cases h; rfl
theorem RowOk.mono {F : Nat → Int × Int} {n e g e' g' : Nat} (h : RowOk F n e g) (h1 : e ≤ e') (h2 : g ≤ g') : RowOk F n e' g' := ⟨h.pos, fun k hk => lt_le (h.top k hk) h1, fun k hk => lt_le (h.bot k hk) h1, lt_le h.all h2⟩
theorem fac_WN {S : Scene} {n : Nat} {Fc : Nat → Int × Int} {ch : Bool} (h : FacOk S n Fc ch) : (WN Fc 0 n).natAbs < 2 ^ 61 ∧ WN Fc 0 n < 2 ^ 61 := by
  have h1 := WN_small (F := Fc) (c := 1000000) (by decide) n fun k hk => ⟨h.pos k hk, h.bot k hk⟩
  have h2 : 0 < WN Fc 0 n := WN_pos n fun k hk => h.pos k (by omega)
  have n0 := h.n0
  have n1 := h.n1
  have h3 : (1000000 : Int) ^ n ≤ 1000000000000000000 := by
    rcases (by omega : n = 1 ∨ n = 2 ∨ n = 3) with e | e | e <;> rw [e] <;> decide
  omega
/-- the bar that is drawn -/
def barD (s1 s2 s3 n : Nat) (Fc : Nat → Int × Int) (bs : List Int) (o : Option (List Int)) : BarD := ⟨s1, cof Fc n, s2, intF bs, o.map fun os => (s3, intF os)⟩
structure OthOk (o : Option (List Int)) : Prop where
  l0 : ∀ os, o = some os → 1 ≤ os.length
  l1 : ∀ os, o = some os → os.length ≤ 5
  sz : ∀ os, o = some os → TopsB 2 os
theorem due_use {S : Scene} {n nF s1 s2 s3 : Nat} {Fc F : Nat → Int × Int} {bs : List Int} {o : Option (List Int)} {ch : Bool} {fa ba na : Addr} {ov : V} {H : Hp} {Q : VK} {E : XK} (hF : FacOk S nF Fc ch) (ok : RowOk F n 320 600) (hn : n ≤ 9) (hb : BaseOk 4 bs) (ho : OthOk o) (h1 : H fa = some (.lst ((whL Fc nF).map V.int))) (h2 : H ba = some (.lst (bs.map V.int))) (h3 : H na = some (.lst ((whL F n).map V.int))) (h4 : OthAt H ov o)
    (q : ∀ H' v, Same H H' → (∀ r, ChkR (scLo S) (scHi S) n (fun k => qv (F k)) (barD s1 s2 s3 nF Fc bs o) r → v = optS r) → Q v H') : sp_ldue [.bl ch, .ref fa, .ref ba, ov, .ref na] H Q E := by
  unfold sp_ldue
  have n0 := hF.n0
  have n1 := hF.n1
  have l0 := hb.l0
  have l1 := hb.l1
  have lW := lcm_ltg hF.pos (fac_WN hF).1
  have lN := lcm_ltg ok.pos ok.all
  have Lp := lcm_pos (F := Fc) (m := nF) hF.pos
  have Np := lcm_pos (F := F) (m := n) ok.pos
  refine ⟨ch, fa, ba, na, ov, whL Fc nF, bs, whL F n, o, 107, 920, rfl, h1, h2, h3, h4, by rw [whL_len]; omega, by rw [whL_len]; omega, l0, by omega, fun os e => ⟨ho.l0 os e, by have := ho.l1 os e; omega, (ho.sz os e).mono (by decide)⟩, by rw [whL_len]; omega, (whL_B hF.top lW).mono (by decide), hb.sz.mono (by decide), by decide, (whL_B ok.top lN).mono (by decide), by decide, fun ec => q H _ (Same.refl H) fun r hr => ?_, fun ec H' m1 m2 k t1 t2 t0 => q H' _ k fun r hr => ?_⟩
  · have nf : ¬ FacIs (scLo S) (scHi S) (cof Fc nF) := fun z => by have := hF.is_.mpr z; rw [ec] at this; cases this
    rw [chk_fac hr nf]
    rfl
  · have tN : TopsV (lcmF F n : Int) (whL F n) (fun k => qv (F k)) := fun k t e => by
      have := whL_tops ok.pos k t e
      rw [cof_in (by have := get_lt e; rw [whL_len] at this; exact this)] at this
      exact this
    exact due_val (s := s3) (fw := whL Fc nF) (L := lcmF Fc nF) (M := lcmF F n) rfl (whL_tops hF.pos) (fun k hk => cof_out (by rw [whL_len] at hk; exact hk)) (by omega) tN whL_len (by omega) t1 rfl t2 t0 hr (hF.is_.mp ec)
theorem bar_sq {N : Int} {e : Nat} {B : BarD} (ok : BarOk N e B) (z1 : ∀ k, B.s1 ≤ k → B.f k = 0) (z2 : ∀ k, B.s2 ≤ k → B.b k = 0) : ∀ k, Cm N (e + e + e + 12) (mulF (mulF B.f B.b) B.b k) := by
  have l1 := ok.l1
  have l2 := ok.l2
  have z3 : ∀ k, 20 ≤ k → mulF B.f B.b k = 0 := fun k hk => mulF_out z1 z2 (by omega)
  have c1 : ∀ k, Cm N (e + e + 6) (mulF B.f B.b k) := cm_out (s := 20) (fun j hj => by
    have := Cm.mulF (i := j) ok.cf ok.cb (by omega)
    rw [Int.mul_one] at this
    exact this) z3
  refine cm_out (s := 30) (fun j hj => ?_) fun k hk => mulF_out z3 z2 (by omega)
  have := Cm.mulF (i := j) c1 ok.cb (by omega)
  rw [Int.mul_one] at this
  exact this.mono (by omega)
theorem qv_of {x y : Int} {z : Rat} (hy : y ≠ 0) (h : (x : Rat) = z * (y : Rat)) : qv (x, y) = z := by
  have h3 : ((y : Int) : Rat) ≠ 0 := fun e => hy (Rat.intCast_eq_zero_iff.mp e)
  unfold qv
  show (x : Rat) / (y : Rat) = z
  rw [h]
  grind
theorem nums_int {C : Addr} {H : Hp} {bs : List Int} : NumsV C H (bs.map V.int) (intF bs) := fun k x e => by
  rw [List.getElem?_map] at e
  obtain ⟨t, et, rfl⟩ := Option.map_eq_some_iff.mp e
  refine .inl ⟨t, rfl, ?_⟩
  unfold intF
  rw [List.getD_eq_getElem?_getD, et]
  rfl
theorem intF_bd {bs : List Int} {e : Nat} (h : TopsB e bs) (he : e ≤ 3900) (k : Nat) : Bd 3900 3900 (intF bs k) := (Bd.int (nle (h k) he) (by decide))
theorem bar_ok {S : Scene} {nF s1 s2 s3 : Nat} {Fc : Nat → Int × Int} {bs : List Int} {o : Option (List Int)} {ch : Bool} (hF : FacOk S nF Fc ch) (hb : BaseOk 4 bs) (ho : OthOk o) (h1 : s1 ≤ nF) (h2 : s2 ≤ bs.length) (h3 : s3 ≤ 10) : BarOk (lcmF Fc nF : Int) 108 (barD s1 s2 s3 nF Fc bs o) where
  N0 := by have := lcm_pos (F := Fc) (m := nF) hF.pos; omega
  N1 := by have := lcm_ltg hF.pos (fac_WN hF).1; exact lt_le this (by decide)
  he := by decide
  cf k := by
    show Cm _ _ (cof Fc nF k)
    rcases Nat.lt_or_ge k nF with c | c
    · rw [cof_in c]
      have h : Cm (lcmF Fc nF : Int) (46 + 61) (qv (Fc k)) := ⟨whF Fc nF k, (whF_val (hF.pos k c) c).symm, whF_lt c (hF.top k c) (lcm_ltg hF.pos (fac_WN hF).1)⟩
      exact h.mono (by decide)
    · rw [cof_out c]
      exact .zero
  cb k := (intF_cm hb.sz k).mono (by decide)
  co z e := by
    cases o with
    | none => cases e
    | some os =>
      cases e
      exact ⟨fun k => (intF_cm (ho.sz os rfl) k).mono (by decide), h3⟩
  l1 := by have := hF.n1; show s1 ≤ 10; omega
  l2 := by have := hb.l1; show s2 ≤ 10; omega
end

end Mo

namespace Mo
open PySem PySem.Spec PyProof.Rows L2 MoL MoW
open C8 (pss_cut tCut)
section
variable {P : Program} {w : World} {K : PySem.W.Frag} {mg : Str → Option Value} {base : Heap} {A : Ad} {D : Fd}
theorem dp_res (K : PySem.W.Frag) {lo hi : Option Rat} {n : Nat} {F : Nat → Rat} {B : BarD} {r : Option Str} (h : ChkR lo hi n F B r) : ∃ d, (∀ (H : Hp) (t : Addr), H t = some (resO r) → Dp K H (.ref t) d) ∧ SeqAt.shaped d = true ∧ PyData.eqv d d = true := by
  have g : ∀ p : Str, SeqAt.shaped (.tuple [.str "refused", .str p]) = true → ∃ d, (∀ (H : Hp) (t : Addr), H t = some (resO (some p)) → Dp K H (.ref t) d) ∧ SeqAt.shaped d = true ∧ PyData.eqv d d = true := fun p s => ⟨_, fun H t h => .tup (.of h) (.cons (.str _) (.cons (.str _) .nil)), s, by simp only [PyData.eqv, PyData.eqvAll]; simp⟩
  have n : ∃ d, (∀ (H : Hp) (t : Addr), H t = some (resO none) → Dp K H (.ref t) d) ∧ SeqAt.shaped d = true ∧ PyData.eqv d d = true := ⟨_, fun H t h => .tup (.of h) (.cons (.str _) (.cons .non .nil)), by with_unfolding_all rfl, by simp only [PyData.eqv, PyData.eqvAll]; simp⟩
  cases h with
  | good => exact n
  | good2 => exact n
  | fac => exact g _ (by with_unfolding_all rfl)
  | deg => exact g _ (by with_unfolding_all rfl)
  | mean => exact g _ (by with_unfolding_all rfl)
  | deg2 => exact g _ (by with_unfolding_all rfl)
  | mean2 => exact g _ (by with_unfolding_all rfl)
  | other => exact g _ (by with_unfolding_all rfl)
theorem sc_cm {m : Nat} {S : Scene} (ok : SceneOk m S) : (∀ z, scLo S = some z → Cm S.bottom 22 z) ∧ ∀ z, scHi S = some z → Cm S.bottom 22 z := by
  have b0 := ok.b0
  have l0 := ok.l0
  have h0 := ok.h0
  have h1 := ok.h1
  have g : ∀ x : Int, x.natAbs < 2 ^ 22 → Cm S.bottom 22 (qv (x, S.bottom)) := fun x hx => ⟨x, qv_mul (p := (x, S.bottom)) (by show S.bottom ≠ 0; omega), hx⟩
  constructor
  · intro z hz
    unfold scLo at hz
    split at hz
    · cases hz
      exact g _ (by omega)
    · cases hz
  · intro z hz
    unfold scHi at hz
    split at hz
    · cases hz
      exact g _ (by omega)
    · cases hz
def sp_law (K : PySem.W.Frag) : Sp := fun vs H Q _ => ∃ (a : Addr) (ns : List Int), vs = [.ref a] ∧ SqL K H a (ns.map V.int) ∧ ns.length ≤ 63 ∧ ∀ H', Q (.bl true) H'
theorem wn600 {F : Nat → Int × Int} {n e : Nat} (ok : RowOk F n e 600) : WN F 0 n < 2 ^ 600 := by
  have h1 := ok.all
  have h2 := WN_pos (F := F) (a := 0) n (fun k hk => ok.pos k (by omega))
  have h3 : ((2 ^ 600 : Nat) : Int) = 2 ^ 600 := Int.natCast_pow 2 600
  omega
theorem pos_of {x n : Int} (h : 0 < n) : ∃ k : Nat, x % n = (k : Int) ∧ (k : Int) < n := ⟨(x % n).toNat, by have := md (z := x) h; omega, by have := md (z := x) h; omega⟩
theorem ok_law (T : Txt K mg A D) : FnOk P w K mg base CX0 14 A.f_law D.f_law ["_law_script"] (sp_law K) := by
  have G_Bar_init : FnOk P w K mg base CX0 1 A.f_Bar___init__ D.f_Bar___init__ ["self", "factor", "base", "other"] (sp_barnew A) := ok_Bar___init__ T
  obtain ⟨ds2, d_Bar_init2, b_Bar_init2⟩ := T.b1_Bar___init__
  obtain ⟨kits_Bar, kb_Bar⟩ := T.kb_Bar___init__
  have G_Bar_product : FnOk P w K mg base CX0 11 A.f_Bar_product D.f_Bar_product ["self"] (sp_barprod A) := ok_Bar_product T
  have G_Poly_init : FnOk P w K mg base CX0 6 A.f_Poly___init__ D.f_Poly___init__ ["self", "coefficients"] (sp_poly K A) := ok_Poly___init__ T
  have b_Poly_init1 := T.b_Poly___init__
  have d_Poly_init1 : Vals [] [] := .nil
  have G__law_base : FnOk P w K mg base CX0 2 A.f__law_base D.f__law_base ["_law_tops", "_law_bottom", "_law_digits"] (sp_lbase) := ok__law_base T
  have G__law_cell : FnOk P w K mg base CX0 1 A.f__law_cell D.f__law_cell ["_law_script", "_law_k"] (sp_cell K) := ok__law_cell T
  have G__law_changed : FnOk P w K mg base CX0 2 A.f__law_changed D.f__law_changed ["_law_row_here", "_law_cell_here"] (sp_changed) := ok__law_changed T
  have G__law_draw : FnOk P w K mg base CX0 1 A.f__law_draw D.f__law_draw ["_law_cell_here", "_law_many", "_law_base_here"] (sp_draw) := ok__law_draw T
  have G__law_due : FnOk P w K mg base CX0 2 A.f__law_due D.f__law_due ["_law_chosen", "_law_factor", "_law_base_here", "_law_other", "_law_numbers"] (sp_ldue) := ok__law_due T
  have G__law_equal_pairs : FnOk P w K mg base CX0 1 A.f__law_equal_pairs D.f__law_equal_pairs ["_law_one", "_law_other"] (sp_leq) := ok__law_equal_pairs T
  have G__law_factors : FnOk P w K mg base CX0 1 A.f__law_factors D.f__law_factors ["_law_shape", "_law_low", "_law_high", "_law_bottom"] (sp_lfac) := ok__law_factors T
  have G__law_kept : FnOk P w K mg base CX0 5 A.f__law_kept D.f__law_kept ["_law_poly", "_law_row_here"] (sp_kept A) := ok__law_kept T
  have G__law_multiply : FnOk P w K mg base CX0 1 A.f__law_multiply D.f__law_multiply ["_law_one", "_law_other"] (sp_lmul) := ok__law_multiply T
  have G__law_place : FnOk P w K mg base CX0 8 A.f__law_place D.f__law_place ["_law_shape", "_law_low", "_law_high", "_law_bottom"] (sp_lplace A) := ok__law_place T
  have G__law_ratios : FnOk P w K mg base CX0 4 A.f__law_ratios D.f__law_ratios ["_law_row_here"] (sp_ratios A.Ratio) := ok__law_ratios T
  have G__law_read_poly : FnOk P w K mg base CX0 4 A.f__law_read_poly D.f__law_read_poly ["_law_poly"] (sp_lread A) := ok__law_read_poly T
  have G__law_row : FnOk P w K mg base CX0 1 A.f__law_row D.f__law_row ["_law_tops", "_law_parts", "_law_under", "_law_bottom", "_law_size"] (sp_lrow) := ok__law_row T
  have G__law_scale : FnOk P w K mg base CX0 1 A.f__law_scale D.f__law_scale ["_law_pairs_here"] (sp_lscale) := ok__law_scale T
  have G__law_scene : FnOk P w K mg base CX0 2 A.f__law_scene D.f__law_scene ["_law_cell_here", "_law_most"] (sp_scene) := ok__law_scene T
  have G__law_told : FnOk P w K mg base CX0 13 A.f__law_told D.f__law_told ["_law_given", "_law_place_here", "_law_bar"] (sp_told K A) := ok__law_told T
  have G__law_trim : FnOk P w K mg base CX0 1 A.f__law_trim D.f__law_trim ["_law_row_here"] (sp_ltrim) := ok__law_trim T
  have G__law_whole : FnOk P w K mg base CX0 2 A.f__law_whole D.f__law_whole ["_law_pairs_here"] (sp_lwhole) := ok__law_whole T
  refine T.F_law.ok sc_law (fun vs H Q E h => ?_) (fun cdv A' outer s H vs Q E hr h => ?_)
  · obtain ⟨a, ns, rfl, _⟩ := h
    rfl
  · obtain ⟨a, ns, rfl, hS, hl, q⟩ := h
    refine ⟨_, (pss_cons (ps_set (i := 1) sc_law.nd rfl (.inl rfl) (pe_call G__law_scene (hr.mono (by decide)) rfl T.g__law_scene T.F__law_scene.kp T.b__law_scene .nil pass0 (pa_cons (pe_call G__law_cell (hr.mono (by decide)) rfl T.g__law_cell T.F__law_cell.kp T.b__law_cell .nil pass0 (pa_cons (pv 0) (pa_cons pe_int pa_nil))) (pa_cons pe_int pa_nil))))
  (pss_cons (ps_set (i := 2) sc_law.nd rfl (.inr rfl) (pe_call G__law_draw (hr.mono (by decide)) rfl T.g__law_draw T.F__law_draw.kp T.b__law_draw .nil pass0 (pa_cons (pe_call G__law_cell (hr.mono (by decide)) rfl T.g__law_cell T.F__law_cell.kp T.b__law_cell .nil pass0 (pa_cons (pv 0) (pa_cons pe_int pa_nil))) (pa_cons pe_int (pa_cons (pe_op op_pow pe_int pe_int) pa_nil)))))
  (pss_cons (ps_set (i := 3) sc_law.nd rfl (.inl rfl) (pe_call G__law_row (hr.mono (by decide)) rfl T.g__law_row T.F__law_row.kp T.b__law_row .nil pass0 (pa_cons (pe_ix ix_tup (pv 1) pe_int (fun _ _ => rfl)) (pa_cons (pe_ix ix_tup (pv 1) pe_int (fun _ _ => rfl)) (pa_cons (pe_ix ix_tup (pv 1) pe_int (fun _ _ => rfl)) (pa_cons (pe_ix ix_tup (pv 1) pe_int (fun _ _ => rfl)) (pa_cons (pe_op op_add pe_int (pe_op op_mod (pe_callTy call_int1 rfl T.z_int (by decide +kernel) (pa_cons (pe_ix ix_list (pv 2) pe_int (fun _ _ => rfl)) pa_nil)) pe_int)) pa_nil)))))))
  (pss_cut (ps_if (pt_cmpR op_eq (pe_op op_mod (pe_callTy call_int1 rfl T.z_int (by decide +kernel) (pa_cons (pe_ix ix_list (pv 2) pe_int (fun _ _ => rfl)) pa_nil)) pe_int) pe_int (nomark _)) (pss_one (ps_set (i := 3) sc_law.nd rfl (.inl rfl) (pe_call G__law_changed (hr.mono (by decide)) rfl T.g__law_changed T.F__law_changed.kp T.b__law_changed .nil pass0 (pa_cons (pv 3) (pa_cons (pe_call G__law_cell (hr.mono (by decide)) rfl T.g__law_cell T.F__law_cell.kp T.b__law_cell .nil pass0 (pa_cons (pv 0) (pa_cons pe_int pa_nil))) pa_nil))))) pss_nil)
  (pss_cons (ps_set (i := 4) sc_law.nd rfl (.inl rfl) (pe_call G__law_place (hr.mono (by decide)) rfl T.g__law_place T.F__law_place.kp T.b__law_place .nil pass0 (pa_cons (pe_ix ix_tup (pv 1) pe_int (fun _ _ => rfl)) (pa_cons (pe_ix ix_tup (pv 1) pe_int (fun _ _ => rfl)) (pa_cons (pe_ix ix_tup (pv 1) pe_int (fun _ _ => rfl)) (pa_cons (pe_ix ix_tup (pv 1) pe_int (fun _ _ => rfl)) pa_nil))))))
  (pss_cons (ps_set (i := 5) sc_law.nd rfl (.inl rfl) (pe_call G__law_factors (hr.mono (by decide)) rfl T.g__law_factors T.F__law_factors.kp T.b__law_factors .nil pass0 (pa_cons (pe_ix ix_tup (pv 1) pe_int (fun _ _ => rfl)) (pa_cons (pe_ix ix_tup (pv 1) pe_int (fun _ _ => rfl)) (pa_cons (pe_ix ix_tup (pv 1) pe_int (fun _ _ => rfl)) (pa_cons (pe_ix ix_tup (pv 1) pe_int (fun _ _ => rfl)) pa_nil))))))
  (pss_cons (ps_set (i := 6) sc_law.nd rfl (.inl rfl) (pe_op op_mod (pe_callTy call_int1 rfl T.z_int (by decide +kernel) (pa_cons (pe_ix ix_list (pv 2) pe_int (fun _ _ => rfl)) pa_nil)) (pe_op op_add (pe_callB call_len_seq rfl T.z_len (by decide +kernel) (pa_cons (pv 5) pa_nil)) pe_int)))
  (pss_cons (ps_set (i := 7) sc_law.nd rfl (.inl rfl) (pe_ix ix_list (pv 5) (pe_op op_mod (pe_op op_fdivA (pe_callTy call_int1 rfl T.z_int (by decide +kernel) (pa_cons (pe_ix ix_list (pv 2) pe_int (fun _ _ => rfl)) pa_nil)) pe_int) (pe_callB call_len_seq rfl T.z_len (by decide +kernel) (pa_cons (pv 5) pa_nil))) (fun _ _ => rfl)))
  (pss_cut (ps_if (pt_cmpR op_lt (pv 6) (pe_callB call_len_seq rfl T.z_len (by decide +kernel) (pa_cons (pv 5) pa_nil)) (nomark _)) (pss_one (ps_set (i := 7) sc_law.nd rfl (.inl rfl) (pe_ix ix_list (pv 5) (pv 6) (fun _ _ => rfl)))) pss_nil)
  (pss_cut (ps_if (pt_cmpR op_eq (pv 6) (pe_callB call_len_seq rfl T.z_len (by decide +kernel) (pa_cons (pv 5) pa_nil)) (nomark _)) (pss_one (ps_setLc (i := 7) (own := [("_law_pair_here", 8)]) (g := gName 8) (tt := tYes) rfl sc_law.nd rfl rfl rfl (pi_list (pv 7)) (blkOk_by (N := N_law) (sc := defScope s_law) (by decide +kernel)) (fun _ _ _ _ _ => (pg_name (i := 8) sc_law.nd rfl (.inl rfl))) (fun _ _ _ _ _ => pts_nil) (fun _ _ _ _ _ => (pe_tup (pa_cons (pe_op op_mulW pe_int (pe_ix (ix_tupK (K := K) rfl) (pv 8) pe_int (fun _ _ => rfl))) (pa_cons (pe_ix (ix_tupK (K := K) rfl) (pv 8) pe_int (fun _ _ => rfl)) pa_nil)))))) pss_nil)
  (pss_cut (ps_if (pt_cmpR op_eq (pv 6) (pe_op op_add (pe_callB call_len_seq rfl T.z_len (by decide +kernel) (pa_cons (pv 5) pa_nil)) pe_int) (nomark _)) (pss_one (ps_set (i := 7) sc_law.nd rfl (.inl rfl) (pe_lst (pa_cons (pe_tup (pa_cons (pe_op op_sub (pe_ix ix_tup (pv 1) pe_int (fun _ _ => rfl)) (pe_ix ix_tup (pv 1) pe_int (fun _ _ => rfl))) (pa_cons (pe_ix ix_tup (pv 1) pe_int (fun _ _ => rfl)) pa_nil))) (pa_cons (pe_tup (pa_cons pe_int (pa_cons pe_int pa_nil))) pa_nil))))) pss_nil)
  (pss_cons (ps_set (i := 9) sc_law.nd rfl (.inl rfl) (pe_call G__law_base (hr.mono (by decide)) rfl T.g__law_base T.F__law_base.kp T.b__law_base .nil pass0 (pa_cons (pe_ix ix_tup (pv 1) pe_int (fun _ _ => rfl)) (pa_cons (pe_ix ix_tup (pv 1) pe_int (fun _ _ => rfl)) (pa_cons (pv 2) pa_nil)))))
  (pss_cons (ps_set (i := 10) sc_law.nd rfl (.inl rfl) pe_non)
  (pss_cut (ps_if (pt_cmpR op_eq (pe_op op_mod (pe_callTy call_int1 rfl T.z_int (by decide +kernel) (pa_cons (pe_ix ix_list (pv 2) pe_int (fun _ _ => rfl)) pa_nil)) pe_int) pe_int (nomark _)) (pss_one (ps_setLc (i := 10) (own := [("_law_k", 11)]) (g := gName 11) (tt := tYes) rfl sc_law.nd rfl rfl rfl (pi_range1 rfl T.z_range (pa_cons (pe_op op_add pe_int (pe_op op_mod (pe_op op_fdivA (pe_callTy call_int1 rfl T.z_int (by decide +kernel) (pa_cons (pe_ix ix_list (pv 2) pe_int (fun _ _ => rfl)) pa_nil)) pe_int) pe_int)) pa_nil)) (blkOk_by (N := N_law) (sc := defScope s_law) (by decide +kernel)) (fun _ _ _ _ _ => (pg_name (i := 11) sc_law.nd rfl (.inl rfl))) (fun _ _ _ _ _ => pts_nil) (fun _ _ _ _ _ => (pe_op op_sub (pe_op op_mod (pe_callTy call_int1 rfl T.z_int (by decide +kernel) (pa_cons (pe_ix (ix_listK (K := K) rfl) (pv 2) (pe_op op_add pe_int (pv 11)) (fun _ _ => rfl)) pa_nil)) pe_int) pe_int)))) pss_nil)
  (pss_cons (ps_set (i := 12) sc_law.nd rfl (.inl rfl) (pe_make T.M_Bar G_Bar_init (hr.mono (by decide)) rfl T.g_Bar b_Bar_init2 d_Bar_init2 pass0 (pa_cons (pe_make T.M_Poly G_Poly_init (hr.mono (by decide)) rfl T.g_Poly b_Poly_init1 d_Poly_init1 pass0 (pa_cons (pe_call G__law_ratios (hr.mono (by decide)) rfl T.g__law_ratios T.F__law_ratios.kp T.b__law_ratios .nil pass0 (pa_cons (pv 7) pa_nil)) pa_nil)) (pa_cons (pe_make T.M_Poly G_Poly_init (hr.mono (by decide)) rfl T.g_Poly b_Poly_init1 d_Poly_init1 pass0 (pa_cons (pe_callTy call_list_of rfl T.z_list (by decide +kernel) (pa_cons (pv 9) pa_nil)) pa_nil)) pa_nil))))
  (pss_cut (ps_if (pt_cmpR op_notN (pv 10) pe_non (nomark _)) (pss_one (ps_set (i := 12) sc_law.nd rfl (.inl rfl) (pe_makeK T.M_Bar G_Bar_init (hr.mono (by decide)) rfl T.g_Bar kb_Bar pass0 (pa_cons (pe_make T.M_Poly G_Poly_init (hr.mono (by decide)) rfl T.g_Poly b_Poly_init1 d_Poly_init1 pass0 (pa_cons (pe_call G__law_ratios (hr.mono (by decide)) rfl T.g__law_ratios T.F__law_ratios.kp T.b__law_ratios .nil pass0 (pa_cons (pv 7) pa_nil)) pa_nil)) pa_nil) (pk_cons (pe_make T.M_Poly G_Poly_init (hr.mono (by decide)) rfl T.g_Poly b_Poly_init1 d_Poly_init1 pass0 (pa_cons (pe_callTy call_list_of rfl T.z_list (by decide +kernel) (pa_cons (pv 9) pa_nil)) pa_nil)) (pk_cons (pe_make T.M_Poly G_Poly_init (hr.mono (by decide)) rfl T.g_Poly b_Poly_init1 d_Poly_init1 pass0 (pa_cons (pe_callTy call_list_of rfl T.z_list (by decide +kernel) (pa_cons (pv 10) pa_nil)) pa_nil)) pk_nil))))) pss_nil)
  (pss_cons (ps_set (i := 13) sc_law.nd rfl (.inl rfl) (pe_call G__law_due (hr.mono (by decide)) rfl T.g__law_due T.F__law_due.kp T.b__law_due .nil pass0 (pa_cons (pe_cmpR op_lt (pv 6) (pe_callB call_len_seq rfl T.z_len (by decide +kernel) (pa_cons (pv 5) pa_nil)) (nomark _)) (pa_cons (pe_call G__law_whole (hr.mono (by decide)) rfl T.g__law_whole T.F__law_whole.kp T.b__law_whole .nil pass0 (pa_cons (pv 7) pa_nil)) (pa_cons (pv 9) (pa_cons (pv 10) (pa_cons (pe_call G__law_whole (hr.mono (by decide)) rfl T.g__law_whole T.F__law_whole.kp T.b__law_whole .nil pass0 (pa_cons (pv 3) pa_nil)) pa_nil)))))))
  (pss_cons (ps_set (i := 14) sc_law.nd rfl (.inl rfl) (pe_tup (pa_cons pe_str (pa_cons pe_non pa_nil))))
  (pss_cut (ps_if (pt_cmpR op_notN (pv 13) pe_non (nomark _)) (pss_one (ps_set (i := 14) sc_law.nd rfl (.inl rfl) (pe_tup (pa_cons pe_str (pa_cons (pv 13) pa_nil))))) pss_nil)
  (pss_cons (ps_set (i := 15) sc_law.nd rfl (.inl rfl) (pe_call G__law_ratios (hr.mono (by decide)) rfl T.g__law_ratios T.F__law_ratios.kp T.b__law_ratios .nil pass0 (pa_cons (pv 3) pa_nil)))
  (pss_cons (ps_if (PW.pt (pw_or (pt_cmpR (op_neD hr.units) (pe_call G__law_told (hr.mono (by decide)) rfl T.g__law_told T.F__law_told.kp T.b__law_told .nil pass0 (pa_cons (pv 15) (pa_cons (pv 4) (pa_cons (pv 12) pa_nil)))) (pv 14) (nomark _)) (pw_or1 (pt_cmpR (op_neD hr.units) (pe_call G__law_told (hr.mono (by decide)) rfl T.g__law_told T.F__law_told.kp T.b__law_told .nil pass0 (pa_cons (pv 15) (pa_cons (pv 4) (pa_cons (pv 12) pa_nil)))) (pv 14) (nomark _))))) (pss_one (ps_ret pe_bl)) pss_nil)
  (pss_cons (ps_if (PW.pt (pw_or (pt_not (pt_val (pe_call G__law_kept (hr.mono (by decide)) rfl T.g__law_kept T.F__law_kept.kp T.b__law_kept .nil pass0 (pa_cons (pe_fld (pv 12) rfl) (pa_cons (pv 9) pa_nil))))) (pw_or1 (PW.pt (pw_and (pt_cmpR op_isN (pv 10) pe_non (nomark _)) (pw_and1 (pt_cmpR op_notN (pe_fld (pv 12) rfl) pe_non (nomark _)))))))) (pss_one (ps_ret pe_bl)) pss_nil)
  (pss_cons (ps_if (PW.pt (pw_and (pt_cmpR op_notN (pv 10) pe_non (nomark _)) (pw_and1 (pt_not (pt_val (pe_call G__law_kept (hr.mono (by decide)) rfl T.g__law_kept T.F__law_kept.kp T.b__law_kept .nil pass0 (pa_cons (pe_fld (pv 12) rfl) (pa_cons (pv 10) pa_nil)))))))) (pss_one (ps_ret pe_bl)) pss_nil)
  (pss_cons (ps_set (i := 16) sc_law.nd rfl (.inl rfl) (pe_call G__law_read_poly (hr.mono (by decide)) rfl T.g__law_read_poly T.F__law_read_poly.kp T.b__law_read_poly .nil pass0 (pa_cons (pe_meth0 (pv 12) T.k_Bar.cl T.m_Bar_product G_Bar_product (hr.mono (by decide)) T.b_Bar_product .nil pass0) pa_nil)))
  (pss_cons (ps_set (i := 17) sc_law.nd rfl (.inl rfl) (pe_call G__law_read_poly (hr.mono (by decide)) rfl T.g__law_read_poly T.F__law_read_poly.kp T.b__law_read_poly .nil pass0 (pa_cons (pe_fld (pv 12) rfl) pa_nil)))
  (pss_cons (ps_if (PW.pt (pw_or (pt_cmpR op_isN (pv 17) pe_non (nomark _)) (pw_or (pt_cmpR op_isN (pv 16) pe_non (nomark _)) (pw_or1 (pt_not (pt_val (pe_call G__law_equal_pairs (hr.mono (by decide)) rfl T.g__law_equal_pairs T.F__law_equal_pairs.kp T.b__law_equal_pairs .nil pass0 (pa_cons (pv 17) (pa_cons (pv 7) pa_nil))))))))) (pss_one (ps_ret pe_bl)) pss_nil)
  (pss_cons (ps_set (i := 18) sc_law.nd rfl (.inl rfl) (pe_call G__law_trim (hr.mono (by decide)) rfl T.g__law_trim T.F__law_trim.kp T.b__law_trim .nil pass0 (pa_cons (pe_call G__law_multiply (hr.mono (by decide)) rfl T.g__law_multiply T.F__law_multiply.kp T.b__law_multiply .nil pass0 (pa_cons (pe_call G__law_multiply (hr.mono (by decide)) rfl T.g__law_multiply T.F__law_multiply.kp T.b__law_multiply .nil pass0 (pa_cons (pe_call G__law_whole (hr.mono (by decide)) rfl T.g__law_whole T.F__law_whole.kp T.b__law_whole .nil pass0 (pa_cons (pv 7) pa_nil)) (pa_cons (pv 9) pa_nil))) (pa_cons (pv 9) pa_nil))) pa_nil)))
  (pss_cons (ps_set (i := 19) sc_law.nd rfl (.inr rfl) (pe_call G__law_scale (hr.mono (by decide)) rfl T.g__law_scale T.F__law_scale.kp T.b__law_scale .nil pass0 (pa_cons (pv 7) pa_nil)))
  (pss_one (ps_ret (pe_call G__law_equal_pairs (hr.mono (by decide)) rfl T.g__law_equal_pairs T.F__law_equal_pairs.kp T.b__law_equal_pairs .nil pass0 (pa_cons (pv 16) (pa_cons (pe_lc (own := [("_law_value", 20)]) (g := gName 20) (tt := tYes) rfl sc_law.nd (pi_list (pv 18)) (blkOk_by (N := N_law) (sc := defScope s_law) (by decide +kernel)) (fun _ _ _ _ _ => (pg_name (i := 20) sc_law.nd rfl (.inl rfl))) (fun _ _ _ _ _ => pts_nil) (fun _ _ _ _ _ => (pe_tup (pa_cons (pv 20) (pa_cons (pv 19) pa_nil))))) pa_nil))))))))))))))))))))))))))))))))), ?_⟩
    -- the scene, the digits
    refine ⟨_, rfl, a, ns, 0, rfl, hS, fun c0 => ⟨c0, 2, rfl, by decide, fun H1 sv S k1 hSc ok => ?_⟩⟩
    refine ⟨_, rfl, a, ns, 1, rfl, hS.ext k1, fun c1 => ⟨_, _, rfl, rfl, ⟨by decide, by decide, by decide⟩, c1, 16, 10 ^ (6 : Int).toNat, rfl, by decide, by decide, .ab (by decide) (by decide), fun H2 dg ds k2 ndg hdg dgs => ?_⟩⟩
    have dat : ∀ k : Nat, k < 16 → atI (ds.map V.int) (k : Int) = some (.int (ds.getD k 0)) := fun k hk => digs_at dgs hk
    have hS2 := (hS.ext k1).ext k2
    obtain ⟨st, pt, pw, rfl, g1, g2, g3⟩ := hSc.same k2
    obtain ⟨gn, hgn, gn1, gn9⟩ : ∃ n : Nat, 1 + ds.getD 0 0 % 9 = (n : Int) ∧ 1 ≤ n ∧ n ≤ 9 := ⟨(1 + ds.getD 0 0 % 9).toNat, by omega, by omega, by omega⟩
    have u0 := ok.u0
    have u1 := ok.u1
    have b0 := ok.b0
    have b1 := ok.b1
    have lm := ok.lm
    -- the row
    refine ⟨_, rfl, st, _, 4, _, rfl, rfl, .of g1, rfl, _, rfl, st, _, 5, _, rfl, rfl, .of g1, rfl, _, rfl, st, _, 6, _, rfl, rfl, .of g1, rfl, _, rfl, st, _, 3, _, rfl, rfl, .of g1, rfl, _, rfl, dg, _, 0, _, rfl, rfl, .of hdg, dat 0 (by decide), .inl ⟨_, rfl, _, _, rfl, rfl, (show (0 : Int) < 9 by decide), _, _, rfl, rfl, pt, pw, S.tops, S.parts, S.under, S.bottom, gn, 22, 20, congrArg (fun z => [V.ref pt, V.ref pw, V.int S.under, V.int S.bottom, V.int z]) hgn, g2, g3, ok.len.symm, by omega, by omega, ok.tl, ok.pl, by omega, by omega, by omega, fun H3 rv k3 hrv => ?_⟩⟩
    have ok0 : RowOk (scF S) gn 223 504 := (sc_row ok (by decide)).mono (by omega) (by have : gn * (gn - 1) ≤ 9 * 8 := Nat.mul_le_mul gn9 (by omega); omega)
    refine ⟨fun σ G => ∃ (rv : V) (F : Nat → Int × Int), σ = [some (.ref a), some (.ref st), some (.ref dg), some rv, none, none, none, none, none, none, none, none, none, none, none, none, none, none, none, none, none] ∧ Same H2 G ∧ TupsAt G rv gn F ∧ RowOk F gn 320 600, ?_, ?_⟩
    · refine ⟨_, rfl, dg, _, 15, _, rfl, rfl, .of (k3 _ _ hdg), dat 15 (by decide), .inl ⟨_, rfl, _, _, rfl, rfl, (show (0 : Int) < 2 by decide), rfl, _, rfl, ite2 (fun _ => ?_) (fun _ => ⟨rv, scF S, rfl, k3, hrv, ok0.mono (by decide) (by decide)⟩)⟩⟩
      refine ⟨_, rfl, _, rfl, a, ns, 2, rfl, hS2.ext k3, fun c2 => ⟨rv, c2, gn, scF S, 223, 504, rfl, hrv, by omega, by omega, ok0, by decide, by decide, by decide, by decide, fun H4 u F4 k4 h4 ok4 => ⟨u, F4, rfl, k3.trans k4, h4, ok4.mono (by decide) (by decide)⟩⟩⟩
    clear hrv rv ok0 k3 H3
    rintro σ G ⟨rv, F, rfl, k3, hrv, okF⟩
    -- the place, its factors
    have e1 := k3 _ _ g1
    refine ⟨_, rfl, st, _, 0, _, rfl, rfl, .of e1, rfl, _, rfl, st, _, 1, _, rfl, rfl, .of e1, rfl, _, rfl, st, _, 2, _, rfl, rfl, .of e1, rfl, _, rfl, st, _, 3, _, rfl, rfl, .of e1, rfl, S, 2, rfl, ok, fun H4 pl k4 hpl => ?_⟩
    have k34 := k3.trans k4
    have e1 := k34 _ _ g1
    refine ⟨_, rfl, st, _, 0, _, rfl, rfl, .of e1, rfl, _, rfl, st, _, 1, _, rfl, rfl, .of e1, rfl, _, rfl, st, _, 2, _, rfl, rfl, .of e1, rfl, _, rfl, st, _, 3, _, rfl, rfl, .of e1, rfl, S, 2, rfl, ok, fun H5 fd ys k5 nfd hF ly => ?_⟩
    have k35 := k34.trans k5
    replace hrv := (hrv.same k4).same k5
    replace hpl := hpl.same k5
    have hdg5 := k35 _ _ hdg
    have sN := scN_le S
    have lys : ((ys.map V.ref).length : Int) = (scN S : Int) := by rw [List.length_map, ly]
    refine ⟨_, rfl, dg, _, 1, _, rfl, rfl, .of hdg5, dat 1 (by decide), .inl ⟨_, rfl, _, rfl, fd, _, rfl, .inl (.of hF.at_), _, _, rfl, rfl, _, _, rfl, rfl, (show (0 : Int) < ((ys.map V.ref).length : Int) + 2 by omega), ?_⟩⟩
    rw [lys]
    obtain ⟨c, hc, c1⟩ := pos_of (x := ds.getD 1 0) (show (0 : Int) < (scN S : Int) + 2 by omega)
    show gName 6 (V.int (ds.getD 1 0 % ((scN S : Int) + 2))) _ _ _
    rw [hc]
    have atF : ∀ j : Nat, j < scN S → ∃ y, ys[j]? = some y ∧ atI (ys.map V.ref) (j : Int) = some (.ref y) := fun j hj => by
      have e := List.getElem?_eq_getElem (show j < ys.length by omega)
      exact ⟨_, e, atI_nat (by rw [List.getElem?_map, e]; rfl)⟩
    obtain ⟨j0, hj, j1⟩ := pos_of (x := (ds.getD 1 0).fdiv 6) (show (0 : Int) < (scN S : Int) by omega)
    obtain ⟨y0, ey0, ay0⟩ := atF j0 (by omega)
    refine ⟨_, rfl, _, rfl, dg, _, 1, _, rfl, rfl, .of hdg5, dat 1 (by decide), .inl ⟨_, rfl, _, _, rfl, rfl, ⟨by decide, by decide⟩, _, rfl, fd, _, rfl, .inl (.of hF.at_), _, _, rfl, rfl, (show (0 : Int) < ((ys.map V.ref).length : Int) by omega), fd, _, _, _, rfl, rfl, .of hF.at_, by rw [lys, hj]; exact ay0, ?_⟩⟩
    refine ⟨fun σ G => ∃ j y, σ = [some (.ref a), some (.ref st), some (.ref dg), some rv, some pl, some (.ref fd), some (.int c), some (.ref y), none, none, none, none, none, none, none, none, none, none, none, none, none] ∧ G = H5 ∧ ys[j]? = some y ∧ j < scN S ∧ (c < scN S → j = c), ?_, ?_⟩
    · refine ⟨_, rfl, _, rfl, fd, _, rfl, .inl (.of hF.at_), _, _, rfl, rfl, _, rfl, ite2 (fun cc => ?_) (fun cc => ?_)⟩
      · have cc := of_decide_eq_true cc
        obtain ⟨y1, ey1, ay1⟩ := atF c (by omega)
        exact ⟨_, rfl, _, rfl, fd, _, _, _, rfl, rfl, .of hF.at_, ay1, c, y1, rfl, rfl, ey1, by omega, fun _ => rfl⟩
      · exact ⟨j0, y0, rfl, rfl, ey0, by omega, fun z => absurd (decide_eq_true (by omega)) cc⟩
    clear ay0 ey0 y0 hj j1 j0
    rintro σ G ⟨j, y, rfl, rfl, ey, jN, jc⟩
    have hy := (hF.fac j y ey).2
    refine ⟨fun σ G' => ∃ (fa : Addr) (nF : Nat) (Fc : Nat → Int × Int) (y8 : Option V), σ = [some (.ref a), some (.ref st), some (.ref dg), some rv, some pl, some (.ref fd), some (.int c), some (.ref fa), y8, none, none, none, none, none, none, none, none, none, none, none, none] ∧ Same G G' ∧ TupsAt G' (.ref fa) nF Fc ∧ (c < scN S → FacOk S nF Fc true) ∧ (c = scN S → FacOk S nF Fc false), ?_, ?_⟩
    · refine ⟨_, rfl, _, rfl, fd, _, rfl, .inl (.of hF.at_), rfl, _, rfl, ite2 (fun cc => ?_) (fun cc => ?_)⟩
      rotate_left
      · refine ⟨y, facS j, facT S j, _, rfl, Same.refl _, hy, fun _ => fac_ok1 ok jN, fun z => absurd (decide_eq_true (congrArg V.int (by rw [lys, z]))) cc⟩
      have cc := V.int.inj (of_decide_eq_true cc)
      obtain ⟨a2, rs, e2, h2, lr, hT⟩ := hy
      cases e2
      refine ⟨_, rfl, y, rfl, ⟨_, .of h2⟩, fun d nd => ?_⟩
      refine lc_list (K := K) (a := y) (xs := rs.map V.ref) (fun i E => Same G E ∧ ∃ ts : List Addr, E d = some (.lst (ts.map V.ref)) ∧ ts.length = i ∧ Tups E ts (fun k => (2 * (facT S j k).1, (facT S j k).2))) ⟨same_upd nd, [], upd_same, rfl, Tups.nil⟩ (fun i E _ p => .of (p.1 _ _ h2)) ?_ ?_
      · rintro i x E hx ⟨sm, ts, hd, lt, hU⟩
        obtain ⟨r, er, rfl⟩ := ref_get hx
        have hr := sm _ _ (hT i r er)
        have il := get_lt er
        have sz := (facT_sz ok (j := j) (k := i)).2.2
        refine ⟨rfl, _, rfl, r, _, 0, _, rfl, rfl, .of hr, rfl, _, _, rfl, rfl, (sS (by decide)).mul (sm_of sz (by decide)), _, rfl, r, _, 1, _, rfl, rfl, .of hr, rfl, by show 2 ≤ sizeLine; decide, fun t nt => ?_⟩
        have s3 := same_upd (o := tup2 (2 * (facT S j i).1) (facT S j i).2) nt
        have hd3 := s3 _ _ hd
        have f3 := (facS_le j).2
        exact ⟨_, hd3, by rw [List.length_map]; exact small1000 (by omega), same_push (sm.trans s3) nd, ts ++ [t], by rw [upd_same, List.map_append]; rfl, by rw [List.length_append, lt]; rfl, ((hU.same s3).push (by rw [lt]; exact upd_same)).put hd3⟩
      · rintro E ⟨sm, ts, hd, lt, hU⟩
        rw [List.length_map, lr] at lt
        exact ⟨d, facS j, _, _, rfl, sm, ⟨d, ts, rfl, hd, lt, hU⟩, fun z => by rw [lys] at cc; omega, fun _ => fac_ok2 ok jN⟩
    clear hy ey jN jc y j atF
    rintro σ G' ⟨fa0, nF0, Fc0, y8, rfl, k6, hT0, f1, f2⟩
    have hF6 := k6 _ _ hF.at_
    refine ⟨fun σ G2 => ∃ (fa : Addr) (nF : Nat) (Fc : Nat → Int × Int) (y8 : Option V), σ = [some (.ref a), some (.ref st), some (.ref dg), some rv, some pl, some (.ref fd), some (.int c), some (.ref fa), y8, none, none, none, none, none, none, none, none, none, none, none, none] ∧ Same G G2 ∧ TupsAt G2 (.ref fa) nF Fc ∧ FacOk S nF Fc (decide ((c : Int) < (scN S : Int))), ?_, ?_⟩
    · have e1 := (k35.trans k6) _ _ g1
      refine ⟨_, rfl, _, rfl, fd, _, rfl, .inl (.of hF6), _, _, rfl, rfl, rfl, _, rfl, ite2 (fun cc => ?_) (fun cc => ?_)⟩
      · have cc := V.int.inj (of_decide_eq_true cc)
        rw [lys] at cc
        refine ⟨_, rfl, st, _, 3, _, rfl, rfl, .of e1, rfl, _, rfl, st, _, 1, _, rfl, rfl, .of e1, rfl, _, _, rfl, rfl, _, rfl, st, _, 3, _, rfl, rfl, .of e1, rfl, by show 2 ≤ sizeLine; decide, fun t nt => ⟨by show 2 ≤ sizeLine; decide, fun t2 nt2 => ⟨by show 2 ≤ sizeLine; decide, fun l nl => ?_⟩⟩⟩
        have s1 := same_upd (o := tup2 (S.bottom - S.low) S.bottom) nt
        have s2 := same_upd (o := tup2 1 1) nt2
        have s3 := same_upd (o := .lst [V.ref t, .ref t2]) nl
        refine ⟨l, 2, fun k => if k = 0 then (S.bottom - S.low, S.bottom) else (1, 1), _, rfl, ((k6.trans s1).trans s2).trans s3, tups2 upd_same (s3 _ _ (s2 _ _ upd_same)) (s3 _ _ upd_same) rfl rfl, ?_⟩
        rw [decide_eq_false (by omega)]
        exact fac_ok3 ok
      · have cc : (c : Int) ≠ (scN S : Int) + 1 := fun z => cc (decide_eq_true (congrArg V.int (by rw [lys, z])))
        refine ⟨fa0, nF0, Fc0, _, rfl, k6, hT0, ?_⟩
        by_cases z : c < scN S
        · rw [decide_eq_true (by omega)]; exact f1 z
        · rw [decide_eq_false (by omega)]; exact f2 (by omega)
    clear f1 f2 hT0 hF6 k6 fa0 nF0 Fc0 y8 G'
    rintro σ G6 ⟨fa, nF, Fc, y8, rfl, k6, hT, okc⟩
    replace hrv := hrv.same k6
    replace hpl := hpl.same k6
    have hdg6 := k6 _ _ hdg5
    have g16 := (k35.trans k6) _ _ g1
    have g26 := (k35.trans k6) _ _ g2
    have hF6 := k6 _ _ hF.at_
    have k26 := k35.trans k6
    clear k6 hdg5 hF k5 k4 k3 k34 k35 e1
    -- the base, the other
    refine ⟨_, rfl, st, _, 4, _, rfl, rfl, .of g16, rfl, _, rfl, st, _, 3, _, rfl, rfl, .of g16, rfl, _, rfl, pt, dg, S.tops, ds, S.bottom, _, 16, rfl, g26, hdg6, dgs, by decide, lm, fun t ht => by (have := ok.lo t ht; have := ok.tb t ht; have := ok.l0; omega), by omega, fun H7 ba bs k7 nba hba okb => ?_⟩
    have hdg7 := k7 _ _ hdg6
    refine ⟨fun σ G => ∃ (ov : V) (o : Option (List Int)) (y11 : Option V), σ = [some (.ref a), some (.ref st), some (.ref dg), some rv, some pl, some (.ref fd), some (.int c), some (.ref fa), y8, some (.ref ba), some ov, y11, none, none, none, none, none, none, none, none, none] ∧ Same H7 G ∧ OthAt G ov o ∧ OthOk o, ?_, ?_⟩
    · refine ⟨_, rfl, dg, _, 8, _, rfl, rfl, .of hdg7, dat 8 (by decide), .inl ⟨_, rfl, _, _, rfl, rfl, (show (0 : Int) < 2 by decide), rfl, _, rfl, ite2 (fun _ => ?_) (fun _ => ⟨.non, none, _, rfl, Same.refl _, rfl, ⟨fun os w => (by cases w), fun os w => (by cases w), fun os w => (by cases w)⟩⟩)⟩⟩
      have m5 := md (z := (ds.getD 8 0).fdiv 2) (n := 5) (by decide)
      refine ⟨_, rfl, dg, _, 8, _, rfl, rfl, .of hdg7, dat 8 (by decide), .inl ⟨_, rfl, _, _, rfl, rfl, ⟨by decide, by decide⟩, _, _, rfl, rfl, (show (0 : Int) < 5 by decide), _, _, rfl, rfl, _, rfl, by omega, by omega, fun d2 nd2 => ?_⟩⟩
      refine lc_range (lo := 0) (fun j E => Same H7 E ∧ ∃ cs : List Int, E d2 = some (.lst (cs.map V.int)) ∧ cs.length = j ∧ ∀ z ∈ cs, z.natAbs ≤ 2) ⟨same_upd nd2, [], upd_same, rfl, fun z h => by cases h⟩ ?_ ?_
      · rintro j E hj ⟨k, cs, hcs, lc, sc⟩
        have at4 : atI (ds.map V.int) (9 + (0 + (j : Int))) = some (.int (ds.getD (9 + j) 0)) := by
          rw [show (9 : Int) + (0 + (j : Int)) = ((9 + j : Nat) : Int) by omega]
          exact dat _ (by omega)
        have m7 := md (z := ds.getD (9 + j) 0) (n := 5) (by decide)
        refine ⟨rfl, _, rfl, _, rfl, _, _, rfl, rfl, dg, _, _, _, rfl, rfl, .of (k _ _ hdg7), at4, .inl ⟨_, rfl, _, _, rfl, rfl, (show (0 : Int) < 5 by decide), _, _, rfl, rfl, _, hcs, by rw [List.length_map]; exact small1000 (by omega), same_push k nd2, cs ++ [ds.getD (9 + j) 0 % 5 - 2], by rw [upd_same, List.map_append]; rfl, by rw [List.length_append, lc]; rfl, fun z hz => ?_⟩⟩
        rcases List.mem_append.mp hz with h | h
        · exact sc z h
        · rw [List.mem_singleton.mp h]; omega
      · rintro E ⟨k, cs, hcs, lc, sc⟩
        refine ⟨.ref d2, some cs, _, rfl, k, ⟨d2, rfl, hcs⟩, ⟨fun os w => by (cases w; omega), fun os w => by (cases w; omega), fun os w => ?_⟩⟩
        cases w
        exact TopsB.of fun k z e => by
          have := sc z (List.mem_of_getElem? e)
          show _ < 4
          omega
    rintro σ G ⟨ov, o, y11, rfl, k8, hov, oko⟩
    have k78 := k7.trans k8
    replace hba := k8 _ _ hba
    replace hrv := hrv.same k78
    replace hpl := hpl.same k78
    replace hT := hT.same k78
    replace hF6 := k78 _ _ hF6
    clear hdg7 hdg6 g16 g26 k8 k7 k78
    have n0 := okc.n0
    have n1 := okc.n1
    have b0' := okb.l0
    have b1' := okb.l1
    -- the bar
    have fnum : ∀ {H : Hp} {xs : List V}, xs.length = nF → RatsV A.Ratio H xs (fun k => qv (Fc k)) → NumsV A.Ratio H xs (cof Fc nF) := fun lx rx k y e => .inr ((rx k y e).to (cof_in (by have := get_lt e; omega)).symm)
    have fbd : ∀ k, Bd 3900 3900 (cof Fc nF k) := fun k => by
      have := (bar_ok (s1 := 0) (s2 := 0) (s3 := 0) okc okb oko (Nat.zero_le _) (Nat.zero_le _) (Nat.zero_le _))
      exact ((this.cf k).bd (by have := this.N0; omega) this.N1).mono (by decide) (by decide)
    have fcond : ∀ k, k < nF → (Fc k).2 ≠ 0 ∧ Sm (Fc k).2 := fun k hk => ⟨by have := okc.pos k hk; omega, sS (by have := okc.pos k hk; have := okc.bot k hk; omega)⟩
    refine ⟨_, rfl, .ref fa, nF, Fc, rfl, hT, by omega, fcond, fun H9 fl xs k9 nfl hfl lx rx => ?_⟩
    refine fun pf dpf m1 m2 m3 => poly_make (f := cof Fc nF) m1 m2 (.inl hfl) (fnum lx rx) (by omega) (fun k _ => fbd k) (fun k hk => cof_out (by omega)) fun G9 s1 kk1 hp1 ls1 => ?_
    have k99 := k9.trans kk1
    refine ⟨_, rfl, ba, _, rfl, .inl (.of (k99 _ _ hba)), fun bl nbl => ?_⟩
    have k10 := same_upd (o := .lst (bs.map V.int)) nbl
    refine fun pb dpb m1 m2 m3 => poly_make (f := intF bs) m1 m2 (.inl upd_same) nums_int (by rw [List.length_map]; omega) (fun k _ => intF_bd okb.sz (by decide) k) (fun k hk => intF_out k (by rw [List.length_map] at hk; exact hk)) fun G10 s2 kk2 hp2 ls2 => ?_
    rw [List.length_map] at ls2
    refine fun bx dbx m1 m2 m3 => bar_make (B := barD s1 s2 0 nF Fc bs none) m1 m2 ((hp1.same k10).same kk2) hp2 rfl fun G11 k11 hB => ?_
    have kB := ((k99.trans k10).trans kk2).trans k11
    rw [lx] at ls1
    refine ⟨fun σ G2 => ∃ (br : V) (s1 s2 s3 : Nat), σ = [some (.ref a), some (.ref st), some (.ref dg), some rv, some pl, some (.ref fd), some (.int c), some (.ref fa), y8, some (.ref ba), some ov, y11, some br, none, none, none, none, none, none, none, none] ∧ Same G G2 ∧ BarV A G2 br (barD s1 s2 s3 nF Fc bs o) ∧ s1 ≤ nF ∧ s2 ≤ bs.length ∧ s3 ≤ 10, ?_, ?_⟩
    · cases o with
      | none =>
        cases hov
        exact ⟨_, rfl, rfl, _, rfl, iteFe nn_non ⟨.ref bx, s1, s2, 0, rfl, kB, hB, ls1, ls2, by decide⟩⟩
      | some os =>
        obtain ⟨oa, rfl, hoa⟩ := hov
        refine ⟨_, rfl, rfl, _, rfl, iteTe nn_ref ?_⟩
        clear hB hp1 hp2 kk1 kk2 k9 k10 k11 k99 rx hfl lx nfl nbl m1 m2 m3 ls1 ls2
        refine ⟨_, rfl, .ref fa, nF, Fc, rfl, hT.same kB, by omega, fcond, fun H9 fl xs k9 nfl hfl lx rx => ?_⟩
        refine fun pf dpf m1 m2 m3 => poly_make (f := cof Fc nF) m1 m2 (.inl hfl) (fnum lx rx) (by omega) (fun k _ => fbd k) (fun k hk => cof_out (by omega)) fun G9 s1 kk1 hp1 ls1 => ?_
        have k99 := (kB.trans k9).trans kk1
        refine ⟨_, rfl, ba, _, rfl, .inl (.of (k99 _ _ hba)), fun bl nbl => ?_⟩
        have k10 := same_upd (o := .lst (bs.map V.int)) nbl
        refine fun pb dpb m1 m2 m3 => poly_make (f := intF bs) m1 m2 (.inl upd_same) nums_int (by rw [List.length_map]; omega) (fun k _ => intF_bd okb.sz (by decide) k) (fun k hk => intF_out k (by rw [List.length_map] at hk; exact hk)) fun G10 s2 kk2 hp2 ls2 => ?_
        have k11 := (k99.trans k10).trans kk2
        refine ⟨_, rfl, oa, _, rfl, .inl (.of (k11 _ _ hoa)), fun ol nol => ?_⟩
        have k12 := same_upd (o := .lst (os.map V.int)) nol
        have lo := oko.l1 os rfl
        refine fun po dpo m1 m2 m3 => poly_make (f := intF os) m1 m2 (.inl upd_same) nums_int (by rw [List.length_map]; omega) (fun k _ => intF_bd (oko.sz os rfl) (by decide) k) (fun k hk => intF_out k (by rw [List.length_map] at hk; exact hk)) fun G12 s3 kk3 hp3 ls3 => ?_
        rw [List.length_map] at ls2 ls3
        refine ⟨rfl, rfl, fun bx dbx m1 m2 m3 => bar_make (B := barD s1 s2 s3 nF Fc bs (some os)) m1 m2 ((((hp1.same k10).same kk2).same k12).same kk3) ((hp2.same k12).same kk3) hp3 fun G13 k13 hB => ?_⟩
        exact ⟨.ref bx, s1, s2, s3, rfl, ((k11.trans k12).trans kk3).trans k13, hB, by omega, ls2, by omega⟩
    clear hB hp1 hp2 kk1 kk2 k9 k10 k11 k99 kB rx hfl lx nfl nbl m1 m2 m3 ls1 ls2 s1 s2
    rintro σ G2 ⟨br, s1, s2, s3, rfl, kB, hB, ls1, ls2, ls3⟩
    have okB := bar_ok (s1 := s1) (s2 := s2) (s3 := s3) okc okb oko ls1 ls2 ls3
    replace hba := kB _ _ hba
    replace hrv := hrv.same kB
    replace hpl := hpl.same kB
    replace hT := hT.same kB
    replace hF6 := kB _ _ hF6
    have hov2 : OthAt G2 ov o := by
      cases o with
      | none => exact hov
      | some os =>
        obtain ⟨oa, e, h⟩ := hov
        exact ⟨oa, e, kB _ _ h⟩
    clear hov kB
    -- what is due
    have okc' : FacOk S nF Fc (decide ((c : Int) < ((ys.map V.ref).length : Int))) := by rw [lys]; exact okc
    have fW : ∀ k, k < nF → 0 < (Fc k).2 ∧ Sm (Fc k).1 := fun k hk => ⟨okc.pos k hk, sm_of (okc.top k hk) (by decide)⟩
    refine ⟨_, rfl, _, rfl, fd, _, rfl, .inl (.of hF6), _, _, rfl, rfl, _, rfl, .ref fa, nF, Fc, 61, rfl, hT, by omega, fW, (fac_WN okc).2, by decide, fun H13 wa k13 nwa hwa => ⟨_, rfl, _, rfl, _, rfl, rv, gn, F, 600, rfl, hrv.same k13, by omega, fun k hk => ⟨okF.pos k hk, sm_of (okF.top k hk) (by decide)⟩, (wn600 okF), by decide, fun H14 wn k14 nwn hwn => due_use (s1 := s1) (s2 := s2) (s3 := s3) okc' okF gn9 okb oko (k14 _ _ hwa) (k14 _ _ (k13 _ _ hba)) hwn ?_ fun H15 dv k15 hdv => ?_⟩⟩
    · cases o with
      | none => exact hov2
      | some os =>
        obtain ⟨oa, e, h⟩ := hov2
        exact ⟨oa, e, k14 _ _ (k13 _ _ h)⟩
    have kD := (k13.trans k14).trans k15
    obtain ⟨r0, hr0⟩ := chk_total (lo := scLo S) (hi := scHi S) (n := gn) (F := fun k => qv (F k)) (B := barD s1 s2 s3 nF Fc bs o)
    have one : ∀ r, ChkR (scLo S) (scHi S) gn (fun k => qv (F k)) (barD s1 s2 s3 nF Fc bs o) r → r = r0 := fun r hr => optS_inj (by rw [← hdv r hr, ← hdv r0 hr0])
    have edv := hdv r0 hr0
    subst edv
    replace hba := kD _ _ hba
    replace hrv := hrv.same kD
    replace hpl := hpl.same kD
    replace hT := hT.same kD
    replace hB := hB.same kD
    have hov3 : OthAt H15 ov o := by
      cases o with
      | none => exact hov2
      | some os =>
        obtain ⟨oa, e, h⟩ := hov2
        exact ⟨oa, e, kD _ _ h⟩
    clear hov2 kD k13 k14 k15 hwa hwn hdv okc' nwa nwn
    refine ⟨by show 2 ≤ sizeLine; decide, fun wt nwt => ?_⟩
    have kw := same_upd (o := .tup [V.str "told", .non]) nwt
    have hwt : upd H15 wt (.tup [V.str "told", .non]) wt = some (.tup [V.str "told", .non]) := upd_same
    refine ⟨fun σ G3 => ∃ wt : Addr, σ = [some (.ref a), some (.ref st), some (.ref dg), some rv, some pl, some (.ref fd), some (.int c), some (.ref fa), y8, some (.ref ba), some ov, y11, some br, some (optS r0), some (.ref wt), none, none, none, none, none, none] ∧ Same H15 G3 ∧ G3 wt = some (resO r0), ?_, ?_⟩
    · cases r0 with
      | none => exact ⟨_, rfl, rfl, _, rfl, iteFe nn_non ⟨wt, rfl, kw, hwt⟩⟩
      | some p => exact ⟨_, rfl, rfl, _, rfl, iteTe rfl ⟨_, rfl, by show 2 ≤ sizeLine; decide, fun wt2 nwt2 => ⟨wt2, rfl, kw.trans (same_upd nwt2), upd_same⟩⟩⟩
    clear hwt kw nwt wt
    rintro σ G3 ⟨wt, rfl, kw, hwt⟩
    refine ⟨_, rfl, rv, gn, F, rfl, hrv.same kw, by omega, fun k hk => ⟨by have := okF.pos k hk; omega, sm_of (okF.bot k hk) (by decide)⟩, fun H16 gv gs k16 ngv hgv lgs rgs => ?_⟩
    have kv := kw.trans k16
    replace hwt := k16 _ _ hwt
    replace hba := kv _ _ hba
    replace hrv := hrv.same kv
    replace hpl := hpl.same kv
    replace hT := hT.same kv
    replace hB := hB.same kv
    have cms := sc_cm ok
    have ob0 := ok.b0
    have ob1 := ok.b1
    have ci : ChkIn A H16 (.ref gv) pl gs (fun k => qv (F k)) (scLo S) (scHi S) (lcmF F gn) 920 S.bottom 22 := { row := ⟨gv, rfl, .inl hgv⟩, nums := rgs.nums, l0 := by omega, l1 := by omega, cm := fun k hk => row_cm okF (by omega), M0 := by (have := lcm_pos (F := F) (m := gn) okF.pos; omega), M1 := by (have := lcm_ltg okF.pos okF.all; exact lt_le this (by decide)), he1 := by decide, pl := hpl, ok := sc_ends ok, clo := cms.1, chi := cms.2, p0 := by omega, p1 := by omega, he0 := by decide }
    have lgs' : gs.length = gn := lgs
    obtain ⟨dd, hdd, sdd, edd⟩ := dp_res K hr0
    refine ⟨_, rfl, _, rfl, _, rfl, .ref gv, pl, br, gs, _, _, _, _, _, _, _, _, _, _, rfl, ci, hB, okB, fun H17 r t k17 hr ht => ?_⟩
    rw [lgs'] at hr
    have er := one r hr
    subst er
    refine ⟨_, rfl, dd, dd, hdd _ _ ht, hdd _ _ (k17 _ _ hwt), sdd, sdd, _, rfl, ?_⟩
    rw [edd]
    refine iteF ?_
    refine ⟨_, rfl, _, rfl, _, rfl, .ref gv, pl, br, gs, _, _, _, _, _, _, _, _, _, _, rfl, ci.same k17, hB.same k17, okB, fun H18 r2 t2 k18 hr2 ht2 => ?_⟩
    rw [lgs'] at hr2
    have er := one r2 hr2
    subst er
    refine ⟨_, rfl, dd, dd, hdd _ _ ht2, hdd _ _ ((k17.trans k18) _ _ hwt), sdd, sdd, _, rfl, ?_⟩
    rw [edd]
    refine iteF ?_
    replace hB := (hB.same k17).same k18
    replace hba := k18 _ _ (k17 _ _ hba)
    replace hT := (hT.same k17).same k18
    have hov4 : OthAt H18 ov o := by
      cases o with
      | none => exact hov3
      | some os =>
        obtain ⟨oa, e, h⟩ := hov3
        exact ⟨oa, e, k18 _ _ (k17 _ _ (kv _ _ h))⟩
    clear ci hdd sdd edd dd hr2 hr ht ht2 k18 k17 hwt hov3 cms hrv hpl hgv rgs
    obtain ⟨bb, dxb, pf, pb, po, rfl, hb1, hb2, hb3, hb4⟩ := id hB
    have cl := T.k_Bar.cl
    have s2l : s2 ≤ 4 := by omega
    have keep : ∀ {G : Hp} {E' : XK} {Q' : VK} {p : V} {ra : Addr} {s : Nat} {zs : List Int}, G ra = some (.lst (zs.map V.int)) → PolyV A.Poly A.Ratio G p s (intF zs) → s ≤ 60 → zs.length ≤ 60 → TopsB 900 zs → (∀ H', Same G H' → Q' (.bl true) H') → sp_kept A [p, .ref ra] G Q' E' := fun h1 h2 h3 h4 h5 h6 => ⟨_, _, _, _, rfl, h1, h2, h3, h4, h5, h6⟩
    refine ⟨_, rfl, bb, A.Bar, dxb, _, _, rfl, hb1, cl, T.n_Bar_base, rfl, _, rfl, pb, ba, s2, bs, rfl, hba, hb3, by omega, by omega, okb.sz.mono (by decide), fun H19 k19 => ⟨true, rfl, iteF ?_⟩⟩
    rcases o with _ | os
    case' none =>
      cases hov4
      cases hb4
      refine ⟨_, rfl, rfl, _, rfl, iteTe (decide_eq_true rfl) ⟨_, rfl, bb, A.Bar, dxb, _, _, rfl, k19 _ _ hb1, cl, T.n_Bar_other, rfl, rfl, _, rfl, iteFe nn_non ?_⟩⟩
      refine ⟨_, rfl, rfl, _, rfl, iteFe nn_non ?_⟩
      have kz := k19
      clear k19
    case' some =>
      obtain ⟨oa, rfl, hoa⟩ := hov4
      have hb4' : PolyV A.Poly A.Ratio H18 po s3 (intF os) := hb4
      have l5 := oko.l1 os rfl
      refine ⟨_, rfl, rfl, _, rfl, iteFe is_ref ?_⟩
      refine ⟨_, rfl, rfl, _, rfl, iteTe nn_ref ⟨_, rfl, bb, A.Bar, dxb, _, _, rfl, k19 _ _ hb1, cl, T.n_Bar_other, rfl, _, rfl, po, oa, s3, os, rfl, k19 _ _ hoa, hb4'.same k19, by omega, by omega, (oko.sz os rfl).mono (by decide), fun H20 k20 => ⟨true, rfl, iteF ?_⟩⟩⟩
      have kz := k19.trans k20
      clear k20 hb4' hoa l5 k19
    all_goals
      have hBz := hB.same kz
      replace hT := hT.same kz
      replace hba := kz _ _ hba
      refine ⟨_, rfl, bb, _, _, rfl, kz _ _ hb1, rfl, _, _, _, _, rfl, hBz, okB, fun H21 u s k21 hu hs => ⟨u, s, _, rfl, hu, by omega, fun H22 d k22 nd hR => ?_⟩⟩
      have kz2 := (kz.trans k21).trans k22
      have kz1 := k21.trans k22
      refine ⟨_, rfl, bb, A.Bar, dxb, _, _, rfl, kz2 _ _ hb1, cl, T.n_Bar_factor, rfl, pf, s1, _, rfl, hb2.same kz2, by omega, fun H23 d2 k23 nd2 hR2 => ?_⟩
      have kz3 := kz1.trans k23
      replace hT := hT.same kz3
      replace hba := kz3 _ _ hba
      replace hR := hR.same k23
      have es1 : s1 = nF := size_one hb2.zero hb2.3 (fun k hk => cof_out hk) (fun h z => by
        rw [show barD s1 s2 s3 nF Fc bs _ = barD s1 s2 s3 nF Fc bs _ from rfl] at z
        have z : cof Fc nF (nF - 1) = 0 := z
        rw [cof_in (by omega)] at z
        have := qv_mul (p := Fc (nF - 1)) (by have := okc.pos (nF - 1) (by omega); omega)
        rw [z, Rat.zero_mul] at this
        exact okc.last (Rat.intCast_eq_zero_iff.mp this.symm))
      subst es1
      have sqc := bar_sq okB hb2.zero hb3.zero
      have sqb : ∀ k, Bd 3900 3900 (mulF (mulF (cof Fc s1) (intF bs)) (intF bs) k) := fun k => ((sqc k).bd (by have := okB.N0; omega) okB.N1).mono (by decide) (by decide)
      refine ⟨_, rfl, rfl, _, rfl, iteFe is_ref ⟨_, rfl, rfl, _, rfl, iteFe is_ref ?_⟩⟩
      refine ⟨_, rfl, _, rfl, .ref d2, .ref fa, s1, _, Fc, rfl, hR2, hT, by omega, fun k hk => ⟨cross_of (by have := okc.pos k hk; omega) (cof_in hk).symm, (fbd k).s1 (by decide), (fbd k).s2 (by decide), (fW k hk).2, (fcond k hk).2⟩, ⟨true, rfl, iteF ?_⟩⟩
      have lW := lcm_ltg okc.pos (fac_WN okc).1
      have Lp := lcm_pos (F := Fc) (m := s1) okc.pos
      refine ⟨_, rfl, .ref fa, s1, Fc, 61, rfl, hT, by omega, fW, (fac_WN okc).2, by decide, fun H24 wa k24 nwa hwa => ⟨_, rfl, wa, ba, whL Fc s1, bs, 107, rfl, hwa, k24 _ _ hba, by rw [whL_len]; omega, by rw [whL_len]; omega, (whL_B okc.top lW).mono (by decide), okb.sz.mono (by decide), by decide, fun H25 w2 k25 nw2 hw2 => ⟨_, rfl, w2, ba, prdL (whL Fc s1) bs, bs, 220, rfl, hw2, k25 _ _ (k24 _ _ hba), by rw [prdL_len, whL_len]; omega, by rw [prdL_len, whL_len]; omega, (prdL_B (e := 107) ((whL_B okc.top lW).mono (by decide)) (okb.sz.mono (by decide)) (by rw [whL_len]; omega)).mono (by decide), okb.sz.mono (by decide), by decide, fun H26 w3 k26 nw3 hw3 => ⟨w3, _, rfl, hw3, by rw [prdL_len, prdL_len, whL_len]; omega, fun H27 w4 m k27 nw4 m0 m1 m2 hw4 => ?_⟩⟩⟩⟩
      have kz4 := ((k24.trans k25).trans k26).trans k27
      refine ⟨_, rfl, .ref fa, s1, Fc, 61, rfl, hT.same kz4, by omega, okc.pos, (fac_WN okc).2, by decide, ?_⟩
      have T1 := prdL_tops (whL_tops okc.pos) (intF_tops (bs := bs)) (fun k hk => cof_out (by rw [whL_len] at hk; exact hk)) intF_out
      have Z1 := prdL_out (ts := whL Fc s1) (f := cof Fc s1) (us := bs) (fun k hk => cof_out (by rw [whL_len] at hk; exact hk)) intF_out
      have T2 := prdL_tops T1 (intF_tops (bs := bs)) Z1 intF_out
      have Z2 := prdL_out (us := bs) Z1 intF_out
      rw [Int.mul_one, Int.mul_one] at T2
      have tz := trim_zero T2 Z2 (by omega) ⟨m0, m1, m2⟩
      have em : s = m := size_one hu.zero hu.3 tz.1 tz.2
      subst em
      have T2B := prdL_B (e := 220) ((prdL_B ((whL_B okc.top lW).mono (show _ ≤ 107 by decide)) (okb.sz.mono (by decide)) (by rw [whL_len]; omega)).mono (by decide)) (okb.sz.mono (by decide)) (by rw [prdL_len, whL_len]; omega)
      generalize prdL (prdL (whL Fc s1) bs) bs = PP at *
      refine ⟨_, rfl, _, rfl, w4, rfl, ⟨_, .of hw4⟩, fun d5 nd5 => ?_⟩
      have sL : Sm ((lcmF Fc s1 : Nat) : Int) := sm_of (n := 61) lW (by decide)
      refine lc_list (K := K) (a := w4) (xs := (PP.take s).map V.int) (fun i E => Same H27 E ∧ ∃ ts : List Addr, E d5 = some (.lst (ts.map V.ref)) ∧ ts.length = i ∧ Tups E ts (fun k => (PP.getD k 0, (lcmF Fc s1 : Int)))) ⟨same_upd nd5, [], upd_same, rfl, Tups.nil⟩ (fun i E _ p => .of (p.1 _ _ hw4)) ?_ ?_
      · rintro i x E hx ⟨sm, ts, hd, lt, hU⟩
        have il := get_lt hx
        rw [List.length_map, List.length_take] at il
        rw [List.getElem?_map, List.getElem?_take, if_pos (by omega)] at hx
        have ex : x = V.int (PP.getD i 0) := by
          rw [List.getElem?_eq_getElem (show i < PP.length by omega)] at hx
          cases hx
          rw [List.getD_eq_getElem?_getD, List.getElem?_eq_getElem (show i < PP.length by omega)]
          rfl
        subst ex
        refine ⟨rfl, _, rfl, _, rfl, by show 2 ≤ sizeLine; decide, fun t nt => ?_⟩
        have s3' := same_upd (o := tup2 (PP.getD i 0) (lcmF Fc s1 : Int)) nt
        have hd3 := s3' _ _ hd
        exact ⟨_, hd3, by rw [List.length_map]; exact small1000 (by omega), same_push (sm.trans s3') nd5, ts ++ [t], by rw [upd_same, List.map_append]; rfl, by rw [List.length_append, lt]; rfl, ((hU.same s3').push (by rw [lt]; exact upd_same)).put hd3⟩
      · rintro E ⟨sm, ts, hd, lt, hU⟩
        rw [List.length_map, List.length_take, Nat.min_eq_left m0] at lt
        refine ⟨.ref d, .ref d5, s, _, _, rfl, (hR.same kz4).same sm, ⟨d5, ts, rfl, hd, lt, hU⟩, by omega, fun k hk => ⟨?_, (sqb k).s1 (by decide), (sqb k).s2 (by decide), sm_of (T2B k) (by decide), sL⟩, q _⟩
        refine cross_of (x := PP.getD k 0) (y := (lcmF Fc s1 : Int)) (by omega) ?_
        exact qv_of (by omega) (T2.get (show k < PP.length by omega))
end

end Mo

namespace Mo
open PySem PySem.Spec PyProof.Rows L2 MoL MoW
open C8 (pss_cut tCut)
theorem facts {w : World} {K : PySem.W.Frag} {h : Heap} {mg : Str → Option Value} {fa : Addr} (X : K.In h) (G : h.Ns mainGlobals mg) (hfa : mg "law" = some (.ref fa)) (c : He.SaysX faL fnL [] tfL (MoH.exAll exL) w h K) : LamX.LawAtS PySem.Challenge.rw_momentrows_k40_bars_are_checked w K CX0 14 63 "_law_script" mg fa h := by
  have gd : MoH.gdB K = true := MoH.exq c.more 0 (t := fun K => MoH.gdB K) rfl
  have g_Ratio : PySem.W.nsIn K mainGlobals "Ratio" = some (some (.ref (He.ga K "Ratio"))) := of_decide_eq_true (MoH.exq c.more 1 (t := fun K => decide (PySem.W.nsIn K mainGlobals "Ratio" = some (some (.ref (He.ga K "Ratio"))))) rfl)
  have g_Poly : PySem.W.nsIn K mainGlobals "Poly" = some (some (.ref (He.ga K "Poly"))) := of_decide_eq_true (MoH.exq c.more 2 (t := fun K => decide (PySem.W.nsIn K mainGlobals "Poly" = some (some (.ref (He.ga K "Poly"))))) rfl)
  have g_Place : PySem.W.nsIn K mainGlobals "Place" = some (some (.ref (He.ga K "Place"))) := of_decide_eq_true (MoH.exq c.more 3 (t := fun K => decide (PySem.W.nsIn K mainGlobals "Place" = some (some (.ref (He.ga K "Place"))))) rfl)
  have g_Bar : PySem.W.nsIn K mainGlobals "Bar" = some (some (.ref (He.ga K "Bar"))) := of_decide_eq_true (MoH.exq c.more 4 (t := fun K => decide (PySem.W.nsIn K mainGlobals "Bar" = some (some (.ref (He.ga K "Bar"))))) rfl)
  have g_NoBar : PySem.W.nsIn K mainGlobals "NoBar" = some (some (.ref (He.ga K "NoBar"))) := of_decide_eq_true (MoH.exq c.more 5 (t := fun K => decide (PySem.W.nsIn K mainGlobals "NoBar" = some (some (.ref (He.ga K "NoBar"))))) rfl)
  have g_MeansError : PySem.W.nsIn K mainGlobals "MeansError" = some (some (.ref (He.ga K "MeansError"))) := of_decide_eq_true (MoH.exq c.more 6 (t := fun K => decide (PySem.W.nsIn K mainGlobals "MeansError" = some (some (.ref (He.ga K "MeansError"))))) rfl)
  have ow_Ratio : MoH.ownB K (He.ga K "Ratio") = true := MoH.exq c.more 7 (t := fun K => MoH.ownB K (He.ga K "Ratio")) rfl
  have mk_Ratio : PySem.W.makesIn K (He.ga K "Ratio") = true := MoH.exq c.more 8 (t := fun K => PySem.W.makesIn K (He.ga K "Ratio")) rfl
  have kc_Ratio : PySem.W.keepIn K (.ref (He.ga K "Ratio")) = true := MoH.exq c.more 9 (t := fun K => PySem.W.keepIn K (.ref (He.ga K "Ratio"))) rfl
  have n_top_Ratio : PySem.W.findIn K (.ref (He.ga K "Ratio")) "top" = some none := of_decide_eq_true (MoH.exq c.more 10 (t := fun K => decide (PySem.W.findIn K (.ref (He.ga K "Ratio")) "top" = some none)) rfl)
  have n_bottom_Ratio : PySem.W.findIn K (.ref (He.ga K "Ratio")) "bottom" = some none := of_decide_eq_true (MoH.exq c.more 11 (t := fun K => decide (PySem.W.findIn K (.ref (He.ga K "Ratio")) "bottom" = some none)) rfl)
  have ow_Poly : MoH.ownB K (He.ga K "Poly") = true := MoH.exq c.more 12 (t := fun K => MoH.ownB K (He.ga K "Poly")) rfl
  have mk_Poly : PySem.W.makesIn K (He.ga K "Poly") = true := MoH.exq c.more 13 (t := fun K => PySem.W.makesIn K (He.ga K "Poly")) rfl
  have kc_Poly : PySem.W.keepIn K (.ref (He.ga K "Poly")) = true := MoH.exq c.more 14 (t := fun K => PySem.W.keepIn K (.ref (He.ga K "Poly"))) rfl
  have n_coefficients_Poly : PySem.W.findIn K (.ref (He.ga K "Poly")) "coefficients" = some none := of_decide_eq_true (MoH.exq c.more 15 (t := fun K => decide (PySem.W.findIn K (.ref (He.ga K "Poly")) "coefficients" = some none)) rfl)
  have n_degree_Poly : PySem.W.findIn K (.ref (He.ga K "Poly")) "degree" = some none := of_decide_eq_true (MoH.exq c.more 16 (t := fun K => decide (PySem.W.findIn K (.ref (He.ga K "Poly")) "degree" = some none)) rfl)
  have n_lead_Poly : PySem.W.findIn K (.ref (He.ga K "Poly")) "lead" = some none := of_decide_eq_true (MoH.exq c.more 17 (t := fun K => decide (PySem.W.findIn K (.ref (He.ga K "Poly")) "lead" = some none)) rfl)
  have ow_Place : MoH.ownB K (He.ga K "Place") = true := MoH.exq c.more 18 (t := fun K => MoH.ownB K (He.ga K "Place")) rfl
  have mk_Place : PySem.W.makesIn K (He.ga K "Place") = true := MoH.exq c.more 19 (t := fun K => PySem.W.makesIn K (He.ga K "Place")) rfl
  have kc_Place : PySem.W.keepIn K (.ref (He.ga K "Place")) = true := MoH.exq c.more 20 (t := fun K => PySem.W.keepIn K (.ref (He.ga K "Place"))) rfl
  have n_low_Place : PySem.W.findIn K (.ref (He.ga K "Place")) "low" = some none := of_decide_eq_true (MoH.exq c.more 21 (t := fun K => decide (PySem.W.findIn K (.ref (He.ga K "Place")) "low" = some none)) rfl)
  have n_high_Place : PySem.W.findIn K (.ref (He.ga K "Place")) "high" = some none := of_decide_eq_true (MoH.exq c.more 22 (t := fun K => decide (PySem.W.findIn K (.ref (He.ga K "Place")) "high" = some none)) rfl)
  have ow_Bar : MoH.ownB K (He.ga K "Bar") = true := MoH.exq c.more 23 (t := fun K => MoH.ownB K (He.ga K "Bar")) rfl
  have mk_Bar : PySem.W.makesIn K (He.ga K "Bar") = true := MoH.exq c.more 24 (t := fun K => PySem.W.makesIn K (He.ga K "Bar")) rfl
  have kc_Bar : PySem.W.keepIn K (.ref (He.ga K "Bar")) = true := MoH.exq c.more 25 (t := fun K => PySem.W.keepIn K (.ref (He.ga K "Bar"))) rfl
  have n_factor_Bar : PySem.W.findIn K (.ref (He.ga K "Bar")) "factor" = some none := of_decide_eq_true (MoH.exq c.more 26 (t := fun K => decide (PySem.W.findIn K (.ref (He.ga K "Bar")) "factor" = some none)) rfl)
  have n_base_Bar : PySem.W.findIn K (.ref (He.ga K "Bar")) "base" = some none := of_decide_eq_true (MoH.exq c.more 27 (t := fun K => decide (PySem.W.findIn K (.ref (He.ga K "Bar")) "base" = some none)) rfl)
  have n_other_Bar : PySem.W.findIn K (.ref (He.ga K "Bar")) "other" = some none := of_decide_eq_true (MoH.exq c.more 28 (t := fun K => decide (PySem.W.findIn K (.ref (He.ga K "Bar")) "other" = some none)) rfl)
  have ex_NoBar : MoH.excB K (He.ga K "NoBar") = true := MoH.exq c.more 29 (t := fun K => MoH.excB K (He.ga K "NoBar")) rfl
  have n_NoBar_part : PySem.W.findIn K (.ref (He.ga K "NoBar")) "part" = some none := of_decide_eq_true (MoH.exq c.more 30 (t := fun K => decide (PySem.W.findIn K (.ref (He.ga K "NoBar")) "part" = some none)) rfl)
  have ti_NoBar : PySem.W.typeIn K (.ref (He.fAd K ("NoBar", some "__init__"))) = some (.type "function") := of_decide_eq_true (MoH.exq c.more 31 (t := fun K => decide (PySem.W.typeIn K (.ref (He.fAd K ("NoBar", some "__init__"))) = some (.type "function"))) rfl)
  have a0 : PySem.W.findIn K (.ref (He.ga K "NoBar")) "__init__" = some (some (.ref (He.fAd K ("NoBar", some "__init__")))) := of_decide_eq_true (MoH.exq c.more 32 (t := fun K => decide (PySem.W.findIn K (.ref (He.ga K "NoBar")) "__init__" = some (some (.ref (He.fAd K ("NoBar", some "__init__")))))) rfl)
  have i0 : PySem.W.isFn K (.ref (He.fAd K ("NoBar", some "__init__"))) = true := MoH.exq c.more 33 (t := fun K => PySem.W.isFn K (.ref (He.fAd K ("NoBar", some "__init__")))) rfl
  have k0 : PySem.W.keepIn K (.ref (He.fAd K ("NoBar", some "__init__"))) = true := MoH.exq c.more 34 (t := fun K => PySem.W.keepIn K (.ref (He.fAd K ("NoBar", some "__init__")))) rfl
  have a1 : PySem.W.findIn K (.ref (He.ga K "Ratio")) "__init__" = some (some (.ref (He.fAd K ("Ratio", some "__init__")))) := of_decide_eq_true (MoH.exq c.more 35 (t := fun K => decide (PySem.W.findIn K (.ref (He.ga K "Ratio")) "__init__" = some (some (.ref (He.fAd K ("Ratio", some "__init__")))))) rfl)
  have i1 : PySem.W.isFn K (.ref (He.fAd K ("Ratio", some "__init__"))) = true := MoH.exq c.more 36 (t := fun K => PySem.W.isFn K (.ref (He.fAd K ("Ratio", some "__init__")))) rfl
  have k1 : PySem.W.keepIn K (.ref (He.fAd K ("Ratio", some "__init__"))) = true := MoH.exq c.more 37 (t := fun K => PySem.W.keepIn K (.ref (He.fAd K ("Ratio", some "__init__")))) rfl
  have a2 : PySem.W.findIn K (.ref (He.ga K "Ratio")) "__neg__" = some (some (.ref (He.fAd K ("Ratio", some "__neg__")))) := of_decide_eq_true (MoH.exq c.more 38 (t := fun K => decide (PySem.W.findIn K (.ref (He.ga K "Ratio")) "__neg__" = some (some (.ref (He.fAd K ("Ratio", some "__neg__")))))) rfl)
  have i2 : PySem.W.isFn K (.ref (He.fAd K ("Ratio", some "__neg__"))) = true := MoH.exq c.more 39 (t := fun K => PySem.W.isFn K (.ref (He.fAd K ("Ratio", some "__neg__")))) rfl
  have k2 : PySem.W.keepIn K (.ref (He.fAd K ("Ratio", some "__neg__"))) = true := MoH.exq c.more 40 (t := fun K => PySem.W.keepIn K (.ref (He.fAd K ("Ratio", some "__neg__")))) rfl
  have a3 : PySem.W.findIn K (.ref (He.ga K "Ratio")) "__eq__" = some (some (.ref (He.fAd K ("Ratio", some "__eq__")))) := of_decide_eq_true (MoH.exq c.more 41 (t := fun K => decide (PySem.W.findIn K (.ref (He.ga K "Ratio")) "__eq__" = some (some (.ref (He.fAd K ("Ratio", some "__eq__")))))) rfl)
  have i3 : PySem.W.isFn K (.ref (He.fAd K ("Ratio", some "__eq__"))) = true := MoH.exq c.more 42 (t := fun K => PySem.W.isFn K (.ref (He.fAd K ("Ratio", some "__eq__")))) rfl
  have k3 : PySem.W.keepIn K (.ref (He.fAd K ("Ratio", some "__eq__"))) = true := MoH.exq c.more 43 (t := fun K => PySem.W.keepIn K (.ref (He.fAd K ("Ratio", some "__eq__")))) rfl
  have a4 : PySem.W.findIn K (.ref (He.ga K "Ratio")) "__ne__" = some (some (.ref (He.fAd K ("Ratio", some "__ne__")))) := of_decide_eq_true (MoH.exq c.more 44 (t := fun K => decide (PySem.W.findIn K (.ref (He.ga K "Ratio")) "__ne__" = some (some (.ref (He.fAd K ("Ratio", some "__ne__")))))) rfl)
  have i4 : PySem.W.isFn K (.ref (He.fAd K ("Ratio", some "__ne__"))) = true := MoH.exq c.more 45 (t := fun K => PySem.W.isFn K (.ref (He.fAd K ("Ratio", some "__ne__")))) rfl
  have k4 : PySem.W.keepIn K (.ref (He.fAd K ("Ratio", some "__ne__"))) = true := MoH.exq c.more 46 (t := fun K => PySem.W.keepIn K (.ref (He.fAd K ("Ratio", some "__ne__")))) rfl
  have a5 : PySem.W.findIn K (.ref (He.ga K "Ratio")) "__lt__" = some (some (.ref (He.fAd K ("Ratio", some "__lt__")))) := of_decide_eq_true (MoH.exq c.more 47 (t := fun K => decide (PySem.W.findIn K (.ref (He.ga K "Ratio")) "__lt__" = some (some (.ref (He.fAd K ("Ratio", some "__lt__")))))) rfl)
  have i5 : PySem.W.isFn K (.ref (He.fAd K ("Ratio", some "__lt__"))) = true := MoH.exq c.more 48 (t := fun K => PySem.W.isFn K (.ref (He.fAd K ("Ratio", some "__lt__")))) rfl
  have k5 : PySem.W.keepIn K (.ref (He.fAd K ("Ratio", some "__lt__"))) = true := MoH.exq c.more 49 (t := fun K => PySem.W.keepIn K (.ref (He.fAd K ("Ratio", some "__lt__")))) rfl
  have a6 : PySem.W.findIn K (.ref (He.ga K "Ratio")) "__ge__" = some (some (.ref (He.fAd K ("Ratio", some "__ge__")))) := of_decide_eq_true (MoH.exq c.more 50 (t := fun K => decide (PySem.W.findIn K (.ref (He.ga K "Ratio")) "__ge__" = some (some (.ref (He.fAd K ("Ratio", some "__ge__")))))) rfl)
  have i6 : PySem.W.isFn K (.ref (He.fAd K ("Ratio", some "__ge__"))) = true := MoH.exq c.more 51 (t := fun K => PySem.W.isFn K (.ref (He.fAd K ("Ratio", some "__ge__")))) rfl
  have k6 : PySem.W.keepIn K (.ref (He.fAd K ("Ratio", some "__ge__"))) = true := MoH.exq c.more 52 (t := fun K => PySem.W.keepIn K (.ref (He.fAd K ("Ratio", some "__ge__")))) rfl
  have a7 : PySem.W.nsIn K mainGlobals "is_whole" = some (some (.ref (He.fAd K ("is_whole", none)))) := of_decide_eq_true (MoH.exq c.more 53 (t := fun K => decide (PySem.W.nsIn K mainGlobals "is_whole" = some (some (.ref (He.fAd K ("is_whole", none)))))) rfl)
  have k7 : PySem.W.keepIn K (.ref (He.fAd K ("is_whole", none))) = true := MoH.exq c.more 54 (t := fun K => PySem.W.keepIn K (.ref (He.fAd K ("is_whole", none)))) rfl
  have a8 : PySem.W.nsIn K mainGlobals "is_number" = some (some (.ref (He.fAd K ("is_number", none)))) := of_decide_eq_true (MoH.exq c.more 55 (t := fun K => decide (PySem.W.nsIn K mainGlobals "is_number" = some (some (.ref (He.fAd K ("is_number", none)))))) rfl)
  have k8 : PySem.W.keepIn K (.ref (He.fAd K ("is_number", none))) = true := MoH.exq c.more 56 (t := fun K => PySem.W.keepIn K (.ref (He.fAd K ("is_number", none)))) rfl
  have a9 : PySem.W.nsIn K mainGlobals "ratio_of" = some (some (.ref (He.fAd K ("ratio_of", none)))) := of_decide_eq_true (MoH.exq c.more 57 (t := fun K => decide (PySem.W.nsIn K mainGlobals "ratio_of" = some (some (.ref (He.fAd K ("ratio_of", none)))))) rfl)
  have k9 : PySem.W.keepIn K (.ref (He.fAd K ("ratio_of", none))) = true := MoH.exq c.more 58 (t := fun K => PySem.W.keepIn K (.ref (He.fAd K ("ratio_of", none)))) rfl
  have a10 : PySem.W.nsIn K mainGlobals "whole_parts" = some (some (.ref (He.fAd K ("whole_parts", none)))) := of_decide_eq_true (MoH.exq c.more 59 (t := fun K => decide (PySem.W.nsIn K mainGlobals "whole_parts" = some (some (.ref (He.fAd K ("whole_parts", none)))))) rfl)
  have k10 : PySem.W.keepIn K (.ref (He.fAd K ("whole_parts", none))) = true := MoH.exq c.more 60 (t := fun K => PySem.W.keepIn K (.ref (He.fAd K ("whole_parts", none)))) rfl
  have a11 : PySem.W.nsIn K mainGlobals "_gap" = some (some (.ref (He.fAd K ("_gap", none)))) := of_decide_eq_true (MoH.exq c.more 61 (t := fun K => decide (PySem.W.nsIn K mainGlobals "_gap" = some (some (.ref (He.fAd K ("_gap", none)))))) rfl)
  have k11 : PySem.W.keepIn K (.ref (He.fAd K ("_gap", none))) = true := MoH.exq c.more 62 (t := fun K => PySem.W.keepIn K (.ref (He.fAd K ("_gap", none)))) rfl
  have a12 : PySem.W.nsIn K mainGlobals "trimmed" = some (some (.ref (He.fAd K ("trimmed", none)))) := of_decide_eq_true (MoH.exq c.more 63 (t := fun K => decide (PySem.W.nsIn K mainGlobals "trimmed" = some (some (.ref (He.fAd K ("trimmed", none)))))) rfl)
  have k12 : PySem.W.keepIn K (.ref (He.fAd K ("trimmed", none))) = true := MoH.exq c.more 64 (t := fun K => PySem.W.keepIn K (.ref (He.fAd K ("trimmed", none)))) rfl
  have a13 : PySem.W.nsIn K mainGlobals "mean" = some (some (.ref (He.fAd K ("mean", none)))) := of_decide_eq_true (MoH.exq c.more 65 (t := fun K => decide (PySem.W.nsIn K mainGlobals "mean" = some (some (.ref (He.fAd K ("mean", none)))))) rfl)
  have k13 : PySem.W.keepIn K (.ref (He.fAd K ("mean", none))) = true := MoH.exq c.more 66 (t := fun K => PySem.W.keepIn K (.ref (He.fAd K ("mean", none)))) rfl
  have a14 : PySem.W.nsIn K mainGlobals "row_numbers" = some (some (.ref (He.fAd K ("row_numbers", none)))) := of_decide_eq_true (MoH.exq c.more 67 (t := fun K => decide (PySem.W.nsIn K mainGlobals "row_numbers" = some (some (.ref (He.fAd K ("row_numbers", none)))))) rfl)
  have k14 : PySem.W.keepIn K (.ref (He.fAd K ("row_numbers", none))) = true := MoH.exq c.more 68 (t := fun K => PySem.W.keepIn K (.ref (He.fAd K ("row_numbers", none)))) rfl
  have a15 : PySem.W.nsIn K mainGlobals "paired" = some (some (.ref (He.fAd K ("paired", none)))) := of_decide_eq_true (MoH.exq c.more 69 (t := fun K => decide (PySem.W.nsIn K mainGlobals "paired" = some (some (.ref (He.fAd K ("paired", none)))))) rfl)
  have k15 : PySem.W.keepIn K (.ref (He.fAd K ("paired", none))) = true := MoH.exq c.more 70 (t := fun K => PySem.W.keepIn K (.ref (He.fAd K ("paired", none)))) rfl
  have a16 : PySem.W.nsIn K mainGlobals "_over_one_bottom" = some (some (.ref (He.fAd K ("_over_one_bottom", none)))) := of_decide_eq_true (MoH.exq c.more 71 (t := fun K => decide (PySem.W.nsIn K mainGlobals "_over_one_bottom" = some (some (.ref (He.fAd K ("_over_one_bottom", none)))))) rfl)
  have k16 : PySem.W.keepIn K (.ref (He.fAd K ("_over_one_bottom", none))) = true := MoH.exq c.more 72 (t := fun K => PySem.W.keepIn K (.ref (He.fAd K ("_over_one_bottom", none)))) rfl
  have a17 : PySem.W.findIn K (.ref (He.ga K "Poly")) "__init__" = some (some (.ref (He.fAd K ("Poly", some "__init__")))) := of_decide_eq_true (MoH.exq c.more 73 (t := fun K => decide (PySem.W.findIn K (.ref (He.ga K "Poly")) "__init__" = some (some (.ref (He.fAd K ("Poly", some "__init__")))))) rfl)
  have i17 : PySem.W.isFn K (.ref (He.fAd K ("Poly", some "__init__"))) = true := MoH.exq c.more 74 (t := fun K => PySem.W.isFn K (.ref (He.fAd K ("Poly", some "__init__")))) rfl
  have k17 : PySem.W.keepIn K (.ref (He.fAd K ("Poly", some "__init__"))) = true := MoH.exq c.more 75 (t := fun K => PySem.W.keepIn K (.ref (He.fAd K ("Poly", some "__init__")))) rfl
  have a18 : PySem.W.findIn K (.ref (He.ga K "Poly")) "__eq__" = some (some (.ref (He.fAd K ("Poly", some "__eq__")))) := of_decide_eq_true (MoH.exq c.more 76 (t := fun K => decide (PySem.W.findIn K (.ref (He.ga K "Poly")) "__eq__" = some (some (.ref (He.fAd K ("Poly", some "__eq__")))))) rfl)
  have i18 : PySem.W.isFn K (.ref (He.fAd K ("Poly", some "__eq__"))) = true := MoH.exq c.more 77 (t := fun K => PySem.W.isFn K (.ref (He.fAd K ("Poly", some "__eq__")))) rfl
  have k18 : PySem.W.keepIn K (.ref (He.fAd K ("Poly", some "__eq__"))) = true := MoH.exq c.more 78 (t := fun K => PySem.W.keepIn K (.ref (He.fAd K ("Poly", some "__eq__")))) rfl
  have a19 : PySem.W.findIn K (.ref (He.ga K "Poly")) "__mul__" = some (some (.ref (He.fAd K ("Poly", some "__mul__")))) := of_decide_eq_true (MoH.exq c.more 79 (t := fun K => decide (PySem.W.findIn K (.ref (He.ga K "Poly")) "__mul__" = some (some (.ref (He.fAd K ("Poly", some "__mul__")))))) rfl)
  have i19 : PySem.W.isFn K (.ref (He.fAd K ("Poly", some "__mul__"))) = true := MoH.exq c.more 80 (t := fun K => PySem.W.isFn K (.ref (He.fAd K ("Poly", some "__mul__")))) rfl
  have k19 : PySem.W.keepIn K (.ref (He.fAd K ("Poly", some "__mul__"))) = true := MoH.exq c.more 81 (t := fun K => PySem.W.keepIn K (.ref (He.fAd K ("Poly", some "__mul__")))) rfl
  have a20 : PySem.W.findIn K (.ref (He.ga K "Poly")) "__rmul__" = some (some (.ref (He.fAd K ("Poly", some "__rmul__")))) := of_decide_eq_true (MoH.exq c.more 82 (t := fun K => decide (PySem.W.findIn K (.ref (He.ga K "Poly")) "__rmul__" = some (some (.ref (He.fAd K ("Poly", some "__rmul__")))))) rfl)
  have i20 : PySem.W.isFn K (.ref (He.fAd K ("Poly", some "__rmul__"))) = true := MoH.exq c.more 83 (t := fun K => PySem.W.isFn K (.ref (He.fAd K ("Poly", some "__rmul__")))) rfl
  have k20 : PySem.W.keepIn K (.ref (He.fAd K ("Poly", some "__rmul__"))) = true := MoH.exq c.more 84 (t := fun K => PySem.W.keepIn K (.ref (He.fAd K ("Poly", some "__rmul__")))) rfl
  have a21 : PySem.W.nsIn K mainGlobals "poly_of" = some (some (.ref (He.fAd K ("poly_of", none)))) := of_decide_eq_true (MoH.exq c.more 85 (t := fun K => decide (PySem.W.nsIn K mainGlobals "poly_of" = some (some (.ref (He.fAd K ("poly_of", none)))))) rfl)
  have k21 : PySem.W.keepIn K (.ref (He.fAd K ("poly_of", none))) = true := MoH.exq c.more 86 (t := fun K => PySem.W.keepIn K (.ref (He.fAd K ("poly_of", none)))) rfl
  have a22 : PySem.W.nsIn K mainGlobals "_is_operand" = some (some (.ref (He.fAd K ("_is_operand", none)))) := of_decide_eq_true (MoH.exq c.more 87 (t := fun K => decide (PySem.W.nsIn K mainGlobals "_is_operand" = some (some (.ref (He.fAd K ("_is_operand", none)))))) rfl)
  have k22 : PySem.W.keepIn K (.ref (He.fAd K ("_is_operand", none))) = true := MoH.exq c.more 88 (t := fun K => PySem.W.keepIn K (.ref (He.fAd K ("_is_operand", none)))) rfl
  have a23 : PySem.W.nsIn K mainGlobals "product_polys" = some (some (.ref (He.fAd K ("product_polys", none)))) := of_decide_eq_true (MoH.exq c.more 89 (t := fun K => decide (PySem.W.nsIn K mainGlobals "product_polys" = some (some (.ref (He.fAd K ("product_polys", none)))))) rfl)
  have k23 : PySem.W.keepIn K (.ref (He.fAd K ("product_polys", none))) = true := MoH.exq c.more 90 (t := fun K => PySem.W.keepIn K (.ref (He.fAd K ("product_polys", none)))) rfl
  have a24 : PySem.W.findIn K (.ref (He.ga K "Bar")) "__init__" = some (some (.ref (He.fAd K ("Bar", some "__init__")))) := of_decide_eq_true (MoH.exq c.more 91 (t := fun K => decide (PySem.W.findIn K (.ref (He.ga K "Bar")) "__init__" = some (some (.ref (He.fAd K ("Bar", some "__init__")))))) rfl)
  have i24 : PySem.W.isFn K (.ref (He.fAd K ("Bar", some "__init__"))) = true := MoH.exq c.more 92 (t := fun K => PySem.W.isFn K (.ref (He.fAd K ("Bar", some "__init__")))) rfl
  have k24 : PySem.W.keepIn K (.ref (He.fAd K ("Bar", some "__init__"))) = true := MoH.exq c.more 93 (t := fun K => PySem.W.keepIn K (.ref (He.fAd K ("Bar", some "__init__")))) rfl
  have a25 : PySem.W.findIn K (.ref (He.ga K "Bar")) "product" = some (some (.ref (He.fAd K ("Bar", some "product")))) := of_decide_eq_true (MoH.exq c.more 94 (t := fun K => decide (PySem.W.findIn K (.ref (He.ga K "Bar")) "product" = some (some (.ref (He.fAd K ("Bar", some "product")))))) rfl)
  have i25 : PySem.W.isFn K (.ref (He.fAd K ("Bar", some "product"))) = true := MoH.exq c.more 95 (t := fun K => PySem.W.isFn K (.ref (He.fAd K ("Bar", some "product")))) rfl
  have k25 : PySem.W.keepIn K (.ref (He.fAd K ("Bar", some "product"))) = true := MoH.exq c.more 96 (t := fun K => PySem.W.keepIn K (.ref (He.fAd K ("Bar", some "product")))) rfl
  have a26 : PySem.W.nsIn K mainGlobals "check_bar" = some (some (.ref (He.fAd K ("check_bar", none)))) := of_decide_eq_true (MoH.exq c.more 97 (t := fun K => decide (PySem.W.nsIn K mainGlobals "check_bar" = some (some (.ref (He.fAd K ("check_bar", none)))))) rfl)
  have k26 : PySem.W.keepIn K (.ref (He.fAd K ("check_bar", none))) = true := MoH.exq c.more 98 (t := fun K => PySem.W.keepIn K (.ref (He.fAd K ("check_bar", none)))) rfl
  have a27 : PySem.W.findIn K (.ref (He.ga K "Place")) "__init__" = some (some (.ref (He.fAd K ("Place", some "__init__")))) := of_decide_eq_true (MoH.exq c.more 99 (t := fun K => decide (PySem.W.findIn K (.ref (He.ga K "Place")) "__init__" = some (some (.ref (He.fAd K ("Place", some "__init__")))))) rfl)
  have i27 : PySem.W.isFn K (.ref (He.fAd K ("Place", some "__init__"))) = true := MoH.exq c.more 100 (t := fun K => PySem.W.isFn K (.ref (He.fAd K ("Place", some "__init__")))) rfl
  have k27 : PySem.W.keepIn K (.ref (He.fAd K ("Place", some "__init__"))) = true := MoH.exq c.more 101 (t := fun K => PySem.W.keepIn K (.ref (He.fAd K ("Place", some "__init__")))) rfl
  have a28 : PySem.W.findIn K (.ref (He.ga K "Place")) "all_factors" = some (some (.ref (He.fAd K ("Place", some "all_factors")))) := of_decide_eq_true (MoH.exq c.more 102 (t := fun K => decide (PySem.W.findIn K (.ref (He.ga K "Place")) "all_factors" = some (some (.ref (He.fAd K ("Place", some "all_factors")))))) rfl)
  have i28 : PySem.W.isFn K (.ref (He.fAd K ("Place", some "all_factors"))) = true := MoH.exq c.more 103 (t := fun K => PySem.W.isFn K (.ref (He.fAd K ("Place", some "all_factors")))) rfl
  have k28 : PySem.W.keepIn K (.ref (He.fAd K ("Place", some "all_factors"))) = true := MoH.exq c.more 104 (t := fun K => PySem.W.keepIn K (.ref (He.fAd K ("Place", some "all_factors")))) rfl
  have a29 : PySem.W.nsIn K mainGlobals "_law_cell" = some (some (.ref (He.fAd K ("_law_cell", none)))) := of_decide_eq_true (MoH.exq c.more 105 (t := fun K => decide (PySem.W.nsIn K mainGlobals "_law_cell" = some (some (.ref (He.fAd K ("_law_cell", none)))))) rfl)
  have k29 : PySem.W.keepIn K (.ref (He.fAd K ("_law_cell", none))) = true := MoH.exq c.more 106 (t := fun K => PySem.W.keepIn K (.ref (He.fAd K ("_law_cell", none)))) rfl
  have a30 : PySem.W.nsIn K mainGlobals "_law_draw" = some (some (.ref (He.fAd K ("_law_draw", none)))) := of_decide_eq_true (MoH.exq c.more 107 (t := fun K => decide (PySem.W.nsIn K mainGlobals "_law_draw" = some (some (.ref (He.fAd K ("_law_draw", none)))))) rfl)
  have k30 : PySem.W.keepIn K (.ref (He.fAd K ("_law_draw", none))) = true := MoH.exq c.more 108 (t := fun K => PySem.W.keepIn K (.ref (He.fAd K ("_law_draw", none)))) rfl
  have a31 : PySem.W.nsIn K mainGlobals "_law_scene" = some (some (.ref (He.fAd K ("_law_scene", none)))) := of_decide_eq_true (MoH.exq c.more 109 (t := fun K => decide (PySem.W.nsIn K mainGlobals "_law_scene" = some (some (.ref (He.fAd K ("_law_scene", none)))))) rfl)
  have k31 : PySem.W.keepIn K (.ref (He.fAd K ("_law_scene", none))) = true := MoH.exq c.more 110 (t := fun K => PySem.W.keepIn K (.ref (He.fAd K ("_law_scene", none)))) rfl
  have a32 : PySem.W.nsIn K mainGlobals "_law_row" = some (some (.ref (He.fAd K ("_law_row", none)))) := of_decide_eq_true (MoH.exq c.more 111 (t := fun K => decide (PySem.W.nsIn K mainGlobals "_law_row" = some (some (.ref (He.fAd K ("_law_row", none)))))) rfl)
  have k32 : PySem.W.keepIn K (.ref (He.fAd K ("_law_row", none))) = true := MoH.exq c.more 112 (t := fun K => PySem.W.keepIn K (.ref (He.fAd K ("_law_row", none)))) rfl
  have a33 : PySem.W.nsIn K mainGlobals "_law_ratios" = some (some (.ref (He.fAd K ("_law_ratios", none)))) := of_decide_eq_true (MoH.exq c.more 113 (t := fun K => decide (PySem.W.nsIn K mainGlobals "_law_ratios" = some (some (.ref (He.fAd K ("_law_ratios", none)))))) rfl)
  have k33 : PySem.W.keepIn K (.ref (He.fAd K ("_law_ratios", none))) = true := MoH.exq c.more 114 (t := fun K => PySem.W.keepIn K (.ref (He.fAd K ("_law_ratios", none)))) rfl
  have a34 : PySem.W.nsIn K mainGlobals "_law_place" = some (some (.ref (He.fAd K ("_law_place", none)))) := of_decide_eq_true (MoH.exq c.more 115 (t := fun K => decide (PySem.W.nsIn K mainGlobals "_law_place" = some (some (.ref (He.fAd K ("_law_place", none)))))) rfl)
  have k34 : PySem.W.keepIn K (.ref (He.fAd K ("_law_place", none))) = true := MoH.exq c.more 116 (t := fun K => PySem.W.keepIn K (.ref (He.fAd K ("_law_place", none)))) rfl
  have a35 : PySem.W.nsIn K mainGlobals "_law_changed" = some (some (.ref (He.fAd K ("_law_changed", none)))) := of_decide_eq_true (MoH.exq c.more 117 (t := fun K => decide (PySem.W.nsIn K mainGlobals "_law_changed" = some (some (.ref (He.fAd K ("_law_changed", none)))))) rfl)
  have k35 : PySem.W.keepIn K (.ref (He.fAd K ("_law_changed", none))) = true := MoH.exq c.more 118 (t := fun K => PySem.W.keepIn K (.ref (He.fAd K ("_law_changed", none)))) rfl
  have a36 : PySem.W.nsIn K mainGlobals "_law_factors" = some (some (.ref (He.fAd K ("_law_factors", none)))) := of_decide_eq_true (MoH.exq c.more 119 (t := fun K => decide (PySem.W.nsIn K mainGlobals "_law_factors" = some (some (.ref (He.fAd K ("_law_factors", none)))))) rfl)
  have k36 : PySem.W.keepIn K (.ref (He.fAd K ("_law_factors", none))) = true := MoH.exq c.more 120 (t := fun K => PySem.W.keepIn K (.ref (He.fAd K ("_law_factors", none)))) rfl
  have a37 : PySem.W.nsIn K mainGlobals "_law_scale" = some (some (.ref (He.fAd K ("_law_scale", none)))) := of_decide_eq_true (MoH.exq c.more 121 (t := fun K => decide (PySem.W.nsIn K mainGlobals "_law_scale" = some (some (.ref (He.fAd K ("_law_scale", none)))))) rfl)
  have k37 : PySem.W.keepIn K (.ref (He.fAd K ("_law_scale", none))) = true := MoH.exq c.more 122 (t := fun K => PySem.W.keepIn K (.ref (He.fAd K ("_law_scale", none)))) rfl
  have a38 : PySem.W.nsIn K mainGlobals "_law_whole" = some (some (.ref (He.fAd K ("_law_whole", none)))) := of_decide_eq_true (MoH.exq c.more 123 (t := fun K => decide (PySem.W.nsIn K mainGlobals "_law_whole" = some (some (.ref (He.fAd K ("_law_whole", none)))))) rfl)
  have k38 : PySem.W.keepIn K (.ref (He.fAd K ("_law_whole", none))) = true := MoH.exq c.more 124 (t := fun K => PySem.W.keepIn K (.ref (He.fAd K ("_law_whole", none)))) rfl
  have a39 : PySem.W.nsIn K mainGlobals "_law_multiply" = some (some (.ref (He.fAd K ("_law_multiply", none)))) := of_decide_eq_true (MoH.exq c.more 125 (t := fun K => decide (PySem.W.nsIn K mainGlobals "_law_multiply" = some (some (.ref (He.fAd K ("_law_multiply", none)))))) rfl)
  have k39 : PySem.W.keepIn K (.ref (He.fAd K ("_law_multiply", none))) = true := MoH.exq c.more 126 (t := fun K => PySem.W.keepIn K (.ref (He.fAd K ("_law_multiply", none)))) rfl
  have a40 : PySem.W.nsIn K mainGlobals "_law_mean" = some (some (.ref (He.fAd K ("_law_mean", none)))) := of_decide_eq_true (MoH.exq c.more 127 (t := fun K => decide (PySem.W.nsIn K mainGlobals "_law_mean" = some (some (.ref (He.fAd K ("_law_mean", none)))))) rfl)
  have k40 : PySem.W.keepIn K (.ref (He.fAd K ("_law_mean", none))) = true := MoH.exq c.more 128 (t := fun K => PySem.W.keepIn K (.ref (He.fAd K ("_law_mean", none)))) rfl
  have a41 : PySem.W.nsIn K mainGlobals "_law_trim" = some (some (.ref (He.fAd K ("_law_trim", none)))) := of_decide_eq_true (MoH.exq c.more 129 (t := fun K => decide (PySem.W.nsIn K mainGlobals "_law_trim" = some (some (.ref (He.fAd K ("_law_trim", none)))))) rfl)
  have k41 : PySem.W.keepIn K (.ref (He.fAd K ("_law_trim", none))) = true := MoH.exq c.more 130 (t := fun K => PySem.W.keepIn K (.ref (He.fAd K ("_law_trim", none)))) rfl
  have a42 : PySem.W.nsIn K mainGlobals "_law_integer" = some (some (.ref (He.fAd K ("_law_integer", none)))) := of_decide_eq_true (MoH.exq c.more 131 (t := fun K => decide (PySem.W.nsIn K mainGlobals "_law_integer" = some (some (.ref (He.fAd K ("_law_integer", none)))))) rfl)
  have k42 : PySem.W.keepIn K (.ref (He.fAd K ("_law_integer", none))) = true := MoH.exq c.more 132 (t := fun K => PySem.W.keepIn K (.ref (He.fAd K ("_law_integer", none)))) rfl
  have a43 : PySem.W.nsIn K mainGlobals "_law_pair" = some (some (.ref (He.fAd K ("_law_pair", none)))) := of_decide_eq_true (MoH.exq c.more 133 (t := fun K => decide (PySem.W.nsIn K mainGlobals "_law_pair" = some (some (.ref (He.fAd K ("_law_pair", none)))))) rfl)
  have k43 : PySem.W.keepIn K (.ref (He.fAd K ("_law_pair", none))) = true := MoH.exq c.more 134 (t := fun K => PySem.W.keepIn K (.ref (He.fAd K ("_law_pair", none)))) rfl
  have a44 : PySem.W.nsIn K mainGlobals "_law_pairs" = some (some (.ref (He.fAd K ("_law_pairs", none)))) := of_decide_eq_true (MoH.exq c.more 135 (t := fun K => decide (PySem.W.nsIn K mainGlobals "_law_pairs" = some (some (.ref (He.fAd K ("_law_pairs", none)))))) rfl)
  have k44 : PySem.W.keepIn K (.ref (He.fAd K ("_law_pairs", none))) = true := MoH.exq c.more 136 (t := fun K => PySem.W.keepIn K (.ref (He.fAd K ("_law_pairs", none)))) rfl
  have a45 : PySem.W.nsIn K mainGlobals "_law_read_poly" = some (some (.ref (He.fAd K ("_law_read_poly", none)))) := of_decide_eq_true (MoH.exq c.more 137 (t := fun K => decide (PySem.W.nsIn K mainGlobals "_law_read_poly" = some (some (.ref (He.fAd K ("_law_read_poly", none)))))) rfl)
  have k45 : PySem.W.keepIn K (.ref (He.fAd K ("_law_read_poly", none))) = true := MoH.exq c.more 138 (t := fun K => PySem.W.keepIn K (.ref (He.fAd K ("_law_read_poly", none)))) rfl
  have a46 : PySem.W.nsIn K mainGlobals "_law_equal_pairs" = some (some (.ref (He.fAd K ("_law_equal_pairs", none)))) := of_decide_eq_true (MoH.exq c.more 139 (t := fun K => decide (PySem.W.nsIn K mainGlobals "_law_equal_pairs" = some (some (.ref (He.fAd K ("_law_equal_pairs", none)))))) rfl)
  have k46 : PySem.W.keepIn K (.ref (He.fAd K ("_law_equal_pairs", none))) = true := MoH.exq c.more 140 (t := fun K => PySem.W.keepIn K (.ref (He.fAd K ("_law_equal_pairs", none)))) rfl
  have a47 : PySem.W.nsIn K mainGlobals "_law_base" = some (some (.ref (He.fAd K ("_law_base", none)))) := of_decide_eq_true (MoH.exq c.more 141 (t := fun K => decide (PySem.W.nsIn K mainGlobals "_law_base" = some (some (.ref (He.fAd K ("_law_base", none)))))) rfl)
  have k47 : PySem.W.keepIn K (.ref (He.fAd K ("_law_base", none))) = true := MoH.exq c.more 142 (t := fun K => PySem.W.keepIn K (.ref (He.fAd K ("_law_base", none)))) rfl
  have a48 : PySem.W.nsIn K mainGlobals "_law_due" = some (some (.ref (He.fAd K ("_law_due", none)))) := of_decide_eq_true (MoH.exq c.more 143 (t := fun K => decide (PySem.W.nsIn K mainGlobals "_law_due" = some (some (.ref (He.fAd K ("_law_due", none)))))) rfl)
  have k48 : PySem.W.keepIn K (.ref (He.fAd K ("_law_due", none))) = true := MoH.exq c.more 144 (t := fun K => PySem.W.keepIn K (.ref (He.fAd K ("_law_due", none)))) rfl
  have a49 : PySem.W.nsIn K mainGlobals "_law_told" = some (some (.ref (He.fAd K ("_law_told", none)))) := of_decide_eq_true (MoH.exq c.more 145 (t := fun K => decide (PySem.W.nsIn K mainGlobals "_law_told" = some (some (.ref (He.fAd K ("_law_told", none)))))) rfl)
  have k49 : PySem.W.keepIn K (.ref (He.fAd K ("_law_told", none))) = true := MoH.exq c.more 146 (t := fun K => PySem.W.keepIn K (.ref (He.fAd K ("_law_told", none)))) rfl
  have a50 : PySem.W.nsIn K mainGlobals "_law_kept" = some (some (.ref (He.fAd K ("_law_kept", none)))) := of_decide_eq_true (MoH.exq c.more 147 (t := fun K => decide (PySem.W.nsIn K mainGlobals "_law_kept" = some (some (.ref (He.fAd K ("_law_kept", none)))))) rfl)
  have k50 : PySem.W.keepIn K (.ref (He.fAd K ("_law_kept", none))) = true := MoH.exq c.more 148 (t := fun K => PySem.W.keepIn K (.ref (He.fAd K ("_law_kept", none)))) rfl
  have a51 : PySem.W.nsIn K mainGlobals "law" = some (some (.ref (He.fAd K ("law", none)))) := of_decide_eq_true (MoH.exq c.more 149 (t := fun K => decide (PySem.W.nsIn K mainGlobals "law" = some (some (.ref (He.fAd K ("law", none)))))) rfl)
  have k51 : PySem.W.keepIn K (.ref (He.fAd K ("law", none))) = true := MoH.exq c.more 150 (t := fun K => PySem.W.keepIn K (.ref (He.fAd K ("law", none)))) rfl
  have fa_kit_RP : PySem.W.kitOne K (.ref (He.ga K "Ratio")) (.ref (He.ga K "Poly")) = some false := of_decide_eq_true (MoH.exq c.more 151 (t := fun K => decide (PySem.W.kitOne K (.ref (He.ga K "Ratio")) (.ref (He.ga K "Poly")) = some false)) rfl)
  have fa_sub_RP : PySem.W.subIn K (.ref (He.ga K "Ratio")) (.ref (He.ga K "Poly")) = some false := of_decide_eq_true (MoH.exq c.more 152 (t := fun K => decide (PySem.W.subIn K (.ref (He.ga K "Ratio")) (.ref (He.ga K "Poly")) = some false)) rfl)
  have fa_sub_PR : PySem.W.subIn K (.ref (He.ga K "Poly")) (.ref (He.ga K "Ratio")) = some false := of_decide_eq_true (MoH.exq c.more 153 (t := fun K => decide (PySem.W.subIn K (.ref (He.ga K "Poly")) (.ref (He.ga K "Ratio")) = some false)) rfl)
  have fa_kit_PR : PySem.W.kitOne K (.ref (He.ga K "Poly")) (.ref (He.ga K "Ratio")) = some false := of_decide_eq_true (MoH.exq c.more 154 (t := fun K => decide (PySem.W.kitOne K (.ref (He.ga K "Poly")) (.ref (He.ga K "Ratio")) = some false)) rfl)
  have z_isinstance : PySem.W.nsIn K mainGlobals "isinstance" = some none := of_decide_eq_true (MoH.exq c.more 155 (t := fun K => decide (PySem.W.nsIn K mainGlobals "isinstance" = some none)) rfl)
  have z_int : PySem.W.nsIn K mainGlobals "int" = some none := of_decide_eq_true (MoH.exq c.more 156 (t := fun K => decide (PySem.W.nsIn K mainGlobals "int" = some none)) rfl)
  have z_bool : PySem.W.nsIn K mainGlobals "bool" = some none := of_decide_eq_true (MoH.exq c.more 157 (t := fun K => decide (PySem.W.nsIn K mainGlobals "bool" = some none)) rfl)
  have z_abs : PySem.W.nsIn K mainGlobals "abs" = some none := of_decide_eq_true (MoH.exq c.more 158 (t := fun K => decide (PySem.W.nsIn K mainGlobals "abs" = some none)) rfl)
  have z_len : PySem.W.nsIn K mainGlobals "len" = some none := of_decide_eq_true (MoH.exq c.more 159 (t := fun K => decide (PySem.W.nsIn K mainGlobals "len" = some none)) rfl)
  have z_max : PySem.W.nsIn K mainGlobals "max" = some none := of_decide_eq_true (MoH.exq c.more 160 (t := fun K => decide (PySem.W.nsIn K mainGlobals "max" = some none)) rfl)
  have z_range : PySem.W.nsIn K mainGlobals "range" = some none := of_decide_eq_true (MoH.exq c.more 161 (t := fun K => decide (PySem.W.nsIn K mainGlobals "range" = some none)) rfl)
  have z_list : PySem.W.nsIn K mainGlobals "list" = some none := of_decide_eq_true (MoH.exq c.more 162 (t := fun K => decide (PySem.W.nsIn K mainGlobals "list" = some none)) rfl)
  have z_tuple : PySem.W.nsIn K mainGlobals "tuple" = some none := of_decide_eq_true (MoH.exq c.more 163 (t := fun K => decide (PySem.W.nsIn K mainGlobals "tuple" = some none)) rfl)
  have z_min : PySem.W.nsIn K mainGlobals "min" = some none := of_decide_eq_true (MoH.exq c.more 164 (t := fun K => decide (PySem.W.nsIn K mainGlobals "min" = some none)) rfl)
  have z_sum : PySem.W.nsIn K mainGlobals "sum" = some none := of_decide_eq_true (MoH.exq c.more 165 (t := fun K => decide (PySem.W.nsIn K mainGlobals "sum" = some none)) rfl)
  have z_any : PySem.W.nsIn K mainGlobals "any" = some none := of_decide_eq_true (MoH.exq c.more 166 (t := fun K => decide (PySem.W.nsIn K mainGlobals "any" = some none)) rfl)
  have z_all : PySem.W.nsIn K mainGlobals "all" = some none := of_decide_eq_true (MoH.exq c.more 167 (t := fun K => decide (PySem.W.nsIn K mainGlobals "all" = some none)) rfl)
  have z_NotImplemented : PySem.W.nsIn K mainGlobals "NotImplemented" = some none := of_decide_eq_true (MoH.exq c.more 168 (t := fun K => decide (PySem.W.nsIn K mainGlobals "NotImplemented" = some none)) rfl)
  have j_gcd : PySem.W.nsIn K mainGlobals "gcd" = some (some (.builtin "math.gcd")) := of_decide_eq_true (MoH.exq c.more 169 (t := fun K => decide (PySem.W.nsIn K mainGlobals "gcd" = some (some (.builtin "math.gcd")))) rfl)
  have j_lcm : PySem.W.nsIn K mainGlobals "lcm" = some (some (.builtin "math.lcm")) := of_decide_eq_true (MoH.exq c.more 170 (t := fun K => decide (PySem.W.nsIn K mainGlobals "lcm" = some (some (.builtin "math.lcm")))) rfl)
  obtain ⟨fd0, E0⟩ := c.t.d.def_ 0 (d := dd0) rfl
  have F0 : Fun K "__init__" "NoBar.__init__" s_NoBar___init__ (He.fAd K ("NoBar", some "__init__")) fd0 := MoH.fun_ofD E0
  obtain ⟨fd1, E1⟩ := c.t.d.def_ 1 (d := dd1) rfl
  have F1 : FunD K "__init__" "Ratio.__init__" (defArgs s_Ratio___init__) (defBody s_Ratio___init__) (defScope s_Ratio___init__) [.int 1] [] (He.fAd K ("Ratio", some "__init__")) fd1 := E1
  obtain ⟨fd2, E2⟩ := c.t.d.def_ 2 (d := dd2) rfl
  have F2 : Fun K "__neg__" "Ratio.__neg__" s_Ratio___neg__ (He.fAd K ("Ratio", some "__neg__")) fd2 := MoH.fun_ofD E2
  obtain ⟨fd3, E3⟩ := c.t.d.def_ 3 (d := dd3) rfl
  have F3 : Fun K "__eq__" "Ratio.__eq__" s_Ratio___eq__ (He.fAd K ("Ratio", some "__eq__")) fd3 := MoH.fun_ofD E3
  obtain ⟨fd4, E4⟩ := c.t.d.def_ 4 (d := dd4) rfl
  have F4 : Fun K "__ne__" "Ratio.__ne__" s_Ratio___ne__ (He.fAd K ("Ratio", some "__ne__")) fd4 := MoH.fun_ofD E4
  obtain ⟨fd5, E5⟩ := c.t.d.def_ 5 (d := dd5) rfl
  have F5 : Fun K "__lt__" "Ratio.__lt__" s_Ratio___lt__ (He.fAd K ("Ratio", some "__lt__")) fd5 := MoH.fun_ofD E5
  obtain ⟨fd6, E6⟩ := c.t.d.def_ 6 (d := dd6) rfl
  have F6 : Fun K "__ge__" "Ratio.__ge__" s_Ratio___ge__ (He.fAd K ("Ratio", some "__ge__")) fd6 := MoH.fun_ofD E6
  obtain ⟨fd7, E7⟩ := c.t.d.def_ 7 (d := dd7) rfl
  have F7 : Fun K "is_whole" "is_whole" s_is_whole (He.fAd K ("is_whole", none)) fd7 := MoH.fun_ofD E7
  obtain ⟨fd8, E8⟩ := c.t.d.def_ 8 (d := dd8) rfl
  have F8 : Fun K "is_number" "is_number" s_is_number (He.fAd K ("is_number", none)) fd8 := MoH.fun_ofD E8
  obtain ⟨fd9, E9⟩ := c.t.d.def_ 9 (d := dd9) rfl
  have F9 : Fun K "ratio_of" "ratio_of" s_ratio_of (He.fAd K ("ratio_of", none)) fd9 := MoH.fun_ofD E9
  obtain ⟨fd10, E10⟩ := c.t.d.def_ 10 (d := dd10) rfl
  have F10 : Fun K "whole_parts" "whole_parts" s_whole_parts (He.fAd K ("whole_parts", none)) fd10 := MoH.fun_ofD E10
  obtain ⟨fd11, E11⟩ := c.t.d.def_ 11 (d := dd11) rfl
  have F11 : Fun K "_gap" "_gap" s__gap (He.fAd K ("_gap", none)) fd11 := MoH.fun_ofD E11
  obtain ⟨fd12, E12⟩ := c.t.d.def_ 12 (d := dd12) rfl
  have F12 : Fun K "trimmed" "trimmed" s_trimmed (He.fAd K ("trimmed", none)) fd12 := MoH.fun_ofD E12
  obtain ⟨fd13, E13⟩ := c.t.d.def_ 13 (d := dd13) rfl
  have F13 : Fun K "mean" "mean" s_mean (He.fAd K ("mean", none)) fd13 := MoH.fun_ofD E13
  obtain ⟨fd14, E14⟩ := c.t.d.def_ 14 (d := dd14) rfl
  have F14 : Fun K "row_numbers" "row_numbers" s_row_numbers (He.fAd K ("row_numbers", none)) fd14 := MoH.fun_ofD E14
  obtain ⟨fd15, E15⟩ := c.t.d.def_ 15 (d := dd15) rfl
  have F15 : Fun K "paired" "paired" s_paired (He.fAd K ("paired", none)) fd15 := MoH.fun_ofD E15
  obtain ⟨fd16, E16⟩ := c.t.d.def_ 16 (d := dd16) rfl
  have F16 : Fun K "_over_one_bottom" "_over_one_bottom" s__over_one_bottom (He.fAd K ("_over_one_bottom", none)) fd16 := MoH.fun_ofD E16
  obtain ⟨fd17, E17⟩ := c.t.d.def_ 17 (d := dd17) rfl
  have F17 : Fun K "__init__" "Poly.__init__" s_Poly___init__ (He.fAd K ("Poly", some "__init__")) fd17 := MoH.fun_ofD E17
  obtain ⟨fd18, E18⟩ := c.t.d.def_ 18 (d := dd18) rfl
  have F18 : Fun K "__eq__" "Poly.__eq__" s_Poly___eq__ (He.fAd K ("Poly", some "__eq__")) fd18 := MoH.fun_ofD E18
  obtain ⟨fd19, E19⟩ := c.t.d.def_ 19 (d := dd19) rfl
  have F19 : Fun K "__mul__" "Poly.__mul__" s_Poly___mul__ (He.fAd K ("Poly", some "__mul__")) fd19 := MoH.fun_ofD E19
  obtain ⟨fd20, E20⟩ := c.t.d.def_ 20 (d := dd20) rfl
  have F20 : Fun K "__rmul__" "Poly.__rmul__" s_Poly___rmul__ (He.fAd K ("Poly", some "__rmul__")) fd20 := MoH.fun_ofD E20
  obtain ⟨fd21, E21⟩ := c.t.d.def_ 21 (d := dd21) rfl
  have F21 : Fun K "poly_of" "poly_of" s_poly_of (He.fAd K ("poly_of", none)) fd21 := MoH.fun_ofD E21
  obtain ⟨fd22, E22⟩ := c.t.d.def_ 22 (d := dd22) rfl
  have F22 : Fun K "_is_operand" "_is_operand" s__is_operand (He.fAd K ("_is_operand", none)) fd22 := MoH.fun_ofD E22
  obtain ⟨fd23, E23⟩ := c.t.d.def_ 23 (d := dd23) rfl
  have F23 : Fun K "_product" "_product" s_product_polys (He.fAd K ("product_polys", none)) fd23 := MoH.fun_ofD E23
  obtain ⟨fd24, E24⟩ := c.t.d.def_ 24 (d := dd24) rfl
  have F24 : FunD K "__init__" "Bar.__init__" (defArgs s_Bar___init__) (defBody s_Bar___init__) (defScope s_Bar___init__) [.non] [] (He.fAd K ("Bar", some "__init__")) fd24 := E24
  obtain ⟨fd25, E25⟩ := c.t.d.def_ 25 (d := dd25) rfl
  have F25 : Fun K "product" "Bar.product" s_Bar_product (He.fAd K ("Bar", some "product")) fd25 := MoH.fun_ofD E25
  obtain ⟨fd26, E26⟩ := c.t.d.def_ 26 (d := dd26) rfl
  have F26 : Fun K "check_bar" "check_bar" s_check_bar (He.fAd K ("check_bar", none)) fd26 := MoH.fun_ofD E26
  obtain ⟨fd27, E27⟩ := c.t.d.def_ 27 (d := dd27) rfl
  have F27 : FunD K "__init__" "Place.__init__" (defArgs s_Place___init__) (defBody s_Place___init__) (defScope s_Place___init__) [.non, .non] [] (He.fAd K ("Place", some "__init__")) fd27 := E27
  obtain ⟨fd28, E28⟩ := c.t.d.def_ 28 (d := dd28) rfl
  have F28 : Fun K "all_factors" "Place.all_factors" s_Place_all_factors (He.fAd K ("Place", some "all_factors")) fd28 := MoH.fun_ofD E28
  obtain ⟨fd29, E29⟩ := c.t.d.def_ 29 (d := dd29) rfl
  have F29 : Fun K "_law_cell" "_law_cell" s__law_cell (He.fAd K ("_law_cell", none)) fd29 := MoH.fun_ofD E29
  obtain ⟨fd30, E30⟩ := c.t.d.def_ 30 (d := dd30) rfl
  have F30 : Fun K "_law_draw" "_law_draw" s__law_draw (He.fAd K ("_law_draw", none)) fd30 := MoH.fun_ofD E30
  obtain ⟨fd31, E31⟩ := c.t.d.def_ 31 (d := dd31) rfl
  have F31 : Fun K "_law_scene" "_law_scene" s__law_scene (He.fAd K ("_law_scene", none)) fd31 := MoH.fun_ofD E31
  obtain ⟨fd32, E32⟩ := c.t.d.def_ 32 (d := dd32) rfl
  have F32 : Fun K "_law_row" "_law_row" s__law_row (He.fAd K ("_law_row", none)) fd32 := MoH.fun_ofD E32
  obtain ⟨fd33, E33⟩ := c.t.d.def_ 33 (d := dd33) rfl
  have F33 : Fun K "_law_ratios" "_law_ratios" s__law_ratios (He.fAd K ("_law_ratios", none)) fd33 := MoH.fun_ofD E33
  obtain ⟨fd34, E34⟩ := c.t.d.def_ 34 (d := dd34) rfl
  have F34 : Fun K "_law_place" "_law_place" s__law_place (He.fAd K ("_law_place", none)) fd34 := MoH.fun_ofD E34
  obtain ⟨fd35, E35⟩ := c.t.d.def_ 35 (d := dd35) rfl
  have F35 : Fun K "_law_changed" "_law_changed" s__law_changed (He.fAd K ("_law_changed", none)) fd35 := MoH.fun_ofD E35
  obtain ⟨fd36, E36⟩ := c.t.d.def_ 36 (d := dd36) rfl
  have F36 : Fun K "_law_factors" "_law_factors" s__law_factors (He.fAd K ("_law_factors", none)) fd36 := MoH.fun_ofD E36
  obtain ⟨fd37, E37⟩ := c.t.d.def_ 37 (d := dd37) rfl
  have F37 : Fun K "_law_scale" "_law_scale" s__law_scale (He.fAd K ("_law_scale", none)) fd37 := MoH.fun_ofD E37
  obtain ⟨fd38, E38⟩ := c.t.d.def_ 38 (d := dd38) rfl
  have F38 : Fun K "_law_whole" "_law_whole" s__law_whole (He.fAd K ("_law_whole", none)) fd38 := MoH.fun_ofD E38
  obtain ⟨fd39, E39⟩ := c.t.d.def_ 39 (d := dd39) rfl
  have F39 : Fun K "_law_multiply" "_law_multiply" s__law_multiply (He.fAd K ("_law_multiply", none)) fd39 := MoH.fun_ofD E39
  obtain ⟨fd40, E40⟩ := c.t.d.def_ 40 (d := dd40) rfl
  have F40 : Fun K "_law_mean" "_law_mean" s__law_mean (He.fAd K ("_law_mean", none)) fd40 := MoH.fun_ofD E40
  obtain ⟨fd41, E41⟩ := c.t.d.def_ 41 (d := dd41) rfl
  have F41 : Fun K "_law_trim" "_law_trim" s__law_trim (He.fAd K ("_law_trim", none)) fd41 := MoH.fun_ofD E41
  obtain ⟨fd42, E42⟩ := c.t.d.def_ 42 (d := dd42) rfl
  have F42 : Fun K "_law_integer" "_law_integer" s__law_integer (He.fAd K ("_law_integer", none)) fd42 := MoH.fun_ofD E42
  obtain ⟨fd43, E43⟩ := c.t.d.def_ 43 (d := dd43) rfl
  have F43 : Fun K "_law_pair" "_law_pair" s__law_pair (He.fAd K ("_law_pair", none)) fd43 := MoH.fun_ofD E43
  obtain ⟨fd44, E44⟩ := c.t.d.def_ 44 (d := dd44) rfl
  have F44 : Fun K "_law_pairs" "_law_pairs" s__law_pairs (He.fAd K ("_law_pairs", none)) fd44 := MoH.fun_ofD E44
  obtain ⟨fd45, E45⟩ := c.t.d.def_ 45 (d := dd45) rfl
  have F45 : Fun K "_law_read_poly" "_law_read_poly" s__law_read_poly (He.fAd K ("_law_read_poly", none)) fd45 := MoH.fun_ofD E45
  obtain ⟨fd46, E46⟩ := c.t.d.def_ 46 (d := dd46) rfl
  have F46 : Fun K "_law_equal_pairs" "_law_equal_pairs" s__law_equal_pairs (He.fAd K ("_law_equal_pairs", none)) fd46 := MoH.fun_ofD E46
  obtain ⟨fd47, E47⟩ := c.t.d.def_ 47 (d := dd47) rfl
  have F47 : Fun K "_law_base" "_law_base" s__law_base (He.fAd K ("_law_base", none)) fd47 := MoH.fun_ofD E47
  obtain ⟨fd48, E48⟩ := c.t.d.def_ 48 (d := dd48) rfl
  have F48 : Fun K "_law_due" "_law_due" s__law_due (He.fAd K ("_law_due", none)) fd48 := MoH.fun_ofD E48
  obtain ⟨fd49, E49⟩ := c.t.d.def_ 49 (d := dd49) rfl
  have F49 : Fun K "_law_told" "_law_told" s__law_told (He.fAd K ("_law_told", none)) fd49 := MoH.fun_ofD E49
  obtain ⟨fd50, E50⟩ := c.t.d.def_ 50 (d := dd50) rfl
  have F50 : Fun K "_law_kept" "_law_kept" s__law_kept (He.fAd K ("_law_kept", none)) fd50 := MoH.fun_ofD E50
  obtain ⟨fd51, E51⟩ := c.t.d.def_ 51 (d := dd51) rfl
  have F51 : Fun K "law" "law" s_law (He.fAd K ("law", none)) fd51 := MoH.fun_ofD E51
  have e := hfa.symm.trans (PySem.W.mg_of X G a51)
  cases e
  let A : Ad := { Ratio := (He.ga K "Ratio"), Poly := (He.ga K "Poly"), Place := (He.ga K "Place"), Bar := (He.ga K "Bar"), NoBar := (He.ga K "NoBar"), MeansError := (He.ga K "MeansError"), f_NoBar___init__ := He.fAd K ("NoBar", some "__init__"), f_Ratio___init__ := He.fAd K ("Ratio", some "__init__"), f_Ratio___neg__ := He.fAd K ("Ratio", some "__neg__"), f_Ratio___eq__ := He.fAd K ("Ratio", some "__eq__"), f_Ratio___ne__ := He.fAd K ("Ratio", some "__ne__"), f_Ratio___lt__ := He.fAd K ("Ratio", some "__lt__"), f_Ratio___ge__ := He.fAd K ("Ratio", some "__ge__"), f_is_whole := He.fAd K ("is_whole", none), f_is_number := He.fAd K ("is_number", none), f_ratio_of := He.fAd K ("ratio_of", none), f_whole_parts := He.fAd K ("whole_parts", none), f__gap := He.fAd K ("_gap", none), f_trimmed := He.fAd K ("trimmed", none), f_mean := He.fAd K ("mean", none), f_row_numbers := He.fAd K ("row_numbers", none), f_paired := He.fAd K ("paired", none), f__over_one_bottom := He.fAd K ("_over_one_bottom", none), f_Poly___init__ := He.fAd K ("Poly", some "__init__"), f_Poly___eq__ := He.fAd K ("Poly", some "__eq__"), f_Poly___mul__ := He.fAd K ("Poly", some "__mul__"), f_Poly___rmul__ := He.fAd K ("Poly", some "__rmul__"), f_poly_of := He.fAd K ("poly_of", none), f__is_operand := He.fAd K ("_is_operand", none), f_product_polys := He.fAd K ("product_polys", none), f_Bar___init__ := He.fAd K ("Bar", some "__init__"), f_Bar_product := He.fAd K ("Bar", some "product"), f_check_bar := He.fAd K ("check_bar", none), f_Place___init__ := He.fAd K ("Place", some "__init__"), f_Place_all_factors := He.fAd K ("Place", some "all_factors"), f__law_cell := He.fAd K ("_law_cell", none), f__law_draw := He.fAd K ("_law_draw", none), f__law_scene := He.fAd K ("_law_scene", none), f__law_row := He.fAd K ("_law_row", none), f__law_ratios := He.fAd K ("_law_ratios", none), f__law_place := He.fAd K ("_law_place", none), f__law_changed := He.fAd K ("_law_changed", none), f__law_factors := He.fAd K ("_law_factors", none), f__law_scale := He.fAd K ("_law_scale", none), f__law_whole := He.fAd K ("_law_whole", none), f__law_multiply := He.fAd K ("_law_multiply", none), f__law_mean := He.fAd K ("_law_mean", none), f__law_trim := He.fAd K ("_law_trim", none), f__law_integer := He.fAd K ("_law_integer", none), f__law_pair := He.fAd K ("_law_pair", none), f__law_pairs := He.fAd K ("_law_pairs", none), f__law_read_poly := He.fAd K ("_law_read_poly", none), f__law_equal_pairs := He.fAd K ("_law_equal_pairs", none), f__law_base := He.fAd K ("_law_base", none), f__law_due := He.fAd K ("_law_due", none), f__law_told := He.fAd K ("_law_told", none), f__law_kept := He.fAd K ("_law_kept", none), f_law := He.fAd K ("law", none) }
  let D : Fd := { f_NoBar___init__ := fd0, f_Ratio___init__ := fd1, f_Ratio___neg__ := fd2, f_Ratio___eq__ := fd3, f_Ratio___ne__ := fd4, f_Ratio___lt__ := fd5, f_Ratio___ge__ := fd6, f_is_whole := fd7, f_is_number := fd8, f_ratio_of := fd9, f_whole_parts := fd10, f__gap := fd11, f_trimmed := fd12, f_mean := fd13, f_row_numbers := fd14, f_paired := fd15, f__over_one_bottom := fd16, f_Poly___init__ := fd17, f_Poly___eq__ := fd18, f_Poly___mul__ := fd19, f_Poly___rmul__ := fd20, f_poly_of := fd21, f__is_operand := fd22, f_product_polys := fd23, f_Bar___init__ := fd24, f_Bar_product := fd25, f_check_bar := fd26, f_Place___init__ := fd27, f_Place_all_factors := fd28, f__law_cell := fd29, f__law_draw := fd30, f__law_scene := fd31, f__law_row := fd32, f__law_ratios := fd33, f__law_place := fd34, f__law_changed := fd35, f__law_factors := fd36, f__law_scale := fd37, f__law_whole := fd38, f__law_multiply := fd39, f__law_mean := fd40, f__law_trim := fd41, f__law_integer := fd42, f__law_pair := fd43, f__law_pairs := fd44, f__law_read_poly := fd45, f__law_equal_pairs := fd46, f__law_base := fd47, f__law_due := fd48, f__law_told := fd49, f__law_kept := fd50, f_law := fd51 }
  have T : Txt K mg A D := {
    g_Ratio := PySem.W.mg_of X G g_Ratio,
    kp_Ratio := kc_Ratio,
    M_Ratio := ⟨mk_Ratio, a1, i1, kc_Ratio⟩,
    k_Ratio := MoH.ownK_ok ow_Ratio gd n_top_Ratio n_bottom_Ratio,
    g_Poly := PySem.W.mg_of X G g_Poly,
    kp_Poly := kc_Poly,
    M_Poly := ⟨mk_Poly, a17, i17, kc_Poly⟩,
    k_Poly := MoH.ownB_ok ow_Poly gd,
    n_Poly_coefficients := n_coefficients_Poly,
    n_Poly_degree := n_degree_Poly,
    n_Poly_lead := n_lead_Poly,
    g_Place := PySem.W.mg_of X G g_Place,
    kp_Place := kc_Place,
    M_Place := ⟨mk_Place, a27, i27, kc_Place⟩,
    k_Place := MoH.ownB_ok ow_Place gd,
    n_Place_low := n_low_Place,
    n_Place_high := n_high_Place,
    g_Bar := PySem.W.mg_of X G g_Bar,
    kp_Bar := kc_Bar,
    M_Bar := ⟨mk_Bar, a24, i24, kc_Bar⟩,
    k_Bar := MoH.ownB_ok ow_Bar gd,
    n_Bar_factor := n_factor_Bar,
    n_Bar_base := n_base_Bar,
    n_Bar_other := n_other_Bar,
    g_MeansError := PySem.W.mg_of X G g_MeansError,
    g_NoBar := PySem.W.mg_of X G g_NoBar,
    o_NoBar := (MoH.excB_ok ex_NoBar gd).1,
    x_NoBar := (MoH.excB_ok ex_NoBar gd).2.1,
    c_NoBar := (MoH.excB_ok ex_NoBar gd).2.2.1,
    em_NoBar := (MoH.excB_ok ex_NoBar gd).2.2.2,
    n_NoBar_part := n_NoBar_part,
    i_NoBar := a0,
    ti_NoBar := ti_NoBar,
    kit_RP := fa_kit_RP,
    sub_RP := fa_sub_RP,
    sub_PR := fa_sub_PR,
    kit_PR := fa_kit_PR,
    F_NoBar___init__ := F0,
    b_NoBar___init__ := F0.binds fun _ _ _ _ _ _ us hl => match us, hl with | [_, _], _ => rfl,
    m_NoBar___init__ := ⟨a0, i0, k0⟩,
    F_Ratio___init__ := F1,
    b_Ratio___init__ := by obtain ⟨ds, r, b⟩ := F1.binds1 (ps := ["self", "top", "bottom"]) 3 1 (by simp) rfl (fun _ _ _ _ _ _ _ us its h1 h2 => match us, h1, its, h2 with | [_, _, _], _, [_], _ => ⟨_, rfl, by first | rfl | with_unfolding_all rfl | kernel_rfl⟩); cases r; exact b,
    b1_Ratio___init__ := F1.binds1 (ps := ["self", "top", "bottom"]) 2 0 (by simp) rfl (fun _ _ _ _ _ _ _ us its h1 h2 => match us, h1, its, h2 with | [_, _], _, [_], _ => ⟨_, rfl, by first | rfl | with_unfolding_all rfl | kernel_rfl⟩),
    m_Ratio___init__ := ⟨a1, i1, k1⟩,
    F_Ratio___neg__ := F2,
    b_Ratio___neg__ := F2.binds fun _ _ _ _ _ _ us hl => match us, hl with | [_], _ => rfl,
    m_Ratio___neg__ := ⟨a2, i2, k2⟩,
    F_Ratio___eq__ := F3,
    b_Ratio___eq__ := F3.binds fun _ _ _ _ _ _ us hl => match us, hl with | [_, _], _ => rfl,
    m_Ratio___eq__ := ⟨a3, i3, k3⟩,
    F_Ratio___ne__ := F4,
    b_Ratio___ne__ := F4.binds fun _ _ _ _ _ _ us hl => match us, hl with | [_, _], _ => rfl,
    m_Ratio___ne__ := ⟨a4, i4, k4⟩,
    F_Ratio___lt__ := F5,
    b_Ratio___lt__ := F5.binds fun _ _ _ _ _ _ us hl => match us, hl with | [_, _], _ => rfl,
    m_Ratio___lt__ := ⟨a5, i5, k5⟩,
    F_Ratio___ge__ := F6,
    b_Ratio___ge__ := F6.binds fun _ _ _ _ _ _ us hl => match us, hl with | [_, _], _ => rfl,
    m_Ratio___ge__ := ⟨a6, i6, k6⟩,
    F_is_whole := F7,
    b_is_whole := F7.binds fun _ _ _ _ _ _ us hl => match us, hl with | [_], _ => rfl,
    g_is_whole := PySem.W.mg_of X G a7,
    F_is_number := F8,
    b_is_number := F8.binds fun _ _ _ _ _ _ us hl => match us, hl with | [_], _ => rfl,
    g_is_number := PySem.W.mg_of X G a8,
    F_ratio_of := F9,
    b_ratio_of := F9.binds fun _ _ _ _ _ _ us hl => match us, hl with | [_], _ => rfl,
    g_ratio_of := PySem.W.mg_of X G a9,
    F_whole_parts := F10,
    b_whole_parts := F10.binds fun _ _ _ _ _ _ us hl => match us, hl with | [_], _ => rfl,
    g_whole_parts := PySem.W.mg_of X G a10,
    F__gap := F11,
    b__gap := F11.binds fun _ _ _ _ _ _ us hl => match us, hl with | [_, _], _ => rfl,
    g__gap := PySem.W.mg_of X G a11,
    F_trimmed := F12,
    b_trimmed := F12.binds fun _ _ _ _ _ _ us hl => match us, hl with | [_], _ => rfl,
    g_trimmed := PySem.W.mg_of X G a12,
    F_mean := F13,
    b_mean := F13.binds fun _ _ _ _ _ _ us hl => match us, hl with | [_, _], _ => rfl,
    g_mean := PySem.W.mg_of X G a13,
    F_row_numbers := F14,
    b_row_numbers := F14.binds fun _ _ _ _ _ _ us hl => match us, hl with | [_], _ => rfl,
    g_row_numbers := PySem.W.mg_of X G a14,
    F_paired := F15,
    b_paired := F15.binds fun _ _ _ _ _ _ us hl => match us, hl with | [_, _], _ => rfl,
    g_paired := PySem.W.mg_of X G a15,
    F__over_one_bottom := F16,
    b__over_one_bottom := F16.binds fun _ _ _ _ _ _ us hl => match us, hl with | [_, _], _ => rfl,
    g__over_one_bottom := PySem.W.mg_of X G a16,
    F_Poly___init__ := F17,
    b_Poly___init__ := F17.binds fun _ _ _ _ _ _ us hl => match us, hl with | [_, _], _ => rfl,
    m_Poly___init__ := ⟨a17, i17, k17⟩,
    F_Poly___eq__ := F18,
    b_Poly___eq__ := F18.binds fun _ _ _ _ _ _ us hl => match us, hl with | [_, _], _ => rfl,
    m_Poly___eq__ := ⟨a18, i18, k18⟩,
    F_Poly___mul__ := F19,
    b_Poly___mul__ := F19.binds fun _ _ _ _ _ _ us hl => match us, hl with | [_, _], _ => rfl,
    m_Poly___mul__ := ⟨a19, i19, k19⟩,
    F_Poly___rmul__ := F20,
    b_Poly___rmul__ := F20.binds fun _ _ _ _ _ _ us hl => match us, hl with | [_, _], _ => rfl,
    m_Poly___rmul__ := ⟨a20, i20, k20⟩,
    F_poly_of := F21,
    b_poly_of := F21.binds fun _ _ _ _ _ _ us hl => match us, hl with | [_], _ => rfl,
    g_poly_of := PySem.W.mg_of X G a21,
    F__is_operand := F22,
    b__is_operand := F22.binds fun _ _ _ _ _ _ us hl => match us, hl with | [_], _ => rfl,
    g__is_operand := PySem.W.mg_of X G a22,
    F_product_polys := F23,
    b_product_polys := F23.binds fun _ _ _ _ _ _ us hl => match us, hl with | [_, _], _ => rfl,
    g_product_polys := PySem.W.mg_of X G a23,
    F_Bar___init__ := F24,
    kb_Bar___init__ := F24.kbindsD (ps := ["self", "factor", "base", "other"]) 2 ["base", "other"] (fun us its ws => us ++ ws ++ its.drop 1) (by simp) (fun r1 r2 r3 => (r1.append r3).append (r2.drop 1)) (fun _ _ _ _ _ _ _ us its ws h1 h2 h3 => match us, h1, its, h2, ws, h3 with | [_, _], _, [_], _, [_, _], _ => ⟨_, rfl, by first | rfl | with_unfolding_all rfl | kernel_rfl⟩),
    b_Bar___init__ := by obtain ⟨ds, r, b⟩ := F24.binds1 (ps := ["self", "factor", "base", "other"]) 4 1 (by simp) rfl (fun _ _ _ _ _ _ _ us its h1 h2 => match us, h1, its, h2 with | [_, _, _, _], _, [_], _ => ⟨_, rfl, by first | rfl | with_unfolding_all rfl | kernel_rfl⟩); cases r; exact b,
    b1_Bar___init__ := F24.binds1 (ps := ["self", "factor", "base", "other"]) 3 0 (by simp) rfl (fun _ _ _ _ _ _ _ us its h1 h2 => match us, h1, its, h2 with | [_, _, _], _, [_], _ => ⟨_, rfl, by first | rfl | with_unfolding_all rfl | kernel_rfl⟩),
    m_Bar___init__ := ⟨a24, i24, k24⟩,
    F_Bar_product := F25,
    b_Bar_product := F25.binds fun _ _ _ _ _ _ us hl => match us, hl with | [_], _ => rfl,
    m_Bar_product := ⟨a25, i25, k25⟩,
    F_check_bar := F26,
    b_check_bar := F26.binds fun _ _ _ _ _ _ us hl => match us, hl with | [_, _, _], _ => rfl,
    g_check_bar := PySem.W.mg_of X G a26,
    F_Place___init__ := F27,
    b_Place___init__ := by obtain ⟨ds, r, b⟩ := F27.binds1 (ps := ["self", "low", "high"]) 3 2 (by simp) rfl (fun _ _ _ _ _ _ _ us its h1 h2 => match us, h1, its, h2 with | [_, _, _], _, [_, _], _ => ⟨_, rfl, by first | rfl | with_unfolding_all rfl | kernel_rfl⟩); cases r; exact b,
    b2_Place___init__ := F27.binds1 (ps := ["self", "low", "high"]) 1 0 (by simp) rfl (fun _ _ _ _ _ _ _ us its h1 h2 => match us, h1, its, h2 with | [_], _, [_, _], _ => ⟨_, rfl, by first | rfl | with_unfolding_all rfl | kernel_rfl⟩),
    b1_Place___init__ := F27.binds1 (ps := ["self", "low", "high"]) 2 1 (by simp) rfl (fun _ _ _ _ _ _ _ us its h1 h2 => match us, h1, its, h2 with | [_, _], _, [_, _], _ => ⟨_, rfl, by first | rfl | with_unfolding_all rfl | kernel_rfl⟩),
    m_Place___init__ := ⟨a27, i27, k27⟩,
    F_Place_all_factors := F28,
    b_Place_all_factors := F28.binds fun _ _ _ _ _ _ us hl => match us, hl with | [_], _ => rfl,
    m_Place_all_factors := ⟨a28, i28, k28⟩,
    F__law_cell := F29,
    b__law_cell := F29.binds fun _ _ _ _ _ _ us hl => match us, hl with | [_, _], _ => rfl,
    g__law_cell := PySem.W.mg_of X G a29,
    F__law_draw := F30,
    b__law_draw := F30.binds fun _ _ _ _ _ _ us hl => match us, hl with | [_, _, _], _ => rfl,
    g__law_draw := PySem.W.mg_of X G a30,
    F__law_scene := F31,
    b__law_scene := F31.binds fun _ _ _ _ _ _ us hl => match us, hl with | [_, _], _ => rfl,
    g__law_scene := PySem.W.mg_of X G a31,
    F__law_row := F32,
    b__law_row := F32.binds fun _ _ _ _ _ _ us hl => match us, hl with | [_, _, _, _, _], _ => rfl,
    g__law_row := PySem.W.mg_of X G a32,
    F__law_ratios := F33,
    b__law_ratios := F33.binds fun _ _ _ _ _ _ us hl => match us, hl with | [_], _ => rfl,
    g__law_ratios := PySem.W.mg_of X G a33,
    F__law_place := F34,
    b__law_place := F34.binds fun _ _ _ _ _ _ us hl => match us, hl with | [_, _, _, _], _ => rfl,
    g__law_place := PySem.W.mg_of X G a34,
    F__law_changed := F35,
    b__law_changed := F35.binds fun _ _ _ _ _ _ us hl => match us, hl with | [_, _], _ => rfl,
    g__law_changed := PySem.W.mg_of X G a35,
    F__law_factors := F36,
    b__law_factors := F36.binds fun _ _ _ _ _ _ us hl => match us, hl with | [_, _, _, _], _ => rfl,
    g__law_factors := PySem.W.mg_of X G a36,
    F__law_scale := F37,
    b__law_scale := F37.binds fun _ _ _ _ _ _ us hl => match us, hl with | [_], _ => rfl,
    g__law_scale := PySem.W.mg_of X G a37,
    F__law_whole := F38,
    b__law_whole := F38.binds fun _ _ _ _ _ _ us hl => match us, hl with | [_], _ => rfl,
    g__law_whole := PySem.W.mg_of X G a38,
    F__law_multiply := F39,
    b__law_multiply := F39.binds fun _ _ _ _ _ _ us hl => match us, hl with | [_, _], _ => rfl,
    g__law_multiply := PySem.W.mg_of X G a39,
    F__law_mean := F40,
    b__law_mean := F40.binds fun _ _ _ _ _ _ us hl => match us, hl with | [_, _], _ => rfl,
    g__law_mean := PySem.W.mg_of X G a40,
    F__law_trim := F41,
    b__law_trim := F41.binds fun _ _ _ _ _ _ us hl => match us, hl with | [_], _ => rfl,
    g__law_trim := PySem.W.mg_of X G a41,
    F__law_integer := F42,
    b__law_integer := F42.binds fun _ _ _ _ _ _ us hl => match us, hl with | [_], _ => rfl,
    g__law_integer := PySem.W.mg_of X G a42,
    F__law_pair := F43,
    b__law_pair := F43.binds fun _ _ _ _ _ _ us hl => match us, hl with | [_], _ => rfl,
    g__law_pair := PySem.W.mg_of X G a43,
    F__law_pairs := F44,
    b__law_pairs := F44.binds fun _ _ _ _ _ _ us hl => match us, hl with | [_], _ => rfl,
    g__law_pairs := PySem.W.mg_of X G a44,
    F__law_read_poly := F45,
    b__law_read_poly := F45.binds fun _ _ _ _ _ _ us hl => match us, hl with | [_], _ => rfl,
    g__law_read_poly := PySem.W.mg_of X G a45,
    F__law_equal_pairs := F46,
    b__law_equal_pairs := F46.binds fun _ _ _ _ _ _ us hl => match us, hl with | [_, _], _ => rfl,
    g__law_equal_pairs := PySem.W.mg_of X G a46,
    F__law_base := F47,
    b__law_base := F47.binds fun _ _ _ _ _ _ us hl => match us, hl with | [_, _, _], _ => rfl,
    g__law_base := PySem.W.mg_of X G a47,
    F__law_due := F48,
    b__law_due := F48.binds fun _ _ _ _ _ _ us hl => match us, hl with | [_, _, _, _, _], _ => rfl,
    g__law_due := PySem.W.mg_of X G a48,
    F__law_told := F49,
    b__law_told := F49.binds fun _ _ _ _ _ _ us hl => match us, hl with | [_, _, _], _ => rfl,
    g__law_told := PySem.W.mg_of X G a49,
    F__law_kept := F50,
    b__law_kept := F50.binds fun _ _ _ _ _ _ us hl => match us, hl with | [_, _], _ => rfl,
    g__law_kept := PySem.W.mg_of X G a50,
    F_law := F51,
    b_law := F51.binds fun _ _ _ _ _ _ us hl => match us, hl with | [_], _ => rfl,
    g_law := PySem.W.mg_of X G a51,
    z_isinstance := PySem.W.mg_none_of X G z_isinstance,
    z_int := PySem.W.mg_none_of X G z_int,
    z_bool := PySem.W.mg_none_of X G z_bool,
    z_abs := PySem.W.mg_none_of X G z_abs,
    z_len := PySem.W.mg_none_of X G z_len,
    z_max := PySem.W.mg_none_of X G z_max,
    z_range := PySem.W.mg_none_of X G z_range,
    z_list := PySem.W.mg_none_of X G z_list,
    z_tuple := PySem.W.mg_none_of X G z_tuple,
    z_min := PySem.W.mg_none_of X G z_min,
    z_sum := PySem.W.mg_none_of X G z_sum,
    z_any := PySem.W.mg_none_of X G z_any,
    z_all := PySem.W.mg_none_of X G z_all,
    z_NotImplemented := PySem.W.mg_none_of X G z_NotImplemented,
    g_MOST_NUMBERS := He.int_ok X G (c.t.d.fact 0 (f := .int "MOST_NUMBERS" 13) rfl),
    g_gcd := PySem.W.mg_of X G j_gcd,
    g_lcm := PySem.W.mg_of X G j_lcm }
  exact ⟨fd51, [], sp_law K, (fun _ hp => absurd hp List.not_mem_nil), (fun _ hp => absurd hp List.not_mem_nil), (fun _ hp => absurd hp List.not_mem_nil), fun s v => FunD.bindsA (ps := ["_law_script"]) E51 (fun _ _ _ _ _ _ us hl => match us, hl with | [_], _ => rfl) s [v] rfl, fun H a ns hl _ _ hS => ⟨a, ns, rfl, hS, hl, fun _ => rfl⟩, fun base _ _ _ => ok_law (A := A) (D := D) T⟩
end Mo
open PySem PySem.W PyProof.Rows
set_option maxRecDepth 100000 in
set_option maxHeartbeats 0 in
theorem PySem.Challenge.cw_momentrows_k40_bars_are_checked_holds : PySem.Challenge.rw_momentrows_k40_bars_are_checked.Holds := by
  refine Mo.holds_of ?_
  refine LamX.walk_ofTsE (l := PySem.Challenge.rw_momentrows_k40_bars_are_checked) (n := 63) (k := 14) (x := "_law_script") (CX := fun _ => L2.CX0) rfl (by decide) (by kernel_rfl) ⟨rfl, by decide, by decide⟩ ?F (fun _ _ _ _ _ h => h)
  case F =>
    intro w mg fa h Y G hmg0
    obtain ⟨K, KX, c⟩ := Y
    have hmg : mg ("law" : PySem.Str) = some (.ref fa) := by
      have e : (HandSHeadRun.topDef Mo.RW.prog 78).name = ("law" : PySem.Str) := by kernel_rfl
      rw [← e]
      exact hmg0
    exact ⟨K, KX, Mo.facts KX G hmg c⟩

