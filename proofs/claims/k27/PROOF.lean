import PyProof.Rows.All
import Wide.All
import OpenK.AllK
import Wide.FinOn
import PyProof.ExcClass
import HandS.Base
import HandS.Call
import HandS.Exc
import HandS.Defaults
import HandS.Words
import HandS.Head0
import HandS.Head1
import HandS.Head2
import HandS.Head3
import HandS.HeadHook4
import PySem.Challenge.RW_momentrows_k27_lots_at_given_points
import HandS.Comp
import HandS.WordsList
import HandS.Wide
import HandS.IsInst
import HandS.OwnEq
import HandS.Gcd
import HandS.Style
import HandS.Codes
import HandS.WordsExc
import HandS.ExcInit
import HandS.ExcOwn
import HandS.ExcField
import HandS.ExcIs
import HandS.MakeKw
import HandS.MakeKwOnly
import KE.KExcIs
import HandS.ExcValue
import HandS.EndTab
import HandS.Iter
import KE.KMathGC
import KE.KRevSl
import HandS.Star
import PyProof.InstNe
import PyProof.NeKinds
import HandS.TupAny
import HandS.HeadWalk
import HandS.Conv
set_option Elab.async false
set_option linter.all false
set_option maxRecDepth 100000
set_option maxHeartbeats 4000000
/-! # The small end, first half: what the top has left, as one list of tests that a Hook looks at -/
namespace MoH
open PySem PySem.Spec PyProof.Rows L2 He
abbrev veB : List Value := [.type "ValueError", .type "Exception", .type "BaseException", .type "object"]
abbrev Tst : Type := PySem.W.Frag → Bool
def exAll (L : List Tst) (K : PySem.W.Frag) : Bool := L.all fun t => t K
theorem exq {L : List Tst} {K : PySem.W.Frag} (h : exAll L K = true) (i : Nat) {t : Tst} (e : L[i]? = some t) : t K = true := List.all_eq_true.mp h t (List.mem_of_getElem? e)

/-! ### classes -/
def gdB (K : PySem.W.Frag) : Bool := eqO (PySem.W.specialIn K (.builtin "object.__class__") "__get__") (some (some (.builtin "getset_descriptor.__get__"))) && decide (PySem.W.takesIn K (.builtin "object.__class__") = some true)
def ownB (K : PySem.W.Frag) (C : Addr) : Bool := PySem.W.plainGet K C Str.empty && (PySem.W.hasDictIn K C && (PySem.W.plainOver K C && (eqO (PySem.W.findIn K (.ref C) "__setattr__") (some (some (.builtin "object.__setattr__"))) &&
  (PySem.W.selfFirst K C && (decide (PySem.W.subIn K (.ref C) (.type "int") = some false) && (decide (PySem.W.subIn K (.type "int") (.ref C) = some false) &&
  (eqO (PySem.W.findIn K (.ref C) "__class__") (some (some (.builtin "object.__class__"))) && (decide (PySem.W.mroIn K C (.type "object") = some true) &&
  (decide (PySem.W.kitOne K (.ref C) (.type "int") = some false) && decide (PySem.W.kitOne K (.type "int") (.ref C) = some false))))))))))
/-! ### error classes -/
def errB (K : PySem.W.Frag) (C : Addr) (t : Str → List Value → Bool) : Bool := match K.lookup C with
  | some ⟨.type c, _, .cls cd, sl⟩ => decide (c = "type") && (cd.hasDict && (!cd.hasDel && ((match sl.toList with
    | [_, _, _, _, some (.builtin n), _] => decide (n = "ValueError.__new__")
    | _ => false) && (match cd.mro with
    | v :: bm => decide (v = .ref C) && t cd.name bm
    | _ => false))))
  | _ => false
def rowB (K : PySem.W.Frag) (C : Addr) (nm : Str) (bm : List Value) : Bool := errB K C fun n b => decide (n = nm) && decide (b = bm)
/-- an error class that is raised or caught -/
def excB (K : PySem.W.Frag) (C : Addr) : Bool := errB K C (fun _ b => PySem.HandSPX.refsVE b) && (eqO (PySem.W.findIn K (.ref C) "__setattr__") (some (some (.builtin "object.__setattr__"))) && (eqO (PySem.W.findIn K (.ref C) "__getattribute__") (some (some (.builtin "BaseException.__getattribute__"))) && (eqO (PySem.W.findIn K (.ref C) "__getattr__") (some none) &&
  (eqO (PySem.W.findIn K (.ref C) "__class__") (some (some (.builtin "object.__class__"))) && (decide (PySem.W.mroIn K C (.type "object") = some true) && (PySem.W.keepIn K (.ref C) && (decide (PySem.W.subIn K (.ref C) (.type "BaseException") = some true) && (decide (PySem.W.typeIn K (.ref C) = some (.type "type")) &&
  (PySem.W.hasDictIn K C && decide (PySem.W.subIn K (.ref C) (.ref C) = some true))))))))))
/-- an error class that is made as a value -/
def valB (K : PySem.W.Frag) (M C : Addr) (nm : Str) : Bool := rowB K C nm (.ref M :: veB) && (rowB K M "MeansError" veB && (eqO (PySem.W.findIn K (.ref C) "__setattr__") (some (some (.builtin "object.__setattr__"))) && (eqO (PySem.W.findIn K (.ref C) "__getattribute__") (some (some (.builtin "BaseException.__getattribute__"))) &&
  (eqO (PySem.W.findIn K (.ref C) "__getattr__") (some none) && (eqO (PySem.W.findIn K (.ref C) "__class__") (some (some (.builtin "object.__class__"))) && PySem.W.keepIn K (.ref C))))))
/-! ### a Hook that looks at given addresses alone -/
def told (K : PySem.W.Frag) : List DefD → List FnW
  | [] => []
  | d :: r => fnW K d.at_ :: told K r
def want : List DefD → List FnW
  | [] => []
  | d :: r => d.val :: want r
theorem told_map (K : PySem.W.Frag) : ∀ l, told K l = l.map fun d => fnW K d.at_
  | [] => rfl
  | d :: r => congrArg _ (told_map K r)
theorem want_map : ∀ l, want l = l.map DefD.val
  | [] => rfl
  | d :: r => congrArg _ (want_map r)
section
variable (fa : List Fa) (fn : List DefD) (tf : List Defn) (ex : PySem.W.Frag → Bool)
def sawK (g : Addr → Option Obj) (K : PySem.W.Frag) : Bool × List FnW := (((fa.all fun f => f.ok K) && fn.all fun d => d.ok K) && (ex K && tabsB g tf K), told K fn)
def sawA (as : List Addr) (g : Addr → Option Obj) : Bool × List FnW := sawK fa fn tf ex g (frT g as)
end
theorem said {fa : List Fa} {fn : List DefD} {tf : List Defn} {ex : PySem.W.Frag → Bool} {as : List Addr} {w : World} {h : Heap} (e : sawA fa fn tf ex as h.get? = (true, want fn)) : SaysX fa fn [] tf ex w h (frT h.get? as) := by
  obtain ⟨e1, e2⟩ := Prod.mk.inj (show (_, _) = (_, _) from e)
  obtain ⟨a1, a2⟩ := ba e1
  obtain ⟨b1, b2⟩ := ba a2
  have tb : ∀ p ∈ tf, PySem.W.codeHdIn (frT h.get? as) (cT (frT h.get? as) p).1 (cT (frT h.get? as) p).2 = true ∧ ∃ o, h.get? (cT (frT h.get? as) p).2 = some o ∧ emptyTab o = true := fun p hp => by
    obtain ⟨c1, c2⟩ := ba (List.all_eq_true.mp b2 p hp)
    cases q : h.get? (cT (frT h.get? as) p).2 with
    | none =>
      rw [q] at c2
      cases c2
    | some o =>
      rw [q] at c2
      exact ⟨c1, o, rfl, c2⟩
  have ts : SaysT fa fn [] w (frT h.get? as) := by
    show ((((fa.all fun f => f.ok (frT h.get? as)) && fn.all fun d => d.ok (frT h.get? as)), fn.map fun d => fnW (frT h.get? as) d.at_), ([] : List _)) = ((true, fn.map DefD.val), [])
    rw [a1, ← told_map, ← want_map, e2]
  refine { t := ts, more := b1, hd := fun p hp => (tb p hp).1, out := fun p hp => ?_, empty := fun p hp => ?_ }
  · obtain ⟨_, o, q, z⟩ := tb p hp
    exact frT_none q z
  · obtain ⟨_, o, q, z⟩ := tb p hp
    rw [q, emptyTab_eq z]
def hookA (fa : List Fa) (fn : List DefD) (tf : List Defn) (ex : PySem.W.Frag → Bool) (as : List Addr) : PySem.W.Hook where
  α := Bool × List FnW
  obs := fun s => sawA fa fn tf ex as s.heap.get?
  val := fun _ => (true, want fn)
  says := fun w h => ∃ K : PySem.W.Frag, K.In h ∧ SaysX fa fn [] tf ex w h K
  of := fun _ _ e => ⟨_, frT_in, said e⟩
  keeps := fun _ _ _ ⟨K, hK, c⟩ k => ⟨K, PySem.W.Frag.In.keeps hK k, { t := c.t, more := c.more, hd := c.hd, out := c.out, empty := fun p hp => k _ _ (c.empty p hp) }⟩
theorem sawA_eq {fa : List Fa} {fn : List DefD} {tf : List Defn} {ex : PySem.W.Frag → Bool} {as : List Addr} {s : PySem.W.SharedT} : sawA fa fn tf ex as (HandSHeadRun.getT s) = (hookA fa fn tf ex as).obs s.abs := by
  have e : HandSHeadRun.getT s = s.abs.heap.get? := funext fun a => HandSHeadRun.getT_eq s a
  rw [e]
  rfl

/-! ### two runs in one -/
theorem both_runs {α β γ δ : Type} {X : Option α} {f : α → β} {g : α → γ} {k : α → δ} {b : β} {c : γ} {d : δ} (h1 : X.map (fun s => (f s, g s)) = some (b, c)) (h2 : X.map k = some d) : X.map (fun s => (f s, g s, k s)) = some (b, c, d) := by
  cases X with
  | none => cases h1
  | some x =>
    have e1 : (f x, g x) = (b, c) := Option.some.inj h1
    have e2 : k x = d := Option.some.inj h2
    obtain ⟨e3, e4⟩ := Prod.mk.inj e1
    show some (f x, g x, k x) = some (b, c, d)
    rw [e2, e3, e4]
end MoH

namespace Mo
open PySem PySem.Spec PyProof.Rows L2
/-! ### the text -/
def topS (i : Nat) : Stmt := PySem.Challenge.pw_momentrows_k27_lots_at_given_points.main.body.getD i (.Pass ⟨0, 0, 0, 0⟩)
abbrev s_NoLot___init__ : Stmt := inClass (topS 8) 0
abbrev s_NoNumber___init__ : Stmt := inClass (topS 7) 0
abbrev s_Ratio___init__ : Stmt := inClass (topS 14) 0
abbrev s_Ratio___add__ : Stmt := inClass (topS 14) 1
abbrev s_Ratio___radd__ : Stmt := inClass (topS 14) 2
abbrev s_Ratio___mul__ : Stmt := inClass (topS 14) 5
abbrev s_Ratio___rmul__ : Stmt := inClass (topS 14) 6
abbrev s_Ratio___neg__ : Stmt := inClass (topS 14) 7
abbrev s_Ratio___eq__ : Stmt := inClass (topS 14) 14
abbrev s_Ratio___le__ : Stmt := inClass (topS 14) 17
abbrev s_is_whole : Stmt := topS 15
abbrev s_is_number : Stmt := topS 16
abbrev s_ratio_of : Stmt := topS 17
abbrev s_whole_parts : Stmt := topS 18
abbrev s_sum_ratios : Stmt := topS 19
abbrev s_product_ratios : Stmt := topS 22
abbrev s__gap : Stmt := topS 26
abbrev s_trimmed : Stmt := topS 31
abbrev s_first_powers : Stmt := topS 35
abbrev s_paired : Stmt := topS 45
abbrev s_Poly___init__ : Stmt := inClass (topS 48) 0
abbrev s_Poly___eq__ : Stmt := inClass (topS 48) 2
abbrev s_Poly___mul__ : Stmt := inClass (topS 48) 7
abbrev s_Poly___rmul__ : Stmt := inClass (topS 48) 8
abbrev s_poly_of : Stmt := topS 50
abbrev s__is_operand : Stmt := topS 51
abbrev s_product_polys : Stmt := topS 55
abbrev s_continued : Stmt := topS 62
abbrev s_Sure___init__ : Stmt := inClass (topS 69) 0
abbrev s_Lot___init__ : Stmt := inClass (topS 70) 0
abbrev s_Lot___eq__ : Stmt := inClass (topS 70) 1
abbrev s_Lot_row : Stmt := inClass (topS 70) 4
abbrev s_lot_at : Stmt := topS 71
abbrev s_first_numbers : Stmt := topS 72
abbrev s__are_numbers : Stmt := topS 74
abbrev s__are_points : Stmt := topS 75
abbrev s__law_is_integer : Stmt := topS 78
abbrev s__law_feed : Stmt := topS 79
abbrev s__law_take : Stmt := topS 80
abbrev s__law_number : Stmt := topS 81
abbrev s__law_is : Stmt := topS 82
abbrev s__law_row_is : Stmt := topS 83
abbrev s__law_poly_is : Stmt := topS 84
abbrev s__law_add : Stmt := topS 85
abbrev s__law_lot : Stmt := topS 88
abbrev s__law_numbers : Stmt := topS 89
abbrev s__law_lot_is : Stmt := topS 90
abbrev s__law_flag : Stmt := topS 92
abbrev s__law_part : Stmt := topS 93
abbrev s__law_spoiled : Stmt := topS 94
abbrev s_law : Stmt := topS 95
/-! ### what the top has left -/
def dd0 : He.DefD := ⟨("NoLot", some "__init__"), "__init__", "NoLot.__init__", defArgs s_NoLot___init__, defBody s_NoLot___init__, defScope s_NoLot___init__, [], []⟩
def dd1 : He.DefD := ⟨("NoNumber", some "__init__"), "__init__", "NoNumber.__init__", defArgs s_NoNumber___init__, defBody s_NoNumber___init__, defScope s_NoNumber___init__, [], []⟩
def dd2 : He.DefD := ⟨("Ratio", some "__init__"), "__init__", "Ratio.__init__", defArgs s_Ratio___init__, defBody s_Ratio___init__, defScope s_Ratio___init__, [.int 1], []⟩
def dd3 : He.DefD := ⟨("Ratio", some "__add__"), "__add__", "Ratio.__add__", defArgs s_Ratio___add__, defBody s_Ratio___add__, defScope s_Ratio___add__, [], []⟩
def dd4 : He.DefD := ⟨("Ratio", some "__radd__"), "__radd__", "Ratio.__radd__", defArgs s_Ratio___radd__, defBody s_Ratio___radd__, defScope s_Ratio___radd__, [], []⟩
def dd5 : He.DefD := ⟨("Ratio", some "__mul__"), "__mul__", "Ratio.__mul__", defArgs s_Ratio___mul__, defBody s_Ratio___mul__, defScope s_Ratio___mul__, [], []⟩
def dd6 : He.DefD := ⟨("Ratio", some "__rmul__"), "__rmul__", "Ratio.__rmul__", defArgs s_Ratio___rmul__, defBody s_Ratio___rmul__, defScope s_Ratio___rmul__, [], []⟩
def dd7 : He.DefD := ⟨("Ratio", some "__neg__"), "__neg__", "Ratio.__neg__", defArgs s_Ratio___neg__, defBody s_Ratio___neg__, defScope s_Ratio___neg__, [], []⟩
def dd8 : He.DefD := ⟨("Ratio", some "__eq__"), "__eq__", "Ratio.__eq__", defArgs s_Ratio___eq__, defBody s_Ratio___eq__, defScope s_Ratio___eq__, [], []⟩
def dd9 : He.DefD := ⟨("Ratio", some "__le__"), "__le__", "Ratio.__le__", defArgs s_Ratio___le__, defBody s_Ratio___le__, defScope s_Ratio___le__, [], []⟩
def dd10 : He.DefD := ⟨("is_whole", none), "is_whole", "is_whole", defArgs s_is_whole, defBody s_is_whole, defScope s_is_whole, [], []⟩
def dd11 : He.DefD := ⟨("is_number", none), "is_number", "is_number", defArgs s_is_number, defBody s_is_number, defScope s_is_number, [], []⟩
def dd12 : He.DefD := ⟨("ratio_of", none), "ratio_of", "ratio_of", defArgs s_ratio_of, defBody s_ratio_of, defScope s_ratio_of, [], []⟩
def dd13 : He.DefD := ⟨("whole_parts", none), "whole_parts", "whole_parts", defArgs s_whole_parts, defBody s_whole_parts, defScope s_whole_parts, [], []⟩
def dd14 : He.DefD := ⟨("sum_ratios", none), "_sum", "_sum", defArgs s_sum_ratios, defBody s_sum_ratios, defScope s_sum_ratios, [], []⟩
def dd15 : He.DefD := ⟨("product_ratios", none), "_product", "_product", defArgs s_product_ratios, defBody s_product_ratios, defScope s_product_ratios, [], []⟩
def dd16 : He.DefD := ⟨("_gap", none), "_gap", "_gap", defArgs s__gap, defBody s__gap, defScope s__gap, [], []⟩
def dd17 : He.DefD := ⟨("trimmed", none), "trimmed", "trimmed", defArgs s_trimmed, defBody s_trimmed, defScope s_trimmed, [], []⟩
def dd18 : He.DefD := ⟨("first_powers", none), "first_powers", "first_powers", defArgs s_first_powers, defBody s_first_powers, defScope s_first_powers, [], []⟩
def dd19 : He.DefD := ⟨("paired", none), "paired", "paired", defArgs s_paired, defBody s_paired, defScope s_paired, [], []⟩
def dd20 : He.DefD := ⟨("Poly", some "__init__"), "__init__", "Poly.__init__", defArgs s_Poly___init__, defBody s_Poly___init__, defScope s_Poly___init__, [], []⟩
def dd21 : He.DefD := ⟨("Poly", some "__eq__"), "__eq__", "Poly.__eq__", defArgs s_Poly___eq__, defBody s_Poly___eq__, defScope s_Poly___eq__, [], []⟩
def dd22 : He.DefD := ⟨("Poly", some "__mul__"), "__mul__", "Poly.__mul__", defArgs s_Poly___mul__, defBody s_Poly___mul__, defScope s_Poly___mul__, [], []⟩
def dd23 : He.DefD := ⟨("Poly", some "__rmul__"), "__rmul__", "Poly.__rmul__", defArgs s_Poly___rmul__, defBody s_Poly___rmul__, defScope s_Poly___rmul__, [], []⟩
def dd24 : He.DefD := ⟨("poly_of", none), "poly_of", "poly_of", defArgs s_poly_of, defBody s_poly_of, defScope s_poly_of, [], []⟩
def dd25 : He.DefD := ⟨("_is_operand", none), "_is_operand", "_is_operand", defArgs s__is_operand, defBody s__is_operand, defScope s__is_operand, [], []⟩
def dd26 : He.DefD := ⟨("product_polys", none), "_product", "_product", defArgs s_product_polys, defBody s_product_polys, defScope s_product_polys, [], []⟩
def dd27 : He.DefD := ⟨("continued", none), "continued", "continued", defArgs s_continued, defBody s_continued, defScope s_continued, [], []⟩
def dd28 : He.DefD := ⟨("Sure", some "__init__"), "__init__", "Sure.__init__", defArgs s_Sure___init__, defBody s_Sure___init__, defScope s_Sure___init__, [], []⟩
def dd29 : He.DefD := ⟨("Lot", some "__init__"), "__init__", "Lot.__init__", defArgs s_Lot___init__, defBody s_Lot___init__, defScope s_Lot___init__, [], []⟩
def dd30 : He.DefD := ⟨("Lot", some "__eq__"), "__eq__", "Lot.__eq__", defArgs s_Lot___eq__, defBody s_Lot___eq__, defScope s_Lot___eq__, [], []⟩
def dd31 : He.DefD := ⟨("Lot", some "row"), "row", "Lot.row", defArgs s_Lot_row, defBody s_Lot_row, defScope s_Lot_row, [], []⟩
def dd32 : He.DefD := ⟨("lot_at", none), "lot_at", "lot_at", defArgs s_lot_at, defBody s_lot_at, defScope s_lot_at, [], []⟩
def dd33 : He.DefD := ⟨("first_numbers", none), "first_numbers", "first_numbers", defArgs s_first_numbers, defBody s_first_numbers, defScope s_first_numbers, [], []⟩
def dd34 : He.DefD := ⟨("_are_numbers", none), "_are_numbers", "_are_numbers", defArgs s__are_numbers, defBody s__are_numbers, defScope s__are_numbers, [], []⟩
def dd35 : He.DefD := ⟨("_are_points", none), "_are_points", "_are_points", defArgs s__are_points, defBody s__are_points, defScope s__are_points, [], []⟩
def dd36 : He.DefD := ⟨("_law_is_integer", none), "_law_is_integer", "_law_is_integer", defArgs s__law_is_integer, defBody s__law_is_integer, defScope s__law_is_integer, [], []⟩
def dd37 : He.DefD := ⟨("_law_feed", none), "_law_feed", "_law_feed", defArgs s__law_feed, defBody s__law_feed, defScope s__law_feed, [], []⟩
def dd38 : He.DefD := ⟨("_law_take", none), "_law_take", "_law_take", defArgs s__law_take, defBody s__law_take, defScope s__law_take, [], []⟩
def dd39 : He.DefD := ⟨("_law_number", none), "_law_number", "_law_number", defArgs s__law_number, defBody s__law_number, defScope s__law_number, [], []⟩
def dd40 : He.DefD := ⟨("_law_is", none), "_law_is", "_law_is", defArgs s__law_is, defBody s__law_is, defScope s__law_is, [], []⟩
def dd41 : He.DefD := ⟨("_law_row_is", none), "_law_row_is", "_law_row_is", defArgs s__law_row_is, defBody s__law_row_is, defScope s__law_row_is, [], []⟩
def dd42 : He.DefD := ⟨("_law_poly_is", none), "_law_poly_is", "_law_poly_is", defArgs s__law_poly_is, defBody s__law_poly_is, defScope s__law_poly_is, [], []⟩
def dd43 : He.DefD := ⟨("_law_add", none), "_law_add", "_law_add", defArgs s__law_add, defBody s__law_add, defScope s__law_add, [], []⟩
def dd44 : He.DefD := ⟨("_law_lot", none), "_law_lot", "_law_lot", defArgs s__law_lot, defBody s__law_lot, defScope s__law_lot, [], []⟩
def dd45 : He.DefD := ⟨("_law_numbers", none), "_law_numbers", "_law_numbers", defArgs s__law_numbers, defBody s__law_numbers, defScope s__law_numbers, [], []⟩
def dd46 : He.DefD := ⟨("_law_lot_is", none), "_law_lot_is", "_law_lot_is", defArgs s__law_lot_is, defBody s__law_lot_is, defScope s__law_lot_is, [], []⟩
def dd47 : He.DefD := ⟨("_law_flag", none), "_law_flag", "_law_flag", defArgs s__law_flag, defBody s__law_flag, defScope s__law_flag, [], []⟩
def dd48 : He.DefD := ⟨("_law_part", none), "_law_part", "_law_part", defArgs s__law_part, defBody s__law_part, defScope s__law_part, [], []⟩
def dd49 : He.DefD := ⟨("_law_spoiled", none), "_law_spoiled", "_law_spoiled", defArgs s__law_spoiled, defBody s__law_spoiled, defScope s__law_spoiled, [], []⟩
def dd50 : He.DefD := ⟨("law", none), "law", "law", defArgs s_law, defBody s_law, defScope s_law, [], []⟩
def fnL0 : List He.DefD := [dd0, dd1, dd2, dd3, dd4, dd5, dd6, dd7, dd8, dd9, dd10, dd11, dd12, dd13, dd14, dd15, dd16, dd17, dd18, dd19, dd20, dd21, dd22, dd23, dd24, dd25, dd26, dd27, dd28, dd29]
def fnL1 : List He.DefD := [dd30, dd31, dd32, dd33, dd34, dd35, dd36, dd37, dd38, dd39, dd40, dd41, dd42, dd43, dd44, dd45, dd46, dd47, dd48, dd49, dd50]
def fnL : List He.DefD := fnL0 ++ fnL1
def tfL : List He.Defn := []
def faL : List He.Fa := [.int "MOST_POINTS" 8, .int "LAST_NUMBER" 60]
def exL0 : List MoH.Tst := [fun K => MoH.gdB K, fun K => decide (PySem.W.nsIn K mainGlobals "Ratio" = some (some (.ref (He.ga K "Ratio")))), fun K => decide (PySem.W.nsIn K mainGlobals "Poly" = some (some (.ref (He.ga K "Poly")))), fun K => decide (PySem.W.nsIn K mainGlobals "Sure" = some (some (.ref (He.ga K "Sure")))), fun K => decide (PySem.W.nsIn K mainGlobals "Lot" = some (some (.ref (He.ga K "Lot")))), fun K => decide (PySem.W.nsIn K mainGlobals "NoNumber" = some (some (.ref (He.ga K "NoNumber")))), fun K => decide (PySem.W.nsIn K mainGlobals "NoLot" = some (some (.ref (He.ga K "NoLot")))), fun K => decide (PySem.W.nsIn K mainGlobals "MeansError" = some (some (.ref (He.ga K "MeansError")))), fun K => decide (PySem.W.nsIn K mainGlobals "NoBar" = some (some (.ref (He.ga K "NoBar")))), fun K => MoH.ownB K (He.ga K "Ratio"), fun K => PySem.W.makesIn K (He.ga K "Ratio"), fun K => PySem.W.keepIn K (.ref (He.ga K "Ratio")), fun K => decide (PySem.W.findIn K (.ref (He.ga K "Ratio")) "top" = some none), fun K => decide (PySem.W.findIn K (.ref (He.ga K "Ratio")) "bottom" = some none), fun K => MoH.ownB K (He.ga K "Poly"), fun K => PySem.W.makesIn K (He.ga K "Poly"), fun K => PySem.W.keepIn K (.ref (He.ga K "Poly")), fun K => decide (PySem.W.findIn K (.ref (He.ga K "Poly")) "coefficients" = some none), fun K => decide (PySem.W.findIn K (.ref (He.ga K "Poly")) "degree" = some none), fun K => decide (PySem.W.findIn K (.ref (He.ga K "Poly")) "lead" = some none), fun K => MoH.ownB K (He.ga K "Sure"), fun K => PySem.W.makesIn K (He.ga K "Sure"), fun K => PySem.W.keepIn K (.ref (He.ga K "Sure")), fun K => decide (PySem.W.findIn K (.ref (He.ga K "Sure")) "numbers" = some none), fun K => MoH.ownB K (He.ga K "Lot"), fun K => PySem.W.makesIn K (He.ga K "Lot"), fun K => PySem.W.keepIn K (.ref (He.ga K "Lot")), fun K => decide (PySem.W.findIn K (.ref (He.ga K "Lot")) "poly" = some none), fun K => decide (PySem.W.findIn K (.ref (He.ga K "Lot")) "begin" = some none), fun K => decide (PySem.W.findIn K (.ref (He.ga K "Lot")) "count" = some none)]
def exL1 : List MoH.Tst := [fun K => MoH.excB K (He.ga K "NoNumber"), fun K => decide (PySem.W.findIn K (.ref (He.ga K "NoNumber")) "word" = some none), fun K => decide (PySem.W.typeIn K (.ref (He.fAd K ("NoNumber", some "__init__"))) = some (.type "function")), fun K => MoH.excB K (He.ga K "NoLot"), fun K => decide (PySem.W.findIn K (.ref (He.ga K "NoLot")) "part" = some none), fun K => decide (PySem.W.typeIn K (.ref (He.fAd K ("NoLot", some "__init__"))) = some (.type "function")), fun K => decide (PySem.W.findIn K (.ref (He.ga K "NoLot")) "__init__" = some (some (.ref (He.fAd K ("NoLot", some "__init__"))))), fun K => PySem.W.isFn K (.ref (He.fAd K ("NoLot", some "__init__"))), fun K => PySem.W.keepIn K (.ref (He.fAd K ("NoLot", some "__init__"))), fun K => decide (PySem.W.findIn K (.ref (He.ga K "NoNumber")) "__init__" = some (some (.ref (He.fAd K ("NoNumber", some "__init__"))))), fun K => PySem.W.isFn K (.ref (He.fAd K ("NoNumber", some "__init__"))), fun K => PySem.W.keepIn K (.ref (He.fAd K ("NoNumber", some "__init__"))), fun K => decide (PySem.W.findIn K (.ref (He.ga K "Ratio")) "__init__" = some (some (.ref (He.fAd K ("Ratio", some "__init__"))))), fun K => PySem.W.isFn K (.ref (He.fAd K ("Ratio", some "__init__"))), fun K => PySem.W.keepIn K (.ref (He.fAd K ("Ratio", some "__init__"))), fun K => decide (PySem.W.findIn K (.ref (He.ga K "Ratio")) "__add__" = some (some (.ref (He.fAd K ("Ratio", some "__add__"))))), fun K => PySem.W.isFn K (.ref (He.fAd K ("Ratio", some "__add__"))), fun K => PySem.W.keepIn K (.ref (He.fAd K ("Ratio", some "__add__"))), fun K => decide (PySem.W.findIn K (.ref (He.ga K "Ratio")) "__radd__" = some (some (.ref (He.fAd K ("Ratio", some "__radd__"))))), fun K => PySem.W.isFn K (.ref (He.fAd K ("Ratio", some "__radd__"))), fun K => PySem.W.keepIn K (.ref (He.fAd K ("Ratio", some "__radd__"))), fun K => decide (PySem.W.findIn K (.ref (He.ga K "Ratio")) "__mul__" = some (some (.ref (He.fAd K ("Ratio", some "__mul__"))))), fun K => PySem.W.isFn K (.ref (He.fAd K ("Ratio", some "__mul__"))), fun K => PySem.W.keepIn K (.ref (He.fAd K ("Ratio", some "__mul__"))), fun K => decide (PySem.W.findIn K (.ref (He.ga K "Ratio")) "__rmul__" = some (some (.ref (He.fAd K ("Ratio", some "__rmul__"))))), fun K => PySem.W.isFn K (.ref (He.fAd K ("Ratio", some "__rmul__"))), fun K => PySem.W.keepIn K (.ref (He.fAd K ("Ratio", some "__rmul__"))), fun K => decide (PySem.W.findIn K (.ref (He.ga K "Ratio")) "__neg__" = some (some (.ref (He.fAd K ("Ratio", some "__neg__"))))), fun K => PySem.W.isFn K (.ref (He.fAd K ("Ratio", some "__neg__"))), fun K => PySem.W.keepIn K (.ref (He.fAd K ("Ratio", some "__neg__")))]
def exL2 : List MoH.Tst := [fun K => decide (PySem.W.findIn K (.ref (He.ga K "Ratio")) "__eq__" = some (some (.ref (He.fAd K ("Ratio", some "__eq__"))))), fun K => PySem.W.isFn K (.ref (He.fAd K ("Ratio", some "__eq__"))), fun K => PySem.W.keepIn K (.ref (He.fAd K ("Ratio", some "__eq__"))), fun K => decide (PySem.W.findIn K (.ref (He.ga K "Ratio")) "__le__" = some (some (.ref (He.fAd K ("Ratio", some "__le__"))))), fun K => PySem.W.isFn K (.ref (He.fAd K ("Ratio", some "__le__"))), fun K => PySem.W.keepIn K (.ref (He.fAd K ("Ratio", some "__le__"))), fun K => decide (PySem.W.nsIn K mainGlobals "is_whole" = some (some (.ref (He.fAd K ("is_whole", none))))), fun K => PySem.W.keepIn K (.ref (He.fAd K ("is_whole", none))), fun K => decide (PySem.W.nsIn K mainGlobals "is_number" = some (some (.ref (He.fAd K ("is_number", none))))), fun K => PySem.W.keepIn K (.ref (He.fAd K ("is_number", none))), fun K => decide (PySem.W.nsIn K mainGlobals "ratio_of" = some (some (.ref (He.fAd K ("ratio_of", none))))), fun K => PySem.W.keepIn K (.ref (He.fAd K ("ratio_of", none))), fun K => decide (PySem.W.nsIn K mainGlobals "whole_parts" = some (some (.ref (He.fAd K ("whole_parts", none))))), fun K => PySem.W.keepIn K (.ref (He.fAd K ("whole_parts", none))), fun K => decide (PySem.W.nsIn K mainGlobals "sum_ratios" = some (some (.ref (He.fAd K ("sum_ratios", none))))), fun K => PySem.W.keepIn K (.ref (He.fAd K ("sum_ratios", none))), fun K => decide (PySem.W.nsIn K mainGlobals "product_ratios" = some (some (.ref (He.fAd K ("product_ratios", none))))), fun K => PySem.W.keepIn K (.ref (He.fAd K ("product_ratios", none))), fun K => decide (PySem.W.nsIn K mainGlobals "_gap" = some (some (.ref (He.fAd K ("_gap", none))))), fun K => PySem.W.keepIn K (.ref (He.fAd K ("_gap", none))), fun K => decide (PySem.W.nsIn K mainGlobals "trimmed" = some (some (.ref (He.fAd K ("trimmed", none))))), fun K => PySem.W.keepIn K (.ref (He.fAd K ("trimmed", none))), fun K => decide (PySem.W.nsIn K mainGlobals "first_powers" = some (some (.ref (He.fAd K ("first_powers", none))))), fun K => PySem.W.keepIn K (.ref (He.fAd K ("first_powers", none))), fun K => decide (PySem.W.nsIn K mainGlobals "paired" = some (some (.ref (He.fAd K ("paired", none))))), fun K => PySem.W.keepIn K (.ref (He.fAd K ("paired", none))), fun K => decide (PySem.W.findIn K (.ref (He.ga K "Poly")) "__init__" = some (some (.ref (He.fAd K ("Poly", some "__init__"))))), fun K => PySem.W.isFn K (.ref (He.fAd K ("Poly", some "__init__"))), fun K => PySem.W.keepIn K (.ref (He.fAd K ("Poly", some "__init__"))), fun K => decide (PySem.W.findIn K (.ref (He.ga K "Poly")) "__eq__" = some (some (.ref (He.fAd K ("Poly", some "__eq__")))))]
def exL3 : List MoH.Tst := [fun K => PySem.W.isFn K (.ref (He.fAd K ("Poly", some "__eq__"))), fun K => PySem.W.keepIn K (.ref (He.fAd K ("Poly", some "__eq__"))), fun K => decide (PySem.W.findIn K (.ref (He.ga K "Poly")) "__mul__" = some (some (.ref (He.fAd K ("Poly", some "__mul__"))))), fun K => PySem.W.isFn K (.ref (He.fAd K ("Poly", some "__mul__"))), fun K => PySem.W.keepIn K (.ref (He.fAd K ("Poly", some "__mul__"))), fun K => decide (PySem.W.findIn K (.ref (He.ga K "Poly")) "__rmul__" = some (some (.ref (He.fAd K ("Poly", some "__rmul__"))))), fun K => PySem.W.isFn K (.ref (He.fAd K ("Poly", some "__rmul__"))), fun K => PySem.W.keepIn K (.ref (He.fAd K ("Poly", some "__rmul__"))), fun K => decide (PySem.W.nsIn K mainGlobals "poly_of" = some (some (.ref (He.fAd K ("poly_of", none))))), fun K => PySem.W.keepIn K (.ref (He.fAd K ("poly_of", none))), fun K => decide (PySem.W.nsIn K mainGlobals "_is_operand" = some (some (.ref (He.fAd K ("_is_operand", none))))), fun K => PySem.W.keepIn K (.ref (He.fAd K ("_is_operand", none))), fun K => decide (PySem.W.nsIn K mainGlobals "product_polys" = some (some (.ref (He.fAd K ("product_polys", none))))), fun K => PySem.W.keepIn K (.ref (He.fAd K ("product_polys", none))), fun K => decide (PySem.W.nsIn K mainGlobals "continued" = some (some (.ref (He.fAd K ("continued", none))))), fun K => PySem.W.keepIn K (.ref (He.fAd K ("continued", none))), fun K => decide (PySem.W.findIn K (.ref (He.ga K "Sure")) "__init__" = some (some (.ref (He.fAd K ("Sure", some "__init__"))))), fun K => PySem.W.isFn K (.ref (He.fAd K ("Sure", some "__init__"))), fun K => PySem.W.keepIn K (.ref (He.fAd K ("Sure", some "__init__"))), fun K => decide (PySem.W.findIn K (.ref (He.ga K "Lot")) "__init__" = some (some (.ref (He.fAd K ("Lot", some "__init__"))))), fun K => PySem.W.isFn K (.ref (He.fAd K ("Lot", some "__init__"))), fun K => PySem.W.keepIn K (.ref (He.fAd K ("Lot", some "__init__"))), fun K => decide (PySem.W.findIn K (.ref (He.ga K "Lot")) "__eq__" = some (some (.ref (He.fAd K ("Lot", some "__eq__"))))), fun K => PySem.W.isFn K (.ref (He.fAd K ("Lot", some "__eq__"))), fun K => PySem.W.keepIn K (.ref (He.fAd K ("Lot", some "__eq__"))), fun K => decide (PySem.W.findIn K (.ref (He.ga K "Lot")) "row" = some (some (.ref (He.fAd K ("Lot", some "row"))))), fun K => PySem.W.isFn K (.ref (He.fAd K ("Lot", some "row"))), fun K => PySem.W.keepIn K (.ref (He.fAd K ("Lot", some "row"))), fun K => decide (PySem.W.nsIn K mainGlobals "lot_at" = some (some (.ref (He.fAd K ("lot_at", none))))), fun K => PySem.W.keepIn K (.ref (He.fAd K ("lot_at", none)))]
def exL4 : List MoH.Tst := [fun K => decide (PySem.W.nsIn K mainGlobals "first_numbers" = some (some (.ref (He.fAd K ("first_numbers", none))))), fun K => PySem.W.keepIn K (.ref (He.fAd K ("first_numbers", none))), fun K => decide (PySem.W.nsIn K mainGlobals "_are_numbers" = some (some (.ref (He.fAd K ("_are_numbers", none))))), fun K => PySem.W.keepIn K (.ref (He.fAd K ("_are_numbers", none))), fun K => decide (PySem.W.nsIn K mainGlobals "_are_points" = some (some (.ref (He.fAd K ("_are_points", none))))), fun K => PySem.W.keepIn K (.ref (He.fAd K ("_are_points", none))), fun K => decide (PySem.W.nsIn K mainGlobals "_law_is_integer" = some (some (.ref (He.fAd K ("_law_is_integer", none))))), fun K => PySem.W.keepIn K (.ref (He.fAd K ("_law_is_integer", none))), fun K => decide (PySem.W.nsIn K mainGlobals "_law_feed" = some (some (.ref (He.fAd K ("_law_feed", none))))), fun K => PySem.W.keepIn K (.ref (He.fAd K ("_law_feed", none))), fun K => decide (PySem.W.nsIn K mainGlobals "_law_take" = some (some (.ref (He.fAd K ("_law_take", none))))), fun K => PySem.W.keepIn K (.ref (He.fAd K ("_law_take", none))), fun K => decide (PySem.W.nsIn K mainGlobals "_law_number" = some (some (.ref (He.fAd K ("_law_number", none))))), fun K => PySem.W.keepIn K (.ref (He.fAd K ("_law_number", none))), fun K => decide (PySem.W.nsIn K mainGlobals "_law_is" = some (some (.ref (He.fAd K ("_law_is", none))))), fun K => PySem.W.keepIn K (.ref (He.fAd K ("_law_is", none))), fun K => decide (PySem.W.nsIn K mainGlobals "_law_row_is" = some (some (.ref (He.fAd K ("_law_row_is", none))))), fun K => PySem.W.keepIn K (.ref (He.fAd K ("_law_row_is", none))), fun K => decide (PySem.W.nsIn K mainGlobals "_law_poly_is" = some (some (.ref (He.fAd K ("_law_poly_is", none))))), fun K => PySem.W.keepIn K (.ref (He.fAd K ("_law_poly_is", none))), fun K => decide (PySem.W.nsIn K mainGlobals "_law_add" = some (some (.ref (He.fAd K ("_law_add", none))))), fun K => PySem.W.keepIn K (.ref (He.fAd K ("_law_add", none))), fun K => decide (PySem.W.nsIn K mainGlobals "_law_lot" = some (some (.ref (He.fAd K ("_law_lot", none))))), fun K => PySem.W.keepIn K (.ref (He.fAd K ("_law_lot", none))), fun K => decide (PySem.W.nsIn K mainGlobals "_law_numbers" = some (some (.ref (He.fAd K ("_law_numbers", none))))), fun K => PySem.W.keepIn K (.ref (He.fAd K ("_law_numbers", none))), fun K => decide (PySem.W.nsIn K mainGlobals "_law_lot_is" = some (some (.ref (He.fAd K ("_law_lot_is", none))))), fun K => PySem.W.keepIn K (.ref (He.fAd K ("_law_lot_is", none))), fun K => decide (PySem.W.nsIn K mainGlobals "_law_flag" = some (some (.ref (He.fAd K ("_law_flag", none))))), fun K => PySem.W.keepIn K (.ref (He.fAd K ("_law_flag", none)))]
def exL5 : List MoH.Tst := [fun K => decide (PySem.W.nsIn K mainGlobals "_law_part" = some (some (.ref (He.fAd K ("_law_part", none))))), fun K => PySem.W.keepIn K (.ref (He.fAd K ("_law_part", none))), fun K => decide (PySem.W.nsIn K mainGlobals "_law_spoiled" = some (some (.ref (He.fAd K ("_law_spoiled", none))))), fun K => PySem.W.keepIn K (.ref (He.fAd K ("_law_spoiled", none))), fun K => decide (PySem.W.nsIn K mainGlobals "law" = some (some (.ref (He.fAd K ("law", none))))), fun K => PySem.W.keepIn K (.ref (He.fAd K ("law", none))), fun K => decide (PySem.W.kitOne K (.ref (He.ga K "Ratio")) (.ref (He.ga K "Poly")) = some false), fun K => decide (PySem.W.subIn K (.ref (He.ga K "Ratio")) (.ref (He.ga K "Poly")) = some false), fun K => decide (PySem.W.subIn K (.ref (He.ga K "Poly")) (.ref (He.ga K "Ratio")) = some false), fun K => decide (PySem.W.kitOne K (.ref (He.ga K "Poly")) (.ref (He.ga K "Ratio")) = some false), fun K => decide (PySem.W.kitOne K (.type "str") (.ref (He.ga K "Ratio")) = some false), fun K => decide (PySem.W.kitOne K (.type "bool") (.ref (He.ga K "Ratio")) = some false), fun K => decide (PySem.W.kitOne K (.type "NoneType") (.ref (He.ga K "Ratio")) = some false), fun K => decide (PySem.W.kitOne K (.type "list") (.ref (He.ga K "Ratio")) = some false), fun K => decide (PySem.W.kitOne K (.ref (He.ga K "NoLot")) (.ref (He.ga K "MeansError")) = some true), fun K => decide (PySem.W.kitOne K (.ref (He.ga K "NoLot")) (.ref (He.ga K "NoBar")) = some false), fun K => decide (PySem.W.nsIn K mainGlobals "isinstance" = some none), fun K => decide (PySem.W.nsIn K mainGlobals "int" = some none), fun K => decide (PySem.W.nsIn K mainGlobals "bool" = some none), fun K => decide (PySem.W.nsIn K mainGlobals "abs" = some none), fun K => decide (PySem.W.nsIn K mainGlobals "len" = some none), fun K => decide (PySem.W.nsIn K mainGlobals "max" = some none), fun K => decide (PySem.W.nsIn K mainGlobals "range" = some none), fun K => decide (PySem.W.nsIn K mainGlobals "list" = some none), fun K => decide (PySem.W.nsIn K mainGlobals "tuple" = some none), fun K => decide (PySem.W.nsIn K mainGlobals "min" = some none), fun K => decide (PySem.W.nsIn K mainGlobals "sum" = some none), fun K => decide (PySem.W.nsIn K mainGlobals "any" = some none), fun K => decide (PySem.W.nsIn K mainGlobals "all" = some none), fun K => decide (PySem.W.nsIn K mainGlobals "NotImplemented" = some none)]
def exL6 : List MoH.Tst := [fun K => decide (PySem.W.nsIn K mainGlobals "gcd" = some (some (.builtin "math.gcd"))), fun K => decide (PySem.W.nsIn K mainGlobals "lcm" = some (some (.builtin "math.lcm")))]
def exL : List MoH.Tst := exL0 ++ exL1 ++ exL2 ++ exL3 ++ exL4 ++ exL5 ++ exL6
abbrev RW : PySem.W.OpenRow := PySem.W.OpenLaw.row PySem.Challenge.rw_momentrows_k27_lots_at_given_points
def adL0 : List Addr := [3, 356, 642, 744, 873, 122, 141, 59, 160, 355, 641, 743, 872, 121, 140, 58, 159, 138, 119, 189, 196, 203, 224, 231, 238, 287, 308, 367, 374, 381, 386, 393, 407, 428, 442, 466, 521, 533, 547, 582, 589, 660, 667, 684, 708, 741, 762, 769, 786, 882, 889, 899, 904, 918, 923, 930, 937, 944, 951, 958]
def adL1 : List Addr := [965, 984, 989, 996, 1008, 1015, 1022, 1027, 137, 118, 188, 195, 202, 223, 230, 237, 286, 307, 366, 373, 380, 385, 392, 406, 427, 441, 465, 520, 532, 546, 581, 588, 659, 666, 683, 707, 740, 761, 768, 785, 881, 888, 898, 903, 917, 922, 929, 936, 943, 950, 957, 964, 983, 988, 995, 1007, 1014, 1021, 1026, 182]
def adL : List Addr := adL0 ++ adL1
abbrev hkX : PySem.W.Hook := MoH.hookA faL fnL tfL (MoH.exAll exL) adL
def obX (s : PySem.W.SharedT) : Bool × List He.FnW := MoH.sawA faL fnL tfL (MoH.exAll exL) adL (HandSHeadRun.getT s)
theorem obX_eq (s : PySem.W.SharedT) : obX s = hkX.obs s.abs := MoH.sawA_eq
def nmL0 : List PySem.Str := ["_wall", "MeansError", "NoRatio", "NoPoly", "NoDivisor", "NoNumber", "NoLot", "NoBar", "TooMany", "MOST_POWER_ratios", "MOST_DIGITS", "Ratio", "is_whole", "is_number", "ratio_of", "whole_parts", "_sum", "sum_ratios", "_difference", "_product", "product_ratios", "_floor", "_remainder", "_gap", "_are_digits", "PRIME", "ROOM", "trimmed", "primitive", "slope_of"]
def nmL1 : List PySem.Str := ["value_parts", "first_powers", "long_division", "common_tops", "divides", "_have_surely_no_common_root", "_rest_by_prime", "_longest", "_packed", "_unpacked", "paired", "MOST_POWER_polys", "Poly", "common", "poly_of", "_is_operand", "sum_polys", "_coefficient", "product_polys", "_divided", "rungs", "_raised", "continued", "has_real_roots", "weight_tops", "_has_only_rises", "MOST_POINTS", "LAST_NUMBER", "Sure", "Lot"]
def nmL2 : List PySem.Str := ["lot_at", "first_numbers", "_checked", "_are_numbers", "_are_points", "_have_weights", "_law_is_integer", "_law_feed", "_law_take", "_law_number", "_law_is", "_law_row_is", "_law_poly_is", "_law_add", "_law_times", "_law_ratios", "_law_lot", "_law_numbers", "_law_lot_is", "_law_made", "_law_flag", "_law_part", "_law_spoiled"]
def nmL : List PySem.Str := nmL0 ++ nmL1 ++ nmL2
abbrev qvX : Program := PySem.W.view RW.prog [0, 95]
noncomputable abbrev wholeX (w : World) := HandSHeadRun.wholeF (fun p => HandSHeadRun.stepQ (HandSHeadRun.denQ HandSHeadRun.tabQ) p w) HandSHeadRun.fenceQ 14000 RW.prog
theorem runA (w : World) : (wholeX w).map (fun x => (HandSHeadRun.looksF RW.prog x.1.heap x.2.abs, HandSHeadRun.seenQ qvX nmL (importedModules RW.prog.main.body) (fun s => PySem.W.xlAt qvX [] s && PySem.W.recOk RW.toRowW.records s) x.2.abs)) = some (true, PySem.W.openGood qvX nmL) := by
  kernel_rfl
theorem runB (w : World) : (wholeX w).map (fun x => obX x.2) = some (true, MoH.want fnL) := by
  kernel_rfl
theorem runX (w : World) : HandSHeadRun.RunEqI RW qvX hkX obX 14000 nmL w := MoH.both_runs (runA w) (runB w)
abbrev dfX : PySem.DefRec := HandSHeadRun.topDef RW.prog 95
set_option maxHeartbeats 0 in
theorem holds_of (call : PySem.W.WalkO qvX nmL (PySem.W.XL qvX []) hkX.says RW.toRowW dfX [] fun f vs => PySem.call f vs) : PySem.Challenge.rw_momentrows_k27_lots_at_given_points.Holds := by
  w_on; o_law
  refine HandSHeadRun.head_imp (r := RW) (q := qvX) (H := hkX) (ob := obX) (M := 14000) (loose := nmL) (d := dfX) (kwd := []) obX_eq runX (by kernel_rfl) (by kernel_rfl) (by kernel_rfl) (by rfl) (by first | assumption | decide +kernel) (by decide +kernel) ⟨rfl, rfl, rfl, rfl, rfl, by decide +kernel⟩ ?hw ?hc
  case hw => w_witness2
  case hc => exact call
end Mo

/-! # Operators of own classes, on either side of an int (my own layer over HandS) -/
namespace MoW
open PySem PySem.W
section
variable {prog : Program} {w : World} {A : Around} {E : Value → Shared → Prop} {s : Shared}
theorem int_eq_no (i : Int) (t : Tok) (l C dx : Addr) :
    Meets (Builtin.«int.__eq__» ⟨[.int i t, .ref l], []⟩) (fun _ R s => s.heap.get? l = some (PySem.W.instObj C dx) ∧ R (.ok (.ret .notImplemented)) s) :=
  .of_wp fun prog w A R s h => by obtain ⟨hp, g, d, tk, os⟩ := s; obtain ⟨hl, h⟩ := h; unfold PySem.W.instObj at hl; wp_walk using wpAny_loadPart' hl, wpAny_load hl; exact ⟨_, rfl, h⟩
theorem int_ne_no (i : Int) (t : Tok) (l C dx : Addr) :
    Meets (Builtin.«int.__ne__» ⟨[.int i t, .ref l], []⟩) (fun _ R s => s.heap.get? l = some (PySem.W.instObj C dx) ∧ R (.ok (.ret .notImplemented)) s) :=
  .of_wp fun prog w A R s h => by obtain ⟨hp, g, d, tk, os⟩ := s; obtain ⟨hl, h⟩ := h; unfold PySem.W.instObj at hl; wp_walk using wpAny_loadPart' hl, wpAny_load hl; exact ⟨_, rfl, h⟩
theorem int_lt_no (i : Int) (t : Tok) (l C dx : Addr) :
    Meets (Builtin.«int.__lt__» ⟨[.int i t, .ref l], []⟩) (fun _ R s => s.heap.get? l = some (PySem.W.instObj C dx) ∧ R (.ok (.ret .notImplemented)) s) :=
  .of_wp fun prog w A R s h => by obtain ⟨hp, g, d, tk, os⟩ := s; obtain ⟨hl, h⟩ := h; unfold PySem.W.instObj at hl; wp_walk using wpAny_loadPart' hl, wpAny_load hl; exact ⟨_, rfl, h⟩
theorem int_le_no (i : Int) (t : Tok) (l C dx : Addr) :
    Meets (Builtin.«int.__le__» ⟨[.int i t, .ref l], []⟩) (fun _ R s => s.heap.get? l = some (PySem.W.instObj C dx) ∧ R (.ok (.ret .notImplemented)) s) :=
  .of_wp fun prog w A R s h => by obtain ⟨hp, g, d, tk, os⟩ := s; obtain ⟨hl, h⟩ := h; unfold PySem.W.instObj at hl; wp_walk using wpAny_loadPart' hl, wpAny_load hl; exact ⟨_, rfl, h⟩
theorem int_gt_no (i : Int) (t : Tok) (l C dx : Addr) :
    Meets (Builtin.«int.__gt__» ⟨[.int i t, .ref l], []⟩) (fun _ R s => s.heap.get? l = some (PySem.W.instObj C dx) ∧ R (.ok (.ret .notImplemented)) s) :=
  .of_wp fun prog w A R s h => by obtain ⟨hp, g, d, tk, os⟩ := s; obtain ⟨hl, h⟩ := h; unfold PySem.W.instObj at hl; wp_walk using wpAny_loadPart' hl, wpAny_load hl; exact ⟨_, rfl, h⟩
theorem int_ge_no (i : Int) (t : Tok) (l C dx : Addr) :
    Meets (Builtin.«int.__ge__» ⟨[.int i t, .ref l], []⟩) (fun _ R s => s.heap.get? l = some (PySem.W.instObj C dx) ∧ R (.ok (.ret .notImplemented)) s) :=
  .of_wp fun prog w A R s h => by obtain ⟨hp, g, d, tk, os⟩ := s; obtain ⟨hl, h⟩ := h; unfold PySem.W.instObj at hl; wp_walk using wpAny_loadPart' hl, wpAny_load hl; exact ⟨_, rfl, h⟩
theorem int_add_no (i : Int) (t : Tok) (l C dx : Addr) :
    Meets (Builtin.«int.__add__» ⟨[.int i t, .ref l], []⟩) (fun _ R s => s.heap.get? l = some (PySem.W.instObj C dx) ∧ R (.ok (.ret .notImplemented)) s) :=
  .of_wp fun prog w A R s h => by obtain ⟨hp, g, d, tk, os⟩ := s; obtain ⟨hl, h⟩ := h; unfold PySem.W.instObj at hl; wp_walk using wpAny_loadPart' hl, wpAny_load hl; exact ⟨_, rfl, h⟩
theorem int_sub_no (i : Int) (t : Tok) (l C dx : Addr) :
    Meets (Builtin.«int.__sub__» ⟨[.int i t, .ref l], []⟩) (fun _ R s => s.heap.get? l = some (PySem.W.instObj C dx) ∧ R (.ok (.ret .notImplemented)) s) :=
  .of_wp fun prog w A R s h => by obtain ⟨hp, g, d, tk, os⟩ := s; obtain ⟨hl, h⟩ := h; unfold PySem.W.instObj at hl; wp_walk using wpAny_loadPart' hl, wpAny_load hl; exact ⟨_, rfl, h⟩
theorem int_mul_no (i : Int) (t : Tok) (l C dx : Addr) :
    Meets (Builtin.«int.__mul__» ⟨[.int i t, .ref l], []⟩) (fun _ R s => s.heap.get? l = some (PySem.W.instObj C dx) ∧ R (.ok (.ret .notImplemented)) s) :=
  .of_wp fun prog w A R s h => by obtain ⟨hp, g, d, tk, os⟩ := s; obtain ⟨hl, h⟩ := h; unfold PySem.W.instObj at hl; wp_walk using wpAny_loadPart' hl, wpAny_load hl; exact ⟨_, rfl, h⟩
theorem int_mod_no (i : Int) (t : Tok) (l C dx : Addr) :
    Meets (Builtin.«int.__mod__» ⟨[.int i t, .ref l], []⟩) (fun _ R s => s.heap.get? l = some (PySem.W.instObj C dx) ∧ R (.ok (.ret .notImplemented)) s) :=
  .of_wp fun prog w A R s h => by obtain ⟨hp, g, d, tk, os⟩ := s; obtain ⟨hl, h⟩ := h; unfold PySem.W.instObj at hl; wp_walk using wpAny_loadPart' hl, wpAny_load hl; exact ⟨_, rfl, h⟩
end
end MoW

namespace MoW
open PySem PySem.W PyProof.Rows
section
variable {prog : Program} {w : World} {A : Around} {E : Value → Shared → Prop} {s : Shared} {K : Frag} {x C L f : Addr} {h₀ : Heap} {m : Str → Option Value} {dx : Addr} {od : Option Obj} {i : Int} {t : Tok}

theorem looks_int {M : Model} {h : Heap} : Looks M h (typeOf (.int i t)) (.type "int") := Looks.of_pure rfl

/-- an int compared with an instance: int says it can't, the instance's own mirrored method answers -/
theorem cmp_int_own {op : CmpOp} {id : String} {Q : Value → Shared → Prop} (hu : A.units < cLine) (F : Fr h₀ L s.heap m) (X₀ : K.In h₀) (I : InstAt s.heap x (instObj C dx) C od)
    (hn : subIn K (.ref C) (.type "int") = some false) (h1 : Slot "int" (cmpInfo op).2.1 id)
    (hno : ∀ Q' : Value → Shared → Prop, Q' .notImplemented s → wpAny (model prog w) A (call (.builtin id) [.int i t, .ref x]) Q' E s)
    (hs : findIn K (.ref C) (cmpInfo op).2.2 = some (some (.ref f))) (hf : isFn K (.ref f) = true)
    (h : wpAny (model prog w) A (call (.ref f) [.ref x, .int i t]) (W.CmpBack Q) E s) : wpAny (model prog w) A (richCompare op (.int i t) (.ref x)) Q E s := by
  have X := X₀.keeps F.keep
  have one : wpAny (model prog w) A (tryCompare (.ref x) (cmpInfo op).2.2 (.int i t)) (fun r s' => ∃ v, r = some v ∧ Q v s') E s := by
    unfold tryCompare
    refine wpAny_bind (ifBound_K X I hs hf (wpAny_mono h (fun v s' hv => ?_) fun _ _ e => e))
    cases v <;> first | exact hv.elim | exact wpAny_pure ⟨_, rfl, hv⟩
  unfold richCompare
  simp only [(typeIs_int s i t).oneThing_none]
  refine wpAny_holding (wpAny_bind (wpAny_cRoomFor hu ?_))
  refine wpAny_bind (wpAny_typeOf (typeIs_int s i t) (wpAny_bind (I.type.here ?_)))
  have hne : (Value.type "int" != Value.ref C) = true := rfl
  simp only [hne, if_true]
  refine wpAny_bind ((looks_subIn X hn).here ?_)
  simp only [Bool.false_eq_true, if_false, Bool.not_false, if_true]
  refine wpAny_bind (m := tryCompare (.int i t) _ (.ref x)) (wpAny_tryCompare_declines (typeIs_int s i t) h1 (hno _ ⟨rfl, ?_⟩))
  refine wpAny_bind (m := tryCompare (.ref x) _ (.int i t)) (wpAny_mono one (fun r s' z => ?_) fun _ _ e => e)
  obtain ⟨v, rfl, hq⟩ := z
  exact wpAny_pure hq

theorem mro_first {cd : ClassData} (hc : selfFirst K C = true) : ∃ cd rest, clsIn K C = some cd ∧ cd.mro = .ref C :: rest := by
  obtain ⟨cd, hcd, hm⟩ := any_some hc
  refine ⟨cd, ?_⟩
  cases q : cd.mro with
  | nil => rw [q] at hm; cases hm
  | cons a r => rw [q] at hm; exact ⟨r, hcd, by rw [List.head?_cons] at hm; cases (beq_iff_eq.mp hm); rfl⟩

/-- an int beside an instance: int says it can't, the instance's own reflected method answers -/
theorem bin_int_own {op : Operator} {id : String} {g : Addr} {Q : Value → Shared → Prop} (F : Fr h₀ L s.heap m) (X₀ : K.In h₀) (I : InstAt s.heap x (instObj C dx) C od)
    (hc : selfFirst K C = true) (hn : subIn K (.ref C) (.type "int") = some false) (h1 : Slot "int" (PySem.dunder op.info.2) id) (hfi : fillsNumberSlot (.type "int") op.info.2 = pure true)
    (hno : ∀ Q' : Value → Shared → Prop, Q' .notImplemented s → wpAny (model prog w) A (call (.builtin id) [.int i t, .ref x]) Q' E s)
    (hd : findIn K (.ref C) (PySem.dunder op.info.2) = some (some (.ref g)))
    (hs : findIn K (.ref C) (dunderR op.info.2) = some (some (.ref f))) (hf : isFn K (.ref f) = true)
    (h : wpAny (model prog w) A (call (.ref f) [.ref x, .int i t]) (W.CmpBack Q) E s) : wpAny (model prog w) A (binaryOp op (.int i t) (.ref x)) Q E s := by
  have X := X₀.keeps F.keep
  obtain ⟨cd, rest, hcd, hm⟩ := mro_first (K := K) (C := C) (cd := default) hc
  unfold binaryOp
  refine wpAny_holding (wpAny_bind ?_)
  unfold binaryOp1
  refine wpAny_bind (wpAny_typeOf (typeIs_int s i t) (wpAny_bind (I.type.here (wpAny_bind (wpAny_of_eq hfi ?_)))))
  have hne : (Value.type "int" == Value.ref C) = false := rfl
  simp only [hne, Bool.false_eq_true, if_false]
  refine wpAny_bind ((fills_K X hcd hm hd).here ?_)
  simp only [Bool.and_self, if_true]
  refine wpAny_bind ((looks_subIn X hn).here ?_)
  have hpy : numberSlotInPython (.type "int") op.info.2 = pure false := rfl
  simp only [Bool.false_eq_true, if_false, pure_bind, Bool.not_false, Bool.and_self, if_true, hpy]
  refine wpAny_bind (m := tryMethod (.int i t) _ (.ref x)) (wpAny_tryMethod_declines (typeIs_int s i t) h1 (hno _ ⟨rfl, ?_⟩))
  refine wpAny_bind (m := tryMethod (.ref x) _ (.int i t)) ?_
  unfold tryMethod
  refine wpAny_bind (special_fn X I hs (beq_iff_eq.mp hf) (wpAny_mono h (fun v s' hv => ?_) fun _ _ e => e))
  cases v <;> first | exact hv.elim | exact wpAny_pure (wpAny_bind (wpAny_rule (wpAny_pure (wpAny_pure hv))))

/-- an instance beside an int: its own method answers -/
theorem bin_own_int {op : Operator} {id : String} {g : Addr} {Q : Value → Shared → Prop} (F : Fr h₀ L s.heap m) (X₀ : K.In h₀) (I : InstAt s.heap x (instObj C dx) C od)
    (hc : selfFirst K C = true) (hn : subIn K (.type "int") (.ref C) = some false) (h1 : Slot "int" (dunderR op.info.2) id) (hfi : fillsNumberSlot (.type "int") op.info.2 = pure true)
    (hs : findIn K (.ref C) (PySem.dunder op.info.2) = some (some (.ref f))) (hf : isFn K (.ref f) = true)
    (hd : findIn K (.ref C) (dunderR op.info.2) = some (some (.ref g)))
    (h : wpAny (model prog w) A (call (.ref f) [.ref x, .int i t]) (W.CmpBack Q) E s) : wpAny (model prog w) A (binaryOp op (.ref x) (.int i t)) Q E s := by
  have X := X₀.keeps F.keep
  obtain ⟨cd, rest, hcd, hm⟩ := mro_first (K := K) (C := C) (cd := default) hc
  unfold binaryOp
  refine wpAny_holding (wpAny_bind ?_)
  unfold binaryOp1
  refine wpAny_bind (I.type.here (wpAny_bind (wpAny_typeOf (typeIs_int s i t) (wpAny_bind ((fills_K X hcd hm hs).here ?_)))))
  have hne : (Value.ref C == Value.type "int") = false := rfl
  simp only [hne, Bool.false_eq_true, if_false]
  refine wpAny_bind (wpAny_of_eq hfi ?_)
  simp only [Bool.and_self, if_true]
  refine wpAny_bind ((looks_subIn X hn).here ?_)
  have hpy : Looks (model prog w) s.heap (numberSlotInPython (.ref C) op.info.2) true := by
    unfold numberSlotInPython
    refine (looks_findIn X hs).andThen ?_
    refine Looks.andThen (a := true) .now ?_
    refine (looks_findIn X hd).andThen ?_
    refine Looks.andThen (a := true) .now ?_
    exact .now
  have hpi : numberSlotInPython (.type "int") op.info.2 = pure false := rfl
  simp only [Bool.false_eq_true, if_false, pure_bind, Bool.not_false, Bool.and_self, if_true]
  refine wpAny_bind (hpy.here ?_)
  simp only [if_true]
  refine wpAny_bind (wpAny_of_eq hpi ?_)
  simp only [Bool.not_false, if_true]
  refine wpAny_bind (wpAny_of_eq h1.lookup ?_)
  refine wpAny_bind (m := tryMethod (.ref x) _ (.int i t)) ?_
  unfold tryMethod
  refine wpAny_bind (special_fn X I hs (beq_iff_eq.mp hf) (wpAny_mono h (fun v s' hv => ?_) fun _ _ e => e))
  cases v <;> first | exact hv.elim | exact wpAny_pure (wpAny_pure (wpAny_pure hv))
end
end MoW

namespace MoL
open PySem PySem.Spec PyProof.Rows L2 MoW

/-- an instance of the class at C -/
def Ins (H : Hp) (v : V) (C : Addr) : Prop := ∃ a dx fs, v = .ref a ∧ H a = some (.ins C dx fs)
/-- what the written part says of a class with operators -/
structure OwnC (K : PySem.W.Frag) (C : Addr) : Prop where
  first : PySem.W.selfFirst K C = true
  ci : PySem.W.subIn K (.ref C) (.type "int") = some false
  ic : PySem.W.subIn K (.type "int") (.ref C) = some false

section
variable {X : Cx} {pins : List (Addr × Obj)} {σ : L2.St} {H : Hp} {s : Shared}
theorem ep_back {Q : VK} {u : Value} {s' : Shared} (h : EP X pins σ Q u s') : PySem.W.CmpBack (EP X pins σ Q) u s' := by
  cases u with
  | notImplemented =>
    obtain ⟨v, H', I, r, q⟩ := h
    exfalso
    cases v <;> first | exact nomatch r | (obtain ⟨_, e⟩ := r; exact nomatch e)
  | _ => exact h
theorem ins_at {a C dx : Addr} {fs : List (Str × V)} (I : Inv X pins σ H s) (ha : H a = some (.ins C dx fs)) : ∃ od, PySem.W.InstAt s.heap a (PySem.W.instObj C dx) C od := by
  obtain ⟨mA, J, _⟩ := ins_get I.hok ha
  obtain ⟨od, J, _⟩ := J.look
  exact ⟨_, J⟩
theorem ins_obj {a C dx : Addr} {fs : List (Str × V)} (I : Inv X pins σ H s) (ha : H a = some (.ins C dx fs)) : s.heap.get? a = some (PySem.W.instObj C dx) := by
  obtain ⟨mA, J, _⟩ := ins_get I.hok ha
  exact J.obj
end

section
variable {X : Cx} {CX : CXT} {k : Nat} {C f g : Addr} {fd : FuncData} {ps : List Str} {sp : Sp} {E : XK}
/-- x op y, x an instance, y another one or an int: x's own method answers -/
def rOwn (C : Addr) (sp : Sp) (E : XK) : R2 := fun x y H Q => Ins H x C ∧ ((∃ i, y = .int i) ∨ Ins H y C) ∧ sp [x, y] H Q E
/-- i op y, y an instance: y's own mirrored method answers -/
def rOwnR (C : Addr) (sp : Sp) (E : XK) : R2 := fun x y H Q => (∃ i, x = .int i) ∧ Ins H y C ∧ sp [y, x] H Q E

theorem op_cmp_own {op : CmpOp} (hop : ∀ v u, compareOp op v u = richCompare op v u) (c : OwnC X.K C) (m : Meth X.K C (cmpInfo op).2.1 f) (F : FnOk X.prog X.w X.K X.mg X.base CX k f fd ps sp)
    (hr : Room k X.A) (hb : Binds X.K fd ps []) (hx : Passes CX X E) : OpR X (compareOp op) (rOwn C sp E) := by
  intro pins s σ H x y v u Q I rx ry h
  obtain ⟨⟨a, dx, fs, rfl, ha⟩, hy, hs⟩ := h
  cases (show v = Value.ref a from rx)
  obtain ⟨od, J⟩ := ins_at I ha
  obtain ⟨mm, hF⟩ := I.fr
  rw [hop]
  have hrun : wpAny (model X.prog X.w) X.A (call (.ref f) [.ref a, u]) (PySem.W.CmpBack (EP X pins σ Q)) X.xe s :=
    thn (run_fn (us := [.ref a, u]) (vs := [.ref a, y]) F hr hb .nil hx I (.cons rfl (.cons ry .nil)) hs) fun v s' q => ep_back q
  rcases hy with ⟨i, rfl⟩ | ⟨b, dy, gs, rfl, hb'⟩
  · obtain ⟨t, rfl⟩ := (show ∃ t, u = Value.int i t from ry)
    exact PySem.W.cmp_K (op := op) (tb := .type "int") hr.units0 hF I.ok.mod.kin J looks_int (by unfold PySem.W.notFirst; rw [c.ic]; rfl) m.at_ m.fn hrun
  · cases (show u = Value.ref b from ry)
    obtain ⟨od', J'⟩ := ins_at I hb'
    exact PySem.W.cmp_K (op := op) (tb := .ref C) hr.units0 hF I.ok.mod.kin J J'.type (by simp [PySem.W.notFirst]) m.at_ m.fn hrun

theorem op_cmp_int {op : CmpOp} {id : String} (hop : ∀ v u, compareOp op v u = richCompare op v u) (h1 : Slot "int" (cmpInfo op).2.1 id)
    (hno : ∀ (s : Shared) (i : Int) (t : Tok) (b dy : Addr) (Q' E' : Value → Shared → Prop), s.heap.get? b = some (PySem.W.instObj C dy) → Q' .notImplemented s → wpAny (model X.prog X.w) X.A (call (.builtin id) [.int i t, .ref b]) Q' E' s)
    (c : OwnC X.K C) (m : Meth X.K C (cmpInfo op).2.2 f) (F : FnOk X.prog X.w X.K X.mg X.base CX k f fd ps sp)
    (hr : Room k X.A) (hb : Binds X.K fd ps []) (hx : Passes CX X E) : OpR X (compareOp op) (rOwnR C sp E) := by
  intro pins s σ H x y v u Q I rx ry h
  obtain ⟨⟨i, rfl⟩, ⟨b, dy, gs, rfl, hb'⟩, hs⟩ := h
  obtain ⟨t, rfl⟩ := (show ∃ t, v = Value.int i t from rx)
  cases (show u = Value.ref b from ry)
  obtain ⟨od, J⟩ := ins_at I hb'
  obtain ⟨mm, hF⟩ := I.fr
  rw [hop]
  exact cmp_int_own (op := op) hr.units0 hF I.ok.mod.kin J c.ci h1 (fun Q' q => hno s i t b dy Q' _ (ins_obj I hb') q) m.at_ m.fn
    (thn (run_fn (us := [.ref b, .int i t]) (vs := [.ref b, .int i]) F hr hb .nil hx I (.cons rfl (.cons ⟨t, rfl⟩ .nil)) hs) fun v s' q => ep_back q)

theorem op_bin_own {op : Operator} {id : String} (h1 : Slot "int" (dunderR op.info.2) id) (hfi : fillsNumberSlot (.type "int") op.info.2 = pure true) (c : OwnC X.K C)
    (m : Meth X.K C (PySem.dunder op.info.2) f) (mr : Meth X.K C (dunderR op.info.2) g) (F : FnOk X.prog X.w X.K X.mg X.base CX k f fd ps sp)
    (hr : Room k X.A) (hb : Binds X.K fd ps []) (hx : Passes CX X E) : OpR X (binaryOp op) (rOwn C sp E) := by
  intro pins s σ H x y v u Q I rx ry h
  obtain ⟨⟨a, dx, fs, rfl, ha⟩, hy, hs⟩ := h
  cases (show v = Value.ref a from rx)
  obtain ⟨od, J⟩ := ins_at I ha
  obtain ⟨mm, hF⟩ := I.fr
  have hrun : wpAny (model X.prog X.w) X.A (call (.ref f) [.ref a, u]) (PySem.W.CmpBack (EP X pins σ Q)) X.xe s :=
    thn (run_fn (us := [.ref a, u]) (vs := [.ref a, y]) F hr hb .nil hx I (.cons rfl (.cons ry .nil)) hs) fun v s' q => ep_back q
  rcases hy with ⟨i, rfl⟩ | ⟨b, dy, gs, rfl, hb'⟩
  · obtain ⟨t, rfl⟩ := (show ∃ t, u = Value.int i t from ry)
    exact bin_own_int (op := op) hF I.ok.mod.kin J c.first c.ic h1 hfi m.at_ m.fn mr.at_ hrun
  · cases (show u = Value.ref b from ry)
    obtain ⟨od', J'⟩ := ins_at I hb'
    exact PySem.W.binop_K (op := op) hF I.ok.mod.kin J J'.type c.first m.at_ m.fn hrun

theorem op_bin_int {op : Operator} {id : String} (h1 : Slot "int" (PySem.dunder op.info.2) id) (hfi : fillsNumberSlot (.type "int") op.info.2 = pure true)
    (hno : ∀ (s : Shared) (i : Int) (t : Tok) (b dy : Addr) (Q' E' : Value → Shared → Prop), s.heap.get? b = some (PySem.W.instObj C dy) → Q' .notImplemented s → wpAny (model X.prog X.w) X.A (call (.builtin id) [.int i t, .ref b]) Q' E' s)
    (c : OwnC X.K C) (m : Meth X.K C (dunderR op.info.2) f) (ml : Meth X.K C (PySem.dunder op.info.2) g) (F : FnOk X.prog X.w X.K X.mg X.base CX k f fd ps sp)
    (hr : Room k X.A) (hb : Binds X.K fd ps []) (hx : Passes CX X E) : OpR X (binaryOp op) (rOwnR C sp E) := by
  intro pins s σ H x y v u Q I rx ry h
  obtain ⟨⟨i, rfl⟩, ⟨b, dy, gs, rfl, hb'⟩, hs⟩ := h
  obtain ⟨t, rfl⟩ := (show ∃ t, v = Value.int i t from rx)
  cases (show u = Value.ref b from ry)
  obtain ⟨od, J⟩ := ins_at I hb'
  obtain ⟨mm, hF⟩ := I.fr
  exact bin_int_own (op := op) hF I.ok.mod.kin J c.first c.ci h1 hfi (fun Q' q => hno s i t b dy Q' _ (ins_obj I hb') q) ml.at_ m.at_ m.fn
    (thn (run_fn (us := [.ref b, .int i t]) (vs := [.ref b, .int i]) F hr hb .nil hx I (.cons rfl (.cons ⟨t, rfl⟩ .nil)) hs) fun v s' q => ep_back q)

theorem op_eq_own (c : OwnC X.K C) (m : Meth X.K C "__eq__" f) (F : FnOk X.prog X.w X.K X.mg X.base CX k f fd ps sp)
    (hr : Room k X.A) (hb : Binds X.K fd ps []) (hx : Passes CX X E) : OpR X (compareOp .Eq) (rOwn C sp E) := op_cmp_own (op := .Eq) (fun _ _ => rfl) c m F hr hb hx
theorem op_eq_int (c : OwnC X.K C) (m : Meth X.K C "__eq__" f) (F : FnOk X.prog X.w X.K X.mg X.base CX k f fd ps sp)
    (hr : Room k X.A) (hb : Binds X.K fd ps []) (hx : Passes CX X E) : OpR X (compareOp .Eq) (rOwnR C sp E) := op_cmp_int (op := .Eq) (fun _ _ => rfl) PySem.F.slot_int_eq
  (fun s i t b dy Q' E' hb' q => call_meets PySem.F.slot_int_eq (typeIs_int s i t) PySem.F.entry_int_eq (PySem.F.args_int_eq_2 _ _) (int_eq_no i t b C dy) ⟨hb', q⟩) c m F hr hb hx

theorem op_ne_own (c : OwnC X.K C) (m : Meth X.K C "__ne__" f) (F : FnOk X.prog X.w X.K X.mg X.base CX k f fd ps sp)
    (hr : Room k X.A) (hb : Binds X.K fd ps []) (hx : Passes CX X E) : OpR X (compareOp .NotEq) (rOwn C sp E) := op_cmp_own (op := .NotEq) (fun _ _ => rfl) c m F hr hb hx
theorem op_ne_int (c : OwnC X.K C) (m : Meth X.K C "__ne__" f) (F : FnOk X.prog X.w X.K X.mg X.base CX k f fd ps sp)
    (hr : Room k X.A) (hb : Binds X.K fd ps []) (hx : Passes CX X E) : OpR X (compareOp .NotEq) (rOwnR C sp E) := op_cmp_int (op := .NotEq) (fun _ _ => rfl) PySem.F.slot_int_ne
  (fun s i t b dy Q' E' hb' q => call_meets PySem.F.slot_int_ne (typeIs_int s i t) PySem.F.entry_int_ne (PySem.F.args_int_ne_2 _ _) (int_ne_no i t b C dy) ⟨hb', q⟩) c m F hr hb hx

theorem op_lt_own (c : OwnC X.K C) (m : Meth X.K C "__lt__" f) (F : FnOk X.prog X.w X.K X.mg X.base CX k f fd ps sp)
    (hr : Room k X.A) (hb : Binds X.K fd ps []) (hx : Passes CX X E) : OpR X (compareOp .Lt) (rOwn C sp E) := op_cmp_own (op := .Lt) (fun _ _ => rfl) c m F hr hb hx
theorem op_lt_int (c : OwnC X.K C) (m : Meth X.K C "__gt__" f) (F : FnOk X.prog X.w X.K X.mg X.base CX k f fd ps sp)
    (hr : Room k X.A) (hb : Binds X.K fd ps []) (hx : Passes CX X E) : OpR X (compareOp .Lt) (rOwnR C sp E) := op_cmp_int (op := .Lt) (fun _ _ => rfl) PySem.F.slot_int_lt
  (fun s i t b dy Q' E' hb' q => call_meets PySem.F.slot_int_lt (typeIs_int s i t) PySem.F.entry_int_lt (PySem.F.args_int_lt_2 _ _) (int_lt_no i t b C dy) ⟨hb', q⟩) c m F hr hb hx

theorem op_le_own (c : OwnC X.K C) (m : Meth X.K C "__le__" f) (F : FnOk X.prog X.w X.K X.mg X.base CX k f fd ps sp)
    (hr : Room k X.A) (hb : Binds X.K fd ps []) (hx : Passes CX X E) : OpR X (compareOp .LtE) (rOwn C sp E) := op_cmp_own (op := .LtE) (fun _ _ => rfl) c m F hr hb hx
theorem op_le_int (c : OwnC X.K C) (m : Meth X.K C "__ge__" f) (F : FnOk X.prog X.w X.K X.mg X.base CX k f fd ps sp)
    (hr : Room k X.A) (hb : Binds X.K fd ps []) (hx : Passes CX X E) : OpR X (compareOp .LtE) (rOwnR C sp E) := op_cmp_int (op := .LtE) (fun _ _ => rfl) PySem.F.slot_int_le
  (fun s i t b dy Q' E' hb' q => call_meets PySem.F.slot_int_le (typeIs_int s i t) PySem.F.entry_int_le (PySem.F.args_int_le_2 _ _) (int_le_no i t b C dy) ⟨hb', q⟩) c m F hr hb hx

theorem op_gt_own (c : OwnC X.K C) (m : Meth X.K C "__gt__" f) (F : FnOk X.prog X.w X.K X.mg X.base CX k f fd ps sp)
    (hr : Room k X.A) (hb : Binds X.K fd ps []) (hx : Passes CX X E) : OpR X (compareOp .Gt) (rOwn C sp E) := op_cmp_own (op := .Gt) (fun _ _ => rfl) c m F hr hb hx
theorem op_gt_int (c : OwnC X.K C) (m : Meth X.K C "__lt__" f) (F : FnOk X.prog X.w X.K X.mg X.base CX k f fd ps sp)
    (hr : Room k X.A) (hb : Binds X.K fd ps []) (hx : Passes CX X E) : OpR X (compareOp .Gt) (rOwnR C sp E) := op_cmp_int (op := .Gt) (fun _ _ => rfl) PySem.F.slot_int_gt
  (fun s i t b dy Q' E' hb' q => call_meets PySem.F.slot_int_gt (typeIs_int s i t) PySem.F.entry_int_gt (PySem.F.args_int_gt_2 _ _) (int_gt_no i t b C dy) ⟨hb', q⟩) c m F hr hb hx

theorem op_ge_own (c : OwnC X.K C) (m : Meth X.K C "__ge__" f) (F : FnOk X.prog X.w X.K X.mg X.base CX k f fd ps sp)
    (hr : Room k X.A) (hb : Binds X.K fd ps []) (hx : Passes CX X E) : OpR X (compareOp .GtE) (rOwn C sp E) := op_cmp_own (op := .GtE) (fun _ _ => rfl) c m F hr hb hx
theorem op_ge_int (c : OwnC X.K C) (m : Meth X.K C "__le__" f) (F : FnOk X.prog X.w X.K X.mg X.base CX k f fd ps sp)
    (hr : Room k X.A) (hb : Binds X.K fd ps []) (hx : Passes CX X E) : OpR X (compareOp .GtE) (rOwnR C sp E) := op_cmp_int (op := .GtE) (fun _ _ => rfl) PySem.F.slot_int_ge
  (fun s i t b dy Q' E' hb' q => call_meets PySem.F.slot_int_ge (typeIs_int s i t) PySem.F.entry_int_ge (PySem.F.args_int_ge_2 _ _) (int_ge_no i t b C dy) ⟨hb', q⟩) c m F hr hb hx

theorem op_add_own (c : OwnC X.K C) (m : Meth X.K C "__add__" f) (mr : Meth X.K C "__radd__" g) (F : FnOk X.prog X.w X.K X.mg X.base CX k f fd ps sp)
    (hr : Room k X.A) (hb : Binds X.K fd ps []) (hx : Passes CX X E) : OpR X (binaryOp .Add) (rOwn C sp E) := op_bin_own (op := .Add) PySem.F.slot_int_radd PySem.F.fills_int_add c m mr F hr hb hx
theorem op_add_int (c : OwnC X.K C) (m : Meth X.K C "__radd__" f) (ml : Meth X.K C "__add__" g) (F : FnOk X.prog X.w X.K X.mg X.base CX k f fd ps sp)
    (hr : Room k X.A) (hb : Binds X.K fd ps []) (hx : Passes CX X E) : OpR X (binaryOp .Add) (rOwnR C sp E) := op_bin_int (op := .Add) PySem.F.slot_int_add PySem.F.fills_int_add
  (fun s i t b dy Q' E' hb' q => call_meets PySem.F.slot_int_add (typeIs_int s i t) PySem.F.entry_int_add (PySem.F.args_int_add_2 _ _) (int_add_no i t b C dy) ⟨hb', q⟩) c m ml F hr hb hx

theorem op_sub_own (c : OwnC X.K C) (m : Meth X.K C "__sub__" f) (mr : Meth X.K C "__rsub__" g) (F : FnOk X.prog X.w X.K X.mg X.base CX k f fd ps sp)
    (hr : Room k X.A) (hb : Binds X.K fd ps []) (hx : Passes CX X E) : OpR X (binaryOp .Sub) (rOwn C sp E) := op_bin_own (op := .Sub) PySem.F.slot_int_rsub PySem.F.fills_int_sub c m mr F hr hb hx
theorem op_sub_int (c : OwnC X.K C) (m : Meth X.K C "__rsub__" f) (ml : Meth X.K C "__sub__" g) (F : FnOk X.prog X.w X.K X.mg X.base CX k f fd ps sp)
    (hr : Room k X.A) (hb : Binds X.K fd ps []) (hx : Passes CX X E) : OpR X (binaryOp .Sub) (rOwnR C sp E) := op_bin_int (op := .Sub) PySem.F.slot_int_sub PySem.F.fills_int_sub
  (fun s i t b dy Q' E' hb' q => call_meets PySem.F.slot_int_sub (typeIs_int s i t) PySem.F.entry_int_sub (PySem.F.args_int_sub_2 _ _) (int_sub_no i t b C dy) ⟨hb', q⟩) c m ml F hr hb hx

theorem op_mul_own (c : OwnC X.K C) (m : Meth X.K C "__mul__" f) (mr : Meth X.K C "__rmul__" g) (F : FnOk X.prog X.w X.K X.mg X.base CX k f fd ps sp)
    (hr : Room k X.A) (hb : Binds X.K fd ps []) (hx : Passes CX X E) : OpR X (binaryOp .Mult) (rOwn C sp E) := op_bin_own (op := .Mult) PySem.F.slot_int_rmul PySem.F.fills_int_mul c m mr F hr hb hx
theorem op_mul_int (c : OwnC X.K C) (m : Meth X.K C "__rmul__" f) (ml : Meth X.K C "__mul__" g) (F : FnOk X.prog X.w X.K X.mg X.base CX k f fd ps sp)
    (hr : Room k X.A) (hb : Binds X.K fd ps []) (hx : Passes CX X E) : OpR X (binaryOp .Mult) (rOwnR C sp E) := op_bin_int (op := .Mult) PySem.F.slot_int_mul PySem.F.fills_int_mul
  (fun s i t b dy Q' E' hb' q => call_meets PySem.F.slot_int_mul (typeIs_int s i t) PySem.F.entry_int_mul (PySem.F.args_int_mul_2 _ _) (int_mul_no i t b C dy) ⟨hb', q⟩) c m ml F hr hb hx

theorem op_mod_own (c : OwnC X.K C) (m : Meth X.K C "__mod__" f) (mr : Meth X.K C "__rmod__" g) (F : FnOk X.prog X.w X.K X.mg X.base CX k f fd ps sp)
    (hr : Room k X.A) (hb : Binds X.K fd ps []) (hx : Passes CX X E) : OpR X (binaryOp .Mod) (rOwn C sp E) := op_bin_own (op := .Mod) PySem.F.slot_int_rmod PySem.F.fills_int_mod c m mr F hr hb hx
theorem op_mod_int (c : OwnC X.K C) (m : Meth X.K C "__rmod__" f) (ml : Meth X.K C "__mod__" g) (F : FnOk X.prog X.w X.K X.mg X.base CX k f fd ps sp)
    (hr : Room k X.A) (hb : Binds X.K fd ps []) (hx : Passes CX X E) : OpR X (binaryOp .Mod) (rOwnR C sp E) := op_bin_int (op := .Mod) PySem.F.slot_int_mod PySem.F.fills_int_mod
  (fun s i t b dy Q' E' hb' q => call_meets PySem.F.slot_int_mod (typeIs_int s i t) PySem.F.entry_int_mod (PySem.F.args_int_mod_2 _ _) (int_mod_no i t b C dy) ⟨hb', q⟩) c m ml F hr hb hx
end
end MoL

/-! # Helpers: items of lists read by place, // by any number that is not 0, sizes, lowest terms -/
namespace MoL
open PySem PySem.Spec PyProof.Rows L2 MoW

section
variable {X : Cx}
def rGetL (K : PySem.W.Frag) : V → V → Hp → VK → Prop := fun x y H Q => ∃ p xs j v, x = .ref p ∧ y = .int ((j : Nat) : Int) ∧ SqL K H p xs ∧ xs[j]? = some v ∧ Q v H
theorem get_list : PGet X (rGetL X.K) := by
  intro pins s σ H x y v u Q I rx ry h
  obtain ⟨p, xs, j, z, rfl, rfl, hq, he, q⟩ := h
  cases rx
  obtain ⟨t, rfl⟩ := ry
  obtain ⟨its, r, pl, hz⟩ := I.list hq
  obtain ⟨w, ew, rw'⟩ := r.get he
  have hj : j < xs.length := (List.getElem?_eq_some_iff.mp he).1
  have hn := line63
  exact wpAny_getItem_list pl.isList (by omega) (by omega) (by simpa using ew) ⟨z, H, I, rw', q⟩
/-- // by any number but 0, below 2 ^ 9000 in size -/
def CDivA (_ j : Int) : Prop := j ≠ 0 ∧ j.natAbs.log2 < 9000
theorem op_fdivA : OpR X (binaryOp .FloorDiv) (rI CDivA fun i j => .int (i.fdiv j)) := opI fun i j _ _ _ _ _ hc q => floordiv_int hc.1 q (.inl (PyProof.noPylong_of_log2 hc.2))
end

/-! ### sizes -/
/-- below 2 ^ 4000 in size -/
def Sm (i : Int) : Prop := i.natAbs < 2 ^ 4000
theorem Sm.mul {i j : Int} (a : Sm i) (b : Sm j) : CMulW i j := wide_mul a b (by decide) (by decide) (by decide)
theorem Sm.mulr {i j : Int} (a : Sm i) (b : j.natAbs < 2 ^ 9000) : CMulW i j := wide_mul a b (by decide) (by decide) (by decide)
theorem Sm.div {i j : Int} (h : j ≠ 0) (a : Sm j) : CDivA i j := ⟨h, Nat.lt_of_lt_of_le (PySem.Flt.log2_lt_of (by decide) a) (by decide)⟩
theorem Sm.le {i j : Int} (a : Sm j) (h : i.natAbs ≤ j.natAbs) : Sm i := Nat.lt_of_le_of_lt h a
theorem pow_big {k : Nat} (h : k ≤ 4000) : 2 ^ k ≤ 2 ^ 4000 := Nat.pow_le_pow_right (by decide) h
theorem Sm.of {i : Int} {k : Nat} (h : i.natAbs < 2 ^ k) (hk : k ≤ 4000) : Sm i := Nat.lt_of_lt_of_le h (pow_big hk)

theorem Sm.ab {i : Int} (h1 : -(2 ^ 200) < i) (h2 : i < 2 ^ 200) : Sm i := Sm.of (k := 200) (by omega) (by decide)
theorem iteFe {c : Bool} {A B : Prop} (hc : c = false) (h : B) : if c = true then A else B := by rw [hc]; exact iteF h
theorem iteTe {c : Bool} {A B : Prop} (hc : c = true) (h : A) : if c = true then A else B := by rw [hc]; exact iteT h

/-! ### lowest terms -/
/-- t' / b' is t / b in lowest terms, the bottom above 0 -/
structure Norm (t b t' b' : Int) : Prop where
  ex : ∃ g : Int, t = g * t' ∧ b = g * b' ∧ g ≠ 0
  pos : 0 < b'
  cop : Nat.gcd t'.natAbs b'.natAbs = 1
theorem Norm.cross {t b t' b' : Int} (n : Norm t b t' b') : t' * b = t * b' := by
  obtain ⟨g, h1, h2, _⟩ := n.ex
  rw [h1, h2, Int.mul_comm g t', Int.mul_assoc]
theorem natAbs_le_mul {g x : Int} (h : g ≠ 0) : x.natAbs ≤ (g * x).natAbs := by
  rw [Int.natAbs_mul]
  exact Nat.le_mul_of_pos_left _ (Int.natAbs_pos.mpr h)
theorem Norm.le1 {t b t' b' : Int} (n : Norm t b t' b') : t'.natAbs ≤ t.natAbs := by
  obtain ⟨g, h1, h2, h⟩ := n.ex
  rw [h1]; exact natAbs_le_mul h
theorem Norm.le2 {t b t' b' : Int} (n : Norm t b t' b') : b'.natAbs ≤ b.natAbs := by
  obtain ⟨g, h1, h2, h⟩ := n.ex
  rw [h2]; exact natAbs_le_mul h
/-- what the making computes: g the signed common divisor -/
theorem fdiv_exact {g x y : Int} (h : g ≠ 0) (e : x = g * y) : x.fdiv g = y := by
  rw [e]
  exact Int.mul_fdiv_cancel_left y h
theorem Norm.make {t b : Int} (hb : b ≠ 0) : ∀ g : Int, g = (if b < 0 then -((Nat.gcd t.natAbs b.natAbs : Nat) : Int) else ((Nat.gcd t.natAbs b.natAbs : Nat) : Int)) →
    g ≠ 0 ∧ g.natAbs ≤ b.natAbs ∧ Norm t b (t.fdiv g) (b.fdiv g) := by
  intro g hg
  have hpos : 0 < Nat.gcd t.natAbs b.natAbs := Nat.gcd_pos_of_pos_right _ (Int.natAbs_pos.mpr hb)
  have hle : Nat.gcd t.natAbs b.natAbs ≤ b.natAbs := Nat.gcd_le_right _ (Int.natAbs_pos.mpr hb)
  generalize hd : Nat.gcd t.natAbs b.natAbs = d at hpos hle hg
  have gabs : g.natAbs = d := by
    rw [hg]; split <;> simp
  have g0 : g ≠ 0 := by
    intro z; rw [z] at gabs; simp at gabs; omega
  have d1 : d ∣ t.natAbs := hd ▸ Nat.gcd_dvd_left _ _
  have d2 : d ∣ b.natAbs := hd ▸ Nat.gcd_dvd_right _ _
  have e1 : g ∣ t := Int.natAbs_dvd_natAbs.mp (by rw [gabs]; exact d1)
  have e2 : g ∣ b := Int.natAbs_dvd_natAbs.mp (by rw [gabs]; exact d2)
  obtain ⟨t', ht⟩ := e1
  obtain ⟨b', hb'⟩ := e2
  refine ⟨g0, by rw [gabs]; exact hle, ?_⟩
  rw [fdiv_exact g0 ht, fdiv_exact g0 hb']
  refine ⟨⟨g, ht, hb', g0⟩, ?_, ?_⟩
  · by_cases hneg : b < 0
    · rw [if_pos hneg] at hg
      have gn : g < 0 := by omega
      rw [hb', Int.mul_comm] at hneg
      exact Int.pos_of_mul_neg_left hneg gn
    · rw [if_neg hneg] at hg
      have gp : 0 < g := by omega
      have bp : 0 < g * b' := by rw [← hb']; omega
      exact Int.pos_of_mul_pos_right bp (by omega)
  · have x1 : t.natAbs = d * t'.natAbs := by rw [ht, Int.natAbs_mul, gabs]
    have x2 : b.natAbs = d * b'.natAbs := by rw [hb', Int.natAbs_mul, gabs]
    rw [x1, x2, Nat.gcd_mul_left] at hd
    have : d * Nat.gcd t'.natAbs b'.natAbs = d * 1 := by rw [hd, Nat.mul_one]
    exact Nat.eq_of_mul_eq_mul_left hpos this
end MoL

namespace MoL
open PySem PySem.Spec PyProof.Rows L2 MoW
/-- what the written part says of a class of plain instances with operators and the fields top, bottom -/
structure OwnK (K : PySem.W.Frag) (C : Addr) : Prop where
  cl : Cls K C
  ow : OwnC K C
  ha : PySem.W.findIn K (.ref C) "__class__" = some (some (.builtin "object.__class__"))
  hn : PySem.W.specialIn K (.builtin "object.__class__") "__get__" = some (some (.builtin "getset_descriptor.__get__"))
  htk : PySem.W.takesIn K (.builtin "object.__class__") = some true
  hm : PySem.W.mroIn K C (.type "object") = some true
  ki : PySem.W.kitOne K (.ref C) (.type "int") = some false
  ik : PySem.W.kitOne K (.type "int") (.ref C) = some false
  n_top : NoAttr K C "top"
  n_bottom : NoAttr K C "bottom"
theorem kit_self {K : PySem.W.Frag} {C : Addr} : PySem.W.kitOne K (.ref C) (.ref C) = some true := by
  unfold PySem.W.kitOne
  rw [if_pos (by simp)]
theorem OwnK.ty {K : PySem.W.Frag} {C : Addr} {H : Hp} {a dx : Addr} {fs : List (Str × V)} (k : OwnK K C) (h : H a = some (.ins C dx fs)) : TyX K H (.ref a) (.ref C) :=
  .base (.ins h k.cl k.ha k.hn k.htk k.hm)

/-- a Ratio: an instance of the class at C with these two numbers -/
def RatAt (C : Addr) (H : Hp) (v : V) (t b : Int) : Prop := ∃ a dx, v = .ref a ∧ H a = some (.ins C dx [("top", .int t), ("bottom", .int b)])
theorem RatAt.ins {C : Addr} {H : Hp} {v : V} {t b : Int} (r : RatAt C H v t b) : Ins H v C := by
  obtain ⟨a, dx, e, h⟩ := r
  exact ⟨a, dx, _, e, h⟩
theorem RatAt.same {C : Addr} {H H' : Hp} {v : V} {t b : Int} (r : RatAt C H v t b) (s : Same H H') : RatAt C H' v t b := by
  obtain ⟨a, dx, e, h⟩ := r
  exact ⟨a, dx, e, s _ _ h⟩
theorem Ins.same {C : Addr} {H H' : Hp} {v : V} (r : Ins H v C) (s : Same H H') : Ins H' v C := by
  obtain ⟨a, dx, fs, e, h⟩ := r
  exact ⟨a, dx, fs, e, s _ _ h⟩
theorem same_upd {H : Hp} {p : Addr} {o : HO} (h : H p = none) : Same H (upd H p o) := fun b x e => by
  rw [upd_ne (ne_of_none e h)]
  exact e
theorem same_upd' {H H1 : Hp} {p : Addr} {o : HO} (s : Same H H1) (h : H p = none) : Same H (upd H1 p o) := fun b x e => by
  rw [upd_ne (ne_of_none e h)]
  exact s _ _ e
end MoL

/-! # Signs before an instance, abs of one; lowest terms are one -/
namespace MoL
open PySem PySem.Spec PyProof.Rows L2 MoW
section
variable {X : Cx} {CX : CXT} {k : Nat} {C f g : Addr} {fd : FuncData} {ps : List Str} {sp : Sp} {E : XK}
/-- -x of an instance with its own __neg__ -/
def rOwn1 (C : Addr) (sp : Sp) (E : XK) : V → Hp → VK → Prop := fun x H Q => Ins H x C ∧ sp [x] H Q E
theorem un_neg_own (m : Meth X.K C "__neg__" f) (F : FnOk X.prog X.w X.K X.mg X.base CX k f fd ps sp)
    (hr : Room k X.A) (hb : Binds X.K fd ps []) (hx : Passes CX X E) : UnR X (unaryOp .USub) (rOwn1 C sp E) := by
  intro pins s σ H x v Q I rx h
  obtain ⟨⟨a, dx, fs, rfl, ha⟩, hs⟩ := h
  cases (show v = Value.ref a from rx)
  obtain ⟨od, J⟩ := ins_at I ha
  have hrun : wpAny (model X.prog X.w) X.A (call (.ref f) [.ref a]) (EP X pins σ Q) X.xe s :=
    run_fn (us := [.ref a]) (vs := [.ref a]) F hr hb .nil hx I (.cons rfl .nil) hs
  unfold unaryOp
  refine wpAny_holding ?_
  have e : (UnaryOp.USub == UnaryOp.Not) = false := rfl
  simp only [e, Bool.false_eq_true, if_false]
  exact wpAny_bind (PySem.W.special_fn I.kIn J m.at_ (beq_iff_eq.mp m.fn) (wpAny_mono hrun (fun v s' q => wpAny_pure q) fun _ _ e => e))
theorem UnR.or {f : Value → Sem Value} {r r' : V → Hp → VK → Prop} (h : UnR X f r) (h' : UnR X f r') : UnR X f (fun x H Q => r x H Q ∨ r' x H Q) := by
  intro pins s σ H x v Q I rx q
  rcases q with q | q
  · exact h pins s σ H x v Q I rx q
  · exact h' pins s σ H x v Q I rx q
/-- the callee runs within a built-in -/
theorem run_fn1 {pins : List (Addr × Obj)} {σ : L2.St} {H : Hp} {s : Shared} {Q : VK} {us : List Value} {vs : List V} (F : FnOk X.prog X.w X.K X.mg X.base CX k f fd ps sp) (hr : Room (k + 1) X.A) (hb : Binds X.K fd ps []) (hx : Passes CX X E)
    (I : Inv X pins σ H s) (r : Vals vs us) (h : sp vs H Q E) : wpAny (model X.prog X.w) X.A.in1 (call (.ref f) us) (EP X pins σ Q) X.xe s := by
  have hl : us.length = ps.length := by rw [← r.length]; exact F.len _ _ _ _ h
  have hb' : BindsTo s fd ⟨us, []⟩ (ps.zip us) := by
    have := hb s us I.kIn (by simpa using hl)
    simpa using this
  refine wpAny_call (codeAny_mono (F.run X.A.in1 X.stack s H ⟨us, []⟩ us vs Q E hr.in1 I.env0.in1 hb' r h) fun r s' hq => ?_)
  cases r with
  | error e => exact hx pins σ H s e s' I hq
  | ok fl =>
    cases fl with
    | ret u => exact I.after hq
    | next => exact False.elim hq
    | brk => exact False.elim hq
    | cont => exact False.elim hq
theorem call_abs_own (m : Meth X.K C "__abs__" f) (F : FnOk X.prog X.w X.K X.mg X.base CX k f fd ps sp)
    (hr : Room (k + 1) X.A) (hb : Binds X.K fd ps []) (hx : Passes CX X E) : CallR X (.builtin "abs") (fun xs H Q => ∃ x, xs = [x] ∧ rOwn1 C sp E x H Q) := by
  intro pins s σ H xs us Q I r h
  obtain ⟨x, rfl, ⟨a, dx, fs, rfl, ha⟩, hs⟩ := h
  obtain ⟨u, rfl, ru⟩ := vals1 r
  cases (show u = Value.ref a from ru)
  obtain ⟨od, J⟩ := ins_at I ha
  have hrun := run_fn1 (us := [.ref a]) (vs := [.ref a]) F hr hb hx I (.cons rfl .nil) hs
  refine Calls.call_function_entry kind_abs plain_abs entry_abs (args_abs _) ?_
  unfold Builtin.«abs»
  refine wpAny_bind (m := oneArg "abs" _) (wpAny_pure ?_)
  refine wpAny_bind (m := callSpecial? (.ref a) (Str.ofString "__abs__")) ?_
  exact PySem.W.special_fn I.kIn J m.at_ (beq_iff_eq.mp m.fn) (wpAny_mono hrun (fun v s' q => wpAny_pure ⟨_, rfl, q⟩) fun _ _ e => e)
end
/-! ### lowest terms are one -/
theorem Norm.bne {t b t' b' : Int} (n : Norm t b t' b') : b ≠ 0 := by
  obtain ⟨g, _, h2, h⟩ := n.ex
  rw [h2]
  intro z
  rcases Int.mul_eq_zero.mp z with e | e
  · exact h e
  · have := n.pos; omega
theorem cop_one {t b u c : Int} (hb : 0 < b) (hc : 0 < c) (h1 : Nat.gcd t.natAbs b.natAbs = 1) (h2 : Nat.gcd u.natAbs c.natAbs = 1) (e : t * c = u * b) : t = u ∧ b = c := by
  have en : t.natAbs * c.natAbs = u.natAbs * b.natAbs := by rw [← Int.natAbs_mul, ← Int.natAbs_mul, e]
  have d1 : b.natAbs ∣ c.natAbs := by
    have h : b.natAbs ∣ t.natAbs * c.natAbs := ⟨u.natAbs, by rw [en, Nat.mul_comm]⟩
    exact Nat.Coprime.dvd_of_dvd_mul_left (Nat.Coprime.symm h1) h
  have d2 : c.natAbs ∣ b.natAbs := by
    have h : c.natAbs ∣ u.natAbs * b.natAbs := ⟨t.natAbs, by rw [← en, Nat.mul_comm]⟩
    exact Nat.Coprime.dvd_of_dvd_mul_left (Nat.Coprime.symm h2) h
  have ebc : b = c := by
    have := Nat.dvd_antisymm d1 d2
    omega
  subst ebc
  refine ⟨?_, rfl⟩
  exact Int.eq_of_mul_eq_mul_right (by omega) e
/-- two ways to one value: the same lowest terms -/
theorem Norm.uniq {p q t b p' q' t' b' : Int} (n : Norm p q t b) (m : Norm p' q' t' b') (e : p * q' = p' * q) : t = t' ∧ b = b' := by
  refine cop_one n.pos m.pos n.cop m.cop ?_
  have c1 := n.cross
  have c2 := m.cross
  have q0 := n.bne
  have q1 := m.bne
  have key : (t * b') * (q * q') = (t' * b) * (q * q') := by
    have e1 : (t * b') * (q * q') = (t * q) * (b' * q') := by
      rw [Int.mul_assoc, Int.mul_assoc, Int.mul_left_comm b' q q']
    have e2 : (t' * b) * (q * q') = (t' * q') * (b * q) := by
      rw [Int.mul_assoc, Int.mul_assoc, Int.mul_comm q q', Int.mul_left_comm b q' q]
    rw [e1, e2, c1, c2]
    have e3 : p * b * (b' * q') = (p * q') * (b * b') := by
      rw [Int.mul_assoc, Int.mul_assoc, Int.mul_comm b' q', Int.mul_left_comm b q' b']
    have e4 : p' * b' * (b * q) = (p' * q) * (b * b') := by
      rw [Int.mul_assoc, Int.mul_assoc, Int.mul_comm b q, Int.mul_left_comm b' q b, Int.mul_comm b' b]
    rw [e3, e4, e]
  have qq : q * q' ≠ 0 := fun z => by
    rcases Int.mul_eq_zero.mp z with e | e
    · exact q0 e
    · exact q1 e
  exact Int.eq_of_mul_eq_mul_right qq key
end MoL
namespace MoL
open PySem PySem.Spec PyProof.Rows L2 MoW
theorem call_or {X : Cx} {f : Value} {r r' : List V → Hp → VK → Prop} (h : CallR X f r) (h' : CallR X f r') : CallR X f (fun xs H Q => r xs H Q ∨ r' xs H Q) := by
  intro pins s σ H xs us Q I r q
  rcases q with q | q
  · exact h pins s σ H xs us Q I r q
  · exact h' pins s σ H xs us Q I r q
end MoL

/-! # Errors of the program: making one whose class keeps one field, and what a suite that caught it may ask -/
namespace MoL
open PySem PySem.Spec PyProof.Rows L2 MoW

/-! ### a class call in a body whose errors are caught: the wish speaks of the slots -/
def tMakeA (C : Addr) (sp : Sp) (dvs : List V) (W : L2.St → XK) (t : TA) : TE := fun σ H Q => t σ H fun vs G => ∀ x y, G x = none → G y = none → y ≠ x →
  sp (.ref x :: (vs ++ dvs)) (upd (upd G y (.own x)) x (.ins C y [])) (fun v G2 => v = .non ∧ Q (.ref x) G2) (W σ)
section
variable {X : Cx} {CX : CXT} {k : Nat} {f C : Addr} {fd : FuncData} {ps : List Str} {sp : Sp} {dvs : List V} {ds : List Value} {W : L2.St → XK} {x : Str} {p pos : Pos} {e : Expr} {es : List Expr} {t : TA}
theorem pe_makeA (M : Mk X.K C f) (F : FnOk X.prog X.w X.K X.mg X.base CX k f fd ps sp) (room : Room (k + 1) X.A) (hg : Gl X x) (hm : X.mg x = some (.ref C)) (hb : Binds X.K fd ps ds) (hd : Vals dvs ds) (hx : ∀ σ, PassesAt CX X σ (W σ)) (ha : PA X (e :: es) t)
    (hdb : (x == ("__debug__" : Str)) = false := by decide) (he : starEach (e :: es) X.env = (false, eval e X.env) :: starEach es X.env := by rfl) (hpl : (backTo pos (starEach es X.env)).any (·.1) = false := by rfl) :
    PE X (.Call (.Name x p) (e :: es) [] pos) (tMakeA C sp dvs W t) := by
  constructor
  intro pins s0 σ H0 Q I0 h
  refine wpAny_Call_Name_kw (ld_glob I0 hg hm ?_ hdb)
  refine PySem.W.callWith_K (h₀ := X.base) I0.ok.mod.kin M.kp ?_ he hpl
  refine thn (ha.run pos pins s0 σ H0 _ I0 h) ?_
  rintro us s ⟨vs, H, I, r, h⟩
  refine ⟨I.kIn, ?_⟩
  have hq := h (s.heap.objs.size + 1) s.heap.objs.size (I.hok.fresh (Nat.le_succ _)) (I.hok.fresh (Nat.le_refl _)) (Nat.ne_of_lt (Nat.lt_succ_self _))
  have I2 := Inv.made (C := C) I
  have r2 : Vals (V.ref (s.heap.objs.size + 1) :: (vs ++ dvs)) (Value.ref (s.heap.objs.size + 1) :: (us ++ ds)) := .cons rfl (r.append hd)
  have hl : (Value.ref (s.heap.objs.size + 1) :: us ++ ds).length = ps.length := (F.len _ _ _ _ hq ▸ r2.length).symm
  have run := F.run _ X.stack _ _ ⟨Value.ref (s.heap.objs.size + 1) :: us, []⟩ _ _ _ _ (room.make C us []) (I2.env0.make C us []) (hb _ (Value.ref (s.heap.objs.size + 1) :: us) I2.kIn hl) r2 hq
  refine wpAny_call (make_map (f := f) I.kIn M.makes M.init (beq_iff_eq.mp M.fn) (codeAny_mono run ?_))
  intro r s' hq'
  rcases r with fl | e
  · exact hx σ pins _ _ _ s' I2 hq'
  · cases e with
    | ret u =>
      obtain ⟨v, G, I3, rv, ev, q3⟩ := I2.after hq'
      cases ev
      exact ⟨rv, ⟨V.ref (s.heap.objs.size + 1), G, I3, rfl, q3⟩⟩
    | next => exact hq'.elim
    | brk => exact hq'.elim
    | cont => exact hq'.elim
end

/-! ### isinstance of a caught error that has fields -/
def rIsD (K : PySem.W.Frag) (a : Addr) (cls : Value) (d : Option Addr) (D : Addr) : List V → Hp → VK → Prop := fun xs H Q => ∃ (c : V) (cv : Value) (b : Bool) (y : Addr) (fs : List (Str × V)),
  xs = [.ref a, c] ∧ cls = .ref D ∧ d = some y ∧ H y = some (.xd fs) ∧ ClsV c cv ∧ PySem.W.kitOne K (.ref D) cv = some b ∧ Q (.bl b) H
theorem call_isD {X : Cx} {a D : Addr} {oe : Obj} {cls : Value} {d : Option Addr} {pn : List (Addr × Obj)} (C : ExcC X.K D) (hz : Zc cls d oe) (hf : ∃ vs, oe.data = .fields vs) : CallR (X.suite a ((a, oe) :: pn)) (.builtin "isinstance") (rIsD X.K a cls d D) := by
  intro pins s σ H xs us Q I r h
  obtain ⟨c, cv, b, y, fs, rfl, rfl, rfl, hy, hc, e, q⟩ := h
  obtain ⟨u1, u2, rfl, r1, r2⟩ := vals2 r
  cases (show u1 = Value.ref a from r1)
  have e2 := hc.eq r2
  subst e2
  have hget := (I.pin (a, oe) (List.mem_append_left _ List.mem_cons_self)).1
  have ho : ∃ o, s.heap.get? y = some o := by
    obtain ⟨m, ⟨o, _, _, z, _⟩, _⟩ := (show ObjOk X.prog X.w H s.heap y (.xd fs) from I.hok y _ hy)
    exact ⟨o, z⟩
  obtain ⟨od, ho⟩ := ho
  have J : PySem.W.InstAt s.heap a oe D (some od) := by
    obtain ⟨vs, hv⟩ := hf
    rcases oe with ⟨oc, odd, dt, sl⟩
    obtain ⟨z1, z2⟩ := hz
    dsimp only at z1 z2 hv
    subst z1 z2 hv
    exact ⟨hget, rfl, rfl, ho⟩
  have hcl : (PySem.W.clsIn X.K D).isSome = true := by
    obtain ⟨cd, hcd, _⟩ := PySem.W.any_some C.hd
    rw [hcd]
    rfl
  exact PySem.W.kia_one (PySem.W.kitx_exc hcl C.hg C.hk C.hs C.ha C.hn C.ht C.hm) I.kIn J e (fun z => nomatch z) fun tk => ⟨.bl b, H, I.kept (t' := tk) fun _ _ z => z, rfl, q⟩

/-! ### the making of an error with one field -/
/-- the __init__ of such a class: the field f is what was given -/
def sp_keep (K : PySem.W.Frag) (f : Str) : Sp := fun vs H Q _ => ∃ (e C : Addr) (v : V), vs = [.ref e, v] ∧ OexC K C ∧ PySem.W.findIn K (.ref C) f = some none ∧ H e = some (exo e C none) ∧
  ∀ y, H y = none → y ≠ e → Q .non (upd (upd H y (exd y [(f, v)])) e (exo e C (some y)))
/-- raise C(v): what follows when its __init__ keeps sp_keep -/
theorem mk_keep {K : PySem.W.Frag} {C : Addr} {f : Str} {v : V} {H : Hp} {Q : XK} (T : OexC K C) (hn : PySem.W.findIn K (.ref C) f = some none) (q : ∀ y, H y = none → Q (.ref C) (some y) (upd H y (.xd [(f, v)]))) :
    ([v] : List V).length ≤ 1000 ∧ ∀ a, H a = none → sp_keep K f (.ref a :: ([v] ++ [])) (upd H a (exo a C none))
      (fun w G => w = .non ∧ ∃ (d : Addr) (fs : List (Str × V)), G a = some (exo a C (some d)) ∧ G d = some (exd d fs) ∧ H d = none ∧ Q (.ref C) (some d) (upd (del G a) d (.xd fs))) (fun _ _ _ => False) := by
  refine ⟨by show 1 ≤ 1000; decide, fun a na => ⟨a, C, v, rfl, T, hn, upd_same, fun y ny yne => ⟨rfl, y, [(f, v)], upd_same, ?_, ?_, ?_⟩⟩⟩
  · rw [upd_ne yne, upd_same]
  · rw [upd_ne yne] at ny
    exact ny
  · rw [upd_ne yne] at ny
    have e : upd (del (upd (upd (upd H a (exo a C none)) y (exd y [(f, v)])) a (exo a C (some y))) a) y (.xd [(f, v)]) = upd H y (.xd [(f, v)]) := by
      funext b
      by_cases hb : b = y
      · subst hb
        rw [upd_same, upd_same]
      · rw [upd_ne hb, upd_ne hb]
        by_cases hba : b = a
        · subst hba
          rw [del_same, na]
        · rw [del_ne hba, upd_ne hba, upd_ne hb, upd_ne hba]
    rw [e]
    exact q y ny
end MoL

/-! # An error called with keywords, up to its own __init__ -/
namespace MoX
open PySem PySem.W PySem.Calls PyProof.Rows PySem.HandSPX Builtin Builtin.ObjectAttr
section
variable {M : Model} {A : Around} {E : Value → Shared → Prop} {h : Heap} {g : Array GenState} {d : Drawn} {t : Nat} {os : OsState}
variable {nm q : Str} {C N : Addr} {bs bm bmB : List Value} {hdct : Bool} {sn : List Str} {sub : List Value} {ab : Bool} {col : Option Bool} {dd : Option Addr} {k0 k1 k2 k3 k5 : Option Value} {B newId initId : String}
abbrev clsAt (h : Heap) (nm q : Str) (C N : Addr) (bs bm : List Value) (hdct : Bool) (sn : List Str) (sub : List Value) (ab : Bool) (col : Option Bool) (dd : Option Addr) (k0 k1 k2 k3 k5 : Option Value) (newId : String) : Prop :=
  h.get? C = some (excClassObj nm q C N bs bm hdct sn sub ab col dd k0 k1 k2 k3 k5 newId)
theorem kw_check (F : ExcBaseFacts B newId initId bmB) (hT : ∀ Y : String, bm.contains (.type Y) = bmB.contains (.type Y)) {kw : List (Str × Value)} {Q : Unit → Shared → Prop} (hC : clsAt h nm q C N bs bm hdct sn sub ab col dd k0 k1 k2 k3 k5 newId)
    (hq : Q () ⟨h, g, d, t, os⟩) : wpAny M A (checkBuiltinCall newId ⟨[.ref C], kw⟩) Q E ⟨h, g, d, t, os⟩ := by
  have c1 : (Value.ref C :: bm).contains (.type B) = true := by
    rw [List.contains_cons, hT, F.hasB, Bool.or_true]
  have c2 := F.noStar
  simp only [checkBuiltinCall, F.newKind, F.newSplit, F.newRow]
  repeat (first | refine wpAny_loadPart_at hC ?_ | (refine wpAny_isSubtype_exc hC ?_; rw [c1]) | refine wpAny_staticBase_exc hC ?_ | refine wpAny_madeBy_exc hC ?_ | simp only [bne_self_eq_false, Bool.false_eq_true, if_false] | wp_step)
  exact hq
end
section
variable {prog : Program} {w : World} {A : Around} {E : Value → Shared → Prop} {R : Result → Shared → Prop} {h : Heap} {g : Array GenState} {d : Drawn} {t : Nat} {os : OsState}
variable {nm q : Str} {C N : Addr} {bs bm bmB : List Value} {hdct : Bool} {sn : List Str} {sub : List Value} {ab : Bool} {col : Option Bool} {dd : Option Addr} {k0 k1 k2 k3 k5 : Option Value} {B newId initId : String} {kw : List (Str × Value)} {fI : Addr}
theorem kw_new (F : ExcBaseFacts B newId initId bmB) (hT : ∀ Y : String, bm.contains (.type Y) = bmB.contains (.type Y)) (hC : clsAt h nm q C N bs bm hdct sn sub ab col dd k0 k1 k2 k3 k5 newId)
    (hq : R (.ok (.ret (.ref (h.objs.size + 1)))) ⟨(h.push (W.kdv_tup [])).push (excO C h.objs.size), g, d, t, os⟩) : codeAny (model prog w) A (.builtin newId ⟨[.ref C], kw⟩) R ⟨h, g, d, t, os⟩ := by
  have c0 := F.ends
  have c1 : (Value.ref C :: bm).contains (.type B) = true := by
    rw [List.contains_cons, hT, F.hasB, Bool.or_true]
  have c2 : (Value.ref C :: bm).contains (.type "AttributeError") = false := by
    rw [List.contains_cons, hT, F.noAttr]
    rfl
  have c3 : (Value.ref C :: bm).contains (.type "NameError") = false := by
    rw [List.contains_cons, hT, F.noName]
    rfl
  refine codeAny_builtinAt F.entry ?_
  unfold Builtin.«BaseException.__new__»
  refine PySem.wpAt_bind ?_
  show PySem.wpAt _ _ _ (stack >>= _) _ _ _
  refine PySem.wpAt_bind (PySem.wpAt_stack fun below rest => PySem.wpAt_of_wpAny ?_)
  wp_walk
  refine PySem.wpAt_of_wpAny ?_
  rw [F.owner]
  repeat (first | with_reducible refine wpAny_madeHere_exc F.canon hC ?_ | with_reducible refine wpAny_loadPart_at hC ?_ | (with_reducible refine wpAny_isSubtype_exc hC ?_; first | rw [c1] | rw [c2] | rw [c3]) | wp_step)
  show R _ _
  rw [Heap.size_push]
  exact hq
theorem kw_type (F : ExcBaseFacts B newId initId bmB) (hT : ∀ Y : String, bm.contains (.type Y) = bmB.contains (.type Y)) {Q : Fin → Shared → Prop} (hC : clsAt h nm q C N bs bm hdct sn sub ab col dd k0 k1 k2 k3 k5 newId)
    (hi : W.Looks (model prog w) h (typeLookup (.ref C) "__init__") (some (.ref fI))) (hb : ∀ self, W.Looks (model prog w) h (bindSpecial (.ref fI) self) (.ref fI, [self]))
    (hq : codeAny (model prog w) A (.call (.ref fI) ⟨[.ref (h.objs.size + 1)], kw⟩)
      (fun r s' => match r with
        | .ok (.ret v) => v = .none ∧ Q (.done (.ret (.ref (h.objs.size + 1)))) s'
        | .ok _ => False
        | .error e => E e s')
      ⟨(h.push (W.kdv_tup [])).push (excO C h.objs.size), g, d, t, os⟩) : wpAny (model prog w) A (Builtin.«type.__call__» ⟨[.ref C], kw⟩) Q E ⟨h, g, d, t, os⟩ := by
  repeat (first | with_reducible refine wpAny_loadPart_at hC ?_ | with_reducible refine wpAny_madeBy_exc hC ?_ | wp_step)
  refine codeAny_call_builtin_code (Code.quiet_builtin _ F.quiet) (kw_check F hT hC ?_)
  refine kw_new F hT hC ?_
  show wpAny _ _ _ _ _ _
  have kp : ∀ b o, h.get? b = some o → ((h.push (W.kdv_tup [])).push (excO C h.objs.size)).get? b = some o := fun b o e => Heap.get?_push_of_some _ (Heap.get?_push_of_some _ e)
  have hC1 := kp _ _ hC
  have here : ((h.push (W.kdv_tup [])).push (excO C h.objs.size)).get? (h.objs.size + 1) = some (excO C h.objs.size) := by heap_get
  have cC : (Value.ref C :: bm).contains (.ref C) = true := by simp
  have hi1 := hi.keeps kp
  have hb1 := (hb (.ref (h.objs.size + 1))).keeps kp
  unfold isInstance
  repeat (first | with_reducible refine wpAny_loadPart_at here ?_ | (with_reducible refine wpAny_isSubtype_exc hC1 ?_; rw [cC]) | wp_step)
  show wpAny _ _ (typeLookup (.ref C) _) _ _ _
  refine hi1.at ?_
  refine wpAny_holding (wpAny_bind (hb1.at ?_))
  refine wpAny_bind (wpAny_call (codeAny_mono hq ?_))
  intro r s' z
  rcases r with e | (v | _ | _ | _) <;> first | exact z | exact z.elim | skip
  obtain ⟨rfl, z⟩ := z
  first
    | exact wpAny_pure (wpAny_pure z)
    | (wp_walk; exact z)
theorem kw_call (F : ExcBaseFacts B newId initId bmB) (hT : ∀ Y : String, bm.contains (.type Y) = bmB.contains (.type Y)) (hC : clsAt h nm q C N bs bm hdct sn sub ab col dd k0 k1 k2 k3 k5 newId)
    (hi : W.Looks (model prog w) h (typeLookup (.ref C) "__init__") (some (.ref fI))) (hb : ∀ self, W.Looks (model prog w) h (bindSpecial (.ref fI) self) (.ref fI, [self]))
    (hq : codeAny (model prog w) (A.under (.builtin "type.__call__" ⟨[.ref C], kw⟩)) (.call (.ref fI) ⟨[.ref (h.objs.size + 1)], kw⟩) (W.InitBack (h.objs.size + 1) R) ⟨(h.push (W.kdv_tup [])).push (excO C h.objs.size), g, d, t, os⟩) :
    codeAny (model prog w) A (.call (.ref C) ⟨[], kw⟩) R ⟨h, g, d, t, os⟩ := by
  have f1 := tc_lookup
  have f2 := tc_bind (.ref C)
  have ty : (⟨h, g, d, t, os⟩ : Shared).TypeIs (.ref C) "type" := ⟨_, hC, rfl⟩
  refine codeAny_of_tree ?_
  show wpAny _ _ (callAny (.ref C) _) _ _ _
  repeat (any_goals (first | assumption | with_reducible refine wpAny_loadPart_at hC ?_ | wp_step))
  refine ⟨rfl, ?_⟩
  refine codeAny_call_builtin_at (Code.quiet_builtin _ (by decide +kernel)) entry_typeCall (wpAny_check_type_call_sub hC (kw_type F hT hC hi hb ?_))
  refine codeAny_mono hq ?_
  intro r s' z
  rcases r with e | (v | _ | _ | _) <;> exact z
end
end MoX

/-! # Errors as values: made, held, asked -/
namespace MoL
open PySem PySem.Spec PyProof.Rows L2 MoW

/-! ### what the written part says of an error class over MeansError -/
abbrev veT : List Value := [.type "ValueError", .type "Exception", .type "BaseException", .type "object"]
def ClsRow (K : PySem.W.Frag) (C : Addr) (nm : Str) (bm : List Value) : Prop := ∃ q N bs sn sub ab col dd k0 k1 k2 k3 k5, K.lookup C = some (excClassObj nm q C N bs bm true sn sub ab col dd k0 k1 k2 k3 k5 "ValueError.__new__")
structure ErrC (K : PySem.W.Frag) (M C : Addr) (nm : Str) : Prop where
  row : ClsRow K C nm (.ref M :: veT)
  base : ClsRow K M "MeansError" veT
  sa : PySem.W.findIn K (.ref C) "__setattr__" = some (some (.builtin "object.__setattr__"))
  ga : PySem.W.findIn K (.ref C) "__getattribute__" = some (some (.builtin "BaseException.__getattribute__"))
  gg : PySem.W.findIn K (.ref C) "__getattr__" = some none
  ca : PySem.W.findIn K (.ref C) "__class__" = some (some (.builtin "object.__class__"))
  gd : PySem.W.specialIn K (.builtin "object.__class__") "__get__" = some (some (.builtin "getset_descriptor.__get__"))
  tk : PySem.W.takesIn K (.builtin "object.__class__") = some true
  kp : PySem.W.keepIn K (.ref C) = true
section
variable {K : PySem.W.Frag} {M C C' : Addr} {nm nm' : Str} {bm : List Value}
theorem ClsRow.cls (h : ClsRow K C nm bm) : ∃ cd : ClassData, PySem.W.clsIn K C = some cd ∧ cd.mro = .ref C :: bm ∧ cd.hasDict = true ∧ cd.name = nm := by
  obtain ⟨q, N, bs, sn, sub, ab, col, dd, k0, k1, k2, k3, k5, h⟩ := h
  refine ⟨{ name := nm, bases := bs, mro := .ref C :: bm, ns := N, qualname := q, hasDict := true, slotNames := sn, subclasses := sub, abstract := ab, collection := col, hasDel := false }, ?_, rfl, rfl, rfl⟩
  unfold PySem.W.clsIn
  rw [h] <;> rfl
theorem ClsRow.ty (h : ClsRow K C nm bm) : PySem.W.typeIn K (.ref C) = some (.type "type") := by
  obtain ⟨q, N, bs, sn, sub, ab, col, dd, k0, k1, k2, k3, k5, h⟩ := h
  show (K.lookup C).map _ = _
  rw [h]
  rfl
theorem ClsRow.sub (h : ClsRow K C nm bm) (v : Value) : PySem.W.subIn K (.ref C) v = some ((Value.ref C :: bm).contains v) := by
  obtain ⟨cd, e, m, _⟩ := h.cls
  show PySem.W.mroIn K C v = _
  unfold PySem.W.mroIn
  rw [e, Option.bind_some, m]
  rfl
theorem ClsRow.isC (h : ClsRow K C nm bm) : (PySem.W.clsIn K C).isSome = true := by
  obtain ⟨cd, e, _⟩ := h.cls
  rw [e]
  rfl
theorem ClsRow.dict (h : ClsRow K C nm bm) : PySem.W.hasDictIn K C = true := by
  obtain ⟨cd, e, _, d, _⟩ := h.cls
  unfold PySem.W.hasDictIn
  rw [e]
  exact d
theorem ClsRow.ne (h : ClsRow K C nm bm) (h' : ClsRow K C' nm' bm') (n : nm ≠ nm') : C ≠ C' := fun e => by
  subst e
  obtain ⟨cd, e1, _, _, n1⟩ := h.cls
  obtain ⟨cd', e2, _, _, n2⟩ := h'.cls
  rw [e1] at e2
  cases e2
  exact n (n1.symm.trans n2)
theorem ClsRow.kit (h : ClsRow K C nm bm) (h' : ClsRow K C' nm' bm') : PySem.W.kitOne K (.ref C) (.ref C') = some ((Value.ref C :: bm).contains (.ref C')) := by
  unfold PySem.W.kitOne
  by_cases e : C = C'
  · subst e
    rw [if_pos (by simp)]
    simp
  · rw [if_neg (by simpa using e)]
    show (if _ = true then PySem.W.subIn K (.ref C) (.ref C') else none) = _
    rw [h'.isC, h'.ty, if_pos (by rfl), h.sub]
theorem ErrC.exc (e : ErrC K M C nm) : PySem.W.subIn K (.ref C) (.type "BaseException") = some true := by
  rw [e.row.sub]
  rfl
theorem ErrC.o (e : ErrC K M C nm) : OexC K C := by
  refine ⟨?_, e.sa, e.exc, e.row.ty, e.kp⟩
  obtain ⟨q, N, bs, sn, sub, ab, col, dd, k0, k1, k2, k3, k5, h⟩ := e.row
  exact ⟨_, _, _, _, _, _, _, _, _, _, _, _, _, _, _, h, rfl⟩
theorem ErrC.x (e : ErrC K M C nm) : XfC K C := ⟨e.ga, e.gg, e.exc, e.row.dict⟩
theorem ErrC.c (e : ErrC K M C nm) : ExcC K C := by
  refine ⟨e.ga, e.gg, e.exc, e.row.dict, e.ca, e.gd, e.tk, ?_⟩
  have := e.row.sub (.type "object")
  exact this
theorem ErrC.kit_ne (e : ErrC K M C nm) (e' : ErrC K M C' nm') (n : nm ≠ nm') (n2 : nm' ≠ "MeansError") : PySem.W.kitOne K (.ref C) (.ref C') = some false := by
  rw [e.row.kit e'.row]
  have h1 : C' ≠ C := (e.row.ne e'.row n).symm
  have h2 : C' ≠ M := e'.row.ne e.base n2
  simp [h1, h2]
theorem ErrC.kit_self (e : ErrC K M C nm) : PySem.W.kitOne K (.ref C) (.ref C) = some true := by
  rw [e.row.kit e.row]
  simp
theorem ErrC.kit_base (e : ErrC K M C nm) : PySem.W.kitOne K (.ref C) (.ref M) = some true := by
  rw [e.row.kit e.base]
  simp
theorem ErrC.kit_ve (e : ErrC K M C nm) : PySem.W.kitOne K (.ref C) (.type "ValueError") = some true := by
  unfold PySem.W.kitOne
  rw [if_neg (by simp)]
  show (if PySem.W.kitMeta "ValueError" = true then PySem.W.subIn K (.ref C) (.type "ValueError") else none) = _
  rw [if_pos (by decide +kernel), e.row.sub]
  rfl
theorem ErrC.caught (e : ErrC K M C nm) : PySem.W.exmOne K (.ref C) (.ref M) = some true := by
  unfold PySem.W.exmOne
  have h1 : PySem.W.subIn K (.ref M) (.type "BaseException") = some true := by
    rw [e.base.sub]
    rfl
  rw [h1, if_pos (by rfl)]
  show (if _ = true then PySem.W.subIn K (.ref C) (.ref M) else none) = _
  rw [e.base.isC, e.base.ty, if_pos (by rfl), e.row.sub]
  simp
end

/-! ### an error that is held -/
def ErrAt (C : Addr) (H : Hp) (v : V) (fs : List (Str × V)) : Prop := ∃ a, v = .ref a ∧ ((fs = [] ∧ H a = some (exo a C none)) ∨ ∃ y, H a = some (exo a C (some y)) ∧ H y = some (exd y fs))
theorem ErrAt.same {C : Addr} {H H' : Hp} {v : V} {fs : List (Str × V)} (e : ErrAt C H v fs) (s : Same H H') : ErrAt C H' v fs := by
  obtain ⟨a, rfl, ⟨h1, h2⟩ | ⟨y, h1, h2⟩⟩ := e
  · exact ⟨a, rfl, .inl ⟨h1, s _ _ h2⟩⟩
  · exact ⟨a, rfl, .inr ⟨y, s _ _ h1, s _ _ h2⟩⟩
section
variable {X : Cx} {pins : List (Addr × Obj)} {σ : L2.St} {H : Hp} {s : Shared}
theorem ErrAt.inst {C a : Addr} {fs : List (Str × V)} (I : Inv X pins σ H s) (e : ErrAt C H (.ref a) fs) : ∃ oe od, PySem.W.InstAt s.heap a oe C od := by
  obtain ⟨b, eb, ⟨h1, h2⟩ | ⟨y, h1, h2⟩⟩ := e <;> cases eb
  · obtain ⟨t1, ho⟩ := exo_at I.hok h2
    exact ⟨_, none, ho, rfl, rfl, trivial⟩
  · obtain ⟨t1, ho⟩ := exo_at I.hok h1
    obtain ⟨m, ⟨o, _, _, z, _⟩, _⟩ := exd_at I.hok h2
    exact ⟨_, some o, ho, rfl, rfl, z⟩
end
/-- isinstance of it -/
def rIsO (K : PySem.W.Frag) : List V → Hp → VK → Prop := fun xs H Q => ∃ (v c : V) (cv : Value) (C : Addr) (fs : List (Str × V)) (b : Bool), xs = [v, c] ∧ ErrAt C H v fs ∧ ExcC K C ∧ ClsV c cv ∧ PySem.W.kitOne K (.ref C) cv = some b ∧ Q (.bl b) H
theorem call_isO {X : Cx} : CallR X (.builtin "isinstance") (rIsO X.K) := by
  intro pins s σ H xs us Q I r h
  obtain ⟨v, c, cv, C, fs, b, rfl, he, ce, hc, e, q⟩ := h
  obtain ⟨u1, u2, rfl, r1, r2⟩ := vals2 r
  have e2 := hc.eq r2
  subst e2
  obtain ⟨a, rfl, he'⟩ := id he
  cases (show u1 = Value.ref a from r1)
  obtain ⟨oe, od, J⟩ := he.inst I
  have hcl : (PySem.W.clsIn X.K C).isSome = true := by
    obtain ⟨cd, hcd, _⟩ := PySem.W.any_some ce.hd
    rw [hcd]
    rfl
  exact PySem.W.kia_one (PySem.W.kitx_exc hcl ce.hg ce.hk ce.hs ce.ha ce.hn ce.ht ce.hm) I.kIn J e (fun z => nomatch z) fun tk => ⟨.bl b, H, I.tok tk, rfl, q⟩
/-- a field of it -/
def tOxf (K : PySem.W.Frag) (f : Str) (te : TE) : TE := fun σ H Q => te σ H fun x G => ∃ (C : Addr) (fs : List (Str × V)) (v : V), ErrAt C G x fs ∧ XfC K C ∧ PySem.W.findIn K (.ref C) f = some none ∧ fs.lookup f = some v ∧ Q v G
theorem pe_oxf {X : Cx} {e : Expr} {te : TE} {pos : Pos} {n : Str} (he : PE X e te) (hb : attributeBase e n X.env (eval e X.env) = eval e X.env := by rfl) : PE X (.Attribute e n pos) (tOxf X.K n te) := by
  constructor
  intro pins s0 σ H0 Q I0 h
  refine attr_of hb (thn (he.run pins s0 σ H0 _ I0 h) ?_)
  rintro u s ⟨x, H, I, rx, C, fs, v, ea, T, hno, hl, q⟩
  obtain ⟨a, rfl, h2⟩ := ea
  cases (show u = Value.ref a from rx)
  rcases h2 with ⟨rfl, _⟩ | ⟨y, h1, h2⟩
  · cases hl
  · obtain ⟨t1, ho⟩ := exo_at I.hok h1
    obtain ⟨mA, hns, hr⟩ := exd_at I.hok h2
    obtain ⟨od, hod, hlk⟩ := lookIn_ns hns
    obtain ⟨u, hu, ru⟩ := RelO.some_of (v := v) (o := mA n) (by rw [← hl]; exact hr n)
    have J : PySem.W.InstAt s.heap a _ C (some od) := ⟨ho, rfl, rfl, hod⟩
    exact HandSPX.exc_get I.kIn J T.ga T.gg T.exC (PySem.W.findObj_own T.hdC hno rfl (by rw [hlk, hu])) (handed_of ru) ⟨v, H, I.tok _, ru, q⟩

/-! ### the making -/
theorem PE.imp {X : Cx} {e : Expr} {t t' : TE} (h : PE X e t) (i : ∀ σ H Q, t' σ H Q → t σ H Q) : PE X e t' := ⟨fun pins s σ H Q I q => h.run pins s σ H Q I (i σ H Q q)⟩
def tMkE (C : Addr) (sp : Sp) (g : List V → List V) (ta : TA) : TE := fun σ H Q => ta σ H fun vs G => vs.length ≤ 1000 ∧ ∀ a, G a = none → sp (g (.ref a :: vs)) (upd G a (exo a C none)) (fun v G2 => v = .non ∧ Q (.ref a) G2) (fun _ _ _ => False)
section
variable {X : Cx} {CX : CXT} {k : Nat} {fI C M : Addr} {fd : FuncData} {ps ks : List Str} {sp : Sp} {x nm : Str} {p pos : Pos} {e : Expr} {es : List Expr} {ta tk : TA} {kws : List Keyword}
theorem pe_mkE (T : ErrC X.K M C nm) (iC : PySem.W.findIn X.K (.ref C) "__init__" = some (some (.ref fI))) (tI : PySem.W.typeIn X.K (.ref fI) = some (.type "function")) (F : FnOk X.prog X.w X.K X.mg X.base CX k fI fd ps sp) (room : Room (k + 1) X.A) (hb : Binds X.K fd ps [])
    (hx : Passes CX X (fun _ _ _ => False)) (hg : Gl X x) (hm : X.mg x = some (.ref C)) (ha : PA X (e :: es) ta) (hdb : (x == ("__debug__" : Str)) = false := by decide) (he : starEach (e :: es) X.env = (false, eval e X.env) :: starEach es X.env := by rfl) (hpl : (backTo pos (starEach es X.env)).any (·.1) = false := by rfl) :
    PE X (.Call (.Name x p) (e :: es) [] pos) (tMkE C sp id ta) := by
  constructor
  intro pins s0 σ H0 Q I0 h
  obtain ⟨q, N, bs, sn, sub, ab, col, dd, k0, k1, k2, k3, k5, hC⟩ := T.row
  refine wpAny_Call_Name_kw (ld_glob I0 hg hm ?_ hdb)
  refine PySem.W.callWith_K (h₀ := X.base) I0.ok.mod.kin T.kp ?_ he hpl
  refine thn (ha.run pos pins s0 σ H0 _ I0 h) ?_
  rintro us s1 ⟨vs, H1, I1, r1, hz, q1⟩
  refine ⟨I1.kIn, ?_⟩
  show wpAny _ _ (call (.ref C) us) _ _ _
  obtain ⟨hp, g, dr, tk, os⟩ := s1
  have hsz : hp.objs.size ≤ hp.objs.size + 1 := Nat.le_succ _
  have hq := q1 (hp.objs.size + 1) (I1.hok.fresh hsz)
  have kk : ∀ b o, hp.get? b = some o → ((hp.push (PySem.W.kdv_tup us)).push (PySem.HandSPX.excO C hp.objs.size)).get? b = some o := fun b o z => Heap.get?_push_of_some _ (Heap.get?_push_of_some _ z)
  have here : ((hp.push (PySem.W.kdv_tup us)).push (PySem.HandSPX.excO C hp.objs.size)).get? (hp.objs.size + 1) = some (PySem.HandSPX.excO C hp.objs.size) := by heap_get
  have I2 : Inv X pins σ (upd H1 (hp.objs.size + 1) (exo (hp.objs.size + 1) C none)) ⟨(hp.push (PySem.W.kdv_tup us)).push (PySem.HandSPX.excO C hp.objs.size), g, dr, tk, os⟩ :=
    I1.laid (t' := tk) (a := hp.objs.size + 1) (o := exo (hp.objs.size + 1) C none) (h' := (hp.push (PySem.W.kdv_tup us)).push (PySem.HandSPX.excO C hp.objs.size)) kk hsz (exo_ok here)
  have r2 : Vals (V.ref (hp.objs.size + 1) :: vs) (Value.ref (hp.objs.size + 1) :: us) := .cons rfl r1
  have hl : (Value.ref (hp.objs.size + 1) :: us ++ []).length = ps.length := by
    rw [List.append_nil, ← r2.length]
    exact F.len _ _ _ _ hq
  have hus : us.length ≤ sizeLine := by
    rw [← Paired.length r1, sizeLine_eq]
    omega
  have bd := hb _ (Value.ref (hp.objs.size + 1) :: us) I2.kIn hl
  rw [List.append_nil] at bd
  have run := F.run _ X.stack _ _ ⟨Value.ref (hp.objs.size + 1) :: us, []⟩ _ _ _ _ (room.make C us []) (I2.env0.make C us []) bd r2 hq
  refine wpAny_call (PySem.HandSPX.call_own PySem.F.excBase_ValueError (fun Y => PySem.HandSPX.refsVE_contains Y (.ref M :: veT) rfl) (I1.kIn _ _ hC) (PySem.W.looks_findIn I1.kIn iC) (fun self => PySem.W.bind_fn I1.kIn self tI) hus (codeAny_mono run ?_))
  intro r s' hq'
  rcases r with er | fl
  · exact hx pins σ _ _ er s' I2 hq'
  · cases fl with
    | ret u =>
      obtain ⟨v, G, I3, rv, ev, q3⟩ := I2.after hq'
      cases ev
      exact ⟨rv, ⟨V.ref (hp.objs.size + 1), G, I3, rfl, q3⟩⟩
    | next => exact hq'.elim
    | brk => exact hq'.elim
    | cont => exact hq'.elim
/-- with keywords alone -/
theorem pe_mkEk {gL : List Value → List Value → List Value} {gV : List V → List V → List V} {tk : TA} (T : ErrC X.K M C nm) (iC : PySem.W.findIn X.K (.ref C) "__init__" = some (some (.ref fI))) (tI : PySem.W.typeIn X.K (.ref fI) = some (.type "function")) (F : FnOk X.prog X.w X.K X.mg X.base CX k fI fd ps sp)
    (room : Room (k + 1) X.A) (hb : KBn X.K fd ps 1 ks gL gV) (hx : Passes CX X (fun _ _ _ => False)) (hg : Gl X x) (hm : X.mg x = some (.ref C)) (hkw : PK X kws tk)
    (hall : (backToKw pos (keywordEach kws X.env)).all (·.1.isSome) = true := by rfl) (hks : (backToKw pos (keywordEach kws X.env)).filterMap (·.1) = ks := by rfl) (hdb : (x == ("__debug__" : Str)) = false := by decide)
    (hpl : ((backTo pos (starEach [] X.env)).any (·.1) || (backToKw pos (keywordEach kws X.env)).any (·.1.isNone)) = false := by rfl) :
    PE X (.Call (.Name x p) [] kws pos) (fun σ H Q => tk σ H fun zs G => zs.length = ks.length ∧ ∀ a, G a = none → sp (gV [.ref a] zs) (upd G a (exo a C none)) (fun v G2 => v = .non ∧ Q (.ref a) G2) (fun _ _ _ => False)) := by
  constructor
  intro pins s0 σ H0 Q I0 h
  obtain ⟨q, N, bs, sn, sub, ab, col, dd, k0, k1, k2, k3, k5, hC⟩ := T.row
  refine wpAny_Call_Name_kw (ld_glob I0 hg hm ?_ hdb)
  refine PySem.W.callWith_KW0 (h₀ := X.base) I0.ok.mod.kin T.kp hall ?_ hpl
  refine thn (hkw.run pos pins s0 σ H0 _ I0 h) ?_
  rintro ws s1 ⟨zs, H1, I1, rz, hz, q1⟩
  refine ⟨I1.kIn, ?_⟩
  rw [hks]
  show wpAny _ _ (call (.ref C) [] (ks.zip ws)) _ _ _
  obtain ⟨hp, g, dr, tk, os⟩ := s1
  have hsz : hp.objs.size ≤ hp.objs.size + 1 := Nat.le_succ _
  have hq := q1 (hp.objs.size + 1) (I1.hok.fresh hsz)
  have kk : ∀ b o, hp.get? b = some o → ((hp.push (PySem.W.kdv_tup [])).push (PySem.HandSPX.excO C hp.objs.size)).get? b = some o := fun b o z => Heap.get?_push_of_some _ (Heap.get?_push_of_some _ z)
  have here : ((hp.push (PySem.W.kdv_tup [])).push (PySem.HandSPX.excO C hp.objs.size)).get? (hp.objs.size + 1) = some (PySem.HandSPX.excO C hp.objs.size) := by heap_get
  have I2 : Inv X pins σ (upd H1 (hp.objs.size + 1) (exo (hp.objs.size + 1) C none)) ⟨(hp.push (PySem.W.kdv_tup [])).push (PySem.HandSPX.excO C hp.objs.size), g, dr, tk, os⟩ :=
    I1.laid (t' := tk) (a := hp.objs.size + 1) (o := exo (hp.objs.size + 1) C none) (h' := (hp.push (PySem.W.kdv_tup [])).push (PySem.HandSPX.excO C hp.objs.size)) kk hsz (exo_ok here)
  have r1 : Vals [V.ref (hp.objs.size + 1)] [Value.ref (hp.objs.size + 1)] := .cons rfl .nil
  have r2 := hb.rel r1 rz
  have run := F.run _ X.stack _ _ ⟨[Value.ref (hp.objs.size + 1)], ks.zip ws⟩ _ _ _ _ (room.make C [] (ks.zip ws)) (I2.env0.make C [] (ks.zip ws)) (hb.to _ _ ws I2.kIn rfl (rz.length.symm.trans hz)) r2 hq
  refine wpAny_call (MoX.kw_call PySem.F.excBase_ValueError (fun Y => PySem.HandSPX.refsVE_contains Y (.ref M :: veT) rfl) (I1.kIn _ _ hC) (PySem.W.looks_findIn I1.kIn iC) (fun self => PySem.W.bind_fn I1.kIn self tI) (codeAny_mono run ?_))
  intro r s' hq'
  rcases r with er | fl
  · exact hx pins σ _ _ er s' I2 hq'
  · cases fl with
    | ret u =>
      obtain ⟨v, G, I3, rv, ev, q3⟩ := I2.after hq'
      cases ev
      exact ⟨rv, ⟨V.ref (hp.objs.size + 1), G, I3, rfl, q3⟩⟩
    | next => exact hq'.elim
    | brk => exact hq'.elim
    | cont => exact hq'.elim
/-- an error class without own __init__, called with nothing -/
theorem bare_made {A : Around} {W : Value → Shared → Prop} {pins : List (Addr × Obj)} {σ : L2.St} {H : Hp} {s : Shared} {Q : Value → Shared → Prop} (xn : PySem.W.excIn X.K C [.type "ValueError", .type "Exception", .type "BaseException", .type "object"] "ValueError.__new__" = true) (I : Inv X pins σ H s)
    (h : ∀ h' a, Heap.MadeExcOf s.heap h' a (.ref C) [] → H a = none → Q (.ref a) { s with heap := h' }) : wpAny (model X.prog X.w) A (call (.ref C) []) Q W s := by
  obtain ⟨bm, N, nm, qn, bs, hdct, sn, sub, ab, col, dd, k0, k1, k2, k3, k5, mN, hC, hN, hni, T⟩ := exc_obj I.kIn xn
  obtain ⟨hp, g, dr, tk, os⟩ := s
  exact wpAny_call_exc_subT PySem.F.excBase_ValueError T hC hN hni (fun h' a hm => h h' a hm (I.hok.gone hm.new)) (Nat.zero_le _)
theorem pe_mk0 (T : ErrC X.K M C nm) (xn : PySem.W.excIn X.K C [.type "ValueError", .type "Exception", .type "BaseException", .type "object"] "ValueError.__new__" = true) (hg : Gl X x) (hm : X.mg x = some (.ref C)) (hdb : (x == ("__debug__" : Str)) = false := by decide) :
    PE X (.Call (.Name x p) [] [] pos) (fun σ H Q => ∀ H' v, Same H H' → ErrAt C H' v [] → Q v H') := by
  constructor
  intro pins s σ H Q I h
  refine wpAny_Call_Name_kw (ld_glob I hg hm ?_ hdb)
  refine PySem.W.callWith_K0 I.kIn T.kp ?_
  refine bare_made xn I fun h' a hmd ha => ?_
  obtain ⟨t, ht, _, _⟩ := hmd.there
  have J : Inv X pins σ (upd H a (exo a C none)) { s with heap := h' } := I.laidN hmd.keeps hmd.new ha (exo_ok ht)
  refine ⟨.ref a, _, J, rfl, h _ _ (fun b o q => ?_) ⟨a, rfl, .inl ⟨rfl, upd_same⟩⟩⟩
  rw [upd_ne (ne_of_none q ha)]
  exact q
/-- raise of it -/
theorem pmk_mk0 (T : ErrC X.K M C nm) (xn : PySem.W.excIn X.K C [.type "ValueError", .type "Exception", .type "BaseException", .type "object"] "ValueError.__new__" = true) (hg : Gl X x) (hm : X.mg x = some (.ref C)) (hdb : (x == ("__debug__" : Str)) = false := by decide) :
    PMk X (.Call (.Name x p) [] [] pos) (fun σ H Q => Q (.ref C) none H) := by
  intro pins s σ H Q I h
  refine wpAny_Call_Name_kw (ld_glob I hg hm ?_ hdb)
  refine PySem.W.callWith_K0 I.kIn T.kp ?_
  exact bare_made xn I fun h' a hmd ha => mk_of I hmd (raises_own T.exc T.row.ty) h ha
end
end MoL

/-! # // and ** of instances, and what leaves a def that may raise -/
namespace MoW
open PySem PySem.W
section
variable {prog : Program} {w : World} {A : Around} {E : Value → Shared → Prop} {s : Shared}
theorem int_floordiv_no (i : Int) (t : Tok) (l C dx : Addr) :
    Meets (Builtin.«int.__floordiv__» ⟨[.int i t, .ref l], []⟩) (fun _ R s => s.heap.get? l = some (PySem.W.instObj C dx) ∧ R (.ok (.ret .notImplemented)) s) :=
  .of_wp fun prog w A R s h => by obtain ⟨hp, g, d, tk, os⟩ := s; obtain ⟨hl, h⟩ := h; unfold PySem.W.instObj at hl; wp_walk using wpAny_loadPart' hl, wpAny_load hl; exact ⟨_, rfl, h⟩
end
end MoW
namespace MoW
open PySem PySem.W PyProof.Rows
section
variable {prog : Program} {w : World} {A : Around} {E : Value → Shared → Prop} {s : Shared} {K : Frag} {x C L f : Addr} {h₀ : Heap} {m : Str → Option Value} {dx : Addr} {od : Option Obj} {i : Int} {t : Tok}

theorem bin_own_int0 {op : Operator} {id : String} {Q : Value → Shared → Prop} (F : Fr h₀ L s.heap m) (X₀ : K.In h₀) (I : InstAt s.heap x (instObj C dx) C od)
    (hc : selfFirst K C = true) (hn : subIn K (.type "int") (.ref C) = some false) (h1 : Slot "int" (dunderR op.info.2) id) (hfi : fillsNumberSlot (.type "int") op.info.2 = pure true)
    (hs : findIn K (.ref C) (PySem.dunder op.info.2) = some (some (.ref f))) (hf : isFn K (.ref f) = true)
    (hd : findIn K (.ref C) (dunderR op.info.2) = some none)
    (h : wpAny (model prog w) A (call (.ref f) [.ref x, .int i t]) (W.CmpBack Q) E s) : wpAny (model prog w) A (binaryOp op (.ref x) (.int i t)) Q E s := by
  have X := X₀.keeps F.keep
  obtain ⟨cd, rest, hcd, hm⟩ := mro_first (K := K) (C := C) (cd := default) hc
  unfold binaryOp
  refine wpAny_holding (wpAny_bind ?_)
  unfold binaryOp1
  refine wpAny_bind (I.type.here (wpAny_bind (wpAny_typeOf (typeIs_int s i t) (wpAny_bind ((fills_K X hcd hm hs).here ?_)))))
  have hne : (Value.ref C == Value.type "int") = false := rfl
  simp only [hne, Bool.false_eq_true, if_false]
  refine wpAny_bind (wpAny_of_eq hfi ?_)
  simp only [Bool.and_self, if_true]
  refine wpAny_bind ((looks_subIn X hn).here ?_)
  have hpy : Looks (model prog w) s.heap (numberSlotInPython (.ref C) op.info.2) true := by
    unfold numberSlotInPython
    refine (looks_findIn X hs).andThen ?_
    refine Looks.andThen (a := true) .now ?_
    refine (looks_findIn X hd).andThen ?_
    refine Looks.andThen (a := false) .now ?_
    exact .now
  have hpi : numberSlotInPython (.type "int") op.info.2 = pure false := rfl
  simp only [Bool.false_eq_true, if_false, pure_bind, Bool.not_false, Bool.and_self, if_true]
  refine wpAny_bind (hpy.here ?_)
  simp only [if_true]
  refine wpAny_bind (wpAny_of_eq hpi ?_)
  simp only [Bool.not_false, if_true]
  refine wpAny_bind (wpAny_of_eq h1.lookup ?_)
  refine wpAny_bind (m := tryMethod (.ref x) _ (.int i t)) ?_
  unfold tryMethod
  refine wpAny_bind (special_fn X I hs (beq_iff_eq.mp hf) (wpAny_mono h (fun v s' hv => ?_) fun _ _ e => e))
  cases v <;> first | exact hv.elim | exact wpAny_pure (wpAny_pure (wpAny_pure hv))
end
end MoW

namespace MoL
open PySem PySem.Spec PyProof.Rows L2 MoW
section
variable {X : Cx} {CX : CXT} {k : Nat} {C f g : Addr} {fd : FuncData} {ps : List Str} {sp : Sp} {E : XK}
theorem op_floordiv_own (c : OwnC X.K C) (m : Meth X.K C "__floordiv__" f) (mr : Meth X.K C "__rfloordiv__" g) (run : FnOk X.prog X.w X.K X.mg X.base CX k f fd ps sp) (hr : Room k X.A) (hb : Binds X.K fd ps []) (hx : Passes CX X E) : OpR X (binaryOp .FloorDiv) (rOwn C sp E) :=
  op_bin_own (op := .FloorDiv) F.slot_int_rfloordiv F.fills_int_floordiv c m mr run hr hb hx
theorem op_floordiv_int (c : OwnC X.K C) (m : Meth X.K C "__rfloordiv__" f) (ml : Meth X.K C "__floordiv__" g) (run : FnOk X.prog X.w X.K X.mg X.base CX k f fd ps sp) (hr : Room k X.A) (hb : Binds X.K fd ps []) (hx : Passes CX X E) : OpR X (binaryOp .FloorDiv) (rOwnR C sp E) :=
  op_bin_int (op := .FloorDiv) F.slot_int_floordiv F.fills_int_floordiv (fun s i t b dy Q' E' hb' q => call_meets F.slot_int_floordiv (typeIs_int s i t) F.entry_int_floordiv (F.args_int_floordiv_2 _ _) (int_floordiv_no i t b C dy) ⟨hb', q⟩) c m ml run hr hb hx
/-- x ** i, the class has no mirrored one -/
theorem op_pow_own (c : OwnC X.K C) (m : Meth X.K C "__pow__" f) (no : PySem.W.findIn X.K (.ref C) "__rpow__" = some none) (run : FnOk X.prog X.w X.K X.mg X.base CX k f fd ps sp) (hr : Room k X.A) (hb : Binds X.K fd ps []) (hx : Passes CX X E) :
    OpR X (binaryOp .Pow) (fun x y H Q => Ins H x C ∧ (∃ i, y = .int i) ∧ sp [x, y] H Q E) := by
  intro pins s σ H x y v u Q I rx ry h
  obtain ⟨⟨a, dx, fs, rfl, ha⟩, ⟨i, rfl⟩, hs⟩ := h
  cases (show v = Value.ref a from rx)
  obtain ⟨t, rfl⟩ := (show ∃ t, u = Value.int i t from ry)
  obtain ⟨od, J⟩ := ins_at I ha
  obtain ⟨mm, hF⟩ := I.fr
  exact bin_own_int0 (op := .Pow) hF I.ok.mod.kin J c.first c.ic F.slot_int_rpow F.fills_int_pow m.at_ m.fn no
    (thn (run_fn (us := [.ref a, .int i t]) (vs := [.ref a, .int i]) run hr hb .nil hx I (.cons rfl (.cons ⟨t, rfl⟩ .nil)) hs) fun v s' q => ep_back q)
end
/-- a callee's error is this def's own way out -/
theorem passE {P : Program} {w : World} {K : PySem.W.Frag} {mg : Str → Option Value} {base : Heap} {N : List Str} {qual : Str} {scope : Scope} {f : Addr} {cdv : Value} {A : Around} {outer : List Env} {s : Shared} {H : Hp} {E : XK} :
    Passes (L2.CX P w) (cxOf (L2.CX P w) P w K mg base N qual scope f cdv A outer s H E) E :=
  passes_call (W := fun cls d _ H => E cls d H) (takes_of rfl rfl rfl rfl) fun _ _ _ _ h => h
end MoL

/-! # Defs that hand lambdas on, and the def that tells the word of what a lambda raises -/
namespace MoL
open PySem PySem.Spec PyProof.Rows L2 MoW LamX

/-- a def whose code object is known -/
structure FunC (K : PySem.W.Frag) (x qual : Str) (st : Stmt) (f : Addr) (fd : FuncData) (c : Addr) : Prop where
  ex : ∃ (oc : Value) (od : Option Addr) (kV doc pm : Value) (an : Option Addr) (ct : Value) (osl : Array (Option Value)),
    fd = PySem.W.fnOf x qual (defArgs st) (defBody st) (defScope st) .none kV doc pm an (.ref c) ct ∧ K.lookup f = some ⟨oc, od, .func fd, osl⟩ ∧ PySem.W.codeIn K (.ref c) qual = true
  kp : PySem.W.keepIn K (.ref f) = true
theorem FunC.ok {P : Program} {w : World} {K : PySem.W.Frag} {mg : Str → Option Value} {base : Heap} {x qual : Str} {st : Stmt} {f c : Addr} {fd : FuncData} {N ps : List Str} {k : Nat} {sp : Sp} (F : FunC K x qual st f fd c) (S : FnScope N ps (defScope st))
    (len : ∀ vs H Q E, sp vs H Q E → vs.length = ps.length)
    (h : ∀ (A : Around) (outer : List Env) (s : Shared) (H : Hp) (vs : List V) (Q : VK) (E : XK), Room k (A.deeper (envOfC qual (defScope st) s.heap.objs.size f (.ref c))) → sp vs H Q E →
      ∃ t, PSs (cxOf CX0 P w K mg base N qual (defScope st) f (.ref c) A outer s H E).nox (defBody st) t ∧ t { nx := fun _ G => Q .non G, rt := Q } (start N vs) H) : FnOk P w K mg base CX0 (k + 1) f fd ps sp := by
  obtain ⟨oc, od, kV, doc, pm, an, ct, osl, rfl, lk, hcd⟩ := F.ex
  refine fn_of lk hcd S len fun A outer s H vs Q E hr hsp => ?_
  obtain ⟨t, p, q⟩ := h A outer s H vs Q E hr hsp
  exact ⟨t, p.nox, q⟩

/-- the word of the error of the class at R that the lambda raises; nothing: the text "" -/
def TTw (R : Addr) : (XK → Hp → VK → Prop) → Hp → VK → Prop := fun tl H Q =>
  tl (fun cls d G => cls = .ref R ∧ ∃ y s, d = some y ∧ G y = some (.xd [("word", .str s)]) ∧ Q (.str s) G) H (fun _ G => ∃ v : V, (some (some (V.str "")) : Option (Option V)) = some (some v) ∧ Q v G)
/-- a wish needs to be told of slots of the right number alone -/
theorem takes_len {X : Cx} {W : WX} (tk : Takes X W) : Takes X (fun cls d σ H => σ.length = X.N.length → W cls d σ H) := fun u s' x => by
  obtain ⟨a, B, sI, pins, σ, H, cls, d, e, I, nb, up, sky, na, os, ag, w⟩ := x
  exact tk u s' ⟨a, B, sI, pins, σ, H, cls, d, e, I, nb, up, sky, na, os, ag, w I.len⟩
theorem FunC.fn {K : PySem.W.Frag} {x qual : Str} {st : Stmt} {f c : Addr} {fd : FuncData} (F : FunC K x qual st f fd c) : Fun K x qual st f fd := by
  obtain ⟨⟨oc, od, kV, doc, pm, an, ct, osl, e, lk, hcd⟩, kp⟩ := F
  exact ⟨⟨oc, od, kV, doc, pm, an, _, ct, osl, e, lk, hcd⟩, kp⟩
/-- what a lambda's body lets out is what is wished of the lambda -/
theorem passLam {X : Cx} {A : Around} {outer : List Env} {s : Shared} {H : Hp} {E : XK} {scope : Scope} {f c' : Addr} : Passes (L2.CX X.prog X.w) (lamCx X A outer s H E scope f c') E :=
  passes_call (X := lamCx X A outer s H E scope f c') (W := fun cls d _ H => E cls d H) (takes_of rfl rfl rfl rfl) fun _ _ _ _ h => h
/-- behind a lambda that raised: all but the tables is kept, and the tables stand -/
theorem after {T : List (Addr × Str)} {H H1 G : Hp} {y : Addr} {o : HO} (e1 : ExtN H H1) (t1 : Tabs T H1) (s1 : Same H1 G) (ny : G y = none) : ExtN H (upd G y o) ∧ Tabs T (upd G y o) := by
  have s2 := s1.trans (same_upd (o := o) ny)
  exact ⟨e1.trans (.of s2), t1.ext s2⟩
theorem RatAt.ext {C : Addr} {H H' : Hp} {v : V} {t b : Int} (r : RatAt C H v t b) (s : ExtN H H') : RatAt C H' v t b := by
  obtain ⟨a, dx, e, h⟩ := r
  exact ⟨a, dx, e, s _ _ h fun _ z => by cases z⟩
end MoL

/-! # A walk over a list or over a tuple; classes by their facts alone -/
namespace MoL
open PySem PySem.Spec PyProof.Rows L2 MoW
theorem pi_or {X : Cx} {tg e : Expr} {t t' : TI} (p : PI X tg e t) (q : PI X tg e t') : PI X tg e (fun σ H R => t σ H R ∨ t' σ H R) :=
  ⟨fun pins s σ H R I h => h.elim (p.run pins s σ H R I) (q.run pins s σ H R I)⟩
/-- what the written part says of a class of plain instances with operators; the fields' names apart -/
structure OwnB (K : PySem.W.Frag) (C : Addr) : Prop where
  cl : Cls K C
  ow : OwnC K C
  ha : PySem.W.findIn K (.ref C) "__class__" = some (some (.builtin "object.__class__"))
  hn : PySem.W.specialIn K (.builtin "object.__class__") "__get__" = some (some (.builtin "getset_descriptor.__get__"))
  htk : PySem.W.takesIn K (.builtin "object.__class__") = some true
  hm : PySem.W.mroIn K C (.type "object") = some true
  ki : PySem.W.kitOne K (.ref C) (.type "int") = some false
  ik : PySem.W.kitOne K (.type "int") (.ref C) = some false
theorem OwnB.ty {K : PySem.W.Frag} {C : Addr} {H : Hp} {a dx : Addr} {fs : List (Str × V)} (k : OwnB K C) (h : H a = some (.ins C dx fs)) : TyX K H (.ref a) (.ref C) :=
  .base (.ins h k.cl k.ha k.hn k.htk k.hm)

/-! ### a def that declines: its first row is «if not ..: return NotImplemented» -/
/-- behind such a call: the answer, and the heap as it was -/
def Declines (outer : List Env) (P : Program) (w : World) (H : Hp) (s : Shared) (r : Result) (s' : Shared) : Prop := r = .ok (.ret .notImplemented) ∧ CE outer P w H s (fun v G => v = .non ∧ G = H) .none s'
theorem fn_no {CX : CXT} {P : Program} {w : World} {K : PySem.W.Frag} {mg : Str → Option Value} {base : Heap} {k : Nat} {f : Addr} {name qual : Str} {params : Arguments} {scope : Scope} {dV kV doc pm cdv ct oc : Value} {an od : Option Addr} {osl : Array (Option Value)}
    {N ps : List Str} {test : Expr} {rest : List Stmt} {p1 p2 p3 : Pos}
    (lk : K.lookup f = some ⟨oc, od, .func (PySem.W.fnOf name qual params (.If test [.Return (some (.Name "NotImplemented" p1)) p2] [] p3 :: rest) scope dV kV doc pm an cdv ct), osl⟩) (hcd : PySem.W.codeIn K cdv qual = true) (S : FnScope N ps scope)
    (hg : scope.names.lookup ("NotImplemented" : Str) = some NameKind.globalImplicit) (hmg : mg "NotImplemented" = none) {A : Around} {outer : List Env} {s : Shared} {H : Hp} {args : Args} {us : List Value} {vs : List V} (hl : vs.length = ps.length) (room : Room (k + 1) A)
    (e0 : Env0 P w K mg base A outer s H) (hb : BindsTo s (PySem.W.fnOf name qual params (.If test [.Return (some (.Name "NotImplemented" p1)) p2] [] p3 :: rest) scope dV kV doc pm an cdv ct) args (ps.zip us)) (r : Vals vs us)
    (ht : Room k (A.deeper (envOfC qual scope s.heap.objs.size f cdv)) → ∃ t, PT (cxOf CX P w K mg base N qual scope f cdv A outer s H (fun _ _ _ => False)) test t ∧ t (start N vs) H (fun b G => b = true ∧ G = H)) :
    codeAny (model P w) A (.call (.ref f) args) (fun r s' => Declines outer P w H s r s' ∨ ∃ e, r = .error e ∧ CX outer H s (fun _ _ _ => False) e s') s := by
  have KX : K.In s.heap := e0.mod.kin.keeps fun b o z => (e0.bs b o z).1
  have lim : s.heap.NoLimit := e0.mod.nolimit.keeps fun b o z => (e0.bs b o z).1
  have kinds : ∀ y ∈ ps.zip us, scope.names.lookup y.1 = some .local ∨ (scope.names.lookup y.1 = some .cell ∧ ((cellsFrom (s.heap.objs.size + 1) scope.names []).lookup y.1).isSome = true) := by
    rintro ⟨n, v⟩ hy
    rcases S.par n (List.of_mem_zip hy).1 with q | q
    · exact .inl q
    · exact .inr ⟨q, PySem.W.cellsFrom_some _ _ _ (.inl q)⟩
  refine codeAny_call_function room.depth (KX _ _ lk) rfl S.co S.gen rfl (PySem.W.codeRec_of KX hcd) (hb _ _ _ _ ?_)
  refine wpAny_newFunctionEnv_cells S.kind kinds ?_
  rintro env rfl s1 x
  refine ⟨lim.keeps x.toInCall.keep, codeAny_func ?_⟩
  obtain ⟨t, pt, hq⟩ := ht (room.deeper _)
  have I : Inv (cxOf CX P w K mg base N qual scope f cdv A outer s H (fun _ _ _ => False)) [] (start N vs) H s1 := inv_start S room.hd e0 hl r x
  refine wpAny_mono (Q := fun fl s' => fl = .ret .notImplemented ∧ Inv (cxOf CX P w K mg base N qual scope f cdv A outer s H (fun _ _ _ => False)) [] (start N vs) H s') (wpAny_execs_cons (wpAny_If (thn (pt.run [] s1 _ H _ I hq) ?_))) ?_ ?_
  · rintro d s2 ⟨H2, I2, rfl, rfl⟩
    have g : Gl (cxOf CX P w K mg base N qual scope f cdv A outer s H2 (fun _ _ _ => False)) "NotImplemented" := hg
    exact wpAny_execs_cons (wpAny_Return_some (ld_blt I2 g hmg PyProof.Rows.Boot.«NotImplemented» ⟨rfl, I2⟩))
  · rintro fl s' ⟨rfl, J⟩
    exact .inl ⟨rfl, .non, H, J.os, J.bare, J.base, J.hok, rfl, rfl, rfl⟩
  · intro e s' hs
    exact wpAny_mono hs (fun _ s2 z => .inr ⟨e, rfl, z⟩) fun e2 s2 z => .inr ⟨e2, rfl, z⟩
end MoL

namespace MoW
open PySem PySem.W PyProof.Rows
section
variable {prog : Program} {w : World} {A : Around} {E : Value → Shared → Prop} {s : Shared} {K : Frag} {x y C D L f g fr : Addr} {ox oy : Obj} {od od' : Option Obj} {h₀ : Heap} {m : Str → Option Value}
/-- an instance beside one of another class: its own method declines, the other's mirrored one answers -/
theorem bin_own_other {op : Operator} {Q : Value → Shared → Prop} {R : Shared → Prop} {f' g' : Addr} (X : K.In s.heap) (I : W.InstAt s.heap x ox C od) (J : W.InstAt s.heap y oy D od') (hc : selfFirst K C = true) (hd : selfFirst K D = true) (hne : C ≠ D)
    (hn : subIn K (.ref D) (.ref C) = some false) (h1 : findIn K (.ref C) (PySem.dunder op.info.2) = some (some (.ref f))) (hf : isFn K (.ref f) = true) (h1r : findIn K (.ref C) (dunderR op.info.2) = some (some (.ref f')))
    (h2 : findIn K (.ref D) (PySem.dunder op.info.2) = some (some (.ref g'))) (h2r : findIn K (.ref D) (dunderR op.info.2) = some (some (.ref g))) (hg : isFn K (.ref g) = true)
    (a : wpAny (model prog w) A (call (.ref f) [.ref x, .ref y]) (fun v s' => v = .notImplemented ∧ R s') E s)
    (b : ∀ s', R s' → K.In s'.heap ∧ (∃ ox' o1, W.InstAt s'.heap x ox' C o1) ∧ (∃ oy' o2, W.InstAt s'.heap y oy' D o2) ∧ wpAny (model prog w) A (call (.ref g) [.ref y, .ref x]) (W.CmpBack Q) E s') : wpAny (model prog w) A (binaryOp op (.ref x) (.ref y)) Q E s := by
  obtain ⟨cd, rest, hcd, hm⟩ := mro_first (K := K) (C := C) (cd := default) hc
  obtain ⟨dd, rest2, hdd, hm2⟩ := mro_first (K := K) (C := D) (cd := default) hd
  unfold binaryOp
  refine wpAny_holding (wpAny_bind ?_)
  unfold binaryOp1
  refine wpAny_bind (I.type.here (wpAny_bind (J.type.here (wpAny_bind ((fills_K X hcd hm h1).here ?_)))))
  have ne : (Value.ref C == Value.ref D) = false := by simpa using hne
  simp only [ne, Bool.false_eq_true, if_false]
  refine wpAny_bind ((fills_K X hdd hm2 h2).here ?_)
  simp only [Bool.and_self, if_true]
  refine wpAny_bind ((looks_subIn X hn).here ?_)
  simp only [Bool.false_eq_true, if_false, pure_bind, Bool.not_false, Bool.and_self, if_true]
  have py : ∀ {Z p q : Addr}, findIn K (.ref Z) (PySem.dunder op.info.2) = some (some (.ref p)) → findIn K (.ref Z) (dunderR op.info.2) = some (some (.ref q)) → Looks (model prog w) s.heap (numberSlotInPython (.ref Z) op.info.2) true := by
    intro Z p q z1 z2
    unfold numberSlotInPython
    refine (looks_findIn X z1).andThen (Looks.andThen (a := true) .now ?_)
    exact (looks_findIn X z2).andThen (Looks.andThen (a := true) .now .now)
  refine wpAny_bind ((py h1 h1r).here ?_)
  simp only [if_true]
  refine wpAny_bind ((py h2 h2r).here ?_)
  simp only [Bool.not_true, Bool.false_eq_true, if_false]
  refine wpAny_bind (m := tryMethod (.ref x) _ (.ref y)) ?_
  unfold tryMethod
  refine wpAny_bind (special_fn X I h1 (beq_iff_eq.mp hf) (wpAny_mono a (fun v s' hv => ?_) fun _ _ e => e))
  obtain ⟨rfl, hR⟩ := hv
  obtain ⟨X2, ⟨ox', o1, I2⟩, ⟨oy', o2, J2⟩, b2⟩ := b s' hR
  refine wpAny_pure (wpAny_bind (I2.type.here (wpAny_bind (J2.type.here ?_))))
  rw [ne]
  simp only [Bool.false_eq_true, if_false]
  refine wpAny_bind (m := tryMethod (.ref y) _ (.ref x)) ?_
  unfold tryMethod
  refine wpAny_bind (special_fn X2 J2 h2r (beq_iff_eq.mp hg) (wpAny_mono b2 (fun v s' hv => ?_) fun _ _ e => e))
  cases v <;> first | exact hv.elim | exact wpAny_pure (wpAny_bind (wpAny_rule (wpAny_pure (wpAny_pure hv))))
end
end MoW
namespace MoL
open PySem PySem.Spec PyProof.Rows L2 MoW
/-- a def that declines these values -/
def FnNo (P : Program) (w : World) (K : PySem.W.Frag) (mg : Str → Option Value) (base : Heap) (CX : CXT) (k : Nat) (f : Addr) (pre : List V → Hp → Prop) : Prop :=
  ∀ (A : Around) (outer : List Env) (s : Shared) (H : Hp) (us : List Value) (vs : List V), Room k A → Env0 P w K mg base A outer s H → Vals vs us → pre vs H →
    codeAny (model P w) A (.call (.ref f) ⟨us, []⟩) (fun r s' => Declines outer P w H s r s' ∨ ∃ e, r = .error e ∧ CX outer H s (fun _ _ _ => False) e s') s
section
variable {X : Cx} {CX CX' : CXT} {k k' : Nat} {C D f f' g g' : Addr} {fd : FuncData} {ps : List Str} {sp : Sp} {E : XK} {pre : List V → Hp → Prop}
/-- x op y: x's own def declines, y's mirrored one answers -/
theorem op_other {op : Operator} (c : OwnC X.K C) (d : OwnC X.K D) (ne : C ≠ D) (sub : PySem.W.subIn X.K (.ref D) (.ref C) = some false) (m : Meth X.K C (PySem.dunder op.info.2) f) (mr : Meth X.K C (dunderR op.info.2) f') (m2 : Meth X.K D (PySem.dunder op.info.2) g')
    (m2r : Meth X.K D (dunderR op.info.2) g) (no : FnNo X.prog X.w X.K X.mg X.base CX' k' f pre) (hr' : Room k' X.A) (never : ∀ (H : Hp) s e s', CX' X.stack H s (fun _ _ _ => False) e s' → False) (run : FnOk X.prog X.w X.K X.mg X.base CX k g fd ps sp) (hr : Room k X.A)
    (hb : Binds X.K fd ps []) (hx : Passes CX X E) : OpR X (binaryOp op) (fun x y H Q => Ins H x C ∧ Ins H y D ∧ pre [x, y] H ∧ sp [y, x] H Q E) := by
  intro pins s σ H x y v u Q I rx ry h
  obtain ⟨⟨a, dx, fs, rfl, ha⟩, ⟨b, dy, gs, rfl, hb'⟩, hp, hs⟩ := h
  cases (show v = Value.ref a from rx)
  cases (show u = Value.ref b from ry)
  obtain ⟨od, J⟩ := ins_at I ha
  obtain ⟨od', J'⟩ := ins_at I hb'
  refine bin_own_other (R := fun s' => Inv X pins σ H s') I.kIn J J' c.first d.first ne sub m.at_ m.fn mr.at_ m2.at_ m2r.at_ m2r.fn ?_ ?_
  · refine wpAny_call (codeAny_mono (no X.A X.stack s H [.ref a, .ref b] [.ref a, .ref b] hr' I.env0 (.cons rfl (.cons rfl .nil)) hp) ?_)
    rintro r s' (⟨rfl, ce⟩ | ⟨e, rfl, z⟩)
    · obtain ⟨w0, G, I2, _, ⟨_, rfl⟩⟩ := I.after ce
      exact ⟨rfl, I2⟩
    · exact (never H s e s' z).elim
  · intro s' I2
    obtain ⟨o1, K1⟩ := ins_at I2 ha
    obtain ⟨o2, K2⟩ := ins_at I2 hb'
    exact ⟨I2.kIn, ⟨_, o1, K1⟩, ⟨_, o2, K2⟩, thn (run_fn (us := [.ref b, .ref a]) (vs := [.ref b, .ref a]) run hr hb .nil hx I2 (.cons rfl (.cons rfl .nil)) hs) fun v s' q => ep_back q⟩
end
/-- a def of the text that declines what its first row tells -/
theorem no_of {P : Program} {w : World} {K : PySem.W.Frag} {mg : Str → Option Value} {base : Heap} {x qual : Str} {st : Stmt} {f : Addr} {fd : FuncData} {N ps : List Str} {k : Nat} {test : Expr} {rest : List Stmt} {p1 p2 p3 : Pos} {pre : List V → Hp → Prop}
    (F : Fun K x qual st f fd) (S : FnScope N ps (defScope st)) (hst : defBody st = .If test [.Return (some (.Name "NotImplemented" p1)) p2] [] p3 :: rest) (hg : (defScope st).names.lookup ("NotImplemented" : Str) = some NameKind.globalImplicit) (hmg : mg "NotImplemented" = none)
    (hb : Binds K fd ps []) (len : ∀ vs H, pre vs H → vs.length = ps.length)
    (ht : ∀ (cdv : Value) (A : Around) (outer : List Env) (s : Shared) (H : Hp) (vs : List V), Room k (A.deeper (envOfC qual (defScope st) s.heap.objs.size f cdv)) → pre vs H →
      ∃ t, PT (cxOf CX0 P w K mg base N qual (defScope st) f cdv A outer s H (fun _ _ _ => False)) test t ∧ t (start N vs) H (fun b G => b = true ∧ G = H)) : FnNo P w K mg base CX0 (k + 1) f pre := by
  obtain ⟨oc, od, kV, doc, pm, an, cdv, ct, osl, rfl, lk, hcd⟩ := F.ex
  rw [hst] at lk hb
  intro A outer s H us vs room e0 r hp
  have hl := len vs H hp
  have KX : K.In s.heap := e0.mod.kin.keeps fun b o z => (e0.bs b o z).1
  have hlu : (us ++ []).length = ps.length := by
    rw [List.append_nil, ← r.length]
    exact hl
  have bd := hb s us KX hlu
  rw [List.append_nil] at bd
  exact fn_no lk hcd S hg hmg hl room e0 bd r fun rm => ht cdv A outer s H vs rm hp
end MoL

/-! # None beside an instance under ==, and x in an instance -/
namespace MoW
open PySem PySem.W PyProof.Rows
section
variable {prog : Program} {w : World} {A : Around} {E : Value → Shared → Prop} {s : Shared} {K : Frag} {x C f : Addr} {ox : Obj} {od : Option Obj}
theorem none_eq_no (l : Addr) : Gives (Builtin.«NoneType.__eq__» ⟨[.none, .ref l], []⟩) (.val (Value.notImplemented)) :=
  .of_wp fun M A E s Q h => by obtain ⟨hp, g, d, tk, os⟩ := s; wp_walk; exact ⟨_, rfl, h⟩
/-- None == x: both decline, they are not one thing -/
theorem cmp_none_own {Q : Value → Shared → Prop} {R : Shared → Prop} (hu : A.units < cLine) (X : K.In s.heap) (I : W.InstAt s.heap x ox C od) (hn : subIn K (.ref C) (.type "NoneType") = some false)
    (hs : findIn K (.ref C) "__eq__" = some (some (.ref f))) (hf : isFn K (.ref f) = true)
    (h : wpAny (model prog w) A (call (.ref f) [.ref x, .none]) (fun v s' => v = .notImplemented ∧ Q (.bool false) s') E s) : wpAny (model prog w) A (richCompare .Eq .none (.ref x)) Q E s := by
  have ty : ∀ s' : Shared, s'.TypeIs .none "NoneType" := fun _ => rfl
  unfold richCompare
  simp only [(ty s).oneThing_none]
  refine wpAny_holding (wpAny_bind (wpAny_cRoomFor hu ?_))
  refine wpAny_bind (wpAny_typeOf (ty s) (wpAny_bind (I.type.here ?_)))
  have hne : (Value.type "NoneType" != Value.ref C) = true := rfl
  simp only [hne, if_true]
  refine wpAny_bind ((looks_subIn X hn).here ?_)
  simp only [Bool.false_eq_true, if_false, Bool.not_false, if_true]
  refine wpAny_bind (m := tryCompare .none _ (.ref x)) (wpAny_tryCompare_declines (ty s) PySem.F.slot_NoneType_eq (call_gives PySem.F.slot_NoneType_eq rfl PySem.F.entry_NoneType_eq (PySem.F.args_NoneType_eq_2 _ _) (none_eq_no x) ⟨rfl, ?_⟩))
  refine wpAny_bind (m := tryCompare (.ref x) _ .none) ?_
  unfold tryCompare
  refine wpAny_bind (ifBound_K X I hs hf (wpAny_mono h (fun v s' hv => ?_) fun _ _ e => e))
  obtain ⟨rfl, q⟩ := hv
  exact wpAny_pure (wpAny_bind (wpAny_rule (wpAny_bind (wpAny_of_eq (show isSame .none (.ref x) = pure false from rfl) (wpAny_pure q)))))
/-- x == None, x's own method declines -/
theorem cmp_own_none {Q : Value → Shared → Prop} {R : Shared → Prop} (hu : A.units < cLine) (X : K.In s.heap) (I : W.InstAt s.heap x ox C od) (hn : subIn K (.type "NoneType") (.ref C) = some false)
    (hs : findIn K (.ref C) "__eq__" = some (some (.ref f))) (hf : isFn K (.ref f) = true)
    (h : wpAny (model prog w) A (call (.ref f) [.ref x, .none]) (fun v s' => v = .notImplemented ∧ Q (.bool false) s') E s) : wpAny (model prog w) A (richCompare .Eq (.ref x) .none) Q E s := by
  have ty : ∀ s' : Shared, s'.TypeIs .none "NoneType" := fun _ => rfl
  unfold richCompare
  simp only [oneThing_ref]
  refine wpAny_holding (wpAny_bind (wpAny_cRoomFor hu ?_))
  refine wpAny_bind (I.type.here (wpAny_bind (wpAny_typeOf (ty s) ?_)))
  have hne : (Value.ref C != Value.type "NoneType") = true := rfl
  simp only [hne, if_true]
  refine wpAny_bind ((looks_subIn X hn).here ?_)
  simp only [Bool.false_eq_true, if_false, Bool.not_false, if_true]
  refine wpAny_bind (m := tryCompare (.ref x) _ .none) ?_
  have one : wpAny (model prog w) A (tryCompare (.ref x) "__eq__" .none) (fun r s' => r = none ∧ Q (.bool false) s') E s := by
    unfold tryCompare
    refine wpAny_bind (ifBound_K X I hs hf (wpAny_mono h (fun v s' hv => ?_) fun _ _ e => e))
    obtain ⟨rfl, q⟩ := hv
    exact wpAny_pure ⟨rfl, q⟩
  refine wpAny_mono one (fun r s' z => ?_) fun _ _ e => e
  obtain ⟨rfl, q⟩ := z
  refine wpAny_bind (m := tryCompare .none _ (.ref x)) (wpAny_tryCompare_declines (ty s') PySem.F.slot_NoneType_eq_refl (call_gives PySem.F.slot_NoneType_eq_refl rfl PySem.F.entry_NoneType_eq (PySem.F.args_NoneType_eq_2 _ _) (none_eq_no x) ⟨rfl, ?_⟩))
  exact wpAny_bind (wpAny_rule (wpAny_bind (wpAny_of_eq (show isSame (.ref x) .none = pure false from rfl) (wpAny_pure q))))
end
end MoW
namespace MoL
open PySem PySem.Spec PyProof.Rows L2 MoW
section
variable {X : Cx} {CX CX' : CXT} {k k' : Nat} {C D f f' g g' : Addr} {fd : FuncData} {ps : List Str} {sp : Sp} {E : XK} {pre : List V → Hp → Prop}
/-- x == None and None == x: not equal, the instance's own method declines -/
theorem op_eq_none (h1 : PySem.W.subIn X.K (.ref C) (.type "NoneType") = some false) (h2 : PySem.W.subIn X.K (.type "NoneType") (.ref C) = some false) (m : Meth X.K C "__eq__" f)
    (no : FnNo X.prog X.w X.K X.mg X.base CX' k' f pre) (hr' : Room k' X.A) (never : ∀ (H : Hp) s e s', CX' X.stack H s (fun _ _ _ => False) e s' → False) :
    OpR X (compareOp .Eq) (fun x y H Q => ((x = .non ∧ Ins H y C ∧ pre [y, .non] H) ∨ (y = .non ∧ Ins H x C ∧ pre [x, .non] H)) ∧ Q (.bl false) H) := by
  intro pins s σ H x y v u Q I rx ry h
  obtain ⟨h, q⟩ := h
  have run : ∀ a : Addr, pre [.ref a, .non] H → wpAny (model X.prog X.w) X.A (call (.ref f) [.ref a, .none]) (fun v s' => v = .notImplemented ∧ EP X pins σ Q (.bool false) s') X.xe s := fun a hp => by
    refine wpAny_call (codeAny_mono (no X.A X.stack s H [.ref a, .none] [.ref a, .non] hr' I.env0 (.cons rfl (.cons rfl .nil)) hp) ?_)
    rintro r s' (⟨rfl, ce⟩ | ⟨e, rfl, z⟩)
    · obtain ⟨w0, G, I2, _, ⟨_, rfl⟩⟩ := I.after ce
      exact ⟨rfl, .bl false, _, I2, rfl, q⟩
    · exact (never H s e s' z).elim
  rcases h with ⟨rfl, ⟨a, dx, fs, rfl, ha⟩, hp⟩ | ⟨rfl, ⟨a, dx, fs, rfl, ha⟩, hp⟩
  · cases (show v = Value.none from rx)
    cases (show u = Value.ref a from ry)
    obtain ⟨od, J⟩ := ins_at I ha
    exact cmp_none_own (R := fun _ => True) hr'.units0 I.kIn J h1 m.at_ m.fn (run a hp)
  · cases (show v = Value.ref a from rx)
    cases (show u = Value.none from ry)
    obtain ⟨od, J⟩ := ins_at I ha
    exact cmp_own_none (R := fun _ => True) hr'.units0 I.kIn J h2 m.at_ m.fn (run a hp)
/-- x in an instance -/
theorem op_in_own (m : Meth X.K C "__contains__" f) (F : FnOk X.prog X.w X.K X.mg X.base CX k f fd ps sp) (hr : Room k X.A) (hb : Binds X.K fd ps []) (hx : Passes CX X E) :
    OpR X (compareOp .In) (fun x y H Q => Ins H y C ∧ sp [y, x] H (fun v H' => ∃ b, v = .bl b ∧ Q (.bl b) H') E) := by
  intro pins s σ H x y v u Q I rx ry h
  obtain ⟨⟨a, dx, fs, rfl, ha⟩, hs⟩ := h
  cases (show u = Value.ref a from ry)
  obtain ⟨od, J⟩ := ins_at I ha
  obtain ⟨mm, hF⟩ := I.fr
  refine PySem.W.in_K hF I.ok.mod.kin J m.at_ m.fn (thn (run_fn (us := [.ref a, v]) (vs := [.ref a, x]) F hr hb .nil hx I (.cons rfl (.cons rx .nil)) hs) fun r s' q => ?_)
  obtain ⟨z, H', I', r1, b, rfl, q⟩ := q
  cases (show r = Value.bool b from r1)
  exact wpAny_truthy_bool ⟨.bl b, H', I', rfl, q⟩
end
/-- a list read by place, the written part named (in a lambda's body the context must not show) -/
theorem ix_listK {X : Cx} {K : PySem.W.Frag} (h : X.K = K) : IxR X (rIxL K) := h ▸ ix_list
end MoL

/-! # math.lcm of long numbers, math.comb, a comprehension over zip -/
namespace MoL
open PySem PySem.Spec PyProof.Rows L2 MoW
section
variable {X : Cx}
def rLcm : List V → Hp → VK → Prop := fun vs H Q => ∃ a b : Int, vs = [.int a, .int b] ∧ Sm a ∧ Sm b ∧ Q (.int ((Nat.lcm a.natAbs b.natAbs : Nat) : Int)) H
theorem cr_lcm : CallR X (.builtin "math.lcm") rLcm := by
  intro pins s σ H vs us Q I r h
  obtain ⟨a, b, rfl, sa, sb, q⟩ := h
  obtain ⟨t, u, rfl⟩ := Vals.int2 r
  have la : a.natAbs.log2 < 4000 + 1 := Nat.lt_succ_of_le (Nat.le_of_lt_succ (Nat.lt_succ_of_lt (PySem.Flt.log2_lt_of (by decide) sa)))
  have lb : b.natAbs.log2 < 4000 + 1 := Nat.lt_succ_of_le (Nat.le_of_lt_succ (Nat.lt_succ_of_lt (PySem.Flt.log2_lt_of (by decide) sb)))
  have m1 : (max 1 a.natAbs).log2 < 4001 := by
    rcases Nat.le_total 1 a.natAbs with h | h
    · rw [Nat.max_eq_right h]; exact la
    · rw [Nat.max_eq_left h]; decide
  have m2 : (max a.natAbs b.natAbs).log2 < 4001 := by
    rcases Nat.le_total a.natAbs b.natAbs with h | h
    · rw [Nat.max_eq_right h]; exact lb
    · rw [Nat.max_eq_left h]; exact la
  have hsz : ((((Nat.lcm 1 a.natAbs).lcm b.natAbs : Nat) : Int)).natAbs.log2 < bitsLine := by
    rw [PySem.W.mc_lcm_one]
    have h1 : a.natAbs.lcm b.natAbs < 2 ^ 8000 := Nat.lt_of_le_of_lt (PySem.W.mc_lcm_le _ _) (Nat.lt_of_lt_of_le (Nat.mul_lt_mul'' sa sb) (by rw [← Nat.pow_add]; exact Nat.le_refl _))
    have h2 : ((a.natAbs.lcm b.natAbs : Nat) : Int).natAbs.log2 < 8000 := PySem.Flt.log2_lt_of (by decide) h1
    exact Nat.lt_of_lt_of_le h2 (by decide)
  have e : ((((Nat.lcm 1 a.natAbs).lcm b.natAbs : Nat) : Int)) = ((a.natAbs.lcm b.natAbs : Nat) : Int) := by rw [PySem.W.mc_lcm_one]
  exact call_function_meets PySem.W.MGF.kind_lcm PySem.W.MGF.plain_lcm PySem.W.MGF.entry_lcm (PySem.W.MGF.args_lcm _ _) (PySem.W.mg_run_lcm a t b u (by omega) (by omega) hsz).meets (e ▸ ⟨.int _, H, I.tok _, ⟨_, rfl⟩, q⟩)
def rComb : List V → Hp → VK → Prop := fun vs H Q => ∃ a b : Int, vs = [.int a, .int b] ∧ 0 ≤ a ∧ 0 ≤ b ∧ a < 1000 ∧ b < 1000 ∧ Q (.int (PySem.W.mcComb a b)) H
theorem cr_comb : CallR X (.builtin "math.comb") rComb := by
  intro pins s σ H vs us Q I r h
  obtain ⟨a, b, rfl, ha, hb, ha2, hb2, q⟩ := h
  obtain ⟨t, u, rfl⟩ := Vals.int2 r
  exact PySem.W.mc_comb ha hb (by omega) (.inl (by omega)) fun _ => ⟨.int _, H, I.tok _, ⟨_, rfl⟩, q⟩
end
/-- [e for a, b in zip(xs, ys)]: both lists stay -/
theorem lc_zip {K : PySem.W.Frag} {a b : Addr} {xs ys : List V} {g : TG} {tt : TT} {te : TE} {vs : List Nat} {σ : L2.St} {H1 : Hp} {D : Addr} {Qd : Hp → Prop} (Pv : Nat → Hp → Prop) (h0 : Pv 0 (upd H1 D (.lst [])))
    (hl : ∀ i H, i ≤ min xs.length ys.length → Pv i H → SqL K H a xs ∧ SqL K H b ys)
    (hs : ∀ i x y H T, xs[i]? = some x → ys[i]? = some y → H T = none → Pv i H → g (.ref T) (wipe σ vs) (upd H T (.tup [x, y])) fun σ2 H2 => wipe σ2 vs = wipe σ vs ∧ tt σ2 H2 fun b H3 =>
      if b = true then te σ2 H3 fun y H4 => ∃ acc, H4 D = some (.lst acc) ∧ acc.length < sizeLine ∧ Pv (i + 1) (upd H4 D (.lst (acc ++ [y]))) else Pv (i + 1) H3) (hd : ∀ H, Pv (min xs.length ys.length) H → Qd H) :
    ∃ W : Nat → Nat → Hp → Prop, (∃ m, W 0 m (upd H1 D (.lst []))) ∧ ∀ i m H, W i m H →
      ((Itz K a b).stop i H ∧ Qd H) ∨ ((Itz K a b).go i H ∧ ∃ Nx : Hp → Prop, (∀ H', Nx H' → ∃ m', m' < m ∧ W (i + 1) m' H') ∧ ∀ x H', (Itz K a b).yld i H x H' → g x (wipe σ vs) H' fun σ2 H2 => wipe σ2 vs = wipe σ vs ∧ tt σ2 H2 fun b H3 =>
        if b = true then te σ2 H3 fun y H4 => ∃ acc, H4 D = some (.lst acc) ∧ acc.length < sizeLine ∧ Nx (upd H4 D (.lst (acc ++ [y]))) else Nx H3) := by
  refine ⟨fun i m H => m = min xs.length ys.length - i ∧ i ≤ min xs.length ys.length ∧ Pv i H, ⟨min xs.length ys.length, by simp, Nat.zero_le _, h0⟩, ?_⟩
  rintro i m H ⟨rfl, hi, p⟩
  obtain ⟨q1, q2⟩ := hl i H hi p
  by_cases hlt : i < min xs.length ys.length
  · have l1 : i < xs.length := by omega
    have l2 : i < ys.length := by omega
    refine .inr ⟨⟨xs, ys, xs[i], ys[i], q1, q2, List.getElem?_eq_getElem l1, List.getElem?_eq_getElem l2⟩, Pv (i + 1), fun H' h => ⟨_, by omega, rfl, by omega, h⟩, ?_⟩
    rintro x H' ⟨T, u, v, rfl, hT, rfl, e1, e2⟩
    exact hs i u v H T (e1 _ q1) (e2 _ q2) hT p
  · have e : i = min xs.length ys.length := by omega
    subst e
    exact .inl ⟨⟨xs, ys, q1, q2, by omega⟩, hd H p⟩
/-! ### f(e, .., k = v) in a body whose errors are caught -/
def tCallNS (n m : Nat) (sp : Sp) (gV : List V → List V → List V) (W : L2.St → XK) (t tk : TA) : TE := fun σ H Q => t σ H fun vs H1 => tk σ H1 fun zs H2 => vs.length = n ∧ zs.length = m ∧ sp (gV vs zs) H2 Q (W σ)
section
variable {X : Cx} {CX : CXT} {k n : Nat} {f : Addr} {fd : FuncData} {ps ks : List Str} {sp : Sp} {W : L2.St → XK} {x : Str} {p pos : Pos} {e : Expr} {es : List Expr} {kws : List Keyword} {t tk : TA} {g : List Value → List Value → List Value} {gV : List V → List V → List V}
theorem pe_callNS (F : FnOk X.prog X.w X.K X.mg X.base CX k f fd ps sp) (hr : Room k X.A) (hg : Gl X x) (hm : X.mg x = some (.ref f)) (hk : PySem.W.keepIn X.K (.ref f) = true) (hb : KBn X.K fd ps n ks g gV) (hx : ∀ σ, PassesAt CX X σ (W σ))
    (ha : PA X (e :: es) t) (hkw : PK X kws tk) (hall : (backToKw pos (keywordEach kws X.env)).all (·.1.isSome) = true := by rfl) (hks : (backToKw pos (keywordEach kws X.env)).filterMap (·.1) = ks := by rfl)
    (hdb : (x == ("__debug__" : Str)) = false := by decide) (he : starEach (e :: es) X.env = (false, eval e X.env) :: starEach es X.env := by rfl)
    (hpl : ((backTo pos (starEach (e :: es) X.env)).any (·.1) || (backToKw pos (keywordEach kws X.env)).any (·.1.isNone)) = false := by rfl) :
    PE X (.Call (.Name x p) (e :: es) kws pos) (tCallNS n ks.length sp gV W t tk) := by
  refine ⟨fun pins s σ H Q I h => ?_⟩
  refine wpAny_Call_Name_kw (ld_glob I hg hm ?_ hdb)
  refine PySem.W.callWith_KW (h₀ := X.base) I.ok.mod.kin hk hall (thn (ha.run pos pins s σ H _ I h) fun us s1 ⟨vs, H1, I1, r, q⟩ => ?_) hpl he
  refine thn (hkw.run pos pins s1 σ H1 _ I1 q) fun ws s2 ⟨zs, H2, I2, rz, l1, l2, q2⟩ => ⟨I2.kIn, ?_⟩
  rw [hks]
  have r2 := hb.rel r rz
  refine wpAny_call (codeAny_mono (F.run X.A X.stack s2 H2 ⟨us, ks.zip ws⟩ (g us ws) (gV vs zs) Q (W σ) hr I2.env0 (hb.to s2 us ws I2.kIn (r.length.symm.trans l1) (rz.length.symm.trans l2)) r2 q2) fun r s' hq => ?_)
  cases r with
  | error e => exact hx σ pins _ _ e s' I2 hq
  | ok fl =>
    cases fl with
    | ret u => exact I2.after hq
    | next => exact False.elim hq
    | brk => exact False.elim hq
    | cont => exact False.elim hq
end
/-- a field, the written part named (in a comprehension's block the context must not show) -/
theorem pe_fldK {X : Cx} {K : PySem.W.Frag} {e : Expr} {f : Str} {pos : Pos} {ta : TE} (h : X.K = K) (he : PE X e ta) (hb : attributeBase e f X.env (eval e X.env) = eval e X.env) : PE X (.Attribute e f pos) (tFld K ta f) := h ▸ pe_fld he hb
theorem pg_tupK {X : Cx} {K : PySem.W.Frag} {es : List Expr} {k n : Nat} {pos : Pos} {t : TGs} (h : X.K = K) (hc : X.calm = true) (hp : PGs X es t)
    (hn : (assignEach es X.env).length = n := by rfl) (hst : (assignEach es X.env).findIdx? (·.1) = none := by rfl) : PG X (.Tuple es k pos) (gTup K n t) := h ▸ pg_tup hc hp hn hst
end MoL

/-! # Errors without fields that are caught, calls with keywords alone -/
namespace MoL
open PySem PySem.Spec PyProof.Rows L2 MoW
def rIsNo (K : PySem.W.Frag) (a : Addr) (cls : Value) (d : Option Addr) (D : Addr) : List V → Hp → VK → Prop := fun xs H Q => ∃ (c : V) (cv : Value) (b : Bool), xs = [.ref a, c] ∧ cls = .ref D ∧ d = none ∧ ClsV c cv ∧ PySem.W.kitOne K (.ref D) cv = some b ∧ Q (.bl b) H
theorem call_isN {X : Cx} {a D : Addr} {oe : Obj} {cls : Value} {d : Option Addr} {pn : List (Addr × Obj)} (C : ExcC X.K D) (hz : Zc cls d oe) (hf : ∃ vs, oe.data = .fields vs) : CallR (X.suite a ((a, oe) :: pn)) (.builtin "isinstance") (rIsNo X.K a cls d D) := by
  intro pins s σ H xs us Q I r h
  obtain ⟨c, cv, b, rfl, rfl, rfl, hc, e, q⟩ := h
  exact call_isE C hz hf pins s σ H _ us Q I r ⟨c, cv, b, rfl, fun u r => hc.eq r, e, q⟩
theorem ErrC.em {K : PySem.W.Frag} {M C : Addr} {nm : Str} (e : ErrC K M C nm) : PySem.W.exmOne K (.ref C) (.ref C) = some true := PySem.W.exm_ref e.exc e.row.dict e.row.ty (by rw [e.row.sub]; simp)
section
variable {X : Cx} {CX : CXT} {k : Nat} {f : Addr} {fd : FuncData} {ps ks : List Str} {sp : Sp} {E : XK} {x : Str} {p pos : Pos} {kws : List Keyword} {tk : TA} {g : List Value → List Value → List Value} {gV : List V → List V → List V}
theorem pe_callN0 (F : FnOk X.prog X.w X.K X.mg X.base CX k f fd ps sp) (hr : Room k X.A) (hg : Gl X x) (hm : X.mg x = some (.ref f)) (hk : PySem.W.keepIn X.K (.ref f) = true) (hb : KBn X.K fd ps 0 ks g gV) (hx : Passes CX X E) (hkw : PK X kws tk)
    (hall : (backToKw pos (keywordEach kws X.env)).all (·.1.isSome) = true := by rfl) (hks : (backToKw pos (keywordEach kws X.env)).filterMap (·.1) = ks := by rfl) (hdb : (x == ("__debug__" : Str)) = false := by decide)
    (hpl : ((backTo pos (starEach [] X.env)).any (·.1) || (backToKw pos (keywordEach kws X.env)).any (·.1.isNone)) = false := by rfl) :
    PE X (.Call (.Name x p) [] kws pos) (tCallN 0 ks.length sp gV E tNil tk) := by
  refine ⟨fun pins s σ H Q I h => ?_⟩
  refine wpAny_Call_Name_kw (ld_glob I hg hm ?_ hdb)
  refine PySem.W.callWith_KW0 (h₀ := X.base) I.ok.mod.kin hk hall ?_ hpl
  refine thn (hkw.run pos pins s σ H _ I h) fun ws s2 ⟨zs, H2, I2, rz, l1, l2, q2⟩ => ⟨I2.kIn, ?_⟩
  rw [hks]
  exact run_fnN (us := []) (vs := []) F hr hb hx I2 .nil rz rfl l2 q2
end
end MoL

namespace MoL
open PySem PySem.Spec PyProof.Rows L2 MoW
/-- a slice inside a comprehension -/
theorem sl_listK {X : Cx} {K : PySem.W.Frag} (h : X.K = K) : SlR X (rSlL K) := h ▸ sl_list
end MoL

/-! # Exact fractions as Rats: a Ratio's fields are the numerator and the denominator -/
namespace MoL
open PySem PySem.Spec PyProof.Rows L2 MoW
/-! # Exact fractions: the fields of a Ratio are the numerator and the denominator of a Rat -/
theorem den_pos (x : Rat) : (0 : Int) < (x.den : Int) := Int.natCast_pos.mpr x.den_pos
theorem ine (i : Int) (h : i ≠ 0) : (i : Rat) ≠ 0 := fun z => h (by exact_mod_cast z)
theorem den_ne (x : Rat) : (((x.den : Nat) : Int) : Rat) ≠ 0 := ine _ (by have := den_pos x; omega)
theorem num_is (x : Rat) : (x.num : Rat) = x * (((x.den : Nat) : Int) : Rat) := by
  have h := Rat.num_divInt_den x
  rw [Rat.divInt_eq_div] at h
  have h2 := den_ne x
  generalize (((x.den : Nat) : Int) : Rat) = d at *
  generalize (x.num : Rat) = n at *
  grind
theorem inj {a b : Int} (h : (a : Rat) = b) : a = b := by exact_mod_cast h
/-- lowest terms are one -/
theorem low_is {x : Rat} {t b : Int} (hb : 0 < b) (hc : Nat.gcd t.natAbs b.natAbs = 1) (h : x * (b : Rat) = t) : x.num = t ∧ (x.den : Int) = b := by
  have h0 : Rat.divInt t b = x := by
    rw [Rat.divInt_eq_div, ← h]
    have := ine b (by omega)
    generalize (b : Rat) = c at *
    grind
  have e : b = ((b.toNat : Nat) : Int) := by omega
  have hr : (⟨t, b.toNat, by omega, by rw [show b.toNat = b.natAbs by omega]; exact hc⟩ : Rat) = x := by
    rw [Rat.mk_eq_divInt, ← e]
    exact h0
  rw [← hr]
  exact ⟨rfl, e.symm⟩
/-- any way to write x has a top and a bottom that are not smaller -/
theorem le_of {x : Rat} {p q : Int} (hq : q ≠ 0) (h : x * (q : Rat) = p) : x.num.natAbs ≤ p.natAbs ∧ x.den ≤ q.natAbs := by
  have e : x.num * q = p * (x.den : Int) := inj (by
    rw [Rat.intCast_mul, Rat.intCast_mul, ← h, num_is]
    grind)
  have hc : Nat.Coprime x.num.natAbs x.den := x.reduced
  have e2 : x.num.natAbs * q.natAbs = p.natAbs * x.den := by
    have := congrArg Int.natAbs e
    rw [Int.natAbs_mul, Int.natAbs_mul] at this
    simpa using this
  have d1 : x.den ∣ q.natAbs := hc.symm.dvd_of_dvd_mul_left ⟨p.natAbs, by rw [e2, Nat.mul_comm]⟩
  have d2 : x.num.natAbs ∣ p.natAbs := hc.dvd_of_dvd_mul_right ⟨q.natAbs, e2.symm⟩
  refine ⟨?_, Nat.le_of_dvd (by omega) d1⟩
  rcases Nat.eq_zero_or_pos p.natAbs with h | h
  · rw [h, Nat.zero_mul] at e2
    rcases Nat.mul_eq_zero.mp e2 with h2 | h2
    · omega
    · omega
  · exact Nat.le_of_dvd h d2
/-- sizes: the top below 2 ^ n, the bottom below 2 ^ m -/
structure Bd (n m : Nat) (x : Rat) : Prop where
  top : x.num.natAbs < 2 ^ n
  bot : x.den < 2 ^ m
theorem two_le {a b : Nat} (h : a ≤ b) : 2 ^ a ≤ 2 ^ b := Nat.pow_le_pow_right (by decide) h
theorem lt_le {i a b : Nat} (h : i < 2 ^ a) (l : a ≤ b) : i < 2 ^ b := Nat.lt_of_lt_of_le h (two_le l)
theorem Bd.mono {n m n' m' : Nat} {x : Rat} (b : Bd n m x) (h : n ≤ n') (h2 : m ≤ m') : Bd n' m' x := ⟨lt_le b.top h, lt_le b.bot h2⟩
theorem Bd.of {n m : Nat} {x : Rat} {p q : Int} (hq : q ≠ 0) (h : x * (q : Rat) = p) (h1 : p.natAbs < 2 ^ n) (h2 : q.natAbs < 2 ^ m) : Bd n m x :=
  ⟨Nat.lt_of_le_of_lt (le_of hq h).1 h1, Nat.lt_of_le_of_lt (le_of hq h).2 h2⟩
theorem div_is {p q : Int} (hq : q ≠ 0) : ((p : Rat) / (q : Rat)) * (q : Rat) = p := by
  have := ine q hq
  generalize (q : Rat) = c at *
  grind
theorem Bd.div {n m : Nat} {p q : Int} (hq : q ≠ 0) (h1 : p.natAbs < 2 ^ n) (h2 : q.natAbs < 2 ^ m) : Bd n m ((p : Rat) / (q : Rat)) := .of hq (div_is hq) h1 h2
theorem Bd.int {n m : Nat} {i : Int} (h1 : i.natAbs < 2 ^ n) (h2 : 0 < m) : Bd n m (i : Rat) :=
  ⟨by rw [Rat.num_intCast]; exact h1, by rw [Rat.den_intCast]; exact Nat.one_lt_two_pow (by omega)⟩
theorem nmul {i j : Int} {m n : Nat} (a : i.natAbs < 2 ^ m) (b : j.natAbs < 2 ^ n) : (i * j).natAbs < 2 ^ (m + n) := by
  rw [Int.natAbs_mul, Nat.pow_add]
  exact Nat.mul_lt_mul'' a b
theorem nadd {i j : Int} {n : Nat} (a : i.natAbs < 2 ^ n) (b : j.natAbs < 2 ^ n) : (i + j).natAbs < 2 ^ (n + 1) := by
  rw [Nat.pow_succ]
  omega
theorem dabs (x : Rat) : ((x.den : Nat) : Int).natAbs = x.den := by simp
theorem mul_q (x y : Rat) : (x * y) * (((x.den : Int) * (y.den : Int) : Int) : Rat) = ((x.num * y.num : Int) : Rat) := by
  rw [Rat.intCast_mul, Rat.intCast_mul, num_is, num_is]
  grind
theorem add_q (x y : Rat) : (x + y) * (((x.den : Int) * (y.den : Int) : Int) : Rat) = ((x.num * (y.den : Int) + y.num * (x.den : Int) : Int) : Rat) := by
  rw [Rat.intCast_mul, Rat.intCast_add, Rat.intCast_mul, Rat.intCast_mul, num_is, num_is]
  grind
theorem sub_q (x y : Rat) : (x - y) * (((x.den : Int) * (y.den : Int) : Int) : Rat) = ((x.num * (y.den : Int) - y.num * (x.den : Int) : Int) : Rat) := by
  rw [Rat.intCast_mul, Rat.intCast_sub, Rat.intCast_mul, Rat.intCast_mul, num_is, num_is]
  grind
theorem dd_ne (x y : Rat) : (x.den : Int) * (y.den : Int) ≠ 0 := by
  have := Int.mul_pos (den_pos x) (den_pos y)
  omega
theorem Bd.mul {n m n' m' : Nat} {x y : Rat} (a : Bd n m x) (b : Bd n' m' y) : Bd (n + n') (m + m') (x * y) :=
  .of (dd_ne x y) (mul_q x y) (nmul a.top b.top) (nmul (by rw [dabs]; exact a.bot) (by rw [dabs]; exact b.bot))
theorem Bd.add {n m n' m' e : Nat} {x y : Rat} (a : Bd n m x) (b : Bd n' m' y) (h1 : n + m' ≤ e) (h2 : n' + m ≤ e) : Bd (e + 1) (m + m') (x + y) :=
  .of (dd_ne x y) (add_q x y) (nadd (lt_le (nmul a.top (by rw [dabs]; exact b.bot)) h1) (lt_le (nmul b.top (by rw [dabs]; exact a.bot)) h2)) (nmul (by rw [dabs]; exact a.bot) (by rw [dabs]; exact b.bot))
theorem Bd.neg {n m : Nat} {x : Rat} (a : Bd n m x) : Bd n m (-x) := ⟨by rw [Rat.neg_num, Int.natAbs_neg]; exact a.top, by rw [Rat.neg_den]; exact a.bot⟩
theorem Bd.sub {n m n' m' e : Nat} {x y : Rat} (a : Bd n m x) (b : Bd n' m' y) (h1 : n + m' ≤ e) (h2 : n' + m ≤ e) : Bd (e + 1) (m + m') (x - y) := by
  rw [Rat.sub_eq_add_neg]
  exact a.add b.neg h1 h2
theorem Bd.zero {n m : Nat} (h : 0 < m) : Bd n m 0 := ⟨Nat.two_pow_pos _, Nat.one_lt_two_pow (by omega)⟩
theorem Bd.one {n m : Nat} (h : 0 < n) (h : 0 < m) : Bd n m 1 := ⟨Nat.one_lt_two_pow (by omega), Nat.one_lt_two_pow (by omega)⟩
/-- the gap of two -/
theorem gap_lt (x y : Rat) : x < y ↔ x.num * (y.den : Int) - y.num * (x.den : Int) < 0 := by
  rw [Rat.lt_iff]
  omega
theorem gap_le (x y : Rat) : x ≤ y ↔ x.num * (y.den : Int) - y.num * (x.den : Int) ≤ 0 := by
  rw [Rat.le_iff]
  omega
theorem gap_eq (x y : Rat) : x = y ↔ x.num * (y.den : Int) - y.num * (x.den : Int) = 0 := by
  constructor
  · rintro rfl
    omega
  · intro h
    have h1 : x ≤ y := (gap_le x y).mpr (by omega)
    have h2 : y ≤ x := (gap_le y x).mpr (by omega)
    exact Rat.le_antisymm h1 h2
theorem num_zero {x : Rat} (h : x.num = 0) : x = 0 := by
  have := num_is x
  rw [h] at this
  have h2 := den_ne x
  generalize (((x.den : Nat) : Int) : Rat) = d at *
  grind
theorem num_ne {x : Rat} (h : x ≠ 0) : x.num ≠ 0 := fun z => h (num_zero z)
theorem int_parts (i : Int) : ((i : Rat)).num = i ∧ (((i : Rat)).den : Int) = 1 := ⟨Rat.num_intCast i, by rw [Rat.den_intCast]; rfl⟩

theorem Bd.d {n m : Nat} {x : Rat} (b : Bd n m x) : ((x.den : Int)).natAbs < 2 ^ m := by rw [dabs]; exact b.bot
theorem sm_of {i : Int} {n : Nat} (h : i.natAbs < 2 ^ n) (hn : n ≤ 4000) : Sm i := Sm.of h hn
theorem nle {i : Int} {m n : Nat} (a : i.natAbs < 2 ^ m) (h : m ≤ n) : i.natAbs < 2 ^ n := Nat.lt_of_lt_of_le a (Nat.pow_le_pow_right (by decide) h)
theorem Bd.s1 {n m : Nat} {x : Rat} (b : Bd n m x) (h : n ≤ 4000) : Sm x.num := sm_of b.top h
theorem Bd.s2 {n m : Nat} {x : Rat} (b : Bd n m x) (h : m ≤ 4000) : Sm (x.den : Int) := sm_of b.d h
/-- the value of a top and a bottom -/
def qv (p : Int × Int) : Rat := (p.1 : Rat) / (p.2 : Rat)
theorem qv_mul {p : Int × Int} (h : p.2 ≠ 0) : qv p * (p.2 : Rat) = p.1 := div_is h
theorem div_eq {x : Rat} {p q : Int} (hq : q ≠ 0) (h : x * (q : Rat) = p) : (p : Rat) / (q : Rat) = x := by
  have := ine q hq
  generalize (q : Rat) = c at *
  generalize (p : Rat) = d at *
  grind
/-- lowest terms as the making computes them -/
theorem Norm.rat {t b t' b' : Int} (n : Norm t b t' b') : ((t : Rat) / (b : Rat)).num = t' ∧ ((((t : Rat) / (b : Rat)).den : Nat) : Int) = b' := by
  have hb := n.bne
  have c := n.cross
  refine low_is n.pos n.cop ?_
  have c2 : (t' : Rat) * (b : Rat) = (t : Rat) * (b' : Rat) := by exact_mod_cast c
  have h1 := ine b hb
  have h2 := div_is (p := t) hb
  generalize (t : Rat) / (b : Rat) = z at *
  generalize (b : Rat) = bb at *
  generalize (t : Rat) = tt at *
  generalize (t' : Rat) = tt' at *
  generalize (b' : Rat) = bb' at *
  grind
/-! ### Ratios on the heap -/
abbrev ratO (C dx : Addr) (z : Rat) : HO := .ins C dx [("top", .int z.num), ("bottom", .int ((z.den : Nat) : Int))]
def RatV (C : Addr) (H : Hp) (v : V) (z : Rat) : Prop := ∃ a dx, v = .ref a ∧ H a = some (ratO C dx z)
def NumV (C : Addr) (H : Hp) (v : V) (z : Rat) : Prop := (∃ i : Int, v = .int i ∧ z = (i : Rat)) ∨ RatV C H v z
section
variable {C : Addr} {H H' : Hp} {v : V} {z : Rat}
theorem RatV.ins (r : RatV C H v z) : Ins H v C := by
  obtain ⟨a, dx, e, h⟩ := r
  exact ⟨a, dx, _, e, h⟩
theorem RatV.same (r : RatV C H v z) (s : Same H H') : RatV C H' v z := by
  obtain ⟨a, dx, e, h⟩ := r
  exact ⟨a, dx, e, s _ _ h⟩
theorem RatV.num (r : RatV C H v z) : NumV C H v z := .inr r
theorem NumV.same (n : NumV C H v z) (s : Same H H') : NumV C H' v z := n.imp id fun r => r.same s
theorem NumV.kind (n : NumV C H v z) : (∃ i, v = .int i) ∨ Ins H v C := n.imp (fun ⟨i, e, _⟩ => ⟨i, e⟩) fun r => r.ins
theorem NumV.int (i : Int) : NumV C H (.int i) (i : Rat) := .inl ⟨i, rfl, rfl⟩
theorem RatV.one {z' : Rat} (r : RatV C H v z) (r' : RatV C H v z') : z = z' := by
  obtain ⟨a, dx, rfl, e⟩ := r
  obtain ⟨a', dx', e0, e'⟩ := r'
  cases e0
  rw [e] at e'
  have h := (HO.ins.inj (Option.some.inj e')).2.2
  have h1 : z.num = z'.num := V.int.inj (congrArg Prod.snd (List.cons.inj h).1)
  have h2 : ((z.den : Nat) : Int) = ((z'.den : Nat) : Int) := V.int.inj (congrArg Prod.snd (List.cons.inj (List.cons.inj h).2).1)
  exact Rat.ext h1 (by omega)
theorem RatV.to {z' : Rat} (r : RatV C H v z) (e : z = z') : RatV C H v z' := e ▸ r
theorem RatV.put {d : Addr} {ys : List V} {o : HO} (r : RatV C H v z) (hd : H d = some (.lst ys)) : RatV C (upd H d o) v z := by
  obtain ⟨a, dx, e, h⟩ := r
  refine ⟨a, dx, e, ?_⟩
  rw [upd_ne fun z => by rw [z, hd] at h; cases h]
  exact h
/-- what is kept but at x, which is no Ratio -/
theorem RatV.keep {G G' : Hp} {x : Addr} {o : HO} (r : RatV C G v z) (hx : G x = some o) (ne : ∀ dx z, ratO C dx z ≠ o) (k : ∀ b u, b ≠ x → G b = some u → G' b = some u) : RatV C G' v z := by
  obtain ⟨a, dx, e, h⟩ := r
  exact ⟨a, dx, e, k _ _ (fun w => by subst w; rw [hx] at h; exact ne _ _ (Option.some.inj h).symm) h⟩
end
theorem NumV.put {C : Addr} {H : Hp} {v : V} {z : Rat} {d : Addr} {ys : List V} {o : HO} (r : NumV C H v z) (hd : H d = some (.lst ys)) : NumV C (upd H d o) v z := r.imp id fun r => r.put hd
/-- a new Ratio on the heap -/
theorem madeV {C : Addr} {H : Hp} {x dx : Addr} (nx : H x = none) (nd : H dx = none) (ne : dx ≠ x) (z : Rat) :
    Same H (upd (upd (upd H dx (.own x)) x (.ins C dx [])) x (ratO C dx z)) ∧ RatV C (upd (upd (upd H dx (.own x)) x (.ins C dx [])) x (ratO C dx z)) (.ref x) z := by
  refine ⟨?_, x, dx, rfl, upd_same⟩
  rw [upd_upd]
  exact same_upd' (same_upd nd) nx
/-- a list or a tuple of these things -/
def SeqAt (H : Hp) (v : V) (xs : List V) : Prop := ∃ a, v = .ref a ∧ (H a = some (.lst xs) ∨ H a = some (.tup xs))
theorem SeqAt.same {H H' : Hp} {v : V} {xs : List V} (h : SeqAt H v xs) (s : Same H H') : SeqAt H' v xs := by
  obtain ⟨a, e, h⟩ := h
  exact ⟨a, e, h.imp (s a _) (s a _)⟩
def RatsV (C : Addr) (H : Hp) (xs : List V) (f : Nat → Rat) : Prop := ∀ k x, xs[k]? = some x → RatV C H x (f k)
def NumsV (C : Addr) (H : Hp) (xs : List V) (f : Nat → Rat) : Prop := ∀ k x, xs[k]? = some x → NumV C H x (f k)
theorem push_get {α : Type} {ys : List α} {y x : α} {k : Nat} (h : (ys ++ [y])[k]? = some x) : (k < ys.length ∧ ys[k]? = some x) ∨ (k = ys.length ∧ x = y) := by
  rcases Nat.lt_trichotomy k ys.length with e | e | e
  · rw [List.getElem?_append_left e] at h
    exact .inl ⟨e, h⟩
  · subst e
    rw [List.getElem?_append_right (Nat.le_refl _), Nat.sub_self] at h
    cases h
    exact .inr ⟨rfl, rfl⟩
  · rw [List.getElem?_append_right (Nat.le_of_lt e)] at h
    obtain ⟨j, hj⟩ : ∃ j, k - ys.length = j + 1 := ⟨k - ys.length - 1, by omega⟩
    rw [hj] at h
    simp at h
theorem get_lt {α : Type} {xs : List α} {k : Nat} {x : α} (h : xs[k]? = some x) : k < xs.length := (List.getElem?_eq_some_iff.mp h).1
theorem at_get {xs : List V} {k : Nat} {x : V} (h : xs[k]? = some x) : atI xs (0 + (k : Int)) = some x := by
  rw [Int.zero_add]
  exact atI_nat h
section
variable {C : Addr} {H H' : Hp} {xs : List V} {f : Nat → Rat}
theorem RatsV.same (h : RatsV C H xs f) (s : Same H H') : RatsV C H' xs f := fun k x e => (h k x e).same s
theorem NumsV.same (h : NumsV C H xs f) (s : Same H H') : NumsV C H' xs f := fun k x e => (h k x e).same s
theorem RatsV.nums (h : RatsV C H xs f) : NumsV C H xs f := fun k x e => .inr (h k x e)
theorem RatsV.nil : RatsV C H [] f := fun k x h => by simp at h
theorem NumsV.nil : NumsV C H [] f := fun k x h => by simp at h
theorem RatsV.push {d : Addr} {ys : List V} {y : V} {o : HO} (r : RatsV C H xs f) (hd : H d = some (.lst ys)) (hy : RatV C H y (f xs.length)) : RatsV C (upd H d o) (xs ++ [y]) f := fun k x h => by
  rcases push_get h with ⟨_, h1⟩ | ⟨rfl, rfl⟩
  · exact (r k x h1).put hd
  · exact hy.put hd
theorem NumsV.push {d : Addr} {ys : List V} {y : V} {o : HO} (r : NumsV C H xs f) (hd : H d = some (.lst ys)) (hy : NumV C H y (f xs.length)) : NumsV C (upd H d o) (xs ++ [y]) f := fun k x h => by
  rcases push_get h with ⟨_, h1⟩ | ⟨rfl, rfl⟩
  · exact (r k x h1).put hd
  · exact hy.put hd
theorem RatsV.to {g : Nat → Rat} (h : RatsV C H xs f) (e : ∀ k, k < xs.length → f k = g k) : RatsV C H xs g := fun k x hx => e k (get_lt hx) ▸ h k x hx
theorem NumsV.to {g : Nat → Rat} (h : NumsV C H xs f) (e : ∀ k, k < xs.length → f k = g k) : NumsV C H xs g := fun k x hx => e k (get_lt hx) ▸ h k x hx
theorem RatsV.take {s : Nat} (h : RatsV C H xs f) : RatsV C H (xs.take s) f := fun k x e => by
  rw [List.getElem?_take] at e
  split at e
  · exact h k x e
  · cases e
theorem RatsV.keep {x : Addr} {o : HO} (r : RatsV C H xs f) (hx : H x = some o) (ne : ∀ dx z, ratO C dx z ≠ o) (k : ∀ b u, b ≠ x → H b = some u → H' b = some u) : RatsV C H' xs f := fun j y e => (r j y e).keep hx ne k
end
theorem same_push {H1 H : Hp} {d : Addr} {o : HO} (s : Same H1 H) (hd : H1 d = none) : Same H1 (upd H d o) := fun b u h => by
  rw [upd_ne (ne_of_none h hd)]
  exact s _ _ h
theorem upd_but {H : Hp} {a : Addr} {o : HO} : ∀ b u, b ≠ a → H b = some u → upd H a o b = some u := fun b u hb h => by rw [upd_ne hb]; exact h
/-- a list that grows at d, i items so far, Ratios with the values g -/
def Gro (C : Addr) (H : Hp) (d : Addr) (g : Nat → Rat) (i : Nat) (G : Hp) : Prop := Same H G ∧ ∃ zs : List V, zs.length = i ∧ G d = some (.lst zs) ∧ RatsV C G zs g
theorem Gro.start {C : Addr} {H : Hp} {d : Addr} {g : Nat → Rat} (nd : H d = none) : Gro C H d g 0 (upd H d (.lst [])) := ⟨same_upd nd, [], rfl, upd_same, RatsV.nil⟩
theorem Gro.push {C : Addr} {H G G2 : Hp} {d : Addr} {g : Nat → Rat} {i : Nat} {v : V} (p : Gro C H d g i G) (nd : H d = none) (hi : i ≤ 1000) (s : Same G G2) (r : RatV C G2 v (g i)) :
    ∃ acc, G2 d = some (.lst acc) ∧ acc.length < sizeLine ∧ Gro C H d g (i + 1) (upd G2 d (.lst (acc ++ [v]))) := by
  obtain ⟨sm, zs, rfl, hd, hr⟩ := p
  have hd2 := s _ _ hd
  exact ⟨zs, hd2, small1000 hi, same_push (sm.trans s) nd, zs ++ [v], by rw [List.length_append]; rfl, upd_same, (hr.same s).push hd2 r⟩
/-- a list of ints that grows -/
def GroI (H : Hp) (d : Addr) (g : Nat → Int) (i : Nat) (G : Hp) : Prop := Same H G ∧ G d = some (.lst (((List.range i).map g).map V.int))
theorem GroI.start {H : Hp} {d : Addr} {g : Nat → Int} (nd : H d = none) : GroI H d g 0 (upd H d (.lst [])) := ⟨same_upd nd, upd_same⟩
theorem GroI.push {H G G2 : Hp} {d : Addr} {g : Nat → Int} {i : Nat} (p : GroI H d g i G) (nd : H d = none) (hi : i ≤ 1000) (s : Same G G2) :
    ∃ acc, G2 d = some (.lst acc) ∧ acc.length < sizeLine ∧ GroI H d g (i + 1) (upd G2 d (.lst (acc ++ [V.int (g i)]))) := by
  obtain ⟨sm, hd⟩ := p
  have hd2 := s _ _ hd
  refine ⟨_, hd2, by rw [List.length_map, List.length_map, List.length_range]; exact small1000 hi, same_push (sm.trans s) nd, ?_⟩
  rw [upd_same, List.range_succ, List.map_append, List.map_append]
  rfl
/-- the first n values of g as a list on the heap -/
abbrev intsO (g : Nat → Int) (n : Nat) : HO := .lst (((List.range n).map g).map V.int)
theorem ints_at {g : Nat → Int} {n k : Nat} (h : k < n) : (((List.range n).map g).map V.int)[k]? = some (V.int (g k)) := by
  rw [List.getElem?_map, List.getElem?_map, List.getElem?_range h]
  rfl
theorem ints_len {g : Nat → Int} {n : Nat} : (((List.range n).map g).map V.int).length = n := by
  rw [List.length_map, List.length_map, List.length_range]
theorem ints_get {g : Nat → Int} {n k : Nat} (h : k < n) : atI (((List.range n).map g).map V.int) (0 + (k : Int)) = some (V.int (g k)) := at_get (ints_at h)
end MoL

/-! # Walks over a list or a tuple, the law's feed, lists of pairs -/
namespace MoL
open PySem PySem.Spec PyProof.Rows L2 MoW
section
variable {K : PySem.W.Frag}
theorem kit_seq {K : PySem.W.Frag} {H : Hp} {a : Addr} {xs : List V} (h : H a = some (.lst xs) ∨ H a = some (.tup xs)) : ∃ t, TyX K H (.ref a) t ∧ PySem.W.kitAny K t [.type "list", .type "tuple"] = some true := by
  rcases h with h | h
  · exact ⟨_, .base (.lst h), kitAny_cons (b := true) (kit_ty (by decide +kernel)) (fun z => nomatch z) fun _ => rfl⟩
  · exact ⟨_, .base (.tup h), kitAny_cons (b := false) (kit_ty (by decide +kernel)) (fun _ => kitAny_cons (b := true) (kit_ty (by decide +kernel)) (fun z => nomatch z) fun _ => rfl) (fun z => nomatch z)⟩
/-! ### walks over a list or a tuple -/
theorem for_seq {tl tl' : TE} {a : Addr} {xs : List V} {g : TG} {tb : TS} {D : Ends} {σ : L2.St} {H : Hp} (ha : H a = some (.lst xs) ∨ H a = some (.tup xs)) (h1 : ∀ R : VK, R (.ref a) H → tl σ H R) (h2 : ∀ R : VK, R (.ref a) H → tl' σ H R)
    (Pv : Nat → L2.St → Hp → Prop) (h0 : Pv 0 σ H) (hk : ∀ (i : Nat) (σ : L2.St) (G : Hp), i ≤ xs.length → Pv i σ G → Same H G)
    (step : ∀ (i : Nat) (x : V) (σ : L2.St) (G : Hp), xs[i]? = some x → Pv i σ G → g x σ G fun σ2 H2 => tb { nx := Pv (i + 1), rt := D.rt, bk := D.nx, ct := Pv (i + 1) } σ2 H2)
    (done : ∀ (σ : L2.St) (G : Hp), Pv xs.length σ G → D.nx σ G) : tFor (fun σ H R => iList K tl σ H R ∨ iTup K tl' σ H R) g tb D σ H := by
  rcases ha with h | h
  · exact .inl (h1 _ ⟨a, rfl, ⟨xs, .of h⟩, for_list Pv h0 (fun i σ G hi p => .of (hk i σ G hi p _ _ h)) step done⟩)
  · exact .inr (h2 _ ⟨a, rfl, ⟨xs, .of h⟩, for_tup Pv h0 (fun i σ G hi p => .of (hk i σ G hi p _ _ h)) step done⟩)
/-- what a comprehension asks of a walk -/
abbrev lcR (g : TG) (tt : TT) (te : TE) (vs : List Nat) (σ : L2.St) (Qd : Addr → Hp → Prop) : It → Hp → Prop := fun J H1 => ∀ (D : Addr), H1 D = none → ∃ W : Nat → Nat → Hp → Prop, (∃ m, W 0 m (upd H1 D (.lst []))) ∧ ∀ (i m : Nat) (H : Hp), W i m H →
  J.stop i H ∧ Qd D H ∨ J.go i H ∧ ∃ Nx : Hp → Prop, (∀ H' : Hp, Nx H' → ∃ m', m' < m ∧ W (i + 1) m' H') ∧ ∀ (x : V) (H' : Hp), J.yld i H x H' → g x (wipe σ vs) H' fun σ2 H2 => wipe σ2 vs = wipe σ vs ∧ tt σ2 H2 fun b H3 => if b = true then te σ2 H3 fun y H4 => ∃ acc, H4 D = some (.lst acc) ∧ acc.length < sizeLine ∧ Nx (upd H4 D (.lst (acc ++ [y]))) else Nx H3
theorem lc_seq {tl tl' : TE} {a : Addr} {xs : List V} {g : TG} {tt : TT} {te : TE} {vs : List Nat} {σ : L2.St} {H : Hp} {Qd : Addr → Hp → Prop} (ha : H a = some (.lst xs) ∨ H a = some (.tup xs)) (h1 : ∀ R : VK, R (.ref a) H → tl σ H R) (h2 : ∀ R : VK, R (.ref a) H → tl' σ H R)
    (Pv : Addr → Nat → Hp → Prop) (h0 : ∀ D, H D = none → Pv D 0 (upd H D (.lst []))) (hk : ∀ (D : Addr) (i : Nat) (G : Hp), i ≤ xs.length → Pv D i G → Same H G)
    (step : ∀ (D : Addr) (i : Nat) (x : V) (G : Hp), H D = none → xs[i]? = some x → Pv D i G → g x (wipe σ vs) G fun σ2 H2 => wipe σ2 vs = wipe σ vs ∧ tt σ2 H2 fun b H3 => if b = true then te σ2 H3 fun y H4 => ∃ acc, H4 D = some (.lst acc) ∧ acc.length < sizeLine ∧ Pv D (i + 1) (upd H4 D (.lst (acc ++ [y]))) else Pv D (i + 1) H3)
    (done : ∀ (D : Addr) (G : Hp), H D = none → Pv D xs.length G → Qd D G) : iList K tl σ H (lcR g tt te vs σ Qd) ∨ iTup K tl' σ H (lcR g tt te vs σ Qd) := by
  rcases ha with h | h
  · exact .inl (h1 _ ⟨a, rfl, ⟨xs, .of h⟩, fun D nd => lc_list (Pv D) (h0 D nd) (fun i G hi p => .of (hk D i G hi p _ _ h)) (fun i x G hx p => step D i x G nd hx p) (fun G p => done D G nd p)⟩)
  · exact .inr (h2 _ ⟨a, rfl, ⟨xs, .of h⟩, fun D nd => lc_tup (Pv D) (h0 D nd) (fun i G hi p => .of (hk D i G hi p _ _ h)) (fun i x G hx p => step D i x G nd hx p) (fun G p => done D G nd p)⟩)
theorem cut_drop (xs : List V) (k : Nat) (h : k ≤ xs.length) : cutV xs (some (k : Int)) none = xs.drop k := by
  unfold cutV
  have e1 : HT.sIx xs.length xs.length none = xs.length := rfl
  have e2 : HT.sIx xs.length 0 (some (k : Int)) = k := by
    show (if (k : Int) < 0 then ((k : Int) + (xs.length : Int)).toNat else min (k : Int).toNat xs.length) = _
    rw [if_neg (by omega)]
    omega
  rw [e1, e2]
  exact List.take_of_length_le (by rw [List.length_drop]; omega)
theorem rep_flat {x : V} : ∀ n : Nat, (List.replicate n [x]).flatten = List.replicate n x
  | 0 => rfl
  | n + 1 => by rw [List.replicate_succ, List.flatten_cons, rep_flat n, List.replicate_succ]; rfl
/-! ### the law's drawing of numbers -/
/-- the six places of the feed at f -/
abbrev six (l : Addr) (i r t n s : Int) : HO := .lst [.ref l, .int i, .int r, .int t, .int n, .int s]
def FeedAt (H : Hp) (f : Addr) : Prop := ∃ (l : Addr) (xs : List Int) (i : Nat) (r t n s : Int), H f = some (six l i r t n s) ∧ H l = some (.lst (xs.map V.int)) ∧ i ≤ xs.length ∧ xs.length ≤ 63 ∧ 0 ≤ r
/-- from H to H' only the feed has moved on, and new things have come -/
structure Stp (f : Addr) (H H' : Hp) : Prop where
  feed : FeedAt H' f
  keep : ∀ b o, b ≠ f → H b = some o → H' b = some o
  ls : ∀ l i r t n s, H f = some (six l i r t n s) → ∃ i' r' t' n' s', H' f = some (six l i' r' t' n' s')
theorem FeedAt.same {H H' : Hp} {f : Addr} (h : FeedAt H f) (s : Same H H') : FeedAt H' f := by
  obtain ⟨l, xs, i, r, t, n, z, h1, h2, h3⟩ := h
  exact ⟨l, xs, i, r, t, n, z, s _ _ h1, s _ _ h2, h3⟩
theorem Stp.refl {H : Hp} {f : Addr} (h : FeedAt H f) : Stp f H H := ⟨h, fun _ _ _ e => e, fun _ _ _ _ _ _ e => ⟨_, _, _, _, _, e⟩⟩
theorem Stp.trans {H H1 H2 : Hp} {f : Addr} (a : Stp f H H1) (b : Stp f H1 H2) : Stp f H H2 := ⟨b.feed, fun c o n e => b.keep c o n (a.keep c o n e), fun _ _ _ _ _ _ e => let ⟨_, _, _, _, _, e1⟩ := a.ls _ _ _ _ _ _ e; b.ls _ _ _ _ _ _ e1⟩
theorem Stp.of {H H1 H2 : Hp} {f : Addr} (a : Stp f H H1) (b : Same H1 H2) : Stp f H H2 := ⟨a.feed.same b, fun c o n e => b c o (a.keep c o n e), fun _ _ _ _ _ _ e => let ⟨i', r', t', n', s', e1⟩ := a.ls _ _ _ _ _ _ e; ⟨i', r', t', n', s', b _ _ e1⟩⟩
theorem FeedAt.ne {H : Hp} {f p : Addr} {o : HO} (h : FeedAt H f) (hp : H p = some o) (d : ∀ l i r t n s, six l i r t n s ≠ o) : p ≠ f := by
  obtain ⟨l, xs, i, r, t, n, z, h1, _⟩ := h
  exact ne_of hp h1 fun e => d _ _ _ _ _ _ e.symm
theorem FeedAt.lt {H : Hp} {f p : Addr} (h : FeedAt H f) (hp : H p = none) : f ≠ p := by
  obtain ⟨l, xs, i, r, t, n, z, h1, _⟩ := h
  exact ne_of_none h1 hp

theorem stp_none {H H1 : Hp} {f p : Addr} (st : Stp f H H1) (ne : p ≠ f) (h : H1 p = none) : H p = none := by
  cases e : H p with
  | none => rfl
  | some o => rw [st.keep p o ne e] at h; cases h
theorem Stp.push {H G : Hp} {f d : Addr} {o : HO} (st : Stp f H G) (F : FeedAt H f) (hd : H d = none) (hf : d ≠ f) : Stp f H (upd G d o) := by
  obtain ⟨l0, xs0, i0, r0, t0, n0, z0, e1, e2, _⟩ := F
  obtain ⟨i', r', t', n', s', e3⟩ := st.ls _ _ _ _ _ _ e1
  obtain ⟨l, xs, i, r, t, n, z, h1, h2, h3⟩ := st.feed
  rw [e3] at h1
  have el : l0 = l := by
    have := HO.lst.inj (Option.some.inj h1)
    cases this
    rfl
  subst el
  have dl : l0 ≠ d := fun z => by rw [z, hd] at e2; cases e2
  refine ⟨⟨l0, xs, i, r, t, n, z, ?_, ?_, h3⟩, fun b u hb e => ?_, fun l i r t n s e => ?_⟩
  · rw [upd_ne (Ne.symm hf), e3]
    exact h1
  · rw [upd_ne dl]
    exact h2
  · have : b ≠ d := fun z => by rw [z, hd] at e; cases e
    rw [upd_ne this]
    exact st.keep b u hb e
  · obtain ⟨i2, r2, t2, n2, s2, e4⟩ := st.ls _ _ _ _ _ _ e
    exact ⟨i2, r2, t2, n2, s2, by rw [upd_ne (Ne.symm hf)]; exact e4⟩
/-- the feed at f with these five, the rest as in H -/
structure Now (H H' : Hp) (f l : Addr) (i r t n s : Int) : Prop where
  at_ : H' f = some (six l i r t n s)
  oth : ∀ b, b ≠ f → H' b = H b
theorem Now.put {H H' : Hp} {f l : Addr} {i r t n s i' r' t' n' s' : Int} (h : Now H H' f l i r t n s) : Now H (upd H' f (six l i' r' t' n' s')) f l i' r' t' n' s' :=
  ⟨upd_same, fun b hb => by rw [upd_ne hb]; exact h.oth b hb⟩
theorem fdiv_nn {a b : Int} (h : 0 ≤ a) (h' : 0 < b) : 0 ≤ a.fdiv b := by
  rw [Int.fdiv_eq_ediv_of_nonneg a (by omega)]
  exact Int.ediv_nonneg h (by omega)
theorem lt_mod : (0 : Int) < 2147483647 := by decide
theorem lt_mod' : (0 : Int) < 2147483399 := by decide
/-! ### pairs, rows -/
abbrev two (x y : Int) : HO := .lst [.int x, .int y]
/-- these lists hold the pairs F 0, F 1, .. -/
def Prsd (H : Hp) (rs : List Addr) (F : Nat → Int × Int) : Prop := ∀ k r, rs[k]? = some r → H r = some (two (F k).1 (F k).2)
def PairsAt (H : Hp) (v : V) (n : Nat) (F : Nat → Int × Int) : Prop := ∃ a rs, v = .ref a ∧ H a = some (.lst (rs.map V.ref)) ∧ rs.length = n ∧ Prsd H rs F
theorem Prsd.same {H H' : Hp} {rs : List Addr} {F : Nat → Int × Int} (h : Prsd H rs F) (s : Same H H') : Prsd H' rs F := fun k r e => s _ _ (h k r e)
theorem PairsAt.same {H H' : Hp} {v : V} {n : Nat} {F : Nat → Int × Int} (h : PairsAt H v n F) (s : Same H H') : PairsAt H' v n F := by
  obtain ⟨a, rs, e, h, l, p⟩ := h
  exact ⟨a, rs, e, s _ _ h, l, p.same s⟩
theorem Prsd.nil {H : Hp} {F : Nat → Int × Int} : Prsd H [] F := fun k r h => by simp at h
theorem Prsd.push {H : Hp} {d r : Addr} {rs : List Addr} {F : Nat → Int × Int} {zs : List V} (h : Prsd H rs F) (hr : H r = some (two (F rs.length).1 (F rs.length).2)) (hd : H d = some (.lst (rs.map V.ref))) : Prsd (upd H d (.lst zs)) (rs ++ [r]) F := by
  have ne : ∀ {k : Nat} {x : Addr}, H x = some (two (F k).1 (F k).2) → x ≠ d := fun {k x} hx z => by
    rw [z, hd] at hx
    cases rs with
    | nil => cases hx
    | cons a rs => cases hx
  intro k x hx
  rcases push_get hx with ⟨_, h1⟩ | ⟨rfl, rfl⟩
  · rw [upd_ne (ne (h k x h1))]
    exact h k x h1
  · rw [upd_ne (ne hr)]
    exact hr
theorem pr_get {rs : List Addr} {k : Nat} (h : k < rs.length) : ∃ r, rs[k]? = some r ∧ (rs.map V.ref)[k]? = some (.ref r) := by
  refine ⟨rs[k], List.getElem?_eq_getElem h, ?_⟩
  rw [List.getElem?_map, List.getElem?_eq_getElem h]
  rfl
theorem PairsAt.stp {G G' : Hp} {f : Addr} {v : V} {n : Nat} {F : Nat → Int × Int} (h : PairsAt G v n F) (hF : FeedAt G f) (s : Stp f G G') : PairsAt G' v n F := by
  obtain ⟨a, rs, e, h1, l, p⟩ := h
  refine ⟨a, rs, e, s.keep _ _ (hF.ne h1 fun l i r t n s z => ?_) h1, l, fun k r e => s.keep _ _ (hF.ne (p k r e) fun _ _ _ _ _ _ w => by cases w) (p k r e)⟩
  cases rs with
  | nil => cases z
  | cons x rs =>
    cases rs with
    | nil => cases z
    | cons y rs => cases z
theorem Prsd.stp {G G' : Hp} {f : Addr} {rs : List Addr} {F : Nat → Int × Int} (h : Prsd G rs F) (hF : FeedAt G f) (s : Stp f G G') : Prsd G' rs F := fun k r e => s.keep _ _ (hF.ne (h k r e) fun _ _ _ _ _ _ w => by cases w) (h k r e)
/-- the pairs of a list, (0, 1) behind it -/
def LF (L : List (Int × Int)) : Nat → Int × Int := fun k => L.getD k (0, 1)
def Drw (n m : Nat) (L : List (Int × Int)) : Prop := ∀ x ∈ L, 0 < x.2 ∧ x.1.natAbs < 2 ^ n ∧ x.2.natAbs < 2 ^ m
theorem LF_in {L : List (Int × Int)} {k : Nat} (h : k < L.length) : LF L k = L[k] := by
  show L.getD k (0, 1) = _
  rw [List.getD_eq_getElem?_getD, List.getElem?_eq_getElem h]
  rfl
theorem LF_out {L : List (Int × Int)} {k : Nat} (h : L.length ≤ k) : LF L k = (0, 1) := by
  show L.getD k (0, 1) = _
  rw [List.getD_eq_getElem?_getD, List.getElem?_eq_none h]
  rfl
theorem LF_ok {n m : Nat} {L : List (Int × Int)} (h : Drw n m L) (hm : 1 ≤ m) (k : Nat) : 0 < (LF L k).2 ∧ (LF L k).1.natAbs < 2 ^ n ∧ (LF L k).2.natAbs < 2 ^ m := by
  rcases Nat.lt_or_ge k L.length with e | e
  · rw [LF_in e]
    exact h _ (List.getElem_mem e)
  · rw [LF_out e]
    exact ⟨by decide, Nat.two_pow_pos _, Nat.one_lt_two_pow (by omega)⟩
theorem LF_app {L : List (Int × Int)} {x : Int × Int} {k : Nat} (h : k < L.length) : LF (L ++ [x]) k = LF L k := by
  rw [LF_in h, LF_in (show k < (L ++ [x]).length by rw [List.length_append]; omega), List.getElem_append_left h]
theorem LF_last {L : List (Int × Int)} {x : Int × Int} : LF (L ++ [x]) L.length = x := by
  rw [LF_in (show L.length < (L ++ [x]).length by rw [List.length_append]; show L.length < L.length + 1; omega), List.getElem_append_right (Nat.le_refl _)]
  simp
theorem Prsd.app {H : Hp} {rs : List Addr} {L : List (Int × Int)} {x : Int × Int} (h : Prsd H rs (LF L)) (hl : rs.length ≤ L.length) : Prsd H rs (LF (L ++ [x])) := fun k r e => by
  have := (List.getElem?_eq_some_iff.mp e).1
  rw [LF_app (by omega)]
  exact h k r e
theorem Drw.app {n m : Nat} {L : List (Int × Int)} {x : Int × Int} (h : Drw n m L) (hx : 0 < x.2 ∧ x.1.natAbs < 2 ^ n ∧ x.2.natAbs < 2 ^ m) : Drw n m (L ++ [x]) := fun y hy => by
  rcases List.mem_append.mp hy with e | e
  · exact h y e
  · cases List.mem_singleton.mp e
    exact hx

theorem RatV.stp {C : Addr} {G G' : Hp} {f : Addr} {v : V} {z : Rat} (F : FeedAt G f) (s : Stp f G G') (r : RatV C G v z) : RatV C G' v z := by
  obtain ⟨a, dx, e, h⟩ := r
  exact ⟨a, dx, e, s.keep _ _ (F.ne h fun _ _ _ _ _ _ w => by cases w) h⟩
theorem NumV.stp {C : Addr} {G G' : Hp} {f : Addr} {v : V} {z : Rat} (F : FeedAt G f) (s : Stp f G G') (r : NumV C G v z) : NumV C G' v z := r.imp id fun r => r.stp F s
theorem RatsV.stp {C : Addr} {G G' : Hp} {f : Addr} {xs : List V} {g : Nat → Rat} (h : RatsV C G xs g) (F : FeedAt G f) (s : Stp f G G') : RatsV C G' xs g := fun k x e => (h k x e).stp F s
theorem NumsV.stp {C : Addr} {G G' : Hp} {f : Addr} {xs : List V} {g : Nat → Rat} (h : NumsV C G xs g) (F : FeedAt G f) (s : Stp f G G') : NumsV C G' xs g := fun k x e => (h k x e).stp F s
theorem rats_ne {C : Addr} {G : Hp} {f d : Addr} {xs : List V} {g : Nat → Rat} (h : RatsV C G xs g) (hF : FeedAt G f) (hd : G d = some (.lst xs)) : d ≠ f := hF.ne hd fun l i r t n s z => by
  have e := HO.lst.inj z
  subst e
  obtain ⟨a, dx, fs, e, _⟩ := (h 1 (.int i) rfl).ins
  cases e
end
end MoL

/-! # while by a number that rises, quotients, the last item -/
namespace MoL
open PySem PySem.Spec PyProof.Rows L2 MoW
theorem over_q {x y : Rat} (h : y ≠ 0) : (x / y) * (((x.den : Int) * y.num : Int) : Rat) = ((x.num * (y.den : Int) : Int) : Rat) := by
  rw [Rat.intCast_mul, Rat.intCast_mul, num_is, num_is]
  grind
theorem Bd.over {n m n' m' : Nat} {x y : Rat} (h : y ≠ 0) (a : Bd n m x) (b : Bd n' m' y) : Bd (n + m') (m + n') (x / y) :=
  .of (Int.mul_ne_zero (by have := den_pos x; omega) (num_ne h)) (over_q h) (nmul a.top b.d) (nmul a.d b.top)
abbrev upW (n : Nat) (Pv : Nat → L2.St → Hp → Prop) : Nat → L2.St → Hp → Prop := fun m σ H => ∃ j, m = n - j ∧ j ≤ n ∧ Pv j σ H
theorem while_up {c : TT} {tb : TS} {E : Ends} {σ : L2.St} {H : Hp} (n : Nat) (Pv : Nat → L2.St → Hp → Prop) (h0 : Pv 0 σ H)
    (hs : ∀ j σ H, j ≤ n → Pv j σ H → c σ H fun b H1 => if b = true then ∃ N : L2.St → Hp → Prop, (∀ σ' H', N σ' H' → ∃ m', m' < n - j ∧ upW n Pv m' σ' H') ∧ tb { E with nx := N, ct := N, bk := E.nx } σ H1 else E.nx σ H1) : tWhile c tb E σ H := by
  refine ⟨upW n Pv, ⟨n, 0, rfl, Nat.zero_le _, h0⟩, ?_⟩
  rintro m σ H ⟨j, rfl, hj, p⟩
  exact hs j σ H hj p
theorem up_next {n j : Nat} {Pv : Nat → L2.St → Hp → Prop} (h : j < n) : ∀ σ' H', Pv (j + 1) σ' H' → ∃ m', m' < n - j ∧ upW n Pv m' σ' H' := fun σ' H' p => ⟨n - (j + 1), by omega, j + 1, rfl, h, p⟩
theorem RatsV.upd {C : Addr} {H : Hp} {ys zs : List V} {f : Nat → Rat} {d : Addr} {o : HO} (h : RatsV C H ys f) (hd : H d = some (.lst zs)) : RatsV C (upd H d o) ys f := fun k x e => (h k x e).put hd
theorem at_last {xs : List V} {j : Nat} {v : V} (h : xs.length = j + 1) (hx : xs[j]? = some v) : atI xs (-1) = some v := by
  have e : ixN xs.length (-1) = some j := by
    unfold ixN
    rw [h, if_neg (by decide), if_pos (by omega)]
    congr 1
    omega
  unfold atI
  rw [e]
  exact hx
end MoL

/-! # Finite sums of fractions, rows of lots, tuples of two ints -/
namespace MoL
open PySem PySem.Spec PyProof.Rows L2 MoW
def sumR (f : Nat → Rat) : Nat → Rat
  | 0 => 0
  | n + 1 => sumR f n + f n
section
variable {f g : Nat → Rat} {n m : Nat}
theorem sumR_congr : ∀ {n : Nat}, (∀ k, k < n → f k = g k) → sumR f n = sumR g n
  | 0, _ => rfl
  | n + 1, h => by
    show sumR f n + f n = sumR g n + g n
    rw [sumR_congr (n := n) fun k hk => h k (by omega), h n (by omega)]
theorem sumR_add : ∀ n, sumR (fun k => f k + g k) n = sumR f n + sumR g n
  | 0 => by show (0 : Rat) = 0 + 0; grind
  | n + 1 => by
    show sumR (fun k => f k + g k) n + (f n + g n) = sumR f n + f n + (sumR g n + g n)
    rw [sumR_add n]
    grind
theorem sumR_sub : ∀ n, sumR (fun k => f k - g k) n = sumR f n - sumR g n
  | 0 => by show (0 : Rat) = 0 - 0; grind
  | n + 1 => by
    show sumR (fun k => f k - g k) n + (f n - g n) = sumR f n + f n - (sumR g n + g n)
    rw [sumR_sub n]
    grind
theorem sumR_mul (c : Rat) : ∀ n, sumR (fun k => c * f k) n = c * sumR f n
  | 0 => by show (0 : Rat) = c * 0; grind
  | n + 1 => by
    show sumR (fun k => c * f k) n + c * f n = c * (sumR f n + f n)
    rw [sumR_mul c n]
    grind
theorem sumR_mulr (c : Rat) : ∀ n, sumR (fun k => f k * c) n = sumR f n * c
  | 0 => by show (0 : Rat) = 0 * c; grind
  | n + 1 => by
    show sumR (fun k => f k * c) n + f n * c = (sumR f n + f n) * c
    rw [sumR_mulr c n]
    grind
theorem sumR_zero : ∀ {n : Nat}, (∀ k, k < n → f k = 0) → sumR f n = 0
  | 0, _ => rfl
  | n + 1, h => by
    show sumR f n + f n = 0
    rw [sumR_zero (n := n) fun k hk => h k (by omega), h n (by omega)]
    grind
theorem sumR_head : ∀ n, sumR f (n + 1) = f 0 + sumR (fun k => f (k + 1)) n
  | 0 => by show (0 : Rat) + f 0 = f 0 + 0; grind
  | n + 1 => by
    show sumR f (n + 1) + f (n + 1) = f 0 + (sumR (fun k => f (k + 1)) n + f (n + 1))
    rw [sumR_head n]
    grind
theorem sumR_more : ∀ (d : Nat), (∀ k, n ≤ k → k < n + d → f k = 0) → sumR f (n + d) = sumR f n
  | 0, _ => rfl
  | d + 1, h => by
    show sumR f (n + d) + f (n + d) = sumR f n
    rw [sumR_more d fun k h1 h2 => h k h1 (by omega), h (n + d) (by omega) (by omega)]
    grind
theorem sumR_swap (F : Nat → Nat → Rat) : ∀ n, sumR (fun i => sumR (F i) m) n = sumR (fun j => sumR (fun i => F i j) n) m
  | 0 => (sumR_zero fun _ _ => rfl).symm
  | n + 1 => by
    show sumR (fun i => sumR (F i) m) n + sumR (F n) m = sumR (fun j => sumR (fun i => F i j) n + F n j) m
    rw [sumR_swap F n, ← sumR_add]
theorem sumR_nonneg : ∀ {n : Nat}, (∀ k, k < n → 0 ≤ f k) → 0 ≤ sumR f n
  | 0, _ => Rat.le_refl
  | n + 1, h => Rat.add_nonneg (sumR_nonneg fun k hk => h k (by omega)) (h n (by omega))
end
/-- a sum of ints, as fractions -/
theorem sum_R : ∀ (xs : List Int), ((xs.sum : Int) : Rat) = sumR (fun k => ((xs.getD k 0 : Int) : Rat)) xs.length
  | [] => rfl
  | x :: xs => by
    rw [List.sum_cons, Rat.intCast_add, List.length_cons, sumR_head, sum_R xs]
    rfl
theorem pow_mul_R (x y : Rat) : ∀ n : Nat, (x * y) ^ n = x ^ n * y ^ n
  | 0 => by rw [Rat.pow_zero, Rat.pow_zero, Rat.pow_zero]; grind
  | n + 1 => by rw [Rat.pow_succ, Rat.pow_succ, Rat.pow_succ, pow_mul_R x y n]; grind
theorem pow_ne_R {x : Rat} (h : x ≠ 0) : ∀ n : Nat, x ^ n ≠ 0
  | 0 => by rw [Rat.pow_zero]; decide
  | n + 1 => by
    rw [Rat.pow_succ]
    intro z
    have := pow_ne_R h n
    grind
theorem div_pow_R {x y : Rat} (h : y ≠ 0) (n : Nat) : (x / y) ^ n * y ^ n = x ^ n := by
  rw [← pow_mul_R]
  congr 1
  grind
/-! ### means of rows of lots -/
/-- the row of the points x with the weights w -/
def lotF (w x : Nat → Rat) (n : Nat) (k : Nat) : Rat := sumR (fun j => w j * x j ^ k) n
/-- differences of neighbours, k times -/
def dfF (f : Nat → Rat) : Nat → Nat → Rat
  | 0, i => f i
  | k + 1, i => dfF f k i - dfF f k (i + 1)
theorem dfF_congr {f g : Nat → Rat} : ∀ (k i : Nat), (∀ j, i ≤ j → j ≤ i + k → f j = g j) → dfF f k i = dfF g k i
  | 0, i, h => h i (Nat.le_refl _) (Nat.le_refl _)
  | k + 1, i, h => by
    show dfF f k i - dfF f k (i + 1) = dfF g k i - dfF g k (i + 1)
    rw [dfF_congr k i fun j h1 h2 => h j h1 (by omega), dfF_congr k (i + 1) fun j h1 h2 => h j (by omega) (by omega)]
theorem dfF_lot (w x : Nat → Rat) (n : Nat) : ∀ k i, dfF (lotF w x n) k i = sumR (fun j => w j * x j ^ i * (1 - x j) ^ k) n
  | 0, i => sumR_congr fun j _ => by rw [Rat.pow_zero]; grind
  | k + 1, i => by
    show dfF (lotF w x n) k i - dfF (lotF w x n) k (i + 1) = _
    rw [dfF_lot w x n k i, dfF_lot w x n k (i + 1), ← sumR_sub]
    refine sumR_congr fun j _ => ?_
    rw [Rat.pow_succ, Rat.pow_succ]
    grind
theorem dfF_nonneg {w x : Nat → Rat} {n : Nat} (hw : ∀ j, j < n → 0 ≤ w j) (hx : ∀ j, j < n → 0 ≤ x j ∧ x j ≤ 1) (k i : Nat) : 0 ≤ dfF (lotF w x n) k i := by
  rw [dfF_lot]
  refine sumR_nonneg fun j hj => Rat.mul_nonneg (Rat.mul_nonneg (hw j hj) (Rat.pow_nonneg (hx j hj).1)) (Rat.pow_nonneg ?_)
  have := (hx j hj).2
  grind
/-- in turn j: the means of (x + c) ** j * x ** k -/
def mvL (f : Nat → Rat) (c : Rat) : Nat → Nat → Rat
  | 0, k => f k
  | j + 1, k => mvL f c j (k + 1) + mvL f c j k * c
def mvF (f : Nat → Rat) (c : Rat) (j : Nat) : Rat := mvL f c j 0
theorem mvL_congr {f g : Nat → Rat} {c : Rat} : ∀ (j k : Nat), (∀ i, k ≤ i → i ≤ k + j → f i = g i) → mvL f c j k = mvL g c j k
  | 0, k, h => h k (Nat.le_refl _) (Nat.le_refl _)
  | j + 1, k, h => by
    show mvL f c j (k + 1) + mvL f c j k * c = mvL g c j (k + 1) + mvL g c j k * c
    rw [mvL_congr j k fun i h1 h2 => h i h1 (by omega), mvL_congr j (k + 1) fun i h1 h2 => h i (by omega) (by omega)]
theorem mvF_congr {f g : Nat → Rat} {c : Rat} (j : Nat) (h : ∀ i, i ≤ j → f i = g i) : mvF f c j = mvF g c j := mvL_congr j 0 fun i _ h2 => h i (by omega)
theorem mvL_lot (w x : Nat → Rat) (n : Nat) (c : Rat) : ∀ j k, mvL (lotF w x n) c j k = sumR (fun i => w i * (x i + c) ^ j * x i ^ k) n
  | 0, k => sumR_congr fun i _ => by rw [Rat.pow_zero]; grind
  | j + 1, k => by
    show mvL (lotF w x n) c j (k + 1) + mvL (lotF w x n) c j k * c = _
    rw [mvL_lot w x n c j k, mvL_lot w x n c j (k + 1), ← sumR_mulr, ← sumR_add]
    refine sumR_congr fun i _ => ?_
    rw [Rat.pow_succ, Rat.pow_succ]
    grind
theorem mvF_lot (w x : Nat → Rat) (n : Nat) (c : Rat) (j : Nat) : mvF (lotF w x n) c j = lotF w (fun i => x i + c) n j := by
  show mvL _ _ j 0 = _
  rw [mvL_lot]
  exact sumR_congr fun i _ => by rw [Rat.pow_zero]; grind
theorem mv_step {a b : Int} {x y B c : Rat} (h1 : (a : Rat) = x * B) (h2 : (b : Rat) = y * B) : ((a * (c.den : Int) + b * c.num : Int) : Rat) = (x + y * c) * (B * ((c.den : Int) : Rat)) := by
  rw [Rat.intCast_add, Rat.intCast_mul, Rat.intCast_mul, h1, h2, num_is]
  grind
/-! ### the sums of powers of ints -/
/-- the weights times the k-th powers of the points -/
def powl (ts ps : List Int) (k : Nat) : List Int := List.zipWith (fun p t => p * t ^ k) ps ts
theorem powl_len {ts ps : List Int} (hl : ts.length = ps.length) (k : Nat) : (powl ts ps k).length = ts.length := by
  show (List.zipWith _ _ _).length = _
  rw [List.length_zipWith]
  omega
theorem powl_get {ts ps : List Int} (hl : ts.length = ps.length) {k j : Nat} (hj : j < ts.length) : (powl ts ps k)[j]? = some (ps.getD j 0 * ts.getD j 0 ^ k) := by
  show (List.zipWith _ _ _)[j]? = _
  rw [List.getElem?_zipWith, List.getD_eq_getElem?_getD, List.getD_eq_getElem?_getD, List.getElem?_eq_getElem hj, List.getElem?_eq_getElem (show j < ps.length by omega)]
  rfl
theorem powl_zero {ts ps : List Int} (hl : ts.length = ps.length) : powl ts ps 0 = ps := by
  refine List.ext_getElem? fun j => ?_
  by_cases hj : j < ts.length
  · rw [powl_get hl hj, Int.pow_zero, Int.mul_one, List.getD_eq_getElem?_getD, List.getElem?_eq_getElem (show j < ps.length by omega)]
    rfl
  · rw [List.getElem?_eq_none (by rw [powl_len hl]; omega), List.getElem?_eq_none (by omega)]
theorem lot_ring (p t c d : Rat) (hd : d ≠ 0) : p / d * t * (d * c) = p * (t * c) := by grind
theorem powl_lot {ts ps : List Int} (hl : ts.length = ps.length) {u b : Int} (hu : u ≠ 0) (hb : b ≠ 0) (k : Nat) :
    qv ((powl ts ps k).sum, u * b ^ k) = lotF (fun j => ((ps.getD j 0 : Int) : Rat) / (u : Rat)) (fun j => ((ts.getD j 0 : Int) : Rat) / (b : Rat)) ts.length k := by
  have hq : u * b ^ k ≠ 0 := Int.mul_ne_zero hu (Int.pow_ne_zero hb)
  refine div_eq hq ?_
  show lotF _ _ _ k * ((u * b ^ k : Int) : Rat) = _
  rw [sum_R, powl_len hl, Rat.intCast_mul, Rat.intCast_pow]
  show sumR _ _ * _ = _
  rw [← sumR_mulr]
  refine sumR_congr fun j hj => ?_
  have e : (powl ts ps k).getD j 0 = ps.getD j 0 * ts.getD j 0 ^ k := by
    rw [List.getD_eq_getElem?_getD, powl_get hl hj]
    rfl
  have hu' := ine u hu
  have hb' := ine b hb
  have h3 := div_pow_R (x := ((ts.getD j 0 : Int) : Rat)) hb' k
  rw [e, Rat.intCast_mul, Rat.intCast_pow, ← h3]
  exact lot_ring _ _ _ _ hu'
/-! ### tuples of two ints -/
abbrev tup2 (x y : Int) : HO := .tup [.int x, .int y]
/-- these tuples hold the pairs F 0, F 1, .. -/
def Tups (H : Hp) (rs : List Addr) (F : Nat → Int × Int) : Prop := ∀ k r, rs[k]? = some r → H r = some (tup2 (F k).1 (F k).2)
def TupsAt (H : Hp) (v : V) (n : Nat) (F : Nat → Int × Int) : Prop := ∃ a rs, v = .ref a ∧ H a = some (.lst (rs.map V.ref)) ∧ rs.length = n ∧ Tups H rs F
theorem Tups.same {H H' : Hp} {rs : List Addr} {F : Nat → Int × Int} (h : Tups H rs F) (s : Same H H') : Tups H' rs F := fun k r e => s _ _ (h k r e)
theorem TupsAt.same {H H' : Hp} {v : V} {n : Nat} {F : Nat → Int × Int} (h : TupsAt H v n F) (s : Same H H') : TupsAt H' v n F := by
  obtain ⟨a, rs, e, h, l, p⟩ := h
  exact ⟨a, rs, e, s _ _ h, l, p.same s⟩
theorem Tups.nil {H : Hp} {F : Nat → Int × Int} : Tups H [] F := fun k r h => by simp at h
/-- a list changes, the tuples stay -/
theorem Tups.put {H : Hp} {rs : List Addr} {F : Nat → Int × Int} {d : Addr} {ys : List V} {o : HO} (h : Tups H rs F) (hd : H d = some (.lst ys)) : Tups (upd H d o) rs F := fun k r e => by
  rw [upd_ne fun z => by have := h k r e; rw [z, hd] at this; cases this]
  exact h k r e
theorem Tups.push {H : Hp} {r : Addr} {rs : List Addr} {F : Nat → Int × Int} (h : Tups H rs F) (hr : H r = some (tup2 (F rs.length).1 (F rs.length).2)) : Tups H (rs ++ [r]) F := fun k x hx => by
  rcases push_get hx with ⟨_, h1⟩ | ⟨rfl, rfl⟩
  · exact h k x h1
  · exact hr
theorem Tups.to {H : Hp} {rs : List Addr} {F G : Nat → Int × Int} (h : Tups H rs F) (e : ∀ k, k < rs.length → F k = G k) : Tups H rs G := fun k r hr => e k (get_lt hr) ▸ h k r hr
/-- a list of tuples as data -/
def pdT (p : Int × Int) : PyData := .tuple [.int p.1, .int p.2]
def pdL (F : Nat → Int × Int) (n : Nat) : List PyData := (List.range n).map fun k => pdT (F k)
theorem pdT_eqv (p q : Int × Int) : PyData.eqv (pdT p) (pdT q) = decide (p = q) := by
  obtain ⟨a, b⟩ := p
  obtain ⟨c, d⟩ := q
  have e : PyData.eqv (pdT (a, b)) (pdT (c, d)) = ((a == c) && ((b == d) && true)) := by simp only [pdT, PyData.eqv, PyData.eqvAll]
  rw [e, Bool.eq_iff_iff]
  simp
theorem eqvAll_map {α : Type} (f g : α → Int × Int) : ∀ xs : List α, PyData.eqvAll (xs.map fun k => pdT (f k)) (xs.map fun k => pdT (g k)) = decide (∀ x ∈ xs, f x = g x)
  | [] => by simp [PyData.eqvAll]
  | x :: xs => by
    rw [List.map_cons, List.map_cons]
    simp only [PyData.eqvAll]
    rw [eqvAll_map f g xs, pdT_eqv, Bool.eq_iff_iff]
    simp
theorem pdL_eqv (F G : Nat → Int × Int) (n : Nat) : PyData.eqv (.list (pdL F n)) (.list (pdL G n)) = decide (∀ k, k < n → F k = G k) := by
  simp only [PyData.eqv]
  show PyData.eqvAll (List.map _ _) (List.map _ _) = _
  rw [eqvAll_map, Bool.eq_iff_iff]
  simp
theorem pdL_lay : ∀ (xs : List (Int × Int)), PyData.canLayAll0 (xs.map pdT) = true
  | [] => by simp [PyData.canLayAll0]
  | x :: xs => by
    rw [List.map_cons]
    simp only [PyData.canLayAll0, pdT, PyData.canLay0, pdL_lay xs]
    rfl
theorem pdL_depth : ∀ (xs : List (Int × Int)), PyData.depthAll (xs.map pdT) ≤ 10
  | [] => by simp [PyData.depthAll]
  | x :: xs => by
    rw [List.map_cons]
    have := pdL_depth xs
    simp only [PyData.depthAll, pdT, PyData.depth] at this ⊢
    omega
theorem pdL_shaped (F : Nat → Int × Int) (n : Nat) : PySem.SeqAt.shaped (.list (pdL F n)) = true := by
  have e : pdL F n = ((List.range n).map F).map pdT := by show List.map _ _ = _; rw [List.map_map]; rfl
  rw [e]
  have h1 := pdL_depth ((List.range n).map F)
  have h2 : PyData.depth (.list (((List.range n).map F).map pdT)) ≤ 64 := by
    simp only [PyData.depth]
    omega
  show (PyData.canLay0 (.list (((List.range n).map F).map pdT)) && decide (PyData.depth (.list (((List.range n).map F).map pdT)) ≤ 64)) = true
  rw [Bool.and_eq_true]
  exact ⟨by simp only [PyData.canLay0]; exact pdL_lay _, decide_eq_true h2⟩
theorem dpAll_tups {K : PySem.W.Frag} {H : Hp} {F : Nat → Int × Int} : ∀ (rs : List Addr) (j : Nat), (∀ k r, rs[k]? = some r → H r = some (tup2 (F (j + k)).1 (F (j + k)).2)) → DpAll K H (rs.map V.ref) ((List.range' j rs.length).map fun k => pdT (F k))
  | [], j, _ => .nil
  | r :: rs, j, h => by
    rw [List.map_cons, List.length_cons, List.range'_succ, List.map_cons]
    exact .cons (.tup (.of (h 0 r rfl)) (.cons (.int _) (.cons (.int _) .nil))) (dpAll_tups rs (j + 1) fun k x e => by have := h (k + 1) x e; rw [show j + 1 + k = j + (k + 1) by omega]; exact this)
theorem TupsAt.dp {K : PySem.W.Frag} {H : Hp} {v : V} {n : Nat} {F : Nat → Int × Int} (h : TupsAt H v n F) : Dp K H v (.list (pdL F n)) := by
  obtain ⟨a, rs, rfl, ha, rfl, hp⟩ := h
  refine .lst (.of ha) ?_
  have := dpAll_tups (K := K) (H := H) (F := F) rs 0 (fun k r e => (Nat.zero_add k).symm ▸ hp k r e)
  rw [← List.range_eq_range'] at this
  exact this
theorem ix_tupK {X : Cx} {K : PySem.W.Frag} (h : X.K = K) : IxR X (rIxT K) := h ▸ ix_tup
theorem ref_get {rs : List Addr} {i : Nat} {x : V} (hx : (rs.map V.ref)[i]? = some x) : ∃ r, rs[i]? = some r ∧ x = .ref r := by
  rw [List.getElem?_map] at hx
  cases h : rs[i]? with
  | none => rw [h] at hx; cases hx
  | some r => rw [h] at hx; exact ⟨r, rfl, (Option.some.inj hx).symm⟩
/-! ### the lines of the law's table of differences -/
def ln : Nat → Nat → Int
  | 0, i => if i = 0 then 1 else 0
  | _ + 1, 0 => 1
  | k + 1, i + 1 => ln k (i + 1) - ln k i
theorem ln_zero : ∀ k, ln k 0 = 1
  | 0 => rfl
  | _ + 1 => rfl
theorem ln_out : ∀ (k i : Nat), k < i → ln k i = 0
  | 0, i, h => if_neg (by omega)
  | k + 1, 0, h => absurd h (Nat.not_lt_zero _)
  | k + 1, i + 1, h => by
    show ln k (i + 1) - ln k i = 0
    rw [ln_out k (i + 1) (by omega), ln_out k i (by omega)]
    rfl
theorem ln_lt : ∀ (k i : Nat), (ln k i).natAbs ≤ 2 ^ k
  | 0, i => by
    show (if i = 0 then (1 : Int) else 0).natAbs ≤ 1
    split <;> decide
  | k + 1, 0 => by
    show (1 : Int).natAbs ≤ _
    exact Nat.one_le_two_pow
  | k + 1, i + 1 => by
    show (ln k (i + 1) - ln k i).natAbs ≤ _
    have h1 := ln_lt k (i + 1)
    have h2 := ln_lt k i
    rw [Nat.pow_succ]
    omega
theorem ln_sum (f : Nat → Rat) : ∀ k a, sumR (fun i => (ln k i : Rat) * f (a + i)) (k + 1) = dfF f k a
  | 0, a => by
    show (0 : Rat) + ((ln 0 0 : Int) : Rat) * f (a + 0) = f a
    rw [show ln 0 0 = 1 from rfl, Nat.add_zero, Rat.intCast_one]
    grind
  | k + 1, a => by
    show _ = dfF f k a - dfF f k (a + 1)
    rw [← ln_sum f k a, ← ln_sum f k (a + 1), sumR_head]
    have e1 : sumR (fun i => ((ln (k + 1) (i + 1) : Int) : Rat) * f (a + (i + 1))) (k + 1) = sumR (fun i => ((ln k (i + 1) : Int) : Rat) * f (a + (i + 1))) (k + 1) - sumR (fun i => ((ln k i : Int) : Rat) * f (a + 1 + i)) (k + 1) := by
      rw [← sumR_sub]
      refine sumR_congr fun i _ => ?_
      show ((ln k (i + 1) - ln k i : Int) : Rat) * _ = _
      rw [Rat.intCast_sub, show a + 1 + i = a + (i + 1) by omega]
      grind
    have e2 := sumR_head (f := fun i => ((ln k i : Int) : Rat) * f (a + i)) (k + 1)
    have e3 : sumR (fun i => ((ln k i : Int) : Rat) * f (a + i)) (k + 1 + 1) = sumR (fun i => ((ln k i : Int) : Rat) * f (a + i)) (k + 1) + ((ln k (k + 1) : Int) : Rat) * f (a + (k + 1)) := rfl
    rw [ln_out k (k + 1) (by omega), Rat.intCast_zero] at e3
    have e4 : ((ln (k + 1) 0 : Int) : Rat) = ((ln k 0 : Int) : Rat) := by rw [ln_zero, ln_zero]
    have e1' : sumR (fun k_1 => ((ln (k + 1) (k_1 + 1) : Int) : Rat) * f (a + (k_1 + 1))) (k + 1) = _ := e1
    rw [e1', e4]
    grind
/-- the line after a line -/
theorem ln_next {k : Nat} : ([1] ++ (List.range k).map (fun i => ln k (i + 1) - ln k i)) ++ [-ln k k] = (List.range (k + 2)).map (ln (k + 1)) := by
  refine List.ext_getElem? fun i => ?_
  rcases Nat.lt_or_ge i (k + 2) with h | h
  · rw [List.getElem?_map, List.getElem?_range h]
    rcases Nat.lt_or_ge i (k + 1) with h1 | h1
    · rw [List.getElem?_append_left (by simp; omega)]
      cases i with
      | zero => rfl
      | succ i =>
        rw [List.getElem?_append_right (by simp), List.length_singleton, Nat.add_sub_cancel, List.getElem?_map, List.getElem?_range (by omega)]
        rfl
    · have e : i = k + 1 := by omega
      subst e
      rw [List.getElem?_append_right (by simp)]
      have hlen : ([(1 : Int)] ++ (List.range k).map (fun i => ln k (i + 1) - ln k i)).length = k + 1 := by simp
      rw [hlen, Nat.sub_self]
      show some (-ln k k) = some (ln k (k + 1) - ln k k)
      rw [ln_out k (k + 1) (by omega)]
      congr 1
      omega
  · rw [List.getElem?_eq_none (by simp; omega), List.getElem?_eq_none (by simp; omega)]
/-- the product of m bottoms from a on -/
def WN (F : Nat → Int × Int) (a : Nat) : Nat → Int
  | 0 => 1
  | m + 1 => WN F a m * (F (a + m)).2
theorem WN_pos {F : Nat → Int × Int} {a : Nat} : ∀ m, (∀ k, k < a + m → 0 < (F k).2) → 0 < WN F a m
  | 0, _ => by show (0 : Int) < 1; decide
  | m + 1, h => Int.mul_pos (WN_pos m fun k hk => h k (by omega)) (h (a + m) (by omega))
theorem WN_app {F : Nat → Int × Int} {a : Nat} : ∀ m, WN F 0 (a + m) = WN F 0 a * WN F a m
  | 0 => by show WN F 0 a = WN F 0 a * 1; rw [Int.mul_one]
  | m + 1 => by
    show WN F 0 (a + m) * (F (0 + (a + m))).2 = WN F 0 a * (WN F a m * (F (a + m)).2)
    rw [WN_app m, Nat.zero_add, Int.mul_assoc]
theorem le_mul1 {x y : Int} (hx : 0 < x) (hy : 0 < y) : x ≤ x * y := by
  have : x * 1 ≤ x * y := Int.mul_le_mul_of_nonneg_left (by omega) (by omega)
  omega
theorem WN_le {F : Nat → Int × Int} {a n m : Nat} (h : ∀ k, k < n → 0 < (F k).2) (hm : a + m ≤ n) : WN F a m ≤ WN F 0 n := by
  have h1 : 0 < WN F a m := WN_pos m fun k hk => h k (by omega)
  have h2 : 0 < WN F 0 a := WN_pos a fun k hk => h k (by omega)
  have h3 : 0 < WN F (a + m) (n - (a + m)) := WN_pos _ fun k hk => h k (by omega)
  have e : WN F 0 n = WN F 0 a * WN F a m * WN F (a + m) (n - (a + m)) := by
    have := WN_app (F := F) (a := a + m) (n - (a + m))
    rw [show a + m + (n - (a + m)) = n by omega, WN_app] at this
    exact this
  have h4 : WN F a m ≤ WN F 0 a * WN F a m := by rw [Int.mul_comm]; exact le_mul1 h1 h2
  have h5 := le_mul1 (Int.mul_pos h2 h1) h3
  omega
theorem WN_set {F G : Nat → Int × Int} {a : Nat} {u : Int} (h : ∀ j, (G j).2 = if j = a then (F j).2 * u else (F j).2) : ∀ m, WN G 0 m = WN F 0 m * if a < m then u else 1
  | 0 => by show (1 : Int) = 1 * if a < 0 then u else 1; rw [if_neg (by omega)]; rfl
  | m + 1 => by
    show WN G 0 m * (G (0 + m)).2 = WN F 0 m * (F (0 + m)).2 * _
    rw [WN_set h m, h, Nat.zero_add]
    rcases Nat.lt_trichotomy a m with e | e | e
    · rw [if_pos e, if_neg (by omega), if_pos (by omega), Int.mul_assoc, Int.mul_assoc, Int.mul_comm u]
    · subst e
      rw [if_neg (by omega), if_pos rfl, if_pos (by omega), Int.mul_one, Int.mul_assoc]
    · rw [if_neg (by omega), if_neg (by omega), if_neg (by omega), Int.mul_one, Int.mul_one]
theorem WN_small {F : Nat → Int × Int} {c : Int} (hc : 0 < c) : ∀ m, (∀ k, k < m → 0 < (F k).2 ∧ (F k).2 ≤ c) → WN F 0 m ≤ c ^ m
  | 0, _ => by rw [Int.pow_zero]; exact Int.le_refl _
  | m + 1, h => by
    show WN F 0 m * (F (0 + m)).2 ≤ _
    rw [Nat.zero_add, Int.pow_succ]
    have h1 := WN_small hc m fun k hk => h k (by omega)
    have h2 := h m (by omega)
    have h3 : 0 < WN F 0 m := WN_pos m fun k hk => (h k (by omega)).1
    exact Int.le_trans (Int.mul_le_mul_of_nonneg_left h2.2 (by omega)) (Int.mul_le_mul_of_nonneg_right h1 (by omega))
end MoL

/-! # Polynomials over Rat on the heap, operators between two classes -/
namespace MoW
open PySem PySem.W PyProof.Rows
section
variable {prog : Program} {w : World} {A : Around} {E : Value → Shared → Prop} {s : Shared} {K : Frag} {x y C D L f g fr : Addr} {ox oy : Obj} {od od' : Option Obj} {h₀ : Heap} {m : Str → Option Value}
/-- an instance beside one of another class: its own method answers -/
theorem bin_own_two {op : Operator} {Q : Value → Shared → Prop} {f' g' : Addr} (X : K.In s.heap) (I : W.InstAt s.heap x ox C od) (J : W.InstAt s.heap y oy D od') (hc : selfFirst K C = true) (hd : selfFirst K D = true) (hne : C ≠ D)
    (hn : subIn K (.ref D) (.ref C) = some false) (h1 : findIn K (.ref C) (PySem.dunder op.info.2) = some (some (.ref f))) (hf : isFn K (.ref f) = true) (h1r : findIn K (.ref C) (dunderR op.info.2) = some (some (.ref f')))
    (h2 : findIn K (.ref D) (PySem.dunder op.info.2) = some (some (.ref g'))) (h2r : findIn K (.ref D) (dunderR op.info.2) = some (some (.ref g)))
    (a : wpAny (model prog w) A (call (.ref f) [.ref x, .ref y]) (W.CmpBack Q) E s) : wpAny (model prog w) A (binaryOp op (.ref x) (.ref y)) Q E s := by
  obtain ⟨cd, rest, hcd, hm⟩ := mro_first (K := K) (C := C) (cd := default) hc
  obtain ⟨dd, rest2, hdd, hm2⟩ := mro_first (K := K) (C := D) (cd := default) hd
  unfold binaryOp
  refine wpAny_holding (wpAny_bind ?_)
  unfold binaryOp1
  refine wpAny_bind (I.type.here (wpAny_bind (J.type.here (wpAny_bind ((fills_K X hcd hm h1).here ?_)))))
  have ne : (Value.ref C == Value.ref D) = false := by simpa using hne
  simp only [ne, Bool.false_eq_true, if_false]
  refine wpAny_bind ((fills_K X hdd hm2 h2).here ?_)
  simp only [Bool.and_self, if_true]
  refine wpAny_bind ((looks_subIn X hn).here ?_)
  simp only [Bool.false_eq_true, if_false, pure_bind, Bool.not_false, Bool.and_self, if_true]
  have py : ∀ {Z p q : Addr}, findIn K (.ref Z) (PySem.dunder op.info.2) = some (some (.ref p)) → findIn K (.ref Z) (dunderR op.info.2) = some (some (.ref q)) → Looks (model prog w) s.heap (numberSlotInPython (.ref Z) op.info.2) true := by
    intro Z p q z1 z2
    unfold numberSlotInPython
    refine (looks_findIn X z1).andThen (Looks.andThen (a := true) .now ?_)
    exact (looks_findIn X z2).andThen (Looks.andThen (a := true) .now .now)
  refine wpAny_bind ((py h1 h1r).here ?_)
  simp only [if_true]
  refine wpAny_bind ((py h2 h2r).here ?_)
  simp only [Bool.not_true, Bool.false_eq_true, if_false]
  refine wpAny_bind (m := tryMethod (.ref x) _ (.ref y)) ?_
  unfold tryMethod
  refine wpAny_bind (special_fn X I h1 (beq_iff_eq.mp hf) (wpAny_mono a (fun v s' hv => ?_) fun _ _ e => e))
  cases v <;> first | exact hv.elim | exact wpAny_pure (wpAny_pure (wpAny_pure hv))
end
end MoW
namespace MoL
open PySem PySem.Spec PyProof.Rows L2 MoW
section
variable {X : Cx} {CX CX' : CXT} {k k' : Nat} {C D f f' g g' : Addr} {fd : FuncData} {ps : List Str} {sp : Sp} {E : XK} {pre : List V → Hp → Prop}
/-- x op y, two classes: x's own def answers -/
theorem op_two {op : Operator} (c : OwnC X.K C) (d : OwnC X.K D) (ne : C ≠ D) (sub : PySem.W.subIn X.K (.ref D) (.ref C) = some false) (m : Meth X.K C (PySem.dunder op.info.2) f) (mr : Meth X.K C (dunderR op.info.2) f') (m2 : Meth X.K D (PySem.dunder op.info.2) g')
    (m2r : Meth X.K D (dunderR op.info.2) g) (run : FnOk X.prog X.w X.K X.mg X.base CX k f fd ps sp) (hr : Room k X.A)
    (hb : Binds X.K fd ps []) (hx : Passes CX X E) : OpR X (binaryOp op) (fun x y H Q => Ins H x C ∧ Ins H y D ∧ sp [x, y] H Q E) := by
  intro pins s σ H x y v u Q I rx ry h
  obtain ⟨⟨a, dx, fs, rfl, ha⟩, ⟨b, dy, gs, rfl, hb'⟩, hs⟩ := h
  cases (show v = Value.ref a from rx)
  cases (show u = Value.ref b from ry)
  obtain ⟨od, J⟩ := ins_at I ha
  obtain ⟨od', J'⟩ := ins_at I hb'
  exact bin_own_two I.kIn J J' c.first d.first ne sub m.at_ m.fn mr.at_ m2.at_ m2r.at_ (thn (run_fn (us := [.ref a, .ref b]) (vs := [.ref a, .ref b]) run hr hb .nil hx I (.cons rfl (.cons rfl .nil)) hs) fun v s' q => ep_back q)
end
/-! ### integers over one bottom -/
/-- these integers are the values f 0, f 1, .. times B -/
def TopsV (B : Int) (ts : List Int) (f : Nat → Rat) : Prop := ∀ (k : Nat) (t : Int), ts[k]? = some t → (t : Rat) = f k * (B : Rat)
theorem getD_at {ts : List Int} {i : Nat} (h : i < ts.length) : ts[i]? = some (ts.getD i 0) := by
  rw [List.getD_eq_getElem?_getD, List.getElem?_eq_getElem h]
  rfl
theorem TopsV.get {B : Int} {ts : List Int} {f : Nat → Rat} (h : TopsV B ts f) {i : Nat} (hi : i < ts.length) : ((ts.getD i 0 : Int) : Rat) = f i * (B : Rat) := h i _ (getD_at hi)
theorem getD_out {ts : List Int} {i : Nat} (h : ts.length ≤ i) : ts.getD i 0 = 0 := by
  rw [List.getD_eq_getElem?_getD, List.getElem?_eq_none h]
  rfl
theorem int_at {xs : List Int} {j : Nat} (h : j < xs.length) : (xs.map V.int)[j]? = some (V.int (xs.getD j 0)) := by
  rw [List.getElem?_map, getD_at h]
  rfl
theorem atI_getD {ts : List Int} {i : Nat} (h : i < ts.length) : atI (ts.map V.int) (0 + (i : Int)) = some (V.int (ts.getD i 0)) := at_get (int_at h)
/-- sizes of all of them -/
def TopsB (e : Nat) (ts : List Int) : Prop := ∀ k, (ts.getD k 0).natAbs < 2 ^ e
theorem TopsB.mono {e e' : Nat} {ts : List Int} (h : TopsB e ts) (l : e ≤ e') : TopsB e' ts := fun k => nle (h k) l
theorem TopsB.of {e : Nat} {ts : List Int} (h : ∀ (k : Nat) (t : Int), ts[k]? = some t → t.natAbs < 2 ^ e) : TopsB e ts := fun k => by
  rcases Nat.lt_or_ge k ts.length with c | c
  · exact h k _ (getD_at c)
  · rw [getD_out c]
    exact Nat.two_pow_pos _
/-- with zeros behind them -/
theorem TopsV.all {B : Int} {ts : List Int} {f : Nat → Rat} (h : TopsV B ts f) (hz : ∀ k, ts.length ≤ k → f k = 0) (i : Nat) : ((ts.getD i 0 : Int) : Rat) = f i * (B : Rat) := by
  rcases Nat.lt_or_ge i ts.length with c | c
  · exact h.get c
  · rw [getD_out c, hz i c, Rat.intCast_zero, Rat.zero_mul]
theorem sum_lt {xs : List Int} {e : Nat} (h : ∀ x ∈ xs, x.natAbs < 2 ^ e) : xs.sum.natAbs ≤ xs.length * 2 ^ e := by
  induction xs with
  | nil => simp
  | cons x xs ih =>
    rw [List.sum_cons, List.length_cons, Nat.add_mul]
    have h1 := h x (List.mem_cons_self ..)
    have h2 := ih fun y hy => h y (List.mem_cons_of_mem _ hy)
    have h3 := Int.natAbs_add_le x xs.sum
    omega
theorem range_sum (h : Nat → Int) : ∀ n, ((((List.range n).map h).sum : Int) : Rat) = sumR (fun a => ((h a : Int) : Rat)) n
  | 0 => rfl
  | n + 1 => by
    rw [List.range_succ, List.map_append, List.sum_append, Rat.intCast_add, range_sum h n]
    show _ + (((h n + 0 : Int)) : Rat) = _ + _
    rw [Int.add_zero]
theorem range_sum_lt {h : Nat → Int} {e n : Nat} (hh : ∀ a, a < n → (h a).natAbs < 2 ^ e) : ((List.range n).map h).sum.natAbs ≤ n * 2 ^ e := by
  have := sum_lt (xs := (List.range n).map h) (e := e) fun x hx => by
    obtain ⟨a, ha, rfl⟩ := List.mem_map.mp hx
    exact hh a (List.mem_range.mp ha)
  rw [List.length_map, List.length_range] at this
  exact this
/-- one term of a product -/
abbrev cvT (ts us : List Int) (i a : Nat) : Int := if a ≤ i then ts.getD a 0 * us.getD (i - a) 0 else 0
/-- coefficient i of the product -/
def cv (ts us : List Int) (i : Nat) : Int := ((List.range ts.length).map (cvT ts us i)).sum
/-- coefficient i when k rows and j places of the next are done -/
def cvP (ts us : List Int) (k j i : Nat) : Int := ((List.range k).map (cvT ts us i)).sum + (if k ≤ i ∧ i < k + j then ts.getD k 0 * us.getD (i - k) 0 else 0)
theorem cvP_zero {ts us : List Int} (i : Nat) : cvP ts us 0 0 i = 0 := by
  show (0 : Int) + _ = 0
  rw [if_neg (by omega)]
  rfl
theorem cvP_step {ts us : List Int} {k j : Nat} : cvP ts us k (j + 1) (k + j) = cvP ts us k j (k + j) + ts.getD k 0 * us.getD j 0 := by
  show _ + (if k ≤ k + j ∧ k + j < k + (j + 1) then _ else _) = _ + (if k ≤ k + j ∧ k + j < k + j then _ else _) + _
  rw [if_pos (by omega), if_neg (by omega), Nat.add_sub_cancel_left, Int.add_zero]
theorem cvP_else {ts us : List Int} {k j i : Nat} (h : i ≠ k + j) : cvP ts us k (j + 1) i = cvP ts us k j i := by
  show _ + (if k ≤ i ∧ i < k + (j + 1) then _ else _) = _ + (if k ≤ i ∧ i < k + j then _ else _)
  congr 1
  by_cases c : k ≤ i ∧ i < k + j
  · rw [if_pos c, if_pos (by omega)]
  · rw [if_neg c, if_neg (by omega)]
theorem cvP_next {ts us : List Int} {k i : Nat} : cvP ts us k us.length i = cvP ts us (k + 1) 0 i := by
  show ((List.range k).map (cvT ts us i)).sum + _ = ((List.range (k + 1)).map (cvT ts us i)).sum + _
  rw [List.range_succ, List.map_append, List.sum_append, if_neg (show ¬ (k + 1 ≤ i ∧ i < k + 1 + 0) by omega)]
  show _ + (if k ≤ i ∧ i < k + us.length then _ else _) = _ + ((if k ≤ i then ts.getD k 0 * us.getD (i - k) 0 else 0) + 0) + 0
  rw [Int.add_zero, Int.add_zero]
  congr 1
  by_cases c : k ≤ i
  · rw [if_pos c]
    by_cases c2 : i < k + us.length
    · rw [if_pos ⟨c, c2⟩]
    · rw [if_neg (by omega), show us.getD (i - k) 0 = 0 by rw [List.getD_eq_getElem?_getD, List.getElem?_eq_none (by omega)]; rfl, Int.mul_zero]
  · rw [if_neg c, if_neg (by omega)]
theorem cvP_all {ts us : List Int} {i : Nat} : cvP ts us ts.length 0 i = cv ts us i := by
  show ((List.range ts.length).map (cvT ts us i)).sum + (if ts.length ≤ i ∧ i < ts.length + 0 then _ else _) = _
  rw [if_neg (by omega), Int.add_zero]
  rfl
def cvL (ts us : List Int) (n k j : Nat) : List Int := (List.range n).map (cvP ts us k j)
theorem cvL_len {ts us : List Int} {n k j : Nat} : (cvL ts us n k j).length = n := by
  show (List.map _ _).length = n
  rw [List.length_map, List.length_range]
theorem cvL_at {ts us : List Int} {n k j i : Nat} (h : i < n) : (cvL ts us n k j)[i]? = some (cvP ts us k j i) := by
  show (List.map _ _)[i]? = _
  rw [List.getElem?_map, List.getElem?_range h]
  rfl
theorem cvL_set {ts us : List Int} {n k j : Nat} (h : k + j < n) : ((cvL ts us n k j).map V.int).set (k + j) (V.int (cvP ts us k j (k + j) + ts.getD k 0 * us.getD j 0)) = (cvL ts us n k (j + 1)).map V.int := by
  refine List.ext_getElem? fun i => ?_
  rw [List.getElem?_set, List.length_map, cvL_len, List.getElem?_map, List.getElem?_map]
  by_cases e : k + j = i
  · subst e
    rw [if_pos rfl, if_pos h, cvL_at h, ← cvP_step]
    rfl
  · rw [if_neg e]
    by_cases c : i < n
    · rw [cvL_at c, cvL_at c, cvP_else (Ne.symm e)]
    · rw [List.getElem?_eq_none (by rw [cvL_len]; omega), List.getElem?_eq_none (by rw [cvL_len]; omega)]
theorem cvL_next {ts us : List Int} {n k : Nat} : cvL ts us n k us.length = cvL ts us n (k + 1) 0 := List.map_congr_left fun i _ => cvP_next
theorem cvL_zero {ts us : List Int} {n : Nat} : (cvL ts us n 0 0).map V.int = List.replicate n (V.int 0) := by
  refine List.ext_getElem? fun i => ?_
  rw [List.getElem?_map, List.getElem?_replicate]
  by_cases c : i < n
  · rw [cvL_at c, if_pos c, cvP_zero]
    rfl
  · rw [List.getElem?_eq_none (by rw [cvL_len]; omega), if_neg c]
    rfl

theorem cvT_lt {ts us : List Int} {e : Nat} (h1 : TopsB e ts) (h2 : TopsB e us) (i a : Nat) : (cvT ts us i a).natAbs < 2 ^ (e + e) := by
  show (if a ≤ i then ts.getD a 0 * us.getD (i - a) 0 else 0).natAbs < _
  split
  · exact nmul (h1 _) (h2 _)
  · exact Nat.two_pow_pos _
theorem cvP_lt {ts us : List Int} {e : Nat} (h1 : TopsB e ts) (h2 : TopsB e us) {k j i : Nat} (hk : k ≤ 60) : (cvP ts us k j i).natAbs < 2 ^ (e + e + 6) := by
  have a := range_sum_lt (n := k) (h := cvT ts us i) (e := e + e) fun a _ => cvT_lt h1 h2 i a
  have b : (if k ≤ i ∧ i < k + j then ts.getD k 0 * us.getD (i - k) 0 else 0).natAbs < 2 ^ (e + e) := by
    split
    · exact nmul (h1 _) (h2 _)
    · exact Nat.two_pow_pos _
  have c := Int.natAbs_add_le ((List.range k).map (cvT ts us i)).sum (if k ≤ i ∧ i < k + j then ts.getD k 0 * us.getD (i - k) 0 else 0)
  have d : k * 2 ^ (e + e) ≤ 60 * 2 ^ (e + e) := Nat.mul_le_mul_right _ hk
  have f : 2 ^ (e + e + 6) = 64 * 2 ^ (e + e) := by rw [Nat.pow_add]; omega
  show (_ + _ : Int).natAbs < _
  omega
/-- the coefficients of a product -/
def mulF (f g : Nat → Rat) (i : Nat) : Rat := sumR (fun a => f a * g (i - a)) (i + 1)
theorem cv_val {U B : Int} {ts us : List Int} {f g : Nat → Rat} (hf : TopsV U ts f) (hg : TopsV B us g) (zf : ∀ k, ts.length ≤ k → f k = 0) (zg : ∀ k, us.length ≤ k → g k = 0) (i : Nat) : ((cv ts us i : Int) : Rat) = mulF f g i * ((U * B : Int) : Rat) := by
  have e1 : ((cv ts us i : Int) : Rat) = sumR (fun a => (if a ≤ i then f a * g (i - a) else 0) * ((U * B : Int) : Rat)) ts.length := by
    show ((((List.range ts.length).map (cvT ts us i)).sum : Int) : Rat) = _
    rw [range_sum]
    refine sumR_congr fun a _ => ?_
    show (((if a ≤ i then ts.getD a 0 * us.getD (i - a) 0 else 0 : Int)) : Rat) = _
    split
    · rw [Rat.intCast_mul, Rat.intCast_mul, hf.all zf, hg.all zg]
      grind
    · rw [Rat.intCast_zero, Rat.zero_mul]
  rw [e1, sumR_mulr]
  congr 1
  have a1 := sumR_more (f := fun a => if a ≤ i then f a * g (i - a) else 0) (n := ts.length) (i + 1) fun k h1 _ => by
    rw [zf k h1]
    split
    · exact Rat.zero_mul _
    · rfl
  have a2 := sumR_more (f := fun a => if a ≤ i then f a * g (i - a) else 0) (n := i + 1) ts.length fun k h1 _ => if_neg (by omega)
  rw [← a1, Nat.add_comm, a2]
  exact sumR_congr fun a ha => if_pos (by omega)
theorem mulF_out {f g : Nat → Rat} {s s2 : Nat} (zf : ∀ k, s ≤ k → f k = 0) (zg : ∀ k, s2 ≤ k → g k = 0) {i : Nat} (h : s + s2 ≤ i + 1) : mulF f g i = 0 := sumR_zero fun a ha => by
  rcases Nat.lt_or_ge a s with c | c
  · rw [zg (i - a) (by omega), Rat.mul_zero]
  · rw [zf a c, Rat.zero_mul]
/-! ### polynomials on the heap -/
/-- a Poly with the coefficients f 0, f 1, .., of which s count -/
structure PolyV (CP CR : Addr) (H : Hp) (v : V) (s : Nat) (f : Nat → Rat) : Prop where
  ex : ∃ a dx tp ys l, v = .ref a ∧ H a = some (.ins CP dx [("coefficients", .ref tp), ("degree", .int ((s : Int) - 1)), ("lead", l)]) ∧ H tp = some (.tup ys) ∧ ys.length = s ∧ RatsV CR H ys f ∧ RatV CR H l (f (s - 1))
  zero : ∀ k, s ≤ k → f k = 0
  last : 0 < s → f (s - 1) ≠ 0
section
variable {CP CR : Addr} {H H' : Hp} {v : V} {s : Nat} {f : Nat → Rat}
theorem PolyV.same (h : PolyV CP CR H v s f) (k : Same H H') : PolyV CP CR H' v s f := by
  obtain ⟨⟨a, dx, tp, ys, l, e, h1, h2, h3, h4, h5⟩, z, z2⟩ := h
  exact ⟨⟨a, dx, tp, ys, l, e, k _ _ h1, k _ _ h2, h3, h4.same k, h5.same k⟩, z, z2⟩
theorem PolyV.ins (h : PolyV CP CR H v s f) : Ins H v CP := by
  obtain ⟨⟨a, dx, tp, ys, l, e, h1, _⟩, _⟩ := h
  exact ⟨a, dx, _, e, h1⟩
theorem PolyV.to {g : Nat → Rat} (h : PolyV CP CR H v s f) (e : ∀ k, f k = g k) : PolyV CP CR H v s g := (funext e : f = g) ▸ h
/-- the count of the coefficients is told by them -/
theorem size_one {s s' : Nat} (z : ∀ k, s ≤ k → f k = 0) (l : 0 < s → f (s - 1) ≠ 0) (z' : ∀ k, s' ≤ k → f k = 0) (l' : 0 < s' → f (s' - 1) ≠ 0) : s = s' := by
  rcases Nat.lt_trichotomy s s' with h | h | h
  · exact absurd (z (s' - 1) (by omega)) (l' (by omega))
  · exact h
  · exact absurd (z' (s - 1) (by omega)) (l (by omega))
theorem PolyV.stp {fd : Addr} (h : PolyV CP CR H v s f) (F : FeedAt H fd) (k : Stp fd H H') : PolyV CP CR H' v s f := by
  obtain ⟨⟨a, dx, tp, ys, l, e, h1, h2, h3, h4, h5⟩, z, z2⟩ := h
  exact ⟨⟨a, dx, tp, ys, l, e, k.keep _ _ (F.ne h1 fun _ _ _ _ _ _ w => by cases w) h1, k.keep _ _ (F.ne h2 fun _ _ _ _ _ _ w => by cases w) h2, h3, h4.stp F k, h5.stp F k⟩, z, z2⟩
end
/-- a number as a Poly -/
abbrev numF (c : Rat) : Nat → Rat := fun k => if k = 0 then c else 0
/-- a Poly, or a number that means one -/
def OperV (CP CR : Addr) (H : Hp) (v : V) (s : Nat) (f : Nat → Rat) : Prop := PolyV CP CR H v s f ∨ ∃ c, NumV CR H v c ∧ s = (if c = 0 then 0 else 1) ∧ f = numF c
theorem OperV.same {CP CR : Addr} {H H' : Hp} {v : V} {s : Nat} {f : Nat → Rat} (h : OperV CP CR H v s f) (k : Same H H') : OperV CP CR H' v s f := h.imp (fun h => h.same k) fun ⟨c, h, r⟩ => ⟨c, h.same k, r⟩
theorem OperV.kind {CP CR : Addr} {H : Hp} {v : V} {s : Nat} {f : Nat → Rat} (h : OperV CP CR H v s f) : Ins H v CP ∨ ((∃ i, v = .int i) ∨ Ins H v CR) := h.imp (fun h => h.ins) fun ⟨c, h, _⟩ => h.kind
theorem OperV.zero {CP CR : Addr} {H : Hp} {v : V} {s : Nat} {f : Nat → Rat} (h : OperV CP CR H v s f) : ∀ k, s ≤ k → f k = 0 := by
  rcases h with h | ⟨c, h, rfl, rfl⟩
  · exact h.zero
  · intro k hk
    show (if k = 0 then c else 0) = 0
    split
    · rename_i e
      subst e
      split at hk
      · assumption
      · omega
    · rfl
theorem numF_bd {c : Rat} {n m : Nat} (h : Bd n m c) (hm : 0 < m) (k : Nat) : Bd n m (numF c k) := by
  show Bd n m (if k = 0 then c else 0)
  split
  · exact h
  · exact .zero hm
theorem made_but {H G : Hp} {x : Addr} {dx : Addr} {o : HO} (nx : H x = none) (nd : H dx = none) (k : ∀ b u, b ≠ x → upd (upd H dx (.own x)) x o b = some u → G b = some u) : Same H G := fun b u h => by
  have h1 : b ≠ x := fun z => by rw [z, nx] at h; cases h
  have h2 : b ≠ dx := fun z => by rw [z, nd] at h; cases h
  exact k b u h1 (by rw [upd_ne h1, upd_ne h2]; exact h)
theorem rat_ne_nil {C C' d : Addr} : ∀ dx z, ratO C dx z ≠ .ins C' d [] := fun _ _ w => by
  have := (HO.ins.inj w).2.2
  cases this
theorem rat_ne_co {C C' d : Addr} {v : V} {r : List (Str × V)} : ∀ dx z, ratO C dx z ≠ .ins C' d (("coefficients", v) :: r) := fun _ _ w => by
  have h : ("top" : Str) = "coefficients" := congrArg Prod.fst (List.cons.inj (HO.ins.inj w).2.2).1
  exact absurd h (by decide)
/-- no operand of one class is of the other -/
theorem ne_cls {K : PySem.W.Frag} {C D : Addr} (h : PySem.W.kitOne K (.ref C) (.ref D) = some false) : C ≠ D := fun e => by
  rw [e, kit_self] at h
  cases h
end MoL

/-! # A product of two rows of fractions, entry by entry; rows of pairs that change -/
namespace MoL
open PySem PySem.Spec PyProof.Rows L2 MoW
abbrev rvT (f g : Nat → Rat) (i a : Nat) : Rat := if a ≤ i then f a * g (i - a) else 0
/-- coefficient i when k rows and j places of the next are done -/
def rvP (f g : Nat → Rat) (k j i : Nat) : Rat := sumR (rvT f g i) k + (if k ≤ i ∧ i < k + j then f k * g (i - k) else 0)
section
variable {f g : Nat → Rat} {k j i n m : Nat}
theorem rvP_zero : rvP f g 0 0 i = 0 := by
  show (0 : Rat) + _ = 0
  rw [if_neg (by omega)]
  exact Rat.add_zero _
theorem rvP_step : rvP f g k (j + 1) (k + j) = rvP f g k j (k + j) + f k * g j := by
  show _ + (if k ≤ k + j ∧ k + j < k + (j + 1) then _ else _) = _ + (if k ≤ k + j ∧ k + j < k + j then _ else _) + _
  rw [if_pos (by omega), if_neg (by omega), Nat.add_sub_cancel_left, Rat.add_zero]
theorem rvP_else (h : i ≠ k + j) : rvP f g k (j + 1) i = rvP f g k j i := by
  show _ + (if k ≤ i ∧ i < k + (j + 1) then _ else _) = _ + (if k ≤ i ∧ i < k + j then _ else _)
  congr 1
  by_cases c : k ≤ i ∧ i < k + j
  · rw [if_pos c, if_pos (by omega)]
  · rw [if_neg c, if_neg (by omega)]
theorem rvP_next (zg : ∀ k, m ≤ k → g k = 0) : rvP f g k m i = rvP f g (k + 1) 0 i := by
  show sumR (rvT f g i) k + _ = sumR (rvT f g i) k + rvT f g i k + _
  rw [if_neg (show ¬ (k + 1 ≤ i ∧ i < k + 1 + 0) by omega), Rat.add_zero]
  congr 1
  show _ = if k ≤ i then _ else _
  by_cases c : k ≤ i
  · rw [if_pos c]
    by_cases c2 : i < k + m
    · rw [if_pos ⟨c, c2⟩]
    · rw [if_neg (by omega), zg (i - k) (by omega), Rat.mul_zero]
  · rw [if_neg c, if_neg (by omega)]
theorem rvP_all (zf : ∀ k, n ≤ k → f k = 0) : rvP f g n 0 i = mulF f g i := by
  show sumR (rvT f g i) n + (if n ≤ i ∧ i < n + 0 then _ else _) = _
  rw [if_neg (by omega), Rat.add_zero]
  have a1 := sumR_more (f := rvT f g i) (n := n) (i + 1) fun k h1 _ => by
    show (if k ≤ i then f k * g (i - k) else 0) = 0
    rw [zf k h1]
    split
    · exact Rat.zero_mul _
    · rfl
  have a2 := sumR_more (f := rvT f g i) (n := i + 1) n fun k h1 _ => if_neg (by omega)
  rw [← a1, Nat.add_comm, a2]
  exact sumR_congr fun a ha => if_pos (by omega)
end
theorem Prsd.put {H : Hp} {rs : List Addr} {F : Nat → Int × Int} {d : Addr} {qs : List Addr} {o : HO} (h : Prsd H rs F) (hd : H d = some (.lst (qs.map V.ref))) : Prsd (upd H d o) rs F := fun k x hx => by
  have e := h k x hx
  rw [upd_ne fun z => by
    rw [z, hd] at e
    cases qs with
    | nil => cases e
    | cons a qs => cases e]
  exact e
theorem Prsd.set {H : Hp} {r : Addr} {rs : List Addr} {F : Nat → Int × Int} {i : Nat} {x : Int × Int} (h : Prsd H rs F) (hr : H r = some (two x.1 x.2)) : Prsd H (rs.set i r) (fun k => if k = i then x else F k) := fun k y hy => by
  rw [List.getElem?_set] at hy
  dsimp only
  by_cases e : i = k
  · rw [if_pos e] at hy
    rw [if_pos e.symm]
    split at hy
    · cases hy
      exact hr
    · cases hy
  · rw [if_neg e] at hy
    rw [if_neg (Ne.symm e)]
    exact h k y hy
theorem Prsd.to {H : Hp} {rs : List Addr} {F G : Nat → Int × Int} (h : Prsd H rs F) (e : ∀ k, k < rs.length → F k = G k) : Prsd H rs G := fun k r hr => e k (get_lt hr) ▸ h k r hr
theorem PairsAt.to {H : Hp} {v : V} {n : Nat} {F G : Nat → Int × Int} (h : PairsAt H v n F) (e : ∀ k, k < n → F k = G k) : PairsAt H v n G := by
  obtain ⟨a, rs, e1, h1, l, p⟩ := h
  exact ⟨a, rs, e1, h1, l, p.to fun k hk => e k (by omega)⟩
/-- the place of a number from 0 on -/
theorem ix_nat {xs : List V} {i : Nat} (h : i < xs.length) : ixN xs.length (i : Int) = some i := by
  unfold ixN
  rw [if_pos (by omega), if_pos (by omega)]
  congr 1
end MoL

/-! # Common bottoms; the division of rows of fractions; walks with a step below 0 -/
namespace MoL
open PySem PySem.Spec PyProof.Rows L2 MoW
/-! ### common bottoms -/
theorem den_dvd {x : Rat} {p q : Int} (h : x * (q : Rat) = p) : x.den ∣ q.natAbs := by
  have e : x.num * q = p * (x.den : Int) := inj (by
    rw [Rat.intCast_mul, Rat.intCast_mul, ← h, num_is]
    grind)
  have hc : Nat.Coprime x.num.natAbs x.den := x.reduced
  have e2 : x.num.natAbs * q.natAbs = p.natAbs * x.den := by
    have := congrArg Int.natAbs e
    rw [Int.natAbs_mul, Int.natAbs_mul] at this
    simpa using this
  exact hc.symm.dvd_of_dvd_mul_left ⟨p.natAbs, by rw [e2, Nat.mul_comm]⟩
/-- N times z is an integer below 2 ^ e -/
def Cm (N : Int) (e : Nat) (z : Rat) : Prop := ∃ t : Int, z * (N : Rat) = t ∧ t.natAbs < 2 ^ e
section
variable {N M : Int} {e g : Nat} {z y : Rat}
theorem Cm.mono (h : Cm N e z) (l : e ≤ g) : Cm N g z := h.elim fun t h => ⟨t, h.1, nle h.2 l⟩
theorem Cm.den (h : Cm N e z) : z.den ∣ N.natAbs := h.elim fun t h => den_dvd h.1
theorem Cm.bd {m : Nat} (h : Cm N e z) (h0 : N ≠ 0) (hN : N.natAbs < 2 ^ m) : Bd e m z := h.elim fun t h => .of h0 h.1 h.2 hN
theorem Cm.zero : Cm N e 0 := ⟨0, by rw [Rat.zero_mul]; rfl, Nat.two_pow_pos _⟩
theorem Cm.neg (h : Cm N e z) : Cm N e (-z) := h.elim fun t h => ⟨-t, by rw [Rat.intCast_neg, ← h.1]; grind, by rw [Int.natAbs_neg]; exact h.2⟩
theorem Cm.add (h : Cm N e z) (h' : Cm N e y) : Cm N (e + 1) (z + y) := by
  obtain ⟨t, h1, h2⟩ := h
  obtain ⟨u, h3, h4⟩ := h'
  exact ⟨t + u, by rw [Rat.intCast_add, ← h1, ← h3]; grind, nadd h2 h4⟩
theorem Cm.mul (h : Cm N e z) (h' : Cm M g y) : Cm (N * M) (e + g) (z * y) := by
  obtain ⟨t, h1, h2⟩ := h
  obtain ⟨u, h3, h4⟩ := h'
  exact ⟨t * u, by rw [Rat.intCast_mul, Rat.intCast_mul, ← h1, ← h3]; grind, nmul h2 h4⟩
/-- over a bottom that is a multiple -/
theorem Cm.up {c : Int} {k : Nat} (h : Cm N e z) (hc : c.natAbs < 2 ^ k) : Cm (N * c) (e + k) z := by
  obtain ⟨t, h1, h2⟩ := h
  exact ⟨t * c, by rw [Rat.intCast_mul, Rat.intCast_mul, ← h1]; grind, nmul h2 hc⟩
theorem Cm.up' {c : Int} {k : Nat} (h : Cm N e z) (hc : c.natAbs < 2 ^ k) : Cm (c * N) (e + k) z := by rw [Int.mul_comm]; exact h.up hc
end
theorem Cm.sum {N : Int} {e : Nat} {f : Nat → Rat} : ∀ n : Nat, (∀ k, k < n → Cm N e (f k)) → ∃ t : Int, sumR f n * (N : Rat) = t ∧ t.natAbs ≤ n * 2 ^ e
  | 0, _ => ⟨0, by show (0 : Rat) * _ = _; rw [Rat.zero_mul]; rfl, by simp⟩
  | n + 1, h => by
    obtain ⟨t, h1, h2⟩ := Cm.sum n fun k hk => h k (by omega)
    obtain ⟨u, h3, h4⟩ := h n (by omega)
    refine ⟨t + u, ?_, ?_⟩
    · show (sumR f n + f n) * _ = _
      rw [Rat.intCast_add, ← h1, ← h3]
      grind
    · rw [Nat.succ_mul]
      omega
theorem Cm.mulF {N M : Int} {e g : Nat} {f h : Nat → Rat} (hf : ∀ k, Cm N e (f k)) (hh : ∀ k, Cm M g (h k)) {i : Nat} (hi : i < 63) : Cm (N * M) (e + g + 6) (mulF f h i) := by
  obtain ⟨t, h1, h2⟩ := Cm.sum (f := fun a => f a * h (i - a)) (N := N * M) (e := e + g) (i + 1) fun k _ => (hf k).mul (hh _)
  refine ⟨t, h1, ?_⟩
  have : (i + 1) * 2 ^ (e + g) ≤ 63 * 2 ^ (e + g) := Nat.mul_le_mul_right _ hi
  have := Nat.two_pow_pos (e + g)
  rw [Nat.pow_add]
  omega
/-! ### the product, linear in its second row -/
section
variable {g q r : Nat → Rat} {i k m n : Nat}
theorem sumR_one {F : Nat → Rat} {j : Nat} : ∀ {n : Nat}, j < n → (∀ a, a < n → a ≠ j → F a = 0) → sumR F n = F j
  | 0, h, _ => absurd h (Nat.not_lt_zero _)
  | n + 1, h, z => by
    show sumR F n + F n = _
    rcases (by omega : j < n ∨ j = n) with e | e
    · rw [sumR_one e fun a ha => z a (by omega), z n (by omega) (by omega), Rat.add_zero]
    · subst e
      rw [sumR_zero fun a ha => z a (by omega) (by omega), Rat.zero_add]
theorem mulF_add : mulF g (fun i => q i + r i) i = mulF g q i + mulF g r i := by
  show sumR _ _ = sumR _ _ + sumR _ _
  rw [← sumR_add]
  exact sumR_congr fun a _ => by grind
theorem mulF_smul {u : Rat} : mulF g (fun i => u * q i) i = u * mulF g q i := by
  show sumR _ _ = _ * sumR _ _
  rw [← sumR_mul]
  exact sumR_congr fun a _ => by grind
theorem mulF_one {t : Rat} : mulF g (fun i => if i = k then t else 0) i = if k ≤ i then g (i - k) * t else 0 := by
  show sumR _ _ = _
  split
  · rename_i h
    rw [sumR_one (j := i - k) (by omega) fun a ha ne => by show _ * (if _ then _ else _) = _; rw [if_neg (by omega), Rat.mul_zero]]
    show _ * (if _ then _ else _) = _
    rw [if_pos (by omega)]
  · exact sumR_zero fun a ha => by show _ * (if _ then _ else _) = _; rw [if_neg (by omega), Rat.mul_zero]
theorem mulF_next {t u : Rat} : mulF g (fun i => (if i = k then t else 0) + u * q i) i = (if k ≤ i then g (i - k) * t else 0) + u * mulF g q i := by
  rw [mulF_add (q := fun i => if i = k then t else 0) (r := fun i => u * q i), mulF_one, mulF_smul]
/-- quotient and remainder are told by the product -/
theorem div_one {q2 r2 : Nat → Rat} (gm : g m ≠ 0) (gz : ∀ k, m < k → g k = 0) (qz : ∀ k, n ≤ k → q k = 0) (qz2 : ∀ k, n ≤ k → q2 k = 0) (rz : ∀ k, m ≤ k → r k = 0) (rz2 : ∀ k, m ≤ k → r2 k = 0) (h : ∀ k, mulF g q k + r k = mulF g q2 k + r2 k) : (∀ k, q k = q2 k) ∧ ∀ k, r k = r2 k := by
  have main : ∀ d, d ≤ n → ∀ k, n - d ≤ k → q k = q2 k := by
    intro d
    induction d with
    | zero => exact fun _ k hk => by rw [qz k (by omega), qz2 k (by omega)]
    | succ d ih =>
      intro hd k hk
      rcases (by omega : n - d ≤ k ∨ k = n - (d + 1)) with e | e
      · exact ih (by omega) k e
      · have up := ih (by omega)
        have h0 := h (m + k)
        rw [rz _ (by omega), rz2 _ (by omega), Rat.add_zero, Rat.add_zero] at h0
        have h1 : mulF g q (m + k) - mulF g q2 (m + k) = g m * (q k - q2 k) := by
          show sumR _ _ - sumR _ _ = _
          rw [← sumR_sub, sumR_one (j := m) (by omega)]
          · rw [Nat.add_sub_cancel_left]
            grind
          · intro a ha ne
            rcases Nat.lt_or_ge m a with c | c
            · rw [gz a c, Rat.zero_mul, Rat.zero_mul]
              exact Rat.sub_self
            · rw [up (m + k - a) (by omega)]
              grind
        rw [h0] at h1
        have h2 : g m * (q k - q2 k) = 0 := by grind
        rcases Rat.mul_eq_zero.mp h2 with c | c
        · exact absurd c gm
        · grind
  have hq : ∀ k, q k = q2 k := fun k => main n (Nat.le_refl _) k (by omega)
  refine ⟨hq, fun k => ?_⟩
  have h0 := h k
  rw [show q = q2 from funext hq] at h0
  grind
end
/-! ### long division over integers -/
abbrev inF (ts : List Int) : Nat → Rat := fun i => ((ts.getD i 0 : Int) : Rat)
/-- the quotient so far, its last place at K -/
abbrev shF (K : Nat) (qs : List Int) : Nat → Rat := fun i => if K ≤ i then ((qs.getD (i - K) 0 : Int) : Rat) else 0
theorem getD_map {qs : List Int} {u : Int} {i : Nat} : (qs.map (fun q => u * q)).getD i 0 = u * qs.getD i 0 := by
  rw [List.getD_eq_getElem?_getD, List.getD_eq_getElem?_getD, List.getElem?_map]
  cases qs[i]? with
  | none => simp
  | some x => rfl
theorem shF_next {k : Nat} {qs : List Int} {tm up : Int} : shF k (tm :: qs.map (fun q => up * q)) = fun i => (if i = k then (tm : Rat) else 0) + (up : Rat) * shF (k + 1) qs i := funext fun i => by
  show (if k ≤ i then (((tm :: qs.map (fun q => up * q)).getD (i - k) 0 : Int) : Rat) else 0) = _ + _ * (if k + 1 ≤ i then _ else _)
  rcases Nat.lt_trichotomy i k with h | h | h
  · rw [if_neg (by omega), if_neg (by omega), if_neg (by omega), Rat.mul_zero, Rat.add_zero]
  · subst h
    rw [if_pos (Nat.le_refl _), if_pos rfl, if_neg (by omega), Nat.sub_self, Rat.mul_zero, Rat.add_zero]
    rfl
  · obtain ⟨j, rfl⟩ : ∃ j, i = k + 1 + j := ⟨i - (k + 1), by omega⟩
    rw [if_pos (by omega), if_neg (by omega), if_pos (by omega), show k + 1 + j - k = j + 1 by omega, Nat.add_sub_cancel_left, Rat.zero_add, ← Rat.intCast_mul, ← getD_map]
    rfl
theorem ld_step {ts ds rs rs' qs : List Int} {sc up tm : Int} {k : Nat} (h : ∀ i, (sc : Rat) * inF ts i = mulF (inF ds) (shF (k + 1) qs) i + inF rs i)
    (hr : ∀ i, rs'.getD i 0 = up * rs.getD i 0 - (if k ≤ i then tm * ds.getD (i - k) 0 else 0)) (i : Nat) : ((sc * up : Int) : Rat) * inF ts i = mulF (inF ds) (shF k (tm :: qs.map (fun q => up * q))) i + inF rs' i := by
  have h1 := h i
  rw [shF_next, mulF_next, show inF rs' i = (up : Rat) * inF rs i - (if k ≤ i then inF ds (i - k) * (tm : Rat) else 0) by
    show ((rs'.getD i 0 : Int) : Rat) = _
    rw [hr i, Rat.intCast_sub, Rat.intCast_mul]
    congr 1
    split
    · rw [Rat.intCast_mul, Rat.mul_comm]
    · rfl, Rat.intCast_mul]
  generalize (if k ≤ i then inF ds (i - k) * (tm : Rat) else 0) = z at *
  grind
theorem exact_div {x g : Int} (h : g ∣ x) (hg : g ≠ 0) : x.fdiv g * g = x := by
  obtain ⟨u, rfl⟩ := h
  rw [Int.mul_fdiv_cancel_left _ hg, Int.mul_comm]
theorem fdiv_le {x g : Int} (h : g ∣ x) (hg : g ≠ 0) : (x.fdiv g).natAbs ≤ x.natAbs := by
  have := congrArg Int.natAbs (exact_div h hg)
  rw [Int.natAbs_mul] at this
  rw [← this]
  exact Nat.le_mul_of_pos_right _ (by omega)
theorem cut_to (xs : List V) (s : Nat) : cutV xs none (some (s : Int)) = xs.take s := by
  unfold cutV
  have e1 : HT.sIx xs.length 0 none = 0 := rfl
  have e2 : HT.sIx xs.length xs.length (some (s : Int)) = min s xs.length := by
    show (if (s : Int) < 0 then ((s : Int) + (xs.length : Int)).toNat else min (s : Int).toNat xs.length) = _
    rw [if_neg (by omega)]
    omega
  rw [e1, e2, Nat.sub_zero, List.drop_zero]
  rcases Nat.le_total s xs.length with h | h
  · rw [Nat.min_eq_left h]
  · rw [Nat.min_eq_right h, List.take_length, List.take_of_length_le h]
end MoL

/-! # Operators of a class that has no mirrored def -/
namespace MoW
open PySem PySem.W PyProof PyProof.Rows
section
variable {prog : Program} {w : World} {A : Around} {E : Value → Shared → Prop} {s : Shared} {K : Frag} {x y C D L f g fr : Addr} {ox oy : Obj} {od od' : Option Obj} {h₀ : Heap} {m : Str → Option Value}
theorem bin_own_two0 {op : Operator} {Q : Value → Shared → Prop} {g' : Addr} (X : K.In s.heap) (I : W.InstAt s.heap x ox C od) (J : W.InstAt s.heap y oy D od') (hc : selfFirst K C = true) (hd : selfFirst K D = true) (hne : C ≠ D)
    (hn : subIn K (.ref D) (.ref C) = some false) (h1 : findIn K (.ref C) (PySem.dunder op.info.2) = some (some (.ref f))) (hf : isFn K (.ref f) = true) (h1r : findIn K (.ref C) (dunderR op.info.2) = some none)
    (h2 : findIn K (.ref D) (PySem.dunder op.info.2) = some (some (.ref g'))) (h2r : findIn K (.ref D) (dunderR op.info.2) = some (some (.ref g)))
    (a : wpAny (model prog w) A (call (.ref f) [.ref x, .ref y]) (W.CmpBack Q) E s) : wpAny (model prog w) A (binaryOp op (.ref x) (.ref y)) Q E s := by
  obtain ⟨cd, rest, hcd, hm⟩ := mro_first (K := K) (C := C) (cd := default) hc
  obtain ⟨dd, rest2, hdd, hm2⟩ := mro_first (K := K) (C := D) (cd := default) hd
  unfold binaryOp
  refine wpAny_holding (wpAny_bind ?_)
  unfold binaryOp1
  refine wpAny_bind (I.type.here (wpAny_bind (J.type.here (wpAny_bind ((fills_K X hcd hm h1).here ?_)))))
  have ne : (Value.ref C == Value.ref D) = false := by simpa using hne
  simp only [ne, Bool.false_eq_true, if_false]
  refine wpAny_bind ((fills_K X hdd hm2 h2).here ?_)
  simp only [Bool.and_self, if_true]
  refine wpAny_bind ((looks_subIn X hn).here ?_)
  simp only [Bool.false_eq_true, if_false, pure_bind, Bool.not_false, Bool.and_self, if_true]
  have py : ∀ {Z p q : Addr}, findIn K (.ref Z) (PySem.dunder op.info.2) = some (some (.ref p)) → findIn K (.ref Z) (dunderR op.info.2) = some (some (.ref q)) → Looks (model prog w) s.heap (numberSlotInPython (.ref Z) op.info.2) true := by
    intro Z p q z1 z2
    unfold numberSlotInPython
    refine (looks_findIn X z1).andThen (Looks.andThen (a := true) .now ?_)
    exact (looks_findIn X z2).andThen (Looks.andThen (a := true) .now .now)
  have py0 : ∀ {Z p : Addr}, findIn K (.ref Z) (PySem.dunder op.info.2) = some (some (.ref p)) → findIn K (.ref Z) (dunderR op.info.2) = some none → Looks (model prog w) s.heap (numberSlotInPython (.ref Z) op.info.2) true := by
    intro Z p z1 z2
    unfold numberSlotInPython
    refine (looks_findIn X z1).andThen (Looks.andThen (a := true) .now ?_)
    exact (looks_findIn X z2).andThen (Looks.andThen (a := false) .now .now)
  refine wpAny_bind ((py0 h1 h1r).here ?_)
  simp only [if_true]
  refine wpAny_bind ((py h2 h2r).here ?_)
  simp only [Bool.not_true, Bool.false_eq_true, if_false]
  refine wpAny_bind (m := tryMethod (.ref x) _ (.ref y)) ?_
  unfold tryMethod
  refine wpAny_bind (special_fn X I h1 (beq_iff_eq.mp hf) (wpAny_mono a (fun v s' hv => ?_) fun _ _ e => e))
  cases v <;> first | exact hv.elim | exact wpAny_pure (wpAny_pure (wpAny_pure hv))
end
end MoW
namespace MoL
open PySem PySem.Spec PyProof.Rows L2 MoW LamX
section
variable {X : Cx} {CX CX' : CXT} {k k' : Nat} {C D f f' g g' : Addr} {fd : FuncData} {ps : List Str} {sp : Sp} {E : XK} {pre : List V → Hp → Prop}
/-- x op y, two classes: x's own def answers, x's class has no mirrored one -/
theorem op_two0 {op : Operator} (c : OwnC X.K C) (d : OwnC X.K D) (ne : C ≠ D) (sub : PySem.W.subIn X.K (.ref D) (.ref C) = some false) (m : Meth X.K C (PySem.dunder op.info.2) f) (no : PySem.W.findIn X.K (.ref C) (dunderR op.info.2) = some none) (m2 : Meth X.K D (PySem.dunder op.info.2) g')
    (m2r : Meth X.K D (dunderR op.info.2) g) (run : FnOk X.prog X.w X.K X.mg X.base CX k f fd ps sp) (hr : Room k X.A)
    (hb : Binds X.K fd ps []) (hx : Passes CX X E) : OpR X (binaryOp op) (fun x y H Q => Ins H x C ∧ Ins H y D ∧ sp [x, y] H Q E) := by
  intro pins s σ H x y v u Q I rx ry h
  obtain ⟨⟨a, dx, fs, rfl, ha⟩, ⟨b, dy, gs, rfl, hb'⟩, hs⟩ := h
  cases (show v = Value.ref a from rx)
  cases (show u = Value.ref b from ry)
  obtain ⟨od, J⟩ := ins_at I ha
  obtain ⟨od', J'⟩ := ins_at I hb'
  exact bin_own_two0 I.kIn J J' c.first d.first ne sub m.at_ m.fn no m2.at_ m2r.at_ (thn (run_fn (us := [.ref a, .ref b]) (vs := [.ref a, .ref b]) run hr hb .nil hx I (.cons rfl (.cons rfl .nil)) hs) fun v s' q => ep_back q)
theorem op_bin_own0 {op : Operator} {id : String} (h1 : Slot "int" (dunderR op.info.2) id) (hfi : fillsNumberSlot (.type "int") op.info.2 = pure true) (c : OwnC X.K C)
    (m : Meth X.K C (PySem.dunder op.info.2) f) (no : PySem.W.findIn X.K (.ref C) (dunderR op.info.2) = some none) (F : FnOk X.prog X.w X.K X.mg X.base CX k f fd ps sp)
    (hr : Room k X.A) (hb : Binds X.K fd ps []) (hx : Passes CX X E) : OpR X (binaryOp op) (rOwn C sp E) := by
  intro pins s σ H x y v u Q I rx ry h
  obtain ⟨⟨a, dx, fs, rfl, ha⟩, hy, hs⟩ := h
  cases (show v = Value.ref a from rx)
  obtain ⟨od, J⟩ := ins_at I ha
  obtain ⟨mm, hF⟩ := I.fr
  have hrun : wpAny (model X.prog X.w) X.A (call (.ref f) [.ref a, u]) (PySem.W.CmpBack (EP X pins σ Q)) X.xe s :=
    thn (run_fn (us := [.ref a, u]) (vs := [.ref a, y]) F hr hb .nil hx I (.cons rfl (.cons ry .nil)) hs) fun v s' q => ep_back q
  rcases hy with ⟨i, rfl⟩ | ⟨b, dy, gs, rfl, hb'⟩
  · obtain ⟨t, rfl⟩ := (show ∃ t, u = Value.int i t from ry)
    exact bin_own_int0 (op := op) hF I.ok.mod.kin J c.first c.ic h1 hfi m.at_ m.fn no hrun
  · cases (show u = Value.ref b from ry)
    obtain ⟨od', J'⟩ := ins_at I hb'
    exact PySem.W.binop_K (op := op) hF I.ok.mod.kin J J'.type c.first m.at_ m.fn hrun
theorem op_floordiv_own0 (c : OwnC X.K C) (m : Meth X.K C "__floordiv__" f) (no : PySem.W.findIn X.K (.ref C) "__rfloordiv__" = some none) (run : FnOk X.prog X.w X.K X.mg X.base CX k f fd ps sp) (hr : Room k X.A) (hb : Binds X.K fd ps []) (hx : Passes CX X E) : OpR X (binaryOp .FloorDiv) (rOwn C sp E) :=
  op_bin_own0 (op := .FloorDiv) PySem.F.slot_int_rfloordiv PySem.F.fills_int_floordiv c m no run hr hb hx
theorem op_mod_own0 (c : OwnC X.K C) (m : Meth X.K C "__mod__" f) (no : PySem.W.findIn X.K (.ref C) "__rmod__" = some none) (run : FnOk X.prog X.w X.K X.mg X.base CX k f fd ps sp) (hr : Room k X.A) (hb : Binds X.K fd ps []) (hx : Passes CX X E) : OpR X (binaryOp .Mod) (rOwn C sp E) :=
  op_bin_own0 (op := .Mod) PySem.F.slot_int_rmod PySem.F.fills_int_mod c m no run hr hb hx
end
end MoL

/-! # A list from its end: xs[::-1] -/
namespace MoL
open PySem PySem.Spec PyProof.Rows L2 MoW LamX
section
variable {X : Cx} {e : Expr} {te : TE} {lo hi st : Option Expr} {tl th ts : TO} {pos p2 : Pos}
/-- xs[lo:hi:step] as lo, hi and step are read -/
def tSl3 (r : V → Option Int → Option Int → Option Int → Hp → VK → Prop) (te : TE) (tl th ts : TO) : TE := fun σ H Q => te σ H fun x H1 => tl σ H1 fun l H2 => th σ H2 fun u H3 => ts σ H3 fun t H4 => r x l u t H4 Q
/-- a list read from its end: a new list -/
def rRev (K : PySem.W.Frag) : V → Option Int → Option Int → Option Int → Hp → VK → Prop := fun x lo hi t H Q => ∃ a xs, x = .ref a ∧ lo = none ∧ hi = none ∧ t = some (-1) ∧ SqL K H a xs ∧ ∀ p, H p = none → Q (.ref p) (upd H p (.lst xs.reverse))
theorem pe_rev {st : Expr} (he : PE X e te) (hl : PO X none tl) (hu : PO X none th) (ht : PO X (some st) ts) : PE X (.Subscript e (.Slice none none (some st) p2) pos) (tSl3 (rRev X.K) te tl th ts) := by
  refine ⟨fun pins s σ H Q I h => ?_⟩
  refine Subscript_ (thn (he.run pins s σ H _ I h) fun v s1 ⟨x, H1, I1, r1, q1⟩ => ?_)
  refine wpAny_Slice (thn (hl.run pins s1 σ H1 _ I1 q1) fun vl s2 ⟨l, H2, I2, pl, q2⟩ => thn (hu.run pins s2 σ H2 _ I2 q2) fun vu s3 ⟨u, H3, I3, pu, q3⟩ => thn (ht.run pins s3 σ H3 _ I3 q3) fun vt s4 ⟨t, H4, I4, pt, q4⟩ => ?_)
  have I5 : Inv X pins σ H4 { s4 with heap := s4.heap.push { cls := .type "slice", data := .fields #[vl, vu, vt] } } := I4.kept (t' := s4.toks) fun b ob q => Heap.get?_push_of_some _ q
  obtain ⟨a, xs, rfl, rfl, rfl, rfl, hx, q⟩ := q4
  cases r1
  obtain ⟨its, r, hlist, hz⟩ := I5.list hx
  have hlen := r.length
  have hg : wpAny (model X.prog X.w) X.A (getItem (.ref a) (.ref s4.heap.objs.size)) (EP X pins σ Q) X.xe { s4 with heap := s4.heap.push { cls := .type "slice", data := .fields #[vl, vu, vt] } } := by
    refine wpAny_getItem_list_slice hlist.isList (Heap.IsSliceOf.new ..) pl pu pt (by simp) ?_ (by rw [List.size_toArray] <;> omega)
    rw [PySem.W.krv_pick]
    refine ⟨.ref _, _, I5.laid (t' := s4.toks) (o := .lst xs.reverse) (fun b ob q => Heap.get?_push_of_some _ q) (Nat.le_refl _) ?_, rfl, q _ (I5.hok.fresh (Nat.le_refl _))⟩
    exact ⟨by rw [List.length_reverse]; exact hz, _, 0, r.reverse, Heap.get?_push_size _ rfl⟩
  show wpAny (model X.prog X.w) X.A (subscriptTail e (.Slice none none (some st) p2) (.ref a) (.ref s4.heap.objs.size)) (EP X pins σ Q) X.xe { s4 with heap := s4.heap.push { cls := .type "slice", data := .fields #[vl, vu, vt] } }
  exact tail_any hlist.isList.typeIs slot_list_getitem.lookup hg (by with_unfolding_all rfl)
end
end MoL

/-! # Calling an instance -/
namespace MoL
open PySem PySem.Spec PyProof.Rows L2 MoW
theorem call_o {K : PySem.W.Frag} {C f : Addr} {x q : Str} {st : Stmt} {fd : FuncData} (m : Meth K C "__call__" f) (F : Fun K x q st f fd) : StX.CallO K C f := ⟨m.at_, m.fn, by
  obtain ⟨oc, od, kV, doc, pm, an, cdv, ct, osl, e, lk, hc⟩ := F.ex
  subst e
  unfold PySem.W.fnIn
  rw [lk]⟩
/-- f(e, ..), f gives an instance of C whose object is tracked; the reading names no context -/
def tCallI (C : Addr) (sp : Sp) (E : XK) (tf : TE) (t : TA) : TE := fun σ H Q => tf σ H fun y H1 => ∃ a, y = V.ref a ∧ t σ H1 fun vs H2 => (∃ dx fs, H2 a = some (.ins C dx fs)) ∧ sp (V.ref a :: vs) H2 Q E
section
variable {X : Cx} {CX : CXT} {k : Nat} {g C : Addr} {sp : Sp} {E : XK} {e fe : Expr} {es : List Expr} {tf : TE} {t : TA} {pos : Pos}
theorem pe_callI (hf : PE X fe tf) (c : StX.CallO X.K C g) (F : FnR X.prog X.w X.K X.mg X.base CX k g sp) (hr : Room k X.A) (hx : Passes CX X E) (ha : PA X (e :: es) t)
    (ht : eval (.Call fe (e :: es) [] pos) X.env = (do callWith pos (← eval fe X.env) [] (backTo pos (starEach (e :: es) X.env)) (backToKw pos (keywordEach [] X.env))) := by rfl)
    (he : starEach (e :: es) X.env = (false, eval e X.env) :: starEach es X.env := by rfl) (hpl : (backTo pos (starEach es X.env)).any (·.1) = false := by rfl) : PE X (.Call fe (e :: es) [] pos) (tCallI C sp E tf t) := by
  refine ⟨fun pins s σ H Q I h => ?_⟩
  refine Call_ (thn (hf.run pins s σ H _ I h) fun u s1 ⟨y, H1, I1, ry, a, ey, q⟩ => ?_) ht
  subst ey
  obtain rfl : u = Value.ref a := ry
  refine StX.callO_with (thn (ha.run pos pins s1 σ H1 _ I1 q) fun us s2 ⟨vs, H2, I2, r, hi, q2⟩ => ?_) he hpl
  have hi : StX.InsC X H2 a C := .inr hi
  obtain ⟨ox, od, J, hd⟩ := StX.insC_at I2 hi
  exact ⟨⟨C, ox, od, J, hd⟩, StX.run_callO c F hr hx I2 hi r q2⟩
end
end MoL

/-! # Methods called in a try's body, methods called with keywords, slices with a step -/
namespace MoL
open PySem PySem.Spec PyProof.Rows L2 MoW
section
variable {X : Cx} {CX : CXT} {k : Nat} {f C : Addr} {fd : FuncData} {ps : List Str} {sp : Sp} {E : L2.St → XK} {m : Str} {pos apos : Pos} {e o : Expr} {es : List Expr} {ta : TE} {t : TA}
/-- o.m(..), what is raised is wished for at the caller's slots -/
def tMethT (C : Addr) (m : Str) (sp : Sp) (E : L2.St → XK) (ta : TE) (t : TA) : TE := fun σ H Q => ta σ H fun x H1 => ∃ a dx fs, x = .ref a ∧ H1 a = some (.ins C dx fs) ∧ fs.lookup m = none ∧
  t σ H1 fun vs H2 => sp (x :: vs) H2 Q (E σ)
theorem pe_methT {pl : Sem Bool} (he : PE X o ta) (c : Cls X.K C) (hm : Meth X.K C m f) (F : FnOk X.prog X.w X.K X.mg X.base CX k f fd ps sp) (hr : Room k X.A) (hb : Binds X.K fd ps []) (hx : ∀ σ, PassesAt CX X σ (E σ)) (ha : PA X (e :: es) t)
    (hst : starEach (e :: es) X.env = (false, eval e X.env) :: starEach es X.env := by rfl) (hpl : (backTo pos (starEach es X.env)).any (·.1) = false := by rfl)
    (ht : eval (.Call (.Attribute o m apos) (e :: es) [] pos) X.env = (do
      let ov ← eval o X.env
      standAt apos.atName
      let (f, first) ← holding [ov] (getMethod ov m pl)
      callWith pos f first (backTo pos (starEach (e :: es) X.env)) (backToKw pos (keywordEach [] X.env))) := by rfl) :
    PE X (.Call (.Attribute o m apos) (e :: es) [] pos) (tMethT C m sp E ta t) := by
  refine ⟨fun pins s σ H Q I h => ?_⟩
  refine PySem.W.methodCall_KW (pl := pl) (thn (he.run pins s σ H _ I h) fun u s1 ⟨x, H1, I1, rx, a, dx, fs, ex, ea, l, q⟩ => ?_) ht
  subst ex
  obtain rfl : u = Value.ref a := rx
  refine getmeth_ok I1 ea c hm l ?_
  refine PySem.W.callWith_K (first := [.ref a]) (h₀ := X.base) I.ok.mod.kin hm.kp (thn (ha.run pos pins s1 σ H1 _ I1 q) fun us s2 ⟨vs, H2, I2, r, q2⟩ => ⟨I2.kIn, ?_⟩) hst hpl
  exact run_fnS (us := .ref a :: us) (vs := .ref a :: vs) F hr hb (hx σ) I2 (.cons rfl r) q2
end
section
variable {X : Cx} {CX : CXT} {k : Nat} {f C : Addr} {fd : FuncData} {ps ks : List Str} {sp : Sp} {E : XK} {m : Str} {pos apos : Pos} {o : Expr} {kws : List Keyword} {ta : TE} {tk : TA} {g : List Value → List Value → List Value} {gV : List V → List V → List V}
/-- o.m(k = v, ..) -/
def tMethK (C : Addr) (m : Str) (n : Nat) (sp : Sp) (gV : List V → List V → List V) (E : XK) (ta : TE) (tk : TA) : TE := fun σ H Q => ta σ H fun x H1 => ∃ a dx fs, x = .ref a ∧ H1 a = some (.ins C dx fs) ∧ fs.lookup m = none ∧
  tk σ H1 fun zs H2 => zs.length = n ∧ sp (gV [x] zs) H2 Q E
theorem pe_methK {pl : Sem Bool} (he : PE X o ta) (c : Cls X.K C) (hm : Meth X.K C m f) (F : FnOk X.prog X.w X.K X.mg X.base CX k f fd ps sp) (hr : Room k X.A) (hb : KBn X.K fd ps 1 ks g gV) (hx : Passes CX X E) (hkw : PK X kws tk)
    (hall : (backToKw pos (keywordEach kws X.env)).all (·.1.isSome) = true := by rfl) (hks : (backToKw pos (keywordEach kws X.env)).filterMap (·.1) = ks := by rfl)
    (hpl : ((backTo pos (starEach [] X.env)).any (·.1) || (backToKw pos (keywordEach kws X.env)).any (·.1.isNone)) = false := by rfl)
    (ht : eval (.Call (.Attribute o m apos) [] kws pos) X.env = (do
      let ov ← eval o X.env
      standAt apos.atName
      let (f, first) ← holding [ov] (getMethod ov m pl)
      callWith pos f first (backTo pos (starEach [] X.env)) (backToKw pos (keywordEach kws X.env))) := by rfl) :
    PE X (.Call (.Attribute o m apos) [] kws pos) (tMethK C m ks.length sp gV E ta tk) := by
  refine ⟨fun pins s σ H Q I h => ?_⟩
  refine PySem.W.methodCall_KW (pl := pl) (thn (he.run pins s σ H _ I h) fun u s1 ⟨x, H1, I1, rx, a, dx, fs, ex, ea, l, q⟩ => ?_) ht
  subst ex
  obtain rfl : u = Value.ref a := rx
  refine getmeth_ok I1 ea c hm l ?_
  refine PySem.W.callWith_KW0 (first := [.ref a]) (h₀ := X.base) I.ok.mod.kin hm.kp hall ?_ hpl
  refine thn (hkw.run pos pins s1 σ H1 _ I1 q) fun ws s2 ⟨zs, H2, I2, rz, l2, q2⟩ => ⟨I2.kIn, ?_⟩
  rw [hks]
  exact run_fnN (us := [.ref a]) (vs := [.ref a]) F hr hb hx I2 (.cons rfl .nil) rz rfl l2 q2
end
/-! ### xs[lo:hi:step] -/
/-- the items that a slice takes -/
def pickV (xs : List V) (lo hi st : Option Int) : List V := (sliceRange (sliceBounds lo hi st xs.length).1 (sliceBounds lo hi st xs.length).2.1 (sliceBounds lo hi st xs.length).2.2).filterMap fun k => xs[k]?
theorem pair_get {α β : Type} {F : α → β → Prop} : ∀ {l₁ : List α} {l₂ : List β} (k : Nat), Paired F l₁ l₂ → (l₁[k]? = none ∧ l₂[k]? = none) ∨ ∃ a b, l₁[k]? = some a ∧ l₂[k]? = some b ∧ F a b
  | _, _, k, .nil => .inl ⟨by simp, by simp⟩
  | _, _, 0, .cons h _ => .inr ⟨_, _, rfl, rfl, h⟩
  | _, _, k + 1, .cons _ h => by
    rcases pair_get k h with ⟨a, b⟩ | ⟨a, b, e1, e2, f⟩
    · exact .inl ⟨by simpa using a, by simpa using b⟩
    · exact .inr ⟨a, b, by simpa using e1, by simpa using e2, f⟩
theorem pair_pick {α β : Type} {F : α → β → Prop} {l₁ : List α} {l₂ : List β} (h : Paired F l₁ l₂) : ∀ ks : List Nat, Paired F (ks.filterMap fun k => l₁[k]?) (ks.filterMap fun k => l₂[k]?)
  | [] => .nil
  | k :: ks => by
    rcases pair_get k h with ⟨a, b⟩ | ⟨a, b, e1, e2, f⟩
    · rw [List.filterMap_cons_none a, List.filterMap_cons_none b]
      exact pair_pick h ks
    · rw [List.filterMap_cons_some e1, List.filterMap_cons_some e2]
      exact .cons f (pair_pick h ks)
section
variable {X : Cx} {e : Expr} {te : TE} {lo hi : Option Expr} {tl th ts : TO} {pos p2 : Pos}
def rStep (K : PySem.W.Frag) : V → Option Int → Option Int → Option Int → Hp → VK → Prop := fun x lo hi t H Q => ∃ a xs, x = .ref a ∧ t ≠ some 0 ∧ SqL K H a xs ∧ (pickV xs lo hi t).length ≤ sizeLine ∧ ∀ p, H p = none → Q (.ref p) (upd H p (.lst (pickV xs lo hi t)))
theorem pe_step {st : Expr} (he : PE X e te) (hl : PO X lo tl) (hu : PO X hi th) (ht : PO X (some st) ts) : PE X (.Subscript e (.Slice lo hi (some st) p2) pos) (tSl3 (rStep X.K) te tl th ts) := by
  refine ⟨fun pins s σ H Q I h => ?_⟩
  refine Subscript_ (thn (he.run pins s σ H _ I h) fun v s1 ⟨x, H1, I1, r1, q1⟩ => ?_)
  refine wpAny_Slice (thn (hl.run pins s1 σ H1 _ I1 q1) fun vl s2 ⟨l, H2, I2, pl, q2⟩ => thn (hu.run pins s2 σ H2 _ I2 q2) fun vu s3 ⟨u, H3, I3, pu, q3⟩ => thn (ht.run pins s3 σ H3 _ I3 q3) fun vt s4 ⟨t, H4, I4, pt, q4⟩ => ?_)
  have I5 : Inv X pins σ H4 { s4 with heap := s4.heap.push { cls := .type "slice", data := .fields #[vl, vu, vt] } } := I4.kept (t' := s4.toks) fun b ob q => Heap.get?_push_of_some _ q
  obtain ⟨a, xs, rfl, h0, hx, hsz, q⟩ := q4
  cases r1
  obtain ⟨its, r, hlist, hz⟩ := I5.list hx
  have hlen := r.length
  have hg : wpAny (model X.prog X.w) X.A (getItem (.ref a) (.ref s4.heap.objs.size)) (EP X pins σ Q) X.xe { s4 with heap := s4.heap.push { cls := .type "slice", data := .fields #[vl, vu, vt] } } := by
    refine wpAny_getItem_list_slice hlist.isList (Heap.IsSliceOf.new ..) pl pu pt h0 ?_ (by rw [List.size_toArray] <;> omega)
    have rp : Vals (pickV xs l u t) ((sliceRange (sliceBounds l u t its.length).1 (sliceBounds l u t its.length).2.1 (sliceBounds l u t its.length).2.2).filterMap fun k => its[k]?) := by
      unfold pickV
      rw [hlen]
      exact pair_pick r _
    have ep : slicePick its.toArray l u t = ((sliceRange (sliceBounds l u t its.length).1 (sliceBounds l u t its.length).2.1 (sliceBounds l u t its.length).2.2).filterMap fun k => its[k]?).toArray := by
      unfold slicePick
      simp only [List.size_toArray, List.getElem?_toArray]
    rw [ep]
    refine ⟨.ref _, _, I5.laid (t' := s4.toks) (o := .lst (pickV xs l u t)) (fun b ob q => Heap.get?_push_of_some _ q) (Nat.le_refl _) ?_, rfl, q _ (I5.hok.fresh (Nat.le_refl _))⟩
    exact ⟨hsz, _, 0, rp, Heap.get?_push_size _ rfl⟩
  show wpAny (model X.prog X.w) X.A (subscriptTail e (.Slice lo hi (some st) p2) (.ref a) (.ref s4.heap.objs.size)) (EP X pins σ Q) X.xe { s4 with heap := s4.heap.push { cls := .type "slice", data := .fields #[vl, vu, vt] } }
  exact tail_any hlist.isList.typeIs slot_list_getitem.lookup hg (by with_unfolding_all rfl)
end
end MoL

/-! # == by an own __eq__ that may answer False: tuples, != of instances, != of lists -/
namespace MoB
open PySem PySem.SeqAt
open AutoSeq1 (wpAny_loadPart')
open MeetsSeq MeetsSeq2 MeetsSeq3 SeqRoads2
section
variable {prog : Program} {w : World} {A : Around} {R : Result → Shared → Prop}
/-- two tuples, item by item: f i is what the i-th comparison gives -/
theorem tuple_eqB (l b : Addr) (items items2 : Array Value) (n n2 : Nat) (dd dd2 : Option Addr) (sl sl2 : Array (Option Value)) (f : Nat → Bool) (I : Nat → Shared → Prop)
    (turn : ∀ i (h1 : i < items.size) (h2 : i < items2.size) s, I i s → wpAny (model prog w) A.in1 (eqBool items[i] items2[i]) (fun r s' => r = f i ∧ I (i + 1) s') (fun e s' => R (.error e) s') s)
    (fin : ∀ i s, I i s → R (.ok (.ret (.bool ((List.range (min items.size items2.size)).all f && items.size == items2.size)))) s) {s : Shared} (hl1 : s.heap.get? l = some { cls := .type "tuple", dict := dd, data := .seq items n, slots := sl }) (hb1 : s.heap.get? b = some { cls := .type "tuple", dict := dd2, data := .seq items2 n2, slots := sl2 }) (h : I 0 s) :
    wpAny (model prog w) A.in1 (Builtin.«tuple.__eq__» ⟨[.ref l, .ref b], []⟩) (GQ.FinOf prog w A R) (fun e s' => R (.error e) s') s := by
  have f2 := AutoSeq1.sub_tuple_tuple
  have hZ : (items.toList.zip items2.toList).length = min items.size items2.size := by simp
  have h0 := h
  obtain ⟨hp, g, d, tk, os⟩ := s
  wp_walk using wpAny_loadPart' hl1, wpAny_loadPart' hb1, wpAny_forIn_list _ (fun rest b s' => b.1 = none ∧ ∃ i, rest = (items.toList.zip items2.toList).drop i ∧ (List.range (min items.size items2.size)).all f = ((List.range (min items.size items2.size)).drop i).all f ∧ I i s') _
  case turn =>
    rintro ⟨y, x⟩ rest b s' ⟨hb', i, hz, hR, hI⟩
    have hlt : i < (items.toList.zip items2.toList).length := by
      rcases Nat.lt_or_ge i (items.toList.zip items2.toList).length with h' | h'
      · exact h'
      · rw [List.drop_of_length_le h'] at hz; cases hz
    have hm : i < min items.size items2.size := hZ ▸ hlt
    have h1 : i < items.size := Nat.lt_of_lt_of_le hm (Nat.min_le_left _ _)
    have h2 : i < items2.size := Nat.lt_of_lt_of_le hm (Nat.min_le_right _ _)
    rw [List.drop_eq_getElem_cons hlt] at hz
    injection hz with hyx hrest
    have hy : y = items[i] := by have := congrArg Prod.fst hyx; simpa using this
    have hx : x = items2[i] := by have := congrArg Prod.snd hyx; simpa using this
    subst hy hx
    have hd : (List.range (min items.size items2.size)).drop i = i :: (List.range (min items.size items2.size)).drop (i + 1) := by simp [List.drop_eq_getElem_cons, hm]
    rw [hd, List.all_cons] at hR
    refine wpAny_bind (wpAny_mono (turn i h1 h2 s' hI) (fun r s2 q2 => ?_) fun _ _ x => x)
    obtain ⟨hr, q2⟩ := q2
    subst hr
    have hfin := fin _ _ q2
    cases hy : f i with
    | true =>
      rw [hy] at hR
      wp_walk
      exact ⟨rfl, i + 1, hrest, by simpa using hR, q2⟩
    | false =>
      rw [hy] at hR
      have e0 : (List.range (min items.size items2.size)).all f = false := by simpa using hR
      rw [e0] at hfin
      wp_walk
      simpa using hfin
  case fin =>
    rintro ⟨b1, b2⟩ s' ⟨hb', i, hz, hR, hI⟩
    simp only at hb'
    subst hb'
    have hge : min items.size items2.size ≤ i := by
      rcases Nat.lt_or_ge i (items.toList.zip items2.toList).length with h' | h'
      · rw [List.drop_eq_getElem_cons h'] at hz; cases hz
      · exact hZ ▸ h'
    rw [List.drop_of_length_le (by simpa using hge)] at hR
    have hfin := fin _ _ hI
    rw [hR] at hfin
    wp_walk
    simpa [Builtin.Tuple.tupleCompareSizes] using hfin
  case h =>
    exact ⟨rfl, 0, rfl, rfl, h0⟩
end
section
variable {prog : Program} {w : World} {A : Around} {E : Value → Shared → Prop} {s : Shared}
theorem rc_tupB {l b : Addr} {items items2 : Array Value} {Q : Value → Shared → Prop} (hu : A.units < cLine) (f : Nat → Bool) (I : Nat → Shared → Prop)
    (hl : s.heap.IsTuple l items) (hb : s.heap.IsTuple b items2)
    (turn : ∀ i (h1 : i < items.size) (h2 : i < items2.size) s, I i s → wpAny (model prog w) A.in1 (eqBool items[i] items2[i]) (fun r s' => r = f i ∧ I (i + 1) s') E s)
    (fin : ∀ i s, I i s → Q (.bool ((List.range (min items.size items2.size)).all f && items.size == items2.size)) s) (h : I 0 s) : wpAny (model prog w) A (richCompare .Eq (.ref l) (.ref b)) Q E s := by
  obtain ⟨⟨cls, dd, data, sl⟩, ho, hc, n, hd⟩ := id hl
  obtain ⟨⟨cls2, dd2, data2, sl2⟩, ho2, hc2, n2, hd2⟩ := id hb
  simp only at hc hd hc2 hd2
  subst hc hd hc2 hd2
  refine wpAny_richCompare_same_room (op := .Eq) ⟨_, ho, rfl⟩ ⟨_, ho2, rfl⟩ F.slot_tuple_eq (GQ.call_here F.slot_tuple_eq ⟨_, ho, rfl⟩ F.entry_tuple_eq (F.args_tuple_eq_2 _ _) ?_) hu
  exact tuple_eqB (R := wants (fun v s' => v ≠ .notImplemented ∧ Q v s') E) l b items items2 n n2 dd dd2 sl sl2 f I turn (fun i s' q => ⟨(fun x => nomatch x), fin i s' q⟩) ho ho2 h
end
end MoB
namespace MoW
open PySem PySem.W PyProof.Rows
section
variable {prog : Program} {w : World} {A : Around} {E : Value → Shared → Prop} {s : Shared} {K : Frag} {x y C f : Addr} {ox oy : Obj} {od od' : Option Obj}
theorem ne_slot : Slot "object" "__ne__" "object.__ne__" := Slot.of (T := "object") (name := "__ne__") (owner := "object") (n := "__ne__") (by rw [typeLookup_type, builtinLookup_eq_fast]; kernel_rfl) (by decide +kernel) (by decide +kernel) (by decide +kernel) (.inl (by decide +kernel)) (by rw [isSubtype_type]; kernel_rfl)
/-- x != y, the class has an own __eq__ and object's __ne__ -/
theorem ne_own {Q : Value → Shared → Prop} (hu : A.units + 1 < cLine) (X : K.In s.heap) (I : InstAt s.heap x ox C od) (J : InstAt s.heap y oy C od') (hm : mroIn K C (.type "object") = some true)
    (hn : findIn K (.ref C) "__ne__" = some (some (.builtin "object.__ne__"))) (he : findIn K (.ref C) "__eq__" = some (some (.ref f))) (hf : isFn K (.ref f) = true)
    (h : wpAny (model prog w) A.in1 (call (.ref f) [.ref x, .ref y]) (fun v s' => ∃ b, v = .bool b ∧ Q (.bool (!b)) s') E s) : wpAny (model prog w) A (richCompare .NotEq (.ref x) (.ref y)) Q E s := by
  have top : Looks (model prog w) s.heap (isInstance (.ref x) (.type "object")) true := I.type.andThen (looks_mroIn X hm)
  have body : wpAny (model prog w) A.in1 (Builtin.«object.__ne__» ⟨[.ref x, .ref y], []⟩) (fun fin s' => match fin with | .done f => wants (fun v s' => ∃ b, v = .bool b ∧ Q (.bool b) s') E (.ok f) s' | .again c' => c'.quiet = true ∧ codeAny (model prog w) A c' (wants (fun v s' => ∃ b, v = .bool b ∧ Q (.bool b) s') E) s') (fun e s' => wants (fun v s' => ∃ b, v = .bool b ∧ Q (.bool b) s') E (.error e) s') s := by
    unfold Builtin.«object.__ne__»
    repeat (first
      | with_reducible refine wpAny_cRoomFor hu ?_
      | (refine wpAny_bind (m := callSpecialIfBound? (.ref x) (Str.ofString "__eq__") [.ref y])
          (ifBound_K X I he hf (wpAny_mono h (fun r s' hr => by
            obtain ⟨b, rfl, hq⟩ := hr
            repeat (first | exact ⟨_, rfl, hq⟩ | exact wpAny_pure ⟨_, rfl, hq⟩ | (refine wpAny_bind (m := truthy (.bool _)) (wpAny_truthy_bool ?_)) | wp_step)) fun _ _ e => e)))
      | wp_step)
  have one : wpAny (model prog w) A (tryCompare (.ref x) "__ne__" (.ref y)) (fun r s' => ∃ v, r = some v ∧ Q v s') E s := by
    unfold tryCompare
    simp only [callSpecialIfBound?, bindSpecialIfBound?]
    have cl : wpAny (model prog w) A (call (.builtin "object.__ne__") ([.ref x] ++ [.ref y])) (fun v s' => ∃ b, v = .bool b ∧ Q (.bool b) s') E s :=
      wpAny_call (codeAny_call_builtin ne_slot.plain PySem.F.cmpEntry_ne (check_slot PySem.F.cmpKind_ne PySem.F.cmpSplit_ne top (PySem.F.cmpArgs_ne _ _) body))
    have fin : wpAny (model prog w) A (call (.builtin "object.__ne__") ([.ref x] ++ [.ref y]) >>= fun v => pure (some v)) (fun r s' => ∃ b, r = some (.bool b) ∧ Q (.bool b) s') E s := wpAny_bind (wpAny_mono cl (fun v s' h' => by
      obtain ⟨b, rfl, q⟩ := h'
      exact wpAny_pure ⟨b, rfl, q⟩) fun _ _ h' => h')
    have bnd : bindSpecial (.builtin "object.__ne__") (.ref x) = pure (.builtin "object.__ne__", [.ref x]) := ne_slot.bind _
    refine wpAny_bind (wpAny_mono (Q := fun r s' => ∃ b, r = some (.bool b) ∧ Q (.bool b) s') ?_ (fun r s' hr => ?_) fun _ _ e => e)
    · refine wpAny_holding (wpAny_bind (wpAny_bind (wpAny_bind (I.type.here ((looks_findIn X hn).here ?_)))))
      refine wpAny_bind (wpAny_askSetting (wpAny_ite ?_))
      split
      · exact wpAny_bind (wpAny_of_eq bnd (wpAny_pure (by exact fin)))
      · exact wpAny_tryCatch (wpAny_bind (wpAny_of_eq bnd (wpAny_pure (by exact fin))))
    · obtain ⟨b, rfl, q⟩ := hr
      exact wpAny_pure ⟨_, rfl, q⟩
  unfold richCompare
  simp only [oneThing_ref]
  refine wpAny_holding (wpAny_bind (wpAny_cRoomFor (Nat.lt_of_succ_lt hu) ?_))
  refine wpAny_bind (I.type.here (wpAny_bind (J.type.here ?_)))
  rw [show (Value.ref C != Value.ref C) = false from by simp]
  simp only [Bool.false_eq_true, if_false]
  refine wpAny_bind (wpAny_pure ?_)
  simp only [Bool.false_eq_true, if_false]
  refine wpAny_bind (wpAny_mono one (fun r s' z => ?_) fun _ _ e => e)
  obtain ⟨v, rfl, hq⟩ := z
  exact wpAny_pure hq
end
end MoW
namespace MoL
open PySem PySem.Spec PyProof.Rows L2 MoW
section
variable {X : Cx} {CX : CXT} {n : Nat} {C f : Addr} {fd : FuncData} {ps : List Str} {sp : Sp} {E : XK}
/-- the callee runs somewhere below the body -/
theorem run_sub {A : Around} {pins : List (Addr × Obj)} {σ : L2.St} {H : Hp} {s : Shared} {Q : VK} {us : List Value} {vs : List V} (F : FnOk X.prog X.w X.K X.mg X.base CX n f fd ps sp) (sb : Sub X n A) (hb : Binds X.K fd ps []) (hx : Passes CX X E)
    (I : Inv X pins σ H s) (r : Vals vs us) (h : sp vs H Q E) : wpAny (model X.prog X.w) A (call (.ref f) us) (EP X pins σ Q) X.xe s := by
  have e0 : Env0 X.prog X.w X.K X.mg X.base A X.stack s H := by
    have e := I.env0
    exact ⟨by rw [sb.fr]; exact e.frames, e.mod, e.bs, e.bsz, e.funs, e.frf, e.hok, e.bare⟩
  have hl := F.len _ _ _ _ h
  have hu : us.length = ps.length := by rw [← r.length]; exact hl
  refine wpAny_call (codeAny_mono (F.run A X.stack s H ⟨us, []⟩ us vs Q E sb.room e0 (by
    have := hb s us I.kIn (by simpa using hu)
    simpa using this) r h) fun r s' hq => ?_)
  cases r with
  | error e => exact hx pins σ H s e s' I hq
  | ok fl =>
    cases fl with
    | ret w => exact I.after hq
    | next => exact False.elim hq
    | brk => exact False.elim hq
    | cont => exact False.elim hq
/-- == gives what D says, and only makes objects -/
def EqB (X : Cx) (n : Nat) (D : V → V → Hp → Bool → Prop) : Prop :=
  ∀ (A : Around) (pins : List (Addr × Obj)) (s : Shared) (σ : L2.St) (H : Hp) (x y : V) (u v : Value) (b : Bool), Sub X n A → Inv X pins σ H s → RelV x u → RelV y v → D x y H b →
    wpAny (model X.prog X.w) A (eqBool u v) (fun r s' => r = b ∧ ∃ H', Inv X pins σ H' s' ∧ Ext H H') X.xe s
def RcB (X : Cx) (n : Nat) (D : V → V → Hp → Bool → Prop) : Prop :=
  ∀ (A : Around) (pins : List (Addr × Obj)) (s : Shared) (σ : L2.St) (H : Hp) (x y : V) (u v : Value) (b : Bool), Sub X n A → Inv X pins σ H s → RelV x u → RelV y v → D x y H b →
    wpAny (model X.prog X.w) A (richCompare .Eq u v) (fun r s' => r = .bool b ∧ ∃ H', Inv X pins σ H' s' ∧ Ext H H') X.xe s
def MonB (D : V → V → Hp → Bool → Prop) : Prop := ∀ x y H H' b, Ext H H' → D x y H b → D x y H' b
theorem RcB.eqB {D : V → V → Hp → Bool → Prop} (h : RcB X n D) (hr : ∀ x y H b, D x y H b → ∃ a c, x = .ref a ∧ y = .ref c ∧ (a = c → b = true)) : EqB X n D := by
  intro A pins s σ H x y u v b sb I rx ry d
  obtain ⟨a, c, rfl, rfl, same⟩ := hr _ _ _ _ d
  cases rx
  cases ry
  by_cases hab : a = c
  · have e := same hab
    subst hab
    subst e
    exact SeqAt.EqAt.same (A := A) (s := s) (.ref a) X.prog X.w X.xe _ ⟨rfl, H, I, Ext.rfl'⟩
  · refine GQ.eqBool_refG hab (wpAny_mono (h A pins s σ H (.ref a) (.ref c) _ _ b sb I rfl rfl d) (fun r s' q => ?_) fun _ _ x => x)
    obtain ⟨hr', q⟩ := q
    exact ⟨b, hr', rfl, q⟩
/-- instances of C with an own == -/
def InsB (C : Addr) (R : Addr → Addr → Hp → Bool → Prop) : V → V → Hp → Bool → Prop := fun x y H r => ∃ a b dx dy fs gs, x = .ref a ∧ y = .ref b ∧ H a = some (.ins C dx fs) ∧ H b = some (.ins C dy gs) ∧ R a b H r
def spEqB (R : Addr → Addr → Hp → Bool → Prop) : Sp := fun vs H Q _ => ∃ a b r, vs = [.ref a, .ref b] ∧ R a b H r ∧ ∀ H', Ext H H' → Q (.bl r) H'
theorem rcB_ins {R : Addr → Addr → Hp → Bool → Prop} (F : FnOk X.prog X.w X.K X.mg X.base CX n f fd ps (spEqB R)) (hs : PySem.W.findIn X.K (.ref C) "__eq__" = some (some (.ref f))) (hf : PySem.W.isFn X.K (.ref f) = true) (hb : Binds X.K fd ps []) (hx : Passes CX X E) : RcB X n (InsB C R) := by
  intro A pins s σ H x y u v r sb I rx ry d
  obtain ⟨a, b, dx, dy, fs, gs, rfl, rfl, ha, hb', hr⟩ := d
  cases rx
  cases ry
  obtain ⟨mA, J, _⟩ := ins_get I.hok ha
  obtain ⟨mB, J', _⟩ := ins_get I.hok hb'
  obtain ⟨od, J, _⟩ := J.look
  obtain ⟨od', J', _⟩ := J'.look
  obtain ⟨m, hF⟩ := I.fr
  refine PySem.W.cmp_K (op := .Eq) (tb := .ref C) sb.room.units0 hF I.ok.mod.kin J J'.type (by simp [PySem.W.notFirst]) hs hf ?_
  have hsp : spEqB R [.ref a, .ref b] H (fun v H' => v = .bl r ∧ Ext H H') E := ⟨a, b, r, rfl, hr, fun H' e => ⟨rfl, e⟩⟩
  refine wpAny_mono (run_sub (us := [.ref a, .ref b]) (vs := [.ref a, .ref b]) F sb hb hx I (.cons rfl (.cons rfl .nil)) hsp) (fun w s' q => ?_) fun _ _ e => e
  obtain ⟨z, H', I', rz, ez, ex⟩ := q
  subst ez
  cases rz
  exact ⟨rfl, H', I', ex⟩
/-- two tuples: f i tells of the i-th two -/
def TupB (K : PySem.W.Frag) (D : V → V → Hp → Bool → Prop) : V → V → Hp → Bool → Prop := fun x y H r => ∃ a b xs ys f, x = .ref a ∧ y = .ref b ∧ SqT K H a xs ∧ SqT K H b ys ∧ (∀ i u v, xs[i]? = some u → ys[i]? = some v → D u v H (f i)) ∧ r = ((List.range (min xs.length ys.length)).all f && xs.length == ys.length)
theorem rcB_tup {D : V → V → Hp → Bool → Prop} (hD : MonB D) (h : EqB X n D) : RcB X (n + 1) (TupB X.K D) := by
  intro A pins s σ H x y u v r sb I rx ry d
  obtain ⟨a, b, xs, ys, f, rfl, rfl, ha, hb, p, rfl⟩ := d
  cases rx
  cases ry
  obtain ⟨its, r, e, z⟩ := I.tuple ha
  obtain ⟨its2, r2, e2, z2⟩ := I.tuple hb
  have l1 := r.length
  have l2 := r2.length
  refine MoB.rc_tupB sb.room.units0 f (fun _ s' => LoopI X pins σ H s') e e2 (fun i h1 h2 s' l => ?_) (fun i s' q => ?_) ⟨H, I, Ext.rfl'⟩
  · obtain ⟨H1, I1, e1⟩ := l
    have g1 : its[i]? = some its.toArray[i] := by
      have h1' : i < its.length := by simpa using h1
      rw [List.getElem?_eq_getElem h1'] <;> simp
    have g2 : its2[i]? = some its2.toArray[i] := by
      have h2' : i < its2.length := by simpa using h2
      rw [List.getElem?_eq_getElem h2'] <;> simp
    have k1 : i < xs.length := by rw [l1]; simpa using h1
    have k2 : i < ys.length := by rw [l2]; simpa using h2
    obtain ⟨u, hu, ru⟩ := r.get (List.getElem?_eq_getElem k1)
    obtain ⟨v, hv, rv⟩ := r2.get (List.getElem?_eq_getElem k2)
    rw [g1] at hu
    rw [g2] at hv
    rw [Option.some.inj hu, Option.some.inj hv]
    refine wpAny_mono (h A.in1 pins s' σ H1 _ _ u v (f i) sb.in1 I1 ru rv (hD _ _ _ _ _ e1 (p i _ _ (List.getElem?_eq_getElem k1) (List.getElem?_eq_getElem k2)))) (fun r s2 q => ?_) fun _ _ x => x
    obtain ⟨hr, H2, I2, e2⟩ := q
    exact ⟨hr, H2, I2, e1.trans e2⟩
  · rw [List.size_toArray, List.size_toArray, ← l1, ← l2]
    exact ⟨rfl, q⟩
/-- x == y as an expression -/
theorem op_eqB {D : V → V → Hp → Bool → Prop} (h : RcB X n D) (hr : Room n X.A) : OpR X (compareOp .Eq) (fun x y H Q => ∃ r, D x y H r ∧ ∀ H', Ext H H' → Q (.bl r) H') := by
  intro pins s σ H x y v u Q I rx ry hq
  obtain ⟨r, d, q⟩ := hq
  show wpAny (model X.prog X.w) X.A (richCompare .Eq v u) (EP X pins σ Q) X.xe s
  refine wpAny_mono (h X.A pins s σ H x y v u r ⟨hr, rfl⟩ I rx ry d) (fun w s' z => ?_) fun _ _ x => x
  obtain ⟨hr', H', I', e⟩ := z
  subst hr'
  exact ⟨.bl r, H', I', rfl, q H' e⟩
/-- x != y, two instances of a class with an own == and object's != -/
theorem op_ne_own0 (hm : PySem.W.mroIn X.K C (.type "object") = some true) (hn : PySem.W.findIn X.K (.ref C) "__ne__" = some (some (.builtin "object.__ne__"))) (m : Meth X.K C "__eq__" f) (run : FnOk X.prog X.w X.K X.mg X.base CX n f fd ps sp) (hr : Room (n + 1) X.A) (hb : Binds X.K fd ps []) (hx : Passes CX X E) :
    OpR X (compareOp .NotEq) (fun x y H Q => Ins H x C ∧ Ins H y C ∧ sp [x, y] H (fun v H' => ∃ b, v = .bl b ∧ Q (.bl (!b)) H') E) := by
  intro pins s σ H x y v u Q I rx ry h
  obtain ⟨⟨a, dx, fs, rfl, ha⟩, ⟨b, dy, gs, rfl, hb'⟩, hs⟩ := h
  cases (show v = Value.ref a from rx)
  cases (show u = Value.ref b from ry)
  obtain ⟨mA, J, _⟩ := ins_get I.hok ha
  obtain ⟨mB, J', _⟩ := ins_get I.hok hb'
  obtain ⟨od, J, _⟩ := J.look
  obtain ⟨od', J', _⟩ := J'.look
  show wpAny (model X.prog X.w) X.A (richCompare .NotEq (.ref a) (.ref b)) (EP X pins σ Q) X.xe s
  have sb : Sub X (n + 1) X.A := ⟨hr, rfl⟩
  refine ne_own (Nat.lt_of_le_of_lt (by show X.A.units + 1 ≤ X.A.in1.units; first | exact Nat.le_refl _ | (simp [Around.in1, Around.units])) sb.in1.room.units0) I.kIn J J' hm hn m.at_ m.fn ?_
  refine wpAny_mono (run_sub (us := [.ref a, .ref b]) (vs := [.ref a, .ref b]) run sb.in1 hb hx I (.cons rfl (.cons rfl .nil)) hs) (fun w s' q => ?_) fun _ _ e => e
  obtain ⟨z, H', I', rz, c, rfl, q⟩ := q
  cases rz
  exact ⟨c, rfl, .bl (!c), H', I', rfl, q⟩
end
end MoL

/-! # != of two lists of the same things -/
namespace MoL
open PySem PySem.Spec PyProof.Rows L2 MoW
/-- what is seen to be equal to itself without a call -/
def selfV (x : V) : Prop := (∃ i, x = .int i) ∨ ∃ a, x = .ref a
theorem eqAt_self {A : Around} {s : Shared} {x : V} {u v : Value} (h : selfV x) (ru : RelV x u) (rv : RelV x v) : PySem.SeqAt.EqAt A s u v true := by
  rcases h with ⟨i, rfl⟩ | ⟨a, rfl⟩
  · have q := eqAt_V (A := A) (s := s) ru rv rfl rfl
    rw [show eqV (V.int i) (V.int i) = true by show (i == i) = true; simp] at q
    exact q
  · cases (show u = Value.ref a from ru)
    cases (show v = Value.ref a from rv)
    exact PySem.SeqAt.EqAt.same _
theorem op_neL {X : Cx} (hu : X.A.units + 64 < cLine) : OpR X (compareOp .NotEq) (fun x y H Q => ∃ a b xs, x = .ref a ∧ y = .ref b ∧ H a = some (.lst xs) ∧ H b = some (.lst xs) ∧ (∀ z ∈ xs, selfV z) ∧ Q (.bl false) H) := by
  intro pins s σ H x y v u Q I rx ry h
  obtain ⟨a, b, xs, rfl, rfl, ha, hb, hs, q⟩ := h
  cases rx
  cases ry
  obtain ⟨z, its, k, r, e⟩ := I.hok a _ ha
  obtain ⟨z2, its2, k2, r2, e2⟩ := I.hok b _ hb
  have l1 := r.length
  have l2 := r2.length
  show wpAny (model X.prog X.w) X.A (richCompare .NotEq (.ref a) (.ref b)) (EP X pins σ Q) X.xe s
  refine wpAny_richCompare_same_room (op := .NotEq) ⟨_, e, rfl⟩ ⟨_, e2, rfl⟩ F.slot_list_ne (GQ.call_here F.slot_list_ne ⟨_, e, rfl⟩ F.entry_list_ne (F.args_list_ne_2 _ _) ?_) (Nat.lt_of_le_of_lt (Nat.le_add_right _ 64) hu)
  have hm := PySem.SeqAt.list_neAt a b its.toArray its2.toArray k k2 none none #[] #[] (by rw [List.size_toArray, List.size_toArray]; omega) (fun _ => true) X.prog X.w X.A (wants (fun v s' => v ≠ .notImplemented ∧ EP X pins σ Q v s') X.xe) s
  refine hm ⟨e, e2, fun j h1 h2 => ?_, ?_⟩
  · have k1 : j < xs.length := by rw [l1]; simpa using h1
    obtain ⟨u1, hu1, ru⟩ := r.get (List.getElem?_eq_getElem k1)
    obtain ⟨v1, hv1, rv⟩ := r2.get (List.getElem?_eq_getElem k1)
    have g1 : its[j]? = some its.toArray[j] := by
      have h1' : j < its.length := by simpa using h1
      rw [List.getElem?_eq_getElem h1'] <;> simp
    have g2 : its2[j]? = some its2.toArray[j] := by
      have h2' : j < its2.length := by simpa using h2
      rw [List.getElem?_eq_getElem h2'] <;> simp
    rw [g1] at hu1
    rw [g2] at hv1
    rw [Option.some.inj hu1, Option.some.inj hv1]
    exact eqAt_self (hs _ (List.getElem_mem k1)) ru rv
  · have e0 : (List.range its.toArray.size).all (fun _ => true) = true := by simp
    rw [e0]
    exact ⟨(fun x => nomatch x), .bl false, H, I, rfl, q⟩
end MoL

/-! # x in a list, its items compared by an own == that may answer False -/
namespace MoB
open PySem PySem.SeqAt
open AutoSeq1 (wpAny_loadPart')
open MeetsSeq MeetsSeq2 MeetsSeq3 SeqRoads2
section
variable {prog : Program} {w : World} {A : Around} {R : Result → Shared → Prop}
/-- at each turn the list is read anew: N items, f i is what the i-th comparison gives -/
def InI (prog : Program) (w : World) (A : Around) (E : Value → Shared → Prop) (l : Addr) (x : Value) (N : Nat) (f : Nat → Bool) (I : Nat → Shared → Prop) : Prop :=
  ∀ i s, I i s → ∃ (items : Array Value) (n : Nat), s.heap.get? l = some { cls := .type "list", data := .seq items n } ∧ items.size = N ∧
    ∀ (h1 : i < items.size), wpAny (model prog w) A.in1 (eqBool items[i] x) (fun r s' => r = f i ∧ I (i + 1) s') E s
theorem in_loopB (l : Addr) (x : Value) (N : Nat) (f : Nat → Bool) (I : Nat → Shared → Prop) (hl : InI prog w A (fun e s' => R (.error e) s') l x N f I)
    (fin : ∀ i s, I i s → R (.ok (.ret (.bool ((List.range N).any f)))) s) (k : Nat) :
    ∀ i : Nat, N - i = k → i ≤ N → (List.range N).any f = ((List.range N).drop i).any f → ∀ s, I i s →
      wpAny (model prog w) A.in1 (Builtin.«list.__contains__.loop» ⟨[.ref l, x, rawInt i], []⟩) (GQ.FinOf prog w A R) (fun e s' => R (.error e) s') s := by
  induction k with
  | zero =>
    intro i hk hi hd s h
    obtain ⟨items, n, hl1, hs1, _⟩ := hl _ _ h
    have hR := fin _ _ h
    rw [hd, List.drop_of_length_le (by rw [List.length_range]; omega)] at hR
    obtain ⟨hp, g, d, tk, os⟩ := s
    wp_walk using wpAny_loadPart' hl1
    have hi1 : items[((i : Nat) : Int).toNat]? = none := by simp; omega
    rw [hi1]
    wp_walk
    exact hR
  | succ k ih =>
    intro i hk hi hd s h
    obtain ⟨items, n, hl1, hs1, turn⟩ := hl _ _ h
    have hlt : i < items.size := by omega
    have ht := turn hlt
    have hd' : (List.range N).drop i = i :: (List.range N).drop (i + 1) := by
      rw [List.drop_eq_getElem_cons (by rw [List.length_range]; omega), List.getElem_range]
    rw [hd', List.any_cons] at hd
    obtain ⟨hp, g, d, tk, os⟩ := s
    wp_walk using wpAny_loadPart' hl1
    have hi1 : items[((i : Nat) : Int).toNat]? = some items[i] := by simp [hlt]
    have hc : ((i : Int) + 1) = ((i + 1 : Nat) : Int) := by omega
    rw [hi1]
    refine wpAny_bind (wpAny_mono ht (fun r s2 h2 => ?_) fun _ _ x => x)
    obtain ⟨hr, h2⟩ := h2
    subst hr
    have hfin := fin _ _ h2
    cases hb : f i with
    | true =>
      rw [hb, Bool.true_or] at hd
      rw [hd] at hfin
      wp_walk
      exact hfin
    | false =>
      rw [hb, Bool.false_or] at hd
      have hrec := ih (i + 1) (by omega) (by omega) hd s2 h2
      obtain ⟨hp2, g2, d2, tk2, os2⟩ := s2
      wp_walk
      rw [hc]
      exact ⟨plainId_quiet plain_contains_loop _, codeAny_builtin entry_contains_loop (by
        rw [Around.under_plainId plain_contains_loop _]
        exact hrec)⟩
theorem in_listB (l : Addr) (x : Value) (N : Nat) (f : Nat → Bool) (I : Nat → Shared → Prop) (hl : InI prog w A (fun e s' => R (.error e) s') l x N f I)
    (fin : ∀ i s, I i s → R (.ok (.ret (.bool ((List.range N).any f)))) s) {s : Shared} (h : I 0 s) :
    wpAny (model prog w) A.in1 (Builtin.«list.__contains__» ⟨[.ref l, x], []⟩) (GQ.FinOf prog w A R) (fun e s' => R (.error e) s') s := by
  obtain ⟨items, n, hl1, hs1, _⟩ := hl _ _ h
  have hrec := in_loopB (A := A) (R := R) l x N f I hl fin _ 0 rfl (Nat.zero_le _) rfl s h
  obtain ⟨hp, g, d, tk, os⟩ := s
  wp_walk using wpAny_loadPart' hl1
  exact ⟨plainId_quiet plain_contains_loop _, codeAny_builtin entry_contains_loop (by
    rw [Around.under_plainId plain_contains_loop _]
    exact hrec)⟩
end
end MoB
namespace MoL
open PySem PySem.Spec PyProof.Rows L2 MoW
/-- what is never reached -/
theorem pe_never {X : Cx} {e : Expr} : PE X e (fun _ _ _ => False) := ⟨fun _ _ _ _ _ _ h => h.elim⟩
/-- x in a list: f i tells of the i-th item and x -/
theorem op_inB {D : V → V → Hp → Bool → Prop} (hD : MonB D) (h : EqB X n D) (hr : Room (n + 1) X.A) : OpR X (compareOp .In) (fun x y H Q => ∃ a xs f, y = .ref a ∧ H a = some (.lst xs) ∧ (∀ i u, xs[i]? = some u → D u x H (f i)) ∧ ∀ H', Ext H H' → Q (.bl ((List.range xs.length).any f)) H') := by
  intro pins s σ H x y v u Q I rx ry hq
  obtain ⟨a, xs, f, rfl, ha, p, q'⟩ := hq
  cases ry
  have hin : MoB.InI X.prog X.w X.A X.xe a v xs.length f (fun _ s' => LoopI X pins σ H s') := by
    rintro i s' ⟨H1, I1, e1⟩
    obtain ⟨z, its, k, r, e⟩ := I1.hok a _ (e1 _ _ ha)
    have l1 := r.length
    refine ⟨its.toArray, k, e, by rw [List.size_toArray, l1], fun h1 => ?_⟩
    have g1 : its[i]? = some its.toArray[i] := by
      have h1' : i < its.length := by simpa using h1
      rw [List.getElem?_eq_getElem h1'] <;> simp
    have k1 : i < xs.length := by rw [l1]; simpa using h1
    obtain ⟨u, hu, ru⟩ := r.get (List.getElem?_eq_getElem k1)
    rw [g1] at hu
    rw [Option.some.inj hu]
    have sb : Sub X (n + 1) X.A := ⟨hr, rfl⟩
    refine wpAny_mono (h X.A.in1 pins s' σ H1 _ x u v (f i) sb.in1 I1 ru rx (hD _ _ _ _ _ e1 (p i _ (List.getElem?_eq_getElem k1)))) (fun r s2 q => ?_) fun _ _ x => x
    obtain ⟨hr', H2, I2, e2⟩ := q
    exact ⟨hr', H2, I2, e1.trans e2⟩
  have h0 : LoopI X pins σ H s := ⟨H, I, Ext.rfl'⟩
  obtain ⟨items, k, hl1, _⟩ := hin 0 s h0
  show wpAny (model X.prog X.w) X.A (do return .bool (← contains (.ref a) v)) (EP X pins σ Q) X.xe s
  refine wpAny_bind (wpAny_contains_slot ⟨_, hl1, rfl⟩ F.slot_list_contains (wpAny_mono (GQ.call_here (Q := fun r s' => ∃ b, r = .bool b ∧ EP X pins σ Q (.bool b) s') F.slot_list_contains ⟨_, hl1, rfl⟩ F.entry_list_contains (F.args_list_contains_2 _ _) ?_) (fun r s' hv => ?_) fun _ _ e => e))
  · refine MoB.in_listB (R := wants (fun r s' => ∃ b, r = .bool b ∧ EP X pins σ Q (.bool b) s') X.xe) a v xs.length f _ hin (fun i s' q => ?_) h0
    obtain ⟨H1, I1, e1⟩ := q
    exact ⟨_, rfl, .bl _, H1, I1, rfl, q' H1 e1⟩
  · obtain ⟨b, rfl, q2⟩ := hv
    exact wpAny_truthy_bool (wpAny_pure q2)
end MoL

/-! # The small end, second half: what the tests say -/
namespace MoH
open PySem PySem.Spec PyProof.Rows L2 MoW MoL He
/-! ### defs -/
section
variable {K : PySem.W.Frag} {x q : Str} {st : Stmt} {f : Addr} {fd : FuncData} {kws : List (Str × V)}
theorem fun_ofD (F : FunD K x q (defArgs st) (defBody st) (defScope st) [] kws f fd) : Fun K x q st f fd := by
  obtain ⟨⟨oc, od, dV, kV, doc, pm, an, cdv, ct, osl, e, lk, hc, hD, _⟩, kp⟩ := F
  rcases hD with ⟨_, rfl⟩ | ⟨z, _⟩
  · exact ⟨⟨oc, od, kV, doc, pm, an, cdv, ct, osl, e, lk, hc⟩, kp⟩
  · exact absurd rfl z
theorem funC_ofD {p : Str × Option Str} (F : FunD K x q (defArgs st) (defBody st) (defScope st) [] kws (fAd K p) fd) : FunC K x q st (fAd K p) fd (codeOf K p) := by
  obtain ⟨⟨oc, od, dV, kV, doc, pm, an, cdv, ct, osl, e, lk, hc, hD, _⟩, kp⟩ := F
  rcases hD with ⟨_, rfl⟩ | ⟨z, _⟩
  · obtain ⟨c, rfl⟩ := codeIn_ref hc
    have ec : codeOf K p = c := codeOf_eq lk (by rw [e])
    rw [ec]
    exact ⟨⟨oc, od, kV, doc, pm, an, ct, osl, e, lk, hc⟩, kp⟩
  · exact absurd rfl z
end

theorem ownB_ok {K : PySem.W.Frag} {C : Addr} (h : ownB K C = true) (g : gdB K = true) : OwnB K C := by
  obtain ⟨g1, g2⟩ := ba g
  obtain ⟨h1, h⟩ := ba h
  obtain ⟨h2, h⟩ := ba h
  obtain ⟨h3, h⟩ := ba h
  obtain ⟨h4, h⟩ := ba h
  obtain ⟨h5, h⟩ := ba h
  obtain ⟨h6, h⟩ := ba h
  obtain ⟨h7, h⟩ := ba h
  obtain ⟨h8, h⟩ := ba h
  obtain ⟨h9, h⟩ := ba h
  obtain ⟨ha, hb⟩ := ba h
  exact ⟨⟨h1, h2, h3, eqO_ok h4⟩, ⟨h5, of_decide_eq_true h6, of_decide_eq_true h7⟩, eqO_ok h8, eqO_ok g1, of_decide_eq_true g2, of_decide_eq_true h9, of_decide_eq_true ha, of_decide_eq_true hb⟩
theorem ownK_ok {K : PySem.W.Frag} {C : Addr} (h : ownB K C = true) (g : gdB K = true) (n1 : PySem.W.findIn K (.ref C) "top" = some none) (n2 : PySem.W.findIn K (.ref C) "bottom" = some none) : OwnK K C := by
  obtain ⟨a1, a2, a3, a4, a5, a6, a7, a8⟩ := ownB_ok h g
  exact ⟨a1, a2, a3, a4, a5, a6, a7, a8, n1, n2⟩

theorem errB_ok {K : PySem.W.Frag} {C : Addr} {t : Str → List Value → Bool} (h : errB K C t = true) : ∃ nm q N bs bm sn sub ab col dd k0 k1 k2 k3 k5, K.lookup C = some (excClassObj nm q C N bs bm true sn sub ab col dd k0 k1 k2 k3 k5 "ValueError.__new__") ∧ t nm bm = true := by
  unfold errB at h
  cases e : K.lookup C with
  | none =>
    rw [e] at h
    cases h
  | some o =>
    obtain ⟨oc, od, dt, sl⟩ := o
    rw [e] at h
    cases oc with
    | type c =>
      cases dt with
      | cls cd =>
        obtain ⟨h1, h⟩ := ba h
        obtain ⟨h2, h⟩ := ba h
        obtain ⟨h3, h⟩ := ba h
        obtain ⟨h4, h5⟩ := ba h
        obtain ⟨nm, bs, mro, N, q, hd, sn, sub, ab, col, hdel⟩ := cd
        have e1 : c = "type" := of_decide_eq_true h1
        have e2 : hd = true := h2
        have e3 : hdel = false := by
          cases hdel with
          | false => rfl
          | true => cases h3
        obtain ⟨k0, k1, k2, k3, k5, e4⟩ : ∃ k0 k1 k2 k3 k5, sl.toList = [k0, k1, k2, k3, some (.builtin "ValueError.__new__"), k5] := by
          generalize sl.toList = l at h4
          match l, h4 with
          | [k0, k1, k2, k3, some (.builtin n), k5], z =>
            have en : n = "ValueError.__new__" := of_decide_eq_true z
            exact ⟨k0, k1, k2, k3, k5, by rw [en]⟩
        have e5 : sl = #[k0, k1, k2, k3, some (.builtin "ValueError.__new__"), k5] := by
          rw [← Array.toArray_toList (xs := sl), e4]
        cases mro with
        | nil => cases h5
        | cons v bm =>
          obtain ⟨h6, h7⟩ := ba h5
          have e6 : v = .ref C := of_decide_eq_true h6
          subst e1 e2 e3 e5 e6
          exact ⟨nm, q, N, bs, bm, sn, sub, ab, col, od, k0, k1, k2, k3, k5, rfl, h7⟩
      | _ => cases h
    | _ => cases dt <;> cases h
theorem rowB_ok {K : PySem.W.Frag} {C : Addr} {nm : Str} {bm : List Value} (h : rowB K C nm bm = true) : ClsRow K C nm bm := by
  obtain ⟨n, q, N, bs, b, sn, sub, ab, col, dd, k0, k1, k2, k3, k5, e, t⟩ := errB_ok h
  obtain ⟨t1, t2⟩ := ba t
  have e1 : n = nm := of_decide_eq_true t1
  have e2 : b = bm := of_decide_eq_true t2
  subst e1 e2
  exact ⟨q, N, bs, sn, sub, ab, col, dd, k0, k1, k2, k3, k5, e⟩
theorem excB_ok {K : PySem.W.Frag} {C : Addr} (h : excB K C = true) (g : gdB K = true) : OexC K C ∧ XfC K C ∧ ExcC K C ∧ PySem.W.exmOne K (.ref C) (.ref C) = some true := by
  obtain ⟨g1, g2⟩ := ba g
  obtain ⟨h1, h⟩ := ba h
  obtain ⟨h2, h⟩ := ba h
  obtain ⟨h3, h⟩ := ba h
  obtain ⟨h4, h⟩ := ba h
  obtain ⟨h5, h⟩ := ba h
  obtain ⟨h6, h⟩ := ba h
  obtain ⟨h7, h⟩ := ba h
  obtain ⟨h8, h⟩ := ba h
  obtain ⟨h9, h⟩ := ba h
  obtain ⟨ha, hb⟩ := ba h
  have eC := of_decide_eq_true h8
  have tC := of_decide_eq_true h9
  have sC := of_decide_eq_true hb
  exact ⟨⟨errB_ok h1, eqO_ok h2, eC, tC, h7⟩, ⟨eqO_ok h3, eqO_ok h4, eC, ha⟩, ⟨eqO_ok h3, eqO_ok h4, eC, ha, eqO_ok h5, eqO_ok g1, of_decide_eq_true g2, of_decide_eq_true h6⟩, PySem.W.exm_ref eC ha tC sC⟩
theorem valB_ok {K : PySem.W.Frag} {M C : Addr} {nm : Str} (h : valB K M C nm = true) (g : gdB K = true) : ErrC K M C nm := by
  obtain ⟨g1, g2⟩ := ba g
  obtain ⟨h1, h⟩ := ba h
  obtain ⟨h2, h⟩ := ba h
  obtain ⟨h3, h⟩ := ba h
  obtain ⟨h4, h⟩ := ba h
  obtain ⟨h5, h⟩ := ba h
  obtain ⟨h6, h7⟩ := ba h
  exact ⟨rowB_ok h1, rowB_ok h2, eqO_ok h3, eqO_ok h4, eqO_ok h5, eqO_ok h6, eqO_ok g1, of_decide_eq_true g2, h7⟩

end MoH

/-! # x in a tuple, its items compared by an own == that may answer False -/
namespace MoB
open PySem PySem.SeqAt
open AutoSeq1 (wpAny_loadPart')
open MeetsSeq MeetsSeq2 MeetsSeq3 SeqRoads2
section
variable {prog : Program} {w : World} {A : Around} {R : Result → Shared → Prop}
theorem in_tupB (l : Addr) (x : Value) (items : Array Value) (n : Nat) (dd : Option Addr) (sl : Array (Option Value)) (f : Nat → Bool) (I : Nat → Shared → Prop)
    (turn : ∀ i (h1 : i < items.size) s, I i s → wpAny (model prog w) A.in1 (eqBool items[i] x) (fun r s' => r = f i ∧ I (i + 1) s') (fun e s' => R (.error e) s') s)
    (fin : ∀ i s, I i s → R (.ok (.ret (.bool ((List.range items.size).any f)))) s) {s : Shared} (hl1 : s.heap.get? l = some { cls := .type "tuple", dict := dd, data := .seq items n, slots := sl }) (h : I 0 s) :
    wpAny (model prog w) A.in1 (Builtin.«tuple.__contains__» ⟨[.ref l, x], []⟩) (GQ.FinOf prog w A R) (fun e s' => R (.error e) s') s := by
  have h0 := h
  obtain ⟨hp, g, d, tk, os⟩ := s
  wp_walk using wpAny_loadPart' hl1, wpAny_forIn_array _ (fun rest b s' => b.1 = none ∧ ∃ i, rest = items.toList.drop i ∧ (List.range items.size).any f = ((List.range items.size).drop i).any f ∧ I i s') _
  case turn =>
    rintro y rest b s' ⟨hb', i, hz, hR, hI⟩
    have hlt : i < items.toList.length := by
      rcases Nat.lt_or_ge i items.toList.length with h' | h'
      · exact h'
      · rw [List.drop_of_length_le h'] at hz; cases hz
    have h1 : i < items.size := by simpa using hlt
    rw [List.drop_eq_getElem_cons hlt] at hz
    injection hz with hyx hrest
    have hy : y = items[i] := by simpa using hyx
    subst hy
    have hd : (List.range items.size).drop i = i :: (List.range items.size).drop (i + 1) := by simp [List.drop_eq_getElem_cons, h1]
    rw [hd, List.any_cons] at hR
    refine wpAny_bind (wpAny_mono (turn i h1 s' hI) (fun r s2 q2 => ?_) fun _ _ x => x)
    obtain ⟨hr, q2⟩ := q2
    subst hr
    have hfin := fin _ _ q2
    cases hy : f i with
    | true =>
      rw [hy] at hR
      have e0 : (List.range items.size).any f = true := by simpa using hR
      rw [e0] at hfin
      wp_walk
      simpa using hfin
    | false =>
      rw [hy] at hR
      wp_walk
      exact ⟨rfl, i + 1, hrest, by simpa using hR, q2⟩
  case fin =>
    rintro ⟨b1, b2⟩ s' ⟨hb', i, hz, hR, hI⟩
    simp only at hb'
    subst hb'
    have hge : items.toList.length ≤ i := by
      rcases Nat.lt_or_ge i items.toList.length with h' | h'
      · rw [List.drop_eq_getElem_cons h'] at hz; cases hz
      · exact h'
    rw [List.drop_of_length_le (show (List.range items.size).length ≤ i by simpa using hge)] at hR
    have hfin := fin _ _ hI
    rw [hR] at hfin
    wp_walk
    simpa using hfin
  case h =>
    exact ⟨rfl, 0, rfl, rfl, h0⟩
end
end MoB
namespace MoL
open PySem PySem.Spec PyProof.Rows L2 MoW
/-- x in a tuple: f i tells of the i-th item and x -/
theorem op_inT {D : V → V → Hp → Bool → Prop} {K : PySem.W.Frag} (hK : X.K = K) (hD : MonB D) (h : EqB X n D) (hr : Room (n + 1) X.A) : OpR X (compareOp .In) (fun x y H Q => ∃ a xs f, y = .ref a ∧ SqT K H a xs ∧ (∀ i u, xs[i]? = some u → D u x H (f i)) ∧ ∀ H', Ext H H' → Q (.bl ((List.range xs.length).any f)) H') := by
  subst hK
  intro pins s σ H x y v u Q I rx ry hq
  obtain ⟨a, xs, f, rfl, ha, p, q'⟩ := hq
  cases ry
  obtain ⟨its, r, e, z⟩ := I.tuple ha
  have l1 := r.length
  have sb : Sub X (n + 1) X.A := ⟨hr, rfl⟩
  obtain ⟨⟨cls, dd, data, sl⟩, ho, hc, k, hd⟩ := e
  simp only at hc hd
  subst hc hd
  show wpAny (model X.prog X.w) X.A (do return .bool (← contains (.ref a) v)) (EP X pins σ Q) X.xe s
  refine wpAny_bind (wpAny_contains_slot ⟨_, ho, rfl⟩ F.slot_tuple_contains (wpAny_mono (GQ.call_here (Q := fun r s' => ∃ b, r = .bool b ∧ EP X pins σ Q (.bool b) s') F.slot_tuple_contains ⟨_, ho, rfl⟩ F.entry_tuple_contains (F.args_tuple_contains_2 _ _) ?_) (fun r s' hv => ?_) fun _ _ e => e))
  · refine MoB.in_tupB (R := wants (fun r s' => ∃ b, r = .bool b ∧ EP X pins σ Q (.bool b) s') X.xe) a v its.toArray k _ _ f (fun _ s' => LoopI X pins σ H s') (fun i h1 s' l => ?_) (fun i s' q => ?_) ho ⟨H, I, Ext.rfl'⟩
    · obtain ⟨H1, I1, e1⟩ := l
      have g1 : its[i]? = some its.toArray[i] := by
        have h1' : i < its.length := by simpa using h1
        rw [List.getElem?_eq_getElem h1'] <;> simp
      have k1 : i < xs.length := by rw [l1]; simpa using h1
      obtain ⟨u, hu, ru⟩ := r.get (List.getElem?_eq_getElem k1)
      rw [g1] at hu
      rw [Option.some.inj hu]
      refine wpAny_mono (h X.A.in1 pins s' σ H1 _ x u v (f i) sb.in1 I1 ru rx (hD _ _ _ _ _ e1 (p i _ (List.getElem?_eq_getElem k1)))) (fun r s2 q => ?_) fun _ _ x => x
      obtain ⟨hr', H2, I2, e2⟩ := q
      exact ⟨hr', H2, I2, e1.trans e2⟩
    · obtain ⟨H1, I1, e1⟩ := q
      have q2 := q' H1 e1
      rw [l1] at q2
      exact ⟨_, by rw [List.size_toArray], .bl _, H1, I1, rfl, q2⟩
  · obtain ⟨b, rfl, q2⟩ := hv
    exact wpAny_truthy_bool (wpAny_pure q2)
theorem unr_or {X : Cx} {f : Value → Sem Value} {r r' : V → Hp → VK → Prop} (h : UnR X f r) (h' : UnR X f r') : UnR X f (fun x H Q => r x H Q ∨ r' x H Q) := fun pins s σ H x v Q I rx q => q.elim (h pins s σ H x v Q I rx) (h' pins s σ H x v Q I rx)
theorem sl_tupK {X : Cx} {K : PySem.W.Frag} (h : X.K = K) : SlR X (rSlA K) := h ▸ sl_tupA
end MoL

namespace Mo
open PySem PySem.Spec PyProof.Rows L2 MoL MoW
open C8 (pss_cut tCut)
/-! ### the text -/
abbrev N_NoLot___init__ : List Str := ["self", "part"]
theorem sc_NoLot___init__ : FnScope N_NoLot___init__ ["self", "part"] (defScope s_NoLot___init__) := ⟨rfl, rfl, rfl, by decide +kernel, rfl, by decide +kernel, by decide +kernel⟩
abbrev N_NoNumber___init__ : List Str := ["self", "word"]
theorem sc_NoNumber___init__ : FnScope N_NoNumber___init__ ["self", "word"] (defScope s_NoNumber___init__) := ⟨rfl, rfl, rfl, by decide +kernel, rfl, by decide +kernel, by decide +kernel⟩
abbrev N_Ratio___init__ : List Str := ["self", "top", "bottom", "shared"]
theorem sc_Ratio___init__ : FnScope N_Ratio___init__ ["self", "top", "bottom"] (defScope s_Ratio___init__) := ⟨rfl, rfl, rfl, by decide +kernel, rfl, by decide +kernel, by decide +kernel⟩
abbrev N_Ratio___add__ : List Str := ["self", "other"]
theorem sc_Ratio___add__ : FnScope N_Ratio___add__ ["self", "other"] (defScope s_Ratio___add__) := ⟨rfl, rfl, rfl, by decide +kernel, rfl, by decide +kernel, by decide +kernel⟩
abbrev N_Ratio___radd__ : List Str := ["self", "other"]
theorem sc_Ratio___radd__ : FnScope N_Ratio___radd__ ["self", "other"] (defScope s_Ratio___radd__) := ⟨rfl, rfl, rfl, by decide +kernel, rfl, by decide +kernel, by decide +kernel⟩
abbrev N_Ratio___mul__ : List Str := ["self", "other"]
theorem sc_Ratio___mul__ : FnScope N_Ratio___mul__ ["self", "other"] (defScope s_Ratio___mul__) := ⟨rfl, rfl, rfl, by decide +kernel, rfl, by decide +kernel, by decide +kernel⟩
abbrev N_Ratio___rmul__ : List Str := ["self", "other"]
theorem sc_Ratio___rmul__ : FnScope N_Ratio___rmul__ ["self", "other"] (defScope s_Ratio___rmul__) := ⟨rfl, rfl, rfl, by decide +kernel, rfl, by decide +kernel, by decide +kernel⟩
abbrev N_Ratio___neg__ : List Str := ["self"]
theorem sc_Ratio___neg__ : FnScope N_Ratio___neg__ ["self"] (defScope s_Ratio___neg__) := ⟨rfl, rfl, rfl, by decide +kernel, rfl, by decide +kernel, by decide +kernel⟩
abbrev N_Ratio___eq__ : List Str := ["self", "other"]
theorem sc_Ratio___eq__ : FnScope N_Ratio___eq__ ["self", "other"] (defScope s_Ratio___eq__) := ⟨rfl, rfl, rfl, by decide +kernel, rfl, by decide +kernel, by decide +kernel⟩
abbrev N_Ratio___le__ : List Str := ["self", "other"]
theorem sc_Ratio___le__ : FnScope N_Ratio___le__ ["self", "other"] (defScope s_Ratio___le__) := ⟨rfl, rfl, rfl, by decide +kernel, rfl, by decide +kernel, by decide +kernel⟩
abbrev N_is_whole : List Str := ["x"]
theorem sc_is_whole : FnScope N_is_whole ["x"] (defScope s_is_whole) := ⟨rfl, rfl, rfl, by decide +kernel, rfl, by decide +kernel, by decide +kernel⟩
abbrev N_is_number : List Str := ["x"]
theorem sc_is_number : FnScope N_is_number ["x"] (defScope s_is_number) := ⟨rfl, rfl, rfl, by decide +kernel, rfl, by decide +kernel, by decide +kernel⟩
abbrev N_ratio_of : List Str := ["number"]
theorem sc_ratio_of : FnScope N_ratio_of ["number"] (defScope s_ratio_of) := ⟨rfl, rfl, rfl, by decide +kernel, rfl, by decide +kernel, by decide +kernel⟩
abbrev N_whole_parts : List Str := ["ratios", "bottom", "number"]
theorem sc_whole_parts : FnScope N_whole_parts ["ratios"] (defScope s_whole_parts) := ⟨rfl, rfl, rfl, by decide +kernel, rfl, by decide +kernel, by decide +kernel⟩
abbrev N_sum_ratios : List Str := ["one", "other"]
theorem sc_sum_ratios : FnScope N_sum_ratios ["one", "other"] (defScope s_sum_ratios) := ⟨rfl, rfl, rfl, by decide +kernel, rfl, by decide +kernel, by decide +kernel⟩
abbrev N_product_ratios : List Str := ["one", "other"]
theorem sc_product_ratios : FnScope N_product_ratios ["one", "other"] (defScope s_product_ratios) := ⟨rfl, rfl, rfl, by decide +kernel, rfl, by decide +kernel, by decide +kernel⟩
abbrev N__gap : List Str := ["one", "other"]
theorem sc__gap : FnScope N__gap ["one", "other"] (defScope s__gap) := ⟨rfl, rfl, rfl, by decide +kernel, rfl, by decide +kernel, by decide +kernel⟩
abbrev N_trimmed : List Str := ["numbers", "size"]
theorem sc_trimmed : FnScope N_trimmed ["numbers"] (defScope s_trimmed) := ⟨rfl, rfl, rfl, by decide +kernel, rfl, by decide +kernel, by decide +kernel⟩
abbrev N_first_powers : List Str := ["base", "many", "found", "last", "_"]
theorem sc_first_powers : FnScope N_first_powers ["base", "many"] (defScope s_first_powers) := ⟨rfl, rfl, rfl, by decide +kernel, rfl, by decide +kernel, by decide +kernel⟩
abbrev N_paired : List Str := ["factors", "tops", "k"]
theorem sc_paired : FnScope N_paired ["factors", "tops"] (defScope s_paired) := ⟨rfl, rfl, rfl, by decide +kernel, rfl, by decide +kernel, by decide +kernel⟩
abbrev N_Poly___init__ : List Str := ["self", "coefficients", "number"]
theorem sc_Poly___init__ : FnScope N_Poly___init__ ["self", "coefficients"] (defScope s_Poly___init__) := ⟨rfl, rfl, rfl, by decide +kernel, rfl, by decide +kernel, by decide +kernel⟩
abbrev N_Poly___eq__ : List Str := ["self", "other"]
theorem sc_Poly___eq__ : FnScope N_Poly___eq__ ["self", "other"] (defScope s_Poly___eq__) := ⟨rfl, rfl, rfl, by decide +kernel, rfl, by decide +kernel, by decide +kernel⟩
abbrev N_Poly___mul__ : List Str := ["self", "other"]
theorem sc_Poly___mul__ : FnScope N_Poly___mul__ ["self", "other"] (defScope s_Poly___mul__) := ⟨rfl, rfl, rfl, by decide +kernel, rfl, by decide +kernel, by decide +kernel⟩
abbrev N_Poly___rmul__ : List Str := ["self", "other"]
theorem sc_Poly___rmul__ : FnScope N_Poly___rmul__ ["self", "other"] (defScope s_Poly___rmul__) := ⟨rfl, rfl, rfl, by decide +kernel, rfl, by decide +kernel, by decide +kernel⟩
abbrev N_poly_of : List Str := ["q"]
theorem sc_poly_of : FnScope N_poly_of ["q"] (defScope s_poly_of) := ⟨rfl, rfl, rfl, by decide +kernel, rfl, by decide +kernel, by decide +kernel⟩
abbrev N__is_operand : List Str := ["x"]
theorem sc__is_operand : FnScope N__is_operand ["x"] (defScope s__is_operand) := ⟨rfl, rfl, rfl, by decide +kernel, rfl, by decide +kernel, by decide +kernel⟩
abbrev N_product_polys : List Str := ["one", "other", "tops", "bottom", "factors", "under", "size", "found", "k", "j", "top"]
theorem sc_product_polys : FnScope N_product_polys ["one", "other"] (defScope s_product_polys) := ⟨rfl, rfl, rfl, by decide +kernel, rfl, by decide +kernel, by decide +kernel⟩
abbrev N_continued : List Str := ["tops", "begin", "many", "size", "found", "line", "bottom"]
theorem sc_continued : FnScope N_continued ["tops", "begin", "many"] (defScope s_continued) := ⟨rfl, rfl, rfl, by decide +kernel, rfl, by decide +kernel, by decide +kernel⟩
abbrev N_Sure___init__ : List Str := ["self", "numbers"]
theorem sc_Sure___init__ : FnScope N_Sure___init__ ["self", "numbers"] (defScope s_Sure___init__) := ⟨rfl, rfl, rfl, by decide +kernel, rfl, by decide +kernel, by decide +kernel⟩
abbrev N_Lot___init__ : List Str := ["self", "poly", "begin", "numbers"]
theorem sc_Lot___init__ : FnScope N_Lot___init__ ["self", "poly", "begin"] (defScope s_Lot___init__) := ⟨rfl, rfl, rfl, by decide +kernel, rfl, by decide +kernel, by decide +kernel⟩
abbrev N_Lot___eq__ : List Str := ["self", "other"]
theorem sc_Lot___eq__ : FnScope N_Lot___eq__ ["self", "other"] (defScope s_Lot___eq__) := ⟨rfl, rfl, rfl, by decide +kernel, rfl, by decide +kernel, by decide +kernel⟩
abbrev N_Lot_row : List Str := ["self", "d"]
theorem sc_Lot_row : FnScope N_Lot_row ["self", "d"] (defScope s_Lot_row) := ⟨rfl, rfl, rfl, by decide +kernel, rfl, by decide +kernel, by decide +kernel⟩
abbrev N_lot_at : List Str := ["points", "weights", "weight", "poly", "x", "begin", "j", "powers", "k"]
theorem sc_lot_at : FnScope N_lot_at ["points", "weights"] (defScope s_lot_at) := ⟨rfl, rfl, rfl, by decide +kernel, rfl, by decide +kernel, by decide +kernel⟩
abbrev N_first_numbers : List Str := ["lot", "many"]
theorem sc_first_numbers : FnScope N_first_numbers ["lot", "many"] (defScope s_first_numbers) := ⟨rfl, rfl, rfl, by decide +kernel, rfl, by decide +kernel, by decide +kernel⟩
abbrev N__are_numbers : List Str := ["numbers", "many", "number"]
theorem sc__are_numbers : FnScope N__are_numbers ["numbers", "many"] (defScope s__are_numbers) := ⟨rfl, rfl, rfl, by decide +kernel, rfl, by decide +kernel, by decide +kernel⟩
abbrev N__are_points : List Str := ["points", "k"]
theorem sc__are_points : FnScope N__are_points ["points"] (defScope s__are_points) := ⟨rfl, rfl, rfl, by decide +kernel, rfl, by decide +kernel, by decide +kernel⟩
abbrev N__law_is_integer : List Str := ["_law_value"]
theorem sc__law_is_integer : FnScope N__law_is_integer ["_law_value"] (defScope s__law_is_integer) := ⟨rfl, rfl, rfl, by decide +kernel, rfl, by decide +kernel, by decide +kernel⟩
abbrev N__law_feed : List Str := ["_law_script", "_law_cell"]
theorem sc__law_feed : FnScope N__law_feed ["_law_script"] (defScope s__law_feed) := ⟨rfl, rfl, rfl, by decide +kernel, rfl, by decide +kernel, by decide +kernel⟩
abbrev N__law_take : List Str := ["_law_feed_here", "_law_size", "_law_cell", "_law_digit", "_law_number_here"]
theorem sc__law_take : FnScope N__law_take ["_law_feed_here", "_law_size"] (defScope s__law_take) := ⟨rfl, rfl, rfl, by decide +kernel, rfl, by decide +kernel, by decide +kernel⟩
abbrev N__law_number : List Str := ["_law_feed_here", "_law_size", "_law_sign"]
theorem sc__law_number : FnScope N__law_number ["_law_feed_here", "_law_size"] (defScope s__law_number) := ⟨rfl, rfl, rfl, by decide +kernel, rfl, by decide +kernel, by decide +kernel⟩
abbrev N__law_is : List Str := ["_law_value", "_law_top", "_law_bottom"]
theorem sc__law_is : FnScope N__law_is ["_law_value", "_law_top", "_law_bottom"] (defScope s__law_is) := ⟨rfl, rfl, rfl, by decide +kernel, rfl, by decide +kernel, by decide +kernel⟩
abbrev N__law_row_is : List Str := ["_law_values", "_law_pairs", "_law_k"]
theorem sc__law_row_is : FnScope N__law_row_is ["_law_values", "_law_pairs"] (defScope s__law_row_is) := ⟨rfl, rfl, rfl, by decide +kernel, rfl, by decide +kernel, by decide +kernel⟩
abbrev N__law_poly_is : List Str := ["_law_p", "_law_pairs", "_law_size", "_law_k"]
theorem sc__law_poly_is : FnScope N__law_poly_is ["_law_p", "_law_pairs"] (defScope s__law_poly_is) := ⟨rfl, rfl, rfl, by decide +kernel, rfl, by decide +kernel, by decide +kernel⟩
abbrev N__law_add : List Str := ["_law_a", "_law_b"]
theorem sc__law_add : FnScope N__law_add ["_law_a", "_law_b"] (defScope s__law_add) := ⟨rfl, rfl, rfl, by decide +kernel, rfl, by decide +kernel, by decide +kernel⟩
abbrev N__law_lot : List Str := ["_law_feed_here", "_law_most", "_law_size", "_law_top", "_law_points", "_law_weights", "_law_k"]
theorem sc__law_lot : FnScope N__law_lot ["_law_feed_here", "_law_most"] (defScope s__law_lot) := ⟨rfl, rfl, rfl, by decide +kernel, rfl, by decide +kernel, by decide +kernel⟩
abbrev N__law_numbers : List Str := ["_law_lot_here", "_law_d", "_law_row", "_law_powers", "_law_bottom", "_law_k", "_law_power", "_law_j"]
theorem sc__law_numbers : FnScope N__law_numbers ["_law_lot_here", "_law_d"] (defScope s__law_numbers) := ⟨rfl, rfl, rfl, by decide +kernel, rfl, by decide +kernel, by decide +kernel⟩
abbrev N__law_lot_is : List Str := ["_law_lot_here", "_law_due", "_law_count", "_law_pairs", "_law_x", "_law_row", "_law_k"]
theorem sc__law_lot_is : FnScope N__law_lot_is ["_law_lot_here", "_law_due"] (defScope s__law_lot_is) := ⟨rfl, rfl, rfl, by decide +kernel, rfl, by decide +kernel, by decide +kernel⟩
abbrev N__law_flag : List Str := ["_law_value", "_law_due"]
theorem sc__law_flag : FnScope N__law_flag ["_law_value", "_law_due"] (defScope s__law_flag) := ⟨rfl, rfl, rfl, by decide +kernel, rfl, by decide +kernel, by decide +kernel⟩
abbrev N__law_part : List Str := ["_law_points", "_law_weights", "_law_part_here", "e"]
theorem sc__law_part : FnScope N__law_part ["_law_points", "_law_weights"] (defScope s__law_part) := ⟨rfl, rfl, rfl, by decide +kernel, rfl, by decide +kernel, by decide +kernel⟩
abbrev N__law_spoiled : List Str := ["_law_feed_here", "_law_points", "_law_weights", "_law_strange", "_law_bad", "_law_at", "_law_worse", "_law_spoiled_here", "_law_twice"]
theorem sc__law_spoiled : FnScope N__law_spoiled ["_law_feed_here", "_law_points", "_law_weights"] (defScope s__law_spoiled) := ⟨rfl, rfl, rfl, by decide +kernel, rfl, by decide +kernel, by decide +kernel⟩
abbrev N_law : List Str := ["_law_script", "_law_feed_here", "_law_k", "_law_lot_here", "_law_points", "_law_x", "_law_weights", "_law_weight", "_law_at", "_law_one", "_law_other", "_law_d", "_law_more"]
theorem sc_law : FnScope N_law ["_law_script"] (defScope s_law) := ⟨rfl, rfl, rfl, by decide +kernel, rfl, by decide +kernel, by decide +kernel⟩
/-! ### addresses and function objects -/
structure Ad where
  Ratio : Addr
  Poly : Addr
  Sure : Addr
  Lot : Addr
  NoNumber : Addr
  NoLot : Addr
  MeansError : Addr
  NoBar : Addr
  f_NoLot___init__ : Addr
  f_NoNumber___init__ : Addr
  f_Ratio___init__ : Addr
  f_Ratio___add__ : Addr
  f_Ratio___radd__ : Addr
  f_Ratio___mul__ : Addr
  f_Ratio___rmul__ : Addr
  f_Ratio___neg__ : Addr
  f_Ratio___eq__ : Addr
  f_Ratio___le__ : Addr
  f_is_whole : Addr
  f_is_number : Addr
  f_ratio_of : Addr
  f_whole_parts : Addr
  f_sum_ratios : Addr
  f_product_ratios : Addr
  f__gap : Addr
  f_trimmed : Addr
  f_first_powers : Addr
  f_paired : Addr
  f_Poly___init__ : Addr
  f_Poly___eq__ : Addr
  f_Poly___mul__ : Addr
  f_Poly___rmul__ : Addr
  f_poly_of : Addr
  f__is_operand : Addr
  f_product_polys : Addr
  f_continued : Addr
  f_Sure___init__ : Addr
  f_Lot___init__ : Addr
  f_Lot___eq__ : Addr
  f_Lot_row : Addr
  f_lot_at : Addr
  f_first_numbers : Addr
  f__are_numbers : Addr
  f__are_points : Addr
  f__law_is_integer : Addr
  f__law_feed : Addr
  f__law_take : Addr
  f__law_number : Addr
  f__law_is : Addr
  f__law_row_is : Addr
  f__law_poly_is : Addr
  f__law_add : Addr
  f__law_lot : Addr
  f__law_numbers : Addr
  f__law_lot_is : Addr
  f__law_flag : Addr
  f__law_part : Addr
  f__law_spoiled : Addr
  f_law : Addr
structure Fd where
  f_NoLot___init__ : FuncData
  f_NoNumber___init__ : FuncData
  f_Ratio___init__ : FuncData
  f_Ratio___add__ : FuncData
  f_Ratio___radd__ : FuncData
  f_Ratio___mul__ : FuncData
  f_Ratio___rmul__ : FuncData
  f_Ratio___neg__ : FuncData
  f_Ratio___eq__ : FuncData
  f_Ratio___le__ : FuncData
  f_is_whole : FuncData
  f_is_number : FuncData
  f_ratio_of : FuncData
  f_whole_parts : FuncData
  f_sum_ratios : FuncData
  f_product_ratios : FuncData
  f__gap : FuncData
  f_trimmed : FuncData
  f_first_powers : FuncData
  f_paired : FuncData
  f_Poly___init__ : FuncData
  f_Poly___eq__ : FuncData
  f_Poly___mul__ : FuncData
  f_Poly___rmul__ : FuncData
  f_poly_of : FuncData
  f__is_operand : FuncData
  f_product_polys : FuncData
  f_continued : FuncData
  f_Sure___init__ : FuncData
  f_Lot___init__ : FuncData
  f_Lot___eq__ : FuncData
  f_Lot_row : FuncData
  f_lot_at : FuncData
  f_first_numbers : FuncData
  f__are_numbers : FuncData
  f__are_points : FuncData
  f__law_is_integer : FuncData
  f__law_feed : FuncData
  f__law_take : FuncData
  f__law_number : FuncData
  f__law_is : FuncData
  f__law_row_is : FuncData
  f__law_poly_is : FuncData
  f__law_add : FuncData
  f__law_lot : FuncData
  f__law_numbers : FuncData
  f__law_lot_is : FuncData
  f__law_flag : FuncData
  f__law_part : FuncData
  f__law_spoiled : FuncData
  f_law : FuncData
/-- what the written part says -/
structure Txt (K : PySem.W.Frag) (mg : Str → Option Value) (A : Ad) (D : Fd) : Prop where
  g_Ratio : mg "Ratio" = some (.ref A.Ratio)
  k_Ratio : OwnK K A.Ratio
  kp_Ratio : PySem.W.keepIn K (.ref A.Ratio) = true
  M_Ratio : Mk K A.Ratio A.f_Ratio___init__
  g_Poly : mg "Poly" = some (.ref A.Poly)
  k_Poly : OwnB K A.Poly
  n_Poly_coefficients : NoAttr K A.Poly "coefficients"
  n_Poly_degree : NoAttr K A.Poly "degree"
  n_Poly_lead : NoAttr K A.Poly "lead"
  kp_Poly : PySem.W.keepIn K (.ref A.Poly) = true
  M_Poly : Mk K A.Poly A.f_Poly___init__
  g_Sure : mg "Sure" = some (.ref A.Sure)
  k_Sure : OwnB K A.Sure
  n_Sure_numbers : NoAttr K A.Sure "numbers"
  kp_Sure : PySem.W.keepIn K (.ref A.Sure) = true
  M_Sure : Mk K A.Sure A.f_Sure___init__
  g_Lot : mg "Lot" = some (.ref A.Lot)
  k_Lot : OwnB K A.Lot
  n_Lot_poly : NoAttr K A.Lot "poly"
  n_Lot_begin : NoAttr K A.Lot "begin"
  n_Lot_count : NoAttr K A.Lot "count"
  kp_Lot : PySem.W.keepIn K (.ref A.Lot) = true
  M_Lot : Mk K A.Lot A.f_Lot___init__
  g_MeansError : mg "MeansError" = some (.ref A.MeansError)
  g_NoBar : mg "NoBar" = some (.ref A.NoBar)
  g_NoNumber : mg "NoNumber" = some (.ref A.NoNumber)
  o_NoNumber : OexC K A.NoNumber
  x_NoNumber : XfC K A.NoNumber
  c_NoNumber : ExcC K A.NoNumber
  em_NoNumber : PySem.W.exmOne K (.ref A.NoNumber) (.ref A.NoNumber) = some true
  n_NoNumber_word : PySem.W.findIn K (.ref A.NoNumber) "word" = some none
  i_NoNumber : PySem.W.findIn K (.ref A.NoNumber) "__init__" = some (some (.ref A.f_NoNumber___init__))
  ti_NoNumber : PySem.W.typeIn K (.ref A.f_NoNumber___init__) = some (.type "function")
  g_NoLot : mg "NoLot" = some (.ref A.NoLot)
  o_NoLot : OexC K A.NoLot
  x_NoLot : XfC K A.NoLot
  c_NoLot : ExcC K A.NoLot
  em_NoLot : PySem.W.exmOne K (.ref A.NoLot) (.ref A.NoLot) = some true
  n_NoLot_part : PySem.W.findIn K (.ref A.NoLot) "part" = some none
  i_NoLot : PySem.W.findIn K (.ref A.NoLot) "__init__" = some (some (.ref A.f_NoLot___init__))
  ti_NoLot : PySem.W.typeIn K (.ref A.f_NoLot___init__) = some (.type "function")
  kit_NoLot_MeansError : PySem.W.kitOne K (.ref A.NoLot) (.ref A.MeansError) = some true
  kit_NoLot_NoBar : PySem.W.kitOne K (.ref A.NoLot) (.ref A.NoBar) = some false
  F_NoLot___init__ : Fun K "__init__" "NoLot.__init__" s_NoLot___init__ A.f_NoLot___init__ D.f_NoLot___init__
  b_NoLot___init__ : Binds K D.f_NoLot___init__ ["self", "part"] []
  m_NoLot___init__ : Meth K A.NoLot "__init__" A.f_NoLot___init__
  F_NoNumber___init__ : Fun K "__init__" "NoNumber.__init__" s_NoNumber___init__ A.f_NoNumber___init__ D.f_NoNumber___init__
  b_NoNumber___init__ : Binds K D.f_NoNumber___init__ ["self", "word"] []
  m_NoNumber___init__ : Meth K A.NoNumber "__init__" A.f_NoNumber___init__
  F_Ratio___init__ : FunD K "__init__" "Ratio.__init__" (defArgs s_Ratio___init__) (defBody s_Ratio___init__) (defScope s_Ratio___init__) [.int 1] [] A.f_Ratio___init__ D.f_Ratio___init__
  b_Ratio___init__ : Binds K D.f_Ratio___init__ ["self", "top", "bottom"] []
  b1_Ratio___init__ : ∃ ds, Vals [.int 1] ds ∧ Binds K D.f_Ratio___init__ ["self", "top", "bottom"] ds
  m_Ratio___init__ : Meth K A.Ratio "__init__" A.f_Ratio___init__
  F_Ratio___add__ : Fun K "__add__" "Ratio.__add__" s_Ratio___add__ A.f_Ratio___add__ D.f_Ratio___add__
  b_Ratio___add__ : Binds K D.f_Ratio___add__ ["self", "other"] []
  m_Ratio___add__ : Meth K A.Ratio "__add__" A.f_Ratio___add__
  F_Ratio___radd__ : Fun K "__radd__" "Ratio.__radd__" s_Ratio___radd__ A.f_Ratio___radd__ D.f_Ratio___radd__
  b_Ratio___radd__ : Binds K D.f_Ratio___radd__ ["self", "other"] []
  m_Ratio___radd__ : Meth K A.Ratio "__radd__" A.f_Ratio___radd__
  F_Ratio___mul__ : Fun K "__mul__" "Ratio.__mul__" s_Ratio___mul__ A.f_Ratio___mul__ D.f_Ratio___mul__
  b_Ratio___mul__ : Binds K D.f_Ratio___mul__ ["self", "other"] []
  m_Ratio___mul__ : Meth K A.Ratio "__mul__" A.f_Ratio___mul__
  F_Ratio___rmul__ : Fun K "__rmul__" "Ratio.__rmul__" s_Ratio___rmul__ A.f_Ratio___rmul__ D.f_Ratio___rmul__
  b_Ratio___rmul__ : Binds K D.f_Ratio___rmul__ ["self", "other"] []
  m_Ratio___rmul__ : Meth K A.Ratio "__rmul__" A.f_Ratio___rmul__
  F_Ratio___neg__ : Fun K "__neg__" "Ratio.__neg__" s_Ratio___neg__ A.f_Ratio___neg__ D.f_Ratio___neg__
  b_Ratio___neg__ : Binds K D.f_Ratio___neg__ ["self"] []
  m_Ratio___neg__ : Meth K A.Ratio "__neg__" A.f_Ratio___neg__
  F_Ratio___eq__ : Fun K "__eq__" "Ratio.__eq__" s_Ratio___eq__ A.f_Ratio___eq__ D.f_Ratio___eq__
  b_Ratio___eq__ : Binds K D.f_Ratio___eq__ ["self", "other"] []
  m_Ratio___eq__ : Meth K A.Ratio "__eq__" A.f_Ratio___eq__
  F_Ratio___le__ : Fun K "__le__" "Ratio.__le__" s_Ratio___le__ A.f_Ratio___le__ D.f_Ratio___le__
  b_Ratio___le__ : Binds K D.f_Ratio___le__ ["self", "other"] []
  m_Ratio___le__ : Meth K A.Ratio "__le__" A.f_Ratio___le__
  F_is_whole : Fun K "is_whole" "is_whole" s_is_whole A.f_is_whole D.f_is_whole
  b_is_whole : Binds K D.f_is_whole ["x"] []
  g_is_whole : mg "is_whole" = some (.ref A.f_is_whole)
  F_is_number : Fun K "is_number" "is_number" s_is_number A.f_is_number D.f_is_number
  b_is_number : Binds K D.f_is_number ["x"] []
  g_is_number : mg "is_number" = some (.ref A.f_is_number)
  F_ratio_of : Fun K "ratio_of" "ratio_of" s_ratio_of A.f_ratio_of D.f_ratio_of
  b_ratio_of : Binds K D.f_ratio_of ["number"] []
  g_ratio_of : mg "ratio_of" = some (.ref A.f_ratio_of)
  F_whole_parts : Fun K "whole_parts" "whole_parts" s_whole_parts A.f_whole_parts D.f_whole_parts
  b_whole_parts : Binds K D.f_whole_parts ["ratios"] []
  g_whole_parts : mg "whole_parts" = some (.ref A.f_whole_parts)
  F_sum_ratios : Fun K "_sum" "_sum" s_sum_ratios A.f_sum_ratios D.f_sum_ratios
  b_sum_ratios : Binds K D.f_sum_ratios ["one", "other"] []
  g_sum_ratios : mg "sum_ratios" = some (.ref A.f_sum_ratios)
  F_product_ratios : Fun K "_product" "_product" s_product_ratios A.f_product_ratios D.f_product_ratios
  b_product_ratios : Binds K D.f_product_ratios ["one", "other"] []
  g_product_ratios : mg "product_ratios" = some (.ref A.f_product_ratios)
  F__gap : Fun K "_gap" "_gap" s__gap A.f__gap D.f__gap
  b__gap : Binds K D.f__gap ["one", "other"] []
  g__gap : mg "_gap" = some (.ref A.f__gap)
  F_trimmed : Fun K "trimmed" "trimmed" s_trimmed A.f_trimmed D.f_trimmed
  b_trimmed : Binds K D.f_trimmed ["numbers"] []
  g_trimmed : mg "trimmed" = some (.ref A.f_trimmed)
  F_first_powers : Fun K "first_powers" "first_powers" s_first_powers A.f_first_powers D.f_first_powers
  b_first_powers : Binds K D.f_first_powers ["base", "many"] []
  g_first_powers : mg "first_powers" = some (.ref A.f_first_powers)
  F_paired : Fun K "paired" "paired" s_paired A.f_paired D.f_paired
  b_paired : Binds K D.f_paired ["factors", "tops"] []
  g_paired : mg "paired" = some (.ref A.f_paired)
  F_Poly___init__ : Fun K "__init__" "Poly.__init__" s_Poly___init__ A.f_Poly___init__ D.f_Poly___init__
  b_Poly___init__ : Binds K D.f_Poly___init__ ["self", "coefficients"] []
  m_Poly___init__ : Meth K A.Poly "__init__" A.f_Poly___init__
  F_Poly___eq__ : Fun K "__eq__" "Poly.__eq__" s_Poly___eq__ A.f_Poly___eq__ D.f_Poly___eq__
  b_Poly___eq__ : Binds K D.f_Poly___eq__ ["self", "other"] []
  m_Poly___eq__ : Meth K A.Poly "__eq__" A.f_Poly___eq__
  F_Poly___mul__ : Fun K "__mul__" "Poly.__mul__" s_Poly___mul__ A.f_Poly___mul__ D.f_Poly___mul__
  b_Poly___mul__ : Binds K D.f_Poly___mul__ ["self", "other"] []
  m_Poly___mul__ : Meth K A.Poly "__mul__" A.f_Poly___mul__
  F_Poly___rmul__ : Fun K "__rmul__" "Poly.__rmul__" s_Poly___rmul__ A.f_Poly___rmul__ D.f_Poly___rmul__
  b_Poly___rmul__ : Binds K D.f_Poly___rmul__ ["self", "other"] []
  m_Poly___rmul__ : Meth K A.Poly "__rmul__" A.f_Poly___rmul__
  F_poly_of : Fun K "poly_of" "poly_of" s_poly_of A.f_poly_of D.f_poly_of
  b_poly_of : Binds K D.f_poly_of ["q"] []
  g_poly_of : mg "poly_of" = some (.ref A.f_poly_of)
  F__is_operand : Fun K "_is_operand" "_is_operand" s__is_operand A.f__is_operand D.f__is_operand
  b__is_operand : Binds K D.f__is_operand ["x"] []
  g__is_operand : mg "_is_operand" = some (.ref A.f__is_operand)
  F_product_polys : Fun K "_product" "_product" s_product_polys A.f_product_polys D.f_product_polys
  b_product_polys : Binds K D.f_product_polys ["one", "other"] []
  g_product_polys : mg "product_polys" = some (.ref A.f_product_polys)
  F_continued : Fun K "continued" "continued" s_continued A.f_continued D.f_continued
  b_continued : Binds K D.f_continued ["tops", "begin", "many"] []
  g_continued : mg "continued" = some (.ref A.f_continued)
  F_Sure___init__ : Fun K "__init__" "Sure.__init__" s_Sure___init__ A.f_Sure___init__ D.f_Sure___init__
  b_Sure___init__ : Binds K D.f_Sure___init__ ["self", "numbers"] []
  m_Sure___init__ : Meth K A.Sure "__init__" A.f_Sure___init__
  F_Lot___init__ : Fun K "__init__" "Lot.__init__" s_Lot___init__ A.f_Lot___init__ D.f_Lot___init__
  b_Lot___init__ : Binds K D.f_Lot___init__ ["self", "poly", "begin"] []
  m_Lot___init__ : Meth K A.Lot "__init__" A.f_Lot___init__
  F_Lot___eq__ : Fun K "__eq__" "Lot.__eq__" s_Lot___eq__ A.f_Lot___eq__ D.f_Lot___eq__
  b_Lot___eq__ : Binds K D.f_Lot___eq__ ["self", "other"] []
  m_Lot___eq__ : Meth K A.Lot "__eq__" A.f_Lot___eq__
  F_Lot_row : Fun K "row" "Lot.row" s_Lot_row A.f_Lot_row D.f_Lot_row
  b_Lot_row : Binds K D.f_Lot_row ["self", "d"] []
  m_Lot_row : Meth K A.Lot "row" A.f_Lot_row
  F_lot_at : Fun K "lot_at" "lot_at" s_lot_at A.f_lot_at D.f_lot_at
  b_lot_at : Binds K D.f_lot_at ["points", "weights"] []
  kb1_lot_at : KBn K D.f_lot_at ["points", "weights"] 1 ["weights"] (fun us ws => us ++ ws) (fun vs zs => vs ++ zs)
  g_lot_at : mg "lot_at" = some (.ref A.f_lot_at)
  F_first_numbers : Fun K "first_numbers" "first_numbers" s_first_numbers A.f_first_numbers D.f_first_numbers
  b_first_numbers : Binds K D.f_first_numbers ["lot", "many"] []
  g_first_numbers : mg "first_numbers" = some (.ref A.f_first_numbers)
  F__are_numbers : Fun K "_are_numbers" "_are_numbers" s__are_numbers A.f__are_numbers D.f__are_numbers
  b__are_numbers : Binds K D.f__are_numbers ["numbers", "many"] []
  g__are_numbers : mg "_are_numbers" = some (.ref A.f__are_numbers)
  F__are_points : Fun K "_are_points" "_are_points" s__are_points A.f__are_points D.f__are_points
  b__are_points : Binds K D.f__are_points ["points"] []
  g__are_points : mg "_are_points" = some (.ref A.f__are_points)
  F__law_is_integer : Fun K "_law_is_integer" "_law_is_integer" s__law_is_integer A.f__law_is_integer D.f__law_is_integer
  b__law_is_integer : Binds K D.f__law_is_integer ["_law_value"] []
  g__law_is_integer : mg "_law_is_integer" = some (.ref A.f__law_is_integer)
  F__law_feed : Fun K "_law_feed" "_law_feed" s__law_feed A.f__law_feed D.f__law_feed
  b__law_feed : Binds K D.f__law_feed ["_law_script"] []
  g__law_feed : mg "_law_feed" = some (.ref A.f__law_feed)
  F__law_take : Fun K "_law_take" "_law_take" s__law_take A.f__law_take D.f__law_take
  b__law_take : Binds K D.f__law_take ["_law_feed_here", "_law_size"] []
  g__law_take : mg "_law_take" = some (.ref A.f__law_take)
  F__law_number : Fun K "_law_number" "_law_number" s__law_number A.f__law_number D.f__law_number
  b__law_number : Binds K D.f__law_number ["_law_feed_here", "_law_size"] []
  g__law_number : mg "_law_number" = some (.ref A.f__law_number)
  F__law_is : Fun K "_law_is" "_law_is" s__law_is A.f__law_is D.f__law_is
  b__law_is : Binds K D.f__law_is ["_law_value", "_law_top", "_law_bottom"] []
  g__law_is : mg "_law_is" = some (.ref A.f__law_is)
  F__law_row_is : Fun K "_law_row_is" "_law_row_is" s__law_row_is A.f__law_row_is D.f__law_row_is
  b__law_row_is : Binds K D.f__law_row_is ["_law_values", "_law_pairs"] []
  g__law_row_is : mg "_law_row_is" = some (.ref A.f__law_row_is)
  F__law_poly_is : Fun K "_law_poly_is" "_law_poly_is" s__law_poly_is A.f__law_poly_is D.f__law_poly_is
  b__law_poly_is : Binds K D.f__law_poly_is ["_law_p", "_law_pairs"] []
  g__law_poly_is : mg "_law_poly_is" = some (.ref A.f__law_poly_is)
  F__law_add : Fun K "_law_add" "_law_add" s__law_add A.f__law_add D.f__law_add
  b__law_add : Binds K D.f__law_add ["_law_a", "_law_b"] []
  g__law_add : mg "_law_add" = some (.ref A.f__law_add)
  F__law_lot : Fun K "_law_lot" "_law_lot" s__law_lot A.f__law_lot D.f__law_lot
  b__law_lot : Binds K D.f__law_lot ["_law_feed_here", "_law_most"] []
  g__law_lot : mg "_law_lot" = some (.ref A.f__law_lot)
  F__law_numbers : Fun K "_law_numbers" "_law_numbers" s__law_numbers A.f__law_numbers D.f__law_numbers
  b__law_numbers : Binds K D.f__law_numbers ["_law_lot_here", "_law_d"] []
  g__law_numbers : mg "_law_numbers" = some (.ref A.f__law_numbers)
  F__law_lot_is : Fun K "_law_lot_is" "_law_lot_is" s__law_lot_is A.f__law_lot_is D.f__law_lot_is
  b__law_lot_is : Binds K D.f__law_lot_is ["_law_lot_here", "_law_due"] []
  g__law_lot_is : mg "_law_lot_is" = some (.ref A.f__law_lot_is)
  F__law_flag : Fun K "_law_flag" "_law_flag" s__law_flag A.f__law_flag D.f__law_flag
  b__law_flag : Binds K D.f__law_flag ["_law_value", "_law_due"] []
  g__law_flag : mg "_law_flag" = some (.ref A.f__law_flag)
  F__law_part : Fun K "_law_part" "_law_part" s__law_part A.f__law_part D.f__law_part
  b__law_part : Binds K D.f__law_part ["_law_points", "_law_weights"] []
  g__law_part : mg "_law_part" = some (.ref A.f__law_part)
  F__law_spoiled : Fun K "_law_spoiled" "_law_spoiled" s__law_spoiled A.f__law_spoiled D.f__law_spoiled
  b__law_spoiled : Binds K D.f__law_spoiled ["_law_feed_here", "_law_points", "_law_weights"] []
  g__law_spoiled : mg "_law_spoiled" = some (.ref A.f__law_spoiled)
  F_law : Fun K "law" "law" s_law A.f_law D.f_law
  b_law : Binds K D.f_law ["_law_script"] []
  g_law : mg "law" = some (.ref A.f_law)
  kit_RP : PySem.W.kitOne K (.ref A.Ratio) (.ref A.Poly) = some false
  sub_RP : PySem.W.subIn K (.ref A.Ratio) (.ref A.Poly) = some false
  sub_PR : PySem.W.subIn K (.ref A.Poly) (.ref A.Ratio) = some false
  kit_PR : PySem.W.kitOne K (.ref A.Poly) (.ref A.Ratio) = some false
  ik_str : PySem.W.kitOne K (.type "str") (.ref A.Ratio) = some false
  ik_bool : PySem.W.kitOne K (.type "bool") (.ref A.Ratio) = some false
  ik_NoneType : PySem.W.kitOne K (.type "NoneType") (.ref A.Ratio) = some false
  ik_list : PySem.W.kitOne K (.type "list") (.ref A.Ratio) = some false
  z_isinstance : mg "isinstance" = none
  z_int : mg "int" = none
  z_bool : mg "bool" = none
  z_abs : mg "abs" = none
  z_len : mg "len" = none
  z_max : mg "max" = none
  z_range : mg "range" = none
  z_list : mg "list" = none
  z_tuple : mg "tuple" = none
  z_min : mg "min" = none
  z_sum : mg "sum" = none
  z_any : mg "any" = none
  z_all : mg "all" = none
  z_NotImplemented : mg "NotImplemented" = none
  g_MOST_POINTS : ∃ t, mg "MOST_POINTS" = some (.int 8 t)
  g_LAST_NUMBER : ∃ t, mg "LAST_NUMBER" = some (.int 60 t)
  g_gcd : mg "gcd" = some (.builtin "math.gcd")
  g_lcm : mg "lcm" = some (.builtin "math.lcm")

section
variable {P : Program} {w : World} {K : PySem.W.Frag} {mg : Str → Option Value} {base : Heap} {A : Ad} {D : Fd}
/-- whether x is an int and no bool -/
def WholeV (K : PySem.W.Frag) (H : Hp) (x : V) (b : Bool) : Prop := ∃ t b1 b2, TyX K H x t ∧ PySem.W.kitOne K t (.type "int") = some b1 ∧ (b1 = true → PySem.W.kitOne K t (.type "bool") = some b2) ∧ b = (b1 && !b2)
theorem whole_int {K : PySem.W.Frag} (i : Int) {H : Hp} : WholeV K H (.int i) true := ⟨_, true, false, .base (.int i), kit_ty (by decide +kernel), fun _ => kit_ty (by decide +kernel), rfl⟩
def sp_is_whole (K : PySem.W.Frag) : Sp := fun vs H Q _ => ∃ x b, vs = [x] ∧ WholeV K H x b ∧ Q (.bl b) H
theorem ok_is_whole (T : Txt K mg A D) : FnOk P w K mg base CX0 1 A.f_is_whole D.f_is_whole ["x"] (sp_is_whole K) := by
  skip
  refine T.F_is_whole.ok sc_is_whole (fun vs H Q E h => ?_) (fun cdv A' outer s H vs Q E hr h => ?_)
  · obtain ⟨x, b, rfl, _⟩ := h
    rfl
  · obtain ⟨x, b, rfl, ⟨t, b1, b2, ty, e1, e2, rfl⟩, q⟩ := h
    refine ⟨_, (pss_one (ps_ret (pe_and (pe_callB call_isi rfl T.z_isinstance (by decide +kernel) (pa_cons (pv 0) (pa_cons (pe_bltn (v := .ty "int") rfl T.z_int (by decide +kernel) rfl) pa_nil))) (pe_one (pe_not (pe_callB call_isi rfl T.z_isinstance (by decide +kernel) (pa_cons (pv 0) (pa_cons (pe_bltn (v := .ty "bool") rfl T.z_bool (by decide +kernel) rfl) pa_nil)))))))), ?_⟩
    refine ⟨x, rfl, x, .ty "int", t, _, b1, rfl, .ty _, ty, e1, b1, rfl, ?_⟩
    cases b1 with
    | false => exact iteF q
    | true => exact iteT ⟨x, rfl, x, .ty "bool", t, _, b2, rfl, .ty _, ty, e2 rfl, b2, rfl, q⟩
theorem ty_same {H H' : Hp} {x : V} {t : Value} (s : Same H H') (h : TyX K H x t) : TyX K H' x t := by
  cases h with
  | base b =>
    refine .base ?_
    cases b with
    | non => exact .non
    | bl y => exact .bl y
    | int i => exact .int i
    | str y => exact .str y
    | flt y => exact .flt y
    | lst e => exact .lst (s _ _ e)
    | frz e => exact .frz (s _ _ e)
    | tup e => exact .tup (s _ _ e)
    | dK e => exact .dK (s _ _ e)
    | dT e => exact .dT (s _ _ e)
    | ins e a b c d f => exact .ins (s _ _ e) a b c d f
  | byt b => exact .byt b
  | set e => exact .set (s _ _ e)
  | kList e c => exact .kList e c
  | kTuple e c => exact .kTuple e c
  | kDict e c => exact .kDict e c
  | fTuple e => exact .fTuple (s _ _ e)
  | fDict e => exact .fDict (s _ _ e)
theorem WholeV.same {H H' : Hp} {x : V} {b : Bool} (h : WholeV K H x b) (s : Same H H') : WholeV K H' x b := by
  obtain ⟨t, b1, b2, ty, r⟩ := h
  exact ⟨t, b1, b2, ty_same s ty, r⟩
/-- neither a Ratio nor an integer -/
def NoNum (K : PySem.W.Frag) (C : Addr) (H : Hp) (x : V) : Prop := ∃ t, TyX K H x t ∧ PySem.W.kitOne K t (.ref C) = some false ∧ WholeV K H x false
theorem NoNum.same {C : Addr} {H H' : Hp} {x : V} (h : NoNum K C H x) (s : Same H H') : NoNum K C H' x := by
  obtain ⟨t, ty, e, w⟩ := h
  exact ⟨t, ty_same s ty, e, w.same s⟩
def sp_isnum (K : PySem.W.Frag) (C : Addr) : Sp := fun vs H Q _ => ∃ x, vs = [x] ∧ ((((∃ i, x = .int i) ∨ Ins H x C) ∧ Q (.bl true) H) ∨ (NoNum K C H x ∧ Q (.bl false) H))
theorem ok_is_number (T : Txt K mg A D) : FnOk P w K mg base CX0 2 A.f_is_number D.f_is_number ["x"] (sp_isnum K A.Ratio) := by
  have G_is_whole : FnOk P w K mg base CX0 1 A.f_is_whole D.f_is_whole ["x"] (sp_is_whole K) := ok_is_whole T
  refine T.F_is_number.ok sc_is_number (fun vs H Q E h => ?_) (fun cdv A' outer s H vs Q E hr h => ?_)
  · obtain ⟨x, rfl, _⟩ := h
    rfl
  · obtain ⟨x, rfl, hx⟩ := h
    refine ⟨_, (pss_one (ps_ret (pe_or (pe_callB call_isi rfl T.z_isinstance (by decide +kernel) (pa_cons (pv 0) (pa_cons (pe_glob (v := .ref A.Ratio) rfl T.g_Ratio rfl) pa_nil))) (pe_one (pe_call G_is_whole (hr.mono (by decide)) rfl T.g_is_whole T.F_is_whole.kp T.b_is_whole .nil pass0 (pa_cons (pv 0) pa_nil)))))), ?_⟩
    rcases hx with ⟨⟨i, rfl⟩ | ⟨a, dx, fs, rfl, ha⟩, q⟩ | ⟨⟨t, ty, e, w⟩, q⟩
    · exact ⟨.int i, rfl, .int i, .ref A.Ratio, _, _, false, rfl, .own _, .base (.int i), T.k_Ratio.ik, false, rfl, iteF ⟨.int i, rfl, _, _, rfl, whole_int i, q⟩⟩
    · exact ⟨.ref a, rfl, .ref a, .ref A.Ratio, _, _, true, rfl, .own _, T.k_Ratio.ty ha, kit_self, true, rfl, iteT q⟩
    · exact ⟨x, rfl, x, .ref A.Ratio, t, _, false, rfl, .own _, ty, e, false, rfl, iteF ⟨x, rfl, _, _, rfl, w, q⟩⟩
def sp_init (C : Addr) : Sp := fun vs H Q _ => ∃ x dx t b, vs = [.ref x, .int t, .int b] ∧ H x = some (.ins C dx []) ∧ b ≠ 0 ∧ Sm b ∧ Q .non (upd H x (ratO C dx ((t : Rat) / (b : Rat))))
theorem rat_make {C : Addr} {H : Hp} {t b : Int} {Q : Hp → Prop} {E : XK} {x dx : Addr} (hb : b ≠ 0) (sb : Sm b) (nx : H x = none) (nd : H dx = none) (ne : dx ≠ x) (q : ∀ G, Same H G → RatV C G (.ref x) ((t : Rat) / (b : Rat)) → Q G) :
    sp_init C [.ref x, .int t, .int b] (upd (upd H dx (.own x)) x (.ins C dx [])) (fun v G => v = .non ∧ Q G) E :=
  ⟨x, dx, t, b, rfl, upd_same, hb, sb, rfl, q _ (madeV nx nd ne _).1 (madeV nx nd ne _).2⟩
theorem ok_Ratio___init__ (T : Txt K mg A D) : FnOk P w K mg base CX0 2 A.f_Ratio___init__ D.f_Ratio___init__ ["self", "top", "bottom"] (sp_init A.Ratio) := by
  have G_is_whole : FnOk P w K mg base CX0 1 A.f_is_whole D.f_is_whole ["x"] (sp_is_whole K) := ok_is_whole T
  refine T.F_Ratio___init__.ok sc_Ratio___init__ (fun vs H Q E h => ?_) (fun cdv A' outer s H vs Q E hr h => ?_)
  · obtain ⟨x, dx, t, b, rfl, _⟩ := h
    rfl
  · obtain ⟨x, dx, t, b, rfl, hx, hb, sb, q⟩ := h
    refine ⟨_, (pss_cons (ps_if (pt_not (pt_val (pe_call G_is_whole (hr.mono (by decide)) rfl T.g_is_whole T.F_is_whole.kp T.b_is_whole .nil pass0 (pa_cons (pv 1) pa_nil)))) (pss_one ps_never) pss_nil)
  (pss_cons (ps_if (pt_not (pt_val (pe_call G_is_whole (hr.mono (by decide)) rfl T.g_is_whole T.F_is_whole.kp T.b_is_whole .nil pass0 (pa_cons (pv 2) pa_nil)))) (pss_one ps_never) pss_nil)
  (pss_cons (ps_if (pt_cmpR op_eq (pv 2) pe_int (nomark _)) (pss_one ps_never) pss_nil)
  (pss_cons (ps_set (i := 3) sc_Ratio___init__.nd rfl (.inl rfl) (pe_callBfun cr_gcd rfl T.g_gcd (pa_cons (pv 1) (pa_cons (pv 2) pa_nil))))
  (pss_cut (ps_if (pt_cmpR op_lt (pv 2) pe_int (nomark _)) (pss_one (ps_set (i := 3) sc_Ratio___init__.nd rfl (.inl rfl) (pe_un un_neg (pv 3)))) pss_nil)
  (pss_cons (ps_fld (pv 0) (pe_op op_fdivA (pv 1) (pv 3)) rfl)
  (pss_one (ps_fld (pv 0) (pe_op op_fdivA (pv 2) (pv 3)) rfl)))))))), ?_⟩
    refine ⟨_, rfl, _, _, rfl, whole_int t, true, rfl, iteF ?_⟩
    refine ⟨_, rfl, _, _, rfl, whole_int b, true, rfl, iteF ?_⟩
    have e0 : decide (V.int b = V.int 0) = false := decide_eq_false fun z => hb (V.int.inj z)
    refine ⟨_, rfl, rfl, _, rfl, ?_⟩
    rw [e0]
    refine iteF ⟨_, rfl, _, rfl, t, b, rfl, ?_⟩
    obtain ⟨g0, gl, nm⟩ := Norm.make (t := t) hb _ rfl
    refine ⟨fun σ' H' => H' = H ∧ ∃ g : Int, (g ≠ 0 ∧ g.natAbs ≤ b.natAbs ∧ Norm t b (t.fdiv g) (b.fdiv g)) ∧ σ' = [some (.ref x), some (.int t), some (.int b), some (.int g)], ?_, ?_⟩
    · refine ⟨_, rfl, _, _, rfl, rfl, _, rfl, ?_⟩
      by_cases hneg : b < 0
      · rw [if_pos hneg] at g0 gl nm
        rw [decide_eq_true hneg]
        exact iteT ⟨_, rfl, _, rfl, rfl, _, ⟨g0, gl, nm⟩, rfl⟩
      · rw [if_neg hneg] at g0 gl nm
        rw [decide_eq_false hneg]
        exact iteF ⟨rfl, _, ⟨g0, gl, nm⟩, rfl⟩
    · rintro σ' H' ⟨rfl, g, ⟨h0, h1, hn⟩, rfl⟩
      have sg : Sm g := sb.le h1
      refine ⟨_, rfl, _, rfl, t, g, rfl, rfl, Sm.div h0 sg, _, rfl, x, A.Ratio, dx, _, rfl, hx, T.k_Ratio.cl, T.k_Ratio.n_top, (by show 0 < 1000; decide), ?_⟩
      refine ⟨_, rfl, _, rfl, b, g, rfl, rfl, Sm.div h0 sg, _, rfl, x, A.Ratio, dx, _, rfl, upd_same, T.k_Ratio.cl, T.k_Ratio.n_bottom, (by show 1 < 1000; decide), ?_⟩
      show Q .non _
      rw [upd_upd]
      obtain ⟨e1, e2⟩ := hn.rat
      have e3 : (HO.ins A.Ratio dx [("top", .int (t.fdiv g)), ("bottom", .int (b.fdiv g))]) = ratO A.Ratio dx ((t : Rat) / (b : Rat)) := by
        show _ = HO.ins A.Ratio dx [("top", .int _), ("bottom", .int _)]
        rw [e1, e2]
      exact e3 ▸ q
def sp_gap (C : Addr) : Sp := fun vs H Q _ => ∃ x y a b, vs = [x, y] ∧ RatV C H x a ∧ NumV C H y b ∧ Bd 3900 3900 a ∧ Bd 3900 3900 b ∧ Q (.int (a.num * (b.den : Int) - b.num * (a.den : Int))) H
theorem ok__gap (T : Txt K mg A D) : FnOk P w K mg base CX0 1 A.f__gap D.f__gap ["one", "other"] (sp_gap A.Ratio) := by
  skip
  refine T.F__gap.ok sc__gap (fun vs H Q E h => ?_) (fun cdv A' outer s H vs Q E hr h => ?_)
  · obtain ⟨x, y, a, b, rfl, _⟩ := h
    rfl
  · obtain ⟨x, y, a, b, rfl, ⟨p, dx, rfl, hp⟩, hy, ba, bb, q⟩ := h
    refine ⟨_, (pss_cons (ps_if (pt_val (pe_callB call_isi rfl T.z_isinstance (by decide +kernel) (pa_cons (pv 1) (pa_cons (pe_glob (v := .ref A.Ratio) rfl T.g_Ratio rfl) pa_nil)))) (pss_one (ps_ret (pe_op op_sub (pe_op op_mulW (pe_fld (pv 0) rfl) (pe_fld (pv 1) rfl)) (pe_op op_mulW (pe_fld (pv 1) rfl) (pe_fld (pv 0) rfl))))) pss_nil)
  (pss_one (ps_ret (pe_op op_sub (pe_fld (pv 0) rfl) (pe_op op_mulW (pv 1) (pe_fld (pv 0) rfl)))))), ?_⟩
    have cl := T.k_Ratio.cl
    have nt := T.k_Ratio.n_top
    have nb := T.k_Ratio.n_bottom
    have s1 := ba.s1 (by decide)
    have s2 := ba.s2 (by decide)
    have s3 := bb.s1 (by decide)
    have s4 := bb.s2 (by decide)
    rcases hy with ⟨i, rfl, rfl⟩ | ⟨c, dy, rfl, hc⟩
    · refine ⟨_, rfl, .int i, .ref A.Ratio, _, _, false, rfl, .own _, .base (.int i), T.k_Ratio.ik, false, rfl, iteF ?_⟩
      refine ⟨_, rfl, p, A.Ratio, dx, _, _, rfl, hp, cl, nt, rfl, ?_⟩
      obtain ⟨e1, e2⟩ := int_parts i
      rw [e1] at s3
      refine ⟨_, rfl, _, rfl, p, A.Ratio, dx, _, _, rfl, hp, cl, nb, rfl, _, _, rfl, rfl, Sm.mul s3 s2, _, _, rfl, rfl, ?_⟩
      rw [e1, e2, Int.mul_one] at q
      exact q
    · refine ⟨_, rfl, .ref c, .ref A.Ratio, _, _, true, rfl, .own _, T.k_Ratio.ty hc, kit_self, true, rfl, iteT ?_⟩
      refine ⟨_, rfl, p, A.Ratio, dx, _, _, rfl, hp, cl, nt, rfl, _, rfl, c, A.Ratio, dy, _, _, rfl, hc, cl, nb, rfl, _, _, rfl, rfl, Sm.mul s1 s4, ?_⟩
      exact ⟨_, rfl, c, A.Ratio, dy, _, _, rfl, hc, cl, nt, rfl, _, rfl, p, A.Ratio, dx, _, _, rfl, hp, cl, nb, rfl, _, _, rfl, rfl, Sm.mul s3 s2, _, _, rfl, rfl, q⟩
/-- a comparison -/
def sp_cmp (C : Addr) (r : Rat → Rat → Bool) : Sp := fun vs H Q _ => ∃ x y a b, vs = [x, y] ∧ RatV C H x a ∧ NumV C H y b ∧ Bd 3900 3900 a ∧ Bd 3900 3900 b ∧ Q (.bl (r a b)) H
abbrev r_eq : Rat → Rat → Bool := fun a b => decide (a = b)
abbrev r_lt : Rat → Rat → Bool := fun a b => decide (a < b)
abbrev r_le : Rat → Rat → Bool := fun a b => decide (a ≤ b)
abbrev r_gt : Rat → Rat → Bool := fun a b => decide (b < a)
abbrev r_ge : Rat → Rat → Bool := fun a b => decide (b ≤ a)
theorem gap_eq' (x y : Rat) : decide (V.int (x.num * (y.den : Int) - y.num * (x.den : Int)) = V.int 0) = decide (x = y) := by
  rw [Bool.eq_iff_iff, decide_eq_true_iff, decide_eq_true_iff, gap_eq]
  exact ⟨V.int.inj, fun e => by rw [e]⟩
theorem gap_gt (x y : Rat) : y < x ↔ 0 < x.num * (y.den : Int) - y.num * (x.den : Int) := by
  rw [gap_lt]
  omega
theorem gap_ge (x y : Rat) : y ≤ x ↔ 0 ≤ x.num * (y.den : Int) - y.num * (x.den : Int) := by
  rw [gap_le]
  omega
theorem ok_Ratio___eq__ (T : Txt K mg A D) : FnOk P w K mg base CX0 3 A.f_Ratio___eq__ D.f_Ratio___eq__ ["self", "other"] (sp_cmp A.Ratio r_eq) := by
  have G__gap : FnOk P w K mg base CX0 1 A.f__gap D.f__gap ["one", "other"] (sp_gap A.Ratio) := ok__gap T
  have G_is_number : FnOk P w K mg base CX0 2 A.f_is_number D.f_is_number ["x"] (sp_isnum K A.Ratio) := ok_is_number T
  refine T.F_Ratio___eq__.ok sc_Ratio___eq__ (fun vs H Q E h => ?_) (fun cdv A' outer s H vs Q E hr h => ?_)
  · obtain ⟨x, y, a, b, rfl, _⟩ := h
    rfl
  · obtain ⟨x, y, a, b, rfl, hx, hy, ba, bb, q⟩ := h
    refine ⟨_, (pss_cons (ps_if (pt_not (pt_val (pe_call G_is_number (hr.mono (by decide)) rfl T.g_is_number T.F_is_number.kp T.b_is_number .nil pass0 (pa_cons (pv 1) pa_nil)))) (pss_one ps_never) pss_nil)
  (pss_one (ps_ret (pe_cmpR op_eq (pe_call G__gap (hr.mono (by decide)) rfl T.g__gap T.F__gap.kp T.b__gap .nil pass0 (pa_cons (pv 0) (pa_cons (pv 1) pa_nil))) pe_int (nomark _))))), ?_⟩
    refine ⟨_, rfl, _, rfl, .inl ⟨hy.kind, true, rfl, iteF ?_⟩⟩
    refine ⟨_, rfl, _, rfl, _, _, _, _, rfl, hx, hy, ba, bb, rfl, ?_⟩
    show Q (.bl (decide (V.int (a.num * (b.den : Int) - b.num * (a.den : Int)) = V.int 0))) H
    rw [gap_eq']
    exact q
def sp_ratio_of (C : Addr) : Sp := fun vs H Q _ => ∃ x a, vs = [x] ∧ NumV C H x a ∧ ∀ H' v, Same H H' → RatV C H' v a → Q v H'
theorem one_div (i : Int) : (i : Rat) / ((1 : Int) : Rat) = (i : Rat) := div_eq (by decide) (by rw [Rat.intCast_one, Rat.mul_one])
theorem so : Sm 1 := .ab (by decide) (by decide)
theorem ok_ratio_of (T : Txt K mg A D) : FnOk P w K mg base CX0 4 A.f_ratio_of D.f_ratio_of ["number"] (sp_ratio_of A.Ratio) := by
  have G_Ratio_init : FnOk P w K mg base CX0 2 A.f_Ratio___init__ D.f_Ratio___init__ ["self", "top", "bottom"] (sp_init A.Ratio) := ok_Ratio___init__ T
  obtain ⟨ds1, d_Ratio_init1, b_Ratio_init1⟩ := T.b1_Ratio___init__
  refine T.F_ratio_of.ok sc_ratio_of (fun vs H Q E h => ?_) (fun cdv A' outer s H vs Q E hr h => ?_)
  · obtain ⟨x, a, rfl, _⟩ := h
    rfl
  · obtain ⟨x, a, rfl, hx, q⟩ := h
    refine ⟨_, (pss_cons (ps_if (pt_val (pe_callB call_isi rfl T.z_isinstance (by decide +kernel) (pa_cons (pv 0) (pa_cons (pe_glob (v := .ref A.Ratio) rfl T.g_Ratio rfl) pa_nil)))) (pss_one (ps_ret (pv 0))) pss_nil)
  (pss_one (ps_ret (pe_make T.M_Ratio G_Ratio_init (hr.mono (by decide)) rfl T.g_Ratio b_Ratio_init1 d_Ratio_init1 pass0 (pa_cons (pv 0) pa_nil))))), ?_⟩
    rcases hx with ⟨i, rfl, rfl⟩ | ⟨c, dy, rfl, hc⟩
    · refine ⟨_, rfl, .int i, .ref A.Ratio, _, _, false, rfl, .own _, .base (.int i), T.k_Ratio.ik, false, rfl, iteF ?_⟩
      exact ⟨_, rfl, fun x dx nx nd ne => rat_make (by decide) so nx nd ne fun G s r => q G _ s (r.to (one_div i))⟩
    · refine ⟨_, rfl, .ref c, .ref A.Ratio, _, _, true, rfl, .own _, T.k_Ratio.ty hc, kit_self, true, rfl, iteT ?_⟩
      exact ⟨_, rfl, q _ _ (Same.refl H) ⟨c, dy, rfl, hc⟩⟩
/-- two Ratios in, a Ratio out -/
def sp_put (C : Addr) (f : Rat → Rat → Rat) : Sp := fun vs H Q _ => ∃ x y a b, vs = [x, y] ∧ RatV C H x a ∧ RatV C H y b ∧ Bd 1990 1990 a ∧ Bd 1990 1990 b ∧ ∀ H' v, Same H H' → RatV C H' v (f a b) → Q v H'
/-- a Ratio and a number in, a Ratio out -/
def sp_bin (C : Addr) (f : Rat → Rat → Rat) : Sp := fun vs H Q _ => ∃ x y a b, vs = [x, y] ∧ RatV C H x a ∧ NumV C H y b ∧ Bd 1990 1990 a ∧ Bd 1990 1990 b ∧ ∀ H' v, Same H H' → RatV C H' v (f a b) → Q v H'
/-- the same, the number on the left -/
def sp_rbin (C : Addr) (f : Rat → Rat → Rat) : Sp := fun vs H Q _ => ∃ x y a b, vs = [x, y] ∧ RatV C H x a ∧ NumV C H y b ∧ Bd 1990 1990 a ∧ Bd 1990 1990 b ∧ ∀ H' v, Same H H' → RatV C H' v (f b a) → Q v H'
abbrev f_sum : Rat → Rat → Rat := fun a b => a + b
abbrev f_dif : Rat → Rat → Rat := fun a b => a - b
abbrev f_pro : Rat → Rat → Rat := fun a b => a * b
theorem dd_sm {a b : Rat} (ba : Bd 1990 1990 a) (bb : Bd 1990 1990 b) : Sm ((a.den : Int) * (b.den : Int)) := sm_of (nmul ba.d bb.d) (by decide)
theorem ok_sum_ratios (T : Txt K mg A D) : FnOk P w K mg base CX0 4 A.f_sum_ratios D.f_sum_ratios ["one", "other"] (sp_put A.Ratio f_sum) := by
  have G_Ratio_init : FnOk P w K mg base CX0 2 A.f_Ratio___init__ D.f_Ratio___init__ ["self", "top", "bottom"] (sp_init A.Ratio) := ok_Ratio___init__ T
  have b_Ratio_init2 := T.b_Ratio___init__
  have d_Ratio_init2 : Vals [] [] := .nil
  refine T.F_sum_ratios.ok sc_sum_ratios (fun vs H Q E h => ?_) (fun cdv A' outer s H vs Q E hr h => ?_)
  · obtain ⟨x, y, a, b, rfl, _⟩ := h
    rfl
  · obtain ⟨x, y, a, b, rfl, ⟨p, dx, rfl, hp⟩, ⟨c, dy, rfl, hc⟩, ba, bb, q⟩ := h
    refine ⟨_, (pss_one (ps_ret (pe_make T.M_Ratio G_Ratio_init (hr.mono (by decide)) rfl T.g_Ratio b_Ratio_init2 d_Ratio_init2 pass0 (pa_cons (pe_op op_add (pe_op op_mulW (pe_fld (pv 0) rfl) (pe_fld (pv 1) rfl)) (pe_op op_mulW (pe_fld (pv 1) rfl) (pe_fld (pv 0) rfl))) (pa_cons (pe_op op_mulW (pe_fld (pv 0) rfl) (pe_fld (pv 1) rfl)) pa_nil))))), ?_⟩
    have cl := T.k_Ratio.cl
    have nt := T.k_Ratio.n_top
    have nb := T.k_Ratio.n_bottom
    have s1 := ba.s1 (by decide)
    have s2 := ba.s2 (by decide)
    have s3 := bb.s1 (by decide)
    have s4 := bb.s2 (by decide)
    refine ⟨_, rfl, p, A.Ratio, dx, _, _, rfl, hp, cl, nt, rfl, _, rfl, c, A.Ratio, dy, _, _, rfl, hc, cl, nb, rfl, _, _, rfl, rfl, s1.mul s4, ?_⟩
    refine ⟨_, rfl, c, A.Ratio, dy, _, _, rfl, hc, cl, nt, rfl, _, rfl, p, A.Ratio, dx, _, _, rfl, hp, cl, nb, rfl, _, _, rfl, rfl, s3.mul s2, _, _, rfl, rfl, ?_⟩
    refine ⟨_, rfl, p, A.Ratio, dx, _, _, rfl, hp, cl, nb, rfl, _, rfl, c, A.Ratio, dy, _, _, rfl, hc, cl, nb, rfl, _, _, rfl, rfl, s2.mul s4, ?_⟩
    exact fun x dx nx nd ne => rat_make (dd_ne a b) (dd_sm ba bb) nx nd ne fun G s r => q G _ s (r.to (div_eq (dd_ne a b) (add_q a b)))
theorem ok_Ratio___add__ (T : Txt K mg A D) : FnOk P w K mg base CX0 5 A.f_Ratio___add__ D.f_Ratio___add__ ["self", "other"] (sp_bin A.Ratio f_sum) := by
  have G_is_number : FnOk P w K mg base CX0 2 A.f_is_number D.f_is_number ["x"] (sp_isnum K A.Ratio) := ok_is_number T
  have G_ratio_of : FnOk P w K mg base CX0 4 A.f_ratio_of D.f_ratio_of ["number"] (sp_ratio_of A.Ratio) := ok_ratio_of T
  have G_sum_ratios : FnOk P w K mg base CX0 4 A.f_sum_ratios D.f_sum_ratios ["one", "other"] (sp_put A.Ratio f_sum) := ok_sum_ratios T
  refine T.F_Ratio___add__.ok sc_Ratio___add__ (fun vs H Q E h => ?_) (fun cdv A' outer s H vs Q E hr h => ?_)
  · obtain ⟨x, y, a, b, rfl, _⟩ := h
    rfl
  · obtain ⟨x, y, a, b, rfl, hx, hy, ba, bb, q⟩ := h
    refine ⟨_, (pss_cons (ps_if (pt_not (pt_val (pe_call G_is_number (hr.mono (by decide)) rfl T.g_is_number T.F_is_number.kp T.b_is_number .nil pass0 (pa_cons (pv 1) pa_nil)))) (pss_one ps_never) pss_nil)
  (pss_one (ps_ret (pe_call G_sum_ratios (hr.mono (by decide)) rfl T.g_sum_ratios T.F_sum_ratios.kp T.b_sum_ratios .nil pass0 (pa_cons (pv 0) (pa_cons (pe_call G_ratio_of (hr.mono (by decide)) rfl T.g_ratio_of T.F_ratio_of.kp T.b_ratio_of .nil pass0 (pa_cons (pv 1) pa_nil)) pa_nil)))))), ?_⟩
    refine ⟨_, rfl, _, rfl, .inl ⟨hy.kind, true, rfl, iteF ?_⟩⟩
    exact ⟨_, rfl, _, rfl, _, _, rfl, hy, fun H1 v s1 r1 => ⟨_, _, _, _, rfl, hx.same s1, r1, ba, bb, fun H' u s2 r2 => q _ _ (s1.trans s2) r2⟩⟩
def sp_neg (C : Addr) : Sp := fun vs H Q _ => ∃ x a, vs = [x] ∧ RatV C H x a ∧ Bd 3900 3900 a ∧ ∀ H' v, Same H H' → RatV C H' v (-a) → Q v H'
theorem neg_q (x : Rat) : (-x) * ((x.den : Int) : Rat) = ((-x.num : Int) : Rat) := by
  rw [Rat.intCast_neg, num_is]
  grind
theorem ok_Ratio___neg__ (T : Txt K mg A D) : FnOk P w K mg base CX0 4 A.f_Ratio___neg__ D.f_Ratio___neg__ ["self"] (sp_neg A.Ratio) := by
  have G_Ratio_init : FnOk P w K mg base CX0 2 A.f_Ratio___init__ D.f_Ratio___init__ ["self", "top", "bottom"] (sp_init A.Ratio) := ok_Ratio___init__ T
  have b_Ratio_init2 := T.b_Ratio___init__
  have d_Ratio_init2 : Vals [] [] := .nil
  refine T.F_Ratio___neg__.ok sc_Ratio___neg__ (fun vs H Q E h => ?_) (fun cdv A' outer s H vs Q E hr h => ?_)
  · obtain ⟨x, a, rfl, _⟩ := h
    rfl
  · obtain ⟨x, a, rfl, ⟨p, dx, rfl, hp⟩, ba, q⟩ := h
    refine ⟨_, (pss_one (ps_ret (pe_make T.M_Ratio G_Ratio_init (hr.mono (by decide)) rfl T.g_Ratio b_Ratio_init2 d_Ratio_init2 pass0 (pa_cons (pe_un un_neg (pe_fld (pv 0) rfl)) (pa_cons (pe_fld (pv 0) rfl) pa_nil))))), ?_⟩
    have cl := T.k_Ratio.cl
    have d0 : (a.den : Int) ≠ 0 := by have := den_pos a; omega
    refine ⟨_, rfl, p, A.Ratio, dx, _, _, rfl, hp, cl, T.k_Ratio.n_top, rfl, _, rfl, ?_⟩
    refine ⟨_, rfl, p, A.Ratio, dx, _, _, rfl, hp, cl, T.k_Ratio.n_bottom, rfl, ?_⟩
    exact fun x dx nx nd ne => rat_make d0 (ba.s2 (by decide)) nx nd ne fun G s r => q G _ s (r.to (div_eq d0 (neg_q a)))
theorem ok_product_ratios (T : Txt K mg A D) : FnOk P w K mg base CX0 4 A.f_product_ratios D.f_product_ratios ["one", "other"] (sp_put A.Ratio f_pro) := by
  have G_Ratio_init : FnOk P w K mg base CX0 2 A.f_Ratio___init__ D.f_Ratio___init__ ["self", "top", "bottom"] (sp_init A.Ratio) := ok_Ratio___init__ T
  have b_Ratio_init2 := T.b_Ratio___init__
  have d_Ratio_init2 : Vals [] [] := .nil
  refine T.F_product_ratios.ok sc_product_ratios (fun vs H Q E h => ?_) (fun cdv A' outer s H vs Q E hr h => ?_)
  · obtain ⟨x, y, a, b, rfl, _⟩ := h
    rfl
  · obtain ⟨x, y, a, b, rfl, ⟨p, dx, rfl, hp⟩, ⟨c, dy, rfl, hc⟩, ba, bb, q⟩ := h
    refine ⟨_, (pss_one (ps_ret (pe_make T.M_Ratio G_Ratio_init (hr.mono (by decide)) rfl T.g_Ratio b_Ratio_init2 d_Ratio_init2 pass0 (pa_cons (pe_op op_mulW (pe_fld (pv 0) rfl) (pe_fld (pv 1) rfl)) (pa_cons (pe_op op_mulW (pe_fld (pv 0) rfl) (pe_fld (pv 1) rfl)) pa_nil))))), ?_⟩
    have cl := T.k_Ratio.cl
    have nt := T.k_Ratio.n_top
    have nb := T.k_Ratio.n_bottom
    have s1 := ba.s1 (by decide)
    have s2 := ba.s2 (by decide)
    have s3 := bb.s1 (by decide)
    have s4 := bb.s2 (by decide)
    refine ⟨_, rfl, p, A.Ratio, dx, _, _, rfl, hp, cl, nt, rfl, _, rfl, c, A.Ratio, dy, _, _, rfl, hc, cl, nt, rfl, _, _, rfl, rfl, s1.mul s3, ?_⟩
    refine ⟨_, rfl, p, A.Ratio, dx, _, _, rfl, hp, cl, nb, rfl, _, rfl, c, A.Ratio, dy, _, _, rfl, hc, cl, nb, rfl, _, _, rfl, rfl, s2.mul s4, ?_⟩
    exact fun x dx nx nd ne => rat_make (dd_ne a b) (dd_sm ba bb) nx nd ne fun G s r => q G _ s (r.to (div_eq (dd_ne a b) (mul_q a b)))
theorem ok_Ratio___mul__ (T : Txt K mg A D) : FnOk P w K mg base CX0 5 A.f_Ratio___mul__ D.f_Ratio___mul__ ["self", "other"] (sp_bin A.Ratio f_pro) := by
  have G_is_number : FnOk P w K mg base CX0 2 A.f_is_number D.f_is_number ["x"] (sp_isnum K A.Ratio) := ok_is_number T
  have G_product_ratios : FnOk P w K mg base CX0 4 A.f_product_ratios D.f_product_ratios ["one", "other"] (sp_put A.Ratio f_pro) := ok_product_ratios T
  have G_ratio_of : FnOk P w K mg base CX0 4 A.f_ratio_of D.f_ratio_of ["number"] (sp_ratio_of A.Ratio) := ok_ratio_of T
  refine T.F_Ratio___mul__.ok sc_Ratio___mul__ (fun vs H Q E h => ?_) (fun cdv A' outer s H vs Q E hr h => ?_)
  · obtain ⟨x, y, a, b, rfl, _⟩ := h
    rfl
  · obtain ⟨x, y, a, b, rfl, hx, hy, ba, bb, q⟩ := h
    refine ⟨_, (pss_cons (ps_if (pt_not (pt_val (pe_call G_is_number (hr.mono (by decide)) rfl T.g_is_number T.F_is_number.kp T.b_is_number .nil pass0 (pa_cons (pv 1) pa_nil)))) (pss_one ps_never) pss_nil)
  (pss_one (ps_ret (pe_call G_product_ratios (hr.mono (by decide)) rfl T.g_product_ratios T.F_product_ratios.kp T.b_product_ratios .nil pass0 (pa_cons (pv 0) (pa_cons (pe_call G_ratio_of (hr.mono (by decide)) rfl T.g_ratio_of T.F_ratio_of.kp T.b_ratio_of .nil pass0 (pa_cons (pv 1) pa_nil)) pa_nil)))))), ?_⟩
    refine ⟨_, rfl, _, rfl, .inl ⟨hy.kind, true, rfl, iteF ?_⟩⟩
    exact ⟨_, rfl, _, rfl, _, _, rfl, hy, fun H1 v s1 r1 => ⟨_, _, _, _, rfl, hx.same s1, r1, ba, bb, fun H' u s2 r2 => q _ _ (s1.trans s2) r2⟩⟩
theorem ok_Ratio___rmul__ (T : Txt K mg A D) : FnOk P w K mg base CX0 5 A.f_Ratio___rmul__ D.f_Ratio___rmul__ ["self", "other"] (sp_rbin A.Ratio f_pro) := by
  have G_is_number : FnOk P w K mg base CX0 2 A.f_is_number D.f_is_number ["x"] (sp_isnum K A.Ratio) := ok_is_number T
  have G_product_ratios : FnOk P w K mg base CX0 4 A.f_product_ratios D.f_product_ratios ["one", "other"] (sp_put A.Ratio f_pro) := ok_product_ratios T
  have G_ratio_of : FnOk P w K mg base CX0 4 A.f_ratio_of D.f_ratio_of ["number"] (sp_ratio_of A.Ratio) := ok_ratio_of T
  refine T.F_Ratio___rmul__.ok sc_Ratio___rmul__ (fun vs H Q E h => ?_) (fun cdv A' outer s H vs Q E hr h => ?_)
  · obtain ⟨x, y, a, b, rfl, _⟩ := h
    rfl
  · obtain ⟨x, y, a, b, rfl, hx, hy, ba, bb, q⟩ := h
    refine ⟨_, (pss_cons (ps_if (pt_not (pt_val (pe_call G_is_number (hr.mono (by decide)) rfl T.g_is_number T.F_is_number.kp T.b_is_number .nil pass0 (pa_cons (pv 1) pa_nil)))) (pss_one ps_never) pss_nil)
  (pss_one (ps_ret (pe_call G_product_ratios (hr.mono (by decide)) rfl T.g_product_ratios T.F_product_ratios.kp T.b_product_ratios .nil pass0 (pa_cons (pe_call G_ratio_of (hr.mono (by decide)) rfl T.g_ratio_of T.F_ratio_of.kp T.b_ratio_of .nil pass0 (pa_cons (pv 1) pa_nil)) (pa_cons (pv 0) pa_nil)))))), ?_⟩
    refine ⟨_, rfl, _, rfl, .inl ⟨hy.kind, true, rfl, iteF ?_⟩⟩
    exact ⟨_, rfl, _, _, rfl, hy, fun H1 v s1 r1 => ⟨_, rfl, _, _, _, _, rfl, r1, hx.same s1, bb, ba, fun H' u s2 r2 => q _ _ (s1.trans s2) r2⟩⟩
theorem ok_Ratio___le__ (T : Txt K mg A D) : FnOk P w K mg base CX0 3 A.f_Ratio___le__ D.f_Ratio___le__ ["self", "other"] (sp_cmp A.Ratio r_le) := by
  have G__gap : FnOk P w K mg base CX0 1 A.f__gap D.f__gap ["one", "other"] (sp_gap A.Ratio) := ok__gap T
  have G_is_number : FnOk P w K mg base CX0 2 A.f_is_number D.f_is_number ["x"] (sp_isnum K A.Ratio) := ok_is_number T
  refine T.F_Ratio___le__.ok sc_Ratio___le__ (fun vs H Q E h => ?_) (fun cdv A' outer s H vs Q E hr h => ?_)
  · obtain ⟨x, y, a, b, rfl, _⟩ := h
    rfl
  · obtain ⟨x, y, a, b, rfl, hx, hy, ba, bb, q⟩ := h
    refine ⟨_, (pss_cons (ps_if (pt_not (pt_val (pe_call G_is_number (hr.mono (by decide)) rfl T.g_is_number T.F_is_number.kp T.b_is_number .nil pass0 (pa_cons (pv 1) pa_nil)))) (pss_one ps_never) pss_nil)
  (pss_one (ps_ret (pe_cmpR op_le (pe_call G__gap (hr.mono (by decide)) rfl T.g__gap T.F__gap.kp T.b__gap .nil pass0 (pa_cons (pv 0) (pa_cons (pv 1) pa_nil))) pe_int (nomark _))))), ?_⟩
    refine ⟨_, rfl, _, rfl, .inl ⟨hy.kind, true, rfl, iteF ?_⟩⟩
    refine ⟨_, rfl, _, rfl, _, _, _, _, rfl, hx, hy, ba, bb, _, _, rfl, rfl, ?_⟩
    show Q (.bl (decide (a.num * (b.den : Int) - b.num * (a.den : Int) ≤ 0))) H
    rw [← decide_eq_decide.mpr (gap_le a b)]
    exact q
end

end Mo

namespace Mo
open PySem PySem.Spec PyProof.Rows L2 MoL MoW
open C8 (pss_cut tCut)
section
variable {P : Program} {w : World} {K : PySem.W.Frag} {mg : Str → Option Value} {base : Heap} {A : Ad} {D : Fd}
def sp_partsN (C : Addr) : Sp := fun vs H Q _ => ∃ (v : V) (xs : List V) (f : Nat → Rat) (N : Int) (e m : Nat), vs = [v] ∧ SeqAt H v xs ∧ RatsV C H xs f ∧ (∀ k, k < xs.length → Cm N e (f k)) ∧ 0 < N ∧ N.natAbs < 2 ^ m ∧ xs.length ≤ 60 ∧ e ≤ 3990 ∧ m ≤ 3990 ∧
  ∀ H' tp l ts B, Same H H' → H' tp = some (.tup [.ref l, .int B]) → H' l = some (.lst (ts.map V.int)) → ts.length = xs.length → 0 < B → B.natAbs < 2 ^ m → TopsV B ts f → TopsB e ts → Q (.ref tp) H'
theorem tops_make {B g b : Int} {z : Rat} (hb : (z.den : Int) = b) (h : B = b * g) : ((z.num * g : Int) : Rat) = z * (B : Rat) := by
  rw [h, Rat.intCast_mul, Rat.intCast_mul, num_is, hb]
  grind
theorem tops_lt {N : Int} {e B g : Nat} {z : Rat} {t : Int} (h : Cm N e z) (hB : B ∣ N.natAbs) (N0 : 0 < N) (ht : (t : Rat) = z * (((B : Nat) : Int) : Rat)) : t.natAbs < 2 ^ e := by
  obtain ⟨u, h1, h2⟩ := h
  obtain ⟨c, hc⟩ := hB
  have e1 : N = (B : Int) * (c : Int) := by
    rw [← Int.natCast_mul, ← hc]
    omega
  have e2 : u = t * c := inj (by
    rw [Rat.intCast_mul, ht, ← h1, e1, Rat.intCast_mul]
    grind)
  have c0 : 0 < c := by
    rcases Nat.eq_zero_or_pos c with z | z
    · subst z
      omega
    · exact z
  rw [e2, Int.natAbs_mul] at h2
  refine Nat.lt_of_le_of_lt ?_ h2
  exact Nat.le_mul_of_pos_right _ c0
theorem ok_whole_parts (T : Txt K mg A D) : FnOk P w K mg base CX0 2 A.f_whole_parts D.f_whole_parts ["ratios"] (sp_partsN A.Ratio) := by
  skip
  refine T.F_whole_parts.ok sc_whole_parts (fun vs H Q E h => ?_) (fun cdv A' outer s H vs Q E hr h => ?_)
  · obtain ⟨v, xs, f, N, e, m, rfl, _⟩ := h
    rfl
  · obtain ⟨v, xs, f, N, e, m, rfl, ⟨a, rfl, ha⟩, rr, hC, N0, Nm, l1, he, hm, q⟩ := h
    refine ⟨_, (pss_cons (ps_set (i := 1) sc_whole_parts.nd rfl (.inr rfl) pe_int)
  (pss_cons (ps_for PassesOwn.never rfl (pi_or (pi_list (pv 0)) (pi_tup (pv 0))) (pg_name (i := 2) sc_whole_parts.nd rfl (.inl rfl)) (pss_one (ps_set (i := 1) sc_whole_parts.nd rfl (.inr rfl) (pe_callBfun cr_lcm rfl T.g_lcm (pa_cons (pv 1) (pa_cons (pe_fld (pv 2) rfl) pa_nil))))))
  (pss_one (ps_ret (pe_tup (pa_cons (pe_lc (own := [("number", 2)]) (g := gName 2) (tt := tYes) rfl sc_whole_parts.nd (pi_or (pi_list (pv 0)) (pi_tup (pv 0))) (blkOk_by (N := N_whole_parts) (sc := defScope s_whole_parts) (by decide +kernel)) (fun _ _ _ _ _ => (pg_name (i := 2) sc_whole_parts.nd rfl (.inl rfl))) (fun _ _ _ _ _ => pts_nil) (fun _ _ _ _ _ => (pe_op op_mulW (pe_fldK (K := K) rfl (pv 2) rfl) (pe_op op_fdivA (pv 1) (pe_fldK (K := K) rfl (pv 2) rfl))))) (pa_cons (pv 1) pa_nil))))))), ?_⟩
    have cl := T.k_Ratio.cl
    have nt := T.k_Ratio.n_top
    have nb := T.k_Ratio.n_bottom
    have hb : ∀ i, i < xs.length → Bd e m (f i) := fun i hi => (hC i hi).bd (by omega) Nm
    have leN : ∀ {B : Nat}, B ∣ N.natAbs → B < 2 ^ m := fun h => Nat.lt_of_le_of_lt (Nat.le_of_dvd (by omega) h) Nm
    refine for_seq ha (fun R r => ⟨_, rfl, r⟩) (fun R r => ⟨_, rfl, r⟩) (fun i σ H' => H' = H ∧ ∃ (B : Nat) (y : Option V), σ = [some (.ref a), some (.int (B : Int)), y] ∧ 0 < B ∧ B ∣ N.natAbs ∧ ∀ j, j < i → (f j).den ∣ B)
      ⟨rfl, 1, _, rfl, by decide, Nat.one_dvd _, fun j h => absurd h (Nat.not_lt_zero _)⟩ (fun i σ G _ p => p.1 ▸ Same.refl H) ?_ ?_
    · rintro i x σ H' hx ⟨rfl, B, y, rfl, b0, b1, hd⟩
      have hl := get_lt hx
      obtain ⟨c, dx, rfl, hc⟩ := rr i x hx
      have hbi := hb i hl
      have sB : Sm (B : Int) := sm_of (n := m) (leN b1) (by omega)
      refine ⟨_, rfl, _, rfl, c, A.Ratio, dx, _, _, rfl, hc, cl, nb, rfl, (B : Int), _, rfl, sB, hbi.s2 (by omega), rfl, Nat.lcm B (f i).den, _, rfl, ?_, ?_, ?_⟩
      · exact Nat.lcm_pos b0 (f i).den_pos
      · exact Nat.lcm_dvd b1 (hC i hl).den
      · intro j hj
        rcases (by omega : j < i ∨ j = i) with e | e
        · exact Nat.dvd_trans (hd j e) (Nat.dvd_lcm_left _ _)
        · subst e
          exact Nat.dvd_lcm_right _ _
    · rintro σ H' ⟨rfl, B, y, rfl, b0, b1, hd⟩
      have hB := leN b1
      refine lc_seq ha (fun R r => ⟨_, rfl, r⟩) (fun R r => ⟨_, rfl, r⟩) (fun d i G => GroI H' d (fun k => (f k).num * ((B : Int).fdiv ((f k).den : Int))) i G) (fun d nd => .start nd) (fun d i G _ p => p.1) ?_ ?_
      · rintro d i x G nd hx p
        have hl := get_lt hx
        obtain ⟨c, dx, rfl, hc⟩ := (rr i x hx).same p.1
        have hbi := hb i hl
        have d0 := den_pos (f i)
        obtain ⟨g, hg⟩ := hd i hl
        have ef : (B : Int).fdiv ((f i).den : Int) = (g : Int) := by rw [hg, Int.natCast_mul]; exact Int.mul_fdiv_cancel_left _ (by omega)
        have hgB : g ≤ B := by
          rw [hg]
          exact Nat.le_mul_of_pos_left _ (f i).den_pos
        have g1 : ((g : Int)).natAbs < 2 ^ m := by
          show g < _
          omega
        refine ⟨rfl, _, rfl, c, A.Ratio, dx, _, _, rfl, hc, cl, nt, rfl, _, rfl, _, rfl, c, A.Ratio, dx, _, _, rfl, hc, cl, nb, rfl, _, _, rfl, rfl, Sm.div (by omega) (hbi.s2 (by omega)), ?_⟩
        exact ⟨_, _, rfl, rfl, (hbi.s1 (by omega)).mul (by rw [ef]; exact sm_of g1 (by omega)), p.push nd (by omega) (Same.refl G)⟩
      · rintro d G nd ⟨sm, hd'⟩
        have lt : ((List.range xs.length).map fun k => (f k).num * ((B : Int).fdiv ((f k).den : Int))).length = xs.length := by rw [List.length_map, List.length_range]
        have tv : ∀ (k : Nat) (t : Int), ((List.range xs.length).map fun k => (f k).num * ((B : Int).fdiv ((f k).den : Int)))[k]? = some t → (t : Rat) = f k * ((B : Int) : Rat) ∧ t.natAbs < 2 ^ e := fun k t e => by
          have hk : k < xs.length := by have := get_lt e; omega
          rw [List.getElem?_map, List.getElem?_range hk] at e
          cases e
          obtain ⟨g, hg⟩ := hd k hk
          have d0 := den_pos (f k)
          have ef : (B : Int).fdiv ((f k).den : Int) = (g : Int) := by rw [hg, Int.natCast_mul]; exact Int.mul_fdiv_cancel_left _ (by omega)
          dsimp only
          rw [ef]
          have tm := tops_make (z := f k) (b := ((f k).den : Int)) (B := (B : Int)) (g := g) rfl (by rw [hg, Int.natCast_mul])
          exact ⟨tm, tops_lt (g := g) (hC k hk) b1 N0 tm⟩
        generalize ((List.range xs.length).map fun k => (f k).num * ((B : Int).fdiv ((f k).den : Int))) = ts at *
        refine ⟨_, rfl, by show 2 ≤ sizeLine; decide, fun tp ntp => ?_⟩
        have s2 := same_upd (o := .tup [.ref d, .int (B : Int)]) ntp
        exact q _ tp d ts (B : Int) (sm.trans s2) upd_same (s2 _ _ hd') lt (by omega) hB (fun k t e => (tv k t e).1) (.of fun k t e => (tv k t e).2)
theorem ok_NoNumber___init__ (T : Txt K mg A D) : FnOk P w K mg base CX0 1 A.f_NoNumber___init__ D.f_NoNumber___init__ ["self", "word"] (sp_keep K "word") := by
  skip
  refine T.F_NoNumber___init__.ok sc_NoNumber___init__ (fun vs H Q E h => ?_) (fun cdv A' outer s H vs Q E hr h => ?_)
  · obtain ⟨e, C, v, rfl, _⟩ := h
    rfl
  · obtain ⟨e, C, v, rfl, hT, hn, he, q⟩ := h
    refine ⟨_, pss_one (ps_ost (pv 0) (pv 1)), ?_⟩
    exact ⟨_, rfl, _, rfl, e, C, rfl, hT, hn, .inl ⟨he, q⟩⟩
/-! ### powers of a number, whole or not -/
def sp_fpowI : Sp := fun vs H Q _ => ∃ (c : Int) (n e : Nat), vs = [.int c, .int n] ∧ c.natAbs < 2 ^ e ∧ n ≤ 60 ∧ e * n + e + 1 ≤ 3900 ∧ ∀ H' d, Same H H' → H d = none → H' d = some (intsO (fun k => c ^ k) n) → Q (.ref d) H'
theorem npow' {i : Int} {e : Nat} (h : i.natAbs < 2 ^ e) : ∀ k, (i ^ k).natAbs < 2 ^ (e * k + 1)
  | 0 => by rw [Int.pow_zero, Nat.mul_zero]; decide
  | k + 1 => by
    rw [Int.pow_succ, Nat.mul_succ]
    exact nle (nmul (npow' h k) h) (by omega)
def sp_fpow (A : Ad) : Sp := fun vs H Q _ => ∃ (v : V) (c : Rat) (n : Nat), vs = [v, .int n] ∧ RatV A.Ratio H v c ∧ n ≤ 20 ∧ (∀ k, k ≤ n → Bd 1990 1990 (c ^ k)) ∧ Bd 1990 1990 c ∧ ∀ H' d xs, Same H H' → H d = none → H' d = some (.lst xs) → xs.length = n → NumsV A.Ratio H' xs (fun k => c ^ k) → Q (.ref d) H'
def sp_fpow2 (A : Ad) : Sp := fun vs H Q E => sp_fpowI vs H Q E ∨ sp_fpow A vs H Q E
theorem ok_first_powers (T : Txt K mg A D) : FnOk P w K mg base CX0 6 A.f_first_powers D.f_first_powers ["base", "many"] (sp_fpow2 A) := by
  have G_Ratio___mul__ : FnOk P w K mg base CX0 5 A.f_Ratio___mul__ D.f_Ratio___mul__ ["self", "other"] (sp_bin A.Ratio f_pro) := ok_Ratio___mul__ T
  have G_Ratio___rmul__ : FnOk P w K mg base CX0 5 A.f_Ratio___rmul__ D.f_Ratio___rmul__ ["self", "other"] (sp_rbin A.Ratio f_pro) := ok_Ratio___rmul__ T
  refine T.F_first_powers.ok sc_first_powers (fun vs H Q E h => ?_) (fun cdv A' outer s H vs Q E hr h => ?_)
  · rcases h with ⟨c, n, e, rfl, _⟩ | ⟨v, c, n, rfl, _⟩ <;> rfl
  · refine ⟨_, (pss_cons (ps_set (i := 2) sc_first_powers.nd rfl (.inl rfl) (pe_lst pa_nil))
  (pss_cons (ps_set (i := 3) sc_first_powers.nd rfl (.inl rfl) pe_int)
  (pss_cons (ps_for PassesOwn.never rfl (pi_range1 rfl T.z_range (pa_cons (pv 1) pa_nil)) (pg_name (i := 4) sc_first_powers.nd rfl (.inl rfl)) (pss_cons (ps_expr (pe_bm PySem.F.plainAttrs_list PySem.F.slot_list_append PySem.F.type_list_append mt_append (pv 2) (pa_cons (pv 3) pa_nil)))
  (pss_one (ps_set (i := 3) sc_first_powers.nd rfl (.inl rfl) (pe_op ((op_mulW.or (op_mul_own T.k_Ratio.ow T.m_Ratio___mul__ T.m_Ratio___rmul__ G_Ratio___mul__ (hr.mono (by decide)) T.b_Ratio___mul__ pass0)).or (op_mul_int T.k_Ratio.ow T.m_Ratio___rmul__ T.m_Ratio___mul__ G_Ratio___rmul__ (hr.mono (by decide)) T.b_Ratio___rmul__ pass0)) (pv 3) (pv 0))))))
  (pss_one (ps_ret (pv 2)))))), ?_⟩
    rcases h with ⟨c, n, e, rfl, hc, hn, hs, q⟩ | ⟨v, c, n, rfl, hv, hn, hb, hc, q⟩
    · refine ⟨by show 0 ≤ sizeLine; decide, fun d nd => ?_⟩
      refine ⟨_, rfl, _, rfl, by omega, by omega, ?_⟩
      rw [show ((n : Nat) : Int).toNat = n by omega]
      refine for_range (lo := 0) (fun k σ G => GroI H d (fun k => c ^ k) k G ∧ ∃ y4 : Option V, σ = [some (.int c), some (.int n), some (.ref d), some (.int (c ^ k)), y4]) ⟨.start nd, _, by rw [Int.pow_zero]; rfl⟩ ?_ ?_
      · rintro k σ G hk ⟨p, y4, rfl⟩
        obtain ⟨acc, hacc, hsz, p2⟩ := p.push nd (by omega) (Same.refl G)
        have w1 : e * k ≤ e * n := Nat.mul_le_mul_left _ (by omega)
        refine ⟨_, rfl, .inl ⟨rfl, _, .of hacc⟩, _, rfl, d, acc, _, rfl, rfl, hacc, hsz, ?_⟩
        refine ⟨_, rfl, _, rfl, .inl (.inl ⟨_, _, rfl, rfl, (sm_of (npow' hc k) (by omega)).mul (sm_of hc (by omega)), ?_⟩)⟩
        exact ⟨p2, _, by rw [Int.pow_succ]; rfl⟩
      · rintro σ G ⟨p, y4, rfl⟩
        exact ⟨_, rfl, q G d p.1 nd p.2⟩
    · refine ⟨by show 0 ≤ sizeLine; decide, fun d nd => ?_⟩
      have s0 := same_upd (o := .lst []) nd
      have hd0 : upd H d (.lst []) d = some (.lst []) := upd_same
      refine ⟨_, rfl, _, rfl, by omega, by omega, ?_⟩
      rw [show ((n : Nat) : Int).toNat = n by omega]
      refine for_range (lo := 0) (fun k σ G => Same H G ∧ ∃ (l : V) (y4 : Option V) (xs : List V), σ = [some v, some (.int n), some (.ref d), some l, y4] ∧ NumV A.Ratio G l (c ^ k) ∧ G d = some (.lst xs) ∧ xs.length = k ∧ NumsV A.Ratio G xs (fun k => c ^ k)) ⟨s0, .int 1, _, [], rfl, .inl ⟨1, rfl, by rw [Rat.pow_zero]; rfl⟩, hd0, rfl, .nil⟩ ?_ ?_
      · rintro k σ G hk ⟨sm, l, y4, xs, rfl, hl, hd, lx, hx⟩
        refine ⟨_, rfl, .inl ⟨rfl, _, .of hd⟩, _, rfl, d, _, _, rfl, rfl, hd, by rw [lx]; exact small1000 (by omega), ?_⟩
        have sm2 : Same H (upd G d (.lst (xs ++ [l]))) := same_push sm nd
        have hx2 := hx.push (o := .lst (xs ++ [l])) hd (by rw [lx]; exact hl)
        have hl2 : NumV A.Ratio (upd G d (.lst (xs ++ [l]))) l (c ^ k) := hl.put hd
        have hd2 : upd G d (.lst (xs ++ [l])) d = some (.lst (xs ++ [l])) := upd_same
        generalize upd G d (.lst (xs ++ [l])) = G2 at sm2 hx2 hl2 hd2
        have hv2 := hv.same sm2
        have fin : ∀ H' u, Same G2 H' → RatV A.Ratio H' u (c ^ k * c) → _ := fun H' u k3 hu => show Same H H' ∧ ∃ (l : V) (y4 : Option V) (xs : List V), ([some v, some (V.int n), some (.ref d), some u, some (.int (0 + (k : Int)))] : L2.St) = [some v, some (.int n), some (.ref d), some l, y4] ∧ NumV A.Ratio H' l (c ^ (k + 1)) ∧ H' d = some (.lst xs) ∧ xs.length = k + 1 ∧ NumsV A.Ratio H' xs (fun k => c ^ k) from
          ⟨sm2.trans k3, u, _, xs ++ [l], rfl, .inr (hu.to (Rat.pow_succ _ _).symm), k3 _ _ hd2, by rw [List.length_append, lx]; rfl, hx2.same k3⟩
        rcases hl2 with ⟨i, rfl, hi⟩ | hl2
        · exact ⟨_, rfl, _, rfl, .inr ⟨⟨i, rfl⟩, hv2.ins, v, .int i, c, (i : Rat), rfl, hv2, .int i, hc, hi ▸ hb k (by omega), fun H' u k3 hu => fin H' u k3 (by rw [hi]; exact hu)⟩⟩
        · exact ⟨_, rfl, _, rfl, .inl (.inr ⟨hl2.ins, .inr hv2.ins, l, v, c ^ k, c, rfl, hl2, hv2.num, hb k (by omega), hc, fun H' u k3 hu => fin H' u k3 hu⟩)⟩
      · rintro σ G ⟨sm, l, y4, xs, rfl, hl, hd, lx, hx⟩
        exact ⟨_, rfl, q G d xs sm nd hd lx hx⟩
/-! ### the mean of a Poly -/
def sp_paired : Sp := fun vs H Q _ => ∃ (a b : Addr) (fs ts : List Int) (e d : Nat), vs = [.ref a, .ref b] ∧ H a = some (.lst (fs.map V.int)) ∧ H b = some (.lst (ts.map V.int)) ∧ fs.length ≤ ts.length ∧ ts.length ≤ 60 ∧ TopsB e fs ∧ TopsB d ts ∧ e ≤ 1900 ∧ d ≤ 1900 ∧ ∀ H' , Same H H' → Q (.int (((List.range fs.length).map fun k => fs.getD k 0 * ts.getD k 0).sum)) H'
theorem ok_paired (T : Txt K mg A D) : FnOk P w K mg base CX0 1 A.f_paired D.f_paired ["factors", "tops"] (sp_paired) := by
  skip
  refine T.F_paired.ok sc_paired (fun vs H Q E h => ?_) (fun cdv A' outer s H vs Q E hr h => ?_)
  · obtain ⟨a, b, fs, ts, e, d, rfl, _⟩ := h
    rfl
  · obtain ⟨a, b, fs, ts, e, d, rfl, ha, hb, hl, h60, be, bd, e1, d1, q⟩ := h
    refine ⟨_, (pss_one (ps_ret (pe_callB (cr_sum rfl) rfl T.z_sum (by decide +kernel) (pa_cons (pe_lc (own := [("k", 2)]) (g := gName 2) (tt := tYes) rfl sc_paired.nd (pi_range1 rfl T.z_range (pa_cons (pe_callB call_len_seq rfl T.z_len (by decide +kernel) (pa_cons (pv 0) pa_nil)) pa_nil)) (blkOk_by (N := N_paired) (sc := defScope s_paired) (by decide +kernel)) (fun _ _ _ _ _ => (pg_name (i := 2) sc_paired.nd rfl (.inl rfl))) (fun _ _ _ _ _ => pts_nil) (fun _ _ _ _ _ => (pe_op op_mulW (pe_ix (ix_listK (K := K) rfl) (pv 0) (pv 2) (fun _ _ => rfl)) (pe_ix (ix_listK (K := K) rfl) (pv 1) (pv 2) (fun _ _ => rfl))))) pa_nil)))), ?_⟩
    refine ⟨_, rfl, a, _, rfl, .inl (.of ha), _, rfl, by rw [List.length_map]; omega, by rw [List.length_map]; omega, fun o no => ?_⟩
    rw [show (((fs.map V.int).length : Nat) : Int).toNat = fs.length by rw [List.length_map]; omega]
    refine lc_range (lo := 0) (fun i G => GroI H o (fun k => fs.getD k 0 * ts.getD k 0) i G) (.start no) ?_ ?_
    · rintro i G hi p
      exact ⟨rfl, _, rfl, _, rfl, a, _, _, _, rfl, rfl, .of (p.1 _ _ ha), atI_getD hi, _, rfl, _, rfl, b, _, _, _, rfl, rfl, .of (p.1 _ _ hb), atI_getD (show i < ts.length by omega), _, _, rfl, rfl, (sm_of (be i) (by omega)).mul (sm_of (bd i) (by omega)), p.push no (by omega) (Same.refl G)⟩
    · rintro G ⟨sm, ho⟩
      exact ⟨o, _, rfl, .of ho, q G sm⟩
/-! ### a list without the zeros at its end -/
def sp_trimmed (C : Addr) : Sp := fun vs H Q _ => ∃ a xs f, vs = [.ref a] ∧ H a = some (.lst xs) ∧ RatsV C H xs f ∧ xs.length ≤ 60 ∧ (∀ k, k < xs.length → Bd 3900 3900 (f k)) ∧
  ∀ H' d s, Same H H' → H' d = some (.lst (xs.take s)) → s ≤ xs.length → (∀ k, s ≤ k → k < xs.length → f k = 0) → (0 < s → f (s - 1) ≠ 0) → Q (.ref d) H'
theorem cut_take (xs : List V) (s : Nat) : cutV xs none (some (s : Int)) = xs.take s := by
  unfold cutV
  have e1 : HT.sIx xs.length 0 none = 0 := rfl
  rw [e1]
  rcases Nat.le_total s xs.length with h | h
  · have e2 : HT.sIx xs.length xs.length (some (s : Int)) = s := by
      show (if (s : Int) < 0 then ((s : Int) + (xs.length : Int)).toNat else min (s : Int).toNat xs.length) = s
      rw [if_neg (by omega)]
      omega
    rw [e2]
    rfl
  · have e2 : HT.sIx xs.length xs.length (some (s : Int)) = xs.length := by
      show (if (s : Int) < 0 then ((s : Int) + (xs.length : Int)).toNat else min (s : Int).toNat xs.length) = _
      rw [if_neg (by omega)]
      omega
    rw [e2, List.take_of_length_le h]
    show (List.drop 0 xs).take (xs.length - 0) = xs
    rw [List.drop_zero, Nat.sub_zero, List.take_length]
theorem ok_trimmed (T : Txt K mg A D) : FnOk P w K mg base CX0 4 A.f_trimmed D.f_trimmed ["numbers"] (sp_trimmed A.Ratio) := by
  have G_Ratio___eq__ : FnOk P w K mg base CX0 3 A.f_Ratio___eq__ D.f_Ratio___eq__ ["self", "other"] (sp_cmp A.Ratio r_eq) := ok_Ratio___eq__ T
  refine T.F_trimmed.ok sc_trimmed (fun vs H Q E h => ?_) (fun cdv A' outer s H vs Q E hr h => ?_)
  · obtain ⟨a, xs, f, rfl, _⟩ := h
    rfl
  · obtain ⟨a, xs, f, rfl, ha, rr, l1, hb, q⟩ := h
    refine ⟨_, (pss_cons (ps_set (i := 1) sc_trimmed.nd rfl (.inl rfl) (pe_callB call_len_seq rfl T.z_len (by decide +kernel) (pa_cons (pv 0) pa_nil)))
  (pss_cons (ps_while PassesOwn.never (PW.pt (pw_and (pt_cmpR op_gt (pv 1) pe_int (nomark _)) (pw_and1 (pt_cmpR (op_eq_own T.k_Ratio.ow T.m_Ratio___eq__ G_Ratio___eq__ (hr.mono (by decide)) T.b_Ratio___eq__ pass0) (pe_ix ix_list (pv 0) (pe_op op_sub (pv 1) pe_int) (fun _ _ => rfl)) pe_int (nomark _))))) (pss_one (ps_set (i := 1) sc_trimmed.nd rfl (.inl rfl) (pe_op op_sub (pv 1) pe_int))))
  (pss_one (ps_ret (pe_slice sl_list (pv 0) po_none (po_some (pv 1))))))), ?_⟩
    refine ⟨_, rfl, a, xs, rfl, .inl (.of ha), ?_⟩
    have fin : ∀ s : Nat, s ≤ xs.length → (∀ k, s ≤ k → k < xs.length → f k = 0) → ((s = 0) ∨ (0 < s ∧ f (s - 1) ≠ 0)) → tRet (tSl (rSlL K) (tVar 0) tNoPart (tPart (tVar 1))) { nx := fun x H' => Q V.non H', rt := Q } [some (.ref a), some (.int (s : Int))] H := fun s hs hz hc => by
      refine ⟨_, rfl, _, rfl, _, rfl, a, xs, rfl, .of ha, fun d nd => ?_⟩
      rw [cut_take]
      refine q _ d s (same_upd nd) upd_same hs hz fun h => ?_
      rcases hc with h2 | h2
      · omega
      · exact h2.2
    refine while_up xs.length (fun j σ H' => H' = H ∧ (∀ k, xs.length - j ≤ k → k < xs.length → f k = 0) ∧ σ = [some (.ref a), some (.int ((xs.length - j : Nat) : Int))]) ⟨rfl, fun k h1 h2 => absurd h2 (by omega), rfl⟩ ?_
    rintro j σ H' hj ⟨rfl, hz, rfl⟩
    obtain ⟨s, hs⟩ : ∃ s, xs.length - j = s := ⟨_, rfl⟩
    rw [hs] at hz ⊢
    refine ⟨_, rfl, _, _, rfl, rfl, _, rfl, ite2 (fun h0 => ?_) (fun h0 => ?_)⟩
    · have s0 : 0 < s := by
        have := of_decide_eq_true h0
        omega
      have hx := List.getElem?_eq_getElem (show s - 1 < xs.length by omega)
      have hat : atI xs ((s : Int) - 1) = some xs[s - 1] := by
        rw [show (s : Int) - 1 = ((s - 1 : Nat) : Int) by omega]
        exact atI_nat hx
      have hr := rr _ _ hx
      refine ⟨_, rfl, _, rfl, _, _, rfl, rfl, a, xs, _, _, rfl, rfl, .of ha, hat, hr.ins, .inl ⟨_, rfl⟩, _, _, f (s - 1), ((0 : Int) : Rat), rfl, hr, .int 0, hb _ (by omega), .int (by decide) (by decide), ?_⟩
      refine ⟨_, rfl, ite2 (fun c => ?_) (fun c => fin s (by omega) hz (.inr ⟨s0, fun z => c (decide_eq_true z)⟩))⟩
      have f0 : f (s - 1) = 0 := of_decide_eq_true c
      refine ⟨_, fun σ' H' p => ⟨xs.length - (j + 1), by omega, j + 1, rfl, by omega, p⟩, _, rfl, _, _, rfl, rfl, rfl, fun k h1 h2 => ?_, ?_⟩
      · rcases (by omega : k = s - 1 ∨ s ≤ k) with e | e
        · rw [e]; exact f0
        · exact hz k e h2
      · show [some (V.ref a), some (V.int ((s : Int) - 1))] = _
        rw [show (s : Int) - 1 = ((xs.length - (j + 1) : Nat) : Int) by omega]
    · refine fin s (by omega) hz (.inl ?_)
      rcases Nat.eq_zero_or_pos s with e | e
      · exact e
      · exact absurd (decide_eq_true (by omega)) h0
def sp_poly (K : PySem.W.Frag) (A : Ad) : Sp := fun vs H Q _ => ∃ (x dx a : Addr) (xs : List V) (f : Nat → Rat), vs = [.ref x, .ref a] ∧ H x = some (.ins A.Poly dx []) ∧ (H a = some (.lst xs) ∨ H a = some (.tup xs)) ∧ NumsV A.Ratio H xs f ∧ xs.length ≤ 60 ∧ (∀ k, k < xs.length → Bd 3900 3900 (f k)) ∧ (∀ k, xs.length ≤ k → f k = 0) ∧
  ∀ G s, (∀ b o, b ≠ x → H b = some o → G b = some o) → PolyV A.Poly A.Ratio G (.ref x) s f → s ≤ xs.length → Q .non G
theorem ok_Poly___init__ (T : Txt K mg A D) : FnOk P w K mg base CX0 6 A.f_Poly___init__ D.f_Poly___init__ ["self", "coefficients"] (sp_poly K A) := by
  have G_Ratio_init : FnOk P w K mg base CX0 2 A.f_Ratio___init__ D.f_Ratio___init__ ["self", "top", "bottom"] (sp_init A.Ratio) := ok_Ratio___init__ T
  obtain ⟨ds1, d_Ratio_init1, b_Ratio_init1⟩ := T.b1_Ratio___init__
  have G_is_number : FnOk P w K mg base CX0 2 A.f_is_number D.f_is_number ["x"] (sp_isnum K A.Ratio) := ok_is_number T
  have G_ratio_of : FnOk P w K mg base CX0 4 A.f_ratio_of D.f_ratio_of ["number"] (sp_ratio_of A.Ratio) := ok_ratio_of T
  have G_trimmed : FnOk P w K mg base CX0 4 A.f_trimmed D.f_trimmed ["numbers"] (sp_trimmed A.Ratio) := ok_trimmed T
  refine T.F_Poly___init__.ok sc_Poly___init__ (fun vs H Q E h => ?_) (fun cdv A' outer s H vs Q E hr h => ?_)
  · obtain ⟨x, dx, a, xs, f, rfl, _⟩ := h
    rfl
  · obtain ⟨x, dx, a, xs, f, rfl, hx, ha, rr, l1, hb, hz, q⟩ := h
    refine ⟨_, (pss_cons (ps_if (pt_not (pt_val (pe_callB call_isiT rfl T.z_isinstance (by decide +kernel) (pa_cons (pv 1) (pa_cons (pe_tup (pa_cons (pe_bltn (v := .ty "list") rfl T.z_list (by decide +kernel) rfl) (pa_cons (pe_bltn (v := .ty "tuple") rfl T.z_tuple (by decide +kernel) rfl) pa_nil))) pa_nil))))) (pss_one ps_never) pss_nil)
  (pss_cons (ps_for PassesOwn.never rfl (pi_or (pi_list (pv 1)) (pi_tup (pv 1))) (pg_name (i := 2) sc_Poly___init__.nd rfl (.inl rfl)) (pss_one (ps_if (pt_not (pt_val (pe_call G_is_number (hr.mono (by decide)) rfl T.g_is_number T.F_is_number.kp T.b_is_number .nil pass0 (pa_cons (pv 2) pa_nil)))) (pss_one ps_never) pss_nil)))
  (pss_cons (ps_fld (pv 0) (pe_callTy call_tuple_of rfl T.z_tuple (by decide +kernel) (pa_cons (pe_call G_trimmed (hr.mono (by decide)) rfl T.g_trimmed T.F_trimmed.kp T.b_trimmed .nil pass0 (pa_cons (pe_lc (own := [("number", 2)]) (g := gName 2) (tt := tYes) rfl sc_Poly___init__.nd (pi_or (pi_list (pv 1)) (pi_tup (pv 1))) (blkOk_by (N := N_Poly___init__) (sc := defScope s_Poly___init__) (by decide +kernel)) (fun _ _ _ _ _ => (pg_name (i := 2) sc_Poly___init__.nd rfl (.inl rfl))) (fun _ _ _ _ _ => pts_nil) (fun _ _ _ _ _ => (pe_call G_ratio_of (hr.mono (by decide)) rfl T.g_ratio_of T.F_ratio_of.kp T.b_ratio_of .nil pass0 (pa_cons (pv 2) pa_nil)))) pa_nil)) pa_nil)) rfl)
  (pss_cons (ps_fld (pv 0) (pe_op op_sub (pe_callB call_len_seq rfl T.z_len (by decide +kernel) (pa_cons (pe_fld (pv 0) rfl) pa_nil)) pe_int) rfl)
  (pss_cons (ps_fld (pv 0) (pe_make T.M_Ratio G_Ratio_init (hr.mono (by decide)) rfl T.g_Ratio b_Ratio_init1 d_Ratio_init1 pass0 (pa_cons pe_int pa_nil)) rfl)
  (pss_one (ps_if (pt_cmpR op_ge (pe_fld (pv 0) rfl) pe_int (nomark _)) (pss_one (ps_fld (pv 0) (pe_ix ix_tup (pe_fld (pv 0) rfl) (pe_fld (pv 0) rfl) (fun _ _ => rfl)) rfl)) pss_nil))))))), ?_⟩
    refine ⟨_, rfl, by show 2 ≤ sizeLine; decide, fun tp nt => ?_⟩
    have s1 : Same H (upd H tp (.tup [.ty "list", .ty "tuple"])) := same_upd nt
    have ha1 := ha.imp (s1 a _) (s1 a _)
    obtain ⟨t, ty, ka⟩ := kit_seq (K := K) ha1
    refine ⟨.ref a, tp, _, t, _, true, rfl, upd_same, .cons (.ty _) (.cons (.ty _) .nil), ty, ka, true, rfl, iteF ?_⟩
    have rr1 := rr.same s1
    have hx1 := s1 _ _ hx
    clear ty ka rr hx ha
    generalize upd H tp (.tup [.ty "list", .ty "tuple"]) = H1 at s1 ha1 rr1 hx1
    refine for_seq ha1 (fun R r => ⟨_, rfl, r⟩) (fun R r => ⟨_, rfl, r⟩) (fun i σ G => G = H1 ∧ ∃ y : Option V, σ = [some (.ref x), some (.ref a), y]) ⟨rfl, _, rfl⟩ (fun i σ G _ p => p.1 ▸ Same.refl H1) ?_ ?_
    · rintro i y σ G hy ⟨rfl, z, rfl⟩
      exact ⟨_, rfl, _, rfl, .inl ⟨(rr1 i y hy).kind, true, rfl, iteF ⟨rfl, _, rfl⟩⟩⟩
    · rintro σ G ⟨rfl, y, rfl⟩
      refine lc_seq ha1 (fun R r => ⟨_, rfl, r⟩) (fun R r => ⟨_, rfl, r⟩) (fun d i E => Gro A.Ratio G d f i E) (fun d nd => .start nd) (fun d i E _ p => p.1) ?_ ?_
      · rintro d i z E nd hz2 p
        exact ⟨rfl, _, rfl, z, _, rfl, (rr1 i z hz2).same p.1, fun G2 v s2 r2 => p.push nd (by have := get_lt hz2; omega) s2 r2⟩
      · rintro d E nd ⟨sm, ys, hy, hd, hr⟩
        refine ⟨d, ys, f, rfl, hd, hr, by omega, fun k hk => hb k (by omega), fun H2 d2 s s2 hd2 hs z1 z2 => ?_⟩
        rw [hy] at hs z1
        refine ⟨d2, ys.take s, rfl, .inl ⟨.of hd2, fun tp2 ntp2 => ?_⟩⟩
        have s3 := same_upd (o := .tup (ys.take s)) ntp2
        have sx := (sm.trans s2).trans s3
        have hx2 := sx _ _ hx1
        have hr2 : RatsV A.Ratio (upd H2 tp2 (.tup (ys.take s))) (ys.take s) f := ((hr.same s2).same s3).take
        have htp2 : upd H2 tp2 (.tup (ys.take s)) tp2 = some (.tup (ys.take s)) := upd_same
        have ls : (ys.take s).length = s := by rw [List.length_take]; omega
        have zz : ∀ k, s ≤ k → f k = 0 := fun k hk => by
          rcases Nat.lt_or_ge k xs.length with h | h
          · exact z1 k hk h
          · exact hz k h
        generalize ys.take s = zs at *
        generalize upd H2 tp2 (.tup zs) = H3 at *
        clear hr hd hd2 s3 s2 sm
        have cl := T.k_Poly.cl
        refine ⟨_, rfl, x, A.Poly, dx, _, rfl, hx2, cl, T.n_Poly_coefficients, (by show 0 < 1000; decide), ?_⟩
        have k4 : ∀ b o, b ≠ x → H3 b = some o → upd H3 x (.ins A.Poly dx [("coefficients", .ref tp2)]) b = some o := upd_but
        have hr4 := hr2.keep hx2 rat_ne_nil k4
        have ht4 := k4 _ _ (ne_of htp2 hx2 fun z => by cases z) htp2
        have hx4 : upd H3 x (.ins A.Poly dx [("coefficients", .ref tp2)]) x = some (.ins A.Poly dx [("coefficients", .ref tp2)]) := upd_same
        refine ⟨_, rfl, x, A.Poly, dx, _, _, rfl, hx4, cl, T.n_Poly_coefficients, rfl, tp2, zs, rfl, .inr (.of ht4), _, _, rfl, rfl, _, rfl, x, A.Poly, dx, _, rfl, hx4, cl, T.n_Poly_degree, (by show 1 < 1000; decide), ?_⟩
        rw [ls]
        have e5 : upd (upd H3 x (.ins A.Poly dx [("coefficients", .ref tp2)])) x (.ins A.Poly dx [("coefficients", .ref tp2), ("degree", .int ((s : Int) - 1))]) = upd H3 x (.ins A.Poly dx [("coefficients", .ref tp2), ("degree", .int ((s : Int) - 1))]) := upd_upd
        have k5 : ∀ b o, b ≠ x → H3 b = some o → upd H3 x (.ins A.Poly dx [("coefficients", .ref tp2), ("degree", .int ((s : Int) - 1))]) b = some o := upd_but
        have hr5 := hr2.keep hx2 rat_ne_nil k5
        have ht5 := k5 _ _ (ne_of htp2 hx2 fun z => by cases z) htp2
        have hx5 : upd H3 x (.ins A.Poly dx [("coefficients", .ref tp2), ("degree", .int ((s : Int) - 1))]) x = some (.ins A.Poly dx [("coefficients", .ref tp2), ("degree", .int ((s : Int) - 1))]) := upd_same
        show tSeq _ _ _ _ (upd (upd H3 x (.ins A.Poly dx [("coefficients", .ref tp2)])) x (.ins A.Poly dx [("coefficients", .ref tp2), ("degree", .int ((s : Int) - 1))]))
        rw [e5]
        clear hr4 ht4 hx4 k4 e5
        generalize upd H3 x (.ins A.Poly dx [("coefficients", .ref tp2), ("degree", .int ((s : Int) - 1))]) = H5 at *
        refine fun r dr nr nd2 ne => rat_make (by decide) so nr nd2 ne fun H6 s6 r6 => ?_
        have r6 := r6.to (one_div 0)
        have hx6 := s6 _ _ hx5
        have hr6 := hr5.same s6
        have ht6 := s6 _ _ ht5
        refine ⟨_, rfl, x, A.Poly, dx, _, rfl, hx6, cl, T.n_Poly_lead, (by show 2 < 1000; decide), ?_⟩
        have fd : ∀ (l : V) (b : Addr) (o : HO), b ≠ x → H b = some o → upd H6 x (.ins A.Poly dx [("coefficients", .ref tp2), ("degree", .int ((s : Int) - 1)), ("lead", l)]) b = some o := fun l b o hb h => upd_but _ _ hb (s6 _ _ (k5 _ _ hb (sx _ _ (s1 _ _ h))))
        have pl : ∀ l : V, RatV A.Ratio H6 l (f (s - 1)) → PolyV A.Poly A.Ratio (upd H6 x (.ins A.Poly dx [("coefficients", .ref tp2), ("degree", .int ((s : Int) - 1)), ("lead", l)])) (.ref x) s f := fun l hl =>
          ⟨⟨x, dx, tp2, zs, l, rfl, upd_same, upd_but _ _ (ne_of ht6 hx6 fun z => by cases z) ht6, ls, hr6.keep hx6 rat_ne_co upd_but, hl.keep hx6 rat_ne_co upd_but⟩, zz, z2⟩
        have hx7 : upd H6 x (.ins A.Poly dx [("coefficients", .ref tp2), ("degree", .int ((s : Int) - 1)), ("lead", .ref r)]) x = some (.ins A.Poly dx [("coefficients", .ref tp2), ("degree", .int ((s : Int) - 1)), ("lead", .ref r)]) := upd_same
        have ht7 : upd H6 x (.ins A.Poly dx [("coefficients", .ref tp2), ("degree", .int ((s : Int) - 1)), ("lead", .ref r)]) tp2 = some (.tup zs) := upd_but _ _ (ne_of ht6 hx6 fun z => by cases z) ht6
        refine ⟨_, rfl, x, A.Poly, dx, _, _, rfl, hx7, cl, T.n_Poly_degree, rfl, _, _, rfl, rfl, _, rfl, ?_⟩
        refine ite2 (fun c => ?_) (fun c => ?_)
        · have s0 : 0 < s := by
            have := of_decide_eq_true c
            omega
          have hg := List.getElem?_eq_getElem (show s - 1 < zs.length by omega)
          have hat : atI zs ((s : Int) - 1) = some zs[s - 1] := by
            rw [show (s : Int) - 1 = ((s - 1 : Nat) : Int) by omega]
            exact atI_nat hg
          refine ⟨_, rfl, x, A.Poly, dx, _, _, rfl, hx7, cl, T.n_Poly_coefficients, rfl, _, rfl, x, A.Poly, dx, _, _, rfl, hx7, cl, T.n_Poly_degree, rfl, tp2, zs, _, _, rfl, rfl, .of ht7, hat, _, rfl, x, A.Poly, dx, _, rfl, hx7, cl, T.n_Poly_lead, (by show 3 < 1000; decide), ?_⟩
          show Q .non (upd (upd H6 x (.ins A.Poly dx [("coefficients", .ref tp2), ("degree", .int ((s : Int) - 1)), ("lead", .ref r)])) x (.ins A.Poly dx [("coefficients", .ref tp2), ("degree", .int ((s : Int) - 1)), ("lead", zs[s - 1])]))
          rw [upd_upd]
          exact q _ s (fd _) (pl _ (hr6 _ _ hg)) hs
        · have s0 : s = 0 := by
            rcases Nat.eq_zero_or_pos s with e | e
            · exact e
            · exact absurd (decide_eq_true (by omega)) c
          exact q _ s (fd _) (pl _ (r6.to (by rw [s0, zz 0 (by omega), Rat.intCast_zero]))) hs
/-- the making of a Poly -/
theorem poly_make {H : Hp} {E : XK} {x dx a : Addr} {xs : List V} {f : Nat → Rat} {Q : Hp → Prop} (nx : H x = none) (nd : H dx = none) (ha : H a = some (.lst xs) ∨ H a = some (.tup xs)) (hr : NumsV A.Ratio H xs f) (l1 : xs.length ≤ 60) (hb : ∀ k, k < xs.length → Bd 3900 3900 (f k)) (hz : ∀ k, xs.length ≤ k → f k = 0)
    (q : ∀ G s, Same H G → PolyV A.Poly A.Ratio G (.ref x) s f → s ≤ xs.length → Q G) : sp_poly K A [.ref x, .ref a] (upd (upd H dx (.own x)) x (.ins A.Poly dx [])) (fun v G => v = .non ∧ Q G) E := by
  have s0 : Same H (upd (upd H dx (.own x)) x (.ins A.Poly dx [])) := same_upd' (same_upd nd) nx
  exact ⟨x, dx, a, xs, f, rfl, upd_same, ha.imp (s0 a _) (s0 a _), hr.same s0, l1, hb, hz, fun G s k pl hs => ⟨rfl, q G s (made_but nx nd k) pl hs⟩⟩
end
section
variable {P : Program} {w : World} {K : PySem.W.Frag} {mg : Str → Option Value} {base : Heap} {A : Ad} {D : Fd}
/-! ### the coefficients of p(x - c) -/
/-- g_0 + (x - c) (g_1 + (x - c) ..), n of them -/
def Sh (g : Nat → Rat) (c : Rat) : Nat → Nat → Rat
  | 0, _ => 0
  | n + 1, i => (if i = 0 then g 0 else Sh (fun k => g (k + 1)) c n (i - 1)) - c * Sh (fun k => g (k + 1)) c n i
theorem Sh_pass {c : Rat} : ∀ (m : Nat) (g h : Nat → Rat), h m = g m → (∀ k, k < m → h k = g k - c * h (k + 1)) → ∀ i, Sh g c (m + 1) i = if i = 0 then h 0 else Sh (fun k => h (k + 1)) c m (i - 1)
  | 0, g, h, e, _, i => by
    show (if i = 0 then g 0 else 0) - c * 0 = if i = 0 then h 0 else 0
    rw [e]
    split <;> grind
  | m + 1, g, h, e, hk, i => by
    have ih := Sh_pass m (fun k => g (k + 1)) (fun k => h (k + 1)) e fun k k1 => hk (k + 1) (by omega)
    have h0 := hk 0 (by omega)
    show (if i = 0 then g 0 else Sh (fun k => g (k + 1)) c (m + 1) (i - 1)) - c * Sh (fun k => g (k + 1)) c (m + 1) i = if i = 0 then h 0 else (if i - 1 = 0 then h (0 + 1) else Sh (fun k => h (k + 1 + 1)) c m (i - 1 - 1)) - c * Sh (fun k => h (k + 1 + 1)) c m (i - 1)
    rw [ih i, ih (i - 1)]
    by_cases e0 : i = 0
    · subst e0
      rw [if_pos rfl, if_pos rfl, if_pos rfl, h0]
    · rw [if_neg e0, if_neg e0, if_neg e0]
theorem Sh_smul {b c : Rat} : ∀ (n : Nat) (f : Nat → Rat) (i : Nat), Sh (fun k => b * f k) c n i = b * Sh f c n i
  | 0, f, i => (Rat.mul_zero b).symm
  | n + 1, f, i => by
    show (if i = 0 then b * f 0 else Sh (fun k => b * f (k + 1)) c n (i - 1)) - c * Sh (fun k => b * f (k + 1)) c n i = b * ((if i = 0 then f 0 else Sh (fun k => f (k + 1)) c n (i - 1)) - c * Sh (fun k => f (k + 1)) c n i)
    rw [Sh_smul n (fun k => f (k + 1)) i, Sh_smul n (fun k => f (k + 1)) (i - 1)]
    split <;> grind
end
section
variable {P : Program} {w : World} {K : PySem.W.Frag} {mg : Str → Option Value} {base : Heap} {A : Ad} {D : Fd}
/-! ### the product of the x - x_j, and the sums of the w_j x_j ^ k -/
/-- the coefficients of the product of the first n factors -/
def rtq (x : Nat → Rat) : Nat → Nat → Rat
  | 0, k => if k = 0 then 1 else 0
  | n + 1, k => (if k = 0 then 0 else rtq x n (k - 1)) - x n * rtq x n k
/-- the same, whole -/
def rtI (X : Nat → Int) : Nat → Nat → Int
  | 0, k => if k = 0 then 1 else 0
  | n + 1, k => (if k = 0 then 0 else rtI X n (k - 1)) - X n * rtI X n k
def momq (w x : Nat → Rat) (n k : Nat) : Rat := sumR (fun j => w j * x j ^ k) n
theorem rtq_out {x : Nat → Rat} : ∀ n k, n < k → rtq x n k = 0
  | 0, k, h => if_neg (by omega)
  | n + 1, k, h => by
    show (if k = 0 then 0 else rtq x n (k - 1)) - x n * rtq x n k = 0
    rw [if_neg (by omega), rtq_out n (k - 1) (by omega), rtq_out n k (by omega)]
    grind
theorem rtq_top {x : Nat → Rat} : ∀ n, rtq x n n = 1
  | 0 => rfl
  | n + 1 => by
    show (if n + 1 = 0 then 0 else rtq x n (n + 1 - 1)) - x n * rtq x n (n + 1) = 1
    rw [if_neg (by omega), rtq_out n (n + 1) (by omega), Nat.add_sub_cancel, rtq_top n]
    grind
theorem rtq_congr {x y : Nat → Rat} : ∀ n k, (∀ j, j < n → x j = y j) → rtq x n k = rtq y n k
  | 0, k, _ => rfl
  | n + 1, k, h => by
    show (if k = 0 then 0 else rtq x n (k - 1)) - x n * rtq x n k = (if k = 0 then 0 else rtq y n (k - 1)) - y n * rtq y n k
    rw [rtq_congr n (k - 1) fun j hj => h j (by omega), rtq_congr n k fun j hj => h j (by omega), h n (by omega)]
theorem momq_congr {w w' x x' : Nat → Rat} {n k : Nat} (h : ∀ j, j < n → w j = w' j ∧ x j = x' j) : momq w x n k = momq w' x' n k := sumR_congr fun j hj => by rw [(h j hj).1, (h j hj).2]
theorem Sh_sub {c : Rat} : ∀ (n : Nat) (f g : Nat → Rat) (i : Nat), Sh (fun k => f k - g k) c n i = Sh f c n i - Sh g c n i
  | 0, f, g, i => by show (0 : Rat) = 0 - 0; grind
  | n + 1, f, g, i => by
    show (if i = 0 then f 0 - g 0 else Sh (fun k => f (k + 1) - g (k + 1)) c n (i - 1)) - c * Sh (fun k => f (k + 1) - g (k + 1)) c n i = ((if i = 0 then f 0 else Sh (fun k => f (k + 1)) c n (i - 1)) - c * Sh (fun k => f (k + 1)) c n i) - ((if i = 0 then g 0 else Sh (fun k => g (k + 1)) c n (i - 1)) - c * Sh (fun k => g (k + 1)) c n i)
    rw [Sh_sub n (fun k => f (k + 1)) (fun k => g (k + 1)) i, Sh_sub n (fun k => f (k + 1)) (fun k => g (k + 1)) (i - 1)]
    split <;> grind
theorem Sh_grow {c : Rat} : ∀ (n : Nat) (f : Nat → Rat) (i : Nat), f n = 0 → Sh f c (n + 1) i = Sh f c n i
  | 0, f, i, h => by
    show (if i = 0 then f 0 else 0) - c * 0 = 0
    rw [h]
    split <;> grind
  | n + 1, f, i, h => by
    show (if i = 0 then f 0 else Sh (fun k => f (k + 1)) c (n + 1) (i - 1)) - c * Sh (fun k => f (k + 1)) c (n + 1) i = (if i = 0 then f 0 else Sh (fun k => f (k + 1)) c n (i - 1)) - c * Sh (fun k => f (k + 1)) c n i
    rw [Sh_grow n (fun k => f (k + 1)) i h, Sh_grow n (fun k => f (k + 1)) (i - 1) h]
theorem Sh_up {c : Rat} (n : Nat) (f : Nat → Rat) (i : Nat) : Sh (fun k => if k = 0 then 0 else f (k - 1)) c (n + 1) i = (if i = 0 then 0 else Sh f c n (i - 1)) - c * Sh f c n i := by
  have e : (fun k => (fun k => if k = 0 then (0 : Rat) else f (k - 1)) (k + 1)) = f := funext fun k => by
    show (if k + 1 = 0 then (0 : Rat) else f (k + 1 - 1)) = f k
    rw [if_neg (by omega), Nat.add_sub_cancel]
  show (if i = 0 then (if (0 : Nat) = 0 then (0 : Rat) else f (0 - 1)) else Sh (fun k => (fun k => if k = 0 then (0 : Rat) else f (k - 1)) (k + 1)) c n (i - 1)) - c * Sh (fun k => (fun k => if k = 0 then (0 : Rat) else f (k - 1)) (k + 1)) c n i = _
  rw [e, if_pos rfl]
/-- moved by c, the points are -/
theorem rtq_moved {x : Nat → Rat} {c : Rat} : ∀ n i, Sh (rtq x n) c (n + 1) i = rtq (fun j => x j + c) n i
  | 0, i => by
    show (if i = 0 then (if (0 : Nat) = 0 then (1 : Rat) else 0) else 0) - c * 0 = if i = 0 then 1 else 0
    rw [if_pos rfl]
    split <;> grind
  | n + 1, i => by
    have e : rtq x (n + 1) = fun k => (fun k => if k = 0 then 0 else rtq x n (k - 1)) k - (fun k => x n * rtq x n k) k := rfl
    rw [e, Sh_sub, Sh_up, Sh_smul, Sh_grow (n + 1) (rtq x n) i (rtq_out _ _ (by omega)), rtq_moved n (i - 1), rtq_moved n i]
    show _ = (if i = 0 then 0 else rtq (fun j => x j + c) n (i - 1)) - (x n + c) * rtq (fun j => x j + c) n i
    grind
theorem rtq_scaled {x : Nat → Rat} {t : Rat} : ∀ n k, k ≤ n → rtq x n k * t ^ (n - k) = rtq (fun j => x j * t) n k
  | 0, k, h => by
    cases (by omega : k = 0)
    show (if (0 : Nat) = 0 then (1 : Rat) else 0) * t ^ 0 = if (0 : Nat) = 0 then 1 else 0
    rw [if_pos rfl, Rat.pow_zero, Rat.mul_one]
  | n + 1, k, h => by
    show ((if k = 0 then 0 else rtq x n (k - 1)) - x n * rtq x n k) * t ^ (n + 1 - k) = (if k = 0 then 0 else rtq (fun j => x j * t) n (k - 1)) - (x n * t) * rtq (fun j => x j * t) n k
    rcases (by omega : k ≤ n ∨ k = n + 1) with c | c
    · have e2 := rtq_scaled (x := x) (t := t) n k c
      rw [show n + 1 - k = n - k + 1 by omega, Rat.pow_succ, ← e2]
      by_cases c0 : k = 0
      · rw [if_pos c0, if_pos c0]
        grind
      · have e1 := rtq_scaled (x := x) (t := t) n (k - 1) (by omega)
        rw [show n - (k - 1) = n - k + 1 by omega, Rat.pow_succ] at e1
        rw [if_neg c0, if_neg c0, ← e1]
        grind
    · subst c
      rw [if_neg (by omega), if_neg (by omega), Nat.add_sub_cancel, rtq_top, rtq_top, rtq_out n (n + 1) (by omega), rtq_out n (n + 1) (by omega), Nat.sub_self, Rat.pow_zero]
      grind
theorem rtq_int {X : Nat → Int} : ∀ n k, rtq (fun j => (X j : Rat)) n k = (rtI X n k : Rat)
  | 0, k => by
    show (if k = 0 then (1 : Rat) else 0) = ((if k = 0 then 1 else 0 : Int) : Rat)
    split <;> rfl
  | n + 1, k => by
    show (if k = 0 then 0 else rtq (fun j => (X j : Rat)) n (k - 1)) - (X n : Rat) * rtq (fun j => (X j : Rat)) n k = ((((if k = 0 then 0 else rtI X n (k - 1)) - X n * rtI X n k : Int)) : Rat)
    rw [rtq_int n (k - 1), rtq_int n k, Rat.intCast_sub, Rat.intCast_mul]
    split <;> rfl
theorem rtI_out {X : Nat → Int} : ∀ n k, n < k → rtI X n k = 0
  | 0, k, h => if_neg (by omega)
  | n + 1, k, h => by
    show (if k = 0 then 0 else rtI X n (k - 1)) - X n * rtI X n k = 0
    rw [if_neg (by omega), rtI_out n (k - 1) (by omega), rtI_out n k (by omega), Int.mul_zero]
    rfl
theorem rtI_lt {X : Nat → Int} {e : Nat} : ∀ n k, (∀ j, j < n → (X j).natAbs < 2 ^ e) → (rtI X n k).natAbs < 2 ^ ((e + 1) * n + 1)
  | 0, k, _ => by
    show (if k = 0 then (1 : Int) else 0).natAbs < _
    split <;> simp
  | n + 1, k, h => by
    have h1 := rtI_lt n k fun j hj => h j (by omega)
    have h2 : (if k = 0 then 0 else rtI X n (k - 1)).natAbs < 2 ^ ((e + 1) * n + 1) := by
      split
      · exact Nat.two_pow_pos _
      · exact rtI_lt n (k - 1) fun j hj => h j (by omega)
    have h3 := nmul (h n (by omega)) h1
    have h4 : (if k = 0 then 0 else rtI X n (k - 1)).natAbs < 2 ^ (e + ((e + 1) * n + 1)) := nle h2 (by omega)
    have := nadd h4 (show (-(X n * rtI X n k)).natAbs < 2 ^ (e + ((e + 1) * n + 1)) by rw [Int.natAbs_neg]; exact h3)
    show ((if k = 0 then 0 else rtI X n (k - 1)) - X n * rtI X n k).natAbs < _
    rw [Int.sub_eq_add_neg]
    exact nle this (by rw [Nat.mul_succ]; omega)
/-- moved by c, the sums are -/
theorem mvL_mom {w x : Nat → Rat} {c : Rat} {n : Nat} : ∀ i k, mvL (momq w x n) c i k = sumR (fun j => w j * x j ^ k * (x j + c) ^ i) n
  | 0, k => sumR_congr fun j _ => by rw [Rat.pow_zero, Rat.mul_one]
  | i + 1, k => by
    show mvL (momq w x n) c i (k + 1) + mvL (momq w x n) c i k * c = _
    rw [mvL_mom i (k + 1), mvL_mom i k, ← sumR_mulr, ← sumR_add]
    exact sumR_congr fun j _ => by rw [Rat.pow_succ, Rat.pow_succ]; grind
theorem mom_moved {w x : Nat → Rat} {c : Rat} {n k : Nat} : mvF (momq w x n) c k = momq w (fun j => x j + c) n k := by
  show mvL _ c k 0 = _
  rw [mvL_mom]
  exact sumR_congr fun j _ => by rw [Rat.pow_zero, Rat.mul_one]
theorem mul_pow_rat {a b : Rat} : ∀ k : Nat, (a * b) ^ k = a ^ k * b ^ k
  | 0 => by rw [Rat.pow_zero, Rat.pow_zero, Rat.pow_zero, Rat.mul_one]
  | k + 1 => by rw [Rat.pow_succ, Rat.pow_succ, Rat.pow_succ, mul_pow_rat k]; grind
theorem mom_scaled {w x : Nat → Rat} {t : Rat} {n k : Nat} : momq w x n k * t ^ k = momq w (fun j => x j * t) n k := by
  show sumR _ n * _ = _
  rw [← sumR_mulr]
  exact sumR_congr fun j _ => by rw [mul_pow_rat]; grind
/-- the points are X / q, the weights W / s -/
structure LotI (n : Nat) (x w : Nat → Rat) (X W : Nat → Int) (q s : Int) : Prop where
  len : n ≤ 8
  x : ∀ j, j < n → x j * (q : Rat) = X j
  w : ∀ j, j < n → w j * (s : Rat) = W j
  X : ∀ j, j < n → (X j).natAbs < 2 ^ 38
  W : ∀ j, j < n → (W j).natAbs < 2 ^ 27
  q0 : 0 < q
  q1 : q < 2 ^ 6
  s0 : 0 < s
  s1 : s < 2 ^ 4
section
variable {n : Nat} {x w : Nat → Rat} {X W : Nat → Int} {q s : Int}
theorem LotI.qa (h : LotI n x w X W q s) : q.natAbs < 2 ^ 6 := by have := h.q0; have := h.q1; omega
theorem LotI.sa (h : LotI n x w X W q s) : s.natAbs < 2 ^ 4 := by have := h.s0; have := h.s1; omega
theorem LotI.cx (h : LotI n x w X W q s) {j : Nat} (hj : j < n) : Cm q 38 (x j) := ⟨X j, h.x j hj, h.X j hj⟩
theorem LotI.cw (h : LotI n x w X W q s) {j : Nat} (hj : j < n) : Cm s 27 (w j) := ⟨W j, h.w j hj, h.W j hj⟩
theorem LotI.bx (h : LotI n x w X W q s) {j : Nat} (hj : j < n) : Bd 38 6 (x j) := (h.cx hj).bd (by have := h.q0; omega) h.qa
theorem LotI.bw (h : LotI n x w X W q s) {j : Nat} (hj : j < n) : Bd 27 4 (w j) := (h.cw hj).bd (by have := h.s0; omega) h.sa
theorem cm_rt (h : LotI n x w X W q s) : ∀ j k, j ≤ n → Cm (q ^ j) (39 * j + 1) (rtq x j k)
  | 0, k, _ => by
    show Cm _ _ (if k = 0 then 1 else 0)
    split
    · exact ⟨1, by rw [Int.pow_zero, Rat.one_mul], by decide⟩
    · exact .zero
  | j + 1, k, hj => by
    have h1 := cm_rt h j k (by omega)
    have h2 : Cm (q ^ j) (39 * j + 1) (if k = 0 then 0 else rtq x j (k - 1)) := by
      split
      · exact .zero
      · exact cm_rt h j (k - 1) (by omega)
    have h3 := (h2.up h.qa).mono (show 39 * j + 1 + 6 ≤ 39 * j + 1 + 38 by omega)
    have h4 := (h.cx hj).mul h1
    rw [Int.mul_comm, Nat.add_comm] at h4
    have h5 := h3.add h4.neg
    show Cm _ _ ((if k = 0 then 0 else rtq x j (k - 1)) - x j * rtq x j k)
    rw [Int.pow_succ, Rat.sub_eq_add_neg]
    exact h5.mono (by omega)
theorem pw_lt (h : LotI n x w X W q s) : ∀ j, (q ^ j).natAbs < 2 ^ (6 * j + 1)
  | 0 => by rw [Int.pow_zero]; decide
  | j + 1 => by rw [Int.pow_succ]; exact nle (nmul (pw_lt h j) h.qa) (by omega)
theorem pw_pos (h : LotI n x w X W q s) (j : Nat) : 0 < q ^ j := Int.pow_pos h.q0
theorem cm_pow (h : LotI n x w X W q s) {j : Nat} (hj : j < n) : ∀ k, Cm (q ^ k) (38 * k + 1) (x j ^ k)
  | 0 => ⟨1, by rw [Int.pow_zero, Rat.pow_zero, Rat.one_mul], by decide⟩
  | k + 1 => by
    rw [Int.pow_succ, Rat.pow_succ]
    exact ((cm_pow h hj k).mul (h.cx hj)).mono (by omega)
/-- a sum of the first j -/
theorem cm_mom (h : LotI n x w X W q s) {k j : Nat} (hk : k ≤ 8) (hj : j ≤ n) : Cm (s * q ^ k) 360 (momq w x j k) := by
  obtain ⟨t, h1, h2⟩ := Cm.sum (f := fun j => w j * x j ^ k) (N := s * q ^ k) (e := 27 + (38 * k + 1)) j fun i hi => (h.cw (by omega)).mul (cm_pow h (by omega) k)
  refine ⟨t, h1, Nat.lt_of_le_of_lt h2 ?_⟩
  have h8 := h.len
  have : j * 2 ^ (27 + (38 * k + 1)) ≤ 8 * 2 ^ (27 + (38 * k + 1)) := Nat.mul_le_mul_right _ (by omega)
  have e : 8 * 2 ^ (27 + (38 * k + 1)) = 2 ^ (3 + (27 + (38 * k + 1))) := by rw [Nat.pow_add 2 3]
  exact Nat.lt_of_le_of_lt (e ▸ this) (Nat.pow_lt_pow_right (by decide) (by omega))
theorem cm_momN (h : LotI n x w X W q s) {k : Nat} (hk : k ≤ n) : Cm (s * q ^ n) 420 (momq w x n k) := by
  have := h.len
  have e := (cm_mom h (k := k) (by omega) (Nat.le_refl n)).up (pw_lt h (n - k))
  rw [Int.mul_assoc, ← Int.pow_add, show k + (n - k) = n by omega] at e
  exact e.mono (by omega)
theorem bd_mom (h : LotI n x w X W q s) {k j : Nat} (hk : k ≤ 8) (hj : j ≤ n) : Bd 360 60 (momq w x j k) :=
  (cm_mom h hk hj).bd (by have := Int.mul_pos h.s0 (pw_pos h k); omega) (nle (nmul h.sa (pw_lt h k)) (by omega))
theorem bd_pow (h : LotI n x w X W q s) {j : Nat} (hj : j < n) {k : Nat} (hk : k ≤ 9) : Bd 360 60 (x j ^ k) := ((cm_pow h hj k).bd (by have := pw_pos h k; omega) (pw_lt h k)).mono (by omega) (by omega)
theorem bd_rt (h : LotI n x w X W q s) {j k : Nat} (hj : j ≤ n) : Bd 360 60 (rtq x j k) := by
  have := h.len
  exact ((cm_rt h j k hj).bd (by have := pw_pos h j; omega) (pw_lt h j)).mono (by omega) (by omega)
end
/-! ### lots -/
theorem polyv_keep {CP CR : Addr} {H G : Hp} {x C dx : Addr} {v : V} {s : Nat} {f : Nat → Rat} (h : PolyV CP CR H v s f) (hx : H x = some (.ins C dx [])) (k : ∀ b u, b ≠ x → H b = some u → G b = some u) : PolyV CP CR G v s f := by
  obtain ⟨⟨a, d, tp, ys, l, e, h1, h2, h3, h4, h5⟩, z, z2⟩ := h
  exact ⟨⟨a, d, tp, ys, l, e, k _ _ (ne_of h1 hx fun e => by cases e) h1, k _ _ (ne_of h2 hx fun e => by cases e) h2, h3, fun j y e => (h4 j y e).keep hx rat_ne_nil k, h5.keep hx rat_ne_nil k⟩, z, z2⟩
theorem rt_size {x : Nat → Rat} {n s : Nat} {CP CR : Addr} {H : Hp} {v : V} (h : PolyV CP CR H v s (rtq x n)) : s = n + 1 :=
  size_one h.zero h.last (fun k hk => rtq_out n k (by omega)) fun _ => by rw [Nat.add_sub_cancel, rtq_top]; decide
/-- a Lot at the points x 0, x 1, .. with the weights w 0, w 1, .. -/
def LotV (A : Ad) (H : Hp) (v : V) (n : Nat) (x w : Nat → Rat) : Prop := ∃ a dx p tp ys c, v = .ref a ∧ H a = some (.ins A.Lot dx [("poly", p), ("begin", .ref tp), ("count", .int c)]) ∧ c = (n : Int) ∧ PolyV A.Poly A.Ratio H p (n + 1) (rtq x n) ∧ H tp = some (.tup ys) ∧ ys.length = n ∧ RatsV A.Ratio H ys (momq w x n)
section
variable {H H' : Hp} {v : V} {n : Nat} {x w x' w' : Nat → Rat}
theorem LotV.same (h : LotV A H v n x w) (k : Same H H') : LotV A H' v n x w := by
  obtain ⟨a, dx, p, tp, ys, c, e, h1, h2, h3, h4, h5, h6⟩ := h
  exact ⟨a, dx, p, tp, ys, c, e, k _ _ h1, h2, h3.same k, k _ _ h4, h5, h6.same k⟩
theorem LotV.stp {f : Addr} (h : LotV A H v n x w) (F : FeedAt H f) (k : Stp f H H') : LotV A H' v n x w := by
  obtain ⟨a, dx, p, tp, ys, c, e, h1, h2, h3, h4, h5, h6⟩ := h
  exact ⟨a, dx, p, tp, ys, c, e, k.keep _ _ (F.ne h1 fun _ _ _ _ _ _ w => by cases w) h1, h2, h3.stp F k, k.keep _ _ (F.ne h4 fun _ _ _ _ _ _ w => by cases w) h4, h5, h6.stp F k⟩
theorem LotV.ins (h : LotV A H v n x w) : Ins H v A.Lot := by
  obtain ⟨a, dx, p, tp, ys, c, e, h1, _⟩ := h
  exact ⟨a, dx, _, e, h1⟩
theorem LotV.to (h : LotV A H v n x w) (e : ∀ j, j < n → w j = w' j ∧ x j = x' j) : LotV A H v n x' w' := by
  obtain ⟨a, dx, p, tp, ys, c, e0, h1, h2, h3, h4, h5, h6⟩ := h
  exact ⟨a, dx, p, tp, ys, c, e0, h1, h2, h3.to fun k => rtq_congr n k fun j hj => (e j hj).2, h4, h5, fun k y hy => (h6 k y hy).to (momq_congr e)⟩
end
def sp_sure (A : Ad) : Sp := fun vs H Q _ => ∃ o dx l, vs = [.ref o, .ref l] ∧ H o = some (.ins A.Sure dx []) ∧ Q .non (upd H o (.ins A.Sure dx [("numbers", .ref l)]))
theorem ok_Sure___init__ (T : Txt K mg A D) : FnOk P w K mg base CX0 1 A.f_Sure___init__ D.f_Sure___init__ ["self", "numbers"] (sp_sure A) := by
  skip
  refine T.F_Sure___init__.ok sc_Sure___init__ (fun vs H Q E h => ?_) (fun cdv A' outer s H vs Q E hr h => ?_)
  · obtain ⟨o, dx, l, rfl, _⟩ := h
    rfl
  · obtain ⟨o, dx, l, rfl, ho, q⟩ := h
    refine ⟨_, (pss_one (ps_fld (pv 0) (pv 1) rfl)), ?_⟩
    exact ⟨_, rfl, _, rfl, o, A.Sure, dx, _, rfl, ho, T.k_Sure.cl, T.n_Sure_numbers, (by show 0 < 1000; decide), q⟩
theorem sure_make {H : Hp} {E : XK} {x dx l : Addr} {Q : Hp → Prop} (nx : H x = none) (nd : H dx = none) (q : ∀ G, Same H G → G x = some (.ins A.Sure dx [("numbers", .ref l)]) → Q G) : sp_sure A [.ref x, .ref l] (upd (upd H dx (.own x)) x (.ins A.Sure dx [])) (fun v G => v = .non ∧ Q G) E :=
  ⟨x, dx, l, rfl, upd_same, rfl, q _ (by rw [upd_upd]; exact same_upd' (same_upd nd) nx) upd_same⟩
def sp_lotnew (A : Ad) : Sp := fun vs H Q _ => ∃ (o dx sa ds l : Addr) (p : V) (ys : List V) (n : Nat) (x w : Nat → Rat), vs = [.ref o, p, .ref sa] ∧ H o = some (.ins A.Lot dx []) ∧ PolyV A.Poly A.Ratio H p (n + 1) (rtq x n) ∧ H sa = some (.ins A.Sure ds [("numbers", .ref l)]) ∧ H l = some (.lst ys) ∧ ys.length = n ∧ n ≤ 60 ∧ RatsV A.Ratio H ys (momq w x n) ∧
  ∀ G, (∀ b u, b ≠ o → H b = some u → G b = some u) → LotV A G (.ref o) n x w → Q .non G
theorem ok_Lot___init__ (T : Txt K mg A D) : FnOk P w K mg base CX0 1 A.f_Lot___init__ D.f_Lot___init__ ["self", "poly", "begin"] (sp_lotnew A) := by
  skip
  refine T.F_Lot___init__.ok sc_Lot___init__ (fun vs H Q E h => ?_) (fun cdv A' outer s H vs Q E hr h => ?_)
  · obtain ⟨o, dx, sa, ds, l, p, ys, n, x, w, rfl, _⟩ := h
    rfl
  · obtain ⟨o, dx, sa, ds, l, p, ys, n, x, w, rfl, ho, hp, hs, hl, ly, n60, hr, q⟩ := h
    refine ⟨_, (pss_cons (ps_set (i := 3) sc_Lot___init__.nd rfl (.inl rfl) (pe_ifExp (pt_val (pe_callB call_isi rfl T.z_isinstance (by decide +kernel) (pa_cons (pv 2) (pa_cons (pe_glob (v := .ref A.Sure) rfl T.g_Sure rfl) pa_nil)))) (pe_fld (pv 2) rfl) pe_never))
  (pss_cons (ps_fld (pv 0) (pv 1) rfl)
  (pss_cons (ps_fld (pv 0) (pe_callTy call_tuple_of rfl T.z_tuple (by decide +kernel) (pa_cons (pv 3) pa_nil)) rfl)
  (pss_one (ps_fld (pv 0) (pe_fld (pv 1) rfl) rfl))))), ?_⟩
    have cl := T.k_Lot.cl
    refine ⟨_, rfl, .ref sa, .ref A.Sure, _, _, true, rfl, .own _, T.k_Sure.ty hs, kit_self, true, rfl, iteT ?_⟩
    refine ⟨_, rfl, sa, A.Sure, ds, _, _, rfl, hs, T.k_Sure.cl, T.n_Sure_numbers, rfl, ?_⟩
    refine ⟨_, rfl, _, rfl, o, A.Lot, dx, _, rfl, ho, cl, T.n_Lot_poly, (by show 0 < 1000; decide), ?_⟩
    have k1 : ∀ b u, b ≠ o → H b = some u → upd H o (.ins A.Lot dx [("poly", p)]) b = some u := upd_but
    have lo : l ≠ o := ne_of hl ho fun e => by cases e
    refine ⟨_, rfl, l, _, rfl, .inl ⟨.of (k1 _ _ lo hl), fun t nt => ?_⟩⟩
    have to : t ≠ o := fun e => by rw [e, upd_same] at nt; cases nt
    have nt0 : H t = none := by rw [upd_ne to] at nt; exact nt
    have ho1 : upd (upd H o (.ins A.Lot dx [("poly", p)])) t (.tup ys) o = some (.ins A.Lot dx [("poly", p)]) := by rw [upd_ne (Ne.symm to), upd_same]
    refine ⟨_, rfl, o, A.Lot, dx, _, rfl, ho1, cl, T.n_Lot_begin, (by show 1 < 1000; decide), ?_⟩
    have k2 : ∀ (z : HO) b u, b ≠ o → H b = some u → upd (upd (upd H o (.ins A.Lot dx [("poly", p)])) t (.tup ys)) o z b = some u := fun z b u hb h => by
      have bt : b ≠ t := fun e => by rw [e, nt0] at h; cases h
      rw [upd_ne hb, upd_ne bt, upd_ne hb]
      exact h
    have hp2 := polyv_keep hp ho (k2 (.ins A.Lot dx [("poly", p), ("begin", .ref t)]))
    obtain ⟨⟨pa, pd, tp, zs, l', rfl, h1, _⟩, _⟩ := id hp2
    refine ⟨_, rfl, pa, A.Poly, pd, _, _, rfl, h1, T.k_Poly.cl, T.n_Poly_degree, rfl, _, rfl, o, A.Lot, dx, _, rfl, upd_same, cl, T.n_Lot_count, (by show 2 < 1000; decide), ?_⟩
    show _
    have fin := q (upd (upd (upd (upd H o (.ins A.Lot dx [("poly", .ref pa)])) t (.tup ys)) o (.ins A.Lot dx [("poly", .ref pa), ("begin", .ref t)])) o (.ins A.Lot dx [("poly", .ref pa), ("begin", .ref t), ("count", .int (((n + 1 : Nat) : Int) - 1))]))
    rw [upd_upd] at fin
    have := fin (k2 _) ⟨o, dx, .ref pa, t, ys, _, rfl, upd_same, by omega, polyv_keep hp ho (k2 _), by rw [upd_ne to, upd_same], ly, fun j y e => (hr j y e).keep ho rat_ne_nil (k2 _)⟩
    rw [← upd_upd (o := .ins A.Lot dx [("poly", .ref pa), ("begin", .ref t)])] at this
    exact this
theorem lot_make {H : Hp} {E : XK} {o dx sa ds l : Addr} {p : V} {ys : List V} {n : Nat} {x w : Nat → Rat} {Q : Hp → Prop} (nx : H o = none) (nd : H dx = none) (hp : PolyV A.Poly A.Ratio H p (n + 1) (rtq x n)) (hs : H sa = some (.ins A.Sure ds [("numbers", .ref l)])) (hl : H l = some (.lst ys)) (ly : ys.length = n) (n60 : n ≤ 60) (hr : RatsV A.Ratio H ys (momq w x n))
    (q : ∀ G, Same H G → LotV A G (.ref o) n x w → Q G) : sp_lotnew A [.ref o, p, .ref sa] (upd (upd H dx (.own o)) o (.ins A.Lot dx [])) (fun v G => v = .non ∧ Q G) E := by
  have s0 : Same H (upd (upd H dx (.own o)) o (.ins A.Lot dx [])) := same_upd' (same_upd nd) nx
  exact ⟨o, dx, sa, ds, l, p, ys, n, x, w, rfl, upd_same, hp.same s0, s0 _ _ hs, s0 _ _ hl, ly, n60, hr.same s0, fun G k pl => ⟨rfl, q G (made_but nx nd k) pl⟩⟩
/-! ### the sums obey the recurrence of the points' polynomial -/
theorem ev_next {x : Nat → Rat} {n : Nat} {y : Rat} : sumR (fun k => rtq x (n + 1) k * y ^ k) (n + 2) = (y - x n) * sumR (fun k => rtq x n k * y ^ k) (n + 1) := by
  have e1 : sumR (fun k => (if k = 0 then 0 else rtq x n (k - 1)) * y ^ k) (n + 2) = sumR (fun k => rtq x n k * y ^ k) (n + 1) * y := by
    rw [sumR_head (f := fun k => (if k = 0 then 0 else rtq x n (k - 1)) * y ^ k), ← sumR_mulr]
    show (if (0 : Nat) = 0 then (0 : Rat) else _) * _ + _ = _
    rw [if_pos rfl, Rat.zero_mul, Rat.zero_add]
    refine sumR_congr fun k _ => ?_
    show (if k + 1 = 0 then (0 : Rat) else rtq x n (k + 1 - 1)) * y ^ (k + 1) = _
    rw [if_neg (by omega), Nat.add_sub_cancel, Rat.pow_succ]
    grind
  have e2 : sumR (fun k => rtq x n k * y ^ k) (n + 2) = sumR (fun k => rtq x n k * y ^ k) (n + 1) := by
    show sumR _ (n + 1) + rtq x n (n + 1) * _ = _
    rw [rtq_out n (n + 1) (by omega), Rat.zero_mul, Rat.add_zero]
  have e3 : sumR (fun k => rtq x (n + 1) k * y ^ k) (n + 2) = sumR (fun k => (if k = 0 then 0 else rtq x n (k - 1)) * y ^ k) (n + 2) - x n * sumR (fun k => rtq x n k * y ^ k) (n + 2) := by
    rw [← sumR_mul, ← sumR_sub]
    exact sumR_congr fun k _ => by
      show ((if k = 0 then 0 else rtq x n (k - 1)) - x n * rtq x n k) * y ^ k = _
      grind
  rw [e3, e1, e2]
  grind
theorem rt_root {x : Nat → Rat} : ∀ n i, i < n → sumR (fun k => rtq x n k * x i ^ k) (n + 1) = 0
  | 0, i, h => absurd h (Nat.not_lt_zero _)
  | n + 1, i, h => by
    rw [ev_next]
    rcases (by omega : i = n ∨ i < n) with e | e
    · subst e
      grind
    · rw [rt_root n i e, Rat.mul_zero]
theorem pow_add_rat {a : Rat} (j : Nat) : ∀ k, a ^ (j + k) = a ^ j * a ^ k
  | 0 => by rw [Nat.add_zero, Rat.pow_zero, Rat.mul_one]
  | k + 1 => by rw [← Nat.add_assoc, Rat.pow_succ, Rat.pow_succ, pow_add_rat j k, Rat.mul_assoc]
theorem mom_rec {w x : Nat → Rat} {n j : Nat} : sumR (fun k => rtq x n k * momq w x n (j + k)) (n + 1) = 0 := by
  have e : ∀ k, rtq x n k * momq w x n (j + k) = sumR (fun i => w i * x i ^ j * (rtq x n k * x i ^ k)) n := fun k => by
    show rtq x n k * sumR _ n = _
    rw [← sumR_mul]
    exact sumR_congr fun i _ => by rw [pow_add_rat]; grind
  rw [sumR_congr fun k _ => e k, sumR_swap (F := fun k i => w i * x i ^ j * (rtq x n k * x i ^ k)) (n + 1)]
  exact sumR_zero fun i hi => by rw [sumR_mul, rt_root n i hi, Rat.mul_zero]
theorem mom_next {w x : Nat → Rat} {n j : Nat} : momq w x n (j + n) = -sumR (fun k => rtq x n k * momq w x n (j + k)) n := by
  have h := mom_rec (w := w) (x := x) (n := n) (j := j)
  have h : sumR (fun k => rtq x n k * momq w x n (j + k)) n + rtq x n n * momq w x n (j + n) = 0 := h
  rw [rtq_top] at h
  grind
theorem sum_rng (f : Nat → Int) : ∀ n, ((((List.range n).map f).sum : Int) : Rat) = sumR (fun k => (f k : Rat)) n
  | 0 => rfl
  | n + 1 => by
    rw [List.range_succ, List.map_append, List.sum_append, Rat.intCast_add, sum_rng f n]
    show _ + (((f n + 0 : Int)) : Rat) = _ + _
    rw [Int.add_zero]
/-- smaller points, for the long rows -/
structure LotJ (n : Nat) (x w : Nat → Rat) (X W : Nat → Int) (q s : Int) : Prop where
  I : LotI n x w X W q s
  X30 : ∀ j, j < n → (X j).natAbs < 2 ^ 30
  q3 : q < 2 ^ 3
section
variable {n : Nat} {x w : Nat → Rat} {X W : Nat → Int} {q s : Int}
theorem LotJ.qa3 (h : LotJ n x w X W q s) : q.natAbs < 2 ^ 3 := by have := h.I.q0; have := h.q3; omega
theorem pow3 (h : LotJ n x w X W q s) : ∀ j, (q ^ j).natAbs < 2 ^ (3 * j + 1)
  | 0 => by rw [Int.pow_zero]; decide
  | j + 1 => by rw [Int.pow_succ]; exact nle (nmul (pow3 h j) h.qa3) (by omega)
theorem cmj_pow (h : LotJ n x w X W q s) {j : Nat} (hj : j < n) : ∀ k, Cm (q ^ k) (30 * k + 1) (x j ^ k)
  | 0 => ⟨1, by rw [Int.pow_zero, Rat.pow_zero, Rat.one_mul], by decide⟩
  | k + 1 => by
    rw [Int.pow_succ, Rat.pow_succ]
    exact ((cmj_pow h hj k).mul ⟨X j, h.I.x j hj, h.X30 j hj⟩).mono (by omega)
theorem cmj_mom (h : LotJ n x w X W q s) {k N : Nat} (hk : k ≤ N) : Cm (s * q ^ N) (33 + 30 * N) (momq w x n k) := by
  obtain ⟨t, h1, h2⟩ := Cm.sum (f := fun j => w j * x j ^ k) (N := s * q ^ N) (e := 29 + 30 * N) n fun i hi => by
    have e := ((h.I.cw hi).mul (cmj_pow h hi k)).up (pow3 h (N - k))
    rw [Int.mul_assoc, ← Int.pow_add, show k + (N - k) = N by omega] at e
    exact e.mono (by omega)
  refine ⟨t, h1, Nat.lt_of_le_of_lt h2 ?_⟩
  have h8 := h.I.len
  have h3 : n * 2 ^ (29 + 30 * N) ≤ 8 * 2 ^ (29 + 30 * N) := Nat.mul_le_mul_right _ (by omega)
  have e : 8 * 2 ^ (29 + 30 * N) = 2 ^ (3 + (29 + 30 * N)) := by rw [Nat.pow_add 2 3]
  exact Nat.lt_of_le_of_lt (e ▸ h3) (Nat.pow_lt_pow_right (by decide) (by omega))
end
end

end Mo

namespace Mo
open PySem PySem.Spec PyProof.Rows L2 MoL MoW
open C8 (pss_cut tCut)
section
variable {P : Program} {w : World} {K : PySem.W.Frag} {mg : Str → Option Value} {base : Heap} {A : Ad} {D : Fd}
theorem tops_take {e : Nat} {ts : List Int} (h : TopsB e ts) (n : Nat) : TopsB e (ts.take n) := fun k => by
  rw [List.getD_eq_getElem?_getD, List.getElem?_take]
  split
  · rw [← List.getD_eq_getElem?_getD]
    exact h k
  · exact Nat.two_pow_pos _
def sp_continued (A : Ad) : Sp := fun vs H Q _ => ∃ (lt : Addr) (b : V) (ts : List Int) (ys : List V) (n many : Nat) (x w : Nat → Rat) (X W : Nat → Int) (q s B : Int), vs = [.ref lt, b, .int many] ∧ H lt = some (.lst (ts.map V.int)) ∧ ts.length = n + 1 ∧ TopsV B ts (rtq x n) ∧ 0 < B ∧ B.natAbs < 2 ^ 60 ∧ TopsB 400 ts ∧ SeqAt H b ys ∧ ys.length = n ∧ RatsV A.Ratio H ys (momq w x n) ∧ LotJ n x w X W q s ∧ many ≤ 61 ∧
  ∀ H' d zs, Same H H' → H d = none → H' d = some (.lst zs) → zs.length = many → RatsV A.Ratio H' zs (momq w x n) → Q (.ref d) H'
theorem ok_continued (T : Txt K mg A D) : FnOk P w K mg base CX0 4 A.f_continued D.f_continued ["tops", "begin", "many"] (sp_continued A) := by
  have G_Ratio_init : FnOk P w K mg base CX0 2 A.f_Ratio___init__ D.f_Ratio___init__ ["self", "top", "bottom"] (sp_init A.Ratio) := ok_Ratio___init__ T
  have b_Ratio_init2 := T.b_Ratio___init__
  have d_Ratio_init2 : Vals [] [] := .nil
  have G_paired : FnOk P w K mg base CX0 1 A.f_paired D.f_paired ["factors", "tops"] (sp_paired) := ok_paired T
  have G_whole_parts : FnOk P w K mg base CX0 2 A.f_whole_parts D.f_whole_parts ["ratios"] (sp_partsN A.Ratio) := ok_whole_parts T
  refine T.F_continued.ok sc_continued (fun vs H Q E h => ?_) (fun cdv A' outer s H vs Q E hr h => ?_)
  · obtain ⟨lt, b, ts, ys, n, many, x, w, X, W, qi, s, B, rfl, _⟩ := h
    rfl
  · obtain ⟨lt, b, ts, ys, n, many, x, w, X, W, qi, s, B, rfl, hlt, lts, hts, B0, B1, bts, ⟨ba, rfl, hb⟩, lys, rys, hJ, hm, q⟩ := h
    refine ⟨_, (pss_cons (ps_set (i := 3) sc_continued.nd rfl (.inl rfl) (pe_op op_sub (pe_callB call_len_seq rfl T.z_len (by decide +kernel) (pa_cons (pv 0) pa_nil)) pe_int))
  (pss_cons (ps_set (i := 4) sc_continued.nd rfl (.inl rfl) (pe_callTy call_list_of rfl T.z_list (by decide +kernel) (pa_cons (pv 1) pa_nil)))
  (pss_cons (ps_while PassesOwn.never (pt_cmpR op_lt (pe_callB call_len_seq rfl T.z_len (by decide +kernel) (pa_cons (pv 4) pa_nil)) (pv 2) (nomark _)) (pss_cons (ps_asg (pe_call G_whole_parts (hr.mono (by decide)) rfl T.g_whole_parts T.F_whole_parts.kp T.b_whole_parts .nil pass0 (pa_cons (pe_slice sl_list (pv 4) (po_some (pe_op op_sub (pe_callB call_len_seq rfl T.z_len (by decide +kernel) (pa_cons (pv 4) pa_nil)) (pv 3))) po_none) pa_nil)) (pg_tup rfl (pgs_cons (pg_name (i := 5) sc_continued.nd rfl (.inl rfl)) (pgs_cons (pg_name (i := 6) sc_continued.nd rfl (.inl rfl)) pgs_nil))))
  (pss_one (ps_expr (pe_bm PySem.F.plainAttrs_list PySem.F.slot_list_append PySem.F.type_list_append mt_append (pv 4) (pa_cons (pe_make T.M_Ratio G_Ratio_init (hr.mono (by decide)) rfl T.g_Ratio b_Ratio_init2 d_Ratio_init2 pass0 (pa_cons (pe_un un_neg (pe_call G_paired (hr.mono (by decide)) rfl T.g_paired T.F_paired.kp T.b_paired .nil pass0 (pa_cons (pe_slice sl_list (pv 0) po_none (po_some (pv 3))) (pa_cons (pv 5) pa_nil)))) (pa_cons (pe_op op_mulW (pv 6) (pe_ix ix_list (pv 0) (pv 3) (fun _ _ => rfl))) pa_nil))) pa_nil))))))
  (pss_one (ps_ret (pe_slice sl_list (pv 4) po_none (po_some (pv 2)))))))), ?_⟩
    have hI := hJ.I
    have l8 := hI.len
    refine ⟨_, rfl, lt, _, rfl, .inl (.of hlt), _, _, rfl, rfl, ?_⟩
    have e0 : ((ts.map V.int).length : Int) - 1 = (n : Int) := by rw [List.length_map, lts]; omega
    show gName 3 (V.int (((ts.map V.int).length : Int) - 1)) _ _ _
    rw [e0]
    refine ⟨_, rfl, ba, ys, rfl, hb.imp .of .of, fun l nl => ?_⟩
    have s0 := same_upd (o := .lst ys) nl
    refine while_up (many - n) (fun j σ G => Same H G ∧ ∃ (zs : List V) (y5 y6 : Option V), σ = [some (.ref lt), some (.ref ba), some (.int (many : Int)), some (.int (n : Int)), some (.ref l), y5, y6] ∧ G l = some (.lst zs) ∧ zs.length = n + j ∧ RatsV A.Ratio G zs (momq w x n)) ⟨s0, ys, _, _, rfl, upd_same, by omega, rys.same s0⟩ ?_
    rintro j σ G hj ⟨sm, zs, y5, y6, rfl, hl, lz, rz⟩
    refine ⟨_, rfl, l, _, rfl, .inl (.of hl), _, rfl, _, _, rfl, rfl, _, rfl, ite2 (fun c => ?_) (fun c => ?_)⟩
    · have c := of_decide_eq_true c
      refine ⟨_, up_next (show j < many - n by omega), ?_⟩
      refine ⟨_, rfl, _, rfl, l, _, rfl, .inl (.of hl), _, rfl, _, _, rfl, rfl, _, rfl, l, zs, rfl, .of hl, fun p np => ?_⟩
      have t1 := same_upd (o := .lst (cutV zs (some ((zs.length : Int) - (n : Int))) none)) np
      have hp : upd G p (.lst (cutV zs (some ((zs.length : Int) - (n : Int))) none)) p = some (.lst (zs.drop j)) := by
        rw [upd_same, show (zs.length : Int) - (n : Int) = (j : Int) by omega, cut_drop zs j (by omega)]
      generalize upd G p (.lst (cutV zs (some ((zs.length : Int) - (n : Int))) none)) = G1 at t1 hp
      have rd : RatsV A.Ratio G1 (zs.drop j) (fun k => momq w x n (j + k)) := fun k y e => by
        rw [List.getElem?_drop] at e
        exact (rz _ _ e).same t1
      have ld : (zs.drop j).length = n := by rw [List.length_drop]; omega
      have Nb : (s * qi ^ (j + n)).natAbs < 2 ^ 200 := nle (nmul hI.sa (pow3 hJ (j + n))) (by omega)
      refine ⟨.ref p, zs.drop j, _, s * qi ^ (j + n), 33 + 30 * (j + n), 200, rfl, ⟨p, rfl, .inl hp⟩, rd, fun k hk => cmj_mom hJ (by omega), Int.mul_pos hI.s0 (pw_pos hI _), Nb, by omega, by omega, by omega, fun H2 tp l2 us Bl k2 htp hl2 lus b0 b1 hus bus => ?_⟩
      refine ⟨tp, _, rfl, .of htp, rfl, _, _, rfl, _, _, rfl, rfl, ?_⟩
      have k12 := t1.trans k2
      have hl2' := k12 _ _ hl
      have hlt2 := k12 _ _ (sm _ _ hlt)
      refine ⟨_, rfl, .inl ⟨rfl, _, .of hl2'⟩, _, rfl, _, rfl, _, rfl, lt, _, rfl, .of hlt2, fun p2 np2 => ?_⟩
      have t3 := same_upd (o := .lst (cutV (ts.map V.int) none (some (n : Int)))) np2
      have hp2 : upd H2 p2 (.lst (cutV (ts.map V.int) none (some (n : Int)))) p2 = some (.lst ((ts.take n).map V.int)) := by rw [upd_same, cut_to, List.map_take]
      generalize upd H2 p2 (.lst (cutV (ts.map V.int) none (some (n : Int)))) = H3 at t3 hp2
      have lt1 : (ts.take n).length = n := by rw [List.length_take]; omega
      refine ⟨_, rfl, p2, l2, ts.take n, us, 400, 33 + 30 * (j + n), rfl, hp2, t3 _ _ hl2, by omega, by omega, tops_take bts n, bus, by decide, by omega, fun H4 k4 => ?_⟩
      have k34 := t3.trans k4
      have tn : ts.getD n 0 = B := inj (by rw [hts n _ (getD_at (by omega)), rtq_top, Rat.one_mul])
      refine ⟨_, rfl, _, rfl, _, rfl, _, rfl, lt, _, _, _, rfl, rfl, .of (k34 _ _ hlt2), atI_nat (int_at (by omega)), _, _, rfl, rfl, (sm_of b1 (by decide)).mul (sm_of (bts n) (by decide)), fun xr dxr nxr ndr ner => ?_⟩
      rw [tn, lt1]
      refine rat_make (by have := Int.mul_pos b0 B0; omega) (sm_of (nmul b1 B1) (by decide)) nxr ndr ner fun H5 k5 r5 => ?_
      have val : momq w x n (j + n) * ((Bl * B : Int) : Rat) = ((-((List.range n).map fun k => (ts.take n).getD k 0 * us.getD k 0).sum : Int) : Rat) := by
        rw [Rat.intCast_neg, sum_rng, mom_next, Rat.intCast_mul]
        have : sumR (fun k => (((ts.take n).getD k 0 * us.getD k 0 : Int) : Rat)) n = sumR (fun k => rtq x n k * momq w x n (j + k)) n * ((B : Rat) * (Bl : Rat)) := by
          rw [← sumR_mulr]
          refine sumR_congr fun k hk => ?_
          have e1 : (ts.take n).getD k 0 = ts.getD k 0 := by rw [List.getD_eq_getElem?_getD, List.getElem?_take, if_pos hk, List.getD_eq_getElem?_getD]
          rw [e1, Rat.intCast_mul, hts k _ (getD_at (by omega)), hus k _ (getD_at (by omega))]
          grind
        rw [this]
        grind
      have r6 := r5.to (div_eq (by have := Int.mul_pos b0 B0; omega) val)
      have k6 := k34.trans k5
      have hl6 := k6 _ _ hl2'
      refine ⟨l, zs, _, rfl, rfl, hl6, small1000 (by omega), ?_⟩
      have sE : Same H (upd H5 l (.lst (zs ++ [.ref xr]))) := same_push ((sm.trans k12).trans k6) nl
      exact ⟨sE, _, _, _, rfl, upd_same, by rw [List.length_append]; show _ + 1 = _; omega, ((rz.same k12).same k6).push hl6 (r6.to (by rw [lz, Nat.add_comm]))⟩
    · have c : ¬ ((zs.length : Nat) : Int) < (many : Int) := fun h => c (decide_eq_true h)
      refine ⟨_, rfl, _, rfl, _, rfl, l, zs, rfl, .of hl, fun p np => ?_⟩
      have t1 := same_upd (o := .lst (cutV zs none (some (many : Int)))) np
      have hp : upd G p (.lst (cutV zs none (some (many : Int)))) p = some (.lst (zs.take many)) := by rw [upd_same, cut_to]
      generalize upd G p (.lst (cutV zs none (some (many : Int)))) = G1 at t1 hp
      refine q G1 p (zs.take many) (sm.trans t1) (sm.free np) hp (by rw [List.length_take]; omega) fun k y e => ?_
      rw [List.getElem?_take] at e
      split at e
      · exact (rz k y e).same t1
      · cases e
def sp_firstn (A : Ad) : Sp := fun vs H Q _ => ∃ (v : V) (n many : Nat) (x w : Nat → Rat) (X W : Nat → Int) (q s : Int), vs = [v, .int many] ∧ LotV A H v n x w ∧ LotJ n x w X W q s ∧ many ≤ 61 ∧
  ∀ H' d zs, Same H H' → H d = none → H' d = some (.lst zs) → zs.length = many → RatsV A.Ratio H' zs (momq w x n) → Q (.ref d) H'
theorem ok_first_numbers (T : Txt K mg A D) : FnOk P w K mg base CX0 5 A.f_first_numbers D.f_first_numbers ["lot", "many"] (sp_firstn A) := by
  have G_continued : FnOk P w K mg base CX0 4 A.f_continued D.f_continued ["tops", "begin", "many"] (sp_continued A) := ok_continued T
  have G_whole_parts : FnOk P w K mg base CX0 2 A.f_whole_parts D.f_whole_parts ["ratios"] (sp_partsN A.Ratio) := ok_whole_parts T
  refine T.F_first_numbers.ok sc_first_numbers (fun vs H Q E h => ?_) (fun cdv A' outer s H vs Q E hr h => ?_)
  · obtain ⟨v, n, many, x, w, X, W, qi, s, rfl, _⟩ := h
    rfl
  · obtain ⟨v, n, many, x, w, X, W, qi, s, rfl, hv, hJ, hm, q⟩ := h
    refine ⟨_, (pss_one (ps_ret (pe_call G_continued (hr.mono (by decide)) rfl T.g_continued T.F_continued.kp T.b_continued .nil pass0 (pa_cons (pe_ix ix_tup (pe_call G_whole_parts (hr.mono (by decide)) rfl T.g_whole_parts T.F_whole_parts.kp T.b_whole_parts .nil pass0 (pa_cons (pe_fld (pe_fld (pv 0) rfl) rfl) pa_nil)) pe_int (fun _ _ => rfl)) (pa_cons (pe_fld (pv 0) rfl) (pa_cons (pv 1) pa_nil)))))), ?_⟩
    have cl := T.k_Lot.cl
    have hI := hJ.I
    have l8 := hI.len
    obtain ⟨a, dx, p, tp, ys, cn, rfl, h1, _, h3, h4, h5, h6⟩ := hv
    obtain ⟨⟨pa, pd, tq, zs, l', rfl, g1, g2, g3, g4, g5⟩, _⟩ := h3
    refine ⟨_, rfl, a, A.Lot, dx, _, _, rfl, h1, cl, T.n_Lot_poly, rfl, pa, A.Poly, pd, _, _, rfl, g1, T.k_Poly.cl, T.n_Poly_coefficients, rfl, .ref tq, zs, rtq x n, qi ^ n, 39 * n + 1, 6 * n + 1, rfl, ⟨tq, rfl, .inr g2⟩, g4, fun k _ => cm_rt hI n k (Nat.le_refl _), pw_pos hI n, pw_lt hI n, by omega, by omega, by omega, fun H1 pt lt ts B k1 hpt hlt lts b0 b1 hts bts => ?_⟩
    refine ⟨pt, _, 0, _, rfl, rfl, .of hpt, rfl, ?_⟩
    refine ⟨_, rfl, a, A.Lot, dx, _, _, rfl, k1 _ _ h1, cl, T.n_Lot_begin, rfl, _, rfl, lt, .ref tp, ts, ys, n, many, x, w, X, W, qi, s, B, rfl, hlt, by omega, hts, b0, nle b1 (by omega), bts.mono (by omega), ⟨tp, rfl, .inr (k1 _ _ h4)⟩, h5, h6.same k1, hJ, hm, fun H2 d us k2 nd hd lu ru => q H2 d us (k1.trans k2) (k1.free nd) hd lu ru⟩
def BadD (K : PySem.W.Frag) (H : Hp) (y : V) : Prop := (∃ i : Int, y = .int i ∧ (i < 0 ∨ 60 < i)) ∨ WholeV K H y false
def sp_lotrow (K : PySem.W.Frag) (A : Ad) : Sp := fun vs H Q E => ∃ v y n x w, vs = [v, y] ∧ LotV A H v n x w ∧
  ((∃ (d : Nat) (X W : Nat → Int) (q s : Int), y = .int d ∧ d ≤ 60 ∧ LotJ n x w X W q s ∧ ∀ H' l zs, Same H H' → H l = none → H' l = some (.lst zs) → zs.length = d + 1 → RatsV A.Ratio H' zs (momq w x n) → Q (.ref l) H') ∨
   (BadD K H y ∧ ∀ H' p, Same H H' → H' p = none → E (.ref A.NoNumber) (some p) (upd H' p (.xd [("word", .str "d")]))))
theorem ok_Lot_row (T : Txt K mg A D) : FnOk P w K mg base (L2.CX P w) 6 A.f_Lot_row D.f_Lot_row ["self", "d"] (sp_lotrow K A) := by
  obtain ⟨tok_LAST_NUMBER, gc_LAST_NUMBER⟩ := T.g_LAST_NUMBER
  have G_NoNumber___init__ : FnOk P w K mg base CX0 1 A.f_NoNumber___init__ D.f_NoNumber___init__ ["self", "word"] (sp_keep K "word") := ok_NoNumber___init__ T
  have G_first_numbers : FnOk P w K mg base CX0 5 A.f_first_numbers D.f_first_numbers ["lot", "many"] (sp_firstn A) := ok_first_numbers T
  have G_is_whole : FnOk P w K mg base CX0 1 A.f_is_whole D.f_is_whole ["x"] (sp_is_whole K) := ok_is_whole T
  refine T.F_Lot_row.okX sc_Lot_row (fun vs H Q E h => ?_) (fun cdv A' outer s H vs Q E hr h => ?_)
  · obtain ⟨v, y, n, x, w, rfl, _⟩ := h
    rfl
  · obtain ⟨v, y, n, x, w, rfl, hv, h⟩ := h
    refine ⟨_, (pss_cons (ps_if (PW.pt (pw_or (pt_not (pt_val (pe_call G_is_whole (hr.mono (by decide)) rfl T.g_is_whole T.F_is_whole.kp T.b_is_whole .nil pass0 (pa_cons (pv 1) pa_nil)))) (pw_or (pt_cmpR op_lt (pv 1) pe_int (nomark _)) (pw_or1 (pt_cmpR op_gt (pv 1) (pe_glob (v := .int 60) rfl gc_LAST_NUMBER ⟨_, rfl⟩) (nomark _)))))) (pss_one (ps_raise rfl (takes_of rfl rfl rfl rfl) (pmk_oex T.o_NoNumber T.i_NoNumber T.ti_NoNumber G_NoNumber___init__ (hr.mono (by decide)) T.b_NoNumber___init__ .nil pass0 rfl T.g_NoNumber (by exact (pa_cons pe_str pa_nil))))) pss_nil)
  (pss_one (ps_ret (pe_call G_first_numbers (hr.mono (by decide)) rfl T.g_first_numbers T.F_first_numbers.kp T.b_first_numbers .nil pass0 (pa_cons (pv 0) (pa_cons (pe_op op_add (pv 1) pe_int) pa_nil)))))), ?_⟩
    rcases h with ⟨d, X, W, qi, s, rfl, hd, hJ, q⟩ | ⟨hno, q⟩
    rotate_left
    · have fin := mk_keep (v := .str "d") T.o_NoNumber T.n_NoNumber_word fun p np => q H p (Same.refl H) np
      rcases hno with ⟨i, rfl, hi⟩ | hw
      · refine ⟨_, rfl, _, _, rfl, whole_int _, true, rfl, iteF ?_⟩
        refine ⟨_, rfl, _, _, rfl, rfl, _, rfl, ite2 (fun c => fin) (fun c => ?_)⟩
        refine ⟨_, rfl, _, _, rfl, rfl, _, rfl, ite2 (fun c2 => fin) (fun c2 => ?_)⟩
        rcases hi with e | e
        · exact absurd (decide_eq_true e) c
        · exact absurd (decide_eq_true e) c2
      · exact ⟨_, rfl, _, _, rfl, hw, false, rfl, iteT fin⟩
    refine ⟨_, rfl, _, _, rfl, whole_int _, true, rfl, iteF ?_⟩
    refine ⟨_, rfl, _, _, rfl, rfl, _, rfl, iteFe (decide_eq_false (by omega)) ?_⟩
    refine ⟨_, rfl, _, _, rfl, rfl, _, rfl, iteFe (decide_eq_false (by omega)) ?_⟩
    exact ⟨_, rfl, _, rfl, _, _, rfl, rfl, v, n, d + 1, x, w, X, W, qi, s, rfl, hv, hJ, by omega, fun H2 l us k2 nd hl lu ru => q H2 l us k2 nd hl lu ru⟩
def sp_operand (A : Ad) : Sp := fun vs H Q _ => ∃ x, vs = [x] ∧ (Ins H x A.Poly ∨ ((∃ i, x = .int i) ∨ Ins H x A.Ratio)) ∧ Q (.bl true) H
theorem ok__is_operand (T : Txt K mg A D) : FnOk P w K mg base CX0 3 A.f__is_operand D.f__is_operand ["x"] (sp_operand A) := by
  have G_is_number : FnOk P w K mg base CX0 2 A.f_is_number D.f_is_number ["x"] (sp_isnum K A.Ratio) := ok_is_number T
  refine T.F__is_operand.ok sc__is_operand (fun vs H Q E h => ?_) (fun cdv A' outer s H vs Q E hr h => ?_)
  · obtain ⟨x, rfl, _⟩ := h
    rfl
  · obtain ⟨x, rfl, hx, q⟩ := h
    refine ⟨_, (pss_one (ps_ret (pe_or (pe_callB call_isi rfl T.z_isinstance (by decide +kernel) (pa_cons (pv 0) (pa_cons (pe_glob (v := .ref A.Poly) rfl T.g_Poly rfl) pa_nil))) (pe_one (pe_call G_is_number (hr.mono (by decide)) rfl T.g_is_number T.F_is_number.kp T.b_is_number .nil pass0 (pa_cons (pv 0) pa_nil)))))), ?_⟩
    rcases hx with ⟨a, dx, fs, rfl, ha⟩ | ⟨i, rfl⟩ | ⟨a, dx, fs, rfl, ha⟩
    · exact ⟨_, rfl, .ref a, .ref A.Poly, _, _, true, rfl, .own _, T.k_Poly.ty ha, kit_self, true, rfl, iteT q⟩
    · exact ⟨_, rfl, .int i, .ref A.Poly, _, _, false, rfl, .own _, .base (.int i), T.k_Poly.ik, false, rfl, iteF ⟨_, rfl, _, rfl, .inl ⟨.inl ⟨i, rfl⟩, q⟩⟩⟩
    · exact ⟨_, rfl, .ref a, .ref A.Poly, _, _, false, rfl, .own _, T.k_Ratio.ty ha, T.kit_RP, false, rfl, iteF ⟨_, rfl, _, rfl, .inl ⟨.inr ⟨a, dx, fs, rfl, ha⟩, q⟩⟩⟩
def sp_polyof (A : Ad) : Sp := fun vs H Q _ => ∃ x s f, vs = [x] ∧ OperV A.Poly A.Ratio H x s f ∧ (∀ k, Bd 3900 3900 (f k)) ∧ ∀ H' v, Same H H' → PolyV A.Poly A.Ratio H' v s f → Q v H'
theorem numF_size {CP CR : Addr} {H : Hp} {v : V} {s : Nat} {c : Rat} (h : PolyV CP CR H v s (numF c)) (hs : s ≤ 1) : s = (if c = 0 then 0 else 1) := by
  rcases (by omega : s = 0 ∨ s = 1) with e | e
  · have := h.zero 0 (by omega)
    rw [if_pos (show c = 0 from this)]
    exact e
  · have := h.last (by omega)
    rw [e] at this
    rw [if_neg (show c ≠ 0 from this)]
    exact e
theorem ok_poly_of (T : Txt K mg A D) : FnOk P w K mg base CX0 8 A.f_poly_of D.f_poly_of ["q"] (sp_polyof A) := by
  have G_Poly_init : FnOk P w K mg base CX0 6 A.f_Poly___init__ D.f_Poly___init__ ["self", "coefficients"] (sp_poly K A) := ok_Poly___init__ T
  have b_Poly_init1 := T.b_Poly___init__
  have d_Poly_init1 : Vals [] [] := .nil
  refine T.F_poly_of.ok sc_poly_of (fun vs H Q E h => ?_) (fun cdv A' outer s H vs Q E hr h => ?_)
  · obtain ⟨x, s, f, rfl, _⟩ := h
    rfl
  · obtain ⟨x, s, f, rfl, hx, hb, q⟩ := h
    refine ⟨_, (pss_cons (ps_if (pt_val (pe_callB call_isi rfl T.z_isinstance (by decide +kernel) (pa_cons (pv 0) (pa_cons (pe_glob (v := .ref A.Poly) rfl T.g_Poly rfl) pa_nil)))) (pss_one (ps_ret (pv 0))) pss_nil)
  (pss_one (ps_ret (pe_make T.M_Poly G_Poly_init (hr.mono (by decide)) rfl T.g_Poly b_Poly_init1 d_Poly_init1 pass0 (pa_cons (pe_lst (pa_cons (pv 0) pa_nil)) pa_nil))))), ?_⟩
    rcases hx with hx | ⟨c, hc, rfl, rfl⟩
    · obtain ⟨a, dx, fs, rfl, ha⟩ := hx.ins
      exact ⟨_, rfl, .ref a, .ref A.Poly, _, _, true, rfl, .own _, T.k_Poly.ty ha, kit_self, true, rfl, iteT ⟨_, rfl, q H _ (Same.refl H) hx⟩⟩
    · have tail : tRet (tMake A.Poly (sp_poly K A) [] E0 (tCons (tLst (tCons (tVar 0) tNil)) tNil)) { nx := fun x H' => Q V.non H', rt := Q } (start N_poly_of [x]) H := by
        refine ⟨_, rfl, by show 1 ≤ sizeLine; decide, fun d nd => ?_⟩
        have s1 := same_upd (o := .lst [x]) nd
        refine fun y dy ny ndy ne => poly_make (xs := [x]) (f := numF c) ny ndy (.inl upd_same) (fun k z e => ?_) (by show 1 ≤ 60; decide) (fun k _ => hb k) (fun k hk => ?_) fun G s s2 pl hs => q G _ (s1.trans s2) (numF_size pl hs ▸ pl)
        · cases k with
          | zero =>
            cases e
            exact hc.same s1
          | succ k => simp at e
        · exact if_neg (by have : 1 ≤ k := hk; omega)
      rcases hc.kind with ⟨i, rfl⟩ | ⟨a, dx, fs, rfl, ha⟩
      · exact ⟨_, rfl, .int i, .ref A.Poly, _, _, false, rfl, .own _, .base (.int i), T.k_Poly.ik, false, rfl, iteF tail⟩
      · exact ⟨_, rfl, .ref a, .ref A.Poly, _, _, false, rfl, .own _, T.k_Ratio.ty ha, T.kit_RP, false, rfl, iteF tail⟩
def sp_pprodN (A : Ad) : Sp := fun vs H Q _ => ∃ (p u : V) (n m n2 m2 s s2 e : Nat) (f g : Nat → Rat) (N M : Int), vs = [p, u] ∧ PolyV A.Poly A.Ratio H p s f ∧ PolyV A.Poly A.Ratio H u s2 g ∧ (∀ k, Cm N n (f k)) ∧ 0 < N ∧ N.natAbs < 2 ^ m ∧ (∀ k, Cm M n2 (g k)) ∧ 0 < M ∧ M.natAbs < 2 ^ m2 ∧ s + s2 ≤ 60 ∧ n ≤ e ∧ n2 ≤ e ∧ e + e + 6 ≤ 3900 ∧ m + m2 ≤ 3900 ∧
  ∀ H' v s3, Same H H' → PolyV A.Poly A.Ratio H' v s3 (mulF f g) → s3 ≤ s + s2 → Q v H'
theorem ok_product_polys (T : Txt K mg A D) : FnOk P w K mg base CX0 9 A.f_product_polys D.f_product_polys ["one", "other"] (sp_pprodN A) := by
  have G_Poly_init : FnOk P w K mg base CX0 6 A.f_Poly___init__ D.f_Poly___init__ ["self", "coefficients"] (sp_poly K A) := ok_Poly___init__ T
  have b_Poly_init1 := T.b_Poly___init__
  have d_Poly_init1 : Vals [] [] := .nil
  have G_Ratio_init : FnOk P w K mg base CX0 2 A.f_Ratio___init__ D.f_Ratio___init__ ["self", "top", "bottom"] (sp_init A.Ratio) := ok_Ratio___init__ T
  have b_Ratio_init2 := T.b_Ratio___init__
  have d_Ratio_init2 : Vals [] [] := .nil
  have G_whole_parts : FnOk P w K mg base CX0 2 A.f_whole_parts D.f_whole_parts ["ratios"] (sp_partsN A.Ratio) := ok_whole_parts T
  refine T.F_product_polys.ok sc_product_polys (fun vs H Q E h => ?_) (fun cdv A' outer s H vs Q E hr h => ?_)
  · obtain ⟨p, u, n, m, n2, m2, s, s2, e, f, g, N, M, rfl, _⟩ := h
    rfl
  · obtain ⟨p, u, n, m, n2, m2, s, s2, e, f, g, N, M, rfl, hp, hu, bf, N0, N1, bg, M0, M1, hs, he1, he2, he, hmm, q⟩ := h
    refine ⟨_, (pss_cons (ps_asg (pe_call G_whole_parts (hr.mono (by decide)) rfl T.g_whole_parts T.F_whole_parts.kp T.b_whole_parts .nil pass0 (pa_cons (pe_fld (pv 0) rfl) pa_nil)) (pg_tup rfl (pgs_cons (pg_name (i := 2) sc_product_polys.nd rfl (.inl rfl)) (pgs_cons (pg_name (i := 3) sc_product_polys.nd rfl (.inr rfl)) pgs_nil))))
  (pss_cons (ps_asg (pe_call G_whole_parts (hr.mono (by decide)) rfl T.g_whole_parts T.F_whole_parts.kp T.b_whole_parts .nil pass0 (pa_cons (pe_fld (pv 1) rfl) pa_nil)) (pg_tup rfl (pgs_cons (pg_name (i := 4) sc_product_polys.nd rfl (.inl rfl)) (pgs_cons (pg_name (i := 5) sc_product_polys.nd rfl (.inr rfl)) pgs_nil))))
  (pss_cons (ps_set (i := 6) sc_product_polys.nd rfl (.inl rfl) (pe_op op_add (pe_callB call_len_seq rfl T.z_len (by decide +kernel) (pa_cons (pv 2) pa_nil)) (pe_callB call_len_seq rfl T.z_len (by decide +kernel) (pa_cons (pv 4) pa_nil))))
  (pss_cons (ps_set (i := 7) sc_product_polys.nd rfl (.inl rfl) (pe_op op_rep (pe_lst (pa_cons pe_int pa_nil)) (pv 6)))
  (pss_cons (ps_for PassesOwn.never rfl (pi_range1 rfl T.z_range (pa_cons (pe_callB call_len_seq rfl T.z_len (by decide +kernel) (pa_cons (pv 2) pa_nil)) pa_nil)) (pg_name (i := 8) sc_product_polys.nd rfl (.inl rfl)) (pss_one (ps_for PassesOwn.never rfl (pi_range1 rfl T.z_range (pa_cons (pe_callB call_len_seq rfl T.z_len (by decide +kernel) (pa_cons (pv 4) pa_nil)) pa_nil)) (pg_name (i := 9) sc_product_polys.nd rfl (.inl rfl)) (pss_one (ps_asg (pe_op op_add (pe_ix ix_list (pv 7) (pe_op op_add (pv 8) (pv 9)) (fun _ _ => rfl)) (pe_op op_mulW (pe_ix ix_list (pv 2) (pv 8) (fun _ _ => rfl)) (pe_ix ix_list (pv 4) (pv 9) (fun _ _ => rfl)))) (pg_sub (pv 7) (pe_op op_add (pv 8) (pv 9)) set_list))))))
  (pss_one (ps_ret (pe_make T.M_Poly G_Poly_init (hr.mono (by decide)) rfl T.g_Poly b_Poly_init1 d_Poly_init1 pass0 (pa_cons (pe_lc (own := [("top", 10)]) (g := gName 10) (tt := tYes) rfl sc_product_polys.nd (pi_list (pv 7)) (blkOk_by (N := N_product_polys) (sc := defScope s_product_polys) (by decide +kernel)) (fun _ _ _ _ _ => (pg_name (i := 10) sc_product_polys.nd rfl (.inl rfl))) (fun _ _ _ _ _ => pts_nil) (fun _ _ _ _ _ => (pe_make T.M_Ratio G_Ratio_init (hr.mono (by decide)) rfl T.g_Ratio b_Ratio_init2 d_Ratio_init2 pass0 (pa_cons (pv 10) (pa_cons (pe_op op_mulW (pv 3) (pv 5)) pa_nil))))) pa_nil))))))))), ?_⟩
    have cl := T.k_Poly.cl
    obtain ⟨⟨a, dx, tp, ys, l, rfl, h1, h2, h3, h4, h5⟩, z, z2⟩ := hp
    obtain ⟨⟨a', dx', tp', ys', l', rfl, h1', h2', h3', h4', h5'⟩, z', z2'⟩ := hu
    refine ⟨_, rfl, a, A.Poly, dx, _, _, rfl, h1, cl, T.n_Poly_coefficients, rfl, .ref tp, ys, f, N, n, m, rfl, ⟨tp, rfl, .inr h2⟩, h4, fun k _ => bf k, N0, N1, by omega, by omega, by omega, fun H1 pt lt ts U k1 hpt hlt ln u0 u1 hts bts => ?_⟩
    refine ⟨pt, _, rfl, .of hpt, rfl, _, _, rfl, _, _, rfl, rfl, ?_⟩
    refine ⟨_, rfl, a', A.Poly, dx', _, _, rfl, k1 _ _ h1', cl, T.n_Poly_coefficients, rfl, .ref tp', ys', g, M, n2, m2, rfl, ⟨tp', rfl, .inr (k1 _ _ h2')⟩, h4'.same k1, fun k _ => bg k, M0, M1, by omega, by omega, by omega, fun H2 pu lu us B k2 hpu hlu lm b0 b1 hus bus => ?_⟩
    refine ⟨pu, _, rfl, .of hpu, rfl, _, _, rfl, _, _, rfl, rfl, ?_⟩
    rw [h3] at ln
    rw [h3'] at lm
    have bts := bts.mono he1
    have bus := bus.mono he2
    have hlt2 := k2 _ _ hlt
    have k12 := k1.trans k2
    have zf : ∀ k, ts.length ≤ k → f k = 0 := fun k hk => z k (by omega)
    have zg : ∀ k, us.length ≤ k → g k = 0 := fun k hk => z' k (by omega)
    clear k1 k2 hlt hpt hpu h1 h2 h4 h1' h2' h4' h5 h5'
    refine ⟨_, rfl, lt, _, rfl, .inl (.of hlt2), _, rfl, lu, _, rfl, .inl (.of hlu), _, _, rfl, rfl, ?_⟩
    refine ⟨by show 1 ≤ sizeLine; decide, fun pz nz => ?_⟩
    have k3 := same_upd (o := .lst [.int 0]) nz
    have el : (((ts.map V.int).length : Nat) : Int) + (((us.map V.int).length : Nat) : Int) = ((s + s2 : Nat) : Int) := by
      rw [List.length_map, List.length_map]
      omega
    refine ⟨_, rfl, pz, ((s + s2 : Nat) : Int), _, rfl, by show V.int ((((ts.map V.int).length : Nat) : Int) + (((us.map V.int).length : Nat) : Int)) = _; rw [el], upd_same, by omega, by omega, by show 1 * _ ≤ sizeLine; rw [Nat.one_mul]; exact Nat.le_of_lt (small1000 (by omega)), fun d nd => ?_⟩
    rw [show (((s + s2 : Nat) : Int)).toNat = s + s2 by omega, rep_flat, ← cvL_zero (ts := ts) (us := us)]
    have k4 := same_upd (o := .lst ((cvL ts us (s + s2) 0 0).map V.int)) nd
    have nd2 : H2 d = none := k3.free nd
    have k34 := k3.trans k4
    have hd := upd_same (a := d) (o := HO.lst ((cvL ts us (s + s2) 0 0).map V.int)) (H := upd H2 pz (.lst [.int 0]))
    have hlt4 := k34 _ _ hlt2
    generalize upd (upd H2 pz (.lst [.int 0])) d (.lst ((cvL ts us (s + s2) 0 0).map V.int)) = H4 at *
    clear k3 k4 nz nd
    refine ⟨_, rfl, lt, _, rfl, .inl (.of hlt4), _, rfl, by rw [List.length_map]; omega, by rw [List.length_map]; omega, ?_⟩
    have en : (((ts.map V.int).length : Nat) : Int).toNat = s := by
      rw [List.length_map]
      omega
    have em : (((us.map V.int).length : Nat) : Int).toNat = s2 := by
      rw [List.length_map]
      omega
    rw [en]
    refine for_range (lo := 0) (fun k σ G => Same H2 G ∧ G d = some (.lst ((cvL ts us (s + s2) k 0).map V.int)) ∧ ∃ (y6 : Option V) (y8 y9 : Option V), σ = [some (.ref a), some (.ref a'), some (.ref lt), some (.int U), some (.ref lu), some (.int B), y6, some (.ref d), y8, y9, none]) ⟨k34, hd, _, _, _, rfl⟩ ?_ ?_
    · rintro k σ G hk ⟨sm, hd, y6, y8, y9, rfl⟩
      refine ⟨_, rfl, lu, _, rfl, .inl (.of (sm _ _ hlu)), _, rfl, by rw [List.length_map]; omega, by rw [List.length_map]; omega, ?_⟩
      rw [em]
      refine for_range (lo := 0) (fun j σ G => Same H2 G ∧ G d = some (.lst ((cvL ts us (s + s2) k j).map V.int)) ∧ ∃ (y9 : Option V), σ = [some (.ref a), some (.ref a'), some (.ref lt), some (.int U), some (.ref lu), some (.int B), y6, some (.ref d), some (.int (0 + (k : Int))), y9, none]) ⟨sm, hd, _, rfl⟩ ?_ ?_
      · rintro j σ G hj ⟨sm, hd, y9, rfl⟩
        have ei : (0 + (k : Int)) + (0 + (j : Int)) = ((k + j : Nat) : Int) := by omega
        have hi : k + j < s + s2 := by omega
        have hat : atI ((cvL ts us (s + s2) k j).map V.int) ((0 + (k : Int)) + (0 + (j : Int))) = some (V.int (cvP ts us k j (k + j))) := by
          rw [ei]
          refine atI_nat ?_
          rw [List.getElem?_map, cvL_at hi]
          rfl
        have hix : ixN ((cvL ts us (s + s2) k j).map V.int).length ((0 + (k : Int)) + (0 + (j : Int))) = some (k + j) := by
          rw [ei, List.length_map, cvL_len]
          show (if (0 : Int) ≤ ((k + j : Nat) : Int) then if ((k + j : Nat) : Int) < ((s + s2 : Nat) : Int) then some (((k + j : Nat) : Int)).toNat else none else _) = _
          rw [if_pos (by omega), if_pos (by omega)]
          congr 1
        refine ⟨_, rfl, _, rfl, _, rfl, _, _, rfl, rfl, d, _, _, _, rfl, rfl, .of hd, hat, _, rfl, _, rfl, lt, _, _, _, rfl, rfl, .of (sm _ _ hlt2), atI_getD (show k < ts.length by omega), _, rfl, _, rfl, lu, _, _, _, rfl, rfl, .of (sm _ _ hlu), atI_getD (show j < us.length by omega), _, _, rfl, rfl, (sm_of (bts k) (by omega)).mul (sm_of (bus j) (by omega)), _, _, rfl, rfl, ?_⟩
        refine ⟨_, rfl, _, rfl, _, rfl, _, _, rfl, rfl, d, _, _, _, rfl, rfl, hd, hix, ?_⟩
        exact ⟨same_push sm nd2, by rw [upd_same]; exact congrArg (fun z => some (HO.lst z)) (cvL_set hi), _, rfl⟩
      · rintro σ G ⟨sm, hd, y9, rfl⟩
        refine ⟨sm, ?_, _, _, _, rfl⟩
        rw [← cvL_next, lm]
        exact hd
    · rintro σ G ⟨sm, hd, y6, y8, y9, rfl⟩
      have ub : (U * B).natAbs < 2 ^ (m + m2) := nle (nmul u1 b1) (by omega)
      have ub0 := Int.mul_pos u0 b0
      have sz : ∀ i, (cv ts us i).natAbs < 2 ^ (e + e + 6) := fun i => by
        rw [← cvP_all]
        exact cvP_lt bts bus (by omega)
      have hv := fun i => cv_val hts hus zf zg i
      have bd : ∀ i, Bd (e + e + 6) (m + m2) (mulF f g i) := fun i => .of (by omega) (hv i).symm (sz i) ub
      refine ⟨_, rfl, d, rfl, ⟨_, .of hd⟩, fun dn ndn => ?_⟩
      refine lc_list (K := K) (a := d) (xs := (cvL ts us (s + s2) s 0).map V.int) (fun i E => Gro A.Ratio G dn (mulF f g) i E) (.start ndn) (fun i E _ p => .of (p.1 _ _ hd)) ?_ ?_
      · rintro i x E hx pI
        have hi : i < s + s2 := by
          have := get_lt hx
          rw [List.length_map, cvL_len] at this
          exact this
        rw [List.getElem?_map, cvL_at hi] at hx
        cases hx
        have ecv : cvP ts us s 0 i = cv ts us i := by rw [← ln]; exact cvP_all
        refine ⟨rfl, _, rfl, _, rfl, _, rfl, _, _, rfl, rfl, (sm_of u1 (by omega)).mul (sm_of b1 (by omega)), fun r dr nr nd3 ne => rat_make (by omega) (sm_of ub (by omega)) nr nd3 ne fun E2 k6 r6 => ?_⟩
        exact pI.push ndn (by omega) k6 (r6.to (by rw [ecv]; exact div_eq (by omega) (hv i).symm))
      · rintro E ⟨sm2, zs, hz, hdn, hr⟩
        rw [List.length_map, cvL_len] at hz
        exact fun x dx nx ndx ne => poly_make nx ndx (.inl hdn) hr.nums (by omega) (fun k _ => (bd k).mono (by omega) (by omega)) (fun k hk => mulF_out z z' (by omega)) fun G7 s7 k7 pl hs7 => q G7 _ s7 ((k12.trans sm).trans (sm2.trans k7)) pl (by omega)
def sp_pmulN (A : Ad) : Sp := fun vs H Q _ => ∃ (p u : V) (n m n2 m2 s s2 e : Nat) (f g : Nat → Rat) (N M : Int), vs = [p, u] ∧ PolyV A.Poly A.Ratio H p s f ∧ PolyV A.Poly A.Ratio H u s2 g ∧ (∀ k, Cm N n (f k)) ∧ 0 < N ∧ N.natAbs < 2 ^ m ∧ (∀ k, Cm M n2 (g k)) ∧ 0 < M ∧ M.natAbs < 2 ^ m2 ∧ s + s2 ≤ 60 ∧ n ≤ e ∧ n2 ≤ e ∧ e + e + 6 ≤ 3900 ∧ m + m2 ≤ 3900 ∧
  ∀ H' v s3, Same H H' → PolyV A.Poly A.Ratio H' v s3 (mulF f g) → s3 ≤ s + s2 → Q v H'
theorem ok_Poly___mul__ (T : Txt K mg A D) : FnOk P w K mg base CX0 10 A.f_Poly___mul__ D.f_Poly___mul__ ["self", "other"] (sp_pmulN A) := by
  have G__is_operand : FnOk P w K mg base CX0 3 A.f__is_operand D.f__is_operand ["x"] (sp_operand A) := ok__is_operand T
  have G_poly_of : FnOk P w K mg base CX0 8 A.f_poly_of D.f_poly_of ["q"] (sp_polyof A) := ok_poly_of T
  have G_product_polys : FnOk P w K mg base CX0 9 A.f_product_polys D.f_product_polys ["one", "other"] (sp_pprodN A) := ok_product_polys T
  refine T.F_Poly___mul__.ok sc_Poly___mul__ (fun vs H Q E h => ?_) (fun cdv A' outer s H vs Q E hr h => ?_)
  · obtain ⟨p, u, n, m, n2, m2, s, s2, e, f, g, N, M, rfl, _⟩ := h
    rfl
  · obtain ⟨p, u, n, m, n2, m2, s, s2, e, f, g, N, M, rfl, hp, hu, bf, N0, N1, bg, M0, M1, hs, e1, e2, he, hm, q⟩ := h
    refine ⟨_, (pss_cons (ps_if (pt_not (pt_val (pe_call G__is_operand (hr.mono (by decide)) rfl T.g__is_operand T.F__is_operand.kp T.b__is_operand .nil pass0 (pa_cons (pv 1) pa_nil)))) (pss_one ps_never) pss_nil)
  (pss_one (ps_ret (pe_call G_product_polys (hr.mono (by decide)) rfl T.g_product_polys T.F_product_polys.kp T.b_product_polys .nil pass0 (pa_cons (pv 0) (pa_cons (pe_call G_poly_of (hr.mono (by decide)) rfl T.g_poly_of T.F_poly_of.kp T.b_poly_of .nil pass0 (pa_cons (pv 1) pa_nil)) pa_nil)))))), ?_⟩
    have ou : OperV A.Poly A.Ratio H u s2 g := .inl hu
    refine ⟨_, rfl, _, rfl, ou.kind, true, rfl, iteF ?_⟩
    refine ⟨_, rfl, _, rfl, u, s2, g, rfl, ou, fun k => ((bg k).bd (by omega) M1).mono (by omega) (by omega), fun H1 v k1 hv => ⟨p, v, n, m, n2, m2, s, s2, e, f, g, N, M, rfl, hp.same k1, hv, bf, N0, N1, bg, M0, M1, hs, e1, e2, he, hm, fun H2 v2 s3 k2 h2 h3 => q H2 v2 s3 (k1.trans k2) h2 h3⟩⟩
end

end Mo

namespace Mo
open PySem PySem.Spec PyProof.Rows L2 MoL MoW
open C8 (pss_cut tCut)
section
variable {P : Program} {w : World} {K : PySem.W.Frag} {mg : Str → Option Value} {base : Heap} {A : Ad} {D : Fd}
/-! ### lists of Ratios compared by == -/
def EqR (C : Addr) (a b : Addr) (H : Hp) : Prop := ∃ z, RatV C H (.ref a) z ∧ RatV C H (.ref b) z ∧ Bd 3900 3900 z
theorem eq_imp {C : Addr} : ∀ (vs : List V) (H : Hp) (Q : VK) (E : XK), spEq (EqR C) vs H Q E → sp_cmp C r_eq vs H Q E := fun vs H Q E h => by
  obtain ⟨a, b, rfl, ⟨z, r1, r2, bz⟩, q⟩ := h
  refine ⟨.ref a, .ref b, z, z, rfl, r1, r2.num, bz, bz, ?_⟩
  have e : r_eq z z = true := decide_eq_true rfl
  rw [e]
  exact q H fun _ _ h => h
theorem eq_mon {C : Addr} : Mon (DIns C (EqR C)) := fun x y H H' k h => by
  obtain ⟨a, b, dx, dy, fs, gs, e1, e2, h1, h2, z, r1, r2, s⟩ := h
  exact ⟨a, b, dx, dy, fs, gs, e1, e2, k _ _ h1, k _ _ h2, z, r1.same k, r2.same k, s⟩
theorem eq_ref {C : Addr} : ∀ (x y : V) (H : Hp), DIns C (EqR C) x y H → ∃ a b, x = .ref a ∧ y = .ref b := fun x y H h => by
  obtain ⟨a, b, dx, dy, fs, gs, e1, e2, _⟩ := h
  exact ⟨a, b, e1, e2⟩
theorem eq_rats {C : Addr} {H : Hp} {a b : Addr} {xs ys : List V} {f g : Nat → Rat} (ha : H a = some (.lst xs)) (hb : H b = some (.lst ys)) (hl : xs.length = ys.length) (rx : RatsV C H xs f) (ry : RatsV C H ys g) (e : ∀ k, k < xs.length → f k = g k) (bd : ∀ k, k < xs.length → Bd 3900 3900 (f k)) : DList (DIns C (EqR C)) (.ref a) (.ref b) H := by
  refine ⟨a, b, xs, ys, rfl, rfl, ha, hb, hl, fun j x y ex ey => ?_⟩
  have hj := get_lt ex
  have r1 := rx j x ex
  have r2 := (ry j y ey).to (e j hj).symm
  have ⟨p, dp, e1, h1⟩ := r1
  have ⟨q, dq, e2, h2⟩ := r2
  subst e1 e2
  exact ⟨p, q, dp, dq, _, _, rfl, rfl, h1, h2, f j, r1, r2, bd j hj⟩
def sp_peq (A : Ad) : Sp := fun vs H Q _ => ∃ p u s f, vs = [p, u] ∧ PolyV A.Poly A.Ratio H p s f ∧ PolyV A.Poly A.Ratio H u s f ∧ (∀ k, Bd 3900 3900 (f k)) ∧ ∀ H', Same H H' → Q (.bl true) H'
theorem eq_ratsT {C : Addr} {H : Hp} {a b : Addr} {xs ys : List V} {f g : Nat → Rat} (ha : H a = some (.tup xs)) (hb : H b = some (.tup ys)) (hl : xs.length = ys.length) (rx : RatsV C H xs f) (ry : RatsV C H ys g) (e : ∀ k, k < xs.length → f k = g k) (bd : ∀ k, k < xs.length → Bd 3900 3900 (f k)) : DTup K (DIns C (EqR C)) (.ref a) (.ref b) H := by
  refine ⟨a, b, xs, ys, rfl, rfl, .of ha, .of hb, hl, fun j x y ex ey => ?_⟩
  have hj := get_lt ex
  have r1 := rx j x ex
  have r2 := (ry j y ey).to (e j hj).symm
  have ⟨p, dp, e1, h1⟩ := r1
  have ⟨q, dq, e2, h2⟩ := r2
  subst e1 e2
  exact ⟨p, q, dp, dq, _, _, rfl, rfl, h1, h2, f j, r1, r2, bd j hj⟩
theorem ok_Poly___eq__ (T : Txt K mg A D) : FnOk P w K mg base CX0 6 A.f_Poly___eq__ D.f_Poly___eq__ ["self", "other"] (sp_peq A) := by
  have G_Ratio___eq__ : FnOk P w K mg base CX0 3 A.f_Ratio___eq__ D.f_Ratio___eq__ ["self", "other"] (sp_cmp A.Ratio r_eq) := ok_Ratio___eq__ T
  refine T.F_Poly___eq__.ok sc_Poly___eq__ (fun vs H Q E h => ?_) (fun cdv A' outer s H vs Q E hr h => ?_)
  · obtain ⟨p, u, s, f, rfl, _⟩ := h
    rfl
  · obtain ⟨p, u, s, f, rfl, hp, hu, bf, q⟩ := h
    refine ⟨_, (pss_one (ps_ret (pe_and (pe_callB call_isi rfl T.z_isinstance (by decide +kernel) (pa_cons (pv 1) (pa_cons (pe_glob (v := .ref A.Poly) rfl T.g_Poly rfl) pa_nil))) (pe_one (pe_cmpR (op_eqG (rcG_tup eq_mon (RcG.eqG (rcG_ins (G_Ratio___eq__.imp eq_imp) T.m_Ratio___eq__.at_ T.m_Ratio___eq__.fn T.b_Ratio___eq__ pass0) eq_ref)) (hr.mono (by decide))) (pe_fld (pv 0) rfl) (pe_fld (pv 1) rfl) (nomark _)))))), ?_⟩
    have cl := T.k_Poly.cl
    obtain ⟨⟨a, dx, tp, ys, l, rfl, h1, h2, h3, h4, h5⟩, hz, z2⟩ := hp
    obtain ⟨⟨a', dx', tp', ys', l', rfl, h1', h2', h3', h4', h5'⟩, hz', z2'⟩ := hu
    refine ⟨_, rfl, .ref a', .ref A.Poly, _, _, true, rfl, .own _, T.k_Poly.ty h1', kit_self, true, rfl, iteT ?_⟩
    exact ⟨_, rfl, a, A.Poly, dx, _, _, rfl, h1, cl, T.n_Poly_coefficients, rfl, _, rfl, a', A.Poly, dx', _, _, rfl, h1', cl, T.n_Poly_coefficients, rfl, eq_ratsT h2 h2' (by omega) h4 h4' (fun _ _ => rfl) (fun k _ => bf k), fun H' k => q H' k⟩
def RatB (C : Addr) : Addr → Addr → Hp → Bool → Prop := fun a b H r => ∃ z w, RatV C H (.ref a) z ∧ RatV C H (.ref b) w ∧ Bd 3900 3900 z ∧ Bd 3900 3900 w ∧ r = decide (z = w)
theorem eqB_imp {C : Addr} : ∀ (vs : List V) (H : Hp) (Q : VK) (E : XK), spEqB (RatB C) vs H Q E → sp_cmp C r_eq vs H Q E := fun vs H Q E h => by
  obtain ⟨a, b, r, rfl, ⟨z, w, r1, r2, b1, b2, rfl⟩, q⟩ := h
  exact ⟨.ref a, .ref b, z, w, rfl, r1, r2.num, b1, b2, q H fun _ _ h => h⟩
theorem eqB_mon {C : Addr} : MonB (InsB C (RatB C)) := fun x y H H' b k h => by
  obtain ⟨a, c, dx, dy, fs, gs, e1, e2, h1, h2, z, w, r1, r2, s⟩ := h
  exact ⟨a, c, dx, dy, fs, gs, e1, e2, k _ _ h1, k _ _ h2, z, w, r1.same k, r2.same k, s⟩
theorem eqB_ref {C : Addr} : ∀ (x y : V) (H : Hp) (b : Bool), InsB C (RatB C) x y H b → ∃ a c, x = .ref a ∧ y = .ref c ∧ (a = c → b = true) := fun x y H b h => by
  obtain ⟨a, c, dx, dy, fs, gs, e1, e2, h1, h2, z, w, r1, r2, _, _, rfl⟩ := h
  refine ⟨a, c, e1, e2, fun e => ?_⟩
  subst e
  exact decide_eq_true (r1.one r2)
/-! ### what may be no list of numbers -/
def NoSeq (K : PySem.W.Frag) (H : Hp) (v : V) : Prop := ∃ t, TyX K H v t ∧ PySem.W.kitOne K t (.type "list") = some false ∧ PySem.W.kitOne K t (.type "tuple") = some false
theorem NoSeq.same {H H' : Hp} {v : V} (h : NoSeq K H v) (s : Same H H') : NoSeq K H' v := by
  obtain ⟨t, ty, r⟩ := h
  exact ⟨t, ty_same s ty, r⟩
theorem kit_no {t : Value} (k1 : PySem.W.kitOne K t (.type "list") = some false) (k2 : PySem.W.kitOne K t (.type "tuple") = some false) : PySem.W.kitAny K t [.type "list", .type "tuple"] = some false := kitAny_cons (b := false) k1 (fun _ => kitAny_cons (b := false) k2 (fun _ => rfl) (fun z => nomatch z)) (fun z => nomatch z)
/-- g tells of each item whether it is a number -/
def FlagsV (K : PySem.W.Frag) (C : Addr) (H : Hp) (xs : List V) (g : Nat → Bool) : Prop := ∀ k x, xs[k]? = some x → (g k = true ∧ ((∃ i, x = .int i) ∨ Ins H x C)) ∨ (g k = false ∧ NoNum K C H x)
theorem FlagsV.same {C : Addr} {H H' : Hp} {xs : List V} {g : Nat → Bool} (h : FlagsV K C H xs g) (s : Same H H') : FlagsV K C H' xs g := fun k x e => (h k x e).imp (fun ⟨a, b⟩ => ⟨a, b.imp id fun ⟨y, dx, fs, e, hb⟩ => ⟨y, dx, fs, e, s _ _ hb⟩⟩) fun ⟨a, b⟩ => ⟨a, b.same s⟩
theorem flags_nums {C : Addr} {H : Hp} {xs : List V} {f : Nat → Rat} (h : NumsV C H xs f) : FlagsV K C H xs fun _ => true := fun k x e => .inl ⟨rfl, (h k x e).kind⟩
theorem bl_grow {h : Nat → Bool} {i : Nat} : ((List.range i).map h).map V.bl ++ [V.bl (h i)] = ((List.range (i + 1)).map h).map V.bl := by
  rw [List.range_succ, List.map_append, List.map_append]
  rfl
theorem bl_len {h : Nat → Bool} {i : Nat} : (((List.range i).map h).map V.bl).length = i := by rw [List.length_map, List.length_map, List.length_range]
theorem all_id {h : Nat → Bool} {n : Nat} : ((List.range n).map h).all id = (List.range n).all h := by
  rw [List.all_map]
  rfl
theorem any_id {h : Nat → Bool} {n : Nat} : ((List.range n).map h).any id = (List.range n).any h := by
  rw [List.any_map]
  rfl
theorem int_self {n : Int} : (!decide (V.int n = V.int n)) = false := by rw [decide_eq_true rfl]; rfl
theorem int_other {n m : Int} (h : n ≠ m) : (!decide (V.int n = V.int m)) = true := by rw [decide_eq_false fun e => h (V.int.inj e)]; rfl
def sp_arenumX (K : PySem.W.Frag) (A : Ad) : Sp := fun vs H Q _ => ∃ (y : V) (m : Int), vs = [y, .int m] ∧ ((NoSeq K H y ∧ ∀ H', Same H H' → Q (.bl false) H') ∨
  ∃ (a : Addr) (xs : List V) (g : Nat → Bool), y = .ref a ∧ (H a = some (.lst xs) ∨ H a = some (.tup xs)) ∧ xs.length ≤ 60 ∧ FlagsV K A.Ratio H xs g ∧ ∀ H', Same H H' → Q (.bl (decide (m = (xs.length : Int)) && (List.range xs.length).all g)) H')
theorem ok__are_numbers (T : Txt K mg A D) : FnOk P w K mg base CX0 3 A.f__are_numbers D.f__are_numbers ["numbers", "many"] (sp_arenumX K A) := by
  have G_is_number : FnOk P w K mg base CX0 2 A.f_is_number D.f_is_number ["x"] (sp_isnum K A.Ratio) := ok_is_number T
  refine T.F__are_numbers.ok sc__are_numbers (fun vs H Q E h => ?_) (fun cdv A' outer s H vs Q E hr h => ?_)
  · obtain ⟨y, m, rfl, _⟩ := h
    rfl
  · obtain ⟨y, m, rfl, h⟩ := h
    refine ⟨_, (pss_cons (ps_if (PW.pt (pw_or (pt_not (pt_val (pe_callB call_isiT rfl T.z_isinstance (by decide +kernel) (pa_cons (pv 0) (pa_cons (pe_tup (pa_cons (pe_bltn (v := .ty "list") rfl T.z_list (by decide +kernel) rfl) (pa_cons (pe_bltn (v := .ty "tuple") rfl T.z_tuple (by decide +kernel) rfl) pa_nil))) pa_nil))))) (pw_or1 (pt_cmpR op_ne (pe_callB call_len_seq rfl T.z_len (by decide +kernel) (pa_cons (pv 0) pa_nil)) (pv 1) (nomark _))))) (pss_one (ps_ret pe_bl)) pss_nil)
  (pss_one (ps_ret (pe_callB (cr_all rfl) rfl T.z_all (by decide +kernel) (pa_cons (pe_lc (own := [("number", 2)]) (g := gName 2) (tt := tYes) rfl sc__are_numbers.nd (pi_or (pi_list (pv 0)) (pi_tup (pv 0))) (blkOk_by (N := N__are_numbers) (sc := defScope s__are_numbers) (by decide +kernel)) (fun _ _ _ _ _ => (pg_name (i := 2) sc__are_numbers.nd rfl (.inl rfl))) (fun _ _ _ _ _ => pts_nil) (fun _ _ _ _ _ => (pe_call G_is_number (hr.mono (by decide)) rfl T.g_is_number T.F_is_number.kp T.b_is_number .nil pass0 (pa_cons (pv 2) pa_nil)))) pa_nil))))), ?_⟩
    refine ⟨_, rfl, by show 2 ≤ sizeLine; decide, fun tp nt => ?_⟩
    have s1 : Same H (upd H tp (.tup [.ty "list", .ty "tuple"])) := same_upd nt
    rcases h with ⟨⟨t, ty, k1, k2⟩, q⟩ | ⟨a, xs, g, rfl, ha, l60, fl, q⟩
    · exact ⟨y, tp, _, t, _, false, rfl, upd_same, .cons (.ty _) (.cons (.ty _) .nil), ty_same s1 ty, kit_no k1 k2, false, rfl, iteT (q _ s1)⟩
    have ha1 := ha.imp (s1 a _) (s1 a _)
    obtain ⟨t, ty, ka⟩ := kit_seq (K := K) ha1
    refine ⟨.ref a, tp, _, t, _, true, rfl, upd_same, .cons (.ty _) (.cons (.ty _) .nil), ty, ka, true, rfl, iteF ?_⟩
    have fl1 := fl.same s1
    clear ty ka fl ha
    generalize upd H tp (.tup [.ty "list", .ty "tuple"]) = H1 at s1 ha1 fl1
    by_cases hm : m = (xs.length : Int)
    rotate_left
    · rw [decide_eq_false hm, Bool.false_and] at q
      exact ⟨_, rfl, a, xs, rfl, ha1.imp .of .of, _, rfl, rfl, _, rfl, iteTe (int_other fun e => hm e.symm) (q _ s1)⟩
    rw [decide_eq_true hm, Bool.true_and] at q
    subst hm
    refine ⟨_, rfl, a, xs, rfl, ha1.imp .of .of, _, rfl, rfl, _, rfl, iteFe int_self ?_⟩
    refine lc_seq ha1 (fun R r => ⟨_, rfl, r⟩) (fun R r => ⟨_, rfl, r⟩) (fun d i G => Same H1 G ∧ G d = some (.lst (((List.range i).map g).map V.bl))) (fun d nd => ⟨same_upd nd, upd_same⟩) (fun d i E _ p => p.1) ?_ ?_
    · rintro d i z E nd hz2 ⟨sm, hd⟩
      have li := get_lt hz2
      rcases (fl1.same sm) i z hz2 with ⟨e, kd⟩ | ⟨e, kd⟩
      · exact ⟨rfl, _, rfl, z, rfl, .inl ⟨kd, _, hd, by rw [bl_len]; exact small1000 (by omega), same_push sm nd, by rw [upd_same, ← bl_grow, e]⟩⟩
      · exact ⟨rfl, _, rfl, z, rfl, .inr ⟨kd, _, hd, by rw [bl_len]; exact small1000 (by omega), same_push sm nd, by rw [upd_same, ← bl_grow, e]⟩⟩
    · rintro d E nd ⟨sm, hd⟩
      refine ⟨d, _, rfl, .of hd, ?_⟩
      rw [all_id]
      exact q _ (s1.trans sm)
theorem insB_ratd {C : Addr} {H : Hp} {u v : V} {z w : Rat} (h1 : RatV C H u z) (h2 : RatV C H v w) (b1 : Bd 3900 3900 z) (b2 : Bd 3900 3900 w) : InsB C (RatB C) u v H (decide (z = w)) := by
  have ⟨a, dx, e1, g1⟩ := h1
  have ⟨b, dy, e2, g2⟩ := h2
  subst e1 e2
  exact ⟨a, b, dx, dy, _, _, rfl, rfl, g1, g2, z, w, h1, h2, b1, b2, rfl⟩
/-- an earlier one is equal -/
def dupR (f : Nat → Rat) (k : Nat) : Bool := (List.range k).any fun j => decide (f j = f k)
theorem dup_none {f : Nat → Rat} {n : Nat} (h : ∀ i j, i < j → j < n → f i ≠ f j) : (List.range n).any (dupR f) = false := by
  rw [List.any_eq_false]
  intro k hk
  show ¬ (List.range k).any _ = true
  rw [Bool.not_eq_true, List.any_eq_false]
  intro j hj
  rw [decide_eq_true_iff]
  exact h j k (List.mem_range.mp hj) (List.mem_range.mp hk)
theorem dup_some {f : Nat → Rat} {n i j : Nat} (h1 : i < j) (h2 : j < n) (e : f i = f j) : (List.range n).any (dupR f) = true :=
  List.any_eq_true.mpr ⟨j, List.mem_range.mpr h2, List.any_eq_true.mpr ⟨i, List.mem_range.mpr h1, decide_eq_true e⟩⟩
theorem inV_ints {is : List Int} {z : Int} (h : z ∉ is) : inV (.int z) (is.map V.int) = false := by
  unfold inV
  rw [List.any_eq_false]
  intro v hv
  obtain ⟨i, hi, rfl⟩ := List.mem_map.mp hv
  show ¬ (i == z) = true
  rw [beq_iff_eq]
  intro e
  exact h (e ▸ hi)
theorem flat_ints {is : List Int} : (is.map V.int).all flatV = true := by
  rw [List.all_eq_true]
  intro v hv
  obtain ⟨i, _, rfl⟩ := List.mem_map.mp hv
  rfl
theorem op_in_seqK {X : Cx} {K : PySem.W.Frag} (h : X.K = K) : OpR X (compareOp .In) (rIn K false) := h ▸ op_in_seq
def BadPts (K : PySem.W.Frag) (A : Ad) (H : Hp) (y : V) : Prop := NoSeq K H y ∨ ∃ (a : Addr) (xs : List V), y = .ref a ∧ (H a = some (.lst xs) ∨ H a = some (.tup xs)) ∧ xs.length ≤ 60 ∧
  (8 < xs.length ∨ (xs.length ≤ 8 ∧ ∃ g, FlagsV K A.Ratio H xs g ∧ (List.range xs.length).all g = false) ∨ (xs.length ≤ 8 ∧ ∃ f, RatsV A.Ratio H xs f ∧ (∀ k, k < xs.length → Bd 3900 3900 (f k)) ∧ (List.range xs.length).any (dupR f) = true))
theorem BadPts.same {H H' : Hp} {y : V} (h : BadPts K A H y) (s : Same H H') : BadPts K A H' y := by
  rcases h with h | ⟨a, xs, e, ha, l, h⟩
  · exact .inl (h.same s)
  · refine .inr ⟨a, xs, e, ha.imp (s a _) (s a _), l, ?_⟩
    rcases h with h | ⟨h, g, fl, r⟩ | ⟨h, f, rr, b, r⟩
    · exact .inl h
    · exact .inr (.inl ⟨h, g, fl.same s, r⟩)
    · exact .inr (.inr ⟨h, f, rr.same s, b, r⟩)
def GoodPts (A : Ad) (H : Hp) (y : V) (n : Nat) (x : Nat → Rat) : Prop := ∃ (a : Addr) (xs : List V), y = .ref a ∧ xs.length = n ∧ n ≤ 8 ∧
  (((H a = some (.lst xs) ∨ H a = some (.tup xs)) ∧ RatsV A.Ratio H xs x ∧ (∀ k, k < n → Bd 3900 3900 (x k)) ∧ ∀ i j, i < j → j < n → x i ≠ x j) ∨
   ∃ is : List Int, xs = is.map V.int ∧ H a = some (.lst xs) ∧ is.Nodup ∧ (∀ z ∈ is, z.natAbs < 100) ∧ ∀ (k : Nat) (z : Int), is[k]? = some z → x k = (z : Rat))
theorem GoodPts.same {H H' : Hp} {y : V} {n : Nat} {x : Nat → Rat} (h : GoodPts A H y n x) (s : Same H H') : GoodPts A H' y n x := by
  obtain ⟨a, xs, e, l, n8, h⟩ := h
  refine ⟨a, xs, e, l, n8, ?_⟩
  rcases h with ⟨ha, rr, b⟩ | ⟨is, e, ha, r⟩
  · exact .inl ⟨ha.imp (s a _) (s a _), rr.same s, b⟩
  · exact .inr ⟨is, e, s _ _ ha, r⟩
theorem GoodPts.nums {H : Hp} {y : V} {n : Nat} {x : Nat → Rat} (h : GoodPts A H y n x) : ∃ a xs, y = .ref a ∧ xs.length = n ∧ n ≤ 8 ∧ (H a = some (.lst xs) ∨ H a = some (.tup xs)) ∧ NumsV A.Ratio H xs x := by
  obtain ⟨a, xs, e, l, n8, h⟩ := h
  refine ⟨a, xs, e, l, n8, ?_⟩
  rcases h with ⟨ha, rr, b⟩ | ⟨is, rfl, ha, r, _, v⟩
  · exact ⟨ha, rr.nums⟩
  · refine ⟨.inl ha, fun k y e => ?_⟩
    rw [List.getElem?_map] at e
    cases hz : is[k]? with
    | none =>
      rw [hz] at e
      cases e
    | some z =>
      rw [hz] at e
      cases e
      exact .inl ⟨z, rfl, v k z hz⟩
def sp_areptsX (K : PySem.W.Frag) (A : Ad) : Sp := fun vs H Q _ => ∃ y, vs = [y] ∧ ((BadPts K A H y ∧ ∀ H', Same H H' → Q (.bl false) H') ∨ (∃ n x, GoodPts A H y n x ∧ ∀ H', Same H H' → Q (.bl true) H'))
theorem ok__are_points (T : Txt K mg A D) : FnOk P w K mg base CX0 5 A.f__are_points D.f__are_points ["points"] (sp_areptsX K A) := by
  obtain ⟨tok_MOST_POINTS, gc_MOST_POINTS⟩ := T.g_MOST_POINTS
  have G_Ratio___eq__ : FnOk P w K mg base CX0 3 A.f_Ratio___eq__ D.f_Ratio___eq__ ["self", "other"] (sp_cmp A.Ratio r_eq) := ok_Ratio___eq__ T
  have G__are_numbers : FnOk P w K mg base CX0 3 A.f__are_numbers D.f__are_numbers ["numbers", "many"] (sp_arenumX K A) := ok__are_numbers T
  refine T.F__are_points.ok sc__are_points (fun vs H Q E h => ?_) (fun cdv A' outer s H vs Q E hr h => ?_)
  · obtain ⟨y, rfl, _⟩ := h
    rfl
  · obtain ⟨y, rfl, h⟩ := h
    refine ⟨_, (pss_cons (ps_if (PW.pt (pw_or (pt_not (pt_val (pe_callB call_isiT rfl T.z_isinstance (by decide +kernel) (pa_cons (pv 0) (pa_cons (pe_tup (pa_cons (pe_bltn (v := .ty "list") rfl T.z_list (by decide +kernel) rfl) (pa_cons (pe_bltn (v := .ty "tuple") rfl T.z_tuple (by decide +kernel) rfl) pa_nil))) pa_nil))))) (pw_or (pt_cmpR op_gt (pe_callB call_len_seq rfl T.z_len (by decide +kernel) (pa_cons (pv 0) pa_nil)) (pe_glob (v := .int 8) rfl gc_MOST_POINTS ⟨_, rfl⟩) (nomark _)) (pw_or1 (pt_not (pt_val (pe_call G__are_numbers (hr.mono (by decide)) rfl T.g__are_numbers T.F__are_numbers.kp T.b__are_numbers .nil pass0 (pa_cons (pv 0) (pa_cons (pe_callB call_len_seq rfl T.z_len (by decide +kernel) (pa_cons (pv 0) pa_nil)) pa_nil))))))))) (pss_one (ps_ret pe_bl)) pss_nil)
  (pss_one (ps_ret (pe_not (pe_callB (cr_any rfl) rfl T.z_any (by decide +kernel) (pa_cons (pe_lc (own := [("k", 1)]) (g := gName 1) (tt := tYes) rfl sc__are_points.nd (pi_range1 rfl T.z_range (pa_cons (pe_callB call_len_seq rfl T.z_len (by decide +kernel) (pa_cons (pv 0) pa_nil)) pa_nil)) (blkOk_by (N := N__are_points) (sc := defScope s__are_points) (by decide +kernel)) (fun _ _ _ _ _ => (pg_name (i := 1) sc__are_points.nd rfl (.inl rfl))) (fun _ _ _ _ _ => pts_nil) (fun _ _ _ _ _ => (pe_cmpR ((op_in_seqK (K := K) rfl).or ((op_inB eqB_mon (RcB.eqB (rcB_ins (G_Ratio___eq__.imp eqB_imp) T.m_Ratio___eq__.at_ T.m_Ratio___eq__.fn T.b_Ratio___eq__ pass0) eqB_ref) (hr.mono (by decide))).or (op_inT (K := K) rfl eqB_mon (RcB.eqB (rcB_ins (G_Ratio___eq__.imp eqB_imp) T.m_Ratio___eq__.at_ T.m_Ratio___eq__.fn T.b_Ratio___eq__ pass0) eqB_ref) (hr.mono (by decide))))) (pe_ix ((ix_listK (K := K) rfl).or (ix_tupK (K := K) rfl)) (pv 0) (pv 1) (fun _ _ => rfl)) (pe_slice ((sl_listK (K := K) rfl).or (sl_tupK (K := K) rfl)) (pv 0) po_none (po_some (pv 1))) (by with_unfolding_all rfl)))) pa_nil)))))), ?_⟩
    refine ⟨_, rfl, by show 2 ≤ sizeLine; decide, fun tp nt => ?_⟩
    have s1 : Same H (upd H tp (.tup [.ty "list", .ty "tuple"])) := same_upd nt
    have h1 : (BadPts K A (upd H tp (.tup [.ty "list", .ty "tuple"])) y ∧ ∀ H', Same (upd H tp (.tup [.ty "list", .ty "tuple"])) H' → Q (.bl false) H') ∨ (∃ n x, GoodPts A (upd H tp (.tup [.ty "list", .ty "tuple"])) y n x ∧ ∀ H', Same (upd H tp (.tup [.ty "list", .ty "tuple"])) H' → Q (.bl true) H') := by
      rcases h with ⟨hb, q⟩ | ⟨n, x, hg, q⟩
      · exact .inl ⟨hb.same s1, fun H' k => q H' (s1.trans k)⟩
      · exact .inr ⟨n, x, hg.same s1, fun H' k => q H' (s1.trans k)⟩
    have htp : upd H tp (.tup [.ty "list", .ty "tuple"]) tp = some (.tup [.ty "list", .ty "tuple"]) := upd_same
    clear h
    generalize upd H tp (.tup [.ty "list", .ty "tuple"]) = H1 at s1 h1 htp ⊢
    -- behind the tests
    have kit : ∀ (a : Addr) (xs : List V), y = .ref a → (H1 a = some (.lst xs) ∨ H1 a = some (.tup xs)) → ∃ t, TyX K H1 y t ∧ PySem.W.kitAny K t [.type "list", .type "tuple"] = some true := fun a xs e ha => e ▸ kit_seq ha
    rcases h1 with ⟨hb, q⟩ | ⟨n, x, hg, q⟩
    · rcases hb with ⟨t, ty, k1, k2⟩ | ⟨a, xs, rfl, ha, l60, hb⟩
      · exact ⟨y, tp, _, t, _, false, rfl, htp, .cons (.ty _) (.cons (.ty _) .nil), ty, kit_no k1 k2, false, rfl, iteT (q _ (Same.refl H1))⟩
      obtain ⟨t, ty, ka⟩ := kit a xs rfl ha
      refine ⟨.ref a, tp, _, t, _, true, rfl, htp, .cons (.ty _) (.cons (.ty _) .nil), ty, ka, true, rfl, iteF ?_⟩
      rcases hb with hb | ⟨l8, g, fl, hg⟩ | ⟨l8, f, rr, hf, hd⟩
      · exact ⟨_, rfl, a, xs, rfl, ha.imp .of .of, _, _, rfl, rfl, _, rfl, iteTe (decide_eq_true (by omega)) (q _ (Same.refl H1))⟩
      · refine ⟨_, rfl, a, xs, rfl, ha.imp .of .of, _, _, rfl, rfl, _, rfl, iteFe (decide_eq_false (by omega)) ?_⟩
        refine ⟨_, rfl, _, rfl, a, xs, rfl, ha.imp .of .of, .ref a, _, rfl, .inr ⟨a, xs, g, rfl, ha, l60, fl, fun H2 k2 => ⟨_, rfl, ?_⟩⟩⟩
        rw [decide_eq_true rfl, hg]
        exact iteT (q _ k2)
      · refine ⟨_, rfl, a, xs, rfl, ha.imp .of .of, _, _, rfl, rfl, _, rfl, iteFe (decide_eq_false (by omega)) ?_⟩
        refine ⟨_, rfl, _, rfl, a, xs, rfl, ha.imp .of .of, .ref a, _, rfl, .inr ⟨a, xs, fun _ => true, rfl, ha, l60, flags_nums rr.nums, fun H2 k2 => ⟨_, rfl, ?_⟩⟩⟩
        rw [decide_eq_true rfl, show (List.range xs.length).all (fun _ => true) = true by simp]
        refine iteF ?_
        have ha2 := ha.imp (k2 a _) (k2 a _)
        have rr2 := rr.same k2
        refine ⟨_, rfl, a, xs, rfl, ha2.imp .of .of, _, rfl, by omega, by omega, fun d nd => ?_⟩
        rw [show ((xs.length : Nat) : Int).toNat = xs.length by omega]
        refine lc_range (lo := 0) (fun i G => Same H2 G ∧ G d = some (.lst (((List.range i).map (dupR f)).map V.bl))) ⟨same_upd nd, upd_same⟩ ?_ ?_
        · rintro i G hi ⟨sm, hG⟩
          have hx := List.getElem?_eq_getElem hi
          have rx0 := (rr2 _ _ hx).same sm
          have fin : ∀ (p : Addr) (G1 : Hp), Same G G1 → (∀ H', Ext G1 H' → ∃ acc, H' d = some (.lst acc) ∧ acc.length < sizeLine ∧ Same H2 (upd H' d (.lst (acc ++ [V.bl ((List.range (xs.take i).length).any fun j => decide (f j = f i))]))) ∧ upd H' d (.lst (acc ++ [V.bl ((List.range (xs.take i).length).any fun j => decide (f j = f i))])) d = some (.lst (((List.range (i + 1)).map (dupR f)).map V.bl))) := fun p G1 t1 H' e => by
            have t3 : Same H2 H' := (sm.trans t1).trans e
            refine ⟨_, e _ _ (t1 _ _ hG), by rw [bl_len]; exact small1000 (by omega), same_push t3 nd, ?_⟩
            rw [upd_same, ← bl_grow, show (xs.take i).length = i by rw [List.length_take]; omega]
            rfl
          have each : ∀ (G1 : Hp), Same G G1 → ∀ j u, (xs.take i)[j]? = some u → InsB A.Ratio (RatB A.Ratio) u xs[i] G1 (decide (f j = f i)) := fun G1 t1 j u e => by
            rw [List.getElem?_take] at e
            split at e
            · exact insB_ratd ((rr2 _ _ e).same (sm.trans t1)) (rx0.same t1) (hf _ (by omega)) (hf _ (by omega))
            · cases e
          rcases ha2 with hl2 | ht2
          · refine ⟨rfl, _, rfl, _, rfl, .inl ⟨a, xs, _, _, rfl, rfl, .of (sm _ _ hl2), at_get hx, _, rfl, _, rfl, _, rfl, .inl ⟨a, xs, rfl, .of (sm _ _ hl2), fun p np => ?_⟩⟩⟩
            have t1 := same_upd (o := .lst (cutV xs none (some ((0 : Int) + (i : Int))))) np
            have hp : upd G p (.lst (cutV xs none (some ((0 : Int) + (i : Int))))) p = some (.lst (xs.take i)) := by rw [upd_same, show (0 : Int) + (i : Int) = (i : Int) by omega, cut_to]
            generalize upd G p (.lst (cutV xs none (some ((0 : Int) + (i : Int))))) = G1 at t1 hp
            exact .inr (.inl ⟨p, xs.take i, _, rfl, hp, each G1 t1, fin p G1 t1⟩)
          · refine ⟨rfl, _, rfl, _, rfl, .inr ⟨a, xs, _, _, rfl, rfl, .of (sm _ _ ht2), at_get hx, _, rfl, _, rfl, _, rfl, .inr ⟨a, xs, rfl, .of (sm _ _ ht2), fun z => ?_, fun _ p np => ?_⟩⟩⟩
            · have e : HT.sIx xs.length xs.length (some ((0 : Int) + (i : Int))) = i := by
                show (if (0 : Int) + (i : Int) < 0 then (((0 : Int) + (i : Int)) + (xs.length : Int)).toNat else min ((0 : Int) + (i : Int)).toNat xs.length) = i
                rw [if_neg (by omega)]
                omega
              omega
            have t1 := same_upd (o := .tup (cutV xs none (some ((0 : Int) + (i : Int))))) np
            have hp : upd G p (.tup (cutV xs none (some ((0 : Int) + (i : Int))))) p = some (.tup (xs.take i)) := by rw [upd_same, show (0 : Int) + (i : Int) = (i : Int) by omega, cut_to]
            generalize upd G p (.tup (cutV xs none (some ((0 : Int) + (i : Int))))) = G1 at t1 hp
            exact .inr (.inr ⟨p, xs.take i, _, rfl, .of hp, each G1 t1, fin p G1 t1⟩)
        · rintro G ⟨sm, hG⟩
          refine ⟨d, _, rfl, .of hG, ?_⟩
          rw [any_id, hd]
          exact ⟨true, rfl, q _ (k2.trans sm)⟩
    · obtain ⟨a, xs, rfl, lx, l8, ha, nn⟩ := hg.nums
      obtain ⟨t, ty, ka⟩ := kit a xs rfl ha
      refine ⟨.ref a, tp, _, t, _, true, rfl, htp, .cons (.ty _) (.cons (.ty _) .nil), ty, ka, true, rfl, iteF ?_⟩
      refine ⟨_, rfl, a, xs, rfl, ha.imp .of .of, _, _, rfl, rfl, _, rfl, iteFe (decide_eq_false (by omega)) ?_⟩
      refine ⟨_, rfl, _, rfl, a, xs, rfl, ha.imp .of .of, .ref a, _, rfl, .inr ⟨a, xs, fun _ => true, rfl, ha, by omega, flags_nums nn, fun H2 k2 => ⟨_, rfl, ?_⟩⟩⟩
      rw [decide_eq_true rfl, show (List.range xs.length).all (fun _ => true) = true by simp]
      refine iteF ?_
      have ha2 := ha.imp (k2 a _) (k2 a _)
      refine ⟨_, rfl, a, xs, rfl, ha2.imp .of .of, _, rfl, by omega, by omega, fun d nd => ?_⟩
      rw [show ((xs.length : Nat) : Int).toNat = xs.length by omega]
      obtain ⟨a', xs', ea, lx', _, hg⟩ := hg
      cases ea
      rcases hg with ⟨ha', rr, hf, hd⟩ | ⟨is, rfl, ha', nod, _, _⟩
      · have exs : xs' = xs := by
          rcases ha with h | h <;> rcases ha' with h' | h' <;> rw [h] at h' <;> cases h' <;> rfl
        subst exs
        have rr2 := rr.same k2
        refine lc_range (lo := 0) (fun i G => Same H2 G ∧ G d = some (.lst (((List.range i).map (dupR x)).map V.bl))) ⟨same_upd nd, upd_same⟩ ?_ ?_
        · rintro i G hi ⟨sm, hG⟩
          have hx := List.getElem?_eq_getElem hi
          have rx0 := (rr2 _ _ hx).same sm
          have fin : ∀ (p : Addr) (G1 : Hp), Same G G1 → (∀ H', Ext G1 H' → ∃ acc, H' d = some (.lst acc) ∧ acc.length < sizeLine ∧ Same H2 (upd H' d (.lst (acc ++ [V.bl ((List.range (xs'.take i).length).any fun j => decide (x j = x i))]))) ∧ upd H' d (.lst (acc ++ [V.bl ((List.range (xs'.take i).length).any fun j => decide (x j = x i))])) d = some (.lst (((List.range (i + 1)).map (dupR x)).map V.bl))) := fun p G1 t1 H' e => by
            have t3 : Same H2 H' := (sm.trans t1).trans e
            refine ⟨_, e _ _ (t1 _ _ hG), by rw [bl_len]; exact small1000 (by omega), same_push t3 nd, ?_⟩
            rw [upd_same, ← bl_grow, show (xs'.take i).length = i by rw [List.length_take]; omega]
            rfl
          have each : ∀ (G1 : Hp), Same G G1 → ∀ j u, (xs'.take i)[j]? = some u → InsB A.Ratio (RatB A.Ratio) u xs'[i] G1 (decide (x j = x i)) := fun G1 t1 j u e => by
            rw [List.getElem?_take] at e
            split at e
            · exact insB_ratd ((rr2 _ _ e).same (sm.trans t1)) (rx0.same t1) (hf _ (by omega)) (hf _ (by omega))
            · cases e
          rcases ha2 with hl2 | ht2
          · refine ⟨rfl, _, rfl, _, rfl, .inl ⟨a, xs', _, _, rfl, rfl, .of (sm _ _ hl2), at_get hx, _, rfl, _, rfl, _, rfl, .inl ⟨a, xs', rfl, .of (sm _ _ hl2), fun p np => ?_⟩⟩⟩
            have t1 := same_upd (o := .lst (cutV xs' none (some ((0 : Int) + (i : Int))))) np
            have hp : upd G p (.lst (cutV xs' none (some ((0 : Int) + (i : Int))))) p = some (.lst (xs'.take i)) := by rw [upd_same, show (0 : Int) + (i : Int) = (i : Int) by omega, cut_to]
            generalize upd G p (.lst (cutV xs' none (some ((0 : Int) + (i : Int))))) = G1 at t1 hp
            exact .inr (.inl ⟨p, xs'.take i, _, rfl, hp, each G1 t1, fin p G1 t1⟩)
          · refine ⟨rfl, _, rfl, _, rfl, .inr ⟨a, xs', _, _, rfl, rfl, .of (sm _ _ ht2), at_get hx, _, rfl, _, rfl, _, rfl, .inr ⟨a, xs', rfl, .of (sm _ _ ht2), fun z => ?_, fun _ p np => ?_⟩⟩⟩
            · have e : HT.sIx xs'.length xs'.length (some ((0 : Int) + (i : Int))) = i := by
                show (if (0 : Int) + (i : Int) < 0 then (((0 : Int) + (i : Int)) + (xs'.length : Int)).toNat else min ((0 : Int) + (i : Int)).toNat xs'.length) = i
                rw [if_neg (by omega)]
                omega
              omega
            have t1 := same_upd (o := .tup (cutV xs' none (some ((0 : Int) + (i : Int))))) np
            have hp : upd G p (.tup (cutV xs' none (some ((0 : Int) + (i : Int))))) p = some (.tup (xs'.take i)) := by rw [upd_same, show (0 : Int) + (i : Int) = (i : Int) by omega, cut_to]
            generalize upd G p (.tup (cutV xs' none (some ((0 : Int) + (i : Int))))) = G1 at t1 hp
            exact .inr (.inr ⟨p, xs'.take i, _, rfl, .of hp, each G1 t1, fin p G1 t1⟩)
        · rintro G ⟨sm, hG⟩
          refine ⟨d, _, rfl, .of hG, ?_⟩
          rw [any_id, lx, dup_none hd]
          exact ⟨false, rfl, q _ (k2.trans sm)⟩
      · have exs : xs = is.map V.int := by
          rcases ha with h | h <;> rw [h] at ha' <;> cases ha' <;> rfl
        subst exs
        have hl2 := k2 _ _ ha'
        refine lc_range (lo := 0) (fun i G => Same H2 G ∧ G d = some (.lst (((List.range i).map fun _ => false).map V.bl))) ⟨same_upd nd, upd_same⟩ ?_ ?_
        · rintro i G hi ⟨sm, hG⟩
          rw [List.length_map] at hi
          have hz := List.getElem?_eq_getElem hi
          have hx : (is.map V.int)[i]? = some (.int is[i]) := by rw [List.getElem?_map, hz]; rfl
          refine ⟨rfl, _, rfl, _, rfl, .inl ⟨a, is.map V.int, _, _, rfl, rfl, .of (sm _ _ hl2), at_get hx, _, rfl, _, rfl, _, rfl, .inl ⟨a, is.map V.int, rfl, .of (sm _ _ hl2), fun p np => ?_⟩⟩⟩
          have t1 := same_upd (o := .lst (cutV (is.map V.int) none (some ((0 : Int) + (i : Int))))) np
          have hp : upd G p (.lst (cutV (is.map V.int) none (some ((0 : Int) + (i : Int))))) p = some (.lst ((is.take i).map V.int)) := by rw [upd_same, show (0 : Int) + (i : Int) = (i : Int) by omega, cut_to, List.map_take]
          generalize upd G p (.lst (cutV (is.map V.int) none (some ((0 : Int) + (i : Int))))) = G1 at t1 hp
          have t2 := sm.trans t1
          have ni : is[i] ∉ is.take i := fun h => by
            obtain ⟨j, hj, e⟩ := List.mem_iff_getElem.mp h
            rw [List.length_take] at hj
            rw [List.getElem_take] at e
            have := (List.nodup_iff_pairwise_ne.mp nod)
            exact List.pairwise_iff_getElem.mp this j i (by omega) hi (by omega) e
          refine .inl ⟨p, _, rfl, .inl (.of hp), rfl, flat_ints, ?_⟩
          show ∃ _, _
          rw [show (if false = true then !inV (.int is[i]) ((is.take i).map V.int) else inV (.int is[i]) ((is.take i).map V.int)) = false by rw [if_neg Bool.false_ne_true]; exact inV_ints ni]
          exact ⟨_, t1 _ _ hG, by rw [bl_len]; exact small1000 (by rw [List.length_map] at lx; omega), same_push t2 nd, by rw [upd_same, ← bl_grow]⟩
        · rintro G ⟨sm, hG⟩
          refine ⟨d, _, rfl, .of hG, ?_⟩
          rw [any_id, show (List.range (is.map V.int).length).any (fun _ => false) = false by simp]
          exact ⟨false, rfl, q _ (k2.trans sm)⟩
end

end Mo

namespace Mo
open PySem PySem.Spec PyProof.Rows L2 MoL MoW
open C8 (pss_cut tCut)
section
variable {P : Program} {w : World} {K : PySem.W.Frag} {mg : Str → Option Value} {base : Heap} {A : Ad} {D : Fd}
theorem ok_NoLot___init__ (T : Txt K mg A D) : FnOk P w K mg base CX0 1 A.f_NoLot___init__ D.f_NoLot___init__ ["self", "part"] (sp_keep K "part") := by
  skip
  refine T.F_NoLot___init__.ok sc_NoLot___init__ (fun vs H Q E h => ?_) (fun cdv A' outer s H vs Q E hr h => ?_)
  · obtain ⟨e, C, v, rfl, _⟩ := h
    rfl
  · obtain ⟨e, C, v, rfl, hT, hn, he, q⟩ := h
    refine ⟨_, pss_one (ps_ost (pv 0) (pv 1)), ?_⟩
    exact ⟨_, rfl, _, rfl, e, C, rfl, hT, hn, .inl ⟨he, q⟩⟩
abbrev linR (c : Rat) : Nat → Rat := fun k => if k = 0 then c else if k = 1 then 1 else 0
theorem mul_linR {q : Nat → Rat} {c : Rat} {k : Nat} : mulF q (linR c) k = q k * c + (if k = 0 then 0 else q (k - 1)) := by
  cases k with
  | zero =>
    show (0 : Rat) + q 0 * _ = _
    rw [if_pos rfl]
    show (0 : Rat) + q 0 * c = q 0 * c + 0
    grind
  | succ k =>
    show sumR _ k + _ + _ = _
    rw [sumR_zero fun a ha => by
      show q a * (if k + 1 - a = 0 then c else if k + 1 - a = 1 then 1 else 0) = 0
      rw [if_neg (by omega), if_neg (by omega), Rat.mul_zero]]
    show (0 : Rat) + q k * (if k + 1 - k = 0 then c else if k + 1 - k = 1 then 1 else 0) + q (k + 1) * (if k + 1 - (k + 1) = 0 then c else if k + 1 - (k + 1) = 1 then 1 else 0) = _
    rw [if_neg (show ¬ k + 1 - k = 0 by omega), if_pos (show k + 1 - k = 1 by omega), if_pos (show k + 1 - (k + 1) = 0 by omega), if_neg (by omega), Nat.add_sub_cancel]
    grind
theorem rt_next {x : Nat → Rat} {n k : Nat} : mulF (rtq x n) (linR (-x n)) k = rtq x (n + 1) k := by
  rw [mul_linR]
  show _ = (if k = 0 then 0 else rtq x n (k - 1)) - x n * rtq x n k
  grind
theorem linR_nums {C : Addr} {H : Hp} {v : V} {c : Rat} (h : RatV C H v c) : NumsV C H [v, .int 1] (linR c) := fun k y e => by
  match k, e with
  | 0, e => cases e; exact .inr h
  | 1, e => cases e; exact .inl ⟨1, rfl, rfl⟩
  | k + 2, e => simp at e
theorem linR_cm {q : Int} {c : Rat} (h : Cm q 38 c) (hq : q.natAbs < 2 ^ 6) (k : Nat) : Cm q 38 (linR c k) := by
  show Cm q 38 (if k = 0 then c else if k = 1 then 1 else 0)
  split
  · exact h
  · split
    · exact ⟨q, by rw [Rat.one_mul], nle hq (by decide)⟩
    · exact .zero
/-- a number times a Ratio -/
theorem mul_any {C : Addr} {H : Hp} {v u : V} {z c : Rat} {Q : VK} {E E' : XK} (hv : NumV C H v z) (hu : RatV C H u c) (bz : Bd 1990 1990 z) (bc : Bd 1990 1990 c) (q : ∀ G y, Same H G → RatV C G y (z * c) → Q y G) : rOwn C (sp_bin C f_pro) E v u H Q ∨ rOwnR C (sp_rbin C f_pro) E' v u H Q := by
  rcases hv with ⟨i, rfl, rfl⟩ | hv
  · exact .inr ⟨⟨_, rfl⟩, hu.ins, _, _, _, _, rfl, hu, .inl ⟨i, rfl, rfl⟩, bc, bz, fun G y k r => q G y k r⟩
  · exact .inl ⟨hv.ins, .inr hu.ins, _, _, _, _, rfl, hv, hu.num, bz, bc, fun G y k r => q G y k r⟩
theorem linR_num {C : Addr} {H : Hp} {v : V} {c : Rat} (h : NumV C H v c) : NumsV C H [v, .int 1] (linR c) := fun k y e => by
  match k, e with
  | 0, e => cases e; exact h
  | 1, e => cases e; exact .inl ⟨1, rfl, rfl⟩
  | k + 2, e => simp at e
/-- minus, of an int or a Ratio -/
theorem neg_any {C : Addr} {H : Hp} {v : V} {z : Rat} {Q : VK} {E : XK} (hv : NumV C H v z) (bz : Bd 3900 3900 z) (q : ∀ G y, Same H G → NumV C G y (-z) → Q y G) : rU (fun i => .int (-i)) v H Q ∨ rOwn1 C (sp_neg C) E v H Q := by
  rcases hv with ⟨i, rfl, rfl⟩ | hv
  · exact .inl ⟨i, rfl, q H _ (Same.refl H) (.inl ⟨-i, rfl, (Rat.intCast_neg i).symm⟩)⟩
  · exact .inr ⟨hv.ins, v, z, rfl, hv, bz, fun G y k r => q G y k r.num⟩
theorem int_le0 (i : Int) : ((i : Rat) ≤ ((0 : Int) : Rat)) ↔ i ≤ 0 := Rat.intCast_le_intCast
/-- <= 0 -/
theorem le0_any {C : Addr} {H : Hp} {v : V} {z : Rat} {Q : VK} {E : XK} (hv : NumV C H v z) (bz : Bd 3900 3900 z) (q : Q (.bl (decide (z ≤ ((0 : Int) : Rat)))) H) : rI0 (fun i j => .bl (decide (i ≤ j))) v (.int 0) H Q ∨ rOwn C (sp_cmp C r_le) E v (.int 0) H Q := by
  rcases hv with ⟨i, rfl, rfl⟩ | hv
  · refine .inl ⟨i, 0, rfl, rfl, ?_⟩
    show Q (.bl (decide (i ≤ 0))) H
    rw [show decide (i ≤ 0) = decide ((i : Rat) ≤ ((0 : Int) : Rat)) from by rw [Bool.eq_iff_iff, decide_eq_true_iff, decide_eq_true_iff, int_le0]]
    exact q
  · exact .inr ⟨hv.ins, .inl ⟨0, rfl⟩, v, .int 0, z, ((0 : Int) : Rat), rfl, hv, .inl ⟨0, rfl, rfl⟩, bz, .int (by decide) (by decide), q⟩
/-- a product of two numbers -/
theorem mul_two {C : Addr} {H : Hp} {v u : V} {z c : Rat} {Q : VK} {E E' : XK} (hv : NumV C H v z) (hu : NumV C H u c) (bz : Bd 1990 1990 z) (bc : Bd 1990 1990 c) (q : ∀ G y, Same H G → NumV C G y (z * c) → Q y G) : (rI CMulW (fun i j => .int (i * j)) v u H Q ∨ rOwn C (sp_bin C f_pro) E v u H Q) ∨ rOwnR C (sp_rbin C f_pro) E' v u H Q := by
  rcases hv with ⟨i, rfl, rfl⟩ | hv
  · rcases hu with ⟨j, rfl, rfl⟩ | hu
    · have b1 : i.natAbs < 2 ^ 1990 := bz.top
      have b2 : j.natAbs < 2 ^ 1990 := bc.top
      exact .inl (.inl ⟨i, j, rfl, rfl, (sm_of b1 (by decide)).mul (sm_of b2 (by decide)), q H _ (Same.refl H) (.inl ⟨i * j, rfl, (Rat.intCast_mul i j).symm⟩)⟩)
    · exact .inr ⟨⟨_, rfl⟩, hu.ins, _, _, _, _, rfl, hu, .inl ⟨i, rfl, rfl⟩, bc, bz, fun G y k r => q G y k r.num⟩
  · exact .inl (.inr ⟨hv.ins, hu.kind, _, _, _, _, rfl, hv, hu, bz, bc, fun G y k r => q G y k r.num⟩)
theorem ix_any {H : Hp} {a : Addr} {xs : List V} {i : Int} {v : V} {Q : VK} (ha : H a = some (.lst xs) ∨ H a = some (.tup xs)) (hv : atI xs i = some v) (q : Q v H) : rIxL K (.ref a) (.int i) H Q ∨ rIxT K (.ref a) (.int i) H Q :=
  ha.imp (fun h => ⟨a, xs, i, v, rfl, rfl, .of h, hv, q⟩) fun h => ⟨a, xs, i, v, rfl, rfl, .of h, hv, q⟩
def BadWts (K : PySem.W.Frag) (A : Ad) (H : Hp) (u : V) (n : Nat) : Prop := NoSeq K H u ∨ ∃ (b : Addr) (ws : List V), u = .ref b ∧ (H b = some (.lst ws) ∨ H b = some (.tup ws)) ∧ ws.length ≤ 60 ∧
  ((∃ g, FlagsV K A.Ratio H ws g ∧ (ws.length ≠ n ∨ (List.range ws.length).all g = false)) ∨ (ws.length = n ∧ ∃ w, NumsV A.Ratio H ws w ∧ (∀ k, k < n → Bd 3900 3900 (w k)) ∧ ∃ k, k < n ∧ w k ≤ 0))
theorem BadWts.same {H H' : Hp} {u : V} {n : Nat} (h : BadWts K A H u n) (s : Same H H') : BadWts K A H' u n := by
  rcases h with h | ⟨b, ws, e, hb, l, h⟩
  · exact .inl (h.same s)
  · refine .inr ⟨b, ws, e, hb.imp (s b _) (s b _), l, ?_⟩
    rcases h with ⟨g, fl, r⟩ | ⟨l, w, nw, r⟩
    · exact .inl ⟨g, fl.same s, r⟩
    · exact .inr ⟨l, w, nw.same s, r⟩
def GoodWts (A : Ad) (H : Hp) (u : V) (n : Nat) (w : Nat → Rat) : Prop := ∃ (b : Addr) (ws : List V), u = .ref b ∧ (H b = some (.lst ws) ∨ H b = some (.tup ws)) ∧ ws.length = n ∧ NumsV A.Ratio H ws w ∧ ∀ j, j < n → 0 < w j
theorem GoodWts.same {H H' : Hp} {u : V} {n : Nat} {w : Nat → Rat} (h : GoodWts A H u n w) (s : Same H H') : GoodWts A H' u n w := by
  obtain ⟨b, ws, e, hb, l, nw, r⟩ := h
  exact ⟨b, ws, e, hb.imp (s b _) (s b _), l, nw.same s, r⟩
def sp_lotatX (K : PySem.W.Frag) (A : Ad) : Sp := fun vs H Q E => ∃ y u, vs = [y, u] ∧ ((BadPts K A H y ∧ ∀ H' p, Same H H' → H' p = none → E (.ref A.NoLot) (some p) (upd H' p (.xd [("part", .str "points")]))) ∨
  ∃ (n : Nat) (x : Nat → Rat), GoodPts A H y n x ∧ ((BadWts K A H u n ∧ ∀ H' p, Same H H' → H' p = none → E (.ref A.NoLot) (some p) (upd H' p (.xd [("part", .str "weights")]))) ∨
    ∃ (w : Nat → Rat) (X W : Nat → Int) (q s : Int), GoodWts A H u n w ∧ LotI n x w X W q s ∧ ∀ H' v, Same H H' → LotV A H' v n x w → Q v H'))
theorem ok_lot_at (T : Txt K mg A D) : FnOk P w K mg base (L2.CX P w) 12 A.f_lot_at D.f_lot_at ["points", "weights"] (sp_lotatX K A) := by
  have G_Lot_init : FnOk P w K mg base CX0 1 A.f_Lot___init__ D.f_Lot___init__ ["self", "poly", "begin"] (sp_lotnew A) := ok_Lot___init__ T
  have b_Lot_init2 := T.b_Lot___init__
  have d_Lot_init2 : Vals [] [] := .nil
  have G_NoLot___init__ : FnOk P w K mg base CX0 1 A.f_NoLot___init__ D.f_NoLot___init__ ["self", "part"] (sp_keep K "part") := ok_NoLot___init__ T
  have G_Poly_init : FnOk P w K mg base CX0 6 A.f_Poly___init__ D.f_Poly___init__ ["self", "coefficients"] (sp_poly K A) := ok_Poly___init__ T
  have b_Poly_init1 := T.b_Poly___init__
  have d_Poly_init1 : Vals [] [] := .nil
  have G_Poly___mul__ : FnOk P w K mg base CX0 10 A.f_Poly___mul__ D.f_Poly___mul__ ["self", "other"] (sp_pmulN A) := ok_Poly___mul__ T
  have G_Ratio_init : FnOk P w K mg base CX0 2 A.f_Ratio___init__ D.f_Ratio___init__ ["self", "top", "bottom"] (sp_init A.Ratio) := ok_Ratio___init__ T
  obtain ⟨ds1, d_Ratio_init1, b_Ratio_init1⟩ := T.b1_Ratio___init__
  have G_Ratio___add__ : FnOk P w K mg base CX0 5 A.f_Ratio___add__ D.f_Ratio___add__ ["self", "other"] (sp_bin A.Ratio f_sum) := ok_Ratio___add__ T
  have G_Ratio___le__ : FnOk P w K mg base CX0 3 A.f_Ratio___le__ D.f_Ratio___le__ ["self", "other"] (sp_cmp A.Ratio r_le) := ok_Ratio___le__ T
  have G_Ratio___mul__ : FnOk P w K mg base CX0 5 A.f_Ratio___mul__ D.f_Ratio___mul__ ["self", "other"] (sp_bin A.Ratio f_pro) := ok_Ratio___mul__ T
  have G_Ratio___neg__ : FnOk P w K mg base CX0 4 A.f_Ratio___neg__ D.f_Ratio___neg__ ["self"] (sp_neg A.Ratio) := ok_Ratio___neg__ T
  have G_Ratio___rmul__ : FnOk P w K mg base CX0 5 A.f_Ratio___rmul__ D.f_Ratio___rmul__ ["self", "other"] (sp_rbin A.Ratio f_pro) := ok_Ratio___rmul__ T
  have G_Sure_init : FnOk P w K mg base CX0 1 A.f_Sure___init__ D.f_Sure___init__ ["self", "numbers"] (sp_sure A) := ok_Sure___init__ T
  have b_Sure_init1 := T.b_Sure___init__
  have d_Sure_init1 : Vals [] [] := .nil
  have G__are_numbers : FnOk P w K mg base CX0 3 A.f__are_numbers D.f__are_numbers ["numbers", "many"] (sp_arenumX K A) := ok__are_numbers T
  have G__are_points : FnOk P w K mg base CX0 5 A.f__are_points D.f__are_points ["points"] (sp_areptsX K A) := ok__are_points T
  have G_first_powers : FnOk P w K mg base CX0 6 A.f_first_powers D.f_first_powers ["base", "many"] (sp_fpow2 A) := ok_first_powers T
  have G_ratio_of : FnOk P w K mg base CX0 4 A.f_ratio_of D.f_ratio_of ["number"] (sp_ratio_of A.Ratio) := ok_ratio_of T
  refine T.F_lot_at.okX sc_lot_at (fun vs H Q E h => ?_) (fun cdv A' outer s H vs Q E hr h => ?_)
  · obtain ⟨y, u, rfl, _⟩ := h
    rfl
  · obtain ⟨y, u, rfl, h⟩ := h
    refine ⟨_, (pss_cons (ps_if (pt_not (pt_val (pe_call G__are_points (hr.mono (by decide)) rfl T.g__are_points T.F__are_points.kp T.b__are_points .nil pass0 (pa_cons (pv 0) pa_nil)))) (pss_one (ps_raise rfl (takes_of rfl rfl rfl rfl) (pmk_oex T.o_NoLot T.i_NoLot T.ti_NoLot G_NoLot___init__ (hr.mono (by decide)) T.b_NoLot___init__ .nil pass0 rfl T.g_NoLot (by exact (pa_cons pe_str pa_nil))))) pss_nil)
  (pss_cons (ps_if (PW.pt (pw_or (pt_not (pt_val (pe_call G__are_numbers (hr.mono (by decide)) rfl T.g__are_numbers T.F__are_numbers.kp T.b__are_numbers .nil pass0 (pa_cons (pv 1) (pa_cons (pe_callB call_len_seq rfl T.z_len (by decide +kernel) (pa_cons (pv 0) pa_nil)) pa_nil))))) (pw_or1 (pt_val (pe_callB (cr_any rfl) rfl T.z_any (by decide +kernel) (pa_cons (pe_lc (own := [("weight", 2)]) (g := gName 2) (tt := tYes) rfl sc_lot_at.nd (pi_or (pi_list (pv 1)) (pi_tup (pv 1))) (blkOk_by (N := N_lot_at) (sc := defScope s_lot_at) (by decide +kernel)) (fun _ _ _ _ _ => (pg_name (i := 2) sc_lot_at.nd rfl (.inl rfl))) (fun _ _ _ _ _ => pts_nil) (fun _ _ _ _ _ => (pe_cmpR (op_le.or (op_le_own T.k_Ratio.ow T.m_Ratio___le__ G_Ratio___le__ (hr.mono (by decide)) T.b_Ratio___le__ pass0)) (pv 2) pe_int (nomark _)))) pa_nil)))))) (pss_one (ps_raise rfl (takes_of rfl rfl rfl rfl) (pmk_oex T.o_NoLot T.i_NoLot T.ti_NoLot G_NoLot___init__ (hr.mono (by decide)) T.b_NoLot___init__ .nil pass0 rfl T.g_NoLot (by exact (pa_cons pe_str pa_nil))))) pss_nil)
  (pss_cons (ps_set (i := 3) sc_lot_at.nd rfl (.inl rfl) (pe_make T.M_Poly G_Poly_init (hr.mono (by decide)) rfl T.g_Poly b_Poly_init1 d_Poly_init1 pass0 (pa_cons (pe_lst (pa_cons pe_int pa_nil)) pa_nil)))
  (pss_cons (ps_for (passes_of rfl) rfl (pi_or (pi_list (pv 0)) (pi_tup (pv 0))) (pg_name (i := 4) sc_lot_at.nd rfl (.inl rfl)) (pss_one (ps_set (i := 3) sc_lot_at.nd rfl (.inl rfl) (pe_op (op_mul_own T.k_Poly.ow T.m_Poly___mul__ T.m_Poly___rmul__ G_Poly___mul__ (hr.mono (by decide)) T.b_Poly___mul__ pass0) (pv 3) (pe_make T.M_Poly G_Poly_init (hr.mono (by decide)) rfl T.g_Poly b_Poly_init1 d_Poly_init1 pass0 (pa_cons (pe_lst (pa_cons (pe_un (unr_or un_neg (un_neg_own T.m_Ratio___neg__ G_Ratio___neg__ (hr.mono (by decide)) T.b_Ratio___neg__ pass0)) (pv 4)) (pa_cons pe_int pa_nil))) pa_nil))))))
  (pss_cons (ps_set (i := 5) sc_lot_at.nd rfl (.inr rfl) (pe_op op_rep (pe_lst (pa_cons (pe_make T.M_Ratio G_Ratio_init (hr.mono (by decide)) rfl T.g_Ratio b_Ratio_init1 d_Ratio_init1 pass0 (pa_cons pe_int pa_nil)) pa_nil)) (pe_callB call_len_seq rfl T.z_len (by decide +kernel) (pa_cons (pv 0) pa_nil))))
  (pss_cons (ps_for (passes_of rfl) rfl (pi_range1 rfl T.z_range (pa_cons (pe_callB call_len_seq rfl T.z_len (by decide +kernel) (pa_cons (pv 0) pa_nil)) pa_nil)) (pg_name (i := 6) sc_lot_at.nd rfl (.inr rfl)) (pss_cons (ps_set (i := 7) sc_lot_at.nd rfl (.inr rfl) (pe_call G_first_powers (hr.mono (by decide)) rfl T.g_first_powers T.F_first_powers.kp T.b_first_powers .nil pass0 (pa_cons (pe_call G_ratio_of (hr.mono (by decide)) rfl T.g_ratio_of T.F_ratio_of.kp T.b_ratio_of .nil pass0 (pa_cons (pe_ix (ix_list.or ix_tup) (pv 0) (pv 6) (fun _ _ => rfl)) pa_nil)) (pa_cons (pe_callB call_len_seq rfl T.z_len (by decide +kernel) (pa_cons (pv 0) pa_nil)) pa_nil))))
  (pss_one (ps_set (i := 5) sc_lot_at.nd rfl (.inr rfl) (pe_lc (own := [("k", 8)]) (g := gName 8) (tt := tYes) rfl sc_lot_at.nd (pi_range1 rfl T.z_range (pa_cons (pe_callB call_len_seq rfl T.z_len (by decide +kernel) (pa_cons (pv 0) pa_nil)) pa_nil)) (blkOk_by (N := N_lot_at) (sc := defScope s_lot_at) (by decide +kernel)) (fun _ _ _ _ _ => (pg_name (i := 8) sc_lot_at.nd rfl (.inl rfl))) (fun _ _ _ _ _ => pts_nil) (fun _ _ _ _ _ => (pe_op (op_add_own T.k_Ratio.ow T.m_Ratio___add__ T.m_Ratio___radd__ G_Ratio___add__ (hr.mono (by decide)) T.b_Ratio___add__ pass0) (pe_ix (ix_listK (K := K) rfl) (pv 5) (pv 8) (fun _ _ => rfl)) (pe_op ((op_mulW.or (op_mul_own T.k_Ratio.ow T.m_Ratio___mul__ T.m_Ratio___rmul__ G_Ratio___mul__ (hr.mono (by decide)) T.b_Ratio___mul__ pass0)).or (op_mul_int T.k_Ratio.ow T.m_Ratio___rmul__ T.m_Ratio___mul__ G_Ratio___rmul__ (hr.mono (by decide)) T.b_Ratio___rmul__ pass0)) (pe_ix (ix_listK (K := K) rfl) (pv 7) (pv 8) (fun _ _ => rfl)) (pe_ix ((ix_listK (K := K) rfl).or (ix_tupK (K := K) rfl)) (pv 1) (pv 6) (fun _ _ => rfl))))))))))
  (pss_one (ps_ret (pe_make T.M_Lot G_Lot_init (hr.mono (by decide)) rfl T.g_Lot b_Lot_init2 d_Lot_init2 pass0 (pa_cons (pv 3) (pa_cons (pe_make T.M_Sure G_Sure_init (hr.mono (by decide)) rfl T.g_Sure b_Sure_init1 d_Sure_init1 pass0 (pa_cons (pv 5) pa_nil)) pa_nil))))))))))), ?_⟩
    rcases h with ⟨hb, q⟩ | ⟨n, x, hg, h⟩
    · exact ⟨_, rfl, y, rfl, .inl ⟨hb, fun H1 k1 => ⟨false, rfl, iteT (mk_keep (v := .str "points") T.o_NoLot T.n_NoLot_part fun p np => q H1 p k1 np)⟩⟩⟩
    refine ⟨_, rfl, y, rfl, .inr ⟨n, x, hg, fun H1 k1 => ⟨true, rfl, iteF ?_⟩⟩⟩
    obtain ⟨a, xs, rfl, lx, l8, ha, nx⟩ := hg.nums
    have ha1 := ha.imp (k1 a _) (k1 a _)
    rcases h with ⟨hb, q⟩ | ⟨w, X, W, qi, s, ⟨b, ws, rfl, hb, lw, nw, hw⟩, hI, q⟩
    · rcases hb with hb | ⟨b, ws, rfl, hb, l60, ⟨g, fl, hg2⟩ | ⟨lw, w, nw, bw, k0, hk0, hw0⟩⟩
      · exact ⟨_, rfl, _, rfl, a, xs, rfl, ha1.imp .of .of, u, _, rfl, .inl ⟨hb.same k1, fun H2 k2 => ⟨false, rfl, iteT (mk_keep (v := .str "weights") T.o_NoLot T.n_NoLot_part fun p np => q H2 p (k1.trans k2) np)⟩⟩⟩
      · refine ⟨_, rfl, _, rfl, a, xs, rfl, ha1.imp .of .of, .ref b, _, rfl, .inr ⟨b, ws, g, rfl, hb.imp (k1 b _) (k1 b _), l60, fl.same k1, fun H2 k2 => ⟨_, rfl, ?_⟩⟩⟩
        rw [show (decide (((xs.length : Nat) : Int) = (ws.length : Int)) && (List.range ws.length).all g) = false from by
          rcases hg2 with h | h
          · rw [decide_eq_false (by omega), Bool.false_and]
          · rw [h, Bool.and_false]]
        exact iteT (mk_keep (v := .str "weights") T.o_NoLot T.n_NoLot_part fun p np => q H2 p (k1.trans k2) np)
      · refine ⟨_, rfl, _, rfl, a, xs, rfl, ha1.imp .of .of, .ref b, _, rfl, .inr ⟨b, ws, fun _ => true, rfl, hb.imp (k1 b _) (k1 b _), l60, (flags_nums nw).same k1, fun H2 k2 => ⟨_, rfl, ?_⟩⟩⟩
        rw [decide_eq_true (show ((xs.length : Nat) : Int) = (ws.length : Int) by omega), show (List.range ws.length).all (fun _ => true) = true by simp]
        refine iteF ?_
        have k2 := k1.trans k2
        have hb2 := hb.imp (k2 b _) (k2 b _)
        have nw2 := nw.same k2
        refine lc_seq hb2 (fun R r => ⟨_, rfl, r⟩) (fun R r => ⟨_, rfl, r⟩) (fun d i G => Same H2 G ∧ G d = some (.lst (((List.range i).map fun j => decide (w j ≤ ((0 : Int) : Rat))).map V.bl))) (fun d nd => ⟨same_upd nd, upd_same⟩) (fun d i E _ p => p.1) ?_ ?_
        · rintro d i z G nd hz ⟨sm, hG⟩
          have li := get_lt hz
          refine ⟨rfl, _, rfl, le0_any ((nw2 i z hz).same sm) (bw i (by omega)) ?_⟩
          exact ⟨_, hG, by rw [bl_len]; exact small1000 (by omega), same_push sm nd, by rw [upd_same, ← bl_grow]⟩
        · rintro d G nd ⟨sm, hG⟩
          refine ⟨d, _, rfl, .of hG, ?_⟩
          rw [any_id, show (List.range ws.length).any (fun j => decide (w j ≤ ((0 : Int) : Rat))) = true from List.any_eq_true.mpr ⟨k0, List.mem_range.mpr (by omega), decide_eq_true (by rw [Rat.intCast_zero]; exact hw0)⟩]
          exact ⟨true, rfl, iteT (mk_keep (v := .str "weights") T.o_NoLot T.n_NoLot_part fun p np => q G p (k2.trans sm) np)⟩
    refine ⟨_, rfl, _, rfl, a, xs, rfl, ha1.imp .of .of, .ref b, _, rfl, .inr ⟨b, ws, fun _ => true, rfl, hb.imp (k1 b _) (k1 b _), by omega, (flags_nums nw).same k1, fun H2 k2 => ⟨_, rfl, ?_⟩⟩⟩
    rw [decide_eq_true (show ((xs.length : Nat) : Int) = (ws.length : Int) by omega), show (List.range ws.length).all (fun _ => true) = true by simp]
    refine iteF ?_
    have k2 := k1.trans k2
    have hb2 := hb.imp (k2 b _) (k2 b _)
    have nw2 := nw.same k2
    refine lc_seq hb2 (fun R r => ⟨_, rfl, r⟩) (fun R r => ⟨_, rfl, r⟩) (fun d i G => Same H2 G ∧ G d = some (.lst (((List.range i).map fun _ => false).map V.bl))) (fun d nd => ⟨same_upd nd, upd_same⟩) (fun d i E _ p => p.1) ?_ ?_
    · rintro d i z G nd hz ⟨sm, hG⟩
      have li := get_lt hz
      refine ⟨rfl, _, rfl, le0_any ((nw2 i z hz).same sm) ((hI.bw (by omega)).mono (by decide) (by decide)) ?_⟩
      rw [decide_eq_false (by rw [Rat.intCast_zero]; exact Rat.not_le.mpr (hw i (by omega)))]
      exact ⟨_, hG, by rw [bl_len]; exact small1000 (by omega), same_push sm nd, by rw [upd_same, ← bl_grow]⟩
    rintro d G3 nd ⟨sm, hG⟩
    refine ⟨d, _, rfl, .of hG, ?_⟩
    rw [any_id, show (List.range ws.length).any (fun _ => false) = false by simp]
    refine ⟨false, rfl, iteF ?_⟩
    have k3 := k2.trans sm
    clear k1 k2 sm hG nd hb2 nw2 ha1
    -- the Poly
    refine ⟨by show 1 ≤ sizeLine; decide, fun l nl => ?_⟩
    have t1 := same_upd (o := .lst [V.int 1]) nl
    refine fun p dp np ndp nep => poly_make (f := rtq x 0) np ndp (.inl (show upd G3 l (.lst [V.int 1]) l = some (.lst [V.int 1]) from upd_same)) (fun k y e => by
      match k, e with
      | 0, e => cases e; exact .inl ⟨1, rfl, rfl⟩
      | k + 1, e => simp at e) (by show 1 ≤ 60; decide) (fun k _ => (bd_rt hI (Nat.zero_le n)).mono (by decide) (by decide)) (fun k hk => rtq_out 0 k hk) fun G4 s4 k4 hp4 _ => ?_
    have e4 := rt_size hp4
    subst e4
    have k4 := k3.trans (t1.trans k4)
    clear t1 k3
    have ha4 := ha.imp (k4 a _) (k4 a _)
    refine for_seq ha4 (fun R r => ⟨_, rfl, r⟩) (fun R r => ⟨_, rfl, r⟩) (fun i σ G => (Same H G ∧ Same G4 G) ∧ ∃ (pv : V) (y : Option V), σ = [some (.ref a), some (.ref b), none, some pv, y, none, none, none, none] ∧ PolyV A.Poly A.Ratio G pv (i + 1) (rtq x i)) ⟨⟨k4, Same.refl G4⟩, _, _, rfl, hp4⟩ (fun i σ G _ p => p.1.2) ?_ ?_
    · rintro i z σ G hz ⟨⟨sm, sm4⟩, pv, y, rfl, hp⟩
      have li := get_lt hz
      have r := (nx i z hz).same sm
      refine ⟨_, rfl, _, rfl, neg_any r ((hI.bx (by omega)).mono (by decide) (by decide)) fun G1 v1 k1 r1 => ?_⟩
      refine ⟨by show 2 ≤ sizeLine; decide, fun l nl => ?_⟩
      have t1 := same_upd (o := .lst [v1, V.int 1]) nl
      have cl := fun k => linR_cm (hI.cx (show i < n by omega)).neg hI.qa k
      refine fun p2 dp2 np2 ndp2 nep2 => poly_make (f := linR (-x i)) np2 ndp2 (.inl (show upd G1 l (.lst [v1, V.int 1]) l = some (.lst [v1, V.int 1]) from upd_same)) (linR_num (r1.same t1)) (by show 2 ≤ 60; decide) (fun k _ => ((cl k).bd (by have := hI.q0; omega) hI.qa).mono (by decide) (by decide)) (fun k hk => ?_) fun G2 s2 k2 hp2 hs2 => ?_
      · have : 2 ≤ k := hk
        show (if k = 0 then _ else if k = 1 then _ else _) = _
        rw [if_neg (by omega), if_neg (by omega)]
      have hs2 : s2 ≤ 2 := hs2
      have k12 := (k1.trans t1).trans k2
      have hp := hp.same k12
      refine ⟨hp.ins, .inr hp2.ins, pv, _, 39 * i + 1, 6 * i + 1, 38, 6, i + 1, s2, 400, _, _, qi ^ i, qi, rfl, hp, hp2, fun k => cm_rt hI i k (by omega), pw_pos hI i, pw_lt hI i, cl, hI.q0, hI.qa, by omega, by omega, by omega, by omega, by omega, fun G3 v3 s3 k3 hp3 _ => ?_⟩
      have hp3 := hp3.to fun k => rt_next
      have e3 := rt_size hp3
      subst e3
      exact ⟨⟨sm.trans (k12.trans k3), sm4.trans (k12.trans k3)⟩, v3, _, rfl, hp3⟩
    rintro σ G5 ⟨⟨k5, _⟩, pv, y, rfl, hp⟩
    rw [lx] at hp
    -- the sums
    refine fun xr dxr nxr ndr ner => rat_make (by decide) (.ab (by decide) (by decide)) nxr ndr ner fun G6 k56 r6 => ?_
    refine ⟨by show 1 ≤ sizeLine; decide, fun l2 nl2 => ?_⟩
    have t6 := same_upd (o := .lst [V.ref xr]) nl2
    have k6 := k5.trans (k56.trans t6)
    refine ⟨_, rfl, a, xs, rfl, (ha.imp (k6 a _) (k6 a _)).imp .of .of, l2, _, _, rfl, rfl, upd_same, by omega, by omega, by show 1 * _ ≤ sizeLine; rw [Nat.one_mul]; exact Nat.le_of_lt (small1000 (by omega)), fun bd nbd => ?_⟩
    rw [show ((xs.length : Nat) : Int).toNat = n by omega, rep_flat]
    have t7 := same_upd (o := .lst (List.replicate n (V.ref xr))) nbd
    have hbd : upd (upd G6 l2 (.lst [V.ref xr])) bd (.lst (List.replicate n (V.ref xr))) bd = some (.lst (List.replicate n (V.ref xr))) := upd_same
    have r7 := (r6.same t6).same t7
    have hp7 := hp.same (show Same G5 (upd (upd G6 l2 (.lst [V.ref xr])) bd (.lst (List.replicate n (V.ref xr)))) from k56.trans (t6.trans t7))
    have k7 := k6.trans t7
    generalize upd (upd G6 l2 (.lst [V.ref xr])) bd (.lst (List.replicate n (V.ref xr))) = G7 at hbd r7 hp7 k7
    have z0 : RatsV A.Ratio G7 (List.replicate n (V.ref xr)) (momq w x 0) := fun k y e => by
      rw [List.getElem?_replicate] at e
      split at e
      · cases e
        exact r7.to (by rw [Rat.intCast_zero, Rat.div_def, Rat.zero_mul]; rfl)
      · cases e
    clear t6 t7 r6 r7 k5 k6 hp nl2 nbd nxr ndr ner
    refine ⟨_, rfl, a, xs, rfl, (ha.imp (k7 a _) (k7 a _)).imp .of .of, _, rfl, by omega, by omega, ?_⟩
    rw [show ((xs.length : Nat) : Int).toNat = n by omega]
    refine for_range (lo := 0) (fun j σ G => Same H G ∧ ∃ (bd : Addr) (zs : List V) (y4 y6 y7 y8 : Option V), σ = [some (.ref a), some (.ref b), none, some pv, y4, some (.ref bd), y6, y7, y8] ∧ PolyV A.Poly A.Ratio G pv (n + 1) (rtq x n) ∧ G bd = some (.lst zs) ∧ zs.length = n ∧ RatsV A.Ratio G zs (momq w x j)) ⟨k7, bd, _, _, _, _, _, rfl, hp7, hbd, List.length_replicate .., z0⟩ ?_ ?_
    · rintro j σ G hj ⟨sm, bd, zs, y4, y6, y7, y8, rfl, hp, hbd, lz, rz⟩
      have hx := List.getElem?_eq_getElem (show j < xs.length by omega)
      have hwj := List.getElem?_eq_getElem (show j < ws.length by omega)
      have haS := ha.imp (sm a _) (sm a _)
      refine ⟨_, rfl, _, rfl, ix_any haS (at_get hx) ?_⟩
      refine ⟨_, _, rfl, (nx _ _ hx).same sm, fun H1 wv k1 rw1 => ?_⟩
      refine ⟨_, rfl, a, xs, rfl, (haS.imp (k1 a _) (k1 a _)).imp .of .of, .inr ⟨wv, x j, xs.length, rfl, rw1, by omega, fun k hk => (bd_pow hI hj (by omega)).mono (by decide) (by decide), (hI.bx hj).mono (by decide) (by decide), fun H2 d ps k2 _ hd lp np => ?_⟩⟩
      have k12 := k1.trans k2
      have s2 := sm.trans k12
      have hbS := hb.imp (s2 b _) (s2 b _)
      refine ⟨_, rfl, a, xs, rfl, (ha.imp (s2 a _) (s2 a _)).imp .of .of, _, rfl, by omega, by omega, fun d2 nd2 => ?_⟩
      rw [show ((xs.length : Nat) : Int).toNat = n by omega]
      refine lc_range (lo := 0) (fun i G => Gro A.Ratio H2 d2 (fun k => momq w x (j + 1) k) i G) (.start nd2) ?_ ?_
      · rintro i G3 hi p
        have hz := List.getElem?_eq_getElem (show i < zs.length by omega)
        have hpi := List.getElem?_eq_getElem (show i < ps.length by omega)
        have ra := ((rz _ _ hz).same k12).same p.1
        have rb := (np _ _ hpi).same p.1
        have rc := ((nw _ _ hwj).same s2).same p.1
        refine ⟨rfl, _, rfl, _, rfl, bd, zs, _, _, rfl, rfl, .of (p.1 _ _ (k12 _ _ hbd)), at_get hz, ?_⟩
        refine ⟨_, rfl, _, rfl, d, ps, _, _, rfl, rfl, .of (p.1 _ _ hd), at_get hpi, ?_⟩
        refine ⟨_, rfl, _, rfl, ix_any (hbS.imp (p.1 b _) (p.1 b _)) (at_get hwj) ?_⟩
        refine mul_two rb rc ((bd_pow hI hj (by omega)).mono (by decide) (by decide) : Bd 1990 1990 _) ((hI.bw hj).mono (by decide) (by decide)) fun G4 u4 k4 r4 => ?_
        exact ⟨(ra.same k4).ins, r4.kind, _, _, momq w x j i, x j ^ i * w j, rfl, ra.same k4, r4, (bd_mom hI (by omega) (by omega)).mono (by decide) (by decide), ((bd_pow hI hj (k := i) (by omega)).mul (hI.bw hj)).mono (by decide) (by decide), fun G5 u k5 hu => p.push nd2 (by omega) (k4.trans k5) (hu.to (by
          show momq w x j i + x j ^ i * w j = momq w x j i + w j * x j ^ i
          rw [Rat.mul_comm]))⟩
      · rintro G3 ⟨sm3, us, hu, hd3, hr⟩
        exact ⟨s2.trans sm3, d2, us, _, _, _, _, rfl, (hp.same k12).same sm3, hd3, hu, hr⟩
    · rintro σ G ⟨sm, bd, zs, y4, y6, y7, y8, rfl, hp, hbd, lz, rz⟩
      refine ⟨_, rfl, _, rfl, fun sx sd nx nd _ => sure_make nx nd fun H3 k3 hs => ?_⟩
      exact fun o od no nod _ => lot_make no nod (hp.same k3) hs (k3 _ _ hbd) lz (by omega) (rz.same k3) fun H4 k4 hL => q _ _ ((sm.trans k3).trans k4) hL
end

end Mo

namespace Mo
open PySem PySem.Spec PyProof.Rows L2 MoL MoW
open C8 (pss_cut tCut)
section
variable {P : Program} {w : World} {K : PySem.W.Frag} {mg : Str → Option Value} {base : Heap} {A : Ad} {D : Fd}
def sp_feed (K : PySem.W.Frag) : Sp := fun vs H Q _ => ∃ (a : Addr) (ns : List Int), vs = [.ref a] ∧ SqL K H a (ns.map V.int) ∧ ns.length ≤ 63 ∧ ∀ H' f, Same H H' → FeedAt H' f → H f = none → Q (.ref f) H'
theorem ok__law_feed (T : Txt K mg A D) : FnOk P w K mg base CX0 1 A.f__law_feed D.f__law_feed ["_law_script"] (sp_feed K) := by
  skip
  refine T.F__law_feed.ok sc__law_feed (fun vs H Q E h => ?_) (fun cdv A' outer s H vs Q E hr h => ?_)
  · obtain ⟨a, ns, rfl, _⟩ := h
    rfl
  · obtain ⟨a, ns, rfl, hS, hl, q⟩ := h
    refine ⟨_, (pss_one (ps_ret (pe_lst (pa_cons (pe_lc (own := [("_law_cell", 1)]) (g := gName 1) (tt := tYes) rfl sc__law_feed.nd (pi_list (pe_slice sl_list (pv 0) po_none (po_some pe_int))) (blkOk_by (N := N__law_feed) (sc := defScope s__law_feed) (by decide +kernel)) (fun _ _ _ _ _ => (pg_name (i := 1) sc__law_feed.nd rfl (.inl rfl))) (fun _ _ _ _ _ => pts_nil) (fun _ _ _ _ _ => (pe_callB call_abs rfl T.z_abs (by decide +kernel) (pa_cons (pe_callTy call_int1 rfl T.z_int (by decide +kernel) (pa_cons (pv 1) pa_nil)) pa_nil)))) (pa_cons pe_int (pa_cons pe_int (pa_cons pe_int (pa_cons pe_int (pa_cons pe_int pa_nil))))))))), ?_⟩
    refine ⟨_, rfl, 63, rfl, a, _, rfl, hS, fun p np => ?_⟩
    have s1 : Same H (upd H p (.lst (cutV (ns.map V.int) none (some 63)))) := same_upd np
    obtain ⟨zs, hz, hzl⟩ : ∃ zs : List Int, cutV (ns.map V.int) none (some 63) = zs.map V.int ∧ zs.length ≤ 63 := by
      refine ⟨(ns.drop (HT.sIx (ns.map V.int).length 0 none)).take (HT.sIx (ns.map V.int).length (ns.map V.int).length (some 63) - HT.sIx (ns.map V.int).length 0 none), ?_, ?_⟩
      · unfold cutV
        rw [List.map_take, List.map_drop]
      · rw [List.length_take, List.length_drop]
        omega
    rw [hz] at s1 ⊢
    refine ⟨p, rfl, ⟨_, .of upd_same⟩, fun d nd => ?_⟩
    have npd : p ≠ d := fun e => by rw [e, upd_same] at nd; cases nd
    refine lc_list (K := K) (a := p) (xs := zs.map V.int) (fun i H' => Same H H' ∧ H' p = some (.lst (zs.map V.int)) ∧ ∃ ys : List Int, ys.length = i ∧ H' d = some (.lst (ys.map V.int)))
      ⟨s1.trans (same_upd nd), by rw [upd_ne npd, upd_same], [], rfl, upd_same⟩ (fun i H' _ h => .of h.2.1) ?_ ?_
    · rintro i x H' hx ⟨sm, hp, ys, hy, hd⟩
      obtain ⟨z, hz', rfl⟩ : ∃ z, zs[i]? = some z ∧ x = .int z := by
        rw [List.getElem?_map] at hx
        cases e : zs[i]? with
        | none => rw [e] at hx; cases hx
        | some z => rw [e] at hx; exact ⟨z, rfl, (Option.some.inj hx).symm⟩
      have il : i < zs.length := (List.getElem?_eq_some_iff.mp hz').1
      refine ⟨rfl, ?_⟩
      refine ⟨_, rfl, .inl ⟨z, rfl, z, rfl, _, hd, ?_, ⟨fun b o e => ?_, ?_, ys ++ [if z < 0 then -z else z], ?_, ?_⟩⟩⟩
      · rw [List.length_map, hy]
        exact small1000 (by omega)
      · have nb : b ≠ d := fun e' => by
          subst e'
          rw [s1.free nd] at e
          cases e
        rw [upd_ne nb]
        exact sm _ _ e
      · rw [upd_ne npd]
        exact hp
      · rw [List.length_append, hy]
        rfl
      · rw [upd_same, List.map_append]
        rfl
    · rintro H' ⟨sm, hp, ys, hy, hd⟩
      rw [List.length_map] at hy
      refine ⟨by show 6 ≤ sizeLine; decide, fun f nf => ?_⟩
      have nfd : d ≠ f := ne_of_none hd nf
      refine q _ f (sm.trans (same_upd nf)) ⟨d, ys, 0, 0, 0, 0, 0, upd_same, by rw [upd_ne nfd]; exact hd, Nat.zero_le _, by omega, Int.le_refl _⟩ (sm.free nf)

theorem lt_mod : (0 : Int) < 2147483647 := by decide
theorem lt_mod' : (0 : Int) < 2147483399 := by decide
def sp_take : Sp := fun vs H Q _ => ∃ (f : Addr) (z : Int), vs = [.ref f, .int z] ∧ FeedAt H f ∧ 0 < z ∧ Sm z ∧ ∀ H' v, 0 ≤ v → v < z → Stp f H H' → Q (.int v) H'
theorem ok__law_take (T : Txt K mg A D) : FnOk P w K mg base CX0 1 A.f__law_take D.f__law_take ["_law_feed_here", "_law_size"] (sp_take) := by
  skip
  refine T.F__law_take.ok sc__law_take (fun vs H Q E h => ?_) (fun cdv A' outer s H vs Q E hr h => ?_)
  · obtain ⟨f, z, rfl, _⟩ := h
    rfl
  · obtain ⟨f, z, rfl, ⟨l, xs, i, r, t, n, c, hf, hl, hi, hx, hr0⟩, hz, sz, q⟩ := h
    refine ⟨_, (pss_cons (ps_augS (pv 0) pe_int get_list pe_int ip_add set_list)
  (pss_cut (ps_if (PW.pt (pw_and (pt_cmpR op_eq (pe_ix ix_list (pv 0) pe_int (fun _ _ => rfl)) pe_int (nomark _)) (pw_and (pt_cmpR op_eq (pe_ix ix_list (pv 0) pe_int (fun _ _ => rfl)) pe_int (nomark _)) (pw_and1 (pt_cmpR op_lt (pe_ix ix_list (pv 0) pe_int (fun _ _ => rfl)) (pe_callB call_len_seq rfl T.z_len (by decide +kernel) (pa_cons (pe_ix ix_list (pv 0) pe_int (fun _ _ => rfl)) pa_nil)) (nomark _)))))) (pss_cons (ps_set (i := 2) sc__law_take.nd rfl (.inl rfl) (pe_ix ix_list (pe_ix ix_list (pv 0) pe_int (fun _ _ => rfl)) (pe_ix ix_list (pv 0) pe_int (fun _ _ => rfl)) (fun _ _ => rfl)))
  (pss_cons (ps_augS (pv 0) pe_int get_list pe_int ip_add set_list)
  (pss_one (ps_if (pt_cmpR op_ge (pv 2) (pe_op op_pow pe_int pe_int) (nomark _)) (pss_one (ps_asg (pv 2) (pg_sub (pv 0) pe_int set_list))) (pss_cons (ps_asg pe_int (pg_sub (pv 0) pe_int set_list))
  (pss_one (ps_asg (pe_op op_add (pe_ix ix_list (pv 0) pe_int (fun _ _ => rfl)) (pv 2)) (pg_sub (pv 0) pe_int set_list)))))))) pss_nil)
  (pss_cons (ps_if (pt_cmpR op_gt (pe_ix ix_list (pv 0) pe_int (fun _ _ => rfl)) pe_int (nomark _)) (pss_cons (ps_set (i := 3) sc__law_take.nd rfl (.inl rfl) (pe_op op_mod (pe_callTy call_int1 rfl T.z_int (by decide +kernel) (pa_cons (pe_ix ix_list (pv 0) pe_int (fun _ _ => rfl)) pa_nil)) (pv 1)))
  (pss_cons (ps_asg (pe_op op_fdivA (pe_ix ix_list (pv 0) pe_int (fun _ _ => rfl)) (pv 1)) (pg_sub (pv 0) pe_int set_list))
  (pss_one (ps_ret (pv 3))))) pss_nil)
  (pss_cons (ps_asg (pe_callB (call_max2 rfl) rfl T.z_max (by decide +kernel) (pa_cons pe_int (pa_cons (pe_op op_sub (pe_ix ix_list (pv 0) pe_int (fun _ _ => rfl)) pe_int) pa_nil))) (pg_sub (pv 0) pe_int set_list))
  (pss_cons (ps_set (i := 4) sc__law_take.nd rfl (.inl rfl) (pe_op op_mod (pe_callTy call_int1 rfl T.z_int (by decide +kernel) (pa_cons (pe_op op_mul (pe_op op_add (pe_op op_add (pe_ix ix_list (pv 0) pe_int (fun _ _ => rfl)) (pe_op op_mul pe_int (pe_ix ix_list (pv 0) pe_int (fun _ _ => rfl)))) pe_int) pe_int) pa_nil)) pe_int))
  (pss_cons (ps_set (i := 4) sc__law_take.nd rfl (.inl rfl) (pe_op op_mod (pe_callTy call_int1 rfl T.z_int (by decide +kernel) (pa_cons (pe_op op_mul (pv 4) (pe_op op_add (pe_op op_fdivA (pv 4) pe_int) pe_int)) pa_nil)) pe_int))
  (pss_cons (ps_set (i := 4) sc__law_take.nd rfl (.inl rfl) (pe_op op_mod (pe_callTy call_int1 rfl T.z_int (by decide +kernel) (pa_cons (pe_op op_mul (pv 4) (pe_op op_add (pe_op op_fdivA (pv 4) pe_int) pe_int)) pa_nil)) pe_int))
  (pss_one (ps_ret (pe_op op_mod (pv 4) (pv 1))))))))))), ?_⟩
    have N0 : Now H H f l i r t n c := ⟨hf, fun _ _ => rfl⟩
    have lf : l ≠ f := ne_of hl hf fun e => by
      have := HO.lst.inj e
      cases xs with
      | nil => cases this
      | cons x xs => cases this
    have fin : ∀ {H' i' r' t' n' c'} (v : Int), Now H H' f l ((i' : Nat) : Int) r' t' n' c' → i' ≤ xs.length → 0 ≤ r' → 0 ≤ v → v < z → Q (.int v) H' := fun v N h1 h2 h3 h4 =>
      q _ v h3 h4 ⟨⟨l, xs, _, _, _, _, _, N.at_, by rw [N.oth l lf]; exact hl, h1, hx, h2⟩, fun b o hb e => by rw [N.oth b hb]; exact e, fun l' i0 r0 t0 n0 s0 e => by rw [hf] at e; cases e; exact ⟨_, _, _, _, _, N.at_⟩⟩
    -- feed[4] += 1
    refine ⟨_, rfl, f, _, 4, _, rfl, rfl, .of hf, rfl, n, 1, rfl, rfl, f, _, 4, 4, rfl, rfl, hf, rfl, ?_⟩
    have N1 : Now H (upd H f (six l i r t (n + 1) c)) f l i r t (n + 1) c := N0.put
    show tCut _ _ _ _ (upd H f (six l i r t (n + 1) c))
    generalize upd H f (six l i r t (n + 1) c) = H1 at N1
    -- the reading of a new cell
    refine ⟨fun σ H' => (∃ y, σ = [some (.ref f), some (.int z), y, none, none]) ∧ ∃ i' r' t' n' c', Now H H' f l ((i' : Nat) : Int) r' t' n' c' ∧ i' ≤ xs.length ∧ 0 ≤ r', ?_, ?_⟩
    · have skip : ∀ σ : L2.St, σ = [some (.ref f), some (.int z), none, none, none] → (∃ y, σ = [some (.ref f), some (.int z), y, none, none]) ∧ ∃ i' r' t' n' c', Now H H1 f l ((i' : Nat) : Int) r' t' n' c' ∧ i' ≤ xs.length ∧ 0 ≤ r' :=
        fun σ e => ⟨⟨_, e⟩, _, _, _, _, _, N1, hi, hr0⟩
      refine ⟨_, rfl, f, _, 2, _, rfl, rfl, .of N1.at_, rfl, rfl, _, rfl, ?_⟩
      refine ite2 (fun _ => ?_) (fun _ => iteF (skip _ rfl))
      refine ⟨_, rfl, f, _, 3, _, rfl, rfl, .of N1.at_, rfl, rfl, _, rfl, ?_⟩
      refine ite2 (fun _ => ?_) (fun _ => iteF (skip _ rfl))
      have hl1 : H1 l = some (.lst (xs.map V.int)) := by rw [N1.oth l lf]; exact hl
      refine ⟨_, rfl, f, _, 1, _, rfl, rfl, .of N1.at_, rfl, _, rfl, f, _, 0, _, rfl, rfl, .of N1.at_, rfl, l, _, rfl, .inl (.of hl1), _, _, rfl, rfl, _, rfl, ?_⟩
      refine ite2 (fun hlt => ?_) (fun _ => skip _ rfl)
      have hlt' : i < xs.length := by
        have := of_decide_eq_true hlt
        rw [List.length_map] at this
        omega
      have gi : (xs.map V.int)[i]? = some (.int xs[i]) := by
        rw [List.getElem?_map, List.getElem?_eq_getElem hlt']
        rfl
      refine ⟨_, rfl, f, _, 0, _, rfl, rfl, .of N1.at_, rfl, _, rfl, f, _, 1, _, rfl, rfl, .of N1.at_, rfl, l, _, i, _, rfl, rfl, .of hl1, atI_nat gi, ?_⟩
      refine ⟨_, rfl, f, _, 1, _, rfl, rfl, .of N1.at_, rfl, i, 1, rfl, rfl, f, _, 1, 1, rfl, rfl, N1.at_, rfl, ?_⟩
      have ei : ((i : Int) + 1) = ((i + 1 : Nat) : Int) := by omega
      have N2 : Now H (upd H1 f (six l ((i : Int) + 1) r t (n + 1) c)) f l ((i : Int) + 1) r t (n + 1) c := N1.put
      refine ⟨_, rfl, _, _, rfl, rfl, ⟨by decide, by decide, by decide⟩, _, _, rfl, rfl, _, rfl, ?_⟩
      refine ite2 (fun hbig => ?_) (fun hbig => ?_)
      · have hb : 0 ≤ xs[i] := by
          have := of_decide_eq_true hbig
          have e : (10 : Int) ^ (18 : Int).toNat = 1000000000000000000 := by decide
          rw [e] at this
          omega
        refine ⟨_, rfl, _, rfl, f, _, 2, 2, rfl, rfl, N2.at_, rfl, ⟨_, rfl⟩, ?_⟩
        exact ⟨i + 1, _, _, _, _, ei ▸ N2.put, hlt', hb⟩
      · refine ⟨_, rfl, f, _, 3, 3, rfl, rfl, N2.at_, rfl, ?_⟩
        have N3 : Now H (upd (upd H1 f (six l ((i : Int) + 1) r t (n + 1) c)) f (six l ((i : Int) + 1) r 7 (n + 1) c)) f l ((i : Int) + 1) r 7 (n + 1) c := N2.put
        refine ⟨_, rfl, f, _, 5, _, rfl, rfl, .of N3.at_, rfl, _, rfl, _, _, rfl, rfl, _, rfl, f, _, 5, 5, rfl, rfl, N3.at_, rfl, ⟨_, rfl⟩, ?_⟩
        exact ⟨i + 1, _, _, _, _, ei ▸ N3.put, hlt', hr0⟩
    -- a digit
    · rintro σ H2 ⟨⟨y, rfl⟩, i', r', t', n', c', N2, hi', hr'⟩
      refine ⟨_, rfl, f, _, 2, _, rfl, rfl, .of N2.at_, rfl, _, _, rfl, rfl, _, rfl, ?_⟩
      refine ite2 (fun _ => ?_) (fun _ => ?_)
      · refine ⟨_, rfl, f, _, 2, _, rfl, rfl, .of N2.at_, rfl, .inl ⟨_, rfl, _, rfl, _, _, rfl, rfl, hz, ?_⟩⟩
        refine ⟨_, rfl, f, _, 2, _, rfl, rfl, .of N2.at_, rfl, _, rfl, _, _, rfl, rfl, sz.div (by omega), _, rfl, f, _, 2, 2, rfl, rfl, N2.at_, rfl, ?_⟩
        exact ⟨_, rfl, fin _ N2.put hi' (fdiv_nn hr' hz) (Int.emod_nonneg _ (by omega)) (Int.emod_lt_of_pos _ hz)⟩
      · refine ⟨_, rfl, f, _, 3, _, rfl, rfl, .of N2.at_, rfl, _, _, rfl, rfl, _, _, rfl, _, rfl, f, _, 3, 3, rfl, rfl, N2.at_, rfl, ?_⟩
        have N3 : ∀ t'', Now H (upd H2 f (six l ((i' : Nat) : Int) r' t'' n' c')) f l ((i' : Nat) : Int) r' t'' n' c' := fun _ => N2.put
        show tSeq _ _ _ _ (upd H2 f (six l ((i' : Nat) : Int) r' _ n' c'))
        generalize hT : (if t' - 1 > 0 then t' - 1 else (0 : Int)) = t3
        have N3 := N3 t3
        generalize upd H2 f (six l ((i' : Nat) : Int) r' t3 n' c') = H3 at N3
        refine ⟨_, rfl, f, _, 5, _, rfl, rfl, .of N3.at_, rfl, _, rfl, f, _, 4, _, rfl, rfl, .of N3.at_, rfl, _, _, rfl, rfl, .inl ⟨by decide, by decide⟩, _, _, rfl, rfl, _, _, rfl, rfl, _, _, rfl, rfl, .inr ⟨by decide, by decide⟩, .inl ⟨_, rfl, _, _, rfl, rfl, lt_mod, ?_⟩⟩
        have b1 : ∀ x : Int, 0 ≤ x % 2147483647 ∧ x % 2147483647 < 2147483647 := fun x => ⟨Int.emod_nonneg _ (by decide), Int.emod_lt_of_pos _ (by decide)⟩
        generalize hA : ((c' + 7919 * n' + 1) * 48271) % 2147483647 = a1
        have a1b := b1 ((c' + 7919 * n' + 1) * 48271)
        rw [hA] at a1b
        refine ⟨_, rfl, _, rfl, _, _, rfl, rfl, ⟨by decide, by decide⟩, _, _, rfl, rfl, _, _, rfl, rfl, .inl ⟨by omega, by omega⟩, .inl ⟨_, rfl, _, _, rfl, rfl, lt_mod, ?_⟩⟩
        generalize hB : (a1 * (a1.fdiv 1009 + 69621)) % 2147483647 = a2
        have a2b := b1 (a1 * (a1.fdiv 1009 + 69621))
        rw [hB] at a2b
        refine ⟨_, rfl, _, rfl, _, _, rfl, rfl, ⟨by decide, by decide⟩, _, _, rfl, rfl, _, _, rfl, rfl, .inl ⟨by omega, by omega⟩, .inl ⟨_, rfl, _, _, rfl, rfl, lt_mod', ?_⟩⟩
        exact ⟨_, rfl, _, rfl, _, _, rfl, rfl, hz, fin _ N3 hi' hr' (Int.emod_nonneg _ (by omega)) (Int.emod_lt_of_pos _ hz)⟩
def sp_number : Sp := fun vs H Q _ => ∃ (f : Addr) (z : Int), vs = [.ref f, .int z] ∧ FeedAt H f ∧ 0 < z ∧ Sm z ∧ ∀ H' v, -z < v → v < z → Stp f H H' → Q (.int v) H'
theorem ok__law_number (T : Txt K mg A D) : FnOk P w K mg base CX0 2 A.f__law_number D.f__law_number ["_law_feed_here", "_law_size"] (sp_number) := by
  have G__law_take : FnOk P w K mg base CX0 1 A.f__law_take D.f__law_take ["_law_feed_here", "_law_size"] (sp_take) := ok__law_take T
  refine T.F__law_number.ok sc__law_number (fun vs H Q E h => ?_) (fun cdv A' outer s H vs Q E hr h => ?_)
  · obtain ⟨f, z, rfl, _⟩ := h
    rfl
  · obtain ⟨f, z, rfl, hf, hz, sz, q⟩ := h
    refine ⟨_, (pss_cons (ps_set (i := 2) sc__law_number.nd rfl (.inl rfl) (pe_op op_sub pe_int (pe_op op_mul pe_int (pe_call G__law_take (hr.mono (by decide)) rfl T.g__law_take T.F__law_take.kp T.b__law_take .nil pass0 (pa_cons (pv 0) (pa_cons pe_int pa_nil))))))
  (pss_one (ps_ret (pe_op op_mul (pv 2) (pe_call G__law_take (hr.mono (by decide)) rfl T.g__law_take T.F__law_take.kp T.b__law_take .nil pass0 (pa_cons (pv 0) (pa_cons (pv 1) pa_nil))))))), ?_⟩
    refine ⟨_, rfl, f, 2, rfl, hf, by decide, .ab (by decide) (by decide), fun H1 v v0 v1 st => ⟨_, _, rfl, rfl, .inl ⟨by decide, by decide⟩, _, _, rfl, rfl, ?_⟩⟩
    refine ⟨_, rfl, _, rfl, _, rfl, f, z, rfl, st.feed, hz, sz, fun H2 u u0 u1 st2 => ⟨_, _, rfl, rfl, .inl ⟨by omega, by omega⟩, q _ _ ?_ ?_ (st.trans st2)⟩⟩
    · rcases (by omega : v = 0 ∨ v = 1) with e | e <;> subst e <;> omega
    · rcases (by omega : v = 0 ∨ v = 1) with e | e <;> subst e <;> omega
theorem ok__law_is_integer (T : Txt K mg A D) : FnOk P w K mg base CX0 1 A.f__law_is_integer D.f__law_is_integer ["_law_value"] (sp_is_whole K) := by
  skip
  refine T.F__law_is_integer.ok sc__law_is_integer (fun vs H Q E h => ?_) (fun cdv A' outer s H vs Q E hr h => ?_)
  · obtain ⟨x, b, rfl, _⟩ := h
    rfl
  · obtain ⟨x, b, rfl, ⟨t, b1, b2, ty, e1, e2, rfl⟩, q⟩ := h
    refine ⟨_, (pss_one (ps_ret (pe_and (pe_callB call_isi rfl T.z_isinstance (by decide +kernel) (pa_cons (pv 0) (pa_cons (pe_bltn (v := .ty "int") rfl T.z_int (by decide +kernel) rfl) pa_nil))) (pe_one (pe_not (pe_callB call_isi rfl T.z_isinstance (by decide +kernel) (pa_cons (pv 0) (pa_cons (pe_bltn (v := .ty "bool") rfl T.z_bool (by decide +kernel) rfl) pa_nil)))))))), ?_⟩
    refine ⟨x, rfl, x, .ty "int", t, _, b1, rfl, .ty _, ty, e1, b1, rfl, ?_⟩
    cases b1 with
    | false => exact iteF q
    | true => exact iteT ⟨x, rfl, x, .ty "bool", t, _, b2, rfl, .ty _, ty, e2 rfl, b2, rfl, q⟩
def sp_is (C : Addr) : Sp := fun vs H Q _ => ∃ v z p q', vs = [v, .int p, .int q'] ∧ RatV C H v z ∧ q' ≠ 0 ∧ qv (p, q') = z ∧ Bd 3900 3900 z ∧ Sm p ∧ Sm q' ∧ Q (.bl true) H
theorem cross_of {x y : Int} {z : Rat} (hy : y ≠ 0) (h : qv (x, y) = z) : z.num * y = x * (z.den : Int) := inj (by
  have h1 : z * (y : Rat) = x := by rw [← h]; exact qv_mul (p := (x, y)) hy
  rw [Rat.intCast_mul, Rat.intCast_mul, ← h1, num_is]
  grind)
theorem ok__law_is (T : Txt K mg A D) : FnOk P w K mg base CX0 2 A.f__law_is D.f__law_is ["_law_value", "_law_top", "_law_bottom"] (sp_is A.Ratio) := by
  have G__law_is_integer : FnOk P w K mg base CX0 1 A.f__law_is_integer D.f__law_is_integer ["_law_value"] (sp_is_whole K) := ok__law_is_integer T
  refine T.F__law_is.ok sc__law_is (fun vs H Q E h => ?_) (fun cdv A' outer s H vs Q E hr h => ?_)
  · obtain ⟨v, z, p, q', rfl, _⟩ := h
    rfl
  · obtain ⟨v, z, p, q', rfl, ⟨a, dx, rfl, ha⟩, hq, hz, bz, sp, sq, q⟩ := h
    refine ⟨_, (pss_cons (ps_if (PW.pt (pw_or (pt_not (pt_val (pe_callB call_isi rfl T.z_isinstance (by decide +kernel) (pa_cons (pv 0) (pa_cons (pe_glob (v := .ref A.Ratio) rfl T.g_Ratio rfl) pa_nil))))) (pw_or (pt_not (pt_val (pe_call G__law_is_integer (hr.mono (by decide)) rfl T.g__law_is_integer T.F__law_is_integer.kp T.b__law_is_integer .nil pass0 (pa_cons (pe_fld (pv 0) rfl) pa_nil)))) (pw_or1 (pt_not (pt_val (pe_call G__law_is_integer (hr.mono (by decide)) rfl T.g__law_is_integer T.F__law_is_integer.kp T.b__law_is_integer .nil pass0 (pa_cons (pe_fld (pv 0) rfl) pa_nil)))))))) (pss_one (ps_ret pe_bl)) pss_nil)
  (pss_one (ps_ret (pe_and (pe_cmpR op_ge (pe_fld (pv 0) rfl) pe_int (nomark _)) (pe_one (pe_cmpR op_eq (pe_op op_mulW (pe_fld (pv 0) rfl) (pv 2)) (pe_op op_mulW (pv 1) (pe_fld (pv 0) rfl)) (nomark _))))))), ?_⟩
    have cl := T.k_Ratio.cl
    have nt := T.k_Ratio.n_top
    have nb := T.k_Ratio.n_bottom
    refine ⟨_, rfl, .ref a, .ref A.Ratio, _, _, true, rfl, .own _, T.k_Ratio.ty ha, kit_self, true, rfl, iteF ?_⟩
    refine ⟨_, rfl, a, A.Ratio, dx, _, _, rfl, ha, cl, nt, rfl, _, _, rfl, whole_int _, true, rfl, iteF ?_⟩
    refine ⟨_, rfl, a, A.Ratio, dx, _, _, rfl, ha, cl, nb, rfl, _, _, rfl, whole_int _, true, rfl, iteF ?_⟩
    refine ⟨_, rfl, a, A.Ratio, dx, _, _, rfl, ha, cl, nb, rfl, _, _, rfl, rfl, true, ?_, iteT ?_⟩
    · show V.bl (decide (1 ≤ (z.den : Int))) = .bl true
      rw [decide_eq_true (by have := den_pos z; omega)]
    refine ⟨_, rfl, a, A.Ratio, dx, _, _, rfl, ha, cl, nt, rfl, _, rfl, _, _, rfl, rfl, (bz.s1 (by decide)).mul sq, ?_⟩
    refine ⟨_, rfl, _, rfl, a, A.Ratio, dx, _, _, rfl, ha, cl, nb, rfl, _, _, rfl, rfl, sp.mul (bz.s2 (by decide)), rfl, ?_⟩
    have e : decide (V.int (z.num * q') = V.int (p * (z.den : Int))) = true := decide_eq_true (by rw [cross_of hq hz])
    exact e ▸ q
/-- pairs with bottoms above 0, tops below 2 ^ a, bottoms below 2 ^ b -/
structure FOk (F : Nat → Int × Int) (n a b : Nat) : Prop where
  pos : ∀ k, k < n → 0 < (F k).2
  top : ∀ k, k < n → (F k).1.natAbs < 2 ^ a
  bot : ∀ k, k < n → (F k).2.natAbs < 2 ^ b
/-- their values, 0 behind them -/
def cof (F : Nat → Int × Int) (n : Nat) : Nat → Rat := fun k => if k < n then qv (F k) else 0
theorem cof_in {F : Nat → Int × Int} {n k : Nat} (h : k < n) : cof F n k = qv (F k) := if_pos h
theorem cof_out {F : Nat → Int × Int} {n k : Nat} (h : n ≤ k) : cof F n k = 0 := if_neg (by omega)
theorem FOk.mono {F : Nat → Int × Int} {n a b a' b' : Nat} (h : FOk F n a b) (h1 : a ≤ a') (h2 : b ≤ b') : FOk F n a' b' := ⟨h.pos, fun k hk => lt_le (h.top k hk) h1, fun k hk => lt_le (h.bot k hk) h2⟩
theorem FOk.bd {F : Nat → Int × Int} {n a b : Nat} (h : FOk F n a b) (hb : 0 < b) (k : Nat) : Bd a b (cof F n k) := by
  show Bd a b (if k < n then qv (F k) else 0)
  split
  · rename_i hk
    exact .div (by have := h.pos k hk; omega) (h.top k hk) (h.bot k hk)
  · exact .zero hb
theorem FOk.sm {F : Nat → Int × Int} {n a b k : Nat} (h : FOk F n a b) (hk : k < n) (ha : a ≤ 4000) (hb : b ≤ 4000) : Sm (F k).1 ∧ Sm (F k).2 := ⟨sm_of (h.top k hk) ha, sm_of (h.bot k hk) hb⟩
end
section
variable {P : Program} {w : World} {K : PySem.W.Frag} {mg : Str → Option Value} {base : Heap} {A : Ad} {D : Fd}
/-! ### lots -/
structure Lot where
  ps : List Int
  ws : List Int
  q : Int
  s : Int
def LotAt (H : Hp) (v : V) (L : Lot) : Prop := ∃ a pa wa, v = .ref a ∧ H a = some (.lst [.ref pa, .ref wa, .int L.q, .int L.s]) ∧ H pa = some (.lst (L.ps.map V.int)) ∧ H wa = some (.lst (L.ws.map V.int)) ∧ L.ps.length = L.ws.length
/-- what the law draws -/
structure LotOk (e g : Nat) (L : Lot) : Prop where
  ps : ∀ p ∈ L.ps, p.natAbs < 2 ^ e
  ws : ∀ w ∈ L.ws, w.natAbs < 2 ^ g
  q0 : 0 < L.q
  q1 : L.q ≤ 60
  s0 : 0 < L.s
  s1 : L.s ≤ 81
  len : L.ps.length ≤ 16
theorem LotAt.same {H H' : Hp} {v : V} {L : Lot} (h : LotAt H v L) (s : Same H H') : LotAt H' v L := by
  obtain ⟨a, pa, wa, e, h1, h2, h3, h4⟩ := h
  exact ⟨a, pa, wa, e, s _ _ h1, s _ _ h2, s _ _ h3, h4⟩
theorem ints_ne {H : Hp} {f d : Addr} {xs : List Int} (F : FeedAt H f) (h : H d = some (.lst (xs.map V.int))) : d ≠ f := F.ne h fun l i r t n s z => by
  cases xs with
  | nil => cases z
  | cons x xs => cases z
/-- increasing points, weights above 0 -/
structure LotS (L : Lot) : Prop where
  inc : L.ps.Pairwise (· < ·)
  pos : ∀ w ∈ L.ws, 0 < w ∧ w ≤ 100000000
def sp_lot27 : Sp := fun vs H Q _ => ∃ f : Addr, vs = [.ref f, .int 8] ∧ FeedAt H f ∧ ∀ H' v L, Stp f H H' → LotAt H' v L → LotOk 30 27 L → L.ps.length ≤ 8 → LotS L → L.q ≤ 5 → L.s ≤ 9 → Q v H'
theorem ok__law_lot (T : Txt K mg A D) : FnOk P w K mg base CX0 3 A.f__law_lot D.f__law_lot ["_law_feed_here", "_law_most"] (sp_lot27) := by
  have G__law_number : FnOk P w K mg base CX0 2 A.f__law_number D.f__law_number ["_law_feed_here", "_law_size"] (sp_number) := ok__law_number T
  have G__law_take : FnOk P w K mg base CX0 1 A.f__law_take D.f__law_take ["_law_feed_here", "_law_size"] (sp_take) := ok__law_take T
  refine T.F__law_lot.ok sc__law_lot (fun vs H Q E h => ?_) (fun cdv A' outer s H vs Q E hr h => ?_)
  · obtain ⟨f, rfl, _⟩ := h
    rfl
  · obtain ⟨f, rfl, F0, q⟩ := h
    refine ⟨_, (pss_cons (ps_set (i := 2) sc__law_lot.nd rfl (.inl rfl) (pe_ix ix_list (pe_lst (pa_cons pe_int (pa_cons pe_int (pa_cons (pe_op op_pow pe_int pe_int) pa_nil)))) (pe_call G__law_take (hr.mono (by decide)) rfl T.g__law_take T.F__law_take.kp T.b__law_take .nil pass0 (pa_cons (pv 0) (pa_cons pe_int pa_nil))) (fun _ _ => rfl)))
  (pss_cons (ps_set (i := 3) sc__law_lot.nd rfl (.inl rfl) (pe_call G__law_number (hr.mono (by decide)) rfl T.g__law_number T.F__law_number.kp T.b__law_number .nil pass0 (pa_cons (pv 0) (pa_cons (pv 2) pa_nil))))
  (pss_cons (ps_set (i := 4) sc__law_lot.nd rfl (.inl rfl) (pe_lst pa_nil))
  (pss_cons (ps_set (i := 5) sc__law_lot.nd rfl (.inl rfl) (pe_lst pa_nil))
  (pss_cons (ps_for PassesOwn.never rfl (pi_range1 rfl T.z_range (pa_cons (pe_call G__law_take (hr.mono (by decide)) rfl T.g__law_take T.F__law_take.kp T.b__law_take .nil pass0 (pa_cons (pv 0) (pa_cons (pe_op op_add (pv 1) pe_int) pa_nil))) pa_nil)) (pg_name (i := 6) sc__law_lot.nd rfl (.inl rfl)) (pss_cons (ps_expr (pe_bm PySem.F.plainAttrs_list PySem.F.slot_list_append PySem.F.type_list_append mt_append (pv 4) (pa_cons (pv 3) pa_nil)))
  (pss_cons (ps_expr (pe_bm PySem.F.plainAttrs_list PySem.F.slot_list_append PySem.F.type_list_append mt_append (pv 5) (pa_cons (pe_op op_add pe_int (pe_call G__law_take (hr.mono (by decide)) rfl T.g__law_take T.F__law_take.kp T.b__law_take .nil pass0 (pa_cons (pv 0) (pa_cons (pv 2) pa_nil)))) pa_nil)))
  (pss_one (ps_set (i := 3) sc__law_lot.nd rfl (.inl rfl) (pe_op op_add (pe_op op_add (pv 3) pe_int) (pe_call G__law_take (hr.mono (by decide)) rfl T.g__law_take T.F__law_take.kp T.b__law_take .nil pass0 (pa_cons (pv 0) (pa_cons (pv 2) pa_nil)))))))))
  (pss_one (ps_ret (pe_lst (pa_cons (pv 4) (pa_cons (pv 5) (pa_cons (pe_op op_add pe_int (pe_call G__law_take (hr.mono (by decide)) rfl T.g__law_take T.F__law_take.kp T.b__law_take .nil pass0 (pa_cons (pv 0) (pa_cons pe_int pa_nil)))) (pa_cons (pe_op op_add pe_int (pe_call G__law_take (hr.mono (by decide)) rfl T.g__law_take T.F__law_take.kp T.b__law_take .nil pass0 (pa_cons (pv 0) (pa_cons pe_int pa_nil)))) pa_nil)))))))))))), ?_⟩
    refine ⟨_, _, rfl, rfl, ⟨by decide, by decide, by decide⟩, by show 3 ≤ sizeLine; decide, fun p np => ?_⟩
    have s1 := same_upd (o := .lst [V.int 2, .int 40, .int (10 ^ (8 : Int).toNat)]) np
    refine ⟨_, rfl, f, 3, rfl, F0.same s1, by decide, .ab (by decide) (by decide), fun H1 k k0 k1 st1 => ?_⟩
    have pf : p ≠ f := (F0.lt np).symm
    have hp1 := st1.keep _ _ pf upd_same
    obtain ⟨z, hz, z0, z1⟩ : ∃ z : Int, atI [V.int 2, .int 40, .int (10 ^ (8 : Int).toNat)] k = some (.int z) ∧ 0 < z ∧ z ≤ 100000000 := by
      rcases (by omega : k = 0 ∨ k = 1 ∨ k = 2) with e | e | e <;> subst e
      · exact ⟨_, rfl, by decide, by decide⟩
      · exact ⟨_, rfl, by decide, by decide⟩
      · exact ⟨_, rfl, by decide, by decide⟩
    refine ⟨p, _, k, _, rfl, rfl, .of hp1, hz, ?_⟩
    have st1 : Stp f H H1 := (Stp.refl F0).of s1 |>.trans st1
    have sz : Sm z := .ab (by omega) (by omega)
    refine ⟨_, rfl, _, rfl, f, z, rfl, st1.feed, z0, sz, fun H2 top t0 t1 st2 => ?_⟩
    have st2 := st1.trans st2
    refine ⟨by show 0 ≤ sizeLine; decide, fun pa na => ⟨by show 0 ≤ sizeLine; decide, fun wa nw => ?_⟩⟩
    have af : pa ≠ f := (st2.feed.lt na).symm
    have sa := same_upd (o := .lst []) na
    have wf : wa ≠ f := ((st2.feed.same sa).lt nw).symm
    have aw : pa ≠ wa := fun z => by rw [← z, upd_same] at nw; cases nw
    have nw2 : H2 wa = none := by rw [upd_ne (Ne.symm aw)] at nw; exact nw
    have a0 := stp_none st2 af na
    have w0 := stp_none st2 wf nw2
    have st3 := (st2.push (o := .lst []) F0 a0 af).push (o := .lst []) F0 w0 wf
    have ha3 : upd (upd H2 pa (.lst [])) wa (.lst []) pa = some (.lst []) := by rw [upd_ne aw, upd_same]
    have hw3 : upd (upd H2 pa (.lst [])) wa (.lst []) wa = some (.lst []) := upd_same
    refine ⟨_, rfl, _, rfl, _, _, rfl, rfl, f, 8 + 1, rfl, st3.feed, by decide, .ab (by decide) (by decide), fun H4 m m0 m1 st4 => ⟨_, rfl, by omega, by omega, ?_⟩⟩
    have ha4 := st4.keep _ _ af ha3
    have hw4 := st4.keep _ _ wf hw3
    have st4 := st3.trans st4
    refine for_range (lo := 0) (fun i σ G => Stp f H G ∧ ∃ (ps ws : List Int) (top : Int) (y : Option V), σ = [some (.ref f), some (.int 8), some (.int z), some (.int top), some (.ref pa), some (.ref wa), y] ∧ G pa = some (.lst (ps.map V.int)) ∧ G wa = some (.lst (ws.map V.int)) ∧ ps.length = i ∧ ws.length = i ∧
        top.natAbs ≤ 100000000 * (i + 1) ∧ (∀ p ∈ ps, p.natAbs < 2 ^ 30) ∧ (∀ w ∈ ws, w.natAbs < 2 ^ 27) ∧ (∀ p ∈ ps, p < top) ∧ ps.Pairwise (· < ·) ∧ ∀ w ∈ ws, 0 < w ∧ w ≤ 100000000) ⟨st4, [], [], top, _, rfl, ha4, hw4, rfl, rfl, by omega, (fun p h => by cases h), (fun p h => by cases h), (fun p h => by cases h), List.Pairwise.nil, (fun p h => by cases h)⟩ ?_ ?_
    · rintro i σ G hi ⟨st, ps, ws, top, y, rfl, hpa, hwa, l1, l2, bt, bp, bw, lt, inc, pos⟩
      have i5 : i < 8 := by omega
      refine ⟨_, rfl, .inl ⟨rfl, _, .of hpa⟩, _, rfl, pa, _, _, rfl, rfl, hpa, by rw [List.length_map]; exact small1000 (by omega), ?_⟩
      have st5 := st.push (o := .lst (ps.map V.int ++ [.int top])) F0 a0 af
      have hpa5 : upd G pa (.lst (ps.map V.int ++ [.int top])) pa = some (.lst ((ps ++ [top]).map V.int)) := by rw [upd_same, List.map_append]; rfl
      have hwa5 : upd G pa (.lst (ps.map V.int ++ [.int top])) wa = some (.lst (ws.map V.int)) := by rw [upd_ne (Ne.symm aw)]; exact hwa
      refine ⟨_, rfl, .inl ⟨rfl, _, .of hwa5⟩, _, rfl, _, rfl, f, z, rfl, st5.feed, z0, sz, fun G6 u u0 u1 st6 => ?_⟩
      have hpa6 := st6.keep _ _ af hpa5
      have hwa6 := st6.keep _ _ wf hwa5
      have st6 := st5.trans st6
      refine ⟨_, _, rfl, rfl, wa, _, _, rfl, rfl, hwa6, by rw [List.length_map]; exact small1000 (by omega), ?_⟩
      have st7 := st6.push (o := .lst (ws.map V.int ++ [.int (1 + u)])) F0 w0 wf
      have hwa7 : upd G6 wa (.lst (ws.map V.int ++ [.int (1 + u)])) wa = some (.lst ((ws ++ [1 + u]).map V.int)) := by rw [upd_same, List.map_append]; rfl
      have hpa7 : upd G6 wa (.lst (ws.map V.int ++ [.int (1 + u)])) pa = some (.lst ((ps ++ [top]).map V.int)) := by rw [upd_ne aw]; exact hpa6
      refine ⟨_, rfl, _, _, rfl, rfl, _, rfl, _, rfl, f, z, rfl, st7.feed, z0, sz, fun G8 e e0 e1 st8 => ⟨_, _, rfl, rfl, ?_⟩⟩
      refine ⟨st7.trans st8, ps ++ [top], ws ++ [1 + u], _, _, rfl, st8.keep _ _ af hpa7, st8.keep _ _ wf hwa7, by rw [List.length_append, l1]; rfl, by rw [List.length_append, l2]; rfl, by omega, fun p hp => ?_, fun p hp => ?_, fun p hp => ?_, List.pairwise_append.mpr ⟨inc, List.pairwise_singleton .., fun a ha b hb => by rw [List.mem_singleton.mp hb]; exact lt a ha⟩, fun p hp => ?_⟩
      · rcases List.mem_append.mp hp with h | h
        · exact bp p h
        · cases List.mem_singleton.mp h
          omega
      · rcases List.mem_append.mp hp with h | h
        · exact bw p h
        · cases List.mem_singleton.mp h
          omega
      · rcases List.mem_append.mp hp with h | h
        · have := lt p h
          omega
        · cases List.mem_singleton.mp h
          omega
      · rcases List.mem_append.mp hp with h | h
        · exact pos p h
        · cases List.mem_singleton.mp h
          omega
    · rintro σ G ⟨st, ps, ws, top, y, rfl, hpa, hwa, l1, l2, bt, bp, bw, lt, inc, pos⟩
      refine ⟨_, rfl, _, rfl, _, rfl, f, 5, rfl, st.feed, by decide, .ab (by decide) (by decide), fun G6 u u0 u1 st6 => ⟨_, _, rfl, rfl, ?_⟩⟩
      have hpa6 := st6.keep _ _ af hpa
      have hwa6 := st6.keep _ _ wf hwa
      refine ⟨_, rfl, f, 9, rfl, st6.feed, by decide, .ab (by decide) (by decide), fun G7 u2 u20 u21 st7 => ⟨_, _, rfl, rfl, by show 4 ≤ sizeLine; decide, fun pl npl => ?_⟩⟩
      have hpa7 := st7.keep _ _ af hpa6
      have hwa7 := st7.keep _ _ wf hwa6
      have s8 := same_upd (o := .lst [.ref pa, .ref wa, .int (1 + u), .int (1 + u2)]) npl
      exact q _ _ ⟨ps, ws, 1 + u, 1 + u2⟩ (((st.trans st6).trans st7).of s8) ⟨pl, pa, wa, rfl, upd_same, s8 _ _ hpa7, s8 _ _ hwa7, by show ps.length = ws.length; omega⟩ ⟨bp, bw, by show 0 < 1 + u; omega, by show 1 + u ≤ 60; omega, by show 0 < 1 + u2; omega, by show 1 + u2 ≤ 81; omega, by show ps.length ≤ 16; omega⟩ (by show ps.length ≤ 8; omega) ⟨inc, pos⟩ (by show 1 + u ≤ 5; omega) (by show 1 + u2 ≤ 9; omega)
/-! ### the rows of lots -/
def powL (L : Lot) (k : Nat) : List Int := List.zipWith (fun w p => w * p ^ k) L.ws L.ps
def rowF (L : Lot) (k : Nat) : Int × Int := ((powL L k).sum, L.s * L.q ^ k)
theorem powL_len {L : Lot} (hl : L.ps.length = L.ws.length) (k : Nat) : (powL L k).length = L.ps.length := by
  show (List.zipWith _ _ _).length = _
  rw [List.length_zipWith]
  omega
theorem powL_get {L : Lot} (hl : L.ps.length = L.ws.length) {k j : Nat} (hj : j < L.ps.length) : (powL L k)[j]? = some (L.ws.getD j 0 * L.ps.getD j 0 ^ k) := by
  show (List.zipWith _ _ _)[j]? = _
  rw [List.getElem?_zipWith, List.getD_eq_getElem?_getD, List.getD_eq_getElem?_getD, List.getElem?_eq_getElem hj, List.getElem?_eq_getElem (show j < L.ws.length by omega)]
  rfl
theorem powL_zero {L : Lot} (hl : L.ps.length = L.ws.length) : powL L 0 = L.ws := by
  refine List.ext_getElem? fun j => ?_
  by_cases hj : j < L.ps.length
  · rw [powL_get hl hj, Int.pow_zero, Int.mul_one, List.getD_eq_getElem?_getD, List.getElem?_eq_getElem (show j < L.ws.length by omega)]
    rfl
  · rw [List.getElem?_eq_none (by rw [powL_len hl]; omega), List.getElem?_eq_none (by omega)]
theorem getD_mem {xs : List Int} {j : Nat} (hj : j < xs.length) : xs.getD j 0 ∈ xs := by
  rw [List.getD_eq_getElem?_getD, List.getElem?_eq_getElem hj]
  exact List.getElem_mem hj
theorem npow {i : Int} {e : Nat} (h : i.natAbs < 2 ^ e) (k : Nat) : (i ^ k).natAbs < 2 ^ (e * k + 1) := by
  rw [Int.natAbs_pow]
  have : i.natAbs ^ k ≤ (2 ^ e) ^ k := Nat.pow_le_pow_left (Nat.le_of_lt h) k
  rw [← Nat.pow_mul] at this
  exact Nat.lt_of_le_of_lt this (Nat.pow_lt_pow_right (by decide) (by omega))
theorem powL_lt {L : Lot} {e g : Nat} (ok : LotOk e g L) (hl : L.ps.length = L.ws.length) {k j : Nat} (hj : j < L.ps.length) : (L.ws.getD j 0 * L.ps.getD j 0 ^ k).natAbs < 2 ^ (g + (e * k + 1)) :=
  nmul (ok.ws _ (getD_mem (show j < L.ws.length by omega))) (npow (ok.ps _ (getD_mem hj)) k)
theorem take_map_push {xs : List Int} {j : Nat} {x : Int} (h : xs[j]? = some x) : (xs.take j).map V.int ++ [V.int x] = (xs.take (j + 1)).map V.int := by
  have hj := (List.getElem?_eq_some_iff.mp h).1
  rw [List.take_add_one, h, List.map_append]
  rfl
theorem bot61 {L : Lot} (hq0 : 0 < L.q) (hq : L.q ≤ 5) (hs0 : 0 < L.s) (hs : L.s ≤ 9) {k : Nat} (hk : k ≤ 61) : (L.s * L.q ^ k).natAbs < 2 ^ 190 := by
  have h1 : L.s.natAbs < 2 ^ 4 := by omega
  have h2 : L.q.natAbs < 2 ^ 3 := by omega
  exact nle (nmul h1 (npow h2 k)) (by omega)
theorem bot_lt {L : Lot} {e g : Nat} (ok : LotOk e g L) {k : Nat} (hk : k ≤ 13) : (L.s * L.q ^ k).natAbs < 2 ^ 90 := by
  have h1 : L.s.natAbs < 2 ^ 7 := by have := ok.s0; have := ok.s1; omega
  have h2 : L.q.natAbs < 2 ^ 6 := by have := ok.q0; have := ok.q1; omega
  exact nle (nmul h1 (npow h2 k)) (by omega)
def sp_nums0 : Sp := fun vs H Q _ => ∃ v L e g d, ∃ m : Nat, vs = [v, .int d] ∧ d + 1 = (m : Int) ∧ LotAt H v L ∧ LotOk e g L ∧ m ≤ 61 ∧ L.q ≤ 5 ∧ L.s ≤ 9 ∧ e ≤ 30 ∧ g ≤ 27 ∧ ∀ H' u, Same H H' → PairsAt H' u m (rowF L) → Q u H'
theorem ok__law_numbers (T : Txt K mg A D) : FnOk P w K mg base CX0 2 A.f__law_numbers D.f__law_numbers ["_law_lot_here", "_law_d"] (sp_nums0) := by
  skip
  refine T.F__law_numbers.ok sc__law_numbers (fun vs H Q E h => ?_) (fun cdv A' outer s H vs Q E hr h => ?_)
  · obtain ⟨v, L, e, g, d, m, rfl, _⟩ := h
    rfl
  · obtain ⟨v, L, e, g, d, m, rfl, hdm, ⟨a, pa, wa, rfl, ha, hpa, hwa, hl⟩, ok, hd, hq5, hs9, he, hg, q⟩ := h
    refine ⟨_, (pss_cons (ps_set (i := 2) sc__law_numbers.nd rfl (.inl rfl) (pe_lst pa_nil))
  (pss_cons (ps_set (i := 3) sc__law_numbers.nd rfl (.inr rfl) (pe_callTy call_list_of rfl T.z_list (by decide +kernel) (pa_cons (pe_ix ix_list (pv 0) pe_int (fun _ _ => rfl)) pa_nil)))
  (pss_cons (ps_set (i := 4) sc__law_numbers.nd rfl (.inl rfl) (pe_ix ix_list (pv 0) pe_int (fun _ _ => rfl)))
  (pss_cons (ps_for PassesOwn.never rfl (pi_range1 rfl T.z_range (pa_cons (pe_op op_add (pv 1) pe_int) pa_nil)) (pg_name (i := 5) sc__law_numbers.nd rfl (.inl rfl)) (pss_cons (ps_expr (pe_bm PySem.F.plainAttrs_list PySem.F.slot_list_append PySem.F.type_list_append mt_append (pv 2) (pa_cons (pe_lst (pa_cons (pe_callB (cr_sum rfl) rfl T.z_sum (by decide +kernel) (pa_cons (pe_lc (own := [("_law_power", 6)]) (g := gName 6) (tt := tYes) rfl sc__law_numbers.nd (pi_list (pv 3)) (blkOk_by (N := N__law_numbers) (sc := defScope s__law_numbers) (by decide +kernel)) (fun _ _ _ _ _ => (pg_name (i := 6) sc__law_numbers.nd rfl (.inl rfl))) (fun _ _ _ _ _ => pts_nil) (fun _ _ _ _ _ => (pe_callTy call_int1 rfl T.z_int (by decide +kernel) (pa_cons (pv 6) pa_nil)))) pa_nil)) (pa_cons (pv 4) pa_nil))) pa_nil)))
  (pss_cons (ps_set (i := 3) sc__law_numbers.nd rfl (.inr rfl) (pe_lc (own := [("_law_j", 7)]) (g := gName 7) (tt := tYes) rfl sc__law_numbers.nd (pi_range1 rfl T.z_range (pa_cons (pe_callB call_len_seq rfl T.z_len (by decide +kernel) (pa_cons (pv 3) pa_nil)) pa_nil)) (blkOk_by (N := N__law_numbers) (sc := defScope s__law_numbers) (by decide +kernel)) (fun _ _ _ _ _ => (pg_name (i := 7) sc__law_numbers.nd rfl (.inl rfl))) (fun _ _ _ _ _ => pts_nil) (fun _ _ _ _ _ => (pe_op op_mulW (pe_ix (ix_listK (K := K) rfl) (pv 3) (pv 7) (fun _ _ => rfl)) (pe_ix (ix_listK (K := K) rfl) (pe_ix (ix_listK (K := K) rfl) (pv 0) pe_int (fun _ _ => rfl)) (pv 7) (fun _ _ => rfl))))))
  (pss_one (ps_set (i := 4) sc__law_numbers.nd rfl (.inl rfl) (pe_op op_mulW (pv 4) (pe_ix ix_list (pv 0) pe_int (fun _ _ => rfl))))))))
  (pss_one (ps_ret (pv 2))))))), ?_⟩
    refine ⟨by show 0 ≤ sizeLine; decide, fun r nr => ?_⟩
    have s1 := same_upd (o := .lst []) nr
    refine ⟨_, rfl, a, _, 1, _, rfl, rfl, .of (s1 _ _ ha), rfl, wa, _, rfl, .inl (.of (s1 _ _ hwa)), fun pp npp => ?_⟩
    have s2 := same_upd (o := .lst (L.ws.map V.int)) npp
    have s12 := s1.trans s2
    refine ⟨_, rfl, a, _, 3, _, rfl, rfl, .of (s12 _ _ ha), rfl, ?_⟩
    refine ⟨_, rfl, _, _, rfl, rfl, _, rfl, by omega, by omega, ?_⟩
    have hn : (d + 1).toNat = m := by omega
    rw [hn]
    have hr2 : upd (upd H r (.lst [])) pp (.lst (L.ws.map V.int)) r = some (.lst []) := s2 _ _ upd_same
    refine for_range (lo := 0) (fun i σ G => Same H G ∧ ∃ (pp : Addr) (rs : List Addr) (y : Option V), σ = [some (.ref a), some (.int d), some (.ref r), some (.ref pp), some (.int (L.s * L.q ^ i)), y, none, none] ∧ G pp = some (.lst ((powL L i).map V.int)) ∧ G r = some (.lst (rs.map V.ref)) ∧ rs.length = i ∧ Prsd G rs (rowF L) ∧ pp ≠ r)
      ⟨s12, pp, [], _, by rw [Int.pow_zero, Int.mul_one]; rfl, by rw [powL_zero hl]; exact upd_same, hr2, rfl, Prsd.nil, fun z => by rw [z, upd_same] at npp; cases npp⟩ ?_ ?_
    · rintro i σ G hi ⟨sm, pp, rs, y, rfl, hpp, hr', lr, hp, ne⟩
      have ll := powL_len hl i
      refine ⟨_, rfl, .inl ⟨rfl, _, .of hr'⟩, _, rfl, pp, rfl, ⟨_, .of hpp⟩, fun d1 nd1 => ?_⟩
      refine lc_list (K := K) (a := pp) (xs := (powL L i).map V.int) (fun j G2 => Same G G2 ∧ G2 d1 = some (.lst (((powL L i).take j).map V.int))) ⟨same_upd nd1, upd_same⟩ (fun j G2 _ p => .of (p.1 _ _ hpp)) ?_ ?_
      · rintro j x G2 hx ⟨sm2, hd1⟩
        have hj : j < L.ps.length := by
          have := (List.getElem?_eq_some_iff.mp hx).1
          rw [List.length_map] at this
          omega
        have hg := powL_get hl (k := i) hj
        rw [List.getElem?_map, hg] at hx
        cases hx
        refine ⟨rfl, _, rfl, .inl ⟨_, rfl, _, hd1, ?_, same_push sm2 nd1, ?_⟩⟩
        · rw [List.length_map, List.length_take]
          have := ok.len
          exact small1000 (by omega)
        · rw [upd_same, take_map_push hg]
      · rintro G2 ⟨sm2, hd1⟩
        rw [List.length_map, List.take_length] at hd1
        refine ⟨d1, powL L i, rfl, .of hd1, _, rfl, by show 2 ≤ sizeLine; decide, fun pr npr => ?_⟩
        have s3 := same_upd (o := two (powL L i).sum (L.s * L.q ^ i)) npr
        have hr3 := s3 _ _ (sm2 _ _ hr')
        refine ⟨r, _, _, rfl, rfl, hr3, by rw [List.length_map]; exact small1000 (by omega), ?_⟩
        have sm3 : Same H (upd (upd G2 pr (two (powL L i).sum (L.s * L.q ^ i))) r (.lst (rs.map V.ref ++ [.ref pr]))) := same_push ((sm.trans sm2).trans s3) nr
        have hp3 : Prsd (upd (upd G2 pr (two (powL L i).sum (L.s * L.q ^ i))) r (.lst (rs.map V.ref ++ [.ref pr]))) (rs ++ [pr]) (rowF L) := ((hp.same sm2).same s3).push (by rw [lr]; exact upd_same) hr3
        have hpp3 : upd (upd G2 pr (two (powL L i).sum (L.s * L.q ^ i))) r (.lst (rs.map V.ref ++ [.ref pr])) pp = some (.lst ((powL L i).map V.int)) := by
          rw [upd_ne ne]
          exact s3 _ _ (sm2 _ _ hpp)
        have hr4 : upd (upd G2 pr (two (powL L i).sum (L.s * L.q ^ i))) r (.lst (rs.map V.ref ++ [.ref pr])) r = some (.lst ((rs ++ [pr]).map V.ref)) := by rw [upd_same, List.map_append]; rfl
        generalize upd (upd G2 pr (two (powL L i).sum (L.s * L.q ^ i))) r (.lst (rs.map V.ref ++ [.ref pr])) = G4 at sm3 hp3 hpp3 hr4
        refine ⟨_, rfl, pp, _, rfl, .inl (.of hpp3), _, rfl, ?_, ?_, fun d2 nd2 => ?_⟩
        · rw [List.length_map]
          have := ok.len
          omega
        · rw [List.length_map]
          have := ok.len
          omega
        have hn2 : (((powL L i).map V.int).length : Int).toNat = L.ps.length := by
          rw [List.length_map]
          omega
        rw [hn2]
        refine lc_range (lo := 0) (fun j G2 => Same G4 G2 ∧ G2 d2 = some (.lst (((powL L (i + 1)).take j).map V.int))) ⟨same_upd nd2, upd_same⟩ ?_ ?_
        · rintro j G5 hj ⟨sm5, hd2⟩
          have hg := powL_get hl (k := i) hj
          have hg1 := powL_get hl (k := i + 1) hj
          have hgv : ((powL L i).map V.int)[j]? = some (.int (L.ws.getD j 0 * L.ps.getD j 0 ^ i)) := by
            rw [List.getElem?_map, hg]
            rfl
          have b1 := powL_lt ok hl (k := i) hj
          have b2 := ok.ps _ (getD_mem hj)
          have ei : e * i ≤ 30 * 61 := Nat.mul_le_mul he (by omega)
          refine ⟨rfl, _, rfl, _, rfl, pp, _, _, _, rfl, rfl, .of (sm5 _ _ hpp3), at_get hgv, _, rfl, a, _, 0, _, rfl, rfl, .of (sm5 _ _ (sm3 _ _ ha)), rfl, _, rfl, pa, _, _, _, rfl, rfl, .of (sm5 _ _ (sm3 _ _ hpa)), at_get (int_at hj), _, _, rfl, rfl, (sm_of b1 (by omega)).mul (sm_of b2 (by omega)), _, hd2, ?_, same_push sm5 nd2, ?_⟩
          · rw [List.length_map, List.length_take]
            have := ok.len
            exact small1000 (by omega)
          · have e1 : L.ws.getD j 0 * L.ps.getD j 0 ^ i * L.ps.getD j 0 = L.ws.getD j 0 * L.ps.getD j 0 ^ (i + 1) := by
              rw [Int.pow_succ, Int.mul_assoc]
            rw [upd_same, ← take_map_push hg1, ← e1]
        · rintro G5 ⟨sm5, hd2⟩
          have l2 := powL_len hl (i + 1)
          rw [List.take_of_length_le (by omega)] at hd2
          have bb := bot61 ok.q0 hq5 ok.s0 hs9 (k := i) (by omega)
          refine ⟨_, rfl, _, rfl, a, _, 2, _, rfl, rfl, .of (sm5 _ _ (sm3 _ _ ha)), rfl, _, _, rfl, rfl, (sm_of bb (by decide)).mul (sm_of (n := 6) (by have := ok.q0; have := ok.q1; omega) (by decide)), ?_⟩
          refine ⟨sm3.trans sm5, d2, rs ++ [pr], _, by rw [Int.pow_succ, ← Int.mul_assoc]; rfl, hd2, sm5 _ _ hr4, by rw [List.length_append, lr]; rfl, hp3.same sm5, fun z => ?_⟩
          rw [z, hr4] at nd2
          cases nd2
    · rintro σ G ⟨sm, pp, rs, y, rfl, hpp, hr', lr, hp, ne⟩
      exact ⟨_, rfl, q G _ sm ⟨r, rs, rfl, hr', lr, hp⟩⟩
end
section
variable {P : Program} {w : World} {K : PySem.W.Frag} {mg : Str → Option Value} {base : Heap} {A : Ad} {D : Fd}
theorem lot_stp {G G' : Hp} {v : V} {L : Lot} {f : Addr} (h : LotAt G v L) (F : FeedAt G f) (s : Stp f G G') : LotAt G' v L := by
  obtain ⟨a, pa, wa, e, h1, h2, h3, h4⟩ := h
  exact ⟨a, pa, wa, e, s.keep _ _ (F.ne h1 fun _ _ _ _ _ _ w => by cases w) h1, s.keep _ _ (ints_ne F h2) h2, s.keep _ _ (ints_ne F h3) h3, h4⟩
/-- the row of a lot -/
theorem row_val {L : Lot} (hl : L.ps.length = L.ws.length) (hs : L.s ≠ 0) (hq : L.q ≠ 0) (k : Nat) : qv (rowF L k) = lotF (fun j => ((L.ws.getD j 0 : Int) : Rat) / (L.s : Rat)) (fun j => ((L.ps.getD j 0 : Int) : Rat) / (L.q : Rat)) L.ps.length k := powl_lot (ts := L.ps) (ps := L.ws) hl hs hq k
theorem sum_lt' {xs : List Int} {e : Nat} (h : ∀ x ∈ xs, x.natAbs < 2 ^ e) (hl : xs.length ≤ 16) : xs.sum.natAbs < 2 ^ (e + 5) := by
  have h1 := sum_lt h
  have h2 : xs.length * 2 ^ e ≤ 16 * 2 ^ e := Nat.mul_le_mul_right _ hl
  have := Nat.two_pow_pos e
  rw [Nat.pow_add]
  omega
theorem powL_in {L : Lot} {e g : Nat} (ok : LotOk e g L) (hl : L.ps.length = L.ws.length) {k : Nat} : ∀ x ∈ powL L k, x.natAbs < 2 ^ (g + (e * k + 1)) := fun x hx => by
  obtain ⟨j, hj, e1⟩ := List.getElem_of_mem hx
  have hj' : j < L.ps.length := by rw [← powL_len hl k]; exact hj
  have h2 := powL_get hl (k := k) hj'
  rw [List.getElem?_eq_getElem hj] at h2
  have h3 := Option.some.inj h2
  rw [← e1, h3]
  exact powL_lt ok hl hj'
theorem row_ok {L : Lot} {e g d : Nat} (ok : LotOk e g L) (hl : L.ps.length = L.ws.length) (hd : d ≤ 12) : FOk (rowF L) (d + 1) (g + e * 12 + 6) 90 where
  pos k hk := Int.mul_pos ok.s0 (Int.pow_pos ok.q0)
  top k hk := by
    have h := sum_lt' (powL_in ok hl (k := k)) (by rw [powL_len hl]; exact ok.len)
    have : e * k ≤ e * 12 := Nat.mul_le_mul_left _ (by omega)
    exact nle h (by omega)
  bot k hk := bot_lt ok (by omega)
/-- a row of a lot against the pairs of a lot -/
theorem row_due {M : Lot} {e g d : Nat} {h : Nat → Rat} (ok : LotOk e g M) (hl : M.ps.length = M.ws.length) (hd : d ≤ 12) (he : g + e * 12 + 6 ≤ 3900) (hv : ∀ k, k < d + 1 → qv (rowF M k) = h k) : ∀ k, k < d + 1 → (rowF M k).2 ≠ 0 ∧ qv (rowF M k) = h k ∧ Bd 3900 3900 (h k) ∧ Sm (rowF M k).1 ∧ Sm (rowF M k).2 := fun k hk => by
  have okF := row_ok ok hl hd
  have p := okF.pos k hk
  have b : Bd 3900 3900 (qv (rowF M k)) := .div (by omega) (nle (okF.top k hk) he) (nle (okF.bot k hk) (by decide))
  exact ⟨by omega, hv k hk, hv k hk ▸ b, sm_of (okF.top k hk) (by omega), sm_of (okF.bot k hk) (by decide)⟩
theorem getD_rng {n : Nat} {h : Nat → Int} {j : Nat} (hj : j < n) : ((List.range n).map h).getD j 0 = h j := by
  rw [List.getD_eq_getElem?_getD, List.getElem?_map, List.getElem?_range hj]
  rfl
theorem mem_rng {n : Nat} {h : Nat → Int} {x : Int} (hx : x ∈ (List.range n).map h) : ∃ j, j < n ∧ x = h j := by
  obtain ⟨j, hj, e⟩ := List.mem_map.mp hx
  exact ⟨j, List.mem_range.mp hj, e.symm⟩
theorem lot_ring2 (x q b t : Rat) (hq : q ≠ 0) (ht : t ≠ 0) : x * b / (q * t) = x / q * (b / t) := by
  rw [Rat.div_def, Rat.div_def, Rat.div_def]
  grind
end
section
variable {P : Program} {w : World} {K : PySem.W.Frag} {mg : Str → Option Value} {base : Heap} {A : Ad} {D : Fd}
def sp_rowis (C : Addr) : Sp := fun vs H Q _ => ∃ d v xs g n F, vs = [.ref d, v] ∧ H d = some (.lst xs) ∧ RatsV C H xs g ∧ xs.length = n ∧ n ≤ 61 ∧ PairsAt H v n F ∧ (∀ k, k < n → (F k).2 ≠ 0 ∧ qv (F k) = g k ∧ Bd 3900 3900 (g k) ∧ Sm (F k).1 ∧ Sm (F k).2) ∧ Q (.bl true) H
theorem ok__law_row_is (T : Txt K mg A D) : FnOk P w K mg base CX0 3 A.f__law_row_is D.f__law_row_is ["_law_values", "_law_pairs"] (sp_rowis A.Ratio) := by
  have G__law_is : FnOk P w K mg base CX0 2 A.f__law_is D.f__law_is ["_law_value", "_law_top", "_law_bottom"] (sp_is A.Ratio) := ok__law_is T
  refine T.F__law_row_is.ok sc__law_row_is (fun vs H Q E h => ?_) (fun cdv A' outer s H vs Q E hr h => ?_)
  · obtain ⟨d, v, xs, g, n, F, rfl, _⟩ := h
    rfl
  · obtain ⟨d, v, xs, g, n, F, rfl, hd, rt, hl, hn, ⟨a, rs, rfl, ha, lr, hp⟩, hc, q⟩ := h
    refine ⟨_, (pss_cons (ps_if (PW.pt (pw_or (pt_not (pt_val (pe_callB call_isi rfl T.z_isinstance (by decide +kernel) (pa_cons (pv 0) (pa_cons (pe_bltn (v := .ty "list") rfl T.z_list (by decide +kernel) rfl) pa_nil))))) (pw_or1 (pt_cmpR op_ne (pe_callB call_len_seq rfl T.z_len (by decide +kernel) (pa_cons (pv 0) pa_nil)) (pe_callB call_len_seq rfl T.z_len (by decide +kernel) (pa_cons (pv 1) pa_nil)) (nomark _))))) (pss_one (ps_ret pe_bl)) pss_nil)
  (pss_cons (ps_for PassesOwn.never rfl (pi_range1 rfl T.z_range (pa_cons (pe_callB call_len_seq rfl T.z_len (by decide +kernel) (pa_cons (pv 1) pa_nil)) pa_nil)) (pg_name (i := 2) sc__law_row_is.nd rfl (.inl rfl)) (pss_one (ps_if (pt_not (pt_val (pe_call G__law_is (hr.mono (by decide)) rfl T.g__law_is T.F__law_is.kp T.b__law_is .nil pass0 (pa_cons (pe_ix ix_list (pv 0) (pv 2) (fun _ _ => rfl)) (pa_cons (pe_ix ix_list (pe_ix ix_list (pv 1) (pv 2) (fun _ _ => rfl)) pe_int (fun _ _ => rfl)) (pa_cons (pe_ix ix_list (pe_ix ix_list (pv 1) (pv 2) (fun _ _ => rfl)) pe_int (fun _ _ => rfl)) pa_nil)))))) (pss_one (ps_ret pe_bl)) pss_nil)))
  (pss_one (ps_ret pe_bl)))), ?_⟩
    have e1 : ((xs.length : Int)) = ((rs.map V.ref).length : Int) := by rw [List.length_map]; omega
    refine ⟨_, rfl, .ref d, .ty "list", _, _, true, rfl, .ty _, .base (.lst hd), kit_ty (by decide +kernel), true, rfl, iteF ?_⟩
    refine ⟨_, rfl, d, xs, rfl, .inl (.of hd), _, rfl, a, _, rfl, .inl (.of ha), rfl, _, rfl, iteFe (by rw [e1, decide_eq_true rfl]; rfl) ?_⟩
    refine ⟨_, rfl, a, _, rfl, .inl (.of ha), _, rfl, by rw [List.length_map]; omega, by rw [List.length_map]; omega, ?_⟩
    refine for_range (lo := 0) (fun i σ G => G = H ∧ ∃ y : Option V, σ = [some (.ref d), some (.ref a), y]) ⟨rfl, _, rfl⟩ ?_ ?_
    · rintro k σ G hk ⟨rfl, y, rfl⟩
      rw [List.length_map] at hk
      obtain ⟨r, er, er2⟩ := pr_get (show k < rs.length by omega)
      have hx := List.getElem?_eq_getElem (show k < xs.length by omega)
      obtain ⟨c1, c2, c3, c4, c5⟩ := hc k (by omega)
      have hrr := hp k r er
      refine ⟨_, rfl, _, rfl, d, xs, _, _, rfl, rfl, .of hd, at_get hx, _, rfl, _, rfl, a, _, _, _, rfl, rfl, .of ha, at_get er2, r, _, 0, _, rfl, rfl, .of hrr, rfl, ?_⟩
      refine ⟨_, rfl, _, rfl, a, _, _, _, rfl, rfl, .of ha, at_get er2, r, _, 1, _, rfl, rfl, .of hrr, rfl, ?_⟩
      exact ⟨_, g k, _, _, rfl, rt k _ hx, c1, c2, c3, c4, c5, true, rfl, iteF ⟨rfl, _, rfl⟩⟩
    · rintro σ G ⟨rfl, y, rfl⟩
      exact q
end
section
variable {P : Program} {w : World} {K : PySem.W.Frag} {mg : Str → Option Value} {base : Heap} {A : Ad} {D : Fd}
/-! ### pairs by a bound of their value and a bound of their bottom -/
/-- the bottom from 1 to 2 ^ b, the value at most c -/
structure Pc (c b : Nat) (x : Int × Int) : Prop where
  pos : 0 < x.2
  val : x.1.natAbs ≤ c * x.2.natAbs
  bot : x.2.natAbs ≤ 2 ^ b
section
variable {c c' b b' e : Nat} {x y : Int × Int}
theorem Pc.mono (h : Pc c b x) (h1 : c ≤ c') (h2 : b ≤ b') : Pc c' b' x := ⟨h.pos, Nat.le_trans h.val (Nat.mul_le_mul_right _ h1), Nat.le_trans h.bot (two_le h2)⟩
theorem Pc.top (h : Pc c b x) (hc : c ≤ 2 ^ e) : x.1.natAbs < 2 ^ (e + b + 1) := by
  have h1 : c * x.2.natAbs ≤ 2 ^ e * 2 ^ b := Nat.mul_le_mul hc h.bot
  have h2 := h.val
  have h3 := Nat.two_pow_pos (e + b)
  rw [← Nat.pow_add] at h1
  rw [Nat.pow_succ]
  omega
theorem Pc.lt (h : Pc c b x) : x.2.natAbs < 2 ^ (b + 1) := by
  have := h.bot
  have h3 := Nat.two_pow_pos b
  rw [Nat.pow_succ]
  omega
theorem Pc.zero : Pc c b (0, 1) := ⟨by decide, Nat.zero_le _, Nat.one_le_two_pow⟩
theorem Pc.one (h : 1 ≤ c) : Pc c b (1, 1) := ⟨by decide, by show 1 ≤ c * 1; omega, Nat.one_le_two_pow⟩
theorem Pc.mul (h : Pc c b x) (h' : Pc c' b' y) : Pc (c * c') (b + b') (x.1 * y.1, x.2 * y.2) where
  pos := Int.mul_pos h.pos h'.pos
  val := by
    show (x.1 * y.1).natAbs ≤ c * c' * (x.2 * y.2).natAbs
    rw [Int.natAbs_mul, Int.natAbs_mul, Nat.mul_mul_mul_comm]
    exact Nat.mul_le_mul h.val h'.val
  bot := by
    show (x.2 * y.2).natAbs ≤ _
    rw [Int.natAbs_mul, Nat.pow_add]
    exact Nat.mul_le_mul h.bot h'.bot
theorem Pc.add (h : Pc c b x) (h' : Pc c' b' y) : Pc (c + c') (b + b') (x.1 * y.2 + y.1 * x.2, x.2 * y.2) where
  pos := Int.mul_pos h.pos h'.pos
  val := by
    show (x.1 * y.2 + y.1 * x.2).natAbs ≤ (c + c') * (x.2 * y.2).natAbs
    refine Nat.le_trans (Int.natAbs_add_le _ _) ?_
    rw [Int.natAbs_mul, Int.natAbs_mul, Int.natAbs_mul, Nat.add_mul, ← Nat.mul_assoc, ← Nat.mul_assoc, Nat.mul_right_comm c']
    exact Nat.add_le_add (Nat.mul_le_mul_right _ h.val) (Nat.mul_le_mul_right _ h'.val)
  bot := by
    show (x.2 * y.2).natAbs ≤ _
    rw [Int.natAbs_mul, Nat.pow_add]
    exact Nat.mul_le_mul h.bot h'.bot
theorem Pc.add1 {p q r : Int} (h : Pc c b (p, q)) (h' : Pc c' b' (r, q)) : Pc (c + c') b (p + r, q) where
  pos := h.pos
  val := by
    have h1 : p.natAbs ≤ c * q.natAbs := h.val
    have h2 : r.natAbs ≤ c' * q.natAbs := h'.val
    show (p + r).natAbs ≤ (c + c') * q.natAbs
    rw [Nat.add_mul]
    exact Nat.le_trans (Int.natAbs_add_le _ _) (Nat.add_le_add h1 h2)
  bot := h.bot
theorem Pc.sm1 (h : Pc c b x) (hc : c ≤ 2 ^ e) (hs : e + b ≤ 3990) : Sm x.1 := sm_of (h.top hc) (by omega)
theorem Pc.sm2 (h : Pc c b x) (hs : b ≤ 3990) : Sm x.2 := sm_of h.lt (by omega)
theorem Pc.bd (h : Pc c b x) (hc : c ≤ 2 ^ e) : Bd (e + b + 1) (b + 1) (qv x) := .div (by have := h.pos; omega) (h.top hc) h.lt
end
/-- all pairs so -/
def FOv (F : Nat → Int × Int) (n c b : Nat) : Prop := ∀ k, k < n → Pc c b (F k)
theorem FOv.ok {F : Nat → Int × Int} {n c b e : Nat} (h : FOv F n c b) (hc : c ≤ 2 ^ e) : FOk F n (e + b + 1) (b + 1) := ⟨fun k hk => (h k hk).pos, fun k hk => (h k hk).top hc, fun k hk => (h k hk).lt⟩
theorem FOv.mono {F : Nat → Int × Int} {n c b c' b' : Nat} (h : FOv F n c b) (h1 : c ≤ c') (h2 : b ≤ b') : FOv F n c' b' := fun k hk => (h k hk).mono h1 h2
theorem drw_ov {n m : Nat} {L : List (Int × Int)} (h : Drw n m L) : FOv (LF L) L.length (2 ^ n) m := fun k hk => by
  obtain ⟨h1, h2, h3⟩ := h _ (List.getElem_mem hk)
  rw [← LF_in hk] at h1 h2 h3
  refine ⟨h1, ?_, Nat.le_of_lt h3⟩
  refine Nat.le_trans (Nat.le_of_lt h2) (Nat.le_mul_of_pos_right _ (by omega))
theorem qv_add {p q : Int × Int} (hp : 0 < p.2) (hq : 0 < q.2) : qv (p.1 * q.2 + q.1 * p.2, p.2 * q.2) = qv p + qv q := by
  have h1 := qv_mul (p := p) (by omega)
  have h2 := qv_mul (p := q) (by omega)
  refine div_eq (by have := Int.mul_pos hp hq; omega) ?_
  rw [Rat.intCast_mul, Rat.intCast_add, Rat.intCast_mul, Rat.intCast_mul, ← h1, ← h2]
  grind
theorem qv_mulp {p q : Int × Int} (hp : 0 < p.2) (hq : 0 < q.2) : qv (p.1 * q.1, p.2 * q.2) = qv p * qv q := by
  have h1 := qv_mul (p := p) (by omega)
  have h2 := qv_mul (p := q) (by omega)
  refine div_eq (by have := Int.mul_pos hp hq; omega) ?_
  rw [Rat.intCast_mul, Rat.intCast_mul, ← h1, ← h2]
  grind
theorem qv_add1 {x y b : Int} (hb : 0 < b) : qv (x + y, b) = qv (x, b) + qv (y, b) := by
  have h1 := qv_mul (p := (x, b)) (show b ≠ 0 by omega)
  have h2 := qv_mul (p := (y, b)) (show b ≠ 0 by omega)
  refine div_eq (show b ≠ 0 by omega) ?_
  show _ * (b : Rat) = ((x + y : Int) : Rat)
  have h1 : qv (x, b) * (b : Rat) = (x : Rat) := h1
  have h2 : qv (y, b) * (b : Rat) = (y : Rat) := h2
  rw [Rat.intCast_add, ← h1, ← h2]
  grind
theorem qv_0 {b : Int} : qv (0, b) = 0 := by
  show ((0 : Int) : Rat) / _ = 0
  rw [Rat.intCast_zero, Rat.div_def, Rat.zero_mul]
def sp_laddv : Sp := fun vs H Q _ => ∃ (a b : Addr) (p q : Int × Int) (c m c2 m2 e : Nat), vs = [.ref a, .ref b] ∧ H a = some (two p.1 p.2) ∧ H b = some (two q.1 q.2) ∧ Pc c m p ∧ Pc c2 m2 q ∧ c ≤ 2 ^ e ∧ c2 ≤ 2 ^ e ∧ e + m + m2 ≤ 3990 ∧
  ∀ H' d x, Same H H' → H' d = some (two x.1 x.2) → Pc (c + c2) (m + m2) x → qv x = qv p + qv q → Q (.ref d) H'
theorem ok__law_add (T : Txt K mg A D) : FnOk P w K mg base CX0 1 A.f__law_add D.f__law_add ["_law_a", "_law_b"] (sp_laddv) := by
  skip
  refine T.F__law_add.ok sc__law_add (fun vs H Q E h => ?_) (fun cdv A' outer s H vs Q E hr h => ?_)
  · obtain ⟨a, b, p, q, c, m, c2, m2, e, rfl, _⟩ := h
    rfl
  · obtain ⟨a, b, ⟨p, q⟩, ⟨r, s'⟩, c, m, c2, m2, e, rfl, ha, hb, P1, P2, e1, e2, hs, k⟩ := h
    refine ⟨_, (pss_cons (ps_if (pt_cmpR op_eq (pe_ix ix_list (pv 0) pe_int (fun _ _ => rfl)) pe_int (nomark _)) (pss_one (ps_ret (pv 1))) pss_nil)
  (pss_cons (ps_if (pt_cmpR op_eq (pe_ix ix_list (pv 1) pe_int (fun _ _ => rfl)) pe_int (nomark _)) (pss_one (ps_ret (pv 0))) pss_nil)
  (pss_cons (ps_if (pt_cmpR op_eq (pe_ix ix_list (pv 0) pe_int (fun _ _ => rfl)) (pe_ix ix_list (pv 1) pe_int (fun _ _ => rfl)) (nomark _)) (pss_one (ps_ret (pe_lst (pa_cons (pe_op op_add (pe_ix ix_list (pv 0) pe_int (fun _ _ => rfl)) (pe_ix ix_list (pv 1) pe_int (fun _ _ => rfl))) (pa_cons (pe_ix ix_list (pv 0) pe_int (fun _ _ => rfl)) pa_nil))))) pss_nil)
  (pss_one (ps_ret (pe_lst (pa_cons (pe_op op_add (pe_op op_mulW (pe_ix ix_list (pv 0) pe_int (fun _ _ => rfl)) (pe_ix ix_list (pv 1) pe_int (fun _ _ => rfl))) (pe_op op_mulW (pe_ix ix_list (pv 1) pe_int (fun _ _ => rfl)) (pe_ix ix_list (pv 0) pe_int (fun _ _ => rfl)))) (pa_cons (pe_op op_mulW (pe_ix ix_list (pv 0) pe_int (fun _ _ => rfl)) (pe_ix ix_list (pv 1) pe_int (fun _ _ => rfl))) pa_nil)))))))), ?_⟩
    refine ⟨_, rfl, a, _, 0, _, rfl, rfl, .of ha, rfl, rfl, _, rfl, ite2 (fun c => ?_) (fun c => ?_)⟩
    · have e : p = 0 := V.int.inj (of_decide_eq_true c)
      subst e
      exact ⟨_, rfl, k H b (r, s') (Same.refl H) hb (P2.mono (by omega) (by omega)) (by rw [qv_0, Rat.zero_add])⟩
    refine ⟨_, rfl, b, _, 0, _, rfl, rfl, .of hb, rfl, rfl, _, rfl, ite2 (fun c => ?_) (fun c => ?_)⟩
    · have e : r = 0 := V.int.inj (of_decide_eq_true c)
      subst e
      exact ⟨_, rfl, k H a (p, q) (Same.refl H) ha (P1.mono (by omega) (by omega)) (by rw [qv_0, Rat.add_zero])⟩
    refine ⟨_, rfl, a, _, 1, _, rfl, rfl, .of ha, rfl, _, rfl, b, _, 1, _, rfl, rfl, .of hb, rfl, rfl, _, rfl, ite2 (fun c => ?_) (fun c => ?_)⟩
    · have e : q = s' := V.int.inj (of_decide_eq_true c)
      subst e
      refine ⟨_, rfl, a, _, 0, _, rfl, rfl, .of ha, rfl, _, rfl, b, _, 0, _, rfl, rfl, .of hb, rfl, _, _, rfl, rfl, _, rfl, a, _, 1, _, rfl, rfl, .of ha, rfl, by show 2 ≤ sizeLine; decide, fun d nd => ?_⟩
      exact k _ d (p + r, q) (same_upd nd) upd_same ((P1.add1 P2).mono (Nat.le_refl _) (by omega)) (qv_add1 P1.pos)
    · have w1 : Sm p := P1.sm1 e1 (by omega)
      have w2 : Sm q := P1.sm2 (by omega)
      have w3 : Sm r := P2.sm1 e2 (by omega)
      have w4 : Sm s' := P2.sm2 (by omega)
      refine ⟨_, rfl, a, _, 0, _, rfl, rfl, .of ha, rfl, _, rfl, b, _, 1, _, rfl, rfl, .of hb, rfl, _, _, rfl, rfl, w1.mul w4, _, rfl, b, _, 0, _, rfl, rfl, .of hb, rfl, _, rfl, a, _, 1, _, rfl, rfl, .of ha, rfl, _, _, rfl, rfl, w3.mul w2, _, _, rfl, rfl, _, rfl, a, _, 1, _, rfl, rfl, .of ha, rfl, _, rfl, b, _, 1, _, rfl, rfl, .of hb, rfl, _, _, rfl, rfl, w2.mul w4, by show 2 ≤ sizeLine; decide, fun d nd => ?_⟩
      exact k _ d (p * s' + r * q, q * s') (same_upd nd) upd_same (P1.add P2) (qv_add (p := (p, q)) (q := (r, s')) P1.pos P2.pos)
/-- pairs with bottoms that are not 0 -/
structure FOn (F : Nat → Int × Int) (n a b : Nat) : Prop where
  ne : ∀ k, k < n → (F k).2 ≠ 0
  top : ∀ k, k < n → (F k).1.natAbs < 2 ^ a
  bot : ∀ k, k < n → (F k).2.natAbs < 2 ^ b
theorem FOk.n {F : Nat → Int × Int} {n a b : Nat} (h : FOk F n a b) : FOn F n a b := ⟨fun k hk => by have := h.pos k hk; omega, h.top, h.bot⟩
theorem FOn.bd {F : Nat → Int × Int} {n a b : Nat} (h : FOn F n a b) (hb : 0 < b) (k : Nat) : Bd a b (cof F n k) := by
  show Bd a b (if k < n then qv (F k) else 0)
  split
  · rename_i hk
    exact .div (h.ne k hk) (h.top k hk) (h.bot k hk)
  · exact .zero hb
theorem FOn.sm {F : Nat → Int × Int} {n a b k : Nat} (h : FOn F n a b) (hk : k < n) (ha : a ≤ 4000) (hb : b ≤ 4000) : Sm (F k).1 ∧ Sm (F k).2 := ⟨sm_of (h.top k hk) ha, sm_of (h.bot k hk) hb⟩
def sp_polyisn (A : Ad) : Sp := fun vs H Q _ => ∃ p v s f n F a b, vs = [p, v] ∧ PolyV A.Poly A.Ratio H p s f ∧ PairsAt H v n F ∧ FOn F n a b ∧ a ≤ 3900 ∧ b ≤ 3900 ∧ 0 < b ∧ n ≤ 60 ∧ (∀ k, f k = cof F n k) ∧ Q (.bl true) H
theorem qv_topn {p : Int × Int} (h : p.2 ≠ 0) : qv p = 0 ↔ p.1 = 0 := by
  have e := qv_mul (p := p) h
  constructor
  · intro z
    rw [z, Rat.zero_mul] at e
    exact (Rat.intCast_eq_zero_iff.mp e.symm)
  · intro z
    show ((p.1 : Int) : Rat) / _ = 0
    rw [z, Rat.intCast_zero, Rat.div_def, Rat.zero_mul]
theorem ok__law_poly_is (T : Txt K mg A D) : FnOk P w K mg base CX0 3 A.f__law_poly_is D.f__law_poly_is ["_law_p", "_law_pairs"] (sp_polyisn A) := by
  have G__law_is : FnOk P w K mg base CX0 2 A.f__law_is D.f__law_is ["_law_value", "_law_top", "_law_bottom"] (sp_is A.Ratio) := ok__law_is T
  have G__law_is_integer : FnOk P w K mg base CX0 1 A.f__law_is_integer D.f__law_is_integer ["_law_value"] (sp_is_whole K) := ok__law_is_integer T
  refine T.F__law_poly_is.ok sc__law_poly_is (fun vs H Q E h => ?_) (fun cdv A' outer s H vs Q E hr h => ?_)
  · obtain ⟨p, v, s, f, n, F, a, b, rfl, _⟩ := h
    rfl
  · obtain ⟨p, v, s, f, n, F, a, b, rfl, hp, ⟨la, rs, rfl, hla, lr, hP⟩, ok, ha, hb, hb0, hn, hf, q⟩ := h
    refine ⟨_, (pss_cons (ps_set (i := 2) sc__law_poly_is.nd rfl (.inl rfl) (pe_callB call_len_seq rfl T.z_len (by decide +kernel) (pa_cons (pv 1) pa_nil)))
  (pss_cons (ps_for PassesOwn.never rfl (pi_range1 rfl T.z_range (pa_cons (pe_callB call_len_seq rfl T.z_len (by decide +kernel) (pa_cons (pv 1) pa_nil)) pa_nil)) (pg_name (i := 3) sc__law_poly_is.nd rfl (.inl rfl)) (pss_one (ps_if (PW.pt (pw_and (pt_cmpR op_gt (pv 2) pe_int (nomark _)) (pw_and1 (pt_cmpR op_eq (pe_ix ix_list (pe_ix ix_list (pv 1) (pe_op op_sub (pv 2) pe_int) (fun _ _ => rfl)) pe_int (fun _ _ => rfl)) pe_int (nomark _))))) (pss_one (ps_aug (i := 2) sc__law_poly_is.nd rfl (.inl rfl) pe_int ip_sub)) pss_nil)))
  (pss_cons (ps_if (PW.pt (pw_or (pt_not (pt_val (pe_callB call_isi rfl T.z_isinstance (by decide +kernel) (pa_cons (pv 0) (pa_cons (pe_glob (v := .ref A.Poly) rfl T.g_Poly rfl) pa_nil))))) (pw_or (pt_not (pt_val (pe_callB call_isi rfl T.z_isinstance (by decide +kernel) (pa_cons (pe_fld (pv 0) rfl) (pa_cons (pe_bltn (v := .ty "tuple") rfl T.z_tuple (by decide +kernel) rfl) pa_nil))))) (pw_or1 (pt_cmpR op_ne (pe_callB call_len_seq rfl T.z_len (by decide +kernel) (pa_cons (pe_fld (pv 0) rfl) pa_nil)) (pv 2) (nomark _)))))) (pss_one (ps_ret pe_bl)) pss_nil)
  (pss_cons (ps_if (PW.pt (pw_or (pt_not (pt_val (pe_call G__law_is_integer (hr.mono (by decide)) rfl T.g__law_is_integer T.F__law_is_integer.kp T.b__law_is_integer .nil pass0 (pa_cons (pe_fld (pv 0) rfl) pa_nil)))) (pw_or1 (pt_cmpR op_ne (pe_fld (pv 0) rfl) (pe_op op_sub (pv 2) pe_int) (nomark _))))) (pss_one (ps_ret pe_bl)) pss_nil)
  (pss_cons (ps_for PassesOwn.never rfl (pi_range1 rfl T.z_range (pa_cons (pv 2) pa_nil)) (pg_name (i := 3) sc__law_poly_is.nd rfl (.inl rfl)) (pss_one (ps_if (pt_not (pt_val (pe_call G__law_is (hr.mono (by decide)) rfl T.g__law_is T.F__law_is.kp T.b__law_is .nil pass0 (pa_cons (pe_ix ix_tup (pe_fld (pv 0) rfl) (pv 3) (fun _ _ => rfl)) (pa_cons (pe_ix ix_list (pe_ix ix_list (pv 1) (pv 3) (fun _ _ => rfl)) pe_int (fun _ _ => rfl)) (pa_cons (pe_ix ix_list (pe_ix ix_list (pv 1) (pv 3) (fun _ _ => rfl)) pe_int (fun _ _ => rfl)) pa_nil)))))) (pss_one (ps_ret pe_bl)) pss_nil)))
  (pss_cons (ps_if (pt_cmpR op_eq (pv 2) pe_int (nomark _)) (pss_one (ps_ret (pe_call G__law_is (hr.mono (by decide)) rfl T.g__law_is T.F__law_is.kp T.b__law_is .nil pass0 (pa_cons (pe_fld (pv 0) rfl) (pa_cons pe_int (pa_cons pe_int pa_nil)))))) pss_nil)
  (pss_one (ps_ret (pe_call G__law_is (hr.mono (by decide)) rfl T.g__law_is T.F__law_is.kp T.b__law_is .nil pass0 (pa_cons (pe_fld (pv 0) rfl) (pa_cons (pe_ix ix_list (pe_ix ix_list (pv 1) (pe_op op_sub (pv 2) pe_int) (fun _ _ => rfl)) pe_int (fun _ _ => rfl)) (pa_cons (pe_ix ix_list (pe_ix ix_list (pv 1) (pe_op op_sub (pv 2) pe_int) (fun _ _ => rfl)) pe_int (fun _ _ => rfl)) pa_nil)))))))))))), ?_⟩
    have bd : ∀ k, Bd 3900 3900 (f k) := fun k => hf k ▸ (ok.bd hb0 k).mono ha hb
    obtain ⟨⟨pa, dx, tp, ys, l, rfl, h1, h2, h3, h4, h5⟩, z, z2⟩ := hp
    have sn : s ≤ n := by
      rcases Nat.lt_or_ge n s with h | h
      · have := z2 (by omega)
        rw [hf, cof_out (by omega)] at this
        exact absurd rfl this
      · exact h
    have cl := T.k_Poly.cl
    refine ⟨_, rfl, la, _, rfl, .inl (.of hla), ?_⟩
    refine ⟨_, rfl, la, _, rfl, .inl (.of hla), _, rfl, by rw [List.length_map]; omega, by rw [List.length_map]; omega, ?_⟩
    rw [show (((rs.map V.ref).length : Nat) : Int).toNat = n by rw [List.length_map]; omega]
    refine for_range (lo := 0) (fun i σ G => G = H ∧ ∃ y : Option V, σ = [some (.ref pa), some (.ref la), some (.int ((max s (n - i) : Nat) : Int)), y]) ⟨rfl, _, by rw [List.length_map, lr, Nat.sub_zero, Nat.max_eq_right sn]; rfl⟩ ?_ ?_
    · rintro i σ G hi ⟨rfl, y, rfl⟩
      refine ⟨_, rfl, _, _, rfl, rfl, _, rfl, ite2 (fun c => ?_) (fun c => iteF ?_)⟩
      · have c := of_decide_eq_true c
        obtain ⟨r, er, er2⟩ := pr_get (show max s (n - i) - 1 < rs.length by omega)
        have hat : atI (rs.map V.ref) (((max s (n - i) : Nat) : Int) - 1) = some (.ref r) := by
          rw [show ((max s (n - i) : Nat) : Int) - 1 = ((max s (n - i) - 1 : Nat) : Int) by omega]
          exact atI_nat er2
        have hr := hP _ r er
        refine ⟨_, rfl, _, rfl, _, _, rfl, rfl, la, _, _, _, rfl, rfl, .of hla, hat, r, _, 0, _, rfl, rfl, .of hr, rfl, rfl, _, rfl, ?_⟩
        have hpos := ok.ne (max s (n - i) - 1) (by omega)
        have hv := qv_topn hpos
        have hc := cof_in (F := F) (show max s (n - i) - 1 < n by omega)
        refine ite2 (fun c2 => ?_) (fun c2 => ?_)
        · have c2 : (F (max s (n - i) - 1)).1 = 0 := V.int.inj (of_decide_eq_true c2)
          have f0 : f (max s (n - i) - 1) = 0 := by rw [hf, hc]; exact hv.mpr c2
          have lt : s < max s (n - i) := by
            rcases Nat.lt_or_ge s (max s (n - i)) with h | h
            · exact h
            · have e : max s (n - i) = s := by omega
              rw [e] at f0
              exact absurd f0 (z2 (by omega))
          refine ⟨_, rfl, _, _, rfl, rfl, rfl, some (.int (0 + (i : Int))), ?_⟩
          rw [show ((max s (n - (i + 1)) : Nat) : Int) = ((max s (n - i) : Nat) : Int) - 1 by omega]
          rfl
        · have e : max s (n - i) = max s (n - (i + 1)) := by
            rcases Nat.lt_or_ge s (max s (n - i)) with h | h
            · have f0 := z (max s (n - i) - 1) (by omega)
              rw [hf, hc, hv] at f0
              exact absurd (decide_eq_true (congrArg V.int f0)) c2
            · omega
          exact ⟨rfl, some (.int (0 + (i : Int))), by rw [e]; rfl⟩
      · have c : ¬ ((max s (n - i) : Nat) : Int) > 0 := fun h => c (decide_eq_true h)
        exact ⟨rfl, some (.int (0 + (i : Int))), by rw [show max s (n - (i + 1)) = max s (n - i) by omega]; rfl⟩
    · rintro σ G ⟨rfl, y, rfl⟩
      rw [Nat.sub_self, Nat.max_eq_left (Nat.zero_le _)]
      refine ⟨_, rfl, .ref pa, .ref A.Poly, _, _, true, rfl, .own _, T.k_Poly.ty h1, kit_self, true, rfl, iteF ?_⟩
      refine ⟨_, rfl, pa, A.Poly, dx, _, _, rfl, h1, cl, T.n_Poly_coefficients, rfl, .ref tp, .ty "tuple", _, _, true, rfl, .ty _, .base (.tup h2), kit_ty (by decide +kernel), true, rfl, iteF ?_⟩
      refine ⟨_, rfl, pa, A.Poly, dx, _, _, rfl, h1, cl, T.n_Poly_coefficients, rfl, tp, ys, rfl, .inr (.of h2), _, rfl, rfl, _, rfl, iteFe (by rw [h3, decide_eq_true rfl]; rfl) ?_⟩
      refine ⟨_, rfl, pa, A.Poly, dx, _, _, rfl, h1, cl, T.n_Poly_degree, rfl, _, _, rfl, whole_int _, true, rfl, iteF ?_⟩
      refine ⟨_, rfl, pa, A.Poly, dx, _, _, rfl, h1, cl, T.n_Poly_degree, rfl, _, rfl, _, _, rfl, rfl, rfl, _, rfl, iteFe (by rw [decide_eq_true rfl]; rfl) ?_⟩
      refine ⟨_, rfl, _, rfl, by omega, by omega, ?_⟩
      rw [show ((s : Int)).toNat = s by omega]
      refine for_range (lo := 0) (fun i σ E => E = G ∧ ∃ y : Option V, σ = [some (.ref pa), some (.ref la), some (.int (s : Int)), y]) ⟨rfl, _, rfl⟩ ?_ ?_
      · rintro k σ E hk ⟨rfl, y, rfl⟩
        obtain ⟨r, er, er2⟩ := pr_get (show k < rs.length by omega)
        have hr := hP k r er
        have hx := List.getElem?_eq_getElem (show k < ys.length by omega)
        have hsm := ok.sm (show k < n by omega) (by omega) (by omega)
        have hpos := ok.ne k (by omega)
        refine ⟨_, rfl, pa, A.Poly, dx, _, _, rfl, h1, cl, T.n_Poly_coefficients, rfl, _, rfl, tp, ys, _, _, rfl, rfl, .of h2, at_get hx, _, rfl, _, rfl, la, _, _, _, rfl, rfl, .of hla, at_get er2, r, _, 0, _, rfl, rfl, .of hr, rfl, _, rfl, _, rfl, la, _, _, _, rfl, rfl, .of hla, at_get er2, r, _, 1, _, rfl, rfl, .of hr, rfl, ?_⟩
        exact ⟨_, f k, _, _, rfl, h4 k _ hx, hpos, by rw [hf, cof_in (show k < n by omega)], bd k, hsm.1, hsm.2, true, rfl, iteF ⟨rfl, _, rfl⟩⟩
      · rintro σ E ⟨rfl, y, rfl⟩
        refine ⟨_, rfl, rfl, _, rfl, ite2 (fun c => ?_) (fun c => ?_)⟩
        · have c : (s : Int) = 0 := V.int.inj (of_decide_eq_true c)
          refine ⟨_, rfl, pa, A.Poly, dx, _, _, rfl, h1, cl, T.n_Poly_lead, rfl, l, f (s - 1), 0, 1, rfl, h5, by decide, ?_, bd _, .ab (by decide) (by decide), .ab (by decide) (by decide), q⟩
          rw [z (s - 1) (by omega)]
          show ((0 : Int) : Rat) / _ = 0
          rw [Rat.intCast_zero, Rat.div_def, Rat.zero_mul]
        · have s0 : 0 < s := by
            rcases Nat.eq_zero_or_pos s with e | e
            · exact absurd (decide_eq_true (by rw [e]; rfl)) c
            · exact e
          obtain ⟨r, er, er2⟩ := pr_get (show s - 1 < rs.length by omega)
          have hat : atI (rs.map V.ref) ((s : Int) - 1) = some (.ref r) := by
            rw [show (s : Int) - 1 = ((s - 1 : Nat) : Int) by omega]
            exact atI_nat er2
          have hr := hP _ r er
          have hsm := ok.sm (show s - 1 < n by omega) (by omega) (by omega)
          have hpos := ok.ne (s - 1) (by omega)
          refine ⟨_, rfl, pa, A.Poly, dx, _, _, rfl, h1, cl, T.n_Poly_lead, rfl, _, rfl, _, rfl, _, _, rfl, rfl, la, _, _, _, rfl, rfl, .of hla, hat, r, _, 0, _, rfl, rfl, .of hr, rfl, _, rfl, _, rfl, _, _, rfl, rfl, la, _, _, _, rfl, rfl, .of hla, hat, r, _, 1, _, rfl, rfl, .of hr, rfl, ?_⟩
          exact ⟨l, f (s - 1), _, _, rfl, h5, hpos, by rw [hf, cof_in (show s - 1 < n by omega)], bd _, hsm.1, hsm.2, q⟩
end

end Mo

namespace Mo
open PySem PySem.Spec PyProof.Rows L2 MoL MoW
open C8 (pss_cut tCut)
section
variable {P : Program} {w : World} {K : PySem.W.Frag} {mg : Str → Option Value} {base : Heap} {A : Ad} {D : Fd}
/-- the points and the weights of a drawn lot -/
def lx (L : Lot) : Nat → Rat := fun j => ((L.ps.getD j 0 : Int) : Rat) / (L.q : Rat)
def lw (L : Lot) : Nat → Rat := fun j => ((L.ws.getD j 0 : Int) : Rat) / (L.s : Rat)
structure LotB (L : Lot) : Prop where
  ok : LotOk 30 27 L
  q5 : L.q ≤ 5
  s9 : L.s ≤ 9
  len : L.ps.length ≤ 8
  hl : L.ps.length = L.ws.length
  s1 : L.s < 2 ^ 4
theorem LotB.I {L : Lot} (h : LotB L) : LotI L.ps.length (lx L) (lw L) (fun j => L.ps.getD j 0) (fun j => L.ws.getD j 0) L.q L.s where
  len := h.len
  x j hj := div_is (by have := h.ok.q0; omega)
  w j hj := div_is (by have := h.ok.s0; omega)
  X j hj := nle (h.ok.ps _ (getD_mem hj)) (by decide)
  W j hj := h.ok.ws _ (getD_mem (by have := h.hl; omega))
  q0 := h.ok.q0
  q1 := by have := h.ok.q1; omega
  s0 := h.ok.s0
  s1 := h.s1
theorem LotB.row {L : Lot} (h : LotB L) (k : Nat) : qv (rowF L k) = momq (lw L) (lx L) L.ps.length k := row_val h.hl (by have := h.ok.s0; omega) (by have := h.ok.q0; omega) k
def bB : Nat → Nat
  | 0 => 0
  | n + 1 => bB n + (bB n + 6)
theorem bB_ok : ∀ i, i < 8 → 39 * i + 38 + bB i + (bB i + 6) ≤ 3990 := by decide
theorem bB_8 : ∀ i, i ≤ 8 → bB i ≤ 1600 := by decide
/-- the row of the sums, up to the k-th -/
def mixF (F G : Nat → Int × Int) (k j : Nat) : Int × Int := if j < k then G j else if j = 0 then (0, 1) else F (j - 1)
def sp_lotis (A : Ad) : Sp := fun vs H Q _ => ∃ v u L, vs = [v, u] ∧ LotV A H v L.ps.length (lx L) (lw L) ∧ LotAt H u L ∧ LotB L ∧ ∀ H', Same H H' → Q (.bl true) H'
theorem Pc.next {c b : Nat} {x : Int × Int} {X q : Int} (h : Pc c b x) (hX : X.natAbs < 2 ^ 38) (q0 : 0 < q) (q1 : q < 2 ^ 6) : Pc (2 ^ 38 * c) (b + 6) (-X * x.1, q * x.2) where
  pos := Int.mul_pos q0 h.pos
  val := by
    show (-X * x.1).natAbs ≤ 2 ^ 38 * c * (q * x.2).natAbs
    rw [Int.natAbs_mul, Int.natAbs_mul, Int.natAbs_neg]
    have h1 : X.natAbs * x.1.natAbs ≤ 2 ^ 38 * (c * x.2.natAbs) := Nat.mul_le_mul (Nat.le_of_lt hX) h.val
    have h2 : 1 * x.2.natAbs ≤ q.natAbs * x.2.natAbs := Nat.mul_le_mul_right _ (by omega)
    rw [Nat.one_mul] at h2
    have h3 : 2 ^ 38 * (c * x.2.natAbs) ≤ 2 ^ 38 * (c * (q.natAbs * x.2.natAbs)) := Nat.mul_le_mul_left _ (Nat.mul_le_mul_left _ h2)
    rw [Nat.mul_assoc]
    exact Nat.le_trans h1 h3
  bot := by
    show (q * x.2).natAbs ≤ _
    rw [Int.natAbs_mul, Nat.pow_add, Nat.mul_comm (2 ^ b)]
    exact Nat.mul_le_mul (by omega) h.bot
theorem qv_next {x : Int × Int} {X q : Int} (h : 0 < x.2) (q0 : 0 < q) : qv (-X * x.1, q * x.2) = -(((X : Int) : Rat) / (q : Rat)) * qv x := by
  have := qv_mulp (p := (-X, q)) (q := x) q0 h
  rw [show qv (-X * x.1, q * x.2) = _ from this]
  show (((-X : Int)) : Rat) / (q : Rat) * _ = _
  rw [Rat.intCast_neg, Rat.div_def, Rat.div_def]
  grind
theorem ok__law_lot_is (T : Txt K mg A D) : FnOk P w K mg base CX0 5 A.f__law_lot_is D.f__law_lot_is ["_law_lot_here", "_law_due"] (sp_lotis A) := by
  have G__law_add : FnOk P w K mg base CX0 1 A.f__law_add D.f__law_add ["_law_a", "_law_b"] (sp_laddv) := ok__law_add T
  have G__law_is_integer : FnOk P w K mg base CX0 1 A.f__law_is_integer D.f__law_is_integer ["_law_value"] (sp_is_whole K) := ok__law_is_integer T
  have G__law_numbers : FnOk P w K mg base CX0 2 A.f__law_numbers D.f__law_numbers ["_law_lot_here", "_law_d"] (sp_nums0) := ok__law_numbers T
  have G__law_poly_is : FnOk P w K mg base CX0 3 A.f__law_poly_is D.f__law_poly_is ["_law_p", "_law_pairs"] (sp_polyisn A) := ok__law_poly_is T
  have G__law_row_is : FnOk P w K mg base CX0 3 A.f__law_row_is D.f__law_row_is ["_law_values", "_law_pairs"] (sp_rowis A.Ratio) := ok__law_row_is T
  refine T.F__law_lot_is.ok sc__law_lot_is (fun vs H Q E h => ?_) (fun cdv A' outer s H vs Q E hr h => ?_)
  · obtain ⟨v, u, L, rfl, _⟩ := h
    rfl
  · obtain ⟨v, u, L, rfl, hv, ⟨ua, pa, wa, rfl, hu, hpa, hwa, hl⟩, hB, q⟩ := h
    refine ⟨_, (pss_cons (ps_set (i := 2) sc__law_lot_is.nd rfl (.inl rfl) (pe_callB call_len_seq rfl T.z_len (by decide +kernel) (pa_cons (pe_ix ix_list (pv 1) pe_int (fun _ _ => rfl)) pa_nil)))
  (pss_cons (ps_if (PW.pt (pw_or (pt_not (pt_val (pe_callB call_isi rfl T.z_isinstance (by decide +kernel) (pa_cons (pv 0) (pa_cons (pe_glob (v := .ref A.Lot) rfl T.g_Lot rfl) pa_nil))))) (pw_or (pt_not (pt_val (pe_call G__law_is_integer (hr.mono (by decide)) rfl T.g__law_is_integer T.F__law_is_integer.kp T.b__law_is_integer .nil pass0 (pa_cons (pe_fld (pv 0) rfl) pa_nil)))) (pw_or1 (pt_cmpR op_ne (pe_fld (pv 0) rfl) (pv 2) (nomark _)))))) (pss_one (ps_ret pe_bl)) pss_nil)
  (pss_cons (ps_set (i := 3) sc__law_lot_is.nd rfl (.inl rfl) (pe_lst (pa_cons (pe_lst (pa_cons pe_int (pa_cons pe_int pa_nil))) pa_nil)))
  (pss_cons (ps_for PassesOwn.never rfl (pi_list (pe_ix ix_list (pv 1) pe_int (fun _ _ => rfl))) (pg_name (i := 4) sc__law_lot_is.nd rfl (.inl rfl)) (pss_cons (ps_set (i := 5) sc__law_lot_is.nd rfl (.inl rfl) (pe_op op_cat (pe_lst (pa_cons (pe_lst (pa_cons pe_int (pa_cons pe_int pa_nil))) pa_nil)) (pv 3)))
  (pss_cons (ps_for PassesOwn.never rfl (pi_range1 rfl T.z_range (pa_cons (pe_callB call_len_seq rfl T.z_len (by decide +kernel) (pa_cons (pv 3) pa_nil)) pa_nil)) (pg_name (i := 6) sc__law_lot_is.nd rfl (.inl rfl)) (pss_one (ps_asg (pe_call G__law_add (hr.mono (by decide)) rfl T.g__law_add T.F__law_add.kp T.b__law_add .nil pass0 (pa_cons (pe_ix ix_list (pv 5) (pv 6) (fun _ _ => rfl)) (pa_cons (pe_lst (pa_cons (pe_op op_mulW (pe_un un_neg (pv 4)) (pe_ix ix_list (pe_ix ix_list (pv 3) (pv 6) (fun _ _ => rfl)) pe_int (fun _ _ => rfl))) (pa_cons (pe_op op_mulW (pe_ix ix_list (pv 1) pe_int (fun _ _ => rfl)) (pe_ix ix_list (pe_ix ix_list (pv 3) (pv 6) (fun _ _ => rfl)) pe_int (fun _ _ => rfl))) pa_nil))) pa_nil))) (pg_sub (pv 5) (pv 6) set_list))))
  (pss_one (ps_set (i := 3) sc__law_lot_is.nd rfl (.inl rfl) (pv 5))))))
  (pss_cons (ps_if (PW.pt (pw_or (pt_not (pt_val (pe_call G__law_poly_is (hr.mono (by decide)) rfl T.g__law_poly_is T.F__law_poly_is.kp T.b__law_poly_is .nil pass0 (pa_cons (pe_fld (pv 0) rfl) (pa_cons (pv 3) pa_nil))))) (pw_or1 (pt_not (pt_val (pe_callB call_isi rfl T.z_isinstance (by decide +kernel) (pa_cons (pe_fld (pv 0) rfl) (pa_cons (pe_bltn (v := .ty "tuple") rfl T.z_tuple (by decide +kernel) rfl) pa_nil)))))))) (pss_one (ps_ret pe_bl)) pss_nil)
  (pss_one (ps_ret (pe_call G__law_row_is (hr.mono (by decide)) rfl T.g__law_row_is T.F__law_row_is.kp T.b__law_row_is .nil pass0 (pa_cons (pe_callTy call_list_of rfl T.z_list (by decide +kernel) (pa_cons (pe_fld (pv 0) rfl) pa_nil)) (pa_cons (pe_call G__law_numbers (hr.mono (by decide)) rfl T.g__law_numbers T.F__law_numbers.kp T.b__law_numbers .nil pass0 (pa_cons (pv 1) (pa_cons (pe_op op_sub (pv 2) pe_int) pa_nil))) pa_nil)))))))))), ?_⟩
    have cl := T.k_Lot.cl
    have l8 := hB.len
    have hI := hB.I
    obtain ⟨a, dx, p, tp, ys, cn, rfl, h1, rfl, h3, h4, h5, h6⟩ := hv
    refine ⟨_, rfl, ua, _, 0, _, rfl, rfl, .of hu, rfl, pa, _, rfl, .inl (.of hpa), ?_⟩
    refine ⟨_, rfl, .ref a, .ref A.Lot, _, _, true, rfl, .own _, T.k_Lot.ty h1, kit_self, true, rfl, iteF ?_⟩
    refine ⟨_, rfl, a, A.Lot, dx, _, _, rfl, h1, cl, T.n_Lot_count, rfl, _, _, rfl, whole_int _, true, rfl, iteF ?_⟩
    refine ⟨_, rfl, a, A.Lot, dx, _, _, rfl, h1, cl, T.n_Lot_count, rfl, _, rfl, rfl, _, rfl, iteFe (by rw [List.length_map, decide_eq_true rfl]; rfl) ?_⟩
    refine ⟨by show 2 ≤ sizeLine; decide, fun r1 n1 => ⟨by show 1 ≤ sizeLine; decide, fun pl npl => ?_⟩⟩
    have k1 := same_upd (o := two 1 1) n1
    have k2 := k1.trans (same_upd (o := .lst [V.ref r1]) npl)
    have hr1 := (same_upd (o := .lst [V.ref r1]) npl) _ _ (show upd H r1 (two 1 1) r1 = some (two 1 1) from upd_same)
    have hpl : upd (upd H r1 (two 1 1)) pl (.lst [V.ref r1]) pl = some (.lst [V.ref r1]) := upd_same
    show tSeq _ _ _ _ (upd (upd H r1 (two 1 1)) pl (.lst [V.ref r1]))
    generalize upd (upd H r1 (two 1 1)) pl (.lst [V.ref r1]) = H2 at *
    clear k1 n1 npl
    refine ⟨_, rfl, ua, _, 0, _, rfl, rfl, .of (k2 _ _ hu), rfl, pa, rfl, ⟨_, .of (k2 _ _ hpa)⟩, for_list (fun i σ G => Same H G ∧ i ≤ L.ps.length ∧ ∃ (pl : Addr) (F : Nat → Int × Int) (y4 y5 y6 : Option V), σ = [some (.ref a), some (.ref ua), some (.int ((L.ps.map V.int).length : Int)), some (.ref pl), y4, y5, y6] ∧ PairsAt G (.ref pl) (i + 1) F ∧ FOv F (i + 1) (2 ^ (39 * i)) (bB i) ∧ ∀ k, k < i + 1 → qv (F k) = rtq (lx L) i k)
      ⟨k2, Nat.zero_le _, pl, fun _ => (1, 1), _, _, _, rfl, ⟨pl, [r1], rfl, hpl, rfl, fun k r e => ?_⟩, fun k hk => .one (by decide), fun k hk => ?_⟩ (fun i σ G hi p => .of (p.1 _ _ hpa)) ?_ ?_⟩
    · match k, e with
      | 0, e => cases e; exact hr1
      | k + 1, e => simp at e
    · cases (by omega : k = 0)
      exact div_eq (show (1 : Int) ≠ 0 by decide) (show (1 : Rat) * 1 = 1 from Rat.mul_one _)
    · rintro i z σ G hz ⟨sm, hi, pl, F, y4, y5, y6, rfl, hP, hF, hV⟩
      have li : i < L.ps.length := by have := get_lt hz; rwa [List.length_map] at this
      have ez : z = .int (L.ps.getD i 0) := by
        rw [List.getElem?_map, List.getElem?_eq_getElem li] at hz
        cases hz
        rw [List.getD_eq_getElem?_getD, List.getElem?_eq_getElem li]
        rfl
      subst ez
      have hXi := hI.X i li
      have q0 := hI.q0
      have q1 := hI.q1
      have lB := bB_ok i (by omega)
      have lN : 2 ^ (39 * (i + 1)) = 2 ^ 39 * 2 ^ (39 * i) := by rw [Nat.mul_succ, Nat.pow_add, Nat.mul_comm]
      have mB : bB (i + 1) = bB i + (bB i + 6) := rfl
      obtain ⟨pl', rs, e0, hpl, lr, hp⟩ := hP
      cases e0
      refine ⟨by show 2 ≤ sizeLine; decide, fun z1 nz1 => ⟨by show 1 ≤ sizeLine; decide, fun z2 nz2 => ?_⟩⟩
      have t1 := same_upd (o := two 0 1) nz1
      have t2 := t1.trans (same_upd (o := .lst [V.ref z1]) nz2)
      have hz1 := (same_upd (o := .lst [V.ref z1]) nz2) _ _ (show upd G z1 (two 0 1) z1 = some (two 0 1) from upd_same)
      have hz2 : upd (upd G z1 (two 0 1)) z2 (.lst [V.ref z1]) z2 = some (.lst [V.ref z1]) := upd_same
      generalize upd (upd G z1 (two 0 1)) z2 (.lst [V.ref z1]) = G2 at t2 hz1 hz2
      refine ⟨_, rfl, z2, pl, _, _, rfl, rfl, hz2, t2 _ _ hpl, Nat.le_of_lt (small1000 (by rw [List.length_map, lr]; show 1 + _ ≤ _; omega)), fun rl nrl => ?_⟩
      have t3 := t2.trans (same_upd (o := .lst ([V.ref z1] ++ rs.map V.ref)) nrl)
      have hrl : upd G2 rl (.lst ([V.ref z1] ++ rs.map V.ref)) rl = some (.lst ((z1 :: rs).map V.ref)) := upd_same
      have hz1 := (same_upd (o := .lst ([V.ref z1] ++ rs.map V.ref)) nrl) _ _ hz1
      have nrlG : G rl = none := t2.free nrl
      generalize upd G2 rl (.lst ([V.ref z1] ++ rs.map V.ref)) = G3 at t3 hz1 hrl
      refine ⟨_, rfl, pl, _, rfl, .inl (.of (t3 _ _ hpl)), _, rfl, by rw [List.length_map]; omega, by rw [List.length_map]; omega, ?_⟩
      rw [show (((rs.map V.ref).length : Nat) : Int).toNat = i + 1 by rw [List.length_map]; omega]
      refine for_range (lo := 0) (fun k σ G' => Same G G' ∧ ∃ (gs : List Addr) (M : Nat → Int × Int) (y6 : Option V), σ = [some (.ref a), some (.ref ua), some (.int ((L.ps.map V.int).length : Int)), some (.ref pl), some (.int (L.ps.getD i 0)), some (.ref rl), y6] ∧ G' rl = some (.lst (gs.map V.ref)) ∧ gs.length = i + 2 ∧ Prsd G' gs M ∧ (∀ j, j < k → Pc (2 ^ (39 * (i + 1))) (bB (i + 1)) (M j) ∧ qv (M j) = rtq (lx L) (i + 1) j) ∧ ∀ j, k ≤ j → j < i + 2 → M j = if j = 0 then (0, 1) else F (j - 1))
        ⟨t3, z1 :: rs, fun j => if j = 0 then (0, 1) else F (j - 1), _, rfl, hrl, by rw [List.length_cons, lr], fun j r e => ?_, fun j h => absurd h (Nat.not_lt_zero _), fun j _ _ => rfl⟩ ?_ ?_
      · match j, e with
        | 0, e => cases e; exact hz1
        | j + 1, e =>
          show G3 r = some (two (if j + 1 = 0 then ((0 : Int), (1 : Int)) else F (j + 1 - 1)).1 (if j + 1 = 0 then ((0 : Int), (1 : Int)) else F (j + 1 - 1)).2)
          rw [if_neg (by omega), Nat.add_sub_cancel]
          exact t3 _ _ (hp j r e)
      · rintro k σ G' hk ⟨s', gs, M, y6, rfl, hrl, lg, hp', hM, hM2⟩
        obtain ⟨r, er, er2⟩ := pr_get (show k < gs.length by omega)
        obtain ⟨rf, ef, ef2⟩ := pr_get (show k < rs.length by omega)
        have hr := hp' k r er
        have hrf := s' _ _ (hp k rf ef)
        have hFk := hF k (by omega)
        have sX : Sm (-(L.ps.getD i 0)) := sm_of (show (-(L.ps.getD i 0)).natAbs < 2 ^ 38 by rw [Int.natAbs_neg]; exact hXi) (by decide)
        have sq : Sm L.q := sm_of hI.qa (by decide)
        have s1F := hFk.sm1 (e := 39 * i) (Nat.le_refl _) (by omega)
        have s2F := hFk.sm2 (by omega)
        have pk := s' _ _ hpl
        refine ⟨_, rfl, _, rfl, rl, _, _, _, rfl, rfl, .of hrl, at_get er2, ?_⟩
        refine ⟨_, rfl, _, rfl, _, rfl, _, rfl, pl, _, _, _, rfl, rfl, .of pk, at_get ef2, rf, _, 0, _, rfl, rfl, .of hrf, rfl, _, _, rfl, rfl, sX.mul s1F, ?_⟩
        refine ⟨_, rfl, ua, _, 2, _, rfl, rfl, .of (s' _ _ (sm _ _ hu)), rfl, _, rfl, _, rfl, pl, _, _, _, rfl, rfl, .of pk, at_get ef2, rf, _, 1, _, rfl, rfl, .of hrf, rfl, _, _, rfl, rfl, sq.mul s2F, by show 2 ≤ sizeLine; decide, fun bq nbq => ?_⟩
        have tb := same_upd (o := two (-(L.ps.getD i 0) * (F k).1) (L.q * (F k).2)) nbq
        have pm : Pc (2 ^ (39 * i)) (bB i) (M k) ∧ qv (M k) = if k = 0 then 0 else rtq (lx L) i (k - 1) := by
          rw [hM2 k (Nat.le_refl _) (by omega)]
          by_cases k0 : k = 0
          · rw [if_pos k0, if_pos k0]
            exact ⟨.zero, qv_0⟩
          · rw [if_neg k0, if_neg k0]
            exact ⟨hF _ (by omega), hV _ (by omega)⟩
        refine ⟨r, bq, M k, (-(L.ps.getD i 0) * (F k).1, L.q * (F k).2), 2 ^ (39 * i), bB i, 2 ^ 38 * 2 ^ (39 * i), bB i + 6, 39 * i + 38, rfl, tb _ _ hr, upd_same, pm.1, hFk.next hXi q0 q1, Nat.pow_le_pow_right (by decide) (by omega), by rw [← Nat.pow_add]; exact Nat.pow_le_pow_right (by decide) (by omega), by omega, fun G5 d x k5 hd px vx => ?_⟩
        have k6 := tb.trans k5
        have hrl5 := k6 _ _ hrl
        have hix : ixN (gs.map V.ref).length ((0 : Int) + (k : Int)) = some k := by
          rw [Int.zero_add]
          exact ix_nat (by rw [List.length_map]; omega)
        refine ⟨_, rfl, _, rfl, rl, _, _, _, rfl, rfl, hrl5, hix, ?_⟩
        have dr : d ≠ rl := fun e => by
          rw [e, hrl5] at hd
          have h := HO.lst.inj (Option.some.inj hd)
          match gs, lg, h with
          | g :: _, _, h => cases h
        have em : (gs.map V.ref).set k (.ref d) = (gs.set k d).map V.ref := by rw [List.map_set]
        rw [em]
        have fin : Same G (upd G5 rl (.lst ((gs.set k d).map V.ref))) := same_push (s'.trans k6) nrlG
        refine ⟨fin, gs.set k d, fun j => if j = k then x else M j, _, rfl, upd_same, by rw [List.length_set]; exact lg, ((hp'.same k6).put hrl5).set (by rw [upd_ne dr]; exact hd), fun j hj => ?_, fun j h1 h2 => ?_⟩
        · by_cases jk : j = k
          · subst jk
            have e1 : (fun t => if t = j then x else M t) j = x := if_pos rfl
            show Pc _ _ (if j = j then x else M j) ∧ qv (if j = j then x else M j) = _
            rw [if_pos rfl]
            refine ⟨px.mono (by rw [lN]; generalize 2 ^ (39 * i) = N; omega) (Nat.le_of_eq mB.symm), ?_⟩
            rw [vx, pm.2, qv_next hFk.pos q0, hV j (by omega)]
            show _ = (if j = 0 then 0 else rtq (lx L) i (j - 1)) - lx L i * rtq (lx L) i j
            show _ + -(lx L i) * _ = _
            grind
          · show Pc _ _ (if j = k then x else M j) ∧ qv (if j = k then x else M j) = _
            rw [if_neg jk]
            exact hM j (by omega)
        · show (if j = k then x else M j) = _
          rw [if_neg (by omega)]
          exact hM2 j (by omega) h2
      · rintro σ G' ⟨s', gs, M, y6, rfl, hrl, lg, hp', hM, hM2⟩
        have last : M (i + 1) = F i := by rw [hM2 (i + 1) (Nat.le_refl _) (by omega), if_neg (by omega), Nat.add_sub_cancel]
        refine ⟨_, rfl, sm.trans s', li, rl, M, _, _, _, rfl, ⟨rl, gs, rfl, hrl, lg, hp'⟩, fun k hk => ?_, fun k hk => ?_⟩
        · rcases (by omega : k < i + 1 ∨ k = i + 1) with c | c
          · exact (hM k c).1
          · rw [c, last]
            exact (hF i (by omega)).mono (by rw [lN]; generalize 2 ^ (39 * i) = N; omega) (by omega)
        · rcases (by omega : k < i + 1 ∨ k = i + 1) with c | c
          · exact (hM k c).2
          · rw [c, last, hV i (by omega), rtq_top, rtq_top]
    rintro σ G ⟨sm, _, pl, F, y4, y5, y6, rfl, hP, hF, hV⟩
    rw [List.length_map] at hP hF hV
    have h3 := h3.same sm
    have b8 := bB_8 _ l8
    have fo := hF.ok (Nat.le_refl _)
    refine ⟨_, rfl, a, A.Lot, dx, _, _, rfl, sm _ _ h1, cl, T.n_Lot_poly, rfl, _, rfl, p, .ref pl, _, _, _, F, _, _, rfl, h3, hP, fo.n, by omega, by omega, by omega, by omega, fun k => ?_, true, rfl, iteF ?_⟩
    · rcases Nat.lt_or_ge k (L.ps.length + 1) with c | c
      · rw [cof_in c, hV k c]
      · rw [cof_out c, rtq_out _ _ c]
    refine ⟨_, rfl, a, A.Lot, dx, _, _, rfl, sm _ _ h1, cl, T.n_Lot_begin, rfl, .ref tp, .ty "tuple", _, _, true, rfl, .ty _, .base (.tup (sm _ _ h4)), kit_ty (by decide +kernel), true, rfl, iteF ?_⟩
    refine ⟨_, rfl, a, A.Lot, dx, _, _, rfl, sm _ _ h1, cl, T.n_Lot_begin, rfl, tp, ys, rfl, .inr (.of (sm _ _ h4)), fun l nl => ?_⟩
    have t1 := same_upd (o := .lst ys) nl
    have k3 := sm.trans t1
    refine ⟨_, rfl, _, rfl, _, _, rfl, rfl, .ref ua, L, 30, 27, _, L.ps.length, rfl, by rw [List.length_map]; omega, ⟨ua, pa, wa, rfl, k3 _ _ hu, k3 _ _ hpa, k3 _ _ hwa, hl⟩, hB.ok, by omega, hB.q5, hB.s9, by omega, by omega, fun H4 v4 k4 hp4 => ?_⟩
    refine ⟨l, v4, ys, _, L.ps.length, _, rfl, k4 _ _ upd_same, (h6.same k3).same k4, h5, by omega, hp4, fun k hk => ?_, q _ (k3.trans k4)⟩
    exact row_due hB.ok hl (d := 12) (by omega) (by decide) (fun k _ => hB.row k) k (by omega)
/-- different points, weights above 0 -/
structure Dst (L : Lot) : Prop where
  ne : ∀ i j, i < j → j < L.ps.length → L.ps.getD i 0 ≠ L.ps.getD j 0
  pos : ∀ j, j < L.ws.length → 0 < L.ws.getD j 0
theorem LotS.dst {L : Lot} (h : LotS L) : Dst L where
  ne i j hij hj e := by
    have := List.pairwise_iff_getElem.mp h.inc i j (by omega) hj hij
    rw [List.getD_eq_getElem?_getD, List.getD_eq_getElem?_getD, List.getElem?_eq_getElem (show i < L.ps.length by omega), List.getElem?_eq_getElem hj] at e
    have e : L.ps[i] = L.ps[j] := e
    omega
  pos j hj := (h.pos _ (getD_mem hj)).1
theorem lx_ne {L : Lot} (h : LotB L) (d : Dst L) {i j : Nat} (hij : i < j) (hj : j < L.ps.length) : lx L i ≠ lx L j := fun e => by
  have h1 := h.I.x i (by omega)
  have h2 := h.I.x j hj
  rw [e, h2] at h1
  exact d.ne i j hij hj (inj h1.symm)
theorem lw_pos {L : Lot} (h : LotB L) (d : Dst L) {j : Nat} (hj : j < L.ps.length) : 0 < lw L j := by
  show 0 < (_ : Rat) / _
  rw [Rat.div_def]
  exact Rat.mul_pos (Rat.intCast_pos.mpr (d.pos j (by have := h.hl; omega))) (Rat.inv_pos.mpr (Rat.intCast_pos.mpr h.ok.s0))
end

end Mo

namespace Mo
open PySem PySem.Spec PyProof.Rows L2 MoL MoW
open C8 (pss_cut tCut)
section
variable {P : Program} {w : World} {K : PySem.W.Frag} {mg : Str → Option Value} {base : Heap} {A : Ad} {D : Fd}
theorem LotB.J {L : Lot} (h : LotB L) : LotJ L.ps.length (lx L) (lw L) (fun j => L.ps.getD j 0) (fun j => L.ws.getD j 0) L.q L.s := ⟨h.I, fun j hj => h.ok.ps _ (getD_mem hj), by have := h.q5; omega⟩
/-- a row of up to 61 numbers against its pairs -/
theorem LotB.due {L : Lot} (h : LotB L) {k : Nat} (hk : k ≤ 60) : (rowF L k).2 ≠ 0 ∧ qv (rowF L k) = momq (lw L) (lx L) L.ps.length k ∧ Bd 3900 3900 (momq (lw L) (lx L) L.ps.length k) ∧ Sm (rowF L k).1 ∧ Sm (rowF L k).2 := by
  have p : 0 < (rowF L k).2 := Int.mul_pos h.ok.s0 (Int.pow_pos h.ok.q0)
  have t : (rowF L k).1.natAbs < 2 ^ 1900 := nle (sum_lt' (powL_in h.ok h.hl (k := k)) (by rw [powL_len h.hl]; exact h.ok.len)) (by have : 30 * k ≤ 30 * 60 := Nat.mul_le_mul_left _ hk; omega)
  have b : (rowF L k).2.natAbs < 2 ^ 190 := bot61 h.ok.q0 h.q5 h.ok.s0 h.s9 (by omega)
  refine ⟨by omega, h.row k, ?_, sm_of t (by decide), sm_of b (by decide)⟩
  rw [← h.row k]
  exact .div (by omega) (nle t (by decide)) (nle b (by decide))
def sp_flag : Sp := fun vs H Q _ => ∃ a b : Bool, vs = [.bl a, .bl b] ∧ Q (.bl (a == b)) H
theorem ok__law_flag (T : Txt K mg A D) : FnOk P w K mg base CX0 1 A.f__law_flag D.f__law_flag ["_law_value", "_law_due"] (sp_flag) := by
  skip
  refine T.F__law_flag.ok sc__law_flag (fun vs H Q E h => ?_) (fun cdv A' outer s H vs Q E hr h => ?_)
  · obtain ⟨a, b, rfl, _⟩ := h
    rfl
  · obtain ⟨a, b, rfl, q⟩ := h
    refine ⟨_, (pss_one (ps_ret (pe_or (pe_and (pe_cmpR op_isBl (pv 0) pe_bl (nomark _)) (pe_one (pv 1))) (pe_one (pe_and (pe_cmpR op_isBl (pv 0) pe_bl (nomark _)) (pe_one (pe_not (pv 1)))))))), ?_⟩
    cases a with
    | true =>
      refine ⟨_, rfl, _, _, rfl, rfl, true, rfl, iteT ?_⟩
      cases b with
      | true => exact ⟨_, rfl, true, rfl, iteT q⟩
      | false => exact ⟨_, rfl, false, rfl, iteF ⟨_, rfl, _, _, rfl, rfl, false, rfl, iteF q⟩⟩
    | false =>
      refine ⟨_, rfl, _, _, rfl, rfl, false, rfl, iteF ?_⟩
      refine ⟨false, rfl, iteF ⟨_, rfl, _, _, rfl, rfl, true, rfl, iteT ⟨_, rfl, b, rfl, ?_⟩⟩⟩
      cases b <;> exact q
def sp_loteqB (A : Ad) : Sp := fun vs H Q _ => ∃ v u n x w w', vs = [v, u] ∧ LotV A H v n x w ∧ LotV A H u n x w' ∧ (∀ k, Bd 3900 3900 (rtq x n k)) ∧ (∀ k, k < n → Bd 3900 3900 (momq w x n k)) ∧ (∀ k, k < n → Bd 3900 3900 (momq w' x n k)) ∧
  ∀ H', Same H H' → Q (.bl ((List.range n).all fun k => decide (momq w x n k = momq w' x n k))) H'
theorem ok_Lot___eq__ (T : Txt K mg A D) : FnOk P w K mg base CX0 8 A.f_Lot___eq__ D.f_Lot___eq__ ["self", "other"] (sp_loteqB A) := by
  have G_Poly___eq__ : FnOk P w K mg base CX0 6 A.f_Poly___eq__ D.f_Poly___eq__ ["self", "other"] (sp_peq A) := ok_Poly___eq__ T
  have G_Ratio___eq__ : FnOk P w K mg base CX0 3 A.f_Ratio___eq__ D.f_Ratio___eq__ ["self", "other"] (sp_cmp A.Ratio r_eq) := ok_Ratio___eq__ T
  refine T.F_Lot___eq__.ok sc_Lot___eq__ (fun vs H Q E h => ?_) (fun cdv A' outer s H vs Q E hr h => ?_)
  · obtain ⟨v, u, n, x, w, w', rfl, _⟩ := h
    rfl
  · obtain ⟨v, u, n, x, w, w', rfl, hv, hu, b1, b2, b3, q⟩ := h
    refine ⟨_, (pss_one (ps_ret (pe_and (pe_callB call_isi rfl T.z_isinstance (by decide +kernel) (pa_cons (pv 1) (pa_cons (pe_glob (v := .ref A.Lot) rfl T.g_Lot rfl) pa_nil))) (pe_and (pe_cmpR (op_eq_own T.k_Poly.ow T.m_Poly___eq__ G_Poly___eq__ (hr.mono (by decide)) T.b_Poly___eq__ pass0) (pe_fld (pv 0) rfl) (pe_fld (pv 1) rfl) (nomark _)) (pe_one (pe_cmpR (op_eqB (rcB_tup eqB_mon (RcB.eqB (rcB_ins (G_Ratio___eq__.imp eqB_imp) T.m_Ratio___eq__.at_ T.m_Ratio___eq__.fn T.b_Ratio___eq__ pass0) eqB_ref)) (hr.mono (by decide))) (pe_fld (pv 0) rfl) (pe_fld (pv 1) rfl) (nomark _))))))), ?_⟩
    have cl := T.k_Lot.cl
    obtain ⟨a, dx, p, tp, ys, c, rfl, h1, h2, h3, h4, h5, h6⟩ := hv
    obtain ⟨a', dx', p', tp', ys', c', rfl, h1', h2', h3', h4', h5', h6'⟩ := hu
    refine ⟨_, rfl, .ref a', .ref A.Lot, _, _, true, rfl, .own _, T.k_Lot.ty h1', kit_self, true, rfl, iteT ?_⟩
    refine ⟨_, rfl, a, A.Lot, dx, _, _, rfl, h1, cl, T.n_Lot_poly, rfl, _, rfl, a', A.Lot, dx', _, _, rfl, h1', cl, T.n_Lot_poly, rfl, h3.ins, .inr h3'.ins, p, p', _, _, rfl, h3, h3', b1, fun H1 k1 => ⟨true, rfl, iteT ?_⟩⟩
    refine ⟨_, rfl, a, A.Lot, dx, _, _, rfl, k1 _ _ h1, cl, T.n_Lot_begin, rfl, _, rfl, a', A.Lot, dx', _, _, rfl, k1 _ _ h1', cl, T.n_Lot_begin, rfl, _, ⟨tp, tp', ys, ys', fun k => decide (momq w x n k = momq w' x n k), rfl, rfl, .of (k1 _ _ h4), .of (k1 _ _ h4'), fun i u v e e' => ?_, rfl⟩, fun H' k => ?_⟩
    · have li := get_lt e
      exact insB_ratd ((h6.same k1) i u e) ((h6'.same k1) i v e') (b2 i (by omega)) (b3 i (by omega))
    · have q2 := q H' (k1.trans k)
      rw [show (((List.range (min ys.length ys'.length)).all fun k => decide (momq w x n k = momq w' x n k)) && ys.length == ys'.length) = (List.range n).all fun k => decide (momq w x n k = momq w' x n k) by rw [h5, h5', Nat.min_self, beq_self_eq_true, Bool.and_true]]
      exact q2
def sp_part (K : PySem.W.Frag) (A : Ad) : Sp := fun vs H Q _ => ∃ y u, vs = [y, u] ∧ ((BadPts K A H y ∧ ∀ H', Same H H' → Q (.str "points") H') ∨
  ∃ (n : Nat) (x : Nat → Rat), GoodPts A H y n x ∧ ((BadWts K A H u n ∧ ∀ H', Same H H' → Q (.str "weights") H') ∨
    ∃ (w : Nat → Rat) (X W : Nat → Int) (q s : Int), GoodWts A H u n w ∧ LotI n x w X W q s ∧ ∀ H', Same H H' → Q (.str "") H'))
theorem ok__law_part (T : Txt K mg A D) : FnOk P w K mg base CX0 13 A.f__law_part D.f__law_part ["_law_points", "_law_weights"] (sp_part K A) := by
  have G_lot_at : FnOk P w K mg base (L2.CX P w) 12 A.f_lot_at D.f_lot_at ["points", "weights"] (sp_lotatX K A) := ok_lot_at T
  refine T.F__law_part.ok sc__law_part (fun vs H Q E h => ?_) (fun cdv A' outer s H vs Q E hr h => ?_)
  · obtain ⟨y, u, rfl, _⟩ := h
    rfl
  · obtain ⟨y, u, rfl, h⟩ := h
    refine ⟨_, (pss_cons (ps_set (i := 2) sc__law_part.nd rfl (.inl rfl) pe_str)
  (pss_cons (ps_try_as (i := 3) rfl rfl sc__law_part.nd rfl rfl ⟨rfl, by decide, .inl T.g_NoLot⟩ takes0 (fun W pn xe tk _ => (pss_one (ps_expr (pe_callS G_lot_at (hr.mono (by decide)) rfl T.g_lot_at T.F_lot_at.kp T.b_lot_at (fun σ => passAt tk σ) (by exact (pa_cons (pv 0) (pa_cons (pv 1) pa_nil))))))) (fun oa oe cls d pn hz hf => (pss_cons (ps_set (i := 2) sc__law_part.nd rfl (.inl rfl) (pe_xf T.x_NoLot T.n_NoLot_part hz hf (pv 3)))
  (pss_one (ps_if (PW.pt (pw_or (pt_not (pt_val (pe_callB (call_isD T.c_NoLot hz hf) rfl T.z_isinstance (by decide +kernel) (pa_cons (pv 3) (pa_cons (pe_glob (v := .ref A.MeansError) rfl T.g_MeansError rfl) pa_nil))))) (pw_or1 (pt_val (pe_callB (call_isD T.c_NoLot hz hf) rfl T.z_isinstance (by decide +kernel) (pa_cons (pv 3) (pa_cons (pe_glob (v := .ref A.NoBar) rfl T.g_NoBar rfl) pa_nil))))))) (pss_one (ps_set (i := 2) sc__law_part.nd rfl (.inl rfl) pe_str)) pss_nil)))))
  (pss_one (ps_ret (pv 2))))), ?_⟩
    rcases h with ⟨hb, q⟩ | ⟨n, x, hg, ⟨hb, q⟩ | ⟨w, X, W, qi, s, hw, hI, q⟩⟩
    · refine ⟨_, rfl, _, rfl, y, u, rfl, .inl ⟨hb, fun G p k np => ⟨true, T.em_NoLot, fun _ a0 _ => ?_, fun n => Bool.noConfusion n⟩⟩⟩
      refine ⟨_, rfl, rfl, rfl, p, _, _, rfl, upd_same, rfl, ?_⟩
      refine ⟨_, rfl, .ref A.MeansError, _, true, p, _, rfl, rfl, rfl, upd_same, .own _, T.kit_NoLot_MeansError, true, rfl, iteF ?_⟩
      refine ⟨_, rfl, .ref A.NoBar, _, false, p, _, rfl, rfl, rfl, upd_same, .own _, T.kit_NoLot_NoBar, false, rfl, iteF ?_⟩
      exact ⟨_, rfl, q _ (k.trans (same_upd np))⟩
    · refine ⟨_, rfl, _, rfl, y, u, rfl, .inr ⟨n, x, hg, .inl ⟨hb, fun G p k np => ⟨true, T.em_NoLot, fun _ a0 _ => ?_, fun n => Bool.noConfusion n⟩⟩⟩⟩
      refine ⟨_, rfl, rfl, rfl, p, _, _, rfl, upd_same, rfl, ?_⟩
      refine ⟨_, rfl, .ref A.MeansError, _, true, p, _, rfl, rfl, rfl, upd_same, .own _, T.kit_NoLot_MeansError, true, rfl, iteF ?_⟩
      refine ⟨_, rfl, .ref A.NoBar, _, false, p, _, rfl, rfl, rfl, upd_same, .own _, T.kit_NoLot_NoBar, false, rfl, iteF ?_⟩
      exact ⟨_, rfl, q _ (k.trans (same_upd np))⟩
    · exact ⟨_, rfl, _, rfl, y, u, rfl, .inr ⟨n, x, hg, .inr ⟨w, X, W, qi, s, hw, hI, fun H' v k hv => ⟨_, rfl, q H' k⟩⟩⟩⟩
end

end Mo

namespace Mo
open PySem PySem.Spec PyProof.Rows L2 MoL MoW
open C8 (pss_cut tCut)
section
variable {P : Program} {w : World} {K : PySem.W.Frag} {mg : Str → Option Value} {base : Heap} {A : Ad} {D : Fd}
theorem set_cat {xs : List V} {a : Nat} {v : V} (ha : a < xs.length) : xs.take a ++ [v] ++ xs.drop (a + 1) = xs.set a v := by
  rw [List.set_eq_take_append_cons_drop, if_pos ha, List.append_assoc]
  rfl
theorem set_at {xs : List V} {a k : Nat} {v u : V} (e : (xs.set a v)[k]? = some u) : (k = a ∧ u = v) ∨ (k ≠ a ∧ xs[k]? = some u) := by
  rw [List.getElem?_set] at e
  split at e
  · rename_i h
    split at e
    · cases e
      exact .inl ⟨h.symm, rfl⟩
    · cases e
  · rename_i h
    exact .inr ⟨fun z => h z.symm, e⟩
theorem nums_set {C : Addr} {H : Hp} {xs : List V} {f : Nat → Rat} {a : Nat} {v : V} {z : Rat} (h : NumsV C H xs f) (hv : NumV C H v z) : NumsV C H (xs.set a v) fun k => if k = a then z else f k := fun k u e => by
  rcases set_at e with ⟨e1, e2⟩ | ⟨e1, e2⟩
  · show NumV C H u (if k = a then z else f k)
    rw [if_pos e1, e2]
    exact hv
  · show NumV C H u (if k = a then z else f k)
    rw [if_neg e1]
    exact h k u e2
theorem rats_set {C : Addr} {H : Hp} {xs : List V} {f : Nat → Rat} {a : Nat} {v : V} {z : Rat} (h : RatsV C H xs f) (hv : RatV C H v z) : RatsV C H (xs.set a v) fun k => if k = a then z else f k := fun k u e => by
  rcases set_at e with ⟨e1, e2⟩ | ⟨e1, e2⟩
  · show RatV C H u (if k = a then z else f k)
    rw [if_pos e1, e2]
    exact hv
  · show RatV C H u (if k = a then z else f k)
    rw [if_neg e1]
    exact h k u e2
theorem flags_set {C : Addr} {H : Hp} {xs : List V} {f : Nat → Rat} {a : Nat} {v : V} (h : NumsV C H xs f) (hv : NoNum K C H v) : FlagsV K C H (xs.set a v) fun k => decide (k ≠ a) := fun k u e => by
  rcases set_at e with ⟨e1, e2⟩ | ⟨e1, e2⟩
  · exact .inr ⟨decide_eq_false fun z => z e1, e2 ▸ hv⟩
  · exact .inl ⟨decide_eq_true e1, (h k u e2).kind⟩
theorem flag_no {n a : Nat} (ha : a < n) : (List.range n).all (fun k => decide (k ≠ a)) = false := by
  rw [List.all_eq_false]
  exact ⟨a, List.mem_range.mpr ha, by simp⟩
theorem cut_from (xs : List V) (k : Nat) : cutV xs (some (k : Int)) none = xs.drop k := by
  rcases Nat.lt_or_ge xs.length k with h | h
  · unfold cutV
    have e2 : HT.sIx xs.length 0 (some (k : Int)) = xs.length := by
      show (if (k : Int) < 0 then ((k : Int) + (xs.length : Int)).toNat else min (k : Int).toNat xs.length) = _
      rw [if_neg (by omega)]
      omega
    rw [e2, List.drop_of_length_le (Nat.le_refl _), List.drop_of_length_le (by omega), List.take_nil]
  · exact cut_drop xs k h
/-- the two lists -/
structure PtW (A : Ad) (G : Hp) (f pa wa : Addr) (xs ws : List V) (n : Nat) (x w : Nat → Rat) : Prop where
  F : FeedAt G f
  pf : pa ≠ f
  wf : wa ≠ f
  p : G pa = some (.lst xs)
  u : G wa = some (.lst ws)
  rx : RatsV A.Ratio G xs x
  rw_ : RatsV A.Ratio G ws w
  lx : xs.length = n
  lw : ws.length = n
section
variable {G G' : Hp} {f pa wa : Addr} {xs ws : List V} {n : Nat} {x w : Nat → Rat}
theorem PtW.same (h : PtW A G f pa wa xs ws n x w) (k : Same G G') : PtW A G' f pa wa xs ws n x w := ⟨h.F.same k, h.pf, h.wf, k _ _ h.p, k _ _ h.u, h.rx.same k, h.rw_.same k, h.lx, h.lw⟩
theorem PtW.stp (h : PtW A G f pa wa xs ws n x w) (k : Stp f G G') : PtW A G' f pa wa xs ws n x w := ⟨k.feed, h.pf, h.wf, k.keep _ _ h.pf h.p, k.keep _ _ h.wf h.u, h.rx.stp h.F k, h.rw_.stp h.F k, h.lx, h.lw⟩
end
/-- what is no number -/
theorem strange (T : Txt K mg A D) {l1 oa : Addr} {k : Int} (k0 : 0 ≤ k) (k1 : k < 5) : ∃ vb, atI [V.non, .str "1", .bl true, .ref l1, .ref oa] k = some vb ∧ ∀ G dx fs, G l1 = some (.lst [.int 1]) → G oa = some (.ins A.Poly dx fs) → NoNum K A.Ratio G vb := by
  rcases (by omega : k = 0 ∨ k = 1 ∨ k = 2 ∨ k = 3 ∨ k = 4) with e | e | e | e | e <;> subst e
  · exact ⟨_, rfl, fun G _ _ _ _ => ⟨_, .base .non, T.ik_NoneType, _, false, false, .base .non, kit_ty (by decide +kernel), (fun z => nomatch z), rfl⟩⟩
  · exact ⟨_, rfl, fun G _ _ _ _ => ⟨_, .base (.str _), T.ik_str, _, false, false, .base (.str _), kit_ty (by decide +kernel), (fun z => nomatch z), rfl⟩⟩
  · exact ⟨_, rfl, fun G _ _ _ _ => ⟨_, .base (.bl true), T.ik_bool, _, true, true, .base (.bl true), kit_ty (by decide +kernel), fun _ => kit_ty (by decide +kernel), rfl⟩⟩
  · exact ⟨_, rfl, fun G _ _ h _ => ⟨_, .base (.lst h), T.ik_list, _, false, false, .base (.lst h), kit_ty (by decide +kernel), (fun z => nomatch z), rfl⟩⟩
  · exact ⟨_, rfl, fun G _ _ _ h => ⟨_, T.k_Poly.ty h, T.kit_PR, _, false, false, T.k_Poly.ty h, T.k_Poly.ki, (fun z => nomatch z), rfl⟩⟩
/-- what is no list -/
theorem nolist {d : Addr} {k : Int} (k0 : 0 ≤ k) (k1 : k < 4) : ∃ vb, atI [V.non, .str "11", .int 3, .ref d] k = some vb ∧ ∀ G : Hp, G d = some (.dK []) → NoSeq K G vb := by
  rcases (by omega : k = 0 ∨ k = 1 ∨ k = 2 ∨ k = 3) with e | e | e | e <;> subst e
  · exact ⟨_, rfl, fun G _ => ⟨_, .base .non, kit_ty (by decide +kernel), kit_ty (by decide +kernel)⟩⟩
  · exact ⟨_, rfl, fun G _ => ⟨_, .base (.str _), kit_ty (by decide +kernel), kit_ty (by decide +kernel)⟩⟩
  · exact ⟨_, rfl, fun G _ => ⟨_, .base (.int _), kit_ty (by decide +kernel), kit_ty (by decide +kernel)⟩⟩
  · exact ⟨_, rfl, fun G h => ⟨_, .base (.dK h), kit_ty (by decide +kernel), kit_ty (by decide +kernel)⟩⟩
theorem worse {C : Addr} {xr xq : Addr} {vb : V} {k : Int} (k0 : 0 ≤ k) (k1 : k < 5) : ∃ vw, atI [V.int 0, .ref xr, .int (-1), .ref xq, vb] k = some vw ∧ ∀ G, RatV C G (.ref xr) (((0 : Int) : Rat) / ((1 : Int) : Rat)) → RatV C G (.ref xq) (((-1 : Int) : Rat) / ((9 : Int) : Rat)) → NoNum K C G vb → (∃ z, NumV C G vw z ∧ z ≤ 0 ∧ Bd 3900 3900 z) ∨ NoNum K C G vw := by
  rcases (by omega : k = 0 ∨ k = 1 ∨ k = 2 ∨ k = 3 ∨ k = 4) with e | e | e | e | e <;> subst e
  · exact ⟨_, rfl, fun G _ _ _ => .inl ⟨_, .inl ⟨0, rfl, rfl⟩, by decide +kernel, .int (by decide) (by decide)⟩⟩
  · exact ⟨_, rfl, fun G h _ _ => .inl ⟨_, h.num, by decide +kernel, .div (by decide) (by decide) (by decide)⟩⟩
  · exact ⟨_, rfl, fun G _ _ _ => .inl ⟨_, .inl ⟨-1, rfl, rfl⟩, by decide +kernel, .int (by decide) (by decide)⟩⟩
  · exact ⟨_, rfl, fun G _ h _ => .inl ⟨_, h.num, by decide +kernel, .div (by decide) (by decide) (by decide)⟩⟩
  · exact ⟨_, rfl, fun G _ _ h => .inr h⟩
/-- xs[:a] + [te] + xs[a + 1:] -/
theorem put_in {K' : PySem.W.Frag} {σ : L2.St} {H : Hp} {Q : VK} {i j a : Nat} {la : Addr} {xs : List V} {te : TE} {Pv : V → Hp → Prop} (hi : σ[i]? = some (some (V.ref la))) (hj : σ[j]? = some (some (V.int (a : Int)))) (hl : H la = some (.lst xs)) (ha : a < xs.length) (l60 : xs.length ≤ 60)
    (hte : ∀ H1 (R : VK), Same H H1 → (∀ v H2, Same H1 H2 → Pv v H2 → R v H2) → te σ H1 R)
    (q : ∀ v H2 G p, Same H H2 → Pv v H2 → Same H2 G → H2 p = none → G p = some (.lst (xs.set a v)) → Q (.ref p) G) :
    tOp rCat (tOp rCat (tSl (rSlL K') (tVar i) tNoPart (tPart (tVar j))) (tLst (tCons te tNil))) (tSl (rSlL K') (tVar i) (tPart (tOp (rI0 fun i j => V.int (i + j)) (tVar j) (tC (V.int 1)))) tNoPart) σ H Q := by
  refine ⟨_, hi, _, hj, _, rfl, la, xs, rfl, .of hl, fun pA nA => ?_⟩
  have j1 := same_upd (o := .lst (cutV xs none (some (a : Int)))) nA
  have hA : upd H pA (.lst (cutV xs none (some (a : Int)))) pA = some (.lst (xs.take a)) := by rw [upd_same, cut_to]
  generalize upd H pA (.lst (cutV xs none (some (a : Int)))) = H1 at j1 hA
  refine hte H1 _ j1 fun v H2 k2 pv => ?_
  refine ⟨by show 1 ≤ sizeLine; decide, fun pB nB => ?_⟩
  have j3 := same_upd (o := .lst [v]) nB
  have hB : upd H2 pB (.lst [v]) pB = some (.lst [v]) := upd_same
  generalize upd H2 pB (.lst [v]) = H3 at j3 hB
  refine ⟨pA, pB, _, _, rfl, rfl, j3 _ _ (k2 _ _ hA), hB, by rw [List.length_take]; show _ + 1 ≤ sizeLine; exact Nat.le_of_lt (small1000 (by omega)), fun pC nC => ?_⟩
  have j4 := same_upd (o := .lst (xs.take a ++ [v])) nC
  have hC : upd H3 pC (.lst (xs.take a ++ [v])) pC = some (.lst (xs.take a ++ [v])) := upd_same
  generalize upd H3 pC (.lst (xs.take a ++ [v])) = H4 at j4 hC
  have k4 := (j1.trans k2).trans (j3.trans j4)
  refine ⟨_, hi, _, hj, _, _, rfl, rfl, _, rfl, la, xs, rfl, .of (k4 _ _ hl), fun pD nD => ?_⟩
  have j5 := same_upd (o := .lst (cutV xs (some ((a : Int) + 1)) none)) nD
  have hD : upd H4 pD (.lst (cutV xs (some ((a : Int) + 1)) none)) pD = some (.lst (xs.drop (a + 1))) := by rw [upd_same, show (a : Int) + 1 = ((a + 1 : Nat) : Int) from rfl, cut_from]
  generalize upd H4 pD (.lst (cutV xs (some ((a : Int) + 1)) none)) = H5 at j5 hD
  have k25 := (j3.trans j4).trans j5
  refine ⟨pC, pD, _, _, rfl, rfl, j5 _ _ hC, hD, by rw [List.length_append, List.length_take, List.length_drop]; show _ + 1 + _ ≤ sizeLine; exact Nat.le_of_lt (small1000 (by omega)), fun pE nE => ?_⟩
  have j6 := same_upd (o := .lst (xs.take a ++ [v] ++ xs.drop (a + 1))) nE
  have hE : upd H5 pE (.lst (xs.take a ++ [v] ++ xs.drop (a + 1))) pE = some (.lst (xs.set a v)) := by rw [upd_same, set_cat ha]
  exact q v H2 _ pE (j1.trans k2) pv (k25.trans j6) (k25.free nE) hE
/-- the item before, the last one before the first -/
theorem at_prev {xs : List V} {a : Nat} (ha : a < xs.length) : ∃ (c : Nat) (y : V), atI xs ((a : Int) - 1) = some y ∧ xs[c]? = some y ∧ (c + 1 = a ∨ (a = 0 ∧ c + 1 = xs.length)) := by
  rcases Nat.eq_zero_or_pos a with e | e
  · subst e
    have h := List.getElem?_eq_getElem (show xs.length - 1 < xs.length by omega)
    refine ⟨xs.length - 1, _, ?_, h, .inr ⟨rfl, by omega⟩⟩
    unfold atI ixN
    rw [if_neg (by omega), if_pos (by omega), Option.bind_some, show (((0 : Nat) : Int) - 1 + (xs.length : Int)).toNat = xs.length - 1 by omega]
    exact h
  · have h := List.getElem?_eq_getElem (show a - 1 < xs.length by omega)
    refine ⟨a - 1, _, ?_, h, .inl (by omega)⟩
    rw [show (a : Int) - 1 = ((a - 1 : Nat) : Int) by omega]
    exact atI_nat h
theorem bad_set {G : Hp} {p : Addr} {ws : List V} {n a : Nat} {w : Nat → Rat} {v : V} (hp : G p = some (.lst (ws.set a v))) (lw : ws.length = n) (n8 : n ≤ 8) (an : a < n) (rw_ : RatsV A.Ratio G ws w) (bw : ∀ k, k < n → Bd 3900 3900 (w k)) (bad : (∃ z, NumV A.Ratio G v z ∧ z ≤ 0 ∧ Bd 3900 3900 z) ∨ NoNum K A.Ratio G v) : BadWts K A G (.ref p) n := by
  have ls : (ws.set a v).length = n := by rw [List.length_set, lw]
  refine .inr ⟨p, _, rfl, .inl hp, by omega, ?_⟩
  rcases bad with ⟨z, hz, z0, bz⟩ | hn
  · refine .inr ⟨ls, _, nums_set rw_.nums hz, fun k hk => ?_, a, an, ?_⟩
    · show Bd _ _ (if k = a then z else w k)
      split
      · exact bz
      · exact bw k hk
    · show (if a = a then z else w a) ≤ 0
      rw [if_pos rfl]
      exact z0
  · exact .inl ⟨_, flags_set rw_.nums hn, .inr (by rw [ls]; exact flag_no an)⟩
def sp_spoiled (K : PySem.W.Frag) (A : Ad) : Sp := fun vs H Q _ => ∃ (f pa wa : Addr) (xs ws : List V) (n : Nat) (x w : Nat → Rat) (X W : Nat → Int) (q s : Int), vs = [.ref f, .ref pa, .ref wa] ∧ PtW A H f pa wa xs ws n x w ∧ LotI n x w X W q s ∧ (∀ i j, i < j → j < n → x i ≠ x j) ∧ (∀ j, j < n → 0 < w j) ∧ 0 < n ∧ ∀ H', Stp f H H' → Q (.bl true) H'
theorem ok__law_spoiled (T : Txt K mg A D) : FnOk P w K mg base CX0 14 A.f__law_spoiled D.f__law_spoiled ["_law_feed_here", "_law_points", "_law_weights"] (sp_spoiled K A) := by
  have G_Poly_init : FnOk P w K mg base CX0 6 A.f_Poly___init__ D.f_Poly___init__ ["self", "coefficients"] (sp_poly K A) := ok_Poly___init__ T
  have b_Poly_init1 := T.b_Poly___init__
  have d_Poly_init1 : Vals [] [] := .nil
  have G_Ratio_init : FnOk P w K mg base CX0 2 A.f_Ratio___init__ D.f_Ratio___init__ ["self", "top", "bottom"] (sp_init A.Ratio) := ok_Ratio___init__ T
  obtain ⟨ds1, d_Ratio_init1, b_Ratio_init1⟩ := T.b1_Ratio___init__
  have b_Ratio_init2 := T.b_Ratio___init__
  have d_Ratio_init2 : Vals [] [] := .nil
  have G_Ratio___add__ : FnOk P w K mg base CX0 5 A.f_Ratio___add__ D.f_Ratio___add__ ["self", "other"] (sp_bin A.Ratio f_sum) := ok_Ratio___add__ T
  have G__law_part : FnOk P w K mg base CX0 13 A.f__law_part D.f__law_part ["_law_points", "_law_weights"] (sp_part K A) := ok__law_part T
  have G__law_take : FnOk P w K mg base CX0 1 A.f__law_take D.f__law_take ["_law_feed_here", "_law_size"] (sp_take) := ok__law_take T
  refine T.F__law_spoiled.ok sc__law_spoiled (fun vs H Q E h => ?_) (fun cdv A' outer s H vs Q E hr h => ?_)
  · obtain ⟨f, pa, wa, xs, ws, n, x, w, X, W, qi, s, rfl, _⟩ := h
    rfl
  · obtain ⟨f, pa, wa, xs, ws, n, x, w, X, W, qi, s, rfl, hp, hI, hd, hw, n0, q⟩ := h
    refine ⟨_, (pss_cons (ps_set (i := 3) sc__law_spoiled.nd rfl (.inl rfl) (pe_lst (pa_cons pe_non (pa_cons pe_str (pa_cons pe_bl (pa_cons (pe_lst (pa_cons pe_int pa_nil)) (pa_cons (pe_make T.M_Poly G_Poly_init (hr.mono (by decide)) rfl T.g_Poly b_Poly_init1 d_Poly_init1 pass0 (pa_cons (pe_lst (pa_cons pe_int pa_nil)) pa_nil)) pa_nil)))))))
  (pss_cons (ps_set (i := 4) sc__law_spoiled.nd rfl (.inl rfl) (pe_ix ix_list (pv 3) (pe_call G__law_take (hr.mono (by decide)) rfl T.g__law_take T.F__law_take.kp T.b__law_take .nil pass0 (pa_cons (pv 0) (pa_cons pe_int pa_nil))) (fun _ _ => rfl)))
  (pss_cons (ps_set (i := 5) sc__law_spoiled.nd rfl (.inl rfl) (pe_call G__law_take (hr.mono (by decide)) rfl T.g__law_take T.F__law_take.kp T.b__law_take .nil pass0 (pa_cons (pv 0) (pa_cons (pe_callB call_len_seq rfl T.z_len (by decide +kernel) (pa_cons (pv 1) pa_nil)) pa_nil))))
  (pss_cons (ps_set (i := 6) sc__law_spoiled.nd rfl (.inl rfl) (pe_ix ix_list (pe_lst (pa_cons pe_int (pa_cons (pe_make T.M_Ratio G_Ratio_init (hr.mono (by decide)) rfl T.g_Ratio b_Ratio_init1 d_Ratio_init1 pass0 (pa_cons pe_int pa_nil)) (pa_cons (pe_un un_neg pe_int) (pa_cons (pe_make T.M_Ratio G_Ratio_init (hr.mono (by decide)) rfl T.g_Ratio b_Ratio_init2 d_Ratio_init2 pass0 (pa_cons (pe_un un_neg pe_int) (pa_cons pe_int pa_nil))) (pa_cons (pv 4) pa_nil)))))) (pe_call G__law_take (hr.mono (by decide)) rfl T.g__law_take T.F__law_take.kp T.b__law_take .nil pass0 (pa_cons (pv 0) (pa_cons pe_int pa_nil))) (fun _ _ => rfl)))
  (pss_cons (ps_set (i := 7) sc__law_spoiled.nd rfl (.inl rfl) (pe_op op_cat (pe_op op_cat (pe_slice sl_list (pv 2) po_none (po_some (pv 5))) (pe_lst (pa_cons (pv 6) pa_nil))) (pe_slice sl_list (pv 2) (po_some (pe_op op_add (pv 5) pe_int)) po_none)))
  (pss_cons (ps_if (PW.pt (pw_or (pt_cmpR op_ne (pe_call G__law_part (hr.mono (by decide)) rfl T.g__law_part T.F__law_part.kp T.b__law_part .nil pass0 (pa_cons (pv 1) (pa_cons (pv 7) pa_nil))) pe_str (nomark _)) (pw_or1 (pt_cmpR op_ne (pe_call G__law_part (hr.mono (by decide)) rfl T.g__law_part T.F__law_part.kp T.b__law_part .nil pass0 (pa_cons (pv 1) (pa_cons (pe_op op_cat (pv 2) (pe_lst (pa_cons pe_int pa_nil))) pa_nil))) pe_str (nomark _))))) (pss_one (ps_ret pe_bl)) pss_nil)
  (pss_cons (ps_if (PW.pt (pw_or (pt_cmpR op_ne (pe_call G__law_part (hr.mono (by decide)) rfl T.g__law_part T.F__law_part.kp T.b__law_part .nil pass0 (pa_cons (pv 1) (pa_cons (pe_slice sl_list (pv 2) (po_some pe_int) po_none) pa_nil))) pe_str (nomark _)) (pw_or1 (pt_cmpR op_ne (pe_call G__law_part (hr.mono (by decide)) rfl T.g__law_part T.F__law_part.kp T.b__law_part .nil pass0 (pa_cons (pv 1) (pa_cons (pe_ix ix_list (pe_lst (pa_cons pe_non (pa_cons pe_str (pa_cons pe_int (pa_cons pe_dnewK pa_nil))))) (pe_call G__law_take (hr.mono (by decide)) rfl T.g__law_take T.F__law_take.kp T.b__law_take .nil pass0 (pa_cons (pv 0) (pa_cons pe_int pa_nil))) (fun _ _ => rfl)) pa_nil))) pe_str (nomark _))))) (pss_one (ps_ret pe_bl)) pss_nil)
  (pss_cons (ps_if (pt_cmpR op_ne (pe_call G__law_part (hr.mono (by decide)) rfl T.g__law_part T.F__law_part.kp T.b__law_part .nil pass0 (pa_cons (pe_op op_cat (pe_op op_cat (pe_slice sl_list (pv 1) po_none (po_some (pv 5))) (pe_lst (pa_cons (pv 4) pa_nil))) (pe_slice sl_list (pv 1) (po_some (pe_op op_add (pv 5) pe_int)) po_none)) (pa_cons (pv 7) pa_nil))) pe_str (nomark _)) (pss_one (ps_ret pe_bl)) pss_nil)
  (pss_cut (ps_if (pt_cmpR op_gt (pe_callB call_len_seq rfl T.z_len (by decide +kernel) (pa_cons (pv 1) pa_nil)) pe_int (nomark _)) (pss_cons (ps_set (i := 8) sc__law_spoiled.nd rfl (.inl rfl) (pe_op op_cat (pe_op op_cat (pe_slice sl_list (pv 1) po_none (po_some (pv 5))) (pe_lst (pa_cons (pe_op (op_add_own T.k_Ratio.ow T.m_Ratio___add__ T.m_Ratio___radd__ G_Ratio___add__ (hr.mono (by decide)) T.b_Ratio___add__ pass0) (pe_ix ix_list (pv 1) (pe_op op_sub (pv 5) pe_int) (fun _ _ => rfl)) pe_int) pa_nil))) (pe_slice sl_list (pv 1) (po_some (pe_op op_add (pv 5) pe_int)) po_none)))
  (pss_one (ps_if (PW.pt (pw_or (pt_cmpR op_ne (pe_call G__law_part (hr.mono (by decide)) rfl T.g__law_part T.F__law_part.kp T.b__law_part .nil pass0 (pa_cons (pv 8) (pa_cons (pv 2) pa_nil))) pe_str (nomark _)) (pw_or1 (pt_cmpR op_ne (pe_call G__law_part (hr.mono (by decide)) rfl T.g__law_part T.F__law_part.kp T.b__law_part .nil pass0 (pa_cons (pe_callTy call_tuple_of rfl T.z_tuple (by decide +kernel) (pa_cons (pv 8) pa_nil)) (pa_cons (pv 7) pa_nil))) pe_str (nomark _))))) (pss_one (ps_ret pe_bl)) pss_nil))) pss_nil)
  (pss_one (ps_ret pe_bl))))))))))), ?_⟩
    have l8 := hI.len
    have lx := hp.lx
    have lw := hp.lw
    -- a strange value
    refine ⟨by show 1 ≤ sizeLine; decide, fun l1 n1 => ⟨by show 1 ≤ sizeLine; decide, fun l2 n2 => ?_⟩⟩
    have j1 := same_upd (o := .lst [V.int 1]) n1
    have j2 := same_upd (o := .lst [V.int 1]) n2
    have h1 := j2 _ _ (show upd H l1 (.lst [V.int 1]) l1 = some (.lst [V.int 1]) from upd_same)
    have h2 : upd (upd H l1 (.lst [V.int 1])) l2 (.lst [V.int 1]) l2 = some (.lst [V.int 1]) := upd_same
    have st0 := ((Stp.refl hp.F).of j1).of j2
    have hp := (hp.same j1).same j2
    generalize upd (upd H l1 (.lst [V.int 1])) l2 (.lst [V.int 1]) = H1 at *
    refine fun p0 dp0 np0 ndp0 nep0 => poly_make (f := rtq x 0) np0 ndp0 (.inl h2) (fun k y e => by
      match k, e with
      | 0, e => cases e; exact .inl ⟨1, rfl, rfl⟩
      | k + 1, e => simp at e) (by show 1 ≤ 60; decide) (fun k _ => (bd_rt hI (Nat.zero_le n)).mono (by decide) (by decide)) (fun k hk => rtq_out 0 k hk) fun H2 s2 k2 hp2 _ => ?_
    obtain ⟨⟨p0', dq, _, _, _, ep, hq, _⟩, _, _⟩ := hp2
    cases ep
    refine ⟨by show 5 ≤ sizeLine; decide, fun l3 n3 => ?_⟩
    have j3 := same_upd (o := .lst [V.non, .str "1", .bl true, .ref l1, .ref p0]) n3
    have st3 := (st0.of k2).of j3
    have hp := (hp.same k2).same j3
    have h1 := j3 _ _ (k2 _ _ h1)
    have hq := j3 _ _ hq
    have h3 : upd H2 l3 (.lst [V.non, .str "1", .bl true, .ref l1, .ref p0]) l3 = some (.lst [V.non, .str "1", .bl true, .ref l1, .ref p0]) := upd_same
    show tSeq _ _ _ _ (upd H2 l3 (.lst [V.non, .str "1", .bl true, .ref l1, .ref p0]))
    generalize upd H2 l3 (.lst [V.non, .str "1", .bl true, .ref l1, .ref p0]) = H3 at *
    clear j1 j2 j3 k2 st0 h2 n1 n2 n3 np0 ndp0
    have nf1 : l1 ≠ f := hp.F.ne h1 fun _ _ _ _ _ _ w => by cases w
    have nf3 : l3 ≠ f := hp.F.ne h3 fun _ _ _ _ _ _ w => by cases w
    have nfq : p0 ≠ f := hp.F.ne hq fun _ _ _ _ _ _ w => by cases w
    refine ⟨_, rfl, _, rfl, f, 5, rfl, hp.F, by decide, .ab (by decide) (by decide), fun H4 k kk0 kk1 st4 => ?_⟩
    obtain ⟨vb, hvb, no⟩ := strange (l1 := l1) (oa := p0) T kk0 kk1
    refine ⟨l3, _, k, _, rfl, rfl, .of (st4.keep _ _ nf3 h3), hvb, ?_⟩
    have hp := hp.stp st4
    have h1 := st4.keep _ _ nf1 h1
    have hq := st4.keep _ _ nfq hq
    have st4 := st3.trans st4
    clear st3 h3 hvb kk0 kk1
    -- the place
    refine ⟨_, rfl, _, rfl, pa, xs, rfl, .inl (.of hp.p), f, _, rfl, hp.F, by omega, .ab (by omega) (by omega), fun H5 at_ a0 a1 st5 => ?_⟩
    have hp := hp.stp st5
    have h1 := st5.keep _ _ nf1 h1
    have hq := st5.keep _ _ nfq hq
    have st5 := st4.trans st5
    obtain ⟨a, rfl⟩ : ∃ a : Nat, at_ = (a : Int) := ⟨at_.toNat, by omega⟩
    have an : a < n := by omega
    clear st4 a0 a1
    -- what is worse
    refine fun xr dxr nxr ndr ner => rat_make (by decide) (.ab (by decide) (by decide)) nxr ndr ner fun H6 k6 r6 => ?_
    refine ⟨_, rfl, _, rfl, fun xq dxq nxq ndq neq => rat_make (by decide) (.ab (by decide) (by decide)) nxq ndq neq fun H7 k7 r7 => ⟨_, rfl, by show 5 ≤ sizeLine; decide, fun l4 n4 => ?_⟩⟩
    have j4 := same_upd (o := .lst [V.int 0, .ref xr, .int (-1), .ref xq, vb]) n4
    have h4 : upd H7 l4 (.lst [V.int 0, .ref xr, .int (-1), .ref xq, vb]) l4 = some (.lst [V.int 0, .ref xr, .int (-1), .ref xq, vb]) := upd_same
    have k8 := (k6.trans k7).trans j4
    have r6 := (r6.same k7).same j4
    have r7 := r7.same j4
    have hp := hp.same k8
    have h1 := k8 _ _ h1
    have hq := k8 _ _ hq
    have st8 := st5.of k8
    generalize upd H7 l4 (.lst [V.int 0, .ref xr, .int (-1), .ref xq, vb]) = H8 at *
    clear j4 k6 k7 k8 n4 nxr ndr nxq ndq st5
    have nf4 : l4 ≠ f := hp.F.ne h4 fun _ _ _ _ _ _ w => by cases w
    refine ⟨_, rfl, f, 5, rfl, hp.F, by decide, .ab (by decide) (by decide), fun H9 k' kk0 kk1 st9 => ?_⟩
    have r6 := r6.stp hp.F st9
    have r7 := r7.stp hp.F st9
    obtain ⟨vw, hvw, bad⟩ := worse (K := K) (C := A.Ratio) (xr := xr) (xq := xq) (vb := vb) kk0 kk1
    refine ⟨l4, _, k', _, rfl, rfl, .of (st9.keep _ _ nf4 h4), hvw, ?_⟩
    have hp := hp.stp st9
    have h1 := st9.keep _ _ nf1 h1
    have hq := st9.keep _ _ nfq hq
    have st9 := st8.trans st9
    have bad := bad _ r6 r7 (no _ _ _ h1 hq)
    clear st8 h4 hvw kk0 kk1 r6 r7
    have bx : ∀ k, k < n → Bd 3900 3900 (x k) := fun k hk => (hI.bx hk).mono (by decide) (by decide)
    have bw : ∀ k, k < n → Bd 3900 3900 (w k) := fun k hk => (hI.bw hk).mono (by decide) (by decide)
    have ns : ∀ u : Str, (!decide (V.str u = V.str u)) = false := fun u => by rw [decide_eq_true rfl]; rfl
    have good : ∀ {G : Hp}, PtW A G f pa wa xs ws n x w → GoodPts A G (.ref pa) n x := fun hp => ⟨pa, xs, rfl, lx, l8, .inl ⟨.inl hp.p, hp.rx, bx, hd⟩⟩
    -- spoiled
    refine put_in (la := wa) (a := a) (xs := ws) (Pv := fun v _ => v = vw) rfl rfl hp.u (by omega) (by omega) (fun H1 R _ h => ⟨_, rfl, h vw H1 (Same.refl H1) rfl⟩) fun v H10 H11 ps ka ev kb nps hps => ?_
    subst ev
    have psf : ps ≠ f := ((hp.F.same ka).lt nps).symm
    have kab := ka.trans kb
    have hp := hp.same kab
    have h1 := kab _ _ h1
    have hq := kab _ _ hq
    have st11 := st9.of kab
    have bad : (∃ z, NumV A.Ratio H11 v z ∧ z ≤ 0 ∧ Bd 3900 3900 z) ∨ NoNum K A.Ratio H11 v := bad.imp (fun ⟨z, a, b⟩ => ⟨z, a.same kab, b⟩) fun h => h.same kab
    have hbs : BadWts K A H11 (.ref ps) n := bad_set hps lw l8 an hp.rw_ bw bad
    clear bad nps ka kb kab st9
    -- weights with the bad one
    refine ⟨_, rfl, _, rfl, .ref pa, .ref ps, rfl, .inr ⟨n, x, good hp, .inl ⟨hbs, fun H12 k12 => ⟨rfl, _, rfl, iteFe (ns _) ?_⟩⟩⟩⟩
    have hp := hp.same k12
    have h1 := k12 _ _ h1
    have hq := k12 _ _ hq
    have hps := k12 _ _ hps
    have hbs := hbs.same k12
    have st12 := st11.of k12
    clear k12 st11
    -- one more
    refine ⟨_, rfl, _, rfl, by show 1 ≤ sizeLine; decide, fun l5 n5 => ?_⟩
    have j5 := same_upd (o := .lst [V.int 1]) n5
    have h5 : upd H12 l5 (.lst [V.int 1]) l5 = some (.lst [V.int 1]) := upd_same
    generalize upd H12 l5 (.lst [V.int 1]) = H13 at j5 h5
    refine ⟨wa, l5, _, _, rfl, rfl, j5 _ _ hp.u, h5, by show ws.length + 1 ≤ sizeLine; exact Nat.le_of_lt (small1000 (by omega)), fun l6 n6 => ?_⟩
    have j6 := same_upd (o := .lst (ws ++ [V.int 1])) n6
    have h6 : upd H13 l6 (.lst (ws ++ [V.int 1])) l6 = some (.lst (ws ++ [V.int 1])) := upd_same
    generalize upd H13 l6 (.lst (ws ++ [V.int 1])) = H14 at j6 h6
    have k14 := j5.trans j6
    have hp := hp.same k14
    have st14 := st12.of k14
    have lw1 : (ws ++ [V.int 1]).length = n + 1 := by rw [List.length_append, lw]; rfl
    have hb6 : BadWts K A H14 (.ref l6) n := .inr ⟨l6, _, rfl, .inl h6, by omega, .inl ⟨fun _ => true, fun k u e => .inl ⟨rfl, by
      rw [List.getElem?_append] at e
      split at e
      · exact (hp.rw_.nums k u e).kind
      · match k - ws.length, e with
        | 0, e => cases e; exact .inl ⟨1, rfl⟩
        | j + 1, e => simp at e⟩, .inl (by omega)⟩⟩
    refine ⟨.ref pa, .ref l6, rfl, .inr ⟨n, x, good hp, .inl ⟨hb6, fun H15 k15 => ⟨rfl, _, rfl, iteFe (ns _) ?_⟩⟩⟩⟩
    have hp := hp.same k15
    have h1 := k15 _ _ (k14 _ _ h1)
    have hq := k15 _ _ (k14 _ _ hq)
    have hps := k15 _ _ (k14 _ _ hps)
    have hbs := (hbs.same k14).same k15
    have st15 := st14.of k15
    clear k14 k15 j5 j6 h5 h6 n5 n6 hb6 lw1 st12 st14
    -- one less
    refine ⟨_, rfl, _, rfl, _, rfl, wa, ws, rfl, .of hp.u, fun l7 n7 => ?_⟩
    have j7 := same_upd (o := .lst (cutV ws (some 1) none)) n7
    have h7 : upd H15 l7 (.lst (cutV ws (some 1) none)) l7 = some (.lst (ws.drop 1)) := by rw [upd_same, show (1 : Int) = ((1 : Nat) : Int) from rfl, cut_from]
    generalize upd H15 l7 (.lst (cutV ws (some 1) none)) = H16 at j7 h7
    have hp := hp.same j7
    have lw7 : (ws.drop 1).length = n - 1 := by rw [List.length_drop, lw]
    have hb7 : BadWts K A H16 (.ref l7) n := .inr ⟨l7, _, rfl, .inl h7, by omega, .inl ⟨fun _ => true, fun k u e => .inl ⟨rfl, by
      rw [List.getElem?_drop] at e
      exact (hp.rw_.nums _ u e).kind⟩, .inl (by omega)⟩⟩
    refine ⟨.ref pa, .ref l7, rfl, .inr ⟨n, x, good hp, .inl ⟨hb7, fun H17 k17 => ⟨rfl, _, rfl, iteFe (ns _) ?_⟩⟩⟩⟩
    have hp := hp.same k17
    have k17 := j7.trans k17
    have h1 := k17 _ _ h1
    have hq := k17 _ _ hq
    have st17 := st15.of k17
    clear k17 j7 h7 n7 hb7 lw7 st15 hbs hps
    -- no list
    refine ⟨_, rfl, fun dd ndd => ⟨by show 4 ≤ sizeLine; decide, fun l9 n9 => ?_⟩⟩
    have j8 := same_upd (o := .dK []) ndd
    have j9 := same_upd (o := .lst [V.non, .str "11", .int 3, .ref dd]) n9
    have hdd := j9 _ _ (show upd H17 dd (.dK []) dd = some (.dK []) from upd_same)
    have h9 : upd (upd H17 dd (.dK [])) l9 (.lst [V.non, .str "11", .int 3, .ref dd]) l9 = some (.lst [V.non, .str "11", .int 3, .ref dd]) := upd_same
    have k18 := j8.trans j9
    generalize upd (upd H17 dd (.dK [])) l9 (.lst [V.non, .str "11", .int 3, .ref dd]) = H18 at *
    have hp := hp.same k18
    have h1 := k18 _ _ h1
    have hq := k18 _ _ hq
    have st18 := st17.of k18
    clear k18 j8 j9 ndd n9 st17
    have nf9 : l9 ≠ f := hp.F.ne h9 fun _ _ _ _ _ _ w => by cases w
    have nfd : dd ≠ f := hp.F.ne hdd fun _ _ _ _ _ _ w => by cases w
    refine ⟨_, rfl, f, 4, rfl, hp.F, by decide, .ab (by decide) (by decide), fun H19 k2 kk0 kk1 st19 => ?_⟩
    obtain ⟨vn, hvn, nol⟩ := nolist (K := K) (d := dd) kk0 kk1
    refine ⟨l9, _, k2, _, rfl, rfl, .of (st19.keep _ _ nf9 h9), hvn, ?_⟩
    have hp := hp.stp st19
    have h1 := st19.keep _ _ nf1 h1
    have hq := st19.keep _ _ nfq hq
    have hdd := st19.keep _ _ nfd hdd
    have st19 := st18.trans st19
    refine ⟨.ref pa, vn, rfl, .inr ⟨n, x, good hp, .inl ⟨.inl (nol _ hdd), fun H20 k20 => ⟨rfl, _, rfl, iteFe (ns _) ?_⟩⟩⟩⟩
    have hp := hp.same k20
    have h1 := k20 _ _ h1
    have hq := k20 _ _ hq
    have st20 := st19.of k20
    clear k20 st18 st19 h9 hdd hvn nol kk0 kk1 nf9 nfd
    -- a bad point
    refine put_in (la := pa) (a := a) (xs := xs) (Pv := fun u _ => u = vb) rfl rfl hp.p (by omega) (by omega) (fun H1 R _ h => ⟨_, rfl, h vb H1 (Same.refl H1) rfl⟩) fun u H21 H22 pp ka eu kb npp hpp => ?_
    subst eu
    have kab := ka.trans kb
    have hp := hp.same kab
    have h1 := kab _ _ h1
    have hq := kab _ _ hq
    have st22 := st20.of kab
    have lpp : (xs.set a u).length = n := by rw [List.length_set, lx]
    have hbp : BadPts K A H22 (.ref pp) := .inr ⟨pp, _, rfl, .inl hpp, by omega, .inr (.inl ⟨by omega, _, flags_set hp.rx.nums (no _ _ _ h1 hq), by rw [lpp]; exact flag_no an⟩)⟩
    refine ⟨_, rfl, .ref pp, .ref ps, rfl, .inl ⟨hbp, fun H23 k23 => ⟨rfl, _, rfl, iteFe (ns _) ?_⟩⟩⟩
    have hp := hp.same k23
    have st23 := st22.of k23
    clear hbp lpp hpp npp ka kb kab k23 st20 st22 h1 hq
    -- a point twice
    refine ⟨fun _ G => Stp f H G, ?_, fun σ G st => q G st⟩
    refine ⟨_, rfl, pa, xs, rfl, .inl (.of hp.p), _, _, rfl, rfl, _, rfl, ite2 (fun c => ?_) (fun _ => st23)⟩
    have n2 : 1 < n := by have := of_decide_eq_true c; omega
    obtain ⟨c0, yc, hat, hyc, hc0⟩ := at_prev (xs := xs) (a := a) (by omega)
    have cn : c0 < n := by have := get_lt hyc; omega
    have ca : c0 ≠ a := by omega
    refine put_in (la := pa) (a := a) (xs := xs) (Pv := fun u G => RatV A.Ratio G u (x c0)) rfl rfl hp.p (by omega) (by omega) (fun H1 R k1 h => ?_) fun u H24 H25 pp ka ru kb npp hpp => ?_
    · have ry := (hp.rx c0 yc hyc).same k1
      refine ⟨_, rfl, _, rfl, _, _, rfl, rfl, pa, xs, _, _, rfl, rfl, .of (k1 _ _ hp.p), hat, ry.ins, .inl ⟨0, rfl⟩, _, _, x c0, ((0 : Int) : Rat), rfl, ry, .inl ⟨0, rfl, rfl⟩, (hI.bx cn).mono (by decide) (by decide), .int (by decide) (by decide), fun H2 v2 k2 r2 => h v2 H2 k2 (r2.to ?_)⟩
      rw [Rat.intCast_zero]
      exact Rat.add_zero _
    have kab := ka.trans kb
    have hp := hp.same kab
    have st25 := st23.of kab
    have rt := rats_set (a := a) hp.rx (ru.same kb)
    have lpp : (xs.set a u).length = n := by rw [List.length_set, lx]
    have dup : (List.range n).any (dupR fun k => if k = a then x c0 else x k) = true := by
      have e : (fun k => if k = a then x c0 else x k) c0 = (fun k => if k = a then x c0 else x k) a := by
        show (if c0 = a then x c0 else x c0) = if a = a then x c0 else x a
        rw [if_neg ca, if_pos rfl]
      rcases Nat.lt_or_gt_of_ne ca with h | h
      · exact dup_some h an e
      · exact dup_some h cn e.symm
    have bt : ∀ k, k < n → Bd 3900 3900 ((fun k => if k = a then x c0 else x k) k) := fun k hk => by
      show Bd _ _ (if k = a then x c0 else x k)
      split
      · exact bx c0 cn
      · exact bx k hk
    refine ⟨_, rfl, _, rfl, .ref pp, .ref wa, rfl, .inl ⟨.inr ⟨pp, _, rfl, .inl hpp, by omega, .inr (.inr ⟨by omega, _, rt, by rw [lpp]; exact bt, by rw [lpp]; exact dup⟩)⟩, fun H26 k26 => ⟨rfl, _, rfl, iteFe (ns _) ?_⟩⟩⟩
    have hpp := k26 _ _ hpp
    refine ⟨_, rfl, pp, _, rfl, .inl ⟨.of hpp, fun pt npt => ?_⟩⟩
    have j27 := same_upd (o := .tup (xs.set a u)) npt
    have hpt : upd H26 pt (.tup (xs.set a u)) pt = some (.tup (xs.set a u)) := upd_same
    generalize upd H26 pt (.tup (xs.set a u)) = H27 at j27 hpt
    have k27 := k26.trans j27
    refine ⟨_, rfl, .ref pt, .ref ps, rfl, .inl ⟨.inr ⟨pt, _, rfl, .inr hpt, by omega, .inr (.inr ⟨by omega, _, rt.same k27, by rw [lpp]; exact bt, by rw [lpp]; exact dup⟩)⟩, fun H28 k28 => ⟨rfl, _, rfl, iteFe (ns _) ?_⟩⟩⟩
    exact st25.of (k27.trans k28)
end

end Mo

namespace Mo
open PySem PySem.Spec PyProof.Rows L2 MoL MoW
open C8 (pss_cut tCut)
section
variable {P : Program} {w : World} {K : PySem.W.Frag} {mg : Str → Option Value} {base : Heap} {A : Ad} {D : Fd}
/-! ### points and weights in another order -/
def rtL : List Rat → Nat → Rat
  | [], k => if k = 0 then 1 else 0
  | c :: l, k => (if k = 0 then 0 else rtL l (k - 1)) - c * rtL l k
def sumL : List Rat → Rat
  | [] => 0
  | c :: l => sumL l + c
theorem rtL_perm {l l' : List Rat} (p : l.Perm l') : ∀ k, rtL l k = rtL l' k := by
  induction p with
  | nil => exact fun _ => rfl
  | cons a _ ih =>
    intro k
    show (if k = 0 then 0 else rtL _ (k - 1)) - a * rtL _ k = (if k = 0 then 0 else rtL _ (k - 1)) - a * rtL _ k
    rw [ih, ih]
  | swap a b l =>
    intro k
    show (if k = 0 then 0 else ((if k - 1 = 0 then 0 else rtL l (k - 1 - 1)) - a * rtL l (k - 1))) - b * ((if k = 0 then 0 else rtL l (k - 1)) - a * rtL l k) = (if k = 0 then 0 else ((if k - 1 = 0 then 0 else rtL l (k - 1 - 1)) - b * rtL l (k - 1))) - a * ((if k = 0 then 0 else rtL l (k - 1)) - b * rtL l k)
    split <;> grind
  | trans _ _ h1 h2 => exact fun k => (h1 k).trans (h2 k)
theorem sumL_perm {l l' : List Rat} (p : l.Perm l') : sumL l = sumL l' := by
  induction p with
  | nil => rfl
  | cons a _ ih =>
    show sumL _ + a = sumL _ + a
    rw [ih]
  | swap a b l =>
    show sumL l + a + b = sumL l + b + a
    grind
  | trans _ _ h1 h2 => exact h1.trans h2
theorem rtq_L {x : Nat → Rat} : ∀ n k, rtq x n k = rtL ((List.range n).reverse.map x) k
  | 0, k => rfl
  | n + 1, k => by
    rw [List.range_succ, List.reverse_append, List.map_append]
    show (if k = 0 then 0 else rtq x n (k - 1)) - x n * rtq x n k = (if k = 0 then 0 else rtL ((List.range n).reverse.map x) (k - 1)) - x n * rtL ((List.range n).reverse.map x) k
    rw [rtq_L n k, rtq_L n (k - 1)]
theorem sumR_L {f : Nat → Rat} : ∀ n, sumR f n = sumL ((List.range n).reverse.map f)
  | 0 => rfl
  | n + 1 => by
    rw [List.range_succ, List.reverse_append, List.map_append]
    show sumR f n + f n = sumL ((List.range n).reverse.map f) + f n
    rw [sumR_L n]
structure Shuf (n : Nat) (g : Nat → Nat) : Prop where
  perm : ((List.range n).map g).Perm (List.range n)
theorem Shuf.lt {n : Nat} {g : Nat → Nat} (h : Shuf n g) {j : Nat} (hj : j < n) : g j < n := by
  have : g j ∈ List.range n := h.perm.mem_iff.mp (List.mem_map.mpr ⟨j, List.mem_range.mpr hj, rfl⟩)
  exact List.mem_range.mp this
theorem Shuf.ne {n : Nat} {g : Nat → Nat} (h : Shuf n g) {i j : Nat} (hij : i < j) (hj : j < n) : g i ≠ g j := by
  have nd : ((List.range n).map g).Nodup := h.perm.nodup_iff.mpr List.nodup_range
  have := List.pairwise_iff_getElem.mp (List.nodup_iff_pairwise_ne.mp nd) i j (by simp; omega) (by simp; omega) hij
  simpa using this
theorem Shuf.map {n : Nat} {g : Nat → Nat} (h : Shuf n g) (f : Nat → Rat) : ((List.range n).reverse.map fun j => f (g j)).Perm ((List.range n).reverse.map f) := by
  have e : ((List.range n).reverse.map fun j => f (g j)) = (((List.range n).map g).reverse).map f := by
    rw [← List.map_reverse, List.map_map]
    rfl
  rw [e]
  exact ((List.reverse_perm _).trans (h.perm.trans (List.reverse_perm _).symm)).map f
theorem Shuf.rt {n : Nat} {g : Nat → Nat} (h : Shuf n g) (x : Nat → Rat) (k : Nat) : rtq (fun j => x (g j)) n k = rtq x n k := by
  rw [rtq_L, rtq_L]
  exact rtL_perm (h.map x) k
theorem Shuf.mom {n : Nat} {g : Nat → Nat} (h : Shuf n g) (w x : Nat → Rat) (k : Nat) : momq (fun j => w (g j)) (fun j => x (g j)) n k = momq w x n k := by
  show sumR (fun j => (fun i => w i * x i ^ k) (g j)) n = sumR (fun i => w i * x i ^ k) n
  rw [sumR_L, sumR_L]
  exact sumL_perm (h.map fun i => w i * x i ^ k)
theorem LotV.shuf {H : Hp} {v : V} {n : Nat} {x w : Nat → Rat} {g : Nat → Nat} (s : Shuf n g) (h : LotV A H v n (fun j => x (g j)) fun j => w (g j)) : LotV A H v n x w := by
  obtain ⟨a, dx, p, tp, ys, c, e, h1, h2, h3, h4, h5, h6⟩ := h
  exact ⟨a, dx, p, tp, ys, c, e, h1, h2, h3.to fun k => s.rt x k, h4, h5, fun k y hy => (h6 k y hy).to (s.mom w x k)⟩
theorem LotI.shuf {n : Nat} {x w : Nat → Rat} {X W : Nat → Int} {q s : Int} {g : Nat → Nat} (sh : Shuf n g) (h : LotI n x w X W q s) : LotI n (fun j => x (g j)) (fun j => w (g j)) (fun j => X (g j)) (fun j => W (g j)) q s :=
  ⟨h.len, fun j hj => h.x _ (sh.lt hj), fun j hj => h.w _ (sh.lt hj), fun j hj => h.X _ (sh.lt hj), fun j hj => h.W _ (sh.lt hj), h.q0, h.q1, h.s0, h.s1⟩
/-- turned about -/
theorem shuf_rev (n : Nat) : Shuf n fun j => n - 1 - j where
  perm := by
    have e : ((List.range n).map fun j => n - 1 - j) = (List.range n).reverse := by
      apply List.ext_getElem
      · simp
      · intro i h1 h2
        simp
    rw [e]
    exact List.reverse_perm _
theorem rev_get {α : Type} {xs : List α} {k : Nat} {u : α} (e : xs.reverse[k]? = some u) : xs[xs.length - 1 - k]? = some u := by
  have hk : k < xs.reverse.length := (List.getElem?_eq_some_iff.mp e).1
  rw [List.length_reverse] at hk
  rwa [List.getElem?_reverse hk] at e
/-- the first a behind the others -/
abbrev rotG (n a j : Nat) : Nat := if j < n - a then j + a else j - (n - a)
theorem rot_get {α : Type} {xs : List α} {a k : Nat} {u : α} (e : (xs.drop a ++ xs.take a)[k]? = some u) : xs[rotG xs.length a k]? = some u := by
  rw [List.getElem?_append, List.length_drop] at e
  show xs[if k < xs.length - a then k + a else k - (xs.length - a)]? = some u
  split at e
  · rename_i h
    rw [if_pos h]
    rw [List.getElem?_drop, Nat.add_comm] at e
    exact e
  · rename_i h
    rw [if_neg h]
    rw [List.getElem?_take] at e
    split at e
    · exact e
    · cases e
theorem shuf_rot (n a : Nat) : Shuf n (rotG n a) where
  perm := by
    have e : ((List.range n).map (rotG n a)) = (List.range n).drop a ++ (List.range n).take a := by
      apply List.ext_getElem?
      intro k
      rcases Nat.lt_or_ge k n with h | h
      · have hl : ((List.range n).drop a ++ (List.range n).take a).length = n := by
          rw [List.length_append, List.length_drop, List.length_take, List.length_range]
          omega
        have hk := List.getElem?_eq_getElem (show k < ((List.range n).drop a ++ (List.range n).take a).length by omega)
        have := rot_get hk
        rw [List.length_range] at this
        have h3 : rotG n a k < n := by
          have := (List.getElem?_eq_some_iff.mp this).1
          rwa [List.length_range] at this
        rw [List.getElem?_range h3] at this
        rw [hk, List.getElem?_map, List.getElem?_range h, ← this]
        rfl
      · rw [List.getElem?_eq_none (by simpa using h), List.getElem?_eq_none (by rw [List.length_append, List.length_drop, List.length_take, List.length_range]; omega)]
    rw [e]
    have p := List.perm_append_comm (l₁ := (List.range n).drop a) (l₂ := (List.range n).take a)
    rwa [List.take_append_drop] at p
/-- xs[a:] + xs[:a] -/
theorem rot_in {K' : PySem.W.Frag} {σ : L2.St} {H : Hp} {Q : VK} {i j a : Nat} {la : Addr} {xs : List V} (hi : σ[i]? = some (some (V.ref la))) (hj : σ[j]? = some (some (V.int (a : Int)))) (hl : H la = some (.lst xs)) (l60 : xs.length ≤ 60)
    (q : ∀ G p, Same H G → G p = some (.lst (xs.drop a ++ xs.take a)) → Q (.ref p) G) :
    tOp rCat (tSl (rSlL K') (tVar i) (tPart (tVar j)) tNoPart) (tSl (rSlL K') (tVar i) tNoPart (tPart (tVar j))) σ H Q := by
  refine ⟨_, hi, _, hj, _, rfl, la, xs, rfl, .of hl, fun pA nA => ?_⟩
  have j1 := same_upd (o := .lst (cutV xs (some (a : Int)) none)) nA
  have hA : upd H pA (.lst (cutV xs (some (a : Int)) none)) pA = some (.lst (xs.drop a)) := by rw [upd_same, cut_from]
  generalize upd H pA (.lst (cutV xs (some (a : Int)) none)) = H1 at j1 hA
  refine ⟨_, hi, _, hj, _, rfl, la, xs, rfl, .of (j1 _ _ hl), fun pB nB => ?_⟩
  have j2 := same_upd (o := .lst (cutV xs none (some (a : Int)))) nB
  have hB : upd H1 pB (.lst (cutV xs none (some (a : Int)))) pB = some (.lst (xs.take a)) := by rw [upd_same, cut_to]
  generalize upd H1 pB (.lst (cutV xs none (some (a : Int)))) = H2 at j2 hB
  refine ⟨pA, pB, _, _, rfl, rfl, j2 _ _ hA, hB, by rw [List.length_take, List.length_drop]; exact Nat.le_of_lt (small1000 (by omega)), fun pC nC => ?_⟩
  exact q _ pC ((j1.trans j2).trans (same_upd nC)) upd_same
end

end Mo

namespace Mo
open PySem PySem.Spec PyProof.Rows L2 MoL MoW
open C8 (pss_cut tCut)
section
variable {P : Program} {w : World} {K : PySem.W.Frag} {mg : Str → Option Value} {base : Heap} {A : Ad} {D : Fd}
theorem lot_bds {L : Lot} (h : LotB L) : (∀ k, Bd 3900 3900 (rtq (lx L) L.ps.length k)) ∧ ∀ k, k < L.ps.length → Bd 3900 3900 (momq (lw L) (lx L) L.ps.length k) :=
  ⟨fun k => (bd_rt h.I (Nat.le_refl _)).mono (by decide) (by decide), fun k hk => (bd_mom h.I (by have := h.len; omega) (Nat.le_refl _)).mono (by decide) (by decide)⟩
/-- a list turned or shifted is a good argument -/
theorem good_pts {G : Hp} {p : Addr} {xs : List V} {n : Nat} {x : Nat → Rat} {g : Nat → Nat} (hp : G p = some (.lst xs) ∨ G p = some (.tup xs)) (lx : xs.length = n) (n8 : n ≤ 8) (hr : ∀ k u, xs[k]? = some u → RatV A.Ratio G u (x (g k))) (sh : Shuf n g) (bx : ∀ k, k < n → Bd 3900 3900 (x k)) (hd : ∀ i j, i < j → j < n → x i ≠ x j) : GoodPts A G (.ref p) n fun j => x (g j) := by
  refine ⟨p, xs, rfl, lx, n8, .inl ⟨hp, fun k u e => hr k u e, fun k hk => bx _ (sh.lt hk), fun i j hij hj => ?_⟩⟩
  have h1 := sh.lt (show i < n by omega)
  have h2 := sh.lt hj
  rcases Nat.lt_or_gt_of_ne (sh.ne hij hj) with h | h
  · exact hd _ _ h h2
  · exact fun e => hd _ _ h h1 e.symm
theorem good_wts {G : Hp} {p : Addr} {ws : List V} {n : Nat} {w : Nat → Rat} {g : Nat → Nat} (hp : G p = some (.lst ws) ∨ G p = some (.tup ws)) (lw : ws.length = n) (hr : ∀ k u, ws[k]? = some u → RatV A.Ratio G u (w (g k))) (sh : Shuf n g) (hw : ∀ j, j < n → 0 < w j) : GoodWts A G (.ref p) n fun j => w (g j) :=
  ⟨p, ws, rfl, hp, lw, fun k u e => .inr (hr k u e), fun j hj => hw _ (sh.lt hj)⟩
theorem sumR_at {b : Nat} {c : Rat} : ∀ n, sumR (fun j => if j = b then c else 0) n = if b < n then c else 0
  | 0 => by
    rw [if_neg (Nat.not_lt_zero _)]
    rfl
  | n + 1 => by
    show sumR (fun j => if j = b then c else 0) n + (if n = b then c else 0) = _
    rw [sumR_at n]
    rcases Nat.lt_trichotomy b n with h | h | h
    · rw [if_pos h, if_neg (by omega), if_pos (by omega), Rat.add_zero]
    · rw [if_neg (by omega), if_pos h.symm, if_pos (by omega), Rat.zero_add]
    · rw [if_neg (by omega), if_neg (by omega), if_neg (by omega), Rat.zero_add]
/-- a weight more by 1 -/
abbrev moreW (w : Nat → Rat) (b : Nat) : Nat → Rat := fun k => if k = b then w b + ((1 : Int) : Rat) else w k
theorem more_ne {x w : Nat → Rat} {n b : Nat} (hb : b < n) : momq w x n 0 ≠ momq (moreW w b) x n 0 := fun e => by
  have h : momq (moreW w b) x n 0 = momq w x n 0 + 1 := by
    have h2 : sumR (fun j => w j * x j ^ 0 + (if j = b then (1 : Rat) else 0)) n = sumR (fun j => w j * x j ^ 0) n + 1 := by
      rw [sumR_add, sumR_at, if_pos hb]
    show sumR (fun j => (if j = b then w b + ((1 : Int) : Rat) else w j) * x j ^ 0) n = _
    rw [show momq w x n 0 = sumR (fun j => w j * x j ^ 0) n from rfl, ← h2]
    refine sumR_congr fun j _ => ?_
    rw [Rat.pow_zero, Rat.mul_one, Rat.mul_one]
    by_cases c : j = b
    · rw [if_pos c, if_pos c, c]
      rfl
    · rw [if_neg c, if_neg c, Rat.add_zero]
  rw [h] at e
  have : (1 : Rat) = 0 := by grind
  exact absurd this (by decide)
theorem LotI.more {n b : Nat} {x w : Nat → Rat} {X W : Nat → Int} {q s : Int} (h : LotI n x w X W q s) (hW : (W b).natAbs ≤ 100000000) (hb : b < n) : LotI n x (moreW w b) X (fun k => if k = b then W b + s else W k) q s where
  len := h.len
  x := h.x
  w j hj := by
    show (if j = b then w b + ((1 : Int) : Rat) else w j) * (s : Rat) = ((if j = b then W b + s else W j : Int) : Rat)
    split
    · rw [Rat.intCast_add, ← h.w b hb, Rat.add_mul]
      congr 1
      exact Rat.one_mul _
    · exact h.w j hj
  X := h.X
  W j hj := by
    show (if j = b then W b + s else W j).natAbs < 2 ^ 27
    have h1 := h.s0
    have h2 := h.s1
    split
    · omega
    · exact h.W j hj
  q0 := h.q0
  q1 := h.q1
  s0 := h.s0
  s1 := h.s1
/-- the ints 0 to 7, weights 1 -/
theorem eight : LotI 8 (fun k => ((k : Int) : Rat)) (fun _ => ((1 : Int) : Rat)) (fun k => (k : Int)) (fun _ => 1) 1 1 where
  len := by decide
  x j _ := Rat.mul_one _
  w j _ := Rat.mul_one _
  X j hj := by omega
  W j _ := by decide
  q0 := by decide
  q1 := by decide
  s0 := by decide
  s1 := by decide
/-- what the law goes on with -/
structure Ben (A : Ad) (G : Hp) (f dp dw : Addr) (vl : V) (xs ws : List V) (L : Lot) : Prop where
  t : PtW A G f dp dw xs ws L.ps.length (lx L) (lw L)
  lot : LotAt G vl L
section
variable {G G' : Hp} {f dp dw : Addr} {vl : V} {xs ws : List V} {L : Lot}
theorem Ben.same (h : Ben A G f dp dw vl xs ws L) (k : Same G G') : Ben A G' f dp dw vl xs ws L := ⟨h.t.same k, h.lot.same k⟩
theorem Ben.stp (h : Ben A G f dp dw vl xs ws L) (k : Stp f G G') : Ben A G' f dp dw vl xs ws L := ⟨h.t.stp k, lot_stp h.lot h.t.F k⟩
theorem Ben.pts (h : Ben A G f dp dw vl xs ws L) (hB : LotB L) (hD : Dst L) : GoodPts A G (.ref dp) L.ps.length (lx L) :=
  ⟨dp, xs, rfl, h.t.lx, hB.len, .inl ⟨.inl h.t.p, h.t.rx, fun k hk => (hB.I.bx hk).mono (by decide) (by decide), fun i j h1 h2 => lx_ne hB hD h1 h2⟩⟩
theorem Ben.wts (h : Ben A G f dp dw vl xs ws L) (hB : LotB L) (hD : Dst L) : GoodWts A G (.ref dw) L.ps.length (lw L) := ⟨dw, ws, rfl, .inl h.t.u, h.t.lw, h.t.rw_.nums, fun j hj => lw_pos hB hD hj⟩
end
def sp_law (K : PySem.W.Frag) : Sp := fun vs H Q _ => ∃ (a : Addr) (ns : List Int), vs = [.ref a] ∧ SqL K H a (ns.map V.int) ∧ ns.length ≤ 63 ∧ ∀ H', Q (.bl true) H'
theorem ok_law (T : Txt K mg A D) : FnOk P w K mg base CX0 15 A.f_law D.f_law ["_law_script"] (sp_law K) := by
  have G_Lot___eq__ : FnOk P w K mg base CX0 8 A.f_Lot___eq__ D.f_Lot___eq__ ["self", "other"] (sp_loteqB A) := ok_Lot___eq__ T
  have G_Lot_row : FnOk P w K mg base (L2.CX P w) 6 A.f_Lot_row D.f_Lot_row ["self", "d"] (sp_lotrow K A) := ok_Lot_row T
  have G_Ratio_init : FnOk P w K mg base CX0 2 A.f_Ratio___init__ D.f_Ratio___init__ ["self", "top", "bottom"] (sp_init A.Ratio) := ok_Ratio___init__ T
  have b_Ratio_init2 := T.b_Ratio___init__
  have d_Ratio_init2 : Vals [] [] := .nil
  have G_Ratio___add__ : FnOk P w K mg base CX0 5 A.f_Ratio___add__ D.f_Ratio___add__ ["self", "other"] (sp_bin A.Ratio f_sum) := ok_Ratio___add__ T
  have G__law_feed : FnOk P w K mg base CX0 1 A.f__law_feed D.f__law_feed ["_law_script"] (sp_feed K) := ok__law_feed T
  have G__law_flag : FnOk P w K mg base CX0 1 A.f__law_flag D.f__law_flag ["_law_value", "_law_due"] (sp_flag) := ok__law_flag T
  have G__law_lot : FnOk P w K mg base CX0 3 A.f__law_lot D.f__law_lot ["_law_feed_here", "_law_most"] (sp_lot27) := ok__law_lot T
  have G__law_lot_is : FnOk P w K mg base CX0 5 A.f__law_lot_is D.f__law_lot_is ["_law_lot_here", "_law_due"] (sp_lotis A) := ok__law_lot_is T
  have G__law_numbers : FnOk P w K mg base CX0 2 A.f__law_numbers D.f__law_numbers ["_law_lot_here", "_law_d"] (sp_nums0) := ok__law_numbers T
  have G__law_part : FnOk P w K mg base CX0 13 A.f__law_part D.f__law_part ["_law_points", "_law_weights"] (sp_part K A) := ok__law_part T
  have G__law_row_is : FnOk P w K mg base CX0 3 A.f__law_row_is D.f__law_row_is ["_law_values", "_law_pairs"] (sp_rowis A.Ratio) := ok__law_row_is T
  have G__law_spoiled : FnOk P w K mg base CX0 14 A.f__law_spoiled D.f__law_spoiled ["_law_feed_here", "_law_points", "_law_weights"] (sp_spoiled K A) := ok__law_spoiled T
  have G__law_take : FnOk P w K mg base CX0 1 A.f__law_take D.f__law_take ["_law_feed_here", "_law_size"] (sp_take) := ok__law_take T
  have G_lot_at : FnOk P w K mg base (L2.CX P w) 12 A.f_lot_at D.f_lot_at ["points", "weights"] (sp_lotatX K A) := ok_lot_at T
  refine T.F_law.ok sc_law (fun vs H Q E h => ?_) (fun cdv A' outer s H vs Q E hr h => ?_)
  · obtain ⟨a, ns, rfl, _⟩ := h
    rfl
  · obtain ⟨a, ns, rfl, hS, hl, q⟩ := h
    refine ⟨_, (pss_cons (ps_set (i := 1) sc_law.nd rfl (.inl rfl) (pe_call G__law_feed (hr.mono (by decide)) rfl T.g__law_feed T.F__law_feed.kp T.b__law_feed .nil pass0 (pa_cons (pv 0) pa_nil)))
  (pss_cons (ps_for PassesOwn.never rfl (pi_range1 rfl T.z_range (pa_cons (pe_op op_add pe_int (pe_call G__law_take (hr.mono (by decide)) rfl T.g__law_take T.F__law_take.kp T.b__law_take .nil pass0 (pa_cons (pv 1) (pa_cons pe_int pa_nil)))) pa_nil)) (pg_name (i := 2) sc_law.nd rfl (.inl rfl)) (pss_cons (ps_set (i := 3) sc_law.nd rfl (.inr rfl) (pe_call G__law_lot (hr.mono (by decide)) rfl T.g__law_lot T.F__law_lot.kp T.b__law_lot .nil pass0 (pa_cons (pv 1) (pa_cons pe_int pa_nil))))
  (pss_cons (ps_setLc (i := 4) (own := [("_law_x", 5)]) (g := gName 5) (tt := tYes) rfl sc_law.nd rfl rfl rfl (pi_list (pe_ix ix_list (pv 3) pe_int (fun _ _ => rfl))) (blkOk_by (N := N_law) (sc := defScope s_law) (by decide +kernel)) (fun _ _ _ _ _ => (pg_name (i := 5) sc_law.nd rfl (.inl rfl))) (fun _ _ _ _ _ => pts_nil) (fun _ _ _ _ _ => (pe_make T.M_Ratio G_Ratio_init (hr.mono (by decide)) rfl T.g_Ratio b_Ratio_init2 d_Ratio_init2 pass0 (pa_cons (pv 5) (pa_cons (pe_ix (ix_listK (K := K) rfl) (pv 3) pe_int (fun _ _ => rfl)) pa_nil)))))
  (pss_cons (ps_setLc (i := 6) (own := [("_law_weight", 7)]) (g := gName 7) (tt := tYes) rfl sc_law.nd rfl rfl rfl (pi_list (pe_ix ix_list (pv 3) pe_int (fun _ _ => rfl))) (blkOk_by (N := N_law) (sc := defScope s_law) (by decide +kernel)) (fun _ _ _ _ _ => (pg_name (i := 7) sc_law.nd rfl (.inl rfl))) (fun _ _ _ _ _ => pts_nil) (fun _ _ _ _ _ => (pe_make T.M_Ratio G_Ratio_init (hr.mono (by decide)) rfl T.g_Ratio b_Ratio_init2 d_Ratio_init2 pass0 (pa_cons (pv 7) (pa_cons (pe_ix (ix_listK (K := K) rfl) (pv 3) pe_int (fun _ _ => rfl)) pa_nil)))))
  (pss_cons (ps_set (i := 8) sc_law.nd rfl (.inl rfl) (pe_call G__law_take (hr.mono (by decide)) rfl T.g__law_take T.F__law_take.kp T.b__law_take .nil pass0 (pa_cons (pv 1) (pa_cons pe_int pa_nil))))
  (pss_cons (ps_set (i := 9) sc_law.nd rfl (.inl rfl) (pe_call G_lot_at (hr.mono (by decide)) rfl T.g_lot_at T.F_lot_at.kp T.b_lot_at .nil passL (pa_cons (pe_op op_cat (pe_slice sl_list (pv 4) (po_some (pv 8)) po_none) (pe_slice sl_list (pv 4) po_none (po_some (pv 8)))) (pa_cons (pe_op op_cat (pe_slice sl_list (pv 6) (po_some (pv 8)) po_none) (pe_slice sl_list (pv 6) po_none (po_some (pv 8)))) pa_nil))))
  (pss_cons (ps_set (i := 10) sc_law.nd rfl (.inl rfl) (pe_callN G_lot_at (hr.mono (by decide)) rfl T.g_lot_at T.F_lot_at.kp T.kb1_lot_at passL (pa_cons (pe_callTy call_tuple_of rfl T.z_tuple (by decide +kernel) (pa_cons (pe_rev (pv 4) po_none po_none (po_some (pe_un un_neg pe_int))) pa_nil)) pa_nil) (pk_cons (pe_callTy call_tuple_of rfl T.z_tuple (by decide +kernel) (pa_cons (pe_rev (pv 6) po_none po_none (po_some (pe_un un_neg pe_int))) pa_nil)) pk_nil)))
  (pss_cons (ps_if (PW.pt (pw_or (pt_not (pt_val (pe_call G__law_lot_is (hr.mono (by decide)) rfl T.g__law_lot_is T.F__law_lot_is.kp T.b__law_lot_is .nil pass0 (pa_cons (pv 9) (pa_cons (pv 3) pa_nil))))) (pw_or (pt_not (pt_val (pe_call G__law_lot_is (hr.mono (by decide)) rfl T.g__law_lot_is T.F__law_lot_is.kp T.b__law_lot_is .nil pass0 (pa_cons (pv 10) (pa_cons (pv 3) pa_nil))))) (pw_or1 (pt_not (pt_val (pe_call G__law_flag (hr.mono (by decide)) rfl T.g__law_flag T.F__law_flag.kp T.b__law_flag .nil pass0 (pa_cons (pe_cmpR (op_eq_own T.k_Lot.ow T.m_Lot___eq__ G_Lot___eq__ (hr.mono (by decide)) T.b_Lot___eq__ pass0) (pv 9) (pv 10) (nomark _)) (pa_cons pe_bl pa_nil))))))))) (pss_one (ps_ret pe_bl)) pss_nil)
  (pss_cons (ps_set (i := 11) sc_law.nd rfl (.inl rfl) (pe_call G__law_take (hr.mono (by decide)) rfl T.g__law_take T.F__law_take.kp T.b__law_take .nil pass0 (pa_cons (pv 1) (pa_cons pe_int pa_nil))))
  (pss_cons (ps_if (pt_not (pt_val (pe_call G__law_row_is (hr.mono (by decide)) rfl T.g__law_row_is T.F__law_row_is.kp T.b__law_row_is .nil pass0 (pa_cons (pe_meth (pv 9) T.k_Lot.cl T.m_Lot_row G_Lot_row (hr.mono (by decide)) T.b_Lot_row .nil passL (pa_cons (pv 11) pa_nil)) (pa_cons (pe_call G__law_numbers (hr.mono (by decide)) rfl T.g__law_numbers T.F__law_numbers.kp T.b__law_numbers .nil pass0 (pa_cons (pv 3) (pa_cons (pv 11) pa_nil))) pa_nil))))) (pss_one (ps_ret pe_bl)) pss_nil)
  (pss_cut (ps_if (pt_cmpR op_gt (pe_callB call_len_seq rfl T.z_len (by decide +kernel) (pa_cons (pv 4) pa_nil)) pe_int (nomark _)) (pss_cons (ps_set (i := 8) sc_law.nd rfl (.inl rfl) (pe_call G__law_take (hr.mono (by decide)) rfl T.g__law_take T.F__law_take.kp T.b__law_take .nil pass0 (pa_cons (pv 1) (pa_cons (pe_callB call_len_seq rfl T.z_len (by decide +kernel) (pa_cons (pv 4) pa_nil)) pa_nil))))
  (pss_cons (ps_set (i := 12) sc_law.nd rfl (.inl rfl) (pe_op op_cat (pe_op op_cat (pe_slice sl_list (pv 6) po_none (po_some (pv 8))) (pe_lst (pa_cons (pe_op (op_add_own T.k_Ratio.ow T.m_Ratio___add__ T.m_Ratio___radd__ G_Ratio___add__ (hr.mono (by decide)) T.b_Ratio___add__ pass0) (pe_ix ix_list (pv 6) (pv 8) (fun _ _ => rfl)) pe_int) pa_nil))) (pe_slice sl_list (pv 6) (po_some (pe_op op_add (pv 8) pe_int)) po_none)))
  (pss_one (ps_if (PW.pt (pw_or (pt_not (pt_val (pe_call G__law_flag (hr.mono (by decide)) rfl T.g__law_flag T.F__law_flag.kp T.b__law_flag .nil pass0 (pa_cons (pe_cmpR (op_eq_own T.k_Lot.ow T.m_Lot___eq__ G_Lot___eq__ (hr.mono (by decide)) T.b_Lot___eq__ pass0) (pv 9) (pe_call G_lot_at (hr.mono (by decide)) rfl T.g_lot_at T.F_lot_at.kp T.b_lot_at .nil passL (pa_cons (pv 4) (pa_cons (pv 12) pa_nil))) (nomark _)) (pa_cons pe_bl pa_nil))))) (pw_or1 (pt_not (pt_val (pe_call G__law_spoiled (hr.mono (by decide)) rfl T.g__law_spoiled T.F__law_spoiled.kp T.b__law_spoiled .nil pass0 (pa_cons (pv 1) (pa_cons (pv 4) (pa_cons (pv 6) pa_nil))))))))) (pss_one (ps_ret pe_bl)) pss_nil)))) pss_nil)
  (pss_one (ps_if (PW.pt (pw_or (pt_cmpR op_ne (pe_call G__law_part (hr.mono (by decide)) rfl T.g__law_part T.F__law_part.kp T.b__law_part .nil pass0 (pa_cons (pv 4) (pa_cons (pv 6) pa_nil))) pe_str (nomark _)) (pw_or (pt_cmpR op_ne (pe_callB call_len_seq rfl T.z_len (by decide +kernel) (pa_cons (pv 4) pa_nil)) (pe_callB call_len_seq rfl T.z_len (by decide +kernel) (pa_cons (pe_ix ix_list (pv 3) pe_int (fun _ _ => rfl)) pa_nil)) (nomark _)) (pw_or1 (pt_not (pt_val (pe_call G__law_lot_is (hr.mono (by decide)) rfl T.g__law_lot_is T.F__law_lot_is.kp T.b__law_lot_is .nil pass0 (pa_cons (pe_call G_lot_at (hr.mono (by decide)) rfl T.g_lot_at T.F_lot_at.kp T.b_lot_at .nil passL (pa_cons (pv 4) (pa_cons (pv 6) pa_nil))) (pa_cons (pv 3) pa_nil))))))))) (pss_one (ps_ret pe_bl)) pss_nil)))))))))))))
  (pss_cons (ps_if (PW.pt (pw_or (pt_cmpR op_ne (pe_call G__law_part (hr.mono (by decide)) rfl T.g__law_part T.F__law_part.kp T.b__law_part .nil pass0 (pa_cons (pe_listRg (by rfl) rfl T.z_list (prg_1 rfl T.z_range pe_int)) (pa_cons (pe_op op_rep (pe_lst (pa_cons pe_int pa_nil)) pe_int) pa_nil))) pe_str (nomark _)) (pw_or1 (pt_cmpR op_ne (pe_call G__law_part (hr.mono (by decide)) rfl T.g__law_part T.F__law_part.kp T.b__law_part .nil pass0 (pa_cons (pe_listRg (by rfl) rfl T.z_list (prg_1 rfl T.z_range pe_int)) (pa_cons (pe_op op_rep (pe_lst (pa_cons pe_int pa_nil)) pe_int) pa_nil))) pe_str (nomark _))))) (pss_one (ps_ret pe_bl)) pss_nil)
  (pss_one (ps_ret (pe_and (pe_cmpR op_eq (pe_call G__law_part (hr.mono (by decide)) rfl T.g__law_part T.F__law_part.kp T.b__law_part .nil pass0 (pa_cons pe_non (pa_cons pe_non pa_nil))) pe_str (nomark _)) (pe_and (pe_cmpR op_eq (pe_call G__law_part (hr.mono (by decide)) rfl T.g__law_part T.F__law_part.kp T.b__law_part .nil pass0 (pa_cons pe_str (pa_cons (pe_lst (pa_cons pe_int (pa_cons pe_int pa_nil))) pa_nil))) pe_str (nomark _)) (pe_one (pe_cmpR op_eq (pe_call G__law_part (hr.mono (by decide)) rfl T.g__law_part T.F__law_part.kp T.b__law_part .nil pass0 (pa_cons (pe_lst pa_nil) (pa_cons (pe_lst pa_nil) pa_nil))) pe_str (nomark _)))))))))), ?_⟩
    refine ⟨_, rfl, a, ns, rfl, hS, hl, fun H1 f s1 F1 _ => ?_⟩
    refine ⟨_, rfl, f, 3, rfl, F1, by decide, .ab (by decide) (by decide), fun H2 v v0 v1 st => ⟨_, _, rfl, rfl, _, rfl, by omega, by omega, ?_⟩⟩
    refine for_range (lo := 0) (fun i σ H' => (∃ y2 y3 y4 y6 y8 y9 y10 y11 y12, σ = [some (.ref a), some (.ref f), y2, y3, y4, none, y6, none, y8, y9, y10, y11, y12]) ∧ FeedAt H' f) ⟨⟨_, _, _, _, _, _, _, _, _, rfl⟩, st.feed⟩ ?_ ?_
    rotate_left
    · rintro σ G0 _
      have ns : ∀ u : Str, (!decide (V.str u = V.str u)) = false := fun u => by rw [decide_eq_true rfl]; rfl
      refine ⟨_, rfl, .of_le (by decide) (by decide) (by decide) (by decide), fun p1 n1 => ⟨by show 1 ≤ sizeLine; decide, fun l1 nl1 => ⟨l1, 9, _, rfl, rfl, upd_same, by decide, by decide, by show 1 * _ ≤ sizeLine; exact Nat.le_of_lt (small1000 (by decide)), fun b1 nb1 => ?_⟩⟩⟩
      have j1 := same_upd (o := .lst (rgV 0 9)) n1
      have j2 := (same_upd (o := .lst [V.int 1]) nl1).trans (same_upd (o := .lst (List.replicate (9 : Int).toNat [V.int 1]).flatten) nb1)
      have hp1 := j2 _ _ (show upd G0 p1 (.lst (rgV 0 9)) p1 = some (.lst (rgV 0 9)) from upd_same)
      refine ⟨.ref p1, .ref b1, rfl, .inl ⟨.inr ⟨p1, _, rfl, .inl hp1, by rw [rgV_length]; decide, .inl (by rw [rgV_length]; decide)⟩, fun G1 k1 => ⟨rfl, _, rfl, iteFe (ns _) ?_⟩⟩⟩
      clear n1 nl1 nb1 j1 j2 hp1 k1
      refine ⟨_, rfl, .of_le (by decide) (by decide) (by decide) (by decide), fun p1 n1 => ⟨by show 1 ≤ sizeLine; decide, fun l1 nl1 => ⟨l1, 8, _, rfl, rfl, upd_same, by decide, by decide, by show 1 * _ ≤ sizeLine; exact Nat.le_of_lt (small1000 (by decide)), fun b1 nb1 => ?_⟩⟩⟩
      have j2 := (same_upd (o := .lst [V.int 1]) nl1).trans (same_upd (o := .lst (List.replicate (8 : Int).toNat [V.int 1]).flatten) nb1)
      have hp1 := j2 _ _ (show upd G1 p1 (.lst (rgV 0 8)) p1 = some (.lst (rgV 0 8)) from upd_same)
      have hb1 : upd (upd (upd G1 p1 (.lst (rgV 0 8))) l1 (.lst [V.int 1])) b1 (.lst (List.replicate (8 : Int).toNat [V.int 1]).flatten) b1 = some (.lst (List.replicate 8 (V.int 1))) := by rw [upd_same, rep_flat]; rfl
      have e8 : rgV 0 8 = ((List.range 8).map fun i => ((i : Nat) : Int)).map V.int := rfl
      refine ⟨.ref p1, .ref b1, rfl, .inr ⟨8, _, ⟨p1, _, rfl, by rw [rgV_length]; decide, by decide, .inr ⟨_, e8, hp1, by decide, by decide, fun k z e => ?_⟩⟩, .inr ⟨_, _, _, _, _, ⟨b1, _, rfl, .inl hb1, rfl, fun k u e => ?_, fun j _ => by show (0 : Rat) < ((1 : Int) : Rat); decide⟩, eight, fun G2 k2 => ⟨rfl, _, rfl, iteFe (ns _) ?_⟩⟩⟩⟩
      · rw [List.getElem?_map] at e
        cases h : (List.range 8)[k]? with
        | none =>
          rw [h] at e
          cases e
        | some m =>
          rw [h] at e
          have hm : m = k := by
            have hk : k < (List.range 8).length := (List.getElem?_eq_some_iff.mp h).1
            rw [List.length_range] at hk
            rw [List.getElem?_range hk] at h
            exact (Option.some.inj h).symm
          cases e
          rw [hm]
      · rw [List.getElem?_replicate] at e
        split at e
        · cases e
          exact .inl ⟨1, rfl, rfl⟩
        · cases e
      clear n1 nl1 nb1 j2 hp1 hb1 e8 k2
      refine ⟨.non, .non, rfl, .inl ⟨.inl ⟨_, .base .non, kit_ty (by decide +kernel), kit_ty (by decide +kernel)⟩, fun G3 k3 => ⟨rfl, _, rfl, iteTe (decide_eq_true rfl) ?_⟩⟩⟩
      refine ⟨by show 2 ≤ sizeLine; decide, fun l2 nl2 => ?_⟩
      refine ⟨.str "12", .ref l2, rfl, .inl ⟨.inl ⟨_, .base (.str _), kit_ty (by decide +kernel), kit_ty (by decide +kernel)⟩, fun G4 k4 => ⟨rfl, _, rfl, iteTe (decide_eq_true rfl) ?_⟩⟩⟩
      refine ⟨by show 0 ≤ sizeLine; decide, fun l3 nl3 => ⟨by show 0 ≤ sizeLine; decide, fun l4 nl4 => ?_⟩⟩
      have j4 := same_upd (o := .lst []) nl4
      have h3 := j4 _ _ (show upd G4 l3 (.lst []) l3 = some (.lst []) from upd_same)
      refine ⟨.ref l3, .ref l4, rfl, .inr ⟨0, fun _ => 0, ⟨l3, [], rfl, rfl, by decide, .inl ⟨.inl h3, (show RatsV A.Ratio _ [] _ from fun k u e => nomatch e), fun k hk => absurd hk (Nat.not_lt_zero k), fun i j _ hj => absurd hj (Nat.not_lt_zero j)⟩⟩, .inr ⟨fun _ => 0, fun _ => 0, fun _ => 0, 1, 1, ⟨l4, [], rfl, .inl upd_same, rfl, .nil, fun j hj => absurd hj (Nat.not_lt_zero j)⟩, ⟨by decide, fun j hj => absurd hj (Nat.not_lt_zero j), fun j hj => absurd hj (Nat.not_lt_zero j), fun j hj => absurd hj (Nat.not_lt_zero j), fun j hj => absurd hj (Nat.not_lt_zero j), by decide, by decide, by decide, by decide⟩, fun G5 k5 => ⟨rfl, ?_⟩⟩⟩⟩
      rw [decide_eq_true rfl]
      exact q G5
    clear st F1 hS s1
    rintro i σ H0 hi ⟨⟨y2, y3, y4, y6, y8, y9, y10, y11, y12, rfl⟩, F0⟩
    -- the lot
    refine ⟨_, rfl, f, rfl, F0, fun H1 vl L st1 lot ok l8 hS q5 s9 => ?_⟩
    have hlen : L.ps.length = L.ws.length := by
      obtain ⟨_, _, _, _, _, _, _, h⟩ := lot
      exact h
    have q0 := ok.q0
    have s0 := ok.s0
    have hB : LotB L := ⟨ok, q5, s9, l8, hlen, by omega⟩
    have hJ := hB.J
    have hI := hB.I
    have hD := hS.dst
    have hW : ∀ j, j < L.ps.length → (L.ws.getD j 0).natAbs ≤ 100000000 := fun j hj => by
      have := hS.pos _ (getD_mem (show j < L.ws.length by omega))
      omega
    have bd := lot_bds hB
    have ⟨ua, pa, wa, evl, hu, hpa, hwa, _⟩ := lot
    subst evl
    have F1 := st1.feed
    -- the points
    refine ⟨_, rfl, ua, _, 0, _, rfl, rfl, .of hu, rfl, pa, rfl, ⟨_, .of hpa⟩, fun d1 nd1 => ?_⟩
    refine lc_list (K := K) (a := pa) (xs := L.ps.map V.int) (fun i G => Gro A.Ratio H1 d1 (lx L) i G) (.start nd1) (fun i G _ p => .of (p.1 _ _ hpa)) ?_ ?_
    · rintro i z G hx p
      have hi := get_lt hx
      rw [List.length_map] at hi
      rw [int_at hi] at hx
      cases hx
      exact ⟨rfl, _, rfl, _, rfl, ua, _, 2, _, rfl, rfl, .of (p.1 _ _ hu), rfl, fun x dx nx nd2 ne => rat_make (by omega) (sm_of hI.qa (by decide)) nx nd2 ne fun G2 s2 r2 => p.push nd1 (by omega) s2 r2⟩
    rintro G ⟨sm, xs, lx1, hd1, rx⟩
    rw [List.length_map] at lx1
    have d1f : d1 ≠ f := (F1.lt nd1).symm
    -- the weights
    refine ⟨_, rfl, ua, _, 1, _, rfl, rfl, .of (sm _ _ hu), rfl, wa, rfl, ⟨_, .of (sm _ _ hwa)⟩, fun d2 nd2 => ?_⟩
    refine lc_list (K := K) (a := wa) (xs := L.ws.map V.int) (fun i E => Gro A.Ratio G d2 (lw L) i E) (.start nd2) (fun i E _ p => .of (p.1 _ _ (sm _ _ hwa))) ?_ ?_
    · rintro i z E hx p
      have hi := get_lt hx
      rw [List.length_map] at hi
      rw [int_at hi] at hx
      cases hx
      exact ⟨rfl, _, rfl, _, rfl, ua, _, 3, _, rfl, rfl, .of (p.1 _ _ (sm _ _ hu)), rfl, fun x dx nx nd3 ne => rat_make (by omega) (sm_of hI.sa (by decide)) nx nd3 ne fun G2 s2 r2 => p.push nd2 (by omega) s2 r2⟩
    rintro E2 ⟨sm2, ws, lw1, hd2, rw_⟩
    rw [List.length_map] at lw1
    have d2f : d2 ≠ f := ((F1.same sm).lt nd2).symm
    have ben : Ben A E2 f d1 d2 (.ref ua) xs ws L := ⟨⟨(F1.same sm).same sm2, d1f, d2f, sm2 _ _ hd1, hd2, rx.same sm2, rw_, lx1, by omega⟩, (lot.same sm).same sm2⟩
    have lenw : ws.length = L.ps.length := by omega
    have bx : ∀ k, k < L.ps.length → Bd 3900 3900 (lx L k) := fun k hk => (hI.bx hk).mono (by decide) (by decide)
    clear st1 sm sm2 hd1 hd2 rx rw_ F0 F1 hS ok hpa hwa hu lot nd1 nd2
    -- shifted
    refine ⟨_, rfl, f, 9, rfl, ben.t.F, by decide, .ab (by decide) (by decide), fun H3 at_ a0 a1 st3 => ?_⟩
    have ben := ben.stp st3
    obtain ⟨c, rfl⟩ : ∃ c : Nat, at_ = (c : Int) := ⟨at_.toNat, by omega⟩
    clear st3 a0 a1
    refine rot_in (la := d1) (a := c) (xs := xs) rfl rfl ben.t.p (by omega) fun H4 p1 k4 hp1 => ?_
    have ben := ben.same k4
    refine rot_in (la := d2) (a := c) (xs := ws) rfl rfl ben.t.u (by omega) fun H5 p2 k5 hp2 => ?_
    have ben := ben.same k5
    have hp1 := k5 _ _ hp1
    have dist : ∀ i j, i < j → j < L.ps.length → lx L i ≠ lx L j := fun i j h1 h2 => lx_ne hB hD h1 h2
    have wpos : ∀ j, j < L.ps.length → 0 < lw L j := fun j hj => lw_pos hB hD hj
    have sr := shuf_rot L.ps.length c
    refine ⟨.ref p1, .ref p2, rfl, .inr ⟨_, _, good_pts (.inl hp1) (by rw [List.length_append, List.length_drop, List.length_take]; omega) l8 (fun k u e => by
      have := rot_get e
      rw [lx1] at this
      exact ben.t.rx _ u this) sr bx dist, .inr ⟨_, _, _, _, _, good_wts (.inl hp2) (by rw [List.length_append, List.length_drop, List.length_take]; omega) (fun k u e => by
      have := rot_get e
      rw [lenw] at this
      exact ben.t.rw_ _ u this) sr wpos, hI.shuf sr, fun H6 o1 k6 hv1 => ?_⟩⟩⟩
    have hv1 := hv1.shuf sr
    have ben := ben.same k6
    clear hp1 hp2 k4 k5 k6 sr
    -- turned about
    refine ⟨_, rfl, _, rfl, _, rfl, d1, xs, rfl, rfl, rfl, rfl, .of ben.t.p, fun p1 n1 => ?_⟩
    have j1 := same_upd (o := .lst xs.reverse) n1
    have h1 : upd H6 p1 (.lst xs.reverse) p1 = some (.lst xs.reverse) := upd_same
    generalize upd H6 p1 (.lst xs.reverse) = H7 at j1 h1
    refine ⟨p1, _, rfl, .inl ⟨.of h1, fun p2 n2 => ?_⟩⟩
    have j2 := same_upd (o := .tup xs.reverse) n2
    have h2 : upd H7 p2 (.tup xs.reverse) p2 = some (.tup xs.reverse) := upd_same
    generalize upd H7 p2 (.tup xs.reverse) = H8 at j2 h2
    have k8 := j1.trans j2
    have ben := ben.same k8
    refine ⟨_, rfl, _, rfl, _, rfl, d2, ws, rfl, rfl, rfl, rfl, .of ben.t.u, fun p3 n3 => ?_⟩
    have j3 := same_upd (o := .lst ws.reverse) n3
    have h3 : upd H8 p3 (.lst ws.reverse) p3 = some (.lst ws.reverse) := upd_same
    generalize upd H8 p3 (.lst ws.reverse) = H9 at j3 h3
    refine ⟨p3, _, rfl, .inl ⟨.of h3, fun p4 n4 => ?_⟩⟩
    have j4 := same_upd (o := .tup ws.reverse) n4
    have h4 : upd H9 p4 (.tup ws.reverse) p4 = some (.tup ws.reverse) := upd_same
    generalize upd H9 p4 (.tup ws.reverse) = H10 at j4 h4
    have k10 := j3.trans j4
    have ben := ben.same k10
    have h2 := k10 _ _ h2
    have hv1 := (hv1.same k8).same k10
    have sv := shuf_rev L.ps.length
    refine ⟨rfl, rfl, .ref p2, .ref p4, rfl, .inr ⟨_, _, good_pts (.inr h2) (by rw [List.length_reverse]; omega) l8 (fun k u e => by
      have := rev_get e
      rw [lx1] at this
      exact ben.t.rx _ u this) sv bx dist, .inr ⟨_, _, _, _, _, good_wts (.inr h4) (by rw [List.length_reverse]; omega) (fun k u e => by
      have := rev_get e
      rw [lenw] at this
      exact ben.t.rw_ _ u this) sv wpos, hI.shuf sv, fun H11 o2 k11 hv2 => ?_⟩⟩⟩
    have hv2 := hv2.shuf sv
    have ben := ben.same k11
    have hv1 := hv1.same k11
    clear h1 h2 h3 h4 j1 j2 j3 j4 k8 k10 k11 n1 n2 n3 n4 sv
    -- both are the lot
    refine ⟨_, rfl, _, rfl, o1, _, L, rfl, hv1, ben.lot, hB, fun H12 k12 => ⟨true, rfl, iteF ?_⟩⟩
    have ben := ben.same k12
    have hv1 := hv1.same k12
    have hv2 := hv2.same k12
    refine ⟨_, rfl, _, rfl, o2, _, L, rfl, hv2, ben.lot, hB, fun H13 k13 => ⟨true, rfl, iteF ?_⟩⟩
    have ben := ben.same k13
    have hv1 := hv1.same k13
    have hv2 := hv2.same k13
    refine ⟨_, rfl, _, rfl, hv1.ins, .inr hv2.ins, o1, o2, _, _, _, _, rfl, hv1, hv2, bd.1, bd.2, bd.2, fun H14 k14 => ?_⟩
    have e1 : ((List.range L.ps.length).all fun k => decide (momq (lw L) (lx L) L.ps.length k = momq (lw L) (lx L) L.ps.length k)) = true := by simp
    refine ⟨_, true, rfl, _, rfl, iteFe (by rw [e1]; rfl) ?_⟩
    have ben := ben.same k14
    have hv1 := hv1.same k14
    clear hv2 k12 k13 k14
    obtain ⟨oa, eo⟩ : ∃ oa, o1 = .ref oa := by
      obtain ⟨oa, _, _, _, _, _, e, _⟩ := hv1
      exact ⟨oa, e⟩
    subst eo
    -- a row
    refine ⟨_, rfl, f, 21, rfl, ben.t.F, by decide, .ab (by decide) (by decide), fun H15 d0 d1' d2' st15 => ?_⟩
    have hv1 := hv1.stp ben.t.F st15
    have ben := ben.stp st15
    obtain ⟨d, rfl⟩ : ∃ d : Nat, d0 = (d : Int) := ⟨d0.toNat, by omega⟩
    have ⟨oa', odx, op, otp, oys, ocn, eo, ho, _⟩ := hv1
    cases eo
    refine ⟨_, rfl, oa, odx, _, rfl, ho, rfl, _, rfl, .ref oa, .int d, _, _, _, rfl, hv1, .inl ⟨d, _, _, _, _, rfl, by omega, hJ, fun H16 r zs k16 nr hr lz rz => ?_⟩⟩
    have ben := ben.same k16
    have hv1 := hv1.same k16
    refine ⟨_, rfl, _, rfl, .ref ua, L, 30, 27, d, d + 1, rfl, rfl, ben.lot, hB.ok, by omega, hB.q5, hB.s9, by decide, by decide, fun H17 u7 k17 p7 => ?_⟩
    refine ⟨r, u7, zs, _, d + 1, _, rfl, k17 _ _ hr, rz.same k17, lz, by omega, p7, fun k hk => hB.due (by omega), true, rfl, iteF ?_⟩
    have ben := ben.same k17
    have hv1 := hv1.same k17
    clear k16 k17 nr hr lz rz p7 ho st15 d1' d2'
    -- one weight more
    refine ⟨fun σ G => (∃ y8 y9 y10 y11 y12, σ = [some (.ref a), some (.ref f), some (.int (0 + (i : Int))), some (.ref ua), some (.ref d1), none, some (.ref d2), none, y8, y9, y10, y11, y12]) ∧ Ben A G f d1 d2 (.ref ua) xs ws L, ?_, ?_⟩
    · refine ⟨_, rfl, d1, xs, rfl, .inl (.of ben.t.p), _, _, rfl, rfl, _, rfl, ite2 (fun cc => ?_) (fun _ => ⟨⟨_, _, _, _, _, rfl⟩, ben⟩)⟩
      have n0 : 0 < L.ps.length := by have := of_decide_eq_true cc; omega
      refine ⟨_, rfl, _, rfl, d1, xs, rfl, .inl (.of ben.t.p), f, _, rfl, ben.t.F, by omega, .ab (by omega) (by omega), fun H20 at_ a0 a1 st20 => ?_⟩
      have hv1 := hv1.stp ben.t.F st20
      have ben := ben.stp st20
      obtain ⟨b, rfl⟩ : ∃ b : Nat, at_ = (b : Int) := ⟨at_.toNat, by omega⟩
      have hbn : b < L.ps.length := by omega
      clear st20 a0 a1
      have hyb := List.getElem?_eq_getElem (show b < ws.length by omega)
      refine put_in (la := d2) (a := b) (xs := ws) (Pv := fun u G => RatV A.Ratio G u (lw L b + ((1 : Int) : Rat))) rfl rfl ben.t.u (by omega) (by omega) (fun H1 R k1 h => ?_) fun u H21 H22 pm ka ru kb npm hpm => ?_
      · have ry := (ben.t.rw_ b _ hyb).same k1
        exact ⟨_, rfl, _, rfl, d2, ws, _, _, rfl, rfl, .of (k1 _ _ ben.t.u), atI_nat hyb, ry.ins, .inl ⟨1, rfl⟩, _, _, lw L b, ((1 : Int) : Rat), rfl, ry, .inl ⟨1, rfl, rfl⟩, (hI.bw hbn).mono (by decide) (by decide), .int (by decide) (by decide), fun H2 v2 k2 r2 => h v2 H2 k2 r2⟩
      have kab := ka.trans kb
      have hv1 := hv1.same kab
      have ben := ben.same kab
      have hWb := hW b hbn
      have hI' := hI.more hWb hbn
      refine ⟨_, rfl, _, rfl, _, rfl, .ref d1, .ref pm, rfl, .inr ⟨_, _, ben.pts hB hD, .inr ⟨_, _, _, _, _, ⟨pm, _, rfl, .inl hpm, by rw [List.length_set, lenw], nums_set ben.t.rw_.nums (ru.same kb).num, fun j hj => ?_⟩, hI', fun H23 o3 k23 hv3 => ?_⟩⟩⟩
      · show 0 < (if j = b then lw L b + ((1 : Int) : Rat) else lw L j)
        have h1 := wpos b hbn
        have h2 := wpos j hj
        have h3 : (0 : Rat) < ((1 : Int) : Rat) := by decide
        split
        · grind
        · exact h2
      have hv1 := hv1.same k23
      have ben := ben.same k23
      refine ⟨hv1.ins, .inr hv3.ins, .ref oa, o3, _, _, _, _, rfl, hv1, hv3, bd.1, bd.2, fun k hk => (bd_mom hI' (by omega) (Nat.le_refl _)).mono (by decide) (by decide), fun H24 k24 => ?_⟩
      have e2 : ((List.range L.ps.length).all fun k => decide (momq (lw L) (lx L) L.ps.length k = momq (moreW (lw L) b) (lx L) L.ps.length k)) = false := by
        rw [List.all_eq_false]
        exact ⟨0, List.mem_range.mpr n0, by rw [decide_eq_false (more_ne hbn)]; exact Bool.false_ne_true⟩
      refine ⟨_, false, rfl, _, rfl, iteFe (by rw [e2]; rfl) ?_⟩
      have ben := ben.same k24
      refine ⟨_, rfl, _, rfl, _, rfl, f, d1, d2, xs, ws, _, _, _, _, _, _, _, rfl, ben.t, hI, dist, wpos, n0, fun H25 st25 => ⟨true, rfl, iteF ?_⟩⟩
      exact ⟨⟨_, _, _, _, _, rfl⟩, ben.stp st25⟩
    · rintro σ G ⟨⟨y8, y9, y10, y11, y12, rfl⟩, ben⟩
      have ns : ∀ u : Str, (!decide (V.str u = V.str u)) = false := fun u => by rw [decide_eq_true rfl]; rfl
      refine ⟨_, rfl, _, rfl, .ref d1, .ref d2, rfl, .inr ⟨_, _, ben.pts hB hD, .inr ⟨_, _, _, _, _, ben.wts hB hD, hI, fun H26 k26 => ⟨rfl, _, rfl, iteFe (ns _) ?_⟩⟩⟩⟩
      have ben := ben.same k26
      have ⟨ua', pa, wa, evl, hu, hpa, hwa, _⟩ := ben.lot
      cases evl
      refine ⟨_, rfl, d1, xs, rfl, .inl (.of ben.t.p), _, rfl, ua, _, 0, _, rfl, rfl, .of hu, rfl, pa, _, rfl, .inl (.of hpa), rfl, _, rfl, iteFe (by rw [List.length_map, lx1]; exact int_self) ?_⟩
      refine ⟨_, rfl, _, rfl, .ref d1, .ref d2, rfl, .inr ⟨_, _, ben.pts hB hD, .inr ⟨_, _, _, _, _, ben.wts hB hD, hI, fun H27 o4 k27 hv4 => ?_⟩⟩⟩
      have ben := ben.same k27
      refine ⟨_, rfl, o4, _, L, rfl, hv4, ben.lot, hB, fun H28 k28 => ⟨true, rfl, iteF ?_⟩⟩
      exact ⟨⟨_, _, _, _, _, _, _, _, _, rfl⟩, (ben.same k28).t.F⟩
end

end Mo

namespace Mo
open PySem PySem.Spec PyProof.Rows L2 MoL MoW
open C8 (pss_cut tCut)
theorem facts {w : World} {K : PySem.W.Frag} {h : Heap} {mg : Str → Option Value} {fa : Addr} (X : K.In h) (G : h.Ns mainGlobals mg) (hfa : mg "law" = some (.ref fa)) (c : He.SaysX faL fnL [] tfL (MoH.exAll exL) w h K) : LamX.LawAtS PySem.Challenge.rw_momentrows_k27_lots_at_given_points w K CX0 15 63 "_law_script" mg fa h := by
  have gd : MoH.gdB K = true := MoH.exq c.more 0 (t := fun K => MoH.gdB K) rfl
  have g_Ratio : PySem.W.nsIn K mainGlobals "Ratio" = some (some (.ref (He.ga K "Ratio"))) := of_decide_eq_true (MoH.exq c.more 1 (t := fun K => decide (PySem.W.nsIn K mainGlobals "Ratio" = some (some (.ref (He.ga K "Ratio"))))) rfl)
  have g_Poly : PySem.W.nsIn K mainGlobals "Poly" = some (some (.ref (He.ga K "Poly"))) := of_decide_eq_true (MoH.exq c.more 2 (t := fun K => decide (PySem.W.nsIn K mainGlobals "Poly" = some (some (.ref (He.ga K "Poly"))))) rfl)
  have g_Sure : PySem.W.nsIn K mainGlobals "Sure" = some (some (.ref (He.ga K "Sure"))) := of_decide_eq_true (MoH.exq c.more 3 (t := fun K => decide (PySem.W.nsIn K mainGlobals "Sure" = some (some (.ref (He.ga K "Sure"))))) rfl)
  have g_Lot : PySem.W.nsIn K mainGlobals "Lot" = some (some (.ref (He.ga K "Lot"))) := of_decide_eq_true (MoH.exq c.more 4 (t := fun K => decide (PySem.W.nsIn K mainGlobals "Lot" = some (some (.ref (He.ga K "Lot"))))) rfl)
  have g_NoNumber : PySem.W.nsIn K mainGlobals "NoNumber" = some (some (.ref (He.ga K "NoNumber"))) := of_decide_eq_true (MoH.exq c.more 5 (t := fun K => decide (PySem.W.nsIn K mainGlobals "NoNumber" = some (some (.ref (He.ga K "NoNumber"))))) rfl)
  have g_NoLot : PySem.W.nsIn K mainGlobals "NoLot" = some (some (.ref (He.ga K "NoLot"))) := of_decide_eq_true (MoH.exq c.more 6 (t := fun K => decide (PySem.W.nsIn K mainGlobals "NoLot" = some (some (.ref (He.ga K "NoLot"))))) rfl)
  have g_MeansError : PySem.W.nsIn K mainGlobals "MeansError" = some (some (.ref (He.ga K "MeansError"))) := of_decide_eq_true (MoH.exq c.more 7 (t := fun K => decide (PySem.W.nsIn K mainGlobals "MeansError" = some (some (.ref (He.ga K "MeansError"))))) rfl)
  have g_NoBar : PySem.W.nsIn K mainGlobals "NoBar" = some (some (.ref (He.ga K "NoBar"))) := of_decide_eq_true (MoH.exq c.more 8 (t := fun K => decide (PySem.W.nsIn K mainGlobals "NoBar" = some (some (.ref (He.ga K "NoBar"))))) rfl)
  have ow_Ratio : MoH.ownB K (He.ga K "Ratio") = true := MoH.exq c.more 9 (t := fun K => MoH.ownB K (He.ga K "Ratio")) rfl
  have mk_Ratio : PySem.W.makesIn K (He.ga K "Ratio") = true := MoH.exq c.more 10 (t := fun K => PySem.W.makesIn K (He.ga K "Ratio")) rfl
  have kc_Ratio : PySem.W.keepIn K (.ref (He.ga K "Ratio")) = true := MoH.exq c.more 11 (t := fun K => PySem.W.keepIn K (.ref (He.ga K "Ratio"))) rfl
  have n_top_Ratio : PySem.W.findIn K (.ref (He.ga K "Ratio")) "top" = some none := of_decide_eq_true (MoH.exq c.more 12 (t := fun K => decide (PySem.W.findIn K (.ref (He.ga K "Ratio")) "top" = some none)) rfl)
  have n_bottom_Ratio : PySem.W.findIn K (.ref (He.ga K "Ratio")) "bottom" = some none := of_decide_eq_true (MoH.exq c.more 13 (t := fun K => decide (PySem.W.findIn K (.ref (He.ga K "Ratio")) "bottom" = some none)) rfl)
  have ow_Poly : MoH.ownB K (He.ga K "Poly") = true := MoH.exq c.more 14 (t := fun K => MoH.ownB K (He.ga K "Poly")) rfl
  have mk_Poly : PySem.W.makesIn K (He.ga K "Poly") = true := MoH.exq c.more 15 (t := fun K => PySem.W.makesIn K (He.ga K "Poly")) rfl
  have kc_Poly : PySem.W.keepIn K (.ref (He.ga K "Poly")) = true := MoH.exq c.more 16 (t := fun K => PySem.W.keepIn K (.ref (He.ga K "Poly"))) rfl
  have n_coefficients_Poly : PySem.W.findIn K (.ref (He.ga K "Poly")) "coefficients" = some none := of_decide_eq_true (MoH.exq c.more 17 (t := fun K => decide (PySem.W.findIn K (.ref (He.ga K "Poly")) "coefficients" = some none)) rfl)
  have n_degree_Poly : PySem.W.findIn K (.ref (He.ga K "Poly")) "degree" = some none := of_decide_eq_true (MoH.exq c.more 18 (t := fun K => decide (PySem.W.findIn K (.ref (He.ga K "Poly")) "degree" = some none)) rfl)
  have n_lead_Poly : PySem.W.findIn K (.ref (He.ga K "Poly")) "lead" = some none := of_decide_eq_true (MoH.exq c.more 19 (t := fun K => decide (PySem.W.findIn K (.ref (He.ga K "Poly")) "lead" = some none)) rfl)
  have ow_Sure : MoH.ownB K (He.ga K "Sure") = true := MoH.exq c.more 20 (t := fun K => MoH.ownB K (He.ga K "Sure")) rfl
  have mk_Sure : PySem.W.makesIn K (He.ga K "Sure") = true := MoH.exq c.more 21 (t := fun K => PySem.W.makesIn K (He.ga K "Sure")) rfl
  have kc_Sure : PySem.W.keepIn K (.ref (He.ga K "Sure")) = true := MoH.exq c.more 22 (t := fun K => PySem.W.keepIn K (.ref (He.ga K "Sure"))) rfl
  have n_numbers_Sure : PySem.W.findIn K (.ref (He.ga K "Sure")) "numbers" = some none := of_decide_eq_true (MoH.exq c.more 23 (t := fun K => decide (PySem.W.findIn K (.ref (He.ga K "Sure")) "numbers" = some none)) rfl)
  have ow_Lot : MoH.ownB K (He.ga K "Lot") = true := MoH.exq c.more 24 (t := fun K => MoH.ownB K (He.ga K "Lot")) rfl
  have mk_Lot : PySem.W.makesIn K (He.ga K "Lot") = true := MoH.exq c.more 25 (t := fun K => PySem.W.makesIn K (He.ga K "Lot")) rfl
  have kc_Lot : PySem.W.keepIn K (.ref (He.ga K "Lot")) = true := MoH.exq c.more 26 (t := fun K => PySem.W.keepIn K (.ref (He.ga K "Lot"))) rfl
  have n_poly_Lot : PySem.W.findIn K (.ref (He.ga K "Lot")) "poly" = some none := of_decide_eq_true (MoH.exq c.more 27 (t := fun K => decide (PySem.W.findIn K (.ref (He.ga K "Lot")) "poly" = some none)) rfl)
  have n_begin_Lot : PySem.W.findIn K (.ref (He.ga K "Lot")) "begin" = some none := of_decide_eq_true (MoH.exq c.more 28 (t := fun K => decide (PySem.W.findIn K (.ref (He.ga K "Lot")) "begin" = some none)) rfl)
  have n_count_Lot : PySem.W.findIn K (.ref (He.ga K "Lot")) "count" = some none := of_decide_eq_true (MoH.exq c.more 29 (t := fun K => decide (PySem.W.findIn K (.ref (He.ga K "Lot")) "count" = some none)) rfl)
  have ex_NoNumber : MoH.excB K (He.ga K "NoNumber") = true := MoH.exq c.more 30 (t := fun K => MoH.excB K (He.ga K "NoNumber")) rfl
  have n_NoNumber_word : PySem.W.findIn K (.ref (He.ga K "NoNumber")) "word" = some none := of_decide_eq_true (MoH.exq c.more 31 (t := fun K => decide (PySem.W.findIn K (.ref (He.ga K "NoNumber")) "word" = some none)) rfl)
  have ti_NoNumber : PySem.W.typeIn K (.ref (He.fAd K ("NoNumber", some "__init__"))) = some (.type "function") := of_decide_eq_true (MoH.exq c.more 32 (t := fun K => decide (PySem.W.typeIn K (.ref (He.fAd K ("NoNumber", some "__init__"))) = some (.type "function"))) rfl)
  have ex_NoLot : MoH.excB K (He.ga K "NoLot") = true := MoH.exq c.more 33 (t := fun K => MoH.excB K (He.ga K "NoLot")) rfl
  have n_NoLot_part : PySem.W.findIn K (.ref (He.ga K "NoLot")) "part" = some none := of_decide_eq_true (MoH.exq c.more 34 (t := fun K => decide (PySem.W.findIn K (.ref (He.ga K "NoLot")) "part" = some none)) rfl)
  have ti_NoLot : PySem.W.typeIn K (.ref (He.fAd K ("NoLot", some "__init__"))) = some (.type "function") := of_decide_eq_true (MoH.exq c.more 35 (t := fun K => decide (PySem.W.typeIn K (.ref (He.fAd K ("NoLot", some "__init__"))) = some (.type "function"))) rfl)
  have a0 : PySem.W.findIn K (.ref (He.ga K "NoLot")) "__init__" = some (some (.ref (He.fAd K ("NoLot", some "__init__")))) := of_decide_eq_true (MoH.exq c.more 36 (t := fun K => decide (PySem.W.findIn K (.ref (He.ga K "NoLot")) "__init__" = some (some (.ref (He.fAd K ("NoLot", some "__init__")))))) rfl)
  have i0 : PySem.W.isFn K (.ref (He.fAd K ("NoLot", some "__init__"))) = true := MoH.exq c.more 37 (t := fun K => PySem.W.isFn K (.ref (He.fAd K ("NoLot", some "__init__")))) rfl
  have k0 : PySem.W.keepIn K (.ref (He.fAd K ("NoLot", some "__init__"))) = true := MoH.exq c.more 38 (t := fun K => PySem.W.keepIn K (.ref (He.fAd K ("NoLot", some "__init__")))) rfl
  have a1 : PySem.W.findIn K (.ref (He.ga K "NoNumber")) "__init__" = some (some (.ref (He.fAd K ("NoNumber", some "__init__")))) := of_decide_eq_true (MoH.exq c.more 39 (t := fun K => decide (PySem.W.findIn K (.ref (He.ga K "NoNumber")) "__init__" = some (some (.ref (He.fAd K ("NoNumber", some "__init__")))))) rfl)
  have i1 : PySem.W.isFn K (.ref (He.fAd K ("NoNumber", some "__init__"))) = true := MoH.exq c.more 40 (t := fun K => PySem.W.isFn K (.ref (He.fAd K ("NoNumber", some "__init__")))) rfl
  have k1 : PySem.W.keepIn K (.ref (He.fAd K ("NoNumber", some "__init__"))) = true := MoH.exq c.more 41 (t := fun K => PySem.W.keepIn K (.ref (He.fAd K ("NoNumber", some "__init__")))) rfl
  have a2 : PySem.W.findIn K (.ref (He.ga K "Ratio")) "__init__" = some (some (.ref (He.fAd K ("Ratio", some "__init__")))) := of_decide_eq_true (MoH.exq c.more 42 (t := fun K => decide (PySem.W.findIn K (.ref (He.ga K "Ratio")) "__init__" = some (some (.ref (He.fAd K ("Ratio", some "__init__")))))) rfl)
  have i2 : PySem.W.isFn K (.ref (He.fAd K ("Ratio", some "__init__"))) = true := MoH.exq c.more 43 (t := fun K => PySem.W.isFn K (.ref (He.fAd K ("Ratio", some "__init__")))) rfl
  have k2 : PySem.W.keepIn K (.ref (He.fAd K ("Ratio", some "__init__"))) = true := MoH.exq c.more 44 (t := fun K => PySem.W.keepIn K (.ref (He.fAd K ("Ratio", some "__init__")))) rfl
  have a3 : PySem.W.findIn K (.ref (He.ga K "Ratio")) "__add__" = some (some (.ref (He.fAd K ("Ratio", some "__add__")))) := of_decide_eq_true (MoH.exq c.more 45 (t := fun K => decide (PySem.W.findIn K (.ref (He.ga K "Ratio")) "__add__" = some (some (.ref (He.fAd K ("Ratio", some "__add__")))))) rfl)
  have i3 : PySem.W.isFn K (.ref (He.fAd K ("Ratio", some "__add__"))) = true := MoH.exq c.more 46 (t := fun K => PySem.W.isFn K (.ref (He.fAd K ("Ratio", some "__add__")))) rfl
  have k3 : PySem.W.keepIn K (.ref (He.fAd K ("Ratio", some "__add__"))) = true := MoH.exq c.more 47 (t := fun K => PySem.W.keepIn K (.ref (He.fAd K ("Ratio", some "__add__")))) rfl
  have a4 : PySem.W.findIn K (.ref (He.ga K "Ratio")) "__radd__" = some (some (.ref (He.fAd K ("Ratio", some "__radd__")))) := of_decide_eq_true (MoH.exq c.more 48 (t := fun K => decide (PySem.W.findIn K (.ref (He.ga K "Ratio")) "__radd__" = some (some (.ref (He.fAd K ("Ratio", some "__radd__")))))) rfl)
  have i4 : PySem.W.isFn K (.ref (He.fAd K ("Ratio", some "__radd__"))) = true := MoH.exq c.more 49 (t := fun K => PySem.W.isFn K (.ref (He.fAd K ("Ratio", some "__radd__")))) rfl
  have k4 : PySem.W.keepIn K (.ref (He.fAd K ("Ratio", some "__radd__"))) = true := MoH.exq c.more 50 (t := fun K => PySem.W.keepIn K (.ref (He.fAd K ("Ratio", some "__radd__")))) rfl
  have a5 : PySem.W.findIn K (.ref (He.ga K "Ratio")) "__mul__" = some (some (.ref (He.fAd K ("Ratio", some "__mul__")))) := of_decide_eq_true (MoH.exq c.more 51 (t := fun K => decide (PySem.W.findIn K (.ref (He.ga K "Ratio")) "__mul__" = some (some (.ref (He.fAd K ("Ratio", some "__mul__")))))) rfl)
  have i5 : PySem.W.isFn K (.ref (He.fAd K ("Ratio", some "__mul__"))) = true := MoH.exq c.more 52 (t := fun K => PySem.W.isFn K (.ref (He.fAd K ("Ratio", some "__mul__")))) rfl
  have k5 : PySem.W.keepIn K (.ref (He.fAd K ("Ratio", some "__mul__"))) = true := MoH.exq c.more 53 (t := fun K => PySem.W.keepIn K (.ref (He.fAd K ("Ratio", some "__mul__")))) rfl
  have a6 : PySem.W.findIn K (.ref (He.ga K "Ratio")) "__rmul__" = some (some (.ref (He.fAd K ("Ratio", some "__rmul__")))) := of_decide_eq_true (MoH.exq c.more 54 (t := fun K => decide (PySem.W.findIn K (.ref (He.ga K "Ratio")) "__rmul__" = some (some (.ref (He.fAd K ("Ratio", some "__rmul__")))))) rfl)
  have i6 : PySem.W.isFn K (.ref (He.fAd K ("Ratio", some "__rmul__"))) = true := MoH.exq c.more 55 (t := fun K => PySem.W.isFn K (.ref (He.fAd K ("Ratio", some "__rmul__")))) rfl
  have k6 : PySem.W.keepIn K (.ref (He.fAd K ("Ratio", some "__rmul__"))) = true := MoH.exq c.more 56 (t := fun K => PySem.W.keepIn K (.ref (He.fAd K ("Ratio", some "__rmul__")))) rfl
  have a7 : PySem.W.findIn K (.ref (He.ga K "Ratio")) "__neg__" = some (some (.ref (He.fAd K ("Ratio", some "__neg__")))) := of_decide_eq_true (MoH.exq c.more 57 (t := fun K => decide (PySem.W.findIn K (.ref (He.ga K "Ratio")) "__neg__" = some (some (.ref (He.fAd K ("Ratio", some "__neg__")))))) rfl)
  have i7 : PySem.W.isFn K (.ref (He.fAd K ("Ratio", some "__neg__"))) = true := MoH.exq c.more 58 (t := fun K => PySem.W.isFn K (.ref (He.fAd K ("Ratio", some "__neg__")))) rfl
  have k7 : PySem.W.keepIn K (.ref (He.fAd K ("Ratio", some "__neg__"))) = true := MoH.exq c.more 59 (t := fun K => PySem.W.keepIn K (.ref (He.fAd K ("Ratio", some "__neg__")))) rfl
  have a8 : PySem.W.findIn K (.ref (He.ga K "Ratio")) "__eq__" = some (some (.ref (He.fAd K ("Ratio", some "__eq__")))) := of_decide_eq_true (MoH.exq c.more 60 (t := fun K => decide (PySem.W.findIn K (.ref (He.ga K "Ratio")) "__eq__" = some (some (.ref (He.fAd K ("Ratio", some "__eq__")))))) rfl)
  have i8 : PySem.W.isFn K (.ref (He.fAd K ("Ratio", some "__eq__"))) = true := MoH.exq c.more 61 (t := fun K => PySem.W.isFn K (.ref (He.fAd K ("Ratio", some "__eq__")))) rfl
  have k8 : PySem.W.keepIn K (.ref (He.fAd K ("Ratio", some "__eq__"))) = true := MoH.exq c.more 62 (t := fun K => PySem.W.keepIn K (.ref (He.fAd K ("Ratio", some "__eq__")))) rfl
  have a9 : PySem.W.findIn K (.ref (He.ga K "Ratio")) "__le__" = some (some (.ref (He.fAd K ("Ratio", some "__le__")))) := of_decide_eq_true (MoH.exq c.more 63 (t := fun K => decide (PySem.W.findIn K (.ref (He.ga K "Ratio")) "__le__" = some (some (.ref (He.fAd K ("Ratio", some "__le__")))))) rfl)
  have i9 : PySem.W.isFn K (.ref (He.fAd K ("Ratio", some "__le__"))) = true := MoH.exq c.more 64 (t := fun K => PySem.W.isFn K (.ref (He.fAd K ("Ratio", some "__le__")))) rfl
  have k9 : PySem.W.keepIn K (.ref (He.fAd K ("Ratio", some "__le__"))) = true := MoH.exq c.more 65 (t := fun K => PySem.W.keepIn K (.ref (He.fAd K ("Ratio", some "__le__")))) rfl
  have a10 : PySem.W.nsIn K mainGlobals "is_whole" = some (some (.ref (He.fAd K ("is_whole", none)))) := of_decide_eq_true (MoH.exq c.more 66 (t := fun K => decide (PySem.W.nsIn K mainGlobals "is_whole" = some (some (.ref (He.fAd K ("is_whole", none)))))) rfl)
  have k10 : PySem.W.keepIn K (.ref (He.fAd K ("is_whole", none))) = true := MoH.exq c.more 67 (t := fun K => PySem.W.keepIn K (.ref (He.fAd K ("is_whole", none)))) rfl
  have a11 : PySem.W.nsIn K mainGlobals "is_number" = some (some (.ref (He.fAd K ("is_number", none)))) := of_decide_eq_true (MoH.exq c.more 68 (t := fun K => decide (PySem.W.nsIn K mainGlobals "is_number" = some (some (.ref (He.fAd K ("is_number", none)))))) rfl)
  have k11 : PySem.W.keepIn K (.ref (He.fAd K ("is_number", none))) = true := MoH.exq c.more 69 (t := fun K => PySem.W.keepIn K (.ref (He.fAd K ("is_number", none)))) rfl
  have a12 : PySem.W.nsIn K mainGlobals "ratio_of" = some (some (.ref (He.fAd K ("ratio_of", none)))) := of_decide_eq_true (MoH.exq c.more 70 (t := fun K => decide (PySem.W.nsIn K mainGlobals "ratio_of" = some (some (.ref (He.fAd K ("ratio_of", none)))))) rfl)
  have k12 : PySem.W.keepIn K (.ref (He.fAd K ("ratio_of", none))) = true := MoH.exq c.more 71 (t := fun K => PySem.W.keepIn K (.ref (He.fAd K ("ratio_of", none)))) rfl
  have a13 : PySem.W.nsIn K mainGlobals "whole_parts" = some (some (.ref (He.fAd K ("whole_parts", none)))) := of_decide_eq_true (MoH.exq c.more 72 (t := fun K => decide (PySem.W.nsIn K mainGlobals "whole_parts" = some (some (.ref (He.fAd K ("whole_parts", none)))))) rfl)
  have k13 : PySem.W.keepIn K (.ref (He.fAd K ("whole_parts", none))) = true := MoH.exq c.more 73 (t := fun K => PySem.W.keepIn K (.ref (He.fAd K ("whole_parts", none)))) rfl
  have a14 : PySem.W.nsIn K mainGlobals "sum_ratios" = some (some (.ref (He.fAd K ("sum_ratios", none)))) := of_decide_eq_true (MoH.exq c.more 74 (t := fun K => decide (PySem.W.nsIn K mainGlobals "sum_ratios" = some (some (.ref (He.fAd K ("sum_ratios", none)))))) rfl)
  have k14 : PySem.W.keepIn K (.ref (He.fAd K ("sum_ratios", none))) = true := MoH.exq c.more 75 (t := fun K => PySem.W.keepIn K (.ref (He.fAd K ("sum_ratios", none)))) rfl
  have a15 : PySem.W.nsIn K mainGlobals "product_ratios" = some (some (.ref (He.fAd K ("product_ratios", none)))) := of_decide_eq_true (MoH.exq c.more 76 (t := fun K => decide (PySem.W.nsIn K mainGlobals "product_ratios" = some (some (.ref (He.fAd K ("product_ratios", none)))))) rfl)
  have k15 : PySem.W.keepIn K (.ref (He.fAd K ("product_ratios", none))) = true := MoH.exq c.more 77 (t := fun K => PySem.W.keepIn K (.ref (He.fAd K ("product_ratios", none)))) rfl
  have a16 : PySem.W.nsIn K mainGlobals "_gap" = some (some (.ref (He.fAd K ("_gap", none)))) := of_decide_eq_true (MoH.exq c.more 78 (t := fun K => decide (PySem.W.nsIn K mainGlobals "_gap" = some (some (.ref (He.fAd K ("_gap", none)))))) rfl)
  have k16 : PySem.W.keepIn K (.ref (He.fAd K ("_gap", none))) = true := MoH.exq c.more 79 (t := fun K => PySem.W.keepIn K (.ref (He.fAd K ("_gap", none)))) rfl
  have a17 : PySem.W.nsIn K mainGlobals "trimmed" = some (some (.ref (He.fAd K ("trimmed", none)))) := of_decide_eq_true (MoH.exq c.more 80 (t := fun K => decide (PySem.W.nsIn K mainGlobals "trimmed" = some (some (.ref (He.fAd K ("trimmed", none)))))) rfl)
  have k17 : PySem.W.keepIn K (.ref (He.fAd K ("trimmed", none))) = true := MoH.exq c.more 81 (t := fun K => PySem.W.keepIn K (.ref (He.fAd K ("trimmed", none)))) rfl
  have a18 : PySem.W.nsIn K mainGlobals "first_powers" = some (some (.ref (He.fAd K ("first_powers", none)))) := of_decide_eq_true (MoH.exq c.more 82 (t := fun K => decide (PySem.W.nsIn K mainGlobals "first_powers" = some (some (.ref (He.fAd K ("first_powers", none)))))) rfl)
  have k18 : PySem.W.keepIn K (.ref (He.fAd K ("first_powers", none))) = true := MoH.exq c.more 83 (t := fun K => PySem.W.keepIn K (.ref (He.fAd K ("first_powers", none)))) rfl
  have a19 : PySem.W.nsIn K mainGlobals "paired" = some (some (.ref (He.fAd K ("paired", none)))) := of_decide_eq_true (MoH.exq c.more 84 (t := fun K => decide (PySem.W.nsIn K mainGlobals "paired" = some (some (.ref (He.fAd K ("paired", none)))))) rfl)
  have k19 : PySem.W.keepIn K (.ref (He.fAd K ("paired", none))) = true := MoH.exq c.more 85 (t := fun K => PySem.W.keepIn K (.ref (He.fAd K ("paired", none)))) rfl
  have a20 : PySem.W.findIn K (.ref (He.ga K "Poly")) "__init__" = some (some (.ref (He.fAd K ("Poly", some "__init__")))) := of_decide_eq_true (MoH.exq c.more 86 (t := fun K => decide (PySem.W.findIn K (.ref (He.ga K "Poly")) "__init__" = some (some (.ref (He.fAd K ("Poly", some "__init__")))))) rfl)
  have i20 : PySem.W.isFn K (.ref (He.fAd K ("Poly", some "__init__"))) = true := MoH.exq c.more 87 (t := fun K => PySem.W.isFn K (.ref (He.fAd K ("Poly", some "__init__")))) rfl
  have k20 : PySem.W.keepIn K (.ref (He.fAd K ("Poly", some "__init__"))) = true := MoH.exq c.more 88 (t := fun K => PySem.W.keepIn K (.ref (He.fAd K ("Poly", some "__init__")))) rfl
  have a21 : PySem.W.findIn K (.ref (He.ga K "Poly")) "__eq__" = some (some (.ref (He.fAd K ("Poly", some "__eq__")))) := of_decide_eq_true (MoH.exq c.more 89 (t := fun K => decide (PySem.W.findIn K (.ref (He.ga K "Poly")) "__eq__" = some (some (.ref (He.fAd K ("Poly", some "__eq__")))))) rfl)
  have i21 : PySem.W.isFn K (.ref (He.fAd K ("Poly", some "__eq__"))) = true := MoH.exq c.more 90 (t := fun K => PySem.W.isFn K (.ref (He.fAd K ("Poly", some "__eq__")))) rfl
  have k21 : PySem.W.keepIn K (.ref (He.fAd K ("Poly", some "__eq__"))) = true := MoH.exq c.more 91 (t := fun K => PySem.W.keepIn K (.ref (He.fAd K ("Poly", some "__eq__")))) rfl
  have a22 : PySem.W.findIn K (.ref (He.ga K "Poly")) "__mul__" = some (some (.ref (He.fAd K ("Poly", some "__mul__")))) := of_decide_eq_true (MoH.exq c.more 92 (t := fun K => decide (PySem.W.findIn K (.ref (He.ga K "Poly")) "__mul__" = some (some (.ref (He.fAd K ("Poly", some "__mul__")))))) rfl)
  have i22 : PySem.W.isFn K (.ref (He.fAd K ("Poly", some "__mul__"))) = true := MoH.exq c.more 93 (t := fun K => PySem.W.isFn K (.ref (He.fAd K ("Poly", some "__mul__")))) rfl
  have k22 : PySem.W.keepIn K (.ref (He.fAd K ("Poly", some "__mul__"))) = true := MoH.exq c.more 94 (t := fun K => PySem.W.keepIn K (.ref (He.fAd K ("Poly", some "__mul__")))) rfl
  have a23 : PySem.W.findIn K (.ref (He.ga K "Poly")) "__rmul__" = some (some (.ref (He.fAd K ("Poly", some "__rmul__")))) := of_decide_eq_true (MoH.exq c.more 95 (t := fun K => decide (PySem.W.findIn K (.ref (He.ga K "Poly")) "__rmul__" = some (some (.ref (He.fAd K ("Poly", some "__rmul__")))))) rfl)
  have i23 : PySem.W.isFn K (.ref (He.fAd K ("Poly", some "__rmul__"))) = true := MoH.exq c.more 96 (t := fun K => PySem.W.isFn K (.ref (He.fAd K ("Poly", some "__rmul__")))) rfl
  have k23 : PySem.W.keepIn K (.ref (He.fAd K ("Poly", some "__rmul__"))) = true := MoH.exq c.more 97 (t := fun K => PySem.W.keepIn K (.ref (He.fAd K ("Poly", some "__rmul__")))) rfl
  have a24 : PySem.W.nsIn K mainGlobals "poly_of" = some (some (.ref (He.fAd K ("poly_of", none)))) := of_decide_eq_true (MoH.exq c.more 98 (t := fun K => decide (PySem.W.nsIn K mainGlobals "poly_of" = some (some (.ref (He.fAd K ("poly_of", none)))))) rfl)
  have k24 : PySem.W.keepIn K (.ref (He.fAd K ("poly_of", none))) = true := MoH.exq c.more 99 (t := fun K => PySem.W.keepIn K (.ref (He.fAd K ("poly_of", none)))) rfl
  have a25 : PySem.W.nsIn K mainGlobals "_is_operand" = some (some (.ref (He.fAd K ("_is_operand", none)))) := of_decide_eq_true (MoH.exq c.more 100 (t := fun K => decide (PySem.W.nsIn K mainGlobals "_is_operand" = some (some (.ref (He.fAd K ("_is_operand", none)))))) rfl)
  have k25 : PySem.W.keepIn K (.ref (He.fAd K ("_is_operand", none))) = true := MoH.exq c.more 101 (t := fun K => PySem.W.keepIn K (.ref (He.fAd K ("_is_operand", none)))) rfl
  have a26 : PySem.W.nsIn K mainGlobals "product_polys" = some (some (.ref (He.fAd K ("product_polys", none)))) := of_decide_eq_true (MoH.exq c.more 102 (t := fun K => decide (PySem.W.nsIn K mainGlobals "product_polys" = some (some (.ref (He.fAd K ("product_polys", none)))))) rfl)
  have k26 : PySem.W.keepIn K (.ref (He.fAd K ("product_polys", none))) = true := MoH.exq c.more 103 (t := fun K => PySem.W.keepIn K (.ref (He.fAd K ("product_polys", none)))) rfl
  have a27 : PySem.W.nsIn K mainGlobals "continued" = some (some (.ref (He.fAd K ("continued", none)))) := of_decide_eq_true (MoH.exq c.more 104 (t := fun K => decide (PySem.W.nsIn K mainGlobals "continued" = some (some (.ref (He.fAd K ("continued", none)))))) rfl)
  have k27 : PySem.W.keepIn K (.ref (He.fAd K ("continued", none))) = true := MoH.exq c.more 105 (t := fun K => PySem.W.keepIn K (.ref (He.fAd K ("continued", none)))) rfl
  have a28 : PySem.W.findIn K (.ref (He.ga K "Sure")) "__init__" = some (some (.ref (He.fAd K ("Sure", some "__init__")))) := of_decide_eq_true (MoH.exq c.more 106 (t := fun K => decide (PySem.W.findIn K (.ref (He.ga K "Sure")) "__init__" = some (some (.ref (He.fAd K ("Sure", some "__init__")))))) rfl)
  have i28 : PySem.W.isFn K (.ref (He.fAd K ("Sure", some "__init__"))) = true := MoH.exq c.more 107 (t := fun K => PySem.W.isFn K (.ref (He.fAd K ("Sure", some "__init__")))) rfl
  have k28 : PySem.W.keepIn K (.ref (He.fAd K ("Sure", some "__init__"))) = true := MoH.exq c.more 108 (t := fun K => PySem.W.keepIn K (.ref (He.fAd K ("Sure", some "__init__")))) rfl
  have a29 : PySem.W.findIn K (.ref (He.ga K "Lot")) "__init__" = some (some (.ref (He.fAd K ("Lot", some "__init__")))) := of_decide_eq_true (MoH.exq c.more 109 (t := fun K => decide (PySem.W.findIn K (.ref (He.ga K "Lot")) "__init__" = some (some (.ref (He.fAd K ("Lot", some "__init__")))))) rfl)
  have i29 : PySem.W.isFn K (.ref (He.fAd K ("Lot", some "__init__"))) = true := MoH.exq c.more 110 (t := fun K => PySem.W.isFn K (.ref (He.fAd K ("Lot", some "__init__")))) rfl
  have k29 : PySem.W.keepIn K (.ref (He.fAd K ("Lot", some "__init__"))) = true := MoH.exq c.more 111 (t := fun K => PySem.W.keepIn K (.ref (He.fAd K ("Lot", some "__init__")))) rfl
  have a30 : PySem.W.findIn K (.ref (He.ga K "Lot")) "__eq__" = some (some (.ref (He.fAd K ("Lot", some "__eq__")))) := of_decide_eq_true (MoH.exq c.more 112 (t := fun K => decide (PySem.W.findIn K (.ref (He.ga K "Lot")) "__eq__" = some (some (.ref (He.fAd K ("Lot", some "__eq__")))))) rfl)
  have i30 : PySem.W.isFn K (.ref (He.fAd K ("Lot", some "__eq__"))) = true := MoH.exq c.more 113 (t := fun K => PySem.W.isFn K (.ref (He.fAd K ("Lot", some "__eq__")))) rfl
  have k30 : PySem.W.keepIn K (.ref (He.fAd K ("Lot", some "__eq__"))) = true := MoH.exq c.more 114 (t := fun K => PySem.W.keepIn K (.ref (He.fAd K ("Lot", some "__eq__")))) rfl
  have a31 : PySem.W.findIn K (.ref (He.ga K "Lot")) "row" = some (some (.ref (He.fAd K ("Lot", some "row")))) := of_decide_eq_true (MoH.exq c.more 115 (t := fun K => decide (PySem.W.findIn K (.ref (He.ga K "Lot")) "row" = some (some (.ref (He.fAd K ("Lot", some "row")))))) rfl)
  have i31 : PySem.W.isFn K (.ref (He.fAd K ("Lot", some "row"))) = true := MoH.exq c.more 116 (t := fun K => PySem.W.isFn K (.ref (He.fAd K ("Lot", some "row")))) rfl
  have k31 : PySem.W.keepIn K (.ref (He.fAd K ("Lot", some "row"))) = true := MoH.exq c.more 117 (t := fun K => PySem.W.keepIn K (.ref (He.fAd K ("Lot", some "row")))) rfl
  have a32 : PySem.W.nsIn K mainGlobals "lot_at" = some (some (.ref (He.fAd K ("lot_at", none)))) := of_decide_eq_true (MoH.exq c.more 118 (t := fun K => decide (PySem.W.nsIn K mainGlobals "lot_at" = some (some (.ref (He.fAd K ("lot_at", none)))))) rfl)
  have k32 : PySem.W.keepIn K (.ref (He.fAd K ("lot_at", none))) = true := MoH.exq c.more 119 (t := fun K => PySem.W.keepIn K (.ref (He.fAd K ("lot_at", none)))) rfl
  have a33 : PySem.W.nsIn K mainGlobals "first_numbers" = some (some (.ref (He.fAd K ("first_numbers", none)))) := of_decide_eq_true (MoH.exq c.more 120 (t := fun K => decide (PySem.W.nsIn K mainGlobals "first_numbers" = some (some (.ref (He.fAd K ("first_numbers", none)))))) rfl)
  have k33 : PySem.W.keepIn K (.ref (He.fAd K ("first_numbers", none))) = true := MoH.exq c.more 121 (t := fun K => PySem.W.keepIn K (.ref (He.fAd K ("first_numbers", none)))) rfl
  have a34 : PySem.W.nsIn K mainGlobals "_are_numbers" = some (some (.ref (He.fAd K ("_are_numbers", none)))) := of_decide_eq_true (MoH.exq c.more 122 (t := fun K => decide (PySem.W.nsIn K mainGlobals "_are_numbers" = some (some (.ref (He.fAd K ("_are_numbers", none)))))) rfl)
  have k34 : PySem.W.keepIn K (.ref (He.fAd K ("_are_numbers", none))) = true := MoH.exq c.more 123 (t := fun K => PySem.W.keepIn K (.ref (He.fAd K ("_are_numbers", none)))) rfl
  have a35 : PySem.W.nsIn K mainGlobals "_are_points" = some (some (.ref (He.fAd K ("_are_points", none)))) := of_decide_eq_true (MoH.exq c.more 124 (t := fun K => decide (PySem.W.nsIn K mainGlobals "_are_points" = some (some (.ref (He.fAd K ("_are_points", none)))))) rfl)
  have k35 : PySem.W.keepIn K (.ref (He.fAd K ("_are_points", none))) = true := MoH.exq c.more 125 (t := fun K => PySem.W.keepIn K (.ref (He.fAd K ("_are_points", none)))) rfl
  have a36 : PySem.W.nsIn K mainGlobals "_law_is_integer" = some (some (.ref (He.fAd K ("_law_is_integer", none)))) := of_decide_eq_true (MoH.exq c.more 126 (t := fun K => decide (PySem.W.nsIn K mainGlobals "_law_is_integer" = some (some (.ref (He.fAd K ("_law_is_integer", none)))))) rfl)
  have k36 : PySem.W.keepIn K (.ref (He.fAd K ("_law_is_integer", none))) = true := MoH.exq c.more 127 (t := fun K => PySem.W.keepIn K (.ref (He.fAd K ("_law_is_integer", none)))) rfl
  have a37 : PySem.W.nsIn K mainGlobals "_law_feed" = some (some (.ref (He.fAd K ("_law_feed", none)))) := of_decide_eq_true (MoH.exq c.more 128 (t := fun K => decide (PySem.W.nsIn K mainGlobals "_law_feed" = some (some (.ref (He.fAd K ("_law_feed", none)))))) rfl)
  have k37 : PySem.W.keepIn K (.ref (He.fAd K ("_law_feed", none))) = true := MoH.exq c.more 129 (t := fun K => PySem.W.keepIn K (.ref (He.fAd K ("_law_feed", none)))) rfl
  have a38 : PySem.W.nsIn K mainGlobals "_law_take" = some (some (.ref (He.fAd K ("_law_take", none)))) := of_decide_eq_true (MoH.exq c.more 130 (t := fun K => decide (PySem.W.nsIn K mainGlobals "_law_take" = some (some (.ref (He.fAd K ("_law_take", none)))))) rfl)
  have k38 : PySem.W.keepIn K (.ref (He.fAd K ("_law_take", none))) = true := MoH.exq c.more 131 (t := fun K => PySem.W.keepIn K (.ref (He.fAd K ("_law_take", none)))) rfl
  have a39 : PySem.W.nsIn K mainGlobals "_law_number" = some (some (.ref (He.fAd K ("_law_number", none)))) := of_decide_eq_true (MoH.exq c.more 132 (t := fun K => decide (PySem.W.nsIn K mainGlobals "_law_number" = some (some (.ref (He.fAd K ("_law_number", none)))))) rfl)
  have k39 : PySem.W.keepIn K (.ref (He.fAd K ("_law_number", none))) = true := MoH.exq c.more 133 (t := fun K => PySem.W.keepIn K (.ref (He.fAd K ("_law_number", none)))) rfl
  have a40 : PySem.W.nsIn K mainGlobals "_law_is" = some (some (.ref (He.fAd K ("_law_is", none)))) := of_decide_eq_true (MoH.exq c.more 134 (t := fun K => decide (PySem.W.nsIn K mainGlobals "_law_is" = some (some (.ref (He.fAd K ("_law_is", none)))))) rfl)
  have k40 : PySem.W.keepIn K (.ref (He.fAd K ("_law_is", none))) = true := MoH.exq c.more 135 (t := fun K => PySem.W.keepIn K (.ref (He.fAd K ("_law_is", none)))) rfl
  have a41 : PySem.W.nsIn K mainGlobals "_law_row_is" = some (some (.ref (He.fAd K ("_law_row_is", none)))) := of_decide_eq_true (MoH.exq c.more 136 (t := fun K => decide (PySem.W.nsIn K mainGlobals "_law_row_is" = some (some (.ref (He.fAd K ("_law_row_is", none)))))) rfl)
  have k41 : PySem.W.keepIn K (.ref (He.fAd K ("_law_row_is", none))) = true := MoH.exq c.more 137 (t := fun K => PySem.W.keepIn K (.ref (He.fAd K ("_law_row_is", none)))) rfl
  have a42 : PySem.W.nsIn K mainGlobals "_law_poly_is" = some (some (.ref (He.fAd K ("_law_poly_is", none)))) := of_decide_eq_true (MoH.exq c.more 138 (t := fun K => decide (PySem.W.nsIn K mainGlobals "_law_poly_is" = some (some (.ref (He.fAd K ("_law_poly_is", none)))))) rfl)
  have k42 : PySem.W.keepIn K (.ref (He.fAd K ("_law_poly_is", none))) = true := MoH.exq c.more 139 (t := fun K => PySem.W.keepIn K (.ref (He.fAd K ("_law_poly_is", none)))) rfl
  have a43 : PySem.W.nsIn K mainGlobals "_law_add" = some (some (.ref (He.fAd K ("_law_add", none)))) := of_decide_eq_true (MoH.exq c.more 140 (t := fun K => decide (PySem.W.nsIn K mainGlobals "_law_add" = some (some (.ref (He.fAd K ("_law_add", none)))))) rfl)
  have k43 : PySem.W.keepIn K (.ref (He.fAd K ("_law_add", none))) = true := MoH.exq c.more 141 (t := fun K => PySem.W.keepIn K (.ref (He.fAd K ("_law_add", none)))) rfl
  have a44 : PySem.W.nsIn K mainGlobals "_law_lot" = some (some (.ref (He.fAd K ("_law_lot", none)))) := of_decide_eq_true (MoH.exq c.more 142 (t := fun K => decide (PySem.W.nsIn K mainGlobals "_law_lot" = some (some (.ref (He.fAd K ("_law_lot", none)))))) rfl)
  have k44 : PySem.W.keepIn K (.ref (He.fAd K ("_law_lot", none))) = true := MoH.exq c.more 143 (t := fun K => PySem.W.keepIn K (.ref (He.fAd K ("_law_lot", none)))) rfl
  have a45 : PySem.W.nsIn K mainGlobals "_law_numbers" = some (some (.ref (He.fAd K ("_law_numbers", none)))) := of_decide_eq_true (MoH.exq c.more 144 (t := fun K => decide (PySem.W.nsIn K mainGlobals "_law_numbers" = some (some (.ref (He.fAd K ("_law_numbers", none)))))) rfl)
  have k45 : PySem.W.keepIn K (.ref (He.fAd K ("_law_numbers", none))) = true := MoH.exq c.more 145 (t := fun K => PySem.W.keepIn K (.ref (He.fAd K ("_law_numbers", none)))) rfl
  have a46 : PySem.W.nsIn K mainGlobals "_law_lot_is" = some (some (.ref (He.fAd K ("_law_lot_is", none)))) := of_decide_eq_true (MoH.exq c.more 146 (t := fun K => decide (PySem.W.nsIn K mainGlobals "_law_lot_is" = some (some (.ref (He.fAd K ("_law_lot_is", none)))))) rfl)
  have k46 : PySem.W.keepIn K (.ref (He.fAd K ("_law_lot_is", none))) = true := MoH.exq c.more 147 (t := fun K => PySem.W.keepIn K (.ref (He.fAd K ("_law_lot_is", none)))) rfl
  have a47 : PySem.W.nsIn K mainGlobals "_law_flag" = some (some (.ref (He.fAd K ("_law_flag", none)))) := of_decide_eq_true (MoH.exq c.more 148 (t := fun K => decide (PySem.W.nsIn K mainGlobals "_law_flag" = some (some (.ref (He.fAd K ("_law_flag", none)))))) rfl)
  have k47 : PySem.W.keepIn K (.ref (He.fAd K ("_law_flag", none))) = true := MoH.exq c.more 149 (t := fun K => PySem.W.keepIn K (.ref (He.fAd K ("_law_flag", none)))) rfl
  have a48 : PySem.W.nsIn K mainGlobals "_law_part" = some (some (.ref (He.fAd K ("_law_part", none)))) := of_decide_eq_true (MoH.exq c.more 150 (t := fun K => decide (PySem.W.nsIn K mainGlobals "_law_part" = some (some (.ref (He.fAd K ("_law_part", none)))))) rfl)
  have k48 : PySem.W.keepIn K (.ref (He.fAd K ("_law_part", none))) = true := MoH.exq c.more 151 (t := fun K => PySem.W.keepIn K (.ref (He.fAd K ("_law_part", none)))) rfl
  have a49 : PySem.W.nsIn K mainGlobals "_law_spoiled" = some (some (.ref (He.fAd K ("_law_spoiled", none)))) := of_decide_eq_true (MoH.exq c.more 152 (t := fun K => decide (PySem.W.nsIn K mainGlobals "_law_spoiled" = some (some (.ref (He.fAd K ("_law_spoiled", none)))))) rfl)
  have k49 : PySem.W.keepIn K (.ref (He.fAd K ("_law_spoiled", none))) = true := MoH.exq c.more 153 (t := fun K => PySem.W.keepIn K (.ref (He.fAd K ("_law_spoiled", none)))) rfl
  have a50 : PySem.W.nsIn K mainGlobals "law" = some (some (.ref (He.fAd K ("law", none)))) := of_decide_eq_true (MoH.exq c.more 154 (t := fun K => decide (PySem.W.nsIn K mainGlobals "law" = some (some (.ref (He.fAd K ("law", none)))))) rfl)
  have k50 : PySem.W.keepIn K (.ref (He.fAd K ("law", none))) = true := MoH.exq c.more 155 (t := fun K => PySem.W.keepIn K (.ref (He.fAd K ("law", none)))) rfl
  have fa_kit_RP : PySem.W.kitOne K (.ref (He.ga K "Ratio")) (.ref (He.ga K "Poly")) = some false := of_decide_eq_true (MoH.exq c.more 156 (t := fun K => decide (PySem.W.kitOne K (.ref (He.ga K "Ratio")) (.ref (He.ga K "Poly")) = some false)) rfl)
  have fa_sub_RP : PySem.W.subIn K (.ref (He.ga K "Ratio")) (.ref (He.ga K "Poly")) = some false := of_decide_eq_true (MoH.exq c.more 157 (t := fun K => decide (PySem.W.subIn K (.ref (He.ga K "Ratio")) (.ref (He.ga K "Poly")) = some false)) rfl)
  have fa_sub_PR : PySem.W.subIn K (.ref (He.ga K "Poly")) (.ref (He.ga K "Ratio")) = some false := of_decide_eq_true (MoH.exq c.more 158 (t := fun K => decide (PySem.W.subIn K (.ref (He.ga K "Poly")) (.ref (He.ga K "Ratio")) = some false)) rfl)
  have fa_kit_PR : PySem.W.kitOne K (.ref (He.ga K "Poly")) (.ref (He.ga K "Ratio")) = some false := of_decide_eq_true (MoH.exq c.more 159 (t := fun K => decide (PySem.W.kitOne K (.ref (He.ga K "Poly")) (.ref (He.ga K "Ratio")) = some false)) rfl)
  have fa_ik_str : PySem.W.kitOne K (.type "str") (.ref (He.ga K "Ratio")) = some false := of_decide_eq_true (MoH.exq c.more 160 (t := fun K => decide (PySem.W.kitOne K (.type "str") (.ref (He.ga K "Ratio")) = some false)) rfl)
  have fa_ik_bool : PySem.W.kitOne K (.type "bool") (.ref (He.ga K "Ratio")) = some false := of_decide_eq_true (MoH.exq c.more 161 (t := fun K => decide (PySem.W.kitOne K (.type "bool") (.ref (He.ga K "Ratio")) = some false)) rfl)
  have fa_ik_NoneType : PySem.W.kitOne K (.type "NoneType") (.ref (He.ga K "Ratio")) = some false := of_decide_eq_true (MoH.exq c.more 162 (t := fun K => decide (PySem.W.kitOne K (.type "NoneType") (.ref (He.ga K "Ratio")) = some false)) rfl)
  have fa_ik_list : PySem.W.kitOne K (.type "list") (.ref (He.ga K "Ratio")) = some false := of_decide_eq_true (MoH.exq c.more 163 (t := fun K => decide (PySem.W.kitOne K (.type "list") (.ref (He.ga K "Ratio")) = some false)) rfl)
  have kit_NoLot_MeansError : PySem.W.kitOne K (.ref (He.ga K "NoLot")) (.ref (He.ga K "MeansError")) = some true := of_decide_eq_true (MoH.exq c.more 164 (t := fun K => decide (PySem.W.kitOne K (.ref (He.ga K "NoLot")) (.ref (He.ga K "MeansError")) = some true)) rfl)
  have kit_NoLot_NoBar : PySem.W.kitOne K (.ref (He.ga K "NoLot")) (.ref (He.ga K "NoBar")) = some false := of_decide_eq_true (MoH.exq c.more 165 (t := fun K => decide (PySem.W.kitOne K (.ref (He.ga K "NoLot")) (.ref (He.ga K "NoBar")) = some false)) rfl)
  have z_isinstance : PySem.W.nsIn K mainGlobals "isinstance" = some none := of_decide_eq_true (MoH.exq c.more 166 (t := fun K => decide (PySem.W.nsIn K mainGlobals "isinstance" = some none)) rfl)
  have z_int : PySem.W.nsIn K mainGlobals "int" = some none := of_decide_eq_true (MoH.exq c.more 167 (t := fun K => decide (PySem.W.nsIn K mainGlobals "int" = some none)) rfl)
  have z_bool : PySem.W.nsIn K mainGlobals "bool" = some none := of_decide_eq_true (MoH.exq c.more 168 (t := fun K => decide (PySem.W.nsIn K mainGlobals "bool" = some none)) rfl)
  have z_abs : PySem.W.nsIn K mainGlobals "abs" = some none := of_decide_eq_true (MoH.exq c.more 169 (t := fun K => decide (PySem.W.nsIn K mainGlobals "abs" = some none)) rfl)
  have z_len : PySem.W.nsIn K mainGlobals "len" = some none := of_decide_eq_true (MoH.exq c.more 170 (t := fun K => decide (PySem.W.nsIn K mainGlobals "len" = some none)) rfl)
  have z_max : PySem.W.nsIn K mainGlobals "max" = some none := of_decide_eq_true (MoH.exq c.more 171 (t := fun K => decide (PySem.W.nsIn K mainGlobals "max" = some none)) rfl)
  have z_range : PySem.W.nsIn K mainGlobals "range" = some none := of_decide_eq_true (MoH.exq c.more 172 (t := fun K => decide (PySem.W.nsIn K mainGlobals "range" = some none)) rfl)
  have z_list : PySem.W.nsIn K mainGlobals "list" = some none := of_decide_eq_true (MoH.exq c.more 173 (t := fun K => decide (PySem.W.nsIn K mainGlobals "list" = some none)) rfl)
  have z_tuple : PySem.W.nsIn K mainGlobals "tuple" = some none := of_decide_eq_true (MoH.exq c.more 174 (t := fun K => decide (PySem.W.nsIn K mainGlobals "tuple" = some none)) rfl)
  have z_min : PySem.W.nsIn K mainGlobals "min" = some none := of_decide_eq_true (MoH.exq c.more 175 (t := fun K => decide (PySem.W.nsIn K mainGlobals "min" = some none)) rfl)
  have z_sum : PySem.W.nsIn K mainGlobals "sum" = some none := of_decide_eq_true (MoH.exq c.more 176 (t := fun K => decide (PySem.W.nsIn K mainGlobals "sum" = some none)) rfl)
  have z_any : PySem.W.nsIn K mainGlobals "any" = some none := of_decide_eq_true (MoH.exq c.more 177 (t := fun K => decide (PySem.W.nsIn K mainGlobals "any" = some none)) rfl)
  have z_all : PySem.W.nsIn K mainGlobals "all" = some none := of_decide_eq_true (MoH.exq c.more 178 (t := fun K => decide (PySem.W.nsIn K mainGlobals "all" = some none)) rfl)
  have z_NotImplemented : PySem.W.nsIn K mainGlobals "NotImplemented" = some none := of_decide_eq_true (MoH.exq c.more 179 (t := fun K => decide (PySem.W.nsIn K mainGlobals "NotImplemented" = some none)) rfl)
  have j_gcd : PySem.W.nsIn K mainGlobals "gcd" = some (some (.builtin "math.gcd")) := of_decide_eq_true (MoH.exq c.more 180 (t := fun K => decide (PySem.W.nsIn K mainGlobals "gcd" = some (some (.builtin "math.gcd")))) rfl)
  have j_lcm : PySem.W.nsIn K mainGlobals "lcm" = some (some (.builtin "math.lcm")) := of_decide_eq_true (MoH.exq c.more 181 (t := fun K => decide (PySem.W.nsIn K mainGlobals "lcm" = some (some (.builtin "math.lcm")))) rfl)
  obtain ⟨fd0, E0⟩ := c.t.d.def_ 0 (d := dd0) rfl
  have F0 : Fun K "__init__" "NoLot.__init__" s_NoLot___init__ (He.fAd K ("NoLot", some "__init__")) fd0 := MoH.fun_ofD E0
  obtain ⟨fd1, E1⟩ := c.t.d.def_ 1 (d := dd1) rfl
  have F1 : Fun K "__init__" "NoNumber.__init__" s_NoNumber___init__ (He.fAd K ("NoNumber", some "__init__")) fd1 := MoH.fun_ofD E1
  obtain ⟨fd2, E2⟩ := c.t.d.def_ 2 (d := dd2) rfl
  have F2 : FunD K "__init__" "Ratio.__init__" (defArgs s_Ratio___init__) (defBody s_Ratio___init__) (defScope s_Ratio___init__) [.int 1] [] (He.fAd K ("Ratio", some "__init__")) fd2 := E2
  obtain ⟨fd3, E3⟩ := c.t.d.def_ 3 (d := dd3) rfl
  have F3 : Fun K "__add__" "Ratio.__add__" s_Ratio___add__ (He.fAd K ("Ratio", some "__add__")) fd3 := MoH.fun_ofD E3
  obtain ⟨fd4, E4⟩ := c.t.d.def_ 4 (d := dd4) rfl
  have F4 : Fun K "__radd__" "Ratio.__radd__" s_Ratio___radd__ (He.fAd K ("Ratio", some "__radd__")) fd4 := MoH.fun_ofD E4
  obtain ⟨fd5, E5⟩ := c.t.d.def_ 5 (d := dd5) rfl
  have F5 : Fun K "__mul__" "Ratio.__mul__" s_Ratio___mul__ (He.fAd K ("Ratio", some "__mul__")) fd5 := MoH.fun_ofD E5
  obtain ⟨fd6, E6⟩ := c.t.d.def_ 6 (d := dd6) rfl
  have F6 : Fun K "__rmul__" "Ratio.__rmul__" s_Ratio___rmul__ (He.fAd K ("Ratio", some "__rmul__")) fd6 := MoH.fun_ofD E6
  obtain ⟨fd7, E7⟩ := c.t.d.def_ 7 (d := dd7) rfl
  have F7 : Fun K "__neg__" "Ratio.__neg__" s_Ratio___neg__ (He.fAd K ("Ratio", some "__neg__")) fd7 := MoH.fun_ofD E7
  obtain ⟨fd8, E8⟩ := c.t.d.def_ 8 (d := dd8) rfl
  have F8 : Fun K "__eq__" "Ratio.__eq__" s_Ratio___eq__ (He.fAd K ("Ratio", some "__eq__")) fd8 := MoH.fun_ofD E8
  obtain ⟨fd9, E9⟩ := c.t.d.def_ 9 (d := dd9) rfl
  have F9 : Fun K "__le__" "Ratio.__le__" s_Ratio___le__ (He.fAd K ("Ratio", some "__le__")) fd9 := MoH.fun_ofD E9
  obtain ⟨fd10, E10⟩ := c.t.d.def_ 10 (d := dd10) rfl
  have F10 : Fun K "is_whole" "is_whole" s_is_whole (He.fAd K ("is_whole", none)) fd10 := MoH.fun_ofD E10
  obtain ⟨fd11, E11⟩ := c.t.d.def_ 11 (d := dd11) rfl
  have F11 : Fun K "is_number" "is_number" s_is_number (He.fAd K ("is_number", none)) fd11 := MoH.fun_ofD E11
  obtain ⟨fd12, E12⟩ := c.t.d.def_ 12 (d := dd12) rfl
  have F12 : Fun K "ratio_of" "ratio_of" s_ratio_of (He.fAd K ("ratio_of", none)) fd12 := MoH.fun_ofD E12
  obtain ⟨fd13, E13⟩ := c.t.d.def_ 13 (d := dd13) rfl
  have F13 : Fun K "whole_parts" "whole_parts" s_whole_parts (He.fAd K ("whole_parts", none)) fd13 := MoH.fun_ofD E13
  obtain ⟨fd14, E14⟩ := c.t.d.def_ 14 (d := dd14) rfl
  have F14 : Fun K "_sum" "_sum" s_sum_ratios (He.fAd K ("sum_ratios", none)) fd14 := MoH.fun_ofD E14
  obtain ⟨fd15, E15⟩ := c.t.d.def_ 15 (d := dd15) rfl
  have F15 : Fun K "_product" "_product" s_product_ratios (He.fAd K ("product_ratios", none)) fd15 := MoH.fun_ofD E15
  obtain ⟨fd16, E16⟩ := c.t.d.def_ 16 (d := dd16) rfl
  have F16 : Fun K "_gap" "_gap" s__gap (He.fAd K ("_gap", none)) fd16 := MoH.fun_ofD E16
  obtain ⟨fd17, E17⟩ := c.t.d.def_ 17 (d := dd17) rfl
  have F17 : Fun K "trimmed" "trimmed" s_trimmed (He.fAd K ("trimmed", none)) fd17 := MoH.fun_ofD E17
  obtain ⟨fd18, E18⟩ := c.t.d.def_ 18 (d := dd18) rfl
  have F18 : Fun K "first_powers" "first_powers" s_first_powers (He.fAd K ("first_powers", none)) fd18 := MoH.fun_ofD E18
  obtain ⟨fd19, E19⟩ := c.t.d.def_ 19 (d := dd19) rfl
  have F19 : Fun K "paired" "paired" s_paired (He.fAd K ("paired", none)) fd19 := MoH.fun_ofD E19
  obtain ⟨fd20, E20⟩ := c.t.d.def_ 20 (d := dd20) rfl
  have F20 : Fun K "__init__" "Poly.__init__" s_Poly___init__ (He.fAd K ("Poly", some "__init__")) fd20 := MoH.fun_ofD E20
  obtain ⟨fd21, E21⟩ := c.t.d.def_ 21 (d := dd21) rfl
  have F21 : Fun K "__eq__" "Poly.__eq__" s_Poly___eq__ (He.fAd K ("Poly", some "__eq__")) fd21 := MoH.fun_ofD E21
  obtain ⟨fd22, E22⟩ := c.t.d.def_ 22 (d := dd22) rfl
  have F22 : Fun K "__mul__" "Poly.__mul__" s_Poly___mul__ (He.fAd K ("Poly", some "__mul__")) fd22 := MoH.fun_ofD E22
  obtain ⟨fd23, E23⟩ := c.t.d.def_ 23 (d := dd23) rfl
  have F23 : Fun K "__rmul__" "Poly.__rmul__" s_Poly___rmul__ (He.fAd K ("Poly", some "__rmul__")) fd23 := MoH.fun_ofD E23
  obtain ⟨fd24, E24⟩ := c.t.d.def_ 24 (d := dd24) rfl
  have F24 : Fun K "poly_of" "poly_of" s_poly_of (He.fAd K ("poly_of", none)) fd24 := MoH.fun_ofD E24
  obtain ⟨fd25, E25⟩ := c.t.d.def_ 25 (d := dd25) rfl
  have F25 : Fun K "_is_operand" "_is_operand" s__is_operand (He.fAd K ("_is_operand", none)) fd25 := MoH.fun_ofD E25
  obtain ⟨fd26, E26⟩ := c.t.d.def_ 26 (d := dd26) rfl
  have F26 : Fun K "_product" "_product" s_product_polys (He.fAd K ("product_polys", none)) fd26 := MoH.fun_ofD E26
  obtain ⟨fd27, E27⟩ := c.t.d.def_ 27 (d := dd27) rfl
  have F27 : Fun K "continued" "continued" s_continued (He.fAd K ("continued", none)) fd27 := MoH.fun_ofD E27
  obtain ⟨fd28, E28⟩ := c.t.d.def_ 28 (d := dd28) rfl
  have F28 : Fun K "__init__" "Sure.__init__" s_Sure___init__ (He.fAd K ("Sure", some "__init__")) fd28 := MoH.fun_ofD E28
  obtain ⟨fd29, E29⟩ := c.t.d.def_ 29 (d := dd29) rfl
  have F29 : Fun K "__init__" "Lot.__init__" s_Lot___init__ (He.fAd K ("Lot", some "__init__")) fd29 := MoH.fun_ofD E29
  obtain ⟨fd30, E30⟩ := c.t.d.def_ 30 (d := dd30) rfl
  have F30 : Fun K "__eq__" "Lot.__eq__" s_Lot___eq__ (He.fAd K ("Lot", some "__eq__")) fd30 := MoH.fun_ofD E30
  obtain ⟨fd31, E31⟩ := c.t.d.def_ 31 (d := dd31) rfl
  have F31 : Fun K "row" "Lot.row" s_Lot_row (He.fAd K ("Lot", some "row")) fd31 := MoH.fun_ofD E31
  obtain ⟨fd32, E32⟩ := c.t.d.def_ 32 (d := dd32) rfl
  have F32 : Fun K "lot_at" "lot_at" s_lot_at (He.fAd K ("lot_at", none)) fd32 := MoH.fun_ofD E32
  obtain ⟨fd33, E33⟩ := c.t.d.def_ 33 (d := dd33) rfl
  have F33 : Fun K "first_numbers" "first_numbers" s_first_numbers (He.fAd K ("first_numbers", none)) fd33 := MoH.fun_ofD E33
  obtain ⟨fd34, E34⟩ := c.t.d.def_ 34 (d := dd34) rfl
  have F34 : Fun K "_are_numbers" "_are_numbers" s__are_numbers (He.fAd K ("_are_numbers", none)) fd34 := MoH.fun_ofD E34
  obtain ⟨fd35, E35⟩ := c.t.d.def_ 35 (d := dd35) rfl
  have F35 : Fun K "_are_points" "_are_points" s__are_points (He.fAd K ("_are_points", none)) fd35 := MoH.fun_ofD E35
  obtain ⟨fd36, E36⟩ := c.t.d.def_ 36 (d := dd36) rfl
  have F36 : Fun K "_law_is_integer" "_law_is_integer" s__law_is_integer (He.fAd K ("_law_is_integer", none)) fd36 := MoH.fun_ofD E36
  obtain ⟨fd37, E37⟩ := c.t.d.def_ 37 (d := dd37) rfl
  have F37 : Fun K "_law_feed" "_law_feed" s__law_feed (He.fAd K ("_law_feed", none)) fd37 := MoH.fun_ofD E37
  obtain ⟨fd38, E38⟩ := c.t.d.def_ 38 (d := dd38) rfl
  have F38 : Fun K "_law_take" "_law_take" s__law_take (He.fAd K ("_law_take", none)) fd38 := MoH.fun_ofD E38
  obtain ⟨fd39, E39⟩ := c.t.d.def_ 39 (d := dd39) rfl
  have F39 : Fun K "_law_number" "_law_number" s__law_number (He.fAd K ("_law_number", none)) fd39 := MoH.fun_ofD E39
  obtain ⟨fd40, E40⟩ := c.t.d.def_ 40 (d := dd40) rfl
  have F40 : Fun K "_law_is" "_law_is" s__law_is (He.fAd K ("_law_is", none)) fd40 := MoH.fun_ofD E40
  obtain ⟨fd41, E41⟩ := c.t.d.def_ 41 (d := dd41) rfl
  have F41 : Fun K "_law_row_is" "_law_row_is" s__law_row_is (He.fAd K ("_law_row_is", none)) fd41 := MoH.fun_ofD E41
  obtain ⟨fd42, E42⟩ := c.t.d.def_ 42 (d := dd42) rfl
  have F42 : Fun K "_law_poly_is" "_law_poly_is" s__law_poly_is (He.fAd K ("_law_poly_is", none)) fd42 := MoH.fun_ofD E42
  obtain ⟨fd43, E43⟩ := c.t.d.def_ 43 (d := dd43) rfl
  have F43 : Fun K "_law_add" "_law_add" s__law_add (He.fAd K ("_law_add", none)) fd43 := MoH.fun_ofD E43
  obtain ⟨fd44, E44⟩ := c.t.d.def_ 44 (d := dd44) rfl
  have F44 : Fun K "_law_lot" "_law_lot" s__law_lot (He.fAd K ("_law_lot", none)) fd44 := MoH.fun_ofD E44
  obtain ⟨fd45, E45⟩ := c.t.d.def_ 45 (d := dd45) rfl
  have F45 : Fun K "_law_numbers" "_law_numbers" s__law_numbers (He.fAd K ("_law_numbers", none)) fd45 := MoH.fun_ofD E45
  obtain ⟨fd46, E46⟩ := c.t.d.def_ 46 (d := dd46) rfl
  have F46 : Fun K "_law_lot_is" "_law_lot_is" s__law_lot_is (He.fAd K ("_law_lot_is", none)) fd46 := MoH.fun_ofD E46
  obtain ⟨fd47, E47⟩ := c.t.d.def_ 47 (d := dd47) rfl
  have F47 : Fun K "_law_flag" "_law_flag" s__law_flag (He.fAd K ("_law_flag", none)) fd47 := MoH.fun_ofD E47
  obtain ⟨fd48, E48⟩ := c.t.d.def_ 48 (d := dd48) rfl
  have F48 : Fun K "_law_part" "_law_part" s__law_part (He.fAd K ("_law_part", none)) fd48 := MoH.fun_ofD E48
  obtain ⟨fd49, E49⟩ := c.t.d.def_ 49 (d := dd49) rfl
  have F49 : Fun K "_law_spoiled" "_law_spoiled" s__law_spoiled (He.fAd K ("_law_spoiled", none)) fd49 := MoH.fun_ofD E49
  obtain ⟨fd50, E50⟩ := c.t.d.def_ 50 (d := dd50) rfl
  have F50 : Fun K "law" "law" s_law (He.fAd K ("law", none)) fd50 := MoH.fun_ofD E50
  have e := hfa.symm.trans (PySem.W.mg_of X G a50)
  cases e
  have kb1_lot_at : KBn K fd32 ["points", "weights"] 1 ["weights"] (fun us ws => us ++ ws) (fun vs zs => vs ++ zs) := by
    obtain ⟨oc, od, kV, doc, pm, an, cdv, ct, osl, e, lk, hc⟩ := F32.ex
    cases e
    exact ⟨fun s us ws _ l1 l2 => match us, l1, ws, l2 with | [_], _, [_], _ => .of_eq rfl, fun r1 r2 => r1.append r2⟩
  let A : Ad := { Ratio := (He.ga K "Ratio"), Poly := (He.ga K "Poly"), Sure := (He.ga K "Sure"), Lot := (He.ga K "Lot"), NoNumber := (He.ga K "NoNumber"), NoLot := (He.ga K "NoLot"), MeansError := (He.ga K "MeansError"), NoBar := (He.ga K "NoBar"), f_NoLot___init__ := He.fAd K ("NoLot", some "__init__"), f_NoNumber___init__ := He.fAd K ("NoNumber", some "__init__"), f_Ratio___init__ := He.fAd K ("Ratio", some "__init__"), f_Ratio___add__ := He.fAd K ("Ratio", some "__add__"), f_Ratio___radd__ := He.fAd K ("Ratio", some "__radd__"), f_Ratio___mul__ := He.fAd K ("Ratio", some "__mul__"), f_Ratio___rmul__ := He.fAd K ("Ratio", some "__rmul__"), f_Ratio___neg__ := He.fAd K ("Ratio", some "__neg__"), f_Ratio___eq__ := He.fAd K ("Ratio", some "__eq__"), f_Ratio___le__ := He.fAd K ("Ratio", some "__le__"), f_is_whole := He.fAd K ("is_whole", none), f_is_number := He.fAd K ("is_number", none), f_ratio_of := He.fAd K ("ratio_of", none), f_whole_parts := He.fAd K ("whole_parts", none), f_sum_ratios := He.fAd K ("sum_ratios", none), f_product_ratios := He.fAd K ("product_ratios", none), f__gap := He.fAd K ("_gap", none), f_trimmed := He.fAd K ("trimmed", none), f_first_powers := He.fAd K ("first_powers", none), f_paired := He.fAd K ("paired", none), f_Poly___init__ := He.fAd K ("Poly", some "__init__"), f_Poly___eq__ := He.fAd K ("Poly", some "__eq__"), f_Poly___mul__ := He.fAd K ("Poly", some "__mul__"), f_Poly___rmul__ := He.fAd K ("Poly", some "__rmul__"), f_poly_of := He.fAd K ("poly_of", none), f__is_operand := He.fAd K ("_is_operand", none), f_product_polys := He.fAd K ("product_polys", none), f_continued := He.fAd K ("continued", none), f_Sure___init__ := He.fAd K ("Sure", some "__init__"), f_Lot___init__ := He.fAd K ("Lot", some "__init__"), f_Lot___eq__ := He.fAd K ("Lot", some "__eq__"), f_Lot_row := He.fAd K ("Lot", some "row"), f_lot_at := He.fAd K ("lot_at", none), f_first_numbers := He.fAd K ("first_numbers", none), f__are_numbers := He.fAd K ("_are_numbers", none), f__are_points := He.fAd K ("_are_points", none), f__law_is_integer := He.fAd K ("_law_is_integer", none), f__law_feed := He.fAd K ("_law_feed", none), f__law_take := He.fAd K ("_law_take", none), f__law_number := He.fAd K ("_law_number", none), f__law_is := He.fAd K ("_law_is", none), f__law_row_is := He.fAd K ("_law_row_is", none), f__law_poly_is := He.fAd K ("_law_poly_is", none), f__law_add := He.fAd K ("_law_add", none), f__law_lot := He.fAd K ("_law_lot", none), f__law_numbers := He.fAd K ("_law_numbers", none), f__law_lot_is := He.fAd K ("_law_lot_is", none), f__law_flag := He.fAd K ("_law_flag", none), f__law_part := He.fAd K ("_law_part", none), f__law_spoiled := He.fAd K ("_law_spoiled", none), f_law := He.fAd K ("law", none) }
  let D : Fd := { f_NoLot___init__ := fd0, f_NoNumber___init__ := fd1, f_Ratio___init__ := fd2, f_Ratio___add__ := fd3, f_Ratio___radd__ := fd4, f_Ratio___mul__ := fd5, f_Ratio___rmul__ := fd6, f_Ratio___neg__ := fd7, f_Ratio___eq__ := fd8, f_Ratio___le__ := fd9, f_is_whole := fd10, f_is_number := fd11, f_ratio_of := fd12, f_whole_parts := fd13, f_sum_ratios := fd14, f_product_ratios := fd15, f__gap := fd16, f_trimmed := fd17, f_first_powers := fd18, f_paired := fd19, f_Poly___init__ := fd20, f_Poly___eq__ := fd21, f_Poly___mul__ := fd22, f_Poly___rmul__ := fd23, f_poly_of := fd24, f__is_operand := fd25, f_product_polys := fd26, f_continued := fd27, f_Sure___init__ := fd28, f_Lot___init__ := fd29, f_Lot___eq__ := fd30, f_Lot_row := fd31, f_lot_at := fd32, f_first_numbers := fd33, f__are_numbers := fd34, f__are_points := fd35, f__law_is_integer := fd36, f__law_feed := fd37, f__law_take := fd38, f__law_number := fd39, f__law_is := fd40, f__law_row_is := fd41, f__law_poly_is := fd42, f__law_add := fd43, f__law_lot := fd44, f__law_numbers := fd45, f__law_lot_is := fd46, f__law_flag := fd47, f__law_part := fd48, f__law_spoiled := fd49, f_law := fd50 }
  have T : Txt K mg A D := {
    g_Ratio := PySem.W.mg_of X G g_Ratio,
    kp_Ratio := kc_Ratio,
    M_Ratio := ⟨mk_Ratio, a2, i2, kc_Ratio⟩,
    k_Ratio := MoH.ownK_ok ow_Ratio gd n_top_Ratio n_bottom_Ratio,
    g_Poly := PySem.W.mg_of X G g_Poly,
    kp_Poly := kc_Poly,
    M_Poly := ⟨mk_Poly, a20, i20, kc_Poly⟩,
    k_Poly := MoH.ownB_ok ow_Poly gd,
    n_Poly_coefficients := n_coefficients_Poly,
    n_Poly_degree := n_degree_Poly,
    n_Poly_lead := n_lead_Poly,
    g_Sure := PySem.W.mg_of X G g_Sure,
    kp_Sure := kc_Sure,
    M_Sure := ⟨mk_Sure, a28, i28, kc_Sure⟩,
    k_Sure := MoH.ownB_ok ow_Sure gd,
    n_Sure_numbers := n_numbers_Sure,
    g_Lot := PySem.W.mg_of X G g_Lot,
    kp_Lot := kc_Lot,
    M_Lot := ⟨mk_Lot, a29, i29, kc_Lot⟩,
    k_Lot := MoH.ownB_ok ow_Lot gd,
    n_Lot_poly := n_poly_Lot,
    n_Lot_begin := n_begin_Lot,
    n_Lot_count := n_count_Lot,
    g_MeansError := PySem.W.mg_of X G g_MeansError,
    g_NoBar := PySem.W.mg_of X G g_NoBar,
    g_NoNumber := PySem.W.mg_of X G g_NoNumber,
    o_NoNumber := (MoH.excB_ok ex_NoNumber gd).1,
    x_NoNumber := (MoH.excB_ok ex_NoNumber gd).2.1,
    c_NoNumber := (MoH.excB_ok ex_NoNumber gd).2.2.1,
    em_NoNumber := (MoH.excB_ok ex_NoNumber gd).2.2.2,
    n_NoNumber_word := n_NoNumber_word,
    i_NoNumber := a1,
    ti_NoNumber := ti_NoNumber,
    g_NoLot := PySem.W.mg_of X G g_NoLot,
    o_NoLot := (MoH.excB_ok ex_NoLot gd).1,
    x_NoLot := (MoH.excB_ok ex_NoLot gd).2.1,
    c_NoLot := (MoH.excB_ok ex_NoLot gd).2.2.1,
    em_NoLot := (MoH.excB_ok ex_NoLot gd).2.2.2,
    n_NoLot_part := n_NoLot_part,
    i_NoLot := a0,
    ti_NoLot := ti_NoLot,
    kit_RP := fa_kit_RP,
    sub_RP := fa_sub_RP,
    sub_PR := fa_sub_PR,
    kit_PR := fa_kit_PR,
    ik_str := fa_ik_str,
    ik_bool := fa_ik_bool,
    ik_NoneType := fa_ik_NoneType,
    ik_list := fa_ik_list,
    kit_NoLot_MeansError := kit_NoLot_MeansError,
    kit_NoLot_NoBar := kit_NoLot_NoBar,
    F_NoLot___init__ := F0,
    b_NoLot___init__ := F0.binds fun _ _ _ _ _ _ us hl => match us, hl with | [_, _], _ => rfl,
    m_NoLot___init__ := ⟨a0, i0, k0⟩,
    F_NoNumber___init__ := F1,
    b_NoNumber___init__ := F1.binds fun _ _ _ _ _ _ us hl => match us, hl with | [_, _], _ => rfl,
    m_NoNumber___init__ := ⟨a1, i1, k1⟩,
    F_Ratio___init__ := F2,
    b_Ratio___init__ := by obtain ⟨ds, r, b⟩ := F2.binds1 (ps := ["self", "top", "bottom"]) 3 1 (by simp) rfl (fun _ _ _ _ _ _ _ us its h1 h2 => match us, h1, its, h2 with | [_, _, _], _, [_], _ => ⟨_, rfl, by first | rfl | with_unfolding_all rfl | kernel_rfl⟩); cases r; exact b,
    b1_Ratio___init__ := F2.binds1 (ps := ["self", "top", "bottom"]) 2 0 (by simp) rfl (fun _ _ _ _ _ _ _ us its h1 h2 => match us, h1, its, h2 with | [_, _], _, [_], _ => ⟨_, rfl, by first | rfl | with_unfolding_all rfl | kernel_rfl⟩),
    m_Ratio___init__ := ⟨a2, i2, k2⟩,
    F_Ratio___add__ := F3,
    b_Ratio___add__ := F3.binds fun _ _ _ _ _ _ us hl => match us, hl with | [_, _], _ => rfl,
    m_Ratio___add__ := ⟨a3, i3, k3⟩,
    F_Ratio___radd__ := F4,
    b_Ratio___radd__ := F4.binds fun _ _ _ _ _ _ us hl => match us, hl with | [_, _], _ => rfl,
    m_Ratio___radd__ := ⟨a4, i4, k4⟩,
    F_Ratio___mul__ := F5,
    b_Ratio___mul__ := F5.binds fun _ _ _ _ _ _ us hl => match us, hl with | [_, _], _ => rfl,
    m_Ratio___mul__ := ⟨a5, i5, k5⟩,
    F_Ratio___rmul__ := F6,
    b_Ratio___rmul__ := F6.binds fun _ _ _ _ _ _ us hl => match us, hl with | [_, _], _ => rfl,
    m_Ratio___rmul__ := ⟨a6, i6, k6⟩,
    F_Ratio___neg__ := F7,
    b_Ratio___neg__ := F7.binds fun _ _ _ _ _ _ us hl => match us, hl with | [_], _ => rfl,
    m_Ratio___neg__ := ⟨a7, i7, k7⟩,
    F_Ratio___eq__ := F8,
    b_Ratio___eq__ := F8.binds fun _ _ _ _ _ _ us hl => match us, hl with | [_, _], _ => rfl,
    m_Ratio___eq__ := ⟨a8, i8, k8⟩,
    F_Ratio___le__ := F9,
    b_Ratio___le__ := F9.binds fun _ _ _ _ _ _ us hl => match us, hl with | [_, _], _ => rfl,
    m_Ratio___le__ := ⟨a9, i9, k9⟩,
    F_is_whole := F10,
    b_is_whole := F10.binds fun _ _ _ _ _ _ us hl => match us, hl with | [_], _ => rfl,
    g_is_whole := PySem.W.mg_of X G a10,
    F_is_number := F11,
    b_is_number := F11.binds fun _ _ _ _ _ _ us hl => match us, hl with | [_], _ => rfl,
    g_is_number := PySem.W.mg_of X G a11,
    F_ratio_of := F12,
    b_ratio_of := F12.binds fun _ _ _ _ _ _ us hl => match us, hl with | [_], _ => rfl,
    g_ratio_of := PySem.W.mg_of X G a12,
    F_whole_parts := F13,
    b_whole_parts := F13.binds fun _ _ _ _ _ _ us hl => match us, hl with | [_], _ => rfl,
    g_whole_parts := PySem.W.mg_of X G a13,
    F_sum_ratios := F14,
    b_sum_ratios := F14.binds fun _ _ _ _ _ _ us hl => match us, hl with | [_, _], _ => rfl,
    g_sum_ratios := PySem.W.mg_of X G a14,
    F_product_ratios := F15,
    b_product_ratios := F15.binds fun _ _ _ _ _ _ us hl => match us, hl with | [_, _], _ => rfl,
    g_product_ratios := PySem.W.mg_of X G a15,
    F__gap := F16,
    b__gap := F16.binds fun _ _ _ _ _ _ us hl => match us, hl with | [_, _], _ => rfl,
    g__gap := PySem.W.mg_of X G a16,
    F_trimmed := F17,
    b_trimmed := F17.binds fun _ _ _ _ _ _ us hl => match us, hl with | [_], _ => rfl,
    g_trimmed := PySem.W.mg_of X G a17,
    F_first_powers := F18,
    b_first_powers := F18.binds fun _ _ _ _ _ _ us hl => match us, hl with | [_, _], _ => rfl,
    g_first_powers := PySem.W.mg_of X G a18,
    F_paired := F19,
    b_paired := F19.binds fun _ _ _ _ _ _ us hl => match us, hl with | [_, _], _ => rfl,
    g_paired := PySem.W.mg_of X G a19,
    F_Poly___init__ := F20,
    b_Poly___init__ := F20.binds fun _ _ _ _ _ _ us hl => match us, hl with | [_, _], _ => rfl,
    m_Poly___init__ := ⟨a20, i20, k20⟩,
    F_Poly___eq__ := F21,
    b_Poly___eq__ := F21.binds fun _ _ _ _ _ _ us hl => match us, hl with | [_, _], _ => rfl,
    m_Poly___eq__ := ⟨a21, i21, k21⟩,
    F_Poly___mul__ := F22,
    b_Poly___mul__ := F22.binds fun _ _ _ _ _ _ us hl => match us, hl with | [_, _], _ => rfl,
    m_Poly___mul__ := ⟨a22, i22, k22⟩,
    F_Poly___rmul__ := F23,
    b_Poly___rmul__ := F23.binds fun _ _ _ _ _ _ us hl => match us, hl with | [_, _], _ => rfl,
    m_Poly___rmul__ := ⟨a23, i23, k23⟩,
    F_poly_of := F24,
    b_poly_of := F24.binds fun _ _ _ _ _ _ us hl => match us, hl with | [_], _ => rfl,
    g_poly_of := PySem.W.mg_of X G a24,
    F__is_operand := F25,
    b__is_operand := F25.binds fun _ _ _ _ _ _ us hl => match us, hl with | [_], _ => rfl,
    g__is_operand := PySem.W.mg_of X G a25,
    F_product_polys := F26,
    b_product_polys := F26.binds fun _ _ _ _ _ _ us hl => match us, hl with | [_, _], _ => rfl,
    g_product_polys := PySem.W.mg_of X G a26,
    F_continued := F27,
    b_continued := F27.binds fun _ _ _ _ _ _ us hl => match us, hl with | [_, _, _], _ => rfl,
    g_continued := PySem.W.mg_of X G a27,
    F_Sure___init__ := F28,
    b_Sure___init__ := F28.binds fun _ _ _ _ _ _ us hl => match us, hl with | [_, _], _ => rfl,
    m_Sure___init__ := ⟨a28, i28, k28⟩,
    F_Lot___init__ := F29,
    b_Lot___init__ := F29.binds fun _ _ _ _ _ _ us hl => match us, hl with | [_, _, _], _ => rfl,
    m_Lot___init__ := ⟨a29, i29, k29⟩,
    F_Lot___eq__ := F30,
    b_Lot___eq__ := F30.binds fun _ _ _ _ _ _ us hl => match us, hl with | [_, _], _ => rfl,
    m_Lot___eq__ := ⟨a30, i30, k30⟩,
    F_Lot_row := F31,
    b_Lot_row := F31.binds fun _ _ _ _ _ _ us hl => match us, hl with | [_, _], _ => rfl,
    m_Lot_row := ⟨a31, i31, k31⟩,
    F_lot_at := F32,
    kb1_lot_at := kb1_lot_at,
    b_lot_at := F32.binds fun _ _ _ _ _ _ us hl => match us, hl with | [_, _], _ => rfl,
    g_lot_at := PySem.W.mg_of X G a32,
    F_first_numbers := F33,
    b_first_numbers := F33.binds fun _ _ _ _ _ _ us hl => match us, hl with | [_, _], _ => rfl,
    g_first_numbers := PySem.W.mg_of X G a33,
    F__are_numbers := F34,
    b__are_numbers := F34.binds fun _ _ _ _ _ _ us hl => match us, hl with | [_, _], _ => rfl,
    g__are_numbers := PySem.W.mg_of X G a34,
    F__are_points := F35,
    b__are_points := F35.binds fun _ _ _ _ _ _ us hl => match us, hl with | [_], _ => rfl,
    g__are_points := PySem.W.mg_of X G a35,
    F__law_is_integer := F36,
    b__law_is_integer := F36.binds fun _ _ _ _ _ _ us hl => match us, hl with | [_], _ => rfl,
    g__law_is_integer := PySem.W.mg_of X G a36,
    F__law_feed := F37,
    b__law_feed := F37.binds fun _ _ _ _ _ _ us hl => match us, hl with | [_], _ => rfl,
    g__law_feed := PySem.W.mg_of X G a37,
    F__law_take := F38,
    b__law_take := F38.binds fun _ _ _ _ _ _ us hl => match us, hl with | [_, _], _ => rfl,
    g__law_take := PySem.W.mg_of X G a38,
    F__law_number := F39,
    b__law_number := F39.binds fun _ _ _ _ _ _ us hl => match us, hl with | [_, _], _ => rfl,
    g__law_number := PySem.W.mg_of X G a39,
    F__law_is := F40,
    b__law_is := F40.binds fun _ _ _ _ _ _ us hl => match us, hl with | [_, _, _], _ => rfl,
    g__law_is := PySem.W.mg_of X G a40,
    F__law_row_is := F41,
    b__law_row_is := F41.binds fun _ _ _ _ _ _ us hl => match us, hl with | [_, _], _ => rfl,
    g__law_row_is := PySem.W.mg_of X G a41,
    F__law_poly_is := F42,
    b__law_poly_is := F42.binds fun _ _ _ _ _ _ us hl => match us, hl with | [_, _], _ => rfl,
    g__law_poly_is := PySem.W.mg_of X G a42,
    F__law_add := F43,
    b__law_add := F43.binds fun _ _ _ _ _ _ us hl => match us, hl with | [_, _], _ => rfl,
    g__law_add := PySem.W.mg_of X G a43,
    F__law_lot := F44,
    b__law_lot := F44.binds fun _ _ _ _ _ _ us hl => match us, hl with | [_, _], _ => rfl,
    g__law_lot := PySem.W.mg_of X G a44,
    F__law_numbers := F45,
    b__law_numbers := F45.binds fun _ _ _ _ _ _ us hl => match us, hl with | [_, _], _ => rfl,
    g__law_numbers := PySem.W.mg_of X G a45,
    F__law_lot_is := F46,
    b__law_lot_is := F46.binds fun _ _ _ _ _ _ us hl => match us, hl with | [_, _], _ => rfl,
    g__law_lot_is := PySem.W.mg_of X G a46,
    F__law_flag := F47,
    b__law_flag := F47.binds fun _ _ _ _ _ _ us hl => match us, hl with | [_, _], _ => rfl,
    g__law_flag := PySem.W.mg_of X G a47,
    F__law_part := F48,
    b__law_part := F48.binds fun _ _ _ _ _ _ us hl => match us, hl with | [_, _], _ => rfl,
    g__law_part := PySem.W.mg_of X G a48,
    F__law_spoiled := F49,
    b__law_spoiled := F49.binds fun _ _ _ _ _ _ us hl => match us, hl with | [_, _, _], _ => rfl,
    g__law_spoiled := PySem.W.mg_of X G a49,
    F_law := F50,
    b_law := F50.binds fun _ _ _ _ _ _ us hl => match us, hl with | [_], _ => rfl,
    g_law := PySem.W.mg_of X G a50,
    z_isinstance := PySem.W.mg_none_of X G z_isinstance,
    z_int := PySem.W.mg_none_of X G z_int,
    z_bool := PySem.W.mg_none_of X G z_bool,
    z_abs := PySem.W.mg_none_of X G z_abs,
    z_len := PySem.W.mg_none_of X G z_len,
    z_max := PySem.W.mg_none_of X G z_max,
    z_range := PySem.W.mg_none_of X G z_range,
    z_list := PySem.W.mg_none_of X G z_list,
    z_tuple := PySem.W.mg_none_of X G z_tuple,
    z_min := PySem.W.mg_none_of X G z_min,
    z_sum := PySem.W.mg_none_of X G z_sum,
    z_any := PySem.W.mg_none_of X G z_any,
    z_all := PySem.W.mg_none_of X G z_all,
    z_NotImplemented := PySem.W.mg_none_of X G z_NotImplemented,
    g_MOST_POINTS := He.int_ok X G (c.t.d.fact 0 (f := .int "MOST_POINTS" 8) rfl),
    g_LAST_NUMBER := He.int_ok X G (c.t.d.fact 1 (f := .int "LAST_NUMBER" 60) rfl),
    g_gcd := PySem.W.mg_of X G j_gcd,
    g_lcm := PySem.W.mg_of X G j_lcm }
  exact ⟨fd50, [], sp_law K, (fun _ hp => absurd hp List.not_mem_nil), (fun _ hp => absurd hp List.not_mem_nil), (fun _ hp => absurd hp List.not_mem_nil), fun s v => FunD.bindsA (ps := ["_law_script"]) E50 (fun _ _ _ _ _ _ us hl => match us, hl with | [_], _ => rfl) s [v] rfl, fun H a ns hl _ _ hS => ⟨a, ns, rfl, hS, hl, fun _ => rfl⟩, fun base _ _ _ => ok_law (A := A) (D := D) T⟩
end Mo
open PySem PySem.W PyProof.Rows
set_option maxRecDepth 100000 in
set_option maxHeartbeats 0 in
theorem PySem.Challenge.cw_momentrows_k27_lots_at_given_points_holds : PySem.Challenge.rw_momentrows_k27_lots_at_given_points.Holds := by
  refine Mo.holds_of ?_
  refine LamX.walk_ofTsE (l := PySem.Challenge.rw_momentrows_k27_lots_at_given_points) (n := 63) (k := 15) (x := "_law_script") (CX := fun _ => L2.CX0) rfl (by decide) (by kernel_rfl) ⟨rfl, by decide, by decide⟩ ?F (fun _ _ _ _ _ h => h)
  case F =>
    intro w mg fa h Y G hmg0
    obtain ⟨K, KX, c⟩ := Y
    have hmg : mg ("law" : PySem.Str) = some (.ref fa) := by
      have e : (HandSHeadRun.topDef Mo.RW.prog 95).name = ("law" : PySem.Str) := by kernel_rfl
      rw [← e]
      exact hmg0
    exact ⟨K, KX, Mo.facts KX G hmg c⟩

