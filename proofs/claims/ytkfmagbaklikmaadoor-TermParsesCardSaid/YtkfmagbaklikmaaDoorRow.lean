/-
  What the row's list of package-level variables gives.
-/
import Derived.Test.YtkfmagbaklikmaaDoorCards
import Derived.Test.YtkfmagbaklikmaaDoorTie
import Derived.Test.YtkfmagbaklikmaaDoorParseB
import Derived.Lib.LaidTab
import Derived.LaidSub
import Derived.LaidLaws
import Derived.MakeChecks
import Derived.LaidMore
import Derived.Deep.DeepHandedRow
namespace Go.Proofs.YtkfmagbaklikmaaDoor
open Go.ChangeShapes Go.WideShapes Go.ChangeAt Go.RowKit
set_option linter.unusedVariables false
set_option linter.unusedSimpArgs false

def seatLaid : List (String × DataW Unit) := [("math/bits.deBruijn32tab", Rows.laid_math_bits_deBruijn32tab), ("math/bits.deBruijn64tab", Rows.laid_math_bits_deBruijn64tab), ("internal/strconv.uint64pow10", Rows.laid_internal_strconv_uint64pow10), ("strconv.ErrRange", Rows.laid_strconv_ErrRange), ("strconv.ErrSyntax", Rows.laid_strconv_ErrSyntax)]

theorem gPow : Tryd.prog.globalNamed "internal/strconv.uint64pow10" = some 0 := by kernel_rfl
theorem gPowType : (Tryd.prog.globals[0]?).map (·.type) = some 96 := by kernel_rfl
theorem cellsPow : Tryd.prog.cellsOf 96 = 20 := by kernel_rfl
theorem cellsWord : Tryd.prog.cellsOf 67 = 1 := by kernel_rfl
theorem gSyn : Tryd.prog.globalNamed "strconv.ErrSyntax" = some 1 := by kernel_rfl
theorem gSynType : (Tryd.prog.globals[1]?).map (·.type) = some 75 := by kernel_rfl
theorem gRan : Tryd.prog.globalNamed "strconv.ErrRange" = some 2 := by kernel_rfl
theorem gRanType : (Tryd.prog.globals[2]?).map (·.type) = some 75 := by kernel_rfl

theorem pow_of {W : World} (h : laidMetH Tryd.prog seatLaid W) : Lib.TabIs Tryd.prog W "internal/strconv.uint64pow10" .u64 Lib.pow10Tab := by
  have h1 := laidMetH.filter (fun x => x.1 == "internal/strconv.uint64pow10") h
  have e : seatLaid.filter (fun x => x.1 == "internal/strconv.uint64pow10") = [("internal/strconv.uint64pow10", Lib.tabData .u64 Lib.pow10Tab)] := by kernel_rfl
  rw [e, MakeChecks.laidMetH_plain _ _ _ (by kernel_rfl)] at h1
  exact Lib.tabIs_of_head (rest := []) gPow gPowType Tryd.underlying96 Tryd.underlying67 cellsWord cellsPow h1

theorem iface_of_head {W : World} {name nm : String} {d : DataW Unit} {rest : List (String × DataW Unit)} {g : Nat} (hg : Tryd.prog.globalNamed name = some g) (hty : (Tryd.prog.globals[g]?).map (·.type) = some 75)
    (h : laidMet Tryd.prog ((name, .iface nm d) :: rest) W) : ∃ te pe, W.cell? ⟨g, 0, none⟩ = some (.iface te pe) := by
  obtain ⟨ps, ⟨g', t', cs, fuel, p, q, hg', ht', hvar, hd, _, _⟩, _⟩ := h
  obtain rfl := Option.some.inj (hg.symm.trans hg')
  obtain rfl := Option.some.inj (hty.symm.trans ht')
  obtain ⟨_, u, v, hcs, _, _⟩ := iface_of_trod Tryd.underlying75 hd
  refine ⟨u, v, ?_⟩
  have := World.var?_cell hg hvar 0
  rw [this]
  have e : cs = #[.iface u v] := by
    cases cs
    simp_all
  rw [e]
  rfl
theorem syn_of {W : World} (h : laidMetH Tryd.prog seatLaid W) : ∃ te pe, W.cell? ⟨1, 0, none⟩ = some (.iface te pe) := by
  have h1 := laidMetH.filter (fun x => x.1 == "strconv.ErrSyntax") h
  have e : seatLaid.filter (fun x => x.1 == "strconv.ErrSyntax") = [("strconv.ErrSyntax", Rows.laid_strconv_ErrSyntax)] := by kernel_rfl
  rw [e, MakeChecks.laidMetH_plain _ _ _ (by kernel_rfl)] at h1
  exact iface_of_head (rest := []) gSyn gSynType h1
theorem ran_of {W : World} (h : laidMetH Tryd.prog seatLaid W) : ∃ te pe, W.cell? ⟨2, 0, none⟩ = some (.iface te pe) := by
  have h1 := laidMetH.filter (fun x => x.1 == "strconv.ErrRange") h
  have e : seatLaid.filter (fun x => x.1 == "strconv.ErrRange") = [("strconv.ErrRange", Rows.laid_strconv_ErrRange)] := by kernel_rfl
  rw [e, MakeChecks.laidMetH_plain _ _ _ (by kernel_rfl)] at h1
  exact iface_of_head (rest := []) gRan gRanType h1
theorem laid_of {W : World} (h : laidMetH Tryd.prog seatLaid W) : Laid W.heap.size W := by
  obtain ⟨te, pe, h1⟩ := syn_of h
  obtain ⟨tf, pf, h2⟩ := ran_of h
  exact ⟨Lib.tabBelow_of_tabIs (pow_of h), ⟨te, pe, h1⟩, ⟨tf, pf, h2⟩, ⟨World.block_lt_of_cell? W _ h1, World.block_lt_of_cell? W _ h2⟩, Nat.le_refl _⟩

/-- A world for the witness: the heap that the door's own run leaves. -/
noncomputable def laidWorld (os : Os) : World := World.doorLaid Tryd.prog 62 os
theorem laidOutTryd : laidOutB Tryd.prog = true := by kernel_rfl
theorem ownTryd : ownKnob Tryd.prog.godebug = none := by kernel_rfl
end Go.Proofs.YtkfmagbaklikmaaDoor
