/-
  What the cards of obj share: the witness' world; how an object's type is read.
-/
import Derived.Test.YtcfdafkfpjocdaaDoorOOpen
namespace Go.Proofs.YtcfdafkfpjocdaaDoor
open Go.ChangeShapes Go.WideShapes Go.ChangeAt Go.RowKit Go.Deep

noncomputable def laidWorld8 (os : Os) : World := World.doorLaid Tryd.prog 96 os
theorem laidOutTryd : laidOutB Tryd.prog = true := by kernel_rfl
theorem ownTryd : ownKnob Tryd.prog.godebug = none := by kernel_rfl
theorem readOb8 : Tryd.prog.readableRec 27 = true := by kernel_rfl
theorem rowOb8 : 27 < Tryd.prog.types.size := of_decide_eq_true (by kernel_rfl)
theorem readBys8 : Tryd.prog.readableRec 38 = true := by kernel_rfl
theorem rowBys8 : 38 < Tryd.prog.types.size := of_decide_eq_true (by kernel_rfl)

end Go.Proofs.YtcfdafkfpjocdaaDoor
