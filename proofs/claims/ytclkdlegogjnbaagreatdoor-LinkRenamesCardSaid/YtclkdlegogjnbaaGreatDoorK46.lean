/-
  The document's Check: what is wrong with an object. Conditions: lengths are such as may be.
-/
import Derived.Test.YtclkdlegogjnbaaGreatDoorK45
import Derived.Test.YtclkdlegogjnbaaGreatDoorK10
import Derived.Test.YtclkdlegogjnbaaGreatDoorK07
import Derived.Test.YtclkdlegogjnbaaGreatDoorK12
namespace Go.Proofs.YtclkdlegogjnbaaGreatDoor
open Go Go.RowKit Go.WideShapes Go.ChangeShapes
set_option linter.unusedVariables false
set_option linter.unusedSimpArgs false

theorem newInts_nil {w w' : World} {l : List Int} {e : Ending} (h : l = []) (hN : NewInts w l e w') : e = .returned (.slice none 0 0) ∧ w' = w := by
  rcases hN with ⟨_, h1, h2⟩ | ⟨h1, _⟩
  · exact ⟨h1, h2⟩
  · exact absurd h h1
theorem newInts_some {w w' : World} {l : List Int} {e : Ending} (h : ¬ l = []) (hN : NewInts w l e w') : e = .returned (.slice (some ⟨w.heap.size, 0, none⟩) l.length l.length) ∧ w' = w.alloc (.cells (l.map (Value.int .i64)).toArray 3) := by
  rcases hN with ⟨h1, _⟩ | ⟨_, h1, h2⟩
  · exact absurd h1 h
  · exact ⟨h1, h2⟩

end Go.Proofs.YtclkdlegogjnbaaGreatDoor
