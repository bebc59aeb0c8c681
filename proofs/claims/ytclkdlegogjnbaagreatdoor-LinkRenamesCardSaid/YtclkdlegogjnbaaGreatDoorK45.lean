/-
  The document's tables: what is wrong with names, predicates and Entries. Conditions: lengths are such as may be.
-/
import Derived.Test.YtclkdlegogjnbaaGreatDoorK11
import Derived.Test.YtclkdlegogjnbaaGreatDoorK16
namespace Go.Proofs.YtclkdlegogjnbaaGreatDoor
open Go Go.RowKit Go.WideShapes Go.ChangeShapes
set_option linter.unusedVariables false
set_option linter.unusedSimpArgs false

def tabOf (o : Ob) : Int := if namesOk o = false then 7 else if dupB o then 11 else if entsOk o.code.length (o.preds.map entOf) = false then 7 else 0

/-- What tables keeps: the object's box, what was there. -/
structure CkR (w wr : World) (g : Nat) (us : Array Value) : Prop where
  ob : Box wr g 29 us
  below : Below w.heap.size w wr
theorem CkR.up {w wr w' : World} {g : Nat} {us : Array Value} (h : CkR w wr g us) (hb : Below wr.heap.size wr w') : CkR w w' g us := ⟨h.ob.below hb h.ob.lt, h.below.trans (hb.mono h.below.size)⟩

theorem CkR.drewN {w wr : World} {g : Nat} {us : Array Value} (h : CkR w wr g us) (n : Nat) : CkR w (wr.drewN n) g us := ⟨h.ob.drewN n, h.below.trans ⟨rfl, rfl, rfl, Nat.le_refl _, fun _ _ => rfl⟩⟩
end Go.Proofs.YtclkdlegogjnbaaGreatDoor
