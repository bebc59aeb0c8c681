/-
  3 texts in one (ObjW ObjWB ObjAE). Conditions: those of each theorem.
-/
import Derived.Test.YtclkdlegogjnbaaGreatDoorK12
import Derived.Test.YtclkdlegogjnbaaGreatDoorK11
import Derived.Test.YtclkdlegogjnbaaGreatDoorK46
namespace Go.Proofs.YtclkdlegogjnbaaGreatDoor
open Go Go.RowKit Go.WideShapes Go.ChangeShapes
set_option linter.unusedVariables false
set_option linter.unusedSimpArgs false

/-- A slice of bytes to be copied. -/
def Bin (w : World) (v : Value) (l : List Nat) : Prop := CellsAt w v l.length (bysV l) ∧ ∀ k c, v = .slice none k c → c = 0
theorem Bin.below {w w' : World} {v : Value} {l : List Nat} (h : Bin w v l) (hb : Below w.heap.size w w') : Bin w' v l := ⟨h.1.below hb, h.2⟩
theorem Strict.bin {w : World} {base : Nat} {v : Value} {l : List Nat} (h : Strict w base v l) : Bin w v l := by
  refine ⟨CellsAt.of_own h (by decide), ?_⟩
  rintro k c rfl
  rcases h.2 with ⟨h1, _⟩ | ⟨g, cap, cur, h1, _⟩
  · injection h1
  · injection h1 with h1
    cases h1
end Go.Proofs.YtclkdlegogjnbaaGreatDoor

namespace Go.Proofs.YtclkdlegogjnbaaGreatDoor
open Go Go.RowKit Go.WideShapes Go.ChangeShapes
set_option linter.unusedVariables false
set_option linter.unusedSimpArgs false

theorem Row.bin {w : World} {base : Nat} {v : Value} {l : List Nat} (h : Row w base v l) : Bin w v l := by
  rcases h with h | ⟨h0, g, cur, fz, rfl, hg, hh, hc⟩
  · exact h.bin
  · refine ⟨.inr ⟨g, 0, _, rfl, (Array.getElem?_eq_some_iff.1 hh).1, fun k u hk => ?_⟩, ?_⟩
    · rw [← hc, Array.getElem?_toList] at hk
      simp [World.cell?, hh, hk]
    · rintro k c h
      injection h with h1 h2 h3
      cases h1

end Go.Proofs.YtclkdlegogjnbaaGreatDoor

namespace Go.Proofs.YtclkdlegogjnbaaGreatDoor
open Go Go.RowKit Go.WideShapes Go.ChangeShapes
set_option linter.unusedVariables false
set_option linter.unusedSimpArgs false

/-- What a round keeps: the object's box; the bytes so far. -/
structure Er (w wr : World) (g : Nat) (us : Array Value) (v : Value) (l : List Nat) : Prop where
  ck : CkR w wr g us
  bin : Bin wr v l
theorem Er.next {w wr w' : World} {g : Nat} {us : Array Value} {v v' : Value} {l l' : List Nat} (h : Er w wr g us v l) (hs : Row w' wr.heap.size v' l') (hb : Below wr.heap.size wr w') : Er w w' g us v' l' := ⟨h.ck.up hb, hs.bin⟩
end Go.Proofs.YtclkdlegogjnbaaGreatDoor
