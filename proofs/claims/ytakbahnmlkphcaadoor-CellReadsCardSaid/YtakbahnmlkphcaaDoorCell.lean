/-
  The calls of package cell that the statements of area use, and the document's own: each by a contract. No condition beyond the argument's own range.
-/
import Derived.Test.YtakbahnmlkphcaaDoorProg
import Derived.Test.YtakbahnmlkphcaaDoorMem
import Derived.Laws.BitsAllLaws
import Derived.OpenShut
namespace Go.Proofs.YtakbahnmlkphcaaDoor
open Go Go.RowKit

/-- A cell's bits: may it be one? -/
def cellOk (c : Int) : Bool := decide (c % 8 ≤ 4) && decide (c / 8 < 1099511627776)

theorem and_seven (c : Int) (h0 : 0 ≤ c) (h1 : c < 18446744073709551616) : bits BinOp.and IntKind.u64 c 7 = c % 8 := by
  have h := u64_and c 7 h0 h1 (by omega) (by omega)
  rw [h]
  have h7 : (7 : Int).toNat = 2 ^ 3 - 1 := rfl
  rw [h7, Nat.and_two_pow_sub_one_eq_mod]
  omega

theorem u64_bd {c : Int} (hw : (Lit.int .u64 c).wf = true) : 0 ≤ c ∧ c < 18446744073709551616 := by
  have h := bounds_u64 hw
  omega

theorem right_any (c : Int) (hw : (Lit.int .u64 c).wf = true) (w : World) :
    Calls Tryd.prog 8 #[.int .u64 c] w fun e w' => e = .returned (.bool (cellOk c)) ∧ w = w' := by
  obtain ⟨h0, h1⟩ := u64_bd hw
  have ha := and_seven c h0 h1
  by_cases c1 : c % 8 ≤ 4
  · by_cases c2 : c / 8 < 1099511627776
    · go_enter Tryd.func8, Tryd.ntmps8
      go_wp2
      go_ret
      exact ⟨by simp [cellOk, c1, c2], rfl⟩
    · go_enter Tryd.func8, Tryd.ntmps8
      go_wp2
      go_ret
      exact ⟨by simp [cellOk, c1, c2], rfl⟩
  · go_enter Tryd.func8, Tryd.ntmps8
    go_wp2
    go_ret
    exact ⟨by simp [cellOk]; omega, rfl⟩

theorem refRight_any (c : Int) (hw : (Lit.int .u64 c).wf = true) (w : World) :
    Calls Tryd.prog 11 #[.int .u64 c] w fun e w' => e = .returned (.bool (cellOk c)) ∧ w = w' := by
  obtain ⟨h0, h1⟩ := u64_bd hw
  by_cases c1 : c % 8 ≤ 4
  · by_cases c2 : c / 8 < 1099511627776
    · go_enter Tryd.func11, Tryd.ntmps11
      go_wp2
      go_ret
      exact ⟨by simp [cellOk, c1, c2], rfl⟩
    · go_enter Tryd.func11, Tryd.ntmps11
      go_wp2
      go_ret
      exact ⟨by simp [cellOk, c1, c2], rfl⟩
  · go_enter Tryd.func11, Tryd.ntmps11
    go_wp2
    go_ret
    exact ⟨by simp [cellOk]; omega, rfl⟩
theorem right_is {b : Bool} (c : Int) (hw : (Lit.int .u64 c).wf = true) (hb : cellOk c = b) (w : World) :
    Calls Tryd.prog 8 #[.int .u64 c] w fun e w' => e = .returned (.bool b) ∧ w = w' := by
  subst hb
  exact right_any c hw w
theorem refRight_is {b : Bool} (c : Int) (hw : (Lit.int .u64 c).wf = true) (hb : cellOk c = b) (w : World) :
    Calls Tryd.prog 11 #[.int .u64 c] w fun e w' => e = .returned (.bool b) ∧ w = w' := by
  subst hb
  exact refRight_any c hw w
end Go.Proofs.YtakbahnmlkphcaaDoor
