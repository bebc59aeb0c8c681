/-
  The calls of package cell, and the document's own, each by a contract. No condition beyond the arguments' own range; of Text: the decimal powers' table reads as its initialiser lays it.
-/
import Derived.Test.YtakbahnmlkphcaaDoorCell
import Derived.Deep.QuietTactic
import Derived.BigQuiet
import Derived.Lib.Hide
namespace Go.Proofs.YtakbahnmlkphcaaDoor
open Go Go.RowKit
set_option linter.unusedVariables false

/-- What a cell is made of; what is told of no cell. -/
def cellKind (c : Int) : Int := if cellOk c = true then c % 8 else -1
def cellNum (c : Int) : Int := if cellOk c = true then c / 8 else -1
def cellMake (k n : Int) : Int := if (0 ≤ k ∧ k < 5) ∧ 0 ≤ n ∧ n < 1099511627776 then n * 8 + k else 18446744073709551615

theorem ok_parts {c : Int} (h : cellOk c = true) : c % 8 ≤ 4 ∧ c / 8 < 1099511627776 := by
  simpa [cellOk] using h

theorem kind_any (c : Int) (hw : (Lit.int .u64 c).wf = true) (w : World) :
    Calls Tryd.prog 9 #[.int .u64 c] w fun e w' => e = .returned (.int .i64 (cellKind c)) ∧ w = w' := by
  obtain ⟨h0, h1⟩ := u64_bd hw
  have HW := Lib.hid hw
  by_cases hc : cellOk c = true
  · have ha := and_seven c h0 h1
    have e : cellKind c = c % 8 := by rw [cellKind, if_pos hc]
    have HC := Lib.hid hc
    rw [e]
    clear hw hc e
    go_enter Tryd.func9, Tryd.ntmps9
    go_wp2_with (go_at_call 8; refine (right_is _ HW.out HC.out _).mono ?_; rintro e w' ⟨rfl, rfl⟩)
    go_ret
    exact ⟨rfl, rfl⟩
  · have hc' : cellOk c = false := by simpa using hc
    have e : cellKind c = -1 := by rw [cellKind, if_neg hc]
    have HC := Lib.hid hc'
    rw [e]
    clear hw hc hc' e
    go_enter Tryd.func9, Tryd.ntmps9
    go_wp2_with (go_at_call 8; refine (right_is _ HW.out HC.out _).mono ?_; rintro e w' ⟨rfl, rfl⟩)
    go_ret
    exact ⟨rfl, rfl⟩

theorem number_any (c : Int) (hw : (Lit.int .u64 c).wf = true) (w : World) :
    Calls Tryd.prog 10 #[.int .u64 c] w fun e w' => e = .returned (.int .i64 (cellNum c)) ∧ w = w' := by
  obtain ⟨h0, h1⟩ := u64_bd hw
  have HW := Lib.hid hw
  by_cases hc : cellOk c = true
  · have hn := (ok_parts hc).2
    have e : cellNum c = c / 8 := by rw [cellNum, if_pos hc]
    have HC := Lib.hid hc
    rw [e]
    clear hw hc e
    go_enter Tryd.func10, Tryd.ntmps10
    go_wp2_with (go_at_call 8; refine (right_is _ HW.out HC.out _).mono ?_; rintro e w' ⟨rfl, rfl⟩)
    go_ret
    exact ⟨rfl, rfl⟩
  · have hc' : cellOk c = false := by simpa using hc
    have e : cellNum c = -1 := by rw [cellNum, if_neg hc]
    have HC := Lib.hid hc'
    rw [e]
    clear hw hc hc' e
    go_enter Tryd.func10, Tryd.ntmps10
    go_wp2_with (go_at_call 8; refine (right_is _ HW.out HC.out _).mono ?_; rintro e w' ⟨rfl, rfl⟩)
    go_ret
    exact ⟨rfl, rfl⟩

theorem refKind_any (c : Int) (hw : (Lit.int .u64 c).wf = true) (w : World) :
    Calls Tryd.prog 12 #[.int .u64 c] w fun e w' => e = .returned (.int .i64 (cellKind c)) ∧ w = w' := by
  obtain ⟨h0, h1⟩ := u64_bd hw
  have HW := Lib.hid hw
  by_cases hc : cellOk c = true
  · have e : cellKind c = c % 8 := by rw [cellKind, if_pos hc]
    have HC := Lib.hid hc
    rw [e]
    clear hw hc e
    go_enter Tryd.func12, Tryd.ntmps12
    go_wp2_with (go_at_call 11; refine (refRight_is _ HW.out HC.out _).mono ?_; rintro e w' ⟨rfl, rfl⟩)
    go_ret
    exact ⟨rfl, rfl⟩
  · have hc' : cellOk c = false := by simpa using hc
    have e : cellKind c = -1 := by rw [cellKind, if_neg hc]
    have HC := Lib.hid hc'
    rw [e]
    clear hw hc hc' e
    go_enter Tryd.func12, Tryd.ntmps12
    go_wp2_with (go_at_call 11; refine (refRight_is _ HW.out HC.out _).mono ?_; rintro e w' ⟨rfl, rfl⟩)
    go_ret
    exact ⟨rfl, rfl⟩

theorem refNumber_any (c : Int) (hw : (Lit.int .u64 c).wf = true) (w : World) :
    Calls Tryd.prog 13 #[.int .u64 c] w fun e w' => e = .returned (.int .i64 (cellNum c)) ∧ w = w' := by
  obtain ⟨h0, h1⟩ := u64_bd hw
  have HW := Lib.hid hw
  by_cases hc : cellOk c = true
  · have hn := (ok_parts hc).2
    have e : cellNum c = c / 8 := by rw [cellNum, if_pos hc]
    have HC := Lib.hid hc
    rw [e]
    clear hw hc e
    go_enter Tryd.func13, Tryd.ntmps13
    go_wp2_with (go_at_call 11; refine (refRight_is _ HW.out HC.out _).mono ?_; rintro e w' ⟨rfl, rfl⟩)
    go_ret
    exact ⟨rfl, rfl⟩
  · have hc' : cellOk c = false := by simpa using hc
    have e : cellNum c = -1 := by rw [cellNum, if_neg hc]
    have HC := Lib.hid hc'
    rw [e]
    clear hw hc hc' e
    go_enter Tryd.func13, Tryd.ntmps13
    go_wp2_with (go_at_call 11; refine (refRight_is _ HW.out HC.out _).mono ?_; rintro e w' ⟨rfl, rfl⟩)
    go_ret
    exact ⟨rfl, rfl⟩

theorem or_low (n k : Int) (h0 : 0 ≤ n) (h1 : n < 1099511627776) (h2 : 0 ≤ k) (h3 : k < 5) : bits BinOp.or IntKind.u64 (n * 8) k = n * 8 + k := by
  have h := u64_or (n * 8) k (by omega) (by omega) h2 (by omega)
  rw [h, nat_join 3 _ _ (by omega) (by omega)]
  omega

/-- How many of four tests say no. -/
theorem make_no (k n : Int) (h : ¬ ((0 ≤ k ∧ k < 5) ∧ 0 ≤ n ∧ n < 1099511627776)) : k < 0 ∨ (0 ≤ k ∧ 5 ≤ k) ∨ (0 ≤ k ∧ k < 5 ∧ n < 0) ∨ (0 ≤ k ∧ k < 5 ∧ 0 ≤ n ∧ 1099511627776 ≤ n) := by omega

theorem make_any (k n : Int) (w : World) :
    Calls Tryd.prog 5 #[.int .i64 k, .int .i64 n] w fun e w' => e = .returned (.int .u64 (cellMake k n)) ∧ w = w' := by
  by_cases h : (0 ≤ k ∧ k < 5) ∧ 0 ≤ n ∧ n < 1099511627776
  · have e : cellMake k n = n * 8 + k := by rw [cellMake, if_pos h]
    obtain ⟨⟨h0, h1⟩, h2, h3⟩ := h
    have ho := or_low n k h2 h3 h0 h1
    rw [e]
    clear e
    go_enter Tryd.func5, Tryd.ntmps5
    go_wp2
    go_ret
    exact ⟨rfl, rfl⟩
  · have e : cellMake k n = 18446744073709551615 := by rw [cellMake, if_neg h]
    rw [e]
    clear e
    rcases make_no k n h with c | ⟨c0, c⟩ | ⟨c0, c1, c⟩ | ⟨c0, c1, c2, c⟩
    all_goals
      clear h
      go_enter Tryd.func5, Tryd.ntmps5
      go_wp2
      go_ret
      exact ⟨rfl, rfl⟩

theorem refMake_any (k n : Int) (w : World) :
    Calls Tryd.prog 7 #[.int .i64 k, .int .i64 n] w fun e w' => e = .returned (.int .u64 (cellMake k n)) ∧ w = w' := by
  by_cases h : (0 ≤ k ∧ k < 5) ∧ 0 ≤ n ∧ n < 1099511627776
  · have e : cellMake k n = 8 * n + k := by rw [cellMake, if_pos h]; omega
    obtain ⟨⟨h0, h1⟩, h2, h3⟩ := h
    have h4 : k ≤ 4 := by omega
    rw [e]
    clear e
    go_enter Tryd.func7, Tryd.ntmps7
    go_wp2
    go_ret
    exact ⟨rfl, rfl⟩
  · have e : cellMake k n = 18446744073709551615 := by rw [cellMake, if_neg h]
    rw [e]
    clear e
    rcases make_no k n h with c | ⟨c0, c⟩ | ⟨c0, c1, c⟩ | ⟨c0, c1, c2, c⟩
    all_goals
      clear h
      go_enter Tryd.func7, Tryd.ntmps7
      go_wp2
      go_ret
      exact ⟨rfl, rfl⟩

theorem make_wf (k n : Int) : (Lit.int .u64 (cellMake k n)).wf = true := by
  unfold cellMake
  split
  · exact WalkArith.wf_u64 (by omega)
  · decide
end Go.Proofs.YtakbahnmlkphcaaDoor
