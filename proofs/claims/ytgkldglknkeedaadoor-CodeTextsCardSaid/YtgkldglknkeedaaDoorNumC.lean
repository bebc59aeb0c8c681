/-
  The document's own digits (resolventref01.Num), by a contract. Condition: numbers from 0 to 2^40.
-/
import Derived.Test.YtgkldglknkeedaaDoorCodeA
import Derived.IntWalk
import Derived.Deep.QuietTactic
import Derived.BigQuiet
import Derived.Lib.ItoaLen
import Derived.Laws.Concat
namespace Go.Proofs.YtgkldglknkeedaaDoor
open Go Go.RowKit
set_option linter.unusedVariables false

def digit (d : Nat) : ByteArray := ⟨#[UInt8.ofNat (48 + d)]⟩

theorem digit_slice (d : Nat) (h : d < 10) (W : World) : (Instr.slice 9 (.string ⟨#[48, 49, 50, 51, 52, 53, 54, 55, 56, 57]⟩) (some (.int .i64 (d : Int))) (some (.int .i64 ((d : Int) + 1))) none).run Tryd.prog W = .ok (.string (digit d)) W := by
  rcases (show d = 0 ∨ d = 1 ∨ d = 2 ∨ d = 3 ∨ d = 4 ∨ d = 5 ∨ d = 6 ∨ d = 7 ∨ d = 8 ∨ d = 9 by omega) with rfl | rfl | rfl | rfl | rfl | rfl | rfl | rfl | rfl | rfl
  all_goals kernel_rfl

theorem num_small (n : Nat) (h : n < 10) (w : World) :
    Calls Tryd.prog 35 #[.int .i64 n] w fun e w' => e = .returned (.string (digit n)) ∧ ∃ m, w' = w.drewN m := by
  have h0 : ¬ (n : Int) < -9223372036854775807 := by omega
  have h1 : ¬ (n : Int) < 0 := by omega
  have h2 : (n : Int) < 10 := by omega
  have h3 := digit_slice n h
  go_enter Tryd.func35, Tryd.ntmps35
  go_wp2_with fail
  go_ret
  exact ⟨rfl, 0, rfl⟩

theorem num_big (n : Nat) (h : 10 ≤ n) (hn : n < 1099511627776) (w : World) (s : ByteArray) (hs : s.size ≤ 21) (ih : ∀ w, Calls Tryd.prog 35 #[.int .i64 ((n / 10 : Nat) : Int)] w fun e w' => e = .returned (.string s) ∧ ∃ m, w' = w.drewN m) :
    Calls Tryd.prog 35 #[.int .i64 n] w fun e w' => e = .returned (.string (s ++ digit (n % 10))) ∧ ∃ m, w' = w.drewN m := by
  have IH := Lib.hid ih
  have h0 : ¬ (n : Int) < -9223372036854775807 := by omega
  have h1 : ¬ (n : Int) < 0 := by omega
  have h2 : ¬ (n : Int) < 10 := by omega
  obtain ⟨d, hd⟩ : ∃ d, n % 10 = d := ⟨_, rfl⟩
  obtain ⟨q, hq⟩ : ∃ q, n / 10 = q := ⟨_, rfl⟩
  have hd2 : d < 10 := by omega
  have hq2 : q < 1099511627776 := by omega
  have hd3 : (n : Int).tmod 10 = (d : Int) := by rw [Int.tmod_eq_emod_of_nonneg (by omega)]; omega
  have hq3 : (n : Int).tdiv 10 = (q : Int) := by rw [Int.tdiv_eq_ediv_of_nonneg (by omega)]; omega
  have w1 : IntKind.i64.wrap (q : Int) = (q : Int) := IntWalk.i64_in _ (by omega)
  have w2 : IntKind.i64.wrap ((d : Int) + 1) = (d : Int) + 1 := IntWalk.i64_in _ (by omega)
  have hsl := digit_slice d hd2
  have hsz : (9223372036854775807 < s.size + (digit d).size) = False := by
    have : (digit d).size = 1 := rfl
    rw [this]
    simp
    omega
  rw [hd]
  rw [hq] at IH
  have HD := Lib.hid hsz
  clear ih hd hq
  go_enter Tryd.func35, Tryd.ntmps35
  go_wp2_with fail
  go_quiet ((go_at_call 35; exact Calls.quiet_of (IH.out _)))
  clear w1 w2 hsl hsz hd3 hq3
  go_wp2_with fail
  go_ret
  exact ⟨rfl, _, rfl⟩

/-- Every number's digits. -/
theorem num_any (f : Nat) : ∀ n : Nat, n < 10 ^ f → n < 1099511627776 → ∀ w : World,
    Calls Tryd.prog 35 #[.int .i64 n] w fun e w' => e = .returned (.string ⟨(Lib.decDigits n).toArray⟩) ∧ ∃ m, w' = w.drewN m := by
  induction f with
  | zero =>
    intro n h hn w
    have h1 : n = 0 := by simpa using h
    subst h1
    have e : (⟨(Lib.decDigits 0).toArray⟩ : ByteArray) = digit 0 := by rw [Lib.decDigits, dif_pos (by omega)]; rfl
    rw [e]
    exact num_small 0 (by omega) w
  | succ f ih =>
    intro n h hn w
    by_cases h10 : n < 10
    · have e : (⟨(Lib.decDigits n).toArray⟩ : ByteArray) = digit n := by rw [Lib.decDigits, dif_pos h10]; rfl
      rw [e]
      exact num_small n h10 w
    · have hp : 10 ^ (f + 1) = 10 * 10 ^ f := by rw [Nat.pow_succ, Nat.mul_comm]
      have hlen : (⟨(Lib.decDigits (n / 10)).toArray⟩ : ByteArray).size ≤ 21 := by
        have h1 : (⟨(Lib.decDigits (n / 10)).toArray⟩ : ByteArray).size = (Lib.decDigits (n / 10)).length := by simp [ByteArray.size]
        have h2 := Lib.nDigits_le20 (n / 10) (by omega)
        rw [h1, Lib.decDigits_length]
        omega
      have e : (⟨(Lib.decDigits n).toArray⟩ : ByteArray) = ⟨(Lib.decDigits (n / 10)).toArray⟩ ++ digit (n % 10) := by
        rw [Lib.decDigits, dif_neg h10]
        exact (ByteArray.mk_append_mk _ [UInt8.ofNat (48 + n % 10)]).symm
      rw [e]
      exact num_big n (by omega) hn w _ hlen (ih (n / 10) (by omega) (by omega))

theorem num_itoa (n : Int) (h0 : 0 ≤ n) (h1 : n < 1099511627776) (w : World) :
    Calls Tryd.prog 35 #[.int .i64 n] w fun e w' => e = .returned (.string ⟨(Lib.itoa n).toArray⟩) ∧ ∃ m, w' = w.drewN m := by
  obtain ⟨k, rfl⟩ := Int.eq_ofNat_of_zero_le h0
  have e : Lib.itoa (k : Int) = Lib.decDigits k := by rw [Lib.itoa, if_neg (by omega)]; rfl
  rw [e]
  exact num_any 13 k (by omega) (by omega) w
end Go.Proofs.YtgkldglknkeedaaDoor
