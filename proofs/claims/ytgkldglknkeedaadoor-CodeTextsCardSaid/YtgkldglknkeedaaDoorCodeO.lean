/-
  The document's operand (a word's text); the law's Ints at two rows of the same numbers.
-/
import Derived.Test.YtgkldglknkeedaaDoorCodeL
import Derived.Test.YtgkldglknkeedaaDoorNumC
import Derived.Test.YtgkldglknkeedaaDoorCodeE
namespace Go.Proofs.YtgkldglknkeedaaDoor
open Go Go.RowKit Go.WideShapes Go.ChangeShapes
set_option linter.unusedVariables false

theorem num_bs (n : Int) (h0 : 0 ≤ n) (h1 : n ≤ 65535) (w : World) : Calls Tryd.prog 35 #[.int .i64 n] w fun e w' => e = .returned (.string (bs (Lib.itoa n))) ∧ ∃ m, w' = w.drewN m :=
  num_itoa n h0 (by omega) w

theorem roperand_any (kind n : Int) (h0 : 0 ≤ n) (h1 : n ≤ 65535) (h8 : n = 65535 → kind = 8) (w : World) :
    Calls Tryd.prog 28 #[.int .i64 kind, .int .i64 n] w fun e w' => e = .returned (.string (bs (wordOf kind n))) ∧ ∃ m, w' = w.drewN m := by
  by_cases hn : n = 65535
  · have hk := h8 hn
    subst hn hk
    clear h0 h1 h8
    go_enter Tryd.func28, Tryd.ntmps28
    go_wp2
    go_ret
    exact ⟨rfl, 0, rfl⟩
  · have k8 : ¬ (kind = 8 ∧ n = 65535) := fun x => hn x.2
    have hn' : (n == 65535) = false := by simpa using hn
    by_cases k1 : kind = 1 ∧ 16 ≤ n
    · have hw : bs (wordOf kind n) = ⟨#[89]⟩ ++ bs (Lib.itoa (n - 16)) := by rw [wordOf, if_neg k8, if_pos k1, cons_bs]
      have hi := fun w => num_bs (n - 16) (by omega) (by omega) w
      obtain ⟨s, hs, hsz⟩ := itoa_size (n - 16) (by omega) (by omega)
      rw [hs] at hw hi
      rw [hw]
      have HI := Lib.hid hi
      obtain ⟨rfl, k16⟩ := k1
      clear hw hi k8 hs hn h8
      go_enter Tryd.func28, Tryd.ntmps28
      go_wp2_with (refine (HI.out _).mono ?_; rintro e w' ⟨rfl, m, rfl⟩)
      go_ret
      exact ⟨rfl, m, rfl⟩
    · by_cases k2 : kind = 1 ∨ kind = 2
      · have hw : bs (wordOf kind n) = ⟨#[88]⟩ ++ bs (Lib.itoa n) := by rw [wordOf, if_neg k8, if_neg k1, if_pos k2, cons_bs]
        have hi := fun w => num_bs n (by omega) (by omega) w
        obtain ⟨s, hs, hsz⟩ := itoa_size n (by omega) (by omega)
        rw [hs] at hw hi
        rw [hw]
        have HI := Lib.hid hi
        clear hw hi k8 hs hn h8
        rcases k2 with rfl | rfl
        · have hlt : n < 16 := by omega
          clear k1
          go_enter Tryd.func28, Tryd.ntmps28
          go_wp2_with (refine (HI.out _).mono ?_; rintro e w' ⟨rfl, m, rfl⟩)
          go_ret
          exact ⟨rfl, m, rfl⟩
        · clear k1
          go_enter Tryd.func28, Tryd.ntmps28
          go_wp2_with (refine (HI.out _).mono ?_; rintro e w' ⟨rfl, m, rfl⟩)
          go_ret
          exact ⟨rfl, m, rfl⟩
      · have e1 : (kind == 1) = false := by simp; omega
        have e2 : (kind == 2) = false := by simp; omega
        by_cases k9 : kind = 9
        · have hw : bs (wordOf kind n) = ⟨#[89]⟩ ++ bs (Lib.itoa n) := by rw [wordOf, if_neg k8, if_neg k1, if_neg k2, if_pos k9, cons_bs]
          have hi := fun w => num_bs n (by omega) (by omega) w
          obtain ⟨s, hs, hsz⟩ := itoa_size n (by omega) (by omega)
          rw [hs] at hw hi
          rw [hw]
          have HI := Lib.hid hi
          subst k9
          clear hw hi k8 hs k1 k2 e1 e2 hn h8
          go_enter Tryd.func28, Tryd.ntmps28
          go_wp2_with (refine (HI.out _).mono ?_; rintro e w' ⟨rfl, m, rfl⟩)
          go_ret
          exact ⟨rfl, m, rfl⟩
        · have e9 : (kind == 9) = false := by simp; omega
          have hw : bs (wordOf kind n) = bs (Lib.itoa n) := by rw [wordOf, if_neg k8, if_neg k1, if_neg k2, if_neg k9]
          have hi := fun w => num_bs n (by omega) (by omega) w
          obtain ⟨s, hs, hsz⟩ := itoa_size n (by omega) (by omega)
          rw [hs] at hw hi
          rw [hw]
          have HI := Lib.hid hi
          clear hw hi hs k1 k2 k9 k8 hn h8
          go_enter Tryd.func28, Tryd.ntmps28
          go_wp2_with (refine (HI.out _).mono ?_; rintro e w' ⟨rfl, m, rfl⟩)
          go_ret
          exact ⟨rfl, m, rfl⟩

/-- The law's Ints, at two rows of the same numbers. -/
theorem ints_same {w : World} {u v : Value} {xs : List Int} (hx : xs.length ≤ 1000000) (hu : IntsAt w u xs) (hv : IntsAt w v xs) :
    Calls Tryd.prog 10 #[u, v] w fun e w' => e = .returned (.bool true) ∧ ∃ m, w' = w.drewN m := by
  have form : ∀ {u : Value}, IntsAt w u xs → ∃ A c, u = .slice A xs.length c ∧ ∀ k, k < xs.length → ∃ b off, A = some ⟨b, off, none⟩ ∧ w.cell? ⟨b, off + k, none⟩ = some (.int .i64 (xs.getD k 0)) := by
    intro u hu
    rcases hu with ⟨rfl, A, c, rfl⟩ | ⟨b, off, c, rfl, hc⟩
    · exact ⟨A, c, rfl, fun k hk => absurd hk (by simp)⟩
    · exact ⟨_, c, rfl, fun k hk => ⟨b, off, rfl, hc k hk⟩⟩
  obtain ⟨A1, c1, rfl, h1⟩ := form hu
  obtain ⟨A2, c2, rfl, h2⟩ := form hv
  have HU := Lib.hid h1
  have HV := Lib.hid h2
  clear hu hv h1 h2 form
  go_enter Tryd.func10, Tryd.ntmps10
  go_wp2_with (fail)
  go_loopw [5] (fun i wr => ∃ j m : Nat, j ≤ xs.length ∧ i = .int .i64 ((j : Nat) : Int) ∧ wr = w.drewN m) (fun i _ => xs.length - (intOf i).toNat)
  case atStart => exact ⟨0, 0, Nat.zero_le _, rfl, rfl⟩
  case round =>
    obtain ⟨j, m, hj, rfl, rfl⟩ := hrel
    by_cases hlt : j < xs.length
    · obtain ⟨b1, o1, rfl, q1⟩ := HU.out j hlt
      obtain ⟨b2, o2, rfl, q2⟩ := HV.out j hlt
      have j0 : (0 : Int) ≤ (j : Int) := by omega
      have j1 : (j : Int) < (xs.length : Int) := by omega
      go_upto_region 6 with (fail)
      go_quiet (fail)
      go_wp2_with (fail)
      go_roundw
      case rel => exact ⟨j + 1, _, by omega, by go_num, rfl⟩
      case measure => simp [intOf]; omega
    · have hge : (xs.length : Int) ≤ (j : Int) := by omega
      go_wp2_with (fail)
      go_ret
      exact ⟨rfl, _, rfl⟩

end Go.Proofs.YtgkldglknkeedaaDoor
