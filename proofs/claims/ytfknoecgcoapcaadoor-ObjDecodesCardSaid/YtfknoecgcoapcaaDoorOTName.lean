/-
  The program's own Name, with letter and digit, by contracts. No condition.
-/
import Derived.Test.YtfknoecgcoapcaaDoorOName
namespace Go.Proofs.YtfknoecgcoapcaaDoor
open Go Go.RowKit
set_option linter.unusedVariables false

def digitB (c : UInt8) : Bool := decide (48 ≤ c.toNat) && decide (c.toNat ≤ 57)
theorem nameB_eq (c : UInt8) : nameB c = (lowerB c || digitB c) := rfl

theorem letter_is {b : Bool} (c : UInt8) (hb : lowerB c = b) (w : World) :
    Calls Tryd.prog 70 #[.int .u8 ((c.toNat : Nat) : Int)] w fun e w' => e = .returned (.bool b) ∧ w = w' := by
  have HB := Lib.hid hb
  clear hb
  by_cases h1 : (97 : Int) ≤ ((c.toNat : Nat) : Int)
  · by_cases h2 : ((c.toNat : Nat) : Int) ≤ 122
    · go_enter Tryd.func70, Tryd.ntmps70
      go_wp2_with fail
      go_ret
      refine ⟨?_, rfl⟩
      rw [← HB.out]
      show Ending.returned (.bool _) = _
      congr 2
      simp [lowerB]
      omega
    · go_enter Tryd.func70, Tryd.ntmps70
      go_wp2_with fail
      go_ret
      refine ⟨?_, rfl⟩
      rw [← HB.out]
      show Ending.returned (.bool _) = _
      congr 2
      simp [lowerB]
      omega
  · go_enter Tryd.func70, Tryd.ntmps70
    go_wp2_with fail
    go_ret
    refine ⟨?_, rfl⟩
    rw [← HB.out]
    show Ending.returned (.bool _) = _
    congr 2
    simp [lowerB]
    omega
theorem digit_is {b : Bool} (c : UInt8) (hb : digitB c = b) (w : World) :
    Calls Tryd.prog 71 #[.int .u8 ((c.toNat : Nat) : Int)] w fun e w' => e = .returned (.bool b) ∧ w = w' := by
  have HB := Lib.hid hb
  clear hb
  by_cases h1 : (48 : Int) ≤ ((c.toNat : Nat) : Int)
  · by_cases h2 : ((c.toNat : Nat) : Int) ≤ 57
    · go_enter Tryd.func71, Tryd.ntmps71
      go_wp2_with fail
      go_ret
      refine ⟨?_, rfl⟩
      rw [← HB.out]
      show Ending.returned (.bool _) = _
      congr 2
      simp [digitB]
      omega
    · go_enter Tryd.func71, Tryd.ntmps71
      go_wp2_with fail
      go_ret
      refine ⟨?_, rfl⟩
      rw [← HB.out]
      show Ending.returned (.bool _) = _
      congr 2
      simp [digitB]
      omega
  · go_enter Tryd.func71, Tryd.ntmps71
    go_wp2_with fail
    go_ret
    refine ⟨?_, rfl⟩
    rw [← HB.out]
    show Ending.returned (.bool _) = _
    congr 2
    simp [digitB]
    omega

theorem tName_any (s : ByteArray) (w : World) (hs : s.size ≤ maxLen) :
    Calls Tryd.prog 58 #[.string s] w fun e w' => e = .returned (.bool (nameOk s)) ∧ w = w' := by
  unfold maxLen at hs
  obtain ⟨zz, hzz⟩ : ∃ zz, nameOk s = zz := ⟨_, rfl⟩
  rw [hzz]
  have HV := Lib.hid hzz
  clear hzz
  by_cases c1 : s.size = 0
  · have HZ : Hid (zz = false) := by
      show _ = _
      rw [← HV.out]
      simp [nameOk, c1]
    have c1' : (s.size : Int) = 0 := by omega
    go_enter Tryd.func58, Tryd.ntmps58
    go_wp2_with fail
    go_ret
    exact ⟨by rw [HZ.out]; rfl, rfl⟩
  · have h1 : ((s.size : Int) == 0) = false := by simp only [beq_eq_false_iff_ne, ne_eq]; omega
    by_cases c2 : 32 < s.size
    · have HZ : Hid (zz = false) := by
        show _ = _
        rw [← HV.out]
        simp [nameOk]
        omega
      have h2 : 32 < (s.size : Int) := by omega
      go_enter Tryd.func58, Tryd.ntmps58
      go_wp2_with fail
      go_ret
      exact ⟨by rw [HZ.out]; rfl, rfl⟩
    · have h2 : ¬ 32 < (s.size : Int) := by omega
      have h0 : 0 < s.size := by omega
      have hd := head_of s h0
      have HD := Lib.hid hd
      clear hd c1 c2
      obtain ⟨b, hb⟩ : ∃ b, lowerB s[0] = b := ⟨_, rfl⟩
      have HL := Lib.hid hb
      clear hb
      cases b
      · have HZ : Hid (zz = false) := by
          show _ = _
          rw [← HV.out]
          simp [nameOk, HD.out, HL.out]
        go_enter Tryd.func58, Tryd.ntmps58
        go_wp2_with (go_at_call 70; refine (letter_is s[0] HL.out _).mono ?_; rintro e w' ⟨rfl, rfl⟩)
        go_ret
        exact ⟨by rw [HZ.out]; rfl, rfl⟩
      · have HZ : Hid (zz = s.data.toList.all nameB) := by
          show _ = _
          have e2 : decide (1 ≤ s.size) = true := by simp; omega
          have e3 : decide (s.size ≤ 32) = true := by simp; omega
          rw [← HV.out]
          simp only [nameOk, HD.out, HL.out, e2, e3, Option.any_some, Bool.true_and]
        go_enter Tryd.func58, Tryd.ntmps58
        go_wp2_with (go_at_call 70; refine (letter_is s[0] HL.out _).mono ?_; rintro e w' ⟨rfl, rfl⟩)
        go_loop [20] (fun i => ∃ j : Nat, j ≤ s.size ∧ i = .int .i64 j ∧ Hid ((s.data.toList.take j).all nameB = true)) (fun i => s.size - (intOf i).toNat)
        case atStart => exact ⟨0, Nat.zero_le _, rfl, by simp [Hid]⟩
        case round =>
          obtain ⟨j, hj, rfl, HA⟩ := hrel
          by_cases hlt : j < s.size
          · have HS := Lib.hid (take_snocB s j hlt)
            have HN := Lib.hid (fun hb => all_drop s j hlt hb)
            obtain ⟨b, hb⟩ : ∃ b, lowerB s[j] = b := ⟨_, rfl⟩
            have HL2 := Lib.hid hb
            clear hb
            cases b
            · obtain ⟨b, hb⟩ : ∃ b, digitB s[j] = b := ⟨_, rfl⟩
              have HL3 := Lib.hid hb
              clear hb
              cases b
              · have HZ2 : Hid (zz = false) := by
                  show _ = _
                  rw [HZ.out, HN.out (by rw [nameB_eq, HL2.out, HL3.out]; rfl)]
                go_wp2_with (first
                  | (go_at_call 70; refine (letter_is s[j] HL2.out _).mono ?_; rintro e w' ⟨rfl, rfl⟩)
                  | (go_at_call 71; refine (digit_is s[j] HL3.out _).mono ?_; rintro e w' ⟨rfl, rfl⟩))
                go_ret
                exact ⟨by rw [HZ2.out]; rfl, rfl⟩
              · have HA2 : Hid ((s.data.toList.take (j + 1)).all nameB = true) := by
                  show _ = _
                  rw [HS.out, List.all_append, HA.out]
                  simp [nameB_eq, HL3.out]
                go_wp2_with (first
                  | (go_at_call 70; refine (letter_is s[j] HL2.out _).mono ?_; rintro e w' ⟨rfl, rfl⟩)
                  | (go_at_call 71; refine (digit_is s[j] HL3.out _).mono ?_; rintro e w' ⟨rfl, rfl⟩))
                go_round
                case rel => exact ⟨j + 1, by omega, by go_num, HA2⟩
                case measure => simp [intOf]; omega
            · have HA2 : Hid ((s.data.toList.take (j + 1)).all nameB = true) := by
                show _ = _
                rw [HS.out, List.all_append, HA.out]
                simp [nameB_eq, HL2.out]
              go_wp2_with (go_at_call 70; refine (letter_is s[j] HL2.out _).mono ?_; rintro e w' ⟨rfl, rfl⟩)
              go_round
              case rel => exact ⟨j + 1, by omega, by go_num, HA2⟩
              case measure => simp [intOf]; omega
          · have hge : (s.size : Int) ≤ (j : Int) := by omega
            have HF : Hid (zz = true) := by
              have := HA.out
              rw [List.take_of_length_le (by simp; omega)] at this
              show _ = _
              rw [HZ.out, this]
            go_wp2_with fail
            go_ret
            exact ⟨by rw [HF.out]; rfl, rfl⟩
theorem tname_is {b : Bool} (s : ByteArray) (hb : nameOk s = b) (w : World) (hs : s.size ≤ maxLen) :
    Calls Tryd.prog 58 #[.string s] w fun e w' => e = .returned (.bool b) ∧ w = w' := by
  subst hb
  exact tName_any s w hs
end Go.Proofs.YtfknoecgcoapcaaDoor
