/-
  May it be a name? (resolventref03.Name), by a contract. No condition.
-/
import Derived.Test.YtfknoecgcoapcaaDoorMem
import Derived.Test.YtfknoecgcoapcaaDoorProg
import Derived.Lib.Hide
import Derived.LoopTactic
import Derived.OpenShut
import Derived.IntWalk
namespace Go.Proofs.YtfknoecgcoapcaaDoor
open Go Go.RowKit
set_option linter.unusedVariables false

def lowerB (c : UInt8) : Bool := decide (97 ≤ c.toNat) && decide (c.toNat ≤ 122)
def nameB (c : UInt8) : Bool := lowerB c || (decide (48 ≤ c.toNat) && decide (c.toNat ≤ 57))
def nameOk (s : ByteArray) : Bool := decide (1 ≤ s.size) && decide (s.size ≤ 32) && (s.data.toList.head?.any lowerB) && s.data.toList.all nameB

theorem take_snocB (s : ByteArray) (k : Nat) (h : k < s.size) : s.data.toList.take (k + 1) = s.data.toList.take k ++ [s[k]] := by
  rw [List.take_succ_eq_append_getElem (by simpa using h)]; rfl
theorem all_drop (s : ByteArray) (k : Nat) (h : k < s.size) (hb : nameB s[k] = false) : s.data.toList.all nameB = false := by
  have : ¬ s.data.toList.all nameB = true := fun e => by
    rw [List.all_eq_true] at e
    have := e s[k] (by
      have h' : k < s.data.toList.length := by simpa using h
      exact List.getElem_mem h')
    rw [hb] at this
    cases this
  simpa using this
theorem head_of (s : ByteArray) (h : 0 < s.size) : s.data.toList.head? = some s[0] := by
  have h' : 0 < s.data.toList.length := by simpa using h
  rw [List.head?_eq_getElem?, List.getElem?_eq_getElem h']
  rfl

theorem refName_any (s : ByteArray) (w : World) (hs : s.size ≤ maxLen) :
    Calls Tryd.prog 63 #[.string s] w fun e w' => e = .returned (.bool (nameOk s)) ∧ w = w' := by
  unfold maxLen at hs
  by_cases c1 : s.size < 1 ∨ 32 < s.size
  · have HV : Hid (nameOk s = false) := by
      show _ = _
      simp only [nameOk, Bool.and_eq_false_iff, decide_eq_false_iff_not]
      omega
    by_cases c2 : s.size < 1
    · clear c1
      go_enter Tryd.func63, Tryd.ntmps63
      go_wp2_with fail
      go_ret
      exact ⟨by rw [HV.out]; rfl, rfl⟩
    · have c3 : 32 < (s.size : Int) := by omega
      clear c1
      go_enter Tryd.func63, Tryd.ntmps63
      go_wp2_with fail
      go_ret
      exact ⟨by rw [HV.out]; rfl, rfl⟩
  · have h1 : ¬ (s.size : Int) < 1 := by omega
    have h2 : ¬ 32 < (s.size : Int) := by omega
    have h0 : 0 < s.size := by omega
    have hd := head_of s h0
    have HD := Lib.hid hd
    clear hd c1
    by_cases l1 : ((s[0].toNat : Nat) : Int) < 97
    · have HV : Hid (nameOk s = false) := by
        show _ = _
        have : lowerB s[0] = false := by simp [lowerB]; omega
        simp [nameOk, HD.out, this]
      go_enter Tryd.func63, Tryd.ntmps63
      go_wp2_with fail
      go_ret
      exact ⟨by rw [HV.out]; rfl, rfl⟩
    · by_cases l2 : 122 < ((s[0].toNat : Nat) : Int)
      · have HV : Hid (nameOk s = false) := by
          show _ = _
          have : lowerB s[0] = false := by simp [lowerB]; omega
          simp [nameOk, HD.out, this]
        go_enter Tryd.func63, Tryd.ntmps63
        go_wp2_with fail
        go_ret
        exact ⟨by rw [HV.out]; rfl, rfl⟩
      · have HV : Hid (nameOk s = s.data.toList.all nameB) := by
          show _ = _
          have e1 : lowerB s[0] = true := by simp [lowerB]; omega
          have e2 : decide (1 ≤ s.size) = true := by simp; omega
          have e3 : decide (s.size ≤ 32) = true := by simp; omega
          simp only [nameOk, HD.out, e1, e2, e3, Option.any_some, Bool.true_and]
        go_enter Tryd.func63, Tryd.ntmps63
        go_wp2_with fail
        clear l1 l2
        go_loop [3] (fun i => ∃ j : Nat, j ≤ s.size ∧ i = .int .i64 j ∧ Hid ((s.data.toList.take j).all nameB = true)) (fun i => s.size - (intOf i).toNat)
        case atStart => exact ⟨0, Nat.zero_le _, rfl, by simp [Hid]⟩
        case round =>
          obtain ⟨j, hj, rfl, HA⟩ := hrel
          by_cases hlt : j < s.size
          · have HS := Lib.hid (take_snocB s j hlt)
            have HN := Lib.hid (fun hb => all_drop s j hlt hb)
            go_wp2
            all_goals first
              | (go_ret; exact ⟨by rw [HV.out, HN.out (by simp [nameB, lowerB]; omega)]; rfl, rfl⟩)
              | (go_round
                 case rel => exact ⟨j + 1, by omega, by go_num, by show _ = _; rw [HS.out, List.all_append, HA.out]; simp [nameB, lowerB]; omega⟩
                 case measure => simp [intOf]; omega)
          · have hge : (s.size : Int) ≤ (j : Int) := by omega
            have HF : Hid (s.data.toList.all nameB = true) := by
              have := HA.out
              rw [List.take_of_length_le (by simp; omega)] at this
              exact this
            go_wp2_with fail
            go_ret
            exact ⟨by rw [HV.out, HF.out]; rfl, rfl⟩
end Go.Proofs.YtfknoecgcoapcaaDoor
