/-
  The program's own Right, with what it looks at at the top, by contracts. Condition: the value reads as a tree.
-/
import Derived.Test.YtkfmagbaklikmaaDoorTName
import Derived.Test.YtkfmagbaklikmaaDoorRightB
namespace Go.Proofs.YtkfmagbaklikmaaDoor
open Go Go.RowKit
set_option linter.unusedVariables false
set_option linter.unusedSimpArgs false

set_option maxHeartbeats 2000000 in
theorem topRight_is {zz : Bool} (k n : Int) (s : ByteArray) (m c : Nat) (A : Option Addr) (hz : kindOk k n s m = zz) (w : World) (hs : s.size ≤ maxLen) (hm : m ≤ c) (hc : c ≤ maxLen) :
    Calls Tryd.prog 39 #[.agg #[.int .i64 k, .int .i64 n, .string s, .slice A m c]] w fun e w' => e = .returned (.bool zz) ∧ Below w.heap.size w w' := by
  have H3 := Lib.hid hs
  unfold maxLen at hc
  have HZ : Hid (zz = kindOk k n s m) := hz.symm
  clear hz hs
  by_cases e0 : k = 0
  · subst e0
    go_enter Tryd.func39, Tryd.ntmps39
    go_wp2_with fail
    all_goals
      go_ret
      refine ⟨?_, (Below.refl _ w).alloc (Nat.le_refl _) _⟩
      rw [HZ.out]
      show Ending.returned (.bool _) = _
      congr 2
      rw [Bool.eq_iff_iff, kind0]
      first
        | (have e := empty_of ‹s.toList = []›; simp only [beq_iff_eq, decide_eq_true_eq, Bool.false_eq_true, Bool.and_eq_true, false_iff, true_iff, true_and, false_and, and_false, not_false_eq_true] <;> omega)
        | (have e := not_empty_of ‹¬ s.toList = []›; simp only [beq_iff_eq, decide_eq_true_eq, Bool.false_eq_true, Bool.and_eq_true, false_iff, true_iff, true_and, false_and, and_false, not_false_eq_true] <;> omega)
        | (simp only [beq_iff_eq, decide_eq_true_eq, Bool.false_eq_true, Bool.and_eq_true, false_iff, true_iff, true_and, false_and, and_false, not_false_eq_true] <;> omega)
  · by_cases e1 : k = 1
    · subst e1
      obtain ⟨b, hb⟩ : ∃ b, nameOk s = b := ⟨_, rfl⟩
      have HN := Lib.hid hb
      clear hb
      cases b
      all_goals
        go_enter Tryd.func39, Tryd.ntmps39
        go_wp2_with (go_at_call 20; refine (tname_is s HN.out _ H3.out).mono ?_; rintro e w' ⟨rfl, rfl⟩)
        all_goals
          go_ret
          refine ⟨?_, (Below.refl _ w).alloc (Nat.le_refl _) _⟩
          rw [HZ.out]
          show Ending.returned (.bool _) = _
          congr 2
          rw [Bool.eq_iff_iff, kind1]
          first
            | (have e := empty_of ‹s.toList = []›; simp only [beq_iff_eq, decide_eq_true_eq, Bool.false_eq_true, Bool.and_eq_true, HN.out, false_iff, true_iff, true_and, false_and, and_false, not_false_eq_true] <;> omega)
            | (have e := not_empty_of ‹¬ s.toList = []›; simp only [beq_iff_eq, decide_eq_true_eq, Bool.false_eq_true, Bool.and_eq_true, HN.out, false_iff, true_iff, true_and, false_and, and_false, not_false_eq_true] <;> omega)
            | (simp only [beq_iff_eq, decide_eq_true_eq, Bool.false_eq_true, Bool.and_eq_true, HN.out, false_iff, true_iff, true_and, false_and, and_false, not_false_eq_true] <;> omega)
    · by_cases e2 : k = 2
      · subst e2
        obtain ⟨b, hb⟩ : ∃ b, nameOk s = b := ⟨_, rfl⟩
        have HN := Lib.hid hb
        clear hb
        cases b
        all_goals
          go_enter Tryd.func39, Tryd.ntmps39
          go_wp2_with (go_at_call 20; refine (tname_is s HN.out _ H3.out).mono ?_; rintro e w' ⟨rfl, rfl⟩)
          all_goals
            go_ret
            refine ⟨?_, (Below.refl _ w).alloc (Nat.le_refl _) _⟩
            rw [HZ.out]
            show Ending.returned (.bool _) = _
            congr 2
            rw [Bool.eq_iff_iff, kind2]
            first
              | (have e := empty_of ‹s.toList = []›; simp only [beq_iff_eq, decide_eq_true_eq, Bool.false_eq_true, Bool.and_eq_true, HN.out, false_iff, true_iff, true_and, false_and, and_false, not_false_eq_true] <;> omega)
              | (have e := not_empty_of ‹¬ s.toList = []›; simp only [beq_iff_eq, decide_eq_true_eq, Bool.false_eq_true, Bool.and_eq_true, HN.out, false_iff, true_iff, true_and, false_and, and_false, not_false_eq_true] <;> omega)
              | (simp only [beq_iff_eq, decide_eq_true_eq, Bool.false_eq_true, Bool.and_eq_true, HN.out, false_iff, true_iff, true_and, false_and, and_false, not_false_eq_true] <;> omega)
      · by_cases e3 : k = 3
        · subst e3
          go_enter Tryd.func39, Tryd.ntmps39
          go_wp2_with fail
          all_goals
            go_ret
            refine ⟨?_, (Below.refl _ w).alloc (Nat.le_refl _) _⟩
            rw [HZ.out]
            show Ending.returned (.bool _) = _
            congr 2
            rw [Bool.eq_iff_iff, kind3]
            first
              | (have e := empty_of ‹s.toList = []›; simp only [beq_iff_eq, decide_eq_true_eq, Bool.false_eq_true, Bool.and_eq_true, false_iff, true_iff, true_and, false_and, and_false, not_false_eq_true] <;> omega)
              | (have e := not_empty_of ‹¬ s.toList = []›; simp only [beq_iff_eq, decide_eq_true_eq, Bool.false_eq_true, Bool.and_eq_true, false_iff, true_iff, true_and, false_and, and_false, not_false_eq_true] <;> omega)
              | (simp only [beq_iff_eq, decide_eq_true_eq, Bool.false_eq_true, Bool.and_eq_true, false_iff, true_iff, true_and, false_and, and_false, not_false_eq_true] <;> omega)
        · go_enter Tryd.func39, Tryd.ntmps39
          go_wp2_with fail
          all_goals
            go_ret
            refine ⟨?_, (Below.refl _ w).alloc (Nat.le_refl _) _⟩
            rw [HZ.out]
            simp [kindOk, e0, e1, e2, e3]

set_option maxHeartbeats 2000000 in
theorem tRight_tree (f : Nat) : ∀ (t : Tm) (v : Value) (w : World) (S : Nat → Prop), Reads w S f t v → (∀ b, S b → b < w.heap.size) →
    Calls Tryd.prog 25 #[v] w fun e w' => e = .returned (.bool t.right) ∧ Below w.heap.size w w' := by
  induction f with
  | zero => intro t v w S h; exact h.elim
  | succ f ih =>
    rintro ⟨k, n, s, l⟩ v w S ⟨A, c, rfl, h1, h2, h3, h4, h5, h6⟩ hS
    have IH := Lib.hid ih
    have H6 := Lib.hid h6
    have H1 := Lib.hid h1
    have H2 := Lib.hid h2
    have H3 := Lib.hid h3
    obtain ⟨zz, hzz⟩ : ∃ zz, (Tm.node k n s l).right = zz := ⟨_, rfl⟩
    rw [hzz]
    have HV : Hid (zz = (rights l && kindOk k n s l.length)) := by show _ = _; rw [← hzz, Tm.right]
    unfold maxLen at h2
    clear ih h6 h3 h4 h5 hzz
    obtain ⟨b, hb⟩ : ∃ b, kindOk k n s l.length = b := ⟨_, rfl⟩
    have HK := Lib.hid hb
    clear hb
    cases b
    · have HZ : Hid (zz = false) := by
        show _ = _
        rw [HV.out, HK.out, Bool.and_false]
      go_enter Tryd.func25, Tryd.ntmps25
      go_wp2_with fail
      refine (topRight_is k n s l.length c A HK.out _ H3.out H1.out H2.out).mono ?_
      rintro e w1 ⟨rfl, hb1⟩
      have HB := Lib.hid (((Below.refl _ w).alloc (Nat.le_refl _) (.cells #[.int .i64 k, .int .i64 n, .string s, .slice A l.length c] 28)).trans (hb1.mono (by simp)))
      go_wp2_with fail
      go_ret
      exact ⟨by rw [HZ.out]; rfl, HB.out⟩
    · have HZ : Hid (zz = rights l) := by
        show _ = _
        rw [HV.out, HK.out, Bool.and_true]
      clear HV
      go_enter Tryd.func25, Tryd.ntmps25
      go_wp2_with fail
      refine (topRight_is k n s l.length c A HK.out _ H3.out H1.out H2.out).mono ?_
      rintro e w1 ⟨rfl, hb1⟩
      have hbox := (Box.new w 28 #[.int .i64 k, .int .i64 n, .string s, .slice A l.length c]).below hb1 (by simp)
      have HB := Lib.hid (((Below.refl _ w).alloc (Nat.le_refl _) (.cells #[.int .i64 k, .int .i64 n, .string s, .slice A l.length c] 28)).trans (hb1.mono (by simp)))
      have k3 : w1.cell? ⟨w.heap.size, 3, none⟩ = some (.slice A l.length c) := hbox.cell 3
      clear hb1 hbox
      go_wp2_with fail
      clear k3
      go_loopw [11] (fun i wr => ∃ j : Nat, j ≤ l.length ∧ i = .int .i64 j ∧ Hid (rights (l.take j) = true) ∧ Hid (Below w.heap.size w wr)) (fun i _ => l.length - (intOf i).toNat)
      case atStart => exact ⟨0, Nat.zero_le _, rfl, by simp [Hid, rights], HB⟩
      case round =>
        obtain ⟨j, hj, rfl, HJ, HB1⟩ := hrel
        clear HB
        by_cases hlt : j < l.length
        · obtain ⟨b, off, v0, v1, v2, v3, rfl, hb, c0, c1, c2, c3, hr⟩ := H6.out j hlt
          obtain ⟨k', n', s', A', m', c', hv⟩ := hr.form
          simp only [Value.agg.injEq, Array.mk.injEq, List.cons.injEq, and_true] at hv
          obtain ⟨rfl, rfl, rfl, rfl⟩ := hv
          have hbw : b < w.heap.size := hS b hb
          have q0 := (HB1.out.cell (p := ⟨b, off + j * 4, none⟩) hbw).trans c0
          have q1 := (HB1.out.cell (p := ⟨b, off + j * 4 + 1, none⟩) hbw).trans c1
          have q2 := (HB1.out.cell (p := ⟨b, off + j * 4 + 2, none⟩) hbw).trans c2
          have q3 := (HB1.out.cell (p := ⟨b, off + j * 4 + 3, none⟩) hbw).trans c3
          have HB2 : Below w.heap.size w (wr.alloc (.cells #[.int .i64 k', .int .i64 n', .string s', .slice A' m' c'] 28)) := HB1.out.alloc HB1.out.size _
          have HR := IH.out l[j] _ (wr.alloc (.cells #[.int .i64 k', .int .i64 n', .string s', .slice A' m' c'] 28)) S (hr.below HB2 hS) (fun b hb => by have := HB2.size; have := hS b hb; omega)
          have HB3 := Lib.hid HB2
          have hst : rights (l.take (j + 1)) = l[j].right := by rw [take_snoc l j hlt, rights_snoc, HJ.out, Bool.true_and]
          obtain ⟨z, hz⟩ : ∃ z, l[j].right = z := ⟨_, rfl⟩
          rw [hz] at HR hst
          have HR := Lib.hid HR
          have HST := Lib.hid hst
          clear c0 c1 c2 c3 hr hz hst HJ HB2
          go_wp2_with fail
          refine HR.out.mono ?_
          rintro e w2 ⟨rfl, hb2⟩
          have HB4 := Lib.hid (HB3.out.trans (hb2.mono HB3.out.size))
          clear hb2 q0 q1 q2 q3 HR HB3
          cases z
          · have HF : Hid (zz = false) := by
              show _ = _
              rw [HZ.out, rights_drop l (j + 1) HST.out]
            go_wp2_with fail
            go_ret
            exact ⟨by rw [HF.out]; rfl, HB4.out⟩
          · go_wp2_with fail
            go_roundw
            case rel => exact ⟨j + 1, by omega, by go_num, HST, HB4⟩
            case measure => simp [intOf]; omega
        · have hge : (l.length : Int) ≤ (j : Int) := by omega
          have HF : Hid (zz = true) := by
            have := HJ.out
            rw [List.take_of_length_le (by omega)] at this
            show _ = _
            rw [HZ.out, this]
          go_wp2_with fail
          go_ret
          exact ⟨by rw [HF.out]; rfl, HB1.out⟩
end Go.Proofs.YtkfmagbaklikmaaDoor
