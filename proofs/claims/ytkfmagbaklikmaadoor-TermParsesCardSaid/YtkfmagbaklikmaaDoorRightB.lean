/-
  May it be a term? (resolventref03.Right), by a contract. Condition: the value reads as a tree.
-/
import Derived.Test.YtkfmagbaklikmaaDoorRight
namespace Go.Proofs.YtkfmagbaklikmaaDoor
open Go Go.RowKit
set_option linter.unusedVariables false
set_option linter.unusedSimpArgs false

theorem empty_of {s : ByteArray} (h : s.toList = []) : s.size = 0 := by
  rw [ByteArray.toList_eq] at h
  have : s.data.toList.length = 0 := by rw [h]; rfl
  simpa using this
theorem not_empty_of {s : ByteArray} (h : ¬ s.toList = []) : ¬ s.size = 0 := fun e => h (by
  rw [ByteArray.toList_eq]
  exact List.eq_nil_of_length_eq_zero (by simpa using e))

theorem kind0 (n : Int) (s : ByteArray) (m : Nat) : (kindOk 0 n s m = true) ↔ ((0 ≤ n ∧ n ≤ 999) ∧ s.size = 0 ∧ m = 0) := by simp [kindOk, and_assoc]
theorem kind1 (n : Int) (s : ByteArray) (m : Nat) : (kindOk 1 n s m = true) ↔ (n = 0 ∧ nameOk s = true ∧ m = 0) := by simp [kindOk]
theorem kind2 (n : Int) (s : ByteArray) (m : Nat) : (kindOk 2 n s m = true) ↔ (n = 0 ∧ nameOk s = true ∧ 1 ≤ m ∧ m ≤ 8) := by simp [kindOk]
theorem kind3 (n : Int) (s : ByteArray) (m : Nat) : (kindOk 3 n s m = true) ↔ (n = 0 ∧ s.size = 0 ∧ m = 2) := by simp [kindOk]

set_option maxHeartbeats 2000000 in
theorem refRight_tree (f : Nat) : ∀ (t : Tm) (v : Value) (w : World) (S : Nat → Prop), Reads w S f t v → (∀ b, S b → b < w.heap.size) →
    Calls Tryd.prog 30 #[v] w fun e w' => e = .returned (.bool t.right) ∧ Below w.heap.size w w' := by
  induction f with
  | zero => intro t v w S h; exact h.elim
  | succ f ih =>
    rintro ⟨k, n, s, l⟩ v w S ⟨A, c, rfl, h1, h2, h3, h4, h5, h6⟩ hS
    have IH := Lib.hid ih
    have H6 := Lib.hid h6
    have H3 := Lib.hid h3
    obtain ⟨zz, hzz⟩ : ∃ zz, (Tm.node k n s l).right = zz := ⟨_, rfl⟩
    rw [hzz]
    have HV : Hid (zz = (rights l && kindOk k n s l.length)) := by show _ = _; rw [← hzz, Tm.right]
    unfold maxLen at h2
    clear ih h6 h3 h4 h5 hzz
    go_enter Tryd.func30, Tryd.ntmps30
    go_wp2_with fail
    have hbox := Box.new w 24 #[.int .i64 k, .int .i64 n, .string s, .slice A l.length c]
    obtain ⟨w0, hw0⟩ : ∃ w0, w.alloc (.cells #[.int .i64 k, .int .i64 n, .string s, .slice A l.length c] 24) = w0 := ⟨_, rfl⟩
    obtain ⟨g, hg⟩ : ∃ g, w.heap.size = g := ⟨_, rfl⟩
    have hB0 : Below w.heap.size w w0 := by rw [← hw0]; exact (Below.refl _ w).alloc (Nat.le_refl _) _
    rw [hw0, hg] at hbox
    rw [hw0, hg]
    have HX := Lib.hid hbox
    have HB := Lib.hid hB0
    clear hw0 hbox hB0 hg
    go_loopw [3] (fun i wr => ∃ j : Nat, j ≤ l.length ∧ i = .int .i64 j ∧ Hid (rights (l.take j) = true) ∧ Hid (Box wr g 24 #[.int .i64 k, .int .i64 n, .string s, .slice A l.length c]) ∧ Hid (Below w.heap.size w wr)) (fun i _ => l.length - (intOf i).toNat)
    case atStart => exact ⟨0, Nat.zero_le _, rfl, by simp [Hid, rights], HX, HB⟩
    case round =>
      obtain ⟨j, hj, rfl, HJ, HX1, HB1⟩ := hrel
      clear HX HB
      have k3 : wr.cell? ⟨g, 3, none⟩ = some (.slice A l.length c) := HX1.out.cell 3
      by_cases hlt : j < l.length
      · obtain ⟨b, off, v0, v1, v2, v3, rfl, hb, c0, c1, c2, c3, hr⟩ := H6.out j hlt
        have hbw : b < w.heap.size := hS b hb
        have q0 := (HB1.out.cell (p := ⟨b, off + j * 4, none⟩) hbw).trans c0
        have q1 := (HB1.out.cell (p := ⟨b, off + j * 4 + 1, none⟩) hbw).trans c1
        have q2 := (HB1.out.cell (p := ⟨b, off + j * 4 + 2, none⟩) hbw).trans c2
        have q3 := (HB1.out.cell (p := ⟨b, off + j * 4 + 3, none⟩) hbw).trans c3
        have HR := IH.out l[j] _ wr S (hr.below HB1.out hS) (fun b hb => by have := HB1.out.size; have := hS b hb; omega)
        have hst : rights (l.take (j + 1)) = l[j].right := by rw [take_snoc l j hlt, rights_snoc, HJ.out, Bool.true_and]
        obtain ⟨z, hz⟩ : ∃ z, l[j].right = z := ⟨_, rfl⟩
        rw [hz] at HR hst
        have HR := Lib.hid HR
        have HST := Lib.hid hst
        clear c0 c1 c2 c3 hr hz hst HJ
        go_wp2_with fail
        refine HR.out.mono ?_
        rintro e w1 ⟨rfl, hb1⟩
        have HX2 := Lib.hid (HX1.out.below hb1 HX1.out.lt)
        have HB2 := Lib.hid (HB1.out.trans (hb1.mono HB1.out.size))
        clear hb1 q0 q1 q2 q3 k3
        cases z
        · have HF : Hid (rights l = false) := rights_drop l (j + 1) HST.out
          go_wp2_with fail
          go_ret
          exact ⟨by rw [HV.out, HF.out]; rfl, HB2.out⟩
        · go_wp2_with fail
          go_roundw
          case rel => exact ⟨j + 1, by omega, by go_num, HST, HX2, HB2⟩
          case measure => simp [intOf]; omega
      · have hge : (l.length : Int) ≤ (j : Int) := by omega
        have hje : l.take j = l := List.take_of_length_le (by omega)
        have HF : Hid (rights l = true) := by
          have := HJ.out
          rw [hje] at this
          exact this
        have k0 : wr.cell? ⟨g, 0, none⟩ = some (.int .i64 k) := HX1.out.cell 0
        have k1 : wr.cell? ⟨g, 1, none⟩ = some (.int .i64 n) := HX1.out.cell 1
        have k2 : wr.cell? ⟨g, 2, none⟩ = some (.string s) := HX1.out.cell 2
        clear hje HJ hj
        have HZ : Hid (zz = kindOk k n s l.length) := by
          show _ = _
          rw [HV.out, HF.out, Bool.true_and]
        clear HV HF
        by_cases e0 : k = 0
        · subst e0
          go_wp2_with fail
          all_goals
            go_ret
            refine ⟨?_, HB1.out⟩
            rw [HZ.out]
            show Ending.returned (.bool _) = _
            congr 2
            rw [Bool.eq_iff_iff, kind0]
            first
              | (have e := empty_of ‹s.toList = []›; simp only [beq_iff_eq, decide_eq_true_eq, Bool.false_eq_true, Bool.and_eq_true, false_iff, true_iff, true_and, false_and, and_false, not_false_eq_true] <;> omega)
              | (have e := not_empty_of ‹¬ s.toList = []›; simp only [beq_iff_eq, decide_eq_true_eq, Bool.false_eq_true, Bool.and_eq_true, false_iff, true_iff, true_and, false_and, and_false, not_false_eq_true] <;> omega)
              | (simp only [beq_iff_eq, decide_eq_true_eq, Bool.false_eq_true, Bool.and_eq_true, false_iff, true_iff, true_and, false_and, and_false, not_false_eq_true] <;> omega)
        · by_cases e1 : k = 1
          · subst e1
            obtain ⟨b, hb⟩ : ∃ b, nameOk s = b := ⟨_, rfl⟩
            have HN := Lib.hid hb
            clear hb
            cases b
            all_goals
              go_wp2_with (go_at_call 21; refine (name_is s HN.out _ H3.out).mono ?_; rintro e w' ⟨rfl, rfl⟩)
              all_goals
                go_ret
                refine ⟨?_, HB1.out⟩
                rw [HZ.out]
                show Ending.returned (.bool _) = _
                congr 2
                rw [Bool.eq_iff_iff, kind1]
                first
                  | (have e := empty_of ‹s.toList = []›; simp only [beq_iff_eq, decide_eq_true_eq, Bool.false_eq_true, Bool.and_eq_true, HN.out, false_iff, true_iff, true_and, false_and, and_false, not_false_eq_true] <;> omega)
                  | (have e := not_empty_of ‹¬ s.toList = []›; simp only [beq_iff_eq, decide_eq_true_eq, Bool.false_eq_true, Bool.and_eq_true, HN.out, false_iff, true_iff, true_and, false_and, and_false, not_false_eq_true] <;> omega)
                  | (simp only [beq_iff_eq, decide_eq_true_eq, Bool.false_eq_true, Bool.and_eq_true, HN.out, false_iff, true_iff, true_and, false_and, and_false, not_false_eq_true] <;> omega)
          · by_cases e2 : k = 2
            · subst e2
              obtain ⟨b, hb⟩ : ∃ b, nameOk s = b := ⟨_, rfl⟩
              have HN := Lib.hid hb
              clear hb
              cases b
              all_goals
                go_wp2_with (go_at_call 21; refine (name_is s HN.out _ H3.out).mono ?_; rintro e w' ⟨rfl, rfl⟩)
                all_goals
                  go_ret
                  refine ⟨?_, HB1.out⟩
                  rw [HZ.out]
                  show Ending.returned (.bool _) = _
                  congr 2
                  rw [Bool.eq_iff_iff, kind2]
                  first
                    | (have e := empty_of ‹s.toList = []›; simp only [beq_iff_eq, decide_eq_true_eq, Bool.false_eq_true, Bool.and_eq_true, HN.out, false_iff, true_iff, true_and, false_and, and_false, not_false_eq_true] <;> omega)
                    | (have e := not_empty_of ‹¬ s.toList = []›; simp only [beq_iff_eq, decide_eq_true_eq, Bool.false_eq_true, Bool.and_eq_true, HN.out, false_iff, true_iff, true_and, false_and, and_false, not_false_eq_true] <;> omega)
                    | (simp only [beq_iff_eq, decide_eq_true_eq, Bool.false_eq_true, Bool.and_eq_true, HN.out, false_iff, true_iff, true_and, false_and, and_false, not_false_eq_true] <;> omega)
            · by_cases e3 : k = 3
              · subst e3
                go_wp2_with fail
                all_goals
                  go_ret
                  refine ⟨?_, HB1.out⟩
                  rw [HZ.out]
                  show Ending.returned (.bool _) = _
                  congr 2
                  rw [Bool.eq_iff_iff, kind3]
                  first
                    | (have e := empty_of ‹s.toList = []›; simp only [beq_iff_eq, decide_eq_true_eq, Bool.false_eq_true, Bool.and_eq_true, false_iff, true_iff, true_and, false_and, and_false, not_false_eq_true] <;> omega)
                    | (have e := not_empty_of ‹¬ s.toList = []›; simp only [beq_iff_eq, decide_eq_true_eq, Bool.false_eq_true, Bool.and_eq_true, false_iff, true_iff, true_and, false_and, and_false, not_false_eq_true] <;> omega)
                    | (simp only [beq_iff_eq, decide_eq_true_eq, Bool.false_eq_true, Bool.and_eq_true, false_iff, true_iff, true_and, false_and, and_false, not_false_eq_true] <;> omega)
              · go_wp2_with fail
                all_goals
                  go_ret
                  refine ⟨?_, HB1.out⟩
                  rw [HZ.out]
                  simp [kindOk, e0, e1, e2, e3]
end Go.Proofs.YtkfmagbaklikmaaDoor
