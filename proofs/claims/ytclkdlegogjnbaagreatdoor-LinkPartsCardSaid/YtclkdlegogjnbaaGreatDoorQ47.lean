/-
  The program's Same: slices.Equal at names, names with arities, predicates and instructions. Conditions: lengths are such as may be.
-/
import Derived.Test.YtclkdlegogjnbaaGreatDoorQ46
namespace Go.Proofs.YtclkdlegogjnbaaGreatDoor
open Go Go.RowKit Go.WideShapes Go.ChangeShapes
set_option linter.unusedVariables false
set_option linter.unusedSimpArgs false

theorem eq_four9 (a b c d a' b' c' d' : Int) (w : World) : (Op.equalIn 9999 49 (.agg #[.int .i64 a, .int .i64 b, .int .i64 c, .int .i64 d]) (.agg #[.int .i64 a', .int .i64 b', .int .i64 c', .int .i64 d'])).run Tryz.prog w = .ok (a == a' && b == b' && c == c' && d == d') w := eq_four8 a b c d a' b' c' d' w
theorem below_dr (w w' : World) (h : Below w.heap.size w w') (n : Nat) : Below w.heap.size w (w'.drewN n) := h.trans ⟨rfl, rfl, rfl, Nat.le_refl _, fun _ _ => rfl⟩
theorem dec_ne {α : Type} [DecidableEq α] {l m : List α} (h : l ≠ m) : decide (l = m) = false := by simpa using h
theorem dec_eq {α : Type} [DecidableEq α] {l m : List α} (h : l = m) : decide (l = m) = true := by simpa using h

set_option maxRecDepth 100000 in
set_option maxHeartbeats 8000000 in
theorem equal_str (l m : List (ByteArray)) (hl : l.length ≤ 1000000) (v u : Value) (w : World) (hv : AtomsAt w v l) (hu : AtomsAt w u m) :
    Calls Tryz.prog 39 #[v, u] w fun e w' => e = .returned (.bool (decide (l = m))) ∧ Below w.heap.size w w' := by
  obtain ⟨A, c, rfl⟩ := CellsAt.form hv
  obtain ⟨B, d, rfl⟩ := CellsAt.form hu
  have HV := Lib.hid hv
  have HU := Lib.hid hu
  have HL := Lib.hid hl
  have HNO := Lib.hid (fun (h : l ≠ m) => dec_ne h)
  have HYES := Lib.hid (fun (h : l = m) => dec_eq h)
  generalize decide (l = m) = r at HNO HYES
  clear hv hu hl
  by_cases e0 : l.length = m.length
  case neg =>
    have HX := Lib.hid (HNO.out (fun h => e0 (by rw [h])))
    have hne : ((l.length : Int) != (m.length : Int)) = true := by simp; omega
    clear e0
    go_enter Tryz.func39, Tryz.ntmps39
    go_wp2
    go_ret
    exact ⟨by rw [HX.out]; rfl, Below.refl _ _⟩
  have E0 := Lib.hid e0
  rw [← e0]
  clear e0
  have hlen := HL.out
  go_enter Tryz.func39, Tryz.ntmps39
  go_wp2
  go_loopw [5, 13] (fun x i wr => ∃ k : Nat, k ≤ l.length ∧ i = .int .i64 k ∧ Hid (l.take k = m.take k) ∧ Hid (Below w.heap.size w wr)) (fun _ i _ => l.length - (intOf i).toNat)
  case atStart => exact ⟨0, by omega, rfl, Lib.hid (by simp), Lib.hid (Below.refl _ _)⟩
  obtain ⟨k, hk, rfl, HT, HK⟩ := hrel
  by_cases hlt : k < l.length
  case pos =>
    have hlt2 : k < m.length := by rw [← E0.out]; exact hlt
    obtain ⟨b, off, rfl, hb, hc0⟩ := atomCell HV.out k hlt
    obtain ⟨b2, off2, rfl, hb2, he0⟩ := atomCell HU.out k hlt2
    have a0 := (HK.out.cell (p := ⟨b, off + k, none⟩) hb).trans hc0
    have f0 := (HK.out.cell (p := ⟨b2, off2 + k, none⟩) hb2).trans he0
    clear hc0 he0
    have HNE : Hid (¬ (l[k] = m[k]) → r = false) := Lib.hid (fun h => HNO.out (ne_at hlt hlt2 (fun h2 => h (h2))))
    have HEQ : Hid ((l[k] = m[k]) → l.take (k + 1) = m.take (k + 1)) := Lib.hid (fun h => take_eq_step hlt hlt2 HT.out h)
    generalize l[k] = x0 at a0 HNE HEQ
    generalize m[k] = y0 at f0 HNE HEQ
    by_cases hx : x0 = y0
    case neg =>
      have hst := ne_strs hx
      have HX := Lib.hid (HNE.out (hx))
      go_upto_region 6 with (fail)
      go_quiet (fail)
      go_wp2
      go_ret
      exact ⟨by rw [HX.out]; rfl, below_dr _ _ HK.out _⟩
    subst hx
    have HT2 := Lib.hid (HEQ.out rfl)
    go_upto_region 6 with (fail)
    go_quiet (fail)
    have HK3 := Lib.hid (below_dr _ _ HK.out nq)
    go_wp2
    go_roundw
    case rel => first | exact ⟨k + 1, by omega, by go_num, HT2, HK3⟩ | exact ⟨_, _, _, _, _, _, _, _, _, _, _, ⟨k + 1, by omega, by go_num, HT2, HK3⟩, rfl⟩
    case measure => simp [intOf]; omega
  obtain rfl : k = l.length := by omega
  have HX := Lib.hid (HYES.out (take_eq_end E0.out HT.out))
  clear hlt HT
  go_wp2
  go_ret
  exact ⟨by rw [HX.out]; rfl, HK.out⟩

set_option maxRecDepth 100000 in
set_option maxHeartbeats 8000000 in
theorem equal_fun (l m : List (ByteArray × Int)) (hl : l.length ≤ 1000000) (v u : Value) (w : World) (hv : FunsAt w v l) (hu : FunsAt w u m) :
    Calls Tryz.prog 40 #[v, u] w fun e w' => e = .returned (.bool (decide (l = m))) ∧ Below w.heap.size w w' := by
  obtain ⟨A, c, rfl⟩ := CellsAt.form hv
  obtain ⟨B, d, rfl⟩ := CellsAt.form hu
  have HV := Lib.hid hv
  have HU := Lib.hid hu
  have HL := Lib.hid hl
  have HNO := Lib.hid (fun (h : l ≠ m) => dec_ne h)
  have HYES := Lib.hid (fun (h : l = m) => dec_eq h)
  generalize decide (l = m) = r at HNO HYES
  clear hv hu hl
  by_cases e0 : l.length = m.length
  case neg =>
    have HX := Lib.hid (HNO.out (fun h => e0 (by rw [h])))
    have hne : ((l.length : Int) != (m.length : Int)) = true := by simp; omega
    clear e0
    go_enter Tryz.func40, Tryz.ntmps40
    go_wp2
    go_ret
    exact ⟨by rw [HX.out]; rfl, Below.refl _ _⟩
  have E0 := Lib.hid e0
  rw [← e0]
  clear e0
  have hlen := HL.out
  go_enter Tryz.func40, Tryz.ntmps40
  go_wp2
  go_loopw [5, 13] (fun x i wr => ∃ k : Nat, k ≤ l.length ∧ i = .int .i64 k ∧ Hid (l.take k = m.take k) ∧ Hid (Below w.heap.size w wr)) (fun _ i _ => l.length - (intOf i).toNat)
  case atStart => exact ⟨0, by omega, rfl, Lib.hid (by simp), Lib.hid (Below.refl _ _)⟩
  obtain ⟨k, hk, rfl, HT, HK⟩ := hrel
  by_cases hlt : k < l.length
  case pos =>
    have hlt2 : k < m.length := by rw [← E0.out]; exact hlt
    obtain ⟨b, off, rfl, hb, hc0, hc1⟩ := funCell HV.out k hlt
    obtain ⟨b2, off2, rfl, hb2, he0, he1⟩ := funCell HU.out k hlt2
    have a0 := (HK.out.cell (p := ⟨b, off + k * 2, none⟩) hb).trans hc0
    have f0 := (HK.out.cell (p := ⟨b2, off2 + k * 2, none⟩) hb2).trans he0
    have a1 := (HK.out.cell (p := ⟨b, off + k * 2 + 1, none⟩) hb).trans hc1
    have f1 := (HK.out.cell (p := ⟨b2, off2 + k * 2 + 1, none⟩) hb2).trans he1
    clear hc0 he0 hc1 he1
    have HNE : Hid (¬ (l[k].1 = m[k].1 ∧ l[k].2 = m[k].2) → r = false) := Lib.hid (fun h => HNO.out (ne_at hlt hlt2 (fun h2 => h (by rw [h2]; exact ⟨rfl, rfl⟩))))
    have HEQ : Hid ((l[k].1 = m[k].1 ∧ l[k].2 = m[k].2) → l.take (k + 1) = m.take (k + 1)) := Lib.hid (fun h => take_eq_step hlt hlt2 HT.out (Prod.ext h.1 h.2))
    generalize l[k].1 = x0 at a0 HNE HEQ
    generalize m[k].1 = y0 at f0 HNE HEQ
    generalize l[k].2 = x1 at a1 HNE HEQ
    generalize m[k].2 = y1 at f1 HNE HEQ
    by_cases hx : x0 = y0
    case neg =>
      have hst : (x0.toList = y0.toList) = False := by have := ne_strs hx; simpa using this
      have HX := Lib.hid (HNE.out (fun h => hx h.1))
      go_upto_region 6 with (fail)
      go_quiet (fail)
      go_wp2
      go_ret
      exact ⟨by rw [HX.out]; rfl, below_dr _ _ HK.out _⟩
    subst hx
    by_cases hx : x1 = y1
    case neg =>
      have hnt : (x1 = y1) = False := by simp [hx]
      have HX := Lib.hid (HNE.out (fun h => hx h.2))
      go_upto_region 6 with (fail)
      go_quiet (fail)
      go_wp2
      go_ret
      exact ⟨by rw [HX.out]; rfl, below_dr _ _ HK.out _⟩
    subst hx
    have HT2 := Lib.hid (HEQ.out ⟨rfl, rfl⟩)
    go_upto_region 6 with (fail)
    go_quiet (fail)
    have HK3 := Lib.hid (below_dr _ _ HK.out nq)
    go_wp2
    go_roundw
    case rel => first | exact ⟨k + 1, by omega, by go_num, HT2, HK3⟩ | exact ⟨_, _, _, _, _, _, _, _, _, _, _, ⟨k + 1, by omega, by go_num, HT2, HK3⟩, rfl⟩
    case measure => simp [intOf]; omega
  obtain rfl : k = l.length := by omega
  have HX := Lib.hid (HYES.out (take_eq_end E0.out HT.out))
  clear hlt HT
  go_wp2
  go_ret
  exact ⟨by rw [HX.out]; rfl, HK.out⟩

set_option maxRecDepth 100000 in
set_option maxHeartbeats 8000000 in
theorem equal_pred (l m : List (ByteArray × Int × Int)) (hl : l.length ≤ 1000000) (v u : Value) (w : World) (hv : PredsAt w v l) (hu : PredsAt w u m) :
    Calls Tryz.prog 41 #[v, u] w fun e w' => e = .returned (.bool (decide (l = m))) ∧ Below w.heap.size w w' := by
  obtain ⟨A, c, rfl⟩ := CellsAt.form hv
  obtain ⟨B, d, rfl⟩ := CellsAt.form hu
  have HV := Lib.hid hv
  have HU := Lib.hid hu
  have HL := Lib.hid hl
  have HNO := Lib.hid (fun (h : l ≠ m) => dec_ne h)
  have HYES := Lib.hid (fun (h : l = m) => dec_eq h)
  generalize decide (l = m) = r at HNO HYES
  clear hv hu hl
  by_cases e0 : l.length = m.length
  case neg =>
    have HX := Lib.hid (HNO.out (fun h => e0 (by rw [h])))
    have hne : ((l.length : Int) != (m.length : Int)) = true := by simp; omega
    clear e0
    go_enter Tryz.func41, Tryz.ntmps41
    go_wp2
    go_ret
    exact ⟨by rw [HX.out]; rfl, Below.refl _ _⟩
  have E0 := Lib.hid e0
  rw [← e0]
  clear e0
  have hlen := HL.out
  go_enter Tryz.func41, Tryz.ntmps41
  go_wp2
  go_loopw [5, 13] (fun x i wr => ∃ k : Nat, k ≤ l.length ∧ i = .int .i64 k ∧ Hid (l.take k = m.take k) ∧ Hid (Below w.heap.size w wr)) (fun _ i _ => l.length - (intOf i).toNat)
  case atStart => exact ⟨0, by omega, rfl, Lib.hid (by simp), Lib.hid (Below.refl _ _)⟩
  obtain ⟨k, hk, rfl, HT, HK⟩ := hrel
  by_cases hlt : k < l.length
  case pos =>
    have hlt2 : k < m.length := by rw [← E0.out]; exact hlt
    obtain ⟨b, off, rfl, hb, hc0, hc1, hc2⟩ := predCell HV.out k hlt
    obtain ⟨b2, off2, rfl, hb2, he0, he1, he2⟩ := predCell HU.out k hlt2
    have a0 := (HK.out.cell (p := ⟨b, off + k * 3, none⟩) hb).trans hc0
    have f0 := (HK.out.cell (p := ⟨b2, off2 + k * 3, none⟩) hb2).trans he0
    have a1 := (HK.out.cell (p := ⟨b, off + k * 3 + 1, none⟩) hb).trans hc1
    have f1 := (HK.out.cell (p := ⟨b2, off2 + k * 3 + 1, none⟩) hb2).trans he1
    have a2 := (HK.out.cell (p := ⟨b, off + k * 3 + 2, none⟩) hb).trans hc2
    have f2 := (HK.out.cell (p := ⟨b2, off2 + k * 3 + 2, none⟩) hb2).trans he2
    clear hc0 he0 hc1 he1 hc2 he2
    have HNE : Hid (¬ (l[k].1 = m[k].1 ∧ l[k].2.1 = m[k].2.1 ∧ l[k].2.2 = m[k].2.2) → r = false) := Lib.hid (fun h => HNO.out (ne_at hlt hlt2 (fun h2 => h (by rw [h2]; exact ⟨rfl, rfl, rfl⟩))))
    have HEQ : Hid ((l[k].1 = m[k].1 ∧ l[k].2.1 = m[k].2.1 ∧ l[k].2.2 = m[k].2.2) → l.take (k + 1) = m.take (k + 1)) := Lib.hid (fun h => take_eq_step hlt hlt2 HT.out (Prod.ext h.1 (Prod.ext h.2.1 h.2.2)))
    generalize l[k].1 = x0 at a0 HNE HEQ
    generalize m[k].1 = y0 at f0 HNE HEQ
    generalize l[k].2.1 = x1 at a1 HNE HEQ
    generalize m[k].2.1 = y1 at f1 HNE HEQ
    generalize l[k].2.2 = x2 at a2 HNE HEQ
    generalize m[k].2.2 = y2 at f2 HNE HEQ
    by_cases hx : x0 = y0
    case neg =>
      have hst : (x0.toList = y0.toList) = False := by have := ne_strs hx; simpa using this
      have HX := Lib.hid (HNE.out (fun h => hx h.1))
      go_upto_region 6 with (fail)
      go_quiet (fail)
      go_wp2
      go_ret
      exact ⟨by rw [HX.out]; rfl, below_dr _ _ HK.out _⟩
    subst hx
    by_cases hx : x1 = y1
    case neg =>
      have hnt : (x1 = y1) = False := by simp [hx]
      have HX := Lib.hid (HNE.out (fun h => hx h.2.1))
      go_upto_region 6 with (fail)
      go_quiet (fail)
      go_wp2
      go_ret
      exact ⟨by rw [HX.out]; rfl, below_dr _ _ HK.out _⟩
    subst hx
    by_cases hx : x2 = y2
    case neg =>
      have hnt : (x2 = y2) = False := by simp [hx]
      have HX := Lib.hid (HNE.out (fun h => hx h.2.2))
      go_upto_region 6 with (fail)
      go_quiet (fail)
      go_wp2
      go_ret
      exact ⟨by rw [HX.out]; rfl, below_dr _ _ HK.out _⟩
    subst hx
    have HT2 := Lib.hid (HEQ.out ⟨rfl, rfl, rfl⟩)
    go_upto_region 6 with (fail)
    go_quiet (fail)
    have HK3 := Lib.hid (below_dr _ _ HK.out nq)
    go_wp2
    go_roundw
    case rel => first | exact ⟨k + 1, by omega, by go_num, HT2, HK3⟩ | exact ⟨_, _, _, _, _, _, _, _, _, _, _, ⟨k + 1, by omega, by go_num, HT2, HK3⟩, rfl⟩
    case measure => simp [intOf]; omega
  obtain rfl : k = l.length := by omega
  have HX := Lib.hid (HYES.out (take_eq_end E0.out HT.out))
  clear hlt HT
  go_wp2
  go_ret
  exact ⟨by rw [HX.out]; rfl, HK.out⟩

set_option maxRecDepth 100000 in
set_option maxHeartbeats 8000000 in
theorem equal_ins (l m : List (Ins)) (hl : l.length ≤ 1000000) (v u : Value) (w : World) (hv : CodeAt w v l) (hu : CodeAt w u m) :
    Calls Tryz.prog 42 #[v, u] w fun e w' => e = .returned (.bool (decide (l = m))) ∧ Below w.heap.size w w' := by
  obtain ⟨A, c, rfl⟩ := CellsAt.form hv
  obtain ⟨B, d, rfl⟩ := CellsAt.form hu
  have HV := Lib.hid hv
  have HU := Lib.hid hu
  have HL := Lib.hid hl
  have HNO := Lib.hid (fun (h : l ≠ m) => dec_ne h)
  have HYES := Lib.hid (fun (h : l = m) => dec_eq h)
  generalize decide (l = m) = r at HNO HYES
  clear hv hu hl
  by_cases e0 : l.length = m.length
  case neg =>
    have HX := Lib.hid (HNO.out (fun h => e0 (by rw [h])))
    have hne : ((l.length : Int) != (m.length : Int)) = true := by simp; omega
    clear e0
    go_enter Tryz.func42, Tryz.ntmps42
    go_wp2
    go_ret
    exact ⟨by rw [HX.out]; rfl, Below.refl _ _⟩
  have E0 := Lib.hid e0
  rw [← e0]
  clear e0
  have hlen := HL.out
  go_enter Tryz.func42, Tryz.ntmps42
  go_wp2
  go_loopw [5, 13] (fun x i wr => ∃ k : Nat, k ≤ l.length ∧ i = .int .i64 k ∧ Hid (l.take k = m.take k) ∧ Hid (Below w.heap.size w wr)) (fun _ i _ => l.length - (intOf i).toNat)
  case atStart => exact ⟨0, by omega, rfl, Lib.hid (by simp), Lib.hid (Below.refl _ _)⟩
  obtain ⟨k, hk, rfl, HT, HK⟩ := hrel
  by_cases hlt : k < l.length
  case pos =>
    have hlt2 : k < m.length := by rw [← E0.out]; exact hlt
    obtain ⟨b, off, rfl, hb, hc0, hc1, hc2, hc3, hc4⟩ := insCell HV.out k hlt
    obtain ⟨b2, off2, rfl, hb2, he0, he1, he2, he3, he4⟩ := insCell HU.out k hlt2
    have a0 := (HK.out.cell (p := ⟨b, off + k * 5, none⟩) hb).trans hc0
    have f0 := (HK.out.cell (p := ⟨b2, off2 + k * 5, none⟩) hb2).trans he0
    have a1 := (HK.out.cell (p := ⟨b, off + k * 5 + 1, none⟩) hb).trans hc1
    have f1 := (HK.out.cell (p := ⟨b2, off2 + k * 5 + 1, none⟩) hb2).trans he1
    have a2 := (HK.out.cell (p := ⟨b, off + k * 5 + 2, none⟩) hb).trans hc2
    have f2 := (HK.out.cell (p := ⟨b2, off2 + k * 5 + 2, none⟩) hb2).trans he2
    have a3 := (HK.out.cell (p := ⟨b, off + k * 5 + 3, none⟩) hb).trans hc3
    have f3 := (HK.out.cell (p := ⟨b2, off2 + k * 5 + 3, none⟩) hb2).trans he3
    have a4 := (HK.out.cell (p := ⟨b, off + k * 5 + 4, none⟩) hb).trans hc4
    have f4 := (HK.out.cell (p := ⟨b2, off2 + k * 5 + 4, none⟩) hb2).trans he4
    clear hc0 he0 hc1 he1 hc2 he2 hc3 he3 hc4 he4
    have HNE : Hid (¬ (l[k].1 = m[k].1 ∧ l[k].2.1 = m[k].2.1 ∧ l[k].2.2.1 = m[k].2.2.1 ∧ l[k].2.2.2.1 = m[k].2.2.2.1 ∧ l[k].2.2.2.2 = m[k].2.2.2.2) → r = false) := Lib.hid (fun h => HNO.out (ne_at hlt hlt2 (fun h2 => h (by rw [h2]; exact ⟨rfl, rfl, rfl, rfl, rfl⟩))))
    have HEQ : Hid ((l[k].1 = m[k].1 ∧ l[k].2.1 = m[k].2.1 ∧ l[k].2.2.1 = m[k].2.2.1 ∧ l[k].2.2.2.1 = m[k].2.2.2.1 ∧ l[k].2.2.2.2 = m[k].2.2.2.2) → l.take (k + 1) = m.take (k + 1)) := Lib.hid (fun h => take_eq_step hlt hlt2 HT.out (Prod.ext h.1 (Prod.ext h.2.1 (Prod.ext h.2.2.1 (Prod.ext h.2.2.2.1 h.2.2.2.2)))))
    generalize l[k].1 = x0 at a0 HNE HEQ
    generalize m[k].1 = y0 at f0 HNE HEQ
    generalize l[k].2.1 = x1 at a1 HNE HEQ
    generalize m[k].2.1 = y1 at f1 HNE HEQ
    generalize l[k].2.2.1 = x2 at a2 HNE HEQ
    generalize m[k].2.2.1 = y2 at f2 HNE HEQ
    generalize l[k].2.2.2.1 = x3 at a3 HNE HEQ
    generalize m[k].2.2.2.1 = y3 at f3 HNE HEQ
    generalize l[k].2.2.2.2 = x4 at a4 HNE HEQ
    generalize m[k].2.2.2.2 = y4 at f4 HNE HEQ
    by_cases hx : x0 = y0
    case neg =>
      have hnt : (x0 = y0) = False := by simp [hx]
      have HX := Lib.hid (HNE.out (fun h => hx h.1))
      go_upto_region 6 with (fail)
      go_quiet (fail)
      go_wp2
      go_ret
      exact ⟨by rw [HX.out]; rfl, below_dr _ _ HK.out _⟩
    subst hx
    have heq := eq_four9 x1 x2 x3 x4 y1 y2 y3 y4
    by_cases hx : (x1 = y1 ∧ x2 = y2 ∧ x3 = y3 ∧ x4 = y4)
    case neg =>
      have hq : (x1 == y1 && x2 == y2 && x3 == y3 && x4 == y4) = false := by rw [Bool.eq_false_iff]; intro h; simp at h; exact hx ⟨h.1.1.1, h.1.1.2, h.1.2, h.2⟩
      rw [hq] at heq
      have HX := Lib.hid (HNE.out (fun h => hx h.2))
      go_upto_region 6 with (fail)
      go_quiet (fail)
      go_wp2
      go_ret
      exact ⟨by rw [HX.out]; rfl, below_dr _ _ HK.out _⟩
    obtain ⟨rfl, rfl, rfl, rfl⟩ := hx
    have hq : (x1 == x1 && x2 == x2 && x3 == x3 && x4 == x4) = true := by simp
    rw [hq] at heq
    have HT2 := Lib.hid (HEQ.out ⟨rfl, rfl, rfl, rfl, rfl⟩)
    go_upto_region 6 with (fail)
    go_quiet (fail)
    have HK3 := Lib.hid (below_dr _ _ HK.out nq)
    go_wp2
    go_roundw
    case rel => first | exact ⟨k + 1, by omega, by go_num, HT2, HK3⟩ | exact ⟨_, _, _, _, _, _, _, _, _, _, _, ⟨k + 1, by omega, by go_num, HT2, HK3⟩, rfl⟩
    case measure => simp [intOf]; omega
  obtain rfl : k = l.length := by omega
  have HX := Lib.hid (HYES.out (take_eq_end E0.out HT.out))
  clear hlt HT
  go_wp2
  go_ret
  exact ⟨by rw [HX.out]; rfl, HK.out⟩

/-- Both boxes of the program's Same. -/
structure Sp (w wr : World) (g g2 : Nat) (us us2 : Array Value) : Prop where
  ob : Box wr g 39 us
  ob2 : Box wr g2 39 us2
  below : Below w.heap.size w wr
theorem Sp.up {w wr w' : World} {g g2 : Nat} {us us2 : Array Value} (h : Sp w wr g g2 us us2) (hb : Below wr.heap.size wr w') : Sp w w' g g2 us us2 := ⟨h.ob.below hb h.ob.lt, h.ob2.below hb h.ob2.lt, h.below.trans (hb.mono h.below.size)⟩
theorem Sp.new (w : World) (us us2 : Array Value) : Sp w ((w.alloc (.cells us 39)).alloc (.cells us2 39)) w.heap.size (w.heap.size + 1) us us2 :=
  ⟨(Box.new w _ _).alloc _, by have := Box.new (w.alloc (.cells us 39)) 39 us2; rwa [World.size_alloc] at this, (alloc_below w _).trans ((alloc_below _ _).mono (by rw [World.size_alloc]; omega))⟩
theorem ob_split (o p : Ob) : decide (o = p) = (decide (o.atoms = p.atoms) && decide (o.funs = p.funs) && decide (o.preds = p.preds) && decide (o.code = p.code)) := by
  rw [Bool.eq_iff_iff]
  simp only [decide_eq_true_eq, Bool.and_eq_true]
  constructor
  · rintro rfl
    exact ⟨⟨⟨rfl, rfl⟩, rfl⟩, rfl⟩
  · rintro ⟨⟨⟨h1, h2⟩, h3⟩, h4⟩
    cases o
    cases p
    simp only [Ob.mk.injEq]
    exact ⟨h1, h2, h3, h4⟩

set_option maxRecDepth 100000 in
set_option maxHeartbeats 8000000 in
theorem psame_any (o p : Ob) (ho : ObWf o) (va vf vp vc ua uf up uc : Value) (w : World) (hv : ObAt w va vf vp vc o) (hu : ObAt w ua uf up uc p) :
    Calls Tryz.prog 16 #[.agg #[va, vf, vp, vc], .agg #[ua, uf, up, uc]] w fun e w' => e = .returned (.bool (decide (o = p))) ∧ Below w.heap.size w w' := by
  have HS := Lib.hid (ob_split o p)
  generalize decide (o = p) = r at HS
  have HV := Lib.hid hv
  have HU := Lib.hid hu
  have K0 := Lib.hid (Sp.new w #[va, vf, vp, vc] #[ua, uf, up, uc])
  have H1 := Lib.hid (fun W (h : AtomsAt W va o.atoms) (h2 : AtomsAt W ua p.atoms) => equal_str o.atoms p.atoms ho.la va ua W h h2)
  have H2 := Lib.hid (fun W (h : FunsAt W vf o.funs) (h2 : FunsAt W uf p.funs) => equal_fun o.funs p.funs ho.lf vf uf W h h2)
  have H3 := Lib.hid (fun W (h : PredsAt W vp o.preds) (h2 : PredsAt W up p.preds) => equal_pred o.preds p.preds ho.lp vp up W h h2)
  have H4 := Lib.hid (fun W (h : CodeAt W vc o.code) (h2 : CodeAt W uc p.code) => equal_ins o.code p.code ho.lc vc uc W h h2)
  generalize decide (o.atoms = p.atoms) = b1 at HS H1
  generalize decide (o.funs = p.funs) = b2 at HS H2
  generalize decide (o.preds = p.preds) = b3 at HS H3
  generalize decide (o.code = p.code) = b4 at HS H4
  clear hv hu ho
  cases b1
  case false =>
    go_enter Tryz.func16, Tryz.ntmps16
    go_upto_region 1 with (fail)
    obtain ⟨w1, hw1⟩ : ∃ w1, (w.alloc (.cells #[va, vf, vp, vc] 39)).alloc (.cells #[ua, uf, up, uc] 39) = w1 := ⟨_, rfl⟩
    rw [hw1] at K0 ⊢
    obtain ⟨g, hg⟩ : ∃ g, w.heap.size = g := ⟨_, rfl⟩
    obtain ⟨g2, hg2⟩ : ∃ g2, w.heap.size + 1 = g2 := ⟨_, rfl⟩
    rw [hg2, hg] at K0
    rw [show ({ block := w.heap.size, off := 0 } : Addr) = { block := g, off := 0 } by rw [hg], show ({ block := w.heap.size + 1, off := 0 } : Addr) = { block := g2, off := 0 } by rw [hg2]]
    clear hw1 hg hg2
    have q0 := K0.out.ob.cell 0
    have p0 := K0.out.ob2.cell 0
    go_wp2_with (first | (go_at_call 39; refine (H1.out _ (HV.out.below K0.out.below).atoms (HU.out.below K0.out.below).atoms).mono ?_; rintro e w3 ⟨rfl, hb⟩; have K1 := Lib.hid (K0.out.up hb); clear hb; have q1 := K1.out.ob.cell 1; have p1 := K1.out.ob2.cell 1))
    go_ret
    exact ⟨by rw [HS.out]; rfl, K1.out.below⟩
  case true =>
  cases b2
  case false =>
    go_enter Tryz.func16, Tryz.ntmps16
    go_upto_region 1 with (fail)
    obtain ⟨w1, hw1⟩ : ∃ w1, (w.alloc (.cells #[va, vf, vp, vc] 39)).alloc (.cells #[ua, uf, up, uc] 39) = w1 := ⟨_, rfl⟩
    rw [hw1] at K0 ⊢
    obtain ⟨g, hg⟩ : ∃ g, w.heap.size = g := ⟨_, rfl⟩
    obtain ⟨g2, hg2⟩ : ∃ g2, w.heap.size + 1 = g2 := ⟨_, rfl⟩
    rw [hg2, hg] at K0
    rw [show ({ block := w.heap.size, off := 0 } : Addr) = { block := g, off := 0 } by rw [hg], show ({ block := w.heap.size + 1, off := 0 } : Addr) = { block := g2, off := 0 } by rw [hg2]]
    clear hw1 hg hg2
    have q0 := K0.out.ob.cell 0
    have p0 := K0.out.ob2.cell 0
    go_wp2_with (first | (go_at_call 40; refine (H2.out _ (HV.out.below K1.out.below).funs (HU.out.below K1.out.below).funs).mono ?_; rintro e w4 ⟨rfl, hb⟩; have K2 := Lib.hid (K1.out.up hb); clear hb; have q2 := K2.out.ob.cell 2; have p2 := K2.out.ob2.cell 2) | (go_at_call 39; refine (H1.out _ (HV.out.below K0.out.below).atoms (HU.out.below K0.out.below).atoms).mono ?_; rintro e w3 ⟨rfl, hb⟩; have K1 := Lib.hid (K0.out.up hb); clear hb; have q1 := K1.out.ob.cell 1; have p1 := K1.out.ob2.cell 1))
    go_ret
    exact ⟨by rw [HS.out]; rfl, K2.out.below⟩
  case true =>
  cases b3
  case false =>
    go_enter Tryz.func16, Tryz.ntmps16
    go_upto_region 1 with (fail)
    obtain ⟨w1, hw1⟩ : ∃ w1, (w.alloc (.cells #[va, vf, vp, vc] 39)).alloc (.cells #[ua, uf, up, uc] 39) = w1 := ⟨_, rfl⟩
    rw [hw1] at K0 ⊢
    obtain ⟨g, hg⟩ : ∃ g, w.heap.size = g := ⟨_, rfl⟩
    obtain ⟨g2, hg2⟩ : ∃ g2, w.heap.size + 1 = g2 := ⟨_, rfl⟩
    rw [hg2, hg] at K0
    rw [show ({ block := w.heap.size, off := 0 } : Addr) = { block := g, off := 0 } by rw [hg], show ({ block := w.heap.size + 1, off := 0 } : Addr) = { block := g2, off := 0 } by rw [hg2]]
    clear hw1 hg hg2
    have q0 := K0.out.ob.cell 0
    have p0 := K0.out.ob2.cell 0
    go_wp2_with (first | (go_at_call 41; refine (H3.out _ (HV.out.below K2.out.below).preds (HU.out.below K2.out.below).preds).mono ?_; rintro e w5 ⟨rfl, hb⟩; have K3 := Lib.hid (K2.out.up hb); clear hb; have q3 := K3.out.ob.cell 3; have p3 := K3.out.ob2.cell 3) | (go_at_call 40; refine (H2.out _ (HV.out.below K1.out.below).funs (HU.out.below K1.out.below).funs).mono ?_; rintro e w4 ⟨rfl, hb⟩; have K2 := Lib.hid (K1.out.up hb); clear hb; have q2 := K2.out.ob.cell 2; have p2 := K2.out.ob2.cell 2) | (go_at_call 39; refine (H1.out _ (HV.out.below K0.out.below).atoms (HU.out.below K0.out.below).atoms).mono ?_; rintro e w3 ⟨rfl, hb⟩; have K1 := Lib.hid (K0.out.up hb); clear hb; have q1 := K1.out.ob.cell 1; have p1 := K1.out.ob2.cell 1))
    go_ret
    exact ⟨by rw [HS.out]; rfl, K3.out.below⟩
  case true =>
  cases b4
  case false =>
    go_enter Tryz.func16, Tryz.ntmps16
    go_upto_region 1 with (fail)
    obtain ⟨w1, hw1⟩ : ∃ w1, (w.alloc (.cells #[va, vf, vp, vc] 39)).alloc (.cells #[ua, uf, up, uc] 39) = w1 := ⟨_, rfl⟩
    rw [hw1] at K0 ⊢
    obtain ⟨g, hg⟩ : ∃ g, w.heap.size = g := ⟨_, rfl⟩
    obtain ⟨g2, hg2⟩ : ∃ g2, w.heap.size + 1 = g2 := ⟨_, rfl⟩
    rw [hg2, hg] at K0
    rw [show ({ block := w.heap.size, off := 0 } : Addr) = { block := g, off := 0 } by rw [hg], show ({ block := w.heap.size + 1, off := 0 } : Addr) = { block := g2, off := 0 } by rw [hg2]]
    clear hw1 hg hg2
    have q0 := K0.out.ob.cell 0
    have p0 := K0.out.ob2.cell 0
    go_wp2_with (first | (go_at_call 42; refine (H4.out _ (HV.out.below K3.out.below).code (HU.out.below K3.out.below).code).mono ?_; rintro e w6 ⟨rfl, hb⟩; have K4 := Lib.hid (K3.out.up hb); clear hb) | (go_at_call 41; refine (H3.out _ (HV.out.below K2.out.below).preds (HU.out.below K2.out.below).preds).mono ?_; rintro e w5 ⟨rfl, hb⟩; have K3 := Lib.hid (K2.out.up hb); clear hb; have q3 := K3.out.ob.cell 3; have p3 := K3.out.ob2.cell 3) | (go_at_call 40; refine (H2.out _ (HV.out.below K1.out.below).funs (HU.out.below K1.out.below).funs).mono ?_; rintro e w4 ⟨rfl, hb⟩; have K2 := Lib.hid (K1.out.up hb); clear hb; have q2 := K2.out.ob.cell 2; have p2 := K2.out.ob2.cell 2) | (go_at_call 39; refine (H1.out _ (HV.out.below K0.out.below).atoms (HU.out.below K0.out.below).atoms).mono ?_; rintro e w3 ⟨rfl, hb⟩; have K1 := Lib.hid (K0.out.up hb); clear hb; have q1 := K1.out.ob.cell 1; have p1 := K1.out.ob2.cell 1))
    go_ret
    exact ⟨by rw [HS.out]; rfl, K4.out.below⟩
  case true =>
    go_enter Tryz.func16, Tryz.ntmps16
    go_upto_region 1 with (fail)
    obtain ⟨w1, hw1⟩ : ∃ w1, (w.alloc (.cells #[va, vf, vp, vc] 39)).alloc (.cells #[ua, uf, up, uc] 39) = w1 := ⟨_, rfl⟩
    rw [hw1] at K0 ⊢
    obtain ⟨g, hg⟩ : ∃ g, w.heap.size = g := ⟨_, rfl⟩
    obtain ⟨g2, hg2⟩ : ∃ g2, w.heap.size + 1 = g2 := ⟨_, rfl⟩
    rw [hg2, hg] at K0
    rw [show ({ block := w.heap.size, off := 0 } : Addr) = { block := g, off := 0 } by rw [hg], show ({ block := w.heap.size + 1, off := 0 } : Addr) = { block := g2, off := 0 } by rw [hg2]]
    clear hw1 hg hg2
    have q0 := K0.out.ob.cell 0
    have p0 := K0.out.ob2.cell 0
    go_wp2_with (first | (go_at_call 42; refine (H4.out _ (HV.out.below K3.out.below).code (HU.out.below K3.out.below).code).mono ?_; rintro e w6 ⟨rfl, hb⟩; have K4 := Lib.hid (K3.out.up hb); clear hb) | (go_at_call 41; refine (H3.out _ (HV.out.below K2.out.below).preds (HU.out.below K2.out.below).preds).mono ?_; rintro e w5 ⟨rfl, hb⟩; have K3 := Lib.hid (K2.out.up hb); clear hb; have q3 := K3.out.ob.cell 3; have p3 := K3.out.ob2.cell 3) | (go_at_call 40; refine (H2.out _ (HV.out.below K1.out.below).funs (HU.out.below K1.out.below).funs).mono ?_; rintro e w4 ⟨rfl, hb⟩; have K2 := Lib.hid (K1.out.up hb); clear hb; have q2 := K2.out.ob.cell 2; have p2 := K2.out.ob2.cell 2) | (go_at_call 39; refine (H1.out _ (HV.out.below K0.out.below).atoms (HU.out.below K0.out.below).atoms).mono ?_; rintro e w3 ⟨rfl, hb⟩; have K1 := Lib.hid (K0.out.up hb); clear hb; have q1 := K1.out.ob.cell 1; have p1 := K1.out.ob2.cell 1))
    go_ret
    exact ⟨by rw [HS.out]; rfl, K4.out.below⟩

end Go.Proofs.YtclkdlegogjnbaaGreatDoor
