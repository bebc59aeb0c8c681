/-
  Layer 9's law: Strings, few; AsmLines, of whatever takePred that keeps its word. Conditions: names of at most maxLen bytes, as an object reads.
-/
import Derived.Test.YtfgnapfodnhppaaGreatDoorJ43
import Derived.Test.YtfgnapfodnhppaaGreatDoorJ19
namespace Go.Proofs.YtfgnapfodnhppaaGreatDoor
open Go Go.RowKit Go.WideShapes Go.ChangeShapes
set_option linter.unusedVariables false
set_option linter.unusedSimpArgs false

theorem strC_at {us : List (List UInt8)} {k : Nat} (h : k < us.length) : (strC us)[k]? = some (.string (bs us[k])) := by
  unfold strC
  rw [List.getElem?_map, List.getElem?_eq_getElem h]
  rfl
theorem lineCell {w : World} {A : Option Addr} {n c : Nat} {us : List (List UInt8)} (h : CellsAt w (.slice A n c) us.length (strC us)) (k : Nat) (hk : k < us.length) : ∃ b off, A = some ⟨b, off, none⟩ ∧ w.cell? ⟨b, off + k, none⟩ = some (.string (bs us[k])) := by
  obtain ⟨_, b, off, hA, hl, hc⟩ := h.at_ (by omega)
  exact ⟨b, off, hA, hc k _ (strC_at hk)⟩

set_option maxHeartbeats 4000000 in
theorem strings_any (us : List (List UInt8)) (hm : us.length ≤ 1000000) (v1 v2 : Value) (w : World) (h1 : CellsAt w v1 us.length (strC us)) (h2 : CellsAt w v2 us.length (strC us)) :
    Calls Tryz.prog 13 #[v1, v2] w fun e w' => e = .returned (.bool true) ∧ Below w.heap.size w w' := by
  obtain ⟨A1, c1, rfl⟩ := h1.form
  obtain ⟨A2, c2, rfl⟩ := h2.form
  have H1 := Lib.hid h1
  have H2 := Lib.hid h2
  clear h1 h2
  go_enter Tryz.func13, Tryz.ntmps13
  go_wp2
  go_loopw [4, 5] (fun _ i wr => ∃ k : Nat, k ≤ us.length ∧ i = .int .i64 k ∧ ∃ m, wr = w.drewN m) (fun _ i _ => us.length - (intOf i).toNat)
  case atStart => exact ⟨0, by omega, rfl, 0, rfl⟩
  obtain ⟨k, hk, rfl, mm, rfl⟩ := hrel
  by_cases hlt : k < us.length
  · obtain ⟨b, off, rfl, d0⟩ := lineCell H1.out k hlt
    obtain ⟨b2, off2, rfl, d1⟩ := lineCell H2.out k hlt
    generalize bs us[k] = x at d0 d1
    have e1 : (x.toList != x.toList) = false := by simp
    have e2 : (x.toList = x.toList) = True := by simp
    go_upto_region 6 with (fail)
    go_quiet (fail)
    go_wp2
    go_roundw
    case rel => exact ⟨k + 1, by omega, by go_num, _, rfl⟩
    case measure => simp [intOf]; omega
  · obtain rfl : k = us.length := by omega
    go_wp2
    go_ret
    exact ⟨rfl, bel_drewN (Below.refl _ _) _⟩

def fewB (l : List ByteArray) : Bool := decide (l.length ≤ 200) && l.all fun s => decide (s.size ≤ 200)
theorem few_take (l : List ByteArray) (k : Nat) (h : k < l.length) : (l.take (k + 1)).all (fun s => decide (s.size ≤ 200)) = ((l.take k).all (fun s => decide (s.size ≤ 200)) && decide (l[k].size ≤ 200)) := by
  rw [List.take_succ_eq_append_getElem h, List.all_append]
  simp
theorem few_not (l : List ByteArray) (k : Nat) (h : k < l.length) (hb : ¬ l[k].size ≤ 200) : fewB l = false := by
  have : l.all (fun s => decide (s.size ≤ 200)) = false := by
    rw [List.all_eq_false]
    exact ⟨l[k], List.getElem_mem h, by simpa using hb⟩
  unfold fewB
  rw [this, Bool.and_false]

set_option maxHeartbeats 4000000 in
theorem few9_any (l : List ByteArray) (hm : l.length ≤ 9223372036854775807) (v : Value) (w : World) (hv : AtomsAt w v l) :
    Calls Tryz.prog 6 #[v] w fun e w' => e = .returned (.bool (fewB l)) ∧ w = w' := by
  obtain ⟨A, c, rfl⟩ := hv.form
  have HV := Lib.hid hv
  clear hv
  obtain ⟨r, hr⟩ : ∃ r, fewB l = r := ⟨_, rfl⟩
  have HN := Lib.hid (fun k h hb => few_not l k h hb)
  have HT := Lib.hid (fun k h => few_take l k h)
  have HR : Hid (fewB l = (decide (l.length ≤ 200) && l.all fun s => decide (s.size ≤ 200))) := Lib.hid rfl
  rw [hr] at HR HN ⊢
  clear hr
  go_enter Tryz.func6, Tryz.ntmps6
  go_wp2
  go_loop [2, 3] (fun _ i => ∃ k : Nat, k ≤ l.length ∧ i = .int .i64 k ∧ Hid ((l.take k).all (fun s => decide (s.size ≤ 200)) = true)) (fun _ i => l.length - (intOf i).toNat)
  case atStart => exact ⟨0, by omega, rfl, by simp [Hid]⟩
  case round =>
    obtain ⟨k, hk, rfl, HA⟩ := hrel
    by_cases hlt : k < l.length
    · obtain ⟨b, off, rfl, hb, hc⟩ := atomCell HV.out k hlt
      have HNK := Lib.hid (fun h => HN.out k hlt h)
      have HTK := Lib.hid (HT.out k hlt)
      generalize l[k] = s at *
      by_cases hs : s.size ≤ 200
      · have HA2 : Hid ((l.take (k + 1)).all (fun s => decide (s.size ≤ 200)) = true) := Lib.hid (by rw [HTK.out, HA.out, Bool.true_and]; exact decide_eq_true hs)
        have e1 : ¬ (200 : Int) < (s.size : Int) := by omega
        go_wp2
        go_round
        case rel => exact ⟨k + 1, by omega, by go_num, HA2⟩
        case measure => simp [intOf]; omega
      · have HX := Lib.hid (HNK.out hs)
        have e1 : (200 : Int) < (s.size : Int) := by omega
        go_wp2
        go_ret
        exact ⟨by rw [HX.out] <;> rfl, rfl⟩
    · obtain rfl : k = l.length := by omega
      have HA2 : Hid (l.all (fun s => decide (s.size ≤ 200)) = true) := Lib.hid (by have := HA.out; rw [List.take_length] at this; exact this)
      by_cases h2 : l.length ≤ 200
      · have HX : Hid (r = true) := Lib.hid (by rw [HR.out, HA2.out, decide_eq_true h2]; rfl)
        have e1 : (l.length : Int) ≤ 200 := by omega
        go_wp2
        go_ret
        exact ⟨by rw [HX.out] <;> rfl, rfl⟩
      · have HX : Hid (r = false) := Lib.hid (by rw [HR.out, decide_eq_false h2]; rfl)
        have e1 : ¬ (l.length : Int) ≤ 200 := by omega
        go_wp2
        go_ret
        exact ⟨by rw [HX.out] <;> rfl, rfl⟩

theorem linesTo_len (o : Ob) (k : Nat) : (linesTo o k).length ≤ k * (o.preds.length + 2) := by
  induction k with
  | zero => simp [linesTo]
  | succ k ih =>
    rw [linesTo_succ, List.length_append, Nat.succ_mul]
    have h1 : (placeLns o k).length ≤ o.preds.length + 2 := by
      unfold placeLns predLns labLn
      have h2 := List.length_filter_le (fun p : ByteArray × Int × Int => p.2.2 == (k : Int)) (o.preds.take o.preds.length)
      rw [List.take_length] at h2
      rw [List.length_append, List.length_append, List.length_map, List.length_singleton, List.take_length]
      split
      · rw [List.length_singleton]; omega
      · rw [List.length_nil]; omega
    omega
theorem linesOf_len (o : Ob) (h : o.code.length ≤ 2000) (h2 : o.preds.length ≤ 200) : (linesOf o).length ≤ 1000000 := by
  unfold linesOf
  split
  · simp
  · have h1 := linesTo_len o o.code.length
    have h3 : o.code.length * (o.preds.length + 2) ≤ 2000 * 202 := Nat.mul_le_mul h (by omega)
    omega

set_option maxRecDepth 100000 in
set_option maxHeartbeats 16000000 in
theorem asmLines_any (HPK : PredKeeps) (o : Ob) (hs1 : ∀ s ∈ o.atoms, s.size ≤ maxLen) (hs2 : ∀ f ∈ o.funs, f.1.size ≤ maxLen) (hs3 : ∀ p ∈ o.preds, p.1.size ≤ maxLen) (hlen : o.atoms.length ≤ 9223372036854775807 ∧ o.funs.length ≤ 9223372036854775807 ∧ o.preds.length ≤ 9223372036854775807 ∧ o.code.length ≤ 9223372036854775807) (va vf vp vc : Value) (w : World) {B : Nat} (hp : LaidC B w) (hv : ObAt w va vf vp vc o) (hnil : ∀ k c, va = .slice none k c → c = 0) :
    Calls Tryz.prog 4 #[.agg #[va, vf, vp, vc]] w fun e w' => e = .returned (.bool true) ∧ Below w.heap.size w w' := by
  have HTO := Lib.hid (fun w hp => told9_any HPK (B := B) w hp)
  obtain ⟨A1, c1, rfl⟩ := hv.atoms.form
  obtain ⟨A2, c2, rfl⟩ := hv.funs.form
  obtain ⟨A3, c3, rfl⟩ := hv.preds.form
  obtain ⟨A4, c4, rfl⟩ := hv.code.form
  have hb1 := alloc_below w (.cells #[.slice A1 o.atoms.length c1, .slice A2 o.funs.length c2, .slice A3 o.preds.length c3, .slice A4 o.code.length c4] 39)
  have HB1 := Lib.hid hb1
  have HX1 := Lib.hid (Box.new w 39 #[.slice A1 o.atoms.length c1, .slice A2 o.funs.length c2, .slice A3 o.preds.length c3, .slice A4 o.code.length c4])
  have HP := Lib.hid hp
  have HV := Lib.hid hv
  obtain ⟨w1, hw1⟩ : ∃ w1, w.alloc (.cells #[.slice A1 o.atoms.length c1, .slice A2 o.funs.length c2, .slice A3 o.preds.length c3, .slice A4 o.code.length c4] 39) = w1 := ⟨_, rfl⟩
  obtain ⟨go, hgo⟩ : ∃ go, w.heap.size = go := ⟨_, rfl⟩
  rw [hw1] at HB1 HX1 hb1
  rw [hgo] at HX1
  have q0 := HX1.out.cell 0
  have q1 := HX1.out.cell 1
  have q2 := HX1.out.cell 2
  have q3 := HX1.out.cell 3
  by_cases hbig : 60 < o.code.length ∨ 70 < o.preds.length ∨ 300 < o.atoms.length ∨ 300 < o.funs.length
  · have HP1 := Lib.hid (HP.out.up hb1)
    clear hb1 hv hs1 hs2 hs3 hp
    by_cases b1 : 60 < o.code.length
    · have e1 : (60 : Int) < (o.code.length : Int) := by omega
      go_enter Tryz.func4, Tryz.ntmps4
      go_wp2_with (go_at_call 7; refine (HTO.out _ HP1.out).mono ?_; rintro e w2 ⟨rfl, hb2⟩; have HB2 := Lib.hid (HB1.out.trans (hb2.mono HB1.out.size)); clear hb2)
      go_ret
      exact ⟨rfl, HB2.out⟩
    · have e1 : ¬ (60 : Int) < (o.code.length : Int) := by omega
      by_cases b2 : 70 < o.preds.length
      · have e2 : (70 : Int) < (o.preds.length : Int) := by omega
        go_enter Tryz.func4, Tryz.ntmps4
        go_wp2_with (go_at_call 7; refine (HTO.out _ HP1.out).mono ?_; rintro e w2 ⟨rfl, hb2⟩; have HB2 := Lib.hid (HB1.out.trans (hb2.mono HB1.out.size)); clear hb2)
        go_ret
        exact ⟨rfl, HB2.out⟩
      · have e2 : ¬ (70 : Int) < (o.preds.length : Int) := by omega
        by_cases b3 : 300 < o.atoms.length
        · have e3 : (300 : Int) < (o.atoms.length : Int) := by omega
          go_enter Tryz.func4, Tryz.ntmps4
          go_wp2_with (go_at_call 7; refine (HTO.out _ HP1.out).mono ?_; rintro e w2 ⟨rfl, hb2⟩; have HB2 := Lib.hid (HB1.out.trans (hb2.mono HB1.out.size)); clear hb2)
          go_ret
          exact ⟨rfl, HB2.out⟩
        · have e3 : ¬ (300 : Int) < (o.atoms.length : Int) := by omega
          have e4 : (300 : Int) < (o.funs.length : Int) := by omega
          go_enter Tryz.func4, Tryz.ntmps4
          go_wp2_with (go_at_call 7; refine (HTO.out _ HP1.out).mono ?_; rintro e w2 ⟨rfl, hb2⟩; have HB2 := Lib.hid (HB1.out.trans (hb2.mono HB1.out.size)); clear hb2)
          go_ret
          exact ⟨rfl, HB2.out⟩
  · have e1 : ¬ (60 : Int) < (o.code.length : Int) := by omega
    have e2 : ¬ (70 : Int) < (o.preds.length : Int) := by omega
    have e3 : ¬ (300 : Int) < (o.atoms.length : Int) := by omega
    have e4 : ¬ (300 : Int) < (o.funs.length : Int) := by omega
    have ho : ObWf o := ⟨hs1, hs2, hs3, by omega, by omega, by omega, by omega⟩
    have HTO2 := Lib.hid (fun w hv => toOb_any o ho (.slice A1 o.atoms.length c1) (.slice A2 o.funs.length c2) (.slice A3 o.preds.length c3) (.slice A4 o.code.length c4) w hv hnil)
    have HLI := Lib.hid (fun va vf vp vc w hp hv => lines_any o ho va vf vp vc w (B := B) hp hv)
    have HRL := Lib.hid (fun va vf vp vc w hv => rlines_any o ho va vf vp vc w hv)
    have hus : (linesOf o).length ≤ 1000000 := linesOf_len o (by omega) (by omega)
    have HST := Lib.hid (fun v1 v2 w h1 h2 => strings_any (linesOf o) hus v1 v2 w h1 h2)
    unfold LinesW at HLI HRL
    generalize linesOf o = us at *
    have HTD := Lib.hid (fun n => HTO.out (w1.drewN n) ((HP.out.up hb1).drewN n))
    clear hb1 hv hs1 hs2 hs3 hp hus hnil
    go_enter Tryz.func4, Tryz.ntmps4
    go_upto_region 3 with (fail)
    go_region_law (first
      | (go_simp; go_at_call 13; refine (HST.out _ _ _ HC5.out HC6.out).mono ?_; rintro e w7 ⟨rfl, hb7⟩; have HB7 := Lib.hid (HB6.out.trans (hb7.mono HB6.out.size)); clear hb7)
      | (go_simp; go_at_call 16; refine (HRL.out _ _ _ _ _ (HV.out.below HB5.out)).mono ?_; rintro e w6 ⟨v6, rfl, hrow6, hb6⟩; have HC5 := Lib.hid ((CellsAt.of_own HR5.out (by decide)).below hb6); have HC6 := Lib.hid (CellsAt.of_own hrow6 (by decide)); have HB6 := Lib.hid (HB5.out.trans (hb6.mono HB5.out.size)); clear hb6 hrow6)
      | (go_simp; go_at_call 14; refine (HLI.out _ _ _ _ _ (HP.out.up HB4.out) HO4.out).mono ?_; rintro e w5 ⟨v5, rfl, hrow5, hb5⟩; have HR5 := Lib.hid hrow5; have HB5 := Lib.hid (HB4.out.trans (hb5.mono HB4.out.size)); have HX5 := Lib.hid (HX4.out.below hb5 HX4.out.lt); have x0 := HX5.out.cell 0; have x1 := HX5.out.cell 1; have x2 := HX5.out.cell 2; have x3 := HX5.out.cell 3; clear hb5 hrow5)
      | (go_simp; go_at_call 15; refine (HTO2.out _ (HV.out.below HB3.out)).mono ?_; rintro e w4 ⟨ua, uf, up, uc, rfl, ho4, hb4, _⟩; have HO4 := Lib.hid ho4; have HB4 := Lib.hid (HB3.out.trans (hb4.mono HB3.out.size)); have HX4 := Lib.hid (HX3.out.below hb4 HX3.out.lt); have y0 := HX4.out.cell 0; have y1 := HX4.out.cell 1; have y2 := HX4.out.cell 2; have y3 := HX4.out.cell 3; clear ho4 hb4)
      | (go_simp; go_at_call 7; refine (HTD.out _).mono ?_; rintro e w3 ⟨rfl, hb3⟩; have HB3 := Lib.hid (HB1.out.trans ((show Below w1.heap.size w1 w3 from ⟨hb3.os, hb3.tape, hb3.output, hb3.size, hb3.block⟩).mono HB1.out.size)); have HX3 := Lib.hid (HX1.out.below (show Below w1.heap.size w1 w3 from ⟨hb3.os, hb3.tape, hb3.output, hb3.size, hb3.block⟩) HX1.out.lt); have z0 := HX3.out.cell 0; have z1 := HX3.out.cell 1; have z2 := HX3.out.cell 2; have z3 := HX3.out.cell 3; clear hb3))
    all_goals
      go_wp2
      go_ret
      exact ⟨rfl, by rw [← hgo]; exact HB7.out⟩

end Go.Proofs.YtfgnapfodnhppaaGreatDoor
