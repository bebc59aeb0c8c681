/-
  The statement CodeMakes: in whatever world that holds what the calls read, of whatever Op and operands: true; new memory alone.
-/
import Derived.Test.YtgkldglknkeedaaDoorCodeJ
namespace Go.Proofs.YtgkldglknkeedaaDoor
open Go Go.RowKit Go.WideShapes Go.ChangeShapes
set_option linter.unusedVariables false

theorem eq_four (a b c d a' b' c' d' : Int) (w : World) : (Op.equalIn 9999 22 (.agg #[.int .i64 a, .int .i64 b, .int .i64 c, .int .i64 d]) (.agg #[.int .i64 a', .int .i64 b', .int .i64 c', .int .i64 d'])).run Tryd.prog w = .ok (a == a' && b == b' && c == c' && d == d') w := by
  have u3 := Tryd.underlying3
  have a3 : ∀ w, (isAgg 3).run Tryd.prog w = .ok false w := fun _ => by kernel_rfl
  have z3 : ∀ w, (sizeOf 3).run Tryd.prog w = .ok 1 w := fun _ => by kernel_rfl
  rw [show (9999 : Nat) = 9998 + 1 from rfl, Op.equalIn]
  simp only [Sem.run_bind, run_underlying Tryd.underlying22, Result.andThen_ok]
  simp only [Std.Legacy.Range.forIn_eq_forIn_range', Std.Legacy.Range.size, Nat.sub_zero, Nat.add_sub_cancel, Nat.div_one, List.range'_succ, List.range'_zero, List.forIn_cons, List.forIn_nil]
  go_simp
  by_cases h1 : a = a' <;> by_cases h2 : b = b' <;> by_cases h3 : c = c' <;> by_cases h4 : d = d' <;> simp [h1, h2, h3, h4]

/-- What the document's Make has laid after k operands. -/
def laidIns (op : Int) (l : List Int) (k : Nat) : Array Value :=
  #[.int .i64 op, .int .i64 (if 0 < k then l.getD 0 0 else 0), .int .i64 (if 1 < k then l.getD 1 0 else 0), .int .i64 (if 2 < k then l.getD 2 0 else 0), .int .i64 (if 3 < k then l.getD 3 0 else 0)]
theorem laidIns_set (op : Int) (l : List Int) (k : Nat) (h : k < 4) : (laidIns op l k).setIfInBounds (1 + k) (.int .i64 (l.getD k 0)) = laidIns op l (k + 1) := by
  match k, h with
  | 0, _ => rfl
  | 1, _ => rfl
  | 2, _ => rfl
  | 3, _ => rfl
theorem laidIns_end (op : Int) (l : List Int) (k : Nat) (h : k = 4 ∨ l.length ≤ k) : laidIns op l k = #[.int .i64 op, .int .i64 (l.getD 0 0), .int .i64 (l.getD 1 0), .int .i64 (l.getD 2 0), .int .i64 (l.getD 3 0)] := by
  have hz : ∀ j, ¬ j < k → j < 4 → l.getD j 0 = 0 := fun j hj hj4 => by
    rw [List.getD_eq_getElem?_getD, List.getElem?_eq_none (by omega)]; rfl
  have hi : ∀ j, j < 4 → (if j < k then l.getD j 0 else 0) = l.getD j 0 := fun j hj4 => by
    by_cases hj : j < k
    · rw [if_pos hj]
    · rw [if_neg hj, hz j hj hj4]
  unfold laidIns
  rw [hi 0 (by omega), hi 1 (by omega), hi 2 (by omega), hi 3 (by omega)]

set_option maxRecDepth 100000 in
set_option maxHeartbeats 2000000 in
theorem rmake_any (op : Int) (l : List Int) (v : Value) (hm : l.length ≤ 9223372036854775807) (w : World) (hv : IntsAt w v l) :
    Calls Tryd.prog 19 #[.int .i64 op, v] w fun e w' => e = .returned (insV op (l.getD 0 0) (l.getD 1 0) (l.getD 2 0) (l.getD 3 0)) ∧ Below w.heap.size w w' := by
  have hform : ∃ A c, v = .slice A l.length c ∧ ∀ k, k < l.length → ∃ b off, A = some ⟨b, off, none⟩ ∧ w.cell? ⟨b, off + k, none⟩ = some (.int .i64 (l.getD k 0)) := by
    rcases hv with ⟨rfl, A, c, rfl⟩ | ⟨b, off, c, rfl, hc⟩
    · exact ⟨A, c, rfl, fun k hk => absurd hk (by simp)⟩
    · exact ⟨_, c, rfl, fun k hk => ⟨b, off, rfl, hc k hk⟩⟩
  obtain ⟨A, c, rfl, hcell⟩ := hform
  have HC := Lib.hid hcell
  have hb2 := two_below w (.cells #[.int .i64 0, .int .i64 0, .int .i64 0, .int .i64 0, .int .i64 0] 24) (.cells #[.int .i64 op, .int .i64 0, .int .i64 0, .int .i64 0, .int .i64 0] 24)
  have hbx : Box ((w.alloc (.cells #[.int .i64 0, .int .i64 0, .int .i64 0, .int .i64 0, .int .i64 0] 24)).alloc (.cells #[.int .i64 op, .int .i64 0, .int .i64 0, .int .i64 0, .int .i64 0] 24)) (w.heap.size + 1) 24 (laidIns op l 0) := by
    have h := Box.new (w.alloc (.cells #[.int .i64 0, .int .i64 0, .int .i64 0, .int .i64 0, .int .i64 0] 24)) 24 #[.int .i64 op, .int .i64 0, .int .i64 0, .int .i64 0, .int .i64 0]
    rw [show (w.alloc (.cells #[.int .i64 0, .int .i64 0, .int .i64 0, .int .i64 0, .int .i64 0] 24)).heap.size = w.heap.size + 1 by simp] at h
    exact h
  have hrs : Box ((w.alloc (.cells #[.int .i64 0, .int .i64 0, .int .i64 0, .int .i64 0, .int .i64 0] 24)).alloc (.cells #[.int .i64 op, .int .i64 0, .int .i64 0, .int .i64 0, .int .i64 0] 24)) w.heap.size 24 #[.int .i64 0, .int .i64 0, .int .i64 0, .int .i64 0, .int .i64 0] := (Box.new w _ _).alloc _
  have HB2 := Lib.hid hb2
  have HBX := Lib.hid hbx
  have HRS := Lib.hid hrs
  clear hv hcell hb2 hbx hrs
  unfold insV
  go_enter Tryd.func19, Tryd.ntmps19
  go_wp2
  go_loopw [6] (fun i wr => ∃ k : Nat, k ≤ 4 ∧ k ≤ l.length ∧ i = .int .i64 k ∧ Box wr (w.heap.size + 1) 24 (laidIns op l k) ∧ Box wr w.heap.size 24 #[.int .i64 0, .int .i64 0, .int .i64 0, .int .i64 0, .int .i64 0] ∧ Below w.heap.size w wr) (fun i _ => 4 - (intOf i).toNat)
  case atStart => exact ⟨0, by omega, by omega, rfl, HBX.out, HRS.out, HB2.out⟩
  case round =>
    obtain ⟨k, hk4, hkl, rfl, hbx, hrs, hbl⟩ := hrel
    by_cases hlt : k < 4 ∧ k < l.length
    · obtain ⟨h1, h2⟩ := hlt
      obtain ⟨b, off, hA, hc⟩ := HC.out k h2
      subst hA
      have hcw := (hbl.cell (p := ⟨b, off + k, none⟩) (World.block_lt_of_cell? w _ hc)).trans hc
      have hset : Box (wr.setCell ⟨w.heap.size + 1, 1 + k, none⟩ (.int .i64 (l.getD k 0))) (w.heap.size + 1) 24 (laidIns op l (k + 1)) := by
        rw [← laidIns_set op l k h1]
        exact hbx.set_ (1 + k) _
      have hz : ∃ z, wr.cell? ⟨w.heap.size + 1, 1 + k, none⟩ = some z := by
        rw [hbx.cell (1 + k)]
        match k, h1 with
        | 0, _ => exact ⟨_, rfl⟩
        | 1, _ => exact ⟨_, rfl⟩
        | 2, _ => exact ⟨_, rfl⟩
        | 3, _ => exact ⟨_, rfl⟩
      obtain ⟨z, hz⟩ := hz
      have hf := hbx.frozen (1 + k)
      generalize l.getD k 0 = x at hcw hset
      have HSET := Lib.hid hset
      have HRS2 := Lib.hid hrs
      have HBL := Lib.hid hbl
      clear hset hrs hbl hbx hc HBX HRS HB2
      go_wp2
      go_roundw
      case rel => exact ⟨k + 1, by omega, by omega, by go_num, HSET.out, HRS2.out.far (p := ⟨w.heap.size + 1, 1 + k, none⟩) (by simp) _, HBL.out.setCell (p := ⟨w.heap.size + 1, 1 + k, none⟩) (by simp) _⟩
      case measure => simp [intOf]; omega
    · rw [laidIns_end op l k (by omega)] at hbx
      have c0 := hbx.cell 0
      have c1 := hbx.cell 1
      have c2 := hbx.cell 2
      have c3 := hbx.cell 3
      have c4 := hbx.cell 4
      have z0 := hrs.cell 0
      have z1 := hrs.cell 1
      have z2 := hrs.cell 2
      have z3 := hrs.cell 3
      have z4 := hrs.cell 4
      have y0 := hrs.frozen 0
      have y1 := hrs.frozen 1
      have y2 := hrs.frozen 2
      have y3 := hrs.frozen 3
      have y4 := hrs.frozen 4
      have HRS2 := Lib.hid hrs
      have HBL := Lib.hid hbl
      clear hbx hrs hbl HBX HRS HB2
      by_cases h4 : k < 4
      · have h2 : (l.length : Int) ≤ (k : Int) := by omega
        clear hlt
        go_wp2
        refine ret_store5' HRS2.out (fun W h0 h1 h2 h3 h4 => by simp [results, Tryd.results19, go_sem, h0, h1, h2, h3, h4]) (fun W hb hf => ⟨rfl, HBL.out.trans hf⟩)
      · obtain rfl : k = 4 := by omega
        clear hlt
        go_wp2
        refine ret_store5' HRS2.out (fun W h0 h1 h2 h3 h4 => by simp [results, Tryd.results19, go_sem, h0, h1, h2, h3, h4]) (fun W hb hf => ⟨rfl, HBL.out.trans hf⟩)

set_option maxRecDepth 100000 in
set_option maxHeartbeats 2000000 in
theorem makes_any (op : Int) (l : List Int) (v : Value) (hm : l.length ≤ 9223372036854775807) (w : World) (hv : IntsAt w v l) {B : Nat} (hp : LaidC B w) :
    Calls Tryd.prog 4 #[.int .i64 op, v] w fun e w' => e = .returned (.bool true) ∧ Below w.heap.size w w' := by
  have hmake := make_any op l v w hv
  have hrm := fun (w' : World) (hv : IntsAt w' v l) => rmake_any op l v hm w' hv
  generalize l.getD 0 0 = a at hmake hrm
  generalize l.getD 1 0 = b at hmake hrm
  generalize l.getD 2 0 = c at hmake hrm
  generalize l.getD 3 0 = d at hmake hrm
  have hfr := fun w' => from_any op a b c d w'
  unfold insV at hmake hrm hfr
  have HMAKE := Lib.hid hmake
  have HRM := Lib.hid hrm
  have HFR := Lib.hid hfr
  have HV := Lib.hid hv
  have HP := Lib.hid hp
  clear hmake hrm hfr hv hp hm
  go_enter Tryd.func4, Tryd.ntmps4
  go_wp2_with fail
  refine HMAKE.out.mono ?_
  rintro e w1 ⟨rfl, hb1⟩
  have hB2 := hb1.trans (Below.mono (alloc_below w1 (.cells #[.int .i64 op, .int .i64 a, .int .i64 b, .int .i64 c, .int .i64 d] 27)) hb1.size)
  have hbx := Box.new w1 27 #[.int .i64 op, .int .i64 a, .int .i64 b, .int .i64 c, .int .i64 d]
  have HB2 := Lib.hid hB2
  have HBX := Lib.hid hbx
  clear hb1 hB2 hbx
  go_wp2_with fail
  refine (told_any _ (HP.out.up HB2.out)).mono ?_
  rintro e w2 ⟨rfl, hb2⟩
  have hbx2 := HBX.out.below hb2 HBX.out.lt
  have hB3 := HB2.out.trans (hb2.mono HB2.out.size)
  have c0 := hbx2.cell 0
  have c1 := hbx2.cell 1
  have c2 := hbx2.cell 2
  have c3 := hbx2.cell 3
  have c4 := hbx2.cell 4
  have HB3 := Lib.hid hB3
  clear hb2 hbx2 hB3
  go_wp2_with fail
  refine (HFR.out _).mono ?_
  rintro e w3 ⟨rfl, hb3⟩
  have hB4 := HB3.out.trans (hb3.mono HB3.out.size)
  have HB4 := Lib.hid hB4
  clear hb3 hB4 c0 c1 c2 c3 c4
  go_wp2_with fail
  refine (HRM.out _ (HV.out.below HB4.out)).mono ?_
  rintro e w4 ⟨rfl, hb4⟩
  have HB5 := Lib.hid (HB4.out.trans (hb4.mono HB4.out.size))
  clear hb4
  have heq := eq_four a b c d a b c d
  simp only [beq_self_eq_true, Bool.and_self] at heq
  go_wp2_with fail
  go_ret
  exact ⟨by simp, HB5.out⟩

end Go.Proofs.YtgkldglknkeedaaDoor
