/-
  2 texts in one (CodeN CodeP). Conditions: those of each theorem.
-/
import Derived.Test.YtclkdlegogjnbaaGreatDoorR07
import Derived.Deep.RegionHeld3
import Derived.Test.YtclkdlegogjnbaaGreatDoorR02
import Derived.IntWalk
import Derived.Deep.QuietTactic
import Derived.BigQuiet
import Derived.Lib.ItoaLen
import Derived.Laws.Concat
import Derived.Test.YtclkdlegogjnbaaGreatDoorR06
namespace Go.Proofs.YtclkdlegogjnbaaGreatDoor
open Go Go.RowKit Go.WideShapes Go.ChangeShapes
set_option linter.unusedVariables false
theorem three_up {w0 w' : World} {g gk k j : Nat} {x y z : Value} (h : Below w0.heap.size w0 w') (hg : g < w0.heap.size) (hk : gk < w0.heap.size)
  (h0 : w0.cell? ⟨g, 0, none⟩ = some x ∧ w0.cell? ⟨gk, k, none⟩ = some y ∧ w0.cell? ⟨g, j, none⟩ = some z) :
  w'.cell? ⟨g, 0, none⟩ = some x ∧ w'.cell? ⟨gk, k, none⟩ = some y ∧ w'.cell? ⟨g, j, none⟩ = some z :=
 ⟨(h.cell (p := ⟨g, 0, none⟩) hg).trans h0.1, (h.cell (p := ⟨gk, k, none⟩) hk).trans h0.2.1, (h.cell (p := ⟨g, j, none⟩) hg).trans h0.2.2⟩
theorem bel_dr (w0 : World) (n : Nat) {w6 : World} (h : Below (w0.drewN n).heap.size (w0.drewN n) w6) : Below w0.heap.size w0 w6 := below_from_drewN (m := n) h
set_option maxRecDepth 100000 in
set_option maxHeartbeats 20000000 in
theorem rright_none (op a b c d : Int) (h : 0 ≤ op ∧ op ≤ 26) (ho : opsOf op = []) (w : World) :
  Calls Tryz.prog 59 #[insV op a b c d] w fun e w' => e = .returned (.bool (rightB op [a, b, c, d])) ∧ Below w.heap.size w w' := by
 have HALL := Lib.hid (right_all op a b c d h)
 have HNOT := Lib.hid (right_not op a b c d)
 have HKND := Lib.hid (ops_kind op)
 have hbx : RBox w.heap.size op a b c d w (w.alloc (.cells #[.int .i64 op, .int .i64 a, .int .i64 b, .int .i64 c, .int .i64 d] 51)) := ⟨Box.new w _ _, alloc_below w _⟩
 have HBX := Lib.hid hbx
 have h0 : 0 ≤ op := h.1
 have h26 : op ≤ 26 := h.2
 clear h hbx
 have HO := Lib.hid (fun w => roperands_none op ho w)
 have HLEN : Hid ((opsOf op).length = 0) := Lib.hid (by rw [ho]; rfl)
 clear ho
 unfold insV
 go_enter Tryz.func59, Tryz.ntmps59
 go_wp2_with fail
 refine (HO.out _).mono ?_
 rintro e w3 ⟨rfl, hw3⟩
 rw [hw3] at HBX
 have HB3 := HBX
 clear hw3
 go_wp2
 go_loopw [4] (fun i wr => ∃ k : Nat, k ≤ 4 ∧ i = .int .i64 k ∧ RBox w.heap.size op a b c d w wr ∧ Below w3.heap.size w3 wr ∧ ∀ j, j < k → mayB op ((opsOf op).getD j 0) ([a, b, c, d].getD j 0) = true) (fun i _ => 4 - (intOf i).toNat)
 case atStart => exact ⟨0, by omega, rfl, HB3.out, Below.refl _ _, fun j hj => absurd hj (by omega)⟩
 case round =>
  obtain ⟨k, hk, rfl, hbx, hbl, hall⟩ := hrel
  have HA := Lib.hid hall
  have HBX2 := Lib.hid hbx
  have HBL := Lib.hid hbl
  clear hall hbx hbl
  by_cases hlt : k < 4
  ·have hac := HBX2.out.cell k hlt
   have hc0 : wr.cell? ⟨w.heap.size, 0, none⟩ = some (.int .i64 op) := HBX2.out.ins.cell 0
   have HN2 := Lib.hid (HNOT.out k hlt)
   have d1 : decide ((k : Int) < (0 : Int)) = false := by rw [decide_eq_false_iff_not]; omega
   have d2 : decide ((0 : Int) ≤ (k : Int)) = true := by rw [decide_eq_true_eq]; omega
   have d6 : decide (0 ≤ k) = true := by rw [decide_eq_true_eq]; omega
   have d7 : decide (k < 0) = false := by rw [decide_eq_false_iff_not]; omega
   have hmz := may_zero op ([a, b, c, d].getD k 0) k hlt (by rw [HLEN.out]; omega)
   obtain ⟨x, hx⟩ : ∃ x, [a, b, c, d].getD k 0 = x := ⟨_, rfl⟩
   rw [hx] at hmz hac HN2
   have HX := Lib.hid hx
   have HMZ := Lib.hid hmz
   clear hx hmz
   by_cases hx0 : x = 0
   ·have HMT : Hid (mayB op ((opsOf op).getD k 0) x = true) := Lib.hid (by rw [HMZ.out]; simpa using hx0)
    subst hx0
    go_wp2
    go_quiet (fail)
    go_wp2
    go_roundw
    case rel => exact ⟨k + 1, by omega, by go_num, HBX2.out.drewN _, bel_drewN HBL.out _, fun j hj => by
     by_cases e : j = k
     ·subst e
      rw [HX.out]
      exact HMT.out
     ·exact HA.out j (by omega)⟩
    case measure => simp [intOf]; omega
   ·have hxn : (x != 0) = true := by simpa using hx0
    have HMF : Hid (rightB op [a, b, c, d] = false) := Lib.hid (HN2.out (by rw [HMZ.out]; simpa using hx0))
    clear hx0
    go_wp2
    go_quiet (fail)
    go_wp2
    go_ret
    exact ⟨ret_b HMF.out.symm, bel_drewN HBX2.out.below _⟩
  ·obtain rfl : k = 4 := by omega
   have hr := HALL.out HA.out
   have HR := Lib.hid hr
   clear hr
   go_wp2
   go_ret
   exact ⟨ret_b HR.out.symm, HBX2.out.below⟩
set_option maxRecDepth 100000 in
set_option maxHeartbeats 20000000 in
theorem rright_some (op a b c d : Int) (h : 0 ≤ op ∧ op ≤ 26) (n : Nat) (hn : (opsOf op).length = n) (hn0 : 0 < n) (w : World) :
  Calls Tryz.prog 59 #[insV op a b c d] w fun e w' => e = .returned (.bool (rightB op [a, b, c, d])) ∧ Below w.heap.size w w' := by
 have HALL := Lib.hid (right_all op a b c d h)
 have HNOT := Lib.hid (right_not op a b c d)
 have HKND := Lib.hid (ops_kind op)
 have hbx : RBox w.heap.size op a b c d w (w.alloc (.cells #[.int .i64 op, .int .i64 a, .int .i64 b, .int .i64 c, .int .i64 d] 51)) := ⟨Box.new w _ _, alloc_below w _⟩
 have HBX := Lib.hid hbx
 have h0 : 0 ≤ op := h.1
 have h26 : op ≤ 26 := h.2
 clear h hbx
 have HO := Lib.hid (fun w => roperands_some op n hn hn0 w)
 have HLEN := Lib.hid hn
 have hn4 : n ≤ 4 := by have := ops_few op; omega
 have HRM := Lib.hid (fun kind n h0 h1 h8 w => rmay_any op kind n h0 h1 h8 w)
 clear hn hn0
 unfold insV
 go_enter Tryz.func59, Tryz.ntmps59
 go_wp2_with fail
 refine (HO.out _).mono ?_
 rintro e w3 ⟨rfl, hw3⟩
 have hkc : ∀ k, k < n → w3.cell? ⟨w.heap.size + 1, k, none⟩ = some (.int .i64 ((opsOf op).getD k 0)) := fun k hk => by
  have hb := Box.new (w.alloc (.cells #[.int .i64 op, .int .i64 a, .int .i64 b, .int .i64 c, .int .i64 d] 51)) 3 ((opsOf op).map (Value.int .i64)).toArray
  rw [hw3, show (w.alloc (.cells #[.int .i64 op, .int .i64 a, .int .i64 b, .int .i64 c, .int .i64 d] 51)).heap.size = w.heap.size + 1 by simp] at hb
  rw [hb.cell k]
  have hk' : k < (opsOf op).length := by rw [HLEN.out]; exact hk
  simp [List.getD_eq_getElem?_getD, hk']
 have hsz : w.heap.size + 1 < w3.heap.size := by rw [← hw3]; simp
 have hb3 : RBox w.heap.size op a b c d w w3 := by rw [← hw3]; exact HBX.out.up (alloc_below _ _)
 have HB3 := Lib.hid hb3
 have HKC := Lib.hid hkc
 have HSZ := Lib.hid hsz
 rw [show (w.alloc (.cells #[.int .i64 op, .int .i64 a, .int .i64 b, .int .i64 c, .int .i64 d] 51)).heap.size = w.heap.size + 1 by simp]
 clear hw3 hkc hsz hb3
 go_wp2
 go_loopw [4] (fun i wr => ∃ k : Nat, k ≤ 4 ∧ i = .int .i64 k ∧ RBox w.heap.size op a b c d w wr ∧ Below w3.heap.size w3 wr ∧ ∀ j, j < k → mayB op ((opsOf op).getD j 0) ([a, b, c, d].getD j 0) = true) (fun i _ => 4 - (intOf i).toNat)
 case atStart => exact ⟨0, by omega, rfl, HB3.out, Below.refl _ _, fun j hj => absurd hj (by omega)⟩
 case round =>
  obtain ⟨k, hk, rfl, hbx, hbl, hall⟩ := hrel
  have HA := Lib.hid hall
  have HBX2 := Lib.hid hbx
  have HBL := Lib.hid hbl
  clear hall hbx hbl
  by_cases hlt : k < 4
  ·have hac := HBX2.out.cell k hlt
   have hc0 : wr.cell? ⟨w.heap.size, 0, none⟩ = some (.int .i64 op) := HBX2.out.ins.cell 0
   have HN2 := Lib.hid (HNOT.out k hlt)
   by_cases hkn : k < n
   ·have hkc := (HBL.out.cell (p := ⟨w.heap.size + 1, k, none⟩) HSZ.out).trans (HKC.out k hkn)
    have hkd := HKND.out k
    have hm := HRM.out ((opsOf op).getD k 0) ([a, b, c, d].getD k 0) hkd.1 hkd.2 (ops_26 op k (by rw [HLEN.out]; exact hkn))
    have d1 : decide ((k : Int) < (n : Int)) = true := by simp; omega
    have d2 : decide ((n : Int) ≤ (k : Int)) = false := by simp; omega
    have d6 : decide (n ≤ k) = false := by rw [decide_eq_false_iff_not]; omega
    have d7 : decide (k < n) = true := by rw [decide_eq_true_eq]; omega
    have d3 : (0 : Int) ≤ (k : Int) := by omega
    have d4 : (k : Int) < (n : Int) := by omega
    have d5 : (k : Int) < 4 := by omega
    obtain ⟨x, hx⟩ : ∃ x, [a, b, c, d].getD k 0 = x := ⟨_, rfl⟩
    obtain ⟨y, hy⟩ : ∃ y, (opsOf op).getD k 0 = y := ⟨_, rfl⟩
    rw [hx] at hac
    rw [hy] at hkc
    rw [hx, hy] at hm HN2
    have HX := Lib.hid hx
    have HY := Lib.hid hy
    have HM := Lib.hid hm
    have hS0 := And.intro hc0 (And.intro hkc hac)
    have hg1 : w.heap.size < wr.heap.size := HBX2.out.ins.lt
    have hg2 : w.heap.size + 1 < wr.heap.size := World.block_lt_of_cell? wr _ hkc
    clear hx hy hkd hm
    cases hB : mayB op y x
    ·have hm2 := HM.out
     rw [hB] at hm2
     have HM2 := Lib.hid hm2
     have HN3 := Lib.hid (HN2.out hB)
     clear hm2 hB HN2 HM
     go_wp2
     clear hc0 hkc hac
     refine wp_region_held_drew (S := (fun w' => w'.cell? ⟨w.heap.size, 0, none⟩ = some (.int .i64 op) ∧ w'.cell? ⟨w.heap.size + 1, k, none⟩ = some (.int .i64 y) ∧ w'.cell? ⟨w.heap.size, 1 + k, none⟩ = some (.int .i64 x))) (by kernel_rfl) ?_ (fun hHeld => ?_)
     ·((try dsimp only); first | with_reducible assumption | go_keep)
     refine tHH (i := 0) (v := ?_) rfl ?_ ?_
     rotate_left 1
     ·(intro w' hSw; (try dsimp only at hSw); go_simp; try with_reducible rfl)
     try simp only [List.getElem_toArray, List.getElem_cons_zero, Act.put, List.setIfInBounds_toArray, List.set_cons_zero, List.set_cons_succ]
     refine tHH (i := 1) (v := ?_) rfl ?_ ?_
     rotate_left 1
     ·(intro w' hSw; (try dsimp only at hSw); go_simp; try with_reducible rfl)
     try simp only [qA, qB, qC, Act.put, qD, qE, qF]
     refine tHH (i := 2) (v := ?_) rfl ?_ ?_
     rotate_left 1
     ·(intro w' hSw; (try dsimp only at hSw); go_simp; try with_reducible rfl)
     try simp only [qA, qB, qC, Act.put, qD, qE, qF]
     refine tHH (i := 3) (v := ?_) rfl ?_ ?_
     rotate_left 1
     ·(intro w' hSw; (try dsimp only at hSw); go_simp; try with_reducible rfl)
     try simp only [qA, qB, qC, Act.put, qD, qE, qF]
     refine tHH (i := 4) (v := ?_) rfl ?_ ?_
     rotate_left 1
     ·(intro w' hSw; (try dsimp only at hSw); go_simp; try with_reducible rfl)
     try simp only [qA, qB, qC, Act.put, qD, qE, qF]
     refine tHH (i := 5) (v := ?_) rfl ?_ ?_
     rotate_left 1
     ·(intro w' hSw; (try dsimp only at hSw); go_simp; try with_reducible rfl)
     try simp only [qA, qB, qC, Act.put, qD, qE, qF]
     refine tHH (i := 6) (v := ?_) rfl ?_ ?_
     rotate_left 1
     ·(intro w' hSw; (try dsimp only at hSw); go_simp; try with_reducible rfl)
     try simp only [qA, qB, qC, Act.put, qD, qE, qF]
     refine tHH (i := 7) (v := ?_) rfl ?_ ?_
     rotate_left 1
     ·(intro w' hSw; (try dsimp only at hSw); go_simp; try with_reducible rfl)
     try simp only [qA, qB, qC, Act.put, qD, qE, qF]
     refine tHH (i := 8) (v := ?_) rfl ?_ ?_
     rotate_left 1
     ·(intro w' hSw; (try dsimp only at hSw); go_simp; try with_reducible rfl)
     try simp only [qA, qB, qC, Act.put, qD, qE, qF]
     refine tHH (i := 9) (v := ?_) rfl ?_ ?_
     rotate_left 1
     ·(intro w' hSw; (try dsimp only at hSw); go_simp; try with_reducible rfl)
     try simp only [qA, qB, qC, Act.put, qD, qE, qF]
     refine tHH (i := 10) (v := ?_) rfl ?_ ?_
     rotate_left 1
     ·(intro w' hSw; (try dsimp only at hSw); go_simp; try with_reducible rfl)
     try simp only [qA, qB, qC, Act.put, qD, qE, qF]
     refine tHH (i := 11) (v := ?_) rfl ?_ ?_
     rotate_left 1
     ·(intro w' hSw; (try dsimp only at hSw); go_simp; try with_reducible rfl)
     try simp only [qA, qB, qC, Act.put, qD, qE, qF]
     refine tHH (i := 12) (v := ?_) rfl ?_ ?_
     rotate_left 1
     ·(intro w' hSw; (try dsimp only at hSw); go_simp; try with_reducible rfl)
     try simp only [qA, qB, qC, Act.put, qD, qE, qF]
     refine tHH (i := 13) (v := ?_) rfl ?_ ?_
     rotate_left 1
     ·(intro w' hSw; (try dsimp only at hSw); go_simp; try with_reducible rfl)
     try simp only [qA, qB, qC, Act.put, qD, qE, qF]
     refine tHH (i := 14) (v := ?_) rfl ?_ ?_
     rotate_left 1
     ·(intro w' hSw; (try dsimp only at hSw); go_simp; try with_reducible rfl)
     try simp only [qA, qB, qC, Act.put, qD, qE, qF]
     refine wpAnyH_ready (rs := [15]) (by kernel_rfl) (by simp) ?_
     refine AllReadyH.cons (o := _) rfl (fun K hK => ?_) AllReadyH.nil
     go_simp
     go_at_call 83; refine (HM2.out _).mono ?_; rintro e w6 ⟨rfl, hb6⟩; have HB6 := Lib.hid (bel_dr wr 1 hb6); have hS1 := three_up HB6.out hg1 hg2 hS0; have HS0 := Lib.hid hS0; clear hb6 hS0
     refine hK.out _ _ ?_ (fun hHeld => ?_)
     ·((try dsimp only); first | with_reducible assumption | go_keep)
     clear hK K
     try simp only [qA, qB, qC, Act.put, qD, qE, qF]
     refine tHH (i := 16) (v := ?_) rfl ?_ ?_
     rotate_left 1
     ·(intro w' hSw; (try dsimp only at hSw); go_simp; try with_reducible rfl)
     try simp only [qA, qB, qC, Act.put, qD, qE, qF]
     refine tHH (i := 17) (v := ?_) rfl ?_ ?_
     rotate_left 1
     ·(intro w' hSw; (try dsimp only at hSw); go_simp; try with_reducible rfl)
     try simp only [qA, qB, qC, Act.put, qD, qE, qF]
     refine tHH (i := 18) (v := ?_) rfl ?_ ?_
     rotate_left 1
     ·(intro w' hSw; (try dsimp only at hSw); go_simp; try with_reducible rfl)
     try simp only [qA, qB, qC, Act.put, qD, qE, qF]
     refine wpAnyH_take (i := 19) (v := undef) rfl (by kernel_rfl) (by kernel_rfl) (by kernel_rfl) (fun _ _ _ h => h) (Or.inr ⟨by rfl, rfl⟩) (by assumption) ?_
     try simp only [qA, qB, qC, Act.put, qD, qE, qF]
     refine wpAnyH_take (i := 20) (v := undef) rfl (by kernel_rfl) (by kernel_rfl) (by kernel_rfl) (fun _ _ _ h => h) (Or.inr ⟨by rfl, rfl⟩) (by assumption) ?_
     try simp only [qA, qB, qC, Act.put, qD, qE, qF]
     refine wpAnyH_take (i := 21) (v := undef) rfl (by kernel_rfl) (by kernel_rfl) (by kernel_rfl) (fun _ _ _ h => h) (Or.inr ⟨by rfl, rfl⟩) (by assumption) ?_
     try simp only [qA, qB, qC, Act.put, qD, qE, qF]
     refine wpAnyH_take (i := 22) (v := undef) rfl (by kernel_rfl) (by kernel_rfl) (by kernel_rfl) (fun _ _ _ h => h) (Or.inr ⟨by rfl, rfl⟩) (by assumption) ?_
     try simp only [qA, qB, qC, Act.put, qD, qE, qF]
     refine wpAnyH_take (i := 23) (v := undef) rfl (by kernel_rfl) (by kernel_rfl) (by kernel_rfl) (fun _ _ _ h => h) (Or.inr ⟨by rfl, rfl⟩) (by assumption) ?_
     try simp only [qA, qB, qC, Act.put, qD, qE, qF]
     refine wpAnyH_take (i := 24) (v := undef) rfl (by kernel_rfl) (by kernel_rfl) (by kernel_rfl) (fun _ _ _ h => h) (Or.inr ⟨by rfl, rfl⟩) (by assumption) ?_
     try simp only [qA, qB, qC, Act.put, qD, qE, qF]
     refine wpAnyH_take (i := 25) (v := undef) rfl (by kernel_rfl) (by kernel_rfl) (by kernel_rfl) (fun _ _ _ h => h) (Or.inr ⟨by rfl, rfl⟩) (by assumption) ?_
     try simp only [qA, qB, qC, Act.put, qD, qE, qF]
     refine wpAnyH_take (i := 26) (v := undef) rfl (by kernel_rfl) (by kernel_rfl) (by kernel_rfl) (fun _ _ _ h => h) (Or.inr ⟨by rfl, rfl⟩) (by assumption) ?_
     try simp only [qA, qB, qC, Act.put, qD, qE, qF]
     refine wpAnyH_take (i := 27) (v := undef) rfl (by kernel_rfl) (by kernel_rfl) (by kernel_rfl) (fun _ _ _ h => h) (Or.inr ⟨by rfl, rfl⟩) (by assumption) ?_
     try simp only [qA, qB, qC, Act.put, qD, qE, qF]
     refine wpAnyH_take (i := 28) (v := undef) rfl (by kernel_rfl) (by kernel_rfl) (by kernel_rfl) (fun _ _ _ h => h) (Or.inr ⟨by rfl, rfl⟩) (by assumption) ?_
     try simp only [qA, qB, qC, Act.put, qD, qE, qF]
     refine wpAnyH_take (i := 29) (v := undef) rfl (by kernel_rfl) (by kernel_rfl) (by kernel_rfl) (fun _ _ _ h => h) (Or.inr ⟨by rfl, rfl⟩) (by assumption) ?_
     try simp only [qA, qB, qC, Act.put, qD, qE, qF]
     refine tHH (i := 30) (v := ?_) rfl ?_ ?_
     rotate_left 1
     ·(intro w' hSw; (try dsimp only at hSw); go_simp; try with_reducible rfl)
     try simp only [qA, qB, qC, Act.put, qD, qE, qF]
     refine wpAnyH_done (by kernel_rfl) ?_ _
     clear HS0
     go_wp2
     go_ret
     exact ⟨ret_b HN3.out.symm, HBX2.out.below.trans (HB6.out.mono (Nat.le_of_lt hg1))⟩
    ·have hm2 := HM.out
     rw [hB] at hm2
     have HM2 := Lib.hid hm2
     have HBT := Lib.hid hB
     clear hm2 hB HN2 HM
     go_wp2
     clear hc0 hkc hac
     refine wp_region_held_drew (S := (fun w' => w'.cell? ⟨w.heap.size, 0, none⟩ = some (.int .i64 op) ∧ w'.cell? ⟨w.heap.size + 1, k, none⟩ = some (.int .i64 y) ∧ w'.cell? ⟨w.heap.size, 1 + k, none⟩ = some (.int .i64 x))) (by kernel_rfl) ?_ (fun hHeld => ?_)
     ·((try dsimp only); first | with_reducible assumption | go_keep)
     refine tHH (i := 0) (v := ?_) rfl ?_ ?_
     rotate_left 1
     ·(intro w' hSw; (try dsimp only at hSw); go_simp; try with_reducible rfl)
     try simp only [List.getElem_toArray, List.getElem_cons_zero, Act.put, List.setIfInBounds_toArray, List.set_cons_zero, List.set_cons_succ]
     refine tHH (i := 1) (v := ?_) rfl ?_ ?_
     rotate_left 1
     ·(intro w' hSw; (try dsimp only at hSw); go_simp; try with_reducible rfl)
     try simp only [qA, qB, qC, Act.put, qD, qE, qF]
     refine tHH (i := 2) (v := ?_) rfl ?_ ?_
     rotate_left 1
     ·(intro w' hSw; (try dsimp only at hSw); go_simp; try with_reducible rfl)
     try simp only [qA, qB, qC, Act.put, qD, qE, qF]
     refine tHH (i := 3) (v := ?_) rfl ?_ ?_
     rotate_left 1
     ·(intro w' hSw; (try dsimp only at hSw); go_simp; try with_reducible rfl)
     try simp only [qA, qB, qC, Act.put, qD, qE, qF]
     refine tHH (i := 4) (v := ?_) rfl ?_ ?_
     rotate_left 1
     ·(intro w' hSw; (try dsimp only at hSw); go_simp; try with_reducible rfl)
     try simp only [qA, qB, qC, Act.put, qD, qE, qF]
     refine tHH (i := 5) (v := ?_) rfl ?_ ?_
     rotate_left 1
     ·(intro w' hSw; (try dsimp only at hSw); go_simp; try with_reducible rfl)
     try simp only [qA, qB, qC, Act.put, qD, qE, qF]
     refine tHH (i := 6) (v := ?_) rfl ?_ ?_
     rotate_left 1
     ·(intro w' hSw; (try dsimp only at hSw); go_simp; try with_reducible rfl)
     try simp only [qA, qB, qC, Act.put, qD, qE, qF]
     refine tHH (i := 7) (v := ?_) rfl ?_ ?_
     rotate_left 1
     ·(intro w' hSw; (try dsimp only at hSw); go_simp; try with_reducible rfl)
     try simp only [qA, qB, qC, Act.put, qD, qE, qF]
     refine tHH (i := 8) (v := ?_) rfl ?_ ?_
     rotate_left 1
     ·(intro w' hSw; (try dsimp only at hSw); go_simp; try with_reducible rfl)
     try simp only [qA, qB, qC, Act.put, qD, qE, qF]
     refine tHH (i := 9) (v := ?_) rfl ?_ ?_
     rotate_left 1
     ·(intro w' hSw; (try dsimp only at hSw); go_simp; try with_reducible rfl)
     try simp only [qA, qB, qC, Act.put, qD, qE, qF]
     refine tHH (i := 10) (v := ?_) rfl ?_ ?_
     rotate_left 1
     ·(intro w' hSw; (try dsimp only at hSw); go_simp; try with_reducible rfl)
     try simp only [qA, qB, qC, Act.put, qD, qE, qF]
     refine tHH (i := 11) (v := ?_) rfl ?_ ?_
     rotate_left 1
     ·(intro w' hSw; (try dsimp only at hSw); go_simp; try with_reducible rfl)
     try simp only [qA, qB, qC, Act.put, qD, qE, qF]
     refine tHH (i := 12) (v := ?_) rfl ?_ ?_
     rotate_left 1
     ·(intro w' hSw; (try dsimp only at hSw); go_simp; try with_reducible rfl)
     try simp only [qA, qB, qC, Act.put, qD, qE, qF]
     refine tHH (i := 13) (v := ?_) rfl ?_ ?_
     rotate_left 1
     ·(intro w' hSw; (try dsimp only at hSw); go_simp; try with_reducible rfl)
     try simp only [qA, qB, qC, Act.put, qD, qE, qF]
     refine tHH (i := 14) (v := ?_) rfl ?_ ?_
     rotate_left 1
     ·(intro w' hSw; (try dsimp only at hSw); go_simp; try with_reducible rfl)
     try simp only [qA, qB, qC, Act.put, qD, qE, qF]
     refine wpAnyH_ready (rs := [15]) (by kernel_rfl) (by simp) ?_
     refine AllReadyH.cons (o := _) rfl (fun K hK => ?_) AllReadyH.nil
     go_simp
     go_at_call 83; refine (HM2.out _).mono ?_; rintro e w6 ⟨rfl, hb6⟩; have HB6 := Lib.hid (bel_dr wr 1 hb6); have hS1 := three_up HB6.out hg1 hg2 hS0; have HS0 := Lib.hid hS0; clear hb6 hS0
     refine hK.out _ _ ?_ (fun hHeld => ?_)
     ·((try dsimp only); first | with_reducible assumption | go_keep)
     clear hK K
     try simp only [qA, qB, qC, Act.put, qD, qE, qF]
     refine tHH (i := 16) (v := ?_) rfl ?_ ?_
     rotate_left 1
     ·(intro w' hSw; (try dsimp only at hSw); go_simp; try with_reducible rfl)
     try simp only [qA, qB, qC, Act.put, qD, qE, qF]
     refine tHH (i := 17) (v := ?_) rfl ?_ ?_
     rotate_left 1
     ·(intro w' hSw; (try dsimp only at hSw); go_simp; try with_reducible rfl)
     try simp only [qA, qB, qC, Act.put, qD, qE, qF]
     refine tHH (i := 18) (v := ?_) rfl ?_ ?_
     rotate_left 1
     ·(intro w' hSw; (try dsimp only at hSw); go_simp; try with_reducible rfl)
     try simp only [qA, qB, qC, Act.put, qD, qE, qF]
     refine tHH (i := 19) (v := ?_) rfl ?_ ?_
     rotate_left 1
     ·(intro w' hSw; (try dsimp only at hSw); go_simp; try with_reducible rfl)
     try simp only [qA, qB, qC, Act.put, qD, qE, qF]
     refine tHH (i := 20) (v := ?_) rfl ?_ ?_
     rotate_left 1
     ·(intro w' hSw; (try dsimp only at hSw); go_simp; try with_reducible rfl)
     try simp only [qA, qB, qC, Act.put, qD, qE, qF]
     refine tHH (i := 21) (v := ?_) rfl ?_ ?_
     rotate_left 1
     ·(intro w' hSw; (try dsimp only at hSw); go_simp; try with_reducible rfl)
     try simp only [qA, qB, qC, Act.put, qD, qE, qF]
     refine tHH (i := 22) (v := ?_) rfl ?_ ?_
     rotate_left 1
     ·(intro w' hSw; (try dsimp only at hSw); go_simp; try with_reducible rfl)
     try simp only [qA, qB, qC, Act.put, qD, qE, qF]
     refine tHH (i := 23) (v := ?_) rfl ?_ ?_
     rotate_left 1
     ·(intro w' hSw; (try dsimp only at hSw); go_simp; try with_reducible rfl)
     try simp only [qA, qB, qC, Act.put, qD, qE, qF]
     refine wpAnyH_take (i := 24) (v := undef) rfl (by kernel_rfl) (by kernel_rfl) (by kernel_rfl) (fun _ _ _ h => h) (Or.inr ⟨by rfl, rfl⟩) (by assumption) ?_
     try simp only [qA, qB, qC, Act.put, qD, qE, qF]
     refine wpAnyH_take (i := 25) (v := undef) rfl (by kernel_rfl) (by kernel_rfl) (by kernel_rfl) (fun _ _ _ h => h) (Or.inr ⟨by rfl, rfl⟩) (by assumption) ?_
     try simp only [qA, qB, qC, Act.put, qD, qE, qF]
     refine wpAnyH_take (i := 26) (v := undef) rfl (by kernel_rfl) (by kernel_rfl) (by kernel_rfl) (fun _ _ _ h => h) (Or.inr ⟨by rfl, rfl⟩) (by assumption) ?_
     try simp only [qA, qB, qC, Act.put, qD, qE, qF]
     refine wpAnyH_take (i := 27) (v := undef) rfl (by kernel_rfl) (by kernel_rfl) (by kernel_rfl) (fun _ _ _ h => h) (Or.inr ⟨by rfl, rfl⟩) (by assumption) ?_
     try simp only [qA, qB, qC, Act.put, qD, qE, qF]
     refine wpAnyH_take (i := 28) (v := undef) rfl (by kernel_rfl) (by kernel_rfl) (by kernel_rfl) (fun _ _ _ h => h) (Or.inr ⟨by rfl, rfl⟩) (by assumption) ?_
     try simp only [qA, qB, qC, Act.put, qD, qE, qF]
     refine tHH (i := 29) (v := ?_) rfl ?_ ?_
     rotate_left 1
     ·(intro w' hSw; (try dsimp only at hSw); go_simp; try with_reducible rfl)
     try simp only [qA, qB, qC, Act.put, qD, qE, qF]
     refine tHH (i := 30) (v := ?_) rfl ?_ ?_
     rotate_left 1
     ·(intro w' hSw; (try dsimp only at hSw); go_simp; try with_reducible rfl)
     try simp only [qA, qB, qC, Act.put, qD, qE, qF]
     refine wpAnyH_done (by kernel_rfl) ?_ _
     clear HS0
     go_wp2
     go_roundw
     case rel => exact ⟨k + 1, by omega, by go_num, HBX2.out.up HB6.out, HBL.out.trans (HB6.out.mono HBL.out.size), fun j hj => by
      by_cases e : j = k
      ·subst e
       rw [HX.out, HY.out]
       exact HBT.out
      ·exact HA.out j (by omega)⟩
     case measure => simp [intOf]; omega
   ·have d1 : decide ((k : Int) < (n : Int)) = false := by rw [decide_eq_false_iff_not]; omega
    have d2 : decide ((n : Int) ≤ (k : Int)) = true := by rw [decide_eq_true_eq]; omega
    have d6 : decide (n ≤ k) = true := by rw [decide_eq_true_eq]; omega
    have d7 : decide (k < n) = false := by rw [decide_eq_false_iff_not]; omega
    have hmz := may_zero op ([a, b, c, d].getD k 0) k hlt (by rw [HLEN.out]; omega)
    obtain ⟨x, hx⟩ : ∃ x, [a, b, c, d].getD k 0 = x := ⟨_, rfl⟩
    rw [hx] at hmz hac HN2
    have HX := Lib.hid hx
    have HMZ := Lib.hid hmz
    clear hx hmz
    by_cases hx0 : x = 0
    ·have HMT : Hid (mayB op ((opsOf op).getD k 0) x = true) := Lib.hid (by rw [HMZ.out]; simpa using hx0)
     subst hx0
     go_wp2
     go_quiet (fail)
     go_wp2
     go_roundw
     case rel => exact ⟨k + 1, by omega, by go_num, HBX2.out.drewN _, bel_drewN HBL.out _, fun j hj => by
      by_cases e : j = k
      ·subst e
       rw [HX.out]
       exact HMT.out
      ·exact HA.out j (by omega)⟩
     case measure => simp [intOf]; omega
    ·have hxn : (x != 0) = true := by simpa using hx0
     have HMF : Hid (rightB op [a, b, c, d] = false) := Lib.hid (HN2.out (by rw [HMZ.out]; simpa using hx0))
     clear hx0
     go_wp2
     go_quiet (fail)
     go_wp2
     go_ret
     exact ⟨ret_b HMF.out.symm, bel_drewN HBX2.out.below _⟩
  ·obtain rfl : k = 4 := by omega
   have hr := HALL.out HA.out
   have HR := Lib.hid hr
   clear hr
   go_wp2
   go_ret
   exact ⟨ret_b HR.out.symm, HBX2.out.below⟩
end Go.Proofs.YtclkdlegogjnbaaGreatDoor

namespace Go.Proofs.YtclkdlegogjnbaaGreatDoor
open Go Go.RowKit Go.WideShapes Go.ChangeShapes
set_option linter.unusedVariables false
theorem rright_any (op a b c d : Int) (w : World) :
  Calls Tryz.prog 59 #[insV op a b c d] w fun e w' => e = .returned (.bool (rightB op [a, b, c, d])) ∧ Below w.heap.size w w' := by
 by_cases h : 0 ≤ op ∧ op ≤ 26
 ·by_cases ho : opsOf op = []
  ·exact rright_none op a b c d h ho w
  ·exact rright_some op a b c d h _ rfl (List.length_pos_iff.2 ho) w
 ·exact rright_out op a b c d h w
end Go.Proofs.YtclkdlegogjnbaaGreatDoor
