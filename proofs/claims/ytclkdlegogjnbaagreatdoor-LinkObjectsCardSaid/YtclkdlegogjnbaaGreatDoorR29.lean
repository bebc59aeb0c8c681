/-
 The program's enterPred (walk). Conditions: at most 900000 predicates, lengths as Go's values have them.
-/
import Derived.Test.YtclkdlegogjnbaaGreatDoorR27
import Derived.Test.YtclkdlegogjnbaaGreatDoorR28
namespace Go.Proofs.YtclkdlegogjnbaaGreatDoor
open Go Go.RowKit Go.WideShapes Go.ChangeShapes
set_option linter.unusedVariables false
set_option linter.unusedSimpArgs false
theorem two_puts {w wr w6 w6' w7 : World} {I : WI} {K : WV} {s : Lk} {cd : List Ins} {v6 v7 : Value} {n : Int} {y : Bool} (h : Wh w wr I K s cd) (a1 : App wr w6 w.heap.size 3 1 K.h v6 (s.homes.length + 1) ((s.homes.map (Value.int .i64)) ++ [.int .i64 n])) (hb : Below w6.heap.size w6 w6')
  (a2 : App w6' w7 w.heap.size 4 1 K.b v7 (s.begun.length + 1) ((s.begun.map Value.bool) ++ [.bool y])) :
  Wh w ((w7.setCell ⟨I.g, 7, none⟩ v6).setCell ⟨I.g, 8, none⟩ v7) I { K with h := v6, b := v7 } { s with homes := s.homes ++ [n], begun := s.begun ++ [y] } cd ∧ WhF wr ((w7.setCell ⟨I.g, 7, none⟩ v6).setCell ⟨I.g, 8, none⟩ v7) I K { K with h := v6, b := v7 } ∧
  w7.cell? ⟨I.g, 7, none⟩ = some K.h ∧ w7.frozen? ⟨I.g, 7, none⟩ = false ∧ w7.cell? ⟨I.g, 8, none⟩ = some K.b ∧ w7.frozen? ⟨I.g, 8, none⟩ = false := by
 have hbx6 := h.box.fr (S := fun b => K.h.ownBlock = some b) a1.fr (fun e => own_ne_box h.r.rh h.box (by decide) _ e rfl)
 have r6 := h.r.apph a1
 have f6 : WhF wr w6 I K { K with h := v6 } := WhF.apph a1
 have hbx6' := hbx6.below hb hbx6.lt
 have r6' := r6.up hb
 have f6' := f6.trans (WhF.below hb)
 have hbx7 := hbx6'.fr (S := fun b => K.b.ownBlock = some b) a2.fr (fun e => own_ne_box r6'.rb hbx6' (by decide) _ e rfl)
 have r7 := r6'.appb a2
 have f7 : WhF w6' w7 I { K with h := v6 } { K with h := v6, b := v7 } := WhF.appb a2
 refine ⟨⟨?_, ?_⟩, ((f6'.trans f7).set 7 v6).set 8 v7, hbx7.cell 7, hbx7.frozen 7, hbx7.cell 8, hbx7.frozen 8⟩
 ·have := (hbx7.set_ 7 v6).set_ 8 v7
  simpa using this
 ·exact (r7.set hbx7 7 v6).set (hbx7.set_ 7 v6) 8 v7
def CutE (w0 w wc : World) (I : WI) (K : WV) (va vf vc vp : Value) (s2 : Lk) (cd : List Ins) (gp gk : Nat) (x : ByteArray) (m e : Int) : Prop :=
 ∃ h7 b7, Wh w0 wc I ⟨va, vf, vp, vc, h7, b7⟩ s2 cd ∧ WhF w wc I K ⟨va, vf, vp, vc, h7, b7⟩ ∧ Box wc gp 64 #[.string x, .int .i64 m, .int .i64 e] ∧ Box wc gk 112 #[.string x, .int .i64 m]
set_option maxRecDepth 100000 in
set_option maxHeartbeats 16000000 in
theorem enterPred_any (w0 : World) (I : WI) (K : WV) (s : Lk) (cd : List Ins) (n : Int) (x : ByteArray) (m e : Int) (hp : okF (x, m)) (hl : s.preds.length ≤ 900000) (hev : Even3 s) (w : World) (hk : Wh w0 w I K s cd) :
  Calls Tryz.prog 53 #[.pointer (some ⟨I.g, 0, none⟩), .int .i64 n, .agg #[.string x, .int .i64 m, .int .i64 e]] w (EnW w0 w I K cd (predK n s (x, m, e))) := by
 have HR : Hid (predK n s (x, m, e) = if e = 65535 then some (predG n s (x, m)) else if (predG n s (x, m)).begun.getD (placeOf ((predG n s (x, m)).preds.map called) (x, m)) false = true then none else some { predG n s (x, m) with begun := (predG n s (x, m)).begun.set (placeOf ((predG n s (x, m)).preds.map called) (x, m)) true }) := Lib.hid (predK_eq (n := n) (p := (x, m, e)) hev)
 generalize predK n s (x, m, e) = r at HR ⊢
 have HEV := Lib.hid (predG_even (n := n) (f := (x, m)) hev)
 have HAT := Lib.hid (place_lt (predG_mem n s (x, m)))
 have HPL := Lib.hid (plT_yes (predG_mem n s (x, m)))
 rw [List.length_map] at HAT
 have HK1 := Lib.hid ((hk.alloc (.cells #[.string x, .int .i64 m, .int .i64 e] 64)).alloc (.cells #[.string x, .int .i64 m] 112))
 have HB1 := Lib.hid (two_below w (.cells #[.string x, .int .i64 m, .int .i64 e] 64) (.cells #[.string x, .int .i64 m] 112))
 have X1 := Lib.hid ((Box.new w 64 #[.string x, .int .i64 m, .int .i64 e]).alloc (.cells #[.string x, .int .i64 m] 112))
 have Y1 := Lib.hid (Box.new (w.alloc (.cells #[.string x, .int .i64 m, .int .i64 e] 64)) 112 #[.string x, .int .i64 m])
 rw [World.size_alloc] at Y1
 have AX := Lib.hid (hk.apart (b := w.heap.size) (Nat.le_refl _))
 have AY := Lib.hid (hk.apart (b := w.heap.size + 1) (by omega))
 go_enter Tryz.func53, Tryz.ntmps53
 go_upto_region 2 with (fail)
 obtain ⟨w1, hw1⟩ : ∃ w1, (w.alloc (.cells #[.string x, .int .i64 m, .int .i64 e] 64)).alloc (.cells #[.string x, .int .i64 m] 112) = w1 := ⟨_, rfl⟩
 rw [hw1] at HK1 HB1 X1 Y1 ⊢
 obtain ⟨gk, hgk⟩ : ∃ gk, w.heap.size + 1 = gk := ⟨_, rfl⟩
 rw [hgk] at Y1 AY ⊢
 obtain ⟨gp, hgp⟩ : ∃ gp, w.heap.size = gp := ⟨_, rfl⟩
 have HF1 : Hid (WhF w w1 I K K) := Lib.hid (WhF.below HB1.out)
 rw [hgp] at X1 AX ⊢
 clear hw1 hgk hgp hk HB1
 obtain ⟨va, vf, vp, vc, vh, vb⟩ := K
 obtain ⟨A3, c3, hvp, _⟩ := own_form HK1.out.r.rp
 simp only at hvp
 subst hvp
 have q2 := HK1.out.box.cell 2
 have q6 := HK1.out.box.cell 6
 have x0 := X1.out.cell 0
 have x1 := X1.out.cell 1
 have y0 := Y1.out.cell 0
 have y1 := Y1.out.cell 1
 have HM := Lib.hid (fun W (h : Wh w0 W I ⟨va, vf, .slice A3 s.preds.length c3, vc, vh, vb⟩ s cd) => metP_any w0.heap.size I.mp _ s.preds x m W h.r.mp (by rw [List.length_map]; exact h.r.rp) hp (by rw [List.length_map]; omega) h.r.below.size)
 by_cases hin : (x, m) ∈ s.preds.map called
 ·have hs2 : predG n s (x, m) = s := by unfold predG hadOr; rw [if_pos hin]
  rw [hs2] at HR HEV HAT HPL
  have HIN := Lib.hid hin
  clear hs2 hin
  generalize placeOf (s.preds.map called) (x, m) = at_ at HR HAT HPL
  refine wp_region_held_drew (S := (fun w' => w'.cell? ⟨I.g, 6, none⟩ = some (.map (some I.mp)) ∧ w'.cell? ⟨gp, 0, none⟩ = some (.string x) ∧ w'.cell? ⟨gp, 1, none⟩ = some (.int .i64 m) ∧ w'.cell? ⟨gk, 0, none⟩ = some (.string x) ∧ w'.cell? ⟨gk, 1, none⟩ = some (.int .i64 m))) (by kernel_rfl) ?_ (fun hHeld => ?_)
  ·exact ⟨q6, x0, x1, y0, y1⟩
  have HK1d : Hid (Wh w0 w1.drew I ⟨va, vf, .slice A3 s.preds.length c3, vc, vh, vb⟩ s cd) := Lib.hid (HK1.out.drewN 1)
  have X1d := Lib.hid X1.out.drew
  have Y1d := Lib.hid Y1.out.drew
  have HF1d : Hid (WhF w w1.drew I ⟨va, vf, .slice A3 s.preds.length c3, vc, vh, vb⟩ ⟨va, vf, .slice A3 s.preds.length c3, vc, vh, vb⟩) := Lib.hid (HF1.out.drewN 1)
  clear q2 q6 x0 x1 y0 y1 HK1 X1 Y1 HF1
  generalize w1.drew = w2 at HK1d X1d Y1d HF1d hHeld ⊢
  have q2 := HK1d.out.box.cell 2
  have HS2 := Lib.hid hHeld
  refine tkH (i := 0) (v := ?_) rfl (fun _ _ _ h => h) (Or.inl ⟨by kernel_rfl, ?_⟩) hHeld ?_
  rotate_left
  ·(intro w hSw; (try dsimp only at hSw); go_simp; try with_reducible rfl)
  try simp only [qA, qB, qC, Act.put, qD, qE, qF]
  refine tkH (i := 1) (v := ?_) rfl (fun _ _ _ h => h) (Or.inl ⟨by kernel_rfl, ?_⟩) hHeld ?_
  rotate_left
  ·(intro w hSw; (try dsimp only at hSw); go_simp; try with_reducible rfl)
  try simp only [qA, qB, qC, Act.put, qD, qE, qF]
  refine tkH (i := 2) (v := ?_) rfl (fun _ _ _ h => h) (Or.inl ⟨by kernel_rfl, ?_⟩) hHeld ?_
  rotate_left
  ·(intro w hSw; (try dsimp only at hSw); go_simp; try with_reducible rfl)
  try simp only [qA, qB, qC, Act.put, qD, qE, qF]
  refine tkH (i := 3) (v := ?_) rfl (fun _ _ _ h => h) (Or.inl ⟨by kernel_rfl, ?_⟩) hHeld ?_
  rotate_left
  ·(intro w hSw; (try dsimp only at hSw); go_simp; try with_reducible rfl)
  try simp only [qA, qB, qC, Act.put, qD, qE, qF]
  refine tkH (i := 4) (v := ?_) rfl (fun _ _ _ h => h) (Or.inl ⟨by kernel_rfl, ?_⟩) hHeld ?_
  rotate_left
  ·(intro w hSw; (try dsimp only at hSw); go_simp; try with_reducible rfl)
  try simp only [qA, qB, qC, Act.put, qD, qE, qF]
  refine tkH (i := 5) (v := ?_) rfl (fun _ _ _ h => h) (Or.inl ⟨by kernel_rfl, ?_⟩) hHeld ?_
  rotate_left
  ·(intro w hSw; (try dsimp only at hSw); go_simp; try with_reducible rfl)
  try simp only [qA, qB, qC, Act.put, qD, qE, qF]
  refine tkH (i := 6) (v := ?_) rfl (fun _ _ _ h => h) (Or.inl ⟨by kernel_rfl, ?_⟩) hHeld ?_
  rotate_left
  ·(intro w hSw; (try dsimp only at hSw); go_simp; try with_reducible rfl)
  try simp only [qA, qB, qC, Act.put, qD, qE, qF]
  refine tkH (i := 7) (v := ?_) rfl (fun _ _ _ h => h) (Or.inl ⟨by kernel_rfl, ?_⟩) hHeld ?_
  rotate_left
  ·(intro w hSw; (try dsimp only at hSw); go_simp; try with_reducible rfl)
  try simp only [qA, qB, qC, Act.put, qD, qE, qF]
  refine tkH (i := 8) (v := ?_) rfl (fun _ _ _ h => h) (Or.inl ⟨by kernel_rfl, ?_⟩) hHeld ?_
  rotate_left
  ·(intro w hSw; (try dsimp only at hSw); go_simp; try with_reducible rfl)
  try simp only [qA, qB, qC, Act.put, qD, qE, qF]
  refine tkH (i := 9) (v := ?_) rfl (fun _ _ _ h => h) (Or.inl ⟨by kernel_rfl, ?_⟩) hHeld ?_
  rotate_left
  ·(intro w hSw; (try dsimp only at hSw); go_simp; try with_reducible rfl)
  try simp only [qA, qB, qC, Act.put, qD, qE, qF]
  refine tkH (i := 11) (v := ?_) rfl (fun _ _ _ h => h) (Or.inl ⟨by kernel_rfl, ?_⟩) hHeld ?_
  rotate_left
  ·(intro w hSw; (try dsimp only at hSw); go_simp; try with_reducible rfl)
  try simp only [qA, qB, qC, Act.put, qD, qE, qF]
  refine tkH (i := 12) (v := ?_) rfl (fun _ _ _ h => h) (Or.inl ⟨by kernel_rfl, ?_⟩) hHeld ?_
  rotate_left
  ·(intro w hSw; (try dsimp only at hSw); go_simp; try with_reducible rfl)
  try simp only [qA, qB, qC, Act.put, qD, qE, qF]
  refine tkH (i := 13) (v := ?_) rfl (fun _ _ _ h => h) (Or.inl ⟨by kernel_rfl, ?_⟩) hHeld ?_
  rotate_left
  ·(intro w hSw; (try dsimp only at hSw); go_simp; try with_reducible rfl)
  try simp only [qA, qB, qC, Act.put, qD, qE, qF]
  refine tkH (i := 14) (v := ?_) rfl (fun _ _ _ h => h) (Or.inl ⟨by kernel_rfl, ?_⟩) hHeld ?_
  rotate_left
  ·(intro w hSw; (try dsimp only at hSw); go_simp; try with_reducible rfl)
  try simp only [qA, qB, qC, Act.put, qD, qE, qF]
  refine tkH (i := 15) (v := ?_) rfl (fun _ _ _ h => h) (Or.inl ⟨by kernel_rfl, ?_⟩) hHeld ?_
  rotate_left
  ·(intro w hSw; (try dsimp only at hSw); go_simp; try with_reducible rfl)
  try simp only [qA, qB, qC, Act.put, qD, qE, qF]
  refine wpAnyH_ready (rs := [10]) (by kernel_rfl) (by simp) ?_
  refine AllReadyH.cons (o := _) rfl (fun K hK => ?_) AllReadyH.nil
  go_simp
  refine hK.out _ _ ?_ (fun hHeld => ?_)
  ·exact HS2.out
  clear hK K
  try simp only [qA, qB, qC, Act.put, qD, qE, qF]
  refine wpAnyH_ready (rs := [16]) (by kernel_rfl) (by simp) ?_
  refine AllReadyH.cons (o := _) rfl (fun K hK => ?_) AllReadyH.nil
  go_simp
  go_at_call 81; refine (HM.out _ HK1d.out).mono ?_; rintro e3 w3 h3; obtain ⟨rfl, hb3⟩ := MetW.of_yes HIN.out h3; clear h3; have HK3 := Lib.hid (HK1d.out.up hb3); have X3 := Lib.hid (X1d.out.below hb3 X1d.out.lt); have Y3 := Lib.hid (Y1d.out.below hb3 Y1d.out.lt); have z2 := HK3.out.box.cell 2; have z2f := HK3.out.box.frozen 2; have HF3 : Hid (WhF w2 w3 I ⟨va, vf, .slice A3 s.preds.length c3, vc, vh, vb⟩ ⟨va, vf, .slice A3 s.preds.length c3, vc, vh, vb⟩) := Lib.hid (WhF.below hb3); clear hb3; obtain ⟨hk4, hf4, _⟩ := HK3.out.again 2 (.slice A3 s.preds.length c3) z2; have HK4 := Lib.hid hk4; have HF4 := Lib.hid (HF3.out.trans hf4); clear hk4 hf4; have X4 := Lib.hid (HF4.out.keep X1d.out AX.out).1; have Y4 := Lib.hid (HF4.out.keep Y1d.out AY.out).1; have HS3 := Lib.hid (show _ ∧ _ ∧ _ ∧ _ ∧ _ from ⟨HK3.out.box.cell 6, X3.out.cell 0, X3.out.cell 1, Y3.out.cell 0, Y3.out.cell 1⟩); have HS4 := Lib.hid (show _ ∧ _ ∧ _ ∧ _ ∧ _ from ⟨HK4.out.box.cell 6, X4.out.cell 0, X4.out.cell 1, Y4.out.cell 0, Y4.out.cell 1⟩)
  refine hK.out _ _ ?_ (fun hHeld => ?_)
  ·exact HS3.out
  clear hK K
  try simp only [qA, qB, qC, Act.put, qD, qE, qF]
  refine tkH (i := 17) (v := ?_) rfl (fun _ _ _ h => h) (Or.inl ⟨by kernel_rfl, ?_⟩) hHeld ?_
  rotate_left
  ·(intro w hSw; (try dsimp only at hSw); go_simp; try with_reducible rfl)
  try simp only [qA, qB, qC, Act.put, qD, qE, qF]
  refine tkH (i := 18) (v := ?_) rfl (fun _ _ _ h => h) (Or.inl ⟨by kernel_rfl, ?_⟩) hHeld ?_
  rotate_left
  ·(intro w hSw; (try dsimp only at hSw); go_simp; try with_reducible rfl)
  try simp only [qA, qB, qC, Act.put, qD, qE, qF]
  refine tkH (i := 19) (v := ?_) rfl (fun _ _ _ h => h) (Or.inl ⟨by kernel_rfl, ?_⟩) hHeld ?_
  rotate_left
  ·(intro w hSw; (try dsimp only at hSw); go_simp; try with_reducible rfl)
  try simp only [qA, qB, qC, Act.put, qD, qE, qF]
  refine wpAnyH_ready (rs := [20]) (by kernel_rfl) (by simp) ?_
  refine AllReadyH.cons (o := _) rfl (fun K hK => ?_) AllReadyH.nil
  go_simp
  refine hK.out _ _ ?_ (fun hHeld => ?_)
  ·exact HS4.out
  clear hK K
  try simp only [qA, qB, qC, Act.put, qD, qE, qF]
  refine wpAnyH_done (by kernel_rfl) ?_ _
  obtain ⟨w4, hw4⟩ : ∃ w4, w3.setCell ⟨I.g, 2, none⟩ (.slice A3 s.preds.length c3) = w4 := ⟨_, rfl⟩
  rw [hw4] at HK4 HF4 X4 Y4 ⊢
  clear hw4 z2 z2f HK3 HF3 HM X3 Y3 HS2 HS3 HS4 hHeld q2
  have HF2 := Lib.hid (HF1d.out.trans HF4.out)
  clear HF4 HF1d HK1d X1d Y1d
  obtain ⟨A7, c7, hvh, _⟩ := own_form HK4.out.r.rh
  simp only at hvh
  rw [HEV.out.1] at hvh
  subst hvh
  have q2 := HK4.out.box.cell 2
  have q7 := HK4.out.box.cell 7
  go_upto_region 3 with (fail)
  go_quiet (fail)
  obtain ⟨w5, hw5⟩ : ∃ w5, w4.drewN nq = w5 := ⟨_, rfl⟩
  have HK2 := Lib.hid (HK4.out.drewN nq)
  have X2 := Lib.hid (X4.out.drewN nq)
  have Y2 := Lib.hid (Y4.out.drewN nq)
  have HF2 := Lib.hid (HF2.out.drewN nq)
  rw [hw5] at HK2 X2 Y2 HF2 ⊢
  clear hw5 q2 q7 HK4 X4 Y4
  obtain ⟨s2, hs2⟩ : ∃ s2, s2 = s := ⟨_, rfl⟩
  rw [← hs2] at HR HEV HAT HPL
  have HK2 : Hid (Wh w0 w5 I ⟨va, vf, .slice A3 s.preds.length c3, vc, .slice A7 s.preds.length c7, vb⟩ s2 cd) := by rw [hs2]; exact HK2
  clear hs2
  have x2 := X2.out.cell 2
  by_cases he : e = 65535
  ·have e1 : (e == 65535) = true := by simpa using he
   have HX : Hid (r = some s2) := Lib.hid (by rw [HR.out, if_pos he])
   clear he
   go_wp2
   go_ret
   exact enW_some HX.out HK2.out HF2.out
  ·have e1 : (e == 65535) = false := by simpa using he
   obtain ⟨gb, cb, hvb⟩ := own_some HK2.out.r.rb (by have := HAT.out; have := HEV.out.2; omega)
   simp only at hvb
   subst hvb
   have q6 := HK2.out.box.cell 6
   have q8 := HK2.out.box.cell 8
   have y0 := Y2.out.cell 0
   have y1 := Y2.out.cell 1
   have hat : at_ < s2.begun.length := by have := HAT.out; have := HEV.out.2; omega
   have hlk := fun nq => ((HK2.out.drewN nq).r.mp.look keyTC uMapCI (x, m) hp).2
   rw [HPL.out] at hlk
   unfold valF at hlk
   simp only [Option.getD_some] at hlk
   have i1 : (at_ : Int) < (s2.begun.length : Int) := by omega
   have i2 : (0 : Int) ≤ (at_ : Int) := by omega
   obtain ⟨c0, c1⟩ := HK2.out.cellb rfl at_ hat
   have HSB := Lib.hid (fun nq => (HK2.out.drewN nq).setb rfl at_ hat true)
   cases hb : s2.begun[at_] with
   | true =>
    rw [hb] at c0
    have HX : Hid (r = none) := Lib.hid (by rw [HR.out, if_neg he, if_pos (by rw [List.getD_eq_getElem?_getD, List.getElem?_eq_getElem hat, hb]; rfl)])
    clear hb he
    go_upto_region 7 with (fail)
    go_quiet (fail)
    go_wp2
    go_ret
    exact enW_none HX.out (HSB.out _).1.r.below
   | false =>
    rw [hb] at c0
    have HX : Hid (r = some { s2 with begun := s2.begun.set at_ true }) := Lib.hid (by rw [HR.out, if_neg he, if_neg (by rw [List.getD_eq_getElem?_getD, List.getElem?_eq_getElem hat, hb]; decide)])
    clear hb he
    go_upto_region 7 with (fail)
    go_quiet (fail)
    go_wp2
    go_ret
    exact enW_some HX.out (HSB.out _).1 ((HF2.out.drewN _).trans (HSB.out _).2)
 ·obtain ⟨s2, hs2⟩ : ∃ s2, s2 = predG n s (x, m) := ⟨_, rfl⟩
  rw [← hs2] at HR HEV HAT HPL
  have hs3 : s2 = { s with preds := s.preds ++ [(x, m, 65535)], homes := s.homes ++ [n], begun := s.begun ++ [false] } := by rw [hs2]; unfold predG hadOr; rw [if_neg hin]
  have HS3 := Lib.hid hs3
  have HIN := Lib.hid hin
  clear hs2 hin hs3
  generalize placeOf (s2.preds.map called) (x, m) = at_ at HR HAT HPL
  refine wp_region_held_drew (S := (fun w' => w'.cell? ⟨I.g, 6, none⟩ = some (.map (some I.mp)) ∧ w'.cell? ⟨gp, 0, none⟩ = some (.string x) ∧ w'.cell? ⟨gp, 1, none⟩ = some (.int .i64 m) ∧ w'.cell? ⟨gk, 0, none⟩ = some (.string x) ∧ w'.cell? ⟨gk, 1, none⟩ = some (.int .i64 m))) (by kernel_rfl) ?_ (fun hHeld => ?_)
  ·exact ⟨q6, x0, x1, y0, y1⟩
  have HK1d : Hid (Wh w0 w1.drew I ⟨va, vf, .slice A3 s.preds.length c3, vc, vh, vb⟩ s cd) := Lib.hid (HK1.out.drewN 1)
  have X1d := Lib.hid X1.out.drew
  have Y1d := Lib.hid Y1.out.drew
  have HF1d : Hid (WhF w w1.drew I ⟨va, vf, .slice A3 s.preds.length c3, vc, vh, vb⟩ ⟨va, vf, .slice A3 s.preds.length c3, vc, vh, vb⟩) := Lib.hid (HF1.out.drewN 1)
  clear q2 q6 x0 x1 y0 y1 HK1 X1 Y1 HF1
  generalize w1.drew = w2 at HK1d X1d Y1d HF1d hHeld ⊢
  have q2 := HK1d.out.box.cell 2
  have HS2 := Lib.hid hHeld
  refine tkH (i := 0) (v := ?_) rfl (fun _ _ _ h => h) (Or.inl ⟨by kernel_rfl, ?_⟩) hHeld ?_
  rotate_left
  ·(intro w hSw; (try dsimp only at hSw); go_simp; try with_reducible rfl)
  try simp only [qA, qB, qC, Act.put, qD, qE, qF]
  refine tkH (i := 1) (v := ?_) rfl (fun _ _ _ h => h) (Or.inl ⟨by kernel_rfl, ?_⟩) hHeld ?_
  rotate_left
  ·(intro w hSw; (try dsimp only at hSw); go_simp; try with_reducible rfl)
  try simp only [qA, qB, qC, Act.put, qD, qE, qF]
  refine tkH (i := 2) (v := ?_) rfl (fun _ _ _ h => h) (Or.inl ⟨by kernel_rfl, ?_⟩) hHeld ?_
  rotate_left
  ·(intro w hSw; (try dsimp only at hSw); go_simp; try with_reducible rfl)
  try simp only [qA, qB, qC, Act.put, qD, qE, qF]
  refine tkH (i := 3) (v := ?_) rfl (fun _ _ _ h => h) (Or.inl ⟨by kernel_rfl, ?_⟩) hHeld ?_
  rotate_left
  ·(intro w hSw; (try dsimp only at hSw); go_simp; try with_reducible rfl)
  try simp only [qA, qB, qC, Act.put, qD, qE, qF]
  refine tkH (i := 4) (v := ?_) rfl (fun _ _ _ h => h) (Or.inl ⟨by kernel_rfl, ?_⟩) hHeld ?_
  rotate_left
  ·(intro w hSw; (try dsimp only at hSw); go_simp; try with_reducible rfl)
  try simp only [qA, qB, qC, Act.put, qD, qE, qF]
  refine tkH (i := 5) (v := ?_) rfl (fun _ _ _ h => h) (Or.inl ⟨by kernel_rfl, ?_⟩) hHeld ?_
  rotate_left
  ·(intro w hSw; (try dsimp only at hSw); go_simp; try with_reducible rfl)
  try simp only [qA, qB, qC, Act.put, qD, qE, qF]
  refine tkH (i := 6) (v := ?_) rfl (fun _ _ _ h => h) (Or.inl ⟨by kernel_rfl, ?_⟩) hHeld ?_
  rotate_left
  ·(intro w hSw; (try dsimp only at hSw); go_simp; try with_reducible rfl)
  try simp only [qA, qB, qC, Act.put, qD, qE, qF]
  refine tkH (i := 7) (v := ?_) rfl (fun _ _ _ h => h) (Or.inl ⟨by kernel_rfl, ?_⟩) hHeld ?_
  rotate_left
  ·(intro w hSw; (try dsimp only at hSw); go_simp; try with_reducible rfl)
  try simp only [qA, qB, qC, Act.put, qD, qE, qF]
  refine tkH (i := 8) (v := ?_) rfl (fun _ _ _ h => h) (Or.inl ⟨by kernel_rfl, ?_⟩) hHeld ?_
  rotate_left
  ·(intro w hSw; (try dsimp only at hSw); go_simp; try with_reducible rfl)
  try simp only [qA, qB, qC, Act.put, qD, qE, qF]
  refine tkH (i := 9) (v := ?_) rfl (fun _ _ _ h => h) (Or.inl ⟨by kernel_rfl, ?_⟩) hHeld ?_
  rotate_left
  ·(intro w hSw; (try dsimp only at hSw); go_simp; try with_reducible rfl)
  try simp only [qA, qB, qC, Act.put, qD, qE, qF]
  refine tkH (i := 11) (v := ?_) rfl (fun _ _ _ h => h) (Or.inl ⟨by kernel_rfl, ?_⟩) hHeld ?_
  rotate_left
  ·(intro w hSw; (try dsimp only at hSw); go_simp; try with_reducible rfl)
  try simp only [qA, qB, qC, Act.put, qD, qE, qF]
  refine tkH (i := 12) (v := ?_) rfl (fun _ _ _ h => h) (Or.inl ⟨by kernel_rfl, ?_⟩) hHeld ?_
  rotate_left
  ·(intro w hSw; (try dsimp only at hSw); go_simp; try with_reducible rfl)
  try simp only [qA, qB, qC, Act.put, qD, qE, qF]
  refine tkH (i := 13) (v := ?_) rfl (fun _ _ _ h => h) (Or.inl ⟨by kernel_rfl, ?_⟩) hHeld ?_
  rotate_left
  ·(intro w hSw; (try dsimp only at hSw); go_simp; try with_reducible rfl)
  try simp only [qA, qB, qC, Act.put, qD, qE, qF]
  refine tkH (i := 14) (v := ?_) rfl (fun _ _ _ h => h) (Or.inl ⟨by kernel_rfl, ?_⟩) hHeld ?_
  rotate_left
  ·(intro w hSw; (try dsimp only at hSw); go_simp; try with_reducible rfl)
  try simp only [qA, qB, qC, Act.put, qD, qE, qF]
  refine tkH (i := 15) (v := ?_) rfl (fun _ _ _ h => h) (Or.inl ⟨by kernel_rfl, ?_⟩) hHeld ?_
  rotate_left
  ·(intro w hSw; (try dsimp only at hSw); go_simp; try with_reducible rfl)
  try simp only [qA, qB, qC, Act.put, qD, qE, qF]
  refine wpAnyH_ready (rs := [10]) (by kernel_rfl) (by simp) ?_
  refine AllReadyH.cons (o := _) rfl (fun K hK => ?_) AllReadyH.nil
  go_simp
  refine hK.out _ _ ?_ (fun hHeld => ?_)
  ·exact HS2.out
  clear hK K
  try simp only [qA, qB, qC, Act.put, qD, qE, qF]
  refine wpAnyH_ready (rs := [16]) (by kernel_rfl) (by simp) ?_
  refine AllReadyH.cons (o := _) rfl (fun K hK => ?_) AllReadyH.nil
  go_simp
  go_at_call 81; refine (HM.out _ HK1d.out).mono ?_; rintro e3 w3 h3; obtain ⟨v6, rfl, hmn⟩ := MetW.of_no HIN.out h3; clear h3; obtain ⟨A6, c6, hv6, _⟩ := own_form hmn.own; rw [show (s.preds.map called ++ [(x, m)]).length = s.preds.length + 1 by simp] at hv6; subst hv6; obtain ⟨hk4, hf4, z2, z2f⟩ := HK1d.out.putp hmn; have HK4 := Lib.hid hk4; have HF4 := Lib.hid hf4; have HM3 := Lib.hid hmn; clear hk4 hf4 hmn; have X4 := Lib.hid (HF4.out.keep X1d.out AX.out).1; have Y4 := Lib.hid (HF4.out.keep Y1d.out AY.out).1; have HF3 := Lib.hid (WhF.appp (I := I) (K := ⟨va, vf, .slice A3 s.preds.length c3, vc, vh, vb⟩) HM3.out); have X3 := Lib.hid (HF3.out.keep X1d.out AX.out).1; have Y3 := Lib.hid (HF3.out.keep Y1d.out AY.out).1; have HS3 := Lib.hid (show _ ∧ _ ∧ _ ∧ _ ∧ _ from ⟨(by have h := HK4.out.box.cell 6; rw [World.cell?_setCell_other _ _ _ _ (by simp)] at h; exact h), X3.out.cell 0, X3.out.cell 1, Y3.out.cell 0, Y3.out.cell 1⟩); have HS4 := Lib.hid (show _ ∧ _ ∧ _ ∧ _ ∧ _ from ⟨HK4.out.box.cell 6, X4.out.cell 0, X4.out.cell 1, Y4.out.cell 0, Y4.out.cell 1⟩)
  refine hK.out _ _ ?_ (fun hHeld => ?_)
  ·exact HS3.out
  clear hK K
  try simp only [qA, qB, qC, Act.put, qD, qE, qF]
  refine tkH (i := 17) (v := ?_) rfl (fun _ _ _ h => h) (Or.inl ⟨by kernel_rfl, ?_⟩) hHeld ?_
  rotate_left
  ·(intro w hSw; (try dsimp only at hSw); go_simp; try with_reducible rfl)
  try simp only [qA, qB, qC, Act.put, qD, qE, qF]
  refine tkH (i := 18) (v := ?_) rfl (fun _ _ _ h => h) (Or.inl ⟨by kernel_rfl, ?_⟩) hHeld ?_
  rotate_left
  ·(intro w hSw; (try dsimp only at hSw); go_simp; try with_reducible rfl)
  try simp only [qA, qB, qC, Act.put, qD, qE, qF]
  refine tkH (i := 19) (v := ?_) rfl (fun _ _ _ h => h) (Or.inl ⟨by kernel_rfl, ?_⟩) hHeld ?_
  rotate_left
  ·(intro w hSw; (try dsimp only at hSw); go_simp; try with_reducible rfl)
  try simp only [qA, qB, qC, Act.put, qD, qE, qF]
  refine wpAnyH_ready (rs := [20]) (by kernel_rfl) (by simp) ?_
  refine AllReadyH.cons (o := _) rfl (fun K hK => ?_) AllReadyH.nil
  go_simp
  refine hK.out _ _ ?_ (fun hHeld => ?_)
  ·exact HS4.out
  clear hK K
  try simp only [qA, qB, qC, Act.put, qD, qE, qF]
  refine wpAnyH_done (by kernel_rfl) ?_ _
  obtain ⟨w4, hw4⟩ : ∃ w4, w3.setCell ⟨I.g, 2, none⟩ (.slice A6 (s.preds.length + 1) c6) = w4 := ⟨_, rfl⟩
  rw [hw4] at HK4 HF4 X4 Y4 ⊢
  clear hw4 z2 z2f HM HM3 HF3 X3 Y3 HS2 HS3 HS4 hHeld q2
  have HAP5 := Lib.hid (HF4.out.keep X1d.out AX.out).2
  have HAQ5 := Lib.hid (HF4.out.keep Y1d.out AY.out).2
  have HF5 := Lib.hid (HF1d.out.trans HF4.out)
  clear HF4 HF1d HK1d X1d Y1d AX AY
  obtain ⟨A7, c7, hvh, _⟩ := own_form HK4.out.r.rh
  obtain ⟨A8, c8, hvb, _⟩ := own_form HK4.out.r.rb
  simp only at hvh hvb
  subst hvh hvb
  have HHB : Hid (s.homes.length = s.preds.length ∧ s.begun.length = s.preds.length) := Lib.hid hev
  have hlt : (s.homes.length : Int) < ((s.preds.length + 1 : Nat) : Int) := by have := HHB.out.1; omega
  have q2 := HK4.out.box.cell 2
  have q7 := HK4.out.box.cell 7
  go_upto_region 3 with (fail)
  go_quiet (fail)
  obtain ⟨w5, hw5⟩ : ∃ w5, w4.drewN nq = w5 := ⟨_, rfl⟩
  have HK5 := Lib.hid (HK4.out.drewN nq)
  have X5 := Lib.hid (X4.out.drewN nq)
  have Y5 := Lib.hid (Y4.out.drewN nq)
  have HF6 := Lib.hid (HF5.out.drewN nq)
  rw [hw5] at HK5 X5 Y5 HF6 ⊢
  clear hw5 q2 q7 HK4 X4 Y4 HF5
  have q7 := HK5.out.box.cell 7
  have q8 := HK5.out.box.cell 8
  have hl7 : s.homes.length ≤ 1000000 := by have := HHB.out.1; omega
  have hl8 : s.begun.length ≤ 1000000 := by have := HHB.out.2; omega
  have o1 : ∀ u ∈ [Value.int .i64 n], u.oneCell' = true := by intro u hu; simp only [List.mem_cons, List.not_mem_nil, or_false] at hu; subst hu; rfl
  have o2 : ∀ u ∈ [Value.bool false], u.oneCell' = true := by intro u hu; simp only [List.mem_cons, List.not_mem_nil, or_false] at hu; subst hu; rfl
  go_upto_region 4 with (fail)
  go_cut [] (fun wc => CutE w0 w wc I ⟨va, vf, .slice A3 s.preds.length c3, vc, .slice A7 s.homes.length c7, .slice A8 s.begun.length c8⟩ va vf vc (.slice A6 (s.preds.length + 1) c6) s2 cd gp gk x m e)
  case first =>
   refine wp_region_T 17 (fun w' => w'.cell? ⟨I.g, 7, none⟩ = some (.slice A7 s.homes.length c7) ∧ w'.cell? ⟨I.g, 8, none⟩ = some (.slice A8 s.begun.length c8)) (by kernel_rfl) ?_ (fun hHeld => ?_)
   ·exact ⟨q7, q8⟩
   have HK6 := Lib.hid (HK5.out.drewN 1)
   have X6 := Lib.hid (X5.out.drewN 1)
   have Y6 := Lib.hid (Y5.out.drewN 1)
   have HF7 := Lib.hid (HF6.out.drewN 1)
   change wpAnyT _ _ _ _ _ _ _ _ _ (w5.drewN 1)
   replace hHeld : (w5.drewN 1).cell? ⟨I.g, 7, none⟩ = some (.slice A7 s.homes.length c7) ∧ (w5.drewN 1).cell? ⟨I.g, 8, none⟩ = some (.slice A8 s.begun.length c8) := hHeld
   clear q7 q8
   generalize w5.drewN 1 = w6 at HK6 X6 Y6 HF7 hHeld ⊢
   refine tP (i := 0) (v := ?_) rfl ?_ ?_
   rotate_left
   ·(intro w hSw; (try dsimp only at hSw); go_simp; try with_reducible rfl)
   try simp only [qA, qB, qC, Act.put, qD, qE, qF]
   refine tP (i := 1) (v := ?_) rfl ?_ ?_
   rotate_left
   ·(intro w hSw; (try dsimp only at hSw); go_simp; try with_reducible rfl)
   try simp only [qA, qB, qC, Act.put, qD, qE, qF]
   refine tP (i := 2) (v := ?_) rfl ?_ ?_
   rotate_left
   ·(intro w hSw; (try dsimp only at hSw); go_simp; try with_reducible rfl)
   try simp only [qA, qB, qC, Act.put, qD, qE, qF]
   refine tP (i := 3) (v := ?_) rfl ?_ ?_
   rotate_left
   ·(intro w hSw; (try dsimp only at hSw); go_simp; try with_reducible rfl)
   try simp only [qA, qB, qC, Act.put, qD, qE, qF]
   refine tP (i := 4) (v := ?_) rfl ?_ ?_
   rotate_left
   ·(intro w hSw; (try dsimp only at hSw); go_simp; try with_reducible rfl)
   try simp only [qA, qB, qC, Act.put, qD, qE, qF]
   refine tS (i := 5) (v := ?_) rfl ?_ hHeld ?_
   rotate_left
   ·(intro w hSw; (try dsimp only at hSw); go_simp; try with_reducible rfl)
   try simp only [qA, qB, qC, Act.put, qD, qE, qF]
   refine tP (i := 6) (v := ?_) rfl ?_ ?_
   rotate_left
   ·(intro w hSw; (try dsimp only at hSw); go_simp; try with_reducible rfl)
   try simp only [qA, qB, qC, Act.put, qD, qE, qF]
   refine tP (i := 9) (v := ?_) rfl ?_ ?_
   rotate_left
   ·(intro w hSw; (try dsimp only at hSw); go_simp; try with_reducible rfl)
   try simp only [qA, qB, qC, Act.put, qD, qE, qF]
   refine tP (i := 10) (v := ?_) rfl ?_ ?_
   rotate_left
   ·(intro w hSw; (try dsimp only at hSw); go_simp; try with_reducible rfl)
   try simp only [qA, qB, qC, Act.put, qD, qE, qF]
   refine tP (i := 11) (v := ?_) rfl ?_ ?_
   rotate_left
   ·(intro w hSw; (try dsimp only at hSw); go_simp; try with_reducible rfl)
   try simp only [qA, qB, qC, Act.put, qD, qE, qF]
   refine tS (i := 12) (v := ?_) rfl ?_ hHeld ?_
   rotate_left
   ·(intro w hSw; (try dsimp only at hSw); go_simp; try with_reducible rfl)
   try simp only [qA, qB, qC, Act.put, qD, qE, qF]
   refine wpAnyT_ready (rs := [7, 13]) (by kernel_rfl) (by simp) ?_
   refine AllT.cons (o := _) rfl (fun K hK => ?_) ?_
   ·go_simp
    refine hK.out _ _ (fun _ => ?_) (fun hHeld2 => ?_)
    ·exact ⟨(HK6.out.alloc _).box.cell 7, (HK6.out.alloc _).box.cell 8⟩
    replace hHeld := hHeld2 (by decide)
    clear hHeld2 hK K
    try simp only [qA, qB, qC, Act.put, qD, qE, qF]
    refine wpAnyT_ready (rs := [8, 13]) (by kernel_rfl) (by simp) ?_
    refine AllT.cons (o := _) rfl (fun K hK => ?_) ?_
    ·have hA := HK6.out.alloc (.cells #[.int .i64 n] 3)
     have bI := Box.new w6 3 #[.int .i64 n]
     obtain ⟨v7, w7, hr7, ha7⟩ := app_box slIntL hA.r.rh [.int .i64 n] bI rfl o1 hl7 hA.r.below.size 53
     have bx7 := hA.box.fr (S := fun b => (Value.slice A7 s.homes.length c7).ownBlock = some b) ha7.out.fr (fun e => own_ne_box hA.r.rh hA.box (by decide) _ e rfl)
     have rr7 := hA.r.apph ha7.out
     have hb8 := alloc_below w7 (.cells #[.bool false] 4)
     have rr8 := rr7.up hb8
     obtain ⟨v9, w9, hr9, ha9⟩ := app_box slBoolL rr8.rb [.bool false] (Box.new w7 4 #[.bool false]) rfl o2 hl8 rr8.below.size 73
     have HX8 := Lib.hid (bx7.below hb8 bx7.lt)
     obtain ⟨A9, c9, hv7⟩ := ha7.out.form
     obtain ⟨A10, c10, hv9⟩ := ha9.out.form
     subst hv7 hv9
     obtain ⟨k9, f9, u1, u2, u3, u4⟩ := two_puts hA ha7.out hb8 ha9.out
     have HX7 := Lib.hid bx7
     have HR7 := Lib.hid hr7
     have HR9 := Lib.hid hr9
     have HE : Hid (CutE w0 w ((w9.setCell ⟨I.g, 7, none⟩ (.slice A9 (s.homes.length + 1) c9)).setCell ⟨I.g, 8, none⟩ (.slice A10 (s.begun.length + 1) c10)) I ⟨va, vf, .slice A3 s.preds.length c3, vc, .slice A7 s.homes.length c7, .slice A8 s.begun.length c8⟩ va vf vc (.slice A6 (s.preds.length + 1) c6) s2 cd gp gk x m e) := Lib.hid ⟨_, _, by rw [HS3.out]; exact k9, (HF7.out.trans (WhF.below (alloc_below w6 (.cells #[.int .i64 n] 3)))).trans f9, (f9.keep (X6.out.alloc _) HAP5.out).1, (f9.keep (Y6.out.alloc _) HAQ5.out).1⟩
     clear k9 f9 ha7 ha9 rr7 hA bI hr7 hr9 hb8 bx7 rr8
     simp only [World.size_alloc] at HR7 HR9
     refine step_of_append HR7.out rfl _ _ rfl rfl rfl ?_
     refine hK.out _ _ (fun _ => ?_) (fun hHeld2 => ?_)
     ·exact ⟨HX7.out.cell 7, HX7.out.cell 8⟩
     replace hHeld := hHeld2 (by decide)
     clear hHeld2 hK K
     try simp only [qA, qB, qC, Act.put, qD, qE, qF]
     refine wpAnyT_ready (rs := [13]) (by kernel_rfl) (by simp) ?_
     refine AllT.cons (o := _) rfl (fun K hK => ?_) AllT.nil
     go_simp
     refine hK.out _ _ (fun _ => ?_) (fun hHeld2 => ?_)
     ·exact ⟨HX8.out.cell 7, HX8.out.cell 8⟩
     replace hHeld := hHeld2 (by decide)
     clear hHeld2 hK K
     try simp only [qA, qB, qC, Act.put, qD, qE, qF]
     refine wpAnyT_ready (rs := [14]) (by kernel_rfl) (by simp) ?_
     refine AllT.cons (o := _) rfl (fun K hK => ?_) AllT.nil
     refine step_of_append HR9.out rfl _ _ rfl rfl rfl ?_
     refine hK.out _ _ (fun _ => ?_) (fun hHeld2 => ?_)
     ·exact ⟨u1, u3⟩
     replace hHeld := hHeld2 (by decide)
     clear hHeld2 hK K
     try simp only [qA, qB, qC, Act.put, qD, qE, qF]
     refine tP (i := 15) (v := ?_) rfl ?_ ?_
     rotate_left
     ·(intro w hSw; (try dsimp only at hSw); go_simp; try with_reducible rfl)
     try simp only [qA, qB, qC, Act.put, qD, qE, qF]
     refine tP (i := 16) (v := ?_) rfl ?_ ?_
     rotate_left
     ·(intro w hSw; (try dsimp only at hSw); go_simp; try with_reducible rfl)
     try simp only [qA, qB, qC, Act.put, qD, qE, qF]
     refine wpAnyT_ready (rs := [17]) (by kernel_rfl) (by simp) ?_
     refine AllT.cons (o := _) rfl (fun K hK => ?_) AllT.nil
     go_simp
     refine hK.out _ _ (fun h => absurd h (by decide)) (fun _ => ?_)
     clear hK K
     try simp only [qA, qB, qC, Act.put, qD, qE, qF]
     refine tP (i := 18) (v := ?_) rfl ?_ ?_
     rotate_left
     ·(intro w hSw; (try dsimp only at hSw); go_simp; try with_reducible rfl)
     try simp only [qA, qB, qC, Act.put, qD, qE, qF]
     refine tP (i := 19) (v := ?_) rfl ?_ ?_
     rotate_left
     ·(intro w hSw; (try dsimp only at hSw); go_simp; try with_reducible rfl)
     try simp only [qA, qB, qC, Act.put, qD, qE, qF]
     refine wpAnyT_ready (rs := [20]) (by kernel_rfl) (by simp) ?_
     refine AllT.cons (o := _) rfl (fun K hK => ?_) AllT.nil
     go_simp
     refine hK.out _ _ (fun h => absurd h (by decide)) (fun _ => ?_)
     clear hK K
     try simp only [qA, qB, qC, Act.put, qD, qE, qF]
     refine wpAnyT_done (by kernel_rfl) ?_ _
     go_wp2
     go_meet
     exact HE.out
    refine AllT.cons (o := _) rfl (fun K hK => ?_) ?_
    ·go_simp
     refine hK.out _ _ (fun _ => ?_) (fun hHeld2 => ?_)
     ·exact ⟨((HK6.out.alloc _).alloc _).box.cell 7, ((HK6.out.alloc _).alloc _).box.cell 8⟩
     replace hHeld := hHeld2 (by decide)
     clear hHeld2 hK K
     try simp only [qA, qB, qC, Act.put, qD, qE, qF]
     refine wpAnyT_ready (rs := [8]) (by kernel_rfl) (by simp) ?_
     refine AllT.cons (o := _) rfl (fun K hK => ?_) AllT.nil
     have hB := (HK6.out.alloc (.cells #[.int .i64 n] 3)).alloc (.cells #[.bool false] 4)
     have bI := (Box.new w6 3 #[.int .i64 n]).alloc (.cells #[.bool false] 4)
     have bB := Box.new (w6.alloc (.cells #[.int .i64 n] 3)) 4 #[.bool false]
     obtain ⟨v7, w7, hr7, ha7⟩ := app_box slIntL hB.r.rh [.int .i64 n] bI rfl o1 hl7 hB.r.below.size 53
     have bx7 := hB.box.fr (S := fun b => (Value.slice A7 s.homes.length c7).ownBlock = some b) ha7.out.fr (fun e => own_ne_box hB.r.rh hB.box (by decide) _ e rfl)
     have rr7 := hB.r.apph ha7.out
     have hb8 := Below.refl w7.heap.size w7
     have bB7 := bB.fr ha7.out.fr (fun e => own_ne_box hB.r.rh bB (by decide) _ e rfl)
     obtain ⟨v9, w9, hr9, ha9⟩ := app_box slBoolL rr7.rb [.bool false] bB7 rfl o2 hl8 rr7.below.size 73
     have HX8 := Lib.hid bx7
     obtain ⟨A9, c9, hv7⟩ := ha7.out.form
     obtain ⟨A10, c10, hv9⟩ := ha9.out.form
     subst hv7 hv9
     obtain ⟨k9, f9, u1, u2, u3, u4⟩ := two_puts hB ha7.out hb8 ha9.out
     have HX7 := Lib.hid bx7
     have HR7 := Lib.hid hr7
     have HR9 := Lib.hid hr9
     have HE : Hid (CutE w0 w ((w9.setCell ⟨I.g, 7, none⟩ (.slice A9 (s.homes.length + 1) c9)).setCell ⟨I.g, 8, none⟩ (.slice A10 (s.begun.length + 1) c10)) I ⟨va, vf, .slice A3 s.preds.length c3, vc, .slice A7 s.homes.length c7, .slice A8 s.begun.length c8⟩ va vf vc (.slice A6 (s.preds.length + 1) c6) s2 cd gp gk x m e) := Lib.hid ⟨_, _, by rw [HS3.out]; exact k9, (HF7.out.trans (WhF.below (two_below w6 (.cells #[.int .i64 n] 3) (.cells #[.bool false] 4)))).trans f9, (f9.keep ((X6.out.alloc _).alloc _) HAP5.out).1, (f9.keep ((Y6.out.alloc _).alloc _) HAQ5.out).1⟩
     clear k9 f9 ha7 ha9 rr7 hB bI hr7 hr9 hb8 bx7 bB bB7
     simp only [World.size_alloc] at HR7 HR9
     refine step_of_append HR7.out rfl _ _ rfl rfl rfl ?_
     refine hK.out _ _ (fun _ => ?_) (fun hHeld2 => ?_)
     ·exact ⟨HX7.out.cell 7, HX7.out.cell 8⟩
     replace hHeld := hHeld2 (by decide)
     clear hHeld2 hK K
     try simp only [qA, qB, qC, Act.put, qD, qE, qF]
     refine wpAnyT_ready (rs := [14]) (by kernel_rfl) (by simp) ?_
     refine AllT.cons (o := _) rfl (fun K hK => ?_) AllT.nil
     refine step_of_append HR9.out rfl _ _ rfl rfl rfl ?_
     refine hK.out _ _ (fun _ => ?_) (fun hHeld2 => ?_)
     ·exact ⟨u1, u3⟩
     replace hHeld := hHeld2 (by decide)
     clear hHeld2 hK K
     try simp only [qA, qB, qC, Act.put, qD, qE, qF]
     refine tP (i := 15) (v := ?_) rfl ?_ ?_
     rotate_left
     ·(intro w hSw; (try dsimp only at hSw); go_simp; try with_reducible rfl)
     try simp only [qA, qB, qC, Act.put, qD, qE, qF]
     refine tP (i := 16) (v := ?_) rfl ?_ ?_
     rotate_left
     ·(intro w hSw; (try dsimp only at hSw); go_simp; try with_reducible rfl)
     try simp only [qA, qB, qC, Act.put, qD, qE, qF]
     refine wpAnyT_ready (rs := [17]) (by kernel_rfl) (by simp) ?_
     refine AllT.cons (o := _) rfl (fun K hK => ?_) AllT.nil
     go_simp
     refine hK.out _ _ (fun h => absurd h (by decide)) (fun _ => ?_)
     clear hK K
     try simp only [qA, qB, qC, Act.put, qD, qE, qF]
     refine tP (i := 18) (v := ?_) rfl ?_ ?_
     rotate_left
     ·(intro w hSw; (try dsimp only at hSw); go_simp; try with_reducible rfl)
     try simp only [qA, qB, qC, Act.put, qD, qE, qF]
     refine tP (i := 19) (v := ?_) rfl ?_ ?_
     rotate_left
     ·(intro w hSw; (try dsimp only at hSw); go_simp; try with_reducible rfl)
     try simp only [qA, qB, qC, Act.put, qD, qE, qF]
     refine wpAnyT_ready (rs := [20]) (by kernel_rfl) (by simp) ?_
     refine AllT.cons (o := _) rfl (fun K hK => ?_) AllT.nil
     go_simp
     refine hK.out _ _ (fun h => absurd h (by decide)) (fun _ => ?_)
     clear hK K
     try simp only [qA, qB, qC, Act.put, qD, qE, qF]
     refine wpAnyT_done (by kernel_rfl) ?_ _
     go_wp2
     go_meet
     exact HE.out
    exact AllT.nil
   refine AllT.cons (o := _) rfl (fun K hK => ?_) ?_
   ·go_simp
    refine hK.out _ _ (fun _ => ?_) (fun hHeld2 => ?_)
    ·exact ⟨(HK6.out.alloc _).box.cell 7, (HK6.out.alloc _).box.cell 8⟩
    replace hHeld := hHeld2 (by decide)
    clear hHeld2 hK K
    try simp only [qA, qB, qC, Act.put, qD, qE, qF]
    refine wpAnyT_ready (rs := [7]) (by kernel_rfl) (by simp) ?_
    refine AllT.cons (o := _) rfl (fun K hK => ?_) AllT.nil
    go_simp
    refine hK.out _ _ (fun _ => ?_) (fun hHeld2 => ?_)
    ·exact ⟨((HK6.out.alloc _).alloc _).box.cell 7, ((HK6.out.alloc _).alloc _).box.cell 8⟩
    replace hHeld := hHeld2 (by decide)
    clear hHeld2 hK K
    try simp only [qA, qB, qC, Act.put, qD, qE, qF]
    refine wpAnyT_ready (rs := [8]) (by kernel_rfl) (by simp) ?_
    refine AllT.cons (o := _) rfl (fun K hK => ?_) AllT.nil
    have hC := (HK6.out.alloc (.cells #[.bool false] 4)).alloc (.cells #[.int .i64 n] 3)
    have bI := Box.new (w6.alloc (.cells #[.bool false] 4)) 3 #[.int .i64 n]
    have bB := (Box.new w6 4 #[.bool false]).alloc (.cells #[.int .i64 n] 3)
    obtain ⟨v7, w7, hr7, ha7⟩ := app_box slIntL hC.r.rh [.int .i64 n] bI rfl o1 hl7 hC.r.below.size 53
    have bx7 := hC.box.fr (S := fun b => (Value.slice A7 s.homes.length c7).ownBlock = some b) ha7.out.fr (fun e => own_ne_box hC.r.rh hC.box (by decide) _ e rfl)
    have rr7 := hC.r.apph ha7.out
    have hb8 := Below.refl w7.heap.size w7
    have bB7 := bB.fr ha7.out.fr (fun e => own_ne_box hC.r.rh bB (by decide) _ e rfl)
    obtain ⟨v9, w9, hr9, ha9⟩ := app_box slBoolL rr7.rb [.bool false] bB7 rfl o2 hl8 rr7.below.size 73
    have HX8 := Lib.hid bx7
    obtain ⟨A9, c9, hv7⟩ := ha7.out.form
    obtain ⟨A10, c10, hv9⟩ := ha9.out.form
    subst hv7 hv9
    obtain ⟨k9, f9, u1, u2, u3, u4⟩ := two_puts hC ha7.out hb8 ha9.out
    have HX7 := Lib.hid bx7
    have HR7 := Lib.hid hr7
    have HR9 := Lib.hid hr9
    have HE : Hid (CutE w0 w ((w9.setCell ⟨I.g, 7, none⟩ (.slice A9 (s.homes.length + 1) c9)).setCell ⟨I.g, 8, none⟩ (.slice A10 (s.begun.length + 1) c10)) I ⟨va, vf, .slice A3 s.preds.length c3, vc, .slice A7 s.homes.length c7, .slice A8 s.begun.length c8⟩ va vf vc (.slice A6 (s.preds.length + 1) c6) s2 cd gp gk x m e) := Lib.hid ⟨_, _, by rw [HS3.out]; exact k9, (HF7.out.trans (WhF.below (two_below w6 (.cells #[.bool false] 4) (.cells #[.int .i64 n] 3)))).trans f9, (f9.keep ((X6.out.alloc _).alloc _) HAP5.out).1, (f9.keep ((Y6.out.alloc _).alloc _) HAQ5.out).1⟩
    clear k9 f9 ha7 ha9 rr7 hC bI hr7 hr9 hb8 bx7 bB bB7
    simp only [World.size_alloc] at HR7 HR9
    refine step_of_append HR7.out rfl _ _ rfl rfl rfl ?_
    refine hK.out _ _ (fun _ => ?_) (fun hHeld2 => ?_)
    ·exact ⟨HX7.out.cell 7, HX7.out.cell 8⟩
    replace hHeld := hHeld2 (by decide)
    clear hHeld2 hK K
    try simp only [qA, qB, qC, Act.put, qD, qE, qF]
    refine wpAnyT_ready (rs := [14]) (by kernel_rfl) (by simp) ?_
    refine AllT.cons (o := _) rfl (fun K hK => ?_) AllT.nil
    refine step_of_append HR9.out rfl _ _ rfl rfl rfl ?_
    refine hK.out _ _ (fun _ => ?_) (fun hHeld2 => ?_)
    ·exact ⟨u1, u3⟩
    replace hHeld := hHeld2 (by decide)
    clear hHeld2 hK K
    try simp only [qA, qB, qC, Act.put, qD, qE, qF]
    refine tP (i := 15) (v := ?_) rfl ?_ ?_
    rotate_left
    ·(intro w hSw; (try dsimp only at hSw); go_simp; try with_reducible rfl)
    try simp only [qA, qB, qC, Act.put, qD, qE, qF]
    refine tP (i := 16) (v := ?_) rfl ?_ ?_
    rotate_left
    ·(intro w hSw; (try dsimp only at hSw); go_simp; try with_reducible rfl)
    try simp only [qA, qB, qC, Act.put, qD, qE, qF]
    refine wpAnyT_ready (rs := [17]) (by kernel_rfl) (by simp) ?_
    refine AllT.cons (o := _) rfl (fun K hK => ?_) AllT.nil
    go_simp
    refine hK.out _ _ (fun h => absurd h (by decide)) (fun _ => ?_)
    clear hK K
    try simp only [qA, qB, qC, Act.put, qD, qE, qF]
    refine tP (i := 18) (v := ?_) rfl ?_ ?_
    rotate_left
    ·(intro w hSw; (try dsimp only at hSw); go_simp; try with_reducible rfl)
    try simp only [qA, qB, qC, Act.put, qD, qE, qF]
    refine tP (i := 19) (v := ?_) rfl ?_ ?_
    rotate_left
    ·(intro w hSw; (try dsimp only at hSw); go_simp; try with_reducible rfl)
    try simp only [qA, qB, qC, Act.put, qD, qE, qF]
    refine wpAnyT_ready (rs := [20]) (by kernel_rfl) (by simp) ?_
    refine AllT.cons (o := _) rfl (fun K hK => ?_) AllT.nil
    go_simp
    refine hK.out _ _ (fun h => absurd h (by decide)) (fun _ => ?_)
    clear hK K
    try simp only [qA, qB, qC, Act.put, qD, qE, qF]
    refine wpAnyT_done (by kernel_rfl) ?_ _
    go_wp2
    go_meet
    exact HE.out
   exact AllT.nil
  case rest =>
  obtain ⟨vh2, vb2, hk2, hf2, hx2, hy2⟩ := hcut
  have HK2 := Lib.hid hk2
  have HF2 := Lib.hid hf2
  have X2 := Lib.hid hx2
  have Y2 := Lib.hid hy2
  clear hk2 hf2 hx2 hy2 q7 q8 HK5 X5 Y5 HF6 HAP5 HAQ5 o1 o2
  have x2 := X2.out.cell 2
  by_cases he : e = 65535
  ·have e1 : (e == 65535) = true := by simpa using he
   have HX : Hid (r = some s2) := Lib.hid (by rw [HR.out, if_pos he])
   clear he
   go_wp2
   go_ret
   exact enW_some HX.out HK2.out HF2.out
  ·have e1 : (e == 65535) = false := by simpa using he
   obtain ⟨gb, cb, hvb⟩ := own_some HK2.out.r.rb (by have := HAT.out; have := HEV.out.2; omega)
   simp only at hvb
   subst hvb
   have q6 := HK2.out.box.cell 6
   have q8 := HK2.out.box.cell 8
   have y0 := Y2.out.cell 0
   have y1 := Y2.out.cell 1
   have hat : at_ < s2.begun.length := by have := HAT.out; have := HEV.out.2; omega
   have hlk := fun nq => ((HK2.out.drewN nq).r.mp.look keyTC uMapCI (x, m) hp).2
   rw [HPL.out] at hlk
   unfold valF at hlk
   simp only [Option.getD_some] at hlk
   have i1 : (at_ : Int) < (s2.begun.length : Int) := by omega
   have i2 : (0 : Int) ≤ (at_ : Int) := by omega
   obtain ⟨c0, c1⟩ := HK2.out.cellb rfl at_ hat
   have HSB := Lib.hid (fun nq => (HK2.out.drewN nq).setb rfl at_ hat true)
   cases hb : s2.begun[at_] with
   | true =>
    rw [hb] at c0
    have HX : Hid (r = none) := Lib.hid (by rw [HR.out, if_neg he, if_pos (by rw [List.getD_eq_getElem?_getD, List.getElem?_eq_getElem hat, hb]; rfl)])
    clear hb he
    go_upto_region 7 with (fail)
    go_quiet (fail)
    go_wp2
    go_ret
    exact enW_none HX.out (HSB.out _).1.r.below
   | false =>
    rw [hb] at c0
    have HX : Hid (r = some { s2 with begun := s2.begun.set at_ true }) := Lib.hid (by rw [HR.out, if_neg he, if_neg (by rw [List.getD_eq_getElem?_getD, List.getElem?_eq_getElem hat, hb]; decide)])
    clear hb he
    go_upto_region 7 with (fail)
    go_quiet (fail)
    go_wp2
    go_ret
    exact enW_some HX.out (HSB.out _).1 ((HF2.out.drewN _).trans (HSB.out _).2)
end Go.Proofs.YtclkdlegogjnbaaGreatDoor
