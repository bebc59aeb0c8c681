/-
 The document's Objects of layer 10 (walk). Condition: at most 50 objects.
-/
import Derived.Test.YtclkdlegogjnbaaGreatDoorR47
import Derived.Test.YtclkdlegogjnbaaGreatDoorR28
namespace Go.Proofs.YtclkdlegogjnbaaGreatDoor
open Go Go.RowKit Go.WideShapes Go.ChangeShapes
set_option linter.unusedVariables false
set_option linter.unusedSimpArgs false
set_option maxRecDepth 100000 in
set_option maxHeartbeats 32000000 in
theorem robjects_any (l : List Ob) (ho : ∀ x ∈ l, ObWf x) (hl : l.length ≤ 50) (qs : List (Value × Value × Value × Value)) (v : Value) (w : World) (hnil : NilOk qs) (hv : ObsAt w v qs l) :
  Calls Tryz.prog 10 #[v] w (RObjsW w (linkOf l)) := by
 obtain ⟨A, c, rfl⟩ := hv.cells.form
 have HO := Lib.hid ho
 have HQC := Lib.hid (fun k hk wr hb => hv.cell hnil k hk wr hb)
 obtain ⟨r, hr⟩ : ∃ r, linkOf l = r := ⟨_, rfl⟩
 have HR := Lib.hid hr
 rw [hr]
 have R0 : Hid (firstErr 0 l = firstErr 0 (l.drop 0)) := Lib.hid rfl
 have HB0 := Lib.hid (alloc_below w (.cells #[.slice none 0 0, .slice none 0 0, .slice none 0 0, .slice none 0 0] 29))
 have X0 := Lib.hid (Box.new w 29 #[.slice none 0 0, .slice none 0 0, .slice none 0 0, .slice none 0 0])
 clear hv ho hr hnil
 go_enter Tryz.func10, Tryz.ntmps10
 go_upto_region 1 with (fail)
 obtain ⟨w0, hw0⟩ : ∃ w0, w.alloc (.cells #[.slice none 0 0, .slice none 0 0, .slice none 0 0, .slice none 0 0] 29) = w0 := ⟨_, rfl⟩
 obtain ⟨gr, hgr⟩ : ∃ gr, w.heap.size = gr := ⟨_, rfl⟩
 have HGR := Lib.hid hgr
 rw [hw0] at HB0 X0 ⊢
 rw [hgr] at X0 ⊢
 clear hw0 hgr
 have F0 : Hid (Below w0.heap.size w0 w0) := Lib.hid (Below.refl _ w0)
 go_wp2
 go_loopw [5, 6] (fun i _ wr => ∃ k : Nat, k ≤ l.length ∧ i = .int .i64 k ∧ Hid (firstErr 0 l = firstErr k (l.drop k)) ∧ Hid (Below w0.heap.size w0 wr)) (fun i _ _ => l.length - (intOf i).toNat)
 case atStart => exact ⟨0, by omega, rfl, R0, F0⟩
 obtain ⟨k, hkl, rfl, HE, HB⟩ := hrel
 clear R0 F0
 by_cases hlt : k < l.length
 case pos =>
  have HBW := Lib.hid (HB0.out.trans (HB.out.mono HB0.out.size))
  obtain ⟨b, off, B1, e1, B2, e2, B3, e3, B4, e4, rfl, d0, d1, d2, d3, hat, _⟩ := HQC.out k hlt wr HBW.out
  have HC := Lib.hid (rcheck_any l[k] (HO.out _ (List.getElem_mem hlt)) _ _ _ _ _ (hat.below HBW.out))
  have HS := Lib.hid (firstErr_step hlt)
  clear hat
  generalize checkOf l[k] = ck at HC HS
  generalize l[k].atoms.length = n1 at d0 HC
  generalize l[k].funs.length = n2 at d1 HC
  generalize l[k].preds.length = n3 at d2 HC
  generalize l[k].code.length = n4 at d3 HC
  by_cases hc : ck = 0
  ·have HE2 : Hid (firstErr 0 l = firstErr (k + 1) (l.drop (k + 1))) := Lib.hid (by rw [HE.out, HS.out, if_pos hc])
   have eb0 : (ck != 0) = false := by rw [bne_eq_false_iff_eq]; exact hc
   clear hc
   go_wp2_with (go_at_call 27; refine HC.out.mono ?_; rintro e w3 ⟨rfl, hb3⟩; have HB3 := Lib.hid (HB.out.trans (hb3.mono HB.out.size)); clear hb3)
   go_roundw
   case rel => exact ⟨k + 1, by omega, by go_num, HE2, HB3⟩
   case measure => simp [intOf]; omega
  ·have HX : Hid (r = (emptyOb, ck, (k : Int))) := Lib.hid (by rw [← HR.out]; exact linkOf_err (by rw [HE.out, HS.out, if_neg hc]))
   have eb0 : (ck != 0) = true := by rw [bne_iff_ne]; exact hc
   clear hc
   go_wp2_with (go_at_call 27; refine HC.out.mono ?_; rintro e w3 ⟨rfl, hb3⟩; have HBn := Lib.hid (HB.out.trans (hb3.mono HB.out.size)); clear hb3; have HB3 := Lib.hid (X0.out.below HBn.out X0.out.lt); have HBB := Lib.hid (HB0.out.trans (HBn.out.mono HB0.out.size)); have b0 := HB3.out.cell 0; have z0 := HB3.out.frozen 0; have b1 := HB3.out.cell 1; have z1 := HB3.out.frozen 1; have b2 := HB3.out.cell 2; have z2 := HB3.out.frozen 2; have b3 := HB3.out.cell 3; have z3 := HB3.out.frozen 3)
   refine ret_store4y (x := .int .i64 ck) (y := .int .i64 k) HB3.out (by intro W c0 c1 c2 c3; simp [results, Tryz.results10, go_sem, c0, c1, c2, c3]) ?_
   intro W hW hF
   exact robjsW_err HX.out (HBB.out.trans (hF.below HBB.out.size (fun k hk => by have := HGR.out; omega)))
 case neg =>
 obtain rfl : k = l.length := by omega
 have hfe : firstErr 0 l = none := by rw [HE.out, List.drop_length]; rfl
 have HFE := Lib.hid hfe
 have HCK := Lib.hid (firstErr_none l 0 hfe)
 have XB0 := Lib.hid (X0.out.below HB.out X0.out.lt)
 have HBN := Lib.hid (HB0.out.trans (HB.out.mono HB0.out.size))
 have R0 : Hid (Ro w (wr.alloc (.cells #[.slice none 0 0, .slice none 0 0, .slice none 0 0, .slice none 0 0] 29)) gr wr.heap.size (.slice none 0 0) (.slice none 0 0) (.slice none 0 0) (.slice none 0 0) emptyOb) := Lib.hid ⟨Box.new _ _ _, XB0.out.alloc _, fun W _ => emptyAt W, HBN.out.alloc HBN.out.size _, by have := HGR.out; omega, HBN.out.size, by have := XB0.out.lt; omega⟩
 go_upto_region 8 with (fail)
 obtain ⟨wN, hwN⟩ : ∃ wN, wr.alloc (.cells #[.slice none 0 0, .slice none 0 0, .slice none 0 0, .slice none 0 0] 29) = wN := ⟨_, rfl⟩
 obtain ⟨go, hgo⟩ : ∃ go, wr.heap.size = go := ⟨_, rfl⟩
 rw [hwN, hgo] at R0
 rw [hwN, hgo]
 clear hwN hgo HB HE XB0 HBN hfe X0 HB0 hkl hlt
 have F0 : Hid (foldJ 0 emptyOb l = foldJ 0 emptyOb (l.drop 0)) := Lib.hid rfl
 have L0 : Hid (emptyOb.atoms.length ≤ 256 * 0 ∧ emptyOb.funs.length ≤ 256 * 0 ∧ emptyOb.preds.length ≤ 64 * 0 ∧ emptyOb.code.length ≤ 1024 * 0) := Lib.hid (by simp [emptyOb])
 go_wp2
 go_loopw [8, 9, 10] (fun i _ _ wr => ∃ (k : Nat) (o : Ob) (va vf vp vc : Value), k ≤ l.length ∧ i = .int .i64 k ∧ Hid (foldJ 0 emptyOb l = foldJ k o (l.drop k)) ∧ Hid (Ro w wr gr go va vf vp vc o) ∧ Hid (o.atoms.length ≤ 256 * k ∧ o.funs.length ≤ 256 * k ∧ o.preds.length ≤ 64 * k ∧ o.code.length ≤ 1024 * k)) (fun i _ _ _ => l.length - (intOf i).toNat)
 case atStart => exact ⟨0, emptyOb, _, _, _, _, by omega, rfl, F0, R0, L0⟩
 obtain ⟨k, o, va, vf, vp, vc, hkl, rfl, HFJ, HRo, HLN⟩ := hrel
 clear F0 R0 L0
 obtain ⟨A1, c1, rfl⟩ := CellsAt.form HRo.out.at_.atoms
 obtain ⟨A2, c2, rfl⟩ := CellsAt.form HRo.out.at_.funs
 obtain ⟨A3, c3, rfl⟩ := CellsAt.form HRo.out.at_.preds
 obtain ⟨A4, c4, rfl⟩ := CellsAt.form HRo.out.at_.code
 by_cases hlt : k < l.length
 case pos =>
  obtain ⟨b, off, B1, e1, B2, e2, B3, e3, B4, e4, rfl, d0, d1, d2, d3, hat, _⟩ := HQC.out k hlt wr HRo.out.below
  have hck := HCK.out _ (List.getElem_mem hlt)
  have hpt := (check_parts hck).1
  have hln := HLN.out
  have hk50 : k ≤ 50 := by omega
  have HC := Lib.hid (fun (W0 : World) (hb : Below wr.heap.size wr W0) => join_any o l[k] hck ⟨by omega, by omega, by omega, by omega⟩ _ _ _ _ _ _ _ _ (JS wr gr go W0) W0 (HRo.out.js hb).1 (HRo.out.js hb).2 (hat.below (HRo.out.below.trans (hb.mono HRo.out.below.size))))
  have HST := Lib.hid (foldJ_step (o := o) hlt)
  have HLEN := Lib.hid (fun o' (h : joinJ o l[k] = some o') => joinJ_len h)
  have i1 : (k : Int) < (l.length : Int) := by omega
  have i2 : (0 : Int) ≤ (k : Int) := by omega
  have HPT := Lib.hid hpt
  clear hat hck hpt
  generalize hj : joinJ o l[k] = rj at HC HST HLEN
  clear hj
  have HPT2 : Hid (l[k].atoms.length ≤ 256 ∧ l[k].funs.length ≤ 256 ∧ l[k].preds.length ≤ 64 ∧ l[k].code.length ≤ 1024) := HPT
  clear HPT
  generalize l[k].atoms.length = n1 at d0 HC HLEN HPT2
  generalize l[k].funs.length = n2 at d1 HC HLEN HPT2
  generalize l[k].preds.length = n3 at d2 HC HLEN HPT2
  generalize l[k].code.length = n4 at d3 HC HLEN HPT2
  have HS : Hid (∀ W : World, Below wr.heap.size wr W → (fun w' => w'.cell? ⟨go, 0, none⟩ = some (.slice A1 o.atoms.length c1) ∧ w'.cell? ⟨go, 1, none⟩ = some (.slice A2 o.funs.length c2) ∧ w'.cell? ⟨go, 2, none⟩ = some (.slice A3 o.preds.length c3) ∧ w'.cell? ⟨go, 3, none⟩ = some (.slice A4 o.code.length c4) ∧ w'.cell? ⟨b, off + k * 4, none⟩ = some (.slice B1 n1 e1) ∧ w'.cell? ⟨b, off + k * 4 + 1, none⟩ = some (.slice B2 n2 e2) ∧ w'.cell? ⟨b, off + k * 4 + 2, none⟩ = some (.slice B3 n3 e3) ∧ w'.cell? ⟨b, off + k * 4 + 3, none⟩ = some (.slice B4 n4 e4)) W) := Lib.hid (fun W hb => ⟨(HRo.out.up hb).box.cell 0, (HRo.out.up hb).box.cell 1, (HRo.out.up hb).box.cell 2, (HRo.out.up hb).box.cell 3, bel_cell d0 hb, bel_cell d1 hb, bel_cell d2 hb, bel_cell d3 hb⟩)
  go_upto_region 11 with (fail)
  clear d0 d1 d2 d3
  go_cut [9, 10] (fun t9 t10 wc => JCut (fun k => k = go ∨ k = gr) wr wc rj t9 t10)
  case first =>
   refine wp_region_noPanic ?_
   refine wp_region_T 10 (fun w' => w'.cell? ⟨go, 0, none⟩ = some (.slice A1 o.atoms.length c1) ∧ w'.cell? ⟨go, 1, none⟩ = some (.slice A2 o.funs.length c2) ∧ w'.cell? ⟨go, 2, none⟩ = some (.slice A3 o.preds.length c3) ∧ w'.cell? ⟨go, 3, none⟩ = some (.slice A4 o.code.length c4) ∧ w'.cell? ⟨b, off + k * 4, none⟩ = some (.slice B1 n1 e1) ∧ w'.cell? ⟨b, off + k * 4 + 1, none⟩ = some (.slice B2 n2 e2) ∧ w'.cell? ⟨b, off + k * 4 + 2, none⟩ = some (.slice B3 n3 e3) ∧ w'.cell? ⟨b, off + k * 4 + 3, none⟩ = some (.slice B4 n4 e4)) (by kernel_rfl) ?_ (fun hHeld => ?_)
   ·exact HS.out _ ⟨rfl, rfl, rfl, Nat.le_refl _, fun _ _ => rfl⟩
   change wpAnyT _ _ _ _ _ _ _ _ _ (wr.drewN 1)
   replace hHeld : (wr.drewN 1).cell? ⟨go, 0, none⟩ = some (.slice A1 o.atoms.length c1) ∧ (wr.drewN 1).cell? ⟨go, 1, none⟩ = some (.slice A2 o.funs.length c2) ∧ (wr.drewN 1).cell? ⟨go, 2, none⟩ = some (.slice A3 o.preds.length c3) ∧ (wr.drewN 1).cell? ⟨go, 3, none⟩ = some (.slice A4 o.code.length c4) ∧ (wr.drewN 1).cell? ⟨b, off + k * 4, none⟩ = some (.slice B1 n1 e1) ∧ (wr.drewN 1).cell? ⟨b, off + k * 4 + 1, none⟩ = some (.slice B2 n2 e2) ∧ (wr.drewN 1).cell? ⟨b, off + k * 4 + 2, none⟩ = some (.slice B3 n3 e3) ∧ (wr.drewN 1).cell? ⟨b, off + k * 4 + 3, none⟩ = some (.slice B4 n4 e4) := hHeld
   have HBd : Hid (Below wr.heap.size wr (wr.drewN 1)) := Lib.hid ⟨rfl, rfl, rfl, Nat.le_refl _, fun _ _ => rfl⟩
   generalize wr.drewN 1 = w2 at HBd hHeld ⊢
   refine tS (i := 0) (v := ?_) rfl ?_ hHeld ?_
   rotate_left
   ·(intro w hSw; (try dsimp only at hSw); go_simp; try with_reducible rfl)
   try simp only [qA, qB, qC, Act.put, qD, qE, qF]
   refine tP (i := 1) (v := ?_) rfl ?_ ?_
   rotate_left
   ·(intro w hSw; (try dsimp only at hSw); go_simp; try with_reducible rfl)
   try simp only [qA, qB, qC, Act.put, qD, qE, qF]
   refine tP (i := 2) (v := ?_) rfl ?_ ?_
   rotate_left
   ·(intro w hSw; (try dsimp only at hSw); go_simp; try with_reducible rfl)
   try simp only [qA, qB, qC, Act.put, qD, qE, qF]
   refine tP (i := 3) (v := ?_) rfl ?_ ?_
   rotate_left
   ·(intro w hSw; (try dsimp only at hSw); go_simp; try with_reducible rfl)
   try simp only [qA, qB, qC, Act.put, qD, qE, qF]
   refine tS (i := 4) (v := ?_) rfl ?_ hHeld ?_
   rotate_left
   ·(intro w hSw; (try dsimp only at hSw); go_simp; try with_reducible rfl)
   try simp only [qA, qB, qC, Act.put, qD, qE, qF]
   refine wpAnyT_ready (rs := [5, 9]) (by kernel_rfl) (by simp) ?_
   refine AllT.cons (o := _) rfl (fun K hK => ?_) ?_
   ·go_simp
    go_at_call 28; refine (HC.out _ HBd.out).mono ?_; rintro e w3 ⟨hb3, U1, m1, f1, U2, m2, f2, U3, m3, f3, U4, m4, f4, rfl, ho⟩; have HOO := Lib.hid ho; have HBe := Lib.hid (HBd.out.trans (hb3.mono HBd.out.size)); clear ho hb3
    refine hK.out _ _ (fun _ => ?_) (fun hHeld2 => ?_)
    ·exact HS.out _ HBe.out
    replace hHeld := hHeld2 (by decide)
    clear hHeld2 hK K
    try simp only [qA, qB, qC, Act.put, qD, qE, qF]
    refine tP (i := 6) (v := ?_) rfl ?_ ?_
    rotate_left
    ·(intro w hSw; (try dsimp only at hSw); go_simp; try with_reducible rfl)
    try simp only [qA, qB, qC, Act.put, qD, qE, qF]
    refine tP (i := 7) (v := ?_) rfl ?_ ?_
    rotate_left
    ·(intro w hSw; (try dsimp only at hSw); go_simp; try with_reducible rfl)
    try simp only [qA, qB, qC, Act.put, qD, qE, qF]
    refine tP (i := 8) (v := ?_) rfl ?_ ?_
    rotate_left
    ·(intro w hSw; (try dsimp only at hSw); go_simp; try with_reducible rfl)
    try simp only [qA, qB, qC, Act.put, qD, qE, qF]
    refine wpAnyT_ready (rs := [9]) (by kernel_rfl) (by simp) ?_
    refine AllT.cons (o := _) rfl (fun K hK => ?_) AllT.nil
    go_simp
    refine hK.out _ _ (fun _ => ?_) (fun hHeld2 => ?_)
    ·exact HS.out _ (HBe.out.alloc HBe.out.size _)
    replace hHeld := hHeld2 (by decide)
    clear hHeld2 hK K
    try simp only [qA, qB, qC, Act.put, qD, qE, qF]
    refine wpAnyT_ready (rs := [10]) (by kernel_rfl) (by simp) ?_
    refine AllT.cons (o := _) rfl (fun K hK => ?_) AllT.nil
    go_simp
    refine hK.out _ _ (fun h => absurd h (by decide)) (fun _ => ?_)
    clear hK K
    try simp only [qA, qB, qC, Act.put, qD, qE, qF]
    refine tP (i := 11) (v := ?_) rfl ?_ ?_
    rotate_left
    ·(intro w hSw; (try dsimp only at hSw); go_simp; try with_reducible rfl)
    try simp only [qA, qB, qC, Act.put, qD, qE, qF]
    refine wpAnyT_done (by kernel_rfl) (NoPanic.normal ?_) _
    go_wp2
    go_meet
    exact jcut_late HBe.out HOO.out (fun k hk => by rcases hk with h | h; exact .inl h; exact .inr (.inl h))
   refine AllT.cons (o := _) rfl (fun K hK => ?_) ?_
   ·go_simp
    refine hK.out _ _ (fun _ => ?_) (fun hHeld2 => ?_)
    ·exact HS.out _ (HBd.out.alloc HBd.out.size _)
    replace hHeld := hHeld2 (by decide)
    clear hHeld2 hK K
    try simp only [qA, qB, qC, Act.put, qD, qE, qF]
    refine wpAnyT_ready (rs := [5]) (by kernel_rfl) (by simp) ?_
    refine AllT.cons (o := _) rfl (fun K hK => ?_) AllT.nil
    go_simp
    go_at_call 28; refine (HC.out _ (HBd.out.alloc HBd.out.size _)).mono ?_; rintro e w3 ⟨hb3, U1, m1, f1, U2, m2, f2, U3, m3, f3, U4, m4, f4, rfl, ho⟩; have HXB := Lib.hid (Box.below (Box.new w2 29 #[.slice none 0 0, .slice none 0 0, .slice none 0 0, .slice none 0 0]) hb3 (Box.lt (Box.new w2 29 #[.slice none 0 0, .slice none 0 0, .slice none 0 0, .slice none 0 0]))); have HOO := Lib.hid ho; have HBe := Lib.hid ((HBd.out.alloc HBd.out.size _).trans (hb3.mono (HBd.out.alloc HBd.out.size _).size)); clear ho hb3
    refine hK.out _ _ (fun _ => ?_) (fun hHeld2 => ?_)
    ·exact HS.out _ HBe.out
    replace hHeld := hHeld2 (by decide)
    clear hHeld2 hK K
    try simp only [qA, qB, qC, Act.put, qD, qE, qF]
    refine tP (i := 6) (v := ?_) rfl ?_ ?_
    rotate_left
    ·(intro w hSw; (try dsimp only at hSw); go_simp; try with_reducible rfl)
    try simp only [qA, qB, qC, Act.put, qD, qE, qF]
    refine tP (i := 7) (v := ?_) rfl ?_ ?_
    rotate_left
    ·(intro w hSw; (try dsimp only at hSw); go_simp; try with_reducible rfl)
    try simp only [qA, qB, qC, Act.put, qD, qE, qF]
    refine tP (i := 8) (v := ?_) rfl ?_ ?_
    rotate_left
    ·(intro w hSw; (try dsimp only at hSw); go_simp; try with_reducible rfl)
    try simp only [qA, qB, qC, Act.put, qD, qE, qF]
    refine wpAnyT_ready (rs := [10]) (by kernel_rfl) (by simp) ?_
    refine AllT.cons (o := _) rfl (fun K hK => ?_) AllT.nil
    have z0 := HXB.out.cell 0
    have z1 := HXB.out.cell 1
    have z2 := HXB.out.cell 2
    have z3 := HXB.out.cell 3
    have y0 := HXB.out.frozen 0
    have y1 := HXB.out.frozen 1
    have y2 := HXB.out.frozen 2
    have y3 := HXB.out.frozen 3
    go_simp
    refine hK.out _ _ (fun h => absurd h (by decide)) (fun _ => ?_)
    clear hK K
    try simp only [qA, qB, qC, Act.put, qD, qE, qF]
    refine tP (i := 11) (v := ?_) rfl ?_ ?_
    rotate_left
    ·(intro w hSw; (try dsimp only at hSw); go_simp; try with_reducible rfl)
    try simp only [qA, qB, qC, Act.put, qD, qE, qF]
    refine wpAnyT_done (by kernel_rfl) (NoPanic.normal ?_) _
    go_wp2
    go_meet
    exact jcut_early HXB.out HBd.out.size (.inr (.inr ⟨HBd.out.size, by simp⟩)) HBe.out HOO.out (fun k hk => by rcases hk with h | h; exact .inl h; exact .inr (.inl h))
   exact AllT.nil
  case rest =>
  obtain ⟨g, U1, m1, f1, U2, m2, f2, U3, m3, f3, U4, m4, f4, rfl, rfl, hxb, hge, hoo, hbb⟩ := hcut
  have HXB := Lib.hid hxb
  have HRn := Lib.hid (HRo.out.up hbb)
  try simp only
  cases rj with
  | none =>
   have HX : Hid (r = (emptyOb, 11, (k : Int))) := Lib.hid (by rw [← HR.out]; exact linkOf_twice HFE.out (by rw [HFJ.out, HST.out]))
   have b0 := HRn.out.bz.cell 0
   have z0 := HRn.out.bz.frozen 0
   have b1 := HRn.out.bz.cell 1
   have z1 := HRn.out.bz.frozen 1
   have b2 := HRn.out.bz.cell 2
   have z2 := HRn.out.bz.frozen 2
   have b3 := HRn.out.bz.cell 3
   have z3 := HRn.out.bz.frozen 3
   go_wp2
   refine ret_store4y (x := .int .i64 11) (y := .int .i64 k) HRn.out.bz (by intro W c0 c1 c2 c3; simp [results, Tryz.results10, go_sem, c0, c1, c2, c3]) ?_
   intro W hW hF
   exact robjsW_err HX.out (HRn.out.below.trans (hF.below HRn.out.below.size (fun k hk => by have := HRn.out.ge.1; omega)))
  | some o' =>
   have HFJ2 : Hid (foldJ 0 emptyOb l = foldJ (k + 1) o' (l.drop (k + 1))) := Lib.hid (by rw [HFJ.out, HST.out])
   have HLN2 : Hid (o'.atoms.length ≤ 256 * (k + 1) ∧ o'.funs.length ≤ 256 * (k + 1) ∧ o'.preds.length ≤ 64 * (k + 1) ∧ o'.code.length ≤ 1024 * (k + 1)) := Lib.hid (by
    have h1 := HLEN.out o' rfl
    have h2 := HPT2.out
    have h3 := HLN.out
    omega)
   have HRm := Lib.hid (HRo.out.next hbb (hoo o' rfl))
   have q0 := HXB.out.cell 0
   have q1 := HXB.out.cell 1
   have q2 := HXB.out.cell 2
   have q3 := HXB.out.cell 3
   have b0 := HRn.out.box.cell 0
   have z0 := HRn.out.box.frozen 0
   have b1 := HRn.out.box.cell 1
   have z1 := HRn.out.box.frozen 1
   have b2 := HRn.out.box.cell 2
   have z2 := HRn.out.box.frozen 2
   have b3 := HRn.out.box.cell 3
   have z3 := HRn.out.box.frozen 3
   clear hoo hbb hxb HST HLEN HPT2
   go_wp2
   go_roundw
   case rel => first | exact ⟨k + 1, o', _, _, _, _, by omega, by go_num, HFJ2, HRm, HLN2⟩ | ((repeat apply Exists.intro); exact ⟨⟨k + 1, o', _, _, _, _, by omega, by go_num, HFJ2, HRm, HLN2⟩, rfl⟩)
   case measure => simp [intOf]; omega
 case neg =>
 obtain rfl : k = l.length := by omega
 have HFO : Hid (foldJ 0 emptyOb l = .ok o) := Lib.hid (by rw [HFJ.out, List.drop_length]; rfl)
 have hln := HLN.out
 have HPM : Hid (o.preds.length ≤ 1000000) := Lib.hid (by omega)
 obtain ⟨wz, hwz⟩ : ∃ wz, wr = wz := ⟨_, rfl⟩
 rw [hwz] at HRo ⊢
 clear hwz HFJ HLN hkl hlt
 have R0 : Hid (unknownJ l o.preds = unknownJ l (o.preds.drop 0)) := Lib.hid rfl
 have B0 : Hid (Below wz.heap.size wz wz) := Lib.hid (Below.refl _ _)
 go_wp2
 go_loopw [11, 12] (fun t _ wr => ∃ (i : Nat), i ≤ o.preds.length ∧ t = .int .i64 i ∧ Hid (unknownJ l o.preds = unknownJ l (o.preds.drop i)) ∧ Hid (Below wz.heap.size wz wr)) (fun t _ _ => o.preds.length - (intOf t).toNat)
 case atStart => exact ⟨0, by omega, rfl, R0, B0⟩
 obtain ⟨i, hil, rfl, HU, HBi⟩ := hrel
 clear R0 B0
 have HR2 := Lib.hid (HRo.out.up HBi.out)
 have p2 := HR2.out.box.cell 2
 by_cases hlt : i < o.preds.length
 case pos =>
  obtain ⟨bp, op, rfl, hb, hc0, hc1, hc2⟩ := predCell HRo.out.at_.preds i hlt
  have e2 := (HBi.out.cell (p := ⟨bp, op + i * 3 + 2, none⟩) hb).trans hc2
  have HBP := Lib.hid hb
  have HD0 := Lib.hid hc0
  have HD1 := Lib.hid hc1
  have HSK := Lib.hid (fun h => unknownJ_skip (l := l) hlt h)
  have HHT := Lib.hid (fun h1 h2 => unknownJ_hit (l := l) hlt h1 h2)
  have HHH : Hid (∀ k (hk : k < l.length), (∀ j (hj : j < l.length), j < k → findFrom (called o.preds[i]).1 (called o.preds[i]).2 0 l[j].preds < 0) → 0 ≤ findFrom (called o.preds[i]).1 (called o.preds[i]).2 0 l[k].preds → homeOf l (called o.preds[i]) = (k : Int)) := Lib.hid (fun k hk hm hx => home_hit hk hm hx)
  have HHM : Hid ((∀ j (hj : j < l.length), findFrom (called o.preds[i]).1 (called o.preds[i]).2 0 l[j].preds < 0) → homeOf l (called o.preds[i]) = -1) := Lib.hid (fun hm => home_miss hm)
  have i1 : (i : Int) < (o.preds.length : Int) := by omega
  have i2 : (0 : Int) ≤ (i : Int) := by omega
  unfold called at HSK HHT HHH HHM
  simp only at HSK HHT HHH HHM
  generalize o.preds[i].1 = s at HD0 HSK HHT HHH HHM
  generalize o.preds[i].2.1 = m at HD1 HSK HHT HHH HHM
  clear hb hc0 hc1 hc2
  by_cases he : o.preds[i].2.2 = 65535
  case neg =>
   have eb : (o.preds[i].2.2 != 65535) = true := by rw [bne_iff_ne]; exact he
   have HU2 : Hid (unknownJ l o.preds = unknownJ l (o.preds.drop (i + 1))) := Lib.hid (by rw [HU.out]; exact HSK.out (.inl he))
   generalize o.preds[i].2.2 = ee at e2 eb
   clear he HSK HHT HHH HHM
   go_wp2
   go_roundw
   case rel => first | exact ⟨i + 1, by omega, by go_num, HU2, HBi⟩ | ((repeat apply Exists.intro); exact ⟨⟨i + 1, by omega, by go_num, HU2, HBi⟩, rfl⟩)
   case measure => simp [intOf]; omega
  have eb : (o.preds[i].2.2 != 65535) = false := by rw [bne_eq_false_iff_eq]; exact he
  have HHT2 := Lib.hid (fun h => HHT.out he h)
  have HSK2 := Lib.hid (fun h => HSK.out (.inr h))
  generalize o.preds[i].2.2 = ee at e2 eb
  clear he HSK HHT
  have M0 : Hid (∀ j (hj : j < l.length), j < 0 → findFrom s m 0 l[j].preds < 0) := Lib.hid (fun j _ h => absurd h (by omega))
  have C0 : Hid (Below wr.heap.size wr wr) := Lib.hid (Below.refl _ _)
  go_upto_region 19 with (fail)
  obtain ⟨wy, hwy⟩ : ∃ wy, wr = wy := ⟨_, rfl⟩
  rw [hwy] at HBi HR2 e2 p2 C0 ⊢
  clear hwy
  go_wp2
  go_loopw [12] (fun t wr => ∃ (k : Nat), k ≤ l.length ∧ t = .int .i64 k ∧ Hid (∀ j (hj : j < l.length), j < k → findFrom s m 0 l[j].preds < 0) ∧ Hid (Below wy.heap.size wy wr)) (fun t _ => l.length - (intOf t).toNat)
  case atStart => exact ⟨0, by omega, rfl, M0, C0⟩
  obtain ⟨k, hkl, rfl, HM, HBk⟩ := hrel
  clear M0 C0
  have HBn := Lib.hid (HBi.out.trans (HBk.out.mono HBi.out.size))
  by_cases hlk : k < l.length
  case neg =>
   obtain rfl : k = l.length := by omega
   have HU2 : Hid (unknownJ l o.preds = unknownJ l (o.preds.drop (i + 1))) := Lib.hid (by rw [HU.out]; exact HSK2.out (by rw [HHM.out (fun j hj => HM.out j hj hj)]; decide))
   go_wp2
   go_roundw
   case rel => first | exact ⟨i + 1, by omega, by go_num, HU2, HBn⟩ | ((repeat apply Exists.intro); exact ⟨⟨i + 1, by omega, by go_num, HU2, HBn⟩, rfl⟩)
   case measure => simp [intOf]; omega
  have HR3 := HRo
  obtain ⟨b, off, B1, ex1, B2, ex2, B3, ex3, B4, ex4, rfl, d0, d1, d2, d3, hat, _⟩ := HQC.out k hlk wr (HRo.out.below.trans (HBn.out.mono HRo.out.below.size))
  have hob := HO.out _ (List.getElem_mem hlk)
  have HF := Lib.hid (fun (W0 : World) (hb : Below wr.heap.size wr W0) => rfind_any B1 B2 B4 l[k].atoms.length ex1 l[k].funs.length ex2 l[k].code.length ex4 l[k].preds hob.lp (.slice B3 l[k].preds.length ex3) s m W0 (hat.below (HRo.out.below.trans ((HBn.out.trans (hb.mono HBn.out.size)).mono HRo.out.below.size))).preds)
  have HX1 := Lib.hid (fun h => HHH.out k hlk HM.out h)
  have HM1 : Hid (findFrom s m 0 l[k].preds < 0 → ∀ j (hj : j < l.length), j < k + 1 → findFrom s m 0 l[j].preds < 0) := Lib.hid (fun h j hj hjk => by
   by_cases e : j = k
   ·subst e; exact h
   ·exact HM.out j hj (by omega))
  have k1 : (k : Int) < (l.length : Int) := by omega
  have k2 : (0 : Int) ≤ (k : Int) := by omega
  clear hat hob
  generalize findFrom s m 0 l[k].preds = z at HF HX1 HM1
  generalize l[k].atoms.length = n1 at d0 HF
  generalize l[k].funs.length = n2 at d1 HF
  generalize l[k].preds.length = n3 at d2 HF
  generalize l[k].code.length = n4 at d3 HF
  have HS : Hid (∀ W : World, Below wr.heap.size wr W → (fun w' => w'.cell? ⟨b, off + k * 4, none⟩ = some (.slice B1 n1 ex1) ∧ w'.cell? ⟨b, off + k * 4 + 1, none⟩ = some (.slice B2 n2 ex2) ∧ w'.cell? ⟨b, off + k * 4 + 2, none⟩ = some (.slice B3 n3 ex3) ∧ w'.cell? ⟨b, off + k * 4 + 3, none⟩ = some (.slice B4 n4 ex4) ∧ w'.cell? ⟨go, 2, none⟩ = some (.slice (some ⟨bp, op, none⟩) o.preds.length c3) ∧ w'.cell? ⟨bp, op + i * 3, none⟩ = some (.string s) ∧ w'.cell? ⟨bp, op + i * 3 + 1, none⟩ = some (.int .i64 m)) W) := Lib.hid (fun W hb => ⟨bel_cell d0 hb, bel_cell d1 hb, bel_cell d2 hb, bel_cell d3 hb, (HRo.out.up (HBn.out.trans (hb.mono HBn.out.size))).box.cell 2, ((HBn.out.trans (hb.mono HBn.out.size)).cell (p := ⟨bp, op + i * 3, none⟩) HBP.out).trans HD0.out, ((HBn.out.trans (hb.mono HBn.out.size)).cell (p := ⟨bp, op + i * 3 + 1, none⟩) HBP.out).trans HD1.out⟩)
  by_cases hz : 0 ≤ z
  ·have hzb : decide (0 ≤ z) = true := decide_eq_true hz
   have HX : Hid (r = (emptyOb, 12, (k : Int))) := Lib.hid (by
    have h1 := HX1.out hz
    rw [← HR.out]
    exact linkOf_unknown HFE.out HFO.out (by rw [HU.out, HHT2.out (by rw [h1]; omega), h1]))
   clear HX1 HM1 HM HHM HHH HHT2 HSK2
   go_upto_region 22 with (fail)
   clear d0 d1 d2 d3 e2 p2
   refine wp_region_noPanic ?_
   refine wp_region_T 99 (fun w' => w'.cell? ⟨b, off + k * 4, none⟩ = some (.slice B1 n1 ex1) ∧ w'.cell? ⟨b, off + k * 4 + 1, none⟩ = some (.slice B2 n2 ex2) ∧ w'.cell? ⟨b, off + k * 4 + 2, none⟩ = some (.slice B3 n3 ex3) ∧ w'.cell? ⟨b, off + k * 4 + 3, none⟩ = some (.slice B4 n4 ex4) ∧ w'.cell? ⟨go, 2, none⟩ = some (.slice (some ⟨bp, op, none⟩) o.preds.length c3) ∧ w'.cell? ⟨bp, op + i * 3, none⟩ = some (.string s) ∧ w'.cell? ⟨bp, op + i * 3 + 1, none⟩ = some (.int .i64 m)) (by kernel_rfl) ?_ (fun hHeld => ?_)
   ·exact HS.out _ ⟨rfl, rfl, rfl, Nat.le_refl _, fun _ _ => rfl⟩
   change wpAnyT _ _ _ _ _ _ _ _ _ (wr.drewN 1)
   replace hHeld : (wr.drewN 1).cell? ⟨b, off + k * 4, none⟩ = some (.slice B1 n1 ex1) ∧ (wr.drewN 1).cell? ⟨b, off + k * 4 + 1, none⟩ = some (.slice B2 n2 ex2) ∧ (wr.drewN 1).cell? ⟨b, off + k * 4 + 2, none⟩ = some (.slice B3 n3 ex3) ∧ (wr.drewN 1).cell? ⟨b, off + k * 4 + 3, none⟩ = some (.slice B4 n4 ex4) ∧ (wr.drewN 1).cell? ⟨go, 2, none⟩ = some (.slice (some ⟨bp, op, none⟩) o.preds.length c3) ∧ (wr.drewN 1).cell? ⟨bp, op + i * 3, none⟩ = some (.string s) ∧ (wr.drewN 1).cell? ⟨bp, op + i * 3 + 1, none⟩ = some (.int .i64 m) := hHeld
   have HBd : Hid (Below wr.heap.size wr (wr.drewN 1)) := Lib.hid ⟨rfl, rfl, rfl, Nat.le_refl _, fun _ _ => rfl⟩
   generalize wr.drewN 1 = w2 at HBd hHeld ⊢
   refine tP (i := 0) (v := ?_) rfl ?_ ?_
   rotate_left
   ·(intro w hSw; (try dsimp only at hSw); go_simp; try with_reducible rfl)
   try simp only [qA, qB, qC, Act.put, qD, qE, qF]
   refine tP (i := 1) (v := ?_) rfl ?_ ?_
   rotate_left
   ·(intro w hSw; (try dsimp only at hSw); go_simp; try with_reducible rfl)
   try simp only [qA, qB, qC, Act.put, qD, qE, qF]
   refine tP (i := 2) (v := ?_) rfl ?_ ?_
   rotate_left
   ·(intro w hSw; (try dsimp only at hSw); go_simp; try with_reducible rfl)
   try simp only [qA, qB, qC, Act.put, qD, qE, qF]
   refine tS (i := 3) (v := ?_) rfl ?_ hHeld ?_
   rotate_left
   ·(intro w hSw; (try dsimp only at hSw); go_simp; try with_reducible rfl)
   try simp only [qA, qB, qC, Act.put, qD, qE, qF]
   refine tP (i := 4) (v := ?_) rfl ?_ ?_
   rotate_left
   ·(intro w hSw; (try dsimp only at hSw); go_simp; try with_reducible rfl)
   try simp only [qA, qB, qC, Act.put, qD, qE, qF]
   refine tS (i := 5) (v := ?_) rfl ?_ hHeld ?_
   rotate_left
   ·(intro w hSw; (try dsimp only at hSw); go_simp; try with_reducible rfl)
   try simp only [qA, qB, qC, Act.put, qD, qE, qF]
   refine tP (i := 6) (v := ?_) rfl ?_ ?_
   rotate_left
   ·(intro w hSw; (try dsimp only at hSw); go_simp; try with_reducible rfl)
   try simp only [qA, qB, qC, Act.put, qD, qE, qF]
   refine tP (i := 7) (v := ?_) rfl ?_ ?_
   rotate_left
   ·(intro w hSw; (try dsimp only at hSw); go_simp; try with_reducible rfl)
   try simp only [qA, qB, qC, Act.put, qD, qE, qF]
   refine tP (i := 8) (v := ?_) rfl ?_ ?_
   rotate_left
   ·(intro w hSw; (try dsimp only at hSw); go_simp; try with_reducible rfl)
   try simp only [qA, qB, qC, Act.put, qD, qE, qF]
   refine tS (i := 9) (v := ?_) rfl ?_ hHeld ?_
   rotate_left
   ·(intro w hSw; (try dsimp only at hSw); go_simp; try with_reducible rfl)
   try simp only [qA, qB, qC, Act.put, qD, qE, qF]
   refine tP (i := 10) (v := ?_) rfl ?_ ?_
   rotate_left
   ·(intro w hSw; (try dsimp only at hSw); go_simp; try with_reducible rfl)
   try simp only [qA, qB, qC, Act.put, qD, qE, qF]
   refine tS (i := 11) (v := ?_) rfl ?_ hHeld ?_
   rotate_left
   ·(intro w hSw; (try dsimp only at hSw); go_simp; try with_reducible rfl)
   try simp only [qA, qB, qC, Act.put, qD, qE, qF]
   refine tP (i := 12) (v := ?_) rfl ?_ ?_
   rotate_left
   ·(intro w hSw; (try dsimp only at hSw); go_simp; try with_reducible rfl)
   try simp only [qA, qB, qC, Act.put, qD, qE, qF]
   refine tP (i := 13) (v := ?_) rfl ?_ ?_
   rotate_left
   ·(intro w hSw; (try dsimp only at hSw); go_simp; try with_reducible rfl)
   try simp only [qA, qB, qC, Act.put, qD, qE, qF]
   refine tP (i := 14) (v := ?_) rfl ?_ ?_
   rotate_left
   ·(intro w hSw; (try dsimp only at hSw); go_simp; try with_reducible rfl)
   try simp only [qA, qB, qC, Act.put, qD, qE, qF]
   refine tS (i := 15) (v := ?_) rfl ?_ hHeld ?_
   rotate_left
   ·(intro w hSw; (try dsimp only at hSw); go_simp; try with_reducible rfl)
   try simp only [qA, qB, qC, Act.put, qD, qE, qF]
   refine wpAnyT_ready (rs := [16]) (by kernel_rfl) (by simp) ?_
   refine AllT.cons (o := _) rfl (fun K hK => ?_) AllT.nil
   refine step_of_callL (vs := #[.agg #[.slice B1 n1 ex1, .slice B2 n2 ex2, .slice B3 n3 ex3, .slice B4 n4 ex4], .string s, .int .i64 m]) (by kernel_rfl) (enters_of Tryz.func29 (by kernel_rfl) rfl) _ rfl (by kernel_rfl) ?_
   refine (HF.out _ HBd.out).mono ?_; rintro e w3 ⟨rfl, hb3⟩; refine ⟨_, rfl, ?_⟩; have HBe := Lib.hid (HBd.out.trans (hb3.mono HBd.out.size)); clear hb3
   refine hK.out _ _ (fun _ => ?_) (fun hHeld2 => ?_)
   ·exact HS.out _ HBe.out
   replace hHeld := hHeld2 (by decide)
   clear hHeld2 hK K
   try simp only [qA, qB, qC, Act.put, qD, qE, qF]
   refine tP (i := 17) (v := ?_) rfl ?_ ?_
   rotate_left
   ·(intro w hSw; (try dsimp only at hSw); go_simp; try with_reducible rfl)
   try simp only [qA, qB, qC, Act.put, qD, qE, qF]
   refine wpAnyT_done (by kernel_rfl) (NoPanic.normal ?_) _
   have HZ := Lib.hid (HR3.out.up (HBn.out.trans (HBe.out.mono HBn.out.size)))
   have b0 := HZ.out.bz.cell 0
   have z0 := HZ.out.bz.frozen 0
   have b1 := HZ.out.bz.cell 1
   have z1 := HZ.out.bz.frozen 1
   have b2 := HZ.out.bz.cell 2
   have z2 := HZ.out.bz.frozen 2
   have b3 := HZ.out.bz.cell 3
   have z3 := HZ.out.bz.frozen 3
   go_wp2
   refine ret_store4y (x := .int .i64 12) (y := .int .i64 k) HZ.out.bz (by intro W c0 c1 c2 c3; simp [results, Tryz.results10, go_sem, c0, c1, c2, c3]) ?_
   intro W hW hF
   exact robjsW_err HX.out (HZ.out.below.trans (hF.below HZ.out.below.size (fun k hk => by have := HZ.out.ge.1; omega)))
  ·have hzb : decide (0 ≤ z) = false := decide_eq_false hz
   have hz2 : z < 0 := by omega
   have HM2 := Lib.hid (HM1.out hz2)
   have HBn2 := HBk
   clear HX1 HM1 HM
   go_upto_region 22 with (fail)
   clear d0 d1 d2 d3 e2 p2
   refine wp_region_noPanic ?_
   refine wp_region_T 99 (fun w' => w'.cell? ⟨b, off + k * 4, none⟩ = some (.slice B1 n1 ex1) ∧ w'.cell? ⟨b, off + k * 4 + 1, none⟩ = some (.slice B2 n2 ex2) ∧ w'.cell? ⟨b, off + k * 4 + 2, none⟩ = some (.slice B3 n3 ex3) ∧ w'.cell? ⟨b, off + k * 4 + 3, none⟩ = some (.slice B4 n4 ex4) ∧ w'.cell? ⟨go, 2, none⟩ = some (.slice (some ⟨bp, op, none⟩) o.preds.length c3) ∧ w'.cell? ⟨bp, op + i * 3, none⟩ = some (.string s) ∧ w'.cell? ⟨bp, op + i * 3 + 1, none⟩ = some (.int .i64 m)) (by kernel_rfl) ?_ (fun hHeld => ?_)
   ·exact HS.out _ ⟨rfl, rfl, rfl, Nat.le_refl _, fun _ _ => rfl⟩
   change wpAnyT _ _ _ _ _ _ _ _ _ (wr.drewN 1)
   replace hHeld : (wr.drewN 1).cell? ⟨b, off + k * 4, none⟩ = some (.slice B1 n1 ex1) ∧ (wr.drewN 1).cell? ⟨b, off + k * 4 + 1, none⟩ = some (.slice B2 n2 ex2) ∧ (wr.drewN 1).cell? ⟨b, off + k * 4 + 2, none⟩ = some (.slice B3 n3 ex3) ∧ (wr.drewN 1).cell? ⟨b, off + k * 4 + 3, none⟩ = some (.slice B4 n4 ex4) ∧ (wr.drewN 1).cell? ⟨go, 2, none⟩ = some (.slice (some ⟨bp, op, none⟩) o.preds.length c3) ∧ (wr.drewN 1).cell? ⟨bp, op + i * 3, none⟩ = some (.string s) ∧ (wr.drewN 1).cell? ⟨bp, op + i * 3 + 1, none⟩ = some (.int .i64 m) := hHeld
   have HBd : Hid (Below wr.heap.size wr (wr.drewN 1)) := Lib.hid ⟨rfl, rfl, rfl, Nat.le_refl _, fun _ _ => rfl⟩
   generalize wr.drewN 1 = w2 at HBd hHeld ⊢
   refine tP (i := 0) (v := ?_) rfl ?_ ?_
   rotate_left
   ·(intro w hSw; (try dsimp only at hSw); go_simp; try with_reducible rfl)
   try simp only [qA, qB, qC, Act.put, qD, qE, qF]
   refine tP (i := 1) (v := ?_) rfl ?_ ?_
   rotate_left
   ·(intro w hSw; (try dsimp only at hSw); go_simp; try with_reducible rfl)
   try simp only [qA, qB, qC, Act.put, qD, qE, qF]
   refine tP (i := 2) (v := ?_) rfl ?_ ?_
   rotate_left
   ·(intro w hSw; (try dsimp only at hSw); go_simp; try with_reducible rfl)
   try simp only [qA, qB, qC, Act.put, qD, qE, qF]
   refine tS (i := 3) (v := ?_) rfl ?_ hHeld ?_
   rotate_left
   ·(intro w hSw; (try dsimp only at hSw); go_simp; try with_reducible rfl)
   try simp only [qA, qB, qC, Act.put, qD, qE, qF]
   refine tP (i := 4) (v := ?_) rfl ?_ ?_
   rotate_left
   ·(intro w hSw; (try dsimp only at hSw); go_simp; try with_reducible rfl)
   try simp only [qA, qB, qC, Act.put, qD, qE, qF]
   refine tS (i := 5) (v := ?_) rfl ?_ hHeld ?_
   rotate_left
   ·(intro w hSw; (try dsimp only at hSw); go_simp; try with_reducible rfl)
   try simp only [qA, qB, qC, Act.put, qD, qE, qF]
   refine tP (i := 6) (v := ?_) rfl ?_ ?_
   rotate_left
   ·(intro w hSw; (try dsimp only at hSw); go_simp; try with_reducible rfl)
   try simp only [qA, qB, qC, Act.put, qD, qE, qF]
   refine tP (i := 7) (v := ?_) rfl ?_ ?_
   rotate_left
   ·(intro w hSw; (try dsimp only at hSw); go_simp; try with_reducible rfl)
   try simp only [qA, qB, qC, Act.put, qD, qE, qF]
   refine tP (i := 8) (v := ?_) rfl ?_ ?_
   rotate_left
   ·(intro w hSw; (try dsimp only at hSw); go_simp; try with_reducible rfl)
   try simp only [qA, qB, qC, Act.put, qD, qE, qF]
   refine tS (i := 9) (v := ?_) rfl ?_ hHeld ?_
   rotate_left
   ·(intro w hSw; (try dsimp only at hSw); go_simp; try with_reducible rfl)
   try simp only [qA, qB, qC, Act.put, qD, qE, qF]
   refine tP (i := 10) (v := ?_) rfl ?_ ?_
   rotate_left
   ·(intro w hSw; (try dsimp only at hSw); go_simp; try with_reducible rfl)
   try simp only [qA, qB, qC, Act.put, qD, qE, qF]
   refine tS (i := 11) (v := ?_) rfl ?_ hHeld ?_
   rotate_left
   ·(intro w hSw; (try dsimp only at hSw); go_simp; try with_reducible rfl)
   try simp only [qA, qB, qC, Act.put, qD, qE, qF]
   refine tP (i := 12) (v := ?_) rfl ?_ ?_
   rotate_left
   ·(intro w hSw; (try dsimp only at hSw); go_simp; try with_reducible rfl)
   try simp only [qA, qB, qC, Act.put, qD, qE, qF]
   refine tP (i := 13) (v := ?_) rfl ?_ ?_
   rotate_left
   ·(intro w hSw; (try dsimp only at hSw); go_simp; try with_reducible rfl)
   try simp only [qA, qB, qC, Act.put, qD, qE, qF]
   refine tP (i := 14) (v := ?_) rfl ?_ ?_
   rotate_left
   ·(intro w hSw; (try dsimp only at hSw); go_simp; try with_reducible rfl)
   try simp only [qA, qB, qC, Act.put, qD, qE, qF]
   refine tS (i := 15) (v := ?_) rfl ?_ hHeld ?_
   rotate_left
   ·(intro w hSw; (try dsimp only at hSw); go_simp; try with_reducible rfl)
   try simp only [qA, qB, qC, Act.put, qD, qE, qF]
   refine wpAnyT_ready (rs := [16]) (by kernel_rfl) (by simp) ?_
   refine AllT.cons (o := _) rfl (fun K hK => ?_) AllT.nil
   refine step_of_callL (vs := #[.agg #[.slice B1 n1 ex1, .slice B2 n2 ex2, .slice B3 n3 ex3, .slice B4 n4 ex4], .string s, .int .i64 m]) (by kernel_rfl) (enters_of Tryz.func29 (by kernel_rfl) rfl) _ rfl (by kernel_rfl) ?_
   refine (HF.out _ HBd.out).mono ?_; rintro e w3 ⟨rfl, hb3⟩; refine ⟨_, rfl, ?_⟩; have HBe := Lib.hid (HBd.out.trans (hb3.mono HBd.out.size)); clear hb3
   refine hK.out _ _ (fun _ => ?_) (fun hHeld2 => ?_)
   ·exact HS.out _ HBe.out
   replace hHeld := hHeld2 (by decide)
   clear hHeld2 hK K
   try simp only [qA, qB, qC, Act.put, qD, qE, qF]
   refine tP (i := 17) (v := ?_) rfl ?_ ?_
   rotate_left
   ·(intro w hSw; (try dsimp only at hSw); go_simp; try with_reducible rfl)
   try simp only [qA, qB, qC, Act.put, qD, qE, qF]
   refine wpAnyT_done (by kernel_rfl) (NoPanic.normal ?_) _
   go_wp2
   go_roundw
   case rel => first | exact ⟨k + 1, by omega, by go_num, HM2, Lib.hid (HBn2.out.trans (HBe.out.mono HBn2.out.size))⟩ | ((repeat apply Exists.intro); exact ⟨⟨k + 1, by omega, by go_num, HM2, Lib.hid (HBn2.out.trans (HBe.out.mono HBn2.out.size))⟩, rfl⟩)
   case measure => simp [intOf]; omega
 case neg =>
 obtain rfl : i = o.preds.length := by omega
 have HUN : Hid (unknownJ l o.preds = none) := Lib.hid (by rw [HU.out, List.drop_length]; rfl)
 have HLR : Hid (r = if bigO o = true then (emptyOb, 2, -1) else (o, 0, -1)) := Lib.hid (by rw [← HR.out]; exact linkOf_rest HFE.out HFO.out HUN.out)
 have HAT := HR2
 have p0 := HR2.out.box.cell 0
 have p1 := HR2.out.box.cell 1
 have p3 := HR2.out.box.cell 3
 have b0 := HR2.out.bz.cell 0
 have z0 := HR2.out.bz.frozen 0
 have b1 := HR2.out.bz.cell 1
 have z1 := HR2.out.bz.frozen 1
 have b2 := HR2.out.bz.cell 2
 have z2 := HR2.out.bz.frozen 2
 have b3 := HR2.out.bz.cell 3
 have z3 := HR2.out.bz.frozen 3
 have HBIG : Hid (∀ h : 256 < o.atoms.length ∨ 256 < o.funs.length ∨ 64 < o.preds.length ∨ 1024 < o.code.length, r = (emptyOb, 2, -1)) := Lib.hid (fun h => by rw [HLR.out, if_pos (by unfold bigO bigB; exact decide_eq_true h)])
 by_cases h1 : 256 < o.atoms.length
 ·have e1 : (256 : Int) < (o.atoms.length : Int) := by omega
  have HX := Lib.hid (HBIG.out (.inl h1))
  go_wp2
  refine ret_store4y (x := .int .i64 2) (y := .int .i64 (-1)) HR2.out.bz (by intro W c0 c1 c2 c3; simp [results, Tryz.results10, go_sem, c0, c1, c2, c3]) ?_
  intro W hW hF
  exact robjsW_err HX.out (HR2.out.below.trans (hF.below HR2.out.below.size (fun k hk => by have := HR2.out.ge.1; omega)))
 by_cases h2 : 256 < o.funs.length
 ·have e1 : ¬ (256 : Int) < (o.atoms.length : Int) := by omega
  have e2 : (256 : Int) < (o.funs.length : Int) := by omega
  have HX := Lib.hid (HBIG.out (.inr (.inl h2)))
  go_wp2
  refine ret_store4y (x := .int .i64 2) (y := .int .i64 (-1)) HR2.out.bz (by intro W c0 c1 c2 c3; simp [results, Tryz.results10, go_sem, c0, c1, c2, c3]) ?_
  intro W hW hF
  exact robjsW_err HX.out (HR2.out.below.trans (hF.below HR2.out.below.size (fun k hk => by have := HR2.out.ge.1; omega)))
 by_cases h3 : 64 < o.preds.length
 ·have e1 : ¬ (256 : Int) < (o.atoms.length : Int) := by omega
  have e2 : ¬ (256 : Int) < (o.funs.length : Int) := by omega
  have e3 : (64 : Int) < (o.preds.length : Int) := by omega
  have HX := Lib.hid (HBIG.out (.inr (.inr (.inl h3))))
  go_wp2
  refine ret_store4y (x := .int .i64 2) (y := .int .i64 (-1)) HR2.out.bz (by intro W c0 c1 c2 c3; simp [results, Tryz.results10, go_sem, c0, c1, c2, c3]) ?_
  intro W hW hF
  exact robjsW_err HX.out (HR2.out.below.trans (hF.below HR2.out.below.size (fun k hk => by have := HR2.out.ge.1; omega)))
 by_cases h4 : 1024 < o.code.length
 ·have e1 : ¬ (256 : Int) < (o.atoms.length : Int) := by omega
  have e2 : ¬ (256 : Int) < (o.funs.length : Int) := by omega
  have e3 : ¬ (64 : Int) < (o.preds.length : Int) := by omega
  have e4 : (1024 : Int) < (o.code.length : Int) := by omega
  have HX := Lib.hid (HBIG.out (.inr (.inr (.inr h4))))
  go_wp2
  refine ret_store4y (x := .int .i64 2) (y := .int .i64 (-1)) HR2.out.bz (by intro W c0 c1 c2 c3; simp [results, Tryz.results10, go_sem, c0, c1, c2, c3]) ?_
  intro W hW hF
  exact robjsW_err HX.out (HR2.out.below.trans (hF.below HR2.out.below.size (fun k hk => by have := HR2.out.ge.1; omega)))
 have e1 : ¬ (256 : Int) < (o.atoms.length : Int) := by omega
 have e2 : ¬ (256 : Int) < (o.funs.length : Int) := by omega
 have e3 : ¬ (64 : Int) < (o.preds.length : Int) := by omega
 have e4 : ¬ (1024 : Int) < (o.code.length : Int) := by omega
 have HX : Hid (r = (o, 0, -1)) := Lib.hid (by rw [HLR.out, if_neg (by unfold bigO bigB; simp; omega)])
 clear HBIG HLR
 go_wp2
 refine ret_store4y (x := .int .i64 0) (y := .int .i64 (-1)) HR2.out.bz (by intro W c0 c1 c2 c3; simp [results, Tryz.results10, go_sem, c0, c1, c2, c3]) ?_
 intro W hW hF
 exact robjsW_ok HX.out (HR2.out.obs W (hF.mono (fun k _ hk => .inr hk))) (HR2.out.below.trans (hF.below HR2.out.below.size (fun k hk => by have := HR2.out.ge.1; omega)))
end Go.Proofs.YtclkdlegogjnbaaGreatDoor
