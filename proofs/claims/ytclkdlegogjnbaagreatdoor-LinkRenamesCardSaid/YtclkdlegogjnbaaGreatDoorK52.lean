/-
  LinkRenames (walk). Conditions: the tables are as they are laid.
-/
import Derived.Test.YtclkdlegogjnbaaGreatDoorK51
namespace Go.Proofs.YtclkdlegogjnbaaGreatDoor
open Go Go.RowKit Go.WideShapes Go.ChangeShapes
set_option linter.unusedVariables false
set_option linter.unusedSimpArgs false

set_option maxRecDepth 100000 in
set_option maxHeartbeats 6000000 in
theorem linkRenames_any (l : List Ob) (which : Int) (qs : List (Value × Value × Value × Value)) (v : Value) (w : World) {B : Nat} (hp : LaidC B w) (hv : ObsAt w v qs l) (hnil : NilAll qs) :
    Calls Tryz.prog 4 #[v, .int .i64 which] w fun e w' => e = .returned (.bool true) ∧ Below w.heap.size w w' := by
  have HL := Lib.hid (list_any l which qs v w hv hnil)
  have HP := Lib.hid hp
  have HTD := Lib.hid (fun W (h : LaidC B W) => told10_any W h)
  obtain ⟨A, c, rfl⟩ := hv.cells.form
  clear hv hnil hp
  go_enter Tryz.func4, Tryz.ntmps4
  go_upto_region 2 with (go_at_call 6; refine HL.out.mono ?_; rintro e w1 ⟨v1, qs1, l1, rfl, h1, hn1, hlen1, hwf1, hb1⟩; obtain ⟨B1, b1, hv1⟩ := h1.cells.form; subst hv1; have H1 := Lib.hid h1; have HN1 := Lib.hid hn1; have HWF := Lib.hid hwf1; have HB1 := Lib.hid hb1; have HLEN := Lib.hid hlen1; clear h1 hn1 hwf1 hb1 hlen1)
  have hl4 : l1.length ≤ 4 := by have := HLEN.out; omega
  have HLO := Lib.hid (lobjs_any l1 HWF.out (by omega) qs1 _ w1 H1.out HN1.out)
  have HOB := Lib.hid (fun (W : World) qs v (hb : Below w1.heap.size w1 W) (hv : ObsAt W v qs l1) => objects_any l1 HWF.out (by omega) qs v W ((HP.out.up HB1.out).up hb).names (fun W' hb' => (((HP.out.up HB1.out).up hb).up hb').names) hv)
  obtain ⟨⟨o, c0, n0⟩, hr⟩ : ∃ r, linkP l1 = r := ⟨_, rfl⟩
  have HR := Lib.hid hr
  rw [hr] at HOB
  unfold AsmW at HOB
  unfold ObsW at HLO
  simp only at HOB
  clear hr HL
  go_upto_region 3 with (first
    | (go_at_call 8; refine HLO.out.mono ?_; rintro e w2 ⟨v2, qs2, rfl, h2, _, hb2⟩; obtain ⟨B2, b2, hv2⟩ := h2.cells.form; subst hv2; have H2 := Lib.hid h2; have HB2 := Lib.hid hb2; clear h2 hb2)
    | (go_at_call 9; refine (HOB.out _ _ _ HB2.out H2.out).mono ?_; rintro e w3 ⟨va, vf, vp, vc, rfl, ho3, hb3⟩; obtain ⟨O1, c1, hva⟩ := ho3.at_.atoms.form; obtain ⟨O2, c2, hvf⟩ := ho3.at_.funs.form; obtain ⟨O3, c3, hvp⟩ := ho3.at_.preds.form; obtain ⟨O4, c4, hvc⟩ := ho3.at_.code.form; subst hva hvf hvp hvc; have HO3 := Lib.hid ho3.at_; have HNA := Lib.hid (own_nil ho3.ra); have HB3 := Lib.hid (HB2.out.trans (hb3.mono HB2.out.size)); clear ho3 hb3))
  have HBX := Lib.hid (HB3.out.alloc HB3.out.size (.cells #[.slice O1 o.atoms.length c1, .slice O2 o.funs.length c2, .slice O3 o.preds.length c3, .slice O4 o.code.length c4] 39))
  have X4 := Lib.hid (Box.new w3 39 #[.slice O1 o.atoms.length c1, .slice O2 o.funs.length c2, .slice O3 o.preds.length c3, .slice O4 o.code.length c4])
  have HO4 := Lib.hid (HO3.out.below (alloc_below w3 (.cells #[.slice O1 o.atoms.length c1, .slice O2 o.funs.length c2, .slice O3 o.preds.length c3, .slice O4 o.code.length c4] 39)))
  obtain ⟨w4, hw4⟩ : ∃ w4, w3.alloc (.cells #[.slice O1 o.atoms.length c1, .slice O2 o.funs.length c2, .slice O3 o.preds.length c3, .slice O4 o.code.length c4] 39) = w4 := ⟨_, rfl⟩
  obtain ⟨gb, hgb⟩ : ∃ gb, w3.heap.size = gb := ⟨_, rfl⟩
  rw [hw4] at HBX X4 HO4 ⊢
  rw [hgb] at X4 ⊢
  clear hw4 hgb HO3 HB2 HB3 H2 HLO HOB
  have HBX1 := HBX
  have HBW := Lib.hid (HB1.out.trans (HBX.out.mono HB1.out.size))
  by_cases he : c0 = 0
  case neg =>
    have e1 : (c0 != 0) = true := by rw [bne_iff_ne]; exact he
    have HT1 := Lib.hid (HTD.out w4 (HP.out.up HBW.out))
    go_wp2_with (first
      | (go_at_call 7; refine HT1.out.mono ?_; rintro e w5 ⟨rfl, hb5⟩; have HB5 := Lib.hid (HBW.out.trans (hb5.mono HBW.out.size)); have HT2 := Lib.hid (HTD.out w5 (HP.out.up HB5.out)); clear hb5 HT1)
      | (go_at_call 7; refine HT2.out.mono ?_; rintro e w6 ⟨rfl, hb6⟩; have HB6 := Lib.hid (HB5.out.trans (hb6.mono HB5.out.size)); clear hb6))
    go_ret
    exact ⟨rfl, HB6.out⟩
  subst he
  obtain ⟨o', hmo, hmade⟩ := made_of (l := l1) (by omega) (by rw [HR.out])
  obtain rfl : o = o' := by rw [HR.out] at hmo; injection hmo with h _
  have HMD := Lib.hid hmade
  have HT1 := Lib.hid (HTD.out w4 (HP.out.up HBW.out))
  clear hmo hmade
  have HWO : Hid (ObWf o) := Lib.hid (wf_of_ok10 HMD.out.check).1
  have HBL : Hid (∀ k, k ≤ l1.length → baseAt l1 k ≤ 1024) := Lib.hid (fun k hk => baseAt_le HMD.out hk)
  go_upto_region 5 with (go_at_call 7; refine HT1.out.mono ?_; rintro e w5 ⟨rfl, hb5⟩; have HB5 := Lib.hid hb5; clear hb5 HT1)
  go_wp2
  go_loopw [9, 10, 11, 12, 13, 14, 15] (fun bs i _ _ _ _ _ wr => ∃ k : Nat, k ≤ l1.length ∧ bs = .int .i64 (baseAt l1 k : Nat) ∧ i = .int .i64 k ∧ Hid (Below w4.heap.size w4 wr)) (fun _ i _ _ _ _ _ _ => l1.length - (intOf i).toNat)
  case atStart => exact ⟨0, by omega, by simp [baseAt], rfl, HB5⟩
  obtain ⟨k, hkl, rfl, rfl, HB⟩ := hrel
  clear HB5
  by_cases hlt : k < l1.length
  case neg =>
    obtain rfl : k = l1.length := by omega
    have hx := bel_cell (X4.out.cell 3) HB.out
    have hlen := HMD.out.len
    rw [hlen] at hx
    generalize baseAt l1 l1.length = nb at hx ⊢
    go_wp2
    go_ret
    exact ⟨rfl, HBW.out.trans (HB.out.mono HBW.out.size)⟩
  obtain ⟨b, off, D1, e1, D2, e2, D3, e3, D4, e4, rfl, d0, d1, d2, d3, hat, hn⟩ := H1.out.cell HN1.out k hlt w4 (HBX1.out)
  have HAT := Lib.hid (hat.below HBX1.out)
  have HFk := Lib.hid (HMD.out.at_ k hlt)
  have HFm := Lib.hid (HMD.out.means k hlt ((baseAt l1 k : Nat) : Int))
  have HFt := Lib.hid (HMD.out.two k hlt ((baseAt l1 k : Nat) : Int) ⟨by omega, by have := HBL.out k (by omega); omega⟩)
  have HFl := Lib.hid (baseAt_step l1 k hlt)
  have HFc : Hid (l1[k].code.length ≤ 1024) := Lib.hid (check_parts (HMD.out.checks _ (List.getElem_mem hlt))).1.2.2.2
  have hbk := HBL.out k (by omega)
  have HBK1 := Lib.hid (HBL.out (k + 1) (by omega))
  clear hat hn
  generalize hx : l1[k] = x at d0 d1 d2 d3 HAT HFk HFm HFt HFl HFc
  clear hx
  have hcl := HFc.out
  generalize baseAt l1 k = bk at HFk HFm HFt HFl hbk ⊢
  go_upto_region 9 with (fail)
  go_wp2
  go_loopw [11, 12, 13, 14, 15] (fun jj _ _ _ _ wr => ∃ j : Nat, j ≤ x.code.length ∧ jj = .int .i64 j ∧ Hid (Below w4.heap.size w4 wr)) (fun jj _ _ _ _ _ => x.code.length - (intOf jj).toNat)
  case atStart => exact ⟨0, by omega, rfl, HB⟩
  obtain ⟨j, hjl, rfl, HBj⟩ := hrel
  clear HB
  have p3 := bel_cell d3 HBj.out
  by_cases hj : j < x.code.length
  case neg =>
    obtain rfl : j = x.code.length := by omega
    have hadd : wrap64 ((bk : Int) + (x.code.length : Int)) = ((bk + x.code.length : Nat) : Int) := by have := HFl.out; have := HBK1.out; rw [wrap64]; omega
    go_wp2
    go_roundw
    case rel => first | exact ⟨k + 1, by omega, by rw [HFl.out]; first | rfl | go_num, by go_num, HBj⟩ | ((repeat apply Exists.intro); exact ⟨⟨k + 1, by omega, by rw [HFl.out]; first | rfl | go_num, by go_num, HBj⟩, rfl⟩)
    case measure => simp [intOf]; omega
  obtain ⟨bi, oi, rfl, hbi, i0, i1, i2, i3, i4⟩ := insCell HAT.out.code j hj
  obtain ⟨hy1, hy2⟩ := HFk.out j hj
  have hy3 := (List.getElem?_eq_some_iff.1 hy2).2
  obtain ⟨bo, oo, rfl, hbo, zz0, zz1, zz2, zz3, zz4⟩ := insCell HO4.out.code (bk + j) hy1
  rw [hy3] at zz0 zz1 zz2 zz3 zz4
  have HM0 := Lib.hid (HFm.out _ (List.getElem_mem hj))
  have HT0 := Lib.hid (HFt.out _ (List.getElem_mem hj))
  have hopj := insJ_op o x (bk : Int) x.code[j]
  clear hy2 hy3 hbi hbo
  generalize hI : x.code[j] = ii at i0 i1 i2 i3 i4 zz0 zz1 zz2 zz3 zz4 HM0 HT0 hopj
  clear hI
  generalize hJ : insJ o x (bk : Int) ii = jj at zz0 zz1 zz2 zz3 zz4 HM0 HT0 hopj
  clear hJ
  obtain ⟨x0, x1, x2, x3, x4⟩ := ii
  obtain ⟨y0, y1, y2, y3, y4⟩ := jj
  simp only at i0 i1 i2 i3 i4 zz0 zz1 zz2 zz3 zz4 HM0 HT0 hopj
  subst hopj
  have c3x := bel_cell (X4.out.cell 3) HBj.out
  have HS : Hid (∀ W : World, Below wr.heap.size wr W → (fun w' => w'.cell? ⟨b, off + k * 4 + 3, none⟩ = some (.slice (some ⟨bi, oi, none⟩) x.code.length e4) ∧ w'.cell? ⟨bi, oi + j * 5, none⟩ = some (.int .i64 y0) ∧ w'.cell? ⟨bi, oi + j * 5 + 1, none⟩ = some (.int .i64 x1) ∧ w'.cell? ⟨bi, oi + j * 5 + 2, none⟩ = some (.int .i64 x2) ∧ w'.cell? ⟨bi, oi + j * 5 + 3, none⟩ = some (.int .i64 x3) ∧ w'.cell? ⟨bi, oi + j * 5 + 4, none⟩ = some (.int .i64 x4) ∧ w'.cell? ⟨gb, 3, none⟩ = some (.slice (some ⟨bo, oo, none⟩) o.code.length c4) ∧ w'.cell? ⟨bo, oo + (bk + j) * 5, none⟩ = some (.int .i64 y0) ∧ w'.cell? ⟨bo, oo + (bk + j) * 5 + 1, none⟩ = some (.int .i64 y1) ∧ w'.cell? ⟨bo, oo + (bk + j) * 5 + 2, none⟩ = some (.int .i64 y2) ∧ w'.cell? ⟨bo, oo + (bk + j) * 5 + 3, none⟩ = some (.int .i64 y3) ∧ w'.cell? ⟨bo, oo + (bk + j) * 5 + 4, none⟩ = some (.int .i64 y4)) W) := Lib.hid (fun W hb => by
    have h := HBj.out.trans (hb.mono HBj.out.size)
    exact ⟨bel_cell d3 h, bel_cell i0 h, bel_cell i1 h, bel_cell i2 h, bel_cell i3 h, bel_cell i4 h, bel_cell (X4.out.cell 3) h, bel_cell zz0 h, bel_cell zz1 h, bel_cell zz2 h, bel_cell zz3 h, bel_cell zz4 h⟩)
  have HOPS := Lib.hid (fun w => roperands_any y0 w)
  have hadd : wrap64 ((bk : Int) + (j : Int)) = (bk : Int) + (j : Int) := by rw [wrap64]; omega
  have hadd2 : IntKind.i64.wrap ((bk : Int) + (j : Int)) = (bk : Int) + (j : Int) := (Go.IntWalk.i64_left _).trans hadd
  have ad0 : (0 : Int) ≤ (bk : Int) + (j : Int) := by omega
  have ad1 : (bk : Int) + (j : Int) < (o.code.length : Int) := by omega
  have ad2 : ((bk : Int) + (j : Int)).toNat = bk + j := by omega
  have j0 : (0 : Int) ≤ (j : Int) := by omega
  have j1 : (j : Int) < (x.code.length : Int) := by omega
  have k0 : (0 : Int) ≤ (k : Int) := by omega
  have k1 : (k : Int) < (l1.length : Int) := by omega
  clear c3x
  go_upto_region 12 with (fail)
  clear p3
  go_cut [12, 13] (fun t12 t13 wc => Cut12 wr wc t12 t13 y0 x1 x2 x3 x4 y0 y1 y2 y3 y4)
  case first =>
    refine wp_region_noPanic ?_
    refine wp_region_T 18 (fun w' => w'.cell? ⟨b, off + k * 4 + 3, none⟩ = some (.slice (some ⟨bi, oi, none⟩) x.code.length e4) ∧ w'.cell? ⟨bi, oi + j * 5, none⟩ = some (.int .i64 y0) ∧ w'.cell? ⟨bi, oi + j * 5 + 1, none⟩ = some (.int .i64 x1) ∧ w'.cell? ⟨bi, oi + j * 5 + 2, none⟩ = some (.int .i64 x2) ∧ w'.cell? ⟨bi, oi + j * 5 + 3, none⟩ = some (.int .i64 x3) ∧ w'.cell? ⟨bi, oi + j * 5 + 4, none⟩ = some (.int .i64 x4) ∧ w'.cell? ⟨gb, 3, none⟩ = some (.slice (some ⟨bo, oo, none⟩) o.code.length c4) ∧ w'.cell? ⟨bo, oo + (bk + j) * 5, none⟩ = some (.int .i64 y0) ∧ w'.cell? ⟨bo, oo + (bk + j) * 5 + 1, none⟩ = some (.int .i64 y1) ∧ w'.cell? ⟨bo, oo + (bk + j) * 5 + 2, none⟩ = some (.int .i64 y2) ∧ w'.cell? ⟨bo, oo + (bk + j) * 5 + 3, none⟩ = some (.int .i64 y3) ∧ w'.cell? ⟨bo, oo + (bk + j) * 5 + 4, none⟩ = some (.int .i64 y4)) (by kernel_rfl) ?_ (fun hHeld => ?_)
    · exact HS.out _ ⟨rfl, rfl, rfl, Nat.le_refl _, fun _ _ => rfl⟩
    change wpAnyT _ _ _ _ _ _ _ _ _ (wr.drewN 1)
    replace hHeld : (wr.drewN 1).cell? ⟨b, off + k * 4 + 3, none⟩ = some (.slice (some ⟨bi, oi, none⟩) x.code.length e4) ∧ (wr.drewN 1).cell? ⟨bi, oi + j * 5, none⟩ = some (.int .i64 y0) ∧ (wr.drewN 1).cell? ⟨bi, oi + j * 5 + 1, none⟩ = some (.int .i64 x1) ∧ (wr.drewN 1).cell? ⟨bi, oi + j * 5 + 2, none⟩ = some (.int .i64 x2) ∧ (wr.drewN 1).cell? ⟨bi, oi + j * 5 + 3, none⟩ = some (.int .i64 x3) ∧ (wr.drewN 1).cell? ⟨bi, oi + j * 5 + 4, none⟩ = some (.int .i64 x4) ∧ (wr.drewN 1).cell? ⟨gb, 3, none⟩ = some (.slice (some ⟨bo, oo, none⟩) o.code.length c4) ∧ (wr.drewN 1).cell? ⟨bo, oo + (bk + j) * 5, none⟩ = some (.int .i64 y0) ∧ (wr.drewN 1).cell? ⟨bo, oo + (bk + j) * 5 + 1, none⟩ = some (.int .i64 y1) ∧ (wr.drewN 1).cell? ⟨bo, oo + (bk + j) * 5 + 2, none⟩ = some (.int .i64 y2) ∧ (wr.drewN 1).cell? ⟨bo, oo + (bk + j) * 5 + 3, none⟩ = some (.int .i64 y3) ∧ (wr.drewN 1).cell? ⟨bo, oo + (bk + j) * 5 + 4, none⟩ = some (.int .i64 y4) := hHeld
    have HBd : Hid (Below wr.heap.size wr (wr.drewN 1)) := Lib.hid ⟨rfl, rfl, rfl, Nat.le_refl _, fun _ _ => rfl⟩
    generalize wr.drewN 1 = w2 at HBd hHeld ⊢
    refine tkP (i := 0) (v := ?_) rfl (fun _ _ _ h => h) (Or.inl ⟨by kernel_rfl, ?_⟩) ?_
    rotate_left
    · intro w hSw
      try dsimp only at hSw
      go_simp
      try with_reducible rfl
    try simp only [List.getElem_toArray, List.getElem_cons_zero, List.getElem_cons_succ, Act.put, List.setIfInBounds_toArray, List.set_cons_zero, List.set_cons_succ]
    refine tkP (i := 1) (v := ?_) rfl (fun _ _ _ h => h) (Or.inl ⟨by kernel_rfl, ?_⟩) ?_
    rotate_left
    · intro w hSw
      try dsimp only at hSw
      go_simp
      try with_reducible rfl
    try simp only [List.getElem_toArray, List.getElem_cons_zero, List.getElem_cons_succ, Act.put, List.setIfInBounds_toArray, List.set_cons_zero, List.set_cons_succ]
    refine tkP (i := 2) (v := ?_) rfl (fun _ _ _ h => h) (Or.inl ⟨by kernel_rfl, ?_⟩) ?_
    rotate_left
    · intro w hSw
      try dsimp only at hSw
      go_simp
      try with_reducible rfl
    try simp only [List.getElem_toArray, List.getElem_cons_zero, List.getElem_cons_succ, Act.put, List.setIfInBounds_toArray, List.set_cons_zero, List.set_cons_succ]
    refine tkP (i := 3) (v := ?_) rfl (fun _ _ _ h => h) (Or.inl ⟨by kernel_rfl, ?_⟩) ?_
    rotate_left
    · intro w hSw
      try dsimp only at hSw
      go_simp
      try with_reducible rfl
    try simp only [List.getElem_toArray, List.getElem_cons_zero, List.getElem_cons_succ, Act.put, List.setIfInBounds_toArray, List.set_cons_zero, List.set_cons_succ]
    refine tkS (i := 4) (v := ?_) rfl (fun _ _ _ h => h) (Or.inl ⟨by kernel_rfl, ?_⟩) hHeld ?_
    rotate_left
    · intro w hSw
      try dsimp only at hSw
      go_simp
      try with_reducible rfl
    try simp only [List.getElem_toArray, List.getElem_cons_zero, List.getElem_cons_succ, Act.put, List.setIfInBounds_toArray, List.set_cons_zero, List.set_cons_succ]
    refine tkP (i := 5) (v := ?_) rfl (fun _ _ _ h => h) (Or.inl ⟨by kernel_rfl, ?_⟩) ?_
    rotate_left
    · intro w hSw
      try dsimp only at hSw
      go_simp
      try with_reducible rfl
    try simp only [List.getElem_toArray, List.getElem_cons_zero, List.getElem_cons_succ, Act.put, List.setIfInBounds_toArray, List.set_cons_zero, List.set_cons_succ]
    refine tkP (i := 6) (v := ?_) rfl (fun _ _ _ h => h) (Or.inl ⟨by kernel_rfl, ?_⟩) ?_
    rotate_left
    · intro w hSw
      try dsimp only at hSw
      go_simp
      try with_reducible rfl
    try simp only [List.getElem_toArray, List.getElem_cons_zero, List.getElem_cons_succ, Act.put, List.setIfInBounds_toArray, List.set_cons_zero, List.set_cons_succ]
    refine tkS (i := 7) (v := ?_) rfl (fun _ _ _ h => h) (Or.inl ⟨by kernel_rfl, ?_⟩) hHeld ?_
    rotate_left
    · intro w hSw
      try dsimp only at hSw
      go_simp
      try with_reducible rfl
    try simp only [List.getElem_toArray, List.getElem_cons_zero, List.getElem_cons_succ, Act.put, List.setIfInBounds_toArray, List.set_cons_zero, List.set_cons_succ]
    refine tkP (i := 8) (v := ?_) rfl (fun _ _ _ h => h) (Or.inl ⟨by kernel_rfl, ?_⟩) ?_
    rotate_left
    · intro w hSw
      try dsimp only at hSw
      go_simp
      try with_reducible rfl
    try simp only [List.getElem_toArray, List.getElem_cons_zero, List.getElem_cons_succ, Act.put, List.setIfInBounds_toArray, List.set_cons_zero, List.set_cons_succ]
    refine tkS (i := 9) (v := ?_) rfl (fun _ _ _ h => h) (Or.inl ⟨by kernel_rfl, ?_⟩) hHeld ?_
    rotate_left
    · intro w hSw
      try dsimp only at hSw
      go_simp
      try with_reducible rfl
    try simp only [List.getElem_toArray, List.getElem_cons_zero, List.getElem_cons_succ, Act.put, List.setIfInBounds_toArray, List.set_cons_zero, List.set_cons_succ]
    refine tkP (i := 10) (v := ?_) rfl (fun _ _ _ h => h) (Or.inl ⟨by kernel_rfl, ?_⟩) ?_
    rotate_left
    · intro w hSw
      try dsimp only at hSw
      go_simp
      try with_reducible rfl
    try simp only [List.getElem_toArray, List.getElem_cons_zero, List.getElem_cons_succ, Act.put, List.setIfInBounds_toArray, List.set_cons_zero, List.set_cons_succ]
    refine tkP (i := 11) (v := ?_) rfl (fun _ _ _ h => h) (Or.inl ⟨by kernel_rfl, ?_⟩) ?_
    rotate_left
    · intro w hSw
      try dsimp only at hSw
      go_simp
      try with_reducible rfl
    try simp only [List.getElem_toArray, List.getElem_cons_zero, List.getElem_cons_succ, Act.put, List.setIfInBounds_toArray, List.set_cons_zero, List.set_cons_succ]
    refine tkP (i := 12) (v := ?_) rfl (fun _ _ _ h => h) (Or.inl ⟨by kernel_rfl, ?_⟩) ?_
    rotate_left
    · intro w hSw
      try dsimp only at hSw
      go_simp
      try with_reducible rfl
    try simp only [List.getElem_toArray, List.getElem_cons_zero, List.getElem_cons_succ, Act.put, List.setIfInBounds_toArray, List.set_cons_zero, List.set_cons_succ]
    refine tkP (i := 13) (v := ?_) rfl (fun _ _ _ h => h) (Or.inl ⟨by kernel_rfl, ?_⟩) ?_
    rotate_left
    · intro w hSw
      try dsimp only at hSw
      go_simp
      try with_reducible rfl
    try simp only [List.getElem_toArray, List.getElem_cons_zero, List.getElem_cons_succ, Act.put, List.setIfInBounds_toArray, List.set_cons_zero, List.set_cons_succ]
    refine tkS (i := 14) (v := ?_) rfl (fun _ _ _ h => h) (Or.inl ⟨by kernel_rfl, ?_⟩) hHeld ?_
    rotate_left
    · intro w hSw
      try dsimp only at hSw
      go_simp
      try with_reducible rfl
    try simp only [List.getElem_toArray, List.getElem_cons_zero, List.getElem_cons_succ, Act.put, List.setIfInBounds_toArray, List.set_cons_zero, List.set_cons_succ]
    refine wpAnyT_ready (rs := [15, 16]) (by kernel_rfl) (by simp) ?_
    refine AllT.cons (o := _) rfl (fun K hK => ?_) ?_
    · go_simp
      refine hK.out _ _ (fun _ => ?_) (fun hHeld2 => ?_)
      · exact HS.out _ (HBd.out.alloc HBd.out.size _)
      replace hHeld := hHeld2 (by decide)
      clear hHeld2 hK K
      try simp only [List.getElem_toArray, List.getElem_cons_zero, List.getElem_cons_succ, Act.put, List.setIfInBounds_toArray, List.set_cons_zero, List.set_cons_succ]
      refine wpAnyT_ready (rs := [16]) (by kernel_rfl) (by simp) ?_
      refine AllT.cons (o := _) rfl (fun K hK => ?_) AllT.nil
      go_simp
      refine hK.out _ _ (fun _ => ?_) (fun hHeld2 => ?_)
      · exact HS.out _ ((HBd.out.alloc HBd.out.size _).alloc (by have := HBd.out.size; simp; omega) _)
      replace hHeld := hHeld2 (by decide)
      clear hHeld2 hK K
      try simp only [List.getElem_toArray, List.getElem_cons_zero, List.getElem_cons_succ, Act.put, List.setIfInBounds_toArray, List.set_cons_zero, List.set_cons_succ]
      refine wpAnyT_ready (rs := [17]) (by kernel_rfl) (by simp) ?_
      refine AllT.cons (o := _) rfl (fun K hK => ?_) AllT.nil
      go_simp
      refine hK.out _ _ (fun _ => ?_) (fun hHeld2 => ?_)
      · exact HS.out _ ((HBd.out.alloc HBd.out.size _).alloc (by have := HBd.out.size; simp; omega) _)
      replace hHeld := hHeld2 (by decide)
      clear hHeld2 hK K
      try simp only [List.getElem_toArray, List.getElem_cons_zero, List.getElem_cons_succ, Act.put, List.setIfInBounds_toArray, List.set_cons_zero, List.set_cons_succ]
      refine wpAnyT_ready (rs := [18]) (by kernel_rfl) (by simp) ?_
      refine AllT.cons (o := _) rfl (fun K hK => ?_) AllT.nil
      go_simp
      refine hK.out _ _ (fun h => absurd h (by decide)) (fun _ => ?_)
      clear hK K
      try simp only [List.getElem_toArray, List.getElem_cons_zero, List.getElem_cons_succ, Act.put, List.setIfInBounds_toArray, List.set_cons_zero, List.set_cons_succ]
      refine wpAnyT_done (by kernel_rfl) (NoPanic.normal ?_) _
      go_wp2
      go_meet
      exact cut12_15 w2 wr HBd.out
    refine AllT.cons (o := _) rfl (fun K hK => ?_) ?_
    · go_simp
      refine hK.out _ _ (fun _ => ?_) (fun hHeld2 => ?_)
      · exact HS.out _ (HBd.out.alloc HBd.out.size _)
      replace hHeld := hHeld2 (by decide)
      clear hHeld2 hK K
      try simp only [List.getElem_toArray, List.getElem_cons_zero, List.getElem_cons_succ, Act.put, List.setIfInBounds_toArray, List.set_cons_zero, List.set_cons_succ]
      refine wpAnyT_ready (rs := [15]) (by kernel_rfl) (by simp) ?_
      refine AllT.cons (o := _) rfl (fun K hK => ?_) AllT.nil
      go_simp
      refine hK.out _ _ (fun _ => ?_) (fun hHeld2 => ?_)
      · exact HS.out _ ((HBd.out.alloc HBd.out.size _).alloc (by have := HBd.out.size; simp; omega) _)
      replace hHeld := hHeld2 (by decide)
      clear hHeld2 hK K
      try simp only [List.getElem_toArray, List.getElem_cons_zero, List.getElem_cons_succ, Act.put, List.setIfInBounds_toArray, List.set_cons_zero, List.set_cons_succ]
      refine wpAnyT_ready (rs := [17]) (by kernel_rfl) (by simp) ?_
      refine AllT.cons (o := _) rfl (fun K hK => ?_) AllT.nil
      go_simp
      refine hK.out _ _ (fun _ => ?_) (fun hHeld2 => ?_)
      · exact HS.out _ ((HBd.out.alloc HBd.out.size _).alloc (by have := HBd.out.size; simp; omega) _)
      replace hHeld := hHeld2 (by decide)
      clear hHeld2 hK K
      try simp only [List.getElem_toArray, List.getElem_cons_zero, List.getElem_cons_succ, Act.put, List.setIfInBounds_toArray, List.set_cons_zero, List.set_cons_succ]
      refine wpAnyT_ready (rs := [18]) (by kernel_rfl) (by simp) ?_
      refine AllT.cons (o := _) rfl (fun K hK => ?_) AllT.nil
      go_simp
      refine hK.out _ _ (fun h => absurd h (by decide)) (fun _ => ?_)
      clear hK K
      try simp only [List.getElem_toArray, List.getElem_cons_zero, List.getElem_cons_succ, Act.put, List.setIfInBounds_toArray, List.set_cons_zero, List.set_cons_succ]
      refine wpAnyT_done (by kernel_rfl) (NoPanic.normal ?_) _
      go_wp2
      go_meet
      exact cut12_16 w2 wr HBd.out
    exact AllT.nil
  case rest =>
  obtain ⟨gx, gy, rfl, rfl, BX, BY, hbc⟩ := hcut
  have HX := Lib.hid BX
  have HY := Lib.hid BY
  have HBc := Lib.hid (HBj.out.trans (hbc.mono HBj.out.size))
  clear BX BY hbc HS HBj
  have r0 := HX.out.cell 0
  have s0 := HY.out.cell 0
  go_upto_region 16 with (go_at_call 14; refine (HOPS.out _).mono ?_; rintro e w6 hN; obtain ⟨pl, rfl, hb6, hl6⟩ := newInts_any9 hN; have HB6 := Lib.hid hb6; have HL6 := Lib.hid hl6; clear hN hb6 hl6)
  have HBC6 := Lib.hid (HBc.out.trans (HB6.out.mono HBc.out.size))
  obtain ⟨gl, hgl⟩ : ∃ gl, wc.heap.size = gl := ⟨_, rfl⟩
  have HX6 := Lib.hid (HX.out.below HB6.out HX.out.lt)
  have HY6 := Lib.hid (HY.out.below HB6.out HY.out.lt)
  rw [hgl] at HL6
  clear hgl r0 s0 HX HY HB6 HBc HOPS
  have hfew := ops_few y0
  generalize hL : opsOf y0 = L at HM0 HT0 HL6 hfew ⊢
  clear hL
  go_wp2
  go_loopw [15] (fun mm wr => ∃ m : Nat, m ≤ L.length ∧ mm = .int .i64 m ∧ Hid (Below w6.heap.size w6 wr)) (fun mm _ => L.length - (intOf mm).toNat)
  case atStart => exact ⟨0, by omega, rfl, Lib.hid (Below.refl _ w6)⟩
  obtain ⟨m, hml, rfl, HBm⟩ := hrel
  have HBC := Lib.hid (HBC6.out.trans (HBm.out.mono HBC6.out.size))
  by_cases hm : m < L.length
  case neg =>
    obtain rfl : m = L.length := by omega
    go_wp2
    go_roundw
    case rel => first | exact ⟨j + 1, by omega, by go_num, HBC⟩ | ((repeat apply Exists.intro); exact ⟨⟨j + 1, by omega, by go_num, HBC⟩, rfl⟩)
    case measure => simp [intOf]; omega
  obtain ⟨rfl, HKL⟩ := HL6.out (by omega)
  have HKL := Lib.hid HKL
  have HM1 := Lib.hid (HM0.out m hm)
  have HT1 := Lib.hid (HT0.out m hm)
  have hk0 := (HKL.out.cell m).trans (kinds_at L m hm)
  have hx0 := (HX6.out.cell (1 + m)).trans (arg_atL y0 x1 x2 x3 x4 m (by omega))
  have hy0 := (HY6.out.cell (1 + m)).trans (arg_atL y0 y1 y2 y3 y4 m (by omega))
  generalize L.getD m 0 = kd at HM1 HT1 hk0
  generalize (argOf (y0, x1, x2, x3, x4)).getD m 0 = xm at HM1 HT1 hx0
  generalize (argOf (y0, y1, y2, y3, y4)).getD m 0 = ym at HM1 HT1 hy0
  have HS : Hid (∀ W : World, Below wr.heap.size wr W → (fun w' => w'.cell? ⟨b, off + k * 4, none⟩ = some (.slice D1 x.atoms.length e1) ∧ w'.cell? ⟨b, off + k * 4 + 1, none⟩ = some (.slice D2 x.funs.length e2) ∧ w'.cell? ⟨b, off + k * 4 + 2, none⟩ = some (.slice D3 x.preds.length e3) ∧ w'.cell? ⟨b, off + k * 4 + 3, none⟩ = some (.slice (some ⟨bi, oi, none⟩) x.code.length e4) ∧ w'.cell? ⟨gb, 0, none⟩ = some (.slice O1 o.atoms.length c1) ∧ w'.cell? ⟨gb, 1, none⟩ = some (.slice O2 o.funs.length c2) ∧ w'.cell? ⟨gb, 2, none⟩ = some (.slice O3 o.preds.length c3) ∧ w'.cell? ⟨gb, 3, none⟩ = some (.slice (some ⟨bo, oo, none⟩) o.code.length c4) ∧ w'.cell? ⟨gl, m, none⟩ = some (.int .i64 kd) ∧ w'.cell? ⟨gx, 1 + m, none⟩ = some (.int .i64 xm) ∧ w'.cell? ⟨gy, 1 + m, none⟩ = some (.int .i64 ym)) W) := Lib.hid (fun W hb => by
    have h := HBC.out.trans (hb.mono HBC.out.size)
    have h6 := HBm.out.trans (hb.mono HBm.out.size)
    exact ⟨bel_cell d0 h, bel_cell d1 h, bel_cell d2 h, bel_cell d3 h, bel_cell (X4.out.cell 0) h, bel_cell (X4.out.cell 1) h, bel_cell (X4.out.cell 2) h, bel_cell (X4.out.cell 3) h, bel_cell hk0 h6, bel_cell hx0 h6, bel_cell hy0 h6⟩)
  have HUP : Hid (∀ W : World, Below wr.heap.size wr W → Hid (Below w6.heap.size w6 W)) := Lib.hid (fun W h => Lib.hid (HBm.out.trans (h.mono HBm.out.size)))
  have HFR := Lib.hid (fun (W : World) (hb : Below wr.heap.size wr W) => fromOb_any o HWO.out _ _ _ _ W (HO4.out.below (HBC.out.trans (hb.mono HBC.out.size))) HNA.out)
  have HME := Lib.hid (fun (W : World) (ua uf up uc : Value) (hb : Below wr.heap.size wr W) (hu : ObAt W ua uf up uc o) => means_any x o kd xm ym (bk : Int) ⟨by omega, by omega⟩ HM1.out HT1.out _ _ _ _ ua uf up uc W (HAT.out.below (HBC.out.trans (hb.mono HBC.out.size))) hu)
  have m0 : (0 : Int) ≤ (m : Int) := by omega
  have m1 : (m : Int) < (L.length : Int) := by omega
  have m4 : (m : Int) < 4 := by omega
  clear d0 d1 d2 d3 i0 i1 i2 i3 i4 zz0 zz1 zz2 zz3 zz4 hadd hadd2 ad0 ad1 ad2 hk0 hx0 hy0 hy1 HX6 HY6 HL6 HKL HM0 HT0 HM1 HT1 HFk HFm HFt HAT HO4 X4 H1 HTD HMD HBL HBC6 HBm HBC
  go_upto_region 19 with (fail)
  refine wp_region_noPanic ?_
  refine wp_region_T 21 (fun w' => w'.cell? ⟨b, off + k * 4, none⟩ = some (.slice D1 x.atoms.length e1) ∧ w'.cell? ⟨b, off + k * 4 + 1, none⟩ = some (.slice D2 x.funs.length e2) ∧ w'.cell? ⟨b, off + k * 4 + 2, none⟩ = some (.slice D3 x.preds.length e3) ∧ w'.cell? ⟨b, off + k * 4 + 3, none⟩ = some (.slice (some ⟨bi, oi, none⟩) x.code.length e4) ∧ w'.cell? ⟨gb, 0, none⟩ = some (.slice O1 o.atoms.length c1) ∧ w'.cell? ⟨gb, 1, none⟩ = some (.slice O2 o.funs.length c2) ∧ w'.cell? ⟨gb, 2, none⟩ = some (.slice O3 o.preds.length c3) ∧ w'.cell? ⟨gb, 3, none⟩ = some (.slice (some ⟨bo, oo, none⟩) o.code.length c4) ∧ w'.cell? ⟨gl, m, none⟩ = some (.int .i64 kd) ∧ w'.cell? ⟨gx, 1 + m, none⟩ = some (.int .i64 xm) ∧ w'.cell? ⟨gy, 1 + m, none⟩ = some (.int .i64 ym)) (by kernel_rfl) ?_ (fun hHeld => ?_)
  · exact HS.out _ ⟨rfl, rfl, rfl, Nat.le_refl _, fun _ _ => rfl⟩
  change wpAnyT _ _ _ _ _ _ _ _ _ (wr.drewN 1)
  replace hHeld : (wr.drewN 1).cell? ⟨b, off + k * 4, none⟩ = some (.slice D1 x.atoms.length e1) ∧ (wr.drewN 1).cell? ⟨b, off + k * 4 + 1, none⟩ = some (.slice D2 x.funs.length e2) ∧ (wr.drewN 1).cell? ⟨b, off + k * 4 + 2, none⟩ = some (.slice D3 x.preds.length e3) ∧ (wr.drewN 1).cell? ⟨b, off + k * 4 + 3, none⟩ = some (.slice (some ⟨bi, oi, none⟩) x.code.length e4) ∧ (wr.drewN 1).cell? ⟨gb, 0, none⟩ = some (.slice O1 o.atoms.length c1) ∧ (wr.drewN 1).cell? ⟨gb, 1, none⟩ = some (.slice O2 o.funs.length c2) ∧ (wr.drewN 1).cell? ⟨gb, 2, none⟩ = some (.slice O3 o.preds.length c3) ∧ (wr.drewN 1).cell? ⟨gb, 3, none⟩ = some (.slice (some ⟨bo, oo, none⟩) o.code.length c4) ∧ (wr.drewN 1).cell? ⟨gl, m, none⟩ = some (.int .i64 kd) ∧ (wr.drewN 1).cell? ⟨gx, 1 + m, none⟩ = some (.int .i64 xm) ∧ (wr.drewN 1).cell? ⟨gy, 1 + m, none⟩ = some (.int .i64 ym) := hHeld
  have HBd : Hid (Below wr.heap.size wr (wr.drewN 1)) := Lib.hid ⟨rfl, rfl, rfl, Nat.le_refl _, fun _ _ => rfl⟩
  generalize wr.drewN 1 = w2 at HBd hHeld ⊢
  refine tkP (i := 0) (v := ?_) rfl (fun _ _ _ h => h) (Or.inl ⟨by kernel_rfl, ?_⟩) ?_
  rotate_left
  · intro w hSw
    try dsimp only at hSw
    go_simp
    try with_reducible rfl
  try simp only [List.getElem_toArray, List.getElem_cons_zero, List.getElem_cons_succ, Act.put, List.setIfInBounds_toArray, List.set_cons_zero, List.set_cons_succ]
  refine tkP (i := 1) (v := ?_) rfl (fun _ _ _ h => h) (Or.inl ⟨by kernel_rfl, ?_⟩) ?_
  rotate_left
  · intro w hSw
    try dsimp only at hSw
    go_simp
    try with_reducible rfl
  try simp only [List.getElem_toArray, List.getElem_cons_zero, List.getElem_cons_succ, Act.put, List.setIfInBounds_toArray, List.set_cons_zero, List.set_cons_succ]
  refine tkP (i := 2) (v := ?_) rfl (fun _ _ _ h => h) (Or.inl ⟨by kernel_rfl, ?_⟩) ?_
  rotate_left
  · intro w hSw
    try dsimp only at hSw
    go_simp
    try with_reducible rfl
  try simp only [List.getElem_toArray, List.getElem_cons_zero, List.getElem_cons_succ, Act.put, List.setIfInBounds_toArray, List.set_cons_zero, List.set_cons_succ]
  refine tkS (i := 3) (v := ?_) rfl (fun _ _ _ h => h) (Or.inl ⟨by kernel_rfl, ?_⟩) hHeld ?_
  rotate_left
  · intro w hSw
    try dsimp only at hSw
    go_simp
    try with_reducible rfl
  try simp only [List.getElem_toArray, List.getElem_cons_zero, List.getElem_cons_succ, Act.put, List.setIfInBounds_toArray, List.set_cons_zero, List.set_cons_succ]
  refine tkS (i := 4) (v := ?_) rfl (fun _ _ _ h => h) (Or.inl ⟨by kernel_rfl, ?_⟩) hHeld ?_
  rotate_left
  · intro w hSw
    try dsimp only at hSw
    go_simp
    try with_reducible rfl
  try simp only [List.getElem_toArray, List.getElem_cons_zero, List.getElem_cons_succ, Act.put, List.setIfInBounds_toArray, List.set_cons_zero, List.set_cons_succ]
  refine tkP (i := 6) (v := ?_) rfl (fun _ _ _ h => h) (Or.inl ⟨by kernel_rfl, ?_⟩) ?_
  rotate_left
  · intro w hSw
    try dsimp only at hSw
    go_simp
    try with_reducible rfl
  try simp only [List.getElem_toArray, List.getElem_cons_zero, List.getElem_cons_succ, Act.put, List.setIfInBounds_toArray, List.set_cons_zero, List.set_cons_succ]
  refine tkP (i := 7) (v := ?_) rfl (fun _ _ _ h => h) (Or.inl ⟨by kernel_rfl, ?_⟩) ?_
  rotate_left
  · intro w hSw
    try dsimp only at hSw
    go_simp
    try with_reducible rfl
  try simp only [List.getElem_toArray, List.getElem_cons_zero, List.getElem_cons_succ, Act.put, List.setIfInBounds_toArray, List.set_cons_zero, List.set_cons_succ]
  refine tkP (i := 8) (v := ?_) rfl (fun _ _ _ h => h) (Or.inl ⟨by kernel_rfl, ?_⟩) ?_
  rotate_left
  · intro w hSw
    try dsimp only at hSw
    go_simp
    try with_reducible rfl
  try simp only [List.getElem_toArray, List.getElem_cons_zero, List.getElem_cons_succ, Act.put, List.setIfInBounds_toArray, List.set_cons_zero, List.set_cons_succ]
  refine tkS (i := 9) (v := ?_) rfl (fun _ _ _ h => h) (Or.inl ⟨by kernel_rfl, ?_⟩) hHeld ?_
  rotate_left
  · intro w hSw
    try dsimp only at hSw
    go_simp
    try with_reducible rfl
  try simp only [List.getElem_toArray, List.getElem_cons_zero, List.getElem_cons_succ, Act.put, List.setIfInBounds_toArray, List.set_cons_zero, List.set_cons_succ]
  refine tkP (i := 10) (v := ?_) rfl (fun _ _ _ h => h) (Or.inl ⟨by kernel_rfl, ?_⟩) ?_
  rotate_left
  · intro w hSw
    try dsimp only at hSw
    go_simp
    try with_reducible rfl
  try simp only [List.getElem_toArray, List.getElem_cons_zero, List.getElem_cons_succ, Act.put, List.setIfInBounds_toArray, List.set_cons_zero, List.set_cons_succ]
  refine tkP (i := 11) (v := ?_) rfl (fun _ _ _ h => h) (Or.inl ⟨by kernel_rfl, ?_⟩) ?_
  rotate_left
  · intro w hSw
    try dsimp only at hSw
    go_simp
    try with_reducible rfl
  try simp only [List.getElem_toArray, List.getElem_cons_zero, List.getElem_cons_succ, Act.put, List.setIfInBounds_toArray, List.set_cons_zero, List.set_cons_succ]
  refine tkP (i := 12) (v := ?_) rfl (fun _ _ _ h => h) (Or.inl ⟨by kernel_rfl, ?_⟩) ?_
  rotate_left
  · intro w hSw
    try dsimp only at hSw
    go_simp
    try with_reducible rfl
  try simp only [List.getElem_toArray, List.getElem_cons_zero, List.getElem_cons_succ, Act.put, List.setIfInBounds_toArray, List.set_cons_zero, List.set_cons_succ]
  refine tkS (i := 13) (v := ?_) rfl (fun _ _ _ h => h) (Or.inl ⟨by kernel_rfl, ?_⟩) hHeld ?_
  rotate_left
  · intro w hSw
    try dsimp only at hSw
    go_simp
    try with_reducible rfl
  try simp only [List.getElem_toArray, List.getElem_cons_zero, List.getElem_cons_succ, Act.put, List.setIfInBounds_toArray, List.set_cons_zero, List.set_cons_succ]
  refine tkP (i := 14) (v := ?_) rfl (fun _ _ _ h => h) (Or.inl ⟨by kernel_rfl, ?_⟩) ?_
  rotate_left
  · intro w hSw
    try dsimp only at hSw
    go_simp
    try with_reducible rfl
  try simp only [List.getElem_toArray, List.getElem_cons_zero, List.getElem_cons_succ, Act.put, List.setIfInBounds_toArray, List.set_cons_zero, List.set_cons_succ]
  refine tkP (i := 15) (v := ?_) rfl (fun _ _ _ h => h) (Or.inl ⟨by kernel_rfl, ?_⟩) ?_
  rotate_left
  · intro w hSw
    try dsimp only at hSw
    go_simp
    try with_reducible rfl
  try simp only [List.getElem_toArray, List.getElem_cons_zero, List.getElem_cons_succ, Act.put, List.setIfInBounds_toArray, List.set_cons_zero, List.set_cons_succ]
  refine tkP (i := 16) (v := ?_) rfl (fun _ _ _ h => h) (Or.inl ⟨by kernel_rfl, ?_⟩) ?_
  rotate_left
  · intro w hSw
    try dsimp only at hSw
    go_simp
    try with_reducible rfl
  try simp only [List.getElem_toArray, List.getElem_cons_zero, List.getElem_cons_succ, Act.put, List.setIfInBounds_toArray, List.set_cons_zero, List.set_cons_succ]
  refine tkS (i := 17) (v := ?_) rfl (fun _ _ _ h => h) (Or.inl ⟨by kernel_rfl, ?_⟩) hHeld ?_
  rotate_left
  · intro w hSw
    try dsimp only at hSw
    go_simp
    try with_reducible rfl
  try simp only [List.getElem_toArray, List.getElem_cons_zero, List.getElem_cons_succ, Act.put, List.setIfInBounds_toArray, List.set_cons_zero, List.set_cons_succ]
  refine tkP (i := 18) (v := ?_) rfl (fun _ _ _ h => h) (Or.inl ⟨by kernel_rfl, ?_⟩) ?_
  rotate_left
  · intro w hSw
    try dsimp only at hSw
    go_simp
    try with_reducible rfl
  try simp only [List.getElem_toArray, List.getElem_cons_zero, List.getElem_cons_succ, Act.put, List.setIfInBounds_toArray, List.set_cons_zero, List.set_cons_succ]
  refine wpAnyT_ready (rs := [5]) (by kernel_rfl) (by simp) ?_
  refine AllT.cons (o := _) rfl (fun K hK => ?_) AllT.nil
  go_simp
  go_at_call 12; refine (HFR.out w2 HBd.out).mono ?_; rintro e3 w3 ⟨ua, uf, up, uc, rfl, hu, hb3, _⟩; obtain ⟨U1, u1, hua⟩ := hu.atoms.form; obtain ⟨U2, u2, huf⟩ := hu.funs.form; obtain ⟨U3, u3, hup⟩ := hu.preds.form; obtain ⟨U4, u4, huc⟩ := hu.code.form; subst hua huf hup huc; have HU3 := Lib.hid hu; have HBe := Lib.hid (HBd.out.trans (hb3.mono HBd.out.size)); clear hu hb3
  refine hK.out _ _ (fun _ => ?_) (fun hHeld2 => ?_)
  · exact HS.out _ HBe.out
  replace hHeld := hHeld2 (by decide)
  clear hHeld2 hK K
  try simp only [List.getElem_toArray, List.getElem_cons_zero, List.getElem_cons_succ, Act.put, List.setIfInBounds_toArray, List.set_cons_zero, List.set_cons_succ]
  refine wpAnyT_ready (rs := [19]) (by kernel_rfl) (by simp) ?_
  refine AllT.cons (o := _) rfl (fun K hK => ?_) AllT.nil
  refine step_of_callL (vs := #[.agg #[.slice D1 x.atoms.length e1, .slice D2 x.funs.length e2, .slice D3 x.preds.length e3, .slice (some ⟨bi, oi, none⟩) x.code.length e4], .agg #[.slice U1 o.atoms.length u1, .slice U2 o.funs.length u2, .slice U3 o.preds.length u3, .slice U4 o.code.length u4], .int .i64 kd, .int .i64 xm, .int .i64 ym, .int .i64 bk]) (by kernel_rfl) (enters_of Tryz.func15 (by kernel_rfl) rfl) _ rfl (by kernel_rfl) ?_
  refine (HME.out w3 _ _ _ _ HBe.out HU3.out).mono ?_
  rintro e5 w5 ⟨rfl, hb5⟩
  have HBf := Lib.hid (HBe.out.trans (hb5.mono HBe.out.size))
  clear hb5
  refine ⟨_, rfl, ?_⟩
  refine hK.out _ _ (fun _ => ?_) (fun hHeld2 => ?_)
  · exact HS.out _ HBf.out
  replace hHeld := hHeld2 (by decide)
  clear hHeld2 hK K
  try simp only [List.getElem_toArray, List.getElem_cons_zero, List.getElem_cons_succ, Act.put, List.setIfInBounds_toArray, List.set_cons_zero, List.set_cons_succ]
  refine tkP (i := 20) (v := ?_) rfl (fun _ _ _ h => h) (Or.inl ⟨by kernel_rfl, ?_⟩) ?_
  rotate_left
  · intro w hSw
    try dsimp only at hSw
    go_simp
    try with_reducible rfl
  try simp only [List.getElem_toArray, List.getElem_cons_zero, List.getElem_cons_succ, Act.put, List.setIfInBounds_toArray, List.set_cons_zero, List.set_cons_succ]
  refine wpAnyT_done (by kernel_rfl) (NoPanic.normal ?_) _
  go_wp2
  go_roundw
  case rel => first | exact ⟨m + 1, by omega, by go_num, HUP.out _ HBf.out⟩ | ((repeat apply Exists.intro); exact ⟨⟨m + 1, by omega, by go_num, HUP.out _ HBf.out⟩, rfl⟩)
  case measure => simp [intOf]; omega
end Go.Proofs.YtclkdlegogjnbaaGreatDoor
