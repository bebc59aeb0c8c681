/-
  LinkParts (walk). Conditions: the tables are as they are laid.
-/
import Derived.Test.YtclkdlegogjnbaaGreatDoorQ45
import Derived.Test.YtclkdlegogjnbaaGreatDoorQ44
import Derived.Test.YtclkdlegogjnbaaGreatDoorQ46
import Derived.Test.YtclkdlegogjnbaaGreatDoorQ47
import Derived.Test.YtclkdlegogjnbaaGreatDoorQ51
import Derived.Test.YtclkdlegogjnbaaGreatDoorQ30
namespace Go.Proofs.YtclkdlegogjnbaaGreatDoor
open Go Go.RowKit Go.WideShapes Go.ChangeShapes
set_option linter.unusedVariables false
set_option linter.unusedSimpArgs false

set_option maxRecDepth 100000 in
set_option maxHeartbeats 32000000 in
theorem linkParts_any (l : List Ob) (which : Int) (qs : List (Value × Value × Value × Value)) (v : Value) (w : World) {B : Nat} (hp : LaidC B w) (hv : ObsAt w v qs l) (hnil : NilAll qs) :
    Calls Tryz.prog 5 #[v, .int .i64 which] w fun e w' => e = .returned (.bool true) ∧ Below w.heap.size w w' := by
  have HL := Lib.hid (list_any l which qs v w hv hnil)
  have HP := Lib.hid hp
  have HTD := Lib.hid (fun W (h : LaidC B W) => told10_any W h)
  obtain ⟨A, c, rfl⟩ := hv.cells.form
  clear hv hnil hp
  go_enter Tryz.func5, Tryz.ntmps5
  go_upto_region 2 with (go_at_call 6; refine HL.out.mono ?_; rintro e w1 ⟨v1, qs1, l1, rfl, h1, hn1, hlen1, hwf1, hb1⟩; obtain ⟨B1, b1, hv1⟩ := h1.cells.form; subst hv1; have H1 := Lib.hid h1; have HN1 := Lib.hid hn1; have HWF := Lib.hid hwf1; have HB1 := Lib.hid hb1; have HLEN := Lib.hid hlen1; clear h1 hn1 hwf1 hb1 hlen1)
  have hl4 : l1.length ≤ 4 := by have := HLEN.out; omega
  by_cases h3 : (l1.length : Int) < 3
  case pos =>
    have HT1 := Lib.hid (HTD.out w1 (HP.out.up HB1.out))
    go_wp2_with (go_at_call 7; refine HT1.out.mono ?_; rintro e w5 ⟨rfl, hb5⟩; have HB5 := Lib.hid (HB1.out.trans (hb5.mono HB1.out.size)); clear hb5 HT1)
    go_ret
    exact ⟨rfl, HB5.out⟩
  have HLO := Lib.hid (lobjs_any l1 HWF.out (by omega) qs1 _ w1 H1.out HN1.out)
  unfold ObsW at HLO
  clear HL
  go_upto_region 5 with (go_at_call 8; refine HLO.out.mono ?_; rintro e w2 ⟨v2, qs2, rfl, h2, hn2, hb2⟩; obtain ⟨B2, b2, hv2⟩ := h2.cells.form; subst hv2; have H2 := Lib.hid h2; have HN2 := Lib.hid hn2; have HB2 := Lib.hid (HB1.out.trans (hb2.mono HB1.out.size)); clear h2 hn2 hb2)
  obtain ⟨b, off, E0, ec0, E1, ec1, E2, ec2, E3, ec3, rfl, d0, d1, d2, d3, hata, hna⟩ := H2.out.cell HN2.out 0 (by omega) w2 (Below.refl _ _)
  obtain ⟨b', off', F0, fc0, F1, fc1, F2, fc2, F3, fc3, hA', f0, f1, f2, f3, hatb, hnb⟩ := H2.out.cell HN2.out 1 (by omega) w2 (Below.refl _ _)
  obtain ⟨b'', off'', G0, gc0, G1, gc1, G2, gc2, G3, gc3, hA'', k0, k1, k2, k3, hatc, hnc⟩ := H2.out.cell HN2.out 2 (by omega) w2 (Below.refl _ _)
  obtain ⟨rfl, rfl⟩ : b = b' ∧ off = off' := by injection hA' with h; injection h with h1 h2 _; exact ⟨h1, h2⟩
  obtain ⟨rfl, rfl⟩ : b = b'' ∧ off = off'' := by injection hA'' with h; injection h with h1 h2 _; exact ⟨h1, h2⟩
  clear hA' hA''
  simp only [Nat.zero_mul, Nat.one_mul, Nat.add_zero, Nat.reduceMul, Nat.add_assoc, Nat.reduceAdd] at d0 d1 d2 d3 f0 f1 f2 f3 k0 k1 k2 k3
  have HWA := Lib.hid (HWF.out _ (List.getElem_mem (show 0 < l1.length by omega)))
  have HWB := Lib.hid (HWF.out _ (List.getElem_mem (show 1 < l1.length by omega)))
  have HWC := Lib.hid (HWF.out _ (List.getElem_mem (show 2 < l1.length by omega)))
  generalize l1[0] = oa at d0 d1 d2 d3 hata hna HWA
  generalize l1[1] = ob at f0 f1 f2 f3 hatb hnb HWB
  generalize l1[2] = oc at k0 k1 k2 k3 hatc hnc HWC
  have HATA := Lib.hid hata
  have HATB := Lib.hid hatb
  have HATC := Lib.hid hatc
  clear hata hatb hatc hna hnb hnc
  have HLC : Hid (∀ (W : World) (g : Nat) (t : TypeId), Below w2.heap.size w2 W → Box W g t #[.slice E0 oa.atoms.length ec0, .slice E1 oa.funs.length ec1, .slice E2 oa.preds.length ec2, .slice E3 oa.code.length ec3, .slice F0 ob.atoms.length fc0, .slice F1 ob.funs.length fc1, .slice F2 ob.preds.length fc2, .slice F3 ob.code.length fc3] → Calls Tryz.prog 9 #[.slice (some ⟨g, 0, none⟩) 2 2] W (AsmW W (linkP [oa, ob]))) := Lib.hid (fun W g t hb hx => objects_any [oa, ob] (fun x hx => by simp at hx; rcases hx with rfl | rfl; exact HWA.out; exact HWB.out) (by simp) [(.slice E0 oa.atoms.length ec0, .slice E1 oa.funs.length ec1, .slice E2 oa.preds.length ec2, .slice E3 oa.code.length ec3), (.slice F0 ob.atoms.length fc0, .slice F1 ob.funs.length fc1, .slice F2 ob.preds.length fc2, .slice F3 ob.code.length fc3)] _ W ((HP.out.up HB2.out).up hb).names (fun W' hb' => (((HP.out.up HB2.out).up hb).up hb').names)
    (obs_of_box (qs := [(.slice E0 oa.atoms.length ec0, .slice E1 oa.funs.length ec1, .slice E2 oa.preds.length ec2, .slice E3 oa.code.length ec3), (.slice F0 ob.atoms.length fc0, .slice F1 ob.funs.length fc1, .slice F2 ob.preds.length fc2, .slice F3 ob.code.length fc3)]) (l := [oa, ob]) hx rfl (by simp) (fun k hk => by
      match k, hk with
      | 0, _ => exact HATA.out.below hb
      | 1, _ => exact HATB.out.below hb) 2 rfl))
  obtain ⟨⟨oab, e0, n0⟩, hr⟩ : ∃ r, linkP [oa, ob] = r := ⟨_, rfl⟩
  have HR := Lib.hid hr
  rw [hr] at HLC
  unfold AsmW at HLC
  simp only at HLC
  clear hr
  have HS : Hid (∀ W : World, Below w2.heap.size w2 W → (fun w' => w'.cell? ⟨b, off, none⟩ = some (.slice E0 oa.atoms.length ec0) ∧ w'.cell? ⟨b, off + 1, none⟩ = some (.slice E1 oa.funs.length ec1) ∧ w'.cell? ⟨b, off + 2, none⟩ = some (.slice E2 oa.preds.length ec2) ∧ w'.cell? ⟨b, off + 3, none⟩ = some (.slice E3 oa.code.length ec3) ∧ w'.cell? ⟨b, off + 4, none⟩ = some (.slice F0 ob.atoms.length fc0) ∧ w'.cell? ⟨b, off + 5, none⟩ = some (.slice F1 ob.funs.length fc1) ∧ w'.cell? ⟨b, off + 6, none⟩ = some (.slice F2 ob.preds.length fc2) ∧ w'.cell? ⟨b, off + 7, none⟩ = some (.slice F3 ob.code.length fc3)) W) := Lib.hid (fun W hb => ⟨bel_cell d0 hb, bel_cell d1 hb, bel_cell d2 hb, bel_cell d3 hb, bel_cell f0 hb, bel_cell f1 hb, bel_cell f2 hb, bel_cell f3 hb⟩)
  have HS12 : Hid (∀ W : World, Below w2.heap.size w2 W → ((fun w' => w'.cell? ⟨b, off, none⟩ = some (.slice E0 oa.atoms.length ec0) ∧ w'.cell? ⟨b, off + 1, none⟩ = some (.slice E1 oa.funs.length ec1) ∧ w'.cell? ⟨b, off + 2, none⟩ = some (.slice E2 oa.preds.length ec2) ∧ w'.cell? ⟨b, off + 3, none⟩ = some (.slice E3 oa.code.length ec3) ∧ w'.cell? ⟨b, off + 4, none⟩ = some (.slice F0 ob.atoms.length fc0) ∧ w'.cell? ⟨b, off + 5, none⟩ = some (.slice F1 ob.funs.length fc1) ∧ w'.cell? ⟨b, off + 6, none⟩ = some (.slice F2 ob.preds.length fc2) ∧ w'.cell? ⟨b, off + 7, none⟩ = some (.slice F3 ob.code.length fc3))) W ∧ W.cell? ⟨b, off + 8, none⟩ = some (.slice G0 oc.atoms.length gc0) ∧ W.cell? ⟨b, off + 9, none⟩ = some (.slice G1 oc.funs.length gc1) ∧ W.cell? ⟨b, off + 10, none⟩ = some (.slice G2 oc.preds.length gc2) ∧ W.cell? ⟨b, off + 11, none⟩ = some (.slice G3 oc.code.length gc3)) := Lib.hid (fun W hb => ⟨⟨bel_cell d0 hb, bel_cell d1 hb, bel_cell d2 hb, bel_cell d3 hb, bel_cell f0 hb, bel_cell f1 hb, bel_cell f2 hb, bel_cell f3 hb⟩, bel_cell k0 hb, bel_cell k1 hb, bel_cell k2 hb, bel_cell k3 hb⟩)
  have l0 : 0 < l1.length := by omega
  have l2 : (1 : Int) < (l1.length : Int) := by omega
  have l3 : (2 : Int) < (l1.length : Int) := by omega
  obtain ⟨wr, hwr⟩ : ∃ wr, w2 = wr := ⟨_, rfl⟩
  rw [hwr] at HS HS12 HLC HB2 HATA HATB HATC ⊢
  clear d0 d1 d2 d3 f0 f1 f2 f3 k0 k1 k2 k3
  go_cut [7, 8, 9] (fun t7 t8 t9 wc => LinkCut wr wc (oab, e0, n0) t7 t8 t9)
  case first =>
    refine wp_region_noPanic ?_
    refine wp_region_T 13 (fun w' => w'.cell? ⟨b, off, none⟩ = some (.slice E0 oa.atoms.length ec0) ∧ w'.cell? ⟨b, off + 1, none⟩ = some (.slice E1 oa.funs.length ec1) ∧ w'.cell? ⟨b, off + 2, none⟩ = some (.slice E2 oa.preds.length ec2) ∧ w'.cell? ⟨b, off + 3, none⟩ = some (.slice E3 oa.code.length ec3) ∧ w'.cell? ⟨b, off + 4, none⟩ = some (.slice F0 ob.atoms.length fc0) ∧ w'.cell? ⟨b, off + 5, none⟩ = some (.slice F1 ob.funs.length fc1) ∧ w'.cell? ⟨b, off + 6, none⟩ = some (.slice F2 ob.preds.length fc2) ∧ w'.cell? ⟨b, off + 7, none⟩ = some (.slice F3 ob.code.length fc3)) (by kernel_rfl) ?_ (fun hHeld => ?_)
    · exact HS.out _ ⟨rfl, rfl, rfl, Nat.le_refl _, fun _ _ => rfl⟩
    change wpAnyT _ _ _ _ _ _ _ _ _ (wr.drewN 1)
    replace hHeld : (wr.drewN 1).cell? ⟨b, off, none⟩ = some (.slice E0 oa.atoms.length ec0) ∧ (wr.drewN 1).cell? ⟨b, off + 1, none⟩ = some (.slice E1 oa.funs.length ec1) ∧ (wr.drewN 1).cell? ⟨b, off + 2, none⟩ = some (.slice E2 oa.preds.length ec2) ∧ (wr.drewN 1).cell? ⟨b, off + 3, none⟩ = some (.slice E3 oa.code.length ec3) ∧ (wr.drewN 1).cell? ⟨b, off + 4, none⟩ = some (.slice F0 ob.atoms.length fc0) ∧ (wr.drewN 1).cell? ⟨b, off + 5, none⟩ = some (.slice F1 ob.funs.length fc1) ∧ (wr.drewN 1).cell? ⟨b, off + 6, none⟩ = some (.slice F2 ob.preds.length fc2) ∧ (wr.drewN 1).cell? ⟨b, off + 7, none⟩ = some (.slice F3 ob.code.length fc3) := hHeld
    have HBd : Hid (Below wr.heap.size wr (wr.drewN 1)) := Lib.hid ⟨rfl, rfl, rfl, Nat.le_refl _, fun _ _ => rfl⟩
    generalize wr.drewN 1 = w2 at HBd hHeld ⊢
    refine tkP (i := 0) (v := ?_) rfl (fun _ _ _ h => h) (Or.inl ⟨by kernel_rfl, ?_⟩) ?_
    rotate_left
    · intro w hSw
      try dsimp only at hSw
      go_simp
      try with_reducible rfl
    try simp only [List.getElem_toArray, List.getElem_cons_zero, List.getElem_cons_succ, Act.put, List.setIfInBounds_toArray, List.set_cons_zero, List.set_cons_succ]
    refine tkP (i := 1) (v := ?_) rfl (fun _ _ _ h => h) (Or.inl ⟨by kernel_rfl, ?_⟩) ?_
    rotate_left
    · intro w hSw
      try dsimp only at hSw
      go_simp
      try with_reducible rfl
    try simp only [List.getElem_toArray, List.getElem_cons_zero, List.getElem_cons_succ, Act.put, List.setIfInBounds_toArray, List.set_cons_zero, List.set_cons_succ]
    refine tkS (i := 2) (v := ?_) rfl (fun _ _ _ h => h) (Or.inl ⟨by kernel_rfl, ?_⟩) hHeld ?_
    rotate_left
    · intro w hSw
      try dsimp only at hSw
      go_simp
      try with_reducible rfl
    try simp only [List.getElem_toArray, List.getElem_cons_zero, List.getElem_cons_succ, Act.put, List.setIfInBounds_toArray, List.set_cons_zero, List.set_cons_succ]
    refine tkP (i := 3) (v := ?_) rfl (fun _ _ _ h => h) (Or.inl ⟨by kernel_rfl, ?_⟩) ?_
    rotate_left
    · intro w hSw
      try dsimp only at hSw
      go_simp
      try with_reducible rfl
    try simp only [List.getElem_toArray, List.getElem_cons_zero, List.getElem_cons_succ, Act.put, List.setIfInBounds_toArray, List.set_cons_zero, List.set_cons_succ]
    refine tkP (i := 4) (v := ?_) rfl (fun _ _ _ h => h) (Or.inl ⟨by kernel_rfl, ?_⟩) ?_
    rotate_left
    · intro w hSw
      try dsimp only at hSw
      go_simp
      try with_reducible rfl
    try simp only [List.getElem_toArray, List.getElem_cons_zero, List.getElem_cons_succ, Act.put, List.setIfInBounds_toArray, List.set_cons_zero, List.set_cons_succ]
    refine tkS (i := 5) (v := ?_) rfl (fun _ _ _ h => h) (Or.inl ⟨by kernel_rfl, ?_⟩) hHeld ?_
    rotate_left
    · intro w hSw
      try dsimp only at hSw
      go_simp
      try with_reducible rfl
    try simp only [List.getElem_toArray, List.getElem_cons_zero, List.getElem_cons_succ, Act.put, List.setIfInBounds_toArray, List.set_cons_zero, List.set_cons_succ]
    refine wpAnyT_ready (rs := [6, 12]) (by kernel_rfl) (by simp) ?_
    refine AllT.cons (o := _) rfl (fun K hK => ?_) ?_
    · go_simp
      refine hK.out _ _ (fun _ => ?_) (fun hHeld2 => ?_)
      · exact HS.out _ (HBd.out.alloc HBd.out.size _)
      replace hHeld := hHeld2 (by decide)
      clear hHeld2 hK K
      try simp only [List.getElem_toArray, List.getElem_cons_zero, List.getElem_cons_succ, Act.put, List.setIfInBounds_toArray, List.set_cons_zero, List.set_cons_succ]
      refine wpAnyT_ready (rs := [7, 12]) (by kernel_rfl) (by simp) ?_
      refine AllT.cons (o := _) rfl (fun K hK => ?_) ?_
      · go_simp
        go_at_call 9; refine (HLC.out _ _ _ (HBd.out.alloc HBd.out.size _) (Box.new _ _ _)).mono ?_; rintro e w3 ⟨va, vf, vp, vc, rfl, ho, hb3⟩; obtain ⟨O1, o1, hva⟩ := ho.at_.atoms.form; obtain ⟨O2, o2, hvf⟩ := ho.at_.funs.form; obtain ⟨O3, o3, hvp⟩ := ho.at_.preds.form; obtain ⟨O4, o4, hvc⟩ := ho.at_.code.form; subst hva hvf hvp hvc; have HOO := Lib.hid ho; have HBe := Lib.hid ((HBd.out.alloc HBd.out.size _).trans (hb3.mono (HBd.out.alloc HBd.out.size _).size)); clear ho hb3
        refine hK.out _ _ (fun _ => ?_) (fun hHeld2 => ?_)
        · exact HS.out _ HBe.out
        replace hHeld := hHeld2 (by decide)
        clear hHeld2 hK K
        try simp only [List.getElem_toArray, List.getElem_cons_zero, List.getElem_cons_succ, Act.put, List.setIfInBounds_toArray, List.set_cons_zero, List.set_cons_succ]
        refine tkP (i := 8) (v := ?_) rfl (fun _ _ _ h => h) (Or.inl ⟨by kernel_rfl, ?_⟩) ?_
        rotate_left
        · intro w hSw
          try dsimp only at hSw
          go_simp
          try with_reducible rfl
        try simp only [List.getElem_toArray, List.getElem_cons_zero, List.getElem_cons_succ, Act.put, List.setIfInBounds_toArray, List.set_cons_zero, List.set_cons_succ]
        refine tkP (i := 9) (v := ?_) rfl (fun _ _ _ h => h) (Or.inl ⟨by kernel_rfl, ?_⟩) ?_
        rotate_left
        · intro w hSw
          try dsimp only at hSw
          go_simp
          try with_reducible rfl
        try simp only [List.getElem_toArray, List.getElem_cons_zero, List.getElem_cons_succ, Act.put, List.setIfInBounds_toArray, List.set_cons_zero, List.set_cons_succ]
        refine tkP (i := 10) (v := ?_) rfl (fun _ _ _ h => h) (Or.inl ⟨by kernel_rfl, ?_⟩) ?_
        rotate_left
        · intro w hSw
          try dsimp only at hSw
          go_simp
          try with_reducible rfl
        try simp only [List.getElem_toArray, List.getElem_cons_zero, List.getElem_cons_succ, Act.put, List.setIfInBounds_toArray, List.set_cons_zero, List.set_cons_succ]
        refine tkP (i := 11) (v := ?_) rfl (fun _ _ _ h => h) (Or.inl ⟨by kernel_rfl, ?_⟩) ?_
        rotate_left
        · intro w hSw
          try dsimp only at hSw
          go_simp
          try with_reducible rfl
        try simp only [List.getElem_toArray, List.getElem_cons_zero, List.getElem_cons_succ, Act.put, List.setIfInBounds_toArray, List.set_cons_zero, List.set_cons_succ]
        refine wpAnyT_ready (rs := [12]) (by kernel_rfl) (by simp) ?_
        refine AllT.cons (o := _) rfl (fun K hK => ?_) AllT.nil
        go_simp
        refine hK.out _ _ (fun _ => ?_) (fun hHeld2 => ?_)
        · exact HS.out _ (HBe.out.alloc HBe.out.size _)
        replace hHeld := hHeld2 (by decide)
        clear hHeld2 hK K
        try simp only [List.getElem_toArray, List.getElem_cons_zero, List.getElem_cons_succ, Act.put, List.setIfInBounds_toArray, List.set_cons_zero, List.set_cons_succ]
        refine wpAnyT_ready (rs := [13]) (by kernel_rfl) (by simp) ?_
        refine AllT.cons (o := _) rfl (fun K hK => ?_) AllT.nil
        go_simp
        refine hK.out _ _ (fun h => absurd h (by decide)) (fun _ => ?_)
        clear hK K
        try simp only [List.getElem_toArray, List.getElem_cons_zero, List.getElem_cons_succ, Act.put, List.setIfInBounds_toArray, List.set_cons_zero, List.set_cons_succ]
        refine tkP (i := 14) (v := ?_) rfl (fun _ _ _ h => h) (Or.inl ⟨by kernel_rfl, ?_⟩) ?_
        rotate_left
        · intro w hSw
          try dsimp only at hSw
          go_simp
          try with_reducible rfl
        try simp only [List.getElem_toArray, List.getElem_cons_zero, List.getElem_cons_succ, Act.put, List.setIfInBounds_toArray, List.set_cons_zero, List.set_cons_succ]
        refine tkP (i := 15) (v := ?_) rfl (fun _ _ _ h => h) (Or.inl ⟨by kernel_rfl, ?_⟩) ?_
        rotate_left
        · intro w hSw
          try dsimp only at hSw
          go_simp
          try with_reducible rfl
        try simp only [List.getElem_toArray, List.getElem_cons_zero, List.getElem_cons_succ, Act.put, List.setIfInBounds_toArray, List.set_cons_zero, List.set_cons_succ]
        refine wpAnyT_done (by kernel_rfl) (NoPanic.normal ?_) _
        go_wp2
        go_meet
        exact linkCut_late (r := (oab, e0, n0)) HBe.out HOO.out
      refine AllT.cons (o := _) rfl (fun K hK => ?_) ?_
      · go_simp
        refine hK.out _ _ (fun _ => ?_) (fun hHeld2 => ?_)
        · exact HS.out _ ((HBd.out.alloc HBd.out.size _).alloc (by have := HBd.out.size; simp; omega) _)
        replace hHeld := hHeld2 (by decide)
        clear hHeld2 hK K
        try simp only [List.getElem_toArray, List.getElem_cons_zero, List.getElem_cons_succ, Act.put, List.setIfInBounds_toArray, List.set_cons_zero, List.set_cons_succ]
        refine wpAnyT_ready (rs := [7]) (by kernel_rfl) (by simp) ?_
        refine AllT.cons (o := _) rfl (fun K hK => ?_) AllT.nil
        go_simp
        go_at_call 9; refine (HLC.out _ (w2.heap.size) _ ((HBd.out.alloc HBd.out.size _).alloc (by have := HBd.out.size; simp; omega) _) ((Box.new _ _ _).alloc _)).mono ?_; rintro e w3 ⟨va, vf, vp, vc, rfl, ho, hb3⟩; obtain ⟨O1, o1, hva⟩ := ho.at_.atoms.form; obtain ⟨O2, o2, hvf⟩ := ho.at_.funs.form; obtain ⟨O3, o3, hvp⟩ := ho.at_.preds.form; obtain ⟨O4, o4, hvc⟩ := ho.at_.code.form; subst hva hvf hvp hvc; have HXB := Lib.hid (Box.below (show Box _ (w2.heap.size + 1) 39 #[.slice none 0 0, .slice none 0 0, .slice none 0 0, .slice none 0 0] from (box_next _ _ _ _)) hb3 (Box.lt (show Box _ (w2.heap.size + 1) 39 #[.slice none 0 0, .slice none 0 0, .slice none 0 0, .slice none 0 0] from (box_next _ _ _ _)))); have HOO := Lib.hid ho; have HBe := Lib.hid (((HBd.out.alloc HBd.out.size _).alloc (by have := HBd.out.size; simp; omega) _).trans (hb3.mono ((HBd.out.alloc HBd.out.size _).alloc (by have := HBd.out.size; simp; omega) _).size)); clear ho hb3
        refine hK.out _ _ (fun _ => ?_) (fun hHeld2 => ?_)
        · exact HS.out _ HBe.out
        replace hHeld := hHeld2 (by decide)
        clear hHeld2 hK K
        try simp only [List.getElem_toArray, List.getElem_cons_zero, List.getElem_cons_succ, Act.put, List.setIfInBounds_toArray, List.set_cons_zero, List.set_cons_succ]
        refine tkP (i := 8) (v := ?_) rfl (fun _ _ _ h => h) (Or.inl ⟨by kernel_rfl, ?_⟩) ?_
        rotate_left
        · intro w hSw
          try dsimp only at hSw
          go_simp
          try with_reducible rfl
        try simp only [List.getElem_toArray, List.getElem_cons_zero, List.getElem_cons_succ, Act.put, List.setIfInBounds_toArray, List.set_cons_zero, List.set_cons_succ]
        refine tkP (i := 9) (v := ?_) rfl (fun _ _ _ h => h) (Or.inl ⟨by kernel_rfl, ?_⟩) ?_
        rotate_left
        · intro w hSw
          try dsimp only at hSw
          go_simp
          try with_reducible rfl
        try simp only [List.getElem_toArray, List.getElem_cons_zero, List.getElem_cons_succ, Act.put, List.setIfInBounds_toArray, List.set_cons_zero, List.set_cons_succ]
        refine tkP (i := 10) (v := ?_) rfl (fun _ _ _ h => h) (Or.inl ⟨by kernel_rfl, ?_⟩) ?_
        rotate_left
        · intro w hSw
          try dsimp only at hSw
          go_simp
          try with_reducible rfl
        try simp only [List.getElem_toArray, List.getElem_cons_zero, List.getElem_cons_succ, Act.put, List.setIfInBounds_toArray, List.set_cons_zero, List.set_cons_succ]
        refine tkP (i := 11) (v := ?_) rfl (fun _ _ _ h => h) (Or.inl ⟨by kernel_rfl, ?_⟩) ?_
        rotate_left
        · intro w hSw
          try dsimp only at hSw
          go_simp
          try with_reducible rfl
        try simp only [List.getElem_toArray, List.getElem_cons_zero, List.getElem_cons_succ, Act.put, List.setIfInBounds_toArray, List.set_cons_zero, List.set_cons_succ]
        refine wpAnyT_ready (rs := [13]) (by kernel_rfl) (by simp) ?_
        refine AllT.cons (o := _) rfl (fun K hK => ?_) AllT.nil
        have z0 := HXB.out.cell 0
        have z1 := HXB.out.cell 1
        have z2 := HXB.out.cell 2
        have z3 := HXB.out.cell 3
        have y0 := HXB.out.frozen 0
        have y1 := HXB.out.frozen 1
        have y2 := HXB.out.frozen 2
        have y3 := HXB.out.frozen 3
        go_simp
        refine hK.out _ _ (fun h => absurd h (by decide)) (fun _ => ?_)
        clear hK K
        try simp only [List.getElem_toArray, List.getElem_cons_zero, List.getElem_cons_succ, Act.put, List.setIfInBounds_toArray, List.set_cons_zero, List.set_cons_succ]
        refine tkP (i := 14) (v := ?_) rfl (fun _ _ _ h => h) (Or.inl ⟨by kernel_rfl, ?_⟩) ?_
        rotate_left
        · intro w hSw
          try dsimp only at hSw
          go_simp
          try with_reducible rfl
        try simp only [List.getElem_toArray, List.getElem_cons_zero, List.getElem_cons_succ, Act.put, List.setIfInBounds_toArray, List.set_cons_zero, List.set_cons_succ]
        refine tkP (i := 15) (v := ?_) rfl (fun _ _ _ h => h) (Or.inl ⟨by kernel_rfl, ?_⟩) ?_
        rotate_left
        · intro w hSw
          try dsimp only at hSw
          go_simp
          try with_reducible rfl
        try simp only [List.getElem_toArray, List.getElem_cons_zero, List.getElem_cons_succ, Act.put, List.setIfInBounds_toArray, List.set_cons_zero, List.set_cons_succ]
        refine wpAnyT_done (by kernel_rfl) (NoPanic.normal ?_) _
        go_wp2
        go_meet
        exact linkCut_early (r := (oab, e0, n0)) HXB.out (by have := HBd.out.size; omega) (by simp only [World.size_alloc]; omega) HBe.out HOO.out
      exact AllT.nil
    refine AllT.cons (o := _) rfl (fun K hK => ?_) ?_
    · go_simp
      refine hK.out _ _ (fun _ => ?_) (fun hHeld2 => ?_)
      · exact HS.out _ (HBd.out.alloc HBd.out.size _)
      replace hHeld := hHeld2 (by decide)
      clear hHeld2 hK K
      try simp only [List.getElem_toArray, List.getElem_cons_zero, List.getElem_cons_succ, Act.put, List.setIfInBounds_toArray, List.set_cons_zero, List.set_cons_succ]
      refine wpAnyT_ready (rs := [6]) (by kernel_rfl) (by simp) ?_
      refine AllT.cons (o := _) rfl (fun K hK => ?_) AllT.nil
      go_simp
      refine hK.out _ _ (fun _ => ?_) (fun hHeld2 => ?_)
      · exact HS.out _ ((HBd.out.alloc HBd.out.size _).alloc (by have := HBd.out.size; simp; omega) _)
      replace hHeld := hHeld2 (by decide)
      clear hHeld2 hK K
      try simp only [List.getElem_toArray, List.getElem_cons_zero, List.getElem_cons_succ, Act.put, List.setIfInBounds_toArray, List.set_cons_zero, List.set_cons_succ]
      refine wpAnyT_ready (rs := [7]) (by kernel_rfl) (by simp) ?_
      refine AllT.cons (o := _) rfl (fun K hK => ?_) AllT.nil
      go_simp
      go_at_call 9; refine (HLC.out _ (w2.heap.size + 1) _ ((HBd.out.alloc HBd.out.size _).alloc (by have := HBd.out.size; simp; omega) _) (box_next _ _ _ _)).mono ?_; rintro e w3 ⟨va, vf, vp, vc, rfl, ho, hb3⟩; obtain ⟨O1, o1, hva⟩ := ho.at_.atoms.form; obtain ⟨O2, o2, hvf⟩ := ho.at_.funs.form; obtain ⟨O3, o3, hvp⟩ := ho.at_.preds.form; obtain ⟨O4, o4, hvc⟩ := ho.at_.code.form; subst hva hvf hvp hvc; have HXB := Lib.hid (Box.below (show Box _ (w2.heap.size) 39 #[.slice none 0 0, .slice none 0 0, .slice none 0 0, .slice none 0 0] from ((Box.new _ _ _).alloc _)) hb3 (Box.lt (show Box _ (w2.heap.size) 39 #[.slice none 0 0, .slice none 0 0, .slice none 0 0, .slice none 0 0] from ((Box.new _ _ _).alloc _)))); have HOO := Lib.hid ho; have HBe := Lib.hid (((HBd.out.alloc HBd.out.size _).alloc (by have := HBd.out.size; simp; omega) _).trans (hb3.mono ((HBd.out.alloc HBd.out.size _).alloc (by have := HBd.out.size; simp; omega) _).size)); clear ho hb3
      refine hK.out _ _ (fun _ => ?_) (fun hHeld2 => ?_)
      · exact HS.out _ HBe.out
      replace hHeld := hHeld2 (by decide)
      clear hHeld2 hK K
      try simp only [List.getElem_toArray, List.getElem_cons_zero, List.getElem_cons_succ, Act.put, List.setIfInBounds_toArray, List.set_cons_zero, List.set_cons_succ]
      refine tkP (i := 8) (v := ?_) rfl (fun _ _ _ h => h) (Or.inl ⟨by kernel_rfl, ?_⟩) ?_
      rotate_left
      · intro w hSw
        try dsimp only at hSw
        go_simp
        try with_reducible rfl
      try simp only [List.getElem_toArray, List.getElem_cons_zero, List.getElem_cons_succ, Act.put, List.setIfInBounds_toArray, List.set_cons_zero, List.set_cons_succ]
      refine tkP (i := 9) (v := ?_) rfl (fun _ _ _ h => h) (Or.inl ⟨by kernel_rfl, ?_⟩) ?_
      rotate_left
      · intro w hSw
        try dsimp only at hSw
        go_simp
        try with_reducible rfl
      try simp only [List.getElem_toArray, List.getElem_cons_zero, List.getElem_cons_succ, Act.put, List.setIfInBounds_toArray, List.set_cons_zero, List.set_cons_succ]
      refine tkP (i := 10) (v := ?_) rfl (fun _ _ _ h => h) (Or.inl ⟨by kernel_rfl, ?_⟩) ?_
      rotate_left
      · intro w hSw
        try dsimp only at hSw
        go_simp
        try with_reducible rfl
      try simp only [List.getElem_toArray, List.getElem_cons_zero, List.getElem_cons_succ, Act.put, List.setIfInBounds_toArray, List.set_cons_zero, List.set_cons_succ]
      refine tkP (i := 11) (v := ?_) rfl (fun _ _ _ h => h) (Or.inl ⟨by kernel_rfl, ?_⟩) ?_
      rotate_left
      · intro w hSw
        try dsimp only at hSw
        go_simp
        try with_reducible rfl
      try simp only [List.getElem_toArray, List.getElem_cons_zero, List.getElem_cons_succ, Act.put, List.setIfInBounds_toArray, List.set_cons_zero, List.set_cons_succ]
      refine wpAnyT_ready (rs := [13]) (by kernel_rfl) (by simp) ?_
      refine AllT.cons (o := _) rfl (fun K hK => ?_) AllT.nil
      have z0 := HXB.out.cell 0
      have z1 := HXB.out.cell 1
      have z2 := HXB.out.cell 2
      have z3 := HXB.out.cell 3
      have y0 := HXB.out.frozen 0
      have y1 := HXB.out.frozen 1
      have y2 := HXB.out.frozen 2
      have y3 := HXB.out.frozen 3
      go_simp
      refine hK.out _ _ (fun h => absurd h (by decide)) (fun _ => ?_)
      clear hK K
      try simp only [List.getElem_toArray, List.getElem_cons_zero, List.getElem_cons_succ, Act.put, List.setIfInBounds_toArray, List.set_cons_zero, List.set_cons_succ]
      refine tkP (i := 14) (v := ?_) rfl (fun _ _ _ h => h) (Or.inl ⟨by kernel_rfl, ?_⟩) ?_
      rotate_left
      · intro w hSw
        try dsimp only at hSw
        go_simp
        try with_reducible rfl
      try simp only [List.getElem_toArray, List.getElem_cons_zero, List.getElem_cons_succ, Act.put, List.setIfInBounds_toArray, List.set_cons_zero, List.set_cons_succ]
      refine tkP (i := 15) (v := ?_) rfl (fun _ _ _ h => h) (Or.inl ⟨by kernel_rfl, ?_⟩) ?_
      rotate_left
      · intro w hSw
        try dsimp only at hSw
        go_simp
        try with_reducible rfl
      try simp only [List.getElem_toArray, List.getElem_cons_zero, List.getElem_cons_succ, Act.put, List.setIfInBounds_toArray, List.set_cons_zero, List.set_cons_succ]
      refine wpAnyT_done (by kernel_rfl) (NoPanic.normal ?_) _
      go_wp2
      go_meet
      exact linkCut_early (r := (oab, e0, n0)) HXB.out (by have := HBd.out.size; omega) (by simp only [World.size_alloc]; omega) HBe.out HOO.out
    exact AllT.nil
  case rest =>
  obtain ⟨gb, va, vf, vp, vc, rfl, rfl, rfl, hxb, hob, hnb, hcb⟩ := hcut
  obtain ⟨O1, o1, hva⟩ := hob.atoms.form
  obtain ⟨O2, o2, hvf⟩ := hob.funs.form
  obtain ⟨O3, o3, hvp⟩ := hob.preds.form
  obtain ⟨O4, o4, hvc⟩ := hob.code.form
  subst hva hvf hvp hvc
  have HXB := Lib.hid hxb
  have HOB := Lib.hid hob
  have HBC := Lib.hid hcb
  have HB3 := Lib.hid (HB2.out.trans (hcb.mono HB2.out.size))
  clear hxb hob hcb hnb HLC HS
  simp only
  by_cases he : e0 = 0
  case neg =>
    have e1 : (e0 != 0) = true := by rw [bne_iff_ne]; exact he
    have HT1 := Lib.hid (HTD.out wc (HP.out.up HB3.out))
    go_wp2_with (first
      | (go_at_call 7; refine HT1.out.mono ?_; rintro e w5 ⟨rfl, hb5⟩; have HB5 := Lib.hid (HB3.out.trans (hb5.mono HB3.out.size)); have HT2 := Lib.hid (HTD.out w5 (HP.out.up HB5.out)); clear hb5 HT1)
      | (go_at_call 7; refine HT2.out.mono ?_; rintro e w6 ⟨rfl, hb6⟩; have HB6 := Lib.hid (HB5.out.trans (hb6.mono HB5.out.size)); clear hb6))
    go_ret
    exact ⟨rfl, HB6.out⟩
  subst he
  have HT1 := Lib.hid (HTD.out wc (HP.out.up HB3.out))
  go_upto_region 8 with (go_at_call 7; refine HT1.out.mono ?_; rintro e w5 ⟨rfl, hb5⟩; have HW5 := Lib.hid hb5; have HB5 := Lib.hid (HBC.out.trans (hb5.mono HBC.out.size)); clear hb5 HT1)
  obtain ⟨o', hmo, hmade⟩ := made_of (l := [oa, ob]) (by simp) (by rw [HR.out])
  obtain rfl : oab = o' := by rw [HR.out] at hmo; injection hmo with h _
  have HWAB := Lib.hid (wf_of_ok10 hmade.check).1
  obtain rfl : n0 = -1 := by rw [HR.out] at hmo; injection hmo with _ h; injection h
  clear hmo hmade
  have HX5 := Lib.hid (HXB.out.below HW5.out HXB.out.lt)
  have HOB5 := Lib.hid (HOB.out.below HW5.out)
  have HLC : Hid (∀ (W : World) (g : Nat) (t : TypeId), Below w5.heap.size w5 W → Box W g t #[.slice O1 oab.atoms.length o1, .slice O2 oab.funs.length o2, .slice O3 oab.preds.length o3, .slice O4 oab.code.length o4, .slice G0 oc.atoms.length gc0, .slice G1 oc.funs.length gc1, .slice G2 oc.preds.length gc2, .slice G3 oc.code.length gc3] → Calls Tryz.prog 9 #[.slice (some ⟨g, 0, none⟩) 2 2] W (AsmW W (linkP [oab, oc]))) := Lib.hid (fun W g t hb hx => objects_any [oab, oc] (fun x hx => by simp at hx; rcases hx with rfl | rfl; exact HWAB.out; exact HWC.out) (by simp) [(.slice O1 oab.atoms.length o1, .slice O2 oab.funs.length o2, .slice O3 oab.preds.length o3, .slice O4 oab.code.length o4), (.slice G0 oc.atoms.length gc0, .slice G1 oc.funs.length gc1, .slice G2 oc.preds.length gc2, .slice G3 oc.code.length gc3)] _ W (((HP.out.up HB2.out).up HB5.out).up hb).names (fun W' hb' => ((((HP.out.up HB2.out).up HB5.out).up hb).up hb').names)
    (obs_of_box (qs := [(.slice O1 oab.atoms.length o1, .slice O2 oab.funs.length o2, .slice O3 oab.preds.length o3, .slice O4 oab.code.length o4), (.slice G0 oc.atoms.length gc0, .slice G1 oc.funs.length gc1, .slice G2 oc.preds.length gc2, .slice G3 oc.code.length gc3)]) (l := [oab, oc]) hx rfl (by simp) (fun k hk => by
      match k, hk with
      | 0, _ => exact HOB5.out.below hb
      | 1, _ => exact HATC.out.below (HB5.out.trans (hb.mono HB5.out.size))) 2 rfl))
  obtain ⟨⟨oo, ef, nf⟩, hr8⟩ : ∃ r, linkP [oab, oc] = r := ⟨_, rfl⟩
  have HR8 := Lib.hid hr8
  rw [hr8] at HLC
  unfold AsmW at HLC
  simp only at HLC
  clear hr8
  have HS : Hid (∀ W : World, Below w5.heap.size w5 W → (fun w' => w'.cell? ⟨gb, 0, none⟩ = some (.slice O1 oab.atoms.length o1) ∧ w'.cell? ⟨gb, 1, none⟩ = some (.slice O2 oab.funs.length o2) ∧ w'.cell? ⟨gb, 2, none⟩ = some (.slice O3 oab.preds.length o3) ∧ w'.cell? ⟨gb, 3, none⟩ = some (.slice O4 oab.code.length o4) ∧ w'.cell? ⟨b, off + 8, none⟩ = some (.slice G0 oc.atoms.length gc0) ∧ w'.cell? ⟨b, off + 9, none⟩ = some (.slice G1 oc.funs.length gc1) ∧ w'.cell? ⟨b, off + 10, none⟩ = some (.slice G2 oc.preds.length gc2) ∧ w'.cell? ⟨b, off + 11, none⟩ = some (.slice G3 oc.code.length gc3)) W) := Lib.hid (fun W hb => by
    obtain ⟨_, c0, c1, c2, c3⟩ := HS12.out W (HB5.out.trans (hb.mono HB5.out.size))
    exact ⟨bel_cell (HX5.out.cell 0) hb, bel_cell (HX5.out.cell 1) hb, bel_cell (HX5.out.cell 2) hb, bel_cell (HX5.out.cell 3) hb, c0, c1, c2, c3⟩)
  clear HXB HOB HBC HW5 HX5 HOB5 HB3
  obtain ⟨wq, hwq⟩ : ∃ wq, w5 = wq := ⟨_, rfl⟩
  rw [hwq] at HS HLC HB5 ⊢
  clear hwq
  go_cut [10, 11, 12] (fun t10 t11 t12 wc => LinkCut wq wc (oo, ef, nf) t10 t11 t12)
  case first =>
    refine wp_region_noPanic ?_
    refine wp_region_T 11 (fun w' => w'.cell? ⟨gb, 0, none⟩ = some (.slice O1 oab.atoms.length o1) ∧ w'.cell? ⟨gb, 1, none⟩ = some (.slice O2 oab.funs.length o2) ∧ w'.cell? ⟨gb, 2, none⟩ = some (.slice O3 oab.preds.length o3) ∧ w'.cell? ⟨gb, 3, none⟩ = some (.slice O4 oab.code.length o4) ∧ w'.cell? ⟨b, off + 8, none⟩ = some (.slice G0 oc.atoms.length gc0) ∧ w'.cell? ⟨b, off + 9, none⟩ = some (.slice G1 oc.funs.length gc1) ∧ w'.cell? ⟨b, off + 10, none⟩ = some (.slice G2 oc.preds.length gc2) ∧ w'.cell? ⟨b, off + 11, none⟩ = some (.slice G3 oc.code.length gc3)) (by kernel_rfl) ?_ (fun hHeld => ?_)
    · exact HS.out _ ⟨rfl, rfl, rfl, Nat.le_refl _, fun _ _ => rfl⟩
    change wpAnyT _ _ _ _ _ _ _ _ _ (wq.drewN 1)
    replace hHeld : (wq.drewN 1).cell? ⟨gb, 0, none⟩ = some (.slice O1 oab.atoms.length o1) ∧ (wq.drewN 1).cell? ⟨gb, 1, none⟩ = some (.slice O2 oab.funs.length o2) ∧ (wq.drewN 1).cell? ⟨gb, 2, none⟩ = some (.slice O3 oab.preds.length o3) ∧ (wq.drewN 1).cell? ⟨gb, 3, none⟩ = some (.slice O4 oab.code.length o4) ∧ (wq.drewN 1).cell? ⟨b, off + 8, none⟩ = some (.slice G0 oc.atoms.length gc0) ∧ (wq.drewN 1).cell? ⟨b, off + 9, none⟩ = some (.slice G1 oc.funs.length gc1) ∧ (wq.drewN 1).cell? ⟨b, off + 10, none⟩ = some (.slice G2 oc.preds.length gc2) ∧ (wq.drewN 1).cell? ⟨b, off + 11, none⟩ = some (.slice G3 oc.code.length gc3) := hHeld
    have HBd : Hid (Below wq.heap.size wq (wq.drewN 1)) := Lib.hid ⟨rfl, rfl, rfl, Nat.le_refl _, fun _ _ => rfl⟩
    generalize wq.drewN 1 = w2 at HBd hHeld ⊢
    refine tkS (i := 0) (v := ?_) rfl (fun _ _ _ h => h) (Or.inl ⟨by kernel_rfl, ?_⟩) hHeld ?_
    rotate_left
    · intro w hSw
      try dsimp only at hSw
      go_simp
      try with_reducible rfl
    try simp only [List.getElem_toArray, List.getElem_cons_zero, List.getElem_cons_succ, Act.put, List.setIfInBounds_toArray, List.set_cons_zero, List.set_cons_succ]
    refine tkP (i := 1) (v := ?_) rfl (fun _ _ _ h => h) (Or.inl ⟨by kernel_rfl, ?_⟩) ?_
    rotate_left
    · intro w hSw
      try dsimp only at hSw
      go_simp
      try with_reducible rfl
    try simp only [List.getElem_toArray, List.getElem_cons_zero, List.getElem_cons_succ, Act.put, List.setIfInBounds_toArray, List.set_cons_zero, List.set_cons_succ]
    refine tkP (i := 2) (v := ?_) rfl (fun _ _ _ h => h) (Or.inl ⟨by kernel_rfl, ?_⟩) ?_
    rotate_left
    · intro w hSw
      try dsimp only at hSw
      go_simp
      try with_reducible rfl
    try simp only [List.getElem_toArray, List.getElem_cons_zero, List.getElem_cons_succ, Act.put, List.setIfInBounds_toArray, List.set_cons_zero, List.set_cons_succ]
    refine tkS (i := 3) (v := ?_) rfl (fun _ _ _ h => h) (Or.inl ⟨by kernel_rfl, ?_⟩) hHeld ?_
    rotate_left
    · intro w hSw
      try dsimp only at hSw
      go_simp
      try with_reducible rfl
    try simp only [List.getElem_toArray, List.getElem_cons_zero, List.getElem_cons_succ, Act.put, List.setIfInBounds_toArray, List.set_cons_zero, List.set_cons_succ]
    refine wpAnyT_ready (rs := [4, 10]) (by kernel_rfl) (by simp) ?_
    refine AllT.cons (o := _) rfl (fun K hK => ?_) ?_
    · go_simp
      refine hK.out _ _ (fun _ => ?_) (fun hHeld2 => ?_)
      · exact HS.out _ (HBd.out.alloc HBd.out.size _)
      replace hHeld := hHeld2 (by decide)
      clear hHeld2 hK K
      try simp only [List.getElem_toArray, List.getElem_cons_zero, List.getElem_cons_succ, Act.put, List.setIfInBounds_toArray, List.set_cons_zero, List.set_cons_succ]
      refine wpAnyT_ready (rs := [5, 10]) (by kernel_rfl) (by simp) ?_
      refine AllT.cons (o := _) rfl (fun K hK => ?_) ?_
      · go_simp
        go_at_call 9; refine (HLC.out _ _ _ (HBd.out.alloc HBd.out.size _) (Box.new _ _ _)).mono ?_; rintro e w3 ⟨va, vf, vp, vc, rfl, ho, hb3⟩; obtain ⟨O1, o1, hva⟩ := ho.at_.atoms.form; obtain ⟨O2, o2, hvf⟩ := ho.at_.funs.form; obtain ⟨O3, o3, hvp⟩ := ho.at_.preds.form; obtain ⟨O4, o4, hvc⟩ := ho.at_.code.form; subst hva hvf hvp hvc; have HOO := Lib.hid ho; have HBe := Lib.hid ((HBd.out.alloc HBd.out.size _).trans (hb3.mono (HBd.out.alloc HBd.out.size _).size)); clear ho hb3
        refine hK.out _ _ (fun _ => ?_) (fun hHeld2 => ?_)
        · exact HS.out _ HBe.out
        replace hHeld := hHeld2 (by decide)
        clear hHeld2 hK K
        try simp only [List.getElem_toArray, List.getElem_cons_zero, List.getElem_cons_succ, Act.put, List.setIfInBounds_toArray, List.set_cons_zero, List.set_cons_succ]
        refine tkP (i := 6) (v := ?_) rfl (fun _ _ _ h => h) (Or.inl ⟨by kernel_rfl, ?_⟩) ?_
        rotate_left
        · intro w hSw
          try dsimp only at hSw
          go_simp
          try with_reducible rfl
        try simp only [List.getElem_toArray, List.getElem_cons_zero, List.getElem_cons_succ, Act.put, List.setIfInBounds_toArray, List.set_cons_zero, List.set_cons_succ]
        refine tkP (i := 7) (v := ?_) rfl (fun _ _ _ h => h) (Or.inl ⟨by kernel_rfl, ?_⟩) ?_
        rotate_left
        · intro w hSw
          try dsimp only at hSw
          go_simp
          try with_reducible rfl
        try simp only [List.getElem_toArray, List.getElem_cons_zero, List.getElem_cons_succ, Act.put, List.setIfInBounds_toArray, List.set_cons_zero, List.set_cons_succ]
        refine tkP (i := 8) (v := ?_) rfl (fun _ _ _ h => h) (Or.inl ⟨by kernel_rfl, ?_⟩) ?_
        rotate_left
        · intro w hSw
          try dsimp only at hSw
          go_simp
          try with_reducible rfl
        try simp only [List.getElem_toArray, List.getElem_cons_zero, List.getElem_cons_succ, Act.put, List.setIfInBounds_toArray, List.set_cons_zero, List.set_cons_succ]
        refine tkP (i := 9) (v := ?_) rfl (fun _ _ _ h => h) (Or.inl ⟨by kernel_rfl, ?_⟩) ?_
        rotate_left
        · intro w hSw
          try dsimp only at hSw
          go_simp
          try with_reducible rfl
        try simp only [List.getElem_toArray, List.getElem_cons_zero, List.getElem_cons_succ, Act.put, List.setIfInBounds_toArray, List.set_cons_zero, List.set_cons_succ]
        refine wpAnyT_ready (rs := [10]) (by kernel_rfl) (by simp) ?_
        refine AllT.cons (o := _) rfl (fun K hK => ?_) AllT.nil
        go_simp
        refine hK.out _ _ (fun _ => ?_) (fun hHeld2 => ?_)
        · exact HS.out _ (HBe.out.alloc HBe.out.size _)
        replace hHeld := hHeld2 (by decide)
        clear hHeld2 hK K
        try simp only [List.getElem_toArray, List.getElem_cons_zero, List.getElem_cons_succ, Act.put, List.setIfInBounds_toArray, List.set_cons_zero, List.set_cons_succ]
        refine wpAnyT_ready (rs := [11]) (by kernel_rfl) (by simp) ?_
        refine AllT.cons (o := _) rfl (fun K hK => ?_) AllT.nil
        go_simp
        refine hK.out _ _ (fun h => absurd h (by decide)) (fun _ => ?_)
        clear hK K
        try simp only [List.getElem_toArray, List.getElem_cons_zero, List.getElem_cons_succ, Act.put, List.setIfInBounds_toArray, List.set_cons_zero, List.set_cons_succ]
        refine tkP (i := 12) (v := ?_) rfl (fun _ _ _ h => h) (Or.inl ⟨by kernel_rfl, ?_⟩) ?_
        rotate_left
        · intro w hSw
          try dsimp only at hSw
          go_simp
          try with_reducible rfl
        try simp only [List.getElem_toArray, List.getElem_cons_zero, List.getElem_cons_succ, Act.put, List.setIfInBounds_toArray, List.set_cons_zero, List.set_cons_succ]
        refine tkP (i := 13) (v := ?_) rfl (fun _ _ _ h => h) (Or.inl ⟨by kernel_rfl, ?_⟩) ?_
        rotate_left
        · intro w hSw
          try dsimp only at hSw
          go_simp
          try with_reducible rfl
        try simp only [List.getElem_toArray, List.getElem_cons_zero, List.getElem_cons_succ, Act.put, List.setIfInBounds_toArray, List.set_cons_zero, List.set_cons_succ]
        refine wpAnyT_done (by kernel_rfl) (NoPanic.normal ?_) _
        go_wp2
        go_meet
        exact linkCut_late (r := (oo, ef, nf)) HBe.out HOO.out
      refine AllT.cons (o := _) rfl (fun K hK => ?_) ?_
      · go_simp
        refine hK.out _ _ (fun _ => ?_) (fun hHeld2 => ?_)
        · exact HS.out _ ((HBd.out.alloc HBd.out.size _).alloc (by have := HBd.out.size; simp; omega) _)
        replace hHeld := hHeld2 (by decide)
        clear hHeld2 hK K
        try simp only [List.getElem_toArray, List.getElem_cons_zero, List.getElem_cons_succ, Act.put, List.setIfInBounds_toArray, List.set_cons_zero, List.set_cons_succ]
        refine wpAnyT_ready (rs := [5]) (by kernel_rfl) (by simp) ?_
        refine AllT.cons (o := _) rfl (fun K hK => ?_) AllT.nil
        go_simp
        go_at_call 9; refine (HLC.out _ (w2.heap.size) _ ((HBd.out.alloc HBd.out.size _).alloc (by have := HBd.out.size; simp; omega) _) ((Box.new _ _ _).alloc _)).mono ?_; rintro e w3 ⟨va, vf, vp, vc, rfl, ho, hb3⟩; obtain ⟨O1, o1, hva⟩ := ho.at_.atoms.form; obtain ⟨O2, o2, hvf⟩ := ho.at_.funs.form; obtain ⟨O3, o3, hvp⟩ := ho.at_.preds.form; obtain ⟨O4, o4, hvc⟩ := ho.at_.code.form; subst hva hvf hvp hvc; have HXB := Lib.hid (Box.below (show Box _ (w2.heap.size + 1) 39 #[.slice none 0 0, .slice none 0 0, .slice none 0 0, .slice none 0 0] from (box_next _ _ _ _)) hb3 (Box.lt (show Box _ (w2.heap.size + 1) 39 #[.slice none 0 0, .slice none 0 0, .slice none 0 0, .slice none 0 0] from (box_next _ _ _ _)))); have HOO := Lib.hid ho; have HBe := Lib.hid (((HBd.out.alloc HBd.out.size _).alloc (by have := HBd.out.size; simp; omega) _).trans (hb3.mono ((HBd.out.alloc HBd.out.size _).alloc (by have := HBd.out.size; simp; omega) _).size)); clear ho hb3
        refine hK.out _ _ (fun _ => ?_) (fun hHeld2 => ?_)
        · exact HS.out _ HBe.out
        replace hHeld := hHeld2 (by decide)
        clear hHeld2 hK K
        try simp only [List.getElem_toArray, List.getElem_cons_zero, List.getElem_cons_succ, Act.put, List.setIfInBounds_toArray, List.set_cons_zero, List.set_cons_succ]
        refine tkP (i := 6) (v := ?_) rfl (fun _ _ _ h => h) (Or.inl ⟨by kernel_rfl, ?_⟩) ?_
        rotate_left
        · intro w hSw
          try dsimp only at hSw
          go_simp
          try with_reducible rfl
        try simp only [List.getElem_toArray, List.getElem_cons_zero, List.getElem_cons_succ, Act.put, List.setIfInBounds_toArray, List.set_cons_zero, List.set_cons_succ]
        refine tkP (i := 7) (v := ?_) rfl (fun _ _ _ h => h) (Or.inl ⟨by kernel_rfl, ?_⟩) ?_
        rotate_left
        · intro w hSw
          try dsimp only at hSw
          go_simp
          try with_reducible rfl
        try simp only [List.getElem_toArray, List.getElem_cons_zero, List.getElem_cons_succ, Act.put, List.setIfInBounds_toArray, List.set_cons_zero, List.set_cons_succ]
        refine tkP (i := 8) (v := ?_) rfl (fun _ _ _ h => h) (Or.inl ⟨by kernel_rfl, ?_⟩) ?_
        rotate_left
        · intro w hSw
          try dsimp only at hSw
          go_simp
          try with_reducible rfl
        try simp only [List.getElem_toArray, List.getElem_cons_zero, List.getElem_cons_succ, Act.put, List.setIfInBounds_toArray, List.set_cons_zero, List.set_cons_succ]
        refine tkP (i := 9) (v := ?_) rfl (fun _ _ _ h => h) (Or.inl ⟨by kernel_rfl, ?_⟩) ?_
        rotate_left
        · intro w hSw
          try dsimp only at hSw
          go_simp
          try with_reducible rfl
        try simp only [List.getElem_toArray, List.getElem_cons_zero, List.getElem_cons_succ, Act.put, List.setIfInBounds_toArray, List.set_cons_zero, List.set_cons_succ]
        refine wpAnyT_ready (rs := [11]) (by kernel_rfl) (by simp) ?_
        refine AllT.cons (o := _) rfl (fun K hK => ?_) AllT.nil
        have z0 := HXB.out.cell 0
        have z1 := HXB.out.cell 1
        have z2 := HXB.out.cell 2
        have z3 := HXB.out.cell 3
        have y0 := HXB.out.frozen 0
        have y1 := HXB.out.frozen 1
        have y2 := HXB.out.frozen 2
        have y3 := HXB.out.frozen 3
        go_simp
        refine hK.out _ _ (fun h => absurd h (by decide)) (fun _ => ?_)
        clear hK K
        try simp only [List.getElem_toArray, List.getElem_cons_zero, List.getElem_cons_succ, Act.put, List.setIfInBounds_toArray, List.set_cons_zero, List.set_cons_succ]
        refine tkP (i := 12) (v := ?_) rfl (fun _ _ _ h => h) (Or.inl ⟨by kernel_rfl, ?_⟩) ?_
        rotate_left
        · intro w hSw
          try dsimp only at hSw
          go_simp
          try with_reducible rfl
        try simp only [List.getElem_toArray, List.getElem_cons_zero, List.getElem_cons_succ, Act.put, List.setIfInBounds_toArray, List.set_cons_zero, List.set_cons_succ]
        refine tkP (i := 13) (v := ?_) rfl (fun _ _ _ h => h) (Or.inl ⟨by kernel_rfl, ?_⟩) ?_
        rotate_left
        · intro w hSw
          try dsimp only at hSw
          go_simp
          try with_reducible rfl
        try simp only [List.getElem_toArray, List.getElem_cons_zero, List.getElem_cons_succ, Act.put, List.setIfInBounds_toArray, List.set_cons_zero, List.set_cons_succ]
        refine wpAnyT_done (by kernel_rfl) (NoPanic.normal ?_) _
        go_wp2
        go_meet
        exact linkCut_early (r := (oo, ef, nf)) HXB.out (by have := HBd.out.size; omega) (by simp only [World.size_alloc]; omega) HBe.out HOO.out
      exact AllT.nil
    refine AllT.cons (o := _) rfl (fun K hK => ?_) ?_
    · go_simp
      refine hK.out _ _ (fun _ => ?_) (fun hHeld2 => ?_)
      · exact HS.out _ (HBd.out.alloc HBd.out.size _)
      replace hHeld := hHeld2 (by decide)
      clear hHeld2 hK K
      try simp only [List.getElem_toArray, List.getElem_cons_zero, List.getElem_cons_succ, Act.put, List.setIfInBounds_toArray, List.set_cons_zero, List.set_cons_succ]
      refine wpAnyT_ready (rs := [4]) (by kernel_rfl) (by simp) ?_
      refine AllT.cons (o := _) rfl (fun K hK => ?_) AllT.nil
      go_simp
      refine hK.out _ _ (fun _ => ?_) (fun hHeld2 => ?_)
      · exact HS.out _ ((HBd.out.alloc HBd.out.size _).alloc (by have := HBd.out.size; simp; omega) _)
      replace hHeld := hHeld2 (by decide)
      clear hHeld2 hK K
      try simp only [List.getElem_toArray, List.getElem_cons_zero, List.getElem_cons_succ, Act.put, List.setIfInBounds_toArray, List.set_cons_zero, List.set_cons_succ]
      refine wpAnyT_ready (rs := [5]) (by kernel_rfl) (by simp) ?_
      refine AllT.cons (o := _) rfl (fun K hK => ?_) AllT.nil
      go_simp
      go_at_call 9; refine (HLC.out _ (w2.heap.size + 1) _ ((HBd.out.alloc HBd.out.size _).alloc (by have := HBd.out.size; simp; omega) _) (box_next _ _ _ _)).mono ?_; rintro e w3 ⟨va, vf, vp, vc, rfl, ho, hb3⟩; obtain ⟨O1, o1, hva⟩ := ho.at_.atoms.form; obtain ⟨O2, o2, hvf⟩ := ho.at_.funs.form; obtain ⟨O3, o3, hvp⟩ := ho.at_.preds.form; obtain ⟨O4, o4, hvc⟩ := ho.at_.code.form; subst hva hvf hvp hvc; have HXB := Lib.hid (Box.below (show Box _ (w2.heap.size) 39 #[.slice none 0 0, .slice none 0 0, .slice none 0 0, .slice none 0 0] from ((Box.new _ _ _).alloc _)) hb3 (Box.lt (show Box _ (w2.heap.size) 39 #[.slice none 0 0, .slice none 0 0, .slice none 0 0, .slice none 0 0] from ((Box.new _ _ _).alloc _)))); have HOO := Lib.hid ho; have HBe := Lib.hid (((HBd.out.alloc HBd.out.size _).alloc (by have := HBd.out.size; simp; omega) _).trans (hb3.mono ((HBd.out.alloc HBd.out.size _).alloc (by have := HBd.out.size; simp; omega) _).size)); clear ho hb3
      refine hK.out _ _ (fun _ => ?_) (fun hHeld2 => ?_)
      · exact HS.out _ HBe.out
      replace hHeld := hHeld2 (by decide)
      clear hHeld2 hK K
      try simp only [List.getElem_toArray, List.getElem_cons_zero, List.getElem_cons_succ, Act.put, List.setIfInBounds_toArray, List.set_cons_zero, List.set_cons_succ]
      refine tkP (i := 6) (v := ?_) rfl (fun _ _ _ h => h) (Or.inl ⟨by kernel_rfl, ?_⟩) ?_
      rotate_left
      · intro w hSw
        try dsimp only at hSw
        go_simp
        try with_reducible rfl
      try simp only [List.getElem_toArray, List.getElem_cons_zero, List.getElem_cons_succ, Act.put, List.setIfInBounds_toArray, List.set_cons_zero, List.set_cons_succ]
      refine tkP (i := 7) (v := ?_) rfl (fun _ _ _ h => h) (Or.inl ⟨by kernel_rfl, ?_⟩) ?_
      rotate_left
      · intro w hSw
        try dsimp only at hSw
        go_simp
        try with_reducible rfl
      try simp only [List.getElem_toArray, List.getElem_cons_zero, List.getElem_cons_succ, Act.put, List.setIfInBounds_toArray, List.set_cons_zero, List.set_cons_succ]
      refine tkP (i := 8) (v := ?_) rfl (fun _ _ _ h => h) (Or.inl ⟨by kernel_rfl, ?_⟩) ?_
      rotate_left
      · intro w hSw
        try dsimp only at hSw
        go_simp
        try with_reducible rfl
      try simp only [List.getElem_toArray, List.getElem_cons_zero, List.getElem_cons_succ, Act.put, List.setIfInBounds_toArray, List.set_cons_zero, List.set_cons_succ]
      refine tkP (i := 9) (v := ?_) rfl (fun _ _ _ h => h) (Or.inl ⟨by kernel_rfl, ?_⟩) ?_
      rotate_left
      · intro w hSw
        try dsimp only at hSw
        go_simp
        try with_reducible rfl
      try simp only [List.getElem_toArray, List.getElem_cons_zero, List.getElem_cons_succ, Act.put, List.setIfInBounds_toArray, List.set_cons_zero, List.set_cons_succ]
      refine wpAnyT_ready (rs := [11]) (by kernel_rfl) (by simp) ?_
      refine AllT.cons (o := _) rfl (fun K hK => ?_) AllT.nil
      have z0 := HXB.out.cell 0
      have z1 := HXB.out.cell 1
      have z2 := HXB.out.cell 2
      have z3 := HXB.out.cell 3
      have y0 := HXB.out.frozen 0
      have y1 := HXB.out.frozen 1
      have y2 := HXB.out.frozen 2
      have y3 := HXB.out.frozen 3
      go_simp
      refine hK.out _ _ (fun h => absurd h (by decide)) (fun _ => ?_)
      clear hK K
      try simp only [List.getElem_toArray, List.getElem_cons_zero, List.getElem_cons_succ, Act.put, List.setIfInBounds_toArray, List.set_cons_zero, List.set_cons_succ]
      refine tkP (i := 12) (v := ?_) rfl (fun _ _ _ h => h) (Or.inl ⟨by kernel_rfl, ?_⟩) ?_
      rotate_left
      · intro w hSw
        try dsimp only at hSw
        go_simp
        try with_reducible rfl
      try simp only [List.getElem_toArray, List.getElem_cons_zero, List.getElem_cons_succ, Act.put, List.setIfInBounds_toArray, List.set_cons_zero, List.set_cons_succ]
      refine tkP (i := 13) (v := ?_) rfl (fun _ _ _ h => h) (Or.inl ⟨by kernel_rfl, ?_⟩) ?_
      rotate_left
      · intro w hSw
        try dsimp only at hSw
        go_simp
        try with_reducible rfl
      try simp only [List.getElem_toArray, List.getElem_cons_zero, List.getElem_cons_succ, Act.put, List.setIfInBounds_toArray, List.set_cons_zero, List.set_cons_succ]
      refine wpAnyT_done (by kernel_rfl) (NoPanic.normal ?_) _
      go_wp2
      go_meet
      exact linkCut_early (r := (oo, ef, nf)) HXB.out (by have := HBd.out.size; omega) (by simp only [World.size_alloc]; omega) HBe.out HOO.out
    exact AllT.nil
  case rest =>
  obtain ⟨gp, va, vf, vp, vc, rfl, rfl, rfl, hxb, hob, hnb, hcb⟩ := hcut
  obtain ⟨P1, p1, hva⟩ := hob.atoms.form
  obtain ⟨P2, p2, hvf⟩ := hob.funs.form
  obtain ⟨P3, p3, hvp⟩ := hob.preds.form
  obtain ⟨P4, p4, hvc⟩ := hob.code.form
  subst hva hvf hvp hvc
  have HX8 := Lib.hid hxb
  have HO8 := Lib.hid hob
  have HB8 := Lib.hid (HB5.out.trans (hcb.mono HB5.out.size))
  clear hxb hob hcb hnb HLC HS HB5
  simp only
  obtain ⟨wv, hwv⟩ : ∃ wv, wc = wv := ⟨_, rfl⟩
  rw [hwv] at HX8 HO8 HB8 ⊢
  clear hwv
  go_upto_region 9 with (fail)
  have HLC : Hid (∀ (W : World) (g : Nat) (t : TypeId), Below wv.heap.size wv W → Box W g t #[.slice E0 oa.atoms.length ec0, .slice E1 oa.funs.length ec1, .slice E2 oa.preds.length ec2, .slice E3 oa.code.length ec3, .slice F0 ob.atoms.length fc0, .slice F1 ob.funs.length fc1, .slice F2 ob.preds.length fc2, .slice F3 ob.code.length fc3, .slice G0 oc.atoms.length gc0, .slice G1 oc.funs.length gc1, .slice G2 oc.preds.length gc2, .slice G3 oc.code.length gc3] → Calls Tryz.prog 9 #[.slice (some ⟨g, 0, none⟩) 3 3] W (AsmW W (linkP [oa, ob, oc]))) := Lib.hid (fun W g t hb hx => objects_any [oa, ob, oc] (fun x hx => by simp at hx; rcases hx with rfl | rfl | rfl; exact HWA.out; exact HWB.out; exact HWC.out) (by simp) [(.slice E0 oa.atoms.length ec0, .slice E1 oa.funs.length ec1, .slice E2 oa.preds.length ec2, .slice E3 oa.code.length ec3), (.slice F0 ob.atoms.length fc0, .slice F1 ob.funs.length fc1, .slice F2 ob.preds.length fc2, .slice F3 ob.code.length fc3), (.slice G0 oc.atoms.length gc0, .slice G1 oc.funs.length gc1, .slice G2 oc.preds.length gc2, .slice G3 oc.code.length gc3)] _ W (((HP.out.up HB2.out).up HB8.out).up hb).names (fun W' hb' => ((((HP.out.up HB2.out).up HB8.out).up hb).up hb').names)
    (obs_of_box (qs := [(.slice E0 oa.atoms.length ec0, .slice E1 oa.funs.length ec1, .slice E2 oa.preds.length ec2, .slice E3 oa.code.length ec3), (.slice F0 ob.atoms.length fc0, .slice F1 ob.funs.length fc1, .slice F2 ob.preds.length fc2, .slice F3 ob.code.length fc3), (.slice G0 oc.atoms.length gc0, .slice G1 oc.funs.length gc1, .slice G2 oc.preds.length gc2, .slice G3 oc.code.length gc3)]) (l := [oa, ob, oc]) hx rfl (by simp) (fun k hk => by
      match k, hk with
      | 0, _ => exact HATA.out.below (HB8.out.trans (hb.mono HB8.out.size))
      | 1, _ => exact HATB.out.below (HB8.out.trans (hb.mono HB8.out.size))
      | 2, _ => exact HATC.out.below (HB8.out.trans (hb.mono HB8.out.size))) 3 rfl))
  obtain ⟨⟨pp, eg, ng⟩, hr9⟩ : ∃ r, linkP [oa, ob, oc] = r := ⟨_, rfl⟩
  have HR9 := Lib.hid hr9
  rw [hr9] at HLC
  unfold AsmW at HLC
  simp only at HLC
  clear hr9
  have HS : Hid (∀ W : World, Below wv.heap.size wv W → (fun w' => w'.cell? ⟨b, off, none⟩ = some (.slice E0 oa.atoms.length ec0) ∧ w'.cell? ⟨b, off + 1, none⟩ = some (.slice E1 oa.funs.length ec1) ∧ w'.cell? ⟨b, off + 2, none⟩ = some (.slice E2 oa.preds.length ec2) ∧ w'.cell? ⟨b, off + 3, none⟩ = some (.slice E3 oa.code.length ec3) ∧ w'.cell? ⟨b, off + 4, none⟩ = some (.slice F0 ob.atoms.length fc0) ∧ w'.cell? ⟨b, off + 5, none⟩ = some (.slice F1 ob.funs.length fc1) ∧ w'.cell? ⟨b, off + 6, none⟩ = some (.slice F2 ob.preds.length fc2) ∧ w'.cell? ⟨b, off + 7, none⟩ = some (.slice F3 ob.code.length fc3) ∧ w'.cell? ⟨b, off + 8, none⟩ = some (.slice G0 oc.atoms.length gc0) ∧ w'.cell? ⟨b, off + 9, none⟩ = some (.slice G1 oc.funs.length gc1) ∧ w'.cell? ⟨b, off + 10, none⟩ = some (.slice G2 oc.preds.length gc2) ∧ w'.cell? ⟨b, off + 11, none⟩ = some (.slice G3 oc.code.length gc3)) W) := Lib.hid (fun W hb => by
    obtain ⟨⟨a0, a1, a2, a3, b0, b1, b2, b3⟩, c0, c1, c2, c3⟩ := HS12.out W (HB8.out.trans (hb.mono HB8.out.size))
    exact ⟨a0, a1, a2, a3, b0, b1, b2, b3, c0, c1, c2, c3⟩)
  go_cut [13, 14, 15] (fun t13 t14 t15 wc => LinkCut wv wc (pp, eg, ng) t13 t14 t15)
  case first =>
    refine wp_region_noPanic ?_
    refine wp_region_T 16 (fun w' => w'.cell? ⟨b, off, none⟩ = some (.slice E0 oa.atoms.length ec0) ∧ w'.cell? ⟨b, off + 1, none⟩ = some (.slice E1 oa.funs.length ec1) ∧ w'.cell? ⟨b, off + 2, none⟩ = some (.slice E2 oa.preds.length ec2) ∧ w'.cell? ⟨b, off + 3, none⟩ = some (.slice E3 oa.code.length ec3) ∧ w'.cell? ⟨b, off + 4, none⟩ = some (.slice F0 ob.atoms.length fc0) ∧ w'.cell? ⟨b, off + 5, none⟩ = some (.slice F1 ob.funs.length fc1) ∧ w'.cell? ⟨b, off + 6, none⟩ = some (.slice F2 ob.preds.length fc2) ∧ w'.cell? ⟨b, off + 7, none⟩ = some (.slice F3 ob.code.length fc3) ∧ w'.cell? ⟨b, off + 8, none⟩ = some (.slice G0 oc.atoms.length gc0) ∧ w'.cell? ⟨b, off + 9, none⟩ = some (.slice G1 oc.funs.length gc1) ∧ w'.cell? ⟨b, off + 10, none⟩ = some (.slice G2 oc.preds.length gc2) ∧ w'.cell? ⟨b, off + 11, none⟩ = some (.slice G3 oc.code.length gc3)) (by kernel_rfl) ?_ (fun hHeld => ?_)
    · exact HS.out _ ⟨rfl, rfl, rfl, Nat.le_refl _, fun _ _ => rfl⟩
    change wpAnyT _ _ _ _ _ _ _ _ _ (wv.drewN 1)
    replace hHeld : (wv.drewN 1).cell? ⟨b, off, none⟩ = some (.slice E0 oa.atoms.length ec0) ∧ (wv.drewN 1).cell? ⟨b, off + 1, none⟩ = some (.slice E1 oa.funs.length ec1) ∧ (wv.drewN 1).cell? ⟨b, off + 2, none⟩ = some (.slice E2 oa.preds.length ec2) ∧ (wv.drewN 1).cell? ⟨b, off + 3, none⟩ = some (.slice E3 oa.code.length ec3) ∧ (wv.drewN 1).cell? ⟨b, off + 4, none⟩ = some (.slice F0 ob.atoms.length fc0) ∧ (wv.drewN 1).cell? ⟨b, off + 5, none⟩ = some (.slice F1 ob.funs.length fc1) ∧ (wv.drewN 1).cell? ⟨b, off + 6, none⟩ = some (.slice F2 ob.preds.length fc2) ∧ (wv.drewN 1).cell? ⟨b, off + 7, none⟩ = some (.slice F3 ob.code.length fc3) ∧ (wv.drewN 1).cell? ⟨b, off + 8, none⟩ = some (.slice G0 oc.atoms.length gc0) ∧ (wv.drewN 1).cell? ⟨b, off + 9, none⟩ = some (.slice G1 oc.funs.length gc1) ∧ (wv.drewN 1).cell? ⟨b, off + 10, none⟩ = some (.slice G2 oc.preds.length gc2) ∧ (wv.drewN 1).cell? ⟨b, off + 11, none⟩ = some (.slice G3 oc.code.length gc3) := hHeld
    have HBd : Hid (Below wv.heap.size wv (wv.drewN 1)) := Lib.hid ⟨rfl, rfl, rfl, Nat.le_refl _, fun _ _ => rfl⟩
    generalize wv.drewN 1 = w2 at HBd hHeld ⊢
    refine tkP (i := 0) (v := ?_) rfl (fun _ _ _ h => h) (Or.inl ⟨by kernel_rfl, ?_⟩) ?_
    rotate_left
    · intro w hSw
      try dsimp only at hSw
      go_simp
      try with_reducible rfl
    try simp only [List.getElem_toArray, List.getElem_cons_zero, List.getElem_cons_succ, Act.put, List.setIfInBounds_toArray, List.set_cons_zero, List.set_cons_succ]
    refine tkP (i := 1) (v := ?_) rfl (fun _ _ _ h => h) (Or.inl ⟨by kernel_rfl, ?_⟩) ?_
    rotate_left
    · intro w hSw
      try dsimp only at hSw
      go_simp
      try with_reducible rfl
    try simp only [List.getElem_toArray, List.getElem_cons_zero, List.getElem_cons_succ, Act.put, List.setIfInBounds_toArray, List.set_cons_zero, List.set_cons_succ]
    refine tkS (i := 2) (v := ?_) rfl (fun _ _ _ h => h) (Or.inl ⟨by kernel_rfl, ?_⟩) hHeld ?_
    rotate_left
    · intro w hSw
      try dsimp only at hSw
      go_simp
      try with_reducible rfl
    try simp only [List.getElem_toArray, List.getElem_cons_zero, List.getElem_cons_succ, Act.put, List.setIfInBounds_toArray, List.set_cons_zero, List.set_cons_succ]
    refine tkP (i := 3) (v := ?_) rfl (fun _ _ _ h => h) (Or.inl ⟨by kernel_rfl, ?_⟩) ?_
    rotate_left
    · intro w hSw
      try dsimp only at hSw
      go_simp
      try with_reducible rfl
    try simp only [List.getElem_toArray, List.getElem_cons_zero, List.getElem_cons_succ, Act.put, List.setIfInBounds_toArray, List.set_cons_zero, List.set_cons_succ]
    refine tkP (i := 4) (v := ?_) rfl (fun _ _ _ h => h) (Or.inl ⟨by kernel_rfl, ?_⟩) ?_
    rotate_left
    · intro w hSw
      try dsimp only at hSw
      go_simp
      try with_reducible rfl
    try simp only [List.getElem_toArray, List.getElem_cons_zero, List.getElem_cons_succ, Act.put, List.setIfInBounds_toArray, List.set_cons_zero, List.set_cons_succ]
    refine tkS (i := 5) (v := ?_) rfl (fun _ _ _ h => h) (Or.inl ⟨by kernel_rfl, ?_⟩) hHeld ?_
    rotate_left
    · intro w hSw
      try dsimp only at hSw
      go_simp
      try with_reducible rfl
    try simp only [List.getElem_toArray, List.getElem_cons_zero, List.getElem_cons_succ, Act.put, List.setIfInBounds_toArray, List.set_cons_zero, List.set_cons_succ]
    refine tkP (i := 6) (v := ?_) rfl (fun _ _ _ h => h) (Or.inl ⟨by kernel_rfl, ?_⟩) ?_
    rotate_left
    · intro w hSw
      try dsimp only at hSw
      go_simp
      try with_reducible rfl
    try simp only [List.getElem_toArray, List.getElem_cons_zero, List.getElem_cons_succ, Act.put, List.setIfInBounds_toArray, List.set_cons_zero, List.set_cons_succ]
    refine tkP (i := 7) (v := ?_) rfl (fun _ _ _ h => h) (Or.inl ⟨by kernel_rfl, ?_⟩) ?_
    rotate_left
    · intro w hSw
      try dsimp only at hSw
      go_simp
      try with_reducible rfl
    try simp only [List.getElem_toArray, List.getElem_cons_zero, List.getElem_cons_succ, Act.put, List.setIfInBounds_toArray, List.set_cons_zero, List.set_cons_succ]
    refine tkS (i := 8) (v := ?_) rfl (fun _ _ _ h => h) (Or.inl ⟨by kernel_rfl, ?_⟩) hHeld ?_
    rotate_left
    · intro w hSw
      try dsimp only at hSw
      go_simp
      try with_reducible rfl
    try simp only [List.getElem_toArray, List.getElem_cons_zero, List.getElem_cons_succ, Act.put, List.setIfInBounds_toArray, List.set_cons_zero, List.set_cons_succ]
    refine wpAnyT_ready (rs := [9, 15]) (by kernel_rfl) (by simp) ?_
    refine AllT.cons (o := _) rfl (fun K hK => ?_) ?_
    · go_simp
      refine hK.out _ _ (fun _ => ?_) (fun hHeld2 => ?_)
      · exact HS.out _ (HBd.out.alloc HBd.out.size _)
      replace hHeld := hHeld2 (by decide)
      clear hHeld2 hK K
      try simp only [List.getElem_toArray, List.getElem_cons_zero, List.getElem_cons_succ, Act.put, List.setIfInBounds_toArray, List.set_cons_zero, List.set_cons_succ]
      refine wpAnyT_ready (rs := [10, 15]) (by kernel_rfl) (by simp) ?_
      refine AllT.cons (o := _) rfl (fun K hK => ?_) ?_
      · go_simp
        go_at_call 9; refine (HLC.out _ _ _ (HBd.out.alloc HBd.out.size _) (Box.new _ _ _)).mono ?_; rintro e w3 ⟨va, vf, vp, vc, rfl, ho, hb3⟩; obtain ⟨O1, o1, hva⟩ := ho.at_.atoms.form; obtain ⟨O2, o2, hvf⟩ := ho.at_.funs.form; obtain ⟨O3, o3, hvp⟩ := ho.at_.preds.form; obtain ⟨O4, o4, hvc⟩ := ho.at_.code.form; subst hva hvf hvp hvc; have HOO := Lib.hid ho; have HBe := Lib.hid ((HBd.out.alloc HBd.out.size _).trans (hb3.mono (HBd.out.alloc HBd.out.size _).size)); clear ho hb3
        refine hK.out _ _ (fun _ => ?_) (fun hHeld2 => ?_)
        · exact HS.out _ HBe.out
        replace hHeld := hHeld2 (by decide)
        clear hHeld2 hK K
        try simp only [List.getElem_toArray, List.getElem_cons_zero, List.getElem_cons_succ, Act.put, List.setIfInBounds_toArray, List.set_cons_zero, List.set_cons_succ]
        refine tkP (i := 11) (v := ?_) rfl (fun _ _ _ h => h) (Or.inl ⟨by kernel_rfl, ?_⟩) ?_
        rotate_left
        · intro w hSw
          try dsimp only at hSw
          go_simp
          try with_reducible rfl
        try simp only [List.getElem_toArray, List.getElem_cons_zero, List.getElem_cons_succ, Act.put, List.setIfInBounds_toArray, List.set_cons_zero, List.set_cons_succ]
        refine tkP (i := 12) (v := ?_) rfl (fun _ _ _ h => h) (Or.inl ⟨by kernel_rfl, ?_⟩) ?_
        rotate_left
        · intro w hSw
          try dsimp only at hSw
          go_simp
          try with_reducible rfl
        try simp only [List.getElem_toArray, List.getElem_cons_zero, List.getElem_cons_succ, Act.put, List.setIfInBounds_toArray, List.set_cons_zero, List.set_cons_succ]
        refine tkP (i := 13) (v := ?_) rfl (fun _ _ _ h => h) (Or.inl ⟨by kernel_rfl, ?_⟩) ?_
        rotate_left
        · intro w hSw
          try dsimp only at hSw
          go_simp
          try with_reducible rfl
        try simp only [List.getElem_toArray, List.getElem_cons_zero, List.getElem_cons_succ, Act.put, List.setIfInBounds_toArray, List.set_cons_zero, List.set_cons_succ]
        refine tkP (i := 14) (v := ?_) rfl (fun _ _ _ h => h) (Or.inl ⟨by kernel_rfl, ?_⟩) ?_
        rotate_left
        · intro w hSw
          try dsimp only at hSw
          go_simp
          try with_reducible rfl
        try simp only [List.getElem_toArray, List.getElem_cons_zero, List.getElem_cons_succ, Act.put, List.setIfInBounds_toArray, List.set_cons_zero, List.set_cons_succ]
        refine wpAnyT_ready (rs := [15]) (by kernel_rfl) (by simp) ?_
        refine AllT.cons (o := _) rfl (fun K hK => ?_) AllT.nil
        go_simp
        refine hK.out _ _ (fun _ => ?_) (fun hHeld2 => ?_)
        · exact HS.out _ (HBe.out.alloc HBe.out.size _)
        replace hHeld := hHeld2 (by decide)
        clear hHeld2 hK K
        try simp only [List.getElem_toArray, List.getElem_cons_zero, List.getElem_cons_succ, Act.put, List.setIfInBounds_toArray, List.set_cons_zero, List.set_cons_succ]
        refine wpAnyT_ready (rs := [16]) (by kernel_rfl) (by simp) ?_
        refine AllT.cons (o := _) rfl (fun K hK => ?_) AllT.nil
        go_simp
        refine hK.out _ _ (fun h => absurd h (by decide)) (fun _ => ?_)
        clear hK K
        try simp only [List.getElem_toArray, List.getElem_cons_zero, List.getElem_cons_succ, Act.put, List.setIfInBounds_toArray, List.set_cons_zero, List.set_cons_succ]
        refine tkP (i := 17) (v := ?_) rfl (fun _ _ _ h => h) (Or.inl ⟨by kernel_rfl, ?_⟩) ?_
        rotate_left
        · intro w hSw
          try dsimp only at hSw
          go_simp
          try with_reducible rfl
        try simp only [List.getElem_toArray, List.getElem_cons_zero, List.getElem_cons_succ, Act.put, List.setIfInBounds_toArray, List.set_cons_zero, List.set_cons_succ]
        refine tkP (i := 18) (v := ?_) rfl (fun _ _ _ h => h) (Or.inl ⟨by kernel_rfl, ?_⟩) ?_
        rotate_left
        · intro w hSw
          try dsimp only at hSw
          go_simp
          try with_reducible rfl
        try simp only [List.getElem_toArray, List.getElem_cons_zero, List.getElem_cons_succ, Act.put, List.setIfInBounds_toArray, List.set_cons_zero, List.set_cons_succ]
        refine wpAnyT_done (by kernel_rfl) (NoPanic.normal ?_) _
        go_wp2
        go_meet
        exact linkCut_late (r := (pp, eg, ng)) HBe.out HOO.out
      refine AllT.cons (o := _) rfl (fun K hK => ?_) ?_
      · go_simp
        refine hK.out _ _ (fun _ => ?_) (fun hHeld2 => ?_)
        · exact HS.out _ ((HBd.out.alloc HBd.out.size _).alloc (by have := HBd.out.size; simp; omega) _)
        replace hHeld := hHeld2 (by decide)
        clear hHeld2 hK K
        try simp only [List.getElem_toArray, List.getElem_cons_zero, List.getElem_cons_succ, Act.put, List.setIfInBounds_toArray, List.set_cons_zero, List.set_cons_succ]
        refine wpAnyT_ready (rs := [10]) (by kernel_rfl) (by simp) ?_
        refine AllT.cons (o := _) rfl (fun K hK => ?_) AllT.nil
        go_simp
        go_at_call 9; refine (HLC.out _ (w2.heap.size) _ ((HBd.out.alloc HBd.out.size _).alloc (by have := HBd.out.size; simp; omega) _) ((Box.new _ _ _).alloc _)).mono ?_; rintro e w3 ⟨va, vf, vp, vc, rfl, ho, hb3⟩; obtain ⟨O1, o1, hva⟩ := ho.at_.atoms.form; obtain ⟨O2, o2, hvf⟩ := ho.at_.funs.form; obtain ⟨O3, o3, hvp⟩ := ho.at_.preds.form; obtain ⟨O4, o4, hvc⟩ := ho.at_.code.form; subst hva hvf hvp hvc; have HXB := Lib.hid (Box.below (show Box _ (w2.heap.size + 1) 39 #[.slice none 0 0, .slice none 0 0, .slice none 0 0, .slice none 0 0] from (box_next _ _ _ _)) hb3 (Box.lt (show Box _ (w2.heap.size + 1) 39 #[.slice none 0 0, .slice none 0 0, .slice none 0 0, .slice none 0 0] from (box_next _ _ _ _)))); have HOO := Lib.hid ho; have HBe := Lib.hid (((HBd.out.alloc HBd.out.size _).alloc (by have := HBd.out.size; simp; omega) _).trans (hb3.mono ((HBd.out.alloc HBd.out.size _).alloc (by have := HBd.out.size; simp; omega) _).size)); clear ho hb3
        refine hK.out _ _ (fun _ => ?_) (fun hHeld2 => ?_)
        · exact HS.out _ HBe.out
        replace hHeld := hHeld2 (by decide)
        clear hHeld2 hK K
        try simp only [List.getElem_toArray, List.getElem_cons_zero, List.getElem_cons_succ, Act.put, List.setIfInBounds_toArray, List.set_cons_zero, List.set_cons_succ]
        refine tkP (i := 11) (v := ?_) rfl (fun _ _ _ h => h) (Or.inl ⟨by kernel_rfl, ?_⟩) ?_
        rotate_left
        · intro w hSw
          try dsimp only at hSw
          go_simp
          try with_reducible rfl
        try simp only [List.getElem_toArray, List.getElem_cons_zero, List.getElem_cons_succ, Act.put, List.setIfInBounds_toArray, List.set_cons_zero, List.set_cons_succ]
        refine tkP (i := 12) (v := ?_) rfl (fun _ _ _ h => h) (Or.inl ⟨by kernel_rfl, ?_⟩) ?_
        rotate_left
        · intro w hSw
          try dsimp only at hSw
          go_simp
          try with_reducible rfl
        try simp only [List.getElem_toArray, List.getElem_cons_zero, List.getElem_cons_succ, Act.put, List.setIfInBounds_toArray, List.set_cons_zero, List.set_cons_succ]
        refine tkP (i := 13) (v := ?_) rfl (fun _ _ _ h => h) (Or.inl ⟨by kernel_rfl, ?_⟩) ?_
        rotate_left
        · intro w hSw
          try dsimp only at hSw
          go_simp
          try with_reducible rfl
        try simp only [List.getElem_toArray, List.getElem_cons_zero, List.getElem_cons_succ, Act.put, List.setIfInBounds_toArray, List.set_cons_zero, List.set_cons_succ]
        refine tkP (i := 14) (v := ?_) rfl (fun _ _ _ h => h) (Or.inl ⟨by kernel_rfl, ?_⟩) ?_
        rotate_left
        · intro w hSw
          try dsimp only at hSw
          go_simp
          try with_reducible rfl
        try simp only [List.getElem_toArray, List.getElem_cons_zero, List.getElem_cons_succ, Act.put, List.setIfInBounds_toArray, List.set_cons_zero, List.set_cons_succ]
        refine wpAnyT_ready (rs := [16]) (by kernel_rfl) (by simp) ?_
        refine AllT.cons (o := _) rfl (fun K hK => ?_) AllT.nil
        have z0 := HXB.out.cell 0
        have z1 := HXB.out.cell 1
        have z2 := HXB.out.cell 2
        have z3 := HXB.out.cell 3
        have y0 := HXB.out.frozen 0
        have y1 := HXB.out.frozen 1
        have y2 := HXB.out.frozen 2
        have y3 := HXB.out.frozen 3
        go_simp
        refine hK.out _ _ (fun h => absurd h (by decide)) (fun _ => ?_)
        clear hK K
        try simp only [List.getElem_toArray, List.getElem_cons_zero, List.getElem_cons_succ, Act.put, List.setIfInBounds_toArray, List.set_cons_zero, List.set_cons_succ]
        refine tkP (i := 17) (v := ?_) rfl (fun _ _ _ h => h) (Or.inl ⟨by kernel_rfl, ?_⟩) ?_
        rotate_left
        · intro w hSw
          try dsimp only at hSw
          go_simp
          try with_reducible rfl
        try simp only [List.getElem_toArray, List.getElem_cons_zero, List.getElem_cons_succ, Act.put, List.setIfInBounds_toArray, List.set_cons_zero, List.set_cons_succ]
        refine tkP (i := 18) (v := ?_) rfl (fun _ _ _ h => h) (Or.inl ⟨by kernel_rfl, ?_⟩) ?_
        rotate_left
        · intro w hSw
          try dsimp only at hSw
          go_simp
          try with_reducible rfl
        try simp only [List.getElem_toArray, List.getElem_cons_zero, List.getElem_cons_succ, Act.put, List.setIfInBounds_toArray, List.set_cons_zero, List.set_cons_succ]
        refine wpAnyT_done (by kernel_rfl) (NoPanic.normal ?_) _
        go_wp2
        go_meet
        exact linkCut_early (r := (pp, eg, ng)) HXB.out (by have := HBd.out.size; omega) (by simp only [World.size_alloc]; omega) HBe.out HOO.out
      exact AllT.nil
    refine AllT.cons (o := _) rfl (fun K hK => ?_) ?_
    · go_simp
      refine hK.out _ _ (fun _ => ?_) (fun hHeld2 => ?_)
      · exact HS.out _ (HBd.out.alloc HBd.out.size _)
      replace hHeld := hHeld2 (by decide)
      clear hHeld2 hK K
      try simp only [List.getElem_toArray, List.getElem_cons_zero, List.getElem_cons_succ, Act.put, List.setIfInBounds_toArray, List.set_cons_zero, List.set_cons_succ]
      refine wpAnyT_ready (rs := [9]) (by kernel_rfl) (by simp) ?_
      refine AllT.cons (o := _) rfl (fun K hK => ?_) AllT.nil
      go_simp
      refine hK.out _ _ (fun _ => ?_) (fun hHeld2 => ?_)
      · exact HS.out _ ((HBd.out.alloc HBd.out.size _).alloc (by have := HBd.out.size; simp; omega) _)
      replace hHeld := hHeld2 (by decide)
      clear hHeld2 hK K
      try simp only [List.getElem_toArray, List.getElem_cons_zero, List.getElem_cons_succ, Act.put, List.setIfInBounds_toArray, List.set_cons_zero, List.set_cons_succ]
      refine wpAnyT_ready (rs := [10]) (by kernel_rfl) (by simp) ?_
      refine AllT.cons (o := _) rfl (fun K hK => ?_) AllT.nil
      go_simp
      go_at_call 9; refine (HLC.out _ (w2.heap.size + 1) _ ((HBd.out.alloc HBd.out.size _).alloc (by have := HBd.out.size; simp; omega) _) (box_next _ _ _ _)).mono ?_; rintro e w3 ⟨va, vf, vp, vc, rfl, ho, hb3⟩; obtain ⟨O1, o1, hva⟩ := ho.at_.atoms.form; obtain ⟨O2, o2, hvf⟩ := ho.at_.funs.form; obtain ⟨O3, o3, hvp⟩ := ho.at_.preds.form; obtain ⟨O4, o4, hvc⟩ := ho.at_.code.form; subst hva hvf hvp hvc; have HXB := Lib.hid (Box.below (show Box _ (w2.heap.size) 39 #[.slice none 0 0, .slice none 0 0, .slice none 0 0, .slice none 0 0] from ((Box.new _ _ _).alloc _)) hb3 (Box.lt (show Box _ (w2.heap.size) 39 #[.slice none 0 0, .slice none 0 0, .slice none 0 0, .slice none 0 0] from ((Box.new _ _ _).alloc _)))); have HOO := Lib.hid ho; have HBe := Lib.hid (((HBd.out.alloc HBd.out.size _).alloc (by have := HBd.out.size; simp; omega) _).trans (hb3.mono ((HBd.out.alloc HBd.out.size _).alloc (by have := HBd.out.size; simp; omega) _).size)); clear ho hb3
      refine hK.out _ _ (fun _ => ?_) (fun hHeld2 => ?_)
      · exact HS.out _ HBe.out
      replace hHeld := hHeld2 (by decide)
      clear hHeld2 hK K
      try simp only [List.getElem_toArray, List.getElem_cons_zero, List.getElem_cons_succ, Act.put, List.setIfInBounds_toArray, List.set_cons_zero, List.set_cons_succ]
      refine tkP (i := 11) (v := ?_) rfl (fun _ _ _ h => h) (Or.inl ⟨by kernel_rfl, ?_⟩) ?_
      rotate_left
      · intro w hSw
        try dsimp only at hSw
        go_simp
        try with_reducible rfl
      try simp only [List.getElem_toArray, List.getElem_cons_zero, List.getElem_cons_succ, Act.put, List.setIfInBounds_toArray, List.set_cons_zero, List.set_cons_succ]
      refine tkP (i := 12) (v := ?_) rfl (fun _ _ _ h => h) (Or.inl ⟨by kernel_rfl, ?_⟩) ?_
      rotate_left
      · intro w hSw
        try dsimp only at hSw
        go_simp
        try with_reducible rfl
      try simp only [List.getElem_toArray, List.getElem_cons_zero, List.getElem_cons_succ, Act.put, List.setIfInBounds_toArray, List.set_cons_zero, List.set_cons_succ]
      refine tkP (i := 13) (v := ?_) rfl (fun _ _ _ h => h) (Or.inl ⟨by kernel_rfl, ?_⟩) ?_
      rotate_left
      · intro w hSw
        try dsimp only at hSw
        go_simp
        try with_reducible rfl
      try simp only [List.getElem_toArray, List.getElem_cons_zero, List.getElem_cons_succ, Act.put, List.setIfInBounds_toArray, List.set_cons_zero, List.set_cons_succ]
      refine tkP (i := 14) (v := ?_) rfl (fun _ _ _ h => h) (Or.inl ⟨by kernel_rfl, ?_⟩) ?_
      rotate_left
      · intro w hSw
        try dsimp only at hSw
        go_simp
        try with_reducible rfl
      try simp only [List.getElem_toArray, List.getElem_cons_zero, List.getElem_cons_succ, Act.put, List.setIfInBounds_toArray, List.set_cons_zero, List.set_cons_succ]
      refine wpAnyT_ready (rs := [16]) (by kernel_rfl) (by simp) ?_
      refine AllT.cons (o := _) rfl (fun K hK => ?_) AllT.nil
      have z0 := HXB.out.cell 0
      have z1 := HXB.out.cell 1
      have z2 := HXB.out.cell 2
      have z3 := HXB.out.cell 3
      have y0 := HXB.out.frozen 0
      have y1 := HXB.out.frozen 1
      have y2 := HXB.out.frozen 2
      have y3 := HXB.out.frozen 3
      go_simp
      refine hK.out _ _ (fun h => absurd h (by decide)) (fun _ => ?_)
      clear hK K
      try simp only [List.getElem_toArray, List.getElem_cons_zero, List.getElem_cons_succ, Act.put, List.setIfInBounds_toArray, List.set_cons_zero, List.set_cons_succ]
      refine tkP (i := 17) (v := ?_) rfl (fun _ _ _ h => h) (Or.inl ⟨by kernel_rfl, ?_⟩) ?_
      rotate_left
      · intro w hSw
        try dsimp only at hSw
        go_simp
        try with_reducible rfl
      try simp only [List.getElem_toArray, List.getElem_cons_zero, List.getElem_cons_succ, Act.put, List.setIfInBounds_toArray, List.set_cons_zero, List.set_cons_succ]
      refine tkP (i := 18) (v := ?_) rfl (fun _ _ _ h => h) (Or.inl ⟨by kernel_rfl, ?_⟩) ?_
      rotate_left
      · intro w hSw
        try dsimp only at hSw
        go_simp
        try with_reducible rfl
      try simp only [List.getElem_toArray, List.getElem_cons_zero, List.getElem_cons_succ, Act.put, List.setIfInBounds_toArray, List.set_cons_zero, List.set_cons_succ]
      refine wpAnyT_done (by kernel_rfl) (NoPanic.normal ?_) _
      go_wp2
      go_meet
      exact linkCut_early (r := (pp, eg, ng)) HXB.out (by have := HBd.out.size; omega) (by simp only [World.size_alloc]; omega) HBe.out HOO.out
    exact AllT.nil
  case rest =>
  have HEQ : Hid (oo = pp ∧ ef = eg) := Lib.hid (by
    have h := link_parts (a := oa) (b := ob) (c := oc) (ab := oab) (by rw [← link_eq _ (by simp)]; exact HR.out)
    rw [← link_eq _ (by simp), ← link_eq _ (by simp), HR8.out, HR9.out] at h
    exact h)
  have hck : checkOf oo = 0 := by
    have h := link_check [oab, oc] (by simp)
    rw [← link_eq _ (by simp), HR8.out] at h
    exact h
  obtain rfl := HEQ.out.1
  obtain ⟨gr, va, vf, vp, vc, rfl, rfl, rfl, hxb, hob, hnb, hcb⟩ := hcut
  obtain ⟨R1, r1, hva⟩ := hob.atoms.form
  obtain ⟨R2, r2, hvf⟩ := hob.funs.form
  obtain ⟨R3, r3, hvp⟩ := hob.preds.form
  obtain ⟨R4, r4, hvc⟩ := hob.code.form
  subst hva hvf hvp hvc
  have HX9 := Lib.hid hxb
  have HO9 := Lib.hid hob
  have HX8' := Lib.hid (HX8.out.below hcb HX8.out.lt)
  have HO8' := Lib.hid (HO8.out.below hcb)
  have HBZ := Lib.hid (HB2.out.trans ((HB8.out.trans (hcb.mono HB8.out.size)).mono HB2.out.size))
  clear hxb hob hcb hnb HLC HS
  have eb1 : (ef == eg) = true := by rw [HEQ.out.2]; simp
  have eb2 : decide (ef = eg) = true := decide_eq_true HEQ.out.2
  have HWO := Lib.hid (wf_of_ok10 hck).1
  obtain ⟨⟨_, _, hc3, hc4⟩, _⟩ := check_parts hck
  have hus : (linesOf oo).length ≤ 1000000 := linesOf_len oo (by omega) (by omega)
  obtain ⟨wz, hwz⟩ : ∃ wz, wc = wz := ⟨_, rfl⟩
  rw [hwz] at HX8' HX9 HO8' HO9 HBZ ⊢
  clear hwz
  have HS : Hid (∀ W : World, Below wz.heap.size wz W → (fun w' => w'.cell? ⟨gp, 0, none⟩ = some (.slice P1 oo.atoms.length p1) ∧ w'.cell? ⟨gp, 1, none⟩ = some (.slice P2 oo.funs.length p2) ∧ w'.cell? ⟨gp, 2, none⟩ = some (.slice P3 oo.preds.length p3) ∧ w'.cell? ⟨gp, 3, none⟩ = some (.slice P4 oo.code.length p4) ∧ w'.cell? ⟨gr, 0, none⟩ = some (.slice R1 oo.atoms.length r1) ∧ w'.cell? ⟨gr, 1, none⟩ = some (.slice R2 oo.funs.length r2) ∧ w'.cell? ⟨gr, 2, none⟩ = some (.slice R3 oo.preds.length r3) ∧ w'.cell? ⟨gr, 3, none⟩ = some (.slice R4 oo.code.length r4)) W) := Lib.hid (fun W hb => ⟨bel_cell (HX8'.out.cell 0) hb, bel_cell (HX8'.out.cell 1) hb, bel_cell (HX8'.out.cell 2) hb, bel_cell (HX8'.out.cell 3) hb, bel_cell (HX9.out.cell 0) hb, bel_cell (HX9.out.cell 1) hb, bel_cell (HX9.out.cell 2) hb, bel_cell (HX9.out.cell 3) hb⟩)
  have HSM := Lib.hid (fun (W : World) (hb : Below wz.heap.size wz W) => by
    have h := psame_any oo oo HWO.out (.slice P1 oo.atoms.length p1) (.slice P2 oo.funs.length p2) (.slice P3 oo.preds.length p3) (.slice P4 oo.code.length p4) (.slice R1 oo.atoms.length r1) (.slice R2 oo.funs.length r2) (.slice R3 oo.preds.length r3) (.slice R4 oo.code.length r4) W (HO8'.out.below hb) (HO9.out.below hb)
    rw [decide_eq_true (rfl : oo = oo)] at h
    exact h)
  have HLI := Lib.hid (fun (W : World) (hb : Below wz.heap.size wz W) => lines_any oo HWO.out (.slice P1 oo.atoms.length p1) (.slice P2 oo.funs.length p2) (.slice P3 oo.preds.length p3) (.slice P4 oo.code.length p4) W (B := B) ((HP.out.up HBZ.out).up hb) (HO8'.out.below hb))
  have HLJ := Lib.hid (fun (W : World) (hb : Below wz.heap.size wz W) => lines_any oo HWO.out (.slice R1 oo.atoms.length r1) (.slice R2 oo.funs.length r2) (.slice R3 oo.preds.length r3) (.slice R4 oo.code.length r4) W (B := B) ((HP.out.up HBZ.out).up hb) (HO9.out.below hb))
  have HST := Lib.hid (fun v1 v2 w h1 h2 => strings_any (linesOf oo) hus v1 v2 w h1 h2)
  unfold LinesW at HLI HLJ
  generalize linesOf oo = us at HLI HLJ HST
  clear hus hck hc3 hc4 HEQ HR HR8 HR9 HTD HS12 HX8 HO8 HX8' HO8' HX9 HO9 HATA HATB HATC HB8 H2 HWO
  go_upto_region 10 with (fail)
  refine wp_region_noPanic ?_
  refine wp_region_T 99 (fun w' => w'.cell? ⟨gp, 0, none⟩ = some (.slice P1 oo.atoms.length p1) ∧ w'.cell? ⟨gp, 1, none⟩ = some (.slice P2 oo.funs.length p2) ∧ w'.cell? ⟨gp, 2, none⟩ = some (.slice P3 oo.preds.length p3) ∧ w'.cell? ⟨gp, 3, none⟩ = some (.slice P4 oo.code.length p4) ∧ w'.cell? ⟨gr, 0, none⟩ = some (.slice R1 oo.atoms.length r1) ∧ w'.cell? ⟨gr, 1, none⟩ = some (.slice R2 oo.funs.length r2) ∧ w'.cell? ⟨gr, 2, none⟩ = some (.slice R3 oo.preds.length r3) ∧ w'.cell? ⟨gr, 3, none⟩ = some (.slice R4 oo.code.length r4)) (by kernel_rfl) ?_ (fun hHeld => ?_)
  · exact HS.out _ ⟨rfl, rfl, rfl, Nat.le_refl _, fun _ _ => rfl⟩
  change wpAnyT _ _ _ _ _ _ _ _ _ (wz.drewN 1)
  replace hHeld : (wz.drewN 1).cell? ⟨gp, 0, none⟩ = some (.slice P1 oo.atoms.length p1) ∧ (wz.drewN 1).cell? ⟨gp, 1, none⟩ = some (.slice P2 oo.funs.length p2) ∧ (wz.drewN 1).cell? ⟨gp, 2, none⟩ = some (.slice P3 oo.preds.length p3) ∧ (wz.drewN 1).cell? ⟨gp, 3, none⟩ = some (.slice P4 oo.code.length p4) ∧ (wz.drewN 1).cell? ⟨gr, 0, none⟩ = some (.slice R1 oo.atoms.length r1) ∧ (wz.drewN 1).cell? ⟨gr, 1, none⟩ = some (.slice R2 oo.funs.length r2) ∧ (wz.drewN 1).cell? ⟨gr, 2, none⟩ = some (.slice R3 oo.preds.length r3) ∧ (wz.drewN 1).cell? ⟨gr, 3, none⟩ = some (.slice R4 oo.code.length r4) := hHeld
  have HBd : Hid (Below wz.heap.size wz (wz.drewN 1)) := Lib.hid ⟨rfl, rfl, rfl, Nat.le_refl _, fun _ _ => rfl⟩
  generalize wz.drewN 1 = w2 at HBd hHeld ⊢
  refine tkP (i := 0) (v := ?_) rfl (fun _ _ _ h => h) (Or.inl ⟨by kernel_rfl, ?_⟩) ?_
  rotate_left
  · intro w hSw
    try dsimp only at hSw
    go_simp
    try with_reducible rfl
  try simp only [List.getElem_toArray, List.getElem_cons_zero, List.getElem_cons_succ, Act.put, List.setIfInBounds_toArray, List.set_cons_zero, List.set_cons_succ]
  refine tkP (i := 1) (v := ?_) rfl (fun _ _ _ h => h) (Or.inl ⟨by kernel_rfl, ?_⟩) ?_
  rotate_left
  · intro w hSw
    try dsimp only at hSw
    go_simp
    try with_reducible rfl
  try simp only [List.getElem_toArray, List.getElem_cons_zero, List.getElem_cons_succ, Act.put, List.setIfInBounds_toArray, List.set_cons_zero, List.set_cons_succ]
  refine tkP (i := 2) (v := ?_) rfl (fun _ _ _ h => h) (Or.inl ⟨by kernel_rfl, ?_⟩) ?_
  rotate_left
  · intro w hSw
    try dsimp only at hSw
    go_simp
    try with_reducible rfl
  try simp only [List.getElem_toArray, List.getElem_cons_zero, List.getElem_cons_succ, Act.put, List.setIfInBounds_toArray, List.set_cons_zero, List.set_cons_succ]
  refine tkP (i := 3) (v := ?_) rfl (fun _ _ _ h => h) (Or.inl ⟨by kernel_rfl, ?_⟩) ?_
  rotate_left
  · intro w hSw
    try dsimp only at hSw
    go_simp
    try with_reducible rfl
  try simp only [List.getElem_toArray, List.getElem_cons_zero, List.getElem_cons_succ, Act.put, List.setIfInBounds_toArray, List.set_cons_zero, List.set_cons_succ]
  refine tkS (i := 4) (v := ?_) rfl (fun _ _ _ h => h) (Or.inl ⟨by kernel_rfl, ?_⟩) hHeld ?_
  rotate_left
  · intro w hSw
    try dsimp only at hSw
    go_simp
    try with_reducible rfl
  try simp only [List.getElem_toArray, List.getElem_cons_zero, List.getElem_cons_succ, Act.put, List.setIfInBounds_toArray, List.set_cons_zero, List.set_cons_succ]
  refine tkS (i := 5) (v := ?_) rfl (fun _ _ _ h => h) (Or.inl ⟨by kernel_rfl, ?_⟩) hHeld ?_
  rotate_left
  · intro w hSw
    try dsimp only at hSw
    go_simp
    try with_reducible rfl
  try simp only [List.getElem_toArray, List.getElem_cons_zero, List.getElem_cons_succ, Act.put, List.setIfInBounds_toArray, List.set_cons_zero, List.set_cons_succ]
  refine wpAnyT_ready (rs := [6]) (by kernel_rfl) (by simp) ?_
  refine AllT.cons (o := _) rfl (fun K hK => ?_) AllT.nil
  go_simp
  go_at_call 16; refine (HSM.out _ HBd.out).mono ?_; rintro e w3 ⟨rfl, hb3⟩; have HBe := Lib.hid (HBd.out.trans (hb3.mono HBd.out.size)); clear hb3
  refine hK.out _ _ (fun _ => ?_) (fun hHeld2 => ?_)
  · exact HS.out _ HBe.out
  replace hHeld := hHeld2 (by decide)
  clear hHeld2 hK K
  try simp only [List.getElem_toArray, List.getElem_cons_zero, List.getElem_cons_succ, Act.put, List.setIfInBounds_toArray, List.set_cons_zero, List.set_cons_succ]
  refine tkP (i := 7) (v := ?_) rfl (fun _ _ _ h => h) (Or.inl ⟨by kernel_rfl, ?_⟩) ?_
  rotate_left
  · intro w hSw
    try dsimp only at hSw
    go_simp
    try with_reducible rfl
  try simp only [List.getElem_toArray, List.getElem_cons_zero, List.getElem_cons_succ, Act.put, List.setIfInBounds_toArray, List.set_cons_zero, List.set_cons_succ]
  refine tkP (i := 8) (v := ?_) rfl (fun _ _ _ h => h) (Or.inl ⟨by kernel_rfl, ?_⟩) ?_
  rotate_left
  · intro w hSw
    try dsimp only at hSw
    go_simp
    try with_reducible rfl
  try simp only [List.getElem_toArray, List.getElem_cons_zero, List.getElem_cons_succ, Act.put, List.setIfInBounds_toArray, List.set_cons_zero, List.set_cons_succ]
  refine tkS (i := 9) (v := ?_) rfl (fun _ _ _ h => h) (Or.inl ⟨by kernel_rfl, ?_⟩) hHeld ?_
  rotate_left
  · intro w hSw
    try dsimp only at hSw
    go_simp
    try with_reducible rfl
  try simp only [List.getElem_toArray, List.getElem_cons_zero, List.getElem_cons_succ, Act.put, List.setIfInBounds_toArray, List.set_cons_zero, List.set_cons_succ]
  refine tkS (i := 11) (v := ?_) rfl (fun _ _ _ h => h) (Or.inl ⟨by kernel_rfl, ?_⟩) hHeld ?_
  rotate_left
  · intro w hSw
    try dsimp only at hSw
    go_simp
    try with_reducible rfl
  try simp only [List.getElem_toArray, List.getElem_cons_zero, List.getElem_cons_succ, Act.put, List.setIfInBounds_toArray, List.set_cons_zero, List.set_cons_succ]
  refine wpAnyT_ready (rs := [10]) (by kernel_rfl) (by simp) ?_
  refine AllT.cons (o := _) rfl (fun K hK => ?_) AllT.nil
  go_simp
  go_at_call 18; refine (HLI.out _ HBe.out).mono ?_; rintro e w4 ⟨v4, rfl, hrow4, hb4⟩; have HBf := Lib.hid (HBe.out.trans (hb4.mono HBe.out.size)); have HC4 := Lib.hid (CellsAt.of_own hrow4 (by decide)); clear hb4 hrow4
  refine hK.out _ _ (fun _ => ?_) (fun hHeld2 => ?_)
  · exact HS.out _ HBf.out
  replace hHeld := hHeld2 (by decide)
  clear hHeld2 hK K
  try simp only [List.getElem_toArray, List.getElem_cons_zero, List.getElem_cons_succ, Act.put, List.setIfInBounds_toArray, List.set_cons_zero, List.set_cons_succ]
  refine wpAnyT_ready (rs := [12]) (by kernel_rfl) (by simp) ?_
  refine AllT.cons (o := _) rfl (fun K hK => ?_) AllT.nil
  go_simp
  go_at_call 18; refine (HLJ.out _ HBf.out).mono ?_; rintro e w5 ⟨v5, rfl, hrow5, hb5⟩; have HBg := Lib.hid (HBf.out.trans (hb5.mono HBf.out.size)); have HC5 := Lib.hid (CellsAt.of_own hrow5 (by decide)); have HC6 := Lib.hid (HC4.out.below hb5); clear hb5 hrow5
  refine hK.out _ _ (fun _ => ?_) (fun hHeld2 => ?_)
  · exact HS.out _ HBg.out
  replace hHeld := hHeld2 (by decide)
  clear hHeld2 hK K
  try simp only [List.getElem_toArray, List.getElem_cons_zero, List.getElem_cons_succ, Act.put, List.setIfInBounds_toArray, List.set_cons_zero, List.set_cons_succ]
  refine wpAnyT_ready (rs := [13]) (by kernel_rfl) (by simp) ?_
  refine AllT.cons (o := _) rfl (fun K hK => ?_) AllT.nil
  go_simp
  go_at_call 17; refine (HST.out _ _ _ HC6.out HC5.out).mono ?_; rintro e w6 ⟨rfl, hb6⟩; have HBh := Lib.hid (HBg.out.trans (hb6.mono HBg.out.size)); clear hb6
  refine hK.out _ _ (fun _ => ?_) (fun hHeld2 => ?_)
  · exact HS.out _ HBh.out
  replace hHeld := hHeld2 (by decide)
  clear hHeld2 hK K
  try simp only [List.getElem_toArray, List.getElem_cons_zero, List.getElem_cons_succ, Act.put, List.setIfInBounds_toArray, List.set_cons_zero, List.set_cons_succ]
  refine tkP (i := 14) (v := ?_) rfl (fun _ _ _ h => h) (Or.inl ⟨by kernel_rfl, ?_⟩) ?_
  rotate_left
  · intro w hSw
    try dsimp only at hSw
    go_simp
    try with_reducible rfl
  try simp only [List.getElem_toArray, List.getElem_cons_zero, List.getElem_cons_succ, Act.put, List.setIfInBounds_toArray, List.set_cons_zero, List.set_cons_succ]
  refine tkP (i := 15) (v := ?_) rfl (fun _ _ _ h => h) (Or.inl ⟨by kernel_rfl, ?_⟩) ?_
  rotate_left
  · intro w hSw
    try dsimp only at hSw
    go_simp
    try with_reducible rfl
  try simp only [List.getElem_toArray, List.getElem_cons_zero, List.getElem_cons_succ, Act.put, List.setIfInBounds_toArray, List.set_cons_zero, List.set_cons_succ]
  refine wpAnyT_done (by kernel_rfl) (NoPanic.normal ?_) _
  go_wp2
  go_ret
  exact ⟨rfl, HBZ.out.trans (HBh.out.mono HBZ.out.size)⟩

end Go.Proofs.YtclkdlegogjnbaaGreatDoor
