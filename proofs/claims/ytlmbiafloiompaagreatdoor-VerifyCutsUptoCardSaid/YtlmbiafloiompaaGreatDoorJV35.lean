/-
  verify's Check (layer 11): what is known of an object's code, or what is wrong first, and where. Conditions: lengths as Go's values have them, the table of names as it is laid; of a sort that keeps its word.
-/
import Derived.Test.YtlmbiafloiompaaGreatDoorJV34
namespace Go.Proofs.YtlmbiafloiompaaGreatDoor
open Go Go.RowKit
set_option linter.unusedVariables false
set_option linter.unusedSimpArgs false
set_option maxRecDepth 100000

set_option maxHeartbeats 32000000 in
theorem check11_any (HS : SortOk) (HN : SortNil) (o : Ob) (hwf : ObWf o) {va vf vp vc : Value} (w : World) (hnm : NamesAt w) (hv : ObAt w va vf vp vc o) :
    Calls Tryz.prog 13 #[.agg #[va, vf, vp, vc]] w (CheckW w o) := by
  obtain ⟨A1, c1, rfl⟩ := CellsAt.form hv.atoms
  obtain ⟨A2, cf, rfl⟩ := CellsAt.form hv.funs
  obtain ⟨A3, cp, rfl⟩ := CellsAt.form hv.preds
  obtain ⟨A4, cc, rfl⟩ := CellsAt.form hv.code
  have HV := Lib.hid hv
  have HSO := Lib.hid HS
  have HSN := Lib.hid HN
  have HWF := Lib.hid hwf
  have hlp := hwf.lp
  have HNM : Hid (∀ W, Below w.heap.size w W → NamesAt W) := Lib.hid (fun W hW => hnm.below hW hnm.lt)
  have HCK := Lib.hid (fun W (hW : Below w.heap.size w W) => check_any o hwf (.slice A1 o.atoms.length c1) (.slice A2 o.funs.length cf) (.slice A3 o.preds.length cp) (.slice A4 o.code.length cc) W (hnm.below hW hnm.lt) (hv.below hW))
  have HNB := Lib.hid (fun W (hW : Below w.heap.size w W) => noneB_any o.preds hlp (.slice A3 o.preds.length cp) W (CellsAt.below hv.preds hW))
  clear hv HS HN hwf hnm
  obtain ⟨g, hg⟩ : ∃ g, w.heap.size = g := ⟨_, rfl⟩
  obtain ⟨hx0, hr0, hb0⟩ := ins_st_boxes w #[.slice A1 o.atoms.length c1, .slice A2 o.funs.length cf, .slice A3 o.preds.length cp, .slice A4 o.code.length cc] #[.slice none 0 0, .slice none 0 0] 35 49
  have HX := Lib.hid hx0
  have HR := Lib.hid hr0
  have HB := Lib.hid hb0
  clear hx0 hr0 hb0
  go_enter Tryz.func13, Tryz.ntmps13
  go_upto_region 1 with (fail)
  obtain ⟨w1, hw1⟩ : ∃ w1, (w.alloc (.cells #[.slice A1 o.atoms.length c1, .slice A2 o.funs.length cf, .slice A3 o.preds.length cp, .slice A4 o.code.length cc] 35)).alloc (.cells #[.slice none 0 0, .slice none 0 0] 49) = w1 := ⟨_, rfl⟩
  rw [hw1] at HX HR HB ⊢
  rw [hg] at HX HR
  have HG := Lib.hid HB.out.size
  clear hw1
  have x0 := HX.out.cell 0
  have x1 := HX.out.cell 1
  have x2 := HX.out.cell 2
  have x3 := HX.out.cell 3
  have HC1 := Lib.hid (HCK.out w1 HB.out)
  by_cases hc : checkOf o = 0
  case neg =>
    have HE := Lib.hid (v_check hc)
    generalize checkOf o = ck at HC1 HE hc
    have e0 : (ck != 0) = true := by rw [bne_iff_ne]; exact hc
    clear hc HCK HNB
    go_wp2_with (go_at_call 22; refine HC1.out.mono ?_; rintro e w2 ⟨rfl, hb2⟩; have HR2 := Lib.hid (HR.out.below hb2 HR.out.lt); have HB2 := Lib.hid (HB.out.trans (hb2.mono HG.out)); have b0 := HR2.out.cell 0; have z0 := HR2.out.frozen 0; have b1 := HR2.out.cell 1; have z1 := HR2.out.frozen 1; clear hb2)
    exact ret_rep (x := .int .i64 ck) (y := .int .i64 (-1)) HR2.out (by intro W c0 c1; simp [results, Tryz.results13, go_sem, c0, c1]) (fun W hW hF => checkW_err HE.out (HB2.out.trans (hF.below HB2.out.size (fun k hk => by omega))))
  case pos =>
  rw [hc] at HC1
  have HN1 := Lib.hid (fun W (hW : Below w1.heap.size w1 W) => HNB.out W (HB.out.trans (hW.mono HG.out)))
  by_cases hnp : o.preds.any noneP = true
  · have HE := Lib.hid (v_none hc hnp)
    rw [hnp] at HN1
    clear hc hnp HCK HNB
    go_wp2_with (first | (go_at_call 22; refine HC1.out.mono ?_; rintro e w2 ⟨rfl, hb2⟩; have HX2 := Lib.hid (HX.out.below hb2 HX.out.lt); have HR2 := Lib.hid (HR.out.below hb2 HR.out.lt); have HB2 := Lib.hid (HB.out.trans (hb2.mono HG.out)); have HBW2 := Lib.hid hb2; have HG2 := Lib.hid hb2.size; have x2 := HX2.out.cell 2; clear hb2) | (go_at_call 23; refine (HN1.out w2 HBW2.out).mono ?_; rintro e w3 ⟨rfl, hb3⟩; have HR3 := Lib.hid (HR2.out.below hb3 HR2.out.lt); have HB3 := Lib.hid (HB2.out.trans (hb3.mono (Nat.le_trans HG.out HG2.out))); have b0 := HR3.out.cell 0; have z0 := HR3.out.frozen 0; have b1 := HR3.out.cell 1; have z1 := HR3.out.frozen 1; clear hb3))
    exact ret_rep (x := .int .i64 12) (y := .int .i64 (-1)) HR3.out (by intro W c0 c1; simp [results, Tryz.results13, go_sem, c0, c1]) (fun W hW hF => checkW_err HE.out (HB3.out.trans (hF.below HB3.out.size (fun k hk => by omega))))
  · have hnf : o.preds.any noneP = false := by simpa using hnp
    rw [hnf] at HN1
    have HK := Lib.hid (ObK.of hc)
    have hlc := HK.out.lc
    have HEN := Lib.hid (ents_of hc hnf)
    have HCZ := Lib.hid hc
    have HNF := Lib.hid hnf
    clear hnp hnf hc HCK HNB
    have HNW := Lib.hid (fun W => newWalk_any hlc A1 A2 A3 A4 c1 cf cp cc W)
    go_upto_region 7 with (first | (go_at_call 22; refine HC1.out.mono ?_; rintro e w2 ⟨rfl, hb2⟩; have HX2 := Lib.hid (HX.out.below hb2 HX.out.lt); have HR2 := Lib.hid (HR.out.below hb2 HR.out.lt); have HB2 := Lib.hid (HB.out.trans (hb2.mono HG.out)); have HBW2 := Lib.hid hb2; have HG2 := Lib.hid (Nat.le_trans HG.out hb2.size); have x2 := HX2.out.cell 2; clear hb2) | (go_at_call 23; refine (HN1.out w2 HBW2.out).mono ?_; rintro e w3 ⟨rfl, hb3⟩; have HX3 := Lib.hid (HX2.out.below hb3 HX2.out.lt); have HR3 := Lib.hid (HR2.out.below hb3 HR2.out.lt); have HB3 := Lib.hid (HB2.out.trans (hb3.mono HG2.out)); have HG3 := Lib.hid (Nat.le_trans HG2.out hb3.size); have x0 := HX3.out.cell 0; have x1 := HX3.out.cell 1; have x2 := HX3.out.cell 2; have x3 := HX3.out.cell 3; clear hb3) | (go_at_call 25; refine (HNW.out w3).mono ?_; rintro e w4 ⟨gw, gp, rfl, hw4, hb4, hgp, hgw⟩; have HW4 := Lib.hid hw4; have HX4 := Lib.hid (HX3.out.below hb4 HX3.out.lt); have HR4 := Lib.hid (HR3.out.below hb4 HR3.out.lt); have HB4 := Lib.hid (HB3.out.trans (hb4.mono HG3.out)); have HGP := Lib.hid (Nat.le_trans HG3.out hgp); have HRL := Lib.hid (Nat.lt_of_lt_of_le HR3.out.lt hgp); clear hw4 hb4 hgp hgw))
    have HFA := Lib.hid (fault_any HSO.out HSN.out HK.out HEN.out.2 HEN.out.1 HW4.out HV.out HB4.out HGP.out (PlW.zeros _) (by rw [List.length_replicate]))
    have hgpg : g + 1 < gp := HRL.out
    clear x0 x1 x2 x3 HX HR HB HX2 HR2 HB2 HX3 HR3 HB3 HN1 HC1 HNW
    go_upto_region 8 with (go_at_call 26; refine HFA.out.mono ?_; rintro e w5 ⟨L, hp5, hs5, hf5, hr5⟩; have HP5 := Lib.hid hp5; have HS5 := Lib.hid hs5; have HF5 := Lib.hid hf5; have HR5 := Lib.hid hr5; clear hp5 hs5 hf5 hr5; obtain ⟨at_, rfl⟩ : ∃ a : Int, e = .returned (.int .i64 a) := fault_form HR5.out)
    have HX5 := Lib.hid (HX4.out.fr HF5.out (by omega))
    have HR6 := Lib.hid (HR4.out.fr HF5.out (by omega))
    have HB6 : Hid (Below w.heap.size w w5) := Lib.hid (HB4.out.trans (HF5.out.below HB4.out.size (fun k hk => by subst hk; exact HGP.out)))
    rcases fault_says HP5.out HS5.out HEN.out.1 HR5.out with ⟨m, rfl, hwk⟩ | ⟨P, rfl, hwk, hpl, hpw, hplen⟩
    · have HE := Lib.hid (v_bad HCZ.out HNF.out hwk)
      have b0 := HR6.out.cell 0
      have z0 := HR6.out.frozen 0
      have b1 := HR6.out.cell 1
      have z1 := HR6.out.frozen 1
      have i0 : (0 : Int) ≤ (m : Int) := by omega
      clear hwk HR5
      go_wp2
      exact ret_rep (x := .int .i64 14) (y := .int .i64 (m : Int)) HR6.out (by intro W c0 c1; simp [results, Tryz.results13, go_sem, c0, c1]) (fun W hW hF => checkW_err HE.out (HB6.out.trans (hF.below HB6.out.size (fun k hk => by omega))))
    · have HE := Lib.hid (v_ok HCZ.out HNF.out hwk)
      have HGO := Lib.hid (follow_of hwk)
      have HPW := Lib.hid hpw
      have HW6 : Hid (WkAt w5 gw gp (.slice A1 o.atoms.length c1) (.slice A2 o.funs.length cf) (.slice A3 o.preds.length cp) (.slice A4 o.code.length cc) P) := Lib.hid (HW4.out.upd HF5.out hpl (by rw [hplen, List.length_replicate]))
      have HX6 := HX5
      have HPLN := Lib.hid hplen
      clear hwk HR5 hpl hpw HX5 hplen
      obtain ⟨w6, hw6⟩ : ∃ w6, w5 = w6 := ⟨_, rfl⟩
      rw [hw6] at HX6 HR6 HB6 HW6 ⊢
      clear hw6
      go_upto_region 10 with (fail)
      refine wp_region_noPanic ?_
      refine wp_region_T 99 (fun w' => w'.cell? ⟨g, 0, none⟩ = some (.slice A1 o.atoms.length c1) ∧ w'.cell? ⟨g, 1, none⟩ = some (.slice A2 o.funs.length cf) ∧ w'.cell? ⟨g, 2, none⟩ = some (.slice A3 o.preds.length cp) ∧ w'.cell? ⟨g, 3, none⟩ = some (.slice A4 o.code.length cc)) (by kernel_rfl) ?_ (fun hHeld => ?_)
      · exact ⟨HX6.out.cell 0, HX6.out.cell 1, HX6.out.cell 2, HX6.out.cell 3⟩
      change wpAnyT _ _ _ _ _ _ _ _ _ w6.drew
      replace hHeld : w6.drew.cell? ⟨g, 0, none⟩ = some (.slice A1 o.atoms.length c1) ∧ w6.drew.cell? ⟨g, 1, none⟩ = some (.slice A2 o.funs.length cf) ∧ w6.drew.cell? ⟨g, 2, none⟩ = some (.slice A3 o.preds.length cp) ∧ w6.drew.cell? ⟨g, 3, none⟩ = some (.slice A4 o.code.length cc) := hHeld
      have HX7 := Lib.hid HX6.out.drew
      have HR7 := Lib.hid HR6.out.drew
      have HB7 := Lib.hid (bel_dn HB6.out 1)
      change Hid (Below w.heap.size w w6.drew) at HB7
      have HW7 : Hid (WkAt w6.drew gw gp (.slice A1 o.atoms.length c1) (.slice A2 o.funs.length cf) (.slice A3 o.preds.length cp) (.slice A4 o.code.length cc) P) := Lib.hid ⟨HW6.out.wk, HW6.out.pl⟩
      have HG7 : Hid (w.heap.size ≤ w6.drew.heap.size) := Lib.hid HB7.out.size
      generalize w6.drew = w7 at hHeld HX7 HR7 HB7 HW7 HG7 ⊢
      refine tkP (i := 0) (v := ?_) rfl (fun _ _ _ h => h) (Or.inl ⟨by kernel_rfl, ?_⟩) ?_
      rotate_left
      · intro w hSw
        try dsimp only at hSw
        go_simp
        try with_reducible rfl
      try simp only [List.getElem_toArray, List.getElem_cons_zero, List.getElem_cons_succ, Act.put, List.setIfInBounds_toArray, List.set_cons_zero, List.set_cons_succ]
      refine tkS (i := 2) (v := ?_) rfl (fun _ _ _ h => h) (Or.inl ⟨by kernel_rfl, ?_⟩) hHeld ?_
      rotate_left
      · intro w hSw
        try dsimp only at hSw
        obtain ⟨h1, h2, h3, h4⟩ := hSw
        go_simp
        try with_reducible rfl
      try simp only [List.getElem_toArray, List.getElem_cons_zero, List.getElem_cons_succ, Act.put, List.setIfInBounds_toArray, List.set_cons_zero, List.set_cons_succ]
      refine wpAnyT_ready (rs := [1]) (by kernel_rfl) (by simp) ?_
      refine AllT.cons (o := _) rfl (fun K hK => ?_) AllT.nil
      go_simp
      go_at_call 27; refine (states_any HW7.out HPW.out.ok (by rw [HPLN.out]; exact hlc)).mono ?_; rintro e3 w8 ⟨vs, rfl, ho8, hb8⟩; obtain ⟨As, ks, hvs⟩ := CellsAt.form (CellsAt.of_own ho8 (by decide)); subst hvs; have HOF : Hid (∀ k, (Value.slice As P.length ks).ownBlock = some k → w7.heap.size ≤ k) := Lib.hid (fun k hk => (own_ge ho8 hk).1); have HO8 := Lib.hid (CellsAt.of_own ho8 (by decide)); have HX8 := Lib.hid (HX7.out.below hb8 HX7.out.lt); have HR8 := Lib.hid (HR7.out.below hb8 HR7.out.lt); have HB8 := Lib.hid (HB7.out.trans (hb8.mono HG7.out)); have HG8 := Lib.hid (Nat.le_trans HG7.out hb8.size); clear ho8 hb8
      refine hK.out _ _ (fun _ => ?_) (fun hHeld2 => ?_)
      · exact ⟨HX8.out.cell 0, HX8.out.cell 1, HX8.out.cell 2, HX8.out.cell 3⟩
      replace hHeld := hHeld2 (by decide)
      clear hHeld2 hK K
      try simp only [List.getElem_toArray, List.getElem_cons_zero, List.getElem_cons_succ, Act.put, List.setIfInBounds_toArray, List.set_cons_zero, List.set_cons_succ]
      refine wpAnyT_ready (rs := [3]) (by kernel_rfl) (by simp) ?_
      refine AllT.cons (o := _) rfl (fun K hK => ?_) AllT.nil
      go_simp
      go_at_call 28; refine (needs_any HK.out HGO.out (HV.out.below HB8.out)).mono ?_; rintro e3 w9 ⟨vn, rfl, hn9, hq9, hb9⟩; obtain ⟨An, kn, hvn⟩ := CellsAt.form hn9; subst hvn; have HNF2 := Lib.hid hq9; have HN9 := Lib.hid hn9; clear hq9; have HO9 := Lib.hid (HO8.out.below hb9); have HX9 := Lib.hid (HX8.out.below hb9 HX8.out.lt); have HR9 := Lib.hid (HR8.out.below hb9 HR8.out.lt); have HB9 := Lib.hid (HB8.out.trans (hb9.mono HG8.out)); clear hn9 hb9
      refine hK.out _ _ (fun _ => ?_) (fun hHeld2 => ?_)
      · exact ⟨HX9.out.cell 0, HX9.out.cell 1, HX9.out.cell 2, HX9.out.cell 3⟩
      replace hHeld := hHeld2 (by decide)
      clear hHeld2 hK K
      try simp only [List.getElem_toArray, List.getElem_cons_zero, List.getElem_cons_succ, Act.put, List.setIfInBounds_toArray, List.set_cons_zero, List.set_cons_succ]
      refine tkP (i := 4) (v := ?_) rfl (fun _ _ _ h => h) (Or.inl ⟨by kernel_rfl, ?_⟩) ?_
      rotate_left
      · intro w hSw
        try dsimp only at hSw
        go_simp
        try with_reducible rfl
      try simp only [List.getElem_toArray, List.getElem_cons_zero, List.getElem_cons_succ, Act.put, List.setIfInBounds_toArray, List.set_cons_zero, List.set_cons_succ]
      have z0 := HR9.out.cell 0
      have z1 := HR9.out.cell 1
      have y0 := HR9.out.frozen 0
      have y1 := HR9.out.frozen 1
      refine wpAnyT_ready (rs := [5]) (by kernel_rfl) (by simp) ?_
      refine AllT.cons (o := _) rfl (fun K hK => ?_) AllT.nil
      go_simp
      have HXe := Lib.hid ((HX9.out.far (p := ⟨g + 1, 0, none⟩) (by simp) (.slice As P.length ks)).far (p := ⟨g + 1, 1, none⟩) (by simp) (.slice An o.code.length kn))
      refine hK.out _ _ (fun _ => ?_) (fun hHeld2 => ?_)
      · exact ⟨HXe.out.cell 0, HXe.out.cell 1, HXe.out.cell 2, HXe.out.cell 3⟩
      replace hHeld := hHeld2 (by decide)
      clear hHeld2 hK K
      try simp only [List.getElem_toArray, List.getElem_cons_zero, List.getElem_cons_succ, Act.put, List.setIfInBounds_toArray, List.set_cons_zero, List.set_cons_succ]
      refine tkP (i := 6) (v := ?_) rfl (fun _ _ _ h => h) (Or.inl ⟨by kernel_rfl, ?_⟩) ?_
      rotate_left
      · intro w hSw
        try dsimp only at hSw
        go_simp
        try with_reducible rfl
      try simp only [List.getElem_toArray, List.getElem_cons_zero, List.getElem_cons_succ, Act.put, List.setIfInBounds_toArray, List.set_cons_zero, List.set_cons_succ]
      refine tkP (i := 7) (v := ?_) rfl (fun _ _ _ h => h) (Or.inl ⟨by kernel_rfl, ?_⟩) ?_
      rotate_left
      · intro w hSw
        try dsimp only at hSw
        go_simp
        try with_reducible rfl
      try simp only [List.getElem_toArray, List.getElem_cons_zero, List.getElem_cons_succ, Act.put, List.setIfInBounds_toArray, List.set_cons_zero, List.set_cons_succ]
      refine wpAnyT_done (by kernel_rfl) (NoPanic.normal ?_) _
      go_wp2
      have hlen2 : (P.map (·.s)).length = P.length := List.length_map _
      have hfl2 : (P.map (·.s)).flatMap stS = P.flatMap stC := by rw [List.flatMap_map]; rfl
      exact ret_rep (x := .int .i64 0) (y := .int .i64 (-1)) HR9.out (by intro W c0 c1; simp [results, Tryz.results13, go_sem, c0, c1]) (fun W hW hF => by
        have hbW : Below w9.heap.size w9 W → True := fun _ => trivial
        refine ⟨_, _, by rw [HE.out], ?_, ?_, HB9.out.trans (hF.below HB9.out.size (fun k hk => by omega))⟩
        · rw [HE.out, hlen2, hfl2]
          exact CellsAt.frV HO9.out hF (fun k hk e => by have h1 := HOF.out k hk; have h2 := HR7.out.lt; omega)
        · rw [HE.out, needsV_len]
          exact CellsAt.frV HN9.out hF (fun k hk e => by have h1 := HNF2.out k hk; have h2 := HR8.out.lt; omega))

end Go.Proofs.YtlmbiafloiompaaGreatDoor
