/-
  verify's fault (layer 11): the first instruction that is wrong, one predicate's code behind the other; of whatever sort that keeps its word. Conditions: an object that may be, Entries that differ.
-/
import Derived.Test.YtlmbiafloiompaaGreatDoorJV26
import Derived.Test.YtlmbiafloiompaaGreatDoorJV31
namespace Go.Proofs.YtlmbiafloiompaaGreatDoor
open Go Go.RowKit
set_option linter.unusedVariables false
set_option linter.unusedSimpArgs false
set_option maxRecDepth 100000

theorem own_someV {w : World} {base : Nat} {e : TypeId} {size n : Nat} {v : Value} {xs : List Value} (h : w.ownsRow base e size v n xs) (hn : 0 < n) : ∃ g c, v = .slice (some ⟨g, 0, none⟩) n c := by
  rcases h.2 with ⟨_, h0⟩ | ⟨g, c, _, hv, _⟩
  · omega
  · exact ⟨g, c, hv⟩
/-- The loop over the predicates. -/
def FaO (o : Ob) (L : List (ByteArray × Int × Int)) (P0 : List VPl) (gw gp : Nat) (va vf vp vc : Value) (w2 : World) (av i : Value) (wr : World) : Prop :=
  ∃ (j n : Nat) (P : List VPl), j ≤ L.length ∧ i = .int .i64 j ∧ av = .int .i64 n ∧ n ≤ o.code.length ∧ Hid (faultP o L 0 P0 = faultP o (L.drop j) n P) ∧ Hid (∀ q ∈ L.drop j, (n : Int) ≤ q.2.2) ∧ Hid (PlW P ∧ P.length = o.code.length) ∧ Hid (WkAt wr gw gp va vf vp vc P) ∧ Hid (Fr (fun k => k = gp) w2 wr)
/-- What is known stays in its bounds behind a step. -/
theorem pass_keep {o : Ob} (ho : ObK o) {ar stop : Int} {n : Nat} {P Q : List VPl} (hn : n < o.code.length) (har : 0 ≤ ar ∧ ar ≤ 8) (hl : n < P.length) (hx : True) (hP : PlW P) (h : passV o ar stop n P = some Q) : PlW Q := by
  have hi : o.code.getD n (0, 0, 0, 0, 0) = o.code[n] := by rw [List.getD_eq_getElem?_getD, List.getElem?_eq_getElem hn]; rfl
  have hp : P.getD n plZero = P[n] := by rw [List.getD_eq_getElem?_getD, List.getElem?_eq_getElem hl]; rfl
  unfold passV at h
  simp only at h
  rw [hi, hp] at h
  have hik := ho.ins o.code[n] (List.getElem_mem hn)
  have hs := hP P[n] (List.getElem_mem hl)
  generalize o.code[n] = i at h hik
  split at h
  · cases h
  · rename_i hc
    have ha : asksV o ar i P[n].s = true := by
      cases hx : asksV o ar i P[n].s with
      | true => rfl
      | false => exact absurd (.inr (.inr (.inl hx))) hc
    have hm := hs.makes ho hik ha
    injection h with h
    rw [← h]
    refine PlW.brings (P := P) (fun t => if i.1 = 26 then makesV o i P[n].s else stOther ar.toNat) _ _ ?_ (fun t _ => ?_)
    · split
      · exact hP.bring _ hm
      · exact hP
    · show StW (if i.1 = 26 then makesV o i P[n].s else stOther ar.toNat)
      split
      · exact hm
      · exact StW.other _ (by omega)
/-- What fault comes to. -/
def FaultW (w : World) (gp : Nat) (o : Ob) (r : Except Nat (Nat × List VPl)) (e : Ending) (w' : World) : Prop :=
  Fr (fun k => k = gp) w w' ∧ match r with
    | .error m => e = .returned (.int .i64 (m : Int))
    | .ok (m, P) => if m < o.code.length then e = .returned (.int .i64 (m : Int)) else e = .returned (.int .i64 (-1)) ∧ Box w' gp 133 (plA P) ∧ PlW P ∧ P.length = o.code.length

set_option maxHeartbeats 32000000 in
theorem fault_any (HS : SortOk) (HN : SortNil) {o : Ob} (ho : ObK o) (hnd : (o.preds.map (·.2.2)).Nodup) (hent : ∀ q ∈ o.preds, 0 ≤ q.2.2 ∧ q.2.2 < (o.code.length : Int)) {w : World} {gw gp : Nat} {va vf vp vc : Value} {P0 : List VPl} (h : WkAt w gw gp va vf vp vc P0) {w0 : World} (hv0 : ObAt w0 va vf vp vc o) (hb0 : Below w0.heap.size w0 w) (hg0 : w0.heap.size ≤ gp) (hP : PlW P0) (hl : P0.length = o.code.length) :
    Calls Tryz.prog 26 #[.pointer (some ⟨gw, 0, none⟩)] w fun e w' => ∃ L, L.Perm o.preds ∧ L.Pairwise (fun p q => p.2.2 < q.2.2) ∧ FaultW w gp o (faultP o L 0 P0) e w' := by
  have hv := hv0.below hb0
  obtain ⟨A1, c1, rfl⟩ := CellsAt.form hv.atoms
  obtain ⟨A2, cf, rfl⟩ := CellsAt.form hv.funs
  obtain ⟨A3, cp, rfl⟩ := CellsAt.form hv.preds
  obtain ⟨A4, cc, rfl⟩ := CellsAt.form hv.code
  have HSPN := Lib.hid (spans_any HS HN hnd ho.lp ho.lc hv)
  have HVF : Hid (∀ W, Fr (fun k => k = gp) w W → ObAt W (.slice A1 o.atoms.length c1) (.slice A2 o.funs.length cf) (.slice A3 o.preds.length cp) (.slice A4 o.code.length cc) o) := Lib.hid (fun W hW => hv0.below (hb0.trans (hW.below hb0.size (fun k hk => by subst hk; exact hg0))))
  have HOB := Lib.hid ho
  have HENT := Lib.hid hent
  have HW := Lib.hid h
  have HP0 : Hid (PlW P0 ∧ P0.length = o.code.length) := Lib.hid ⟨hP, hl⟩
  have hlc := ho.lc
  have x0 := h.wk.cell 0
  have x1 := h.wk.cell 1
  have x2 := h.wk.cell 2
  have x3 := h.wk.cell 3
  have hgp := h.pl.lt
  have hgw := h.wk.lt
  clear HS HN ho hnd hent h hv hP hl hv0 hb0 hg0
  go_enter Tryz.func26, Tryz.ntmps26
  go_wp2_with (go_at_call 52; refine HSPN.out.mono ?_; rintro e w2 ⟨v2, L, rfl, hL1, hL2, hL3, hb2⟩; obtain ⟨A8, k8, hv8, _⟩ := own_form hL3; subst hv8; have HLP := Lib.hid hL1; have HLS := Lib.hid hL2; have HO2 := Lib.hid hL3; have HB2 := Lib.hid hb2; clear hL1 hL2 hL3 hb2)
  clear x0 x1 x2 x3
  have hbk : ∀ k, (Value.slice A8 L.length k8).ownBlock = some k → k ≠ gp := fun k hk => by
    have := (own_ge HO2.out hk).1
    omega
  have HBK := Lib.hid hbk
  clear hbk
  have HW2 := Lib.hid (HW.out.fr HB2.out)
  have hlpl : L.length = o.preds.length := HLP.out.length_eq
  have hlp := HOB.out.lp
  have HLE : Hid (∀ q ∈ L, 0 ≤ q.2.2 ∧ q.2.2 < (o.code.length : Int)) := Lib.hid (fun q hq => HENT.out q (HLP.out.mem_iff.1 hq))
  have HLA : Hid (∀ q ∈ L, 0 ≤ q.2.1 ∧ q.2.1 ≤ 8) := Lib.hid (fun q hq => HOB.out.pred q (HLP.out.mem_iff.1 hq))
  have E0 : Hid (faultP o L 0 P0 = faultP o (L.drop 0) 0 P0) := Lib.hid rfl
  have F0 : Hid (Fr (fun k => k = gp) w2 w2) := Lib.hid (Fr.refl _ _)
  have G0 : Hid (∀ q ∈ L.drop 0, ((0 : Nat) : Int) ≤ q.2.2) := Lib.hid (fun q hq => (HLE.out q hq).1)
  go_loopw [3, 12] (fun av i wr => FaO o L P0 gw gp (.slice A1 o.atoms.length c1) (.slice A2 o.funs.length cf) (.slice A3 o.preds.length cp) (.slice A4 o.code.length cc) w2 av i wr) (fun _ i _ => L.length - (intOf i).toNat)
  case atStart => exact ⟨0, 0, P0, by omega, rfl, rfl, by omega, E0, G0, HP0, HW2, F0⟩
  obtain ⟨j, n, P, hj, rfl, rfl, hn, HE, HGE, HP, HWr, HF⟩ := hrel
  clear E0 F0 G0
  by_cases hlt : j < L.length
  case pos =>
    obtain ⟨g8, k8', hv8⟩ := own_someV (own_fr HO2.out HF.out HBK.out) (by omega)
    have HOr := Lib.hid (own_fr HO2.out HF.out HBK.out)
    injection hv8 with hA8 _ hk8
    subst hA8
    have hsp := spans_at o.code.length L j hlt
    have hfl := flat_at spC 3 (fun _ => rfl) (spansOf o.code.length L) j _ hsp
    have hlen := HOr.out.1
    have d0 := HOr.out.cellAt (j * 3 + 0) (by omega)
    have d1 := HOr.out.cellAt (j * 3 + 1) (by omega)
    have d2 := HOr.out.cellAt (j * 3 + 2) (by omega)
    rw [hfl 0 (by omega)] at d0
    rw [hfl 1 (by omega)] at d1
    rw [hfl 2 (by omega)] at d2
    simp only [spC, List.getElem?_cons_succ, List.getElem?_cons_zero, Nat.add_zero] at d0 d1 d2
    have hmem : L[j] ∈ L := List.getElem_mem hlt
    have hq1 := HLE.out _ hmem
    have hq2 := HLA.out _ hmem
    have hge := HGE.out L[j] (by rw [List.drop_eq_getElem_cons hlt]; exact List.mem_cons_self)
    have hsort : ∀ q ∈ L.drop (j + 1), L[j].2.2 < q.2.2 := by
      have h1 : (L.drop j).Pairwise (fun p q => p.2.2 < q.2.2) := HLS.out.sublist (List.drop_sublist _ _)
      rw [List.drop_eq_getElem_cons hlt, List.pairwise_cons] at h1
      exact h1.1
    have hstop : L[j].2.2 < nextEnt o.code.length (L.drop (j + 1)) ∧ nextEnt o.code.length (L.drop (j + 1)) ≤ (o.code.length : Int) ∧ ∀ q ∈ L.drop (j + 1), nextEnt o.code.length (L.drop (j + 1)) ≤ q.2.2 := by
      cases hd : L.drop (j + 1) with
      | nil => exact ⟨hq1.2, Int.le_refl _, fun q hq => by cases hq⟩
      | cons r M =>
        have hr : r ∈ L.drop (j + 1) := by rw [hd]; exact List.mem_cons_self
        refine ⟨hsort r hr, Int.le_of_lt (HLE.out r (List.drop_subset _ _ hr)).2, fun q hq => ?_⟩
        have h1 : (L.drop (j + 1)).Pairwise (fun p q => p.2.2 < q.2.2) := HLS.out.sublist (List.drop_sublist _ _)
        rw [hd, List.pairwise_cons] at h1
        rcases List.mem_cons.1 hq with rfl | hq
        · exact Int.le_refl _
        · exact Int.le_of_lt (h1.1 q hq)
    have HBAD : Hid ((n : Int) < L[j].2.2 → faultP o (L.drop j) n P = .error n) := Lib.hid (fun h => by rw [List.drop_eq_getElem_cons hlt]; exact faultP_bad h)
    have HGO : Hid (¬ (n : Int) < L[j].2.2 → faultP o (L.drop j) n P = stepF o L[j].2.1 (nextEnt o.code.length (L.drop (j + 1))) (L.drop (j + 1)) n (bringV P L[j].2.2 (stEntry L[j].2.1.toNat))) := Lib.hid (fun h => by rw [List.drop_eq_getElem_cons hlt]; exact faultP_go h)
    have HSORT := Lib.hid hstop.2.2
    obtain ⟨hst1, hst2, _⟩ := hstop
    clear hfl hsp hlen hsort hmem
    generalize nextEnt o.code.length (L.drop (j + 1)) = stop at d2 hst1 hst2 HSORT HGO
    generalize L[j].2.1 = ar at d0 hq2 HGO
    generalize L[j].2.2 = fr at d1 hq1 hge hst1 HBAD HGO
    have i1 : (j : Int) < (L.length : Int) := by omega
    have i0 : (0 : Int) ≤ (j : Int) := by omega
    have hgwr : gp < wr.heap.size := HWr.out.pl.lt
    have HX5 := Lib.hid (Box.new wr 128 #[.int .i64 ar, .int .i64 fr, .int .i64 stop])
    have HF5 := Lib.hid (HF.out.alloc (.cells #[.int .i64 ar, .int .i64 fr, .int .i64 stop] 128))
    have HW5 := Lib.hid (HWr.out.fr (alloc_below wr (.cells #[.int .i64 ar, .int .i64 fr, .int .i64 stop] 128)))
    by_cases hb : (n : Int) < fr
    · have HR := Lib.hid (HE.out.trans (HBAD.out hb))
      clear HBAD HGO HE
      go_wp2
      go_ret
      exact ⟨L, HLP.out, HLS.out, (Fr.of_below HB2.out).trans HF5.out, by rw [HR.out]; rfl⟩
    · have HR := Lib.hid (HE.out.trans (HGO.out hb))
      obtain rfl : fr = (n : Int) := by omega
      clear HBAD HGO HE hge
      go_upto_region 7 with (fail)
      obtain ⟨w5, hw5⟩ : ∃ w5, wr.alloc (.cells #[.int .i64 ar, .int .i64 (n : Int), .int .i64 stop] 128) = w5 := ⟨_, rfl⟩
      obtain ⟨g5, hg5e⟩ : ∃ g5, wr.heap.size = g5 := ⟨_, rfl⟩
      rw [hw5] at HX5 HF5 HW5 ⊢
      rw [hg5e] at HX5 ⊢
      have hg5 : g5 ≠ gp := by omega
      clear hw5 d0 d1 d2
      have s0 := HX5.out.cell 0
      have s1 := HX5.out.cell 1
      have har2 : ((ar.toNat : Nat) : Int) = ar := by omega
      have hen := fun w => atEntry_st ar.toNat (by omega) w
      rw [har2] at hen
      have HEN := Lib.hid hen
      clear hen
      have HCM := Lib.hid (fun W (hW : WkAt W gw gp (.slice A1 o.atoms.length c1) (.slice A2 o.funs.length cf) (.slice A3 o.preds.length cp) (.slice A4 o.code.length cc) P) => come_int hW HP.out.1 (n : Int) (by omega) (by rw [HP.out.2]; exact hq1.2) (by rw [HP.out.2]; exact hlc) (StOk.entry ar.toNat (by omega)))
      have HP1 : Hid (PlW (bringV P (n : Int) (stEntry ar.toNat)) ∧ (bringV P (n : Int) (stEntry ar.toNat)).length = o.code.length) := Lib.hid ⟨HP.out.1.bring _ (StW.entry _ (by omega)), by rw [bring_len]; exact HP.out.2⟩
      refine wp_region_noPanic ?_
      refine wp_region_T 99 (fun w' => w'.cell? ⟨g5, 0, none⟩ = some (.int .i64 ar) ∧ w'.cell? ⟨g5, 1, none⟩ = some (.int .i64 (n : Int))) (by kernel_rfl) ?_ (fun hHeld => ?_)
      · exact ⟨s0, s1⟩
      change wpAnyT _ _ _ _ _ _ _ _ _ w5.drew
      replace hHeld : w5.drew.cell? ⟨g5, 0, none⟩ = some (.int .i64 ar) ∧ w5.drew.cell? ⟨g5, 1, none⟩ = some (.int .i64 (n : Int)) := hHeld
      have HWd : Hid (WkAt w5.drew gw gp (.slice A1 o.atoms.length c1) (.slice A2 o.funs.length cf) (.slice A3 o.preds.length cp) (.slice A4 o.code.length cc) P) := Lib.hid ⟨HW5.out.wk, HW5.out.pl⟩
      have HXd := Lib.hid HX5.out.drew
      have HFd := Lib.hid HF5.out.drew
      have hszd : w5.drew.heap.size = w5.heap.size := rfl
      generalize w5.drew = w6 at hHeld HWd HXd HFd hszd ⊢
      refine tkP (i := 0) (v := ?_) rfl (fun _ _ _ h => h) (Or.inl ⟨by kernel_rfl, ?_⟩) ?_
      rotate_left
      · intro w hSw
        try dsimp only at hSw
        go_simp
        try with_reducible rfl
      try simp only [List.getElem_toArray, List.getElem_cons_zero, List.getElem_cons_succ, Act.put, List.setIfInBounds_toArray, List.set_cons_zero, List.set_cons_succ]
      refine tkP (i := 1) (v := ?_) rfl (fun _ _ _ h => h) (Or.inl ⟨by kernel_rfl, ?_⟩) ?_
      rotate_left
      · intro w hSw
        try dsimp only at hSw
        go_simp
        try with_reducible rfl
      try simp only [List.getElem_toArray, List.getElem_cons_zero, List.getElem_cons_succ, Act.put, List.setIfInBounds_toArray, List.set_cons_zero, List.set_cons_succ]
      refine tkS (i := 2) (v := ?_) rfl (fun _ _ _ h => h) (Or.inl ⟨by kernel_rfl, ?_⟩) hHeld ?_
      rotate_left
      · intro w hSw
        try dsimp only at hSw
        obtain ⟨h1, h2⟩ := hSw
        go_simp
        try with_reducible rfl
      try simp only [List.getElem_toArray, List.getElem_cons_zero, List.getElem_cons_succ, Act.put, List.setIfInBounds_toArray, List.set_cons_zero, List.set_cons_succ]
      refine tkP (i := 3) (v := ?_) rfl (fun _ _ _ h => h) (Or.inl ⟨by kernel_rfl, ?_⟩) ?_
      rotate_left
      · intro w hSw
        try dsimp only at hSw
        go_simp
        try with_reducible rfl
      try simp only [List.getElem_toArray, List.getElem_cons_zero, List.getElem_cons_succ, Act.put, List.setIfInBounds_toArray, List.set_cons_zero, List.set_cons_succ]
      refine tkS (i := 4) (v := ?_) rfl (fun _ _ _ h => h) (Or.inl ⟨by kernel_rfl, ?_⟩) hHeld ?_
      rotate_left
      · intro w hSw
        try dsimp only at hSw
        obtain ⟨h1, h2⟩ := hSw
        go_simp
        try with_reducible rfl
      try simp only [List.getElem_toArray, List.getElem_cons_zero, List.getElem_cons_succ, Act.put, List.setIfInBounds_toArray, List.set_cons_zero, List.set_cons_succ]
      refine wpAnyT_ready (rs := [5]) (by kernel_rfl) (by simp) ?_
      refine AllT.cons (o := _) rfl (fun K hK => ?_) AllT.nil
      go_simp
      go_at_call 54; refine (HEN.out w6).mono ?_; rintro e1 w7 ⟨rfl, hb7⟩
      have HW7 := Lib.hid (HWd.out.fr hb7)
      have HX7 := Lib.hid (HXd.out.below hb7 HXd.out.lt)
      have HF7 := Lib.hid (HFd.out.trans (Fr.of_below hb7))
      clear hb7
      refine hK.out _ _ (fun _ => ?_) (fun hHeld2 => ?_)
      · exact ⟨HX7.out.cell 0, HX7.out.cell 1⟩
      replace hHeld := hHeld2 (by decide)
      clear hHeld2 hK K
      try simp only [List.getElem_toArray, List.getElem_cons_zero, List.getElem_cons_succ, Act.put, List.setIfInBounds_toArray, List.set_cons_zero, List.set_cons_succ]
      refine wpAnyT_ready (rs := [6]) (by kernel_rfl) (by simp) ?_
      refine AllT.cons (o := _) rfl (fun K hK => ?_) AllT.nil
      go_simp
      go_at_call 53; refine (HCM.out w7 HW7.out).mono ?_; rintro e1 w8 ⟨rfl, hf8, hp8⟩
      have HW8 := Lib.hid (HW7.out.upd hf8 hp8 (bring_len _ _ _))
      have HX8 := Lib.hid (HX7.out.fr hf8 hg5)
      have HF8 := Lib.hid (HF7.out.trans hf8)
      clear hf8 hp8
      refine hK.out _ _ (fun _ => ?_) (fun hHeld2 => ?_)
      · exact ⟨HX8.out.cell 0, HX8.out.cell 1⟩
      clear hHeld2 hK K
      try simp only [List.getElem_toArray, List.getElem_cons_zero, List.getElem_cons_succ, Act.put, List.setIfInBounds_toArray, List.set_cons_zero, List.set_cons_succ]
      refine wpAnyT_done (by kernel_rfl) (NoPanic.normal ?_) _
      generalize bringV P (n : Int) (stEntry ar.toNat) = P1 at HR HP1 HW8
      clear s0 s1 HX5 HF5 HW5 HWd HXd HFd HX7 HW7 HF7 HCM HEN hHeld
      have E0 : Hid (faultP o L 0 P0 = stepF o ar stop (L.drop (j + 1)) n P1) := Lib.hid HR.out
      have F0 : Hid (Fr (fun k => k = gp) w8 w8) := Lib.hid (Fr.refl _ _)
      go_wp2
      go_loopw [3] (fun av wr3 => ∃ (m : Nat) (Q : List VPl), av = .int .i64 m ∧ (m : Int) ≤ stop ∧ Hid (faultP o L 0 P0 = stepF o ar stop (L.drop (j + 1)) m Q) ∧ Hid (PlW Q ∧ Q.length = o.code.length) ∧ Hid (WkAt wr3 gw gp (.slice A1 o.atoms.length c1) (.slice A2 o.funs.length cf) (.slice A3 o.preds.length cp) (.slice A4 o.code.length cc) Q) ∧ Hid (Fr (fun k => k = gp) w8 wr3)) (fun av _ => (stop - intOf av).toNat)
      case atStart => exact ⟨n, P1, rfl, by omega, E0, HP1, HW8, F0⟩
      obtain ⟨m, Q, rfl, hm, HEm, HQ, HWm, HFm⟩ := hrel
      clear E0 F0
      have HXm := Lib.hid (HX8.out.fr HFm.out hg5)
      have s0 := HXm.out.cell 0
      have s1 := HXm.out.cell 1
      have s2 := HXm.out.cell 2
      by_cases hms : (m : Int) < stop
      case pos =>
        have HFw := Lib.hid ((Fr.of_below HB2.out).trans (HF8.out.trans HFm.out))
        have hps := pass_any HOB.out ar (n : Int) stop hq2 hst2 HWm.out (HVF.out _ HFw.out) HQ.out.1 HQ.out.2 m (by rw [HQ.out.2]; omega)
        have HBADm := Lib.hid (fun h => stepF_bad (o := o) (ar := ar) (L := L.drop (j + 1)) (P := Q) hms h)
        have HGOm := Lib.hid (fun R h => stepF_go (o := o) (ar := ar) (L := L.drop (j + 1)) (P := Q) (Q := R) hms h)
        have HLEN := Lib.hid (fun R (h : passV o ar stop m Q = some R) => pass_len h)
        have HPWK := Lib.hid (fun R (h : passV o ar stop m Q = some R) => pass_keep HOB.out (by omega) hq2 (by rw [HQ.out.2]; omega) trivial HQ.out.1 h)
        obtain ⟨r, hr⟩ : ∃ r, passV o ar stop m Q = r := ⟨_, rfl⟩
        rw [hr] at hps HBADm HGOm HLEN HPWK
        clear hr
        cases r with
        | none =>
          have HPS := Lib.hid hps
          have HR2 := Lib.hid (HEm.out.trans (HBADm.out rfl))
          clear hps HBADm HGOm HEm HLEN HPWK
          go_wp2_with (go_at_call 55; refine HPS.out.mono ?_; rintro e1 w9 ⟨hf9, rfl⟩; have HF9 := Lib.hid hf9; clear hf9)
          go_ret
          exact ⟨L, HLP.out, HLS.out, HFw.out.trans HF9.out, by rw [HR2.out]; rfl⟩
        | some R =>
          have HPS := Lib.hid hps
          have HE2 := Lib.hid (HEm.out.trans (HGOm.out R rfl))
          have hlen := HLEN.out R rfl
          have HPW2 := Lib.hid (HPWK.out R rfl)
          have HQ2 : Hid (PlW R ∧ R.length = o.code.length) := Lib.hid ⟨HPW2.out, by rw [hlen]; exact HQ.out.2⟩
          clear hps HBADm HGOm HEm HLEN HPWK
          go_wp2_with (go_at_call 55; refine HPS.out.mono ?_; rintro e1 w9 ⟨hf9, rfl, hp9⟩; have HF9 := Lib.hid hf9; have HW9 := Lib.hid (HWm.out.upd hf9 hp9 hlen); clear hf9 hp9)
          go_roundw
          case rel => exact ⟨m + 1, R, by go_num, by omega, HE2, HQ2, HW9, Lib.hid (HFm.out.trans HF9.out)⟩
          case measure => simp [intOf]; omega
      case neg =>
      obtain rfl : stop = (m : Int) := by omega
      have HE2 := Lib.hid (HEm.out.trans (stepF_end rfl))
      have HFw := Lib.hid (HF8.out.trans HFm.out)
      clear HEm
      go_wp2
      go_roundw
      case rel => first | exact ⟨j + 1, m, Q, by omega, by go_num, rfl, by omega, HE2, HSORT, HQ, HWm, HFw⟩ | ((repeat apply Exists.intro); exact ⟨⟨j + 1, m, Q, by omega, by go_num, rfl, by omega, HE2, HSORT, HQ, HWm, HFw⟩, rfl, rfl, rfl, rfl⟩)
      case measure => simp [intOf]; omega
  case neg =>
  obtain rfl : j = L.length := by omega
  have HR : Hid (faultP o L 0 P0 = .ok (n, P)) := Lib.hid (by rw [HE.out, List.drop_length]; rfl)
  have HFw := Lib.hid ((Fr.of_below HB2.out).trans HF.out)
  have x3 := HWr.out.wk.cell 3
  clear HE
  by_cases hnc : n < o.code.length
  · have i1 : (n : Int) < (o.code.length : Int) := by omega
    go_wp2
    go_ret
    exact ⟨L, HLP.out, HLS.out, HFw.out, by rw [HR.out]; show (if n < o.code.length then _ else _); rw [if_pos hnc]; rfl⟩
  · have i1 : ¬ (n : Int) < (o.code.length : Int) := by omega
    go_wp2
    go_ret
    exact ⟨L, HLP.out, HLS.out, HFw.out, by rw [HR.out]; show (if n < o.code.length then _ else _); rw [if_neg hnc]; exact ⟨rfl, HWr.out.pl, HP.out.1, HP.out.2⟩⟩

end Go.Proofs.YtlmbiafloiompaaGreatDoor
