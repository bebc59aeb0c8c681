/-
  The document's Program (resolventref09). Conditions: lines of at most 9000 bytes, at most 100000 of them.
-/
import Derived.Test.YtfgnapfodnhppaaGreatDoorJ43
import Derived.StillTailTactics
namespace Go.Proofs.YtfgnapfodnhppaaGreatDoor
open Go Go.RowKit Go.WideShapes Go.ChangeShapes
set_option linter.unusedVariables false
set_option linter.unusedSimpArgs false

theorem rLine_labs {n : Int} {l : List UInt8} {s s' : Rs} (h : rLine n l s = .ok s') (hc : s.ob.code.length ≤ 1024) (hz : ∀ z ∈ s.labs, 0 ≤ z ∧ z ≤ 1025) : ∀ z ∈ s'.labs, 0 ≤ z ∧ z ≤ 1025 := by
  unfold rLine at h
  split at h
  · unfold rPredLine at h
    split at h
    · cases h
    · split at h
      · cases h
      · injection h with h
        subst h
        exact hz
  · split at h
    · unfold rLabelLine at h
      split at h
      · cases h
      · split at h
        · cases h
        · injection h with h
          subst h
          intro z hm
          rcases List.mem_or_eq_of_mem_set hm with hm | rfl
          · exact hz z hm
          · omega
    · unfold rInstrLine at h
      split at h
      · cases h
      · split at h
        · cases h
        · injection h with h
          subst h
          exact hz
theorem rLines_labs : ∀ (L : List (List UInt8)) (k : Nat) (s s' : Rs), rLines k L s = .ok s' → s.ob.code.length ≤ 1024 → (∀ z ∈ s.labs, 0 ≤ z ∧ z ≤ 1025) → ∀ z ∈ s'.labs, 0 ≤ z ∧ z ≤ 1025
  | [], k, s, s', h, _, hz => by
    rw [rLines] at h
    injection h with h
    subst h
    exact hz
  | l :: L, k, s, s', h, hc, hz => by
    rw [rLines] at h
    cases h1 : rLine (k : Int) l s with
    | error e => rw [h1] at h; cases h
    | ok s1 =>
      rw [h1] at h
      simp only at h
      cases hb : bigO s1.ob with
      | true => rw [hb, if_pos rfl] at h; cases h
      | false =>
        rw [hb, if_neg (by decide)] at h
        exact rLines_labs L (k + 1) s1 s' h (big_bd hb).2.2.2 (rLine_labs h1 hc hz)
theorem getD_labs {l : List Int} (h : ∀ z ∈ l, 0 ≤ z ∧ z ≤ 1025) (k : Nat) : 0 ≤ l.getD k 0 ∧ l.getD k 0 ≤ 1025 := by
  rw [List.getD_eq_getElem?_getD]
  cases e : l[k]? with
  | none => simp
  | some z => exact h z (List.mem_of_getElem? e)

set_option maxRecDepth 100000 in
set_option maxHeartbeats 32000000 in
theorem rprogram_any (HLN : LineKeeps) (ls : List ByteArray) (hs : ∀ s ∈ ls, s.size ≤ 9000) (hm : ls.length ≤ 100000) (v : Value) (w : World) (hv : AtomsAt w v ls) :
    Calls Tryz.prog 9 #[v] w (AsmRW w (rAsm (ls.map (·.data.toList)))) := by
  obtain ⟨A, c, rfl⟩ := hv.form
  obtain ⟨L, hL⟩ : ∃ L, ls.map (·.data.toList) = L := ⟨_, rfl⟩
  have hLn : L.length = ls.length := by rw [← hL, List.length_map]
  have HLK : Hid (∀ k (hk : k < ls.length), ls[k].data.toList = L[k]'(by omega)) := Lib.hid (fun k hk => by subst hL; rw [List.getElem_map])
  rw [hL]
  have HV := Lib.hid hv
  have HS := Lib.hid hs
  obtain ⟨r, hr⟩ : ∃ r, rAsm L = r := ⟨_, rfl⟩
  have HR := Lib.hid hr
  rw [hr]
  have HB1 := Lib.hid (alloc_below w (.cells #[.slice none 0 0, .slice none 0 0, .slice none 0 0, .slice none 0 0] 39))
  have HX0 := Lib.hid (Box.new w 39 #[.slice none 0 0, .slice none 0 0, .slice none 0 0, .slice none 0 0])
  obtain ⟨gr, hgr⟩ : ∃ gr, w.heap.size = gr := ⟨_, rfl⟩
  obtain ⟨w0, hw0⟩ : ∃ w0, w.alloc (.cells #[.slice none 0 0, .slice none 0 0, .slice none 0 0, .slice none 0 0] 39) = w0 := ⟨_, rfl⟩
  have HGR := Lib.hid hgr
  clear hs hv hL hr
  go_enter Tryz.func9, Tryz.ntmps9
  go_upto_region 1 with (fail)
  rw [hgr, hw0] at HX0
  rw [hw0] at HB1
  clear hw0 hgr
  go_cut [5] (fun v wc => v = .pointer (some ⟨w0.heap.size, 0, none⟩) ∧ Hid (Box wc w0.heap.size 66 (rcs (.slice none 0 0) (.slice none 0 0) (.slice none 0 0) (.slice none 0 0) (List.replicate 1024 0) (.slice none 0 0) (.slice none 0 0))) ∧ Hid (Below w0.heap.size w0 wc))
  case first =>
    go_wp2
    go_meet
    refine ⟨rfl, Lib.hid ?_, Lib.hid (alloc_below w0 _)⟩
    have h := Box.new w0 66 (rcs (.slice none 0 0) (.slice none 0 0) (.slice none 0 0) (.slice none 0 0) (List.replicate 1024 0) (.slice none 0 0) (.slice none 0 0))
    first
      | exact h
      | (rw [zero9]; exact h)
      | (rw [zero9, rcs_set0, rcs_set1, rcs_set2, rcs_set3]; exact h)
  case rest =>
  obtain ⟨rfl, HBX, HB5⟩ := hcut
  obtain ⟨g, hg⟩ : ∃ g, w0.heap.size = g := ⟨_, rfl⟩
  have HPM0 : Hid (PgM g w wc gr g (.slice none 0 0) (.slice none 0 0) (.slice none 0 0) (.slice none 0 0) (.slice none 0 0) (.slice none 0 0) startRs) := Lib.hid (by
    subst hg
    have h1 := HX0.out.lt
    have h2 := HGR.out
    have h3 := HB1.out.size
    refine ⟨⟨⟨HBX.out, List.length_replicate, World.ownsRow_nil _ _ _ _, World.ownsRow_nil _ _ _ _, World.ownsRow_nil _ _ _ _, World.ownsRow_nil _ _ _ _, Nat.le_refl _⟩, World.ownsRow_nil _ _ _ _, World.ownsRow_nil _ _ _ _⟩, HX0.out.below HB5.out h1, HB1.out.trans (HB5.out.mono h3), h3, ⟨by omega, h1⟩, HB5.out.size⟩)
  have HRN0 := Lib.hid (RnP.start L)
  rw [hg]
  clear hg HBX HB5 HX0 HB1
  go_wp2
  go_loopw [3, 4, 6, 7] (fun _ _ j _ wr => ∃ (k : Nat) (s : Rs) (va vf vp vc vu vl : Value), k ≤ ls.length ∧ j = .int .i64 k ∧ Hid (RnP L k s) ∧ Hid (PgM g w wr gr g va vf vp vc vu vl s)) (fun _ _ j _ _ => ls.length - (intOf j).toNat)
  case atStart => exact ⟨0, startRs, _, _, _, _, _, _, by omega, rfl, HRN0, HPM0⟩
  obtain ⟨k, s, va, vf, vp, vc, vu, vl, hkl, rfl, HRN, HPM⟩ := hrel
  clear HRN0 HPM0
  by_cases hlt : k < ls.length
  case pos =>
    as_aux_lemma =>
    obtain ⟨b, off, rfl, hb, hc⟩ := atomCell HV.out k hlt
    have d0 := (HPM.out.below.cell (p := ⟨b, off + k, none⟩) hb).trans hc
    have hbd := HRN.out
    have HT := Lib.hid (HLN _ _ _ _ _ _ _ _ _ _ HPM.out.rm HPM.out.bs (by have := hbd.ob; have := hbd.used; omega) (by have := hbd.lines; omega) (k : Int) ls[k] (HS.out _ (List.getElem_mem hlt)))
    rw [HLK.out k hlt] at HT
    generalize ls[k] = x at d0 HT
    have hkL : k < L.length := by omega
    have HE1 := Lib.hid (fun cc (h : rLine (k : Int) L[k] s = .error cc) => HRN.out.err hkL h)
    have HE2 := Lib.hid (fun s' (h : rLine (k : Int) L[k] s = .ok s') hb => HRN.out.big hkL h hb)
    have HE3 := Lib.hid (fun s' (h : rLine (k : Int) L[k] s = .ok s') hb => HRN.out.ok hkL h hb)
    clear hbd hc
    generalize hls : rLine (k : Int) L[k] s = res at HT HE1 HE2 HE3
    cases res with
    | error cc =>
      have hcc := rLine_err hls
      have HX : Hid (r = (emptyOb, cc, (k : Int))) := Lib.hid (HR.out.symm.trans (HE1.out cc rfl))
      clear hls HE1 HE2 HE3
      unfold RLineW at HT
      simp only at HT
      have e1 : (cc == 0) = false := by rw [beq_eq_false_iff_ne]; omega
      have e2 : (cc != 0) = true := by rw [bne_iff_ne]; omega
      clear hcc
      go_wp2_with (go_at_call 21; refine HT.out.mono ?_; rintro e w3 ⟨rfl, hb3⟩; obtain ⟨hx3, hbb⟩ := HPM.out.err hb3; have HB3 := Lib.hid hx3; have HBB := Lib.hid hbb; clear hb3 hx3 hbb; have b0 := HB3.out.cell 0; have z0 := HB3.out.frozen 0; have b1 := HB3.out.cell 1; have z1 := HB3.out.frozen 1; have b2 := HB3.out.cell 2; have z2 := HB3.out.frozen 2; have b3 := HB3.out.cell 3; have z3 := HB3.out.frozen 3)
      refine ret_store4y (x := .int .i64 cc) (y := .int .i64 k) HB3.out (by intro W c0 c1 c2 c3; simp [results, Tryz.results9, go_sem, c0, c1, c2, c3]) ?_
      intro W hW hF
      exact asmRW_err HX.out (HBB.out.trans (hF.below HBB.out.size (fun k hk => by have := HGR.out; omega)))
    | ok s2 =>
      unfold RLineW at HT
      simp only at HT
      cases hbg : bigO s2.ob with
      | true =>
        have HX : Hid (r = (emptyOb, 2, (k : Int))) := Lib.hid (HR.out.symm.trans (HE2.out s2 rfl hbg))
        clear hls HE1 HE2 HE3
        go_wp2_with (first
          | (go_at_call 21; refine HT.out.mono ?_; rintro e w3 ⟨va', vf', vp', vc', vu', vl', rfl, hm3, hb3⟩; have HF3 := Lib.hid (rfull9_any hm3.t); rw [hbg] at HF3; obtain ⟨hx3, hbb⟩ := HPM.out.err hb3; have HB3 := Lib.hid hx3; have HBB := Lib.hid hbb; clear hb3 hx3 hbb hm3; have b0 := HB3.out.cell 0; have z0 := HB3.out.frozen 0; have b1 := HB3.out.cell 1; have z1 := HB3.out.frozen 1; have b2 := HB3.out.cell 2; have z2 := HB3.out.frozen 2; have b3 := HB3.out.cell 3; have z3 := HB3.out.frozen 3)
          | (go_at_call 22; refine HF3.out.mono ?_; rintro e w4 ⟨rfl, rfl⟩))
        refine ret_store4y (x := .int .i64 2) (y := .int .i64 k) HB3.out (by intro W c0 c1 c2 c3; simp [results, Tryz.results9, go_sem, c0, c1, c2, c3]) ?_
        intro W hW hF
        exact asmRW_err HX.out (HBB.out.trans (hF.below HBB.out.size (fun k hk => by have := HGR.out; omega)))
      | false =>
        have HRN2 := Lib.hid (HE3.out s2 rfl hbg)
        clear hls HE1 HE2 HE3
        go_wp2_with (first
          | (go_at_call 21; refine HT.out.mono ?_; rintro e w3 ⟨va', vf', vp', vc', vu', vl', rfl, hm3, hb3⟩; have HF3 := Lib.hid (rfull9_any hm3.t); rw [hbg] at HF3; have HPM3 := Lib.hid (HPM.out.line hm3 hb3); clear hb3 hm3)
          | (go_at_call 22; refine HF3.out.mono ?_; rintro e w4 ⟨rfl, rfl⟩))
        go_roundw
        case rel => exact ⟨k + 1, s2, va', vf', vp', vc', vu', vl', by omega, by go_num, HRN2, HPM3⟩
        case measure => simp [intOf]; omega
  case neg =>
  obtain rfl : k = ls.length := by omega
  have hdn : rLines 0 L startRs = .ok s := by
    have h := HRN.out
    rw [← hLn] at h
    exact h.done
  have HQ0 := Lib.hid (RqP.start hdn)
  have HOK := Lib.hid (rs_ok hdn)
  have HLV := Lib.hid (fun k => getD_labs (rLines_labs L 0 startRs s hdn (Nat.zero_le _) (fun z hz => by
    rw [show z = 0 from List.eq_of_mem_replicate (show z ∈ List.replicate 1024 (0 : Int) from hz)]
    omega)) k)
  have hbo := HRN.out.ob
  have HBD : Hid (s.ob.preds.length ≤ 64 ∧ s.ob.code.length ≤ 1024 ∧ s.used.length ≤ 400000 ∧ s.lines.length ≤ 100000) := Lib.hid ⟨hbo.2.2.1, hbo.2.2.2, by have := HRN.out.used; omega, by have := HRN.out.lines; omega⟩
  obtain ⟨A3, c3, hvp, _⟩ := own_form HPM.out.rm.t.rp
  obtain ⟨A4, c4, hvc, _⟩ := own_form HPM.out.rm.t.rc
  obtain ⟨A5, c5, hvu, _⟩ := own_form HPM.out.rm.ru
  obtain ⟨A6, c6, hvl, _⟩ := own_form HPM.out.rm.rl
  subst hvp hvc hvu hvl
  have q3 := HPM.out.rm.t.cells.2.2.2
  clear hdn hbo HRN HS HV HLK
  go_wp2
  go_loopw [3, 4, 9, 10, 11, 12, 13, 14, 15] (fun _ _ j _ _ _ _ _ _ wr => ∃ (i : Nat), i ≤ ls.length ∧ j = .int .i64 i ∧ Hid (RqP L s i) ∧ Hid (PgM g w wr gr g va vf (.slice A3 s.ob.preds.length c3) (.slice A4 s.ob.code.length c4) (.slice A5 s.used.length c5) (.slice A6 s.lines.length c6) s)) (fun _ _ j _ _ _ _ _ _ _ => ls.length - (intOf j).toNat)
  case atStart => exact ⟨0, by omega, rfl, HQ0, HPM⟩
  obtain ⟨i, hil, rfl, HQ, HPM2⟩ := hrel
  clear HQ0 HPM q3
  by_cases hilt : i < ls.length
  case pos =>
    have HU0 : Hid (((s.used.take 0).any fun u => u.2.2 == (i : Int) && usedBad s u) = false) := Lib.hid (by simp)
    have hiL : i < L.length := by omega
    have HHU := Lib.hid (fun h => HQ.out.hitU hiL h)
    have HHL := Lib.hid (fun h1 h2 => HQ.out.hitL hiL h1 h2)
    have HHN := Lib.hid (fun h1 h2 => HQ.out.next hiL h1 h2)
    clear HQ
    go_wp2
    go_loopw [3, 4, 10, 11, 12] (fun _ _ j _ _ wr => ∃ (k : Nat), k ≤ s.used.length ∧ j = .int .i64 k ∧ Hid (((s.used.take k).any fun u => u.2.2 == (i : Int) && usedBad s u) = false) ∧ Hid (PgM g w wr gr g va vf (.slice A3 s.ob.preds.length c3) (.slice A4 s.ob.code.length c4) (.slice A5 s.used.length c5) (.slice A6 s.lines.length c6) s)) (fun _ _ j _ _ _ => s.used.length - (intOf j).toNat)
    case atStart => exact ⟨0, by omega, rfl, HU0, HPM2⟩
    obtain ⟨k, hkl, rfl, HUK, HPM3⟩ := hrel
    clear HU0 HPM2
    have k28 := (HPM3.out.rm.t.box.cell 1028).trans (rcs_u HPM3.out.rm.t.len)
    by_cases hlt : k < s.used.length
    case pos =>
      as_aux_lemma =>
      obtain ⟨b5, rfl, hb5, u0, u1, u2⟩ := HPM3.out.rm.usedAt k hlt
      have hok := HOK.out.used _ (List.getElem_mem hlt)
      have HST := Lib.hid (used_any (s := s) (i : Int) hlt)
      have HHI := Lib.hid (used_hit (s := s) (i : Int) hlt)
      have hbad : usedBad s s.used[k] = decide (labAt s s.used[k] = 0 ∨ (s.ob.code.length : Int) < labAt s s.used[k]) := rfl
      have hla : labAt s s.used[k] = s.labs.getD (argAt s.ob s.used[k].1 s.used[k].2.1).toNat 0 := rfl
      obtain ⟨N1, hN1⟩ := Int.eq_ofNat_of_zero_le hok.1
      obtain ⟨N2, hN2⟩ := Int.eq_ofNat_of_zero_le hok.2.2.1
      obtain ⟨N3, hN3⟩ := Int.eq_ofNat_of_zero_le hok.2.2.2.2.1
      have hN1l : N1 < s.ob.code.length := by omega
      have hN2l : N2 < 4 := by omega
      have hN3l : N3 < 1024 := by omega
      have harg : (argOf (s.ob.code.getD N1 (0, 0, 0, 0, 0))).getD N2 0 = (N3 : Int) := by
        rw [← hN3]
        unfold argAt
        rw [hN1, hN2, Int.toNat_natCast, Int.toNat_natCast]
      rw [hN3, Int.toNat_natCast] at hla
      rw [hN1] at u0
      rw [hN2] at u1
      generalize labAt s s.used[k] = lb at hbad hla
      have HLB := Lib.hid hla
      generalize usedBad s s.used[k] = ub at hbad HST HHI
      generalize s.used[k].2.2 = y2 at u2 HST HHI
      have hu4 := HBD.out.2.2.1
      have j1 : (k : Int) < (s.used.length : Int) := by omega
      have j2 : (0 : Int) ≤ (k : Int) := by omega
      clear hok hN1 hN2 hN3 hla
      have HPM4 := Lib.hid (HPM3.out.goes (alloc_below wr (.cells #[.int .i64 N1, .int .i64 N2, .int .i64 y2] 68)))
      have HX4 := Lib.hid (Box.new wr 68 #[.int .i64 N1, .int .i64 N2, .int .i64 y2])
      by_cases hy : y2 = (i : Int)
      case neg =>
        have e1 : (y2 != (i : Int)) = true := by rw [bne_iff_ne]; exact hy
        have HUK2 : Hid (((s.used.take (k + 1)).any fun u => u.2.2 == (i : Int) && usedBad s u) = false) := Lib.hid (by
          rw [HST.out, HUK.out, Bool.false_or, show (y2 == (i : Int)) = false by rw [beq_eq_false_iff_ne]; exact hy]
          rfl)
        clear hy hbad HLB
        go_wp2
        go_roundw
        case rel => exact ⟨k + 1, by omega, by go_num, HUK2, HPM4⟩
        case measure => simp [intOf]; omega
      case pos =>
      have e1 : (y2 != (i : Int)) = false := by rw [bne_eq_false_iff_eq]; exact hy
      have HST2 : Hid (((s.used.take (k + 1)).any fun u => u.2.2 == (i : Int) && usedBad s u) = ub) := Lib.hid (by
        rw [HST.out, HUK.out, Bool.false_or, show (y2 == (i : Int)) = true by rw [beq_iff_eq]; exact hy, Bool.true_and])
      have HHI2 : Hid (ub = true → badU s (i : Int) = true) := Lib.hid (fun h => HHI.out (by rw [h, show (y2 == (i : Int)) = true by rw [beq_iff_eq]; exact hy]; rfl))
      clear hy HST HHI HUK
      obtain ⟨w4, hw4⟩ : ∃ w4, wr.alloc (.cells #[.int .i64 N1, .int .i64 N2, .int .i64 y2] 68) = w4 := ⟨_, rfl⟩
      obtain ⟨g4, hg4⟩ : ∃ g4, wr.heap.size = g4 := ⟨_, rfl⟩
      rw [hw4] at HPM4 HX4
      rw [hg4] at HX4
      have x0 := HX4.out.cell 0
      have x1 := HX4.out.cell 1
      have x2 := HX4.out.cell 2
      obtain ⟨bc, rfl, _, hbc, m0, _⟩ := HPM4.out.rm.argAt2 N1 N2 hN1l hN2l
      rw [harg] at m0
      have q3 := HPM4.out.rm.t.cells.2.2.2
      have l0 := (HPM4.out.rm.t.box.cell (4 + N3)).trans (rcs_lab N3 (by rw [HPM4.out.rm.t.len]; exact hN3l))
      rw [← HLB.out] at l0
      have j3 : (N1 : Int) < (s.ob.code.length : Int) := by omega
      have j4 : (N2 : Int) < 4 := by omega
      have j5 : (N3 : Int) < 1024 := by omega
      have j6 : (0 : Int) ≤ (N1 : Int) := by omega
      have j7 : (0 : Int) ≤ (N2 : Int) := by omega
      have j8 : (0 : Int) ≤ (N3 : Int) := by omega
      go_upto_region 19 with (fail)
      clear hw4 hg4
      go_quiet (fail)
      go_upto_region 20 with (fail)
      have HPM5 := Lib.hid (HPM4.out.goes (show Below w4.heap.size w4 (w4.drewN nq) from ⟨rfl, rfl, rfl, Nat.le_refl _, fun _ _ => rfl⟩))
      obtain ⟨w5, hw5⟩ : ∃ w5, w4.drewN nq = w5 := ⟨_, rfl⟩
      rw [hw5] at HPM5 ⊢
      clear x0 x1 x2 m0 q3 l0 HX4 HPM3 HPM4 u0 u1 u2 k28 hb5 hbc hw5
      have HUB := Lib.hid hbad
      clear hbad
      go_cut [100] (fun t wc => t = .bool ub ∧ wc = w5)
      case first =>
        by_cases hz : lb = 0
        · have hu : ub = true := by rw [HUB.out]; exact decide_eq_true (.inl hz)
          have ez : (lb == 0) = true := by rw [beq_iff_eq]; exact hz
          clear hz
          go_wp2
          go_meet
          exact ⟨by rw [hu], rfl⟩
        · by_cases h2 : (s.ob.code.length : Int) < lb
          · have hu : ub = true := by rw [HUB.out]; exact decide_eq_true (.inr h2)
            have ez : (lb == 0) = false := by rw [beq_eq_false_iff_ne]; exact hz
            clear hz
            go_wp2
            go_meet
            exact ⟨by rw [hu], rfl⟩
          · have hu : ub = false := by rw [HUB.out]; exact decide_eq_false (by omega)
            have ez : (lb == 0) = false := by rw [beq_eq_false_iff_ne]; exact hz
            clear hz
            go_wp2
            go_meet
            exact ⟨by rw [hu], rfl⟩
      case rest =>
      obtain ⟨rfl, hwc5⟩ := hcut
      subst wc
      cases hub : ub with
      | true =>
        have HX : Hid (r = (emptyOb, 10, (i : Int))) := Lib.hid (HR.out.symm.trans (HHU.out (HHI2.out hub)))
        have HB3 := Lib.hid HPM5.out.rb
        have HBB := Lib.hid HPM5.out.below
        have b0 := HB3.out.cell 0
        have z0 := HB3.out.frozen 0
        have b1 := HB3.out.cell 1
        have z1 := HB3.out.frozen 1
        have b2 := HB3.out.cell 2
        have z2 := HB3.out.frozen 2
        have b3 := HB3.out.cell 3
        have z3 := HB3.out.frozen 3
        clear hub HST2 HHI2
        go_wp2
        refine ret_store4y (x := .int .i64 10) (y := .int .i64 i) HB3.out (by intro W c0 c1 c2 c3; simp [results, Tryz.results9, go_sem, c0, c1, c2, c3]) ?_
        intro W hW hF
        exact asmRW_err HX.out (HBB.out.trans (hF.below HBB.out.size (fun k hk => by have := HGR.out; omega)))
      | false =>
        have HUK2 : Hid (((s.used.take (k + 1)).any fun u => u.2.2 == (i : Int) && usedBad s u) = false) := Lib.hid (by rw [HST2.out, hub])
        clear hub HST2 HHI2
        go_wp2
        go_roundw
        case rel =>
          first
            | exact ⟨k + 1, by omega, by go_num, HUK2, HPM5⟩
            | (repeat apply Exists.intro
               exact ⟨⟨k + 1, by omega, by go_num, HUK2, HPM5⟩, rfl⟩)
        case measure => simp [intOf]; omega
    case neg =>
    obtain rfl : k = s.used.length := by omega
    have HUF : Hid (badU s (i : Int) = false) := Lib.hid (by
      have h := HUK.out
      rw [List.take_length] at h
      exact h)
    have HL0 : Hid (((List.range 0).any fun k => (s.lines.getD k (0, 0)).2 == (i : Int) && lineBad s k) = false) := Lib.hid rfl
    clear HUK HHU
    go_wp2
    go_loopw [3, 4, 13, 14, 15] (fun _ _ j _ _ wr => ∃ (k : Nat), k ≤ s.lines.length ∧ j = .int .i64 k ∧ Hid (((List.range k).any fun k => (s.lines.getD k (0, 0)).2 == (i : Int) && lineBad s k) = false) ∧ Hid (PgM g w wr gr g va vf (.slice A3 s.ob.preds.length c3) (.slice A4 s.ob.code.length c4) (.slice A5 s.used.length c5) (.slice A6 s.lines.length c6) s)) (fun _ _ j _ _ _ => s.lines.length - (intOf j).toNat)
    case atStart => exact ⟨0, by omega, rfl, HL0, HPM3⟩
    obtain ⟨k, hkl, rfl, HLK, HPM4⟩ := hrel
    clear HL0 HPM3
    have k29 := (HPM4.out.rm.t.box.cell 1029).trans (rcs_l HPM4.out.rm.t.len)
    have hu4 := HBD.out.2.2.2
    by_cases hlt : k < s.lines.length
    case pos =>
      as_aux_lemma =>
      obtain ⟨b6, rfl, hb6, u0, u1⟩ := HPM4.out.rm.lineAt2 k hlt
      have hok := HOK.out.lines _ (List.getElem_mem hlt)
      have HST := Lib.hid (line_any (s := s) (i : Int) k)
      have HHI := Lib.hid (line_hit (s := s) (i : Int) hlt)
      have hgd : s.lines.getD k (0, 0) = s.lines[k] := by
        rw [List.getD_eq_getElem?_getD, List.getElem?_eq_getElem hlt]
        rfl
      have hbad : lineBad s k = decide ((s.ob.code.length : Int) ≤ entK s.ob (s.lines.getD k (0, 0)).1 ∨ (k + 1 < s.lines.length ∧ entK s.ob (s.lines.getD (k + 1) (0, 0)).1 = entK s.ob (s.lines.getD k (0, 0)).1)) := rfl
      rw [hgd] at hbad HST HHI
      obtain ⟨N1, hN1⟩ := Int.eq_ofNat_of_zero_le hok.1
      have hN1l : N1 < s.ob.preds.length := by omega
      rw [hN1] at u0 hbad
      generalize s.lines[k].2 = y2 at u1 HST HHI
      generalize lineBad s k = ub at hbad HST HHI
      have j1 : (k : Int) < (s.lines.length : Int) := by omega
      have j2 : (0 : Int) ≤ (k : Int) := by omega
      clear hok hN1 hgd
      have HPM5 := Lib.hid (HPM4.out.goes (alloc_below wr (.cells #[.int .i64 N1, .int .i64 y2] 72)))
      have HX4 := Lib.hid (Box.new wr 72 #[.int .i64 N1, .int .i64 y2])
      by_cases hy : y2 = (i : Int)
      case neg =>
        have e1 : (y2 != (i : Int)) = true := by rw [bne_iff_ne]; exact hy
        have HLK2 : Hid (((List.range (k + 1)).any fun k => (s.lines.getD k (0, 0)).2 == (i : Int) && lineBad s k) = false) := Lib.hid (by
          rw [HST.out, HLK.out, Bool.false_or, show (y2 == (i : Int)) = false by rw [beq_eq_false_iff_ne]; exact hy]
          rfl)
        clear hy hbad
        go_wp2
        go_roundw
        case rel => exact ⟨k + 1, by omega, by go_num, HLK2, HPM5⟩
        case measure => simp [intOf]; omega
      case pos =>
      have e1 : (y2 != (i : Int)) = false := by rw [bne_eq_false_iff_eq]; exact hy
      have HST2 : Hid (((List.range (k + 1)).any fun k => (s.lines.getD k (0, 0)).2 == (i : Int) && lineBad s k) = ub) := Lib.hid (by
        rw [HST.out, HLK.out, Bool.false_or, show (y2 == (i : Int)) = true by rw [beq_iff_eq]; exact hy, Bool.true_and])
      have HHI2 : Hid (ub = true → badL s (i : Int) = true) := Lib.hid (fun h => HHI.out (by rw [h, show (y2 == (i : Int)) = true by rw [beq_iff_eq]; exact hy]; rfl))
      clear hy HST HHI HLK
      obtain ⟨w4, hw4⟩ : ∃ w4, wr.alloc (.cells #[.int .i64 N1, .int .i64 y2] 72) = w4 := ⟨_, rfl⟩
      obtain ⟨g4, hg4⟩ : ∃ g4, wr.heap.size = g4 := ⟨_, rfl⟩
      rw [hw4] at HPM5 HX4
      rw [hg4] at HX4
      have x0 := HX4.out.cell 0
      have x1 := HX4.out.cell 1
      obtain ⟨bp, rfl, hbp, m0⟩ := HPM5.out.rm.entAt2 N1 hN1l
      have q2 := HPM5.out.rm.t.cells.2.2.1
      have k30 := (HPM5.out.rm.t.box.cell 1029).trans (rcs_l HPM5.out.rm.t.len)
      have j3 : (N1 : Int) < (s.ob.preds.length : Int) := by omega
      have j6 : (0 : Int) ≤ (N1 : Int) := by omega
      obtain ⟨ev, hev⟩ : ∃ ev, entK s.ob (N1 : Int) = ev := ⟨_, rfl⟩
      rw [hev] at m0 hbad
      go_upto_region 27 with (fail)
      clear hw4 hg4
      go_quiet (fail)
      go_upto_region 28 with (fail)
      have HPM6 := Lib.hid (HPM5.out.goes (show Below w4.heap.size w4 (w4.drewN nq) from ⟨rfl, rfl, rfl, Nat.le_refl _, fun _ _ => rfl⟩))
      obtain ⟨w5, hw5⟩ : ∃ w5, w4.drewN nq = w5 := ⟨_, rfl⟩
      rw [hw5] at HPM6 ⊢
      clear x0 x1 m0 q2 k30 k29 HX4 HPM4 HPM5 u0 u1 hb6 hbp hw5
      have HUB := Lib.hid hbad
      clear hbad
      have q2 := HPM6.out.rm.t.cells.2.2.1
      have k30 := (HPM6.out.rm.t.box.cell 1029).trans (rcs_l HPM6.out.rm.t.len)
      have j7 : IntKind.i64.wrap ((k : Int) + 1) = (k : Int) + 1 := IntWalk.i64_in _ (by omega)
      have j8 : (0 : Int) ≤ (k : Int) + 1 := by omega
      go_cut [166] (fun t wc => t = .bool ub ∧ ∃ n, wc = w5.drewN n)
      case first =>
        by_cases h1 : (s.ob.code.length : Int) ≤ ev
        case pos =>
          have hu : ub = true := by rw [HUB.out]; exact decide_eq_true (.inl h1)
          clear q2 k30
          go_quiet (fail)
          go_wp2
          go_meet
          exact ⟨by rw [hu], _, rfl⟩
        case neg =>
        have d1 : decide ((s.ob.code.length : Int) ≤ ev) = false := decide_eq_false h1
        by_cases h2 : k + 1 < s.lines.length
        case neg =>
          have hu : ub = false := by rw [HUB.out]; exact decide_eq_false (fun h => by rcases h with h | h; exact h1 h; exact h2 h.1)
          have d2 : decide ((k : Int) + 1 < (s.lines.length : Int)) = false := decide_eq_false (by omega)
          go_quiet (fail)
          go_wp2
          go_meet
          exact ⟨by rw [hu], _, rfl⟩
        case pos =>
        obtain ⟨b7, e7, _, n0, _⟩ := HPM6.out.rm.lineAt2 (k + 1) h2
        have hok2 := HOK.out.lines _ (List.getElem_mem h2)
        obtain ⟨N2, hN2⟩ := Int.eq_ofNat_of_zero_le hok2.1
        have hN2l : N2 < s.ob.preds.length := by omega
        rw [hN2] at n0
        obtain ⟨b8, e8, _, m1⟩ := HPM6.out.rm.entAt2 N2 hN2l
        have hgd2 : (s.lines.getD (k + 1) (0, 0)).1 = (N2 : Int) := by
          rw [List.getD_eq_getElem?_getD, List.getElem?_eq_getElem h2]
          exact hN2
        obtain rfl : b6 = b7 := by simpa using e7
        obtain rfl : bp = b8 := by simpa using e8
        obtain ⟨ev2, hev2⟩ : ∃ ev2, entK s.ob (N2 : Int) = ev2 := ⟨_, rfl⟩
        have h3 : (k : Int) + 1 < (s.lines.length : Int) := by omega
        have j9 : (N2 : Int) < (s.ob.preds.length : Int) := by omega
        have j10 : (0 : Int) ≤ (N2 : Int) := by omega
        rw [hev2] at m1
        have hu0 : ub = decide (ev2 = ev) := by
          rw [HUB.out, hgd2, hev2]
          by_cases h : ev2 = ev
          · rw [decide_eq_true h, decide_eq_true (.inr ⟨h2, h⟩)]
          · rw [decide_eq_false h, decide_eq_false (fun hh => by rcases hh with hh | hh; exact h1 hh; exact h hh.2)]
        clear hok2 hN2 hgd2 hev2 e7 e8
        by_cases h4 : ev2 = ev
        · have hu : ub = true := by rw [hu0]; exact decide_eq_true h4
          have d4 : (ev2 == ev) = true := by rw [beq_iff_eq]; exact h4
          clear h4 hu0
          go_quiet (fail)
          go_wp2
          go_meet
          exact ⟨by rw [hu], _, rfl⟩
        · have hu : ub = false := by rw [hu0]; exact decide_eq_false h4
          have d4 : (ev2 == ev) = false := by rw [beq_eq_false_iff_ne]; exact h4
          clear h4 hu0
          go_quiet (fail)
          go_wp2
          go_meet
          exact ⟨by rw [hu], _, rfl⟩
      case rest =>
      obtain ⟨rfl, n6, hwc6⟩ := hcut
      have HPM7 := Lib.hid (HPM6.out.goes (show Below w5.heap.size w5 (w5.drewN n6) from ⟨rfl, rfl, rfl, Nat.le_refl _, fun _ _ => rfl⟩))
      rw [← hwc6] at HPM7
      clear hwc6 q2 k30 j7 j8 HPM6
      cases hub : ub with
      | true =>
        have HX : Hid (r = (emptyOb, 7, (i : Int))) := Lib.hid (HR.out.symm.trans (HHL.out HUF.out (HHI2.out hub)))
        have HB3 := Lib.hid HPM7.out.rb
        have HBB := Lib.hid HPM7.out.below
        have b0 := HB3.out.cell 0
        have z0 := HB3.out.frozen 0
        have b1 := HB3.out.cell 1
        have z1 := HB3.out.frozen 1
        have b2 := HB3.out.cell 2
        have z2 := HB3.out.frozen 2
        have b3 := HB3.out.cell 3
        have z3 := HB3.out.frozen 3
        clear hub HST2 HHI2
        go_wp2
        refine ret_store4y (x := .int .i64 7) (y := .int .i64 i) HB3.out (by intro W c0 c1 c2 c3; simp [results, Tryz.results9, go_sem, c0, c1, c2, c3]) ?_
        intro W hW hF
        exact asmRW_err HX.out (HBB.out.trans (hF.below HBB.out.size (fun k hk => by have := HGR.out; omega)))
      | false =>
        have HLK2 : Hid (((List.range (k + 1)).any fun k => (s.lines.getD k (0, 0)).2 == (i : Int) && lineBad s k) = false) := Lib.hid (by rw [HST2.out, hub])
        clear hub HST2 HHI2
        go_wp2
        go_roundw
        case rel =>
          first
            | exact ⟨k + 1, by omega, by go_num, HLK2, HPM7⟩
            | (repeat apply Exists.intro
               exact ⟨⟨k + 1, by omega, by go_num, HLK2, HPM7⟩, rfl⟩)
        case measure => simp [intOf]; omega
    case neg =>
    obtain rfl : k = s.lines.length := by omega
    have HLF : Hid (badL s (i : Int) = false) := HLK
    have HQ2 := Lib.hid (HHN.out HUF.out HLF.out)
    clear HLK HHL HHN HUF HLF
    go_wp2
    go_roundw
    case rel =>
      first
        | exact ⟨i + 1, by omega, by go_num, HQ2, HPM4⟩
        | (repeat apply Exists.intro
           exact ⟨⟨i + 1, by omega, by go_num, HQ2, HPM4⟩, rfl⟩)
    case measure => simp [intOf]; omega
  case neg =>
  obtain rfl : i = ls.length := by omega
  have HX : Hid (r = ({ s.ob with code := rPlace s.labs s.used s.ob.code }, 0, -1)) := Lib.hid (by
    have h := HQ.out
    rw [← hLn] at h
    exact HR.out.symm.trans h.done)
  have HC0 : Hid (s.ob.code = rPlace s.labs (s.used.take 0) s.ob.code) := Lib.hid rfl
  clear HQ
  go_wp2
  go_loopw [16, 17] (fun j _ wr => ∃ (k : Nat) (C : List Ins), k ≤ s.used.length ∧ j = .int .i64 k ∧ Hid (C = rPlace s.labs (s.used.take k) s.ob.code) ∧ Hid (C.length = s.ob.code.length) ∧ Hid (PgM g w wr gr g va vf (.slice A3 s.ob.preds.length c3) (.slice A4 C.length c4) (.slice A5 s.used.length c5) (.slice A6 s.lines.length c6) { s with ob := { s.ob with code := C } })) (fun j _ _ => s.used.length - (intOf j).toNat)
  case atStart => exact ⟨0, s.ob.code, by omega, rfl, HC0, Lib.hid rfl, HPM2⟩
  obtain ⟨k, C, hkl, rfl, HC, HCL, HPM3⟩ := hrel
  clear HC0 HPM2
  have k28 := (HPM3.out.rm.t.box.cell 1028).trans (rcs_u HPM3.out.rm.t.len)
  have hu4 := HBD.out.2.2.1
  by_cases hlt : k < s.used.length
  case pos =>
    as_aux_lemma =>
    obtain ⟨b5, rfl, hb5, u0, u1, u2⟩ := Rm.usedAt (s := { s with ob := { s.ob with code := C } }) HPM3.out.rm k hlt
    simp only at u0 u1 u2
    have hok := HOK.out.used _ (List.getElem_mem hlt)
    obtain ⟨hst, hat⟩ := place_step HOK.out hlt
    have hla : labAt s s.used[k] = s.labs.getD (argAt s.ob s.used[k].1 s.used[k].2.1).toNat 0 := rfl
    obtain ⟨N1, hN1⟩ := Int.eq_ofNat_of_zero_le hok.1
    obtain ⟨N2, hN2⟩ := Int.eq_ofNat_of_zero_le hok.2.2.1
    obtain ⟨N3, hN3⟩ := Int.eq_ofNat_of_zero_le hok.2.2.2.2.1
    have hN1l : N1 < C.length := by have := HCL.out; omega
    have hN2l : N2 < 4 := by omega
    have hN3l : N3 < 1024 := by omega
    rw [← HC.out, hN3, hN1, hN2, Int.toNat_natCast, Int.toNat_natCast] at hat
    rw [← HC.out, hN1, hN2, Int.toNat_natCast, Int.toNat_natCast] at hst
    rw [hN3, Int.toNat_natCast] at hla
    rw [hN1] at u0
    rw [hN2] at u1
    generalize labAt s s.used[k] = lb at hst hla
    have HLB := Lib.hid hla
    have HST := Lib.hid hst
    have hlv := HLV.out N3
    rw [← hla] at hlv
    generalize s.used[k].2.2 = y2 at u2
    have j1 : (k : Int) < (s.used.length : Int) := by omega
    have j2 : (0 : Int) ≤ (k : Int) := by omega
    clear hok hN1 hN2 hN3 hla hst
    have HPM4 := Lib.hid (HPM3.out.goes (alloc_below wr (.cells #[.int .i64 N1, .int .i64 N2, .int .i64 y2] 68)))
    have HX4 := Lib.hid (Box.new wr 68 #[.int .i64 N1, .int .i64 N2, .int .i64 y2])
    obtain ⟨w4, hw4⟩ : ∃ w4, wr.alloc (.cells #[.int .i64 N1, .int .i64 N2, .int .i64 y2] 68) = w4 := ⟨_, rfl⟩
    obtain ⟨g4, hg4⟩ : ∃ g4, wr.heap.size = g4 := ⟨_, rfl⟩
    rw [hw4] at HPM4 HX4
    rw [hg4] at HX4
    have x0 := HX4.out.cell 0
    have x1 := HX4.out.cell 1
    have x2 := HX4.out.cell 2
    obtain ⟨bc, rfl, hgbc, hbc, m0, mz⟩ := Rm.argAt2 (s := { s with ob := { s.ob with code := C } }) HPM4.out.rm N1 N2 hN1l hN2l
    simp only at m0
    rw [hat] at m0
    have q3 := HPM4.out.rm.t.cells.2.2.2
    have l0 := (HPM4.out.rm.t.box.cell (4 + N3)).trans (rcs_lab N3 (by rw [HPM4.out.rm.t.len]; exact hN3l))
    rw [← HLB.out] at l0
    have j3 : (N1 : Int) < (C.length : Int) := by omega
    have j4 : (N2 : Int) < 4 := by omega
    have j5 : (N3 : Int) < 1024 := by omega
    have j6 : (0 : Int) ≤ (N1 : Int) := by omega
    have j7 : (0 : Int) ≤ (N2 : Int) := by omega
    have j8 : (0 : Int) ≤ (N3 : Int) := by omega
    have j9 : IntKind.i64.wrap (lb - 1) = lb - 1 := IntWalk.i64_in _ (by omega)
    have HPM5 : Hid (∀ n : Nat, PgM g w ((w4.drewN n).setCell ⟨bc, N1 * 5 + 1 + N2, none⟩ (.int .i64 (lb - 1))) gr g va vf (.slice A3 s.ob.preds.length c3) (.slice (some ⟨bc, 0, none⟩) C.length c4) (.slice (some ⟨b5, 0, none⟩) s.used.length c5) (.slice A6 s.lines.length c6) { s with ob := { s.ob with code := C.set N1 (setArg (C.getD N1 (0, 0, 0, 0, 0)) N2 (lb - 1)) } }) := Lib.hid (fun n => PgM.set (s := { s with ob := { s.ob with code := C } }) (HPM4.out.goes (show Below w4.heap.size w4 (w4.drewN n) from ⟨rfl, rfl, rfl, Nat.le_refl _, fun _ _ => rfl⟩)) hN1l hN2l)
    clear hat hlv
    go_upto_region 34 with (fail)
    clear hw4 hg4
    go_still_tail 31, (by kernel_rfl)
    change wpList _ _ _ _ _ w4.drew
    have HPM6 : Hid (PgM g w (w4.drew.setCell ⟨bc, N1 * 5 + 1 + N2, none⟩ (.int .i64 (lb - 1))) gr g va vf (.slice A3 s.ob.preds.length c3) (.slice (some ⟨bc, 0, none⟩) C.length c4) (.slice (some ⟨b5, 0, none⟩) s.used.length c5) (.slice A6 s.lines.length c6) { s with ob := { s.ob with code := C.set N1 (setArg (C.getD N1 (0, 0, 0, 0, 0)) N2 (lb - 1)) } }) := Lib.hid (HPM5.out 1)
    have mz2 : w4.drew.frozen? ⟨bc, N1 * 5 + 1 + N2, none⟩ = false := mz
    have m2 : w4.drew.cell? ⟨bc, N1 * 5 + 1 + N2, none⟩ = some (.int .i64 (N3 : Int)) := m0
    generalize w4.drew = w5 at HPM6 mz2 m2 ⊢
    clear x0 x1 x2 m0 mz q3 l0 HPM3 HPM4 HPM5 HX4 u0 u1 u2 k28
    have HC2 : Hid (C.set N1 (setArg (C.getD N1 (0, 0, 0, 0, 0)) N2 (lb - 1)) = rPlace s.labs (s.used.take (k + 1)) s.ob.code) := Lib.hid HST.out.symm
    have HCL2 : Hid ((C.set N1 (setArg (C.getD N1 (0, 0, 0, 0, 0)) N2 (lb - 1))).length = s.ob.code.length) := Lib.hid (by rw [List.length_set]; exact HCL.out)
    have hce : (C.set N1 (setArg (C.getD N1 (0, 0, 0, 0, 0)) N2 (lb - 1))).length = C.length := List.length_set
    generalize C.set N1 (setArg (C.getD N1 (0, 0, 0, 0, 0)) N2 (lb - 1)) = C2 at HPM6 HC2 HCL2 hce
    rw [← hce] at HPM6
    clear hce
    go_wp2
    go_roundw
    case rel =>
      first
        | exact ⟨k + 1, C2, by omega, by go_num, HC2, HCL2, HPM6⟩
        | (repeat apply Exists.intro
           exact ⟨⟨k + 1, C2, by omega, by go_num, HC2, HCL2, HPM6⟩, rfl⟩)
    case measure => simp [intOf]; omega
  case neg =>
  obtain rfl : k = s.used.length := by omega
  obtain ⟨A1, c1, hva, _⟩ := own_form HPM3.out.rm.t.ra
  obtain ⟨A2, c2, hvf, _⟩ := own_form HPM3.out.rm.t.rf
  subst hva hvf
  obtain ⟨q0, q1, q2, q3⟩ := HPM3.out.rm.t.cells
  have HB3 := Lib.hid HPM3.out.rb
  have HBB := Lib.hid HPM3.out.below
  have b0 := HB3.out.cell 0
  have z0 := HB3.out.frozen 0
  have b1 := HB3.out.cell 1
  have z1 := HB3.out.frozen 1
  have b2 := HB3.out.cell 2
  have z2 := HB3.out.frozen 2
  have b3 := HB3.out.cell 3
  have z3 := HB3.out.frozen 3
  have HXC : Hid (r = ({ s.ob with code := C }, 0, -1)) := Lib.hid (by
    have h := HC.out
    rw [List.take_length] at h
    rw [HX.out, h])
  have HGG : Hid (gr < g) := Lib.hid HPM3.out.gr.2
  clear HC HX
  go_wp2
  refine ret_store4y (x := .int .i64 0) (y := .int .i64 (-1)) HB3.out (by intro W c0 c1 c2 c3; simp [results, Tryz.results9, go_sem, c0, c1, c2, c3]) ?_
  intro W hW hF
  refine asmRW_ok HXC.out ?_ (HBB.out.trans (hF.below HBB.out.size (fun k hk => by have := HGR.out; omega)))
  have hg := HGG.out
  have h3 := HPM3.out.rm.t
  exact ⟨CellsAt.of_own (own_fr h3.ra hF (fun k hk e => by have := (own_ge h3.ra hk).1; omega)) (by decide), CellsAt.of_own (own_fr h3.rf hF (fun k hk e => by have := (own_ge h3.rf hk).1; omega)) (by decide), CellsAt.of_own (own_fr h3.rp hF (fun k hk e => by have := (own_ge h3.rp hk).1; omega)) (by decide), CellsAt.of_own (own_fr h3.rc hF (fun k hk e => by have := (own_ge h3.rc hk).1; omega)) (by decide)⟩

end Go.Proofs.YtfgnapfodnhppaaGreatDoor
