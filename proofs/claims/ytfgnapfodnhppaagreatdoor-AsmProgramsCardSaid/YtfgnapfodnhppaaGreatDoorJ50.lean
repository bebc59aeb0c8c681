/-
  Layer 9's law: AsmPrograms. Condition: a list no longer than a list may be.
-/
import Derived.Test.YtfgnapfodnhppaaGreatDoorJ44
import Derived.Test.YtfgnapfodnhppaaGreatDoorJ46
import Derived.Test.YtfgnapfodnhppaaGreatDoorJ32
import Derived.Test.YtfgnapfodnhppaaGreatDoorJ47
import Derived.Test.YtfgnapfodnhppaaGreatDoorJ49
namespace Go.Proofs.YtfgnapfodnhppaaGreatDoor
open Go Go.RowKit Go.WideShapes Go.ChangeShapes
set_option linter.unusedVariables false
set_option linter.unusedSimpArgs false

theorem own_nil0 {w : World} {base : Nat} {e : TypeId} {size n : Nat} {v : Value} {xs : List Value} (h : w.ownsRow base e size v n xs) : ∀ k c, v = .slice none k c → c = 0 := by
  intro k c hv
  rcases h.2 with ⟨rfl, _⟩ | ⟨g, cap, cur, rfl, _⟩
  · injection hv with _ _ h3
    exact h3.symm
  · injection hv with h1
    cases h1

set_option maxRecDepth 100000 in
set_option maxHeartbeats 16000000 in
theorem asmPrograms_any (l : List ByteArray) (hm : l.length ≤ 9223372036854775807) (v : Value) (w : World) {B : Nat} (hp : LaidC B w) (hv : AtomsAt w v l) :
    Calls Tryz.prog 3 #[v] w fun e w' => e = .returned (.bool true) ∧ Below w.heap.size w w' := by
  have HTO := Lib.hid (fun w hp => told9_any pred_keeps (B := B) w hp)
  have HFW := Lib.hid (fun w hv => few9_any l hm v w hv)
  have HP := Lib.hid hp
  have HV := Lib.hid hv
  cases hf : fewB l with
  | false =>
    rw [hf] at HFW
    clear hp hv hf
    go_enter Tryz.func3, Tryz.ntmps3
    go_wp2_with (first
      | (go_at_call 6; refine (HFW.out _ HV.out).mono ?_; rintro e w2 ⟨rfl, rfl⟩)
      | (go_at_call 7; refine (HTO.out _ HP.out).mono ?_; rintro e w2 ⟨rfl, hb2⟩; have HB2 := Lib.hid hb2; clear hb2))
    go_ret
    exact ⟨rfl, HB2.out⟩
  | true =>
  rw [hf] at HFW
  obtain ⟨hl1, hl2⟩ := fewB_of hf
  have HPR := Lib.hid (fun w hp hv => program_any pred_keeps l (fun s hs => by have := hl2 s hs; omega) (by omega) v (B := B) w hp hv)
  have HRP := Lib.hid (fun w hv => rprogram_any line_keeps l (fun s hs => by have := hl2 s hs; omega) (by omega) v w hv)
  rw [rAsm_eq] at HRP
  have HCK := Lib.hid (asm_check (l.map (·.data.toList)))
  have HWF := Lib.hid (asm_wf (l.map (·.data.toList)))
  unfold AsmW at HPR
  unfold AsmRW at HRP
  generalize asmOf (l.map (·.data.toList)) = res at HPR HRP HCK HWF
  obtain ⟨o, c, n⟩ := res
  simp only at HPR HRP HCK HWF
  have HFR := Lib.hid (fun va vf vp vc w hv hn => fromOb_any o HWF.out va vf vp vc w hv hn)
  have HSM := Lib.hid (fun va vf vp vc ua uf up uc w hv hu => rsame_any o o HWF.out va vf vp vc ua uf up uc w hv hu)
  rw [decide_eq_true (rfl : o = o)] at HSM
  have HCC := Lib.hid (fun va vf vp vc w hn hv => check_any o HWF.out va vf vp vc w hn hv)
  obtain ⟨ck, hck⟩ : ∃ ck, checkOf o = ck := ⟨_, rfl⟩
  rw [hck] at HCC
  have e4 : (ck == 0) = true := by rw [← hck, HCK.out]; rfl
  clear hck
  clear hp hv hf hl1 hl2
  go_enter Tryz.func3, Tryz.ntmps3
  go_upto_region 4 with (first
    | (go_at_call 6; refine (HFW.out _ HV.out).mono ?_; rintro e w2 ⟨rfl, rfl⟩)
    | (go_at_call 8; refine (HPR.out _ HP.out HV.out).mono ?_; rintro e w2 ⟨va, vf, vp, vc, rfl, ho2, hb2⟩; have HN2 := Lib.hid (own_nil0 ho2.ra); obtain ⟨A1, c1, hva⟩ := ho2.at_.atoms.form; obtain ⟨A2, c2, hvf⟩ := ho2.at_.funs.form; obtain ⟨A3, c3, hvp⟩ := ho2.at_.preds.form; obtain ⟨A4, c4, hvc⟩ := ho2.at_.code.form; subst hva hvf hvp hvc; have HO2 := Lib.hid ho2.at_; have HB2 := Lib.hid hb2; clear ho2 hb2))
  have HB3 := Lib.hid (HB2.out.alloc HB2.out.size (.cells #[.slice A1 o.atoms.length c1, .slice A2 o.funs.length c2, .slice A3 o.preds.length c3, .slice A4 o.code.length c4] 31))
  have HX3 := Lib.hid (Box.new w2 31 #[.slice A1 o.atoms.length c1, .slice A2 o.funs.length c2, .slice A3 o.preds.length c3, .slice A4 o.code.length c4])
  have HO3 := Lib.hid (HO2.out.below (alloc_below w2 (.cells #[.slice A1 o.atoms.length c1, .slice A2 o.funs.length c2, .slice A3 o.preds.length c3, .slice A4 o.code.length c4] 31)))
  obtain ⟨w3, hw3⟩ : ∃ w3, w2.alloc (.cells #[.slice A1 o.atoms.length c1, .slice A2 o.funs.length c2, .slice A3 o.preds.length c3, .slice A4 o.code.length c4] 31) = w3 := ⟨_, rfl⟩
  obtain ⟨g3, hg3⟩ : ∃ g3, w2.heap.size = g3 := ⟨_, rfl⟩
  rw [hw3] at HB3 HX3 HO3
  rw [hg3] at HX3
  have HV3 := Lib.hid (HV.out.below HB3.out)
  go_upto_region 5 with (go_at_call 9; refine (HRP.out _ HV3.out).mono ?_; rintro e w4 ⟨ua, uf, up, uc, rfl, ho4, hb4⟩; obtain ⟨D1, d1, hua⟩ := ho4.atoms.form; obtain ⟨D2, d2, huf⟩ := ho4.funs.form; obtain ⟨D3, d3, hup⟩ := ho4.preds.form; obtain ⟨D4, d4, huc⟩ := ho4.code.form; subst hua huf hup huc; have HU4 := Lib.hid ho4; have HB4 := Lib.hid (HB3.out.trans (hb4.mono HB3.out.size)); have HX4 := Lib.hid (HX3.out.below hb4 HX3.out.lt); have HO4 := Lib.hid (HO3.out.below hb4); clear ho4 hb4)
  clear hw3 hg3
  have hb5 := alloc_below w4 (.cells #[.slice D1 o.atoms.length d1, .slice D2 o.funs.length d2, .slice D3 o.preds.length d3, .slice D4 o.code.length d4] 39)
  have HB5 := Lib.hid (HB4.out.trans (hb5.mono HB4.out.size))
  have HY5 := Lib.hid (Box.new w4 39 #[.slice D1 o.atoms.length d1, .slice D2 o.funs.length d2, .slice D3 o.preds.length d3, .slice D4 o.code.length d4])
  have HX5 := Lib.hid (HX4.out.below hb5 HX4.out.lt)
  have HO5 := Lib.hid (HO4.out.below hb5)
  have HU5 := Lib.hid (HU4.out.below hb5)
  obtain ⟨w5, hw5⟩ : ∃ w5, w4.alloc (.cells #[.slice D1 o.atoms.length d1, .slice D2 o.funs.length d2, .slice D3 o.preds.length d3, .slice D4 o.code.length d4] 39) = w5 := ⟨_, rfl⟩
  obtain ⟨g5, hg5⟩ : ∃ g5, w4.heap.size = g5 := ⟨_, rfl⟩
  rw [hw5] at HB5 HY5 HX5 HO5 HU5
  rw [hg5] at HY5
  rw [hw5, hg5]
  have HTD := Lib.hid (fun n => HTO.out (w5.drewN n) ((HP.out.up HB5.out).drewN n))
  have y0 := HY5.out.cell 0
  have y1 := HY5.out.cell 1
  have y2 := HY5.out.cell 2
  have y3 := HY5.out.cell 3
  have x0 := HX5.out.cell 0
  have x1 := HX5.out.cell 1
  have x2 := HX5.out.cell 2
  have x3 := HX5.out.cell 3
  have e1 : (c == c) = true := by simp
  have e2 : (n == n) = true := by simp
  clear hb5 hw5 hg5 HB2 HB3 HB4 HX3 HX4 HO2 HO3 HO4 HU4 HV3 HFW HPR HRP HCK HWF
  by_cases hc : c = 0
  · have e3 : (c != 0) = false := by rw [bne_eq_false_iff_eq]; exact hc
    clear hc
    go_region_held3 (fun w' => w'.cell? ⟨g3, 0, none⟩ = some (.slice A1 o.atoms.length c1) ∧ w'.cell? ⟨g3, 1, none⟩ = some (.slice A2 o.funs.length c2) ∧ w'.cell? ⟨g3, 2, none⟩ = some (.slice A3 o.preds.length c3) ∧ w'.cell? ⟨g3, 3, none⟩ = some (.slice A4 o.code.length c4) ∧ w'.cell? ⟨g5, 0, none⟩ = some (.slice D1 o.atoms.length d1) ∧ w'.cell? ⟨g5, 1, none⟩ = some (.slice D2 o.funs.length d2) ∧ w'.cell? ⟨g5, 2, none⟩ = some (.slice D3 o.preds.length d3) ∧ w'.cell? ⟨g5, 3, none⟩ = some (.slice D4 o.code.length d4)) (first | exact HS9.out | exact HS8.out | exact HS7.out | exact HS6.out | exact ⟨x0, x1, x2, x3, y0, y1, y2, y3⟩) (first
      | (go_at_call 12; refine (HCC.out _ _ _ _ _ ((HP.out.up HB8.out).names) HO8.out).mono ?_; rintro e w9 ⟨rfl, hb9⟩; have HB9 := Lib.hid (HB8.out.trans (hb9.mono HB8.out.size)); have HX9 := Lib.hid (HX8.out.below hb9 HX8.out.lt); have HY9 := Lib.hid (HY8.out.below hb9 HY8.out.lt); have HS9 := Lib.hid (show _ ∧ _ ∧ _ ∧ _ ∧ _ ∧ _ ∧ _ ∧ _ from ⟨HX9.out.cell 0, HX9.out.cell 1, HX9.out.cell 2, HX9.out.cell 3, HY9.out.cell 0, HY9.out.cell 1, HY9.out.cell 2, HY9.out.cell 3⟩); clear hb9)
      | (go_at_call 10; refine (HSM.out _ _ _ _ _ _ _ _ _ HF7.out HU7.out).mono ?_; rintro e w8 ⟨rfl, hb8⟩; have HB8 := Lib.hid (HB7.out.trans (hb8.mono HB7.out.size)); have HX8 := Lib.hid (HX7.out.below hb8 HX7.out.lt); have HY8 := Lib.hid (HY7.out.below hb8 HY7.out.lt); have HO8 := Lib.hid (HO7.out.below hb8); have HS8 := Lib.hid (show _ ∧ _ ∧ _ ∧ _ ∧ _ ∧ _ ∧ _ ∧ _ from ⟨HX8.out.cell 0, HX8.out.cell 1, HX8.out.cell 2, HX8.out.cell 3, HY8.out.cell 0, HY8.out.cell 1, HY8.out.cell 2, HY8.out.cell 3⟩); clear hb8)
      | (go_at_call 11; refine (HFR.out _ _ _ _ _ HO6.out HN2.out).mono ?_; rintro e w7 ⟨xa, xf, xp, xc, rfl, hf7, hb7, _⟩; have HF7 := Lib.hid hf7; have HB7 := Lib.hid (HB6.out.trans (hb7.mono HB6.out.size)); have HX7 := Lib.hid (HX6.out.below hb7 HX6.out.lt); have HY7 := Lib.hid (HY6.out.below hb7 HY6.out.lt); have HO7 := Lib.hid (HO6.out.below hb7); have HU7 := Lib.hid (HU6.out.below hb7); have HS7 := Lib.hid (show _ ∧ _ ∧ _ ∧ _ ∧ _ ∧ _ ∧ _ ∧ _ from ⟨HX7.out.cell 0, HX7.out.cell 1, HX7.out.cell 2, HX7.out.cell 3, HY7.out.cell 0, HY7.out.cell 1, HY7.out.cell 2, HY7.out.cell 3⟩); clear hb7 hf7)
      | (go_at_call 7; refine (HTD.out _).mono ?_; rintro e w6 ⟨rfl, hb6⟩; have hb6 := show Below w5.heap.size w5 w6 from ⟨hb6.os, hb6.tape, hb6.output, hb6.size, hb6.block⟩; have HB6 := Lib.hid (HB5.out.trans (hb6.mono HB5.out.size)); have HX6 := Lib.hid (HX5.out.below hb6 HX5.out.lt); have HY6 := Lib.hid (HY5.out.below hb6 HY5.out.lt); have HO6 := Lib.hid (HO5.out.below hb6); have HU6 := Lib.hid (HU5.out.below hb6); have HS6 := Lib.hid (show _ ∧ _ ∧ _ ∧ _ ∧ _ ∧ _ ∧ _ ∧ _ from ⟨HX6.out.cell 0, HX6.out.cell 1, HX6.out.cell 2, HX6.out.cell 3, HY6.out.cell 0, HY6.out.cell 1, HY6.out.cell 2, HY6.out.cell 3⟩); clear hb6))
    all_goals
      go_wp2
      go_ret
      exact ⟨rfl, HB9.out⟩
  · have e3 : (c != 0) = true := by rw [bne_iff_ne]; exact hc
    clear hc
    refine wp_region_held_drew (S := (fun w' => w'.cell? ⟨g3, 0, none⟩ = some (.slice A1 o.atoms.length c1) ∧ w'.cell? ⟨g3, 1, none⟩ = some (.slice A2 o.funs.length c2) ∧ w'.cell? ⟨g3, 2, none⟩ = some (.slice A3 o.preds.length c3) ∧ w'.cell? ⟨g3, 3, none⟩ = some (.slice A4 o.code.length c4) ∧ w'.cell? ⟨g5, 0, none⟩ = some (.slice D1 o.atoms.length d1) ∧ w'.cell? ⟨g5, 1, none⟩ = some (.slice D2 o.funs.length d2) ∧ w'.cell? ⟨g5, 2, none⟩ = some (.slice D3 o.preds.length d3) ∧ w'.cell? ⟨g5, 3, none⟩ = some (.slice D4 o.code.length d4))) (by kernel_rfl) ?_ (fun hHeld => ?_)
    · first | exact HS8.out | exact HS7.out | exact HS6.out | exact ⟨x0, x1, x2, x3, y0, y1, y2, y3⟩
    refine wpAnyH_ready (rs := [0]) (by kernel_rfl) (by simp) ?_
    refine AllReadyH.cons (o := _) rfl (fun K hK => ?_) AllReadyH.nil
    go_simp
    go_at_call 7; refine (HTD.out 1).mono ?_; rintro e w6 ⟨rfl, hb6⟩; have hb6 := show Below w5.heap.size w5 w6 from ⟨hb6.os, hb6.tape, hb6.output, hb6.size, hb6.block⟩; have HB6 := Lib.hid (HB5.out.trans (hb6.mono HB5.out.size)); have HX6 := Lib.hid (HX5.out.below hb6 HX5.out.lt); have HY6 := Lib.hid (HY5.out.below hb6 HY5.out.lt); have HO6 := Lib.hid (HO5.out.below hb6); have HU6 := Lib.hid (HU5.out.below hb6); have HS6 := Lib.hid (show _ ∧ _ ∧ _ ∧ _ ∧ _ ∧ _ ∧ _ ∧ _ from ⟨HX6.out.cell 0, HX6.out.cell 1, HX6.out.cell 2, HX6.out.cell 3, HY6.out.cell 0, HY6.out.cell 1, HY6.out.cell 2, HY6.out.cell 3⟩); clear hb6
    refine hK.out _ _ ?_ (fun hHeld => ?_)
    · first | exact HS8.out | exact HS7.out | exact HS6.out | exact ⟨x0, x1, x2, x3, y0, y1, y2, y3⟩
    clear hK K
    try simp only [List.getElem_toArray, List.getElem_cons_zero, List.getElem_cons_succ, Act.put, List.setIfInBounds_toArray, List.set_cons_zero, List.set_cons_succ]
    refine tkH (i := 1) (v := .bool true) rfl (fun _ _ _ h => h) (Or.inl ⟨by kernel_rfl, fun w' hSw => by kernel_rfl⟩) hHeld ?_
    refine tkH (i := 2) (v := .int .i64 c) rfl (fun _ _ _ h => h) (Or.inl ⟨by kernel_rfl, fun w' hSw => by kernel_rfl⟩) hHeld ?_
    refine tkH (i := 3) (v := .int .i64 c) rfl (fun _ _ _ h => h) (Or.inl ⟨by kernel_rfl, fun w' hSw => by kernel_rfl⟩) hHeld ?_
    try simp only [List.getElem_toArray, List.getElem_cons_zero, List.getElem_cons_succ, Act.put, List.setIfInBounds_toArray, List.set_cons_zero, List.set_cons_succ]
    refine tkH (i := 4) (v := .bool true) rfl (fun _ _ _ h => h) (Or.inl ⟨by kernel_rfl, fun w' hSw => by go_simp⟩) hHeld ?_
    refine tkH (i := 5) (v := .bool true) rfl (fun _ _ _ h => h) (Or.inl ⟨by kernel_rfl, fun w' hSw => by kernel_rfl⟩) hHeld ?_
    refine tkH (i := 6) (v := .bool true) rfl (fun _ _ _ h => h) (Or.inl ⟨by kernel_rfl, fun w' hSw => by kernel_rfl⟩) hHeld ?_
    refine tkH (i := 7) (v := .int .i64 n) rfl (fun _ _ _ h => h) (Or.inl ⟨by kernel_rfl, fun w' hSw => by kernel_rfl⟩) hHeld ?_
    refine tkH (i := 8) (v := .int .i64 n) rfl (fun _ _ _ h => h) (Or.inl ⟨by kernel_rfl, fun w' hSw => by kernel_rfl⟩) hHeld ?_
    try simp only [List.getElem_toArray, List.getElem_cons_zero, List.getElem_cons_succ, Act.put, List.setIfInBounds_toArray, List.set_cons_zero, List.set_cons_succ]
    refine tkH (i := 9) (v := .bool true) rfl (fun _ _ _ h => h) (Or.inl ⟨by kernel_rfl, fun w' hSw => by go_simp⟩) hHeld ?_
    refine tkH (i := 10) (v := .bool true) rfl (fun _ _ _ h => h) (Or.inl ⟨by kernel_rfl, fun w' hSw => by kernel_rfl⟩) hHeld ?_
    refine tkH (i := 11) (v := .bool true) rfl (fun _ _ _ h => h) (Or.inl ⟨by kernel_rfl, fun w' hSw => by kernel_rfl⟩) hHeld ?_
    refine tkH (i := 12) (v := .agg #[.slice A1 o.atoms.length c1, .slice A2 o.funs.length c2, .slice A3 o.preds.length c3, .slice A4 o.code.length c4]) rfl (fun _ _ _ h => h) (Or.inl ⟨by kernel_rfl, fun w' hSw => exec_load rfl (by kernel_rfl) (load_pobj g3 w' ⟨hSw.1, hSw.2.1, hSw.2.2.1, hSw.2.2.2.1⟩)⟩) hHeld ?_
    refine tkH (i := 14) (v := .agg #[.slice D1 o.atoms.length d1, .slice D2 o.funs.length d2, .slice D3 o.preds.length d3, .slice D4 o.code.length d4]) rfl (fun _ _ _ h => h) (Or.inl ⟨by kernel_rfl, fun w' hSw => exec_load rfl (by kernel_rfl) (load_robj g5 w' ⟨hSw.2.2.2.2.1, hSw.2.2.2.2.2.1, hSw.2.2.2.2.2.2.1, hSw.2.2.2.2.2.2.2⟩)⟩) hHeld ?_
    refine wpAnyH_ready (rs := [13]) (by kernel_rfl) (by simp) ?_
    refine AllReadyH.cons (o := _) rfl (fun K hK => ?_) AllReadyH.nil
    refine step_of_call (vs := #[.agg #[.slice A1 o.atoms.length c1, .slice A2 o.funs.length c2, .slice A3 o.preds.length c3, .slice A4 o.code.length c4]]) (by kernel_rfl) (enters_of Tryz.func11 (by kernel_rfl) rfl) _ rfl (by kernel_rfl) ?_
    refine (HFR.out _ _ _ _ _ HO6.out HN2.out).mono ?_; rintro e w7 ⟨xa, xf, xp, xc, rfl, hf7, hb7, _⟩; have HF7 := Lib.hid hf7; have HB7 := Lib.hid (HB6.out.trans (hb7.mono HB6.out.size)); have HX7 := Lib.hid (HX6.out.below hb7 HX6.out.lt); have HY7 := Lib.hid (HY6.out.below hb7 HY6.out.lt); have HU7 := Lib.hid (HU6.out.below hb7); have HS7 := Lib.hid (show _ ∧ _ ∧ _ ∧ _ ∧ _ ∧ _ ∧ _ ∧ _ from ⟨HX7.out.cell 0, HX7.out.cell 1, HX7.out.cell 2, HX7.out.cell 3, HY7.out.cell 0, HY7.out.cell 1, HY7.out.cell 2, HY7.out.cell 3⟩); clear hb7 hf7
    refine ⟨_, rfl, ?_⟩
    refine hK.out _ _ ?_ (fun hHeld => ?_)
    · first | exact HS8.out | exact HS7.out | exact HS6.out | exact ⟨x0, x1, x2, x3, y0, y1, y2, y3⟩
    clear hK K
    try simp only [List.getElem_toArray, List.getElem_cons_zero, List.getElem_cons_succ, Act.put, List.setIfInBounds_toArray, List.set_cons_zero, List.set_cons_succ]
    refine wpAnyH_ready (rs := [15]) (by kernel_rfl) (by simp) ?_
    refine AllReadyH.cons (o := _) rfl (fun K hK => ?_) AllReadyH.nil
    refine step_of_call (vs := #[.agg #[xa, xf, xp, xc], .agg #[.slice D1 o.atoms.length d1, .slice D2 o.funs.length d2, .slice D3 o.preds.length d3, .slice D4 o.code.length d4]]) (by kernel_rfl) (enters_of Tryz.func10 (by kernel_rfl) rfl) _ rfl (by kernel_rfl) ?_
    refine (HSM.out _ _ _ _ _ _ _ _ _ HF7.out HU7.out).mono ?_; rintro e w8 ⟨rfl, hb8⟩; have HB8 := Lib.hid (HB7.out.trans (hb8.mono HB7.out.size)); have HX8 := Lib.hid (HX7.out.below hb8 HX7.out.lt); have HY8 := Lib.hid (HY7.out.below hb8 HY7.out.lt); have HS8 := Lib.hid (show _ ∧ _ ∧ _ ∧ _ ∧ _ ∧ _ ∧ _ ∧ _ from ⟨HX8.out.cell 0, HX8.out.cell 1, HX8.out.cell 2, HX8.out.cell 3, HY8.out.cell 0, HY8.out.cell 1, HY8.out.cell 2, HY8.out.cell 3⟩); clear hb8
    refine ⟨_, rfl, ?_⟩
    refine hK.out _ _ ?_ (fun hHeld => ?_)
    · first | exact HS8.out | exact HS7.out | exact HS6.out | exact ⟨x0, x1, x2, x3, y0, y1, y2, y3⟩
    clear hK K
    try simp only [List.getElem_toArray, List.getElem_cons_zero, List.getElem_cons_succ, Act.put, List.setIfInBounds_toArray, List.set_cons_zero, List.set_cons_succ]
    refine tkH (i := 16) (v := .bool true) rfl (fun _ _ _ h => h) (Or.inl ⟨by kernel_rfl, fun w' hSw => by kernel_rfl⟩) hHeld ?_
    refine tkH (i := 17) (v := .bool true) rfl (fun _ _ _ h => h) (Or.inl ⟨by kernel_rfl, fun w' hSw => by kernel_rfl⟩) hHeld ?_
    refine tkH (i := 18) (v := .int .i64 c) rfl (fun _ _ _ h => h) (Or.inl ⟨by kernel_rfl, fun w' hSw => by kernel_rfl⟩) hHeld ?_
    try simp only [List.getElem_toArray, List.getElem_cons_zero, List.getElem_cons_succ, Act.put, List.setIfInBounds_toArray, List.set_cons_zero, List.set_cons_succ]
    refine tkH (i := 19) (v := .bool true) rfl (fun _ _ _ h => h) (Or.inl ⟨by kernel_rfl, fun w' hSw => by go_simp⟩) hHeld ?_
    refine tkH (i := 20) (v := .bool true) rfl (fun _ _ _ h => h) (Or.inl ⟨by kernel_rfl, fun w' hSw => by kernel_rfl⟩) hHeld ?_
    refine tkH (i := 21) (v := undef) rfl (fun _ _ _ h => h) (Or.inr ⟨by kernel_rfl, rfl⟩) hHeld ?_
    refine tkH (i := 22) (v := undef) rfl (fun _ _ _ h => h) (Or.inr ⟨by kernel_rfl, rfl⟩) hHeld ?_
    refine tkH (i := 23) (v := undef) rfl (fun _ _ _ h => h) (Or.inr ⟨by kernel_rfl, rfl⟩) hHeld ?_
    refine tkH (i := 24) (v := .bool true) rfl (fun _ _ _ h => h) (Or.inl ⟨by kernel_rfl, fun w' hSw => by kernel_rfl⟩) hHeld ?_
    refine tkH (i := 25) (v := .bool true) rfl (fun _ _ _ h => h) (Or.inl ⟨by kernel_rfl, fun w' hSw => by kernel_rfl⟩) hHeld ?_
    refine tkH (i := 26) (v := .bool true) rfl (fun _ _ _ h => h) (Or.inl ⟨by kernel_rfl, fun w' hSw => by kernel_rfl⟩) hHeld ?_
    try simp only [List.getElem_toArray, List.getElem_cons_zero, List.getElem_cons_succ, Act.put, List.setIfInBounds_toArray, List.set_cons_zero, List.set_cons_succ]
    refine wpAnyH_done (by kernel_rfl) ?_ _
    go_wp2
    go_ret
    exact ⟨rfl, HB8.out⟩

end Go.Proofs.YtfgnapfodnhppaaGreatDoor
