/-
  Layer 9's law: AsmBack. Condition: a list no longer than a list may be.
-/
import Derived.Test.YtfgnapfodnhppaaGreatDoorJ45
import Derived.Test.YtfgnapfodnhppaaGreatDoorJ51
import Derived.Test.YtfgnapfodnhppaaGreatDoorJ44
import Derived.Test.YtfgnapfodnhppaaGreatDoorJ53
namespace Go.Proofs.YtfgnapfodnhppaaGreatDoor
open Go Go.RowKit Go.WideShapes Go.ChangeShapes
set_option linter.unusedVariables false
set_option linter.unusedSimpArgs false

theorem fewB_of {l : List ByteArray} (h : fewB l = true) : l.length ≤ 200 ∧ ∀ s ∈ l, s.size ≤ 200 := by
  unfold fewB at h
  rw [Bool.and_eq_true, List.all_eq_true] at h
  exact ⟨of_decide_eq_true h.1, fun s hs => of_decide_eq_true (h.2 s hs)⟩
theorem atoms_strC {w : World} {v : Value} {us : List (List UInt8)} (h : CellsAt w v us.length (strC us)) : AtomsAt w v (us.map bs) := by
  unfold AtomsAt
  rw [List.length_map, List.map_map]
  exact h
theorem bs_back (us : List (List UInt8)) : (us.map bs).map (·.data.toList) = us := by
  rw [List.map_map]
  conv => rhs; rw [← List.map_id us]
  exact List.map_congr_left fun a _ => rfl

set_option maxRecDepth 100000 in
set_option maxHeartbeats 16000000 in
theorem asmBack_any (l : List ByteArray) (hm : l.length ≤ 9223372036854775807) (v : Value) (w : World) {B : Nat} (hp : LaidC B w) (hv : AtomsAt w v l) :
    Calls Tryz.prog 5 #[v] w fun e w' => e = .returned (.bool true) ∧ Below w.heap.size w w' := by
  have HTO := Lib.hid (fun w hp => told9_any pred_keeps (B := B) w hp)
  have HFW := Lib.hid (fun w hv => few9_any l hm v w hv)
  have HP := Lib.hid hp
  have HV := Lib.hid hv
  cases hf : fewB l with
  | false =>
    rw [hf] at HFW
    clear hp hv hf
    go_enter Tryz.func5, Tryz.ntmps5
    go_wp2_with (first
      | (go_at_call 6; refine (HFW.out _ HV.out).mono ?_; rintro e w2 ⟨rfl, rfl⟩)
      | (go_at_call 7; refine (HTO.out _ HP.out).mono ?_; rintro e w2 ⟨rfl, hb2⟩; have HB2 := Lib.hid hb2; clear hb2))
    go_ret
    exact ⟨rfl, HB2.out⟩
  | true =>
  rw [hf] at HFW
  obtain ⟨hl1, hl2⟩ := fewB_of hf
  have HPR := Lib.hid (fun w hp hv => program_any pred_keeps l (fun s hs => by have := hl2 s hs; omega) (by omega) v (B := B) w hp hv)
  have HCK := Lib.hid (asm_check (l.map (·.data.toList)))
  have HOW := Lib.hid (asm_own2 (l.map (·.data.toList)))
  have HBK := Lib.hid (asm_back (l.map (·.data.toList)))
  unfold AsmW at HPR
  generalize asmOf (l.map (·.data.toList)) = res at HPR HCK HOW HBK
  obtain ⟨o, c, n⟩ := res
  simp only at HPR HCK HOW HBK
  clear hp hv hf hl1 hl2
  by_cases hc : c = 0
  case neg =>
    have e1 : (c != 0) = true := by rw [bne_iff_ne]; exact hc
    clear hc HCK HOW HBK
    go_enter Tryz.func5, Tryz.ntmps5
    go_upto_region 4 with (first
      | (go_at_call 6; refine (HFW.out _ HV.out).mono ?_; rintro e w2 ⟨rfl, rfl⟩)
      | (go_at_call 8; refine (HPR.out _ HP.out HV.out).mono ?_; rintro e w2 ⟨va, vf, vp, vc, rfl, ho2, hb2⟩; obtain ⟨A1, c1, hva⟩ := ho2.at_.atoms.form; obtain ⟨A2, c2, hvf⟩ := ho2.at_.funs.form; obtain ⟨A3, c3, hvp⟩ := ho2.at_.preds.form; obtain ⟨A4, c4, hvc⟩ := ho2.at_.code.form; subst hva hvf hvp hvc; have HB2 := Lib.hid hb2; clear ho2 hb2))
    have HB3 := Lib.hid (HB2.out.alloc HB2.out.size (.cells #[.slice A1 o.atoms.length c1, .slice A2 o.funs.length c2, .slice A3 o.preds.length c3, .slice A4 o.code.length c4] 31))
    obtain ⟨w3, hw3⟩ : ∃ w3, w2.alloc (.cells #[.slice A1 o.atoms.length c1, .slice A2 o.funs.length c2, .slice A3 o.preds.length c3, .slice A4 o.code.length c4] 31) = w3 := ⟨_, rfl⟩
    rw [hw3] at HB3 ⊢
    clear hw3
    go_upto_region 5 with (go_at_call 7; refine (HTO.out _ (HP.out.up HB3.out)).mono ?_; rintro e w4 ⟨rfl, hb4⟩; have HB4 := Lib.hid (HB3.out.trans (hb4.mono HB3.out.size)); clear hb4)
    go_wp2_with (go_at_call 7; refine (HTO.out _ (HP.out.up HB4.out)).mono ?_; rintro e w5 ⟨rfl, hb5⟩; have HB5 := Lib.hid (HB4.out.trans (hb5.mono HB4.out.size)); clear hb5)
    go_ret
    exact ⟨rfl, HB5.out⟩
  case pos =>
  subst hc
  have hM := (HOW.out rfl).1
  have hW := may_wf hM
  have hck := HCK.out
  obtain ⟨hu1, hu2⟩ := lines_few hM hck
  have hbk := HBK.out rfl
  have HLI := Lib.hid (fun va vf vp vc w hp hv => lines_any o hW va vf vp vc w (B := B) hp hv)
  unfold LinesW at HLI
  have HSA := Lib.hid (fun va vf vp vc ua uf up uc w hv hu => psame_any o o hW va vf vp vc ua uf up uc w hv hu)
  rw [decide_eq_true (rfl : o = o)] at HSA
  have HST := Lib.hid (fun v1 v2 w h1 h2 => strings_any (linesOf o) (by omega) v1 v2 w h1 h2)
  have HPR2 := Lib.hid (fun v w hp hv => program_any pred_keeps ((linesOf o).map bs) (fun s hs => by
    obtain ⟨u, hu, rfl⟩ := List.mem_map.1 hs
    have := hu2 u hu
    rw [bs_size]
    omega) (by rw [List.length_map]; exact hu1) v (B := B) w hp hv)
  rw [bs_back, hbk] at HPR2
  unfold AsmW at HPR2
  simp only at HPR2
  generalize linesOf o = us at *
  clear hM hW hck hu1 hu2 hbk HOW HBK HCK
  go_enter Tryz.func5, Tryz.ntmps5
  go_upto_region 4 with (first
    | (go_at_call 6; refine (HFW.out _ HV.out).mono ?_; rintro e w2 ⟨rfl, rfl⟩)
    | (go_at_call 8; refine (HPR.out _ HP.out HV.out).mono ?_; rintro e w2 ⟨va, vf, vp, vc, rfl, ho2, hb2⟩; obtain ⟨A1, c1, hva⟩ := ho2.at_.atoms.form; obtain ⟨A2, c2, hvf⟩ := ho2.at_.funs.form; obtain ⟨A3, c3, hvp⟩ := ho2.at_.preds.form; obtain ⟨A4, c4, hvc⟩ := ho2.at_.code.form; subst hva hvf hvp hvc; have HO2 := Lib.hid ho2.at_; have HB2 := Lib.hid hb2; clear ho2 hb2))
  have HB3 := Lib.hid (HB2.out.alloc HB2.out.size (.cells #[.slice A1 o.atoms.length c1, .slice A2 o.funs.length c2, .slice A3 o.preds.length c3, .slice A4 o.code.length c4] 31))
  have HX3 := Lib.hid (Box.new w2 31 #[.slice A1 o.atoms.length c1, .slice A2 o.funs.length c2, .slice A3 o.preds.length c3, .slice A4 o.code.length c4])
  have HO3 := Lib.hid (HO2.out.below (alloc_below w2 (.cells #[.slice A1 o.atoms.length c1, .slice A2 o.funs.length c2, .slice A3 o.preds.length c3, .slice A4 o.code.length c4] 31)))
  obtain ⟨w3, hw3⟩ : ∃ w3, w2.alloc (.cells #[.slice A1 o.atoms.length c1, .slice A2 o.funs.length c2, .slice A3 o.preds.length c3, .slice A4 o.code.length c4] 31) = w3 := ⟨_, rfl⟩
  obtain ⟨g3, hg3⟩ : ∃ g3, w2.heap.size = g3 := ⟨_, rfl⟩
  rw [hw3] at HB3 HX3 HO3 ⊢
  rw [hg3] at HX3 ⊢
  clear hw3 hg3 HO2
  go_upto_region 7 with (first
    | (go_at_call 7; refine (HTO.out _ (HP.out.up HB3.out)).mono ?_; rintro e w4 ⟨rfl, hb4⟩; have HB4 := Lib.hid (HB3.out.trans (hb4.mono HB3.out.size)); have HX4 := Lib.hid (HX3.out.below hb4 HX3.out.lt); have HO4 := Lib.hid (HO3.out.below hb4); have x0 := HX4.out.cell 0; have x1 := HX4.out.cell 1; have x2 := HX4.out.cell 2; have x3 := HX4.out.cell 3; clear hb4)
    | (go_at_call 14; refine (HLI.out _ _ _ _ _ (HP.out.up HB4.out) HO4.out).mono ?_; rintro e w5 ⟨vl, rfl, hrow, hb5⟩; have HR5 := Lib.hid (CellsAt.of_own hrow (by decide)); have HB5 := Lib.hid (HB4.out.trans (hb5.mono HB4.out.size)); have HX5 := Lib.hid (HX4.out.below hb5 HX4.out.lt); have HO5 := Lib.hid (HO4.out.below hb5); clear hb5 hrow))
  clear x0 x1 x2 x3
  go_upto_region 8 with (go_at_call 8; refine (HPR2.out _ _ (HP.out.up HB5.out) (atoms_strC HR5.out)).mono ?_; rintro e w6 ⟨ua, uf, up, uc, rfl, ho6, hb6⟩; obtain ⟨D1, d1, hua⟩ := ho6.at_.atoms.form; obtain ⟨D2, d2, huf⟩ := ho6.at_.funs.form; obtain ⟨D3, d3, hup⟩ := ho6.at_.preds.form; obtain ⟨D4, d4, huc⟩ := ho6.at_.code.form; subst hua huf hup huc; have HU6 := Lib.hid ho6.at_; have HB6 := Lib.hid (HB5.out.trans (hb6.mono HB5.out.size)); have HX6 := Lib.hid (HX5.out.below hb6 HX5.out.lt); have HO6 := Lib.hid (HO5.out.below hb6); have HR6 := Lib.hid (HR5.out.below hb6); clear ho6 hb6)
  have hb7 := alloc_below w6 (.cells #[.slice D1 o.atoms.length d1, .slice D2 o.funs.length d2, .slice D3 o.preds.length d3, .slice D4 o.code.length d4] 31)
  have HB7 := Lib.hid (HB6.out.trans (hb7.mono HB6.out.size))
  have HY7 := Lib.hid (Box.new w6 31 #[.slice D1 o.atoms.length d1, .slice D2 o.funs.length d2, .slice D3 o.preds.length d3, .slice D4 o.code.length d4])
  have HX7 := Lib.hid (HX6.out.below hb7 HX6.out.lt)
  have HO7 := Lib.hid (HO6.out.below hb7)
  have HU7 := Lib.hid (HU6.out.below hb7)
  have HR7 := Lib.hid (HR6.out.below hb7)
  obtain ⟨w7, hw7⟩ : ∃ w7, w6.alloc (.cells #[.slice D1 o.atoms.length d1, .slice D2 o.funs.length d2, .slice D3 o.preds.length d3, .slice D4 o.code.length d4] 31) = w7 := ⟨_, rfl⟩
  obtain ⟨g7, hg7⟩ : ∃ g7, w6.heap.size = g7 := ⟨_, rfl⟩
  rw [hw7] at HB7 HY7 HX7 HO7 HU7 HR7 ⊢
  rw [hg7] at HY7 ⊢
  clear hw7 hg7 hb7
  have y0 := HY7.out.cell 0
  have y1 := HY7.out.cell 1
  have y2 := HY7.out.cell 2
  have y3 := HY7.out.cell 3
  go_wp2_with (first
    | (go_at_call 14; refine (HLI.out _ _ _ _ _ (HP.out.up HB7.out) HU7.out).mono ?_; rintro e w8 ⟨vm, rfl, hrow, hb8⟩; have HM8 := Lib.hid (CellsAt.of_own hrow (by decide)); have HB8 := Lib.hid (HB7.out.trans (hb8.mono HB7.out.size)); have HX8 := Lib.hid (HX7.out.below hb8 HX7.out.lt); have HY8 := Lib.hid (HY7.out.below hb8 HY7.out.lt); have HO8 := Lib.hid (HO7.out.below hb8); have HU8 := Lib.hid (HU7.out.below hb8); have HR8 := Lib.hid (HR7.out.below hb8); clear hb8 hrow)
    | (go_at_call 13; refine (HST.out _ _ _ HM8.out HR8.out).mono ?_; rintro e w9 ⟨rfl, hb9⟩; have HB9 := Lib.hid (HB8.out.trans (hb9.mono HB8.out.size)); have HX9 := Lib.hid (HX8.out.below hb9 HX8.out.lt); have HY9 := Lib.hid (HY8.out.below hb9 HY8.out.lt); have HO9 := Lib.hid (HO8.out.below hb9); have HU9 := Lib.hid (HU8.out.below hb9); have x0 := HX9.out.cell 0; have x1 := HX9.out.cell 1; have x2 := HX9.out.cell 2; have x3 := HX9.out.cell 3; have z0 := HY9.out.cell 0; have z1 := HY9.out.cell 1; have z2 := HY9.out.cell 2; have z3 := HY9.out.cell 3; clear hb9)
    | (go_at_call 17; refine (HSA.out _ _ _ _ _ _ _ _ _ HU9.out HO9.out).mono ?_; rintro e w10 ⟨rfl, hb10⟩; have HB10 := Lib.hid (HB9.out.trans (hb10.mono HB9.out.size)); clear hb10))
  go_ret
  exact ⟨rfl, HB10.out⟩

end Go.Proofs.YtfgnapfodnhppaaGreatDoor
