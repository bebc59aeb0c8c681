/-
 The program's operand: what an operand of an object's instruction is in the whole. Conditions: the operand is such as the object's tables have, and the whole has their names.
-/
import Derived.Test.YtclkdlegogjnbaaGreatDoorR30
namespace Go.Proofs.YtclkdlegogjnbaaGreatDoor
open Go Go.RowKit Go.WideShapes Go.ChangeShapes
set_option linter.unusedVariables false
set_option linter.unusedSimpArgs false
structure Has (s : Lk) (o : Ob) : Prop where
 atoms : ∀ x ∈ o.atoms, x ∈ s.atoms
 funs : ∀ f ∈ o.funs, f ∈ s.funs
 preds : ∀ p ∈ o.preds, called p ∈ s.preds.map called
def OpdOk (o : Ob) (kind n : Int) : Prop :=
 (kind = 3 → 0 ≤ n ∧ n < o.atoms.length) ∧ (kind = 4 → 0 ≤ n ∧ n < o.funs.length) ∧ (kind = 7 → 0 ≤ n ∧ n < o.preds.length) ∧ (kind = 8 → 0 ≤ n ∧ n ≤ 65535)
set_option maxRecDepth 100000 in
set_option maxHeartbeats 8000000 in
theorem operand_any (w0 : World) (I : WI) (K : WV) (s : Lk) (cd : List Ins) (o : Ob) (ho : ObKeys o) (hh : Has s o) (ua uf up uc : Value) (base kind n : Int) (hb : 0 ≤ base ∧ base ≤ 1000000000) (hn : OpdOk o kind n) (w : World) (hv : ObAt w0 ua uf up uc o) (hk : Wh w0 w I K s cd) :
  Calls Tryz.prog 56 #[.pointer (some ⟨I.g, 0, none⟩), .agg #[ua, uf, up, uc], .int .i64 base, .int .i64 kind, .int .i64 n] w fun e w' => e = .returned (.int .i64 (opdJ ⟨s.atoms, s.funs, s.preds, []⟩ o base kind n)) ∧ Below w.heap.size w w' := by
 obtain ⟨A1, c1, rfl⟩ := CellsAt.form hv.atoms
 obtain ⟨A2, c2, rfl⟩ := CellsAt.form hv.funs
 obtain ⟨A3, c3, rfl⟩ := CellsAt.form hv.preds
 obtain ⟨A4, c4, rfl⟩ := CellsAt.form hv.code
 obtain ⟨r, hr⟩ : ∃ r, opdJ ⟨s.atoms, s.funs, s.preds, []⟩ o base kind n = r := ⟨_, rfl⟩
 rw [hr]
 unfold opdJ at hr
 have hsm := ho.small
 have HK1 := Lib.hid (hk.alloc (.cells #[.slice A1 o.atoms.length c1, .slice A2 o.funs.length c2, .slice A3 o.preds.length c3, .slice A4 o.code.length c4] 39))
 have HB1 := Lib.hid (alloc_below w (.cells #[.slice A1 o.atoms.length c1, .slice A2 o.funs.length c2, .slice A3 o.preds.length c3, .slice A4 o.code.length c4] 39))
 have X1 := Lib.hid (Box.new w 39 #[.slice A1 o.atoms.length c1, .slice A2 o.funs.length c2, .slice A3 o.preds.length c3, .slice A4 o.code.length c4])
 have HV := Lib.hid hv
 have HO := Lib.hid ho
 have HH := Lib.hid hh
 clear hk hv ho hh
 by_cases h3 : kind = 3
 ·subst h3
  obtain ⟨hn0, hn1⟩ := hn.1 rfl
  obtain ⟨k, rfl⟩ := Int.eq_ofNat_of_zero_le hn0
  have hlt : k < o.atoms.length := by omega
  obtain ⟨b, off, rfl, hb0, hc⟩ := atomCell HV.out.atoms k hlt
  have d0 := (HK1.out.r.below.cell (p := ⟨b, off + k, none⟩) hb0).trans hc
  have hxk := HO.out.atoms _ (List.getElem_mem hlt)
  have hin := HH.out.atoms _ (List.getElem_mem hlt)
  have HX : Hid (r = (placeOf s.atoms o.atoms[k] : Int)) := Lib.hid (by
   rw [← hr, if_pos rfl]
   simp [List.getD_eq_getElem?_getD, List.getElem?_eq_getElem hlt])
  have hlk := fun nq => ((HK1.out.drewN nq).r.ma.look keyTS uMapSI o.atoms[k] hxk).2
  rw [plT_yes hin] at hlk
  simp only [Option.getD_some] at hlk
  clear hc hxk hin hr hb0 hn
  generalize o.atoms[k] = x at d0 hlk HX
  generalize (placeOf s.atoms x : Int) = z at hlk HX
  go_enter Tryz.func56, Tryz.ntmps56
  go_upto_region 3 with (fail)
  obtain ⟨w1, hw1⟩ : ∃ w1, w.alloc (.cells #[.slice (some ⟨b, off, none⟩) o.atoms.length c1, .slice A2 o.funs.length c2, .slice A3 o.preds.length c3, .slice A4 o.code.length c4] 39) = w1 := ⟨_, rfl⟩
  rw [hw1] at HK1 HB1 X1 d0 ⊢
  simp only [hw1] at hlk
  obtain ⟨gx, hgx⟩ : ∃ gx, w.heap.size = gx := ⟨_, rfl⟩
  rw [hgx] at X1 ⊢
  have q4 := HK1.out.box.cell 4
  have x0 := X1.out.cell 0
  have i1 : (k : Int) < (o.atoms.length : Int) := by omega
  go_quiet (fail)
  go_wp2
  go_ret
  exact ⟨by rw [HX.out]; rfl, by first | exact bel_drewN HB1.out _ | (rw [← hgx]; exact bel_drewN HB1.out _)⟩
 by_cases h4 : kind = 4
 ·subst h4
  obtain ⟨hn0, hn1⟩ := hn.2.1 rfl
  obtain ⟨k, rfl⟩ := Int.eq_ofNat_of_zero_le hn0
  have hlt : k < o.funs.length := by omega
  obtain ⟨b, off, rfl, hb0, hc0, hc1⟩ := funCell HV.out.funs k hlt
  have d0 := (HK1.out.r.below.cell (p := ⟨b, off + k * 2, none⟩) hb0).trans hc0
  have d1 := (HK1.out.r.below.cell (p := ⟨b, off + k * 2 + 1, none⟩) hb0).trans hc1
  have hxk : okF (o.funs[k].1, o.funs[k].2) := HO.out.funs _ (List.getElem_mem hlt)
  have hin : (o.funs[k].1, o.funs[k].2) ∈ s.funs := HH.out.funs _ (List.getElem_mem hlt)
  have HX : Hid (r = (placeOf s.funs (o.funs[k].1, o.funs[k].2) : Int)) := Lib.hid (by
   rw [← hr, if_neg (by decide), if_pos rfl]
   simp [List.getD_eq_getElem?_getD, List.getElem?_eq_getElem hlt])
  have hlk := fun (W : World) (h : Wh w0 W I K s cd) => (h.r.mf.look keyTC uMapCI (o.funs[k].1, o.funs[k].2) hxk).2
  rw [plT_yes hin] at hlk
  simp only [Option.getD_some] at hlk
  unfold valF at hlk
  clear hc0 hc1 hxk hin hr hb0 hn
  generalize o.funs[k].1 = x at d0 hlk HX
  generalize o.funs[k].2 = m at d1 hlk HX
  generalize (placeOf s.funs (x, m) : Int) = z at hlk HX
  have HLK := Lib.hid hlk
  clear hlk
  go_enter Tryz.func56, Tryz.ntmps56
  go_upto_region 5 with (fail)
  obtain ⟨w1, hw1⟩ : ∃ w1, w.alloc (.cells #[.slice A1 o.atoms.length c1, .slice (some ⟨b, off, none⟩) o.funs.length c2, .slice A3 o.preds.length c3, .slice A4 o.code.length c4] 39) = w1 := ⟨_, rfl⟩
  rw [hw1] at HK1 HB1 X1 d0 d1 ⊢
  obtain ⟨gx, hgx⟩ : ∃ gx, w.heap.size = gx := ⟨_, rfl⟩
  rw [hgx] at X1 ⊢
  have x0 := X1.out.cell 1
  have i1 : (k : Int) < (o.funs.length : Int) := by omega
  have HK2 := Lib.hid (HK1.out.alloc (.cells #[.string x, .int .i64 m] 82))
  have HB2 := Lib.hid (HB1.out.trans ((alloc_below w1 (.cells #[.string x, .int .i64 m] 82)).mono HB1.out.size))
  have Y2 := Lib.hid (Box.new w1 82 #[.string x, .int .i64 m])
  go_upto_region 6 with (fail)
  obtain ⟨w2, hw2⟩ : ∃ w2, w1.alloc (.cells #[.string x, .int .i64 m] 82) = w2 := ⟨_, rfl⟩
  rw [hw2] at HK2 HB2 Y2 ⊢
  obtain ⟨gy, hgy⟩ : ∃ gy, w1.heap.size = gy := ⟨_, rfl⟩
  rw [hgy] at Y2 ⊢
  have hlk := fun nq => HLK.out _ (HK2.out.drewN nq)
  have q5 := HK2.out.box.cell 5
  have y0 := Y2.out.cell 0
  have y1 := Y2.out.cell 1
  clear x0 d0 d1
  go_quiet (fail)
  go_wp2
  go_ret
  exact ⟨by rw [HX.out]; rfl, by first | exact bel_drewN HB2.out _ | (rw [← hgx]; exact bel_drewN HB2.out _)⟩
 by_cases h7 : kind = 7
 ·subst h7
  obtain ⟨hn0, hn1⟩ := hn.2.2.1 rfl
  obtain ⟨k, rfl⟩ := Int.eq_ofNat_of_zero_le hn0
  have hlt : k < o.preds.length := by omega
  obtain ⟨b, off, rfl, hb0, hc0, hc1, hc2⟩ := predCell HV.out.preds k hlt
  have d0 := (HK1.out.r.below.cell (p := ⟨b, off + k * 3, none⟩) hb0).trans hc0
  have d1 := (HK1.out.r.below.cell (p := ⟨b, off + k * 3 + 1, none⟩) hb0).trans hc1
  have d2 := (HK1.out.r.below.cell (p := ⟨b, off + k * 3 + 2, none⟩) hb0).trans hc2
  have hxk : okF (o.preds[k].1, o.preds[k].2.1) := HO.out.preds _ (List.getElem_mem hlt)
  have hin : (o.preds[k].1, o.preds[k].2.1) ∈ s.preds.map called := HH.out.preds _ (List.getElem_mem hlt)
  have HX : Hid (r = (placeOf (s.preds.map called) (o.preds[k].1, o.preds[k].2.1) : Int)) := Lib.hid (by
   rw [← hr, if_neg (by decide), if_neg (by decide), if_pos rfl]
   simp only [Int.toNat_natCast, List.getD_eq_getElem?_getD, List.getElem?_eq_getElem hlt, Option.getD_some]
   rw [findFrom_pl _ _ _ _ hin]
   simp)
  have hlk := fun (W : World) (h : Wh w0 W I K s cd) => (h.r.mp.look keyTC uMapCI (o.preds[k].1, o.preds[k].2.1) hxk).2
  rw [plT_yes hin] at hlk
  simp only [Option.getD_some] at hlk
  unfold valF at hlk
  clear hc0 hc1 hc2 hxk hin hr hb0 hn
  generalize o.preds[k].1 = x at d0 hlk HX
  generalize o.preds[k].2.1 = m at d1 hlk HX
  generalize o.preds[k].2.2 = e at d2
  generalize (placeOf (s.preds.map called) (x, m) : Int) = z at hlk HX
  have HLK := Lib.hid hlk
  clear hlk
  go_enter Tryz.func56, Tryz.ntmps56
  go_upto_region 8 with (fail)
  obtain ⟨w1, hw1⟩ : ∃ w1, w.alloc (.cells #[.slice A1 o.atoms.length c1, .slice A2 o.funs.length c2, .slice (some ⟨b, off, none⟩) o.preds.length c3, .slice A4 o.code.length c4] 39) = w1 := ⟨_, rfl⟩
  rw [hw1] at HK1 HB1 X1 d0 d1 d2 ⊢
  obtain ⟨gx, hgx⟩ : ∃ gx, w.heap.size = gx := ⟨_, rfl⟩
  rw [hgx] at X1 ⊢
  have x0 := X1.out.cell 2
  have i1 : (k : Int) < (o.preds.length : Int) := by omega
  have HK2 := Lib.hid (HK1.out.alloc (.cells #[.string x, .int .i64 m, .int .i64 e] 64))
  have HB2 := Lib.hid (HB1.out.trans ((alloc_below w1 (.cells #[.string x, .int .i64 m, .int .i64 e] 64)).mono HB1.out.size))
  have Y2 := Lib.hid (Box.new w1 64 #[.string x, .int .i64 m, .int .i64 e])
  go_upto_region 9 with (fail)
  obtain ⟨w2, hw2⟩ : ∃ w2, w1.alloc (.cells #[.string x, .int .i64 m, .int .i64 e] 64) = w2 := ⟨_, rfl⟩
  rw [hw2] at HK2 HB2 Y2 ⊢
  obtain ⟨gy, hgy⟩ : ∃ gy, w1.heap.size = gy := ⟨_, rfl⟩
  rw [hgy] at Y2 ⊢
  have hlk := fun nq => HLK.out _ (HK2.out.drewN nq)
  have q5 := HK2.out.box.cell 6
  have y0 := Y2.out.cell 0
  have y1 := Y2.out.cell 1
  clear x0 d0 d1 d2
  go_quiet (fail)
  go_wp2
  go_ret
  exact ⟨by rw [HX.out]; rfl, by first | exact bel_drewN HB2.out _ | (rw [← hgx]; exact bel_drewN HB2.out _)⟩
 have e3 : (kind == 3) = false := by simpa using h3
 have e4 : (kind == 4) = false := by simpa using h4
 have e7 : (kind == 7) = false := by simpa using h7
 rw [if_neg h3, if_neg h4, if_neg h7] at hr
 by_cases h8 : kind = 8
 ·subst h8
  have hn8 := hn.2.2.2 rfl
  rw [if_pos rfl] at hr
  by_cases hw : n = 65535
  ·subst hw
   rw [if_neg (by decide)] at hr
   have HX : Hid (r = 65535) := Lib.hid hr.symm
   clear hr hn h3 h4 h7 e3 e4 e7
   go_enter Tryz.func56, Tryz.ntmps56
   go_wp2
   go_ret
   exact ⟨by rw [HX.out]; rfl, HB1.out⟩
  ·rw [if_pos hw] at hr
   have HX : Hid (r = base + n) := Lib.hid hr.symm
   have e8 : (n != 65535) = true := by rw [bne_iff_ne]; exact hw
   have hwr : wrap64 (base + n) = base + n := by rw [wrap64]; omega
   clear hr hn h3 h4 h7 e3 e4 e7 hw
   go_enter Tryz.func56, Tryz.ntmps56
   go_wp2
   go_ret
   exact ⟨by rw [HX.out]; rfl, HB1.out⟩
 ·rw [if_neg h8] at hr
  have HX : Hid (r = n) := Lib.hid hr.symm
  have e8 : (kind == 8) = false := by simpa using h8
  clear hr hn h3 h4 h7 h8
  go_enter Tryz.func56, Tryz.ntmps56
  go_wp2
  go_ret
  exact ⟨by rw [HX.out]; rfl, HB1.out⟩
end Go.Proofs.YtclkdlegogjnbaaGreatDoor
