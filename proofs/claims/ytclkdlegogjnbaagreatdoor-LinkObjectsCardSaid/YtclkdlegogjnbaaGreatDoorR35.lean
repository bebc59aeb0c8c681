/-
 The program's takePred: a pred line. Conditions: a line of at most 10000 bytes, tables of at most 900000 rows.
-/
import Derived.Test.YtclkdlegogjnbaaGreatDoorR22
namespace Go.Proofs.YtclkdlegogjnbaaGreatDoor
open Go Go.RowKit Go.WideShapes Go.ChangeShapes
set_option linter.unusedVariables false
set_option linter.unusedSimpArgs false
set_option maxRecDepth 100000 in
set_option maxHeartbeats 8000000 in
theorem pred_keeps : PredKeeps := by
 intro w0 g M va vf vp vc vq s n x hx hl B hp w hk
 have HK := Lib.hid hk
 have HP := Lib.hid hp
 have HL := Lib.hid hl
 have HR := Lib.hid (fun w h => readFun_any x (by omega) 0 w (B := B) h)
 unfold OptFun at HR
 obtain ⟨r, hr⟩ : ∃ r, predLine n x.data.toList s = r := ⟨_, rfl⟩
 rw [hr]
 unfold predLine at hr
 clear hk hp
 cases h : funOf x.data.toList 0 with
 | none =>
  rw [h] at HR hr
  have HX : Hid (r = .error 17) := Lib.hid hr.symm
  clear h hr hl
  go_enter Tryz.func75, Tryz.ntmps75
  go_wp2_with (go_at_call 94; refine (HR.out _ (HK.out.laid HP.out)).mono ?_; rintro e w2 ⟨rfl, hb2⟩; have HK2 := Lib.hid (HK.out.up hb2); clear hb2)
  go_ret
  exact lineW_err HX.out (HK2.out.alloc _).below
 | some f =>
  obtain ⟨f, m⟩ := f
  rw [h] at HR hr
  simp only at hr
  obtain ⟨i, hi, h1, h2, h3⟩ := predStep_at s.ob (f, m)
  obtain ⟨s1, hs1⟩ : ∃ s1 : St, s1 = { s with ob := (predStep s.ob (f, m)).2 } := ⟨_, rfl⟩
  have hi1 : i < s1.ob.preds.length := by rw [hs1]; exact hi
  have hc1 : s1.ob.code.length = s.ob.code.length := by rw [hs1]; exact congrArg List.length (predStep_code s.ob (f, m))
  have hp1 : s1.pts.length = s.pts.length := by rw [hs1]
  have HX : Hid (r = if s1.ob.preds[i].2.2 ≠ 65535 then .error 11 else .ok { entAt s1 i (s1.ob.preds[i].1, s1.ob.preds[i].2.1) (s1.ob.code.length : Int) with pts := s1.pts ++ [(n, (s1.ob.code.length : Int), true)] }) := Lib.hid (by
   rw [← hr]
   subst hs1
   simp only [h1, Int.toNat_natCast]
   rw [List.getD_eq_getElem?_getD, List.getElem?_eq_getElem hi, Option.getD_some, h2, h3, predStep_code]
   unfold entAt
   simp only [predStep_code])
  have HS := Lib.hid (fun W h => pred_any w0 g M va vf vp vc vq s f m (by omega) W h)
  rw [h1, ← hs1] at HS
  unfold PlacedP at HS
  obtain ⟨y, hy⟩ : ∃ y, s1.ob.preds[i].2.2 = y := ⟨_, rfl⟩
  have HPC : Hid (∀ (w : World) (gp cp : Nat) (vp' : Value), vp' = .slice (some ⟨gp, 0, none⟩) s1.ob.preds.length cp → Mk w0 w g M va vf vp' vc vq s1 → w.cell? ⟨gp, i * 3 + 2, none⟩ = some (.int .i64 y) ∧ w.frozen? ⟨gp, i * 3 + 2, none⟩ = false) := Lib.hid (fun w gp cp vp' e h => by
   subst e
   rw [← hy]
   exact h.pred_cell i hi1)
  rw [hy] at HX
  have HPS : Hid (∀ (w : World) (gp cp : Nat), Mk w0 w g M va vf (.slice (some ⟨gp, 0, none⟩) s1.ob.preds.length cp) vc vq s1 → Mk w0 (w.setCell ⟨gp, i * 3 + 2, none⟩ (.int .i64 (s1.ob.code.length : Int))) g M va vf (.slice (some ⟨gp, 0, none⟩) s1.ob.preds.length cp) vc vq (entAt s1 i (s1.ob.preds[i].1, s1.ob.preds[i].2.1) (s1.ob.code.length : Int)) ∧ gp < w.heap.size ∧ (w.setCell ⟨gp, i * 3 + 2, none⟩ (.int .i64 (s1.ob.code.length : Int))).cell? ⟨gp, i * 3 + 2, none⟩ = some (.int .i64 (s1.ob.code.length : Int))) := Lib.hid (fun w gp cp h => by
   have h4 := h.pred_set i hi1 (s1.ob.code.length : Int)
   refine ⟨h4, (own_ge h.rp (b := gp) rfl).2, ?_⟩
   have e : (entAt s1 i (s1.ob.preds[i].1, s1.ob.preds[i].2.1) (s1.ob.code.length : Int)).ob.preds.length = s1.ob.preds.length := by simp [entAt]
   have h4' : Mk w0 (w.setCell ⟨gp, i * 3 + 2, none⟩ (.int .i64 (s1.ob.code.length : Int))) g M va vf (.slice (some ⟨gp, 0, none⟩) (entAt s1 i (s1.ob.preds[i].1, s1.ob.preds[i].2.1) (s1.ob.code.length : Int)).ob.preds.length cp) vc vq (entAt s1 i (s1.ob.preds[i].1, s1.ob.preds[i].2.1) (s1.ob.code.length : Int)) := by
    rw [e]
    exact h4
   have h5 := h4'.pred_cell i (by simpa [entAt] using hi1)
   simpa [entAt] using h5.1)
  have hs2c : (entAt s1 i (s1.ob.preds[i].1, s1.ob.preds[i].2.1) (s1.ob.code.length : Int)).pts = s1.pts := rfl
  have hs2d : (entAt s1 i (s1.ob.preds[i].1, s1.ob.preds[i].2.1) (s1.ob.code.length : Int)).ob.code.length = s1.ob.code.length := rfl
  rw [← hs2c] at HX
  rw [← hs2c] at hp1
  generalize entAt s1 i (s1.ob.preds[i].1, s1.ob.preds[i].2.1) (s1.ob.code.length : Int) = s2 at HX HPS hs2c hs2d hp1
  have HI := Lib.hid hi1
  have hl2 := hl.2.2.2.1
  have hl3 := hl.2.2.2.2
  rw [← hc1] at hl2
  rw [← hp1] at hl3
  have hip : (i : Int) < (s1.ob.preds.length : Int) := by omega
  clear h hr hi h1 h2 h3 hs1 hc1 hp1 hl hy hi1 hs2c hs2d
  by_cases he : y = 65535
  case neg =>
   have HX2 : Hid (r = .error 11) := Lib.hid (by rw [HX.out, if_pos he])
   have e1 : (y != 65535) = true := by rw [bne_iff_ne]; exact he
   clear he
   go_enter Tryz.func75, Tryz.ntmps75
   go_wp2_with (first
    | (go_at_call 94; refine (HR.out _ (HK.out.laid HP.out)).mono ?_; rintro e w2 ⟨rfl, hb2⟩; have HK2 := Lib.hid ((HK.out.up hb2).alloc (.cells #[.string f, .int .i64 m] 82)); have X2 := Lib.hid (Box.new w2 82 #[.string f, .int .i64 m]); have d0 := X2.out.cell 0; have d1 := X2.out.cell 1; clear hb2)
    | (go_at_call 95; refine (HS.out _ HK2.out).mono ?_; rintro e w3 ⟨vp', rfl, hk3, hf3⟩; obtain ⟨gp, cp, hvp⟩ := own_some hk3.rp (Nat.lt_of_le_of_lt (Nat.zero_le _) HI.out); obtain ⟨c0, c1⟩ := HPC.out _ _ _ _ hvp hk3; subst hvp; have HK3 := Lib.hid hk3; have q2 := hk3.box.cell 2; clear hk3 hf3))
   go_ret
   exact lineW_err HX2.out HK3.out.below
  case pos =>
   have HX2 : Hid (r = .ok { s2 with pts := s2.pts ++ [(n, (s1.ob.code.length : Int), true)] }) := Lib.hid (by rw [HX.out, if_neg (by simpa using he)])
   have e1 : (y != 65535) = false := by rw [bne_eq_false_iff_eq]; exact he
   clear he
   go_enter Tryz.func75, Tryz.ntmps75
   go_upto_region 8 with (first
    | (go_at_call 94; refine (HR.out _ (HK.out.laid HP.out)).mono ?_; rintro e w2 ⟨rfl, hb2⟩; have HK2 := Lib.hid ((HK.out.up hb2).alloc (.cells #[.string f, .int .i64 m] 82)); have X2 := Lib.hid (Box.new w2 82 #[.string f, .int .i64 m]); have d0 := X2.out.cell 0; have d1 := X2.out.cell 1; clear hb2)
    | (go_at_call 95; refine (HS.out _ HK2.out).mono ?_; rintro e w3 ⟨vp', rfl, hk3, hf3⟩; obtain ⟨gp, cp, hvp⟩ := own_some hk3.rp (Nat.lt_of_le_of_lt (Nat.zero_le _) HI.out); obtain ⟨c0, c1⟩ := HPC.out _ _ _ _ hvp hk3; subst hvp; have HK3 := Lib.hid hk3; have q2 := hk3.box.cell 2; clear hk3 hf3))
   obtain ⟨A4, c4, hvc, _⟩ := own_form HK3.out.rc
   subst hvc
   have q3 := HK3.out.box.cell 3
   obtain ⟨hk4, hgp, hcc⟩ := HPS.out _ _ _ HK3.out
   have HK4 := Lib.hid hk4
   have HP4 := Lib.hid hcc
   clear hk4 hcc
   go_upto_region 9 with (fail)
   obtain ⟨w4, hw4⟩ : ∃ w4, w3.setCell ⟨gp, i * 3 + 2, none⟩ (.int .i64 (s1.ob.code.length : Int)) = w4 := ⟨_, rfl⟩
   rw [hw4] at HK4 HP4 ⊢
   clear HK3 q2 q3 c0 c1 hw4 HK2 X2 d0 d1
   obtain ⟨A5, c5, hvq, _⟩ := own_form HK4.out.rq
   subst hvq
   have q5 := HK4.out.box.cell 5
   have q5a := fun oo => (HK4.out.box.alloc oo).cell 5
   have p5 := HP4.out
   have p5a := fun oo => ((alloc_below w4 oo).cell (p := ⟨gp, i * 3 + 2, none⟩) (World.block_lt_of_cell? w4 _ HP4.out)).trans HP4.out
   obtain ⟨v6, w6, hr6, HA6⟩ := app_one slPt (HK4.out.drewN 1).rq [.int .i64 n, .int .i64 (s1.ob.code.length : Int), .bool true] rfl (by intro u hu; simp only [List.mem_cons, List.not_mem_nil, or_false] at hu; rcases hu with rfl | rfl | rfl <;> rfl) (Nat.le_trans hl3 (by decide)) (HK4.out.drewN 1).below.size 100
   obtain ⟨A6, c6, hv6⟩ := HA6.out.form
   subst hv6
   obtain ⟨hT6, z0, z1⟩ := (HK4.out.drewN 1).putq HA6.out
   have HT6 := Lib.hid hT6
   have HR6 := Lib.hid hr6
   clear hr6 hT6 HA6
   go_region_law (refine step_of_append HR6.out rfl _ _ rfl rfl rfl ?_)
   all_goals
    go_wp2
    go_ret
    exact lineW_ok HX2.out HT6.out
end Go.Proofs.YtclkdlegogjnbaaGreatDoor
