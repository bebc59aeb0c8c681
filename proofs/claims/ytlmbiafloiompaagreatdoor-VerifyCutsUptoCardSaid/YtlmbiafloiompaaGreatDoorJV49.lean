/-
  4 texts in one (VerTP AsmOB AsmPA AsmPB). Conditions: those of each theorem.
-/
import Derived.Test.YtlmbiafloiompaaGreatDoorJV48
import Derived.Test.YtlmbiafloiompaaGreatDoorJV15
import Derived.Test.YtlmbiafloiompaaGreatDoorJV46
import Derived.Test.YtlmbiafloiompaaGreatDoorJV10
namespace Go.Proofs.YtlmbiafloiompaaGreatDoor
open Go
set_option linter.unusedVariables false

/-- "pred p/1", "getvar X3 X0", "proceed"; "pred p/1", "getval X3 X0", "proceed". -/
def told11A : List ByteArray := [⟨#[112, 114, 101, 100, 32, 112, 47, 49]⟩, ⟨#[103, 101, 116, 118, 97, 114, 32, 88, 51, 32, 88, 48]⟩, ⟨#[112, 114, 111, 99, 101, 101, 100]⟩]
def told11B : List ByteArray := [⟨#[112, 114, 101, 100, 32, 112, 47, 49]⟩, ⟨#[103, 101, 116, 118, 97, 108, 32, 88, 51, 32, 88, 48]⟩, ⟨#[112, 114, 111, 99, 101, 101, 100]⟩]
theorem told11A_is : (verifyOf (asmOf (told11A.map (·.data.toList))).1).1.map (·.x) = [1, 9] ∧ (verifyOf (asmOf (told11A.map (·.data.toList))).1).2.2 = (0, -1) := by decide +kernel
theorem told11A_st : (verifyOf (asmOf (told11A.map (·.data.toList))).1).1.map (fun s => (s.x, s.y.length)) = [(1, 16), (9, 16)] := by decide +kernel
theorem told11B_is : (verifyOf (asmOf (told11B.map (·.data.toList))).1).2.2 = (14, 0) := by decide +kernel

end Go.Proofs.YtlmbiafloiompaaGreatDoor

namespace Go.Proofs.YtlmbiafloiompaaGreatDoor
open Go Go.RowKit Go.WideShapes Go.ChangeShapes
set_option linter.unusedVariables false
set_option linter.unusedSimpArgs false

set_option maxRecDepth 100000 in
set_option maxHeartbeats 8000000 in
theorem pred_keeps : PredKeeps := by
  intro w0 g M va vf vp vc vq s n x hx hl B hp w hk
  have HK := Lib.hid hk
  have HP := Lib.hid hp
  have HL := Lib.hid hl
  have HR := Lib.hid (fun w h => readFun_any x (by omega) 0 w (B := B) h)
  unfold OptFun at HR
  obtain ⟨r, hr⟩ : ∃ r, predLine n x.data.toList s = r := ⟨_, rfl⟩
  rw [hr]
  unfold predLine at hr
  clear hk hp
  cases h : funOf x.data.toList 0 with
  | none =>
    rw [h] at HR hr
    have HX : Hid (r = .error 17) := Lib.hid hr.symm
    clear h hr hl
    go_enter Tryz.func37, Tryz.ntmps37
    go_wp2_with (go_at_call 74; refine (HR.out _ (HK.out.laid HP.out)).mono ?_; rintro e w2 ⟨rfl, hb2⟩; have HK2 := Lib.hid (HK.out.up hb2); clear hb2)
    go_ret
    exact lineW_err HX.out (HK2.out.alloc _).below
  | some f =>
    obtain ⟨f, m⟩ := f
    rw [h] at HR hr
    simp only at hr
    obtain ⟨i, hi, h1, h2, h3⟩ := predStep_at s.ob (f, m)
    obtain ⟨s1, hs1⟩ : ∃ s1 : St, s1 = { s with ob := (predStep s.ob (f, m)).2 } := ⟨_, rfl⟩
    have hi1 : i < s1.ob.preds.length := by rw [hs1]; exact hi
    have hc1 : s1.ob.code.length = s.ob.code.length := by rw [hs1]; exact congrArg List.length (predStep_code s.ob (f, m))
    have hp1 : s1.pts.length = s.pts.length := by rw [hs1]
    have HX : Hid (r = if s1.ob.preds[i].2.2 ≠ 65535 then .error 11 else .ok { entAt s1 i (s1.ob.preds[i].1, s1.ob.preds[i].2.1) (s1.ob.code.length : Int) with pts := s1.pts ++ [(n, (s1.ob.code.length : Int), true)] }) := Lib.hid (by
      rw [← hr]
      subst hs1
      simp only [h1, Int.toNat_natCast]
      rw [List.getD_eq_getElem?_getD, List.getElem?_eq_getElem hi, Option.getD_some, h2, h3, predStep_code]
      unfold entAt
      simp only [predStep_code])
    have HS := Lib.hid (fun W h => pred_any w0 g M va vf vp vc vq s f m (by omega) W h)
    rw [h1, ← hs1] at HS
    unfold PlacedP at HS
    obtain ⟨y, hy⟩ : ∃ y, s1.ob.preds[i].2.2 = y := ⟨_, rfl⟩
    have HPC : Hid (∀ (w : World) (gp cp : Nat) (vp' : Value), vp' = .slice (some ⟨gp, 0, none⟩) s1.ob.preds.length cp → Mk w0 w g M va vf vp' vc vq s1 → w.cell? ⟨gp, i * 3 + 2, none⟩ = some (.int .i64 y) ∧ w.frozen? ⟨gp, i * 3 + 2, none⟩ = false) := Lib.hid (fun w gp cp vp' e h => by
      subst e
      rw [← hy]
      exact h.pred_cell i hi1)
    rw [hy] at HX
    have HPS : Hid (∀ (w : World) (gp cp : Nat), Mk w0 w g M va vf (.slice (some ⟨gp, 0, none⟩) s1.ob.preds.length cp) vc vq s1 → Mk w0 (w.setCell ⟨gp, i * 3 + 2, none⟩ (.int .i64 (s1.ob.code.length : Int))) g M va vf (.slice (some ⟨gp, 0, none⟩) s1.ob.preds.length cp) vc vq (entAt s1 i (s1.ob.preds[i].1, s1.ob.preds[i].2.1) (s1.ob.code.length : Int)) ∧ gp < w.heap.size ∧ (w.setCell ⟨gp, i * 3 + 2, none⟩ (.int .i64 (s1.ob.code.length : Int))).cell? ⟨gp, i * 3 + 2, none⟩ = some (.int .i64 (s1.ob.code.length : Int))) := Lib.hid (fun w gp cp h => by
      have h4 := h.pred_set i hi1 (s1.ob.code.length : Int)
      refine ⟨h4, (own_ge h.rp (b := gp) rfl).2, ?_⟩
      have e : (entAt s1 i (s1.ob.preds[i].1, s1.ob.preds[i].2.1) (s1.ob.code.length : Int)).ob.preds.length = s1.ob.preds.length := by simp [entAt]
      have h4' : Mk w0 (w.setCell ⟨gp, i * 3 + 2, none⟩ (.int .i64 (s1.ob.code.length : Int))) g M va vf (.slice (some ⟨gp, 0, none⟩) (entAt s1 i (s1.ob.preds[i].1, s1.ob.preds[i].2.1) (s1.ob.code.length : Int)).ob.preds.length cp) vc vq (entAt s1 i (s1.ob.preds[i].1, s1.ob.preds[i].2.1) (s1.ob.code.length : Int)) := by
        rw [e]
        exact h4
      have h5 := h4'.pred_cell i (by simpa [entAt] using hi1)
      simpa [entAt] using h5.1)
    have hs2c : (entAt s1 i (s1.ob.preds[i].1, s1.ob.preds[i].2.1) (s1.ob.code.length : Int)).pts = s1.pts := rfl
    have hs2d : (entAt s1 i (s1.ob.preds[i].1, s1.ob.preds[i].2.1) (s1.ob.code.length : Int)).ob.code.length = s1.ob.code.length := rfl
    rw [← hs2c] at HX
    rw [← hs2c] at hp1
    generalize entAt s1 i (s1.ob.preds[i].1, s1.ob.preds[i].2.1) (s1.ob.code.length : Int) = s2 at HX HPS hs2c hs2d hp1
    have HI := Lib.hid hi1
    have hl2 := hl.2.2.2.1
    have hl3 := hl.2.2.2.2
    rw [← hc1] at hl2
    rw [← hp1] at hl3
    have hip : (i : Int) < (s1.ob.preds.length : Int) := by omega
    clear h hr hi h1 h2 h3 hs1 hc1 hp1 hl hy hi1 hs2c hs2d
    by_cases he : y = 65535
    case neg =>
      have HX2 : Hid (r = .error 11) := Lib.hid (by rw [HX.out, if_pos he])
      have e1 : (y != 65535) = true := by rw [bne_iff_ne]; exact he
      clear he
      go_enter Tryz.func37, Tryz.ntmps37
      go_wp2_with (first
        | (go_at_call 74; refine (HR.out _ (HK.out.laid HP.out)).mono ?_; rintro e w2 ⟨rfl, hb2⟩; have HK2 := Lib.hid ((HK.out.up hb2).alloc (.cells #[.string f, .int .i64 m] 61)); have X2 := Lib.hid (Box.new w2 61 #[.string f, .int .i64 m]); have d0 := X2.out.cell 0; have d1 := X2.out.cell 1; clear hb2)
        | (go_at_call 75; refine (HS.out _ HK2.out).mono ?_; rintro e w3 ⟨vp', rfl, hk3, hf3⟩; obtain ⟨gp, cp, hvp⟩ := own_some hk3.rp (Nat.lt_of_le_of_lt (Nat.zero_le _) HI.out); obtain ⟨c0, c1⟩ := HPC.out _ _ _ _ hvp hk3; subst hvp; have HK3 := Lib.hid hk3; have q2 := hk3.box.cell 2; clear hk3 hf3))
      go_ret
      exact lineW_err HX2.out HK3.out.below
    case pos =>
      have HX2 : Hid (r = .ok { s2 with pts := s2.pts ++ [(n, (s1.ob.code.length : Int), true)] }) := Lib.hid (by rw [HX.out, if_neg (by simpa using he)])
      have e1 : (y != 65535) = false := by rw [bne_eq_false_iff_eq]; exact he
      clear he
      go_enter Tryz.func37, Tryz.ntmps37
      go_upto_region 8 with (first
        | (go_at_call 74; refine (HR.out _ (HK.out.laid HP.out)).mono ?_; rintro e w2 ⟨rfl, hb2⟩; have HK2 := Lib.hid ((HK.out.up hb2).alloc (.cells #[.string f, .int .i64 m] 61)); have X2 := Lib.hid (Box.new w2 61 #[.string f, .int .i64 m]); have d0 := X2.out.cell 0; have d1 := X2.out.cell 1; clear hb2)
        | (go_at_call 75; refine (HS.out _ HK2.out).mono ?_; rintro e w3 ⟨vp', rfl, hk3, hf3⟩; obtain ⟨gp, cp, hvp⟩ := own_some hk3.rp (Nat.lt_of_le_of_lt (Nat.zero_le _) HI.out); obtain ⟨c0, c1⟩ := HPC.out _ _ _ _ hvp hk3; subst hvp; have HK3 := Lib.hid hk3; have q2 := hk3.box.cell 2; clear hk3 hf3))
      obtain ⟨A4, c4, hvc, _⟩ := own_form HK3.out.rc
      subst hvc
      have q3 := HK3.out.box.cell 3
      obtain ⟨hk4, hgp, hcc⟩ := HPS.out _ _ _ HK3.out
      have HK4 := Lib.hid hk4
      have HP4 := Lib.hid hcc
      clear hk4 hcc
      go_upto_region 9 with (fail)
      obtain ⟨w4, hw4⟩ : ∃ w4, w3.setCell ⟨gp, i * 3 + 2, none⟩ (.int .i64 (s1.ob.code.length : Int)) = w4 := ⟨_, rfl⟩
      rw [hw4] at HK4 HP4 ⊢
      clear HK3 q2 q3 c0 c1 hw4 HK2 X2 d0 d1
      obtain ⟨A5, c5, hvq, _⟩ := own_form HK4.out.rq
      subst hvq
      have q5 := HK4.out.box.cell 5
      have q5a := fun oo => (HK4.out.box.alloc oo).cell 5
      have p5 := HP4.out
      have p5a := fun oo => ((alloc_below w4 oo).cell (p := ⟨gp, i * 3 + 2, none⟩) (World.block_lt_of_cell? w4 _ HP4.out)).trans HP4.out
      obtain ⟨v6, w6, hr6, HA6⟩ := app_one slPt (HK4.out.drewN 1).rq [.int .i64 n, .int .i64 (s1.ob.code.length : Int), .bool true] rfl (by intro u hu; simp only [List.mem_cons, List.not_mem_nil, or_false] at hu; rcases hu with rfl | rfl | rfl <;> rfl) (Nat.le_trans hl3 (by decide)) (HK4.out.drewN 1).below.size 77
      obtain ⟨A6, c6, hv6⟩ := HA6.out.form
      subst hv6
      obtain ⟨hT6, z0, z1⟩ := (HK4.out.drewN 1).putq HA6.out
      have HT6 := Lib.hid hT6
      have HR6 := Lib.hid hr6
      clear hr6 hT6 HA6
      go_region_law (refine step_of_append HR6.out rfl _ _ rfl rfl rfl ?_)
      all_goals
        go_wp2
        go_ret
        exact lineW_ok HX2.out HT6.out

end Go.Proofs.YtlmbiafloiompaaGreatDoor

namespace Go.Proofs.YtlmbiafloiompaaGreatDoor
open Go
set_option linter.unusedVariables false
set_option linter.unusedSimpArgs false

/-- Tables that may be. -/
structure GoodT (o : Ob) : Prop where
  atoms : ∀ s ∈ o.atoms, nameOk s = true
  nda : o.atoms.Nodup
  funs : ∀ f ∈ o.funs, nameOk f.1 = true ∧ 1 ≤ f.2 ∧ f.2 ≤ 8
  ndf : o.funs.Nodup
  preds : ∀ p ∈ o.preds, nameOk p.1 = true ∧ 0 ≤ p.2.1 ∧ p.2.1 ≤ 8
  ndp : (o.preds.map called).Nodup
/-- Tables as great. -/
def Grown (o o' : Ob) : Prop := o.atoms.length ≤ o'.atoms.length ∧ o.funs.length ≤ o'.funs.length ∧ o.preds.length ≤ o'.preds.length
theorem Grown.refl (o : Ob) : Grown o o := ⟨Nat.le_refl _, Nat.le_refl _, Nat.le_refl _⟩
theorem Grown.trans {o o' o'' : Ob} (h : Grown o o') (k : Grown o' o'') : Grown o o'' := ⟨Nat.le_trans h.1 k.1, Nat.le_trans h.2.1 k.2.1, Nat.le_trans h.2.2 k.2.2⟩
/-- An operand of an instruction whose labels are numbers. -/
def goodArg (o : Ob) (op kind n : Int) : Prop :=
  (kind = 3 → 0 ≤ n ∧ n < (o.atoms.length : Int)) ∧ (kind = 4 → 0 ≤ n ∧ n < (o.funs.length : Int)) ∧ (kind = 7 → 0 ≤ n ∧ n < (o.preds.length : Int)) ∧ (kind = 8 → (0 ≤ n ∧ n ≤ 1023) ∨ (op = 26 ∧ n = 65535)) ∧ (kind ≠ 3 → kind ≠ 4 → kind ≠ 7 → kind ≠ 8 → mayB op kind n = true)
theorem goodArg.grow {o o' : Ob} {op kind n : Int} (h : goodArg o op kind n) (hg : Grown o o') : goodArg o' op kind n := by
  obtain ⟨h1, h2, h3, h4, h5⟩ := h
  obtain ⟨g1, g2, g3⟩ := hg
  exact ⟨fun e => by have := h1 e; omega, fun e => by have := h2 e; omega, fun e => by have := h3 e; omega, h4, h5⟩
theorem funOf_name {w : List UInt8} {g : Int} {f : ByteArray × Int} (h : funOf w g = some f) : nameOk f.1 = true ∧ g ≤ f.2 ∧ 0 ≤ f.2 ∧ f.2 ≤ 8 := by
  unfold funOf at h
  split at h
  · cases h
  · split at h
    · cases h
    · rename_i n hn
      split at h
      · rename_i hc
        injection h with h
        subst h
        have := numUpto_bd hn
        exact ⟨hc.2, hc.1, this.1, this.2⟩
      · cases h
theorem place_inA {α : Type} [DecidableEq α] (l : List α) (x : α) : (placeOf l x : Int) < ((addTo l x).length : Int) ∧ (addTo l x).length ≥ l.length := by
  by_cases h : x ∈ l
  · rw [addTo_yes h]
    have : placeOf l x < l.length := by
      unfold placeOf
      exact List.findIdx_lt_length_of_exists ⟨x, h, by simp⟩
    exact ⟨by omega, Nat.le_refl _⟩
  · rw [addTo_no h, place_miss l x h]
    simp
    omega
theorem addTo_mem {α : Type} [DecidableEq α] {l : List α} {x y : α} (h : y ∈ addTo l x) : y ∈ l ∨ y = x := by
  unfold addTo at h
  split at h
  · exact .inl h
  · rcases List.mem_append.1 h with h | h
    · exact .inl h
    · exact .inr (List.mem_singleton.1 h)
theorem addTo_nodup {α : Type} [DecidableEq α] {l : List α} (x : α) (h : l.Nodup) : (addTo l x).Nodup := by
  unfold addTo
  split
  · exact h
  · rename_i hx
    rw [List.nodup_append]
    exact ⟨h, by simp, fun a ha b hb e => by rw [List.mem_singleton.1 hb] at e; subst e; exact hx ha⟩
theorem findFrom_none : ∀ (x : ByteArray) (n : Int) (k : Nat) (l : List (ByteArray × Int × Int)), findFrom x n k l < 0 → (x, n) ∉ l.map called
  | x, n, k, [], _ => by simp
  | x, n, k, p :: l, h => by
    unfold findFrom at h
    split at h
    · omega
    · rename_i hc
      have ih := findFrom_none x n (k + 1) l h
      rw [List.map_cons, List.mem_cons]
      rintro (e | e)
      · unfold called at e
        injection e with e1 e2
        exact hc ⟨e1.symm, e2.symm⟩
      · exact ih e
theorem predStep_good {o : Ob} (h : GoodT o) {f : ByteArray × Int} (hf : nameOk f.1 = true ∧ 0 ≤ f.2 ∧ f.2 ≤ 8) : GoodT (predStep o f).2 ∧ 0 ≤ (predStep o f).1 ∧ (predStep o f).1 < ((predStep o f).2.preds.length : Int) ∧ Grown o (predStep o f).2 := by
  unfold predStep
  split
  · rename_i hx
    have hn := findFrom_none f.1 f.2 0 o.preds hx
    refine ⟨⟨h.atoms, h.nda, h.funs, h.ndf, fun p hp => ?_, ?_⟩, by simp, by simp; omega, Nat.le_refl _, Nat.le_refl _, by simp⟩
    · rcases List.mem_append.1 hp with hp | hp
      · exact h.preds p hp
      · rw [List.mem_singleton.1 hp]
        exact hf
    · rw [List.map_append, List.nodup_append]
      refine ⟨h.ndp, by simp, fun a ha b hb e => ?_⟩
      have hb : b = (f.1, f.2) := by simpa [called] using hb
      subst e
      subst hb
      exact hn ha
  · rename_i hx
    obtain ⟨i, hi, h1, _⟩ := findFrom_at f.1 f.2 0 o.preds (by omega)
    exact ⟨h, by omega, by simp only; omega, Grown.refl o⟩
theorem opStep_good {o o' : Ob} (h : GoodT o) {op kind n : Int} {w : List UInt8} (hs : opStep op kind w o = some (n, o')) (hop : op = 26 → kind = 8) : GoodT o' ∧ goodArg o' op kind n ∧ Grown o o' := by
  unfold opStep at hs
  split at hs
  · rename_i hk
    split at hs
    · rename_i hn
      injection hs with hs
      injection hs with h1 h2
      subst h1 h2
      have hp := place_inA o.atoms (bs w)
      refine ⟨⟨fun s hs => ?_, addTo_nodup _ h.nda, h.funs, h.ndf, h.preds, h.ndp⟩, ⟨fun _ => ⟨by simp, hp.1⟩, fun e => by omega, fun e => by omega, fun e => by omega, fun e => absurd hk e⟩, hp.2, Nat.le_refl _, Nat.le_refl _⟩
      rcases addTo_mem hs with hs | rfl
      · exact h.atoms s hs
      · exact hn
    · cases hs
  · split at hs
    · rename_i hk3 hk
      cases hf : funOf w 1 with
      | none => rw [hf] at hs; cases hs
      | some f =>
        rw [hf] at hs
        injection hs with hs
        injection hs with h1 h2
        subst h1 h2
        have hp := place_inA o.funs f
        have hfn := funOf_name hf
        refine ⟨⟨h.atoms, h.nda, fun g hg => ?_, addTo_nodup _ h.ndf, h.preds, h.ndp⟩, ⟨fun e => by omega, fun _ => ⟨by simp, hp.1⟩, fun e => by omega, fun e => by omega, fun _ e => absurd hk e⟩, Nat.le_refl _, hp.2, Nat.le_refl _⟩
        rcases addTo_mem hg with hg | rfl
        · exact h.funs g hg
        · exact ⟨hfn.1, hfn.2.1, hfn.2.2.2⟩
    · split at hs
      · rename_i hk3 hk4 hk
        cases hf : funOf w 0 with
        | none => rw [hf] at hs; cases hs
        | some f =>
          rw [hf] at hs
          injection hs with hs
          have hs : predStep o f = (n, o') := hs
          have hfn := funOf_name hf
          have hg := predStep_good h (f := f) ⟨hfn.1, hfn.2.1, hfn.2.2.2⟩
          rw [hs] at hg
          exact ⟨hg.1, ⟨fun e => by omega, fun e => by omega, fun _ => ⟨hg.2.1, hg.2.2.1⟩, fun e => by omega, fun _ _ e => absurd hk e⟩, hg.2.2.2⟩
      · split at hs
        · rename_i hk3 hk4 hk7 hk
          split at hs
          · split at hs
            · rename_i h26
              injection hs with hs
              injection hs with h1 h2
              subst h1 h2
              exact ⟨h, ⟨fun e => by omega, fun e => by omega, fun e => by omega, fun _ => .inr ⟨h26, rfl⟩, fun _ _ _ e => absurd hk e⟩, Grown.refl o⟩
            · cases hs
          · cases hf : labelOf w with
            | none => rw [hf] at hs; cases hs
            | some m =>
              rw [hf] at hs
              injection hs with hs
              injection hs with h1 h2
              subst h1 h2
              have := labelOf_bd hf
              exact ⟨h, ⟨fun e => by omega, fun e => by omega, fun e => by omega, fun _ => .inl this, fun _ _ _ e => absurd hk e⟩, Grown.refl o⟩
        · rename_i hk3 hk4 hk7 hk8
          cases hf : opdOf kind w with
          | none => rw [hf] at hs; cases hs
          | some m =>
            rw [hf] at hs
            injection hs with hs
            injection hs with h1 h2
            subst h1 h2
            refine ⟨h, ⟨fun e => absurd e hk3, fun e => absurd e hk4, fun e => absurd e hk7, fun e => absurd e hk8, fun _ _ _ _ => ?_⟩, Grown.refl o⟩
            unfold opdOf at hf
            split at hf
            · cases hf
            · split at hf
              · rename_i hc
                injection hf with hf
                subst hf
                exact decide_eq_true (.inr ⟨hc.1, hc.2.1⟩)
              · cases hf
/-- Operands, one behind the other. -/
theorem opsStep_good {op : Int} : ∀ {ks : List Int} {ws : List (List UInt8)} {o o' : Ob} {x : List Int}, GoodT o → opsStep op ks ws o = some (x, o') → (op = 26 → ∀ k ∈ ks, k = 8) → GoodT o' ∧ Grown o o' ∧ x.length = ks.length ∧ ∀ j, j < ks.length → goodArg o' op (ks.getD j 0) (x.getD j 0)
  | [], ws, o, o', x, h, hs, _ => by
    rw [opsStep] at hs
    injection hs with hs
    injection hs with h1 h2
    subst h1 h2
    exact ⟨h, Grown.refl o, rfl, fun j hj => absurd hj (by simp)⟩
  | k :: ks, ws, o, o', x, h, hs, hop => by
    rw [opsStep] at hs
    cases h1 : opStep op k (ws.headD []) o with
    | none => rw [h1] at hs; cases hs
    | some r =>
      obtain ⟨n, o1⟩ := r
      rw [h1] at hs
      obtain ⟨a1, a2, a3⟩ := opStep_good h h1 (fun e => hop e k (by simp))
      cases h2 : opsStep op ks ws.tail o1 with
      | none => simp only [h2] at hs; cases hs
      | some r2 =>
        obtain ⟨y, o2⟩ := r2
        simp only [h2] at hs
        injection hs with hs
        injection hs with h3 h4
        have h3 : n :: y = x := h3
        have h4 : o2 = o' := h4
        subst h3 h4
        obtain ⟨b1, b2, b3, b4⟩ := opsStep_good a1 h2 (fun e k hk => hop e k (by simp [hk]))
        refine ⟨b1, a3.trans b2, by simp [b3], fun j hj => ?_⟩
        cases j with
        | zero => exact a2.grow b2
        | succ j => simpa using b4 j (by simpa using hj)

end Go.Proofs.YtlmbiafloiompaaGreatDoor

namespace Go.Proofs.YtlmbiafloiompaaGreatDoor
open Go
set_option linter.unusedVariables false
set_option linter.unusedSimpArgs false

/-- An instruction whose labels are numbers. -/
def GoodI (o : Ob) (i : Ins) : Prop :=
  0 ≤ i.1 ∧ i.1 ≤ 26 ∧ (∀ j, j < (opsOf i.1).length → goodArg o i.1 ((opsOf i.1).getD j 0) ((argOf i).getD j 0)) ∧ ∀ j, (opsOf i.1).length ≤ j → j < 4 → (argOf i).getD j 0 = 0
theorem GoodI.grow {o o' : Ob} {i : Ins} (h : GoodI o i) (hg : Grown o o') : GoodI o' i := ⟨h.1, h.2.1, fun j hj => (h.2.2.1 j hj).grow hg, h.2.2.2⟩
/-- What comes to be may be, once its labels are places. -/
structure GoodS (s : St) : Prop where
  t : GoodT s.ob
  code : ∀ i ∈ s.ob.code, GoodI s.ob i
  ents : ∀ p ∈ s.ob.preds, p.2.2 = 65535 ∨ (0 ≤ p.2.2 ∧ ∃ l, (l, p.2.2, true) ∈ s.pts)
  pts : (s.pts.filter (fun p => !p.2.2)).map (fun p => p.2.1) = (List.range s.ob.code.length).map (fun k : Nat => (k : Int))
theorem GoodS.start : GoodS startSt :=
  ⟨⟨fun s h => absurd h (by simp [startSt, emptyOb]), by simp [startSt, emptyOb], fun s h => absurd h (by simp [startSt, emptyOb]), by simp [startSt, emptyOb], fun s h => absurd h (by simp [startSt, emptyOb]), by simp [startSt, emptyOb]⟩, fun s h => absurd h (by simp [startSt, emptyOb]), fun s h => absurd h (by simp [startSt, emptyOb]), by simp [startSt, emptyOb]⟩
theorem predStep_mem (o : Ob) (f : ByteArray × Int) : ∀ p ∈ (predStep o f).2.preds, p ∈ o.preds ∨ p.2.2 = 65535 := by
  unfold predStep
  split
  · intro p hp
    rcases List.mem_append.1 hp with hp | hp
    · exact .inl hp
    · rw [List.mem_singleton.1 hp]; exact .inr rfl
  · exact fun p hp => .inl hp
theorem opStep_preds {op kind n : Int} {w : List UInt8} {o o' : Ob} (h : opStep op kind w o = some (n, o')) : ∀ p ∈ o'.preds, p ∈ o.preds ∨ p.2.2 = 65535 := by
  unfold opStep at h
  split at h
  · split at h
    · injection h with h; injection h with _ h; subst h; exact fun p hp => .inl hp
    · cases h
  · split at h
    · cases hf : funOf w 1 with
      | none => rw [hf] at h; cases h
      | some f => rw [hf] at h; injection h with h; injection h with _ h; subst h; exact fun p hp => .inl hp
    · split at h
      · cases hf : funOf w 0 with
        | none => rw [hf] at h; cases h
        | some f =>
          rw [hf] at h
          injection h with h
          have h : predStep o f = (n, o') := h
          have := predStep_mem o f
          rw [h] at this
          exact this
      · split at h
        · split at h
          · split at h
            · injection h with h; injection h with _ h; subst h; exact fun p hp => .inl hp
            · cases h
          · cases hf : labelOf w with
            | none => rw [hf] at h; cases h
            | some m => rw [hf] at h; injection h with h; injection h with _ h; subst h; exact fun p hp => .inl hp
        · cases hf : opdOf kind w with
          | none => rw [hf] at h; cases h
          | some m => rw [hf] at h; injection h with h; injection h with _ h; subst h; exact fun p hp => .inl hp
theorem opsStep_preds {op : Int} : ∀ {ks : List Int} {ws : List (List UInt8)} {o o' : Ob} {x : List Int}, opsStep op ks ws o = some (x, o') → ∀ p ∈ o'.preds, p ∈ o.preds ∨ p.2.2 = 65535
  | [], ws, o, o', x, h => by
    rw [opsStep] at h
    injection h with h
    injection h with _ h
    subst h
    exact fun p hp => .inl hp
  | k :: ks, ws, o, o', x, h => by
    rw [opsStep] at h
    cases h1 : opStep op k (ws.headD []) o with
    | none => rw [h1] at h; cases h
    | some r =>
      obtain ⟨n, o1⟩ := r
      rw [h1] at h
      cases h2 : opsStep op ks ws.tail o1 with
      | none => simp only [h2] at h; cases h
      | some r2 =>
        obtain ⟨y, o2⟩ := r2
        simp only [h2] at h
        injection h with h
        injection h with _ h
        have h : o2 = o' := h
        subst h
        intro p hp
        rcases opsStep_preds h2 p hp with h3 | h3
        · exact opStep_preds h1 p h3
        · exact .inr h3
theorem line_good {n : Int} {l : List UInt8} {s s' : St} (h : lineStep n l s = .ok s') (hg : GoodS s) (hl : s.ob.atoms.length + s.ob.funs.length + s.ob.preds.length ≤ 2700000) : GoodS s' := by
  unfold lineStep at h
  split at h
  · unfold predLine at h
    split at h
    · cases h
    · rename_i f hf
      split at h
      · cases h
      · injection h with h
        subst h
        have hfn := funOf_name hf
        have hpg := predStep_good hg.t (f := f) ⟨hfn.1, hfn.2.1, hfn.2.2.2⟩
        have hpm := predStep_mem s.ob f
        have hpc := predStep_code s.ob f
        obtain ⟨i, hi, h1, h2, h3⟩ := predStep_at s.ob f
        rw [h1]
        simp only [Int.toNat_natCast]
        have hcl : ((predStep s.ob f).2.preds.set i (f.1, f.2, (s.ob.code.length : Int))).map called = (predStep s.ob f).2.preds.map called := by
          rw [List.map_set]
          apply List.ext_getElem (by simp)
          intro j a b
          rw [List.getElem_set]
          split
          · rename_i e
            subst e
            rw [List.getElem_map]
            unfold called
            rw [h2, h3]
          · rfl
        refine ⟨⟨hpg.1.atoms, hpg.1.nda, hpg.1.funs, hpg.1.ndf, fun p hp => ?_, ?_⟩, fun j hj => ?_, fun p hp => ?_, ?_⟩
        · rcases List.mem_or_eq_of_mem_set hp with hp | rfl
          · exact hpg.1.preds p hp
          · exact ⟨hfn.1, hfn.2.1, hfn.2.2.2⟩
        · show ((predStep s.ob f).2.preds.set i (f.1, f.2, (s.ob.code.length : Int))).map called |>.Nodup
          rw [hcl]
          exact hpg.1.ndp
        · have hj : j ∈ s.ob.code := by rw [← hpc]; exact hj
          refine (hg.code j hj).grow ⟨hpg.2.2.2.1, hpg.2.2.2.2.1, ?_⟩
          simp only [List.length_set]
          exact hpg.2.2.2.2.2
        · rcases List.mem_or_eq_of_mem_set hp with hp | rfl
          · rcases hpm p hp with hp | hp
            · rcases hg.ents p hp with h4 | ⟨h4, l2, h5⟩
              · exact .inl h4
              · exact .inr ⟨h4, l2, List.mem_append_left _ h5⟩
            · exact .inl hp
          · exact .inr ⟨by simp, n, by simp⟩
        · simp only [List.filter_append, List.map_append, hpc]
          rw [hg.pts]
          simp
  · split at h
    · unfold labelLine at h
      split at h
      · cases h
      · split at h
        · cases h
        · injection h with h
          subst h
          exact ⟨hg.t, hg.code, hg.ents, hg.pts⟩
    · unfold instrLine at h
      split at h
      · cases h
      · rename_i hc
        split at h
        · cases h
        · rename_i x o' hs
          injection h with h
          subst h
          generalize hop : namedOf (bs ((splitW l).getD 0 [])) = op at *
          have hfew := ops_few op
          obtain ⟨K, hK, hK2, _⟩ := named_at (s := bs ((splitW l).getD 0 [])) (by omega)
          obtain ⟨a1, a2, a3, a4⟩ := opsStep_good hg.t hs (opsOf_sw op)
          have hpm := opsStep_preds hs
          have hcd := (opsStep_bd hs (opsOf_sw op) (by omega)).2.1
          have hT : GoodT { o' with code := o'.code ++ [insOf op x] } := ⟨a1.atoms, a1.nda, a1.funs, a1.ndf, a1.preds, a1.ndp⟩
          refine ⟨hT, fun j hj => ?_, fun p hp => ?_, ?_⟩
          · simp only [hcd] at hj
            rcases List.mem_append.1 hj with hj | hj
            · exact (hg.code j hj).grow a2
            · rw [List.mem_singleton.1 hj]
              refine ⟨by show 0 ≤ op; omega, by show op ≤ 26; omega, fun q hq => ?_, fun q hq h4 => ?_⟩
              · have hq : q < (opsOf op).length := hq
                rw [argOf_ins op x q (by omega)]
                exact a4 q hq
              · have hq : (opsOf op).length ≤ q := hq
                rw [argOf_ins op x q h4, List.getD_eq_getElem?_getD, List.getElem?_eq_none (by omega)]
                rfl
          · rcases hpm p hp with hp | hp
            · rcases hg.ents p hp with h4 | ⟨h4, l2, h5⟩
              · exact .inl h4
              · exact .inr ⟨h4, l2, List.mem_append_left _ h5⟩
            · exact .inl hp
          · simp only [List.filter_append, List.map_append, hcd]
            rw [hg.pts, List.length_append, List.length_singleton, List.range_succ, List.map_append]
            simp

end Go.Proofs.YtlmbiafloiompaaGreatDoor
