/-
  2 texts in one (ObjD ObjE). Conditions: those of each theorem.
-/
import Derived.Test.YtlmbiafloiompaaGreatDoorJV05
import Derived.Test.YtlmbiafloiompaaGreatDoorJV08
import Derived.Deep.RegionHeld3
import Derived.Test.YtlmbiafloiompaaGreatDoorJV02
import Derived.IntWalk
import Derived.Deep.QuietTactic
import Derived.BigQuiet
import Derived.Lib.ItoaLen
import Derived.Laws.Concat
import Derived.Test.YtlmbiafloiompaaGreatDoorJV07
namespace Go.Proofs.YtlmbiafloiompaaGreatDoor
open Go Go.RowKit Go.WideShapes Go.ChangeShapes
set_option linter.unusedVariables false
set_option linter.unusedSimpArgs false

theorem there_any (A1 A2 A3 A4 : Option Addr) (a c1 f c2 p c3 c c4 : Nat) (kind n : Int) (w : World) :
    Calls Tryz.prog 89 #[.agg #[.slice A1 a c1, .slice A2 f c2, .slice A3 p c3, .slice A4 c c4], .int .i64 kind, .int .i64 n] w fun e w' => e = .returned (.bool (thereB a f p c kind n)) ∧ Below w.heap.size w w' := by
  have HB := Lib.hid (alloc_below w (.cells #[.slice A1 a c1, .slice A2 f c2, .slice A3 p c3, .slice A4 c c4] 35))
  by_cases h3 : kind = 3
  · subst h3
    go_enter Tryz.func89, Tryz.ntmps89
    go_wp2_with (go_at_call 86; refine (within_any _ _ _).mono ?_; rintro e w' ⟨rfl, rfl⟩)
    go_ret
    exact ⟨ret_b (by simp [thereB]), HB.out⟩
  have h3' : (kind == 3) = false := by simpa using h3
  by_cases h4 : kind = 4
  · subst h4
    go_enter Tryz.func89, Tryz.ntmps89
    go_wp2_with (go_at_call 86; refine (within_any _ _ _).mono ?_; rintro e w' ⟨rfl, rfl⟩)
    go_ret
    exact ⟨ret_b (by simp [thereB]), HB.out⟩
  have h4' : (kind == 4) = false := by simpa using h4
  by_cases h7 : kind = 7
  · subst h7
    go_enter Tryz.func89, Tryz.ntmps89
    go_wp2_with (go_at_call 86; refine (within_any _ _ _).mono ?_; rintro e w' ⟨rfl, rfl⟩)
    go_ret
    exact ⟨ret_b (by simp [thereB]), HB.out⟩
  have h7' : (kind == 7) = false := by simpa using h7
  by_cases h8 : kind = 8
  · subst h8
    by_cases hn : n = 65535
    · subst hn
      go_enter Tryz.func89, Tryz.ntmps89
      go_wp2_with (go_at_call 86; refine (within_any _ _ _).mono ?_; rintro e w' ⟨rfl, rfl⟩)
      go_ret
      exact ⟨rfl, HB.out⟩
    · have hn' : (n == 65535) = false := by simpa using hn
      have he : thereB a f p c 8 n = decide (0 ≤ n ∧ n < (c : Int)) := by
        show decide (n = 65535 ∨ (0 ≤ n ∧ n < (c : Int))) = _
        rw [Bool.eq_iff_iff]
        simp [hn]
      rw [he]
      clear he
      go_enter Tryz.func89, Tryz.ntmps89
      go_wp2_with (go_at_call 86; refine (within_any _ _ _).mono ?_; rintro e w' ⟨rfl, rfl⟩)
      go_ret
      exact ⟨ret_b (by simp), HB.out⟩
  have h8' : (kind == 8) = false := by simpa using h8
  have he : thereB a f p c kind n = true := by
    unfold thereB
    rw [if_neg h3, if_neg h4, if_neg h7, if_neg h8]
  rw [he]
  clear he
  go_enter Tryz.func89, Tryz.ntmps89
  go_wp2
  go_ret
  exact ⟨rfl, HB.out⟩


/-- What checkInstr keeps: the object's box, the instruction's, the kinds'. -/
structure Ck (w w3 wr : World) (g2 g3 : Nat) (va vf vp vc : Value) (i : Ins) : Prop where
  ob : Box w3 g2 35 #[va, vf, vp, vc]
  ins : Box w3 g3 65 #[.int .i64 i.1, .int .i64 i.2.1, .int .i64 i.2.2.1, .int .i64 i.2.2.2.1, .int .i64 i.2.2.2.2]
  new : w.heap.size ≤ w3.heap.size
  old : Below w.heap.size w w3
  below : Below w3.heap.size w3 wr
theorem Ck.up {w w3 wr w' : World} {g2 g3 : Nat} {va vf vp vc : Value} {i : Ins} (h : Ck w w3 wr g2 g3 va vf vp vc i) (hb : Below wr.heap.size wr w') : Ck w w3 w' g2 g3 va vf vp vc i :=
  ⟨h.ob, h.ins, h.new, h.old, h.below.trans (hb.mono h.below.size)⟩
theorem Ck.all {w w3 wr : World} {g2 g3 : Nat} {va vf vp vc : Value} {i : Ins} (h : Ck w w3 wr g2 g3 va vf vp vc i) : Below w.heap.size w wr := h.old.trans (h.below.mono h.new)
theorem Ck.obAt {w w3 wr : World} {g2 g3 : Nat} {va vf vp vc : Value} {i : Ins} (h : Ck w w3 wr g2 g3 va vf vp vc i) : Box wr g2 35 #[va, vf, vp, vc] := h.ob.below h.below h.ob.lt
theorem Ck.insAt {w w3 wr : World} {g2 g3 : Nat} {va vf vp vc : Value} {i : Ins} (h : Ck w w3 wr g2 g3 va vf vp vc i) : Box wr g3 65 #[.int .i64 i.1, .int .i64 i.2.1, .int .i64 i.2.2.1, .int .i64 i.2.2.2.1, .int .i64 i.2.2.2.2] := h.ins.below h.below h.ins.lt
theorem Ck.arg {w w3 wr : World} {g2 g3 : Nat} {va vf vp vc : Value} {i : Ins} (h : Ck w w3 wr g2 g3 va vf vp vc i) (k : Nat) (hk : k < 4) : wr.cell? ⟨g3, 1 + k, none⟩ = some (.int .i64 ((argOf i).getD k 0)) := by
  rw [h.insAt.cell (1 + k)]
  match k, hk with
  | 0, _ => rfl
  | 1, _ => rfl
  | 2, _ => rfl
  | 3, _ => rfl

theorem ck_start (w : World) (va vf vp vc : Value) (i : Ins) : Ck w ((w.alloc (.cells #[va, vf, vp, vc] 35)).alloc (.cells #[.int .i64 i.1, .int .i64 i.2.1, .int .i64 i.2.2.1, .int .i64 i.2.2.2.1, .int .i64 i.2.2.2.2] 65))
    ((w.alloc (.cells #[va, vf, vp, vc] 35)).alloc (.cells #[.int .i64 i.1, .int .i64 i.2.1, .int .i64 i.2.2.1, .int .i64 i.2.2.2.1, .int .i64 i.2.2.2.2] 65)) w.heap.size (w.heap.size + 1) va vf vp vc i := by
  refine ⟨(Box.new w _ _).alloc _, ?_, by simp; omega, two_below w _ _, Below.refl _ _⟩
  have h := Box.new (w.alloc (.cells #[va, vf, vp, vc] 35)) 65 #[.int .i64 i.1, .int .i64 i.2.1, .int .i64 i.2.2.1, .int .i64 i.2.2.2.1, .int .i64 i.2.2.2.2]
  rw [World.size_alloc] at h
  exact h

theorem five_up {w0 w' : World} {g2 g3 k : Nat} {a b c d e : Value} (h : Below w0.heap.size w0 w') (h2 : g2 < w0.heap.size) (h3 : g3 < w0.heap.size)
    (h0 : (w0.cell? ⟨g2, 0, none⟩ = some a ∧ w0.cell? ⟨g2, 1, none⟩ = some b) ∧ (w0.cell? ⟨g2, 2, none⟩ = some c ∧ w0.cell? ⟨g2, 3, none⟩ = some d) ∧ w0.cell? ⟨g3, k, none⟩ = some e) :
    (w'.cell? ⟨g2, 0, none⟩ = some a ∧ w'.cell? ⟨g2, 1, none⟩ = some b) ∧ (w'.cell? ⟨g2, 2, none⟩ = some c ∧ w'.cell? ⟨g2, 3, none⟩ = some d) ∧ w'.cell? ⟨g3, k, none⟩ = some e :=
  ⟨⟨(h.cell (p := ⟨g2, 0, none⟩) h2).trans h0.1.1, (h.cell (p := ⟨g2, 1, none⟩) h2).trans h0.1.2⟩, ⟨(h.cell (p := ⟨g2, 2, none⟩) h2).trans h0.2.1.1, (h.cell (p := ⟨g2, 3, none⟩) h2).trans h0.2.1.2⟩, (h.cell (p := ⟨g3, k, none⟩) h3).trans h0.2.2⟩
theorem bdrew0 (W : World) (n : Nat) : Below W.heap.size W (W.drewN n) := ⟨rfl, rfl, rfl, Nat.le_refl _, fun _ _ => rfl⟩
theorem list_all_take (n : Nat) (P : Nat → Bool) : (List.range n).all P = true ↔ ∀ j, j < n → P j = true := by
  simp [List.all_eq_true]

set_option maxRecDepth 100000 in
set_option maxHeartbeats 8000000 in
theorem checkInstr_any (A1 A2 A3 A4 : Option Addr) (a c1 f c2 p c3 c c4 : Nat) (i : Ins) (w : World) (hw : NamesAt w) :
    Calls Tryz.prog 50 #[.agg #[.slice A1 a c1, .slice A2 f c2, .slice A3 p c3, .slice A4 c c4], .agg #[.int .i64 i.1, .int .i64 i.2.1, .int .i64 i.2.2.1, .int .i64 i.2.2.2.1, .int .i64 i.2.2.2.2]] w
      fun e w' => e = .returned (.int .i64 (insErr a f p c i)) ∧ Below w.heap.size w w' := by
  have K0 := Lib.hid (ck_start w (.slice A1 a c1) (.slice A2 f c2) (.slice A3 p c3) (.slice A4 c c4) i)
  have HW := Lib.hid hw
  have HRI := Lib.hid (fun w hw => right_any i.1 i.2.1 i.2.2.1 i.2.2.2.1 i.2.2.2.2 w hw)
  have HIE : Hid (insErr a f p c i = if ¬ (0 ≤ i.1 ∧ i.1 ≤ 26) then 8 else if rightB i.1 (argOf i) = false then 9 else if (List.range (opsOf i.1).length).all (fun k => thereB a f p c ((opsOf i.1).getD k 0) ((argOf i).getD k 0)) then 0 else 9) := Lib.hid rfl
  have HARG : Hid (argOf i = [i.2.1, i.2.2.1, i.2.2.2.1, i.2.2.2.2]) := Lib.hid rfl
  generalize insErr a f p c i = ie at HIE
  have HCARG := Lib.hid (fun w3 wr g2 g3 (h : Ck w w3 wr g2 g3 (.slice A1 a c1) (.slice A2 f c2) (.slice A3 p c3) (.slice A4 c c4) i) k hk => h.arg k hk)
  have HCINS := Lib.hid (fun w3 wr g2 g3 (h : Ck w w3 wr g2 g3 (.slice A1 a c1) (.slice A2 f c2) (.slice A3 p c3) (.slice A4 c c4) i) => h.insAt)
  unfold insV at HRI
  clear hw
  by_cases hr : 0 ≤ i.1 ∧ i.1 ≤ 26
  · obtain ⟨m, hm⟩ := Int.eq_ofNat_of_zero_le hr.1
    have hne := name_nonempty m (by omega)
    have hnm : nameOf i.1 = nameAt m := by rw [hm]; rw [nameOf, if_pos (by omega)]; rfl
    have HNAME := Lib.hid (fun w hw => hnm ▸ name_any i.1 w hw)
    obtain ⟨nm, hnmx⟩ : ∃ nm, nameAt m = nm := ⟨_, rfl⟩
    rw [hnmx] at hne HNAME
    have HOPN := Lib.hid (fun (h : opsOf i.1 = []) w => operands_none i.1 h w)
    have HOPS := Lib.hid (fun n hn h0 w => operands_some i.1 n hn h0 w)
    have HFEW := Lib.hid (ops_few i.1)
    cases hB : rightB i.1 (argOf i)
    · have HX : Hid (ie = 9) := Lib.hid (by rw [HIE.out, if_neg (by omega), if_pos hB])
      rw [HARG.out] at hB
      rw [hB] at HRI
      clear hB hm hnm hnmx hr
      go_enter Tryz.func50, Tryz.ntmps50
      go_wp2_with (first
        | (go_at_call 87; refine (HNAME.out _ (HW.out.below (two_below w _ _) HW.out.lt)).mono ?_; rintro e w' ⟨rfl, rfl⟩)
        | (go_at_call 88; refine (HRI.out _ (HW.out.below (two_below w _ _) HW.out.lt)).mono ?_; rintro e w4 ⟨rfl, hb4⟩; have HK4 := Lib.hid (K0.out.up hb4); clear hb4))
      go_ret
      exact ⟨by rw [HX.out]; rfl, HK4.out.all⟩
    · have HX : Hid (ie = if (List.range (opsOf i.1).length).all (fun k => thereB a f p c ((opsOf i.1).getD k 0) ((argOf i).getD k 0)) then 0 else 9) := Lib.hid (by rw [HIE.out, if_neg (by omega), if_neg (by rw [hB]; decide)])
      rw [HARG.out] at hB
      rw [hB] at HRI
      clear hB hm hnm hnmx hr
      by_cases ho : opsOf i.1 = []
      · have HO := Lib.hid (HOPN.out ho)
        have HX2 : Hid (ie = 0) := Lib.hid (by rw [HX.out, ho]; rfl)
        clear ho
        go_enter Tryz.func50, Tryz.ntmps50
        go_upto_region 3 with (go_at_call 87; refine (HNAME.out _ (HW.out.below (two_below w _ _) HW.out.lt)).mono ?_; rintro e w' ⟨rfl, rfl⟩)
        go_wp2_with (first
          | (go_at_call 88; refine (HRI.out _ (HW.out.below (two_below w _ _) HW.out.lt)).mono ?_; rintro e w4 ⟨rfl, hb4⟩; have HK4 := Lib.hid (K0.out.up hb4); have c0 := (HCINS.out _ _ _ _ HK4.out).cell 0; clear hb4)
          | (go_at_call 79; refine (HO.out _).mono ?_; rintro e w5 ⟨rfl, rfl⟩))
        go_loopw [18] (fun i wr => i = .int .i64 0 ∧ wr = w4) (fun _ _ => 0)
        case atStart => exact ⟨rfl, rfl⟩
        case round =>
          obtain ⟨rfl, rfl⟩ := hrel
          go_wp2
          go_ret
          exact ⟨by rw [HX2.out]; rfl, HK4.out.all⟩
      · obtain ⟨n, hn⟩ : ∃ n, (opsOf i.1).length = n := ⟨_, rfl⟩
        have hn0 : 0 < n := by rw [← hn]; exact List.length_pos_iff.2 ho
        have HO := Lib.hid (HOPS.out n hn hn0)
        have hn4 : n ≤ 4 := by rw [← hn]; exact HFEW.out
        have HN := Lib.hid hn
        rw [hn] at HX
        clear ho hn hn0
        go_enter Tryz.func50, Tryz.ntmps50
        go_upto_region 3 with (go_at_call 87; refine (HNAME.out _ (HW.out.below (two_below w _ _) HW.out.lt)).mono ?_; rintro e w' ⟨rfl, rfl⟩)
        go_wp2_with (first
          | (go_at_call 88; refine (HRI.out _ (HW.out.below (two_below w _ _) HW.out.lt)).mono ?_; rintro e w4 ⟨rfl, hb4⟩; have HK4 := Lib.hid (K0.out.up hb4); have c0 := (HCINS.out _ _ _ _ HK4.out).cell 0; clear hb4)
          | (go_at_call 79; refine (HO.out _).mono ?_; rintro e w5 ⟨rfl, hw5⟩))
        have HK5 : Hid (Ck w _ w5 (w.heap.size) (w.heap.size + 1) (.slice A1 a c1) (.slice A2 f c2) (.slice A3 p c3) (.slice A4 c c4) i) := Lib.hid (HK4.out.up (by rw [← hw5]; exact alloc_below w4 _))
        have HKND : Hid (∀ k, k < n → w5.cell? ⟨w4.heap.size, k, none⟩ = some (.int .i64 ((opsOf i.1).getD k 0))) := Lib.hid (fun k hk => by
          rw [← hw5, (Box.new w4 3 ((opsOf i.1).map (Value.int .i64)).toArray).cell k]
          have := HN.out
          simp [List.getD_eq_getElem?_getD, show k < (opsOf i.1).length by omega])
        have HLT5 : Hid (w4.heap.size < w5.heap.size) := Lib.hid (by rw [← hw5]; simp)
        obtain ⟨gk, hgk⟩ : ∃ gk, w4.heap.size = gk := ⟨_, rfl⟩
        rw [hgk] at HKND HLT5 ⊢
        obtain ⟨g3, hg3⟩ : ∃ g3, w.heap.size + 1 = g3 := ⟨_, rfl⟩
        rw [hg3] at HK5 ⊢
        obtain ⟨g2, hg2⟩ : ∃ g2, w.heap.size = g2 := ⟨_, rfl⟩
        rw [hg2] at HK5 ⊢
        have HG2 := Lib.hid hg2
        clear hw5 c0 HK4 hgk hg3 hg2
        go_loopw [18] (fun iv wr => ∃ k : Nat, k ≤ n ∧ iv = .int .i64 k ∧ Below w5.heap.size w5 wr ∧ ∀ j, j < k → thereB a f p c ((opsOf i.1).getD j 0) ((argOf i).getD j 0) = true) (fun iv _ => n - (intOf iv).toNat)
        case atStart => exact ⟨0, by omega, rfl, Below.refl _ _, fun j hj => absurd hj (by omega)⟩
        case round =>
          obtain ⟨k, hk, rfl, hbl, hall⟩ := hrel
          have HBL := Lib.hid hbl
          have HA := Lib.hid hall
          have HKR := Lib.hid (HK5.out.up hbl)
          clear hbl hall
          by_cases hlt : k < n
          · have hkc := (HBL.out.cell (p := ⟨gk, k, none⟩) HLT5.out).trans (HKND.out k hlt)
            have hac := HCARG.out _ _ _ _ HKR.out k (by omega)
            have o0 := HKR.out.obAt.cell 0
            have o1 := HKR.out.obAt.cell 1
            have o2 := HKR.out.obAt.cell 2
            have o3 := HKR.out.obAt.cell 3
            have HTH := Lib.hid (fun w => there_any A1 A2 A3 A4 a c1 f c2 p c3 c c4 ((opsOf i.1).getD k 0) ((argOf i).getD k 0) w)
            have d1 : decide ((k : Int) < (4 : Int)) = true := by rw [decide_eq_true_eq]; omega
            have HT2 : Hid (thereB a f p c ((opsOf i.1).getD k 0) ((argOf i).getD k 0) = false → ie = 9) := Lib.hid (fun h => by
              rw [HX.out, if_neg]
              intro h2
              rw [(list_all_take n _).1 h2 k hlt] at h
              cases h)
            have HT3 : Hid (thereB a f p c ((opsOf i.1).getD k 0) ((argOf i).getD k 0) = true → ∀ j, j < k + 1 → thereB a f p c ((opsOf i.1).getD j 0) ((argOf i).getD j 0) = true) := Lib.hid (fun h j hj => by
              by_cases e : j = k
              · rw [e]; exact h
              · exact HA.out j (by omega))
            generalize (opsOf i.1).getD k 0 = y at hkc HTH HT2 HT3
            generalize (argOf i).getD k 0 = x at hac HTH HT2 HT3
            generalize thereB a f p c y x = th at HTH HT2 HT3
            have d2 : (k : Int) < 4 := by omega
            have d3 : k < 4 := by omega
            have d4 : decide (k < 4) = true := by rw [decide_eq_true_eq]; omega
            have d5 : (0 : Int) ≤ (k : Int) := by omega
            have hS := And.intro (And.intro o0 o1) (And.intro (And.intro o2 o3) hac)
            clear o0 o1 o2 o3 hac
            go_upto_region 8 with (fail)
            have HG : Hid (g2 < wr.heap.size ∧ g3 < wr.heap.size) := Lib.hid ⟨HKR.out.obAt.lt, HKR.out.insAt.lt⟩
            have HB7 : Hid (Below wr.heap.size wr (wr.drewN 1)) := Lib.hid (bdrew0 wr 1)
            cases th
            · have HT := Lib.hid (HT2.out rfl)
              clear HT2 HT3
              go_region_held3 (fun w' => (w'.cell? ⟨g2, 0, none⟩ = some (.slice A1 a c1) ∧ w'.cell? ⟨g2, 1, none⟩ = some (.slice A2 f c2)) ∧ (w'.cell? ⟨g2, 2, none⟩ = some (.slice A3 p c3) ∧ w'.cell? ⟨g2, 3, none⟩ = some (.slice A4 c c4)) ∧ w'.cell? ⟨g3, 1 + k, none⟩ = some (.int .i64 x))
                (first | exact hS8 | exact hS)
                (first
                  | (go_at_call 89; refine (HTH.out _).mono ?_; rintro e w8 ⟨rfl, hb8⟩; have hS8 := five_up hb8 HG.out.1 HG.out.2 hS; replace HB7 := Lib.hid (HB7.out.trans (hb8.mono HB7.out.size)); clear hb8))
              go_wp2
              go_ret
              exact ⟨by rw [HT.out]; rfl, (HKR.out.up HB7.out).all⟩
            · have HT := Lib.hid (HT3.out rfl)
              clear HT2 HT3
              go_region_held3 (fun w' => (w'.cell? ⟨g2, 0, none⟩ = some (.slice A1 a c1) ∧ w'.cell? ⟨g2, 1, none⟩ = some (.slice A2 f c2)) ∧ (w'.cell? ⟨g2, 2, none⟩ = some (.slice A3 p c3) ∧ w'.cell? ⟨g2, 3, none⟩ = some (.slice A4 c c4)) ∧ w'.cell? ⟨g3, 1 + k, none⟩ = some (.int .i64 x))
                (first | exact hS8 | exact hS)
                (first
                  | (go_at_call 89; refine (HTH.out _).mono ?_; rintro e w8 ⟨rfl, hb8⟩; have hS8 := five_up hb8 HG.out.1 HG.out.2 hS; replace HB7 := Lib.hid (HB7.out.trans (hb8.mono HB7.out.size)); clear hb8))
              go_wp2
              go_roundw
              case rel => exact ⟨k + 1, by omega, by go_num, HBL.out.trans (HB7.out.mono HBL.out.size), HT.out⟩
              case measure => simp [intOf]; omega
          · obtain rfl : k = n := by omega
            have HT : Hid (ie = 0) := Lib.hid (by rw [HX.out, if_pos ((list_all_take _ _).2 HA.out)])
            go_wp2
            go_ret
            exact ⟨by rw [HT.out]; rfl, HKR.out.all⟩
  · have hnm : nameOf i.1 = ⟨#[]⟩ := if_neg hr
    have HNAME := Lib.hid (fun w hw => hnm ▸ name_any i.1 w hw)
    have HX : Hid (ie = 8) := Lib.hid (by rw [HIE.out, if_pos hr])
    clear hnm hr
    go_enter Tryz.func50, Tryz.ntmps50
    go_wp2_with (go_at_call 87; refine (HNAME.out _ (HW.out.below (two_below w _ _) HW.out.lt)).mono ?_; rintro e w' ⟨rfl, rfl⟩)
    go_ret
    exact ⟨by rw [HX.out]; rfl, K0.out.all⟩

end Go.Proofs.YtlmbiafloiompaaGreatDoor

namespace Go.Proofs.YtlmbiafloiompaaGreatDoor
open Go Go.RowKit Go.WideShapes Go.ChangeShapes
set_option linter.unusedVariables false
set_option linter.unusedSimpArgs false

def entOf (p : ByteArray × Int × Int) : Int := p.2.2
/-- What the first entries say: each may be, none (but None) is there twice. -/
def EntsTo (n : Nat) (es : List Int) : Prop := es.all (entryOk n) = true ∧ (es.filter (fun e => decide (e ≠ 65535))).Nodup

theorem ents_nil (n : Nat) : EntsTo n [] := ⟨rfl, by simp⟩
theorem ents_none {n : Nat} {es : List Int} (h : EntsTo n es) : EntsTo n (es ++ [65535]) := by
  refine ⟨by rw [List.all_append, h.1]; simp [entryOk], ?_⟩
  rw [List.filter_append]
  simpa using h.2
theorem ents_some {n : Nat} {es : List Int} {m : Nat} (h : EntsTo n es) (hm : m < n) (hn : (m : Int) ∉ es) : EntsTo n (es ++ [(m : Int)]) := by
  refine ⟨by rw [List.all_append, h.1]; simp [entryOk]; omega, ?_⟩
  rw [List.filter_append, List.nodup_append]
  refine ⟨h.2, (show [(m : Int)].Nodup by simp).sublist List.filter_sublist, fun a ha b hb => ?_⟩
  have h1 := (List.mem_filter.1 ha).1
  have h2 : b = (m : Int) := by simpa using (List.mem_filter.1 hb).1
  rintro rfl
  exact hn (h2 ▸ h1)
theorem ents_bad {n : Nat} {l : List Int} {k : Nat} (hk : k < l.length) (he : entryOk n l[k] = false) : entsOk n l = false := by
  unfold entsOk
  rw [all_not _ l k hk he]
  rfl
theorem ents_twice {n : Nat} {l : List Int} {k : Nat} (hk : k < l.length) (he : l[k] ≠ 65535) (hin : l[k] ∈ l.take k) : entsOk n l = false := by
  unfold entsOk
  have : ¬ (l.filter (fun e => decide (e ≠ 65535))).Nodup := fun hd => by
    have h2 : ((l.take (k + 1)).filter (fun e => decide (e ≠ 65535))).Nodup := hd.sublist ((List.take_sublist _ _).filter _)
    rw [List.take_succ_eq_append_getElem hk, List.filter_append, List.nodup_append] at h2
    exact h2.2.2 l[k] (List.mem_filter.2 ⟨hin, by simpa using he⟩) l[k] (by simp [he]) rfl
  rw [decide_eq_false this, Bool.and_false]
theorem ents_all {n : Nat} {l : List Int} (h : EntsTo n l) : entsOk n l = true := by
  unfold entsOk
  rw [h.1, decide_eq_true h.2]
  rfl

/-- What a round keeps: the object's box, the table of what is taken. -/
structure En (w wr : World) (g1 g2 : Nat) (va vf vp vc : Value) (es : List Int) : Prop where
  ob : Box wr g1 35 #[va, vf, vp, vc]
  tab : ∃ cs : Array Value, cs.size = 1024 ∧ Box wr g2 163 cs ∧ ∀ j : Nat, j < 1024 → cs[j]? = some (.bool (decide ((j : Int) ∈ es)))
  ne : g1 ≠ g2
  new1 : w.heap.size ≤ g1
  new2 : w.heap.size ≤ g2
  below : Below w.heap.size w wr
theorem En.alloc {w wr : World} {g1 g2 : Nat} {va vf vp vc : Value} {es : List Int} (h : En w wr g1 g2 va vf vp vc es) (o : Obj) : En w (wr.alloc o) g1 g2 va vf vp vc es := by
  obtain ⟨cs, h1, h2, h3⟩ := h.tab
  exact ⟨h.ob.alloc o, ⟨cs, h1, h2.alloc o, h3⟩, h.ne, h.new1, h.new2, h.below.alloc h.below.size o⟩
theorem En.same {w wr : World} {g1 g2 : Nat} {va vf vp vc : Value} {es es' : List Int} (h : En w wr g1 g2 va vf vp vc es) (he : ∀ j : Nat, j < 1024 → ((j : Int) ∈ es ↔ (j : Int) ∈ es')) : En w wr g1 g2 va vf vp vc es' := by
  obtain ⟨cs, h1, h2, h3⟩ := h.tab
  refine ⟨h.ob, ⟨cs, h1, h2, fun j hj => ?_⟩, h.ne, h.new1, h.new2, h.below⟩
  rw [h3 j hj]
  simp [he j hj]
theorem En.cell {w wr : World} {g1 g2 : Nat} {va vf vp vc : Value} {es : List Int} (h : En w wr g1 g2 va vf vp vc es) (m : Nat) (hm : m < 1024) : wr.cell? ⟨g2, m, none⟩ = some (.bool (decide ((m : Int) ∈ es))) ∧ wr.frozen? ⟨g2, m, none⟩ = false := by
  obtain ⟨cs, h1, h2, h3⟩ := h.tab
  exact ⟨(h2.cell m).trans (h3 m hm), h2.frozen m⟩
theorem En.set {w wr : World} {g1 g2 : Nat} {va vf vp vc : Value} {es : List Int} (h : En w wr g1 g2 va vf vp vc es) (m : Nat) (hm : m < 1024) : En w (wr.setCell ⟨g2, m, none⟩ (.bool true)) g1 g2 va vf vp vc (es ++ [(m : Int)]) := by
  obtain ⟨cs, h1, h2, h3⟩ := h.tab
  refine ⟨h.ob.far h.ne _, ⟨cs.setIfInBounds m (.bool true), by simp [h1], h2.set_ m _, fun j hj => ?_⟩, h.ne, h.new1, h.new2, h.below.setCell (p := ⟨g2, m, none⟩) h.new2 _⟩
  rw [Array.getElem?_setIfInBounds]
  by_cases e : m = j
  · subst e
    simp [h1, hm]
  · rw [if_neg e, h3 j hj]
    have : ¬ (j : Int) = (m : Int) := by omega
    simp [this]

def isFalseV : Value → Bool
  | .bool false => true
  | _ => false
theorem isFalseV_eq {v : Value} (h : isFalseV v = true) : v = .bool false := by
  unfold isFalseV at h
  split at h
  · rfl
  · cases h
theorem zero1024_size : Tryz.zeroCells163.size = 1024 := by kernel_rfl
theorem zero1024_all : (Tryz.zeroCells163.toList.all isFalseV) = true := by kernel_rfl
theorem zero1024_at (j : Nat) (h : j < 1024) : Tryz.zeroCells163[j]? = some (.bool false) := by
  have hj : j < Tryz.zeroCells163.size := by rw [zero1024_size]; exact h
  rw [Array.getElem?_eq_getElem hj]
  have h1 := List.all_eq_true.1 zero1024_all (Tryz.zeroCells163[j]) (Array.getElem_mem_toList hj)
  rw [isFalseV_eq h1]

theorem en_start (w : World) (va vf vp vc : Value) : En w ((w.alloc (.cells #[va, vf, vp, vc] 35)).alloc (.cells Tryz.zeroCells163 163)) w.heap.size (w.heap.size + 1) va vf vp vc [] := by
  have h := Box.new (w.alloc (.cells #[va, vf, vp, vc] 35)) 163 Tryz.zeroCells163
  rw [World.size_alloc] at h
  exact ⟨(Box.new w _ _).alloc _, ⟨_, zero1024_size, h, fun j hj => by rw [zero1024_at j hj]; simp⟩, by omega, Nat.le_refl _, by omega, two_below w _ _⟩

set_option maxRecDepth 100000 in
set_option maxHeartbeats 4000000 in
theorem entries_any (A1 A2 A4 : Option Addr) (a c1 f c2 c c4 : Nat) (l : List (ByteArray × Int × Int)) (hm : l.length ≤ 1000000) (hc : c ≤ 1024) (vp : Value) (w : World) (hv : PredsAt w vp l) :
    Calls Tryz.prog 49 #[.agg #[.slice A1 a c1, .slice A2 f c2, vp, .slice A4 c c4]] w fun e w' => e = .returned (.bool (entsOk c (l.map entOf))) ∧ Below w.heap.size w w' := by
  obtain ⟨A3, c3, rfl⟩ := CellsAt.form hv
  have HV := Lib.hid hv
  clear hv
  go_enter Tryz.func49, Tryz.ntmps49
  go_upto_region 2 with (fail)
  have E0 := Lib.hid (en_start w (.slice A1 a c1) (.slice A2 f c2) (.slice A3 l.length c3) (.slice A4 c c4))
  obtain ⟨w0, hw0⟩ : ∃ w0, (w.alloc (.cells #[.slice A1 a c1, .slice A2 f c2, .slice A3 l.length c3, .slice A4 c c4] 35)).alloc (.cells Tryz.zeroCells163 163) = w0 := ⟨_, rfl⟩
  rw [hw0] at E0 ⊢
  obtain ⟨g2, hg2⟩ : ∃ g2, w.heap.size + 1 = g2 := ⟨_, rfl⟩
  rw [hg2] at E0 ⊢
  obtain ⟨g1, hg1⟩ : ∃ g1, w.heap.size = g1 := ⟨_, rfl⟩
  rw [hg1] at E0 ⊢
  clear hw0 hg2 hg1
  have q2 := E0.out.ob.cell 2
  go_wp2
  clear q2
  go_loopw [9] (fun i wr => ∃ k : Nat, k ≤ l.length ∧ i = .int .i64 k ∧ Hid (EntsTo c ((l.map entOf).take k)) ∧ Hid (En w wr g1 g2 (.slice A1 a c1) (.slice A2 f c2) (.slice A3 l.length c3) (.slice A4 c c4) ((l.map entOf).take k))) (fun i _ => l.length - (intOf i).toNat)
  case atStart => exact ⟨0, by omega, rfl, Lib.hid (ents_nil c), E0⟩
  case round =>
    obtain ⟨k, hk, rfl, HT, HE⟩ := hrel
    clear E0
    by_cases hlt : k < l.length
    · obtain ⟨b, off, rfl, hb, hc0, hc1, hc2⟩ := predCell HV.out k hlt
      have d0 := (HE.out.below.cell (p := ⟨b, off + k * 3, none⟩) hb).trans hc0
      have d1 := (HE.out.below.cell (p := ⟨b, off + k * 3 + 1, none⟩) hb).trans hc1
      have d2 := (HE.out.below.cell (p := ⟨b, off + k * 3 + 2, none⟩) hb).trans hc2
      have hkl : k < (l.map entOf).length := by rw [List.length_map]; exact hlt
      have hge : (l.map entOf)[k] = l[k].2.2 := by rw [List.getElem_map]; rfl
      have HTK : Hid ((l.map entOf).take (k + 1) = (l.map entOf).take k ++ [l[k].2.2]) := Lib.hid (by rw [List.take_succ_eq_append_getElem hkl, hge])
      have HBAD : Hid (entryOk c l[k].2.2 = false → entsOk c (l.map entOf) = false) := Lib.hid (fun h => ents_bad hkl (by rw [hge]; exact h))
      have HTW : Hid (l[k].2.2 ≠ 65535 → l[k].2.2 ∈ (l.map entOf).take k → entsOk c (l.map entOf) = false) := Lib.hid (fun h1 h2 => ents_twice hkl (by rw [hge]; exact h1) (by rw [hge]; exact h2))
      clear hc0 hc1 hc2 hge hkl
      generalize l[k].1 = s at d0
      generalize l[k].2.1 = n at d1
      generalize l[k].2.2 = e at d2 HTK HBAD HTW
      have HE2 := Lib.hid (HE.out.alloc (.cells #[.string s, .int .i64 n, .int .i64 e] 64))
      by_cases hn : e = 65535
      · subst hn
        have HN1 : Hid (EntsTo c ((l.map entOf).take (k + 1))) := Lib.hid (by rw [HTK.out]; exact ents_none HT.out)
        have HN2 := Lib.hid (HE2.out.same (es' := (l.map entOf).take (k + 1)) (fun j hj => by rw [HTK.out]; simp; omega))
        go_wp2
        go_roundw
        case rel => exact ⟨k + 1, by omega, by go_num, HN1, HN2⟩
        case measure => simp [intOf]; omega
      · have hne : (e == 65535) = false := by simpa using hn
        have x3 := (HE.out.ob.alloc (.cells #[.string s, .int .i64 n, .int .i64 e] 64)).cell 3
        by_cases hin : 0 ≤ e ∧ e < (c : Int)
        · obtain ⟨m, rfl⟩ := Int.eq_ofNat_of_zero_le hin.1
          have hmc : m < c := by omega
          have hm1024 : m < 1024 := by omega
          obtain ⟨y0, y1⟩ := HE2.out.cell m hm1024
          have hwi := fun w => (within_any (m : Int) (c : Int) w).mono (R' := fun e w' => e = .returned (.bool true) ∧ w = w') (fun e w' h => ⟨by rw [h.1, decide_eq_true hin], h.2⟩)
          have HWI := Lib.hid hwi
          have z1 : (m : Int) < 1024 := by omega
          have z2 : (0 : Int) ≤ (m : Int) := by omega
          have HSET := Lib.hid (HE2.out.set m hm1024)
          clear hin hwi
          by_cases ht : (m : Int) ∈ (l.map entOf).take k
          · rw [decide_eq_true ht] at y0
            have HX := Lib.hid (HTW.out hn ht)
            clear ht hn
            go_wp2_with (go_at_call 86; refine (HWI.out _).mono ?_; rintro e w' ⟨rfl, rfl⟩)
            go_ret
            exact ⟨by rw [HX.out]; rfl, HE2.out.below⟩
          · rw [decide_eq_false ht] at y0
            have HN1 : Hid (EntsTo c ((l.map entOf).take (k + 1))) := Lib.hid (by rw [HTK.out]; exact ents_some HT.out hmc ht)
            rw [← HTK.out] at HSET
            clear ht hn
            go_wp2_with (go_at_call 86; refine (HWI.out _).mono ?_; rintro e w' ⟨rfl, rfl⟩)
            go_roundw
            case rel => exact ⟨k + 1, by omega, by go_num, HN1, HSET⟩
            case measure => simp [intOf]; omega
        · have hwi := fun w => (within_any e (c : Int) w).mono (R' := fun e w' => e = .returned (.bool false) ∧ w = w') (fun e w' h => ⟨by rw [h.1, decide_eq_false hin], h.2⟩)
          have HWI := Lib.hid hwi
          have HX := Lib.hid (HBAD.out (by unfold entryOk; rw [decide_eq_false_iff_not]; omega))
          clear hwi hin hn
          go_wp2_with (go_at_call 86; refine (HWI.out _).mono ?_; rintro e w' ⟨rfl, rfl⟩)
          go_ret
          exact ⟨by rw [HX.out]; rfl, HE2.out.below⟩
    · obtain rfl : k = l.length := by omega
      have HX : Hid (entsOk c (l.map entOf) = true) := Lib.hid (by
        have h := HT.out
        rw [List.take_of_length_le (by simp)] at h
        exact ents_all h)
      go_wp2
      go_ret
      exact ⟨by rw [HX.out]; rfl, HE.out.below⟩

end Go.Proofs.YtlmbiafloiompaaGreatDoor
