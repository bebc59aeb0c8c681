/-
  AreaActs, walked: for every room and every list of ops it returns true, and turns nothing that was there. Condition: the ops read as data.
-/
import Derived.Test.YtakbahnmlkphcaaActsB
import Derived.Deep.DeepCutAuto
import Derived.Deep.CutBlock
import Derived.Deep.RegionHeld3
import Derived.IntWalk
namespace Go.Proofs.Ytakbahnmlkphcaa
open Go Go.RowKit
set_option linter.unusedVariables false
set_option maxRecDepth 100000

theorem u64_nn (x : Int) : 0 ≤ IntKind.u64.wrap x := by
  have h : IntKind.u64.wrap x = x % 18446744073709551616 := by simp [IntKind.wrap, IntKind.bits, IntKind.signed]
  rw [h]
  omega

/-- What is left of a number by m, 0 < m. -/
theorem u64_tmod (x m : Int) (hm : 0 < m) : ∃ q, (IntKind.u64.wrap x).tmod m = q ∧ 0 ≤ q ∧ q < m := by
  refine ⟨_, rfl, Int.tmod_nonneg _ (u64_nn x), ?_⟩
  rw [Int.tmod_eq_emod_of_nonneg (u64_nn x)]
  exact Int.emod_lt_of_pos _ hm

/-- The op in place i of the list. -/
def OpIn (w : World) (oa : Option Addr) (i : Nat) : Prop :=
  ∃ (b off : Nat) (k t c : Int) (r : Bool), oa = some ⟨b, off, none⟩ ∧ b < w.heap.size ∧ (Lit.int .u64 c).wf = true ∧ (Lit.int .i64 t).wf = true ∧
    w.cell? ⟨b, off + i * 4, none⟩ = some (.int .i64 k) ∧ w.cell? ⟨b, off + i * 4 + 1, none⟩ = some (.int .i64 t) ∧ w.cell? ⟨b, off + i * 4 + 2, none⟩ = some (.int .u64 c) ∧ w.cell? ⟨b, off + i * 4 + 3, none⟩ = some (.bool r)

set_option maxHeartbeats 8000000 in
theorem acts_any {w : World} {oa : Option Addr} {len cap : Nat} (room : Int) (hops : ∀ i, i < len → OpIn w oa i) (hlen : len ≤ 9223372036854775807) (hcap : len ≤ cap) :
    Calls Try.prog 3 #[.int .i64 room, .slice oa len cap] w fun e w' => e = .returned (.bool true) ∧ Below w.heap.size w w' := by
  have HO := Lib.hid hops
  clear hops
  obtain ⟨q, hq, hq0, hq1⟩ := u64_tmod room 20 (by omega)
  go_enter Try.func3, Try.ntmps3
  go_wp2_with fail
  refine (new_ok q _ (by omega) (by omega)).mono ?_
  rintro e w' ⟨rfl, rfl⟩
  clear hq
  have hA0 := Ar.new w (Nat.le_refl w.heap.size) q
  have hB0 : Below w.heap.size w (w.alloc (.cells #[.slice none 0 0, .int .i64 q] 57)) := (Below.refl _ w).alloc (Nat.le_refl _) _
  obtain ⟨w0, hw0⟩ : ∃ w0, w.alloc (.cells #[.slice none 0 0, .int .i64 q] 57) = w0 := ⟨_, rfl⟩
  rw [hw0] at hA0 hB0 ⊢
  clear hw0
  go_wp2_with fail
  refine (told_yes _).mono ?_
  rintro e w1 ⟨rfl, hb1⟩
  have hA1 := hA0.below hb1
  have hB1 := hB0.trans (hb1.mono hB0.size)
  have hAlt := hA1.1.lt
  clear hA0 hb1 hB0
  go_wp2_with fail
  have h2 : Hid (Both w ((w1.alloc (.cells #[.pointer (some ⟨w.heap.size, 0, none⟩)] 30)).alloc (.cells #[.slice none 0 0, .int .i64 q] 34)) q w.heap.size w1.heap.size (w1.heap.size + 1) (.slice none 0 0) (.slice none 0 0) [] []) := by
    have hs := hB1.size
    refine ⟨(hA1.alloc _).alloc _, ⟨?_, by omega, World.ownsRow_nil _ _ _ _⟩, (Box.new _ _ _).alloc _, by omega, (hB1.alloc hs _).alloc (by simp; omega) _⟩
    have := Box.new (w1.alloc (.cells #[.pointer (some ⟨w.heap.size, 0, none⟩)] 30)) 34 #[.slice none 0 0, .int .i64 q]
    simpa using this
  obtain ⟨w2, hw2⟩ : ∃ w2, (w1.alloc (.cells #[.pointer (some ⟨w.heap.size, 0, none⟩)] 30)).alloc (.cells #[.slice none 0 0, .int .i64 q] 34) = w2 := ⟨_, rfl⟩
  obtain ⟨ga, hga⟩ : ∃ ga, w.heap.size = ga := ⟨_, rfl⟩
  obtain ⟨gr, hgr⟩ : ∃ gr, w1.heap.size = gr := ⟨_, rfl⟩
  obtain ⟨gw, hgw⟩ : ∃ gw, w1.heap.size + 1 = gw := ⟨_, rfl⟩
  have h3 : Hid (Both w w2 q ga gr gw (.slice none 0 0) (.slice none 0 0) [] []) := by
    rw [← hw2, ← hga, ← hgr, ← hgw]
    exact h2
  clear h2 hA1 hB1 hAlt
  rw [hw2, hgw, hgr, hga]
  clear hw2 hgw hgr hga
  go_loopw [10] (fun i wr => ∃ (k : Nat) (va vw : Value) (xs : List Int), k ≤ len ∧ i = .int .i64 k ∧ xs.length ≤ q ∧ Hid (Both w wr q ga gr gw va vw xs xs)) (fun i _ => len - (intOf i).toNat)
  case atStart => exact ⟨0, _, _, [], Nat.zero_le _, rfl, by simpa using hq0, h3⟩
  case round =>
    obtain ⟨k, va, vw, xs, hk, rfl, hx, hB⟩ := hrel
    clear h3
    by_cases hlt : k < len ∧ k < 100
    · obtain ⟨hlt, h100⟩ := hlt
      obtain ⟨b, off, kk, t, c, r, rfl, hb, hcw, htw, o0, o1, o2, o3⟩ := HO.out k hlt
      have hbl := hB.out.below
      have p0 := (hbl.cell (p := ⟨b, off + k * 4, none⟩) hb).trans o0
      have p1 := (hbl.cell (p := ⟨b, off + k * 4 + 1, none⟩) hb).trans o1
      have p2 := (hbl.cell (p := ⟨b, off + k * 4 + 2, none⟩) hb).trans o2
      have p3 := (hbl.cell (p := ⟨b, off + k * 4 + 3, none⟩) hb).trans o3
      have HC := Lib.hid hcw
      clear o0 o1 o2 o3 hbl hcw htw
      go_upto_region 12 with fail
      have hgo := Box.new wr 36 #[.int .i64 kk, .int .i64 t, .int .u64 c, .bool r]
      have hBo := hB.out.alloc (.cells #[.int .i64 kk, .int .i64 t, .int .u64 c, .bool r] 36)
      obtain ⟨wo, hwo⟩ : ∃ wo, wr.alloc (.cells #[.int .i64 kk, .int .i64 t, .int .u64 c, .bool r] 36) = wo := ⟨_, rfl⟩
      obtain ⟨go, hgo2⟩ : ∃ go, wr.heap.size = go := ⟨_, rfl⟩
      rw [hwo, hgo2] at hgo
      rw [hwo] at hBo
      rw [hwo, hgo2]
      have HG := Lib.hid hgo
      have HBo := Lib.hid hBo
      clear hwo hgo hBo hgo2 p0 p1 p2 p3 hB
      go_cut [13] (fun s wc => s = .bool (getOk xs t) ∧ Hid (Both w wc q ga gr gw va vw xs xs) ∧ Hid (Box wc go 36 #[.int .i64 kk, .int .i64 t, .int .u64 c, .bool r]))
      case first =>
        have k1 : wo.cell? ⟨go, 1, none⟩ = some (.int .i64 t) := HG.out.cell 1
        obtain ⟨A, cw, hvw, _⟩ := own_form HBo.out.rf.2.2
        have k2 : wo.cell? ⟨gw, 0, none⟩ = some (.slice A xs.length cw) := by
          rw [← hvw]
          exact HBo.out.rf.1.cell 0
        clear hvw
        by_cases t0 : 0 ≤ t
        · by_cases t1 : t < xs.length
          · have e1 : getOk xs t = true := by simp [getOk, t0, t1]
            have E1 := Lib.hid e1
            clear e1
            go_quiet (fail)
            go_wp2
            go_meet
            exact ⟨by rw [E1.out], HBo.out.drewN _, HG.out.drewN _⟩
          · have d1 : decide (t < (xs.length : Int)) = false := by simpa using t1
            have e1 : getOk xs t = false := by simp [getOk]; omega
            have E1 := Lib.hid e1
            clear e1 t1
            go_quiet (fail)
            go_wp2
            go_meet
            exact ⟨by rw [E1.out], HBo.out.drewN _, HG.out.drewN _⟩
        · have d0 : decide (0 ≤ t) = false := by simpa using t0
          have e1 : getOk xs t = false := by simp [getOk]; omega
          have E1 := Lib.hid e1
          clear e1 t0
          go_quiet (fail)
          go_wp2
          go_meet
          exact ⟨by rw [E1.out], HBo.out.drewN _, HG.out.drewN _⟩
      case rest =>
        obtain ⟨rfl, HB1, HG1⟩ := hcut
        clear HG HBo
        obtain ⟨z, hz, hz0, hz1⟩ := u64_tmod kk 4 (by omega)
        have k0 : wc.cell? ⟨go, 0, none⟩ = some (.int .i64 kk) := HG1.out.cell 0
        go_upto_block 2 with fail
        clear hz k0
        go_cut [13, 14, 15, 16, 17] (fun s13 s14 s15 s16 s17 wn => ∃ (va' vw' : Value) (xs' : List Int), (xs'.length : Int) ≤ q ∧ Hid (Both w wn q ga gr gw va' vw' xs' xs'))
        case first =>
          have k1 : wc.cell? ⟨go, 1, none⟩ = some (.int .i64 t) := HG1.out.cell 1
          have k2 : wc.cell? ⟨go, 2, none⟩ = some (.int .u64 c) := HG1.out.cell 2
          have k3 : wc.cell? ⟨go, 3, none⟩ = some (.bool r) := HG1.out.cell 3
          have hm : xs.length ≤ 65536 := by omega
          obtain ⟨A, cw, hvw, _⟩ := own_form HB1.out.rf.2.2
          subst hvw
          have k4 : wc.cell? ⟨gw, 0, none⟩ = some (.slice A xs.length cw) := HB1.out.rf.1.cell 0
          have k5 : wc.cell? ⟨gr, 0, none⟩ = some (.pointer (some ⟨ga, 0, none⟩)) := HB1.out.raw.cell 0
          have hq6 : q ≤ 65536 := by omega
          rcases (show z = 0 ∨ z = 1 ∨ z = 2 ∨ z = 3 by omega) with z0 | z1 | z2 | z3
          · subst z0
            by_cases hraw : r = true ∧ (xs.length : Int) < q ∧ cellOk c = true
            · as_aux_lemma =>
                obtain ⟨rfl, hlq, hco⟩ := hraw
                have HCo := Lib.hid hco
                clear hco k1
                go_upto_region 16 with (go_at_call 7; refine (right_is _ HC.out HCo.out _).mono ?_; rintro e w' ⟨rfl, rfl⟩)
                go_region_with (first
                  | (go_at_call 8; refine (badd (HB1.out.drewN 1) (HG1.out.drewN 1) hlq hq6 HCo.out).mono ?_; rintro e w4 ⟨rfl, va4, hB4, hX1⟩; have k6 : w4.cell? ⟨gw, 0, none⟩ = some (.slice A xs.length cw) := hB4.rf.1.cell 0; have k7 : w4.cell? ⟨go, 2, none⟩ = some (.int .u64 c) := hX1.cell 2)
                  | (go_at_call 9; refine (wpush_true hB4 hX1 hlq hq6 HC.out HCo.out).mono ?_; rintro e w5 ⟨rfl, vw5, hB5, hX2⟩))
                all_goals
                  go_wp2_with fail
                  go_meet
                  exact ⟨va4, vw5, pushed xs q c, pushed_len hx, hB5⟩
            · as_aux_lemma =>
                have HP : Hid (r = false ∨ ¬ (xs.length : Int) < q ∨ cellOk c = false) := by
                  by_cases h1 : r = true
                  · by_cases h2 : (xs.length : Int) < q
                    · exact .inr (.inr (by simpa using fun h3 => hraw ⟨h1, h2, h3⟩))
                    · exact .inr (.inl h2)
                  · exact .inl (by simpa using h1)
                clear hraw
                have hlast : ∀ b : Bool, (b != b) = false := by simp
                rcases HP.out with hr | hr | hr
                · subst hr
                  clear HP k1 k4 k5
                  go_upto_region 18 with fail
                  clear k3
                  go_region_held3 (fun w' => w'.cell? ⟨go, 2, none⟩ = some (.int .u64 c)) (first | exact hX1.cell 2 | exact (HG1.out.drewN 1).cell 2)
                    (first
                      | (go_at_call 10; refine (bpush (HB1.out.drewN 1) (HG1.out.drewN 1) hx hq6 HC.out).mono ?_; rintro e w4 ⟨rfl, va4, hB4, hX1⟩)
                      | (go_at_call 9; refine (wpush hB4 hX1 hx hq6 HC.out).mono ?_; rintro e w5 ⟨rfl, vw5, hB5, hX1⟩))
                  go_wp2_with fail
                  go_meet
                  exact ⟨va4, vw5, pushed xs q c, pushed_len hx, hB5⟩
                · have hr2 : q ≤ (xs.length : Int) := by omega
                  clear HP k1 k5 hr
                  cases r
                  · clear k4
                    go_upto_region 18 with fail
                    clear k3
                    go_region_held3 (fun w' => w'.cell? ⟨go, 2, none⟩ = some (.int .u64 c)) (first | exact hX1.cell 2 | exact (HG1.out.drewN 1).cell 2)
                      (first
                        | (go_at_call 10; refine (bpush (HB1.out.drewN 1) (HG1.out.drewN 1) hx hq6 HC.out).mono ?_; rintro e w4 ⟨rfl, va4, hB4, hX1⟩)
                        | (go_at_call 9; refine (wpush hB4 hX1 hx hq6 HC.out).mono ?_; rintro e w5 ⟨rfl, vw5, hB5, hX1⟩))
                    go_wp2_with fail
                    go_meet
                    exact ⟨va4, vw5, pushed xs q c, pushed_len hx, hB5⟩
                  · go_upto_region 18 with fail
                    clear k3 k4
                    go_region_held3 (fun w' => w'.cell? ⟨go, 2, none⟩ = some (.int .u64 c)) (first | exact hX1.cell 2 | exact (HG1.out.drewN 1).cell 2)
                      (first
                        | (go_at_call 10; refine (bpush (HB1.out.drewN 1) (HG1.out.drewN 1) hx hq6 HC.out).mono ?_; rintro e w4 ⟨rfl, va4, hB4, hX1⟩)
                        | (go_at_call 9; refine (wpush hB4 hX1 hx hq6 HC.out).mono ?_; rintro e w5 ⟨rfl, vw5, hB5, hX1⟩))
                    go_wp2_with fail
                    go_meet
                    exact ⟨va4, vw5, pushed xs q c, pushed_len hx, hB5⟩
                · have HCo := Lib.hid hr
                  clear HP k1 k5 hr
                  cases r
                  · clear k4
                    go_upto_region 18 with fail
                    clear k3
                    go_region_held3 (fun w' => w'.cell? ⟨go, 2, none⟩ = some (.int .u64 c)) (first | exact hX1.cell 2 | exact (HG1.out.drewN 1).cell 2)
                      (first
                        | (go_at_call 10; refine (bpush (HB1.out.drewN 1) (HG1.out.drewN 1) hx hq6 HC.out).mono ?_; rintro e w4 ⟨rfl, va4, hB4, hX1⟩)
                        | (go_at_call 9; refine (wpush hB4 hX1 hx hq6 HC.out).mono ?_; rintro e w5 ⟨rfl, vw5, hB5, hX1⟩))
                    go_wp2_with fail
                    go_meet
                    exact ⟨va4, vw5, pushed xs q c, pushed_len hx, hB5⟩
                  · by_cases hlq : (xs.length : Int) < q
                    · go_upto_region 18 with (go_at_call 7; refine (right_is _ HC.out HCo.out _).mono ?_; rintro e w' ⟨rfl, rfl⟩)
                      clear k3 k4
                      go_region_held3 (fun w' => w'.cell? ⟨go, 2, none⟩ = some (.int .u64 c)) (first | exact hX1.cell 2 | exact (HG1.out.drewN 1).cell 2)
                        (first
                          | (go_at_call 10; refine (bpush (HB1.out.drewN 1) (HG1.out.drewN 1) hx hq6 HC.out).mono ?_; rintro e w4 ⟨rfl, va4, hB4, hX1⟩)
                          | (go_at_call 9; refine (wpush hB4 hX1 hx hq6 HC.out).mono ?_; rintro e w5 ⟨rfl, vw5, hB5, hX1⟩))
                      go_wp2_with fail
                      go_meet
                      exact ⟨va4, vw5, pushed xs q c, pushed_len hx, hB5⟩
                    · go_upto_region 18 with fail
                      clear k3 k4
                      go_region_held3 (fun w' => w'.cell? ⟨go, 2, none⟩ = some (.int .u64 c)) (first | exact hX1.cell 2 | exact (HG1.out.drewN 1).cell 2)
                        (first
                          | (go_at_call 10; refine (bpush (HB1.out.drewN 1) (HG1.out.drewN 1) hx hq6 HC.out).mono ?_; rintro e w4 ⟨rfl, va4, hB4, hX1⟩)
                          | (go_at_call 9; refine (wpush hB4 hX1 hx hq6 HC.out).mono ?_; rintro e w5 ⟨rfl, vw5, hB5, hX1⟩))
                      go_wp2_with fail
                      go_meet
                      exact ⟨va4, vw5, pushed xs q c, pushed_len hx, hB5⟩
          · subst z1
            as_aux_lemma =>
              by_cases ht : 0 ≤ t ∧ t < (xs.length : Int)
              · have hg : getOk xs t = true := decide_eq_true ht
                obtain ⟨t0, t1⟩ := ht
                clear k2 k3 k4
                go_wp2_with (first
                  | (go_at_call 11; refine (bget HB1.out hm).mono ?_; rintro e w' ⟨rfl, rfl⟩)
                  | (go_at_call 12; refine (wget HB1.out hm).mono ?_; rintro e w' ⟨rfl, rfl⟩)
                  | (go_at_call 13; refine (bat HB1.out hm t0 t1).mono ?_; rintro e w4 ⟨rfl, hb4⟩))
                go_meet
                exact ⟨_, _, xs, hx, HB1.out.fresh hb4⟩
              · have hg : getOk xs t = false := decide_eq_false ht
                clear k2 k3 k4 k5 ht
                go_wp2_with (first
                  | (go_at_call 11; refine (bget HB1.out hm).mono ?_; rintro e w' ⟨rfl, rfl⟩)
                  | (go_at_call 12; refine (wget HB1.out hm).mono ?_; rintro e w' ⟨rfl, rfl⟩))
                go_meet
                exact ⟨_, _, xs, hx, HB1⟩
          · subst z2
            as_aux_lemma =>
              by_cases hraw : r = true ∧ getOk xs t = true ∧ cellOk c = true
              · obtain ⟨rfl, hg, hco⟩ := hraw
                have hgt : 0 ≤ t ∧ t < (xs.length : Int) := by simpa [getOk] using hg
                obtain ⟨t0, t1⟩ := hgt
                have HCo := Lib.hid hco
                clear hco k4
                go_wp2_with (first
                  | (go_at_call 7; refine (right_is _ HC.out HCo.out _).mono ?_; rintro e w' ⟨rfl, rfl⟩)
                  | (go_at_call 14; refine (bput HB1.out HG1.out hm t0 t1 HCo.out).mono ?_; rintro e w4 ⟨rfl, va4, hB4, hX1⟩; have k6 : w4.cell? ⟨go, 1, none⟩ = some (.int .i64 t) := hX1.cell 1; have k7 : w4.cell? ⟨go, 2, none⟩ = some (.int .u64 c) := hX1.cell 2)
                  | (go_at_call 15; refine (wset hB4 hX1 hm HC.out).mono ?_; rintro e w5 ⟨rfl, vw5, hB5, hX2⟩))
                go_meet
                exact ⟨va4, vw5, wasSet xs t c, wasSet_len hx, hB5⟩
              · have HP : Hid (r = false ∨ getOk xs t = false ∨ cellOk c = false) := by
                  by_cases h1 : r = true
                  · by_cases h2 : getOk xs t = true
                    · exact .inr (.inr (by simpa using fun h3 => hraw ⟨h1, h2, h3⟩))
                    · exact .inr (.inl (by simpa using h2))
                  · exact .inl (by simpa using h1)
                clear hraw k4 k5
                rcases HP.out with hr | hr | hr
                · subst hr
                  clear HP
                  go_upto_region 29 with fail
                  clear k3
                  go_region_held3 (fun w' => w'.cell? ⟨go, 1, none⟩ = some (.int .i64 t) ∧ w'.cell? ⟨go, 2, none⟩ = some (.int .u64 c)) (first | exact ⟨hX1.cell 1, hX1.cell 2⟩ | exact ⟨(HG1.out.drewN 1).cell 1, (HG1.out.drewN 1).cell 2⟩)
                    (first
                      | (go_at_call 16; refine (bset (HB1.out.drewN 1) (HG1.out.drewN 1) hm HC.out).mono ?_; rintro e w4 ⟨rfl, va4, hB4, hX1⟩)
                      | (go_at_call 15; refine (wset hB4 hX1 hm HC.out).mono ?_; rintro e w5 ⟨rfl, vw5, hB5, hX1⟩))
                  go_wp2_with fail
                  go_meet
                  exact ⟨va4, vw5, wasSet xs t c, wasSet_len hx, hB5⟩
                · clear HP
                  cases r
                  · go_upto_region 29 with fail
                    clear k3 hr
                    go_region_held3 (fun w' => w'.cell? ⟨go, 1, none⟩ = some (.int .i64 t) ∧ w'.cell? ⟨go, 2, none⟩ = some (.int .u64 c)) (first | exact ⟨hX1.cell 1, hX1.cell 2⟩ | exact ⟨(HG1.out.drewN 1).cell 1, (HG1.out.drewN 1).cell 2⟩)
                      (first
                        | (go_at_call 16; refine (bset (HB1.out.drewN 1) (HG1.out.drewN 1) hm HC.out).mono ?_; rintro e w4 ⟨rfl, va4, hB4, hX1⟩)
                        | (go_at_call 15; refine (wset hB4 hX1 hm HC.out).mono ?_; rintro e w5 ⟨rfl, vw5, hB5, hX1⟩))
                    go_wp2_with fail
                    go_meet
                    exact ⟨va4, vw5, wasSet xs t c, wasSet_len hx, hB5⟩
                  · go_upto_region 29 with fail
                    clear k3 hr
                    go_region_held3 (fun w' => w'.cell? ⟨go, 1, none⟩ = some (.int .i64 t) ∧ w'.cell? ⟨go, 2, none⟩ = some (.int .u64 c)) (first | exact ⟨hX1.cell 1, hX1.cell 2⟩ | exact ⟨(HG1.out.drewN 1).cell 1, (HG1.out.drewN 1).cell 2⟩)
                      (first
                        | (go_at_call 16; refine (bset (HB1.out.drewN 1) (HG1.out.drewN 1) hm HC.out).mono ?_; rintro e w4 ⟨rfl, va4, hB4, hX1⟩)
                        | (go_at_call 15; refine (wset hB4 hX1 hm HC.out).mono ?_; rintro e w5 ⟨rfl, vw5, hB5, hX1⟩))
                    go_wp2_with fail
                    go_meet
                    exact ⟨va4, vw5, wasSet xs t c, wasSet_len hx, hB5⟩
                · have HCo := Lib.hid hr
                  clear HP hr
                  cases r
                  · go_upto_region 29 with fail
                    clear k3
                    go_region_held3 (fun w' => w'.cell? ⟨go, 1, none⟩ = some (.int .i64 t) ∧ w'.cell? ⟨go, 2, none⟩ = some (.int .u64 c)) (first | exact ⟨hX1.cell 1, hX1.cell 2⟩ | exact ⟨(HG1.out.drewN 1).cell 1, (HG1.out.drewN 1).cell 2⟩)
                      (first
                        | (go_at_call 16; refine (bset (HB1.out.drewN 1) (HG1.out.drewN 1) hm HC.out).mono ?_; rintro e w4 ⟨rfl, va4, hB4, hX1⟩)
                        | (go_at_call 15; refine (wset hB4 hX1 hm HC.out).mono ?_; rintro e w5 ⟨rfl, vw5, hB5, hX1⟩))
                    go_wp2_with fail
                    go_meet
                    exact ⟨va4, vw5, wasSet xs t c, wasSet_len hx, hB5⟩
                  · by_cases hg : getOk xs t = true
                    · go_upto_region 29 with (go_at_call 7; refine (right_is _ HC.out HCo.out _).mono ?_; rintro e w' ⟨rfl, rfl⟩)
                      clear k3 hg
                      go_region_held3 (fun w' => w'.cell? ⟨go, 1, none⟩ = some (.int .i64 t) ∧ w'.cell? ⟨go, 2, none⟩ = some (.int .u64 c)) (first | exact ⟨hX1.cell 1, hX1.cell 2⟩ | exact ⟨(HG1.out.drewN 1).cell 1, (HG1.out.drewN 1).cell 2⟩)
                        (first
                          | (go_at_call 16; refine (bset (HB1.out.drewN 1) (HG1.out.drewN 1) hm HC.out).mono ?_; rintro e w4 ⟨rfl, va4, hB4, hX1⟩)
                          | (go_at_call 15; refine (wset hB4 hX1 hm HC.out).mono ?_; rintro e w5 ⟨rfl, vw5, hB5, hX1⟩))
                      go_wp2_with fail
                      go_meet
                      exact ⟨va4, vw5, wasSet xs t c, wasSet_len hx, hB5⟩
                    · have hg' : getOk xs t = false := by simpa using hg
                      clear hg
                      go_upto_region 29 with fail
                      clear k3 hg'
                      go_region_held3 (fun w' => w'.cell? ⟨go, 1, none⟩ = some (.int .i64 t) ∧ w'.cell? ⟨go, 2, none⟩ = some (.int .u64 c)) (first | exact ⟨hX1.cell 1, hX1.cell 2⟩ | exact ⟨(HG1.out.drewN 1).cell 1, (HG1.out.drewN 1).cell 2⟩)
                        (first
                          | (go_at_call 16; refine (bset (HB1.out.drewN 1) (HG1.out.drewN 1) hm HC.out).mono ?_; rintro e w4 ⟨rfl, va4, hB4, hX1⟩)
                          | (go_at_call 15; refine (wset hB4 hX1 hm HC.out).mono ?_; rintro e w5 ⟨rfl, vw5, hB5, hX1⟩))
                      go_wp2_with fail
                      go_meet
                      exact ⟨va4, vw5, wasSet xs t c, wasSet_len hx, hB5⟩
          · subst z3
            as_aux_lemma =>
              clear k2 k3 k4 k5
              go_upto_region 32 with fail
              go_region_held3 (fun w' => w'.cell? ⟨go, 1, none⟩ = some (.int .i64 t)) (first | exact hX1.cell 1 | exact (HG1.out.drewN 1).cell 1)
                (first
                  | (go_at_call 17; refine (bcut (HB1.out.drewN 1) (HG1.out.drewN 1) hm).mono ?_; rintro e w4 ⟨rfl, va4, hB4, hX1⟩)
                  | (go_at_call 18; refine (wcut hB4 hX1 hm).mono ?_; rintro e w5 ⟨rfl, vw5, hB5, hX1⟩))
              go_wp2_with fail
              go_meet
              exact ⟨va4, vw5, wasCut xs t, wasCut_len hx, hB5⟩
        case rest =>
          as_aux_lemma =>
            obtain ⟨va3, vw3, xs3, hx3, HB3⟩ := hcut
            clear HB1 HG1 hx
            have hm : xs3.length ≤ 65536 := by omega
            obtain ⟨A, cw, hvw, _⟩ := own_form HB3.out.rf.2.2
            subst hvw
            go_wp2_with fail
            refine (cells_ar HB3.out.ar hm).mono ?_
            intro e wl hcop
            obtain ⟨vl, rfl, hL, hbl⟩ := hcop
            have HL := Lib.hid hL
            have hBl := HB3.out.fresh hbl
            have k4 : wl.cell? ⟨gw, 0, none⟩ = some (.slice A xs3.length cw) := hBl.rf.1.cell 0
            have k5 : wl.cell? ⟨gr, 0, none⟩ = some (.pointer (some ⟨ga, 0, none⟩)) := hBl.raw.cell 0
            rw [List.length_map] at HL
            have HBL := Lib.hid hbl
            obtain ⟨Al, cl, hvl, _⟩ := own_form HL.out
            subst hvl
            have HBl := Lib.hid hBl
            clear hL hBl hbl
            have hq6 : q ≤ 65536 := by omega
            have hwrap : IntKind.i64.wrap (q - (xs3.length : Int)) = q - (xs3.length : Int) := IntWalk.i64_in _ (by omega)
            go_upto_region 35 with fail
            go_region_held3 (fun w' => w'.cell? ⟨gw, 0, none⟩ = some (.slice A xs3.length cw) ∧ w'.cell? ⟨gr, 0, none⟩ = some (.pointer (some ⟨ga, 0, none⟩)))
              (first | exact ⟨hB6.rf.1.cell 0, hB6.raw.cell 0⟩ | exact ⟨hB5.rf.1.cell 0, hB5.raw.cell 0⟩ | exact ⟨(HBl.out.drewN 1).rf.1.cell 0, (HBl.out.drewN 1).raw.cell 0⟩)
              (first
                | (go_at_call 20; refine (top_ar (HBl.out.drewN 1).ar).mono ?_; rintro e w' ⟨rfl, rfl⟩)
                | (go_at_call 21; refine (free_ar (HBl.out.drewN 1).ar hx3 hq6).mono ?_; rintro e w' ⟨rfl, n5, rfl⟩; have hB5 := HBl.out.drewN (1 + n5))
                | (go_at_call 23; refine (lcells_any (own_drewN HL.out (1 + n5)) hm).mono ?_; intro e w6 hc6; obtain ⟨v6, rfl, hL6, hb6⟩ := hc6; rw [List.length_map] at hL6; have hB6 := hB5.fresh hb6)
                | (go_at_call 22; refine (same_yes hL6 hB6.rf.2.2 hm).mono ?_; rintro e w7 ⟨rfl, n7, rfl⟩))
            clear hwrap k4 k5
            have HB6 := Lib.hid hb6
            have h67 : Hid (Below wc.heap.size wc w6) := HBL.out.trans ((below_from_drewN hb6).mono HBL.out.size)
            clear hb6 hB5 hB6 hL6
            by_cases hx0 : xs3.length = 0
            · have hx1 : ¬ (0 : Int) < (xs3.length : Int) := by omega
              have HE : Hid (Both w (w6.drewN n7) q ga gr gw va3 (.slice A xs3.length cw) xs3 xs3) := (HB3.out.fresh h67.out).drewN n7
              clear hx0
              go_wp2_with fail
              go_roundw
              case rel => exact ⟨k + 1, va3, _, xs3, by omega, by go_num, hx3, HE⟩
              case measure => simp [intOf]; omega
            · have hx1 : (0 : Int) < (xs3.length : Int) := by omega
              have hL7 : (w6.drewN n7).ownsRow wc.heap.size 37 1 (.slice Al xs3.length cl) xs3.length (xs3.map (Value.int .u64)) := own_fr (S := fun _ => False) HL.out (Fr.of_below (S := fun _ => False) (w := wl) ⟨HB6.out.os, HB6.out.tape, HB6.out.output, HB6.out.size, HB6.out.block⟩) (fun _ _ x => x)
              obtain ⟨b3, rfl, hb3, q0, q1⟩ := own_cell hL7 (k := 0) (by omega)
              have h8 : Hid (Below wc.heap.size wc ((w6.drewN n7).setCell ⟨b3, 0, none⟩ (.int .u64 0))) := (below_drewN h67.out n7).setCell (p := ⟨b3, 0, none⟩) hb3 _
              have HE : Hid (Both w ((w6.drewN n7).setCell ⟨b3, 0, none⟩ (.int .u64 0)) q ga gr gw va3 (.slice A xs3.length cw) xs3 xs3) := HB3.out.fresh h8.out
              clear hx0 hL7 hb3
              go_upto_region 39 with fail
              obtain ⟨w8, hw8⟩ : ∃ w8, (w6.drewN n7).setCell ⟨b3, 0, none⟩ (.int .u64 0) = w8 := ⟨_, rfl⟩
              rw [hw8] at HE ⊢
              clear hw8 h8 q0 q1 h67
              have k4 : w8.cell? ⟨gw, 0, none⟩ = some (.slice A xs3.length cw) := HE.out.rf.1.cell 0
              go_region_held3 (fun w' => w'.cell? ⟨gw, 0, none⟩ = some (.slice A xs3.length cw))
                (first | exact hB10.rf.1.cell 0 | exact hB9.rf.1.cell 0 | exact (HE.out.drewN 1).rf.1.cell 0)
                (first
                  | (go_at_call 19; refine (cells_ar (HE.out.drewN 1).ar hm).mono ?_; intro e w9 hc9; obtain ⟨v9, rfl, hL9, hb9⟩ := hc9; have hB9 := (HE.out.drewN 1).fresh hb9; rw [List.length_map] at hL9)
                  | (go_at_call 23; refine (lcells_any hL9 hm).mono ?_; intro e w10 hc10; obtain ⟨v10, rfl, hL10, hb10⟩ := hc10; have hB10 := hB9.fresh hb10; rw [List.length_map] at hL10)
                  | (go_at_call 22; refine (same_yes hL10 hB10.rf.2.2 hm).mono ?_; rintro e w11 ⟨rfl, n11, rfl⟩))
              have HF : Hid (Both w (w10.drewN n11) q ga gr gw va3 (.slice A xs3.length cw) xs3 xs3) := hB10.drewN n11
              clear hB10 hB9 hL9 hL10 hb9 hb10 k4
              go_wp2_with fail
              go_roundw
              case rel => exact ⟨k + 1, va3, _, xs3, by omega, by go_num, hx3, HF⟩
              case measure => simp [intOf]; omega
    · by_cases c1 : k < len
      · have c2 : ¬ (k : Int) < 100 := by omega
        have HE := Lib.hid hB.out.below
        clear hlt
        go_wp2_with fail
        go_ret
        exact ⟨rfl, HE.out⟩
      · have c2 : ¬ (k : Int) < (len : Int) := by omega
        have HE := Lib.hid hB.out.below
        clear hlt c1
        go_wp2_with fail
        go_ret
        exact ⟨rfl, HE.out⟩

end Go.Proofs.Ytakbahnmlkphcaa
