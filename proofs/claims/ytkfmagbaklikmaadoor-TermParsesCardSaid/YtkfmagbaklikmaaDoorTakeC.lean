/-
  The term with which a text begins (resolventref03.take), by a contract: a list. Conditions: a text of at most 100000 bytes; shorter texts are taken so.
-/
import Derived.Test.YtkfmagbaklikmaaDoorTakeB
namespace Go.Proofs.YtkfmagbaklikmaaDoor
open Go Go.RowKit
set_option linter.unusedVariables false
set_option linter.unusedSimpArgs false

theorem two_parts {W : World} {g : Nat} {ty : TypeId} {S : Nat → Prop} {F : Nat} {xa xb : Tm} {a0 a1 a2 a3 b0 b1 b2 b3 : Value} (h : Box W g ty #[a0, a1, a2, a3, b0, b1, b2, b3]) (ra : Reads W S F xa (.agg #[a0, a1, a2, a3])) (rb : Reads W S F xb (.agg #[b0, b1, b2, b3])) (hg : S g) :
    Reads W S (F + 1) (.node 3 0 ⟨#[]⟩ [xa, xb]) (.agg #[.int .i64 3, .int .i64 0, .string ⟨#[]⟩, .slice (some ⟨g, 0, none⟩) 2 2]) := by
  refine ⟨some ⟨g, 0, none⟩, 2, rfl, Nat.le_refl _, by unfold maxLen; omega, Nat.zero_le _, by decide, by decide, fun i hi => ?_⟩
  have hi2 : i = 0 ∨ i = 1 := by simp at hi; omega
  rcases hi2 with rfl | rfl
  · exact ⟨g, 0, a0, a1, a2, a3, rfl, hg, h.cell 0, h.cell 1, h.cell 2, h.cell 3, ra⟩
  · exact ⟨g, 0, b0, b1, b2, b3, rfl, hg, h.cell 4, h.cell 5, h.cell 6, h.cell 7, rb⟩
theorem bA1 (W : World) (o : Obj) : Below W.heap.size W (W.alloc o) := (Below.refl _ W).alloc (Nat.le_refl _) o
theorem drop_ext (s : ByteArray) (i : Nat) (hi : i ≤ s.size) : (s.extract i s.size).size = s.size - i := by
  simp

set_option maxHeartbeats 4000000 in
set_option maxRecDepth 100000 in
theorem take_l (f : Nat) (ih : TakeC f) (s : ByteArray) (w : World) (hs : s.size ≤ 100000) (h0 : 0 < s.size) (hf : s.size < f + 1) (h91 : s[0] = 91) :
    Calls Tryd.prog 29 #[.string s] w fun e w' => TakeOk w (f + 1) (rList (rTake f) (s.data.toList.drop 1)) e w' := by
  have he : ((s[0].toNat : Nat) : Int) = 91 := by rw [h91]; rfl
  clear h91
  obtain ⟨rv, hrv⟩ : ∃ rv, rList (rTake f) (s.data.toList.drop 1) = rv := ⟨_, rfl⟩
  have HRVE := Lib.hid hrv
  rw [hrv]
  clear hrv
  have HIH := Lib.hid ih
  have HF := Lib.hid hf
  have HE1 := Lib.hid (ext_list s 1 h0)
  have HZ1 := Lib.hid (drop_ext s 1 h0)
  clear ih hf
  have c1 : (1 : Int) ≤ (s.size : Int) := by omega
  have K0 := Lib.hid (Tk0.start w)
  have hne := not_nil h0
  have hemp := not_empty h0
  have hn3 : ¬ s.size = 0 := by omega
  have hlen : s.size < 9223372036854775807 := by omega
  go_enter Tryd.func29, Tryd.ntmps29
  go_upto_region 1 with (fail)
  obtain ⟨W0, hW0⟩ : ∃ W0, w.alloc (.cells #[.int .i64 0, .int .i64 0, .string ⟨#[]⟩, .slice none 0 0] 24) = W0 := ⟨_, rfl⟩
  obtain ⟨g, hg⟩ : ∃ g, w.heap.size = g := ⟨_, rfl⟩
  rw [hW0, hg] at K0
  rw [hW0, hg]
  have HG := Lib.hid hg
  clear hW0 hg
  have r0 := K0.out.box.cell 0
  have r1 := K0.out.box.cell 1
  have r2 := K0.out.box.cell 2
  have r3 := K0.out.box.cell 3
  have z0 := K0.out.box.frozen 0
  have z1 := K0.out.box.frozen 1
  have z2 := K0.out.box.frozen 2
  have z3 := K0.out.box.frozen 3

  have hcall := HIH.out (s.extract 1 s.size) W0 (by rw [HZ1.out]; omega) (by rw [HZ1.out]; have := HF.out; omega)
  rw [HE1.out] at hcall
  cases hr1 : rTake f (s.data.toList.drop 1) with
  | none =>
    rw [hr1] at hcall
    have HC := Lib.hid hcall
    have HRV : Hid (rList (rTake f) (s.data.toList.drop 1) = none) := by
      show _ = _
      unfold rList
      rw [hr1]
    clear hcall hr1
    go_upto_region 13 with (go_at_call 29; refine HC.out.mono ?_; rintro e w1 ⟨kk, rfl, hb1⟩; have K1 := Lib.hid (K0.out.below (hb1.alloc hb1.size (.cells #[.int .i64 kk, .int .i64 0, .string ⟨#[]⟩, .slice none 0 0] 24))); clear r0 r1 r2 r3 z0 z1 z2 z3; have r0 := K1.out.box.cell 0; have r1 := K1.out.box.cell 1; have r2 := K1.out.box.cell 2; have r3 := K1.out.box.cell 3; have z0 := K1.out.box.frozen 0; have z1 := K1.out.box.frozen 1; have z2 := K1.out.box.frozen 2; have z3 := K1.out.box.frozen 3)
    go_wp2_with (fail)
    refine ret_store4 (x := .int .i64 0) K1.out.box (by intro W c0 c1 c2 c3; simp [results, Tryd.results29, go_sem, c0, c1, c2, c3]) ?_
    intro W hW hF
    rw [← HRVE.out, HRV.out]
    exact ⟨0, rfl, K1.out.end_ hF⟩
  | some p1 =>
    obtain ⟨a, n⟩ := p1
    rw [hr1] at hcall
    have HC := Lib.hid hcall
    obtain ⟨n1, n2, _⟩ := take_sound _ _ _ _ hr1
    rw [List.length_drop] at n2
    have hn2 : n + 1 ≤ s.size := by simp at n2; omega
    obtain ⟨q, hq⟩ : ∃ q, 1 + n = q := ⟨_, rfl⟩
    have hwq : IntKind.i64.wrap (1 + (n : Int)) = (q : Int) := by rw [IntWalk.i64_in _ (by omega)]; omega
    have hdq : (s.data.toList.drop 1).drop n = s.data.toList.drop q := by rw [List.drop_drop, hq]
    have nn0 : ¬ (n : Int) = 0 := by omega
    have HR1 := Lib.hid hr1
    have HDQ := Lib.hid hdq
    have HNQ := Lib.hid hq
    have HN1 := Lib.hid hn2
    clear hcall hr1 n2 hn2 hdq hq n1
    go_upto_region 13 with (go_at_call 29; refine HC.out.mono ?_; rintro e w1 ⟨v1, rfl, hv1r, hb1⟩; obtain ⟨k5, n5, s5, A5, l5, c5, hv1⟩ := hv1r.form; rw [hv1] at hv1r; rw [hv1]; clear hv1; have K1 := Lib.hid (K0.out.below (hb1.alloc hb1.size (.cells #[.int .i64 k5, .int .i64 n5, .string s5, .slice A5 l5 c5] 24))); have HA1 := Lib.hid (hv1r.alloc (fun b x => x.2) (.cells #[.int .i64 k5, .int .i64 n5, .string s5, .slice A5 l5 c5] 24)); have T1 := Lib.hid (Box.new w1 24 #[.int .i64 k5, .int .i64 n5, .string s5, .slice A5 l5 c5]); have HS1 := Lib.hid hb1.size; clear hv1r hb1; clear r0 r1 r2 r3 z0 z1 z2 z3; have r0 := K1.out.box.cell 0; have r1 := K1.out.box.cell 1; have r2 := K1.out.box.cell 2; have r3 := K1.out.box.cell 3; have z0 := K1.out.box.frozen 0; have z1 := K1.out.box.frozen 1; have z2 := K1.out.box.frozen 2; have z3 := K1.out.box.frozen 3)
    obtain ⟨W1, hW1⟩ : ∃ W1, w1.alloc (.cells #[.int .i64 k5, .int .i64 n5, .string s5, .slice A5 l5 c5] 24) = W1 := ⟨_, rfl⟩
    have HW1 : Hid (W1.heap.size = w1.heap.size + 1) := by show _ = _; rw [← hW1]; simp
    obtain ⟨g1, hg1⟩ : ∃ g1, w1.heap.size = g1 := ⟨_, rfl⟩
    rw [hW1] at K1 HA1 T1 r0 r1 r2 r3 z0 z1 z2 z3
    rw [hg1] at T1 HW1
    have HG1 := Lib.hid hg1
    rw [hW1, hg1]
    clear hW1 hg1
    by_cases hcq : q < s.size
    · by_cases hc : s[q] = 124
      · have hc1 : ((s[q].toNat : Nat) : Int) = 124 := by rw [hc]; rfl
        have h124 : headIs ((s.data.toList.drop 1).drop n) 124 = true := by rw [HDQ.out, head_at s q hcq, hc]; rfl
        have H124 := Lib.hid h124
        have hcq1 : (q : Int) < (s.size : Int) := by omega
        have hcq2 : ¬ (s.size : Int) ≤ (q : Int) := by omega
        clear hc h124
        have hwq2 : IntKind.i64.wrap (2 + (n : Int)) = ((q + 1 : Nat) : Int) := by have h1 := HNQ.out; rw [IntWalk.i64_in _ (by omega)]; omega
        obtain ⟨q2, hq2⟩ : ∃ q2, q + 1 = q2 := ⟨_, rfl⟩
        rw [hq2] at hwq2
        have hq3 : q2 ≤ s.size := by omega
        have hcall2 := fun (V : World) => HIH.out (s.extract q2 s.size) V (by rw [drop_ext s q2 hq3]; omega) (by rw [drop_ext s q2 hq3]; have := HF.out; omega)
        rw [ext_list s q2 hq3] at hcall2
        have hdq2 : (s.data.toList.drop 1).drop (1 + n) = s.data.toList.drop q2 := by rw [List.drop_drop]; congr 1; have := HNQ.out; omega
        have HQ2 := Lib.hid hq2
        have HDQ2 := Lib.hid hdq2
        have hq4 : (q2 : Int) ≤ (s.size : Int) := by omega
        clear hq2 hdq2
        cases hr2 : rTake f (s.data.toList.drop q2) with
        | none =>
          rw [hr2] at hcall2
          have HC2 := Lib.hid hcall2
          have HRV : Hid (rList (rTake f) (s.data.toList.drop 1) = none) := by
            show _ = _
            unfold rList
            rw [HR1.out]
            simp only []
            rw [if_pos H124.out, HDQ2.out, hr2]
          clear hcall2 hr2
          go_upto_region 16 with (go_at_call 29; refine (HC2.out _).mono ?_; rintro e w2 ⟨kk, rfl, hb2⟩; have K2 := Lib.hid (K1.out.below (hb2.alloc hb2.size (.cells #[.int .i64 kk, .int .i64 0, .string ⟨#[]⟩, .slice none 0 0] 24))); clear r0 r1 r2 r3 z0 z1 z2 z3; have r0 := K2.out.box.cell 0; have r1 := K2.out.box.cell 1; have r2 := K2.out.box.cell 2; have r3 := K2.out.box.cell 3; have z0 := K2.out.box.frozen 0; have z1 := K2.out.box.frozen 1; have z2 := K2.out.box.frozen 2; have z3 := K2.out.box.frozen 3)
          go_wp2_with (fail)
          refine ret_store4 (x := .int .i64 0) K2.out.box (by intro W c0 c1 c2 c3; simp [results, Tryd.results29, go_sem, c0, c1, c2, c3]) ?_
          intro W hW hF
          rw [← HRVE.out, HRV.out]
          exact ⟨0, rfl, K2.out.end_ hF⟩
        | some p2 =>
          obtain ⟨b, m⟩ := p2
          rw [hr2] at hcall2
          have HC2 := Lib.hid hcall2
          obtain ⟨m1, m2, _⟩ := take_sound _ _ _ _ hr2
          rw [List.length_drop] at m2
          have hm2 : q2 + m ≤ s.size := by simp at m2; omega
          have mm0 : ¬ (m : Int) = 0 := by omega
          obtain ⟨q5, hq5⟩ : ∃ q5, q2 + m = q5 := ⟨_, rfl⟩
          have hw5 : IntKind.i64.wrap ((q2 : Int) + (m : Int)) = (q5 : Int) := by rw [IntWalk.i64_in _ (by omega)]; omega
          have hw6 : IntKind.i64.wrap (3 + (n : Int)) = ((q2 + 1 : Nat) : Int) := by have h1 := HNQ.out; have h2 := HQ2.out; rw [IntWalk.i64_in _ (by omega)]; omega
          obtain ⟨q6, hq6⟩ : ∃ q6, q2 + 1 = q6 := ⟨_, rfl⟩
          rw [hq6] at hw6
          have hw7 : IntKind.i64.wrap ((q6 : Int) + (m : Int)) = ((3 + n + m : Nat) : Int) := by have h1 := HNQ.out; have h2 := HQ2.out; rw [IntWalk.i64_in _ (by omega)]; omega
          obtain ⟨q7, hq7⟩ : ∃ q7, 3 + n + m = q7 := ⟨_, rfl⟩
          rw [hq7] at hw7
          have hdq5 : (s.data.toList.drop 1).drop (1 + n + m) = s.data.toList.drop q5 := by rw [List.drop_drop]; congr 1; have := HNQ.out; have := HQ2.out; omega
          have HDQ5 := Lib.hid hdq5
          have HQ7 := Lib.hid hq7
          have HR2 := Lib.hid hr2
          have HM2 := Lib.hid hm2
          have HQ5 := Lib.hid hq5
          clear hcall2 hr2 m1 m2 hm2 hdq5 hq7 hq6 hq5
          go_upto_region 16 with (go_at_call 29; refine (HC2.out _).mono ?_; rintro e w2 ⟨v2, rfl, hv2r, hb2⟩; obtain ⟨k6, n6, s6, A6, l6, c6, hv2⟩ := hv2r.form; rw [hv2] at hv2r; rw [hv2]; clear hv2; have K2 := Lib.hid (K1.out.below (hb2.alloc hb2.size (.cells #[.int .i64 k6, .int .i64 n6, .string s6, .slice A6 l6 c6] 24))); have HA2 := Lib.hid (HA1.out.below (hb2.alloc hb2.size (.cells #[.int .i64 k6, .int .i64 n6, .string s6, .slice A6 l6 c6] 24)) (fun b x => by have := HW1.out; have := HG1.out; omega)); have HB2 := Lib.hid (hv2r.alloc (fun b x => x.2) (.cells #[.int .i64 k6, .int .i64 n6, .string s6, .slice A6 l6 c6] 24)); have T12 := Lib.hid (T1.out.below (hb2.alloc hb2.size (.cells #[.int .i64 k6, .int .i64 n6, .string s6, .slice A6 l6 c6] 24)) T1.out.lt); have T2b := Lib.hid (Box.new w2 24 #[.int .i64 k6, .int .i64 n6, .string s6, .slice A6 l6 c6]); have HS2 := Lib.hid hb2.size; clear hv2r hb2; clear r0 r1 r2 r3 z0 z1 z2 z3; have r0 := K2.out.box.cell 0; have r1 := K2.out.box.cell 1; have r2 := K2.out.box.cell 2; have r3 := K2.out.box.cell 3; have z0 := K2.out.box.frozen 0; have z1 := K2.out.box.frozen 1; have z2 := K2.out.box.frozen 2; have z3 := K2.out.box.frozen 3)
          obtain ⟨W2, hW2⟩ : ∃ W2, w2.alloc (.cells #[.int .i64 k6, .int .i64 n6, .string s6, .slice A6 l6 c6] 24) = W2 := ⟨_, rfl⟩
          have HW2 : Hid (W2.heap.size = w2.heap.size + 1) := by show _ = _; rw [← hW2]; simp
          obtain ⟨g2, hg2⟩ : ∃ g2, w2.heap.size = g2 := ⟨_, rfl⟩
          rw [hW2] at K2 HA2 HB2 T12 T2b r0 r1 r2 r3 z0 z1 z2 z3
          rw [hg2] at T2b HW2
          have HG2 := Lib.hid hg2
          rw [hW2, hg2]
          clear hW2 hg2
          by_cases hcr : q5 < s.size
          · by_cases hd : s[q5] = 93
            · have hd1 : ((s[q5].toNat : Nat) : Int) = 93 := by rw [hd]; rfl
              have h93 : headIs ((s.data.toList.drop 1).drop (1 + n + m)) 93 = true := by rw [HDQ5.out, head_at s q5 hcr, hd]; rfl
              have hcr1 : (q5 : Int) < (s.size : Int) := by omega
              have hcr2 : ¬ (s.size : Int) ≤ (q5 : Int) := by omega
              have HRV : Hid (rList (rTake f) (s.data.toList.drop 1) = some (.node 3 0 ⟨#[]⟩ [a, b], q7)) := by
                show _ = _
                unfold rList
                rw [HR1.out]
                simp only []
                rw [if_pos H124.out, HDQ2.out, HR2.out]
                simp only []
                rw [if_pos h93, HQ7.out]
              clear hd h93
              have x0 : W2.cell? ⟨g1, 0, none⟩ = some (.int .i64 k5) := T12.out.cell 0
              have x1 : W2.cell? ⟨g1, 1, none⟩ = some (.int .i64 n5) := T12.out.cell 1
              have x2 : W2.cell? ⟨g1, 2, none⟩ = some (.string s5) := T12.out.cell 2
              have x3 : W2.cell? ⟨g1, 3, none⟩ = some (.slice A5 l5 c5) := T12.out.cell 3
              have y0 : W2.cell? ⟨g2, 0, none⟩ = some (.int .i64 k6) := T2b.out.cell 0
              have y1 : W2.cell? ⟨g2, 1, none⟩ = some (.int .i64 n6) := T2b.out.cell 1
              have y2 : W2.cell? ⟨g2, 2, none⟩ = some (.string s6) := T2b.out.cell 2
              have y3 : W2.cell? ⟨g2, 3, none⟩ = some (.slice A6 l6 c6) := T2b.out.cell 3
              have K3 := Lib.hid (K2.out.below (bA1 W2 (.cells #[.int .i64 k5, .int .i64 n5, .string s5, .slice A5 l5 c5, .int .i64 k6, .int .i64 n6, .string s6, .slice A6 l6 c6] 24)))
              have rr0 : (W2.alloc (.cells #[.int .i64 k5, .int .i64 n5, .string s5, .slice A5 l5 c5, .int .i64 k6, .int .i64 n6, .string s6, .slice A6 l6 c6] 24)).cell? ⟨g, 0, none⟩ = some (.int .i64 0) := K3.out.box.cell 0
              have zz0 : (W2.alloc (.cells #[.int .i64 k5, .int .i64 n5, .string s5, .slice A5 l5 c5, .int .i64 k6, .int .i64 n6, .string s6, .slice A6 l6 c6] 24)).frozen? ⟨g, 0, none⟩ = false := K3.out.box.frozen 0
              have rr1 : (W2.alloc (.cells #[.int .i64 k5, .int .i64 n5, .string s5, .slice A5 l5 c5, .int .i64 k6, .int .i64 n6, .string s6, .slice A6 l6 c6] 24)).cell? ⟨g, 1, none⟩ = some (.int .i64 0) := K3.out.box.cell 1
              have zz1 : (W2.alloc (.cells #[.int .i64 k5, .int .i64 n5, .string s5, .slice A5 l5 c5, .int .i64 k6, .int .i64 n6, .string s6, .slice A6 l6 c6] 24)).frozen? ⟨g, 1, none⟩ = false := K3.out.box.frozen 1
              have rr2 : (W2.alloc (.cells #[.int .i64 k5, .int .i64 n5, .string s5, .slice A5 l5 c5, .int .i64 k6, .int .i64 n6, .string s6, .slice A6 l6 c6] 24)).cell? ⟨g, 2, none⟩ = some (.string ⟨#[]⟩) := K3.out.box.cell 2
              have zz2 : (W2.alloc (.cells #[.int .i64 k5, .int .i64 n5, .string s5, .slice A5 l5 c5, .int .i64 k6, .int .i64 n6, .string s6, .slice A6 l6 c6] 24)).frozen? ⟨g, 2, none⟩ = false := K3.out.box.frozen 2
              have rr3 : (W2.alloc (.cells #[.int .i64 k5, .int .i64 n5, .string s5, .slice A5 l5 c5, .int .i64 k6, .int .i64 n6, .string s6, .slice A6 l6 c6] 24)).cell? ⟨g, 3, none⟩ = some (.slice none 0 0) := K3.out.box.cell 3
              have zz3 : (W2.alloc (.cells #[.int .i64 k5, .int .i64 n5, .string s5, .slice A5 l5 c5, .int .i64 k6, .int .i64 n6, .string s6, .slice A6 l6 c6] 24)).frozen? ⟨g, 3, none⟩ = false := K3.out.box.frozen 3
              go_wp2_with (fail)
              refine ret_store4 (x := .int .i64 q7) K3.out.box (by intro W c0 c1 c2 c3; simp [results, Tryd.results29, go_sem, c0, c1, c2, c3]) ?_
              intro W hW hF
              have q1 := HG1.out
              have q2' := HG2.out
              have q3' := HW1.out
              have q4' := HW2.out
              have q5' := HS1.out
              have q6' := HS2.out
              have q7' := hF.size
              have q8 := K0.out.box.lt
              have q9 := K0.out.new
              have q10 := K0.out.bl.size
              simp only [World.size_alloc] at q7'
              rw [← HRVE.out, HRV.out]
              have hSub : ∀ b, (W0.heap.size ≤ b ∧ b < W2.heap.size) → b < (W2.alloc (.cells #[.int .i64 k5, .int .i64 n5, .string s5, .slice A5 l5 c5, .int .i64 k6, .int .i64 n6, .string s6, .slice A6 l6 c6] 24)).heap.size ∧ ¬ (b = g) := fun b x => ⟨by simp; omega, by omega⟩
              refine ⟨_, rfl, two_parts (((Box.new W2 24 #[.int .i64 k5, .int .i64 n5, .string s5, .slice A5 l5 c5, .int .i64 k6, .int .i64 n6, .string s6, .slice A6 l6 c6])).fr hF (by omega)) ((((HA2.out.more (S' := fun b => W0.heap.size ≤ b ∧ b < W2.heap.size) (fun b x => ⟨x.1, by omega⟩)).alloc (fun b x => x.2) _).fr hF hSub).more (fun b x => ⟨by omega, by omega⟩)) ((((HB2.out.more (S' := fun b => W0.heap.size ≤ b ∧ b < W2.heap.size) (fun b x => ⟨by omega, by omega⟩)).alloc (fun b x => x.2) _).fr hF hSub).more (fun b x => ⟨by omega, by omega⟩)) ⟨by omega, by omega⟩, K3.out.end_ hF⟩
            · have hd1 : ¬ ((s[q5].toNat : Nat) : Int) = 93 := fun e => hd (UInt8.toNat_inj.1 (by show _ = 93; omega))
              have hdn : ¬ s[q5].toNat = 93 := by omega
              have hd2 : (((s[q5].toNat : Nat) : Int) == 93) = false := beq_eq_false_iff_ne.2 hd1
              have hd3 : (((s[q5].toNat : Nat) : Int) != 93) = true := bne_iff_ne.2 hd1
              have h93 : ¬ headIs ((s.data.toList.drop 1).drop (1 + n + m)) 93 = true := by rw [HDQ5.out, head_at s q5 hcr]; simpa using hd
              have hcr1 : (q5 : Int) < (s.size : Int) := by omega
              have hcr2 : ¬ (s.size : Int) ≤ (q5 : Int) := by omega
              have HRV : Hid (rList (rTake f) (s.data.toList.drop 1) = none) := by
                show _ = _
                unfold rList
                rw [HR1.out]
                simp only []
                rw [if_pos H124.out, HDQ2.out, HR2.out]
                simp only []
                rw [if_neg h93]
              clear hd h93
              go_wp2_with (fail)
              refine ret_store4 (x := .int .i64 0) K2.out.box (by intro W c0 c1 c2 c3; simp [results, Tryd.results29, go_sem, c0, c1, c2, c3]) ?_
              intro W hW hF
              rw [← HRVE.out, HRV.out]
              exact ⟨0, rfl, K2.out.end_ hF⟩
          · have h93 : ¬ headIs ((s.data.toList.drop 1).drop (1 + n + m)) 93 = true := by rw [HDQ5.out, head_end s q5 (by omega)]; decide
            have hcr1 : (s.size : Int) ≤ (q5 : Int) := by omega
            have hcr3 : s.size ≤ q5 := by omega
            have hcr4 : decide ((s.size : Int) ≤ (q5 : Int)) = true := by simpa using hcr3
            clear hcr
            have hd : True := trivial
            have HRV : Hid (rList (rTake f) (s.data.toList.drop 1) = none) := by
              show _ = _
              unfold rList
              rw [HR1.out]
              simp only []
              rw [if_pos H124.out, HDQ2.out, HR2.out]
              simp only []
              rw [if_neg h93]
            clear hd h93
            go_wp2_with (fail)
            refine ret_store4 (x := .int .i64 0) K2.out.box (by intro W c0 c1 c2 c3; simp [results, Tryd.results29, go_sem, c0, c1, c2, c3]) ?_
            intro W hW hF
            rw [← HRVE.out, HRV.out]
            exact ⟨0, rfl, K2.out.end_ hF⟩
      · have hc1 : ¬ ((s[q].toNat : Nat) : Int) = 124 := fun e => hc (UInt8.toNat_inj.1 (by show _ = 124; omega))
        have hcn : ¬ s[q].toNat = 124 := by omega
        have hc2 : (((s[q].toNat : Nat) : Int) == 124) = false := beq_eq_false_iff_ne.2 hc1
        have hc3 : (((s[q].toNat : Nat) : Int) != 124) = true := bne_iff_ne.2 hc1
        have hc4 : ¬ s[q] = 124 := hc
        have h124 : ¬ headIs ((s.data.toList.drop 1).drop n) 124 = true := by rw [HDQ.out, head_at s q hcq]; simpa using hc
        have hcq1 : (q : Int) < (s.size : Int) := by omega
        have hcq2 : ¬ (s.size : Int) ≤ (q : Int) := by omega
        have HRV : Hid (rList (rTake f) (s.data.toList.drop 1) = none) := by
          show _ = _
          unfold rList
          rw [HR1.out]
          simp only []
          rw [if_neg h124]
        clear hc h124
        go_wp2_with (fail)
        refine ret_store4 (x := .int .i64 0) K1.out.box (by intro W c0 c1 c2 c3; simp [results, Tryd.results29, go_sem, c0, c1, c2, c3]) ?_
        intro W hW hF
        rw [← HRVE.out, HRV.out]
        exact ⟨0, rfl, K1.out.end_ hF⟩
    · have h124 : ¬ headIs ((s.data.toList.drop 1).drop n) 124 = true := by rw [HDQ.out, head_end s q (by omega)]; decide
      have hcq1 : (s.size : Int) ≤ (q : Int) := by omega
      have hcq3 : s.size ≤ q := by omega
      have hcq4 : decide ((s.size : Int) ≤ (q : Int)) = true := by simpa using hcq3
      clear hcq
      have hc : True := trivial
      have HRV : Hid (rList (rTake f) (s.data.toList.drop 1) = none) := by
        show _ = _
        unfold rList
        rw [HR1.out]
        simp only []
        rw [if_neg h124]
      clear hc h124
      go_wp2_with (fail)
      refine ret_store4 (x := .int .i64 0) K1.out.box (by intro W c0 c1 c2 c3; simp [results, Tryd.results29, go_sem, c0, c1, c2, c3]) ?_
      intro W hW hF
      rw [← HRVE.out, HRV.out]
      exact ⟨0, rfl, K1.out.end_ hF⟩
end Go.Proofs.YtkfmagbaklikmaaDoor
