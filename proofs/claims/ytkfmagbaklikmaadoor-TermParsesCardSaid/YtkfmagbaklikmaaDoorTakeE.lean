/-
  What the document's Parse reads (resolventref03.take, Parse), by contracts. Conditions: a text of at most 10000 bytes.
-/
import Derived.Test.YtkfmagbaklikmaaDoorTakeD
import Derived.Test.YtkfmagbaklikmaaDoorRightB
namespace Go.Proofs.YtkfmagbaklikmaaDoor
open Go Go.RowKit
set_option linter.unusedVariables false
set_option linter.unusedSimpArgs false

theorem takeC_any : ∀ f, TakeC f := by
  intro f
  induction f with
  | zero => intro s w hs hf; omega
  | succ f ih =>
    intro s w hs hf
    by_cases h0 : s.size = 0
    · have e : s = ⟨#[]⟩ := by
        apply ByteArray.ext
        exact Array.eq_empty_of_size_eq_zero h0
      subst e
      have h := take_nil w f
      rw [show rTake (f + 1) (⟨#[]⟩ : ByteArray).data.toList = none from by rw [rTake, if_pos rfl]]
      exact h
    · have h1 : 0 < s.size := by omega
      have hd : ∀ c, headIs s.data.toList c = (s[0] == c) := fun c => head_at s 0 h1 c
      by_cases h88 : s[0] = 88
      · have e : rTake (f + 1) s.data.toList = rVar (s.data.toList.drop 1) := by rw [rTake, if_neg (data_ne h1), hd, h88, if_pos (by decide)]
        rw [e]
        exact take_x s w hs h1 h88 f
      · by_cases h91 : s[0] = 91
        · have e : rTake (f + 1) s.data.toList = rList (rTake f) (s.data.toList.drop 1) := by rw [rTake, if_neg (data_ne h1), hd, hd, h91, if_neg (by decide), if_pos (by decide)]
          rw [e]
          exact take_l f ih s w hs h1 hf h91
        · have e : rTake (f + 1) s.data.toList = rNamed (rTake f) s.data.toList := by rw [rTake, if_neg (data_ne h1), hd, hd, if_neg (by simpa using h88), if_neg (by simpa using h91)]
          rw [e]
          exact take_n f ih s w hs h1 hf h88 h91

def RParseOk (w : World) (F : Nat) (r : Option Tm) (e : Ending) (w' : World) : Prop :=
  match r with
  | some t => ∃ v, e = .returned (.tuple #[v, .bool true]) ∧ Reads w' (fun b => w.heap.size ≤ b ∧ b < w'.heap.size) F t v ∧ Below w.heap.size w w'
  | none => e = .returned (.tuple #[.agg #[.int .i64 0, .int .i64 0, .string ⟨#[]⟩, .slice none 0 0], .bool false]) ∧ Below w.heap.size w w'

set_option maxHeartbeats 4000000 in
set_option maxRecDepth 100000 in
theorem rParse_any (s : ByteArray) (w : World) (hs : s.size ≤ 10000) :
    Calls Tryd.prog 19 #[.string s] w fun e w' => RParseOk w (s.size + 1) (parseOf s) e w' := by
  have K0 := Lib.hid (Tk0.start w)
  obtain ⟨rv, hrv⟩ : ∃ rv, parseOf s = rv := ⟨_, rfl⟩
  have HRV := Lib.hid hrv
  have hrp : rParse s = rv := (rparse_eq s).trans hrv
  rw [hrv]
  unfold rParse at hrp
  rw [if_neg (by omega)] at hrp
  have hcall := fun (V : World) => takeC_any (s.size + 1) s V (by omega) (by omega)
  have hlen : s.size < 9223372036854775807 := by omega
  have h10 : ¬ (10000 : Int) < (s.size : Int) := by omega
  clear hrv
  cases hr : rTake (s.size + 1) s.data.toList with
  | none =>
    rw [hr] at hrp hcall
    simp only [] at hrp
    have HRP := Lib.hid hrp
    have HC := Lib.hid hcall
    clear hrp hcall hr
    go_enter Tryd.func19, Tryd.ntmps19
    go_upto_region 1 with (fail)
    obtain ⟨W0, hW0⟩ : ∃ W0, w.alloc (.cells #[.int .i64 0, .int .i64 0, .string ⟨#[]⟩, .slice none 0 0] 24) = W0 := ⟨_, rfl⟩
    obtain ⟨g, hg⟩ : ∃ g, w.heap.size = g := ⟨_, rfl⟩
    rw [hW0, hg] at K0
    rw [hW0, hg]
    clear hW0 hg
    go_upto_region 4 with (go_at_call 29; refine (HC.out _).mono ?_; rintro e w1 ⟨kk, rfl, hb1⟩; have K1 := Lib.hid (K0.out.below (hb1.alloc hb1.size (.cells #[.int .i64 kk, .int .i64 0, .string ⟨#[]⟩, .slice none 0 0] 24))); have r0 := K1.out.box.cell 0; have z0 := K1.out.box.frozen 0; have r1 := K1.out.box.cell 1; have z1 := K1.out.box.frozen 1; have r2 := K1.out.box.cell 2; have z2 := K1.out.box.frozen 2; have r3 := K1.out.box.cell 3; have z3 := K1.out.box.frozen 3)
    go_wp2_with (fail)
    refine ret_store4 (x := .bool false) K1.out.box (by intro W c0 c1 c2 c3; simp [results, Tryd.results19, go_sem, c0, c1, c2, c3]) ?_
    intro W hW hF
    rw [← HRP.out]
    exact ⟨rfl, K1.out.end_ hF⟩
  | some p =>
    obtain ⟨t, n⟩ := p
    rw [hr] at hrp hcall
    simp only [] at hrp
    obtain ⟨t1, t2, _⟩ := take_sound _ _ _ _ hr
    have nn0 : ¬ (n : Int) = 0 := by omega
    have nb0 : ((n : Int) == 0) = false := beq_eq_false_iff_ne.2 nn0
    have HC := Lib.hid hcall
    obtain ⟨zr, hzr⟩ : ∃ zr, t.right = zr := ⟨_, rfl⟩
    have HZR := Lib.hid hzr
    rw [hzr] at hrp
    clear hcall hr hzr t1 t2
    by_cases hn : n = s.size
    · have hnb : ((n : Int) != (s.size : Int)) = false := by rw [hn]; simp
      have hni : (n : Int) = (s.size : Int) := by omega
      cases zr with
      | true =>
        rw [if_pos ⟨hn, rfl⟩] at hrp
        have HRP := Lib.hid hrp
        clear hrp
        subst hn
        go_enter Tryd.func19, Tryd.ntmps19
        go_upto_region 1 with (fail)
        obtain ⟨W0, hW0⟩ : ∃ W0, w.alloc (.cells #[.int .i64 0, .int .i64 0, .string ⟨#[]⟩, .slice none 0 0] 24) = W0 := ⟨_, rfl⟩
        obtain ⟨g, hg⟩ : ∃ g, w.heap.size = g := ⟨_, rfl⟩
        rw [hW0, hg] at K0
        rw [hW0, hg]
        clear hW0
        have HG := Lib.hid hg
        clear hg
        go_upto_region 4 with (go_at_call 29; refine (HC.out _).mono ?_; rintro e w1 ⟨v1, rfl, hv1r, hb1⟩; obtain ⟨k5, n5, s5, A5, l5, c5, hv1⟩ := hv1r.form; rw [hv1] at hv1r; rw [hv1]; clear hv1; have K1 := Lib.hid (K0.out.below (hb1.alloc hb1.size (.cells #[.int .i64 k5, .int .i64 n5, .string s5, .slice A5 l5 c5] 24))); have HA1 := Lib.hid (hv1r.alloc (fun b x => x.2) (.cells #[.int .i64 k5, .int .i64 n5, .string s5, .slice A5 l5 c5] 24)); have T1 := Lib.hid (Box.new w1 24 #[.int .i64 k5, .int .i64 n5, .string s5, .slice A5 l5 c5]); clear hv1r hb1)
        obtain ⟨W1, hW1⟩ : ∃ W1, w1.alloc (.cells #[.int .i64 k5, .int .i64 n5, .string s5, .slice A5 l5 c5] 24) = W1 := ⟨_, rfl⟩
        obtain ⟨g1, hg1⟩ : ∃ g1, w1.heap.size = g1 := ⟨_, rfl⟩
        rw [hW1] at K1 HA1 T1
        rw [hg1] at T1 HA1
        rw [hW1, hg1]
        clear hW1 hg1
        have r0 := K1.out.box.cell 0
        have z0 := K1.out.box.frozen 0
        have r1 := K1.out.box.cell 1
        have z1 := K1.out.box.frozen 1
        have r2 := K1.out.box.cell 2
        have z2 := K1.out.box.frozen 2
        have r3 := K1.out.box.cell 3
        have z3 := K1.out.box.frozen 3
        have y0 : W1.cell? ⟨g1, 0, none⟩ = some (.int .i64 k5) := T1.out.cell 0
        have y1 : W1.cell? ⟨g1, 1, none⟩ = some (.int .i64 n5) := T1.out.cell 1
        have y2 : W1.cell? ⟨g1, 2, none⟩ = some (.string s5) := T1.out.cell 2
        have y3 : W1.cell? ⟨g1, 3, none⟩ = some (.slice A5 l5 c5) := T1.out.cell 3
        go_wp2_with (go_at_call 30; refine (refRight_tree _ t _ _ _ HA1.out (fun b x => by have := T1.out.lt; omega)).mono ?_; rw [HZR.out]; rintro e w2 ⟨rfl, hb2⟩; have K2 := Lib.hid (K1.out.below hb2); have T2 := Lib.hid (T1.out.below hb2 T1.out.lt); have HA2 := Lib.hid (HA1.out.below hb2 (fun b x => by have := T1.out.lt; omega)); clear hb2 r0 r1 r2 r3 z0 z1 z2 z3 y0 y1 y2 y3; have r0 := K2.out.box.cell 0; have z0 := K2.out.box.frozen 0; have r1 := K2.out.box.cell 1; have z1 := K2.out.box.frozen 1; have r2 := K2.out.box.cell 2; have z2 := K2.out.box.frozen 2; have r3 := K2.out.box.cell 3; have z3 := K2.out.box.frozen 3; have y0 : w2.cell? ⟨g1, 0, none⟩ = some (.int .i64 k5) := T2.out.cell 0; have y1 : w2.cell? ⟨g1, 1, none⟩ = some (.int .i64 n5) := T2.out.cell 1; have y2 : w2.cell? ⟨g1, 2, none⟩ = some (.string s5) := T2.out.cell 2; have y3 : w2.cell? ⟨g1, 3, none⟩ = some (.slice A5 l5 c5) := T2.out.cell 3)
        refine ret_store4 (x := .bool true) K2.out.box (by intro W c0 c1 c2 c3; simp [results, Tryd.results19, go_sem, c0, c1, c2, c3]) ?_
        intro W hW hF
        rw [← HRP.out]
        have q1 := T1.out.lt
        have q2 := K0.out.box.lt
        have q3 := K0.out.bl.size
        have q4 := T2.out.lt
        have q5 := hF.size
        exact ⟨_, rfl, (HA2.out.fr hF (fun b x => ⟨by omega, by omega⟩)).more (fun b x => ⟨by omega, by omega⟩), K2.out.end_ hF⟩
      | false =>
        rw [if_neg (by simp)] at hrp
        have HRP := Lib.hid hrp
        clear hrp
        subst hn
        go_enter Tryd.func19, Tryd.ntmps19
        go_upto_region 1 with (fail)
        obtain ⟨W0, hW0⟩ : ∃ W0, w.alloc (.cells #[.int .i64 0, .int .i64 0, .string ⟨#[]⟩, .slice none 0 0] 24) = W0 := ⟨_, rfl⟩
        obtain ⟨g, hg⟩ : ∃ g, w.heap.size = g := ⟨_, rfl⟩
        rw [hW0, hg] at K0
        rw [hW0, hg]
        clear hW0
        have HG := Lib.hid hg
        clear hg
        go_upto_region 4 with (go_at_call 29; refine (HC.out _).mono ?_; rintro e w1 ⟨v1, rfl, hv1r, hb1⟩; obtain ⟨k5, n5, s5, A5, l5, c5, hv1⟩ := hv1r.form; rw [hv1] at hv1r; rw [hv1]; clear hv1; have K1 := Lib.hid (K0.out.below (hb1.alloc hb1.size (.cells #[.int .i64 k5, .int .i64 n5, .string s5, .slice A5 l5 c5] 24))); have HA1 := Lib.hid (hv1r.alloc (fun b x => x.2) (.cells #[.int .i64 k5, .int .i64 n5, .string s5, .slice A5 l5 c5] 24)); have T1 := Lib.hid (Box.new w1 24 #[.int .i64 k5, .int .i64 n5, .string s5, .slice A5 l5 c5]); clear hv1r hb1)
        obtain ⟨W1, hW1⟩ : ∃ W1, w1.alloc (.cells #[.int .i64 k5, .int .i64 n5, .string s5, .slice A5 l5 c5] 24) = W1 := ⟨_, rfl⟩
        obtain ⟨g1, hg1⟩ : ∃ g1, w1.heap.size = g1 := ⟨_, rfl⟩
        rw [hW1] at K1 HA1 T1
        rw [hg1] at T1 HA1
        rw [hW1, hg1]
        clear hW1 hg1
        have r0 := K1.out.box.cell 0
        have z0 := K1.out.box.frozen 0
        have r1 := K1.out.box.cell 1
        have z1 := K1.out.box.frozen 1
        have r2 := K1.out.box.cell 2
        have z2 := K1.out.box.frozen 2
        have r3 := K1.out.box.cell 3
        have z3 := K1.out.box.frozen 3
        have y0 : W1.cell? ⟨g1, 0, none⟩ = some (.int .i64 k5) := T1.out.cell 0
        have y1 : W1.cell? ⟨g1, 1, none⟩ = some (.int .i64 n5) := T1.out.cell 1
        have y2 : W1.cell? ⟨g1, 2, none⟩ = some (.string s5) := T1.out.cell 2
        have y3 : W1.cell? ⟨g1, 3, none⟩ = some (.slice A5 l5 c5) := T1.out.cell 3
        go_wp2_with (go_at_call 30; refine (refRight_tree _ t _ _ _ HA1.out (fun b x => by have := T1.out.lt; omega)).mono ?_; rw [HZR.out]; rintro e w2 ⟨rfl, hb2⟩; have K2 := Lib.hid (K1.out.below hb2); have T2 := Lib.hid (T1.out.below hb2 T1.out.lt); clear hb2 r0 r1 r2 r3 z0 z1 z2 z3 y0 y1 y2 y3; have r0 := K2.out.box.cell 0; have z0 := K2.out.box.frozen 0; have r1 := K2.out.box.cell 1; have z1 := K2.out.box.frozen 1; have r2 := K2.out.box.cell 2; have z2 := K2.out.box.frozen 2; have r3 := K2.out.box.cell 3; have z3 := K2.out.box.frozen 3; have y0 : w2.cell? ⟨g1, 0, none⟩ = some (.int .i64 k5) := T2.out.cell 0; have y1 : w2.cell? ⟨g1, 1, none⟩ = some (.int .i64 n5) := T2.out.cell 1; have y2 : w2.cell? ⟨g1, 2, none⟩ = some (.string s5) := T2.out.cell 2; have y3 : w2.cell? ⟨g1, 3, none⟩ = some (.slice A5 l5 c5) := T2.out.cell 3)
        refine ret_store4 (x := .bool false) K2.out.box (by intro W c0 c1 c2 c3; simp [results, Tryd.results19, go_sem, c0, c1, c2, c3]) ?_
        intro W hW hF
        rw [← HRP.out]
        exact ⟨rfl, K2.out.end_ hF⟩
    · have hni : ¬ (n : Int) = (s.size : Int) := by omega
      have hnb : ((n : Int) != (s.size : Int)) = true := bne_iff_ne.2 hni
      rw [if_neg (fun x => hn x.1)] at hrp
      have HRP := Lib.hid hrp
      clear hrp hn
      go_enter Tryd.func19, Tryd.ntmps19
      go_upto_region 1 with (fail)
      obtain ⟨W0, hW0⟩ : ∃ W0, w.alloc (.cells #[.int .i64 0, .int .i64 0, .string ⟨#[]⟩, .slice none 0 0] 24) = W0 := ⟨_, rfl⟩
      obtain ⟨g, hg⟩ : ∃ g, w.heap.size = g := ⟨_, rfl⟩
      rw [hW0, hg] at K0
      rw [hW0, hg]
      clear hW0
      have HG := Lib.hid hg
      clear hg
      go_upto_region 4 with (go_at_call 29; refine (HC.out _).mono ?_; rintro e w1 ⟨v1, rfl, hv1r, hb1⟩; obtain ⟨k5, n5, s5, A5, l5, c5, hv1⟩ := hv1r.form; rw [hv1] at hv1r; rw [hv1]; clear hv1; have K1 := Lib.hid (K0.out.below (hb1.alloc hb1.size (.cells #[.int .i64 k5, .int .i64 n5, .string s5, .slice A5 l5 c5] 24))); have HA1 := Lib.hid (hv1r.alloc (fun b x => x.2) (.cells #[.int .i64 k5, .int .i64 n5, .string s5, .slice A5 l5 c5] 24)); have T1 := Lib.hid (Box.new w1 24 #[.int .i64 k5, .int .i64 n5, .string s5, .slice A5 l5 c5]); clear hv1r hb1)
      obtain ⟨W1, hW1⟩ : ∃ W1, w1.alloc (.cells #[.int .i64 k5, .int .i64 n5, .string s5, .slice A5 l5 c5] 24) = W1 := ⟨_, rfl⟩
      obtain ⟨g1, hg1⟩ : ∃ g1, w1.heap.size = g1 := ⟨_, rfl⟩
      rw [hW1] at K1 HA1 T1
      rw [hg1] at T1 HA1
      rw [hW1, hg1]
      clear hW1 hg1
      have r0 := K1.out.box.cell 0
      have z0 := K1.out.box.frozen 0
      have r1 := K1.out.box.cell 1
      have z1 := K1.out.box.frozen 1
      have r2 := K1.out.box.cell 2
      have z2 := K1.out.box.frozen 2
      have r3 := K1.out.box.cell 3
      have z3 := K1.out.box.frozen 3
      have y0 : W1.cell? ⟨g1, 0, none⟩ = some (.int .i64 k5) := T1.out.cell 0
      have y1 : W1.cell? ⟨g1, 1, none⟩ = some (.int .i64 n5) := T1.out.cell 1
      have y2 : W1.cell? ⟨g1, 2, none⟩ = some (.string s5) := T1.out.cell 2
      have y3 : W1.cell? ⟨g1, 3, none⟩ = some (.slice A5 l5 c5) := T1.out.cell 3
      go_wp2_with (fail)
      refine ret_store4 (x := .bool false) K1.out.box (by intro W c0 c1 c2 c3; simp [results, Tryd.results19, go_sem, c0, c1, c2, c3]) ?_
      intro W hW hF
      rw [← HRP.out]
      exact ⟨rfl, K1.out.end_ hF⟩
end Go.Proofs.YtkfmagbaklikmaaDoor
