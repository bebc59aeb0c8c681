/-
  The program's Parse, by a contract. Conditions: the library's variables as laid.
-/
import Derived.Test.YtkfmagbaklikmaaDoorParseF
namespace Go.Proofs.YtkfmagbaklikmaaDoor
open Go Go.RowKit
set_option linter.unusedVariables false
set_option linter.unusedSimpArgs false

theorem termC_any {B g : Nat} {s : ByteArray} (hs : s.size ≤ 100000) (hg : B ≤ g) : ∀ f, TermC B g s (pTerm f) f f := by
  intro f
  induction f with
  | zero => intro w i h hL hm; omega
  | succ f ih => intro w i h hL hm; exact term_step h hs hL hg ih hm

/-- The term that a text is. -/
def parseOf (s : ByteArray) : Option Tm :=
  if 10000 < s.size then none else
    match pTerm (s.size + 1) s.data.toList with
    | some (t, n) => if n = s.size then some t else none
    | none => none

def ParseOk (w : World) (F : Nat) (r : Option Tm) (e : Ending) (w' : World) : Prop :=
  match r with
  | some t => ∃ v, e = .returned (.tuple #[v, .int .i64 0]) ∧ Reads w' (fun b => w.heap.size ≤ b ∧ b < w'.heap.size) F t v ∧ Below w.heap.size w w'
  | none => e = .returned (.tuple #[.agg #[.int .i64 0, .int .i64 0, .string ⟨#[]⟩, .slice none 0 0], .int .i64 17]) ∧ Below w.heap.size w w'

theorem Fr.over {w w' : World} {g : Nat} (h : Fr (fun k => k = g) w w') {B : Nat} (hB : B ≤ g) (hw : B ≤ w.heap.size) : Below B w w' := h.below hw (fun k e => by omega)

set_option maxHeartbeats 4000000 in
theorem parse_any {B : Nat} {w : World} (s : ByteArray) (hs : s.size ≤ maxLen) (hL : Laid B w) :
    Calls Tryd.prog 8 #[.string s] w fun e w' => ParseOk w (s.size + 1) (parseOf s) e w' := by
  unfold maxLen at hs
  obtain ⟨r, hr0⟩ : ∃ r, parseOf s = r := ⟨_, rfl⟩
  have HR := Lib.hid hr0
  rw [hr0]
  clear hr0
  have HLd := Lib.hid hL
  clear hL
  by_cases hbig : 10000 < s.size
  · have hbI : 10000 < (s.size : Int) := by omega
    have HX : Hid (r = none) := by
      show _ = _
      rw [← HR.out, parseOf, if_pos hbig]
    clear hbig
    go_enter Tryd.func8, Tryd.ntmps8
    go_wp2_with (fail)
    exact bodyPost_ret (v := .tuple #[.agg #[.int .i64 0, .int .i64 0, .string ⟨#[]⟩, .slice none 0 0], .int .i64 17]) (by simp [results, Tryd.results8, go_sem]) rfl (by rw [HX.out]; exact ⟨rfl, (Below.refl w.heap.size w).alloc (Nat.le_refl _) (.cells #[.int .i64 0, .int .i64 0, .string ⟨#[]⟩, .slice none 0 0] 28)⟩)
  · have hbI : ¬ 10000 < (s.size : Int) := by omega
    have hs2 : s.size ≤ 100000 := by omega
    have hbx : Box ((w.alloc (.cells #[.int .i64 0, .int .i64 0, .string ⟨#[]⟩, .slice none 0 0] 28)).alloc (.cells #[.string s, .int .i64 0] 53)) (w.heap.size + 1) 53 #[.string s, .int .i64 0] := by
      have := Box.new (w.alloc (.cells #[.int .i64 0, .int .i64 0, .string ⟨#[]⟩, .slice none 0 0] 28)) 53 #[.string s, .int .i64 0]
      simpa using this
    have hrd : Rd ((w.alloc (.cells #[.int .i64 0, .int .i64 0, .string ⟨#[]⟩, .slice none 0 0] 28)).alloc (.cells #[.string s, .int .i64 0] 53)) (w.heap.size + 1) s 0 := ⟨hbx, Nat.zero_le _⟩
    have hb0 : Below w.heap.size w ((w.alloc (.cells #[.int .i64 0, .int .i64 0, .string ⟨#[]⟩, .slice none 0 0] 28)).alloc (.cells #[.string s, .int .i64 0] 53)) := ((Below.refl _ w).alloc (Nat.le_refl _) _).alloc (by simp) _
    have hlaid : Laid B ((w.alloc (.cells #[.int .i64 0, .int .i64 0, .string ⟨#[]⟩, .slice none 0 0] 28)).alloc (.cells #[.string s, .int .i64 0] 53)) := HLd.out.below hb0 HLd.out.size
    have hgx : Box ((w.alloc (.cells #[.int .i64 0, .int .i64 0, .string ⟨#[]⟩, .slice none 0 0] 28)).alloc (.cells #[.string s, .int .i64 0] 53)) w.heap.size 28 #[.int .i64 0, .int .i64 0, .string ⟨#[]⟩, .slice none 0 0] := (Box.new w _ _).alloc _
    have HC := termC_any (B := B) (g := w.heap.size + 1) hs2 (by have := HLd.out.size; omega) (s.size + 1) _ 0 hrd hlaid (by omega)
    rw [List.drop_zero] at HC
    have hr : r = match pTerm (s.size + 1) s.data.toList with
      | some (t, n) => if n = s.size then some t else none
      | none => none := by rw [← HR.out, parseOf, if_neg hbig]
    obtain ⟨r1, hr1⟩ : ∃ r1, pTerm (s.size + 1) s.data.toList = r1 := ⟨_, rfl⟩
    rw [hr1] at HC hr
    have HRR := Lib.hid hr
    have HRd := Lib.hid hrd
    have HB0 := Lib.hid hb0
    have HGX := Lib.hid hgx
    have HC := Lib.hid HC
    clear hr hr1 hbig hbx hrd hb0 hlaid hgx HR HLd
    have HSZ : Hid (((w.alloc (.cells #[.int .i64 0, .int .i64 0, .string ⟨#[]⟩, .slice none 0 0] 28)).alloc (.cells #[.string s, .int .i64 0] 53)).heap.size = w.heap.size + 2) := by show _ = _; simp
    obtain ⟨wa, hwa⟩ : ∃ wa, (w.alloc (.cells #[.int .i64 0, .int .i64 0, .string ⟨#[]⟩, .slice none 0 0] 28)).alloc (.cells #[.string s, .int .i64 0] 53) = wa := ⟨_, rfl⟩
    obtain ⟨g, hg⟩ : ∃ g, w.heap.size + 1 = g := ⟨_, rfl⟩
    obtain ⟨G, hG⟩ : ∃ G, w.heap.size = G := ⟨_, rfl⟩
    have HWA := Lib.hid hwa
    have HG := Lib.hid hG
    have Hg := Lib.hid hg
    rw [hwa, hg] at HC HRd
    rw [hwa] at HB0 HGX HSZ
    rw [hG] at HGX
    clear hwa hG hg
    cases r1 with
    | none =>
      have HX : Hid (r = none) := HRR.out
      go_enter Tryd.func8, Tryd.ntmps8
      go_wp2_with (fail)
      rw [HWA.out, Hg.out, HG.out]
      refine HC.out.mono ?_
      rintro e w1 ⟨rfl, ⟨j1, hj1⟩, hf1⟩
      have BX1 := Lib.hid ((HGX.out.fr hf1 (by have := HG.out; have := Hg.out; omega)).alloc (.cells #[.int .i64 0, .int .i64 0, .string ⟨#[]⟩, .slice none 0 0] 28))
      have c0 : (w1.alloc (.cells #[.int .i64 0, .int .i64 0, .string ⟨#[]⟩, .slice none 0 0] 28)).cell? ⟨G, 0, none⟩ = some (.int .i64 0) := BX1.out.cell 0
      have c1 : (w1.alloc (.cells #[.int .i64 0, .int .i64 0, .string ⟨#[]⟩, .slice none 0 0] 28)).cell? ⟨G, 1, none⟩ = some (.int .i64 0) := BX1.out.cell 1
      have c2 : (w1.alloc (.cells #[.int .i64 0, .int .i64 0, .string ⟨#[]⟩, .slice none 0 0] 28)).cell? ⟨G, 2, none⟩ = some (.string ⟨#[]⟩) := BX1.out.cell 2
      have c3 : (w1.alloc (.cells #[.int .i64 0, .int .i64 0, .string ⟨#[]⟩, .slice none 0 0] 28)).cell? ⟨G, 3, none⟩ = some (.slice none 0 0) := BX1.out.cell 3
      have f0 : (w1.alloc (.cells #[.int .i64 0, .int .i64 0, .string ⟨#[]⟩, .slice none 0 0] 28)).frozen? ⟨G, 0, none⟩ = false := BX1.out.frozen 0
      have f1 : (w1.alloc (.cells #[.int .i64 0, .int .i64 0, .string ⟨#[]⟩, .slice none 0 0] 28)).frozen? ⟨G, 1, none⟩ = false := BX1.out.frozen 1
      have f2 : (w1.alloc (.cells #[.int .i64 0, .int .i64 0, .string ⟨#[]⟩, .slice none 0 0] 28)).frozen? ⟨G, 2, none⟩ = false := BX1.out.frozen 2
      have f3 : (w1.alloc (.cells #[.int .i64 0, .int .i64 0, .string ⟨#[]⟩, .slice none 0 0] 28)).frozen? ⟨G, 3, none⟩ = false := BX1.out.frozen 3
      have HB1 := Lib.hid (((HB0.out.trans (hf1.over (by have := Hg.out; omega) (by have := HSZ.out; omega))).alloc (by have := hf1.size; have := HSZ.out; omega) (.cells #[.int .i64 0, .int .i64 0, .string ⟨#[]⟩, .slice none 0 0] 28)))
      clear hj1 hf1
      go_wp2_with (fail)
      refine ret_store4 (x := .int .i64 17) BX1.out (by intro W c0 c1 c2 c3; simp [results, Tryd.results8, go_sem, c0, c1, c2, c3]) ?_
      intro W hW hF
      rw [HX.out]
      exact ⟨rfl, HB1.out.trans (hF.over (by have := HG.out; omega) HB1.out.size)⟩
    | some x =>
      obtain ⟨t, n⟩ := x
      go_enter Tryd.func8, Tryd.ntmps8
      go_wp2_with (fail)
      rw [HWA.out, Hg.out, HG.out]
      refine HC.out.mono ?_
      rintro e w1 ⟨v1, rfl, hj1, hf1, hrd1⟩
      obtain ⟨k1, n1, s1, A1, l1, cp1, hv1⟩ := hrd1.form
      rw [hv1] at hrd1
      rw [hv1]
      rw [Nat.zero_add] at hj1
      have BX1 := Lib.hid ((HGX.out.fr hf1 (by have := HG.out; have := Hg.out; omega)).alloc (.cells #[.int .i64 k1, .int .i64 n1, .string s1, .slice A1 l1 cp1] 28))
      have BT := Lib.hid (Box.new w1 28 #[.int .i64 k1, .int .i64 n1, .string s1, .slice A1 l1 cp1])
      have HJ := Lib.hid (hj1.alloc (.cells #[.int .i64 k1, .int .i64 n1, .string s1, .slice A1 l1 cp1] 28))
      have c0 : (w1.alloc (.cells #[.int .i64 k1, .int .i64 n1, .string s1, .slice A1 l1 cp1] 28)).cell? ⟨G, 0, none⟩ = some (.int .i64 0) := BX1.out.cell 0
      have c1 : (w1.alloc (.cells #[.int .i64 k1, .int .i64 n1, .string s1, .slice A1 l1 cp1] 28)).cell? ⟨G, 1, none⟩ = some (.int .i64 0) := BX1.out.cell 1
      have c2 : (w1.alloc (.cells #[.int .i64 k1, .int .i64 n1, .string s1, .slice A1 l1 cp1] 28)).cell? ⟨G, 2, none⟩ = some (.string ⟨#[]⟩) := BX1.out.cell 2
      have c3 : (w1.alloc (.cells #[.int .i64 k1, .int .i64 n1, .string s1, .slice A1 l1 cp1] 28)).cell? ⟨G, 3, none⟩ = some (.slice none 0 0) := BX1.out.cell 3
      have f0 : (w1.alloc (.cells #[.int .i64 k1, .int .i64 n1, .string s1, .slice A1 l1 cp1] 28)).frozen? ⟨G, 0, none⟩ = false := BX1.out.frozen 0
      have f1 : (w1.alloc (.cells #[.int .i64 k1, .int .i64 n1, .string s1, .slice A1 l1 cp1] 28)).frozen? ⟨G, 1, none⟩ = false := BX1.out.frozen 1
      have f2 : (w1.alloc (.cells #[.int .i64 k1, .int .i64 n1, .string s1, .slice A1 l1 cp1] 28)).frozen? ⟨G, 2, none⟩ = false := BX1.out.frozen 2
      have f3 : (w1.alloc (.cells #[.int .i64 k1, .int .i64 n1, .string s1, .slice A1 l1 cp1] 28)).frozen? ⟨G, 3, none⟩ = false := BX1.out.frozen 3
      have e0 : (w1.alloc (.cells #[.int .i64 k1, .int .i64 n1, .string s1, .slice A1 l1 cp1] 28)).cell? ⟨w1.heap.size, 0, none⟩ = some (.int .i64 k1) := BT.out.cell 0
      have e1 : (w1.alloc (.cells #[.int .i64 k1, .int .i64 n1, .string s1, .slice A1 l1 cp1] 28)).cell? ⟨w1.heap.size, 1, none⟩ = some (.int .i64 n1) := BT.out.cell 1
      have e2 : (w1.alloc (.cells #[.int .i64 k1, .int .i64 n1, .string s1, .slice A1 l1 cp1] 28)).cell? ⟨w1.heap.size, 2, none⟩ = some (.string s1) := BT.out.cell 2
      have e3 : (w1.alloc (.cells #[.int .i64 k1, .int .i64 n1, .string s1, .slice A1 l1 cp1] 28)).cell? ⟨w1.heap.size, 3, none⟩ = some (.slice A1 l1 cp1) := BT.out.cell 3
      have d0 : (w1.alloc (.cells #[.int .i64 k1, .int .i64 n1, .string s1, .slice A1 l1 cp1] 28)).cell? ⟨g, 1, none⟩ = some (.int .i64 ((n : Nat) : Int)) := HJ.out.1.cell 1
      have HB1 := Lib.hid (((HB0.out.trans (hf1.over (by have := Hg.out; omega) (by have := HSZ.out; omega))).alloc (by have := hf1.size; have := HSZ.out; omega) (.cells #[.int .i64 k1, .int .i64 n1, .string s1, .slice A1 l1 cp1] 28)))
      have HZ1 := Lib.hid hf1.size
      have HRD := Lib.hid hrd1
      clear hv1 hf1 hrd1
      by_cases he : n = s.size
      · have HX : Hid (r = some t) := by
          show _ = _
          rw [HRR.out, if_pos he]
        have heI : ((n : Int) == (s.size : Int)) = true := by simp only [beq_iff_eq]; omega
        have HE := Lib.hid he
        clear he hj1
        go_wp2_with (fail)
        refine ret_store4 (x := .int .i64 0) BX1.out (by intro W c0 c1 c2 c3; simp [results, Tryd.results8, go_sem, c0, c1, c2, c3]) ?_
        intro W hW hF
        rw [HX.out]
        have o1 := HG.out
        have o2 := HSZ.out
        have o3 := hF.size
        have o4 := HZ1.out
        simp only [World.size_alloc] at o3
        exact ⟨_, rfl, (HRD.out.fr (((Fr.refl (fun k => k = G) w1).alloc (.cells #[.int .i64 k1, .int .i64 n1, .string s1, .slice A1 l1 cp1] 28)).trans hF) (fun b hb => ⟨hb.2, by omega⟩)).more (fun b hb => ⟨by omega, by omega⟩), HB1.out.trans (hF.over (by omega) HB1.out.size)⟩
      · have HX : Hid (r = none) := by
          show _ = _
          rw [HRR.out, if_neg he]
        have heI : ((n : Int) == (s.size : Int)) = false := by simp only [beq_eq_false_iff_ne, ne_eq]; omega
        clear he hj1
        go_wp2_with (fail)
        refine ret_store4 (x := .int .i64 17) BX1.out (by intro W c0 c1 c2 c3; simp [results, Tryd.results8, go_sem, c0, c1, c2, c3]) ?_
        intro W hW hF
        rw [HX.out]
        exact ⟨rfl, HB1.out.trans (hF.over (by have := HG.out; omega) HB1.out.size)⟩
end Go.Proofs.YtkfmagbaklikmaaDoor
