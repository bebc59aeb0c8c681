/-
  The reader's list, by a contract over the reader's term.
-/
import Derived.Test.YtkfmagbaklikmaaDoorParseC
namespace Go.Proofs.YtkfmagbaklikmaaDoor
open Go Go.RowKit
set_option linter.unusedVariables false
set_option linter.unusedSimpArgs false

/-- What stands while a call of the reader goes on: its reader, its result's cell. -/
structure St (B : Nat) (w wk : World) (g : Nat) (s : ByteArray) (j G : Nat) : Prop where
  rd : Rd wk g s j
  fr : Fr (fun k => k = g) w wk
  box : Box wk G 28 #[.int .i64 0, .int .i64 0, .string ⟨#[]⟩, .slice none 0 0]
  laid : Laid B wk
  new : w.heap.size ≤ G
  old : g < w.heap.size
  top : B ≤ g
section
variable {B : Nat} {w wk wl : World} {g : Nat} {s : ByteArray} {j j' G : Nat}
theorem St.start (h : Rd w g s j) (hL : Laid B w) (hg : B ≤ g) : St B w (w.alloc (.cells #[.int .i64 0, .int .i64 0, .string ⟨#[]⟩, .slice none 0 0] 28)) g s j w.heap.size :=
  ⟨h.alloc _, (Fr.refl _ w).alloc _, Box.new w _ _, hL.below ((Below.refl w.heap.size w).alloc (Nat.le_refl _) _) hL.size, Nat.le_refl _, h.lt, hg⟩
theorem St.alloc (h : St B w wk g s j G) (o : Obj) : St B w (wk.alloc o) g s j G :=
  ⟨h.rd.alloc o, h.fr.alloc o, h.box.alloc o, h.laid.below ((Below.refl wk.heap.size wk).alloc (Nat.le_refl _) o) h.laid.size, h.new, h.old, h.top⟩
theorem St.drewN (h : St B w wk g s j G) (n : Nat) : St B w (wk.drewN n) g s j G :=
  ⟨h.rd.drewN n, h.fr.drewN n, h.box.drewN n, h.laid.fr (S := fun _ => False) ((Fr.refl _ wk).drewN n) (fun _ x => x.elim), h.new, h.old, h.top⟩
theorem St.go (h : St B w wk g s j G) (hf : Fr (fun k => k = g) wk wl) (hr : Rd wl g s j') : St B w wl g s j' G :=
  ⟨hr, h.fr.trans hf, h.box.fr hf (by have := h.new; have := h.old; omega), h.laid.fr hf (fun k e => by have := h.top; omega), h.new, h.old, h.top⟩
theorem St.no (h : St B w wk g s j G) {W : World} (hF : Fr (fun k => k = G) wk W) {f i : Nat} {r : Option (Tm × Nat)} (hr : Hid (r = none)) :
    PRes w g s f i r (.returned (.tuple #[.agg #[.int .i64 0, .int .i64 0, .string ⟨#[]⟩, .slice none 0 0], .bool false])) W := by
  rw [hr.out]
  have := h.new
  have := h.old
  exact ⟨rfl, ⟨_, h.rd.fr hF (by omega)⟩, h.fr.new hF h.new⟩
end

/-- The reader's term, from places with fewer than m bytes behind. -/
def TermC (B : Nat) (g : Nat) (s : ByteArray) (p : List UInt8 → Option (Tm × Nat)) (m F : Nat) : Prop :=
  ∀ (w : World) (i : Nat), Rd w g s i → Laid B w → s.size - i < m →
    Calls Tryd.prog 24 #[.pointer (some ⟨g, 0, none⟩)] w fun e w' => PRes w g s F i (p (s.data.toList.drop i)) e w'

theorem head_yes {s : ByteArray} {i : Nat} {c : UInt8} (h : headIs (s.data.toList.drop i) c = true) : ∃ hi : i < s.size, s[i] = c := by
  by_cases hi : i < s.size
  · refine ⟨hi, ?_⟩
    rw [drop_at s i hi] at h
    simpa [headIs] using h
  · rw [List.drop_of_length_le (by simp; omega)] at h
    simp [headIs] at h
theorem head_no {s : ByteArray} {i : Nat} {c : UInt8} (h : headIs (s.data.toList.drop i) c = false) : ∀ hi : i < s.size, s[i] ≠ c := by
  intro hi e
  rw [drop_at s i hi] at h
  simp [headIs, e] at h
theorem skip_is_no {w : World} {g : Nat} {s : ByteArray} {i : Nat} (h : Rd w g s i) (hs : s.size ≤ 100000) (c : UInt8) (z : Int) (hz : z = ((c.toNat : Nat) : Int)) (hc : headIs (s.data.toList.drop i) c = false) :
    Calls Tryd.prog 35 #[.pointer (some ⟨g, 0, none⟩), .int .u8 z] w fun e w' => e = .returned (.bool false) ∧ Rd w' g s i ∧ Fr (fun k => k = g) w w' := by
  subst hz
  refine (skip_no h (by unfold maxLen; omega) c (head_no hc)).mono ?_
  rintro e w' ⟨rfl, n, rfl⟩
  exact ⟨rfl, h.drewN n, (Fr.refl _ w).drewN n⟩
theorem skip_is_yes {w : World} {g : Nat} {s : ByteArray} {i : Nat} (h : Rd w g s i) (hs : s.size ≤ 100000) (c : UInt8) (z : Int) (hz : z = ((c.toNat : Nat) : Int)) (hc : headIs (s.data.toList.drop i) c = true) :
    Calls Tryd.prog 35 #[.pointer (some ⟨g, 0, none⟩), .int .u8 z] w fun e w' => e = .returned (.bool true) ∧ Rd w' g s (i + 1) ∧ Fr (fun k => k = g) w w' := by
  subst hz
  obtain ⟨hi, h1⟩ := head_yes hc
  exact skip_yes h (by unfold maxLen; omega) c hi h1
theorem drop_drop (l : List UInt8) (a b : Nat) : (l.drop a).drop b = l.drop (a + b) := List.drop_drop

set_option maxHeartbeats 2000000 in
theorem list_any {B : Nat} {w : World} {g : Nat} {s : ByteArray} {i m F : Nat} {p : List UInt8 → Option (Tm × Nat)} (h : Rd w g s i) (hs : s.size ≤ 100000) (hL : Laid B w) (hg : B ≤ g) (hT : TermC B g s p m F) (hm : s.size - i < m) :
    Calls Tryd.prog 37 #[.pointer (some ⟨g, 0, none⟩)] w fun e w' => PRes w g s (F + 1) i (pList p (s.data.toList.drop i)) e w' := by
  have S0 := Lib.hid (St.start h hL hg)
  have HT := Lib.hid hT
  obtain ⟨r, hr⟩ : ∃ r, pList p (s.data.toList.drop i) = r := ⟨_, rfl⟩
  rw [hr]
  have HP := Lib.hid hr
  obtain ⟨r1, hr1⟩ : ∃ r1, p (s.data.toList.drop i) = r1 := ⟨_, rfl⟩
  have H1 := Lib.hid hr1
  have HC1 := hT _ i S0.out.rd S0.out.laid hm
  rw [hr1] at HC1
  have HC1 := Lib.hid HC1
  clear hr hr1 hT h hL
  obtain ⟨G, hG⟩ : ∃ G, w.heap.size = G := ⟨_, rfl⟩
  obtain ⟨wa, hwa⟩ : ∃ wa, w.alloc (.cells #[.int .i64 0, .int .i64 0, .string ⟨#[]⟩, .slice none 0 0] 28) = wa := ⟨_, rfl⟩
  have HWA := Lib.hid hwa
  rw [hwa] at HC1 S0
  rw [hG] at S0
  have HG := Lib.hid hG
  cases r1 with
  | none =>
    have HX : Hid (r = none) := by
      show _ = _
      rw [← HP.out]
      simp only [pList, H1.out]
    clear hwa hG
    go_enter Tryd.func37, Tryd.ntmps37
    go_wp2_with (fail)
    rw [HWA.out, HG.out]
    refine HC1.out.mono ?_
    rintro e w1 ⟨rfl, ⟨j1, hj1⟩, hf1⟩
    have S1 := Lib.hid ((S0.out.go hf1 hj1).alloc (.cells #[.int .i64 0, .int .i64 0, .string ⟨#[]⟩, .slice none 0 0] 28))
    have c0 : (w1.alloc (.cells #[.int .i64 0, .int .i64 0, .string ⟨#[]⟩, .slice none 0 0] 28)).cell? ⟨G, 0, none⟩ = some (.int .i64 0) := S1.out.box.cell 0
    have c1 : (w1.alloc (.cells #[.int .i64 0, .int .i64 0, .string ⟨#[]⟩, .slice none 0 0] 28)).cell? ⟨G, 1, none⟩ = some (.int .i64 0) := S1.out.box.cell 1
    have c2 : (w1.alloc (.cells #[.int .i64 0, .int .i64 0, .string ⟨#[]⟩, .slice none 0 0] 28)).cell? ⟨G, 2, none⟩ = some (.string ⟨#[]⟩) := S1.out.box.cell 2
    have c3 : (w1.alloc (.cells #[.int .i64 0, .int .i64 0, .string ⟨#[]⟩, .slice none 0 0] 28)).cell? ⟨G, 3, none⟩ = some (.slice none 0 0) := S1.out.box.cell 3
    have f0 : (w1.alloc (.cells #[.int .i64 0, .int .i64 0, .string ⟨#[]⟩, .slice none 0 0] 28)).frozen? ⟨G, 0, none⟩ = false := S1.out.box.frozen 0
    have f1 : (w1.alloc (.cells #[.int .i64 0, .int .i64 0, .string ⟨#[]⟩, .slice none 0 0] 28)).frozen? ⟨G, 1, none⟩ = false := S1.out.box.frozen 1
    have f2 : (w1.alloc (.cells #[.int .i64 0, .int .i64 0, .string ⟨#[]⟩, .slice none 0 0] 28)).frozen? ⟨G, 2, none⟩ = false := S1.out.box.frozen 2
    have f3 : (w1.alloc (.cells #[.int .i64 0, .int .i64 0, .string ⟨#[]⟩, .slice none 0 0] 28)).frozen? ⟨G, 3, none⟩ = false := S1.out.box.frozen 3
    clear hj1 hf1
    go_wp2_with (fail)
    refine ret_store4 (x := .bool false) S1.out.box (by intro W c0 c1 c2 c3; simp [results, Tryd.results37, go_sem, c0, c1, c2, c3]) ?_
    intro W hW hF
    exact S1.out.no hF HX
  | some x =>
    obtain ⟨a, n⟩ := x
    clear hwa hG
    go_enter Tryd.func37, Tryd.ntmps37
    go_wp2_with (fail)
    rw [HWA.out, HG.out]
    refine HC1.out.mono ?_
    rintro e w1 ⟨v1, rfl, hj1, hf1, hr1⟩
    obtain ⟨k1, n1, s1, A1, l1, cp1, hv1⟩ := hr1.form
    rw [hv1] at hr1
    rw [hv1]
    have HA := Lib.hid hr1
    have S1 := Lib.hid ((S0.out.go hf1 hj1).alloc (.cells #[.int .i64 k1, .int .i64 n1, .string s1, .slice A1 l1 cp1] 28))
    have bxa : Box (w1.alloc (.cells #[.int .i64 k1, .int .i64 n1, .string s1, .slice A1 l1 cp1] 28)) w1.heap.size 28 #[.int .i64 k1, .int .i64 n1, .string s1, .slice A1 l1 cp1] := Box.new w1 _ _
    have BXA := Lib.hid bxa
    have hwa2 : wa.heap.size = w.heap.size + 1 := by rw [← HWA.out]; simp
    have hz1 := hf1.size
    have HZ1 := Lib.hid hz1
    have c0 : (w1.alloc (.cells #[.int .i64 k1, .int .i64 n1, .string s1, .slice A1 l1 cp1] 28)).cell? ⟨G, 0, none⟩ = some (.int .i64 0) := S1.out.box.cell 0
    have c1 : (w1.alloc (.cells #[.int .i64 k1, .int .i64 n1, .string s1, .slice A1 l1 cp1] 28)).cell? ⟨G, 1, none⟩ = some (.int .i64 0) := S1.out.box.cell 1
    have c2 : (w1.alloc (.cells #[.int .i64 k1, .int .i64 n1, .string s1, .slice A1 l1 cp1] 28)).cell? ⟨G, 2, none⟩ = some (.string ⟨#[]⟩) := S1.out.box.cell 2
    have c3 : (w1.alloc (.cells #[.int .i64 k1, .int .i64 n1, .string s1, .slice A1 l1 cp1] 28)).cell? ⟨G, 3, none⟩ = some (.slice none 0 0) := S1.out.box.cell 3
    have f0 : (w1.alloc (.cells #[.int .i64 k1, .int .i64 n1, .string s1, .slice A1 l1 cp1] 28)).frozen? ⟨G, 0, none⟩ = false := S1.out.box.frozen 0
    have f1 : (w1.alloc (.cells #[.int .i64 k1, .int .i64 n1, .string s1, .slice A1 l1 cp1] 28)).frozen? ⟨G, 1, none⟩ = false := S1.out.box.frozen 1
    have f2 : (w1.alloc (.cells #[.int .i64 k1, .int .i64 n1, .string s1, .slice A1 l1 cp1] 28)).frozen? ⟨G, 2, none⟩ = false := S1.out.box.frozen 2
    have f3 : (w1.alloc (.cells #[.int .i64 k1, .int .i64 n1, .string s1, .slice A1 l1 cp1] 28)).frozen? ⟨G, 3, none⟩ = false := S1.out.box.frozen 3
    clear hj1 hv1 bxa hr1
    obtain ⟨z, hz⟩ : ∃ z, headIs (s.data.toList.drop (i + n)) 124 = z := ⟨_, rfl⟩
    have H2 := Lib.hid hz
    clear hz hf1
    cases z
    · have HX : Hid (r = none) := by
        show _ = _
        rw [← HP.out]
        simp only [pList, H1.out, drop_drop, H2.out, if_false, Bool.false_eq_true]
      go_wp2_with (go_at_call 35; refine (skip_is_no S1.out.rd hs 124 _ rfl H2.out).mono ?_; rintro e w2 ⟨rfl, hj2, hf2⟩; have S2 := Lib.hid (S1.out.go hf2 hj2); clear c0 c1 c2 c3 f0 f1 f2 f3 hj2 hf2; have c0 : w2.cell? ⟨G, 0, none⟩ = some (.int .i64 0) := S2.out.box.cell 0; have c1 : w2.cell? ⟨G, 1, none⟩ = some (.int .i64 0) := S2.out.box.cell 1; have c2 : w2.cell? ⟨G, 2, none⟩ = some (.string ⟨#[]⟩) := S2.out.box.cell 2; have c3 : w2.cell? ⟨G, 3, none⟩ = some (.slice none 0 0) := S2.out.box.cell 3; have f0 : w2.frozen? ⟨G, 0, none⟩ = false := S2.out.box.frozen 0; have f1 : w2.frozen? ⟨G, 1, none⟩ = false := S2.out.box.frozen 1; have f2 : w2.frozen? ⟨G, 2, none⟩ = false := S2.out.box.frozen 2; have f3 : w2.frozen? ⟨G, 3, none⟩ = false := S2.out.box.frozen 3)
      refine ret_store4 (x := .bool false) S2.out.box (by intro W c0 c1 c2 c3; simp [results, Tryd.results37, go_sem, c0, c1, c2, c3]) ?_
      intro W hW hF
      exact S2.out.no hF HX
    · obtain ⟨r2, hr2⟩ : ∃ r2, p (s.data.toList.drop (i + n + 1)) = r2 := ⟨_, rfl⟩
      have H3 := Lib.hid hr2
      clear hr2
      cases r2 with
      | none =>
        have HX : Hid (r = none) := by
          show _ = _
          rw [← HP.out]
          simp only [pList, H1.out, drop_drop, H2.out, if_true, ← Nat.add_assoc, H3.out]
        go_wp2_with (first
          | (go_at_call 35; refine (skip_is_yes S1.out.rd hs 124 _ rfl H2.out).mono ?_; rintro e w2 ⟨rfl, hj2, hf2⟩; have S2 := Lib.hid (S1.out.go hf2 hj2); clear c0 c1 c2 c3 f0 f1 f2 f3 hj2 hf2)
          | (go_at_call 24; have HC2 := HT.out _ _ S2.out.rd S2.out.laid (by omega); rw [H3.out] at HC2; refine HC2.mono ?_; rintro e w3 ⟨rfl, ⟨j3, hj3⟩, hf3⟩; have S3 := Lib.hid ((S2.out.go hf3 hj3).alloc (.cells #[.int .i64 0, .int .i64 0, .string ⟨#[]⟩, .slice none 0 0] 28)); clear HC2 hj3 hf3; have c0 : (w3.alloc (.cells #[.int .i64 0, .int .i64 0, .string ⟨#[]⟩, .slice none 0 0] 28)).cell? ⟨G, 0, none⟩ = some (.int .i64 0) := S3.out.box.cell 0; have c1 : (w3.alloc (.cells #[.int .i64 0, .int .i64 0, .string ⟨#[]⟩, .slice none 0 0] 28)).cell? ⟨G, 1, none⟩ = some (.int .i64 0) := S3.out.box.cell 1; have c2 : (w3.alloc (.cells #[.int .i64 0, .int .i64 0, .string ⟨#[]⟩, .slice none 0 0] 28)).cell? ⟨G, 2, none⟩ = some (.string ⟨#[]⟩) := S3.out.box.cell 2; have c3 : (w3.alloc (.cells #[.int .i64 0, .int .i64 0, .string ⟨#[]⟩, .slice none 0 0] 28)).cell? ⟨G, 3, none⟩ = some (.slice none 0 0) := S3.out.box.cell 3; have f0 : (w3.alloc (.cells #[.int .i64 0, .int .i64 0, .string ⟨#[]⟩, .slice none 0 0] 28)).frozen? ⟨G, 0, none⟩ = false := S3.out.box.frozen 0; have f1 : (w3.alloc (.cells #[.int .i64 0, .int .i64 0, .string ⟨#[]⟩, .slice none 0 0] 28)).frozen? ⟨G, 1, none⟩ = false := S3.out.box.frozen 1; have f2 : (w3.alloc (.cells #[.int .i64 0, .int .i64 0, .string ⟨#[]⟩, .slice none 0 0] 28)).frozen? ⟨G, 2, none⟩ = false := S3.out.box.frozen 2; have f3 : (w3.alloc (.cells #[.int .i64 0, .int .i64 0, .string ⟨#[]⟩, .slice none 0 0] 28)).frozen? ⟨G, 3, none⟩ = false := S3.out.box.frozen 3))
        refine ret_store4 (x := .bool false) S3.out.box (by intro W c0 c1 c2 c3; simp [results, Tryd.results37, go_sem, c0, c1, c2, c3]) ?_
        intro W hW hF
        exact S3.out.no hF HX
      | some x =>
        obtain ⟨b, m2⟩ := x
        obtain ⟨z, hz⟩ : ∃ z, headIs (s.data.toList.drop (i + n + 1 + m2)) 93 = z := ⟨_, rfl⟩
        have H4 := Lib.hid hz
        have hfl : True := trivial
        clear hz
        cases z
        · have HX : Hid (r = none) := by
            show _ = _
            rw [← HP.out]
            simp only [pList, H1.out, drop_drop, H2.out, if_true, ← Nat.add_assoc, H3.out, H4.out, if_false, Bool.false_eq_true]
          go_wp2_with (first
            | (go_at_call 35; first
                | (have _ := hfl; clear hfl; refine (skip_is_yes S1.out.rd hs 124 _ rfl H2.out).mono ?_; rintro e w2 ⟨rfl, hj2, hf2⟩; have S2 := Lib.hid (S1.out.go hf2 hj2); clear c0 c1 c2 c3 f0 f1 f2 f3 hj2 hf2)
                | (refine (skip_is_no S3.out.rd hs 93 _ rfl H4.out).mono ?_; rintro e w4 ⟨rfl, hj4, hf4⟩; have S4 := Lib.hid (S3.out.go hf4 hj4); clear hj4 hf4; have c0 : w4.cell? ⟨G, 0, none⟩ = some (.int .i64 0) := S4.out.box.cell 0; have c1 : w4.cell? ⟨G, 1, none⟩ = some (.int .i64 0) := S4.out.box.cell 1; have c2 : w4.cell? ⟨G, 2, none⟩ = some (.string ⟨#[]⟩) := S4.out.box.cell 2; have c3 : w4.cell? ⟨G, 3, none⟩ = some (.slice none 0 0) := S4.out.box.cell 3; have f0 : w4.frozen? ⟨G, 0, none⟩ = false := S4.out.box.frozen 0; have f1 : w4.frozen? ⟨G, 1, none⟩ = false := S4.out.box.frozen 1; have f2 : w4.frozen? ⟨G, 2, none⟩ = false := S4.out.box.frozen 2; have f3 : w4.frozen? ⟨G, 3, none⟩ = false := S4.out.box.frozen 3))
            | (go_at_call 24; have HC2 := HT.out _ _ S2.out.rd S2.out.laid (by omega); rw [H3.out] at HC2; refine HC2.mono ?_; rintro e w3 ⟨v2, rfl, hj3, hf3, hr2⟩; obtain ⟨k2, n2, s2, A2, l2, cp2, hv2⟩ := hr2.form; rw [hv2] at hr2; rw [hv2]; clear hv2; have S3 := Lib.hid ((S2.out.go hf3 hj3).alloc (.cells #[.int .i64 k2, .int .i64 n2, .string s2, .slice A2 l2 cp2] 28)); clear HC2 hj3 hf3))
          refine ret_store4 (x := .bool false) S4.out.box (by intro W c0 c1 c2 c3; simp [results, Tryd.results37, go_sem, c0, c1, c2, c3]) ?_
          intro W hW hF
          exact S4.out.no hF HX
        · have HX : Hid (r = some (.node 3 0 ⟨#[]⟩ [a, b], n + 1 + m2 + 1)) := by
            show _ = _
            rw [← HP.out]
            simp only [pList, H1.out, drop_drop, H2.out, if_true, ← Nat.add_assoc, H3.out, H4.out]
          go_wp2_with (first
            | (go_at_call 35; first
                | (have _ := hfl; clear hfl; refine (skip_is_yes S1.out.rd hs 124 _ rfl H2.out).mono ?_; rintro e w2 ⟨rfl, hj2, hf2⟩; have S2 := Lib.hid (S1.out.go hf2 hj2); have BXA2 := Lib.hid (BXA.out.fr hf2 (by have := HZ1.out; have := S1.out.old; omega)); have F2 := Lib.hid hf2; clear c0 c1 c2 c3 f0 f1 f2 f3 hj2 hf2)
                | (refine (skip_is_yes S3.out.rd hs 93 _ rfl H4.out).mono ?_; rintro e w4 ⟨rfl, hj4, hf4⟩; have S4 := Lib.hid (S3.out.go hf4 hj4); have BXA4 := Lib.hid (BXA3.out.fr hf4 (by have := HZ1.out; have := S1.out.old; omega)); have BXB4 := Lib.hid (BXB.out.fr hf4 (by have := HZ3.out; have := S1.out.old; omega)); have F4 := Lib.hid hf4; clear hj4 hf4; have c0 : ∀ o, (w4.alloc o).cell? ⟨G, 0, none⟩ = some (.int .i64 0) := fun o => (S4.out.box.alloc o).cell 0; have c1 : ∀ o, (w4.alloc o).cell? ⟨G, 1, none⟩ = some (.int .i64 0) := fun o => (S4.out.box.alloc o).cell 1; have c2 : ∀ o, (w4.alloc o).cell? ⟨G, 2, none⟩ = some (.string ⟨#[]⟩) := fun o => (S4.out.box.alloc o).cell 2; have c3 : ∀ o, (w4.alloc o).cell? ⟨G, 3, none⟩ = some (.slice none 0 0) := fun o => (S4.out.box.alloc o).cell 3; have f0 : ∀ o, (w4.alloc o).frozen? ⟨G, 0, none⟩ = false := fun o => (S4.out.box.alloc o).frozen 0; have f1 : ∀ o, (w4.alloc o).frozen? ⟨G, 1, none⟩ = false := fun o => (S4.out.box.alloc o).frozen 1; have f2 : ∀ o, (w4.alloc o).frozen? ⟨G, 2, none⟩ = false := fun o => (S4.out.box.alloc o).frozen 2; have f3 : ∀ o, (w4.alloc o).frozen? ⟨G, 3, none⟩ = false := fun o => (S4.out.box.alloc o).frozen 3; have x0 : w4.cell? ⟨w1.heap.size, 0, none⟩ = some (.int .i64 k1) := BXA4.out.cell 0; have x1 : w4.cell? ⟨w1.heap.size, 1, none⟩ = some (.int .i64 n1) := BXA4.out.cell 1; have x2 : w4.cell? ⟨w1.heap.size, 2, none⟩ = some (.string s1) := BXA4.out.cell 2; have x3 : w4.cell? ⟨w1.heap.size, 3, none⟩ = some (.slice A1 l1 cp1) := BXA4.out.cell 3; have y0 : w4.cell? ⟨w3.heap.size, 0, none⟩ = some (.int .i64 k2) := BXB4.out.cell 0; have y1 : w4.cell? ⟨w3.heap.size, 1, none⟩ = some (.int .i64 n2) := BXB4.out.cell 1; have y2 : w4.cell? ⟨w3.heap.size, 2, none⟩ = some (.string s2) := BXB4.out.cell 2; have y3 : w4.cell? ⟨w3.heap.size, 3, none⟩ = some (.slice A2 l2 cp2) := BXB4.out.cell 3))
            | (go_at_call 24; have HC2 := HT.out _ _ S2.out.rd S2.out.laid (by omega); rw [H3.out] at HC2; refine HC2.mono ?_; rintro e w3 ⟨v2, rfl, hj3, hf3, hr2⟩; obtain ⟨k2, n2, s2, A2, l2, cp2, hv2⟩ := hr2.form; rw [hv2] at hr2; rw [hv2]; clear hv2; have HB := Lib.hid hr2; have S3 := Lib.hid ((S2.out.go hf3 hj3).alloc (.cells #[.int .i64 k2, .int .i64 n2, .string s2, .slice A2 l2 cp2] 28)); have BXA3 := Lib.hid ((BXA2.out.fr hf3 (by have := HZ1.out; have := S1.out.old; omega)).alloc (.cells #[.int .i64 k2, .int .i64 n2, .string s2, .slice A2 l2 cp2] 28)); have BXB := Lib.hid (Box.new w3 28 #[.int .i64 k2, .int .i64 n2, .string s2, .slice A2 l2 cp2]); have F3 := Lib.hid hf3; have HZ3 := Lib.hid (show wa.heap.size ≤ w3.heap.size by have h1 := HZ1.out; have h2 := F2.out.size; have h3 := hf3.size; simp only [World.size_alloc] at h2; omega); clear HC2 hj3 hf3 hr2))
          have S5 := Lib.hid (S4.out.alloc (.cells #[.int .i64 k1, .int .i64 n1, .string s1, .slice A1 l1 cp1, .int .i64 k2, .int .i64 n2, .string s2, .slice A2 l2 cp2] 28))
          have BX5 := Lib.hid (Box.new w4 28 #[.int .i64 k1, .int .i64 n1, .string s1, .slice A1 l1 cp1, .int .i64 k2, .int .i64 n2, .string s2, .slice A2 l2 cp2])
          refine ret_store4 (x := .bool true) S5.out.box (by intro W c0 c1 c2 c3; simp [results, Tryd.results37, go_sem, c0, c1, c2, c3]) ?_
          intro W hW hF
          rw [HX.out]
          have o1 := S1.out.old
          have o2 := S5.out.box.lt
          have o3 := HZ1.out
          have o4 := HG.out
          have o5 := S4.out.box.lt
          have o6 := hF.size
          have o7 := F2.out.size
          have o8 := F4.out.size
          have o9 := HZ3.out
          have o10 := S3.out.box.lt
          simp only [World.size_alloc] at o2 o6 o7 o8 o10
          have hBX : Box W w4.heap.size 28 #[.int .i64 k1, .int .i64 n1, .string s1, .slice A1 l1 cp1, .int .i64 k2, .int .i64 n2, .string s2, .slice A2 l2 cp2] := BX5.out.fr hF (by omega)
          have fr3 : Fr (fun k => k = g ∨ k = G) w3 W := ((((Fr.refl _ w3).alloc _).trans (F4.out.mono (fun k _ e => .inl e))).alloc _).trans (hF.mono (fun k _ e => .inr e))
          have fr1 : Fr (fun k => k = g ∨ k = G) w1 W := ((((Fr.refl _ w1).alloc _).trans (F2.out.mono (fun k _ e => .inl e))).trans (F3.out.mono (fun k _ e => .inl e))).trans fr3
          have o11 := fr3.size
          have o12 := F3.out.size
          refine ⟨_, rfl, ?_, S5.out.fr.new hF S5.out.new, ?_⟩
          · have e : i + (n + 1 + m2 + 1) = i + n + 1 + m2 + 1 := by omega
            rw [e]
            exact S5.out.rd.fr hF (by omega)
          · refine ⟨some ⟨w4.heap.size, 0, none⟩, 2, rfl, Nat.le_refl _, by unfold maxLen; omega, by unfold maxLen; simp [ByteArray.size], by decide, by decide, fun j hj => ?_⟩
            match j, hj with
            | 0, _ => exact ⟨w4.heap.size, 0, _, _, _, _, rfl, ⟨by omega, by omega⟩, hBX.cell 0, hBX.cell 1, hBX.cell 2, hBX.cell 3, (HA.out.fr fr1 (fun b hb => ⟨hb.2, by omega⟩)).more (fun b hb => ⟨by omega, by omega⟩)⟩
            | 1, _ => exact ⟨w4.heap.size, 0, _, _, _, _, rfl, ⟨by omega, by omega⟩, hBX.cell 4, hBX.cell 5, hBX.cell 6, hBX.cell 7, (HB.out.fr fr3 (fun b hb => ⟨hb.2, by omega⟩)).more (fun b hb => ⟨by omega, by omega⟩)⟩
            | j + 2, h => simp at h; omega
end Go.Proofs.YtkfmagbaklikmaaDoor
