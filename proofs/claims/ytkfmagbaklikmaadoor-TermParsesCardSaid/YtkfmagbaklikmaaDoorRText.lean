/-
  A term in words, by the document (resolventref03.Text), by a contract. Conditions: the value reads as a term that may be; its words are less than 2^40 bytes.
-/
import Derived.Test.YtkfmagbaklikmaaDoorTxtA
import Derived.Test.YtkfmagbaklikmaaDoorNumB
import Derived.Test.YtkfmagbaklikmaaDoorRightB
namespace Go.Proofs.YtkfmagbaklikmaaDoor
open Go Go.RowKit
set_option linter.unusedVariables false
set_option linter.unusedSimpArgs false

/-- A list of bytes as a string. -/
def bs (l : List UInt8) : ByteArray := ⟨l.toArray⟩
theorem bs_app (a b : List UInt8) : bs a ++ bs b = bs (a ++ b) := by
  unfold bs
  rw [ByteArray.mk_append_mk]
theorem bs_size (l : List UInt8) : (bs l).size = l.length := by simp [bs, ByteArray.size]
theorem str_bs (s : ByteArray) : bs s.data.toList = s := by simp [bs]
theorem lit_bs (a : UInt8) : (⟨#[a]⟩ : ByteArray) = bs [a] := rfl

def RText (f : Nat) : Prop := ∀ (t : Tm) (v : Value) (w : World) (S : Nat → Prop), Reads w S f t v → (∀ b, S b → b < w.heap.size) → t.right = true → t.text.length ≤ 1000000000000 →
    Calls Tryd.prog 10 #[v] w fun e w' => e = .returned (.string (bs t.text)) ∧ Below w.heap.size w w'

theorem right_node {k n : Int} {s : ByteArray} {l : List Tm} (h : (Tm.node k n s l).right = true) : rights l = true ∧ kindOk k n s l.length = true := by
  rw [Tm.right, Bool.and_eq_true] at h
  exact h
theorem rights_at : ∀ {l : List Tm} (h : rights l = true) (i : Nat) (hi : i < l.length), l[i].right = true
  | a :: r, h, i, hi => by
    rw [rights, Bool.and_eq_true] at h
    cases i with
    | zero => exact h.1
    | succ i => exact rights_at h.2 i (by simpa using hi)
theorem kind_cases {k n : Int} {s : ByteArray} {m : Nat} (h : kindOk k n s m = true) : (k = 0 ∧ 0 ≤ n ∧ n ≤ 999 ∧ m = 0) ∨ (k = 1 ∧ m = 0) ∨ (k = 2 ∧ 1 ≤ m ∧ m ≤ 8) ∨ (k = 3 ∧ m = 2) := by
  by_cases e0 : k = 0
  · subst e0
    have := (kind0 n s m).1 h
    omega
  · by_cases e1 : k = 1
    · subst e1
      have := (kind1 n s m).1 h
      omega
    · by_cases e2 : k = 2
      · subst e2
        have := (kind2 n s m).1 h
        omega
      · by_cases e3 : k = 3
        · subst e3
          have := (kind3 n s m).1 h
          omega
        · simp [kindOk, e0, e1, e2, e3] at h

theorem bel_dr (w0 : World) : Below w0.heap.size w0 (w0.drewN 1) := ⟨rfl, rfl, rfl, Nat.le_refl _, fun _ _ => rfl⟩
theorem bel_dr6 {w0 w6 : World} (h : Below (w0.drewN 1).heap.size (w0.drewN 1) w6) : Below w0.heap.size w0 w6 := below_from_drewN (m := 1) h
theorem bel_eight {w0 w' : World} {gb b off : Nat} {x v0 v1 v2 v3 u0 u1 u2 u3 : Value} (h : Below w0.heap.size w0 w') (hg : gb < w0.heap.size) (hb : b < w0.heap.size)
    (h0 : w0.cell? ⟨gb, 3, none⟩ = some x ∧ (w0.cell? ⟨b, off, none⟩ = some v0 ∧ w0.cell? ⟨b, off + 1, none⟩ = some v1 ∧ w0.cell? ⟨b, off + 2, none⟩ = some v2 ∧ w0.cell? ⟨b, off + 3, none⟩ = some v3) ∧
        w0.cell? ⟨b, off + 4, none⟩ = some u0 ∧ w0.cell? ⟨b, off + 5, none⟩ = some u1 ∧ w0.cell? ⟨b, off + 6, none⟩ = some u2 ∧ w0.cell? ⟨b, off + 7, none⟩ = some u3) :
    w'.cell? ⟨gb, 3, none⟩ = some x ∧ (w'.cell? ⟨b, off, none⟩ = some v0 ∧ w'.cell? ⟨b, off + 1, none⟩ = some v1 ∧ w'.cell? ⟨b, off + 2, none⟩ = some v2 ∧ w'.cell? ⟨b, off + 3, none⟩ = some v3) ∧
        w'.cell? ⟨b, off + 4, none⟩ = some u0 ∧ w'.cell? ⟨b, off + 5, none⟩ = some u1 ∧ w'.cell? ⟨b, off + 6, none⟩ = some u2 ∧ w'.cell? ⟨b, off + 7, none⟩ = some u3 := by
  have c := fun (o : Nat) (v : Value) (e : w0.cell? ⟨b, o, none⟩ = some v) => (h.cell (p := ⟨b, o, none⟩) hb).trans e
  obtain ⟨a, ⟨a0, a1, a2, a3⟩, a4, a5, a6, a7⟩ := h0
  exact ⟨(h.cell (p := ⟨gb, 3, none⟩) hg).trans a, ⟨c _ _ a0, c _ _ a1, c _ _ a2, c _ _ a3⟩, c _ _ a4, c _ _ a5, c _ _ a6, c _ _ a7⟩

set_option maxHeartbeats 2000000 in
set_option maxRecDepth 100000 in
theorem rtext_step {f : Nat} (ih : RText f) : RText (f + 1) := by
  rintro ⟨k, n, s, l⟩ v w S ⟨A, c, rfl, h1, h2, h3, h4, h5, h6⟩ hS hr hl
  have IH := Lib.hid ih
  have H6 := Lib.hid h6
  have HS := Lib.hid hS
  have HRI := Lib.hid (right_node hr).1
  have hk := kind_cases (right_node hr).2
  obtain ⟨tx, htx⟩ : ∃ tx, (Tm.node k n s l).text = tx := ⟨_, rfl⟩
  rw [htx] at hl ⊢
  have HTX := Lib.hid htx
  have HLN := Lib.hid hl
  unfold maxLen at h2 h3
  have hb0 : Below w.heap.size w (w.alloc (.cells #[.int .i64 k, .int .i64 n, .string s, .slice A l.length c] 24)) := (Below.refl _ w).alloc (Nat.le_refl _) _
  have HB0 := Lib.hid hb0
  have HBX := Lib.hid (Box.new w 24 #[.int .i64 k, .int .i64 n, .string s, .slice A l.length c])
  have HSZ : Hid ((w.alloc (.cells #[.int .i64 k, .int .i64 n, .string s, .slice A l.length c] 24)).heap.size = w.heap.size + 1) := by show _ = _; simp
  obtain ⟨gb, hgb⟩ : ∃ gb, w.heap.size = gb := ⟨_, rfl⟩
  obtain ⟨w0, hw0⟩ : ∃ w0, w.alloc (.cells #[.int .i64 k, .int .i64 n, .string s, .slice A l.length c] 24) = w0 := ⟨_, rfl⟩
  have HGB := Lib.hid hgb
  have HW0 := Lib.hid hw0
  rw [hw0] at HB0 HBX HSZ
  rw [hgb] at HBX HSZ
  clear ih h6 hS hr htx hl hb0 hw0 hgb h4 h5
  have k0 : w0.cell? ⟨gb, 0, none⟩ = some (.int .i64 k) := HBX.out.cell 0
  have k1 : w0.cell? ⟨gb, 1, none⟩ = some (.int .i64 n) := HBX.out.cell 1
  have k2 : w0.cell? ⟨gb, 2, none⟩ = some (.string s) := HBX.out.cell 2
  have k3 : w0.cell? ⟨gb, 3, none⟩ = some (.slice A l.length c) := HBX.out.cell 3
  rcases hk with ⟨rfl, hn0, hn1, hm⟩ | ⟨rfl, hm⟩ | ⟨rfl, hm1, hm2⟩ | ⟨rfl, hm⟩
  · clear hm
    have HX : Hid (tx = 88 :: Lib.itoa n) := by
      show _ = _
      rw [← HTX.out, Tm.text, if_pos rfl]
    obtain ⟨sv, hsv⟩ : ∃ sv : ByteArray, (⟨(Lib.itoa n).toArray⟩ : ByteArray) = sv := ⟨_, rfl⟩
    have HSV := Lib.hid hsv
    have hz : (9223372036854775807 < 1 + sv.size) = False := by
      have e := HLN.out
      rw [HX.out] at e
      simp only [List.length_cons] at e
      have e2 : sv.size = (Lib.itoa n).length := by rw [← hsv]; simp [ByteArray.size]
      simp
      omega
    clear hsv
    go_enter Tryd.func10, Tryd.ntmps10
    go_upto_region 1 with (fail)
    rw [HW0.out, HGB.out]
    go_wp2_with (go_at_call 26; refine (num_itoa n hn0 (by omega) _).mono ?_; rw [HSV.out]; rintro e w2 ⟨rfl, mm, rfl⟩)
    go_ret
    refine ⟨?_, ⟨HB0.out.os, HB0.out.tape, HB0.out.output, HB0.out.size, HB0.out.block⟩⟩
    rw [HX.out, ← HSV.out]
    exact congrArg (fun x => Ending.returned (.string x)) (bs_app [88] (Lib.itoa n))
  · clear hm
    have HX : Hid (tx = s.data.toList) := by
      show _ = _
      rw [← HTX.out, Tm.text, if_neg (by decide), if_pos rfl]
    go_enter Tryd.func10, Tryd.ntmps10
    go_upto_region 1 with (fail)
    rw [HW0.out, HGB.out]
    go_wp2_with (fail)
    go_ret
    refine ⟨?_, HB0.out⟩
    rw [HX.out, str_bs]
    rfl
  · have HX : Hid (tx = s.data.toList ++ 40 :: ((more 44 l).drop 1 ++ [41])) := by
      show _ = _
      rw [← HTX.out, Tm.text, if_neg (by decide), if_neg (by decide), if_pos rfl]
    have hlen : s.size + (more 44 l).length + 1 ≤ 1000000000001 := by
      have e := HLN.out
      rw [HX.out] at e
      simp at e
      omega
    have HLE := Lib.hid hlen
    have hs1 : (9223372036854775807 < s.size + 1) = False := by simp; omega
    have z0 : (s ++ bs [40]).size = s.size + 1 := by rw [ByteArray.size_append, bs_size]; rfl
    obtain ⟨s0, hs0⟩ : ∃ s0, s ++ bs [40] = s0 := ⟨_, rfl⟩
    have e0 : s0 = bs (s.data.toList ++ 40 :: ((more 44 (l.take 0)).drop 1)) := by
      rw [← hs0]
      have e : s ++ bs [40] = bs s.data.toList ++ bs [40] := by rw [str_bs]
      rw [e, bs_app]
      simp [more]
    have HE0 := Lib.hid e0
    have HS0 := Lib.hid hs0
    have hglt : gb < w0.heap.size := HBX.out.lt
    clear hlen z0 hs0 e0 hm1 hm2
    go_enter Tryd.func10, Tryd.ntmps10
    go_upto_region 1 with (fail)
    rw [HW0.out, HGB.out]
    go_upto_region 9 with (fail)
    clear hs1
    rw [show ((⟨#[40]⟩ : ByteArray)) = bs [40] from rfl, HS0.out]
    go_wp2_with (fail)
    clear k0 k1 k2 k3
    go_loopw [3, 4] (fun a i wr => ∃ (j : Nat) (sv : ByteArray), a = .string sv ∧ i = .int .i64 ((j : Nat) : Int) ∧ j ≤ l.length ∧ Hid (sv = bs (s.data.toList ++ 40 :: ((more 44 (l.take j)).drop 1))) ∧ Hid (Below w0.heap.size w0 wr)) (fun _ i _ => l.length - (intOf i).toNat)
    case atStart => exact ⟨0, s0, rfl, rfl, Nat.zero_le _, HE0, Below.refl _ _⟩
    case round =>
      obtain ⟨j, sv, rfl, rfl, hj, HSV, HBr⟩ := hrel
      have r3 : wr.cell? ⟨gb, 3, none⟩ = some (.slice A l.length c) := (HBr.out.cell (p := ⟨gb, 3, none⟩) hglt).trans (HBX.out.cell 3)
      have hle := more_take_le 44 l j
      have zsv : sv.size = s.size + 1 + ((more 44 (l.take j)).length - 1) := by
        rw [HSV.out, bs_size]
        simp
        omega
      by_cases hlt : j < l.length
      · obtain ⟨b, off, v0, v1, v2, v3, rfl, hb, c0, c1, c2, c3, hr⟩ := H6.out j hlt
        have hbw : b < w.heap.size := HS.out b hb
        have hb1 := HB0.out.trans (HBr.out.mono HB0.out.size)
        have q0 := (hb1.cell (p := ⟨b, off + j * 4, none⟩) hbw).trans c0
        have q1 := (hb1.cell (p := ⟨b, off + j * 4 + 1, none⟩) hbw).trans c1
        have q2 := (hb1.cell (p := ⟨b, off + j * 4 + 2, none⟩) hbw).trans c2
        have q3 := (hb1.cell (p := ⟨b, off + j * 4 + 3, none⟩) hbw).trans c3
        have e1 := more_take 44 l j hlt
        have e2 := more_take_le 44 l (j + 1)
        have e3 : (more 44 (l.take (j + 1))).length = (more 44 (l.take j)).length + 1 + l[j].text.length := by rw [e1]; simp; omega
        have hle2 := HLE.out
        have HC := Lib.hid (IH.out l[j] (.agg #[v0, v1, v2, v3]) wr S (hr.below hb1 HS.out) (fun b hb => by have := HS.out b hb; have := hb1.size; omega) (rights_at HRI.out j hlt) (by omega))
        obtain ⟨st, hst⟩ : ∃ st, bs l[j].text = st := ⟨_, rfl⟩
        have zst : st.size = l[j].text.length := by rw [← hst]; exact bs_size _
        rw [hst] at HC
        have HE1 := Lib.hid e1
        have HST := Lib.hid hst
        by_cases hj0 : j = 0
        · have h0I : ¬ (0 : Int) < (j : Int) := by omega
          have t1 : (9223372036854775807 < sv.size + st.size) = False := by simp; omega
          have HN : Hid (sv ++ st = bs (s.data.toList ++ 40 :: ((more 44 (l.take (j + 1))).drop 1))) := by
            show _ = _
            have e0 : more 44 (l.take j) = [] := by rw [hj0]; simp [more]
            rw [HSV.out, ← HST.out, bs_app, HE1.out, e0]
            simp
          clear zsv zst hle hle2 e1 e2 e3 c0 c1 c2 c3 hr hst hj0
          go_wp2_with (go_at_call 10; refine HC.out.mono ?_; rintro e w5 ⟨rfl, hb5⟩; have HB5 := Lib.hid (HBr.out.trans (hb5.mono HBr.out.size)); clear hb5)
          go_roundw
          case rel => exact ⟨j + 1, sv ++ st, rfl, by go_num, by omega, HN, HB5⟩
          case measure => simp [intOf]; omega
        · have h0I : (0 : Int) < (j : Int) := by omega
          have hpos := more_pos 44 l j (by omega) (by omega)
          have t0 : (9223372036854775807 < sv.size + 1) = False := by simp; omega
          have t1 : (9223372036854775807 < sv.size + 1 + st.size) = False := by simp; omega
          have HN : Hid ((sv ++ bs [44]) ++ st = bs (s.data.toList ++ 40 :: ((more 44 (l.take (j + 1))).drop 1))) := by
            show _ = _
            rw [HSV.out, ← HST.out, bs_app, bs_app, HE1.out, List.drop_append_of_le_length hpos]
            simp
          clear zsv zst hle hle2 e1 e2 e3 c0 c1 c2 c3 hr hst hj0 hpos
          go_wp2_with (go_at_call 10; refine HC.out.mono ?_; rintro e w5 ⟨rfl, hb5⟩; have HB5 := Lib.hid (HBr.out.trans (hb5.mono HBr.out.size)); clear hb5)
          go_roundw
          case rel => exact ⟨j + 1, (sv ++ bs [44]) ++ st, rfl, by go_num, by omega, HN, HB5⟩
          case measure => simp [intOf]; omega
      · have hge : (l.length : Int) ≤ (j : Int) := by omega
        have t0 : (9223372036854775807 < sv.size + 1) = False := by have := HLE.out; simp; omega
        have HN : Hid (sv ++ bs [41] = bs tx) := by
          show _ = _
          rw [HSV.out, List.take_of_length_le (by omega), bs_app, HX.out]
          simp
        clear zsv hle
        go_wp2_with (fail)
        go_ret
        exact ⟨by rw [← HN.out]; rfl, HB0.out.trans (HBr.out.mono HB0.out.size)⟩
  · have HX : Hid (tx = 91 :: ((more 124 l).drop 1 ++ [93])) := by
      show _ = _
      rw [← HTX.out, Tm.text, if_neg (by decide), if_neg (by decide), if_neg (by decide), if_pos rfl]
    obtain ⟨b, off, v0, v1, v2, v3, rfl, hb, c0, c1, c2, c3, hr0⟩ := H6.out 0 (by omega)
    obtain ⟨b', off', u0, u1, u2, u3, hA, hb', d0, d1, d2, d3, hr1⟩ := H6.out 1 (by omega)
    simp only [Option.some.injEq, Addr.mk.injEq, and_true] at hA
    obtain ⟨rfl, rfl⟩ := hA
    have hbw : b < w.heap.size := HS.out b hb
    have q0 := (HB0.out.cell (p := ⟨b, off + 0 * 4, none⟩) hbw).trans c0
    have q1 := (HB0.out.cell (p := ⟨b, off + 0 * 4 + 1, none⟩) hbw).trans c1
    have q2 := (HB0.out.cell (p := ⟨b, off + 0 * 4 + 2, none⟩) hbw).trans c2
    have q3 := (HB0.out.cell (p := ⟨b, off + 0 * 4 + 3, none⟩) hbw).trans c3
    have p0 := (HB0.out.cell (p := ⟨b, off + 1 * 4, none⟩) hbw).trans d0
    have p1 := (HB0.out.cell (p := ⟨b, off + 1 * 4 + 1, none⟩) hbw).trans d1
    have p2 := (HB0.out.cell (p := ⟨b, off + 1 * 4 + 2, none⟩) hbw).trans d2
    have p3 := (HB0.out.cell (p := ⟨b, off + 1 * 4 + 3, none⟩) hbw).trans d3
    simp only [Nat.zero_mul, Nat.add_zero, Nat.one_mul, Nat.add_assoc, Nat.reduceAdd] at q0 q1 q2 q3 p0 p1 p2 p3
    have i0 : (0 : Int) < (l.length : Int) := by omega
    have i1 : (1 : Int) < (l.length : Int) := by omega
    have i2 : 0 < l.length := by omega
    have i3 : ¬ l = [] := by intro e; rw [e] at i2; simp at i2
    obtain ⟨a0, b0, hab⟩ : ∃ a0 b0, l = [a0, b0] := by
      match l, hm with
      | [a0, b0], _ => exact ⟨a0, b0, rfl⟩
    have g0 : l[0]'(by omega) = a0 := by subst hab; rfl
    have g1 : l[1]'(by omega) = b0 := by subst hab; rfl
    rw [g0] at hr0
    rw [g1] at hr1
    have hra : a0.right = true := by rw [← g0]; exact rights_at HRI.out 0 (by omega)
    have hrb : b0.right = true := by rw [← g1]; exact rights_at HRI.out 1 (by omega)
    have hx2 : tx = 91 :: (a0.text ++ 124 :: (b0.text ++ [93])) := by
      rw [HX.out, hab]
      simp [more]
    have hlen : a0.text.length + b0.text.length + 3 ≤ 1000000000000 := by
      have e := HLN.out
      rw [hx2] at e
      simp at e
      omega
    have HX2 := Lib.hid hx2
    have HCA := Lib.hid (fun (W : World) (hb : Below w0.heap.size w0 W) => IH.out a0 (.agg #[v0, v1, v2, v3]) W S ((hr0.below HB0.out HS.out).below hb (fun b hb => by have := HS.out b hb; have := HB0.out.size; omega)) (fun b hb' => by have := HS.out b hb'; have := HB0.out.size; have := hb.size; omega) hra (by omega))
    have HCB := Lib.hid (fun (W : World) (hb : Below w0.heap.size w0 W) => IH.out b0 (.agg #[u0, u1, u2, u3]) W S ((hr1.below HB0.out HS.out).below hb (fun b hb => by have := HS.out b hb; have := HB0.out.size; omega)) (fun b hb' => by have := HS.out b hb'; have := HB0.out.size; have := hb.size; omega) hrb (by omega))
    obtain ⟨sa, hsa⟩ : ∃ sa, bs a0.text = sa := ⟨_, rfl⟩
    obtain ⟨sb, hsb⟩ : ∃ sb, bs b0.text = sb := ⟨_, rfl⟩
    have za : sa.size = a0.text.length := by rw [← hsa]; exact bs_size _
    have zb : sb.size = b0.text.length := by rw [← hsb]; exact bs_size _
    rw [hsa] at HCA
    rw [hsb] at HCB
    have HSA := Lib.hid hsa
    have HSB := Lib.hid hsb
    have t1 : (9223372036854775807 < 1 + sa.size) = False := by simp; omega
    have t2 : (9223372036854775807 < 1 + sa.size + 1) = False := by simp; omega
    have t3 : (9223372036854775807 < 1 + sa.size + 1 + sb.size) = False := by simp; omega
    have t4 : (9223372036854775807 < 1 + sa.size + 1 + sb.size + 1) = False := by simp; omega
    have hblt : b < w0.heap.size := by have := HB0.out.size; omega
    have hglt : gb < w0.heap.size := HBX.out.lt
    clear hm hab g0 g1 hr0 hr1 hra hrb hx2 hlen hsa hsb za zb c0 c1 c2 c3 d0 d1 d2 d3
    have hS0 := And.intro k3 (And.intro (And.intro q0 (And.intro q1 (And.intro q2 q3))) (And.intro p0 (And.intro p1 (And.intro p2 p3))))
    go_enter Tryd.func10, Tryd.ntmps10
    go_upto_region 1 with (fail)
    rw [HW0.out, HGB.out]
    go_upto_region 7 with (fail)
    go_region_held3 (fun w' => w'.cell? ⟨gb, 3, none⟩ = some (.slice (some ⟨b, off, none⟩) l.length c) ∧ (w'.cell? ⟨b, off, none⟩ = some v0 ∧ w'.cell? ⟨b, off + 1, none⟩ = some v1 ∧ w'.cell? ⟨b, off + 2, none⟩ = some v2 ∧ w'.cell? ⟨b, off + 3, none⟩ = some v3) ∧
        w'.cell? ⟨b, off + 4, none⟩ = some u0 ∧ w'.cell? ⟨b, off + 5, none⟩ = some u1 ∧ w'.cell? ⟨b, off + 6, none⟩ = some u2 ∧ w'.cell? ⟨b, off + 7, none⟩ = some u3)
      (first | exact hS7 | exact hS6 | exact hS0)
      (first
        | (go_at_call_of 10 (Value.agg #[v0, v1, v2, v3]); first
            | (refine (HCA.out w6 HB6.out).mono ?_; rintro e w7 ⟨rfl, hb7⟩; have HB7 := Lib.hid (HB6.out.trans (hb7.mono HB6.out.size)); have hS7 := bel_eight HB7.out hglt hblt hS0; clear hb7)
            | (refine (HCA.out _ (bel_dr w0)).mono ?_; rintro e w6 ⟨rfl, hb6⟩; have HB6 := Lib.hid (bel_dr6 hb6); have hS6 := bel_eight HB6.out hglt hblt hS0; clear hb6))
        | (go_at_call_of 10 (Value.agg #[u0, u1, u2, u3]); first
            | (refine (HCB.out w6 HB6.out).mono ?_; rintro e w7 ⟨rfl, hb7⟩; have HB7 := Lib.hid (HB6.out.trans (hb7.mono HB6.out.size)); have hS7 := bel_eight HB7.out hglt hblt hS0; clear hb7)
            | (refine (HCB.out _ (bel_dr w0)).mono ?_; rintro e w6 ⟨rfl, hb6⟩; have HB6 := Lib.hid (bel_dr6 hb6); have hS6 := bel_eight HB6.out hglt hblt hS0; clear hb6)))
    all_goals
      go_wp2_with (fail)
      go_ret
      refine ⟨?_, HB0.out.trans (HB7.out.mono HB0.out.size)⟩
      rw [HX2.out, ← HSA.out, ← HSB.out]
      show Ending.returned (.string _) = _
      congr 2
      show ((((bs [91] ++ bs a0.text) ++ bs [124]) ++ bs b0.text) ++ bs [93]) = _
      simp only [bs_app]
      congr 1
      simp

theorem rText_any : ∀ f, RText f := by
  intro f
  induction f with
  | zero => intro t v w S h; exact h.elim
  | succ f ih => exact rtext_step ih
end Go.Proofs.YtkfmagbaklikmaaDoor
