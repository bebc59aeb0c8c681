/-
  The document's own calls on terms (resolventref03) that only read, each by a contract. Condition: the values read as trees.
-/
import Derived.Test.YtkfmagbaklikmaaDoorProg
import Derived.Test.YtkfmagbaklikmaaDoorTree
import Derived.Lib.Hide
import Derived.LoopTactic
import Derived.OpenShut
import Derived.Deep.RegionHeld3
import Derived.Deep.DeepCutAuto
namespace Go.Proofs.YtkfmagbaklikmaaDoor
open Go Go.RowKit
set_option linter.unusedVariables false

/-- How many parts. -/
theorem refSize_any (f : Nat) : ∀ (t : Tm) (v : Value) (w : World) (S : Nat → Prop), Reads w S f t v → (∀ b, S b → b < w.heap.size) → t.size ≤ 9223372036854775807 →
    Calls Tryd.prog 14 #[v] w fun e w' => e = .returned (.int .i64 t.size) ∧ Below w.heap.size w w' := by
  induction f with
  | zero => intro t v w S h; exact h.elim
  | succ f ih =>
    rintro ⟨k, n, s, l⟩ v w S ⟨A, c, rfl, h1, h2, h3, h4, h5, h6⟩ hS hsz
    have IH := Lib.hid ih
    have H6 := Lib.hid h6
    have HS := Lib.hid (size_node k n s l)
    rw [size_node] at hsz
    unfold maxLen at h2
    clear ih h6 h3 h4 h5
    go_enter Tryd.func14, Tryd.ntmps14
    go_wp2_with fail
    have hbox := Box.new w 24 #[.int .i64 k, .int .i64 n, .string s, .slice A l.length c]
    obtain ⟨w0, hw0⟩ : ∃ w0, w.alloc (.cells #[.int .i64 k, .int .i64 n, .string s, .slice A l.length c] 24) = w0 := ⟨_, rfl⟩
    obtain ⟨g, hg⟩ : ∃ g, w.heap.size = g := ⟨_, rfl⟩
    have hB0 : Below w.heap.size w w0 := by rw [← hw0]; exact (Below.refl _ w).alloc (Nat.le_refl _) _
    rw [hw0, hg] at hbox
    rw [hw0, hg]
    have HX := Lib.hid hbox
    have HB := Lib.hid hB0
    have hgw : g < w0.heap.size := hbox.lt
    have HG := Lib.hid hg
    clear hw0 hbox hB0 hg
    go_loopw [3, 4] (fun a i wr => ∃ j : Nat, j ≤ l.length ∧ i = .int .i64 j ∧ a = .int .i64 ((1 + sizes (l.take j) : Nat) : Int) ∧ Hid (Box wr g 24 #[.int .i64 k, .int .i64 n, .string s, .slice A l.length c]) ∧ Hid (Below w.heap.size w wr)) (fun _ i _ => l.length - (intOf i).toNat)
    case atStart => exact ⟨0, Nat.zero_le _, rfl, rfl, HX, HB⟩
    case round =>
      obtain ⟨j, hj, rfl, rfl, HX1, HB1⟩ := hrel
      clear HX HB hgw
      have k3 : wr.cell? ⟨g, 3, none⟩ = some (.slice A l.length c) := HX1.out.cell 3
      by_cases hlt : j < l.length
      · obtain ⟨b, off, v0, v1, v2, v3, rfl, hb, c0, c1, c2, c3, hr⟩ := H6.out j hlt
        have hbw : b < w.heap.size := hS b hb
        have q0 := (HB1.out.cell (p := ⟨b, off + j * 4, none⟩) hbw).trans c0
        have q1 := (HB1.out.cell (p := ⟨b, off + j * 4 + 1, none⟩) hbw).trans c1
        have q2 := (HB1.out.cell (p := ⟨b, off + j * 4 + 2, none⟩) hbw).trans c2
        have q3 := (HB1.out.cell (p := ⟨b, off + j * 4 + 3, none⟩) hbw).trans c3
        have hst := sizes_take l j hlt
        have hle := sizes_take_le l (j + 1)
        have HR := Lib.hid (IH.out l[j] _ wr S (hr.below HB1.out hS) (fun b hb => by have := HB1.out.size; have := hS b hb; omega) (by omega))
        have HS1 := Lib.hid hst
        obtain ⟨z, hz⟩ : ∃ z, l[j].size = z := ⟨_, rfl⟩
        obtain ⟨y, hy⟩ : ∃ y, sizes (l.take j) = y := ⟨_, rfl⟩
        rw [hz] at HR HS1 hst
        rw [hy] at HS1 hst
        have hyz : 1 + y + z ≤ 9223372036854775807 := by omega
        rw [hy]
        clear c0 c1 c2 c3 hr hz hst hle hy
        go_wp2_with fail
        refine HR.out.mono ?_
        rintro e w1 ⟨rfl, hb1⟩
        have HX2 := Lib.hid (HX1.out.below hb1 HX1.out.lt)
        have HB2 := Lib.hid (HB1.out.trans (hb1.mono HB1.out.size))
        clear hb1 q0 q1 q2 q3 k3
        go_wp2_with fail
        go_roundw
        case rel => exact ⟨j + 1, by omega, by go_num, by rw [HS1.out]; go_num, HX2, HB2⟩
        case measure => simp [intOf]; omega
      · have hge : (l.length : Int) ≤ (j : Int) := by omega
        have hje : l.take j = l := List.take_of_length_le (by omega)
        have HE := Lib.hid hje
        clear hje
        go_wp2_with fail
        go_ret
        exact ⟨by rw [HE.out, HS.out]; rfl, HB1.out⟩
/-- The same? -/
theorem refSame_any (f : Nat) : ∀ (a b : Tm) (u v : Value) (w : World) (S : Nat → Prop), Reads w S f a u → Reads w S f b v → (∀ b, S b → b < w.heap.size) →
    Calls Tryd.prog 11 #[u, v] w fun e w' => e = .returned (.bool (a.same b)) ∧ Below w.heap.size w w' := by
  induction f with
  | zero => intro a b u v w S h; exact h.elim
  | succ f ih =>
    rintro ⟨k, n, s, l⟩ ⟨k', n', s', l'⟩ u v w S ⟨A, c, rfl, h1, h2, h3, h4, h5, h6⟩ ⟨A', c', rfl, g1, g2, g3, g4, g5, g6⟩ hS
    have IH := Lib.hid ih
    have H6 := Lib.hid h6
    have G6 := Lib.hid g6
    unfold maxLen at h2 g2
    clear ih h6 h3 h4 h5 g6 g3 g4 g5
    by_cases e1 : k = k'
    · subst e1
      by_cases e2 : n = n'
      · subst e2
        by_cases e3 : s = s'
        · subst e3
          by_cases e4 : l.length = l'.length
          · have E4 := Lib.hid e4
            have hle : l'.length ≤ l.length := by omega
            have hge : l.length ≤ l'.length := by omega
            have hlI : (l'.length : Int) = (l.length : Int) := by omega
            rw [← e4] at g1
            rw [show Value.slice A' l'.length c' = Value.slice A' l.length c' by rw [e4]]
            clear e4 hlI
            go_enter Tryd.func11, Tryd.ntmps11
            go_wp2_with fail
            have hb1 : Box ((w.alloc (.cells #[.int .i64 k, .int .i64 n, .string s, .slice A l.length c] 24)).alloc (.cells #[.int .i64 k, .int .i64 n, .string s, .slice A' l.length c'] 24)) w.heap.size 24 #[.int .i64 k, .int .i64 n, .string s, .slice A l.length c] := (Box.new w _ _).alloc _
            have hb2 : Box ((w.alloc (.cells #[.int .i64 k, .int .i64 n, .string s, .slice A l.length c] 24)).alloc (.cells #[.int .i64 k, .int .i64 n, .string s, .slice A' l.length c'] 24)) (w.heap.size + 1) 24 #[.int .i64 k, .int .i64 n, .string s, .slice A' l.length c'] := by
              have := Box.new (w.alloc (.cells #[.int .i64 k, .int .i64 n, .string s, .slice A l.length c] 24)) 24 #[.int .i64 k, .int .i64 n, .string s, .slice A' l.length c']
              simpa using this
            have hbl : Below w.heap.size w ((w.alloc (.cells #[.int .i64 k, .int .i64 n, .string s, .slice A l.length c] 24)).alloc (.cells #[.int .i64 k, .int .i64 n, .string s, .slice A' l.length c'] 24)) := ((Below.refl _ w).alloc (Nat.le_refl _) _).alloc (by simp) _
            obtain ⟨w0, hw0⟩ : ∃ w0, (w.alloc (.cells #[.int .i64 k, .int .i64 n, .string s, .slice A l.length c] 24)).alloc (.cells #[.int .i64 k, .int .i64 n, .string s, .slice A' l.length c'] 24) = w0 := ⟨_, rfl⟩
            obtain ⟨g', hg'⟩ : ∃ g', w.heap.size + 1 = g' := ⟨_, rfl⟩
            obtain ⟨g, hg⟩ : ∃ g, w.heap.size = g := ⟨_, rfl⟩
            rw [hw0, hg'] at hb2
            rw [hw0] at hbl
            rw [hw0, hg] at hb1
            rw [hw0, hg', hg]
            have X1 := Lib.hid hb1
            have X2 := Lib.hid hb2
            have X3 := Lib.hid hbl
            clear hw0 hg' hg hb1 hb2 hbl
            go_loopw [5] (fun i wr => ∃ j : Nat, j ≤ l.length ∧ i = .int .i64 j ∧ Hid (sames (l.take j) (l'.take j) = true) ∧ Hid (Box wr g 24 #[.int .i64 k, .int .i64 n, .string s, .slice A l.length c]) ∧ Hid (Box wr g' 24 #[.int .i64 k, .int .i64 n, .string s, .slice A' l.length c']) ∧ Hid (Below w.heap.size w wr)) (fun i _ => l.length - (intOf i).toNat)
            case atStart => exact ⟨0, Nat.zero_le _, rfl, by simp [Hid, sames], X1, X2, X3⟩
            case round =>
              obtain ⟨j, hj, rfl, HJ, Y1, Y2, Y3⟩ := hrel
              clear X1 X2 X3
              have k3 : wr.cell? ⟨g, 3, none⟩ = some (.slice A l.length c) := Y1.out.cell 3
              have k4 : wr.cell? ⟨g', 3, none⟩ = some (.slice A' l.length c') := Y2.out.cell 3
              by_cases hlt : j < l.length
              · obtain ⟨b, off, v0, v1, v2, v3, rfl, hb, c0, c1, c2, c3, hr⟩ := H6.out j hlt
                obtain ⟨b', off', u0, u1, u2, u3, rfl, hb', d0, d1, d2, d3, hr'⟩ := G6.out j (by omega)
                have hbw : b < w.heap.size := hS b hb
                have hbw' : b' < w.heap.size := hS b' hb'
                have q0 := (Y3.out.cell (p := ⟨b, off + j * 4, none⟩) hbw).trans c0
                have q1 := (Y3.out.cell (p := ⟨b, off + j * 4 + 1, none⟩) hbw).trans c1
                have q2 := (Y3.out.cell (p := ⟨b, off + j * 4 + 2, none⟩) hbw).trans c2
                have q3 := (Y3.out.cell (p := ⟨b, off + j * 4 + 3, none⟩) hbw).trans c3
                have p0 := (Y3.out.cell (p := ⟨b', off' + j * 4, none⟩) hbw').trans d0
                have p1 := (Y3.out.cell (p := ⟨b', off' + j * 4 + 1, none⟩) hbw').trans d1
                have p2 := (Y3.out.cell (p := ⟨b', off' + j * 4 + 2, none⟩) hbw').trans d2
                have p3 := (Y3.out.cell (p := ⟨b', off' + j * 4 + 3, none⟩) hbw').trans d3
                have hsz := Y3.out.size
                have HR := IH.out l[j] (l'[j]'(by omega)) _ _ (wr.drewN 1) S ((hr.below Y3.out hS).drewN 1) ((hr'.below Y3.out hS).drewN 1) (fun b hb => by have := hS b hb; simp; omega)
                have hst := sames_take l l' E4.out j hlt
                rw [HJ.out, Bool.true_and] at hst
                have hdr := sames_drop l l' E4.out (j + 1)
                obtain ⟨z, hz⟩ : ∃ z, l[j].same (l'[j]'(by omega)) = z := ⟨_, rfl⟩
                rw [hz] at HR hst
                have HR := Lib.hid HR
                have HST := Lib.hid hst
                have HDR := Lib.hid hdr
                have hg1 : g < wr.heap.size := Y1.out.lt
                have hg2 : g' < wr.heap.size := Y2.out.lt
                have j0 : (0 : Int) ≤ (j : Int) := by omega
                have j1 : (j : Int) < (l.length : Int) := by omega
                clear c0 c1 c2 c3 d0 d1 d2 d3 hr hr' hst hdr hz HJ
                go_upto_region 6 with fail
                go_region_held3 (fun w' => (w'.cell? ⟨g, 3, none⟩ = some (.slice (some ⟨b, off, none⟩) l.length c) ∧ w'.cell? ⟨g', 3, none⟩ = some (.slice (some ⟨b', off', none⟩) l.length c')) ∧
                    (w'.cell? ⟨b, off + j * 4, none⟩ = some v0 ∧ w'.cell? ⟨b, off + j * 4 + 1, none⟩ = some v1 ∧ w'.cell? ⟨b, off + j * 4 + 2, none⟩ = some v2 ∧ w'.cell? ⟨b, off + j * 4 + 3, none⟩ = some v3) ∧
                    w'.cell? ⟨b', off' + j * 4, none⟩ = some u0 ∧ w'.cell? ⟨b', off' + j * 4 + 1, none⟩ = some u1 ∧ w'.cell? ⟨b', off' + j * 4 + 2, none⟩ = some u2 ∧ w'.cell? ⟨b', off' + j * 4 + 3, none⟩ = some u3)
                  (first | exact hS5 | exact ⟨⟨k3, k4⟩, ⟨q0, q1, q2, q3⟩, p0, p1, p2, p3⟩)
                  (first
                    | (go_at_call 11; refine HR.out.mono ?_; rintro e w5 ⟨rfl, hb5⟩; have hS5 := And.intro (And.intro ((hb5.cell (p := ⟨g, 3, none⟩) hg1).trans k3) ((hb5.cell (p := ⟨g', 3, none⟩) hg2).trans k4)) (And.intro (And.intro ((hb5.cell (p := ⟨b, off + j * 4, none⟩) (by simp; omega)).trans q0) (And.intro ((hb5.cell (p := ⟨b, off + j * 4 + 1, none⟩) (by simp; omega)).trans q1) (And.intro ((hb5.cell (p := ⟨b, off + j * 4 + 2, none⟩) (by simp; omega)).trans q2) ((hb5.cell (p := ⟨b, off + j * 4 + 3, none⟩) (by simp; omega)).trans q3)))) (And.intro ((hb5.cell (p := ⟨b', off' + j * 4, none⟩) (by simp; omega)).trans p0) (And.intro ((hb5.cell (p := ⟨b', off' + j * 4 + 1, none⟩) (by simp; omega)).trans p1) (And.intro ((hb5.cell (p := ⟨b', off' + j * 4 + 2, none⟩) (by simp; omega)).trans p2) ((hb5.cell (p := ⟨b', off' + j * 4 + 3, none⟩) (by simp; omega)).trans p3)))))))
                have hb6 : Below wr.heap.size wr w5 := below_from_drewN (m := 1) hb5
                have Z1 := Lib.hid (Y1.out.below hb6 hg1)
                have Z2 := Lib.hid (Y2.out.below hb6 hg2)
                have Z3 := Lib.hid (Y3.out.trans (hb6.mono hsz))
                clear hb5 hb6 hS5 q0 q1 q2 q3 p0 p1 p2 p3 k3 k4 Y1 Y2 Y3 HR hg1 hg2
                cases z
                · have HF : Hid (sames l l' = false) := HDR.out HST.out
                  go_wp2_with fail
                  go_ret
                  exact ⟨by simp [Tm.same, HF.out], Z3.out⟩
                · go_wp2_with fail
                  go_roundw
                  case rel => exact ⟨j + 1, by omega, by go_num, HST, Z1, Z2, Z3⟩
                  case measure => simp [intOf]; omega
              · have hge2 : (l.length : Int) ≤ (j : Int) := by omega
                have hje : l.take j = l := List.take_of_length_le (by omega)
                have hje' : l'.take j = l' := List.take_of_length_le (by omega)
                have HF : Hid (sames l l' = true) := by
                  have := HJ.out
                  rw [hje, hje'] at this
                  exact this
                clear hje hje' HJ
                go_wp2_with fail
                go_ret
                exact ⟨by simp [Tm.same, HF.out], Y3.out⟩
          · have hn4 : ((l.length : Int) == (l'.length : Int)) = false := by simp; omega
            have E4 := Lib.hid e4
            clear e4
            go_enter Tryd.func11, Tryd.ntmps11
            go_wp2_with fail
            go_ret
            exact ⟨by simp [Tm.same, sames_len E4.out], ((Below.refl _ w).alloc (Nat.le_refl _) _).alloc (by simp) _⟩
        · have hn3 := str_ne e3
          have E3 := Lib.hid e3
          clear e3
          go_enter Tryd.func11, Tryd.ntmps11
          go_wp2_with fail
          go_ret
          exact ⟨by simp [Tm.same, E3.out], ((Below.refl _ w).alloc (Nat.le_refl _) _).alloc (by simp) _⟩
      · go_enter Tryd.func11, Tryd.ntmps11
        go_wp2_with fail
        go_ret
        exact ⟨by simp [Tm.same, e2], ((Below.refl _ w).alloc (Nat.le_refl _) _).alloc (by simp) _⟩
    · go_enter Tryd.func11, Tryd.ntmps11
      go_wp2_with fail
      go_ret
      exact ⟨by simp [Tm.same, e1], ((Below.refl _ w).alloc (Nat.le_refl _) _).alloc (by simp) _⟩
end Go.Proofs.YtkfmagbaklikmaaDoor
