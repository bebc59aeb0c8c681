/-
  The program's own Same, by a contract. Condition: the values read as trees.
-/
import Derived.Test.YtkfmagbaklikmaaDoorTermA
namespace Go.Proofs.YtkfmagbaklikmaaDoor
open Go Go.RowKit
set_option linter.unusedVariables false

set_option maxRecDepth 100000 in
theorem tSame_any (f : Nat) : ∀ (a b : Tm) (u v : Value) (w : World) (S : Nat → Prop), Reads w S f a u → Reads w S f b v → (∀ b, S b → b < w.heap.size) →
    Calls Tryd.prog 18 #[u, v] w fun e w' => e = .returned (.bool (a.same b)) ∧ Below w.heap.size w w' := by
  induction f with
  | zero => intro a b u v w S h; exact h.elim
  | succ f ih =>
    rintro ⟨k, n, s, l⟩ ⟨k', n', s', l'⟩ u v w S ⟨A, c, rfl, h1, h2, h3, h4, h5, h6⟩ ⟨A', c', rfl, g1, g2, g3, g4, g5, g6⟩ hS
    have IH := Lib.hid ih
    have H6 := Lib.hid h6
    have G6 := Lib.hid g6
    unfold maxLen at h2 g2
    clear ih h6 h3 h4 h5 g6 g3 g4 g5
    by_cases e1 : k = k'
    · subst e1
      by_cases e2 : n = n'
      · subst e2
        by_cases e3 : s = s'
        · subst e3
          by_cases e4 : l.length = l'.length
          · have E4 := Lib.hid e4
            have hle : l'.length ≤ l.length := by omega
            have hge : l.length ≤ l'.length := by omega
            have hlI : (l'.length : Int) = (l.length : Int) := by omega
            rw [← e4] at g1
            rw [show Value.slice A' l'.length c' = Value.slice A' l.length c' by rw [e4]]
            clear e4 hlI
            go_enter Tryd.func18, Tryd.ntmps18
            go_wp2_with fail
            have hb1 : Box ((w.alloc (.cells #[.int .i64 k, .int .i64 n, .string s, .slice A l.length c] 28)).alloc (.cells #[.int .i64 k, .int .i64 n, .string s, .slice A' l.length c'] 28)) w.heap.size 28 #[.int .i64 k, .int .i64 n, .string s, .slice A l.length c] := (Box.new w _ _).alloc _
            have hb2 : Box ((w.alloc (.cells #[.int .i64 k, .int .i64 n, .string s, .slice A l.length c] 28)).alloc (.cells #[.int .i64 k, .int .i64 n, .string s, .slice A' l.length c'] 28)) (w.heap.size + 1) 28 #[.int .i64 k, .int .i64 n, .string s, .slice A' l.length c'] := by
              have := Box.new (w.alloc (.cells #[.int .i64 k, .int .i64 n, .string s, .slice A l.length c] 28)) 28 #[.int .i64 k, .int .i64 n, .string s, .slice A' l.length c']
              simpa using this
            have hbl : Below w.heap.size w ((w.alloc (.cells #[.int .i64 k, .int .i64 n, .string s, .slice A l.length c] 28)).alloc (.cells #[.int .i64 k, .int .i64 n, .string s, .slice A' l.length c'] 28)) := ((Below.refl _ w).alloc (Nat.le_refl _) _).alloc (by simp) _
            obtain ⟨w0, hw0⟩ : ∃ w0, (w.alloc (.cells #[.int .i64 k, .int .i64 n, .string s, .slice A l.length c] 28)).alloc (.cells #[.int .i64 k, .int .i64 n, .string s, .slice A' l.length c'] 28) = w0 := ⟨_, rfl⟩
            obtain ⟨g', hg'⟩ : ∃ g', w.heap.size + 1 = g' := ⟨_, rfl⟩
            obtain ⟨g, hg⟩ : ∃ g, w.heap.size = g := ⟨_, rfl⟩
            rw [hw0, hg'] at hb2
            rw [hw0] at hbl
            rw [hw0, hg] at hb1
            rw [hw0, hg', hg]
            have X1 := Lib.hid hb1
            have X2 := Lib.hid hb2
            have X3 := Lib.hid hbl
            clear hw0 hg' hg hb1 hb2 hbl
            go_loopw [38] (fun i wr => ∃ j : Nat, j ≤ l.length ∧ i = .int .i64 j ∧ Hid (sames (l.take j) (l'.take j) = true) ∧ Hid (Box wr g 28 #[.int .i64 k, .int .i64 n, .string s, .slice A l.length c]) ∧ Hid (Box wr g' 28 #[.int .i64 k, .int .i64 n, .string s, .slice A' l.length c']) ∧ Hid (Below w.heap.size w wr)) (fun i _ => l.length - (intOf i).toNat)
            case atStart => exact ⟨0, Nat.zero_le _, rfl, by simp [Hid, sames], X1, X2, X3⟩
            case round =>
              obtain ⟨j, hj, rfl, HJ, Y1, Y2, Y3⟩ := hrel
              clear X1 X2 X3
              have k4 : wr.cell? ⟨g', 3, none⟩ = some (.slice A' l.length c') := Y2.out.cell 3
              by_cases hlt : j < l.length
              · obtain ⟨b, off, v0, v1, v2, v3, rfl, hb, c0, c1, c2, c3, hr⟩ := H6.out j hlt
                obtain ⟨b', off', u0, u1, u2, u3, rfl, hb', d0, d1, d2, d3, hr'⟩ := G6.out j (by omega)
                obtain ⟨k1, n1, s1, A1, l1, cp1, hv⟩ := hr.form
                simp only [Value.agg.injEq, Array.mk.injEq, List.cons.injEq, and_true] at hv
                obtain ⟨rfl, rfl, rfl, rfl⟩ := hv
                have hbw : b < w.heap.size := hS b hb
                have hbw' : b' < w.heap.size := hS b' hb'
                have q0 := (Y3.out.cell (p := ⟨b, off + j * 4, none⟩) hbw).trans c0
                have q1 := (Y3.out.cell (p := ⟨b, off + j * 4 + 1, none⟩) hbw).trans c1
                have q2 := (Y3.out.cell (p := ⟨b, off + j * 4 + 2, none⟩) hbw).trans c2
                have q3 := (Y3.out.cell (p := ⟨b, off + j * 4 + 3, none⟩) hbw).trans c3
                have hsz0 := Y3.out.size
                have Y1a := Y1.out.alloc (.cells #[.int .i64 k1, .int .i64 n1, .string s1, .slice A1 l1 cp1] 28)
                have Y2a := Y2.out.alloc (.cells #[.int .i64 k1, .int .i64 n1, .string s1, .slice A1 l1 cp1] 28)
                have Y3a := Y3.out.alloc hsz0 (.cells #[.int .i64 k1, .int .i64 n1, .string s1, .slice A1 l1 cp1] 28)
                have PB := Box.new wr 28 #[.int .i64 k1, .int .i64 n1, .string s1, .slice A1 l1 cp1]
                have HR0 := IH.out l[j] (l'[j]'(by omega)) _ _ ((wr.alloc (.cells #[.int .i64 k1, .int .i64 n1, .string s1, .slice A1 l1 cp1] 28)).drewN 1) S ((hr.below Y3a hS).drewN 1) ((hr'.below Y3a hS).drewN 1) (fun b hb => by have := hS b hb; simp; omega)
                have p0 := (Y3a.cell (p := ⟨b', off' + j * 4, none⟩) hbw').trans d0
                have p1 := (Y3a.cell (p := ⟨b', off' + j * 4 + 1, none⟩) hbw').trans d1
                have p2 := (Y3a.cell (p := ⟨b', off' + j * 4 + 2, none⟩) hbw').trans d2
                have p3 := (Y3a.cell (p := ⟨b', off' + j * 4 + 3, none⟩) hbw').trans d3
                have hst := sames_take l l' E4.out j hlt
                rw [HJ.out, Bool.true_and] at hst
                have hdr := sames_drop l l' E4.out (j + 1)
                obtain ⟨z, hz⟩ : ∃ z, l[j].same (l'[j]'(by omega)) = z := ⟨_, rfl⟩
                rw [hz] at HR0 hst
                have HST := Lib.hid hst
                have HDR := Lib.hid hdr
                have j0 : (0 : Int) ≤ (j : Int) := by omega
                have j1 : (j : Int) < (l.length : Int) := by omega
                have hgg : g < wr.heap.size ∧ g' < wr.heap.size := ⟨Y1.out.lt, Y2.out.lt⟩
                obtain ⟨gp, hgp⟩ : ∃ gp, wr.heap.size = gp := ⟨_, rfl⟩
                have HSP : Hid ((wr.alloc (.cells #[.int .i64 k1, .int .i64 n1, .string s1, .slice A1 l1 cp1] 28)).heap.size = gp + 1) := by show _ = _; rw [← hgp]; simp
                obtain ⟨wp, hwp⟩ : ∃ wp, wr.alloc (.cells #[.int .i64 k1, .int .i64 n1, .string s1, .slice A1 l1 cp1] 28) = wp := ⟨_, rfl⟩
                rw [hwp] at Y1a Y2a Y3a PB HR0 p0 p1 p2 p3 HSP
                rw [hgp] at PB hgg hsz0
                have HGP := Lib.hid hgp
                have HWP := Lib.hid hwp
                have HR := Lib.hid HR0
                have HY1 := Lib.hid Y1a
                have HY2 := Lib.hid Y2a
                have HY3 := Lib.hid Y3a
                have HPB := Lib.hid PB
                clear c0 c1 c2 c3 d0 d1 d2 d3 hr hr' hst hdr hz HJ HR0 Y1a Y2a Y3a PB hwp hgp
                go_upto_region 6 with fail
                rw [HWP.out, HGP.out]
                have r4 : wp.cell? ⟨g', 3, none⟩ = some (.slice (some ⟨b', off', none⟩) l.length c') := HY2.out.cell 3
                have m0 : wp.cell? ⟨gp, 0, none⟩ = some (.int .i64 k1) := HPB.out.cell 0
                have m1 : wp.cell? ⟨gp, 1, none⟩ = some (.int .i64 n1) := HPB.out.cell 1
                have m2 : wp.cell? ⟨gp, 2, none⟩ = some (.string s1) := HPB.out.cell 2
                have m3 : wp.cell? ⟨gp, 3, none⟩ = some (.slice A1 l1 cp1) := HPB.out.cell 3
                have hS0 := And.intro r4 (And.intro (And.intro m0 (And.intro m1 (And.intro m2 m3))) (And.intro p0 (And.intro p1 (And.intro p2 p3))))
                go_region_held3 (fun w' => w'.cell? ⟨g', 3, none⟩ = some (.slice (some ⟨b', off', none⟩) l.length c') ∧
                    (w'.cell? ⟨gp, 0, none⟩ = some (.int .i64 k1) ∧ w'.cell? ⟨gp, 1, none⟩ = some (.int .i64 n1) ∧ w'.cell? ⟨gp, 2, none⟩ = some (.string s1) ∧ w'.cell? ⟨gp, 3, none⟩ = some (.slice A1 l1 cp1)) ∧
                    w'.cell? ⟨b', off' + j * 4, none⟩ = some u0 ∧ w'.cell? ⟨b', off' + j * 4 + 1, none⟩ = some u1 ∧ w'.cell? ⟨b', off' + j * 4 + 2, none⟩ = some u2 ∧ w'.cell? ⟨b', off' + j * 4 + 3, none⟩ = some u3)
                  (first | exact hS5 | exact hS0)
                  (first
                    | (go_at_call 18; refine HR.out.mono ?_; rintro e w5 ⟨rfl, hb5⟩; have hb5x : Below wp.heap.size wp w5 := below_from_drewN (m := 1) hb5; have hS5 := And.intro ((hb5x.cell (p := ⟨g', 3, none⟩) HY2.out.lt).trans r4) (And.intro (And.intro ((hb5x.cell (p := ⟨gp, 0, none⟩) HPB.out.lt).trans m0) (And.intro ((hb5x.cell (p := ⟨gp, 1, none⟩) HPB.out.lt).trans m1) (And.intro ((hb5x.cell (p := ⟨gp, 2, none⟩) HPB.out.lt).trans m2) ((hb5x.cell (p := ⟨gp, 3, none⟩) HPB.out.lt).trans m3)))) (And.intro ((hb5x.cell (p := ⟨b', off' + j * 4, none⟩) (by have := HSP.out; show b' < _; omega)).trans p0) (And.intro ((hb5x.cell (p := ⟨b', off' + j * 4 + 1, none⟩) (by have := HSP.out; show b' < _; omega)).trans p1) (And.intro ((hb5x.cell (p := ⟨b', off' + j * 4 + 2, none⟩) (by have := HSP.out; show b' < _; omega)).trans p2) ((hb5x.cell (p := ⟨b', off' + j * 4 + 3, none⟩) (by have := HSP.out; show b' < _; omega)).trans p3)))))))
                have hb6 : Below wp.heap.size wp w5 := below_from_drewN (m := 1) hb5
                have Z1 := Lib.hid (HY1.out.below hb6 HY1.out.lt)
                have Z2 := Lib.hid (HY2.out.below hb6 HY2.out.lt)
                have Z3 := Lib.hid (HY3.out.trans (hb6.mono HY3.out.size))
                clear hb5 hb5x hb6 hS5 hS0 q0 q1 q2 q3 p0 p1 p2 p3 r4 m0 m1 m2 m3 k4 Y1 Y2 Y3 HR
                cases z
                · have HF : Hid (sames l l' = false) := HDR.out HST.out
                  go_wp2_with fail
                  go_ret
                  exact ⟨by simp [Tm.same, HF.out], Z3.out⟩
                · go_wp2_with fail
                  go_roundw
                  case rel => exact ⟨j + 1, by omega, by go_num, HST, Z1, Z2, Z3⟩
                  case measure => simp [intOf]; omega
              · have hge2 : (l.length : Int) ≤ (j : Int) := by omega
                have hje : l.take j = l := List.take_of_length_le (by omega)
                have hje' : l'.take j = l' := List.take_of_length_le (by omega)
                have HF : Hid (sames l l' = true) := by
                  have := HJ.out
                  rw [hje, hje'] at this
                  exact this
                clear hje hje' HJ
                go_wp2_with fail
                go_ret
                exact ⟨by simp [Tm.same, HF.out], Y3.out⟩
          · have hn4 : ((l.length : Int) == (l'.length : Int)) = false := by simp; omega
            have E4 := Lib.hid e4
            clear e4
            go_enter Tryd.func18, Tryd.ntmps18
            go_wp2_with fail
            go_ret
            exact ⟨by simp [Tm.same, sames_len E4.out], ((Below.refl _ w).alloc (Nat.le_refl _) _).alloc (by simp) _⟩
        · have hn3 := str_ne e3
          have E3 := Lib.hid e3
          clear e3
          go_enter Tryd.func18, Tryd.ntmps18
          go_wp2_with fail
          go_ret
          exact ⟨by simp [Tm.same, E3.out], ((Below.refl _ w).alloc (Nat.le_refl _) _).alloc (by simp) _⟩
      · go_enter Tryd.func18, Tryd.ntmps18
        go_wp2_with fail
        go_ret
        exact ⟨by simp [Tm.same, e2], ((Below.refl _ w).alloc (Nat.le_refl _) _).alloc (by simp) _⟩
    · go_enter Tryd.func18, Tryd.ntmps18
      go_wp2_with fail
      go_ret
      exact ⟨by simp [Tm.same, e1], ((Below.refl _ w).alloc (Nat.le_refl _) _).alloc (by simp) _⟩
end Go.Proofs.YtkfmagbaklikmaaDoor
