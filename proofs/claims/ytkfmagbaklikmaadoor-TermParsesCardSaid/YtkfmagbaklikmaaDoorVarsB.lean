/-
  The program's Vars, and the law's Ints, by contracts. Conditions: the values read as trees of at most a million parts.
-/
import Derived.Test.YtkfmagbaklikmaaDoorVarsA
namespace Go.Proofs.YtkfmagbaklikmaaDoor
open Go Go.RowKit Go.Maps
set_option linter.unusedVariables false
set_option linter.unusedSimpArgs false

theorem varsC_any (B F M : Nat) : ∀ f, VarsC B F M f := by
  intro f
  induction f with
  | zero => exact vars_step (fun f' h => by omega)
  | succ f ih => exact vars_step (fun f' h => by obtain rfl : f = f' := by omega
                                                 exact ih)

theorem seen_none : seenD [] = .map [] := rfl

theorem tVars_any {f : Nat} (l : List Tm) (A : Option Addr) (c : Nat) (w : World) (S : Nat → Prop) (hc : l.length ≤ c) (hcm : c ≤ maxLen)
    (hp : ∀ i (h : i < l.length), ∃ b off v0 v1 v2 v3, A = some ⟨b, off, none⟩ ∧ S b ∧ w.cell? ⟨b, off + i * 4, none⟩ = some v0 ∧ w.cell? ⟨b, off + i * 4 + 1, none⟩ = some v1 ∧
        w.cell? ⟨b, off + i * 4 + 2, none⟩ = some v2 ∧ w.cell? ⟨b, off + i * 4 + 3, none⟩ = some v3 ∧ Reads w S f l[i] (.agg #[v0, v1, v2, v3]))
    (hS : ∀ b, S b → b < w.heap.size) (hz : sizes l ≤ 1000000) :
    Calls Tryd.prog 16 #[.slice A l.length c] w fun e w' => ∃ vs, e = .returned vs ∧ w'.ownsRow w.heap.size 3 1 vs (varsL [] l).length ((varsL [] l).map (Value.int .i64)) ∧ Below w.heap.size w w' := by
  have hmm := @run_makeMap Tryd.prog
  have hb0 : Below w.heap.size w ((w.alloc (.map #[] 0)).alloc (.cells #[.slice none 0 0, .map (some w.heap.size)] 60)) := ((Below.refl _ w).alloc (Nat.le_refl _) _).alloc (by simp) _
  have hfd : Fd ((w.alloc (.map #[] 0)).alloc (.cells #[.slice none 0 0, .map (some w.heap.size)] 60)) w.heap.size (w.heap.size + 1) w.heap.size [] (.slice none 0 0) := by
    refine ⟨?_, ?_, World.ownsRow_nil _ _ _ _, by omega, Nat.le_refl _, by simp⟩
    · have := Box.new (w.alloc (.map #[] 0)) 60 #[.slice none 0 0, .map (some w.heap.size)]
      simpa using this
    · rw [seen_none]
      exact (World.ownsMap_made w Tryd.prog 3 (plainElem Tryd.prog 4)).alloc _
  have hC := varsC_any w.heap.size (w.heap.size + 1) w.heap.size f l A c _ S [] (.slice none 0 0) hc hcm (fun i hi => by
    obtain ⟨b, off, v0, v1, v2, v3, hA, hb', c0, c1, c2, c3, hr⟩ := hp i hi
    have hbB := hS b hb'
    exact ⟨b, off, v0, v1, v2, v3, hA, hb', (hb0.cell (p := ⟨b, _, none⟩) hbB).trans c0, (hb0.cell (p := ⟨b, _, none⟩) hbB).trans c1, (hb0.cell (p := ⟨b, _, none⟩) hbB).trans c2, (hb0.cell (p := ⟨b, _, none⟩) hbB).trans c3, hr.below hb0 hS⟩) hS hfd (by simpa using hz)
  have HC := Lib.hid hC
  have HB := Lib.hid hb0
  clear hC hb0 hfd hp
  go_enter Tryd.func16, Tryd.ntmps16
  go_wp2_with (go_at_call 27; refine HC.out.mono ?_; rintro e w5 ⟨rfl, ⟨us, hF5⟩, hb5⟩; have HF5 := Lib.hid hF5; have HB5 := Lib.hid (HB.out.trans hb5); have x0 : w5.cell? ⟨w.heap.size + 1, 0, none⟩ = some us := hF5.box.cell 0; clear hF5 hb5)
  go_ret
  exact ⟨_, rfl, HF5.out.row, HB5.out⟩

theorem own_int_cell {w : World} {B : Nat} {A : Option Addr} {c : Nat} {xs : List Int} (h : w.ownsRow B 3 1 (.slice A xs.length c) xs.length (xs.map (Value.int .i64))) (j : Nat) (hj : j < xs.length) :
    ∃ g, A = some ⟨g, 0, none⟩ ∧ w.cell? ⟨g, j, none⟩ = some (.int .i64 xs[j]) := by
  rcases h.2 with ⟨_, h1⟩ | ⟨g, cap, cur, he, _, _, h2, h3, _⟩
  · omega
  · simp only [Value.slice.injEq, true_and] at he
    obtain ⟨rfl, rfl⟩ := he
    refine ⟨g, rfl, ?_⟩
    rw [h.cellAt _ (by omega)]
    simp [hj]

/-- The law's Ints, at two rows of the same numbers. -/
theorem ints_same {w : World} {B B' : Nat} {u v : Value} {xs : List Int} (hx : xs.length ≤ 1000000) (hu : w.ownsRow B 3 1 u xs.length (xs.map (Value.int .i64))) (hv : w.ownsRow B' 3 1 v xs.length (xs.map (Value.int .i64))) :
    Calls Tryd.prog 15 #[u, v] w fun e w' => e = .returned (.bool true) ∧ ∃ m, w' = w.drewN m := by
  obtain ⟨A1, c1, rfl, g1⟩ := own_form hu
  obtain ⟨A2, c2, rfl, g2⟩ := own_form hv
  have HU := Lib.hid (fun j hj => own_int_cell hu j hj)
  have HV := Lib.hid (fun j hj => own_int_cell hv j hj)
  have m1 : c1 ≤ maxLen := by
    rcases hu.2 with ⟨h0, h1⟩ | ⟨g, cap, cur, he, _, _, h2, h3, _⟩
    · simp only [Value.slice.injEq] at h0
      unfold maxLen
      omega
    · simp only [Value.slice.injEq, true_and] at he
      omega
  have m2 : c2 ≤ maxLen := by
    rcases hv.2 with ⟨h0, h1⟩ | ⟨g, cap, cur, he, _, _, h2, h3, _⟩
    · simp only [Value.slice.injEq] at h0
      unfold maxLen
      omega
    · simp only [Value.slice.injEq, true_and] at he
      omega
  unfold maxLen at m1 m2
  clear hu hv
  go_enter Tryd.func15, Tryd.ntmps15
  go_wp2_with (fail)
  go_loopw [5] (fun i wr => ∃ j m : Nat, j ≤ xs.length ∧ i = .int .i64 ((j : Nat) : Int) ∧ wr = w.drewN m) (fun i _ => xs.length - (intOf i).toNat)
  case atStart => exact ⟨0, 0, Nat.zero_le _, rfl, rfl⟩
  case round =>
    obtain ⟨j, m, hj, rfl, rfl⟩ := hrel
    by_cases hlt : j < xs.length
    · obtain ⟨b1, rfl, q1⟩ := HU.out j hlt
      obtain ⟨b2, rfl, q2⟩ := HV.out j hlt
      have j0 : (0 : Int) ≤ (j : Int) := by omega
      have j1 : (j : Int) < (xs.length : Int) := by omega
      go_upto_region 6 with (fail)
      go_quiet (fail)
      go_wp2_with (fail)
      go_roundw
      case rel => exact ⟨j + 1, _, by omega, by go_num, rfl⟩
      case measure => simp [intOf]; omega
    · have hge : (xs.length : Int) ≤ (j : Int) := by omega
      go_wp2_with (fail)
      go_ret
      exact ⟨rfl, _, rfl⟩
end Go.Proofs.YtkfmagbaklikmaaDoor
