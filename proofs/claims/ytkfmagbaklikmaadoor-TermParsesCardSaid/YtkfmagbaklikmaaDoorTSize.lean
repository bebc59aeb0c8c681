/-
  The program's own Size and Same, by contracts. Condition: the values read as trees.
-/
import Derived.Test.YtkfmagbaklikmaaDoorTermA
namespace Go.Proofs.YtkfmagbaklikmaaDoor
open Go Go.RowKit
set_option linter.unusedVariables false

theorem tSize_tree (f : Nat) : ∀ (t : Tm) (v : Value) (w : World) (S : Nat → Prop), Reads w S f t v → (∀ b, S b → b < w.heap.size) → t.size ≤ 9223372036854775807 →
    Calls Tryd.prog 13 #[v] w fun e w' => e = .returned (.int .i64 t.size) ∧ Below w.heap.size w w' := by
  induction f with
  | zero => intro t v w S h; exact h.elim
  | succ f ih =>
    rintro ⟨k, n, s, l⟩ v w S ⟨A, c, rfl, h1, h2, h3, h4, h5, h6⟩ hS hsz
    have IH := Lib.hid ih
    have H6 := Lib.hid h6
    have HS := Lib.hid (size_node k n s l)
    rw [size_node] at hsz
    unfold maxLen at h2
    clear ih h6 h3 h4 h5
    have HB := Lib.hid ((Below.refl w.heap.size w).alloc (Nat.le_refl _) (.cells #[.int .i64 k, .int .i64 n, .string s, .slice A l.length c] 28))
    go_enter Tryd.func13, Tryd.ntmps13
    go_wp2_with fail
    go_loopw [3, 9] (fun a i wr => ∃ j : Nat, j ≤ l.length ∧ i = .int .i64 j ∧ a = .int .i64 ((1 + sizes (l.take j) : Nat) : Int) ∧ Hid (Below w.heap.size w wr)) (fun _ i _ => l.length - (intOf i).toNat)
    case atStart => exact ⟨0, Nat.zero_le _, rfl, rfl, HB⟩
    case round =>
      obtain ⟨j, hj, rfl, rfl, HB1⟩ := hrel
      clear HB
      by_cases hlt : j < l.length
      · obtain ⟨b, off, v0, v1, v2, v3, rfl, hb, c0, c1, c2, c3, hr⟩ := H6.out j hlt
        obtain ⟨k', n', s', A', m', c', hv⟩ := hr.form
        simp only [Value.agg.injEq, Array.mk.injEq, List.cons.injEq, and_true] at hv
        obtain ⟨rfl, rfl, rfl, rfl⟩ := hv
        have hbw : b < w.heap.size := hS b hb
        have q0 := (HB1.out.cell (p := ⟨b, off + j * 4, none⟩) hbw).trans c0
        have q1 := (HB1.out.cell (p := ⟨b, off + j * 4 + 1, none⟩) hbw).trans c1
        have q2 := (HB1.out.cell (p := ⟨b, off + j * 4 + 2, none⟩) hbw).trans c2
        have q3 := (HB1.out.cell (p := ⟨b, off + j * 4 + 3, none⟩) hbw).trans c3
        have hst := sizes_take l j hlt
        have hle := sizes_take_le l (j + 1)
        have HB2 : Below w.heap.size w (wr.alloc (.cells #[.int .i64 k', .int .i64 n', .string s', .slice A' m' c'] 28)) := HB1.out.alloc HB1.out.size _
        have HR := Lib.hid (IH.out l[j] _ (wr.alloc (.cells #[.int .i64 k', .int .i64 n', .string s', .slice A' m' c'] 28)) S (hr.below HB2 hS) (fun b hb => by have := HB2.size; have := hS b hb; omega) (by omega))
        have HB3 := Lib.hid HB2
        have HS1 := Lib.hid hst
        obtain ⟨z, hz⟩ : ∃ z, l[j].size = z := ⟨_, rfl⟩
        obtain ⟨y, hy⟩ : ∃ y, sizes (l.take j) = y := ⟨_, rfl⟩
        rw [hz] at HR HS1 hst
        rw [hy] at HS1 hst
        have hyz : 1 + y + z ≤ 9223372036854775807 := by omega
        rw [hy]
        clear c0 c1 c2 c3 hr hz hst hle hy HB2
        go_wp2_with fail
        refine HR.out.mono ?_
        rintro e w2 ⟨rfl, hb2⟩
        have HB4 := Lib.hid (HB3.out.trans (hb2.mono HB3.out.size))
        clear hb2 q0 q1 q2 q3 HR HB3
        go_wp2_with fail
        go_roundw
        case rel => exact ⟨j + 1, by omega, by go_num, by rw [HS1.out]; go_num, HB4⟩
        case measure => simp [intOf]; omega
      · have hge : (l.length : Int) ≤ (j : Int) := by omega
        have hje : l.take j = l := List.take_of_length_le (by omega)
        have HE := Lib.hid hje
        clear hje
        go_wp2_with fail
        go_ret
        exact ⟨by rw [HE.out, HS.out]; rfl, HB1.out⟩
end Go.Proofs.YtkfmagbaklikmaaDoor
