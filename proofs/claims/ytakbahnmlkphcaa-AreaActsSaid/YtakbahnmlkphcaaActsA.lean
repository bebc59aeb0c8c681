/-
  The statement's own reader 'Cells' by a contract: a copy of a row. Condition: the row is the call's own, no longer than 65536 cells.
-/
import Derived.Test.YtakbahnmlkphcaaNews
import Derived.Test.YtakbahnmlkphcaaRefB
namespace Go.Proofs.Ytakbahnmlkphcaa
open Go Go.RowKit
set_option linter.unusedVariables false

theorem take_snoc_map (xs : List Int) (k : Nat) (h : k < xs.length) : (xs.take k).map (Value.int .u64) ++ [.int .u64 (xs.getD k 0)] = (xs.take (k + 1)).map (Value.int .u64) := by
  rw [List.take_succ_eq_append_getElem h, List.map_append]
  simp [h]

/-- One round's step. -/
theorem lcells_step {w wr w1 : World} {v' : Value} {xs : List Int} {ys : List Value} {k : Nat} {c0 : Int} {g0 : Option Nat} (hlt : k < xs.length) (hx : Hid (xs.getD k 0 = c0)) (hy : Hid ((xs.take k).map (Value.int .u64) = ys)) (hb : Below w.heap.size w wr) (hr : ∀ b, g0 = some b → w.heap.size ≤ b) {o : Obj}
    (hown : w1.ownsRow w.heap.size 23 1 v' (k + 1) (ys ++ [.int .u64 c0])) (hg : (wr.alloc o).grownBy w1 g0) :
    Hid (w1.ownsRow w.heap.size 23 1 v' (k + 1) ((xs.take (k + 1)).map (Value.int .u64))) ∧ Hid (Below w.heap.size w w1) := by
  refine ⟨?_, (hb.alloc hb.size o).grown hg (by have := hb.size; simp; omega) hr⟩
  show w1.ownsRow _ _ _ _ _ _
  rw [← take_snoc_map xs k hlt, hx.out, hy.out]
  exact hown

theorem lcells_any {w : World} {base : Nat} {v : Value} {xs : List Int} (h : w.ownsRow base 37 1 v xs.length (xs.map (Value.int .u64))) (hm : xs.length ≤ 65536) :
    Calls Try.prog 23 #[v] w fun e w' => Copied 23 (xs.map (Value.int .u64)) w e w' := by
  obtain ⟨i0, hi, hz0, hz1, hz2⟩ := info_parts info23
  obtain ⟨A, c, rfl, hc⟩ := own_form h
  have H := Lib.hid h
  clear h
  go_enter Try.func23, Try.ntmps23
  go_wp2
  go_loopw [3, 4] (fun v i wr => ∃ k : Nat, k ≤ xs.length ∧ i = .int .i64 k ∧ Hid (wr.ownsRow w.heap.size 23 1 v k ((xs.take k).map (Value.int .u64))) ∧ Hid (Below w.heap.size w wr)) (fun _ i _ => xs.length - (intOf i).toNat)
  case atStart => exact ⟨0, Nat.zero_le _, rfl, World.ownsRow_nil _ _ _ _, Below.refl _ _⟩
  case round =>
    obtain ⟨k, hk, rfl, HO, HB⟩ := hrel
    by_cases hlt : k < xs.length
    · obtain ⟨a, rfl, _, q1, _⟩ := own_cell H.out hlt
      have hq : a < w.heap.size := (H.out.lt a rfl).2
      have q2 : wr.cell? ⟨a, k, none⟩ = some (.int .u64 (xs.getD k 0)) := (HB.out.cell (p := ⟨a, k, none⟩) hq).trans q1
      obtain ⟨A1, c1, rfl, _⟩ := own_form HO.out
      obtain ⟨c0, hc0⟩ : ∃ c0, xs.getD k 0 = c0 := ⟨_, rfl⟩
      obtain ⟨ys, hys⟩ : ∃ ys, (xs.take k).map (Value.int .u64) = ys := ⟨_, rfl⟩
      rw [hc0] at q2
      rw [hys] at HO
      have HC := Lib.hid hc0
      have HY := Lib.hid hys
      have hsz := HB.out.size
      clear q1 hc0 hys
      go_wp2_with (at_builtin; refine wpList_append_own _ rfl (.tmp 11) (.tmp 16) 32 rfl w.heap.size 23 i0 (.int .u64 0) 1 8 Try.underlying32 hi hz0 hz1 hz2 rfl (by decide) _ _ _ rfl (HO.out.alloc _) ⟨wr.heap.size, 0, none⟩ 1 1 [.int .u64 c0] rfl rfl (cell_one_new _ _ _) (one_word _ _) ?c3 ?c4 ?c5 ?_)
      case c3 => unfold maxLen; omega
      case c4 => omega
      case c5 => simp; omega
      intro v' w1 hown' hgrow hz
      have HS := lcells_step hlt HC HY HB.out (fun b e => (HO.out.lt b e).1) hown' hgrow
      obtain ⟨S1, S2⟩ := HS
      clear hown' hgrow hz HC HY HO HB q2
      go_wp2
      go_roundw
      case rel => exact ⟨k + 1, by omega, by go_num, S1, S2⟩
      case measure => simp [intOf]; omega
    · have hke : k = xs.length := by omega
      have HF : Hid (Copied 23 (xs.map (Value.int .u64)) w (.returned u3) wr) := by
        have h1 := HO.out
        rw [hke, List.take_length] at h1
        exact ⟨_, rfl, by simpa using h1, HB.out⟩
      have hge : (xs.length : Int) ≤ (k : Int) := by omega
      clear hke HO HB
      go_wp2
      go_ret
      exact HF.out

end Go.Proofs.Ytakbahnmlkphcaa
