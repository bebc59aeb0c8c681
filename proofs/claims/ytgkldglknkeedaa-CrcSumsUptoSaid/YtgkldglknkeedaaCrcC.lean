/-
  told answers true, and makes new memory alone. No condition.
-/
import Derived.Test.YtgkldglknkeedaaCrcB
import Derived.Lib.SmallJoins
import Derived.Lib.SlBytesConst
namespace Go.Proofs.Ytgkldglknkeedaa
open Go Go.RowKit Go.WideShapes Go.ChangeShapes
set_option linter.unusedVariables false

theorem nine : crcOf 0 [49, 50, 51, 52, 53, 54, 55, 56, 57] = 3421780262 := by decide +kernel

def dA : Array Value := #[.int .u8 49, .int .u8 50, .int .u8 51, .int .u8 52]
def dB : Array Value := #[.int .u8 53, .int .u8 54, .int .u8 55, .int .u8 56, .int .u8 57]

theorem blk_new (w : World) (o : Obj) : (w.alloc o).heap[w.heap.size]? = some o := heap_alloc_new w o
theorem blk_old {w : World} {g : Nat} {x : Obj} (h : w.heap[g]? = some x) (o : Obj) : (w.alloc o).heap[g]? = some x :=
  (Below.heap_alloc w o g (Array.getElem?_eq_some_iff.1 h).1).trans h

/-- A block whose cells are bytes, from its head on. -/
theorem bys_blk {w : World} {g c : Nat} {C : Array Value} {t : TypeId} {fr : Nat × Nat} {l : List Nat} (h : w.heap[g]? = some (.cells C t fr)) (hC : ∀ k, k < l.length → C[k]? = some (.int .u8 ((l.getD k 0 : Nat) : Int))) :
    BysAt w (.slice (some ⟨g, 0, none⟩) l.length c) l :=
  .inr ⟨g, 0, c, rfl, fun k hk => by rw [Nat.zero_add]; exact (cell_of_row w g k C t fr h).trans (hC k hk)⟩

theorem parts_blk {w : World} {g c : Nat} {C : Array Value} {t : TypeId} {fr : Nat × Nat} {ls : List (List Nat)} (h : w.heap[g]? = some (.cells C t fr)) (hC : ∀ k, k < ls.length → ∃ u, C[k]? = some u ∧ BysAt w u (ls.getD k [])) :
    PartsAt w (.slice (some ⟨g, 0, none⟩) ls.length c) ls :=
  .inr ⟨g, 0, c, rfl, fun k hk => by
    obtain ⟨u, h1, h2⟩ := hC k hk
    exact ⟨u, by rw [Nat.zero_add]; exact (cell_of_row w g k C t fr h).trans h1, h2⟩⟩

/-- A world with the two rows of digits, and the row of them. -/
theorem parts_told (w : World) : PartsAt (((w.alloc (.cells dA 5 (4, 5))).alloc (.cells dB 5 (5, 6))).alloc (.cells #[.slice (some ⟨w.heap.size, 0, none⟩) 4 4, .slice (some ⟨w.heap.size + 1, 0, none⟩) 5 5] 23))
    (.slice (some ⟨w.heap.size + 1 + 1, 0, none⟩) 2 2) [[49, 50, 51, 52], [53, 54, 55, 56, 57]] := by
  have b1 := blk_old (blk_old (blk_new w (.cells dA 5 (4, 5))) (.cells dB 5 (5, 6))) (.cells #[.slice (some ⟨w.heap.size, 0, none⟩) 4 4, .slice (some ⟨w.heap.size + 1, 0, none⟩) 5 5] 23)
  have b2 := blk_old (blk_new (w.alloc (.cells dA 5 (4, 5))) (.cells dB 5 (5, 6))) (.cells #[.slice (some ⟨w.heap.size, 0, none⟩) 4 4, .slice (some ⟨w.heap.size + 1, 0, none⟩) 5 5] 23)
  have b3 := blk_new ((w.alloc (.cells dA 5 (4, 5))).alloc (.cells dB 5 (5, 6))) (.cells #[.slice (some ⟨w.heap.size, 0, none⟩) 4 4, .slice (some ⟨w.heap.size + 1, 0, none⟩) 5 5] 23)
  rw [show (w.alloc (.cells dA 5 (4, 5))).heap.size = w.heap.size + 1 by simp] at b2
  rw [show ((w.alloc (.cells dA 5 (4, 5))).alloc (.cells dB 5 (5, 6))).heap.size = w.heap.size + 1 + 1 by simp] at b3
  refine parts_blk (ls := [[49, 50, 51, 52], [53, 54, 55, 56, 57]]) b3 (fun k hk => ?_)
  match k, hk with
  | 0, _ => exact ⟨_, rfl, bys_blk (l := [49, 50, 51, 52]) b1 (fun k hk => by
      match k, hk with
      | 0, _ => rfl
      | 1, _ => rfl
      | 2, _ => rfl
      | 3, _ => rfl)⟩
  | 1, _ => exact ⟨_, rfl, bys_blk (l := [53, 54, 55, 56, 57]) b2 (fun k hk => by
      match k, hk with
      | 0, _ => rfl
      | 1, _ => rfl
      | 2, _ => rfl
      | 3, _ => rfl
      | 4, _ => rfl)⟩

theorem ctold_any (w : World) :
    Calls Try.prog 6 #[] w fun e w' => e = .returned (.bool true) ∧ Below w.heap.size w w' := by
  have c1 : (convert 23 23 (.slice (some ⟨w.heap.size, 0, none⟩) 4 4)).run Try.prog (w.alloc (.cells #[.int .u8 49, .int .u8 50, .int .u8 51, .int .u8 52] 5)) = .ok (.slice (some ⟨w.heap.size, 0, none⟩) 4 4) (w.alloc (.cells #[.int .u8 49, .int .u8 50, .int .u8 51, .int .u8 52] 5 (4, 5))) :=
    Lib.run_convert_bytes_const w _ _ _ 4 4 Try.underlying23 Try.underlying5
  have c2 : (convert 23 23 (.slice (some ⟨w.heap.size + 1, 0, none⟩) 5 5)).run Try.prog ((w.alloc (.cells #[.int .u8 49, .int .u8 50, .int .u8 51, .int .u8 52] 5 (4, 5))).alloc (.cells #[.int .u8 53, .int .u8 54, .int .u8 55, .int .u8 56, .int .u8 57] 5)) = .ok (.slice (some ⟨w.heap.size + 1, 0, none⟩) 5 5) ((w.alloc (.cells #[.int .u8 49, .int .u8 50, .int .u8 51, .int .u8 52] 5 (4, 5))).alloc (.cells #[.int .u8 53, .int .u8 54, .int .u8 55, .int .u8 56, .int .u8 57] 5 (5, 6))) :=
    Joins.run_convert_bytes_const_at _ _ _ _ 5 5 _ (by simp) Try.underlying23 Try.underlying5
  have hp := parts_told w
  have H := sum_any [[49, 50, 51, 52], [53, 54, 55, 56, 57]] (by decide) (by decide) _ _ hp
  rw [show crcOf 0 ([[49, 50, 51, 52], [53, 54, 55, 56, 57]] : List (List Nat)).flatten = 3421780262 from nine] at H
  have H0 := fun w => sum_any [] (by simp) (by simp) (.slice none 0 0) w (.inl ⟨rfl, none, 0, rfl⟩)
  rw [show crcOf 0 ([] : List (List Nat)).flatten = 0 from crcOf_nil 0] at H0
  have HH := Lib.hid H
  have HH0 := Lib.hid H0
  clear H H0 hp
  go_enter Try.func6, Try.ntmps6
  go_wp2_with fail
  refine HH.out.mono ?_
  rintro e w' ⟨rfl, rfl⟩
  go_wp2_with fail
  refine (HH0.out _).mono ?_
  rintro e w' ⟨rfl, rfl⟩
  go_wp2_with fail
  go_ret
  exact ⟨by simp, (((Below.refl _ _).alloc (Nat.le_refl _) _).alloc (by simp) _).alloc (by simp; omega) _⟩

end Go.Proofs.Ytgkldglknkeedaa
