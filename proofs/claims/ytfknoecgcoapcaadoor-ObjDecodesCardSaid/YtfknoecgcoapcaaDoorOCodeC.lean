/-
  The program's Make, and the statement's To and From: each by its plain words, in whatever world.
-/
import Derived.Test.YtfknoecgcoapcaaDoorOCodeB
import Derived.Laws.CopyOwn
namespace Go.Proofs.YtfknoecgcoapcaaDoor
open Go Go.RowKit Go.WideShapes Go.ChangeShapes
set_option linter.unusedVariables false

/-- An instruction, as a value. -/
def insV (op a b c d : Int) : Value := .agg #[.int .i64 op, .int .i64 a, .int .i64 b, .int .i64 c, .int .i64 d]

/-- A slice whose cells hold these numbers. -/
def IntsAt (w : World) (v : Value) (l : List Int) : Prop :=
  (l = [] ∧ ∃ A c, v = .slice A 0 c) ∨
    ∃ b off c, v = .slice (some ⟨b, off, none⟩) l.length c ∧ ∀ k, k < l.length → w.cell? ⟨b, off + k, none⟩ = some (.int .i64 (l.getD k 0))

theorem IntsAt.below {w w' : World} {v : Value} {l : List Int} (h : IntsAt w v l) (hb : Below w.heap.size w w') : IntsAt w' v l := by
  rcases h with h | ⟨b, off, c, rfl, hc⟩
  · exact .inl h
  · exact .inr ⟨b, off, c, rfl, fun k hk => (hb.cell (p := ⟨b, off + k, none⟩) (World.block_lt_of_cell? w _ (hc k hk))).trans (hc k hk)⟩

theorem alloc_below (w : World) (o : Obj) : Below w.heap.size w (w.alloc o) := (Below.refl _ w).alloc (Nat.le_refl _) o
theorem two_below (w : World) (o p : Obj) : Below w.heap.size w ((w.alloc o).alloc p) := ((Below.refl _ w).alloc (Nat.le_refl _) o).alloc (by simp) p

theorem to_any (op a b c d : Int) (w : World) :
    Calls Tryd.prog 22 #[insV op a b c d] w fun e w' => e = .returned (insV op a b c d) ∧ Below w.heap.size w w' := by
  unfold insV
  go_enter Tryd.func22, Tryd.ntmps22
  go_wp2
  exact bodyPost_ret (v := .agg #[.int .i64 op, .int .i64 a, .int .i64 b, .int .i64 c, .int .i64 d]) (by simp [results, Tryd.results22, go_sem]) rfl ⟨rfl, two_below w _ _⟩

theorem from_any (op a b c d : Int) (w : World) :
    Calls Tryd.prog 45 #[insV op a b c d] w fun e w' => e = .returned (insV op a b c d) ∧ Below w.heap.size w w' := by
  unfold insV
  go_enter Tryd.func45, Tryd.ntmps45
  go_wp2
  exact bodyPost_ret (v := .agg #[.int .i64 op, .int .i64 a, .int .i64 b, .int .i64 c, .int .i64 d]) (by simp [results, Tryd.results45, go_sem]) rfl ⟨rfl, two_below w _ _⟩

theorem splice_four (op : Int) (l : List Int) : splice [Value.int .i64 op, .int .i64 0, .int .i64 0, .int .i64 0, .int .i64 0] 1 ((l.take 4).map (Value.int .i64)) =
    [Value.int .i64 op, .int .i64 (l.getD 0 0), .int .i64 (l.getD 1 0), .int .i64 (l.getD 2 0), .int .i64 (l.getD 3 0)] := by
  match l with
  | [] => rfl
  | [a] => rfl
  | [a, b] => rfl
  | [a, b, c] => rfl
  | a :: b :: c :: d :: r => rfl

end Go.Proofs.YtfknoecgcoapcaaDoor
