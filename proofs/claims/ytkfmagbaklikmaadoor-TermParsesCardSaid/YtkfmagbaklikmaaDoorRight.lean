/-
  May it be a term? (resolventref03.Right), by a contract. Condition: the value reads as a tree.
-/
import Derived.Test.YtkfmagbaklikmaaDoorName
namespace Go.Proofs.YtkfmagbaklikmaaDoor
open Go Go.RowKit
set_option linter.unusedVariables false

/-- What a kind asks of a number, a name, and how many parts. -/
def kindOk (k n : Int) (s : ByteArray) (m : Nat) : Bool :=
  (decide (k = 0) && (decide (0 ≤ n ∧ n ≤ 999) && (decide (s.size = 0) && decide (m = 0)))) ||
  (decide (k = 1) && (decide (n = 0) && (nameOk s && decide (m = 0)))) ||
  (decide (k = 2) && (decide (n = 0) && (nameOk s && decide (1 ≤ m ∧ m ≤ 8)))) ||
  (decide (k = 3) && (decide (n = 0) && (decide (s.size = 0) && decide (m = 2))))
mutual
def Tm.right : Tm → Bool
  | .node k n s l => rights l && kindOk k n s l.length
def rights : List Tm → Bool
  | [] => true
  | t :: r => t.right && rights r
end
theorem rights_snoc (l : List Tm) (t : Tm) : rights (l ++ [t]) = (rights l && t.right) := by
  induction l with
  | nil => simp [rights]
  | cons a r ih => simp [rights, ih, Bool.and_assoc]
theorem rights_drop (l : List Tm) : ∀ j, rights (l.take j) = false → rights l = false := by
  induction l with
  | nil => intro j h; simp [rights] at h
  | cons a r ih =>
    intro j h
    cases j with
    | zero => simp [rights] at h
    | succ j =>
      simp only [List.take_succ_cons, rights, Bool.and_eq_false_iff] at h ⊢
      rcases h with h | h
      · exact .inl h
      · exact .inr (ih j h)

theorem name_is {b : Bool} (s : ByteArray) (hb : nameOk s = b) (w : World) (hs : s.size ≤ maxLen) :
    Calls Tryd.prog 21 #[.string s] w fun e w' => e = .returned (.bool b) ∧ w = w' := by
  subst hb
  exact refName_any s w hs
end Go.Proofs.YtkfmagbaklikmaaDoor
