/-
  Terms as trees, and what it is for memory to hold one: plain words, no program. No condition.
-/
import Derived.Test.YtkfmagbaklikmaaDoorMem
namespace Go.Proofs.YtkfmagbaklikmaaDoor
open Go Go.RowKit
set_option linter.unusedVariables false

/-- A tree: a kind, a number, a name, and parts. -/
inductive Tm where
  | node (k n : Int) (s : ByteArray) (l : List Tm)

mutual
def Tm.size : Tm → Nat
  | .node _ _ _ l => 1 + sizes l
def sizes : List Tm → Nat
  | [] => 0
  | t :: r => t.size + sizes r
end
mutual
def Tm.same : Tm → Tm → Bool
  | .node k n s l, .node k' n' s' l' => decide (k = k') && decide (n = n') && decide (s = s') && sames l l'
def sames : List Tm → List Tm → Bool
  | [], [] => true
  | a :: r, b :: r' => a.same b && sames r r'
  | _, _ => false
end

theorem size_node (k n : Int) (s : ByteArray) (l : List Tm) : (Tm.node k n s l).size = 1 + sizes l := by rw [Tm.size]
theorem sizes_snoc (l : List Tm) (t : Tm) : sizes (l ++ [t]) = sizes l + t.size := by
  induction l with
  | nil => simp [sizes]
  | cons a r ih => simp [sizes, ih]; omega
theorem take_snoc {α : Type} (l : List α) (k : Nat) (h : k < l.length) : l.take (k + 1) = l.take k ++ [l[k]] := List.take_succ_eq_append_getElem h
theorem sizes_take (l : List Tm) (k : Nat) (h : k < l.length) : sizes (l.take (k + 1)) = sizes (l.take k) + l[k].size := by rw [take_snoc l k h, sizes_snoc]
theorem sizes_take_le (l : List Tm) (k : Nat) : sizes (l.take k) ≤ sizes l := by
  induction l generalizing k with
  | nil => simp
  | cons a r ih =>
    cases k with
    | zero => simp [sizes]
    | succ k => simp only [List.take_succ_cons, sizes]; have := ih k; omega

/-- Value v reads as t, by f steps, out of cells of blocks of S. -/
def Reads (w : World) (S : Nat → Prop) : Nat → Tm → Value → Prop
  | 0, _, _ => False
  | f + 1, .node k n s l, v => ∃ A c, v = .agg #[.int .i64 k, .int .i64 n, .string s, .slice A l.length c] ∧ l.length ≤ c ∧ c ≤ maxLen ∧ s.size ≤ maxLen ∧ (Lit.int .i64 k).wf = true ∧ (Lit.int .i64 n).wf = true ∧
      ∀ i (h : i < l.length), ∃ b off v0 v1 v2 v3, A = some ⟨b, off, none⟩ ∧ S b ∧ w.cell? ⟨b, off + i * 4, none⟩ = some v0 ∧ w.cell? ⟨b, off + i * 4 + 1, none⟩ = some v1 ∧
        w.cell? ⟨b, off + i * 4 + 2, none⟩ = some v2 ∧ w.cell? ⟨b, off + i * 4 + 3, none⟩ = some v3 ∧ Reads w S f l[i] (.agg #[v0, v1, v2, v3])

theorem Reads.mono {w w' : World} {S S' : Nat → Prop} (hS : ∀ b, S b → S' b) (hc : ∀ p : Addr, S p.block → w'.cell? p = w.cell? p) : ∀ {f : Nat} {t : Tm} {v : Value}, Reads w S f t v → Reads w' S' f t v := by
  intro f
  induction f with
  | zero => intro t v h; exact h
  | succ f ih =>
    rintro ⟨k, n, s, l⟩ v ⟨A, c, hv, h1, h2, h3, h4, h5, h6⟩
    refine ⟨A, c, hv, h1, h2, h3, h4, h5, fun i hi => ?_⟩
    obtain ⟨b, off, v0, v1, v2, v3, hA, hb, c0, c1, c2, c3, hr⟩ := h6 i hi
    exact ⟨b, off, v0, v1, v2, v3, hA, hS b hb, (hc ⟨b, _, none⟩ hb).trans c0, (hc ⟨b, _, none⟩ hb).trans c1, (hc ⟨b, _, none⟩ hb).trans c2, (hc ⟨b, _, none⟩ hb).trans c3, ih hr⟩
theorem Reads.below {w w' : World} {B : Nat} {S : Nat → Prop} {f : Nat} {t : Tm} {v : Value} (h : Reads w S f t v) (hb : Below B w w') (hS : ∀ b, S b → b < B) : Reads w' S f t v :=
  h.mono (fun _ h => h) fun _ hp => hb.cell (hS _ hp)
theorem Reads.fr {w w' : World} {S T : Nat → Prop} {f : Nat} {t : Tm} {v : Value} (h : Reads w S f t v) (hf : Fr T w w') (hS : ∀ b, S b → b < w.heap.size ∧ ¬ T b) : Reads w' S f t v :=
  h.mono (fun _ h => h) fun p hp => World.cell?_of_block (w := w) (hf.block _ (hS _ hp).1 (hS _ hp).2)
theorem Reads.more {w : World} {S S' : Nat → Prop} {f : Nat} {t : Tm} {v : Value} (h : Reads w S f t v) (hS : ∀ b, S b → S' b) : Reads w S' f t v := h.mono hS fun _ _ => rfl
theorem Reads.drewN {w : World} {S : Nat → Prop} {f : Nat} {t : Tm} {v : Value} (h : Reads w S f t v) (n : Nat) : Reads (w.drewN n) S f t v := Reads.mono (w := w) (w' := w.drewN n) (fun _ h => h) (fun _ _ => rfl) h
theorem Reads.alloc {w : World} {S : Nat → Prop} {f : Nat} {t : Tm} {v : Value} (h : Reads w S f t v) (hS : ∀ b, S b → b < w.heap.size) (o : Obj) : Reads (w.alloc o) S f t v :=
  h.below ((Below.refl _ w).alloc (Nat.le_refl _) o) hS
theorem Reads.fuel {w : World} {S : Nat → Prop} : ∀ {f g : Nat} {t : Tm} {v : Value}, f ≤ g → Reads w S f t v → Reads w S g t v := by
  intro f
  induction f with
  | zero => intro g t v _ h; exact h.elim
  | succ f ih =>
    rintro g ⟨k, n, s, l⟩ v hg ⟨A, c, hv, h1, h2, h3, h4, h5, h6⟩
    obtain ⟨g, rfl⟩ : ∃ g', g = g' + 1 := ⟨g - 1, by omega⟩
    refine ⟨A, c, hv, h1, h2, h3, h4, h5, fun i hi => ?_⟩
    obtain ⟨b, off, v0, v1, v2, v3, hA, hb, c0, c1, c2, c3, hr⟩ := h6 i hi
    exact ⟨b, off, v0, v1, v2, v3, hA, hb, c0, c1, c2, c3, ih (by omega) hr⟩

theorem Reads.form {w : World} {S : Nat → Prop} {f : Nat} {t : Tm} {v : Value} (h : Reads w S f t v) : ∃ (k n : Int) (s : ByteArray) (A : Option Addr) (m c : Nat), v = .agg #[.int .i64 k, .int .i64 n, .string s, .slice A m c] := by
  cases f with
  | zero => exact h.elim
  | succ f =>
    obtain ⟨k, n, s, l⟩ := t
    obtain ⟨A, c, hv, _⟩ := h
    exact ⟨k, n, s, A, _, c, hv⟩

/-! ### Few parts -/
mutual
def Tm.few : Tm → Int → Int → Int
  | .node _ _ s l, d, m => if d ≤ 0 ∨ m - 1 - (s.size : Int) / 40 < 0 then -1 else fews l (d - 1) (m - 1 - (s.size : Int) / 40)
def fews : List Tm → Int → Int → Int
  | [], _, m => m
  | t :: r, d, m => if t.few d m < 0 then -1 else fews r d (t.few d m)
end
mutual
theorem few_le : ∀ (t : Tm) (d m : Int), 0 ≤ m → t.few d m ≤ m ∧ -1 ≤ t.few d m
  | .node _ _ s l, d, m, hm => by
    rw [Tm.few]
    split
    · omega
    · have := fews_le l (d - 1) (m - 1 - (s.size : Int) / 40) (by omega)
      omega
theorem fews_le : ∀ (l : List Tm) (d m : Int), 0 ≤ m → fews l d m ≤ m ∧ -1 ≤ fews l d m
  | [], d, m, hm => by rw [fews]; omega
  | t :: r, d, m, hm => by
    rw [fews]
    have h1 := few_le t d m hm
    split
    · omega
    · have := fews_le r d (t.few d m) (by omega)
      omega
end
theorem fews_drop (l : List Tm) (d m : Int) (j : Nat) (h : j < l.length) : fews (l.drop j) d m = if (l[j]).few d m < 0 then -1 else fews (l.drop (j + 1)) d (l[j].few d m) := by
  rw [List.drop_eq_getElem_cons h, fews]

theorem str_ne {s s' : ByteArray} (h : s ≠ s') : (s.toList == s'.toList) = false := by
  rw [ByteArray.toList_eq, ByteArray.toList_eq]
  have : s.data.toList ≠ s'.data.toList := fun e => h (ByteArray.ext (Array.ext' e))
  simpa using this
theorem sames_len : ∀ {l l' : List Tm}, l.length ≠ l'.length → sames l l' = false
  | [], [], h => absurd rfl h
  | [], _ :: _, _ => by simp [sames]
  | _ :: _, [], _ => by simp [sames]
  | a :: r, b :: r', h => by
    have := sames_len (l := r) (l' := r') (by simpa using h)
    simp [sames, this]
theorem sames_snoc : ∀ {l l' : List Tm}, l.length = l'.length → ∀ a b, sames (l ++ [a]) (l' ++ [b]) = (sames l l' && a.same b)
  | [], [], _, a, b => by simp [sames]
  | [], _ :: _, h, _, _ => by simp at h
  | _ :: _, [], h, _, _ => by simp at h
  | x :: r, y :: r', h, a, b => by
    have := sames_snoc (l := r) (l' := r') (by simpa using h) a b
    simp [sames, this, Bool.and_assoc]
theorem sames_take (l l' : List Tm) (h : l.length = l'.length) (j : Nat) (hj : j < l.length) : sames (l.take (j + 1)) (l'.take (j + 1)) = (sames (l.take j) (l'.take j) && l[j].same (l'[j]'(by omega))) := by
  rw [take_snoc l j hj, take_snoc l' j (by omega), sames_snoc (by simp; omega)]
theorem sames_drop (l l' : List Tm) (h : l.length = l'.length) : ∀ (j : Nat), sames (l.take j) (l'.take j) = false → sames l l' = false := by
  induction l generalizing l' with
  | nil => intro j hj; cases l' with
    | nil => simpa using hj
    | cons => simp at h
  | cons a r ih => intro j hj; cases l' with
    | nil => simp at h
    | cons b r' =>
      cases j with
      | zero => simp [sames] at hj
      | succ j =>
        simp only [List.take_succ_cons, sames, Bool.and_eq_false_iff] at hj ⊢
        rcases hj with hj | hj
        · exact .inl hj
        · exact .inr (ih r' (by simpa using h) j hj)
end Go.Proofs.YtkfmagbaklikmaaDoor
