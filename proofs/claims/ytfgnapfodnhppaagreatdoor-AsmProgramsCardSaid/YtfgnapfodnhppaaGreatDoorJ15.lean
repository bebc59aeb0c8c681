/-
  The statement's told: the empty object is told by its bytes; a byte less or more is told as wrong. Condition: the world holds the names of the instructions.
-/
import Derived.Test.YtfgnapfodnhppaaGreatDoorJ14
namespace Go.Proofs.YtfgnapfodnhppaaGreatDoor
open Go Go.RowKit Go.WideShapes Go.ChangeShapes
set_option linter.unusedVariables false
set_option linter.unusedSimpArgs false

def l17 : List Nat := [82, 83, 76, 86, 1, 0, 0, 0, 0, 0, 0, 0, 0, 82, 100, 37, 32]
theorem enc_empty : checkOf emptyOb = 0 ∧ encodeOf emptyOb = l17 := by decide +kernel
theorem dec_empty : (decodeOf l17).2 = 0 ∧ (decodeOf l17).1.code.length = 0 ∧ (decodeOf (l17.take 16)).2 = 3 ∧ (decodeOf (l17 ++ [0])).2 = 4 := by decide +kernel
theorem l17_lt : ∀ c ∈ l17, c < 256 := by decide

theorem Strict.in_ {w : World} {base : Nat} {v : Value} {l : List Nat} (h : Strict w base v l) (hl : 0 < l.length) :
    ∃ g c, v = .slice (some ⟨g, 0, none⟩) l.length c ∧ l.length ≤ c ∧ c ≤ 9223372036854775807 ∧ base ≤ g ∧ g < w.heap.size ∧ ∀ k, k < l.length → w.cell? ⟨g, 0 + k, none⟩ = some (.int .u8 ((l.getD k 0 : Nat) : Int)) := by
  have hb := Row.bys (.inl h)
  rcases h.2 with ⟨_, h0⟩ | ⟨g, cap, cur, rfl, hb2, hg, h2, h3, _⟩
  · omega
  · refine ⟨g, cap, rfl, h2, by unfold maxLen at h3; omega, hb2, (Array.getElem?_eq_some_iff.1 hg).1, fun k hk => ?_⟩
    rw [Nat.zero_add, World.ownsRow.cellAt (g := g) h k (by omega)]
    simp [bysV, List.getD_eq_getElem?_getD, hk]
theorem in_take {w : World} {g c : Nat} {l : List Nat} (n : Nat) (hn : n ≤ l.length) (hc : l.length ≤ c) (hm : c ≤ 9223372036854775807) (hg : g < w.heap.size) (h : ∀ k, k < l.length → w.cell? ⟨g, 0 + k, none⟩ = some (.int .u8 ((l.getD k 0 : Nat) : Int))) :
    BysIn w (.slice (some ⟨g, 0, none⟩) n c) (l.take n) := by
  have hl : (l.take n).length = n := by rw [List.length_take]; omega
  refine .inr ⟨g, 0, c, by rw [hl], by omega, hm, hg, fun k hk => ?_⟩
  rw [hl] at hk
  rw [h k (by omega)]
  congr 3
  rw [List.getD_eq_getElem?_getD, List.getD_eq_getElem?_getD, List.getElem?_take, if_pos (by omega)]

theorem wf_empty : ObWf emptyOb := ⟨by simp [emptyOb], by simp [emptyOb], by simp [emptyOb], by simp [emptyOb], by simp [emptyOb], by simp [emptyOb], by simp [emptyOb]⟩

end Go.Proofs.YtfgnapfodnhppaaGreatDoor
