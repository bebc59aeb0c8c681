/-
  The program's Text: by its plain words, in whatever world that holds what it reads.
-/
import Derived.Test.YtfknoecgcoapcaaDoorOCodeD
namespace Go.Proofs.YtfknoecgcoapcaaDoor
open Go Go.RowKit Go.WideShapes Go.ChangeShapes
set_option linter.unusedVariables false

theorem right_any (op a b c d : Int) (w : World) (hw : NamesAt w) :
    Calls Tryd.prog 61 #[insV op a b c d] w fun e w' => e = .returned (.bool (rightB op [a, b, c, d])) ∧ Below w.heap.size w w' := by
  by_cases h : 0 ≤ op ∧ op ≤ 26
  · by_cases ho : opsOf op = []
    · exact right_none op a b c d h ho w hw
    · exact right_some op a b c d h _ rfl (List.length_pos_iff.2 ho) w hw
  · exact right_out op a b c d h w hw

theorem right_range {op : Int} {l : List Int} (h : rightB op l = true) : 0 ≤ op ∧ op ≤ 26 := by
  rw [rightB, Bool.and_eq_true] at h
  exact of_decide_eq_true h.1
theorem right_at {op : Int} {l : List Int} (h : rightB op l = true) (k : Nat) (hk : k < 4) : mayB op ((opsOf op).getD k 0) (l.getD k 0) = true := by
  rw [rightB, Bool.and_eq_true, List.all_eq_true] at h
  exact h.2 k (List.mem_range.2 hk)
theorem may_bd {op kind n : Int} (h : mayB op kind n = true) : 0 ≤ n ∧ n ≤ 65535 := by
  rcases of_decide_eq_true h with ⟨_, rfl⟩ | ⟨h1, h2⟩
  · omega
  · have a : 0 ≤ lowOf kind := by unfold lowOf; split <;> omega
    have b : highOf kind ≤ 1023 := by
      unfold highOf
      repeat (first | split | omega)
    omega

end Go.Proofs.YtfknoecgcoapcaaDoor
