/-
  The program's span, may, Operands: each by its plain words, in whatever world.
-/
import Derived.Test.YtfknoecgcoapcaaDoorCodeM
import Derived.Test.YtfknoecgcoapcaaDoorMem
import Derived.Test.YtfknoecgcoapcaaDoorProg
import Derived.IntWalk
import Derived.Outline
namespace Go.Proofs.YtfknoecgcoapcaaDoor
open Go Go.RowKit Go.WideShapes Go.ChangeShapes
set_option linter.unusedVariables false

theorem ret_b {a b : Bool} (h : a = b) : Ending.returned (.bool a) = .returned (.bool b) := by rw [h]

theorem span_any (kind : Int) (h0 : 0 ≤ kind) (h1 : kind ≤ 9) (w : World) :
    Calls Tryd.prog 75 #[.int .i64 kind] w fun e w' => e = .returned (.tuple #[.int .i64 (lowOf kind), .int .i64 (highOf kind)]) ∧ w = w' := by
  have hk : kind = 0 ∨ kind = 1 ∨ kind = 2 ∨ kind = 3 ∨ kind = 4 ∨ kind = 5 ∨ kind = 6 ∨ kind = 7 ∨ kind = 8 ∨ kind = 9 := by omega
  clear h0 h1
  rcases hk with rfl | rfl | rfl | rfl | rfl | rfl | rfl | rfl | rfl | rfl
  all_goals
    go_enter Tryd.func75, Tryd.ntmps75
    go_wp2
    go_ret2
    exact ⟨rfl, rfl⟩

set_option maxHeartbeats 1000000 in
theorem may_any (op kind n : Int) (h0 : 0 ≤ kind) (h1 : kind ≤ 9) (w : World) :
    Calls Tryd.prog 72 #[.int .i64 op, .int .i64 kind, .int .i64 n] w fun e w' => e = .returned (.bool (mayB op kind n)) ∧ w = w' := by
  have HS := Lib.hid (span_any kind h0 h1 w)
  obtain ⟨lo, hlo⟩ : ∃ lo, lowOf kind = lo := ⟨_, rfl⟩
  obtain ⟨hi, hhi⟩ : ∃ hi, highOf kind = hi := ⟨_, rfl⟩
  have hm : mayB op kind n = decide ((op = 26 ∧ n = 65535) ∨ (lo ≤ n ∧ n ≤ hi)) := by rw [mayB, hlo, hhi]
  rw [hlo, hhi] at HS
  rw [hm]
  clear hm hlo hhi
  by_cases h26 : op = 26
  · subst h26
    by_cases hn : n = 65535
    · subst hn
      go_enter Tryd.func72, Tryd.ntmps72
      go_wp2
      go_ret
      exact ⟨by simp, rfl⟩
    · have hn' : (n == 65535) = false := by simpa using hn
      go_enter Tryd.func72, Tryd.ntmps72
      go_wp2_with (refine HS.out.mono ?_; rintro e w' ⟨rfl, rfl⟩)
      all_goals
        go_ret
        refine ⟨ret_b ?_, rfl⟩
        rw [Bool.eq_iff_iff]
        simp
        omega
  · have h26' : (op == 26) = false := by simpa using h26
    go_enter Tryd.func72, Tryd.ntmps72
    go_wp2_with (refine HS.out.mono ?_; rintro e w' ⟨rfl, rfl⟩)
    all_goals
      go_ret
      refine ⟨ret_b ?_, rfl⟩
      rw [Bool.eq_iff_iff]
      simp
      omega

/-- What a slice of the call's own, new, says of a list. -/
def NewInts (w : World) (l : List Int) (e : Ending) (w' : World) : Prop :=
  (l = [] ∧ e = .returned (.slice none 0 0) ∧ w' = w) ∨
    (l ≠ [] ∧ e = .returned (.slice (some ⟨w.heap.size, 0, none⟩) l.length l.length) ∧ w' = w.alloc (.cells (l.map (Value.int .i64)).toArray 3))

set_option maxHeartbeats 8000000 in
theorem operands_any (op : Int) (w : World) :
    Calls Tryd.prog 54 #[.int .i64 op] w (NewInts w (opsOf op)) := by
  by_cases h : 0 ≤ op ∧ op ≤ 26
  · obtain ⟨h0, h1⟩ := h
    have hk : op = 0 ∨ op = 1 ∨ op = 2 ∨ op = 3 ∨ op = 4 ∨ op = 5 ∨ op = 6 ∨ op = 7 ∨ op = 8 ∨ op = 9 ∨ op = 10 ∨ op = 11 ∨ op = 12 ∨ op = 13 ∨ op = 14 ∨ op = 15 ∨ op = 16 ∨ op = 17 ∨ op = 18 ∨ op = 19 ∨ op = 20 ∨ op = 21 ∨ op = 22 ∨ op = 23 ∨ op = 24 ∨ op = 25 ∨ op = 26 := by omega
    clear h0 h1
    rcases hk with rfl | rfl | rfl | rfl | rfl | rfl | rfl | rfl | rfl | rfl | rfl | rfl | rfl | rfl | rfl | rfl | rfl | rfl | rfl | rfl | rfl | rfl | rfl | rfl | rfl | rfl | rfl
    all_goals
      go_enter Tryd.func54, Tryd.ntmps54
      go_wp2
      go_ret
      first
        | exact .inl ⟨rfl, rfl, rfl⟩
        | exact .inr ⟨by decide, rfl, rfl⟩
  · have he : opsOf op = [] := by
      unfold opsOf
      repeat rw [if_neg (by omega)]
    rw [he]
    have h1 : (op == 1) = false := by simp; omega
    have h2 : (op == 2) = false := by simp; omega
    have h10 : (op == 10) = false := by simp; omega
    have h11 : (op == 11) = false := by simp; omega
    have h3 : (op == 3) = false := by simp; omega
    have h12 : (op == 12) = false := by simp; omega
    have h4 : (op == 4) = false := by simp; omega
    have h13 : (op == 13) = false := by simp; omega
    have h5 : (op == 5) = false := by simp; omega
    have h14 : (op == 14) = false := by simp; omega
    have h6 : (op == 6) = false := by simp; omega
    have h7 : (op == 7) = false := by simp; omega
    have h8 : (op == 8) = false := by simp; omega
    have h9 : (op == 9) = false := by simp; omega
    have h15 : (op == 15) = false := by simp; omega
    have h17 : (op == 17) = false := by simp; omega
    have h18 : (op == 18) = false := by simp; omega
    have h20 : (op == 20) = false := by simp; omega
    have h21 : (op == 21) = false := by simp; omega
    have h24 : (op == 24) = false := by simp; omega
    have h25 : (op == 25) = false := by simp; omega
    have h26 : (op == 26) = false := by simp; omega
    clear h he
    go_enter Tryd.func54, Tryd.ntmps54
    go_wp2
    go_ret
    exact .inl ⟨rfl, rfl, rfl⟩

end Go.Proofs.YtfknoecgcoapcaaDoor
