/-
  The document's Operands, may, names, Name and Right: each by its plain words, in whatever world.
-/
import Derived.Test.YtfgnapfodnhppaaGreatDoorJ06
import Derived.Deep.RegionHeld3
namespace Go.Proofs.YtfgnapfodnhppaaGreatDoor
open Go Go.RowKit Go.WideShapes Go.ChangeShapes
set_option linter.unusedVariables false

set_option maxHeartbeats 8000000 in
theorem roperands_any (op : Int) (w : World) :
    Calls Tryz.prog 39 #[.int .i64 op] w (NewInts w (opsOf op)) := by
  by_cases h : 0 ≤ op ∧ op ≤ 26
  · obtain ⟨h0, h1⟩ := h
    have hk : op = 0 ∨ op = 1 ∨ op = 2 ∨ op = 3 ∨ op = 4 ∨ op = 5 ∨ op = 6 ∨ op = 7 ∨ op = 8 ∨ op = 9 ∨ op = 10 ∨ op = 11 ∨ op = 12 ∨ op = 13 ∨ op = 14 ∨ op = 15 ∨ op = 16 ∨ op = 17 ∨ op = 18 ∨ op = 19 ∨ op = 20 ∨ op = 21 ∨ op = 22 ∨ op = 23 ∨ op = 24 ∨ op = 25 ∨ op = 26 := by omega
    clear h0 h1
    rcases hk with rfl | rfl | rfl | rfl | rfl | rfl | rfl | rfl | rfl | rfl | rfl | rfl | rfl | rfl | rfl | rfl | rfl | rfl | rfl | rfl | rfl | rfl | rfl | rfl | rfl | rfl | rfl
    all_goals
      go_enter Tryz.func39, Tryz.ntmps39
      go_wp2
      go_ret
      first
        | exact .inl ⟨rfl, rfl, rfl⟩
        | exact .inr ⟨by decide, rfl, rfl⟩
  · have he : opsOf op = [] := by
      unfold opsOf
      repeat rw [if_neg (by omega)]
    rw [he]
    have h1 : (op == 1) = false := by simp; omega
    have h2 : (op == 2) = false := by simp; omega
    have h10 : (op == 10) = false := by simp; omega
    have h11 : (op == 11) = false := by simp; omega
    have h3 : (op == 3) = false := by simp; omega
    have h12 : (op == 12) = false := by simp; omega
    have h4 : (op == 4) = false := by simp; omega
    have h13 : (op == 13) = false := by simp; omega
    have h5 : (op == 5) = false := by simp; omega
    have h14 : (op == 14) = false := by simp; omega
    have h6 : (op == 6) = false := by simp; omega
    have h7 : (op == 7) = false := by simp; omega
    have h8 : (op == 8) = false := by simp; omega
    have h9 : (op == 9) = false := by simp; omega
    have h15 : (op == 15) = false := by simp; omega
    have h17 : (op == 17) = false := by simp; omega
    have h18 : (op == 18) = false := by simp; omega
    have h20 : (op == 20) = false := by simp; omega
    have h21 : (op == 21) = false := by simp; omega
    have h24 : (op == 24) = false := by simp; omega
    have h25 : (op == 25) = false := by simp; omega
    have h26 : (op == 26) = false := by simp; omega
    clear h he
    go_enter Tryz.func39, Tryz.ntmps39
    go_wp2
    go_ret
    exact .inl ⟨rfl, rfl, rfl⟩

theorem roperands_none (op : Int) (h : opsOf op = []) (w : World) : Calls Tryz.prog 39 #[.int .i64 op] w fun e w' => e = .returned (.slice none 0 0) ∧ w = w' :=
  (roperands_any op w).mono fun e w' hn => by
    rcases hn with ⟨_, h1, h2⟩ | ⟨h0, _⟩
    · exact ⟨h1, h2.symm⟩
    · exact absurd h h0
theorem roperands_some (op : Int) (n : Nat) (hn : (opsOf op).length = n) (h : 0 < n) (w : World) :
    Calls Tryz.prog 39 #[.int .i64 op] w fun e w' => e = .returned (.slice (some ⟨w.heap.size, 0, none⟩) n n) ∧ w.alloc (.cells ((opsOf op).map (Value.int .i64)).toArray 3) = w' :=
  (roperands_any op w).mono fun e w' hn' => by
    rcases hn' with ⟨h0, _⟩ | ⟨_, h1, h2⟩
    · rw [h0] at hn
      simp at hn
      omega
    · rw [hn] at h1
      exact ⟨h1, h2.symm⟩


theorem high_cases (kind : Int) (h0 : 0 ≤ kind) (h1 : kind ≤ 9) : kind = 0 ∨ kind = 1 ∨ kind = 2 ∨ kind = 3 ∨ kind = 4 ∨ kind = 5 ∨ kind = 6 ∨ kind = 7 ∨ kind = 8 ∨ kind = 9 := by omega

set_option maxHeartbeats 4000000 in
theorem rmay_any (op kind n : Int) (h0 : 0 ≤ kind) (h1 : kind ≤ 9) (h8 : op = 26 → kind = 8) (w : World) :
    Calls Tryz.prog 98 #[.int .i64 op, .int .i64 kind, .int .i64 n] w fun e w' => e = .returned (.bool (mayB op kind n)) ∧ Below w.heap.size w w' := by
  by_cases hs : op = 26 ∧ n = 65535
  · obtain ⟨rfl, rfl⟩ := hs
    have hk := h8 rfl
    subst hk
    clear h0 h1 h8
    go_enter Tryz.func98, Tryz.ntmps98
    go_wp2
    go_ret
    exact ⟨rfl, Below.refl _ _⟩
  · have hm : mayB op kind n = decide (lowOf kind ≤ n ∧ n ≤ highOf kind) := by
      unfold mayB
      congr 1
      rw [eq_iff_iff]
      exact ⟨fun h => h.resolve_left hs, .inr⟩
    rw [hm]
    have hg : kind = 8 → (op == 26) = false ∨ (n == 65535) = false := fun e => by
      by_cases h : op = 26
      · right
        simpa using fun x => hs ⟨h, x⟩
      · left
        simpa using h
    clear hm
    rcases high_cases kind h0 h1 with rfl | rfl | rfl | rfl | rfl | rfl | rfl | rfl | rfl | rfl
    case inr.inr.inr.inr.inr.inr.inr.inr.inl =>
      rcases hg rfl with hx | hx
      all_goals
        clear hs hg h0 h1 h8
        go_enter Tryz.func98, Tryz.ntmps98
        go_wp2
        all_goals
          go_ret
          refine ⟨ret_b ?_, by first | exact Below.refl _ _ | exact alloc_below w _⟩
          rw [Bool.eq_iff_iff]
          simp [lowOf, highOf]
          try omega
    all_goals
      clear hs hg h0 h1 h8
      go_enter Tryz.func98, Tryz.ntmps98
      go_wp2
      all_goals
        go_ret
        refine ⟨ret_b ?_, by first | exact Below.refl _ _ | exact alloc_below w _⟩
        rw [Bool.eq_iff_iff]
        simp [lowOf, highOf]
        try omega

end Go.Proofs.YtfgnapfodnhppaaGreatDoor
