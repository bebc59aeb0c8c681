/-
  The document's names, Name, Named and Right: each by its plain words, in whatever world.
-/
import Derived.Test.YtfgnapfodnhppaaGreatDoorJ08
import Derived.Test.YtfgnapfodnhppaaGreatDoorJ09
namespace Go.Proofs.YtfgnapfodnhppaaGreatDoor
open Go Go.RowKit Go.WideShapes Go.ChangeShapes
set_option linter.unusedVariables false

set_option maxRecDepth 100000 in
theorem rnames_any (w : World) :
    Calls Tryz.prog 87 #[] w fun e w' => e = .returned (.slice (some ⟨w.heap.size, 0, none⟩) 27 27) ∧ w.alloc (.cells namesArr 9) = w' := by
  go_enter Tryz.func87, Tryz.ntmps87
  go_wp2
  go_ret
  exact ⟨rfl, rfl⟩

theorem rname_any (op : Int) (w : World) :
    Calls Tryz.prog 74 #[.int .i64 op] w fun e w' => e = .returned (.string (nameOf op)) ∧ Below w.heap.size w w' := by
  by_cases h : 0 ≤ op ∧ op ≤ 26
  · have hn : nameOf op = nameAt op.toNat := if_pos h
    obtain ⟨k, rfl⟩ := Int.eq_ofNat_of_zero_le h.1
    have hk : k ≤ 26 := by omega
    have hc := (Box.new w 9 namesArr).cell k
    rw [namesArr_at k (by omega)] at hc
    rw [hn]
    simp only [Int.toNat_natCast]
    have HA := Lib.hid (alloc_below w (.cells namesArr 9))
    clear hn h
    generalize nameAt k = s at hc ⊢
    go_enter Tryz.func74, Tryz.ntmps74
    go_wp2_with (refine (rnames_any _).mono ?_; rintro e w2 ⟨rfl, hw2⟩; rw [hw2] at hc; rw [hw2] at HA; clear hw2)
    go_ret
    exact ⟨rfl, HA.out⟩
  · have hn : nameOf op = ⟨#[]⟩ := if_neg h
    rw [hn]
    clear hn
    by_cases h0 : op < 0
    · clear h
      go_enter Tryz.func74, Tryz.ntmps74
      go_wp2
      go_ret
      exact ⟨rfl, Below.refl _ _⟩
    · have h1 : 26 < op := by omega
      clear h
      go_enter Tryz.func74, Tryz.ntmps74
      go_wp2
      go_ret
      exact ⟨rfl, Below.refl _ _⟩

set_option maxHeartbeats 1000000 in
theorem rnamed_any (s : ByteArray) (w : World) :
    Calls Tryz.prog 56 #[.string s] w fun e w' => e = .returned (.int .i64 (namedOf s)) ∧ Below w.heap.size w w' := by
  have hb := Box.new w 9 namesArr
  have hc : ∀ k, k < 27 → (w.alloc (.cells namesArr 9)).cell? ⟨w.heap.size, k, none⟩ = some (.string (nameAt k)) := fun k hk => (hb.cell k).trans (namesArr_at k hk)
  have HC := Lib.hid hc
  have HA := Lib.hid (alloc_below w (.cells namesArr 9))
  clear hb hc
  go_enter Tryz.func56, Tryz.ntmps56
  go_wp2_with fail
  refine (rnames_any _).mono ?_
  rintro e w2 ⟨rfl, hw2⟩
  rw [hw2] at HC HA
  clear hw2
  go_wp2
  go_loop [4] (fun i => ∃ k : Nat, k ≤ 27 ∧ i = .int .i64 k ∧ namedOf s = namedFrom s k (27 - k)) (fun i => 27 - (intOf i).toNat)
  case atStart => exact ⟨0, by omega, rfl, rfl⟩
  case round =>
    obtain ⟨k, hk, rfl, hf⟩ := hrel
    by_cases hlt : k < 27
    · have hcell := HC.out k hlt
      rw [show 27 - k = (27 - (k + 1)) + 1 by omega, namedFrom_eq] at hf
      have HF := Lib.hid hf
      clear hf
      by_cases he : nameAt k = s
      · subst he
        have hx : namedOf (nameAt k) = (k : Int) := by rw [HF.out, if_pos rfl]
        have HX := Lib.hid hx
        clear hx HF
        go_wp2
        go_ret
        exact ⟨by rw [HX.out]; rfl, HA.out⟩
      · have hne := ne_strs he
        have hx : namedOf s = namedFrom s (k + 1) (27 - (k + 1)) := by rw [HF.out, if_neg he]
        have HX := Lib.hid hx
        clear hx HF he
        go_wp2
        go_round
        case rel => exact ⟨k + 1, by omega, by go_num, HX.out⟩
        case measure => simp [intOf]; omega
    · obtain rfl : k = 27 := by omega
      have HF := Lib.hid hf
      clear hf
      go_wp2
      go_ret
      exact ⟨by rw [HF.out]; rfl, HA.out⟩

/-- The document's instruction in its box, and what was there. -/
structure RBox (B : Nat) (op a b c d : Int) (w0 w : World) : Prop where
  ins : Box w B 71 #[.int .i64 op, .int .i64 a, .int .i64 b, .int .i64 c, .int .i64 d]
  below : Below B w0 w
theorem RBox.up {B : Nat} {op a b c d : Int} {w0 w w' : World} (h : RBox B op a b c d w0 w) (hb : Below w.heap.size w w') : RBox B op a b c d w0 w' :=
  ⟨h.ins.below hb h.ins.lt, h.below.trans (hb.mono (Nat.le_of_lt h.ins.lt))⟩
theorem RBox.drewN {B : Nat} {op a b c d : Int} {w0 w : World} (h : RBox B op a b c d w0 w) (n : Nat) : RBox B op a b c d w0 (w.drewN n) :=
  ⟨h.ins, ⟨h.below.os, h.below.tape, h.below.output, h.below.size, h.below.block⟩⟩
theorem RBox.cell {B : Nat} {op a b c d : Int} {w0 w : World} (h : RBox B op a b c d w0 w) (k : Nat) (hk : k < 4) : w.cell? ⟨B, 1 + k, none⟩ = some (.int .i64 ([a, b, c, d].getD k 0)) := by
  rw [h.ins.cell (1 + k)]
  match k, hk with
  | 0, _ => rfl
  | 1, _ => rfl
  | 2, _ => rfl
  | 3, _ => rfl

theorem rright_out (op a b c d : Int) (h : ¬ (0 ≤ op ∧ op ≤ 26)) (w : World) :
    Calls Tryz.prog 72 #[insV op a b c d] w fun e w' => e = .returned (.bool (rightB op [a, b, c, d])) ∧ Below w.heap.size w w' := by
  have hr : rightB op [a, b, c, d] = false := by rw [rightB, decide_eq_false h]; rfl
  rw [hr]
  clear hr
  unfold insV
  by_cases h0 : op < 0
  · clear h
    go_enter Tryz.func72, Tryz.ntmps72
    go_wp2
    go_ret
    exact ⟨rfl, alloc_below w _⟩
  · have h1 : 26 < op := by omega
    clear h
    go_enter Tryz.func72, Tryz.ntmps72
    go_wp2
    go_ret
    exact ⟨rfl, alloc_below w _⟩

theorem ops_26 (op : Int) (k : Nat) (h : k < (opsOf op).length) : op = 26 → (opsOf op).getD k 0 = 8 := by
  rintro rfl
  have h4 : (opsOf 26).length = 4 := rfl
  rw [h4] at h
  match k, h with
  | 0, _ => rfl
  | 1, _ => rfl
  | 2, _ => rfl
  | 3, _ => rfl

theorem may_zero (op x : Int) (k : Nat) (hk4 : k < 4) (hk : (opsOf op).length ≤ k) : mayB op ((opsOf op).getD k 0) x = decide (x = 0) := by
  rw [Bool.eq_iff_iff]
  constructor
  · intro h
    simp [may_rest hk4 hk h]
  · intro h
    have hx : x = 0 := by simpa using h
    subst hx
    have hg : (opsOf op).getD k 0 = 0 := by rw [List.getD_eq_getElem?_getD, List.getElem?_eq_none hk]; rfl
    rw [hg]
    exact decide_eq_true (.inr ⟨by decide, by decide⟩)

end Go.Proofs.YtfgnapfodnhppaaGreatDoor
