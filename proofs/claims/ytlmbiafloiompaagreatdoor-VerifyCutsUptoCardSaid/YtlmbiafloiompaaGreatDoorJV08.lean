/-
  2 texts in one (CodeH CodeL). Conditions: those of each theorem.
-/
import Derived.Test.YtlmbiafloiompaaGreatDoorJV07
import Derived.Lib.Split
import Derived.Lib.IndexBytes
import Derived.Deep.RegionHeld3
import Derived.Test.YtlmbiafloiompaaGreatDoorJV02
import Derived.IntWalk
import Derived.Deep.QuietTactic
import Derived.BigQuiet
import Derived.Lib.ItoaLen
import Derived.Laws.Concat
namespace Go.Proofs.YtlmbiafloiompaaGreatDoor
open Go Go.RowKit Go.WideShapes Go.ChangeShapes
set_option linter.unusedVariables false

/-- The words: s cut at the first five blanks. -/
def wordsOf (s : List UInt8) : List (List UInt8) := Lib.splitK [32] 0 (min 6 (s.length + 1) - 1) s

/-- The first k numbers. -/
def numsUpto (f : Nat → Option Int) : Nat → Option (List Int)
  | 0 => some []
  | k + 1 => match numsUpto f k with
    | none => none
    | some L => match f k with
      | none => none
      | some x => some (L ++ [x])

def numAt (op : Int) (ws : List (List UInt8)) (k : Nat) : Option Int := numOf ((opsOf op).getD k 0) (ws.getD (k + 1) [])

def padded (L : List Int) : List Int := [L.getD 0 0, L.getD 1 0, L.getD 2 0, L.getD 3 0]

/-- The instruction of which s is the text. -/
def parseP (s : List UInt8) : Option (Int × List Int) :=
  if namedOf (bs ((wordsOf s).getD 0 [])) < 0 ∨ (wordsOf s).length - 1 ≠ (opsOf (namedOf (bs ((wordsOf s).getD 0 [])))).length then none
  else match numsUpto (numAt (namedOf (bs ((wordsOf s).getD 0 []))) (wordsOf s)) (opsOf (namedOf (bs ((wordsOf s).getD 0 [])))).length with
    | none => none
    | some L => if textOf (namedOf (bs ((wordsOf s).getD 0 []))) (padded L) = s then some (namedOf (bs ((wordsOf s).getD 0 [])), padded L) else none

theorem nums_none {f : Nat → Option Int} {k : Nat} (h : numsUpto f k = none) : ∀ n, k ≤ n → numsUpto f n = none := by
  intro n
  induction n with
  | zero => intro hk; obtain rfl : k = 0 := by omega
            exact h
  | succ n ih =>
    intro hk
    by_cases e : k = n + 1
    · subst e; exact h
    · rw [numsUpto, ih (by omega)]

theorem nums_step {f : Nat → Option Int} {k : Nat} {L : List Int} {x : Int} (h : numsUpto f k = some L) (hx : f k = some x) : numsUpto f (k + 1) = some (L ++ [x]) := by
  rw [numsUpto, h]
  simp only [hx]
theorem nums_bad {f : Nat → Option Int} {k : Nat} {L : List Int} (h : numsUpto f k = some L) (hx : f k = none) : numsUpto f (k + 1) = none := by
  rw [numsUpto, h]
  simp only [hx]
theorem nums_all {f : Nat → Option Int} {g : Nat → Int} : ∀ n, (∀ k, k < n → f k = some (g k)) → numsUpto f n = some ((List.range n).map g) := by
  intro n
  induction n with
  | zero => intro _; rfl
  | succ n ih =>
    intro h
    rw [nums_step (ih fun k hk => h k (by omega)) (h n (by omega)), List.range_succ, List.map_append]
    rfl
theorem nums_len {f : Nat → Option Int} : ∀ {n : Nat} {L : List Int}, numsUpto f n = some L → L.length = n := by
  intro n
  induction n with
  | zero => intro L h; injection h with h; subst h; rfl
  | succ n ih =>
    intro L h
    cases h1 : numsUpto f n with
    | none => rw [numsUpto, h1] at h; cases h
    | some M =>
      cases h2 : f n with
      | none => rw [nums_bad h1 h2] at h; cases h
      | some x =>
        rw [nums_step h1 h2] at h
        injection h with h
        subst h
        simp [ih h1]

/-! ### Cutting at blanks -/
def noBlank (w : List UInt8) : Prop := ∀ c ∈ w, c ≠ 32

theorem index_hit : ∀ {w : List UInt8} (r : List UInt8), noBlank w → Lib.index (w ++ 32 :: r) [32] = (w.length : Int) := by
  intro w r
  rw [Lib.index_one]
  induction w with
  | nil => intro _; simp [Lib.indexByte]
  | cons a w ih =>
    intro h
    have ha : (a == 32) = false := beq_eq_false_iff_ne.2 (h a (by simp))
    have hw := ih (fun c hc => h c (by simp [hc]))
    rw [List.cons_append, Lib.indexByte, ha, hw]
    have : ((w.length : Int) == -1) = false := by rw [beq_eq_false_iff_ne]; omega
    simp [this]
theorem index_miss {w : List UInt8} (h : noBlank w) : Lib.index w [32] = -1 := by
  rw [Lib.index_one]
  induction w with
  | nil => rfl
  | cons a w ih =>
    have ha : (a == 32) = false := beq_eq_false_iff_ne.2 (h a (by simp))
    have hw := ih (fun c hc => h c (by simp [hc]))
    rw [Lib.indexByte, ha, hw]
    rfl

theorem split_join : ∀ (ws : List (List UInt8)) (w0 : List UInt8) (k : Nat), noBlank w0 → (∀ w ∈ ws, noBlank w) → ws.length ≤ k → Lib.splitK [32] 0 k (w0 ++ ws.flatMap (32 :: ·)) = w0 :: ws := by
  intro ws
  induction ws with
  | nil =>
    intro w0 k h0 _ _
    have hm : (Lib.index (w0 ++ ([] : List (List UInt8)).flatMap (32 :: ·)) [32] == -1) = true := by simp [index_miss h0]
    cases k with
    | zero => simp [Lib.splitK]
    | succ k => rw [Lib.splitK, if_pos hm]; simp
  | cons w ws ih =>
    intro w0 k h0 hws hk
    cases k with
    | zero => simp at hk
    | succ k =>
      have hi : Lib.index (w0 ++ (w :: ws).flatMap (32 :: ·)) [32] = (w0.length : Int) := by
        rw [List.flatMap_cons, List.cons_append]
        exact index_hit _ h0
      have hm : ¬ (Lib.index (w0 ++ (w :: ws).flatMap (32 :: ·)) [32] == -1) = true := by
        rw [hi]
        intro e
        have := beq_iff_eq.1 e
        omega
      rw [Lib.splitK, if_neg hm, hi]
      have e1 : ((w0.length : Int)).toNat = w0.length := by omega
      rw [e1, Nat.add_zero, List.take_left]
      have e2 : (w0 ++ (w :: ws).flatMap (32 :: ·)).drop (w0.length + [(32 : UInt8)].length) = w ++ ws.flatMap (32 :: ·) := by
        rw [← List.drop_drop, List.drop_left, List.flatMap_cons]
        rfl
      rw [e2, ih w k (hws w (by simp)) (fun x hx => hws x (by simp [hx])) (by simpa using hk)]

theorem tail_flat (op : Int) (l : List Int) (k : Nat) : textTail op l k = ((List.range k).map fun j => wordOf ((opsOf op).getD j 0) (l.getD j 0)).flatMap (32 :: ·) := by
  induction k with
  | zero => rfl
  | succ k ih =>
    rw [List.range_succ, List.map_append, List.flatMap_append, ← ih]
    simp [textTail]

/-! ### Words and numbers undo each other -/
def validB (kind n : Int) : Bool := decide ((kind = 8 ∧ n = 65535) ∨ (lowOf kind ≤ n ∧ n ≤ highOf kind))
def backB (kind n : Int) : Bool := !validB kind n || (numOf kind (wordOf kind n) == some n && !(wordOf kind n).contains 32)
theorem backs : ((List.range 10).all fun k => (List.range 1025).all fun n => backB (k : Int) (n : Int)) = true := by decide +kernel
theorem back_far : backB 8 65535 = true := by decide +kernel

theorem back_at {kind n : Int} (h0 : 0 ≤ kind) (h9 : kind ≤ 9) (h : validB kind n = true) : numOf kind (wordOf kind n) = some n ∧ noBlank (wordOf kind n) := by
  have hb : backB kind n = true := by
    rcases of_decide_eq_true h with ⟨rfl, rfl⟩ | ⟨h1, h2⟩
    · exact back_far
    · have a : 0 ≤ lowOf kind := by unfold lowOf; split <;> omega
      have b : highOf kind ≤ 1023 := by
        unfold highOf
        repeat (first | split | omega)
      obtain ⟨K, rfl⟩ := Int.eq_ofNat_of_zero_le h0
      obtain ⟨N, rfl⟩ := Int.eq_ofNat_of_zero_le (show 0 ≤ n by omega)
      have h3 := List.all_eq_true.1 backs K (List.mem_range.2 (by omega))
      exact List.all_eq_true.1 h3 N (List.mem_range.2 (by omega))
  rw [backB, h, Bool.not_true, Bool.false_or, Bool.and_eq_true] at hb
  refine ⟨beq_iff_eq.1 hb.1, fun c hc e => ?_⟩
  subst e
  have := hb.2
  simp [hc] at this

theorem named_back : ∀ k, k < 27 → namedOf (nameAt k) = (k : Int) := by decide +kernel
theorem named_empty : namedOf (bs []) = -1 := by decide +kernel
theorem name_noBlank : ∀ k, k < 27 → ((nameAt k).data.toList.contains 32) = false := by decide

theorem may_valid {op : Int} {k : Nat} {x : Int} (hk : k < (opsOf op).length) (h : mayB op ((opsOf op).getD k 0) x = true) : validB ((opsOf op).getD k 0) x = true := by
  rcases of_decide_eq_true h with ⟨h1, h2⟩ | h2
  · subst h1
    refine decide_eq_true (.inl ⟨?_, h2⟩)
    have h4 : (opsOf 26).length = 4 := rfl
    rw [h4] at hk
    match k, hk with
    | 0, _ => rfl
    | 1, _ => rfl
    | 2, _ => rfl
    | 3, _ => rfl
  · exact decide_eq_true (.inr h2)
theorem may_rest {op : Int} {k : Nat} {x : Int} (hk4 : k < 4) (hk : (opsOf op).length ≤ k) (h : mayB op ((opsOf op).getD k 0) x = true) : x = 0 := by
  have hg : (opsOf op).getD k 0 = 0 := by rw [List.getD_eq_getElem?_getD, List.getElem?_eq_none hk]; rfl
  rw [hg] at h
  rcases of_decide_eq_true h with ⟨h1, h2⟩ | ⟨h2, h3⟩
  · subst h1
    have h4 : (opsOf 26).length = 4 := rfl
    omega
  · have a : lowOf 0 = 0 := rfl
    have b : highOf 0 = 0 := rfl
    omega

theorem padded_eq {a b c d : Int} {L : List Int} (h : ∀ k, k < 4 → L.getD k 0 = [a, b, c, d].getD k 0) : padded L = [a, b, c, d] := by
  have h0 := h 0 (by omega)
  have h1 := h 1 (by omega)
  have h2 := h 2 (by omega)
  have h3 := h 3 (by omega)
  unfold padded
  rw [h0, h1, h2, h3]
  rfl

/-- Each instruction that may be comes of its text. -/
theorem parse_back {op a b c d : Int} (h : rightB op [a, b, c, d] = true) : parseP (textOf op [a, b, c, d]) = some (op, [a, b, c, d]) := by
  have hr := right_range h
  obtain ⟨K, rfl⟩ := Int.eq_ofNat_of_zero_le hr.1
  have hK : K < 27 := by omega
  have hname : nameOf (K : Int) = nameAt K := by rw [nameOf, if_pos hr]; rfl
  have hfew := ops_few (K : Int)
  obtain ⟨n, hn⟩ : ∃ n, (opsOf (K : Int)).length = n := ⟨_, rfl⟩
  have hval : ∀ k, k < n → numOf ((opsOf (K : Int)).getD k 0) (wordOf ((opsOf (K : Int)).getD k 0) ([a, b, c, d].getD k 0)) = some ([a, b, c, d].getD k 0) ∧ noBlank (wordOf ((opsOf (K : Int)).getD k 0) ([a, b, c, d].getD k 0)) := fun k hk => by
    have hkd := ops_kind (K : Int) k
    exact back_at hkd.1 hkd.2 (may_valid (by omega) (right_at h k (by omega)))
  have htext : textOf (K : Int) [a, b, c, d] = (nameAt K).data.toList ++ ((List.range n).map fun j => wordOf ((opsOf (K : Int)).getD j 0) ([a, b, c, d].getD j 0)).flatMap (32 :: ·) := by
    rw [textOf, if_pos h, hname, tail_flat, hn]
  have hnb : noBlank (nameAt K).data.toList := fun c hc e => by
    subst e
    have := name_noBlank K hK
    simp [hc] at this
  have hlen : n ≤ (textOf (K : Int) [a, b, c, d]).length := by
    rw [htext, List.length_append]
    have : ∀ ws : List (List UInt8), ws.length ≤ (ws.flatMap (32 :: ·)).length := by
      intro ws
      induction ws with
      | nil => simp
      | cons w ws ih => rw [List.flatMap_cons, List.length_append, List.length_cons, List.length_cons]; omega
    have := this ((List.range n).map fun j => wordOf ((opsOf (K : Int)).getD j 0) ([a, b, c, d].getD j 0))
    rw [List.length_map, List.length_range] at this
    omega
  have hws : wordsOf (textOf (K : Int) [a, b, c, d]) = (nameAt K).data.toList :: ((List.range n).map fun j => wordOf ((opsOf (K : Int)).getD j 0) ([a, b, c, d].getD j 0)) := by
    unfold wordsOf
    obtain ⟨m, hm⟩ : ∃ m, min 6 ((textOf (K : Int) [a, b, c, d]).length + 1) - 1 = m := ⟨_, rfl⟩
    have hm2 : n ≤ m := by omega
    rw [hm, htext]
    refine split_join _ _ m hnb ?_ (by simpa using hm2)
    intro w hw
    obtain ⟨j, hj, rfl⟩ := List.mem_map.1 hw
    exact (hval j (List.mem_range.1 hj)).2
  have hnm : namedOf (bs ((wordsOf (textOf (K : Int) [a, b, c, d])).getD 0 [])) = (K : Int) := by
    rw [hws, List.getD_cons_zero, str_bs, named_back K hK]
  have hna : ∀ k, k < n → numAt (K : Int) (wordsOf (textOf (K : Int) [a, b, c, d])) k = some ([a, b, c, d].getD k 0) := fun k hk => by
    unfold numAt
    rw [hws, List.getD_cons_succ]
    have : ((List.range n).map fun j => wordOf ((opsOf (K : Int)).getD j 0) ([a, b, c, d].getD j 0)).getD k [] = wordOf ((opsOf (K : Int)).getD k 0) ([a, b, c, d].getD k 0) := by
      rw [List.getD_eq_getElem?_getD, List.getElem?_map, List.getElem?_range hk]; rfl
    rw [this]
    exact (hval k hk).1
  have hnums := nums_all n hna
  have hpad : padded ((List.range n).map fun k => [a, b, c, d].getD k 0) = [a, b, c, d] := padded_eq fun k hk => by
    by_cases hkn : k < n
    · rw [List.getD_eq_getElem?_getD, List.getElem?_map, List.getElem?_range hkn]; rfl
    · have h0 := may_rest hk (by omega) (right_at h k hk)
      rw [h0, List.getD_eq_getElem?_getD, List.getElem?_map, List.getElem?_eq_none (by simp; omega)]; rfl
  have hwl : (wordsOf (textOf (K : Int) [a, b, c, d])).length - 1 = n := by rw [hws]; simp
  unfold parseP
  rw [hnm, if_neg (by rw [hwl, hn]; omega), hn, hnums]
  simp only [hpad, if_true]

theorem words_nil : wordsOf [] = [[]] := rfl

/-- What is read is an instruction that may be, of just that text. -/
theorem parse_sound {s : List UInt8} {op : Int} {l : List Int} (h : parseP s = some (op, l)) : textOf op l = s ∧ rightB op l = true ∧ ∃ L, l = padded L := by
  unfold parseP at h
  split at h
  · cases h
  · rename_i hc
    cases hx : numsUpto (numAt (namedOf (bs ((wordsOf s).getD 0 []))) (wordsOf s)) (opsOf (namedOf (bs ((wordsOf s).getD 0 [])))).length with
    | none => rw [hx] at h; cases h
    | some L =>
      rw [hx] at h
      simp only at h
      split at h
      · rename_i ht
        injection h with h
        injection h with h1 h2
        rw [h1] at ht
        subst h2
        refine ⟨ht, ?_, L, rfl⟩
        cases hr : rightB op (padded L) with
        | true => rfl
        | false =>
          exfalso
          rw [textOf, hr] at ht
          have hs : s = [] := ht.symm
          subst hs
          apply hc
          left
          rw [words_nil]
          show namedOf (bs []) < 0
          rw [named_empty]
          decide
      · cases h

end Go.Proofs.YtlmbiafloiompaaGreatDoor

namespace Go.Proofs.YtlmbiafloiompaaGreatDoor
open Go Go.RowKit Go.WideShapes Go.ChangeShapes
set_option linter.unusedVariables false

/-- The document's instruction in its box, and what was there. -/
structure RBox (B : Nat) (op a b c d : Int) (w0 w : World) : Prop where
  ins : Box w B 54 #[.int .i64 op, .int .i64 a, .int .i64 b, .int .i64 c, .int .i64 d]
  below : Below B w0 w
theorem RBox.up {B : Nat} {op a b c d : Int} {w0 w w' : World} (h : RBox B op a b c d w0 w) (hb : Below w.heap.size w w') : RBox B op a b c d w0 w' :=
  ⟨h.ins.below hb h.ins.lt, h.below.trans (hb.mono (Nat.le_of_lt h.ins.lt))⟩
theorem RBox.drewN {B : Nat} {op a b c d : Int} {w0 w : World} (h : RBox B op a b c d w0 w) (n : Nat) : RBox B op a b c d w0 (w.drewN n) :=
  ⟨h.ins, ⟨h.below.os, h.below.tape, h.below.output, h.below.size, h.below.block⟩⟩
theorem RBox.cell {B : Nat} {op a b c d : Int} {w0 w : World} (h : RBox B op a b c d w0 w) (k : Nat) (hk : k < 4) : w.cell? ⟨B, 1 + k, none⟩ = some (.int .i64 ([a, b, c, d].getD k 0)) := by
  rw [h.ins.cell (1 + k)]
  match k, hk with
  | 0, _ => rfl
  | 1, _ => rfl
  | 2, _ => rfl
  | 3, _ => rfl

end Go.Proofs.YtlmbiafloiompaaGreatDoor
