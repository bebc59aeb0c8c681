/-
  What a text means to the document as an instruction, in plain words: the same as to the program.
-/
import Derived.Test.YtgkldglknkeedaaDoorCodeR
namespace Go.Proofs.YtgkldglknkeedaaDoor
open Go Go.RowKit Go.WideShapes Go.ChangeShapes
set_option linter.unusedVariables false

def rnumAt (kind : Int) (x : List UInt8) : Int :=
  if x = [45] then 65535
  else if 1 < x.length ∧ x.head? = some 88 then rnumOf (x.drop 1)
  else if 1 < x.length ∧ x.head? = some 89 then (if kind = 1 then rnumOf (x.drop 1) + 16 else rnumOf (x.drop 1))
  else rnumOf x

def rAt (op : Int) (W : List (List UInt8)) (k : Nat) : Int :=
  if k < (opsOf op).length ∧ k + 1 < W.length then rnumAt ((opsOf op).getD k 0) (W.getD (k + 1) []) else 0

def rOp (s : List UInt8) : Int := namedOf (bs ((splitW s).getD 0 []))
def rArgs (s : List UInt8) : List Int := [rAt (rOp s) (splitW s) 0, rAt (rOp s) (splitW s) 1, rAt (rOp s) (splitW s) 2, rAt (rOp s) (splitW s) 3]
def rparse (s : List UInt8) : Option (Int × List Int) :=
  if s = [] ∨ textOf (rOp s) (rArgs s) ≠ s then none else some (rOp s, rArgs s)

def rbackB (kind n : Int) : Bool := !validB kind n || (rnumAt kind (wordOf kind n) == n)
theorem rbacks : ((List.range 10).all fun k => (List.range 1025).all fun n => rbackB (k : Int) (n : Int)) = true := by decide +kernel
theorem rback_far : rbackB 8 65535 = true := by decide +kernel
theorem rback_at {kind n : Int} (h0 : 0 ≤ kind) (h9 : kind ≤ 9) (h : validB kind n = true) : rnumAt kind (wordOf kind n) = n := by
  have hb : rbackB kind n = true := by
    rcases of_decide_eq_true h with ⟨rfl, rfl⟩ | ⟨h1, h2⟩
    · exact rback_far
    · have a : 0 ≤ lowOf kind := by unfold lowOf; split <;> omega
      have b : highOf kind ≤ 1023 := by
        unfold highOf
        repeat (first | split | omega)
      obtain ⟨K, rfl⟩ := Int.eq_ofNat_of_zero_le h0
      obtain ⟨N, rfl⟩ := Int.eq_ofNat_of_zero_le (show 0 ≤ n by omega)
      have h3 := List.all_eq_true.1 rbacks K (List.mem_range.2 (by omega))
      exact List.all_eq_true.1 h3 N (List.mem_range.2 (by omega))
  rw [rbackB, h, Bool.not_true, Bool.false_or] at hb
  exact beq_iff_eq.1 hb

/-- Each instruction that may be comes of its text. -/
theorem rparse_back {op a b c d : Int} (h : rightB op [a, b, c, d] = true) : rparse (textOf op [a, b, c, d]) = some (op, [a, b, c, d]) := by
  have hr := right_range h
  obtain ⟨K, rfl⟩ := Int.eq_ofNat_of_zero_le hr.1
  have hK : K < 27 := by omega
  have hname : nameOf (K : Int) = nameAt K := by rw [nameOf, if_pos hr]; rfl
  have hfew := ops_few (K : Int)
  obtain ⟨n, hn⟩ : ∃ n, (opsOf (K : Int)).length = n := ⟨_, rfl⟩
  have hval : ∀ k, k < n → rnumAt ((opsOf (K : Int)).getD k 0) (wordOf ((opsOf (K : Int)).getD k 0) ([a, b, c, d].getD k 0)) = [a, b, c, d].getD k 0 ∧ noBlank (wordOf ((opsOf (K : Int)).getD k 0) ([a, b, c, d].getD k 0)) := fun k hk => by
    have hkd := ops_kind (K : Int) k
    have hv := may_valid (by omega) (right_at h k (by omega))
    exact ⟨rback_at hkd.1 hkd.2 hv, (back_at hkd.1 hkd.2 hv).2⟩
  have htext : textOf (K : Int) [a, b, c, d] = (nameAt K).data.toList ++ ((List.range n).map fun j => wordOf ((opsOf (K : Int)).getD j 0) ([a, b, c, d].getD j 0)).flatMap (32 :: ·) := by
    rw [textOf, if_pos h, hname, tail_flat, hn]
  have hnb : noBlank (nameAt K).data.toList := fun c hc e => by
    subst e
    have := name_noBlank K hK
    simp [hc] at this
  have hws : splitW (textOf (K : Int) [a, b, c, d]) = (nameAt K).data.toList :: ((List.range n).map fun j => wordOf ((opsOf (K : Int)).getD j 0) ([a, b, c, d].getD j 0)) := by
    rw [htext]
    refine splitW_join _ _ hnb ?_
    intro w hw
    obtain ⟨j, hj, rfl⟩ := List.mem_map.1 hw
    exact (hval j (List.mem_range.1 hj)).2
  have hop : rOp (textOf (K : Int) [a, b, c, d]) = (K : Int) := by rw [rOp, hws, List.getD_cons_zero, str_bs, named_back K hK]
  have hat : ∀ k, k < 4 → rAt (K : Int) (splitW (textOf (K : Int) [a, b, c, d])) k = [a, b, c, d].getD k 0 := fun k hk => by
    rw [rAt, hws, hn]
    by_cases hkn : k < n
    · rw [if_pos ⟨hkn, by simp; omega⟩, List.getD_cons_succ]
      have : ((List.range n).map fun j => wordOf ((opsOf (K : Int)).getD j 0) ([a, b, c, d].getD j 0)).getD k [] = wordOf ((opsOf (K : Int)).getD k 0) ([a, b, c, d].getD k 0) := by
        rw [List.getD_eq_getElem?_getD, List.getElem?_map, List.getElem?_range hkn]; rfl
      rw [this]
      exact (hval k hkn).1
    · rw [if_neg (fun x => hkn x.1)]
      exact (may_rest hk (by omega) (right_at h k hk)).symm
  have hargs : rArgs (textOf (K : Int) [a, b, c, d]) = [a, b, c, d] := by
    rw [rArgs, hop, hat 0 (by omega), hat 1 (by omega), hat 2 (by omega), hat 3 (by omega)]
    rfl
  have hne : textOf (K : Int) [a, b, c, d] ≠ [] := by
    rw [htext]
    have hx : (nameAt K).data.toList ≠ [] := by
      have : ∀ k, k < 27 → (nameAt k).data.toList ≠ [] := by decide
      exact this K hK
    simp [hx]
  rw [rparse, hop, hargs, if_neg (by simp [hne])]

/-- The document's reading is the program's. -/
theorem rparse_eq (s : List UInt8) : rparse s = parseP s := by
  have four : ∀ {op : Int} {l : List Int}, rparse s = some (op, l) → parseP s = some (op, l) := fun {op l} h => by
    unfold rparse at h
    split at h
    · cases h
    · rename_i hc
      injection h with h
      injection h with h1 h2
      have hs : s ≠ [] := fun e => hc (.inl e)
      have ht : textOf (rOp s) (rArgs s) = s := Classical.byContradiction fun e => hc (.inr e)
      have hr : rightB (rOp s) (rArgs s) = true := by
        cases hr : rightB (rOp s) (rArgs s) with
        | true => rfl
        | false =>
          rw [textOf, hr] at ht
          exact absurd ht.symm hs
      have hp := parse_back (op := rOp s) (a := rAt (rOp s) (splitW s) 0) (b := rAt (rOp s) (splitW s) 1) (c := rAt (rOp s) (splitW s) 2) (d := rAt (rOp s) (splitW s) 3) hr
      have hp2 : parseP (textOf (rOp s) (rArgs s)) = some (rOp s, rArgs s) := hp
      rw [ht] at hp2
      rw [hp2, h1, h2]
  cases h : parseP s with
  | some x =>
    obtain ⟨op, l⟩ := x
    obtain ⟨ht, hr, L, rfl⟩ := parse_sound h
    have hb := rparse_back (op := op) (a := L.getD 0 0) (b := L.getD 1 0) (c := L.getD 2 0) (d := L.getD 3 0) hr
    have hb2 : rparse (textOf op (padded L)) = some (op, padded L) := hb
    rw [ht] at hb2
    exact hb2
  | none =>
    cases h2 : rparse s with
    | none => rfl
    | some x =>
      obtain ⟨op, l⟩ := x
      rw [four h2] at h
      cases h

end Go.Proofs.YtgkldglknkeedaaDoor
