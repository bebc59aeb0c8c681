/-
  What a text means, as plain words; the reader's variable, by a contract. Condition: the decimal powers' table and the two errors of strconv read as their initialisers lay them.
-/
import Derived.Test.YtkfmagbaklikmaaDoorParseA
import Derived.Test.YtkfmagbaklikmaaDoorRightB
import Derived.Test.YtkfmagbaklikmaaDoorShelf
import Derived.Lib.SmallJoins
import Derived.Sort.Grow
import Derived.Lib.AtoiAllCases
namespace Go.Proofs.YtkfmagbaklikmaaDoor
open Go Go.RowKit
set_option linter.unusedVariables false
set_option linter.unusedSimpArgs false

/-- The package-level variables that the library's calls read, all in blocks below B. -/
structure Laid (B : Nat) (w : World) : Prop where
  tab : Lib.TabBelow Tryd.prog B w "internal/strconv.uint64pow10" .u64 Lib.pow10Tab
  syn : ∃ te pe, w.cell? ⟨1, 0, none⟩ = some (.iface te pe)
  ran : ∃ te pe, w.cell? ⟨2, 0, none⟩ = some (.iface te pe)
  low : 1 < B ∧ 2 < B
  size : B ≤ w.heap.size
theorem Laid.below {B B' : Nat} {w w' : World} (h : Laid B w) (hb : Below B' w w') (hB : B ≤ B') : Laid B w' := by
  have hb' := hb.mono hB
  obtain ⟨te, pe, h1⟩ := h.syn
  obtain ⟨tf, pf, h2⟩ := h.ran
  exact ⟨h.tab.on hb', ⟨te, pe, (hb'.cell (p := ⟨1, 0, none⟩) h.low.1).trans h1⟩, ⟨tf, pf, (hb'.cell (p := ⟨2, 0, none⟩) h.low.2).trans h2⟩, h.low, Nat.le_trans h.size hb'.size⟩
theorem Laid.fr {B : Nat} {S : Nat → Prop} {w w' : World} (h : Laid B w) (hf : Fr S w w') (hS : ∀ k, S k → B ≤ k) : Laid B w' := h.below (hf.below h.size hS) (Nat.le_refl _)

theorem below_grow (w : World) (k : Nat) (os : Array Obj) : Below w.heap.size w (Sort.grow (w.drewN k) os) :=
  ⟨rfl, rfl, rfl, by simp [Sort.grow], fun j hj => Sort.heap_grow_old (w.drewN k) os hj⟩

/-! ### What a text means -/
def varOf (d : List UInt8) : Option Int :=
  match Lib.atoiAll d with
  | .ok v => if 999 < v then none else if Lib.itoa v = d then some v else none
  | _ => none
def headIs (l : List UInt8) (c : UInt8) : Bool := l.head? == some c
def pVar (l : List UInt8) : Option (Tm × Nat) :=
  (varOf (l.takeWhile digitB)).map fun v => (.node 0 v ⟨#[]⟩ [], (l.takeWhile digitB).length)
def pList (p : List UInt8 → Option (Tm × Nat)) (l : List UInt8) : Option (Tm × Nat) :=
  match p l with
  | none => none
  | some (a, n) => if headIs (l.drop n) 124 = true then
      match p (l.drop (n + 1)) with
      | none => none
      | some (b, m) => if headIs (l.drop (n + 1 + m)) 93 = true then some (.node 3 0 ⟨#[]⟩ [a, b], n + 1 + m + 1) else none
    else none
def pArgs (p : List UInt8 → Option (Tm × Nat)) : Nat → List UInt8 → Option (List Tm × Nat)
  | 0, _ => none
  | k + 1, l =>
    match p l with
    | none => none
    | some (t, n) =>
      if headIs (l.drop n) 41 = true then some ([t], n + 1)
      else if headIs (l.drop n) 44 = true then
        match pArgs p k (l.drop (n + 1)) with
        | none => none
        | some (ts, m) => some (t :: ts, n + 1 + m)
      else none
def pNamed (p : List UInt8 → Option (Tm × Nat)) (l : List UInt8) : Option (Tm × Nat) :=
  if nameOk ⟨(l.takeWhile nameB).toArray⟩ = true then
    if headIs (l.drop (l.takeWhile nameB).length) 40 = true then
      match pArgs p 8 (l.drop ((l.takeWhile nameB).length + 1)) with
      | none => none
      | some (ts, n) => some (.node 2 0 ⟨(l.takeWhile nameB).toArray⟩ ts, (l.takeWhile nameB).length + 1 + n)
    else some (.node 1 0 ⟨(l.takeWhile nameB).toArray⟩ [], (l.takeWhile nameB).length)
  else none
def shN (k : Nat) (r : Option (Tm × Nat)) : Option (Tm × Nat) := r.map fun x => (x.1, k + x.2)
def pTerm : Nat → List UInt8 → Option (Tm × Nat)
  | 0, _ => none
  | f + 1, l =>
    if headIs l 88 = true then shN 1 (pVar (l.drop 1))
    else if headIs l 91 = true then shN 1 (pList (pTerm f) (l.drop 1))
    else pNamed (pTerm f) l

/-! ### What the reader's calls come to -/
def POk (w : World) (g : Nat) (s : ByteArray) (f : Nat) (t : Tm) (j : Nat) (e : Ending) (w' : World) : Prop :=
  ∃ v, e = .returned (.tuple #[v, .bool true]) ∧ Rd w' g s j ∧ Fr (fun k => k = g) w w' ∧ Reads w' (fun b => w.heap.size ≤ b ∧ b < w'.heap.size) f t v
def PNo (w : World) (g : Nat) (s : ByteArray) (e : Ending) (w' : World) : Prop :=
  e = .returned (.tuple #[.agg #[.int .i64 0, .int .i64 0, .string ⟨#[]⟩, .slice none 0 0], .bool false]) ∧ (∃ j, Rd w' g s j) ∧ Fr (fun k => k = g) w w'
def PRes (w : World) (g : Nat) (s : ByteArray) (f : Nat) (i : Nat) (r : Option (Tm × Nat)) (e : Ending) (w' : World) : Prop :=
  match r with
  | some (t, n) => POk w g s f t (i + n) e w'
  | none => PNo w g s e w'

theorem extract_eq (p : UInt8 → Bool) (s : ByteArray) (i : Nat) (hi : i ≤ s.size) : s.extract i (wend p s i) = ⟨((s.data.toList.drop i).takeWhile p).toArray⟩ := by
  have hw := wend_le p s i hi
  apply ByteArray.ext
  apply Array.ext'
  rw [ByteArray.data_extract, Array.toList_extract]
  have h1 : (s.data.toList.drop i).takeWhile p = (s.data.toList.drop i).take (wend p s i - i) := by
    have : wend p s i - i = ((s.data.toList.drop i).takeWhile p).length := by unfold wend; omega
    rw [this]
    exact (List.prefix_iff_eq_take.1 (List.takeWhile_prefix p))
  rw [h1, List.extract_eq_take_drop]

theorem Fr.oneAlloc {S : Nat → Prop} {w w' : World} (o : Obj) (h : Fr S (w.alloc o) w') : Fr S w w' := ((Fr.refl S w).alloc o).trans h
end Go.Proofs.YtkfmagbaklikmaaDoor
