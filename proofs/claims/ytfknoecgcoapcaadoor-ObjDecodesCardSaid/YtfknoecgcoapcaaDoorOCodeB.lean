/-
  The program's Name and Named: by the table of names that the program's own text lays. Condition: the world holds that table.
-/
import Derived.Test.YtfknoecgcoapcaaDoorCodeA
import Derived.Laws.Rows
import Derived.Deep.DeepCutAuto
namespace Go.Proofs.YtfknoecgcoapcaaDoor
open Go Go.RowKit Go.WideShapes Go.ChangeShapes
set_option linter.unusedVariables false

def namesArr : Array Value := ((List.range 27).map fun k => Value.string (nameAt k)).toArray

/-- The program's table of names. -/
def NamesAt (w : World) : Prop := ∃ t fr, w.heap[0]? = some (.cells namesArr t fr)

theorem namesArr_at (k : Nat) (h : k < 27) : namesArr[k]? = some (.string (nameAt k)) := by
  unfold namesArr
  simp [h]
theorem NamesAt.cell {w : World} (h : NamesAt w) (k : Nat) (hk : k < 27) : w.cell? ⟨0, k, none⟩ = some (.string (nameAt k)) := by
  obtain ⟨t, fr, h⟩ := h
  exact (cell_of_row w _ k namesArr t fr h).trans (namesArr_at k hk)
theorem NamesAt.below {w w' : World} {B : Nat} (h : NamesAt w) (hb : Below B w w') (hB : 0 < B) : NamesAt w' := by
  obtain ⟨t, fr, h⟩ := h
  exact ⟨t, fr, (hb.block _ hB).trans h⟩
theorem NamesAt.lt {w : World} (h : NamesAt w) : 0 < w.heap.size := by
  obtain ⟨t, fr, h⟩ := h
  exact (Array.getElem?_eq_some_iff.1 h).1

theorem name_any (op : Int) (w : World) (hw : NamesAt w) :
    Calls Tryd.prog 60 #[.int .i64 op] w fun e w' => e = .returned (.string (nameOf op)) ∧ w = w' := by
  by_cases h : 0 ≤ op ∧ op ≤ 26
  · have hn : nameOf op = nameAt op.toNat := if_pos h
    obtain ⟨k, rfl⟩ := Int.eq_ofNat_of_zero_le h.1
    have hk : k ≤ 26 := by omega
    have hc := hw.cell k (by omega)
    rw [hn]
    simp only [Int.toNat_natCast]
    clear hn h hw
    generalize nameAt k = s at hc ⊢
    go_enter Tryd.func60, Tryd.ntmps60
    go_wp2
    go_ret
    exact ⟨rfl, rfl⟩
  · have hn : nameOf op = ⟨#[]⟩ := if_neg h
    rw [hn]
    clear hn hw
    by_cases h0 : op < 0
    · clear h
      go_enter Tryd.func60, Tryd.ntmps60
      go_wp2
      go_ret
      exact ⟨rfl, rfl⟩
    · have h1 : 27 ≤ op := by omega
      clear h
      go_enter Tryd.func60, Tryd.ntmps60
      go_wp2
      go_ret
      exact ⟨rfl, rfl⟩

theorem run_index_agg {P : Program} (w : World) (t e : TypeId) (n : Nat) (cs : Array Value) (k : IntKind) (i : Nat) (v : Value) (h : P.underlying t = some (.array n e)) (he : ∀ w, (sizeOf e).run P w = .ok 1 w) (ha : ∀ w, (isAgg e).run P w = .ok false w) (hi : i < n) (hv : cs[i]? = some v) :
    (Instr.index t (.agg cs) (.int k (i : Int))).run P w = .ok v w := by
  have h1 : 0 ≤ (i : Int) ∧ (i : Int) < (n : Int) := by omega
  simp [Instr.index, run_underlying h, asIntOf, hi, he, ha, hv, go_sem]

theorem ne_strs {a b : ByteArray} (h : ¬ a = b) : (a.toList == b.toList) = false := by
  rw [beq_eq_false_iff_ne]
  intro e
  rw [ByteArray.toList_eq, ByteArray.toList_eq] at e
  exact h (ByteArray.ext (Array.ext' e))

/-- The first Op from k on of that name. -/
def namedFrom (s : ByteArray) : Nat → Nat → Int
  | _, 0 => -1
  | k, n + 1 => if nameAt k = s then (k : Int) else namedFrom s (k + 1) n
def namedOf (s : ByteArray) : Int := namedFrom s 0 27

theorem namedFrom_eq (s : ByteArray) (k n : Nat) : namedFrom s k (n + 1) = if nameAt k = s then (k : Int) else namedFrom s (k + 1) n := rfl

end Go.Proofs.YtfknoecgcoapcaaDoor
