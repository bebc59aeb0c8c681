/-
  How the document's instruction reads, as an argument: five numbers.
-/
import Derived.Test.YtgkldglknkeedaaDoorCRow
import Derived.OpenShut
import Derived.Deep.Slices
import Derived.Deep.Fields
import Derived.Carry
import Derived.WideShapes
import Derived.Laws.IdiomArrays
namespace Go.Proofs.YtgkldglknkeedaaDoor
open Go.ChangeShapes Go.WideShapes Go.ChangeAt Go.RowKit Go.Deep
set_option linter.unusedVariables false
set_option linter.unusedSimpArgs false

theorem readIns : Tryd.prog.readableRec 24 = true := by kernel_rfl
theorem rowIns : 24 < Tryd.prog.types.size := of_decide_eq_true (by kernel_rfl)
theorem insUnder : ∃ fs, Tryd.prog.underlying 24 = some (.struct fs) ∧ fs.size = 2 ∧ (fs[0]?).map (fun f => (f.type, f.offset)) = some (3, 0) ∧ (fs[1]?).map (fun f => (f.type, f.offset)) = some (22, 1) :=
  ⟨_, Tryd.underlying24, by kernel_rfl, by kernel_rfl, by kernel_rfl⟩
theorem cellsIns : Tryd.prog.cellsOf 24 = 5 := by kernel_rfl
theorem cellsFour : Tryd.prog.cellsOf 22 = 4 := by kernel_rfl
theorem cellsInt1 : Tryd.prog.cellsOf 3 = 1 := by kernel_rfl

theorem five_of {l : List Value} (h : l.length = 5) : ∃ a b c d e, l = [a, b, c, d, e] := by
  match l, h with
  | [a, b, c, d, e], _ => exact ⟨a, b, c, d, e, rfl⟩

theorem ins_in {H : Type} {enc : TypeId × Value → H} {W : World} {fuel base : Nat} {spare : Nat → Bool} {held : Bool} {cs : List Value} {x : DataW H × List MemPlace}
    (h : DataW.trod enc Tryd.prog W base spare held fuel 24 cs = some x) : ∃ op a b c d : Int, cs = [.int .i64 op, .int .i64 a, .int .i64 b, .int .i64 c, .int .i64 d] := by
  obtain ⟨fs, hfs, hsz, t0, t1⟩ := insUnder
  obtain ⟨xs, n, rfl, _, hcl, hxl, hf⟩ := DataW.trod_struct hfs h
  rw [cellsIns] at hcl
  obtain ⟨c0, c1, c2, c3, c4, rfl⟩ := five_of hcl
  have hx0 : ∃ y, xs[0]? = some y := ⟨_, List.getElem?_eq_getElem (by omega)⟩
  have hx1 : ∃ y, xs[1]? = some y := ⟨_, List.getElem?_eq_getElem (by omega)⟩
  obtain ⟨y0, hy0⟩ := hx0
  obtain ⟨y1, hy1⟩ := hx1
  obtain ⟨f0, hf0, e0⟩ := Option.map_eq_some_iff.1 t0
  obtain ⟨f1, hf1, e1⟩ := Option.map_eq_some_iff.1 t1
  have g0 := hf 0 f0 hf0
  have g1 := hf 1 f1 hf1
  simp only [Prod.mk.injEq] at e0 e1
  rw [e0.1, e0.2, hy0, cellsInt1] at g0
  rw [e1.1, e1.2, hy1, cellsFour] at g1
  simp only [List.drop_zero, List.take_succ_cons, List.take_zero, List.drop_succ_cons] at g0 g1
  obtain ⟨z1, z2, z3, z4, m, _, h1, h2, h3, h4⟩ := trod_array4 Tryd.underlying22 cellsInt1 g1
  obtain ⟨op, k0, _, _⟩ := DataW.trod_int Tryd.underlying3 g0
  obtain ⟨a, k1, _, _⟩ := DataW.trod_int Tryd.underlying3 h1
  obtain ⟨b, k2, _, _⟩ := DataW.trod_int Tryd.underlying3 h2
  obtain ⟨c, k3, _, _⟩ := DataW.trod_int Tryd.underlying3 h3
  obtain ⟨d, k4, _, _⟩ := DataW.trod_int Tryd.underlying3 h4
  simp only [List.cons.injEq, and_true] at k0 k1 k2 k3 k4
  subst k0 k1 k2 k3 k4
  exact ⟨op, a, b, c, d, rfl⟩

end Go.Proofs.YtgkldglknkeedaaDoor
