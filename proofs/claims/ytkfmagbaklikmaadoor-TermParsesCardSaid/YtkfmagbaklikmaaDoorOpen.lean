/-
  An argument that is a term: what its reading gives.
-/
import Derived.Test.YtkfmagbaklikmaaDoorTermB
import Derived.OpenShut
import Derived.Deep.Slices
import Derived.Deep.Fields
import Derived.Carry
import Derived.WideShapes
namespace Go.Proofs.YtkfmagbaklikmaaDoor
open Go.ChangeShapes Go.WideShapes Go.ChangeAt Go.RowKit Go.Deep
set_option linter.unusedVariables false
set_option linter.unusedSimpArgs false

instance : Inhabited Tm := ⟨.node 0 0 ⟨#[]⟩ []⟩

theorem termUnder : ∃ fs, Tryd.prog.underlying 24 = some (.struct fs) ∧ oneCellFields Tryd.prog fs = true ∧ fs.size = 4 ∧ (fs[0]?).map (·.type) = some 3 ∧ (fs[1]?).map (·.type) = some 3 ∧ (fs[2]?).map (·.type) = some 9 ∧ (fs[3]?).map (·.type) = some 22 :=
  ⟨_, Tryd.underlying24, by kernel_rfl, by kernel_rfl, by kernel_rfl, by kernel_rfl, by kernel_rfl, by kernel_rfl⟩
theorem termCells : Tryd.prog.cellsOf 24 = 4 := by kernel_rfl

theorem add_spot (a : Addr) (n j : Nat) {w : World} {v : Value} (h : w.cell? ((a.add n).add j) = some v) (ha : a.spot = none) : w.cell? ⟨a.block, a.off + n + j, none⟩ = some v := by
  have e : (a.add n).add j = ⟨a.block, a.off + n + j, none⟩ := by
    obtain ⟨b, o, s⟩ := a
    simp only at ha
    subst ha
    unfold Addr.add
    split <;> split <;> simp_all
  rw [← e]
  exact h
theorem spot_none {a : Addr} {W : World} {v : Value} (h : W.cell? (a.add 0) = some v) : a.spot = none := by
  cases hsp : a.spot with
  | none => rfl
  | some s =>
    exfalso
    have e : a.add 0 = a := by simp [Addr.add]
    rw [e] at h
    unfold World.cell? at h
    rw [hsp] at h
    split at h <;> simp at h

set_option maxRecDepth 100000 in
theorem tree_in {H : Type} {enc : TypeId × Value → H} {W : World} : ∀ (fuel : Nat) (cs : List Value) (x : DataW H × List MemPlace),
    DataW.trod enc Tryd.prog W 0 (fun _ => true) true fuel 24 cs = some x → ∃ t c0 c1 c2 c3, cs = [c0, c1, c2, c3] ∧ Reads W (fun b => b < W.heap.size) fuel t (.agg #[c0, c1, c2, c3]) := by
  intro fuel
  induction fuel using Nat.strongRecOn with
  | _ fuel ih =>
    intro cs x ht
    obtain ⟨fs, hfs, hone, hsz, t0, t1, t2, t3⟩ := termUnder
    obtain ⟨ys, n, rfl, _, hcl, hyl, hf⟩ := DataW.trod_struct hfs ht
    rw [termCells] at hcl
    have field : ∀ j, j < 4 → ∃ (f : Field) (v : Value), fs[j]? = some f ∧ cs[j]? = some v ∧ DataW.trod enc Tryd.prog W 0 (fun _ => true) true n f.type [v] = ys[j]? ∧ ∃ y, ys[j]? = some y := fun j hj => by
      have hjl : j < fs.size := by omega
      have hfj : fs[j]? = some (fs[j]'hjl) := Array.getElem?_eq_getElem hjl
      obtain ⟨ho, hk⟩ := hone_of hone j _ hfj
      have hv : cs[j]? = some (cs[j]'(by omega)) := List.getElem?_eq_getElem (by omega)
      have h1 := hf j _ hfj
      rw [ho, hk] at h1
      have h2 : (cs.drop j).take 1 = [cs[j]'(by omega)] := by
        rw [List.drop_eq_getElem_cons (by omega)]
        rfl
      rw [h2] at h1
      exact ⟨_, _, hfj, hv, h1, _, List.getElem?_eq_getElem (by omega)⟩
    obtain ⟨f0, v0, e0, c0, d0, y0, z0⟩ := field 0 (by omega)
    obtain ⟨f1, v1, e1, c1, d1, y1, z1⟩ := field 1 (by omega)
    obtain ⟨f2, v2, e2, c2, d2, y2, z2⟩ := field 2 (by omega)
    obtain ⟨f3, v3, e3, c3, d3, y3, z3⟩ := field 3 (by omega)
    simp only [e0, e1, e2, e3, Option.map_some, Option.some.injEq] at t0 t1 t2 t3
    rw [t0, z0] at d0
    rw [t1, z1] at d1
    rw [t2, z2] at d2
    rw [t3, z3] at d3
    obtain ⟨k, hk, _, hwk⟩ := DataW.trod_int Tryd.underlying3 d0
    obtain ⟨m, hm, _, hwm⟩ := DataW.trod_int Tryd.underlying3 d1
    obtain ⟨s, hs, _, hss⟩ := DataW.trod_string Tryd.underlying9 d2
    simp only [List.cons.injEq, and_true] at hk hm hs
    subst hk hm hs
    have hcs : cs = [.int .i64 k, .int .i64 m, .string s, v3] := by
      match cs, hcl with
      | [a, b, c, d], _ =>
        simp at c0 c1 c2 c3
        subst c0 c1 c2 c3
        rfl
    rcases DataW.trod_slice Tryd.underlying22 d3 with ⟨hv, _⟩ | ⟨a, len, cap, elems, rest, n', rfl, hv, _, hb, hl, hmx, hlen, hel, _, _⟩
    · simp only [List.cons.injEq, and_true] at hv
      subst hv
      exact ⟨.node k m s [], _, _, _, _, hcs, none, 0, rfl, Nat.le_refl _, by unfold maxLen; omega, hss, hwk, hwm, fun i hi => by simp at hi⟩
    · simp only [List.cons.injEq, and_true] at hv
      subst hv
      have hall : ∀ i, i < len → ∃ t : Tm, ∃ w0 w1 w2 w3, a.spot = none ∧ a.block < W.heap.size ∧ W.cell? ⟨a.block, a.off + i * 4, none⟩ = some w0 ∧ W.cell? ⟨a.block, a.off + i * 4 + 1, none⟩ = some w1 ∧
          W.cell? ⟨a.block, a.off + i * 4 + 2, none⟩ = some w2 ∧ W.cell? ⟨a.block, a.off + i * 4 + 3, none⟩ = some w3 ∧ Reads W (fun b => b < W.heap.size) n' t (.agg #[w0, w1, w2, w3]) := by
        intro i hi
        have h0 := hel 0 (by omega)
        have h1 := hel i hi
        rw [termCells] at h0 h1
        rw [List.getElem?_eq_getElem (show 0 < elems.length by omega)] at h0
        rw [List.getElem?_eq_getElem (show i < elems.length by omega)] at h1
        obtain ⟨cs0, hc0, _⟩ := Option.bind_eq_some_iff.1 h0
        obtain ⟨cs1, hc1, ht1⟩ := Option.bind_eq_some_iff.1 h1
        obtain ⟨_, hl0, hat0⟩ := World.cells?_some hc0
        obtain ⟨_, hl1, hat1⟩ := World.cells?_some hc1
        have hs0 : a.spot = none := by
          have := hat0 0 (by omega)
          rw [List.getElem?_eq_getElem (by omega)] at this
          have e : (a.add (0 * 4)).add 0 = a.add 0 := by simp [Addr.add]
          rw [e] at this
          exact spot_none this
        obtain ⟨t, w0, w1, w2, w3, rfl, hr⟩ := ih n' (by omega) cs1 _ ht1
        have g0 := hat1 0 (by omega)
        have g1 := hat1 1 (by omega)
        have g2 := hat1 2 (by omega)
        have g3 := hat1 3 (by omega)
        simp only [List.getElem?_cons_zero, List.getElem?_cons_succ] at g0 g1 g2 g3
        have hblt := World.block_lt_of_cell? W _ g0
        have hblk : ((a.add (i * 4)).add 0).block = a.block := by unfold Addr.add; split <;> split <;> rfl
        rw [hblk] at hblt
        exact ⟨t, w0, w1, w2, w3, hs0, hblt, by simpa using add_spot a (i * 4) 0 g0 hs0, add_spot a (i * 4) 1 g1 hs0, add_spot a (i * 4) 2 g2 hs0, add_spot a (i * 4) 3 g3 hs0, hr⟩
      obtain ⟨T, hT⟩ := choose_lt hall
      have hll : ((List.range len).map T).length = len := by simp
      refine ⟨.node k m s ((List.range len).map T), _, _, _, _, hcs, some a, cap, by rw [hll], by rw [hll]; exact hl, hmx, hss, hwk, hwm, fun i hi => ?_⟩
      have hi' : i < len := by omega
      obtain ⟨w0, w1, w2, w3, hs0, hbl, g0, g1, g2, g3, hr⟩ := hT i hi'
      refine ⟨a.block, a.off, w0, w1, w2, w3, ?_, hbl, g0, g1, g2, g3, ?_⟩
      · obtain ⟨b, o, sp⟩ := a
        simp only at hs0
        subst hs0
        rfl
      · have e : ((List.range len).map T)[i] = T i := by simp
        rw [e]
        exact hr.fuel (by omega)
end Go.Proofs.YtkfmagbaklikmaaDoor
