/-
  3 texts in one (AOpen IntMap CodeQ). Conditions: those of each theorem.
-/
import Derived.Test.YtclkdlegogjnbaaGreatDoorCards
import Derived.Test.YtclkdlegogjnbaaGreatDoorTie
import Derived.Test.YtclkdlegogjnbaaGreatDoorChecked
import Derived.Test.YtclkdlegogjnbaaGreatDoorQ11
import Derived.OpenShut
import Derived.Deep.Slices
import Derived.Deep.Fields
import Derived.Carry
import Derived.WideShapes
import Derived.Laws.IdiomArrays
import Derived.Lib.LaidTab
import Derived.LaidSub
import Derived.LaidLaws
import Derived.MakeChecks
import Derived.LaidMore
import Derived.Deep.DeepHandedRow
import Derived.Test.YtclkdlegogjnbaaGreatDoorQ01
import Derived.Test.YtclkdlegogjnbaaGreatDoorProg
import Derived.Maps.OwnSet
import Derived.Maps.OwnOps
import Derived.Lib.Hide
import Derived.Test.YtclkdlegogjnbaaGreatDoorQ08
import Derived.Test.YtclkdlegogjnbaaGreatDoorQ02
import Derived.IntWalk
import Derived.Deep.QuietTactic
import Derived.BigQuiet
import Derived.Lib.ItoaLen
import Derived.Laws.Concat
import Derived.Test.YtclkdlegogjnbaaGreatDoorQ07
namespace Go.Proofs.YtclkdlegogjnbaaGreatDoor
open Go.ChangeShapes Go.WideShapes Go.ChangeAt Go.RowKit Go.Deep
set_option linter.unusedVariables false
set_option linter.unusedSimpArgs false

instance : Inhabited Ins := ⟨(0, 0, 0, 0, 0)⟩

theorem add_spot8 (a : Addr) (n j : Nat) {w : World} {v : Value} (h : w.cell? ((a.add n).add j) = some v) (ha : a.spot = none) : w.cell? ⟨a.block, a.off + n + j, none⟩ = some v := by
  have e : (a.add n).add j = ⟨a.block, a.off + n + j, none⟩ := by
    obtain ⟨b, o, s⟩ := a
    simp only at ha
    subst ha
    unfold Addr.add
    split <;> split <;> simp_all
  rw [← e]
  exact h
theorem spot_none8 {a : Addr} {W : World} {v : Value} (h : W.cell? (a.add 0) = some v) : a.spot = none := by
  cases hsp : a.spot with
  | none => rfl
  | some s =>
    exfalso
    have e : a.add 0 = a := by simp [Addr.add]
    rw [e] at h
    unfold World.cell? at h
    rw [hsp] at h
    split at h <;> simp at h

theorem flat_len8 {α β : Type} (f : α → List β) (m : Nat) (hf : ∀ a, (f a).length = m) : ∀ l : List α, (l.flatMap f).length = l.length * m
  | [] => by simp
  | a :: l => by rw [List.flatMap_cons, List.length_append, hf, flat_len8 f m hf l, List.length_cons, Nat.succ_mul, Nat.add_comm]
theorem flat_one8 {α β : Type} (f : α → β) : ∀ l : List α, l.flatMap (fun a => [f a]) = l.map f
  | [] => rfl
  | a :: l => by rw [List.flatMap_cons, flat_one8 f l]; rfl

section
variable {H : Type} {enc : TypeId × Value → H} {W : World}

/-- A struct whose fields are of one cell each, field by field. -/
theorem one_fields {fuel : Nat} {t : TypeId} {fs : Array Field} {cs : List Value} {x : DataW H × List MemPlace} (hfs : Tryz.prog.underlying t = some (.struct fs)) (hone : oneCellFields Tryz.prog fs = true) (hc : Tryz.prog.cellsOf t = fs.size)
    (h : DataW.trod enc Tryz.prog W 0 (fun _ => true) true fuel t cs = some x) : cs.length = fs.size ∧ ∃ n, ∀ (j : Nat) (f : Field), fs[j]? = some f → ∃ v y, cs[j]? = some v ∧ DataW.trod enc Tryz.prog W 0 (fun _ => true) true n f.type [v] = some y := by
  obtain ⟨ys, n, rfl, _, hcl, hyl, hf⟩ := DataW.trod_struct hfs h
  rw [hc] at hcl
  refine ⟨hcl, n, fun j f hfj => ?_⟩
  have hj : j < fs.size := (Array.getElem?_eq_some_iff.1 hfj).1
  obtain ⟨ho, hk⟩ := hone_of hone j _ hfj
  have hv : cs[j]? = some (cs[j]'(by omega)) := List.getElem?_eq_getElem (by omega)
  have h1 := hf j _ hfj
  rw [ho, hk] at h1
  have h2 : (cs.drop j).take 1 = [cs[j]'(by omega)] := by
    rw [List.drop_eq_getElem_cons (by omega)]
    rfl
  rw [h2] at h1
  exact ⟨_, ys[j]'(by omega), hv, by rw [h1]; exact List.getElem?_eq_getElem (by omega)⟩

set_option maxRecDepth 100000 in
/-- A slice, element by element. -/
theorem rows_in {α : Type} [Inhabited α] (f : α → List Value) (m : Nat) (hf : ∀ a, (f a).length = m) (hm : 0 < m) (Q : α → Prop) {fuel : Nat} {t e : TypeId} {v : Value} {x : DataW H × List MemPlace} (ht : Tryz.prog.underlying t = some (.slice e)) (hc : Tryz.prog.cellsOf e = m)
    (hel : ∀ n cs' y, DataW.trod enc Tryz.prog W 0 (fun _ => true) true n e cs' = some y → ∃ a, cs' = f a ∧ Q a)
    (h : DataW.trod enc Tryz.prog W 0 (fun _ => true) true fuel t [v] = some x) :
    ∃ l : List α, CellsAt W v l.length (l.flatMap f) ∧ (∀ a ∈ l, Q a) ∧ (∀ k c, v = .slice none k c → c = 0) ∧ l.length ≤ 9223372036854775807 := by
  rcases open_slice ht h with ⟨hv, _⟩ | ⟨a, len, cap, m', n, D, Pl, hv, hb, hl, hmx, hmm, _, hx⟩
  · simp only [List.cons.injEq, and_true] at hv
    subst hv
    exact ⟨[], .inl ⟨rfl, rfl, _, _, rfl⟩, by simp, fun k c h => by injection h with _ _ h3; exact h3.symm, by simp⟩
  · simp only [List.cons.injEq, and_true] at hv
    subst hv
    have hlm : len ≤ m' := by rw [hmm]; split <;> omega
    have each : ∀ i, i < len → ∃ z : α, W.cells? 0 (a.add (i * m)) m = some (f z) ∧ Q z := fun i hi => by
      obtain ⟨cs', h1, h2⟩ := hx i (by omega)
      rw [hc] at h1
      obtain ⟨z, rfl, hq⟩ := hel _ _ _ h2
      exact ⟨z, h1, hq⟩
    obtain ⟨T, hT⟩ := choose_lt each
    have hll : ((List.range len).map T).length = len := by simp
    refine ⟨(List.range len).map T, ?_, ?_, fun k c h => (by injection h with h1; cases h1), by rw [hll]; unfold maxLen at hmx; omega⟩
    · by_cases h0 : len = 0
      · subst h0
        exact .inl ⟨rfl, rfl, _, _, rfl⟩
      · obtain ⟨_, _, hat0⟩ := World.cells?_some (hT 0 (by omega)).1
        have hs0 : a.spot = none := by
          have := hat0 0 (by omega)
          rw [List.getElem?_eq_getElem (by rw [hf]; omega)] at this
          have e : (a.add (0 * m)).add 0 = a.add 0 := by simp [Addr.add]
          rw [e] at this
          exact spot_none8 this
        have hcell : ∀ i, i < len → ∀ j, j < m → ∃ u, (f (T i))[j]? = some u ∧ W.cell? ⟨a.block, a.off + i * m + j, none⟩ = some u := fun i hi j hj => by
          obtain ⟨_, _, hat⟩ := World.cells?_some (hT i hi).1
          have := hat j (by omega)
          rw [List.getElem?_eq_getElem (by rw [hf]; omega)] at this
          exact ⟨_, List.getElem?_eq_getElem (by rw [hf]; omega), add_spot8 a (i * m) j this hs0⟩
        refine .inr ⟨a.block, a.off, cap, ?_, ?_, fun k u hk => ?_⟩
        · rw [hll]
          obtain ⟨b, o, sp⟩ := a
          simp only at hs0
          subst hs0
          rfl
        · obtain ⟨u, _, hu⟩ := hcell 0 (by omega) 0 hm
          have := World.block_lt_of_cell? W _ hu
          exact this
        · have hkl := (List.getElem?_eq_some_iff.1 hk).1
          have hlen : (((List.range len).map T).flatMap f).length = len * m := by rw [flat_len8 f m hf, hll]
          rw [hlen] at hkl
          have hdm : k / m * m + k % m = k := by rw [Nat.mul_comm]; exact Nat.div_add_mod k m
          have hi : k / m < len := by
            rw [Nat.div_lt_iff_lt_mul hm]
            exact hkl
          have hj : k % m < m := Nat.mod_lt _ hm
          obtain ⟨u2, hu1, hu2⟩ := hcell (k / m) hi (k % m) hj
          have hfa := flat_at f m hf ((List.range len).map T) (k / m) (T (k / m)) (by simp [hi]) (k % m) hj
          rw [hdm, hk, hu1] at hfa
          have e : u = u2 := by simpa using hfa
          rw [e, ← hu2]
          congr 2
          omega
    · intro z hz
      obtain ⟨i, hi, rfl⟩ := List.mem_map.1 hz
      exact (hT i (List.mem_range.1 hi)).2

theorem funUnder : ∃ fs, Tryz.prog.underlying 81 = some (.struct fs) ∧ oneCellFields Tryz.prog fs = true ∧ fs.size = 2 ∧ (fs[0]?).map (·.type) = some 9 ∧ (fs[1]?).map (·.type) = some 3 :=
  ⟨_, Tryz.underlying81, by kernel_rfl, by kernel_rfl, by kernel_rfl, by kernel_rfl⟩
theorem cellsFun : Tryz.prog.cellsOf 81 = 2 := by kernel_rfl
theorem predUnder : ∃ fs, Tryz.prog.underlying 62 = some (.struct fs) ∧ oneCellFields Tryz.prog fs = true ∧ fs.size = 3 ∧ (fs[0]?).map (·.type) = some 9 ∧ (fs[1]?).map (·.type) = some 3 ∧ (fs[2]?).map (·.type) = some 3 :=
  ⟨_, Tryz.underlying62, by kernel_rfl, by kernel_rfl, by kernel_rfl, by kernel_rfl, by kernel_rfl⟩
theorem cellsPred : Tryz.prog.cellsOf 62 = 3 := by kernel_rfl
theorem obUnder : ∃ fs, Tryz.prog.underlying 29 = some (.struct fs) ∧ oneCellFields Tryz.prog fs = true ∧ fs.size = 4 ∧ (fs[0]?).map (·.type) = some 24 ∧ (fs[1]?).map (·.type) = some 25 ∧ (fs[2]?).map (·.type) = some 26 ∧ (fs[3]?).map (·.type) = some 27 :=
  ⟨_, Tryz.underlying29, by kernel_rfl, by kernel_rfl, by kernel_rfl, by kernel_rfl, by kernel_rfl, by kernel_rfl⟩
theorem cellsOb : Tryz.prog.cellsOf 29 = 4 := by kernel_rfl
theorem cellsStr8 : Tryz.prog.cellsOf 9 = 1 := by kernel_rfl
theorem insUnder8 : ∃ fs, Tryz.prog.underlying 51 = some (.struct fs) ∧ fs.size = 2 ∧ (fs[0]?).map (fun f => (f.type, f.offset)) = some (3, 0) ∧ (fs[1]?).map (fun f => (f.type, f.offset)) = some (49, 1) :=
  ⟨_, Tryz.underlying51, by kernel_rfl, by kernel_rfl, by kernel_rfl⟩
theorem cellsIns8 : Tryz.prog.cellsOf 51 = 5 := by kernel_rfl
theorem cellsFour8 : Tryz.prog.cellsOf 49 = 4 := by kernel_rfl
theorem cellsInt8 : Tryz.prog.cellsOf 3 = 1 := by kernel_rfl

theorem five_of8 {l : List Value} (h : l.length = 5) : ∃ a b c d e, l = [a, b, c, d, e] := by
  match l, h with
  | [a, b, c, d, e], _ => exact ⟨a, b, c, d, e, rfl⟩

set_option maxRecDepth 100000 in
theorem ins_in8 {fuel : Nat} {cs : List Value} {x : DataW H × List MemPlace} (h : DataW.trod enc Tryz.prog W 0 (fun _ => true) true fuel 51 cs = some x) : ∃ i : Ins, cs = insC i ∧ True := by
  obtain ⟨fs, hfs, hsz, t0, t1⟩ := insUnder8
  obtain ⟨xs, n, rfl, _, hcl, hxl, hf⟩ := DataW.trod_struct hfs h
  rw [cellsIns8] at hcl
  obtain ⟨c0, c1, c2, c3, c4, rfl⟩ := five_of8 hcl
  have hx0 : ∃ y, xs[0]? = some y := ⟨_, List.getElem?_eq_getElem (by omega)⟩
  have hx1 : ∃ y, xs[1]? = some y := ⟨_, List.getElem?_eq_getElem (by omega)⟩
  obtain ⟨y0, hy0⟩ := hx0
  obtain ⟨y1, hy1⟩ := hx1
  obtain ⟨f0, hf0, e0⟩ := Option.map_eq_some_iff.1 t0
  obtain ⟨f1, hf1, e1⟩ := Option.map_eq_some_iff.1 t1
  have g0 := hf 0 f0 hf0
  have g1 := hf 1 f1 hf1
  simp only [Prod.mk.injEq] at e0 e1
  rw [e0.1, e0.2, hy0, cellsInt8] at g0
  rw [e1.1, e1.2, hy1, cellsFour8] at g1
  simp only [List.drop_zero, List.take_succ_cons, List.take_zero, List.drop_succ_cons] at g0 g1
  obtain ⟨z1, z2, z3, z4, m, _, h1, h2, h3, h4⟩ := trod_array4 Tryz.underlying49 cellsInt8 g1
  obtain ⟨op, k0, _, _⟩ := DataW.trod_int Tryz.underlying3 g0
  obtain ⟨a, k1, _, _⟩ := DataW.trod_int Tryz.underlying3 h1
  obtain ⟨b, k2, _, _⟩ := DataW.trod_int Tryz.underlying3 h2
  obtain ⟨c, k3, _, _⟩ := DataW.trod_int Tryz.underlying3 h3
  obtain ⟨d, k4, _, _⟩ := DataW.trod_int Tryz.underlying3 h4
  simp only [List.cons.injEq, and_true] at k0 k1 k2 k3 k4
  subst k0 k1 k2 k3 k4
  exact ⟨(op, a, b, c, d), rfl, trivial⟩

theorem str_in {fuel : Nat} {cs : List Value} {x : DataW H × List MemPlace} (h : DataW.trod enc Tryz.prog W 0 (fun _ => true) true fuel 9 cs = some x) : ∃ s : ByteArray, cs = [.string s] ∧ s.size ≤ maxLen := by
  obtain ⟨s, hs, _, hss⟩ := DataW.trod_string Tryz.underlying9 h
  exact ⟨s, hs, hss⟩

theorem fun_in {fuel : Nat} {cs : List Value} {x : DataW H × List MemPlace} (h : DataW.trod enc Tryz.prog W 0 (fun _ => true) true fuel 81 cs = some x) : ∃ f : ByteArray × Int, cs = funC f ∧ f.1.size ≤ maxLen := by
  obtain ⟨fs, hfs, hone, hsz, t0, t1⟩ := funUnder
  obtain ⟨hl, n, hf⟩ := one_fields hfs hone (by rw [cellsFun, hsz]) h
  rw [hsz] at hl
  obtain ⟨f0, hf0, e0⟩ := Option.map_eq_some_iff.1 t0
  obtain ⟨f1, hf1, e1⟩ := Option.map_eq_some_iff.1 t1
  obtain ⟨v0, y0, c0, d0⟩ := hf 0 f0 hf0
  obtain ⟨v1, y1, c1, d1⟩ := hf 1 f1 hf1
  rw [e0] at d0
  rw [e1] at d1
  obtain ⟨s, hs, _, hss⟩ := DataW.trod_string Tryz.underlying9 d0
  obtain ⟨k, hk, _, _⟩ := DataW.trod_int Tryz.underlying3 d1
  simp only [List.cons.injEq, and_true] at hs hk
  subst hs hk
  match cs, hl with
  | [a, b], _ =>
    simp at c0 c1
    subst c0 c1
    exact ⟨(s, k), rfl, hss⟩

theorem pred_in {fuel : Nat} {cs : List Value} {x : DataW H × List MemPlace} (h : DataW.trod enc Tryz.prog W 0 (fun _ => true) true fuel 62 cs = some x) : ∃ p : ByteArray × Int × Int, cs = predC p ∧ p.1.size ≤ maxLen := by
  obtain ⟨fs, hfs, hone, hsz, t0, t1, t2⟩ := predUnder
  obtain ⟨hl, n, hf⟩ := one_fields hfs hone (by rw [cellsPred, hsz]) h
  rw [hsz] at hl
  obtain ⟨f0, hf0, e0⟩ := Option.map_eq_some_iff.1 t0
  obtain ⟨f1, hf1, e1⟩ := Option.map_eq_some_iff.1 t1
  obtain ⟨f2, hf2, e2⟩ := Option.map_eq_some_iff.1 t2
  obtain ⟨v0, y0, c0, d0⟩ := hf 0 f0 hf0
  obtain ⟨v1, y1, c1, d1⟩ := hf 1 f1 hf1
  obtain ⟨v2, y2, c2, d2⟩ := hf 2 f2 hf2
  rw [e0] at d0
  rw [e1] at d1
  rw [e2] at d2
  obtain ⟨s, hs, _, hss⟩ := DataW.trod_string Tryz.underlying9 d0
  obtain ⟨k, hk, _, _⟩ := DataW.trod_int Tryz.underlying3 d1
  obtain ⟨m, hm, _, _⟩ := DataW.trod_int Tryz.underlying3 d2
  simp only [List.cons.injEq, and_true] at hs hk hm
  subst hs hk hm
  match cs, hl with
  | [a, b, c], _ =>
    simp at c0 c1 c2
    subst c0 c1 c2
    exact ⟨(s, k, m), rfl, hss⟩

/-- An object that came in. -/
theorem ob_in {fuel : Nat} {cs : List Value} {x : DataW H × List MemPlace} (h : DataW.trod enc Tryz.prog W 0 (fun _ => true) true fuel 29 cs = some x) :
    ∃ (o : Ob) (va vf vp vc : Value), cs = [va, vf, vp, vc] ∧ ObAt W va vf vp vc o ∧ (∀ s ∈ o.atoms, s.size ≤ maxLen) ∧ (∀ f ∈ o.funs, f.1.size ≤ maxLen) ∧ (∀ p ∈ o.preds, p.1.size ≤ maxLen) ∧ (∀ k c, va = .slice none k c → c = 0) ∧ (∀ k c, vp = .slice none k c → c = 0) ∧ (o.atoms.length ≤ 9223372036854775807 ∧ o.funs.length ≤ 9223372036854775807 ∧ o.preds.length ≤ 9223372036854775807 ∧ o.code.length ≤ 9223372036854775807) := by
  obtain ⟨fs, hfs, hone, hsz, t0, t1, t2, t3⟩ := obUnder
  obtain ⟨hl, n, hf⟩ := one_fields hfs hone (by rw [cellsOb, hsz]) h
  rw [hsz] at hl
  obtain ⟨f0, hf0, e0⟩ := Option.map_eq_some_iff.1 t0
  obtain ⟨f1, hf1, e1⟩ := Option.map_eq_some_iff.1 t1
  obtain ⟨f2, hf2, e2⟩ := Option.map_eq_some_iff.1 t2
  obtain ⟨f3, hf3, e3⟩ := Option.map_eq_some_iff.1 t3
  obtain ⟨v0, y0, c0, d0⟩ := hf 0 f0 hf0
  obtain ⟨v1, y1, c1, d1⟩ := hf 1 f1 hf1
  obtain ⟨v2, y2, c2, d2⟩ := hf 2 f2 hf2
  obtain ⟨v3, y3, c3, d3⟩ := hf 3 f3 hf3
  rw [e0] at d0
  rw [e1] at d1
  rw [e2] at d2
  rw [e3] at d3
  obtain ⟨la, ha, qa, na, ka⟩ := rows_in (fun s : ByteArray => [Value.string s]) 1 (fun _ => rfl) (by omega) (fun s => s.size ≤ maxLen) Tryz.underlying24 cellsStr8 (fun n cs' y h => str_in h) d0
  obtain ⟨lf, hf', qf, _, kf⟩ := rows_in funC 2 (fun _ => rfl) (by omega) (fun f => f.1.size ≤ maxLen) Tryz.underlying25 cellsFun (fun n cs' y h => fun_in h) d1
  obtain ⟨lp, hp, qp, np, kp⟩ := rows_in predC 3 (fun _ => rfl) (by omega) (fun p => p.1.size ≤ maxLen) Tryz.underlying26 cellsPred (fun n cs' y h => pred_in h) d2
  obtain ⟨lc, hc, _, _, kc⟩ := rows_in insC 5 (fun _ => rfl) (by omega) (fun _ => True) Tryz.underlying27 cellsIns8 (fun n cs' y h => ins_in8 h) d3
  have ha' : AtomsAt W v0 la := by
    unfold AtomsAt
    rw [← flat_one8]
    exact ha
  match cs, hl with
  | [a, b, c, d], _ =>
    simp at c0 c1 c2 c3
    subst c0 c1 c2 c3
    exact ⟨⟨la, lf, lp, lc⟩, _, _, _, _, rfl, ⟨ha', hf', hp, hc⟩, qa, qf, qp, na, np, ka, kf, kp, kc⟩
end

end Go.Proofs.YtclkdlegogjnbaaGreatDoor

namespace Go.Proofs.YtclkdlegogjnbaaGreatDoor
open Go Go.RowKit Go.WideShapes Go.ChangeShapes Go.Maps
set_option linter.unusedVariables false
set_option linter.unusedSimpArgs false

theorem imInt : Tryz.prog.underlying 3 = some (.int .i64) := by kernel_rfl
theorem imMap : Tryz.prog.underlying 99 = some (.map 3 3) := by kernel_rfl
theorem imZero (w : World) : (zeroValue 3).run Tryz.prog w = .ok (.int .i64 0) w := by kernel_rfl

/-- The map in block M reads as f; it has n entries at most. -/
def IMap (w : World) (M n : Nat) (f : Int → Option Int) : Prop :=
  ∃ D : DataW Unit, w.ownsMap Tryz.prog 3 (plainElem Tryz.prog 3) M n D ∧ IsMap D ∧ ∀ k z, D.atKey (.int .i64 k) z = match f k with | none => z | some v => .lit (.int .i64 v)
theorem IMap.lt {w : World} {M n : Nat} {f : Int → Option Int} (h : IMap w M n f) : M < w.heap.size := by
  obtain ⟨D, h1, _⟩ := h
  exact h1.lt
theorem IMap.new (w : World) : IMap (w.alloc (.map #[] 0)) w.heap.size 0 (fun _ => none) :=
  ⟨_, World.ownsMap_made w _ _ _, isMap_empty, fun k z => rfl⟩
theorem IMap.fr {S : Nat → Prop} {w w' : World} {M n : Nat} {f : Int → Option Int} (h : IMap w M n f) (hf : Fr S w w') (hM : ¬ S M) : IMap w' M n f := by
  obtain ⟨D, ⟨es, cl, hm, F1, F2, F3⟩, h2, h3⟩ := h
  exact ⟨D, ⟨es, cl, (hf.block M (Array.getElem?_eq_some_iff.1 hm).1 hM).trans hm, F1, F2, F3⟩, h2, h3⟩
theorem IMap.below {w w' : World} {M n : Nat} {f : Int → Option Int} (h : IMap w M n f) (hb : Below w.heap.size w w') : IMap w' M n f := h.fr (S := fun _ => False) (Fr.of_below hb) (fun x => x)
/-- A map's block is no row of cells. -/
theorem IMap.ne_box {w : World} {M n : Nat} {f : Int → Option Int} (h : IMap w M n f) {g : Nat} {t : TypeId} {cs : Array Value} (hb : Box w g t cs) : M ≠ g := by
  rintro rfl
  obtain ⟨D, ⟨es, cl, hm, _⟩, _⟩ := h
  unfold Box at hb
  rw [hb] at hm
  simp at hm
theorem IMap.ne_own {w : World} {M n : Nat} {f : Int → Option Int} (h : IMap w M n f) {base : Nat} {e : TypeId} {size m : Nat} {v : Value} {xs : List Value} (ho : w.ownsRow base e size v m xs) : ∀ k, v.ownBlock = some k → k ≠ M := by
  rintro k hk rfl
  obtain ⟨D, ⟨es, cl, hm, _⟩, _⟩ := h
  rcases ho.2 with ⟨rfl, _⟩ | ⟨g, cap, cur, rfl, _, hh, _⟩
  · simp [Value.ownBlock] at hk
  · have : g = k := by simpa [Value.ownBlock] using hk
    subst this
    rw [hh] at hm
    simp at hm
/-- What a lookup with 'ok' answers. -/
theorem IMap.look2 {w : World} {M n : Nat} {f : Int → Option Int} (h : IMap w M n f) (k : Int) (hk : (Lit.int .i64 k).wf = true) :
    (Instr.lookup 99 (.map (some M)) (.int .i64 k) true).run Tryz.prog w = .ok (.tuple #[.int .i64 ((f k).getD 0), .bool (f k).isSome]) w := by
  obtain ⟨D, ⟨es, cl, hm, F, _, rfl⟩, _, h3⟩ := h
  rcases Maps.fit_look true (int_keyed imInt) imMap (imZero w) hm F (keyOf_int_mk imInt hk) with ⟨hrun, _, hat⟩ | ⟨e0, y, _, _, hrun, hR, hat, _⟩
  · have hf : f k = none := by
      cases hf : f k with
      | none => rfl
      | some v =>
        have := (hat .nil).symm.trans (h3 k .nil)
        rw [hf] at this
        cases this
    rw [hrun, hf]
    rfl
  · have hy := plainElem_int_inv imInt hR
    obtain ⟨a, ha, rfl, _⟩ := hy
    have hf : f k = some a := by
      have h1 := (hat .nil).symm.trans (h3 k .nil)
      cases hf : f k with
      | none => rw [hf] at h1; cases h1
      | some v =>
        rw [hf] at h1
        have h2 : a = v := by simpa using h1
        rw [h2]
    rw [hrun, ha, hf]
    rfl
/-- What a lookup answers. -/
theorem IMap.look {w : World} {M n : Nat} {f : Int → Option Int} (h : IMap w M n f) (k : Int) (hk : (Lit.int .i64 k).wf = true) :
    (Instr.lookup 99 (.map (some M)) (.int .i64 k) false).run Tryz.prog w = .ok (.int .i64 ((f k).getD 0)) w := by
  obtain ⟨D, ⟨es, cl, hm, F, _, rfl⟩, _, h3⟩ := h
  rcases Maps.fit_look false (int_keyed imInt) imMap (imZero w) hm F (keyOf_int_mk imInt hk) with ⟨hrun, _, hat⟩ | ⟨e0, y, _, _, hrun, hR, hat, _⟩
  · have hf : f k = none := by
      cases hf : f k with
      | none => rfl
      | some v =>
        have := (hat .nil).symm.trans (h3 k .nil)
        rw [hf] at this
        cases this
    rw [hrun, hf]
    rfl
  · have hy := plainElem_int_inv imInt hR
    obtain ⟨a, ha, rfl, _⟩ := hy
    have hf : f k = some a := by
      have h1 := (hat .nil).symm.trans (h3 k .nil)
      cases hf : f k with
      | none => rw [hf] at h1; cases h1
      | some v =>
        rw [hf] at h1
        have h2 : a = v := by simpa using h1
        rw [h2]
    rw [hrun, ha, hf]
    rfl
/-- A store. -/
theorem IMap.store {w : World} {M n : Nat} {f : Int → Option Int} (h : IMap w M n f) (k v : Int) (hk : (Lit.int .i64 k).wf = true) (hv : (Lit.int .i64 v).wf = true) (hn : n < maxLen) :
    ∃ w', (Instr.mapUpdate 99 (.map (some M)) (.int .i64 k) (.int .i64 v)).run Tryz.prog w = .ok () w' ∧ IMap w' M (n + 1) (fun j => if j = k then some v else f j) ∧ Fr (fun b => b = M) w w' := by
  obtain ⟨D, h1, h2, h3⟩ := h
  obtain ⟨w', hrun, r1, r2⟩ := h1.update (int_keyed imInt) imMap hn (keyOf_int_mk imInt hk) (plainElem_int imInt hv)
  refine ⟨w', hrun, ⟨_, r1, h2.put _ _, fun j z => ?_⟩, Fr.of_grown r2 (fun _ _ e => (Option.some.inj e).symm)⟩
  by_cases hj : j = k
  · subst hj
    rw [atKey_put_same h2 (show WideAt.IsKeyLit (Lit.int .i64 j) from trivial)]
    simp
  · rw [atKey_put_other (by intro e; injection e with _ e; exact hj e), h3 j z]
    simp [hj]
theorem wfI {k : Int} (h0 : -9223372036854775808 ≤ k) (h1 : k ≤ 9223372036854775807) : (Lit.int .i64 k).wf = true := by
  simp [Lit.wf, IntKind.min, IntKind.max, IntKind.signed, IntKind.bits]
  omega

end Go.Proofs.YtclkdlegogjnbaaGreatDoor

namespace Go.Proofs.YtclkdlegogjnbaaGreatDoor
open Go Go.RowKit Go.WideShapes Go.ChangeShapes
set_option linter.unusedVariables false

/-- All words. -/
def splitW : List UInt8 → List (List UInt8)
  | [] => [[]]
  | c :: r => if c = 32 then [] :: splitW r else match splitW r with
    | [] => [[c]]
    | w :: ws => (c :: w) :: ws

theorem splitW_ne (l : List UInt8) : splitW l ≠ [] := by
  cases l with
  | nil => simp [splitW]
  | cons c r =>
    rw [splitW]
    split
    · simp
    · split <;> simp
theorem splitW_miss : ∀ {w : List UInt8}, noBlank w → splitW w = [w] := by
  intro w
  induction w with
  | nil => intro _; rfl
  | cons c r ih =>
    intro h
    rw [splitW, if_neg (h c (by simp)), ih (fun x hx => h x (by simp [hx]))]
theorem splitW_hit : ∀ {w : List UInt8} (r : List UInt8), noBlank w → splitW (w ++ 32 :: r) = w :: splitW r := by
  intro w r
  induction w with
  | nil => intro _; simp [splitW]
  | cons c w ih =>
    intro h
    rw [List.cons_append, splitW, if_neg (h c (by simp)), ih (fun x hx => h x (by simp [hx]))]
theorem splitW_join : ∀ (ws : List (List UInt8)) (w0 : List UInt8), noBlank w0 → (∀ w ∈ ws, noBlank w) → splitW (w0 ++ ws.flatMap (32 :: ·)) = w0 :: ws := by
  intro ws
  induction ws with
  | nil => intro w0 h0 _; simp [splitW_miss h0]
  | cons w ws ih =>
    intro w0 h0 hws
    rw [List.flatMap_cons, List.cons_append, splitW_hit _ h0, ih w (hws w (by simp)) (fun x hx => hws x (by simp [hx]))]

/-- The digits' number, as far as they are digits. -/
def digOk (c : UInt8) : Bool := decide (48 ≤ c.toNat ∧ c.toNat ≤ 57)
def valOf (l : List UInt8) : Nat := l.foldl (fun n c => 10 * n + (c.toNat - 48)) 0
/-- A word's number; -1: it is none of few digits. -/
def rnumOf (w : List UInt8) : Int :=
  if w.length < 1 ∨ 7 < w.length then -1
  else if w.all digOk = true then (if Lib.itoa (valOf w : Int) = w then (valOf w : Int) else -1)
  else -1

end Go.Proofs.YtclkdlegogjnbaaGreatDoor
