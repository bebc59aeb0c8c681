/-
  Proved: 'Rows.AreaActsSaid': for every room and every list of ops the statement AreaActs of the landed package area returns true. No condition beyond the row's own.
-/
import Derived.Test.YtakbahnmlkphcaaRows
import Derived.Test.YtakbahnmlkphcaaActsC
import Derived.OpenShut
import Derived.Deep.Slices
import Derived.Deep.Fields
import Derived.Carry
import Derived.WideShapes
namespace Go.Proofs.Ytakbahnmlkphcaa
open Go.ChangeShapes Go.WideShapes Go.ChangeAt Go.RowKit Go.Deep
set_option linter.unusedVariables false

theorem opUnder : ∃ fs, Try.prog.underlying 36 = some (.struct fs) ∧ oneCellFields Try.prog fs = true ∧ fs.size = 4 ∧ (fs[0]?).map (·.type) = some 3 ∧ (fs[1]?).map (·.type) = some 3 ∧ (fs[2]?).map (·.type) = some 23 ∧ (fs[3]?).map (·.type) = some 4 :=
  ⟨_, Try.underlying36, by kernel_rfl, by kernel_rfl, by kernel_rfl, by kernel_rfl, by kernel_rfl, by kernel_rfl⟩
theorem opCells : Try.prog.cellsOf 36 = 4 := by kernel_rfl

theorem add_spot (a : Addr) (n j : Nat) {w : World} {v : Value} (h : w.cell? ((a.add n).add j) = some v) (ha : a.spot = none) : w.cell? ⟨a.block, a.off + n + j, none⟩ = some v := by
  have e : (a.add n).add j = ⟨a.block, a.off + n + j, none⟩ := by
    obtain ⟨b, o, s⟩ := a
    simp only at ha
    subst ha
    unfold Addr.add
    split <;> split <;> simp_all
  rw [← e]
  exact h

/-- What the reading of the list gives. -/
theorem ops_in {H : Type} {enc : TypeId × Value → H} {W : World} {fuel : Nat} {oa : Option Addr} {len cap : Nat} {x : DataW H × List MemPlace}
    (h : DataW.trod enc Try.prog W 0 (fun _ => true) true fuel 22 [.slice oa len cap] = some x) : len ≤ cap ∧ cap ≤ maxLen ∧ ∀ i, i < len → OpIn W oa i := by
  obtain ⟨fs, hfs, hone, hsz, t0, t1, t2, t3⟩ := opUnder
  rcases open_slice Try.underlying22 h with ⟨h0, _⟩ | ⟨a, len', cap', m, n, D, Pl, hcs, hb, hl, hm, hmm, hx, hi⟩
  · simp only [List.cons.injEq, Value.slice.injEq, and_true] at h0
    obtain ⟨rfl, rfl, rfl⟩ := h0
    exact ⟨Nat.le_refl _, by unfold maxLen; omega, fun i hi => absurd hi (by omega)⟩
  · simp only [List.cons.injEq, Value.slice.injEq, and_true] at hcs
    obtain ⟨rfl, rfl, rfl⟩ := hcs
    refine ⟨hl, hm, fun i hil => ?_⟩
    obtain ⟨cs, hc, ht⟩ := hi i (by simp at hmm; omega)
    rw [opCells] at hc
    obtain ⟨_, hcl, hat⟩ := World.cells?_some hc
    obtain ⟨ys, n', _, _, _, hyl, hf⟩ := DataW.trod_struct hfs ht
    have field : ∀ j, j < 4 → ∃ (f : Field) (v : Value), fs[j]? = some f ∧ cs[j]? = some v ∧ DataW.trod enc Try.prog W 0 (fun _ => true) true n' f.type [v] = ys[j]? ∧ ∃ y, ys[j]? = some y := fun j hj => by
      have hjl : j < fs.size := by omega
      have hfj : fs[j]? = some (fs[j]'hjl) := Array.getElem?_eq_getElem hjl
      obtain ⟨ho, hk⟩ := hone_of hone j _ hfj
      have hv : cs[j]? = some (cs[j]'(by omega)) := List.getElem?_eq_getElem (by omega)
      have h1 := hf j _ hfj
      rw [ho, hk] at h1
      have h2 : (cs.drop j).take 1 = [cs[j]'(by omega)] := by
        rw [List.drop_eq_getElem_cons (by omega)]
        rfl
      rw [h2] at h1
      exact ⟨_, _, hfj, hv, h1, _, List.getElem?_eq_getElem (by omega)⟩
    obtain ⟨f0, v0, e0, c0, d0, y0, z0⟩ := field 0 (by omega)
    obtain ⟨f1, v1, e1, c1, d1, y1, z1⟩ := field 1 (by omega)
    obtain ⟨f2, v2, e2, c2, d2, y2, z2⟩ := field 2 (by omega)
    obtain ⟨f3, v3, e3, c3, d3, y3, z3⟩ := field 3 (by omega)
    simp only [e0, e1, e2, e3, Option.map_some, Option.some.injEq] at t0 t1 t2 t3
    rw [t0, z0] at d0
    rw [t1, z1] at d1
    rw [t2, z2] at d2
    rw [t3, z3] at d3
    obtain ⟨k, hk, _, _⟩ := DataW.trod_int Try.underlying3 d0
    obtain ⟨t, ht', _, hwt⟩ := DataW.trod_int Try.underlying3 d1
    obtain ⟨c, hc', _, hwc⟩ := DataW.trod_int Try.underlying23 d2
    obtain ⟨r, hr, _⟩ := DataW.trod_bool Try.underlying4 d3
    simp only [List.cons.injEq, and_true] at hk ht' hc' hr
    subst hk ht' hc' hr
    have g0 := (hat 0 (by omega)).trans c0
    have hs : a.spot = none := by
      cases hsp : a.spot with
      | none => rfl
      | some s =>
        exfalso
        have hi0 := hi 0 (by simp at hmm; omega)
        obtain ⟨cs1, hc1, _⟩ := hi0
        rw [opCells] at hc1
        obtain ⟨_, hcl1, hat1⟩ := World.cells?_some hc1
        have := hat1 0 (by omega)
        have e : (a.add (0 * 4)).add 0 = a := by simp [Addr.add]
        rw [e, List.getElem?_eq_getElem (by omega)] at this
        unfold World.cell? at this
        rw [hsp] at this
        split at this <;> simp at this
    have hblt := World.block_lt_of_cell? W _ g0
    have hblk : ((a.add (i * 4)).add 0).block = a.block := by unfold Addr.add; split <;> split <;> rfl
    rw [hblk] at hblt
    refine ⟨a.block, a.off, k, t, c, r, ?_, hblt, hwc, hwt, ?_, ?_, ?_, ?_⟩
    · obtain ⟨b, o, s⟩ := a
      simp only at hs
      subst hs
      rfl
    · simpa using add_spot a (i * 4) 0 g0 hs
    · exact add_spot a (i * 4) 1 ((hat 1 (by omega)).trans c1) hs
    · exact add_spot a (i * 4) 2 ((hat 2 (by omega)).trans c2) hs
    · exact add_spot a (i * 4) 3 ((hat 3 (by omega)).trans c3) hs

theorem laidOutTry : laidOutB Try.prog = true := by kernel_rfl
theorem readOps : Try.prog.readableRec 22 = true := by kernel_rfl
theorem rowOps : 22 < Try.prog.types.size := of_decide_eq_true (by kernel_rfl)

set_option maxRecDepth 100000 in
theorem actsLifted (os : Os) (started : os.Started) (H : Type) (enc : TypeId × Value → H) :
    ReturnsInHanded {} Try.checked os 3 .any (Rows.areaActsSpec.pre6 enc Try.prog Try.f3 Rows.areaActsRow.domain false) (Rows.areaActsSpec.post enc Try.prog Try.f3 false true false false) := by
  refine returnsInHanded_of_change (C := Try.checked) ownTry started (by kernel_rfl) Try.func3
    (ChangeSpec.witness6 (enc := enc) (C := Try.checked) false ⟨#[], #[.int .i64 0, .slice none 0 0], []⟩ 8 (by kernel_rfl) (by kernel_rfl) (by kernel_rfl) (by kernel_rfl)) ?_
  intro W base args ds gs before hval0 hW hcnd _
  have hval : ∀ (j : Nat) t v, Try.f3.params[j]? = some t → args[j]? = some v → Value.okWide Try.prog W .any base t v := hval0
  have hW' := hW
  have hold : ∀ x ∈ before, x.block < W.heap.size := fun x hx => hW.lt x hx
  obtain ⟨p, q, hA0, hV, rfl, hfz, hnd⟩ := hW
  have hA : DataW.TrodAll enc Try.prog W 0 (fun _ => true) true Try.f3.params.toList args.toList ds p := hA0
  rw [Try.params3] at hA hval
  obtain ⟨v0, vs0, d0, ds0, p0, q0, hargs, rfl, rfl, h0, r0⟩ := trodAll_cons hA
  obtain ⟨v1, vs1, d1, ds1, p1, q1, rfl, rfl, rfl, h1, r1⟩ := trodAll_cons r0
  obtain ⟨rfl, rfl, rfl⟩ := trodAll_nil r1
  obtain rfl : args = #[v0, v1] := by cases args; simp_all
  obtain ⟨rfl, rfl⟩ := trodVars_none hV
  obtain ⟨a0, rfl, rfl, rfl, w0⟩ := open_int Try.underlying3 (hval 0 3 v0 rfl rfl) h0
  obtain ⟨oa, len, cap, rfl⟩ := okWide_slice Try.underlying22 (hval 1 22 v1 rfl rfl)
  clear hA0 hval0
  obtain ⟨fuel, hf⟩ := id h1
  obtain ⟨hl, hm, hops⟩ := ops_in (by simpa [Value.cells] using hf)
  have hm' : len ≤ 9223372036854775807 := by unfold maxLen at hm; omega
  have hin : ∀ x ∈ p1, x ∈ ([] ++ (p1 ++ [])) ++ [] := fun x hx => by simpa using hx
  refine (acts_any (cap := cap) a0 hops hm' hl).mono fun e W' ⟨he, hg⟩ => ?_
  subst he
  exact ⟨_, rfl, post_below (pa := [] ++ (p1 ++ [])) (pv := []) hW' (fun _ _ _ => (trodAll_cons_mk (shut_bool Try.underlying4 _) trodAll_mk0))
    (fun sp hsp => (trodAll_cons_mk (shut_int Try.underlying3 w0) (trodAll_cons_mk (WideElems.Trod_stays laidOutTry readOps rowOps h1 (fun x hx => hg.same (hold x (hin x hx))) (fun x hx => hsp x (hin x hx))) trodAll_mk0))) (fun _ _ => rfl) rfl
    hg (ok_one (by kernel_rfl) rfl (okWide_bool_mk Try.underlying4 _))⟩

theorem actsOver : Rows.areaActsRow.holds Try.pinned (OpenSpec.ofChange Rows.areaActsSpec) :=
  OpenClaim.holds_of_wide 3 Try.f3 rfl rfl rfl rfl rfl rfl rfl ⟨rfl, rfl, rfl, rfl, rfl⟩ rfl rfl rfl rfl rfl (by kernel_rfl) Try.func3 (by kernel_rfl)
    (of_decide_eq_true (by kernel_rfl)) (by unfold Func.isWrapper; first | (rw [if_pos (by decide +kernel)]; kernel_rfl) | (rw [if_neg (by decide +kernel)]; exact ⟨rfl, rfl⟩))
    (fun os started H enc _ => actsLifted os started H enc)

/-- The statement. -/
theorem areaActs_holds : Rows.AreaActsSaid :=
  actsOver

end Go.Proofs.Ytakbahnmlkphcaa
