/-
  2 texts in one (ObjX LinkU). Conditions: those of each theorem.
-/
import Derived.Test.YtclkdlegogjnbaaGreatDoorQ11
import Derived.Test.YtclkdlegogjnbaaGreatDoorQ38
namespace Go.Proofs.YtclkdlegogjnbaaGreatDoor
open Go Go.RowKit Go.WideShapes Go.ChangeShapes
set_option linter.unusedVariables false
set_option linter.unusedSimpArgs false

theorem slRPred : SlT 26 62 3 32 := ⟨Tryz.underlying26, ⟨.agg #[.string ⟨#[]⟩, .int .i64 0, .int .i64 0], by kernel_rfl, rfl⟩, by decide, by decide⟩
theorem slRIns : SlT 27 51 5 40 := ⟨Tryz.underlying27, ⟨.agg #[.int .i64 0, .int .i64 0, .int .i64 0, .int .i64 0, .int .i64 0], by kernel_rfl, rfl⟩, by decide, by decide⟩

theorem wpList_of_build {P : Program} {ops : Array Oper} {rest : List Oper} {o : Oper} {a : Act} {w : World} {Q : Exit → Act → World → Prop} {t : TypeId} {parts : Array (Nat × Value)} {v' : Value} {w' : World}
    (hr : (Instr.build t parts).run P w = .ok v' w') (hgd : o.guard = none) (ps : Array (Nat × Operand)) (ho : o.op = .build t ps) (hp : (ps.map fun (i, x) => (i, a.eval x)) = parts)
    (h : wpList P ops Q rest (a.put o.dst v') w') : wpList P ops Q (o :: rest) a w := by
  refine wpList_plain hgd fun K hK => ?_
  subst hp
  unfold Oper.wp execOp
  simp only [ho, Sem.run_bind, Sem.run_pure, Result.andThen_ok, hr]
  exact hK _ _ h
theorem run_slice_rpred (s : ByteArray) (n m : Int) (w : World) : (Instr.buildSlice 26 1 #[(0, .agg #[.string s, .int .i64 n, .int .i64 m])]).run Tryz.prog w = .ok (.slice (some ⟨w.heap.size, 0, none⟩) 1 1) (w.alloc (.cells #[.string s, .int .i64 n, .int .i64 m] 62)) := by kernel_rfl
/-- What a round of From keeps. -/
structure Fq (w wr : World) (g1 g2 g3 : Nat) (us : Array Value) (va vf vp vc : Value) (la : List ByteArray) (lf : List (ByteArray × Int)) (lp : List (ByteArray × Int × Int)) (lc : List Ins) : Prop where
  b1 : Box wr g1 39 us
  b2 : Box wr g2 29 #[.slice none 0 0, .slice none 0 0, .slice none 0 0, .slice none 0 0]
  b3 : Box wr g3 29 #[va, vf, vp, vc]
  ra : wr.ownsRow w.heap.size 9 1 va la.length (la.map Value.string)
  rf : wr.ownsRow w.heap.size 81 2 vf lf.length (lf.flatMap funC)
  rp : wr.ownsRow w.heap.size 62 3 vp lp.length (lp.flatMap predC)
  rc : wr.ownsRow w.heap.size 51 5 vc lc.length (lc.flatMap insC)
  below : Below w.heap.size w wr
  lt : w.heap.size ≤ g1 ∧ w.heap.size ≤ g2 ∧ w.heap.size ≤ g3 ∧ g1 ≠ g3 ∧ g2 ≠ g3
section
variable {w wr w' w6 : World} {g1 g2 g3 : Nat} {us : Array Value} {va vf vp vc v6 : Value} {la : List ByteArray} {lf : List (ByteArray × Int)} {lp : List (ByteArray × Int × Int)} {lc : List Ins}
theorem Fq.up (h : Fq w wr g1 g2 g3 us va vf vp vc la lf lp lc) (hb : Below wr.heap.size wr w') : Fq w w' g1 g2 g3 us va vf vp vc la lf lp lc :=
  ⟨h.b1.below hb h.b1.lt, h.b2.below hb h.b2.lt, h.b3.below hb h.b3.lt, own_fr (S := fun _ => False) h.ra (Fr.of_below hb) (fun _ _ x => x), own_fr (S := fun _ => False) h.rf (Fr.of_below hb) (fun _ _ x => x),
    own_fr (S := fun _ => False) h.rp (Fr.of_below hb) (fun _ _ x => x), own_fr (S := fun _ => False) h.rc (Fr.of_below hb) (fun _ _ x => x), h.below.trans (hb.mono h.below.size), h.lt⟩
theorem Fq.putf {s : ByteArray} {n : Int} (h : Fq w wr g1 g2 g3 us va vf vp vc la lf lp lc) (ha : App wr w6 w.heap.size 81 2 vf v6 (lf.length + 1) (lf.flatMap funC ++ [.string s, .int .i64 n])) :
    Fq w (w6.setCell ⟨g3, 1, none⟩ v6) g1 g2 g3 us va v6 vp vc la (lf ++ [(s, n)]) lp lc ∧ w6.cell? ⟨g3, 1, none⟩ = some vf ∧ w6.frozen? ⟨g3, 1, none⟩ = false := by
  have hb3 := h.b3.fr ha.fr (fun e => own_ne_box h.rf h.b3 (by decide) _ e rfl)
  have hb1 := h.b1.fr ha.fr (fun e => own_ne_box h.rf h.b1 (by decide) _ e rfl)
  have hb2 := h.b2.fr ha.fr (fun e => own_ne_box h.rf h.b2 (by decide) _ e rfl)
  refine ⟨⟨hb1.far (by show g1 ≠ g3; exact h.lt.2.2.2.1) _, hb2.far (by show g2 ≠ g3; exact h.lt.2.2.2.2) _, ?_, own_set_far (own_fr h.ra ha.fr (fun k hk e => own_ne_own h.ra h.rf (by decide) k hk e)) (p := ⟨g3, 1, none⟩) (fun k hk => own_ne_box (own_fr h.ra ha.fr (fun k hk e => own_ne_own h.ra h.rf (by decide) k hk e)) hb3 (by decide) k hk) v6, (by have h2 := own_set_far ha.own (p := ⟨g3, 1, none⟩) (fun k hk => own_ne_box ha.own hb3 (by decide) k hk) v6; rw [List.length_append, List.flatMap_append]; simpa [funC, predC, insC] using h2), own_set_far (own_fr h.rp ha.fr (fun k hk e => own_ne_own h.rp h.rf (by decide) k hk e)) (p := ⟨g3, 1, none⟩) (fun k hk => own_ne_box (own_fr h.rp ha.fr (fun k hk e => own_ne_own h.rp h.rf (by decide) k hk e)) hb3 (by decide) k hk) v6, own_set_far (own_fr h.rc ha.fr (fun k hk e => own_ne_own h.rc h.rf (by decide) k hk e)) (p := ⟨g3, 1, none⟩) (fun k hk => own_ne_box (own_fr h.rc ha.fr (fun k hk e => own_ne_own h.rc h.rf (by decide) k hk e)) hb3 (by decide) k hk) v6, (h.below.trans (ha.fr.below h.below.size (fun k hk => (own_ge h.rf hk).1))).setCell (p := ⟨g3, 1, none⟩) h.lt.2.2.1 _, h.lt⟩, hb3.cell 1, hb3.frozen 1⟩
  have := hb3.set_ 1 v6
  simpa using this
theorem Fq.putp {s : ByteArray} {n m : Int} (h : Fq w wr g1 g2 g3 us va vf vp vc la lf lp lc) (ha : App wr w6 w.heap.size 62 3 vp v6 (lp.length + 1) (lp.flatMap predC ++ [.string s, .int .i64 n, .int .i64 m])) :
    Fq w (w6.setCell ⟨g3, 2, none⟩ v6) g1 g2 g3 us va vf v6 vc la lf (lp ++ [(s, n, m)]) lc ∧ w6.cell? ⟨g3, 2, none⟩ = some vp ∧ w6.frozen? ⟨g3, 2, none⟩ = false := by
  have hb3 := h.b3.fr ha.fr (fun e => own_ne_box h.rp h.b3 (by decide) _ e rfl)
  have hb1 := h.b1.fr ha.fr (fun e => own_ne_box h.rp h.b1 (by decide) _ e rfl)
  have hb2 := h.b2.fr ha.fr (fun e => own_ne_box h.rp h.b2 (by decide) _ e rfl)
  refine ⟨⟨hb1.far (by show g1 ≠ g3; exact h.lt.2.2.2.1) _, hb2.far (by show g2 ≠ g3; exact h.lt.2.2.2.2) _, ?_, own_set_far (own_fr h.ra ha.fr (fun k hk e => own_ne_own h.ra h.rp (by decide) k hk e)) (p := ⟨g3, 2, none⟩) (fun k hk => own_ne_box (own_fr h.ra ha.fr (fun k hk e => own_ne_own h.ra h.rp (by decide) k hk e)) hb3 (by decide) k hk) v6, own_set_far (own_fr h.rf ha.fr (fun k hk e => own_ne_own h.rf h.rp (by decide) k hk e)) (p := ⟨g3, 2, none⟩) (fun k hk => own_ne_box (own_fr h.rf ha.fr (fun k hk e => own_ne_own h.rf h.rp (by decide) k hk e)) hb3 (by decide) k hk) v6, (by have h2 := own_set_far ha.own (p := ⟨g3, 2, none⟩) (fun k hk => own_ne_box ha.own hb3 (by decide) k hk) v6; rw [List.length_append, List.flatMap_append]; simpa [funC, predC, insC] using h2), own_set_far (own_fr h.rc ha.fr (fun k hk e => own_ne_own h.rc h.rp (by decide) k hk e)) (p := ⟨g3, 2, none⟩) (fun k hk => own_ne_box (own_fr h.rc ha.fr (fun k hk e => own_ne_own h.rc h.rp (by decide) k hk e)) hb3 (by decide) k hk) v6, (h.below.trans (ha.fr.below h.below.size (fun k hk => (own_ge h.rp hk).1))).setCell (p := ⟨g3, 2, none⟩) h.lt.2.2.1 _, h.lt⟩, hb3.cell 2, hb3.frozen 2⟩
  have := hb3.set_ 2 v6
  simpa using this
theorem Fq.putc {i0 i1 i2 i3 i4 : Int} (h : Fq w wr g1 g2 g3 us va vf vp vc la lf lp lc) (ha : App wr w6 w.heap.size 51 5 vc v6 (lc.length + 1) (lc.flatMap insC ++ [.int .i64 i0, .int .i64 i1, .int .i64 i2, .int .i64 i3, .int .i64 i4])) :
    Fq w (w6.setCell ⟨g3, 3, none⟩ v6) g1 g2 g3 us va vf vp v6 la lf lp (lc ++ [(i0, i1, i2, i3, i4)]) ∧ w6.cell? ⟨g3, 3, none⟩ = some vc ∧ w6.frozen? ⟨g3, 3, none⟩ = false := by
  have hb3 := h.b3.fr ha.fr (fun e => own_ne_box h.rc h.b3 (by decide) _ e rfl)
  have hb1 := h.b1.fr ha.fr (fun e => own_ne_box h.rc h.b1 (by decide) _ e rfl)
  have hb2 := h.b2.fr ha.fr (fun e => own_ne_box h.rc h.b2 (by decide) _ e rfl)
  refine ⟨⟨hb1.far (by show g1 ≠ g3; exact h.lt.2.2.2.1) _, hb2.far (by show g2 ≠ g3; exact h.lt.2.2.2.2) _, ?_, own_set_far (own_fr h.ra ha.fr (fun k hk e => own_ne_own h.ra h.rc (by decide) k hk e)) (p := ⟨g3, 3, none⟩) (fun k hk => own_ne_box (own_fr h.ra ha.fr (fun k hk e => own_ne_own h.ra h.rc (by decide) k hk e)) hb3 (by decide) k hk) v6, own_set_far (own_fr h.rf ha.fr (fun k hk e => own_ne_own h.rf h.rc (by decide) k hk e)) (p := ⟨g3, 3, none⟩) (fun k hk => own_ne_box (own_fr h.rf ha.fr (fun k hk e => own_ne_own h.rf h.rc (by decide) k hk e)) hb3 (by decide) k hk) v6, own_set_far (own_fr h.rp ha.fr (fun k hk e => own_ne_own h.rp h.rc (by decide) k hk e)) (p := ⟨g3, 3, none⟩) (fun k hk => own_ne_box (own_fr h.rp ha.fr (fun k hk e => own_ne_own h.rp h.rc (by decide) k hk e)) hb3 (by decide) k hk) v6, (by have h2 := own_set_far ha.own (p := ⟨g3, 3, none⟩) (fun k hk => own_ne_box ha.own hb3 (by decide) k hk) v6; rw [List.length_append, List.flatMap_append]; simpa [funC, predC, insC] using h2), (h.below.trans (ha.fr.below h.below.size (fun k hk => (own_ge h.rc hk).1))).setCell (p := ⟨g3, 3, none⟩) h.lt.2.2.1 _, h.lt⟩, hb3.cell 3, hb3.frozen 3⟩
  have := hb3.set_ 3 v6
  simpa using this
end

end Go.Proofs.YtclkdlegogjnbaaGreatDoor

namespace Go.Proofs.YtclkdlegogjnbaaGreatDoor
open Go Go.RowKit Go.WideShapes Go.ChangeShapes
set_option linter.unusedVariables false
set_option linter.unusedSimpArgs false

theorem slObjL : SlT 31 39 4 96 := ⟨Tryz.underlying31, ⟨.agg #[.slice none 0 0, .slice none 0 0, .slice none 0 0, .slice none 0 0], by kernel_rfl, rfl⟩, by decide, by decide⟩
/-- No slice of nothing is longer than nothing. -/
def NilOk (qs : List (Value × Value × Value × Value)) : Prop := ∀ q ∈ qs, ∀ k c, q.1 = .slice none k c → c = 0
/-- What objects comes to. -/
def ObsW (w : World) (l : List Ob) (e : Ending) (w' : World) : Prop := ∃ v qs, e = .returned v ∧ ObsAt w' v qs l ∧ NilOk qs ∧ Below w.heap.size w w'
theorem one4 {a b c d : Value} (ha : a.oneCell' = true) (hb : b.oneCell' = true) (hc : c.oneCell' = true) (hd : d.oneCell' = true) : ∀ u ∈ [a, b, c, d], u.oneCell' = true := by
  intro u hu
  simp only [List.mem_cons, List.not_mem_nil, or_false] at hu
  rcases hu with rfl | rfl | rfl | rfl <;> assumption
/-- The slice amid the loop. -/
structure ObK (w wr : World) (v : Value) (qs : List (Value × Value × Value × Value)) (l : List Ob) (k : Nat) : Prop where
  len : qs.length = k
  row : wr.ownsRow w.heap.size 39 4 v k (qs.flatMap obC)
  obs : ∀ j (h : j < l.length) (hk : j < k), ObAt wr (qs[j]'(by omega)).1 (qs[j]'(by omega)).2.1 (qs[j]'(by omega)).2.2.1 (qs[j]'(by omega)).2.2.2 l[j]
  nil : NilOk qs
  below : Below w.heap.size w wr
/-- Other rows: an append to the slice leaves them. -/
theorem ObAt.fr {w w' : World} {va vf vp vc : Value} {o : Ob} (h : ObAt w va vf vp vc o) {S : Nat → Prop} (hf : Fr S w w') (ha : ∀ b off n c, va = .slice (some ⟨b, off, none⟩) n c → ¬ S b) (hff : ∀ b off n c, vf = .slice (some ⟨b, off, none⟩) n c → ¬ S b) (hp : ∀ b off n c, vp = .slice (some ⟨b, off, none⟩) n c → ¬ S b) (hc : ∀ b off n c, vc = .slice (some ⟨b, off, none⟩) n c → ¬ S b) : ObAt w' va vf vp vc o := by
  have g : ∀ (v : Value) (n : Nat) (cs : List Value), CellsAt w v n cs → (∀ b off n c, v = .slice (some ⟨b, off, none⟩) n c → ¬ S b) → CellsAt w' v n cs := by
    intro v n cs hv hs
    rcases hv with hv | ⟨b, off, c, rfl, hl, hcs⟩
    · exact .inl hv
    · refine .inr ⟨b, off, c, rfl, Nat.lt_of_lt_of_le hl hf.size, fun k u hk => ?_⟩
      rw [World.cell?_of_block (w := w) (hf.block b hl (hs b off n c rfl))]
      exact hcs k u hk
  exact ⟨g _ _ _ h.atoms ha, g _ _ _ h.funs hff, g _ _ _ h.preds hp, g _ _ _ h.code hc⟩

end Go.Proofs.YtclkdlegogjnbaaGreatDoor
