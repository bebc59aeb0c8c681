/-
  4 texts in one (ObjP ObjQ ObjU AOpen). Conditions: those of each theorem.
-/
import Derived.Test.YtclkdlegogjnbaaGreatDoorR10
import Derived.Test.YtclkdlegogjnbaaGreatDoorCards
import Derived.Test.YtclkdlegogjnbaaGreatDoorTie
import Derived.Test.YtclkdlegogjnbaaGreatDoorChecked
import Derived.OpenShut
import Derived.Deep.Slices
import Derived.Deep.Fields
import Derived.Carry
import Derived.WideShapes
import Derived.Laws.IdiomArrays
import Derived.Lib.LaidTab
import Derived.LaidSub
import Derived.LaidLaws
import Derived.MakeChecks
import Derived.LaidMore
import Derived.Deep.DeepHandedRow
namespace Go.Proofs.YtclkdlegogjnbaaGreatDoor
open Go Go.RowKit Go.WideShapes Go.ChangeShapes
set_option linter.unusedVariables false
set_option linter.unusedSimpArgs false
theorem ret_store4 {P : Program} {fn : Func} {Q : Ending → World → Prop} {T : Array Value} {w2 : World} {G : Nat} {t : TypeId} {z0 z1 z2 z3 a b c d x : Value} (hb : Box w2 G t #[z0, z1, z2, z3])
  (hres : ∀ W : World, W.cell? ⟨G, 0, none⟩ = some a → W.cell? ⟨G, 1, none⟩ = some b → W.cell? ⟨G, 2, none⟩ = some c → W.cell? ⟨G, 3, none⟩ = some d → (results fn T).run P W = .ok (.tuple #[.agg #[a, b, c, d], x]) W)
  (hQ : ∀ W : World, Box W G t #[a, b, c, d] → Fr (fun k => k = G) w2 W → Q (.returned (.tuple #[.agg #[a, b, c, d], x])) W) :
  bodyPost P fn Q .ret { tmps := T, defers := [] } ((((w2.setCell ⟨G, 0, none⟩ a).setCell ⟨G, 1, none⟩ b).setCell ⟨G, 2, none⟩ c).setCell ⟨G, 3, none⟩ d) := by
 have h4 : Box ((((w2.setCell ⟨G, 0, none⟩ a).setCell ⟨G, 1, none⟩ b).setCell ⟨G, 2, none⟩ c).setCell ⟨G, 3, none⟩ d) G t #[a, b, c, d] := by
  have := (((hb.set_ 0 a).set_ 1 b).set_ 2 c).set_ 3 d
  simpa using this
 have hf : Fr (fun k => k = G) w2 ((((w2.setCell ⟨G, 0, none⟩ a).setCell ⟨G, 1, none⟩ b).setCell ⟨G, 2, none⟩ c).setCell ⟨G, 3, none⟩ d) :=
  ((((Fr.refl (fun b => b = G) w2).setCell (p := ⟨G, 0, none⟩) (.inl rfl) _).setCell (p := ⟨G, 1, none⟩) (.inl rfl) _).setCell (p := ⟨G, 2, none⟩) (.inl rfl) _).setCell (p := ⟨G, 3, none⟩) (.inl rfl) _
 exact bodyPost_ret (hres _ (h4.cell 0) (h4.cell 1) (h4.cell 2) (h4.cell 3)) rfl (hQ _ h4 hf)
theorem slIns : SlT 37 52 5 40 := ⟨Tryz.underlying37, ⟨.agg #[.int .i64 0, .int .i64 0, .int .i64 0, .int .i64 0, .int .i64 0], by kernel_rfl, rfl⟩, by decide, by decide⟩
section
variable {w0 w wr w' w8 w6 : World} {R g gO : Nat} {r r' : Rd} {va vf vp vc v6 : Value} {lc : List Ins}
end
def NewOb (B : Nat) (va vf vp vc : Value) : Prop := ∀ v ∈ [va, vf, vp, vc], ∀ k, v.ownBlock = some k → B ≤ k
theorem CellsAt.fr {w w' : World} {S : Nat → Prop} {v : Value} {n : Nat} {cs : List Value} (h : CellsAt w v n cs) (hf : Fr S w w') (hn : ∀ k, v.ownBlock = some k → ¬ S k) : CellsAt w' v n cs := by
 rcases h with h | ⟨b, off, c, rfl, hl, hc⟩
 ·exact .inl h
 ·exact .inr ⟨b, off, c, rfl, Nat.lt_of_lt_of_le hl hf.size, fun k u hk => (World.cell?_of_block (w := w) (hf.block b hl (hn b rfl))).trans (hc k u hk)⟩
def arr4 (ls : List Nat) : Array Value := #[.int .i64 (ls.getD 0 0 : Nat), .int .i64 (ls.getD 1 0 : Nat), .int .i64 (ls.getD 2 0 : Nat), .int .i64 (ls.getD 3 0 : Nat)]
def PartC (n j : Nat) (r r' : Rd) (l : List Ins) : Prop := l.length + j = n ∧ codeR n r = match codeR j r' with
 | none => none
 | some (m, r'') => some (l ++ m, r'')
theorem PartC.start (n : Nat) (r : Rd) : PartC n n r r [] := ⟨by simp, by cases codeR n r <;> rfl⟩
theorem PartC.step {n j : Nat} {r r' r2 : Rd} {l : List Ins} {i : Ins} (h : PartC n (j + 1) r r' l) (hi : insR r' = some (i, r2)) : PartC n j r r2 (l ++ [i]) := by
 refine ⟨by have := h.1; simp; omega, ?_⟩
 rw [h.2, codeR, hi]
 cases hc : codeR j r2 with
 | none => simp [hc]
 | some x => simp [hc]
theorem PartC.bad {n j : Nat} {r r' : Rd} {l : List Ins} (h : PartC n (j + 1) r r' l) (hi : insR r' = none) : codeR n r = none := by
 rw [h.2, codeR, hi]
theorem PartC.done {n : Nat} {r r' : Rd} {l : List Ins} (h : PartC n 0 r r' l) : codeR n r = some (l, r') := by
 rw [h.2, codeR]
 simp
def restR (a f p c : Nat) (r4 : Rd) : Except Int (Ob × Rd) :=
 if r4.short = true then .error 3
 else if bigB a f p c then .error 2
 else match codeR c (manyR predR p (manyR funR f (manyR nameR a r4).2).2).2 with
  | none => .error 8
  | some (l4, r5) => if r5.short = true then .error 3 else .ok (⟨(manyR nameR a r4).1, (manyR funR f (manyR nameR a r4).2).1, (manyR predR p (manyR funR f (manyR nameR a r4).2).2).1, l4⟩, r5)
end Go.Proofs.YtclkdlegogjnbaaGreatDoor

namespace Go.Proofs.YtclkdlegogjnbaaGreatDoor
open Go Go.RowKit Go.WideShapes Go.ChangeShapes
set_option linter.unusedVariables false
set_option linter.unusedSimpArgs false
theorem bdrew1 (W : World) : Below W.heap.size W W.drew := ⟨rfl, rfl, rfl, Nat.le_refl _, fun _ _ => rfl⟩
end Go.Proofs.YtclkdlegogjnbaaGreatDoor

namespace Go.Proofs.YtclkdlegogjnbaaGreatDoor
open Go Go.RowKit Go.WideShapes Go.ChangeShapes
set_option linter.unusedVariables false
set_option linter.unusedSimpArgs false
theorem app_src {t e : TypeId} {size bytes : Nat} (T : SlT t e size bytes) {wr : World} {base n m : Nat} {v u : Value} {xs news : List Value} (hown : wr.ownsRow base e size v n xs) (hu : CellsAt wr u m news) (hl : news.length = m * size)
  (h1 : ∀ u ∈ news, u.oneCell' = true) (hn : n + m ≤ 1000000) (hbase : base ≤ wr.heap.size) (hnil : ∀ k c, u = .slice none k c → c = 0) (ty : TypeId) :
  ∃ v' w', (Builtin.append_ #[t, t] ty #[v, u]).run Tryz.prog wr = .ok v' w' ∧ Hid (App wr w' base e size v v' (n + m) (xs ++ news)) := by
 obtain ⟨z, hi, hzs⟩ := T.info
 obtain ⟨i, hi1, hz0, hz1, hz2⟩ := info_parts hi
 have hT := T.pos
 have hsm := T.small
 have hb : (n + m) * bytes ≤ 140737488355328 := Nat.le_trans (Nat.mul_le_mul hn hsm) (by decide)
 have fin : ∀ (ad : Addr) c, u = .slice (some ad) m c → (∀ j x, news[j]? = some x → wr.cell? (ad.add j) = some x) → ∃ v' w', (Builtin.append_ #[t, t] ty #[v, u]).run Tryz.prog wr = .ok v' w' ∧ Hid (App wr w' base e size v v' (n + m) (xs ++ news)) := by
  intro ad c hu' hc
  subst hu'
  obtain ⟨v', w', hr, h2, h3, _, h5⟩ := run_append_own_at (P := Tryz.prog) wr base t ty e i z size bytes T.und hi1 hz0 hz1 hz2 hzs T.pos v n xs hown ad m c news hl hc h1 (by unfold maxLen; omega) hb hbase
  exact ⟨v', w', hr, Lib.hid ⟨h2, Fr.of_grown h3 fun _ _ e => e, h5.imp id fun h => ⟨_, h, Nat.le_refl _⟩, own_form h2 |>.imp fun _ ⟨c, h, _⟩ => ⟨c, h⟩⟩⟩
 rcases hu with ⟨rfl, rfl, A, c, rfl⟩ | ⟨b, off, c, rfl, hlt, hc⟩
 ·cases A with
  | none =>
   have hr := run_append_owned_none (P := Tryz.prog) wr base t ty e i size T.und hi1 v n xs hown
   obtain rfl := hnil 0 c rfl
   exact ⟨v, wr, hr, Lib.hid ⟨by simpa using hown, Fr.refl _ _, .inl rfl, own_form hown |>.imp fun _ ⟨c, h, _⟩ => ⟨c, h⟩⟩⟩
  | some ad => exact fin ad c rfl (fun j x hj => by simp at hj)
 ·exact fin ⟨b, off, none⟩ c rfl (fun j x hj => by rw [add_plain]; exact hc j x hj)
structure Tq (w wr : World) (g1 g2 g3 : Nat) (us : Array Value) (va vf vp vc : Value) (la : List ByteArray) (lf : List (ByteArray × Int)) (lp : List (ByteArray × Int × Int)) (lc : List Ins) : Prop where
 b1 : Box wr g1 29 us
 b2 : Box wr g2 39 #[.slice none 0 0, .slice none 0 0, .slice none 0 0, .slice none 0 0]
 b3 : Box wr g3 39 #[va, vf, vp, vc]
 ra : wr.ownsRow w.heap.size 9 1 va la.length (la.map Value.string)
 rf : wr.ownsRow w.heap.size 82 2 vf lf.length (lf.flatMap funC)
 rp : wr.ownsRow w.heap.size 64 3 vp lp.length (lp.flatMap predC)
 rc : wr.ownsRow w.heap.size 52 5 vc lc.length (lc.flatMap insC)
 below : Below w.heap.size w wr
 lt : w.heap.size ≤ g1 ∧ w.heap.size ≤ g2 ∧ w.heap.size ≤ g3 ∧ g1 ≠ g3 ∧ g2 ≠ g3
section
variable {w wr w' w6 : World} {g1 g2 g3 : Nat} {us : Array Value} {va vf vp vc v6 : Value} {la : List ByteArray} {lf : List (ByteArray × Int)} {lp : List (ByteArray × Int × Int)} {lc : List Ins}
theorem Tq.up (h : Tq w wr g1 g2 g3 us va vf vp vc la lf lp lc) (hb : Below wr.heap.size wr w') : Tq w w' g1 g2 g3 us va vf vp vc la lf lp lc :=
 ⟨h.b1.below hb h.b1.lt, h.b2.below hb h.b2.lt, h.b3.below hb h.b3.lt, own_fr (S := fun _ => False) h.ra (Fr.of_below hb) (fun _ _ x => x), own_fr (S := fun _ => False) h.rf (Fr.of_below hb) (fun _ _ x => x),
  own_fr (S := fun _ => False) h.rp (Fr.of_below hb) (fun _ _ x => x), own_fr (S := fun _ => False) h.rc (Fr.of_below hb) (fun _ _ x => x), h.below.trans (hb.mono h.below.size), h.lt⟩
theorem Tq.putf {s : ByteArray} {n : Int} (h : Tq w wr g1 g2 g3 us va vf vp vc la lf lp lc) (ha : App wr w6 w.heap.size 82 2 vf v6 (lf.length + 1) (lf.flatMap funC ++ [.string s, .int .i64 n])) :
  Tq w (w6.setCell ⟨g3, 1, none⟩ v6) g1 g2 g3 us va v6 vp vc la (lf ++ [(s, n)]) lp lc ∧ w6.cell? ⟨g3, 1, none⟩ = some vf ∧ w6.frozen? ⟨g3, 1, none⟩ = false := by
 have hb3 := h.b3.fr ha.fr (fun e => own_ne_box h.rf h.b3 (by decide) _ e rfl)
 have hb1 := h.b1.fr ha.fr (fun e => own_ne_box h.rf h.b1 (by decide) _ e rfl)
 have hb2 := h.b2.fr ha.fr (fun e => own_ne_box h.rf h.b2 (by decide) _ e rfl)
 refine ⟨⟨hb1.far (by show g1 ≠ g3; exact h.lt.2.2.2.1) _, hb2.far (by show g2 ≠ g3; exact h.lt.2.2.2.2) _, ?_, own_set_far (own_fr h.ra ha.fr (fun k hk e => own_ne_own h.ra h.rf (by decide) k hk e)) (p := ⟨g3, 1, none⟩) (fun k hk => own_ne_box (own_fr h.ra ha.fr (fun k hk e => own_ne_own h.ra h.rf (by decide) k hk e)) hb3 (by decide) k hk) v6, (by have h2 := own_set_far ha.own (p := ⟨g3, 1, none⟩) (fun k hk => own_ne_box ha.own hb3 (by decide) k hk) v6; rw [List.length_append, List.flatMap_append]; simpa [funC, predC, insC] using h2), own_set_far (own_fr h.rp ha.fr (fun k hk e => own_ne_own h.rp h.rf (by decide) k hk e)) (p := ⟨g3, 1, none⟩) (fun k hk => own_ne_box (own_fr h.rp ha.fr (fun k hk e => own_ne_own h.rp h.rf (by decide) k hk e)) hb3 (by decide) k hk) v6, own_set_far (own_fr h.rc ha.fr (fun k hk e => own_ne_own h.rc h.rf (by decide) k hk e)) (p := ⟨g3, 1, none⟩) (fun k hk => own_ne_box (own_fr h.rc ha.fr (fun k hk e => own_ne_own h.rc h.rf (by decide) k hk e)) hb3 (by decide) k hk) v6, (h.below.trans (ha.fr.below h.below.size (fun k hk => (own_ge h.rf hk).1))).setCell (p := ⟨g3, 1, none⟩) h.lt.2.2.1 _, h.lt⟩, hb3.cell 1, hb3.frozen 1⟩
 have := hb3.set_ 1 v6
 simpa using this
theorem Tq.putp {s : ByteArray} {n m : Int} (h : Tq w wr g1 g2 g3 us va vf vp vc la lf lp lc) (ha : App wr w6 w.heap.size 64 3 vp v6 (lp.length + 1) (lp.flatMap predC ++ [.string s, .int .i64 n, .int .i64 m])) :
  Tq w (w6.setCell ⟨g3, 2, none⟩ v6) g1 g2 g3 us va vf v6 vc la lf (lp ++ [(s, n, m)]) lc ∧ w6.cell? ⟨g3, 2, none⟩ = some vp ∧ w6.frozen? ⟨g3, 2, none⟩ = false := by
 have hb3 := h.b3.fr ha.fr (fun e => own_ne_box h.rp h.b3 (by decide) _ e rfl)
 have hb1 := h.b1.fr ha.fr (fun e => own_ne_box h.rp h.b1 (by decide) _ e rfl)
 have hb2 := h.b2.fr ha.fr (fun e => own_ne_box h.rp h.b2 (by decide) _ e rfl)
 refine ⟨⟨hb1.far (by show g1 ≠ g3; exact h.lt.2.2.2.1) _, hb2.far (by show g2 ≠ g3; exact h.lt.2.2.2.2) _, ?_, own_set_far (own_fr h.ra ha.fr (fun k hk e => own_ne_own h.ra h.rp (by decide) k hk e)) (p := ⟨g3, 2, none⟩) (fun k hk => own_ne_box (own_fr h.ra ha.fr (fun k hk e => own_ne_own h.ra h.rp (by decide) k hk e)) hb3 (by decide) k hk) v6, own_set_far (own_fr h.rf ha.fr (fun k hk e => own_ne_own h.rf h.rp (by decide) k hk e)) (p := ⟨g3, 2, none⟩) (fun k hk => own_ne_box (own_fr h.rf ha.fr (fun k hk e => own_ne_own h.rf h.rp (by decide) k hk e)) hb3 (by decide) k hk) v6, (by have h2 := own_set_far ha.own (p := ⟨g3, 2, none⟩) (fun k hk => own_ne_box ha.own hb3 (by decide) k hk) v6; rw [List.length_append, List.flatMap_append]; simpa [funC, predC, insC] using h2), own_set_far (own_fr h.rc ha.fr (fun k hk e => own_ne_own h.rc h.rp (by decide) k hk e)) (p := ⟨g3, 2, none⟩) (fun k hk => own_ne_box (own_fr h.rc ha.fr (fun k hk e => own_ne_own h.rc h.rp (by decide) k hk e)) hb3 (by decide) k hk) v6, (h.below.trans (ha.fr.below h.below.size (fun k hk => (own_ge h.rp hk).1))).setCell (p := ⟨g3, 2, none⟩) h.lt.2.2.1 _, h.lt⟩, hb3.cell 2, hb3.frozen 2⟩
 have := hb3.set_ 2 v6
 simpa using this
theorem Tq.putc {i0 i1 i2 i3 i4 : Int} (h : Tq w wr g1 g2 g3 us va vf vp vc la lf lp lc) (ha : App wr w6 w.heap.size 52 5 vc v6 (lc.length + 1) (lc.flatMap insC ++ [.int .i64 i0, .int .i64 i1, .int .i64 i2, .int .i64 i3, .int .i64 i4])) :
  Tq w (w6.setCell ⟨g3, 3, none⟩ v6) g1 g2 g3 us va vf vp v6 la lf lp (lc ++ [(i0, i1, i2, i3, i4)]) ∧ w6.cell? ⟨g3, 3, none⟩ = some vc ∧ w6.frozen? ⟨g3, 3, none⟩ = false := by
 have hb3 := h.b3.fr ha.fr (fun e => own_ne_box h.rc h.b3 (by decide) _ e rfl)
 have hb1 := h.b1.fr ha.fr (fun e => own_ne_box h.rc h.b1 (by decide) _ e rfl)
 have hb2 := h.b2.fr ha.fr (fun e => own_ne_box h.rc h.b2 (by decide) _ e rfl)
 refine ⟨⟨hb1.far (by show g1 ≠ g3; exact h.lt.2.2.2.1) _, hb2.far (by show g2 ≠ g3; exact h.lt.2.2.2.2) _, ?_, own_set_far (own_fr h.ra ha.fr (fun k hk e => own_ne_own h.ra h.rc (by decide) k hk e)) (p := ⟨g3, 3, none⟩) (fun k hk => own_ne_box (own_fr h.ra ha.fr (fun k hk e => own_ne_own h.ra h.rc (by decide) k hk e)) hb3 (by decide) k hk) v6, own_set_far (own_fr h.rf ha.fr (fun k hk e => own_ne_own h.rf h.rc (by decide) k hk e)) (p := ⟨g3, 3, none⟩) (fun k hk => own_ne_box (own_fr h.rf ha.fr (fun k hk e => own_ne_own h.rf h.rc (by decide) k hk e)) hb3 (by decide) k hk) v6, own_set_far (own_fr h.rp ha.fr (fun k hk e => own_ne_own h.rp h.rc (by decide) k hk e)) (p := ⟨g3, 3, none⟩) (fun k hk => own_ne_box (own_fr h.rp ha.fr (fun k hk e => own_ne_own h.rp h.rc (by decide) k hk e)) hb3 (by decide) k hk) v6, (by have h2 := own_set_far ha.own (p := ⟨g3, 3, none⟩) (fun k hk => own_ne_box ha.own hb3 (by decide) k hk) v6; rw [List.length_append, List.flatMap_append]; simpa [funC, predC, insC] using h2), (h.below.trans (ha.fr.below h.below.size (fun k hk => (own_ge h.rc hk).1))).setCell (p := ⟨g3, 3, none⟩) h.lt.2.2.1 _, h.lt⟩, hb3.cell 3, hb3.frozen 3⟩
 have := hb3.set_ 3 v6
 simpa using this
end
theorem run_slice_ins (i0 i1 i2 i3 i4 : Int) (w : World) : (Instr.buildSlice 37 1 #[(0, .agg #[.int .i64 i0, .int .i64 i1, .int .i64 i2, .int .i64 i3, .int .i64 i4])]).run Tryz.prog w = .ok (.slice (some ⟨w.heap.size, 0, none⟩) 1 1) (w.alloc (.cells #[.int .i64 i0, .int .i64 i1, .int .i64 i2, .int .i64 i3, .int .i64 i4] 52)) := by kernel_rfl
theorem step_of_slice {P : Program} {ops : Array Oper} {o : Oper} {a : Act} {w : World} {K : Act → World → Prop} {Q : Exit → Act → World → Prop} {E : Prop} {t : TypeId} {len : Nat} {parts : Array (Nat × Value)} {v' : Value} {w' : World}
  (hr : (Instr.buildSlice t len parts).run P w = .ok v' w') (hgd : o.guard = none) (ps : Array (Nat × Operand)) (ho : o.op = .buildSlice t len ps) (hp : (ps.map fun (i, x) => (i, a.eval x)) = parts) (h : K (a.put o.dst v') w') :
  if Region.wanted o (yielded ops a.tmps) = true then Oper.wp P o a w K Q else E := by
 have hw : Region.wanted o (yielded ops a.tmps) = true := by simp [Region.wanted, hgd]
 rw [if_pos hw]
 subst hp
 unfold Oper.wp execOp
 simp only [ho, Sem.run_bind, Sem.run_pure, Result.andThen_ok, hr]
 exact h
theorem ret_one4 {P : Program} {fn : Func} {Q : Ending → World → Prop} {T : Array Value} {w2 : World} {G : Nat} {t : TypeId} {z0 z1 z2 z3 a b c d : Value} (hb : Box w2 G t #[z0, z1, z2, z3])
  (hres : ∀ W : World, W.cell? ⟨G, 0, none⟩ = some a → W.cell? ⟨G, 1, none⟩ = some b → W.cell? ⟨G, 2, none⟩ = some c → W.cell? ⟨G, 3, none⟩ = some d → (results fn T).run P W = .ok (.agg #[a, b, c, d]) W)
  (hQ : ∀ W : World, Box W G t #[a, b, c, d] → Fr (fun k => k = G) w2 W → Q (.returned (.agg #[a, b, c, d])) W) :
  bodyPost P fn Q .ret { tmps := T, defers := [] } ((((w2.setCell ⟨G, 0, none⟩ a).setCell ⟨G, 1, none⟩ b).setCell ⟨G, 2, none⟩ c).setCell ⟨G, 3, none⟩ d) := by
 have h4 : Box ((((w2.setCell ⟨G, 0, none⟩ a).setCell ⟨G, 1, none⟩ b).setCell ⟨G, 2, none⟩ c).setCell ⟨G, 3, none⟩ d) G t #[a, b, c, d] := by
  have := (((hb.set_ 0 a).set_ 1 b).set_ 2 c).set_ 3 d
  simpa using this
 have hf : Fr (fun k => k = G) w2 ((((w2.setCell ⟨G, 0, none⟩ a).setCell ⟨G, 1, none⟩ b).setCell ⟨G, 2, none⟩ c).setCell ⟨G, 3, none⟩ d) :=
  ((((Fr.refl (fun b => b = G) w2).setCell (p := ⟨G, 0, none⟩) (.inl rfl) _).setCell (p := ⟨G, 1, none⟩) (.inl rfl) _).setCell (p := ⟨G, 2, none⟩) (.inl rfl) _).setCell (p := ⟨G, 3, none⟩) (.inl rfl) _
 exact bodyPost_ret (hres _ (h4.cell 0) (h4.cell 1) (h4.cell 2) (h4.cell 3)) rfl (hQ _ h4 hf)
theorem own_nil {w : World} {base : Nat} {e : TypeId} {size n : Nat} {v : Value} {xs : List Value} (h : w.ownsRow base e size v n xs) : ∀ k c, v = .slice none k c → c = 0 := by
 intro k c hv
 rcases h.2 with ⟨h0, _⟩ | ⟨g, cap, cur, he, _⟩
 ·rw [h0] at hv
  injection hv with _ _ h3
  exact h3.symm
 ·rw [he] at hv
  injection hv with h1
  cases h1
theorem strs_one (l : List ByteArray) : ∀ u ∈ l.map Value.string, u.oneCell' = true := by
 intro u hu
 obtain ⟨s, _, rfl⟩ := List.mem_map.1 hu
 rfl
end Go.Proofs.YtclkdlegogjnbaaGreatDoor

namespace Go.Proofs.YtclkdlegogjnbaaGreatDoor
open Go.ChangeShapes Go.WideShapes Go.ChangeAt Go.RowKit Go.Deep
set_option linter.unusedVariables false
set_option linter.unusedSimpArgs false
instance : Inhabited Ins := ⟨(0, 0, 0, 0, 0)⟩
theorem add_spot8 (a : Addr) (n j : Nat) {w : World} {v : Value} (h : w.cell? ((a.add n).add j) = some v) (ha : a.spot = none) : w.cell? ⟨a.block, a.off + n + j, none⟩ = some v := by
 have e : (a.add n).add j = ⟨a.block, a.off + n + j, none⟩ := by
  obtain ⟨b, o, s⟩ := a
  simp only at ha
  subst ha
  unfold Addr.add
  split <;> split <;> simp_all
 rw [← e]
 exact h
theorem spot_none8 {a : Addr} {W : World} {v : Value} (h : W.cell? (a.add 0) = some v) : a.spot = none := by
 cases hsp : a.spot with
 | none => rfl
 | some s =>
  exfalso
  have e : a.add 0 = a := by simp [Addr.add]
  rw [e] at h
  unfold World.cell? at h
  rw [hsp] at h
  split at h <;> simp at h
theorem flat_len8 {α β : Type} (f : α → List β) (m : Nat) (hf : ∀ a, (f a).length = m) : ∀ l : List α, (l.flatMap f).length = l.length * m
 | [] => by simp
 | a :: l => by rw [List.flatMap_cons, List.length_append, hf, flat_len8 f m hf l, List.length_cons, Nat.succ_mul, Nat.add_comm]
theorem flat_one8 {α β : Type} (f : α → β) : ∀ l : List α, l.flatMap (fun a => [f a]) = l.map f
 | [] => rfl
 | a :: l => by rw [List.flatMap_cons, flat_one8 f l]; rfl
section
variable {H : Type} {enc : TypeId × Value → H} {W : World}
theorem one_fields {fuel : Nat} {t : TypeId} {fs : Array Field} {cs : List Value} {x : DataW H × List MemPlace} (hfs : Tryz.prog.underlying t = some (.struct fs)) (hone : oneCellFields Tryz.prog fs = true) (hc : Tryz.prog.cellsOf t = fs.size)
  (h : DataW.trod enc Tryz.prog W 0 (fun _ => true) true fuel t cs = some x) : cs.length = fs.size ∧ ∃ n, ∀ (j : Nat) (f : Field), fs[j]? = some f → ∃ v y, cs[j]? = some v ∧ DataW.trod enc Tryz.prog W 0 (fun _ => true) true n f.type [v] = some y := by
 obtain ⟨ys, n, rfl, _, hcl, hyl, hf⟩ := DataW.trod_struct hfs h
 rw [hc] at hcl
 refine ⟨hcl, n, fun j f hfj => ?_⟩
 have hj : j < fs.size := (Array.getElem?_eq_some_iff.1 hfj).1
 obtain ⟨ho, hk⟩ := hone_of hone j _ hfj
 have hv : cs[j]? = some (cs[j]'(by omega)) := List.getElem?_eq_getElem (by omega)
 have h1 := hf j _ hfj
 rw [ho, hk] at h1
 have h2 : (cs.drop j).take 1 = [cs[j]'(by omega)] := by
  rw [List.drop_eq_getElem_cons (by omega)]
  rfl
 rw [h2] at h1
 exact ⟨_, ys[j]'(by omega), hv, by rw [h1]; exact List.getElem?_eq_getElem (by omega)⟩
set_option maxRecDepth 100000 in
theorem rows_in {α : Type} [Inhabited α] (f : α → List Value) (m : Nat) (hf : ∀ a, (f a).length = m) (hm : 0 < m) (Q : α → Prop) {fuel : Nat} {t e : TypeId} {v : Value} {x : DataW H × List MemPlace} (ht : Tryz.prog.underlying t = some (.slice e)) (hc : Tryz.prog.cellsOf e = m)
  (hel : ∀ n cs' y, DataW.trod enc Tryz.prog W 0 (fun _ => true) true n e cs' = some y → ∃ a, cs' = f a ∧ Q a)
  (h : DataW.trod enc Tryz.prog W 0 (fun _ => true) true fuel t [v] = some x) :
  ∃ l : List α, CellsAt W v l.length (l.flatMap f) ∧ (∀ a ∈ l, Q a) ∧ (∀ k c, v = .slice none k c → c = 0) ∧ l.length ≤ 9223372036854775807 := by
 rcases open_slice ht h with ⟨hv, _⟩ | ⟨a, len, cap, m', n, D, Pl, hv, hb, hl, hmx, hmm, _, hx⟩
 ·simp only [List.cons.injEq, and_true] at hv
  subst hv
  exact ⟨[], .inl ⟨rfl, rfl, _, _, rfl⟩, by simp, fun k c h => by injection h with _ _ h3; exact h3.symm, by simp⟩
 ·simp only [List.cons.injEq, and_true] at hv
  subst hv
  have hlm : len ≤ m' := by rw [hmm]; split <;> omega
  have each : ∀ i, i < len → ∃ z : α, W.cells? 0 (a.add (i * m)) m = some (f z) ∧ Q z := fun i hi => by
   obtain ⟨cs', h1, h2⟩ := hx i (by omega)
   rw [hc] at h1
   obtain ⟨z, rfl, hq⟩ := hel _ _ _ h2
   exact ⟨z, h1, hq⟩
  obtain ⟨T, hT⟩ := choose_lt each
  have hll : ((List.range len).map T).length = len := by simp
  refine ⟨(List.range len).map T, ?_, ?_, fun k c h => (by injection h with h1; cases h1), by rw [hll]; unfold maxLen at hmx; omega⟩
  ·by_cases h0 : len = 0
   ·subst h0
    exact .inl ⟨rfl, rfl, _, _, rfl⟩
   ·obtain ⟨_, _, hat0⟩ := World.cells?_some (hT 0 (by omega)).1
    have hs0 : a.spot = none := by
     have := hat0 0 (by omega)
     rw [List.getElem?_eq_getElem (by rw [hf]; omega)] at this
     have e : (a.add (0 * m)).add 0 = a.add 0 := by simp [Addr.add]
     rw [e] at this
     exact spot_none8 this
    have hcell : ∀ i, i < len → ∀ j, j < m → ∃ u, (f (T i))[j]? = some u ∧ W.cell? ⟨a.block, a.off + i * m + j, none⟩ = some u := fun i hi j hj => by
     obtain ⟨_, _, hat⟩ := World.cells?_some (hT i hi).1
     have := hat j (by omega)
     rw [List.getElem?_eq_getElem (by rw [hf]; omega)] at this
     exact ⟨_, List.getElem?_eq_getElem (by rw [hf]; omega), add_spot8 a (i * m) j this hs0⟩
    refine .inr ⟨a.block, a.off, cap, ?_, ?_, fun k u hk => ?_⟩
    ·rw [hll]
     obtain ⟨b, o, sp⟩ := a
     simp only at hs0
     subst hs0
     rfl
    ·obtain ⟨u, _, hu⟩ := hcell 0 (by omega) 0 hm
     have := World.block_lt_of_cell? W _ hu
     exact this
    ·have hkl := (List.getElem?_eq_some_iff.1 hk).1
     have hlen : (((List.range len).map T).flatMap f).length = len * m := by rw [flat_len8 f m hf, hll]
     rw [hlen] at hkl
     have hdm : k / m * m + k % m = k := by rw [Nat.mul_comm]; exact Nat.div_add_mod k m
     have hi : k / m < len := by
      rw [Nat.div_lt_iff_lt_mul hm]
      exact hkl
     have hj : k % m < m := Nat.mod_lt _ hm
     obtain ⟨u2, hu1, hu2⟩ := hcell (k / m) hi (k % m) hj
     have hfa := flat_at f m hf ((List.range len).map T) (k / m) (T (k / m)) (by simp [hi]) (k % m) hj
     rw [hdm, hk, hu1] at hfa
     have e : u = u2 := by simpa using hfa
     rw [e, ← hu2]
     congr 2
     omega
  ·intro z hz
   obtain ⟨i, hi, rfl⟩ := List.mem_map.1 hz
   exact (hT i (List.mem_range.1 hi)).2
theorem funUnder : ∃ fs, Tryz.prog.underlying 81 = some (.struct fs) ∧ oneCellFields Tryz.prog fs = true ∧ fs.size = 2 ∧ (fs[0]?).map (·.type) = some 9 ∧ (fs[1]?).map (·.type) = some 3 :=
 ⟨_, Tryz.underlying81, by kernel_rfl, by kernel_rfl, by kernel_rfl, by kernel_rfl⟩
theorem cellsFun : Tryz.prog.cellsOf 81 = 2 := by kernel_rfl
theorem predUnder : ∃ fs, Tryz.prog.underlying 62 = some (.struct fs) ∧ oneCellFields Tryz.prog fs = true ∧ fs.size = 3 ∧ (fs[0]?).map (·.type) = some 9 ∧ (fs[1]?).map (·.type) = some 3 ∧ (fs[2]?).map (·.type) = some 3 :=
 ⟨_, Tryz.underlying62, by kernel_rfl, by kernel_rfl, by kernel_rfl, by kernel_rfl, by kernel_rfl⟩
theorem cellsPred : Tryz.prog.cellsOf 62 = 3 := by kernel_rfl
theorem obUnder : ∃ fs, Tryz.prog.underlying 29 = some (.struct fs) ∧ oneCellFields Tryz.prog fs = true ∧ fs.size = 4 ∧ (fs[0]?).map (·.type) = some 24 ∧ (fs[1]?).map (·.type) = some 25 ∧ (fs[2]?).map (·.type) = some 26 ∧ (fs[3]?).map (·.type) = some 27 :=
 ⟨_, Tryz.underlying29, by kernel_rfl, by kernel_rfl, by kernel_rfl, by kernel_rfl, by kernel_rfl, by kernel_rfl⟩
theorem cellsOb : Tryz.prog.cellsOf 29 = 4 := by kernel_rfl
theorem cellsStr8 : Tryz.prog.cellsOf 9 = 1 := by kernel_rfl
theorem insUnder8 : ∃ fs, Tryz.prog.underlying 51 = some (.struct fs) ∧ fs.size = 2 ∧ (fs[0]?).map (fun f => (f.type, f.offset)) = some (3, 0) ∧ (fs[1]?).map (fun f => (f.type, f.offset)) = some (49, 1) :=
 ⟨_, Tryz.underlying51, by kernel_rfl, by kernel_rfl, by kernel_rfl⟩
theorem cellsIns8 : Tryz.prog.cellsOf 51 = 5 := by kernel_rfl
theorem cellsFour8 : Tryz.prog.cellsOf 49 = 4 := by kernel_rfl
theorem cellsInt8 : Tryz.prog.cellsOf 3 = 1 := by kernel_rfl
theorem five_of8 {l : List Value} (h : l.length = 5) : ∃ a b c d e, l = [a, b, c, d, e] := by
 match l, h with
 | [a, b, c, d, e], _ => exact ⟨a, b, c, d, e, rfl⟩
set_option maxRecDepth 100000 in
theorem ins_in8 {fuel : Nat} {cs : List Value} {x : DataW H × List MemPlace} (h : DataW.trod enc Tryz.prog W 0 (fun _ => true) true fuel 51 cs = some x) : ∃ i : Ins, cs = insC i ∧ True := by
 obtain ⟨fs, hfs, hsz, t0, t1⟩ := insUnder8
 obtain ⟨xs, n, rfl, _, hcl, hxl, hf⟩ := DataW.trod_struct hfs h
 rw [cellsIns8] at hcl
 obtain ⟨c0, c1, c2, c3, c4, rfl⟩ := five_of8 hcl
 have hx0 : ∃ y, xs[0]? = some y := ⟨_, List.getElem?_eq_getElem (by omega)⟩
 have hx1 : ∃ y, xs[1]? = some y := ⟨_, List.getElem?_eq_getElem (by omega)⟩
 obtain ⟨y0, hy0⟩ := hx0
 obtain ⟨y1, hy1⟩ := hx1
 obtain ⟨f0, hf0, e0⟩ := Option.map_eq_some_iff.1 t0
 obtain ⟨f1, hf1, e1⟩ := Option.map_eq_some_iff.1 t1
 have g0 := hf 0 f0 hf0
 have g1 := hf 1 f1 hf1
 simp only [Prod.mk.injEq] at e0 e1
 rw [e0.1, e0.2, hy0, cellsInt8] at g0
 rw [e1.1, e1.2, hy1, cellsFour8] at g1
 simp only [List.drop_zero, List.take_succ_cons, List.take_zero, List.drop_succ_cons] at g0 g1
 obtain ⟨z1, z2, z3, z4, m, _, h1, h2, h3, h4⟩ := trod_array4 Tryz.underlying49 cellsInt8 g1
 obtain ⟨op, k0, _, _⟩ := DataW.trod_int Tryz.underlying3 g0
 obtain ⟨a, k1, _, _⟩ := DataW.trod_int Tryz.underlying3 h1
 obtain ⟨b, k2, _, _⟩ := DataW.trod_int Tryz.underlying3 h2
 obtain ⟨c, k3, _, _⟩ := DataW.trod_int Tryz.underlying3 h3
 obtain ⟨d, k4, _, _⟩ := DataW.trod_int Tryz.underlying3 h4
 simp only [List.cons.injEq, and_true] at k0 k1 k2 k3 k4
 subst k0 k1 k2 k3 k4
 exact ⟨(op, a, b, c, d), rfl, trivial⟩
theorem str_in {fuel : Nat} {cs : List Value} {x : DataW H × List MemPlace} (h : DataW.trod enc Tryz.prog W 0 (fun _ => true) true fuel 9 cs = some x) : ∃ s : ByteArray, cs = [.string s] ∧ s.size ≤ maxLen := by
 obtain ⟨s, hs, _, hss⟩ := DataW.trod_string Tryz.underlying9 h
 exact ⟨s, hs, hss⟩
theorem fun_in {fuel : Nat} {cs : List Value} {x : DataW H × List MemPlace} (h : DataW.trod enc Tryz.prog W 0 (fun _ => true) true fuel 81 cs = some x) : ∃ f : ByteArray × Int, cs = funC f ∧ f.1.size ≤ maxLen := by
 obtain ⟨fs, hfs, hone, hsz, t0, t1⟩ := funUnder
 obtain ⟨hl, n, hf⟩ := one_fields hfs hone (by rw [cellsFun, hsz]) h
 rw [hsz] at hl
 obtain ⟨f0, hf0, e0⟩ := Option.map_eq_some_iff.1 t0
 obtain ⟨f1, hf1, e1⟩ := Option.map_eq_some_iff.1 t1
 obtain ⟨v0, y0, c0, d0⟩ := hf 0 f0 hf0
 obtain ⟨v1, y1, c1, d1⟩ := hf 1 f1 hf1
 rw [e0] at d0
 rw [e1] at d1
 obtain ⟨s, hs, _, hss⟩ := DataW.trod_string Tryz.underlying9 d0
 obtain ⟨k, hk, _, _⟩ := DataW.trod_int Tryz.underlying3 d1
 simp only [List.cons.injEq, and_true] at hs hk
 subst hs hk
 match cs, hl with
 | [a, b], _ =>
  simp at c0 c1
  subst c0 c1
  exact ⟨(s, k), rfl, hss⟩
theorem pred_in {fuel : Nat} {cs : List Value} {x : DataW H × List MemPlace} (h : DataW.trod enc Tryz.prog W 0 (fun _ => true) true fuel 62 cs = some x) : ∃ p : ByteArray × Int × Int, cs = predC p ∧ p.1.size ≤ maxLen := by
 obtain ⟨fs, hfs, hone, hsz, t0, t1, t2⟩ := predUnder
 obtain ⟨hl, n, hf⟩ := one_fields hfs hone (by rw [cellsPred, hsz]) h
 rw [hsz] at hl
 obtain ⟨f0, hf0, e0⟩ := Option.map_eq_some_iff.1 t0
 obtain ⟨f1, hf1, e1⟩ := Option.map_eq_some_iff.1 t1
 obtain ⟨f2, hf2, e2⟩ := Option.map_eq_some_iff.1 t2
 obtain ⟨v0, y0, c0, d0⟩ := hf 0 f0 hf0
 obtain ⟨v1, y1, c1, d1⟩ := hf 1 f1 hf1
 obtain ⟨v2, y2, c2, d2⟩ := hf 2 f2 hf2
 rw [e0] at d0
 rw [e1] at d1
 rw [e2] at d2
 obtain ⟨s, hs, _, hss⟩ := DataW.trod_string Tryz.underlying9 d0
 obtain ⟨k, hk, _, _⟩ := DataW.trod_int Tryz.underlying3 d1
 obtain ⟨m, hm, _, _⟩ := DataW.trod_int Tryz.underlying3 d2
 simp only [List.cons.injEq, and_true] at hs hk hm
 subst hs hk hm
 match cs, hl with
 | [a, b, c], _ =>
  simp at c0 c1 c2
  subst c0 c1 c2
  exact ⟨(s, k, m), rfl, hss⟩
theorem ob_in {fuel : Nat} {cs : List Value} {x : DataW H × List MemPlace} (h : DataW.trod enc Tryz.prog W 0 (fun _ => true) true fuel 29 cs = some x) :
  ∃ (o : Ob) (va vf vp vc : Value), cs = [va, vf, vp, vc] ∧ ObAt W va vf vp vc o ∧ (∀ s ∈ o.atoms, s.size ≤ maxLen) ∧ (∀ f ∈ o.funs, f.1.size ≤ maxLen) ∧ (∀ p ∈ o.preds, p.1.size ≤ maxLen) ∧ (∀ k c, va = .slice none k c → c = 0) ∧ (∀ k c, vp = .slice none k c → c = 0) ∧ (o.atoms.length ≤ 9223372036854775807 ∧ o.funs.length ≤ 9223372036854775807 ∧ o.preds.length ≤ 9223372036854775807 ∧ o.code.length ≤ 9223372036854775807) := by
 obtain ⟨fs, hfs, hone, hsz, t0, t1, t2, t3⟩ := obUnder
 obtain ⟨hl, n, hf⟩ := one_fields hfs hone (by rw [cellsOb, hsz]) h
 rw [hsz] at hl
 obtain ⟨f0, hf0, e0⟩ := Option.map_eq_some_iff.1 t0
 obtain ⟨f1, hf1, e1⟩ := Option.map_eq_some_iff.1 t1
 obtain ⟨f2, hf2, e2⟩ := Option.map_eq_some_iff.1 t2
 obtain ⟨f3, hf3, e3⟩ := Option.map_eq_some_iff.1 t3
 obtain ⟨v0, y0, c0, d0⟩ := hf 0 f0 hf0
 obtain ⟨v1, y1, c1, d1⟩ := hf 1 f1 hf1
 obtain ⟨v2, y2, c2, d2⟩ := hf 2 f2 hf2
 obtain ⟨v3, y3, c3, d3⟩ := hf 3 f3 hf3
 rw [e0] at d0
 rw [e1] at d1
 rw [e2] at d2
 rw [e3] at d3
 obtain ⟨la, ha, qa, na, ka⟩ := rows_in (fun s : ByteArray => [Value.string s]) 1 (fun _ => rfl) (by omega) (fun s => s.size ≤ maxLen) Tryz.underlying24 cellsStr8 (fun n cs' y h => str_in h) d0
 obtain ⟨lf, hf', qf, _, kf⟩ := rows_in funC 2 (fun _ => rfl) (by omega) (fun f => f.1.size ≤ maxLen) Tryz.underlying25 cellsFun (fun n cs' y h => fun_in h) d1
 obtain ⟨lp, hp, qp, np, kp⟩ := rows_in predC 3 (fun _ => rfl) (by omega) (fun p => p.1.size ≤ maxLen) Tryz.underlying26 cellsPred (fun n cs' y h => pred_in h) d2
 obtain ⟨lc, hc, _, _, kc⟩ := rows_in insC 5 (fun _ => rfl) (by omega) (fun _ => True) Tryz.underlying27 cellsIns8 (fun n cs' y h => ins_in8 h) d3
 have ha' : AtomsAt W v0 la := by
  unfold AtomsAt
  rw [← flat_one8]
  exact ha
 match cs, hl with
 | [a, b, c, d], _ =>
  simp at c0 c1 c2 c3
  subst c0 c1 c2 c3
  exact ⟨⟨la, lf, lp, lc⟩, _, _, _, _, rfl, ⟨ha', hf', hp, hc⟩, qa, qf, qp, na, np, ka, kf, kp, kc⟩
end
end Go.Proofs.YtclkdlegogjnbaaGreatDoor
