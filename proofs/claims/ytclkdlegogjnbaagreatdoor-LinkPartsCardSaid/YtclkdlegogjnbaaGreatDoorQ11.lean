/-
  6 texts in one (ObjJ ObjK ObjN ObjP ObjQ ObjU). Conditions: those of each theorem.
-/
import Derived.Test.YtclkdlegogjnbaaGreatDoorQ10
import Derived.Lib.SlBytesConst
import Derived.Laws.IdiomStrings
import Derived.Deep.QuietTactic
import Derived.BigQuiet
import Derived.Deep.RegionLaw
namespace Go.Proofs.YtclkdlegogjnbaaGreatDoor
open Go Go.RowKit Go.WideShapes Go.ChangeShapes
set_option linter.unusedVariables false
set_option linter.unusedSimpArgs false

/-- The bytes, or none. -/
def encodeOf (o : Ob) : List Nat := if checkOf o = 0 then bytesL o else []

theorem BysAt.below {w w' : World} {v : Value} {l : List Nat} (h : BysAt w v l) (hb : Below w.heap.size w w') : BysAt w' v l := by
  rcases h with h | ⟨b, off, c, rfl, hc⟩
  · exact .inl h
  · exact .inr ⟨b, off, c, rfl, fun k hk => (hb.cell (p := ⟨b, off + k, none⟩) (World.block_lt_of_cell? w _ (hc k hk))).trans (hc k hk)⟩
/-- What Encode keeps. -/
structure Ec (w wr : World) (g : Nat) (cs : Array Value) (vs : Value) (pre : List Nat) : Prop where
  row : Row wr w.heap.size vs pre
  box : Box wr g 39 cs
  ne : vs.ownBlock ≠ some g
  below : Below w.heap.size w wr
theorem Ec.up {w wr w' : World} {g : Nat} {cs : Array Value} {vs v' : Value} {pre pre' : List Nat} (h : Ec w wr g cs vs pre) (hg : Grows wr w' w.heap.size vs v' pre') : Ec w w' g cs v' pre' :=
  ⟨hg.own, (hg.box h.box h.ne).1, (hg.box h.box h.ne).2, h.below.trans (hg.below h.row h.below.size)⟩
theorem Ec.cells {w wr : World} {g : Nat} {a b c d : Value} {vs : Value} {pre : List Nat} (h : Ec w wr g #[a, b, c, d] vs pre) : wr.cell? ⟨g, 0, none⟩ = some a ∧ wr.cell? ⟨g, 1, none⟩ = some b ∧ wr.cell? ⟨g, 2, none⟩ = some c ∧ wr.cell? ⟨g, 3, none⟩ = some d :=
  ⟨h.box.cell 0, h.box.cell 1, h.box.cell 2, h.box.cell 3⟩
theorem Ec.pre {w wr : World} {g : Nat} {cs : Array Value} {vs : Value} {pre pre' : List Nat} (h : Ec w wr g cs vs pre) (e : pre = pre') : Ec w wr g cs vs pre' := e ▸ h

end Go.Proofs.YtclkdlegogjnbaaGreatDoor

namespace Go.Proofs.YtclkdlegogjnbaaGreatDoor
open Go Go.RowKit Go.WideShapes Go.ChangeShapes
set_option linter.unusedVariables false
set_option linter.unusedSimpArgs false

/-- A slice, nil or of a block, whose cells hold these bytes. -/
def BysIn (w : World) (v : Value) (l : List Nat) : Prop :=
  (l = [] ∧ v = .slice none 0 0) ∨
    ∃ b off c, v = .slice (some ⟨b, off, none⟩) l.length c ∧ l.length ≤ c ∧ c ≤ 9223372036854775807 ∧ b < w.heap.size ∧ ∀ k, k < l.length → w.cell? ⟨b, off + k, none⟩ = some (.int .u8 ((l.getD k 0 : Nat) : Int))
theorem BysIn.below {w w' : World} {v : Value} {l : List Nat} (h : BysIn w v l) (hb : Below w.heap.size w w') : BysIn w' v l := by
  rcases h with h | ⟨b, off, c, rfl, h1, h2, h3, hc⟩
  · exact .inl h
  · exact .inr ⟨b, off, c, rfl, h1, h2, Nat.lt_of_lt_of_le h3 hb.size, fun k hk => (hb.cell (p := ⟨b, off + k, none⟩) h3).trans (hc k hk)⟩
theorem BysIn.form {w : World} {v : Value} {l : List Nat} (h : BysIn w v l) : ∃ A c, v = .slice A l.length c := by
  rcases h with ⟨rfl, rfl⟩ | ⟨b, off, c, rfl, _⟩
  · exact ⟨_, _, rfl⟩
  · exact ⟨_, _, rfl⟩

end Go.Proofs.YtclkdlegogjnbaaGreatDoor

namespace Go.Proofs.YtclkdlegogjnbaaGreatDoor
open Go Go.RowKit Go.WideShapes Go.ChangeShapes
set_option linter.unusedVariables false
set_option linter.unusedSimpArgs false

theorem slStr : SlT 24 9 1 16 := ⟨Tryz.underlying24, ⟨.string ⟨#[]⟩, by kernel_rfl, rfl⟩, by decide, by decide⟩
theorem slPred : SlT 36 64 3 32 := ⟨Tryz.underlying36, ⟨.agg #[.string ⟨#[]⟩, .int .i64 0, .int .i64 0], by kernel_rfl, rfl⟩, by decide, by decide⟩

theorem step_of_append {P : Program} {ops : Array Oper} {o : Oper} {a : Act} {w : World} {K : Act → World → Prop} {Q : Exit → Act → World → Prop} {E : Prop} {t t2 : TypeId} {v u v' : Value} {w' : World}
    (hr : (Builtin.append_ #[t, t2] o.type #[v, u]).run P w = .ok v' w') (hgd : o.guard = none) (s x : Operand)
    (ho : o.op = .call { callee := .builtin .append, args := #[s, x], argTypes := #[t, t2] }) (hs : a.eval s = v) (hx : a.eval x = u)
    (h : K (a.put o.dst v') w') :
    if Region.wanted o (yielded ops a.tmps) = true then Oper.wp P o a w K Q else E := by
  have hw : Region.wanted o (yielded ops a.tmps) = true := by simp [Region.wanted, hgd]
  rw [if_pos hw]
  unfold Oper.wp execOp
  simp only [ho, resolve, invoke, builtin, Sem.run_bind, Sem.run_pure, Result.andThen_ok, List.map_toArray, List.map_cons, List.map_nil, hs, hx, hr]
  exact h

section
variable {w0 w1 wr w' w6 : World} {R g : Nat} {r r' : Rd} {va vf vp v6 : Value} {la : List ByteArray} {lf : List (ByteArray × Int)} {lp : List (ByteArray × Int × Int)}
end

/-- How far a row has come. -/
def Part {α : Type} (f : Rd → α × Rd) (n j : Nat) (r r' : Rd) (l : List α) : Prop := l.length + j = n ∧ l ++ (manyR f j r').1 = (manyR f n r).1 ∧ (manyR f j r').2 = (manyR f n r).2
theorem Part.start {α : Type} (f : Rd → α × Rd) (n : Nat) (r : Rd) : Part f n n r r [] := ⟨by simp, rfl, rfl⟩
theorem Part.step {α : Type} {f : Rd → α × Rd} {n j : Nat} {r r' : Rd} {l : List α} (h : Part f n (j + 1) r r' l) : Part f n j r (f r').2 (l ++ [(f r').1]) :=
  ⟨by have := h.1; simp; omega, by rw [← h.2.1, manyR]; simp, by rw [← h.2.2]; rfl⟩
theorem Part.done {α : Type} {f : Rd → α × Rd} {n : Nat} {r r' : Rd} {l : List α} (h : Part f n 0 r r' l) : manyR f n r = (l, r') := by
  refine Prod.ext ?_ h.2.2.symm
  have := h.2.1
  rw [manyR, List.append_nil] at this
  exact this.symm

end Go.Proofs.YtclkdlegogjnbaaGreatDoor

namespace Go.Proofs.YtclkdlegogjnbaaGreatDoor
open Go Go.RowKit Go.WideShapes Go.ChangeShapes
set_option linter.unusedVariables false
set_option linter.unusedSimpArgs false

theorem slIns : SlT 37 52 5 40 := ⟨Tryz.underlying37, ⟨.agg #[.int .i64 0, .int .i64 0, .int .i64 0, .int .i64 0, .int .i64 0], by kernel_rfl, rfl⟩, by decide, by decide⟩

section
variable {w0 w wr w' w8 w6 : World} {R g gO : Nat} {r r' : Rd} {va vf vp vc v6 : Value} {lc : List Ins}
end

/-- An object's slices lie in new memory. -/
def NewOb (B : Nat) (va vf vp vc : Value) : Prop := ∀ v ∈ [va, vf, vp, vc], ∀ k, v.ownBlock = some k → B ≤ k
theorem CellsAt.fr {w w' : World} {S : Nat → Prop} {v : Value} {n : Nat} {cs : List Value} (h : CellsAt w v n cs) (hf : Fr S w w') (hn : ∀ k, v.ownBlock = some k → ¬ S k) : CellsAt w' v n cs := by
  rcases h with h | ⟨b, off, c, rfl, hl, hc⟩
  · exact .inl h
  · exact .inr ⟨b, off, c, rfl, Nat.lt_of_lt_of_le hl hf.size, fun k u hk => (World.cell?_of_block (w := w) (hf.block b hl (hn b rfl))).trans (hc k u hk)⟩

def arr4 (ls : List Nat) : Array Value := #[.int .i64 (ls.getD 0 0 : Nat), .int .i64 (ls.getD 1 0 : Nat), .int .i64 (ls.getD 2 0 : Nat), .int .i64 (ls.getD 3 0 : Nat)]
/-- How far the code has come. -/
def PartC (n j : Nat) (r r' : Rd) (l : List Ins) : Prop := l.length + j = n ∧ codeR n r = match codeR j r' with
  | none => none
  | some (m, r'') => some (l ++ m, r'')
theorem PartC.start (n : Nat) (r : Rd) : PartC n n r r [] := ⟨by simp, by cases codeR n r <;> rfl⟩
theorem PartC.step {n j : Nat} {r r' r2 : Rd} {l : List Ins} {i : Ins} (h : PartC n (j + 1) r r' l) (hi : insR r' = some (i, r2)) : PartC n j r r2 (l ++ [i]) := by
  refine ⟨by have := h.1; simp; omega, ?_⟩
  rw [h.2, codeR, hi]
  cases hc : codeR j r2 with
  | none => simp [hc]
  | some x => simp [hc]
theorem PartC.bad {n j : Nat} {r r' : Rd} {l : List Ins} (h : PartC n (j + 1) r r' l) (hi : insR r' = none) : codeR n r = none := by
  rw [h.2, codeR, hi]
theorem PartC.done {n : Nat} {r r' : Rd} {l : List Ins} (h : PartC n 0 r r' l) : codeR n r = some (l, r') := by
  rw [h.2, codeR]
  simp

/-- The object reader, from behind its first bytes. -/
def restR (a f p c : Nat) (r4 : Rd) : Except Int (Ob × Rd) :=
  if r4.short = true then .error 3
  else if bigB a f p c then .error 2
  else match codeR c (manyR predR p (manyR funR f (manyR nameR a r4).2).2).2 with
    | none => .error 8
    | some (l4, r5) => if r5.short = true then .error 3 else .ok (⟨(manyR nameR a r4).1, (manyR funR f (manyR nameR a r4).2).1, (manyR predR p (manyR funR f (manyR nameR a r4).2).2).1, l4⟩, r5)
end Go.Proofs.YtclkdlegogjnbaaGreatDoor

namespace Go.Proofs.YtclkdlegogjnbaaGreatDoor
open Go Go.RowKit Go.WideShapes Go.ChangeShapes
set_option linter.unusedVariables false
set_option linter.unusedSimpArgs false

theorem bdrew1 (W : World) : Below W.heap.size W W.drew := ⟨rfl, rfl, rfl, Nat.le_refl _, fun _ _ => rfl⟩

end Go.Proofs.YtclkdlegogjnbaaGreatDoor

namespace Go.Proofs.YtclkdlegogjnbaaGreatDoor
open Go Go.RowKit Go.WideShapes Go.ChangeShapes
set_option linter.unusedVariables false
set_option linter.unusedSimpArgs false

theorem app_src {t e : TypeId} {size bytes : Nat} (T : SlT t e size bytes) {wr : World} {base n m : Nat} {v u : Value} {xs news : List Value} (hown : wr.ownsRow base e size v n xs) (hu : CellsAt wr u m news) (hl : news.length = m * size)
    (h1 : ∀ u ∈ news, u.oneCell' = true) (hn : n + m ≤ 1000000) (hbase : base ≤ wr.heap.size) (hnil : ∀ k c, u = .slice none k c → c = 0) (ty : TypeId) :
    ∃ v' w', (Builtin.append_ #[t, t] ty #[v, u]).run Tryz.prog wr = .ok v' w' ∧ Hid (App wr w' base e size v v' (n + m) (xs ++ news)) := by
  obtain ⟨z, hi, hzs⟩ := T.info
  obtain ⟨i, hi1, hz0, hz1, hz2⟩ := info_parts hi
  have hT := T.pos
  have hsm := T.small
  have hb : (n + m) * bytes ≤ 140737488355328 := Nat.le_trans (Nat.mul_le_mul hn hsm) (by decide)
  have fin : ∀ (ad : Addr) c, u = .slice (some ad) m c → (∀ j x, news[j]? = some x → wr.cell? (ad.add j) = some x) → ∃ v' w', (Builtin.append_ #[t, t] ty #[v, u]).run Tryz.prog wr = .ok v' w' ∧ Hid (App wr w' base e size v v' (n + m) (xs ++ news)) := by
    intro ad c hu' hc
    subst hu'
    obtain ⟨v', w', hr, h2, h3, _, h5⟩ := run_append_own_at (P := Tryz.prog) wr base t ty e i z size bytes T.und hi1 hz0 hz1 hz2 hzs T.pos v n xs hown ad m c news hl hc h1 (by unfold maxLen; omega) hb hbase
    exact ⟨v', w', hr, Lib.hid ⟨h2, Fr.of_grown h3 fun _ _ e => e, h5.imp id fun h => ⟨_, h, Nat.le_refl _⟩, own_form h2 |>.imp fun _ ⟨c, h, _⟩ => ⟨c, h⟩⟩⟩
  rcases hu with ⟨rfl, rfl, A, c, rfl⟩ | ⟨b, off, c, rfl, hlt, hc⟩
  · cases A with
    | none =>
      have hr := run_append_owned_none (P := Tryz.prog) wr base t ty e i size T.und hi1 v n xs hown
      obtain rfl := hnil 0 c rfl
      exact ⟨v, wr, hr, Lib.hid ⟨by simpa using hown, Fr.refl _ _, .inl rfl, own_form hown |>.imp fun _ ⟨c, h, _⟩ => ⟨c, h⟩⟩⟩
    | some ad => exact fin ad c rfl (fun j x hj => by simp at hj)
  · exact fin ⟨b, off, none⟩ c rfl (fun j x hj => by rw [add_plain]; exact hc j x hj)

/-- What a round of To keeps. -/
structure Tq (w wr : World) (g1 g2 g3 : Nat) (us : Array Value) (va vf vp vc : Value) (la : List ByteArray) (lf : List (ByteArray × Int)) (lp : List (ByteArray × Int × Int)) (lc : List Ins) : Prop where
  b1 : Box wr g1 29 us
  b2 : Box wr g2 39 #[.slice none 0 0, .slice none 0 0, .slice none 0 0, .slice none 0 0]
  b3 : Box wr g3 39 #[va, vf, vp, vc]
  ra : wr.ownsRow w.heap.size 9 1 va la.length (la.map Value.string)
  rf : wr.ownsRow w.heap.size 82 2 vf lf.length (lf.flatMap funC)
  rp : wr.ownsRow w.heap.size 64 3 vp lp.length (lp.flatMap predC)
  rc : wr.ownsRow w.heap.size 52 5 vc lc.length (lc.flatMap insC)
  below : Below w.heap.size w wr
  lt : w.heap.size ≤ g1 ∧ w.heap.size ≤ g2 ∧ w.heap.size ≤ g3 ∧ g1 ≠ g3 ∧ g2 ≠ g3
section
variable {w wr w' w6 : World} {g1 g2 g3 : Nat} {us : Array Value} {va vf vp vc v6 : Value} {la : List ByteArray} {lf : List (ByteArray × Int)} {lp : List (ByteArray × Int × Int)} {lc : List Ins}
theorem Tq.up (h : Tq w wr g1 g2 g3 us va vf vp vc la lf lp lc) (hb : Below wr.heap.size wr w') : Tq w w' g1 g2 g3 us va vf vp vc la lf lp lc :=
  ⟨h.b1.below hb h.b1.lt, h.b2.below hb h.b2.lt, h.b3.below hb h.b3.lt, own_fr (S := fun _ => False) h.ra (Fr.of_below hb) (fun _ _ x => x), own_fr (S := fun _ => False) h.rf (Fr.of_below hb) (fun _ _ x => x),
    own_fr (S := fun _ => False) h.rp (Fr.of_below hb) (fun _ _ x => x), own_fr (S := fun _ => False) h.rc (Fr.of_below hb) (fun _ _ x => x), h.below.trans (hb.mono h.below.size), h.lt⟩
theorem Tq.putf {s : ByteArray} {n : Int} (h : Tq w wr g1 g2 g3 us va vf vp vc la lf lp lc) (ha : App wr w6 w.heap.size 82 2 vf v6 (lf.length + 1) (lf.flatMap funC ++ [.string s, .int .i64 n])) :
    Tq w (w6.setCell ⟨g3, 1, none⟩ v6) g1 g2 g3 us va v6 vp vc la (lf ++ [(s, n)]) lp lc ∧ w6.cell? ⟨g3, 1, none⟩ = some vf ∧ w6.frozen? ⟨g3, 1, none⟩ = false := by
  have hb3 := h.b3.fr ha.fr (fun e => own_ne_box h.rf h.b3 (by decide) _ e rfl)
  have hb1 := h.b1.fr ha.fr (fun e => own_ne_box h.rf h.b1 (by decide) _ e rfl)
  have hb2 := h.b2.fr ha.fr (fun e => own_ne_box h.rf h.b2 (by decide) _ e rfl)
  refine ⟨⟨hb1.far (by show g1 ≠ g3; exact h.lt.2.2.2.1) _, hb2.far (by show g2 ≠ g3; exact h.lt.2.2.2.2) _, ?_, own_set_far (own_fr h.ra ha.fr (fun k hk e => own_ne_own h.ra h.rf (by decide) k hk e)) (p := ⟨g3, 1, none⟩) (fun k hk => own_ne_box (own_fr h.ra ha.fr (fun k hk e => own_ne_own h.ra h.rf (by decide) k hk e)) hb3 (by decide) k hk) v6, (by have h2 := own_set_far ha.own (p := ⟨g3, 1, none⟩) (fun k hk => own_ne_box ha.own hb3 (by decide) k hk) v6; rw [List.length_append, List.flatMap_append]; simpa [funC, predC, insC] using h2), own_set_far (own_fr h.rp ha.fr (fun k hk e => own_ne_own h.rp h.rf (by decide) k hk e)) (p := ⟨g3, 1, none⟩) (fun k hk => own_ne_box (own_fr h.rp ha.fr (fun k hk e => own_ne_own h.rp h.rf (by decide) k hk e)) hb3 (by decide) k hk) v6, own_set_far (own_fr h.rc ha.fr (fun k hk e => own_ne_own h.rc h.rf (by decide) k hk e)) (p := ⟨g3, 1, none⟩) (fun k hk => own_ne_box (own_fr h.rc ha.fr (fun k hk e => own_ne_own h.rc h.rf (by decide) k hk e)) hb3 (by decide) k hk) v6, (h.below.trans (ha.fr.below h.below.size (fun k hk => (own_ge h.rf hk).1))).setCell (p := ⟨g3, 1, none⟩) h.lt.2.2.1 _, h.lt⟩, hb3.cell 1, hb3.frozen 1⟩
  have := hb3.set_ 1 v6
  simpa using this
theorem Tq.putp {s : ByteArray} {n m : Int} (h : Tq w wr g1 g2 g3 us va vf vp vc la lf lp lc) (ha : App wr w6 w.heap.size 64 3 vp v6 (lp.length + 1) (lp.flatMap predC ++ [.string s, .int .i64 n, .int .i64 m])) :
    Tq w (w6.setCell ⟨g3, 2, none⟩ v6) g1 g2 g3 us va vf v6 vc la lf (lp ++ [(s, n, m)]) lc ∧ w6.cell? ⟨g3, 2, none⟩ = some vp ∧ w6.frozen? ⟨g3, 2, none⟩ = false := by
  have hb3 := h.b3.fr ha.fr (fun e => own_ne_box h.rp h.b3 (by decide) _ e rfl)
  have hb1 := h.b1.fr ha.fr (fun e => own_ne_box h.rp h.b1 (by decide) _ e rfl)
  have hb2 := h.b2.fr ha.fr (fun e => own_ne_box h.rp h.b2 (by decide) _ e rfl)
  refine ⟨⟨hb1.far (by show g1 ≠ g3; exact h.lt.2.2.2.1) _, hb2.far (by show g2 ≠ g3; exact h.lt.2.2.2.2) _, ?_, own_set_far (own_fr h.ra ha.fr (fun k hk e => own_ne_own h.ra h.rp (by decide) k hk e)) (p := ⟨g3, 2, none⟩) (fun k hk => own_ne_box (own_fr h.ra ha.fr (fun k hk e => own_ne_own h.ra h.rp (by decide) k hk e)) hb3 (by decide) k hk) v6, own_set_far (own_fr h.rf ha.fr (fun k hk e => own_ne_own h.rf h.rp (by decide) k hk e)) (p := ⟨g3, 2, none⟩) (fun k hk => own_ne_box (own_fr h.rf ha.fr (fun k hk e => own_ne_own h.rf h.rp (by decide) k hk e)) hb3 (by decide) k hk) v6, (by have h2 := own_set_far ha.own (p := ⟨g3, 2, none⟩) (fun k hk => own_ne_box ha.own hb3 (by decide) k hk) v6; rw [List.length_append, List.flatMap_append]; simpa [funC, predC, insC] using h2), own_set_far (own_fr h.rc ha.fr (fun k hk e => own_ne_own h.rc h.rp (by decide) k hk e)) (p := ⟨g3, 2, none⟩) (fun k hk => own_ne_box (own_fr h.rc ha.fr (fun k hk e => own_ne_own h.rc h.rp (by decide) k hk e)) hb3 (by decide) k hk) v6, (h.below.trans (ha.fr.below h.below.size (fun k hk => (own_ge h.rp hk).1))).setCell (p := ⟨g3, 2, none⟩) h.lt.2.2.1 _, h.lt⟩, hb3.cell 2, hb3.frozen 2⟩
  have := hb3.set_ 2 v6
  simpa using this
theorem Tq.putc {i0 i1 i2 i3 i4 : Int} (h : Tq w wr g1 g2 g3 us va vf vp vc la lf lp lc) (ha : App wr w6 w.heap.size 52 5 vc v6 (lc.length + 1) (lc.flatMap insC ++ [.int .i64 i0, .int .i64 i1, .int .i64 i2, .int .i64 i3, .int .i64 i4])) :
    Tq w (w6.setCell ⟨g3, 3, none⟩ v6) g1 g2 g3 us va vf vp v6 la lf lp (lc ++ [(i0, i1, i2, i3, i4)]) ∧ w6.cell? ⟨g3, 3, none⟩ = some vc ∧ w6.frozen? ⟨g3, 3, none⟩ = false := by
  have hb3 := h.b3.fr ha.fr (fun e => own_ne_box h.rc h.b3 (by decide) _ e rfl)
  have hb1 := h.b1.fr ha.fr (fun e => own_ne_box h.rc h.b1 (by decide) _ e rfl)
  have hb2 := h.b2.fr ha.fr (fun e => own_ne_box h.rc h.b2 (by decide) _ e rfl)
  refine ⟨⟨hb1.far (by show g1 ≠ g3; exact h.lt.2.2.2.1) _, hb2.far (by show g2 ≠ g3; exact h.lt.2.2.2.2) _, ?_, own_set_far (own_fr h.ra ha.fr (fun k hk e => own_ne_own h.ra h.rc (by decide) k hk e)) (p := ⟨g3, 3, none⟩) (fun k hk => own_ne_box (own_fr h.ra ha.fr (fun k hk e => own_ne_own h.ra h.rc (by decide) k hk e)) hb3 (by decide) k hk) v6, own_set_far (own_fr h.rf ha.fr (fun k hk e => own_ne_own h.rf h.rc (by decide) k hk e)) (p := ⟨g3, 3, none⟩) (fun k hk => own_ne_box (own_fr h.rf ha.fr (fun k hk e => own_ne_own h.rf h.rc (by decide) k hk e)) hb3 (by decide) k hk) v6, own_set_far (own_fr h.rp ha.fr (fun k hk e => own_ne_own h.rp h.rc (by decide) k hk e)) (p := ⟨g3, 3, none⟩) (fun k hk => own_ne_box (own_fr h.rp ha.fr (fun k hk e => own_ne_own h.rp h.rc (by decide) k hk e)) hb3 (by decide) k hk) v6, (by have h2 := own_set_far ha.own (p := ⟨g3, 3, none⟩) (fun k hk => own_ne_box ha.own hb3 (by decide) k hk) v6; rw [List.length_append, List.flatMap_append]; simpa [funC, predC, insC] using h2), (h.below.trans (ha.fr.below h.below.size (fun k hk => (own_ge h.rc hk).1))).setCell (p := ⟨g3, 3, none⟩) h.lt.2.2.1 _, h.lt⟩, hb3.cell 3, hb3.frozen 3⟩
  have := hb3.set_ 3 v6
  simpa using this
end

theorem run_slice_ins (i0 i1 i2 i3 i4 : Int) (w : World) : (Instr.buildSlice 37 1 #[(0, .agg #[.int .i64 i0, .int .i64 i1, .int .i64 i2, .int .i64 i3, .int .i64 i4])]).run Tryz.prog w = .ok (.slice (some ⟨w.heap.size, 0, none⟩) 1 1) (w.alloc (.cells #[.int .i64 i0, .int .i64 i1, .int .i64 i2, .int .i64 i3, .int .i64 i4] 52)) := by kernel_rfl

theorem step_of_slice {P : Program} {ops : Array Oper} {o : Oper} {a : Act} {w : World} {K : Act → World → Prop} {Q : Exit → Act → World → Prop} {E : Prop} {t : TypeId} {len : Nat} {parts : Array (Nat × Value)} {v' : Value} {w' : World}
    (hr : (Instr.buildSlice t len parts).run P w = .ok v' w') (hgd : o.guard = none) (ps : Array (Nat × Operand)) (ho : o.op = .buildSlice t len ps) (hp : (ps.map fun (i, x) => (i, a.eval x)) = parts) (h : K (a.put o.dst v') w') :
    if Region.wanted o (yielded ops a.tmps) = true then Oper.wp P o a w K Q else E := by
  have hw : Region.wanted o (yielded ops a.tmps) = true := by simp [Region.wanted, hgd]
  rw [if_pos hw]
  subst hp
  unfold Oper.wp execOp
  simp only [ho, Sem.run_bind, Sem.run_pure, Result.andThen_ok, hr]
  exact h

/-- Four cells stored, and handed back alone. -/
theorem ret_one4 {P : Program} {fn : Func} {Q : Ending → World → Prop} {T : Array Value} {w2 : World} {G : Nat} {t : TypeId} {z0 z1 z2 z3 a b c d : Value} (hb : Box w2 G t #[z0, z1, z2, z3])
    (hres : ∀ W : World, W.cell? ⟨G, 0, none⟩ = some a → W.cell? ⟨G, 1, none⟩ = some b → W.cell? ⟨G, 2, none⟩ = some c → W.cell? ⟨G, 3, none⟩ = some d → (results fn T).run P W = .ok (.agg #[a, b, c, d]) W)
    (hQ : ∀ W : World, Box W G t #[a, b, c, d] → Fr (fun k => k = G) w2 W → Q (.returned (.agg #[a, b, c, d])) W) :
    bodyPost P fn Q .ret { tmps := T, defers := [] } ((((w2.setCell ⟨G, 0, none⟩ a).setCell ⟨G, 1, none⟩ b).setCell ⟨G, 2, none⟩ c).setCell ⟨G, 3, none⟩ d) := by
  have h4 : Box ((((w2.setCell ⟨G, 0, none⟩ a).setCell ⟨G, 1, none⟩ b).setCell ⟨G, 2, none⟩ c).setCell ⟨G, 3, none⟩ d) G t #[a, b, c, d] := by
    have := (((hb.set_ 0 a).set_ 1 b).set_ 2 c).set_ 3 d
    simpa using this
  have hf : Fr (fun k => k = G) w2 ((((w2.setCell ⟨G, 0, none⟩ a).setCell ⟨G, 1, none⟩ b).setCell ⟨G, 2, none⟩ c).setCell ⟨G, 3, none⟩ d) :=
    ((((Fr.refl (fun b => b = G) w2).setCell (p := ⟨G, 0, none⟩) (.inl rfl) _).setCell (p := ⟨G, 1, none⟩) (.inl rfl) _).setCell (p := ⟨G, 2, none⟩) (.inl rfl) _).setCell (p := ⟨G, 3, none⟩) (.inl rfl) _
  exact bodyPost_ret (hres _ (h4.cell 0) (h4.cell 1) (h4.cell 2) (h4.cell 3)) rfl (hQ _ h4 hf)

theorem own_nil {w : World} {base : Nat} {e : TypeId} {size n : Nat} {v : Value} {xs : List Value} (h : w.ownsRow base e size v n xs) : ∀ k c, v = .slice none k c → c = 0 := by
  intro k c hv
  rcases h.2 with ⟨h0, _⟩ | ⟨g, cap, cur, he, _⟩
  · rw [h0] at hv
    injection hv with _ _ h3
    exact h3.symm
  · rw [he] at hv
    injection hv with h1
    cases h1

theorem strs_one (l : List ByteArray) : ∀ u ∈ l.map Value.string, u.oneCell' = true := by
  intro u hu
  obtain ⟨s, _, rfl⟩ := List.mem_map.1 hu
  rfl

end Go.Proofs.YtclkdlegogjnbaaGreatDoor
