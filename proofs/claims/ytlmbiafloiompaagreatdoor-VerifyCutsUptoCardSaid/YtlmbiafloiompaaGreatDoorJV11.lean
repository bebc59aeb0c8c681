/-
  5 texts in one (ObjJ ObjK ObjN ObjP ObjQ). Conditions: those of each theorem.
-/
import Derived.Test.YtlmbiafloiompaaGreatDoorJV10
import Derived.Lib.SlBytesConst
import Derived.Laws.IdiomStrings
import Derived.Deep.QuietTactic
import Derived.BigQuiet
import Derived.Deep.RegionLaw
namespace Go.Proofs.YtlmbiafloiompaaGreatDoor
open Go Go.RowKit Go.WideShapes Go.ChangeShapes
set_option linter.unusedVariables false
set_option linter.unusedSimpArgs false

/-- The bytes, or none. -/
def encodeOf (o : Ob) : List Nat := if checkOf o = 0 then bytesL o else []

theorem BysAt.below {w w' : World} {v : Value} {l : List Nat} (h : BysAt w v l) (hb : Below w.heap.size w w') : BysAt w' v l := by
  rcases h with h | ⟨b, off, c, rfl, hc⟩
  · exact .inl h
  · exact .inr ⟨b, off, c, rfl, fun k hk => (hb.cell (p := ⟨b, off + k, none⟩) (World.block_lt_of_cell? w _ (hc k hk))).trans (hc k hk)⟩
/-- What Encode keeps. -/
structure Ec (w wr : World) (g : Nat) (cs : Array Value) (vs : Value) (pre : List Nat) : Prop where
  row : Row wr w.heap.size vs pre
  box : Box wr g 35 cs
  ne : vs.ownBlock ≠ some g
  below : Below w.heap.size w wr
theorem Ec.up {w wr w' : World} {g : Nat} {cs : Array Value} {vs v' : Value} {pre pre' : List Nat} (h : Ec w wr g cs vs pre) (hg : Grows wr w' w.heap.size vs v' pre') : Ec w w' g cs v' pre' :=
  ⟨hg.own, (hg.box h.box h.ne).1, (hg.box h.box h.ne).2, h.below.trans (hg.below h.row h.below.size)⟩
theorem Ec.cells {w wr : World} {g : Nat} {a b c d : Value} {vs : Value} {pre : List Nat} (h : Ec w wr g #[a, b, c, d] vs pre) : wr.cell? ⟨g, 0, none⟩ = some a ∧ wr.cell? ⟨g, 1, none⟩ = some b ∧ wr.cell? ⟨g, 2, none⟩ = some c ∧ wr.cell? ⟨g, 3, none⟩ = some d :=
  ⟨h.box.cell 0, h.box.cell 1, h.box.cell 2, h.box.cell 3⟩
theorem Ec.pre {w wr : World} {g : Nat} {cs : Array Value} {vs : Value} {pre pre' : List Nat} (h : Ec w wr g cs vs pre) (e : pre = pre') : Ec w wr g cs vs pre' := e ▸ h

end Go.Proofs.YtlmbiafloiompaaGreatDoor

namespace Go.Proofs.YtlmbiafloiompaaGreatDoor
open Go Go.RowKit Go.WideShapes Go.ChangeShapes
set_option linter.unusedVariables false
set_option linter.unusedSimpArgs false

/-- A slice, nil or of a block, whose cells hold these bytes. -/
def BysIn (w : World) (v : Value) (l : List Nat) : Prop :=
  (l = [] ∧ v = .slice none 0 0) ∨
    ∃ b off c, v = .slice (some ⟨b, off, none⟩) l.length c ∧ l.length ≤ c ∧ c ≤ 9223372036854775807 ∧ b < w.heap.size ∧ ∀ k, k < l.length → w.cell? ⟨b, off + k, none⟩ = some (.int .u8 ((l.getD k 0 : Nat) : Int))
theorem BysIn.below {w w' : World} {v : Value} {l : List Nat} (h : BysIn w v l) (hb : Below w.heap.size w w') : BysIn w' v l := by
  rcases h with h | ⟨b, off, c, rfl, h1, h2, h3, hc⟩
  · exact .inl h
  · exact .inr ⟨b, off, c, rfl, h1, h2, Nat.lt_of_lt_of_le h3 hb.size, fun k hk => (hb.cell (p := ⟨b, off + k, none⟩) h3).trans (hc k hk)⟩
theorem BysIn.form {w : World} {v : Value} {l : List Nat} (h : BysIn w v l) : ∃ A c, v = .slice A l.length c := by
  rcases h with ⟨rfl, rfl⟩ | ⟨b, off, c, rfl, _⟩
  · exact ⟨_, _, rfl⟩
  · exact ⟨_, _, rfl⟩

end Go.Proofs.YtlmbiafloiompaaGreatDoor

namespace Go.Proofs.YtlmbiafloiompaaGreatDoor
open Go Go.RowKit Go.WideShapes Go.ChangeShapes
set_option linter.unusedVariables false
set_option linter.unusedSimpArgs false

theorem slStr : SlT 22 9 1 16 := ⟨Tryz.underlying22, ⟨.string ⟨#[]⟩, by kernel_rfl, rfl⟩, by decide, by decide⟩
theorem slPred : SlT 32 64 3 32 := ⟨Tryz.underlying32, ⟨.agg #[.string ⟨#[]⟩, .int .i64 0, .int .i64 0], by kernel_rfl, rfl⟩, by decide, by decide⟩

theorem step_of_append {P : Program} {ops : Array Oper} {o : Oper} {a : Act} {w : World} {K : Act → World → Prop} {Q : Exit → Act → World → Prop} {E : Prop} {t t2 : TypeId} {v u v' : Value} {w' : World}
    (hr : (Builtin.append_ #[t, t2] o.type #[v, u]).run P w = .ok v' w') (hgd : o.guard = none) (s x : Operand)
    (ho : o.op = .call { callee := .builtin .append, args := #[s, x], argTypes := #[t, t2] }) (hs : a.eval s = v) (hx : a.eval x = u)
    (h : K (a.put o.dst v') w') :
    if Region.wanted o (yielded ops a.tmps) = true then Oper.wp P o a w K Q else E := by
  have hw : Region.wanted o (yielded ops a.tmps) = true := by simp [Region.wanted, hgd]
  rw [if_pos hw]
  unfold Oper.wp execOp
  simp only [ho, resolve, invoke, builtin, Sem.run_bind, Sem.run_pure, Result.andThen_ok, List.map_toArray, List.map_cons, List.map_nil, hs, hx, hr]
  exact h

section
variable {w0 w1 wr w' w6 : World} {R g : Nat} {r r' : Rd} {va vf vp v6 : Value} {la : List ByteArray} {lf : List (ByteArray × Int)} {lp : List (ByteArray × Int × Int)}
end

/-- How far a row has come. -/
def Part {α : Type} (f : Rd → α × Rd) (n j : Nat) (r r' : Rd) (l : List α) : Prop := l.length + j = n ∧ l ++ (manyR f j r').1 = (manyR f n r).1 ∧ (manyR f j r').2 = (manyR f n r).2
theorem Part.start {α : Type} (f : Rd → α × Rd) (n : Nat) (r : Rd) : Part f n n r r [] := ⟨by simp, rfl, rfl⟩
theorem Part.step {α : Type} {f : Rd → α × Rd} {n j : Nat} {r r' : Rd} {l : List α} (h : Part f n (j + 1) r r' l) : Part f n j r (f r').2 (l ++ [(f r').1]) :=
  ⟨by have := h.1; simp; omega, by rw [← h.2.1, manyR]; simp, by rw [← h.2.2]; rfl⟩
theorem Part.done {α : Type} {f : Rd → α × Rd} {n : Nat} {r r' : Rd} {l : List α} (h : Part f n 0 r r' l) : manyR f n r = (l, r') := by
  refine Prod.ext ?_ h.2.2.symm
  have := h.2.1
  rw [manyR, List.append_nil] at this
  exact this.symm

end Go.Proofs.YtlmbiafloiompaaGreatDoor

namespace Go.Proofs.YtlmbiafloiompaaGreatDoor
open Go Go.RowKit Go.WideShapes Go.ChangeShapes
set_option linter.unusedVariables false
set_option linter.unusedSimpArgs false

theorem slIns : SlT 33 65 5 40 := ⟨Tryz.underlying33, ⟨.agg #[.int .i64 0, .int .i64 0, .int .i64 0, .int .i64 0, .int .i64 0], by kernel_rfl, rfl⟩, by decide, by decide⟩

section
variable {w0 w wr w' w8 w6 : World} {R g gO : Nat} {r r' : Rd} {va vf vp vc v6 : Value} {lc : List Ins}
end

/-- An object's slices lie in new memory. -/
def NewOb (B : Nat) (va vf vp vc : Value) : Prop := ∀ v ∈ [va, vf, vp, vc], ∀ k, v.ownBlock = some k → B ≤ k
theorem CellsAt.fr {w w' : World} {S : Nat → Prop} {v : Value} {n : Nat} {cs : List Value} (h : CellsAt w v n cs) (hf : Fr S w w') (hn : ∀ k, v.ownBlock = some k → ¬ S k) : CellsAt w' v n cs := by
  rcases h with h | ⟨b, off, c, rfl, hl, hc⟩
  · exact .inl h
  · exact .inr ⟨b, off, c, rfl, Nat.lt_of_lt_of_le hl hf.size, fun k u hk => (World.cell?_of_block (w := w) (hf.block b hl (hn b rfl))).trans (hc k u hk)⟩

def arr4 (ls : List Nat) : Array Value := #[.int .i64 (ls.getD 0 0 : Nat), .int .i64 (ls.getD 1 0 : Nat), .int .i64 (ls.getD 2 0 : Nat), .int .i64 (ls.getD 3 0 : Nat)]
/-- How far the code has come. -/
def PartC (n j : Nat) (r r' : Rd) (l : List Ins) : Prop := l.length + j = n ∧ codeR n r = match codeR j r' with
  | none => none
  | some (m, r'') => some (l ++ m, r'')
theorem PartC.start (n : Nat) (r : Rd) : PartC n n r r [] := ⟨by simp, by cases codeR n r <;> rfl⟩
theorem PartC.step {n j : Nat} {r r' r2 : Rd} {l : List Ins} {i : Ins} (h : PartC n (j + 1) r r' l) (hi : insR r' = some (i, r2)) : PartC n j r r2 (l ++ [i]) := by
  refine ⟨by have := h.1; simp; omega, ?_⟩
  rw [h.2, codeR, hi]
  cases hc : codeR j r2 with
  | none => simp [hc]
  | some x => simp [hc]
theorem PartC.bad {n j : Nat} {r r' : Rd} {l : List Ins} (h : PartC n (j + 1) r r' l) (hi : insR r' = none) : codeR n r = none := by
  rw [h.2, codeR, hi]
theorem PartC.done {n : Nat} {r r' : Rd} {l : List Ins} (h : PartC n 0 r r' l) : codeR n r = some (l, r') := by
  rw [h.2, codeR]
  simp

/-- The object reader, from behind its first bytes. -/
def restR (a f p c : Nat) (r4 : Rd) : Except Int (Ob × Rd) :=
  if r4.short = true then .error 3
  else if bigB a f p c then .error 2
  else match codeR c (manyR predR p (manyR funR f (manyR nameR a r4).2).2).2 with
    | none => .error 8
    | some (l4, r5) => if r5.short = true then .error 3 else .ok (⟨(manyR nameR a r4).1, (manyR funR f (manyR nameR a r4).2).1, (manyR predR p (manyR funR f (manyR nameR a r4).2).2).1, l4⟩, r5)
end Go.Proofs.YtlmbiafloiompaaGreatDoor

namespace Go.Proofs.YtlmbiafloiompaaGreatDoor
open Go Go.RowKit Go.WideShapes Go.ChangeShapes
set_option linter.unusedVariables false
set_option linter.unusedSimpArgs false

theorem bdrew1 (W : World) : Below W.heap.size W W.drew := ⟨rfl, rfl, rfl, Nat.le_refl _, fun _ _ => rfl⟩

end Go.Proofs.YtlmbiafloiompaaGreatDoor
