/-
  4 texts in one (ObjN ObjO ObjP ObjQ). Conditions: those of each theorem.
-/
import Derived.Test.YtfgnapfodnhppaaGreatDoorJ12
import Derived.Deep.RegionLaw
namespace Go.Proofs.YtfgnapfodnhppaaGreatDoor
open Go Go.RowKit Go.WideShapes Go.ChangeShapes
set_option linter.unusedVariables false
set_option linter.unusedSimpArgs false

theorem slStr : SlT 22 9 1 16 := ⟨Tryz.underlying22, ⟨.string ⟨#[]⟩, by kernel_rfl, rfl⟩, by decide, by decide⟩
theorem slPred : SlT 28 52 3 32 := ⟨Tryz.underlying28, ⟨.agg #[.string ⟨#[]⟩, .int .i64 0, .int .i64 0], by kernel_rfl, rfl⟩, by decide, by decide⟩

theorem step_of_append {P : Program} {ops : Array Oper} {o : Oper} {a : Act} {w : World} {K : Act → World → Prop} {Q : Exit → Act → World → Prop} {E : Prop} {t t2 : TypeId} {v u v' : Value} {w' : World}
    (hr : (Builtin.append_ #[t, t2] o.type #[v, u]).run P w = .ok v' w') (hgd : o.guard = none) (s x : Operand)
    (ho : o.op = .call { callee := .builtin .append, args := #[s, x], argTypes := #[t, t2] }) (hs : a.eval s = v) (hx : a.eval x = u)
    (h : K (a.put o.dst v') w') :
    if Region.wanted o (yielded ops a.tmps) = true then Oper.wp P o a w K Q else E := by
  have hw : Region.wanted o (yielded ops a.tmps) = true := by simp [Region.wanted, hgd]
  rw [if_pos hw]
  unfold Oper.wp execOp
  simp only [ho, resolve, invoke, builtin, Sem.run_bind, Sem.run_pure, Result.andThen_ok, List.map_toArray, List.map_cons, List.map_nil, hs, hx, hr]
  exact h

section
variable {w0 w1 wr w' w6 : World} {R g : Nat} {r r' : Rd} {va vf vp v6 : Value} {la : List ByteArray} {lf : List (ByteArray × Int)} {lp : List (ByteArray × Int × Int)}
theorem store_old {v : Value} (ho : Fr (fun b => b = R ∨ b = g) w1 wr) (h1 : ∀ k, v.ownBlock = some k → w1.heap.size ≤ k) (hf : Fr (fun b => v.ownBlock = some b) wr w6) (i : Nat) (u : Value) :
    Fr (fun b => b = R ∨ b = g) w1 (w6.setCell ⟨g, i, none⟩ u) := by
  have h2 : Fr (fun b => b = R ∨ b = g ∨ w1.heap.size ≤ b) w1 (w6.setCell ⟨g, i, none⟩ u) :=
    ((ho.mono (T := fun b => b = R ∨ b = g ∨ w1.heap.size ≤ b) (fun k _ e => e.elim .inl (fun x => .inr (.inl x)))).trans (hf.mono fun k _ e => .inr (.inr (h1 k e)))).setCell (p := ⟨g, i, none⟩) (.inl (.inr (.inl rfl))) u
  exact h2.mono fun k hk e => by
    rcases e with e | e | e
    · exact .inl e
    · exact .inr e
    · omega
end

theorem many_lt {α : Type} {f : Rd → α × Rd} (hf : ∀ r, (∀ c ∈ r.rest, c < 256) → ∀ c ∈ (f r).2.rest, c < 256) : ∀ (n : Nat) (r : Rd), (∀ c ∈ r.rest, c < 256) → ∀ c ∈ (manyR f n r).2.rest, c < 256
  | 0, _, h => h
  | n + 1, r, h => many_lt hf n (f r).2 (hf r h)
theorem many_len {α : Type} {f : Rd → α × Rd} : ∀ (n : Nat) (r : Rd), (manyR f n r).1.length = n
  | 0, _ => rfl
  | n + 1, r => by simp [manyR, many_len n]
theorem nameR_lt {r : Rd} (h : ∀ c ∈ r.rest, c < 256) : ∀ c ∈ (nameR r).2.rest, c < 256 := (took_lt (num_lt (n := 1) h).2).2
theorem funR_lt {r : Rd} (h : ∀ c ∈ r.rest, c < 256) : ∀ c ∈ (funR r).2.rest, c < 256 := (num_lt (n := 1) (nameR_lt h)).2
theorem predR_lt {r : Rd} (h : ∀ c ∈ r.rest, c < 256) : ∀ c ∈ (predR r).2.rest, c < 256 := (num_lt (n := 2) (num_lt (n := 1) (nameR_lt h)).2).2

/-- How far a row has come. -/
def Part {α : Type} (f : Rd → α × Rd) (n j : Nat) (r r' : Rd) (l : List α) : Prop := l.length + j = n ∧ l ++ (manyR f j r').1 = (manyR f n r).1 ∧ (manyR f j r').2 = (manyR f n r).2
theorem Part.start {α : Type} (f : Rd → α × Rd) (n : Nat) (r : Rd) : Part f n n r r [] := ⟨by simp, rfl, rfl⟩
theorem Part.step {α : Type} {f : Rd → α × Rd} {n j : Nat} {r r' : Rd} {l : List α} (h : Part f n (j + 1) r r' l) : Part f n j r (f r').2 (l ++ [(f r').1]) :=
  ⟨by have := h.1; simp; omega, by rw [← h.2.1, manyR]; simp, by rw [← h.2.2]; rfl⟩
theorem Part.done {α : Type} {f : Rd → α × Rd} {n : Nat} {r r' : Rd} {l : List α} (h : Part f n 0 r r' l) : manyR f n r = (l, r') := by
  refine Prod.ext ?_ h.2.2.symm
  have := h.2.1
  rw [manyR, List.append_nil] at this
  exact this.symm

end Go.Proofs.YtfgnapfodnhppaaGreatDoor

namespace Go.Proofs.YtfgnapfodnhppaaGreatDoor
open Go Go.RowKit Go.WideShapes Go.ChangeShapes
set_option linter.unusedVariables false
set_option linter.unusedSimpArgs false

def insV5 (op : Int) (ls : List Int) : Array Value := #[.int .i64 op, .int .i64 (ls.getD 0 0), .int .i64 (ls.getD 1 0), .int .i64 (ls.getD 2 0), .int .i64 (ls.getD 3 0)]
section
variable {w0 w wr w' : World} {R g : Nat} {r r' : Rd} {op : Int} {ls : List Int}
end

theorem argsR_step (ks : List Int) (k : Nat) (h : k < ks.length) (r : Rd) : argsR (ks.drop k) r = (((numR (sizeK (ks.getD k 0)) r).1 : Int) :: (argsR (ks.drop (k + 1)) (numR (sizeK (ks.getD k 0)) r).2).1, (argsR (ks.drop (k + 1)) (numR (sizeK (ks.getD k 0)) r).2).2) := by
  rw [List.drop_eq_getElem_cons h, argsR, List.getD_eq_getElem?_getD, List.getElem?_eq_getElem h]
  rfl

/-- Five cells stored, and handed back with a bool. -/
theorem ret_store5o {P : Program} {fn : Func} {Q : Ending → World → Prop} {T : Array Value} {w2 : World} {G : Nat} {t : TypeId} {z0 z1 z2 z3 z4 a b c d e x : Value} (hb : Box w2 G t #[z0, z1, z2, z3, z4])
    (hres : ∀ W : World, W.cell? ⟨G, 0, none⟩ = some a → W.cell? ⟨G, 1, none⟩ = some b → W.cell? ⟨G, 2, none⟩ = some c → W.cell? ⟨G, 3, none⟩ = some d → W.cell? ⟨G, 4, none⟩ = some e → (results fn T).run P W = .ok (.tuple #[.agg #[a, b, c, d, e], x]) W)
    (hQ : ∀ W : World, Box W G t #[a, b, c, d, e] → Fr (fun k => k = G) w2 W → Q (.returned (.tuple #[.agg #[a, b, c, d, e], x])) W) :
    bodyPost P fn Q .ret { tmps := T, defers := [] } (((((w2.setCell ⟨G, 0, none⟩ a).setCell ⟨G, 1, none⟩ b).setCell ⟨G, 2, none⟩ c).setCell ⟨G, 3, none⟩ d).setCell ⟨G, 4, none⟩ e) := by
  have h4 : Box (((((w2.setCell ⟨G, 0, none⟩ a).setCell ⟨G, 1, none⟩ b).setCell ⟨G, 2, none⟩ c).setCell ⟨G, 3, none⟩ d).setCell ⟨G, 4, none⟩ e) G t #[a, b, c, d, e] := by
    have := ((((hb.set_ 0 a).set_ 1 b).set_ 2 c).set_ 3 d).set_ 4 e
    simpa using this
  have hf : Fr (fun k => k = G) w2 (((((w2.setCell ⟨G, 0, none⟩ a).setCell ⟨G, 1, none⟩ b).setCell ⟨G, 2, none⟩ c).setCell ⟨G, 3, none⟩ d).setCell ⟨G, 4, none⟩ e) :=
    (((((Fr.refl (fun b => b = G) w2).setCell (p := ⟨G, 0, none⟩) (.inl rfl) _).setCell (p := ⟨G, 1, none⟩) (.inl rfl) _).setCell (p := ⟨G, 2, none⟩) (.inl rfl) _).setCell (p := ⟨G, 3, none⟩) (.inl rfl) _).setCell (p := ⟨G, 4, none⟩) (.inl rfl) _
  exact bodyPost_ret (hres _ (h4.cell 0) (h4.cell 1) (h4.cell 2) (h4.cell 3) (h4.cell 4)) rfl (hQ _ h4 hf)

theorem old_only {w w' : World} {R : Nat} (h : Fr (fun b => b = R ∨ w.heap.size ≤ b) w w') : Fr (fun b => b = R) w w' := h.mono fun k hk e => by
  rcases e with e | e
  · exact e
  · omega

end Go.Proofs.YtfgnapfodnhppaaGreatDoor

namespace Go.Proofs.YtfgnapfodnhppaaGreatDoor
open Go Go.RowKit Go.WideShapes Go.ChangeShapes
set_option linter.unusedVariables false
set_option linter.unusedSimpArgs false

theorem ret_store4 {P : Program} {fn : Func} {Q : Ending → World → Prop} {T : Array Value} {w2 : World} {G : Nat} {t : TypeId} {z0 z1 z2 z3 a b c d x : Value} (hb : Box w2 G t #[z0, z1, z2, z3])
    (hres : ∀ W : World, W.cell? ⟨G, 0, none⟩ = some a → W.cell? ⟨G, 1, none⟩ = some b → W.cell? ⟨G, 2, none⟩ = some c → W.cell? ⟨G, 3, none⟩ = some d → (results fn T).run P W = .ok (.tuple #[.agg #[a, b, c, d], x]) W)
    (hQ : ∀ W : World, Box W G t #[a, b, c, d] → Fr (fun k => k = G) w2 W → Q (.returned (.tuple #[.agg #[a, b, c, d], x])) W) :
    bodyPost P fn Q .ret { tmps := T, defers := [] } ((((w2.setCell ⟨G, 0, none⟩ a).setCell ⟨G, 1, none⟩ b).setCell ⟨G, 2, none⟩ c).setCell ⟨G, 3, none⟩ d) := by
  have h4 : Box ((((w2.setCell ⟨G, 0, none⟩ a).setCell ⟨G, 1, none⟩ b).setCell ⟨G, 2, none⟩ c).setCell ⟨G, 3, none⟩ d) G t #[a, b, c, d] := by
    have := (((hb.set_ 0 a).set_ 1 b).set_ 2 c).set_ 3 d
    simpa using this
  have hf : Fr (fun k => k = G) w2 ((((w2.setCell ⟨G, 0, none⟩ a).setCell ⟨G, 1, none⟩ b).setCell ⟨G, 2, none⟩ c).setCell ⟨G, 3, none⟩ d) :=
    ((((Fr.refl (fun b => b = G) w2).setCell (p := ⟨G, 0, none⟩) (.inl rfl) _).setCell (p := ⟨G, 1, none⟩) (.inl rfl) _).setCell (p := ⟨G, 2, none⟩) (.inl rfl) _).setCell (p := ⟨G, 3, none⟩) (.inl rfl) _
  exact bodyPost_ret (hres _ (h4.cell 0) (h4.cell 1) (h4.cell 2) (h4.cell 3)) rfl (hQ _ h4 hf)

theorem slIns : SlT 29 78 5 40 := ⟨Tryz.underlying29, ⟨.agg #[.int .i64 0, .int .i64 0, .int .i64 0, .int .i64 0, .int .i64 0], by kernel_rfl, rfl⟩, by decide, by decide⟩

section
variable {w0 w wr w' w8 w6 : World} {R g gO : Nat} {r r' : Rd} {va vf vp vc v6 : Value} {lc : List Ins}
end

/-- An object's slices lie in new memory. -/
def NewOb (B : Nat) (va vf vp vc : Value) : Prop := ∀ v ∈ [va, vf, vp, vc], ∀ k, v.ownBlock = some k → B ≤ k
theorem CellsAt.fr {w w' : World} {S : Nat → Prop} {v : Value} {n : Nat} {cs : List Value} (h : CellsAt w v n cs) (hf : Fr S w w') (hn : ∀ k, v.ownBlock = some k → ¬ S k) : CellsAt w' v n cs := by
  rcases h with h | ⟨b, off, c, rfl, hl, hc⟩
  · exact .inl h
  · exact .inr ⟨b, off, c, rfl, Nat.lt_of_lt_of_le hl hf.size, fun k u hk => (World.cell?_of_block (w := w) (hf.block b hl (hn b rfl))).trans (hc k u hk)⟩

def arr4 (ls : List Nat) : Array Value := #[.int .i64 (ls.getD 0 0 : Nat), .int .i64 (ls.getD 1 0 : Nat), .int .i64 (ls.getD 2 0 : Nat), .int .i64 (ls.getD 3 0 : Nat)]
theorem arr4_set {wr : World} {gc : Nat} {ls : List Nat} (h : Box wr gc 69 (arr4 ls)) (hl : ls.length < 4) (x : Nat) : Box (wr.setCell ⟨gc, ls.length, none⟩ (.int .i64 (x : Int))) gc 69 (arr4 (ls ++ [x])) := by
  have h1 := h.set_ ls.length (.int .i64 (x : Int))
  have e : (arr4 ls).setIfInBounds ls.length (.int .i64 (x : Int)) = arr4 (ls ++ [x]) := by
    match ls, hl with
    | [], _ => rfl
    | [a], _ => rfl
    | [a, b], _ => rfl
    | [a, b, c], _ => rfl
    | a :: b :: c :: d :: r, hl => simp at hl; omega
  rw [← e]
  exact h1
theorem arr4_cell {wr : World} {gc : Nat} {ls : List Nat} (h : Box wr gc 69 (arr4 ls)) (k : Nat) (hk : k < 4) : wr.cell? ⟨gc, k, none⟩ = some (.int .i64 (ls.getD k 0 : Nat)) ∧ wr.frozen? ⟨gc, k, none⟩ = false := by
  refine ⟨?_, h.frozen _⟩
  rw [h.cell k]
  match k, hk with
  | 0, _ => rfl
  | 1, _ => rfl
  | 2, _ => rfl
  | 3, _ => rfl

/-- How far the code has come. -/
def PartC (n j : Nat) (r r' : Rd) (l : List Ins) : Prop := l.length + j = n ∧ codeR n r = match codeR j r' with
  | none => none
  | some (m, r'') => some (l ++ m, r'')
theorem PartC.start (n : Nat) (r : Rd) : PartC n n r r [] := ⟨by simp, by cases codeR n r <;> rfl⟩
theorem PartC.step {n j : Nat} {r r' r2 : Rd} {l : List Ins} {i : Ins} (h : PartC n (j + 1) r r' l) (hi : insR r' = some (i, r2)) : PartC n j r r2 (l ++ [i]) := by
  refine ⟨by have := h.1; simp; omega, ?_⟩
  rw [h.2, codeR, hi]
  cases hc : codeR j r2 with
  | none => simp [hc]
  | some x => simp [hc]
theorem PartC.bad {n j : Nat} {r r' : Rd} {l : List Ins} (h : PartC n (j + 1) r r' l) (hi : insR r' = none) : codeR n r = none := by
  rw [h.2, codeR, hi]
theorem PartC.done {n : Nat} {r r' : Rd} {l : List Ins} (h : PartC n 0 r r' l) : codeR n r = some (l, r') := by
  rw [h.2, codeR]
  simp

/-- The object reader, from behind its first bytes. -/
def restR (a f p c : Nat) (r4 : Rd) : Except Int (Ob × Rd) :=
  if r4.short = true then .error 3
  else if bigB a f p c then .error 2
  else match codeR c (manyR predR p (manyR funR f (manyR nameR a r4).2).2).2 with
    | none => .error 8
    | some (l4, r5) => if r5.short = true then .error 3 else .ok (⟨(manyR nameR a r4).1, (manyR funR f (manyR nameR a r4).2).1, (manyR predR p (manyR funR f (manyR nameR a r4).2).2).1, l4⟩, r5)
theorem object_bad {r : Rd} (h : magicR magicL r = none) : objectR r = .error 5 := by
  unfold objectR
  rw [show magicR [82, 83, 76, 86, 1] r = none from h]
theorem object_ok {r r0 : Rd} {a f p c : Nat} {r4 : Rd} (h : magicR magicL r = some r0) (h4 : manyR (numR 2) 4 r0 = ([a, f, p, c], r4)) : objectR r = restR a f p c r4 := by
  have h5 : (manyR (numR 2) 4 r0).1 = [a, f, p, c] := by rw [h4]
  have h6 : (manyR (numR 2) 4 r0).2 = r4 := by rw [h4]
  simp only [manyR] at h5 h6
  injection h5 with e1 h5
  injection h5 with e2 h5
  injection h5 with e3 h5
  injection h5 with e4 h5
  unfold objectR
  rw [show magicR [82, 83, 76, 86, 1] r = some r0 from h]
  simp only [e1, e2, e3, e4, h6]
  rfl

theorem strOf_size (l : List Nat) : (strOf l).size = l.length := by
  show (List.toArray (l.map UInt8.ofNat)).size = _
  simp
theorem nameR_size {r : Rd} (h : ∀ c ∈ r.rest, c < 256) : (nameR r).1.size ≤ 255 := by
  have h1 := (num_lt (n := 1) h).1
  show (strOf (takeR (numR 1 r).1 (numR 1 r).2).1).size ≤ 255
  rw [strOf_size]
  rcases took_len (n := (numR 1 r).1) (r := (numR 1 r).2) with h2 | h2
  · rw [h2]; omega
  · rw [h2]; simp
theorem many_all {α : Type} {f : Rd → α × Rd} {Q : α → Prop} (hf : ∀ r, (∀ c ∈ r.rest, c < 256) → (∀ c ∈ (f r).2.rest, c < 256) ∧ Q (f r).1) : ∀ (n : Nat) (r : Rd), (∀ c ∈ r.rest, c < 256) → ∀ a ∈ (manyR f n r).1, Q a
  | 0, _, _ => by simp [manyR]
  | n + 1, r, h => by
    intro a ha
    rcases List.mem_cons.1 ha with rfl | ha
    · exact (hf r h).2
    · exact many_all hf n (f r).2 (hf r h).1 a ha

end Go.Proofs.YtfgnapfodnhppaaGreatDoor

namespace Go.Proofs.YtfgnapfodnhppaaGreatDoor
open Go Go.RowKit Go.WideShapes Go.ChangeShapes
set_option linter.unusedVariables false
set_option linter.unusedSimpArgs false

theorem BysIn.lens {w : World} {A : Option Addr} {n c : Nat} {l : List Nat} (h : BysIn w (.slice A n c) l) (hl : 0 < l.length) :
    n = l.length ∧ l.length ≤ c ∧ ∃ b off, A = some ⟨b, off, none⟩ ∧ c ≤ 9223372036854775807 ∧ b < w.heap.size ∧ ∀ k, k < l.length → w.cell? ⟨b, off + k, none⟩ = some (.int .u8 ((l.getD k 0 : Nat) : Int)) := by
  rcases h with ⟨rfl, _⟩ | ⟨b, off, c', he, h1, h2, h3, hc⟩
  · simp at hl
  · injection he with e1 e2 e3
    subst e1 e2 e3
    exact ⟨rfl, h1, b, off, rfl, h2, h3, hc⟩

theorem bdrew1 (W : World) : Below W.heap.size W W.drew := ⟨rfl, rfl, rfl, Nat.le_refl _, fun _ _ => rfl⟩

theorem parts_one {w : World} {g : Nat} {v : Value} {l : List Nat} (hb : Box w g 146 #[v]) (hv : BysAt w v l) : PartsAt w (.slice (some ⟨g, 0, none⟩) 1 1) [l] :=
  .inr ⟨g, 0, 1, rfl, fun j hj => by
    obtain rfl : j = 0 := by simpa using hj
    exact ⟨v, hb.cell 0, hv⟩⟩

end Go.Proofs.YtfgnapfodnhppaaGreatDoor
