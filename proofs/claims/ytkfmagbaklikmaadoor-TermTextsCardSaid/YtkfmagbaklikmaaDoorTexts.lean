/-
  The law TermTexts, by a contract over two values that read as trees. Conditions: the library's variables as laid.
-/
import Derived.Test.YtkfmagbaklikmaaDoorFixD
import Derived.Test.YtkfmagbaklikmaaDoorTake
import Derived.Test.YtkfmagbaklikmaaDoorTold
import Derived.Test.YtkfmagbaklikmaaDoorTermC
import Derived.Test.YtkfmagbaklikmaaDoorOpen
import Derived.Test.YtkfmagbaklikmaaDoorRText
import Derived.Test.YtkfmagbaklikmaaDoorRVars
import Derived.Test.YtkfmagbaklikmaaDoorTSame
import Derived.Deep.RegionLaw
namespace Go.Proofs.YtkfmagbaklikmaaDoor
open Go Go.RowKit
set_option linter.unusedVariables false
set_option linter.unusedSimpArgs false

/-- Two terms in two boxes. -/
structure T2 (w0 W : World) (ty : TypeId) (ga gb F : Nat) (ta tb : Tm) (va vb : Array Value) : Prop where
  ba : Box W ga ty va
  bb : Box W gb ty vb
  ra : Reads W (fun b => b < W.heap.size ∧ b ≠ ga ∧ b ≠ gb) F ta (.agg va)
  rb : Reads W (fun b => b < W.heap.size ∧ b ≠ ga ∧ b ≠ gb) F tb (.agg vb)
  na : w0.heap.size ≤ ga
  nb : w0.heap.size ≤ gb
  ne : ga ≠ gb
  bl : Below w0.heap.size w0 W
theorem T2.below {w0 W W' : World} {ty : TypeId} {ga gb F : Nat} {ta tb : Tm} {va vb : Array Value} (h : T2 w0 W ty ga gb F ta tb va vb) (hb : Below W.heap.size W W') : T2 w0 W' ty ga gb F ta tb va vb :=
  ⟨h.ba.below hb h.ba.lt, h.bb.below hb h.bb.lt, (h.ra.below hb (fun b x => x.1)).more (fun b x => ⟨Nat.lt_of_lt_of_le x.1 hb.size, x.2⟩), (h.rb.below hb (fun b x => x.1)).more (fun b x => ⟨Nat.lt_of_lt_of_le x.1 hb.size, x.2⟩), h.na, h.nb, h.ne, h.bl.trans (hb.mono h.bl.size)⟩
theorem T2.cells {w0 W : World} {ty : TypeId} {ga gb F : Nat} {ta tb : Tm} {k n : Int} {s : ByteArray} {A : Option Addr} {l c : Nat} {k5 n5 : Int} {s5 : ByteArray} {A5 : Option Addr} {l5 c5 : Nat} (h : T2 w0 W ty ga gb F ta tb #[.int .i64 k, .int .i64 n, .string s, .slice A l c] #[.int .i64 k5, .int .i64 n5, .string s5, .slice A5 l5 c5]) :
    ((W.cell? ⟨ga, 0, none⟩ = some (.int .i64 k) ∧ W.cell? ⟨ga, 1, none⟩ = some (.int .i64 n) ∧ W.cell? ⟨ga, 2, none⟩ = some (.string s) ∧ W.cell? ⟨ga, 3, none⟩ = some (.slice A l c)) ∧ W.cell? ⟨gb, 0, none⟩ = some (.int .i64 k5) ∧ W.cell? ⟨gb, 1, none⟩ = some (.int .i64 n5) ∧ W.cell? ⟨gb, 2, none⟩ = some (.string s5) ∧ W.cell? ⟨gb, 3, none⟩ = some (.slice A5 l5 c5)) :=
  ⟨⟨h.ba.cell 0, h.ba.cell 1, h.ba.cell 2, h.ba.cell 3⟩, h.bb.cell 0, h.bb.cell 1, h.bb.cell 2, h.bb.cell 3⟩
theorem cells2 {W : World} {ty : TypeId} {ga gb : Nat} {k n : Int} {s : ByteArray} {A : Option Addr} {l c : Nat} {k5 n5 : Int} {s5 : ByteArray} {A5 : Option Addr} {l5 c5 : Nat} (h : Box W ga ty #[.int .i64 k, .int .i64 n, .string s, .slice A l c]) (h' : Box W gb ty #[.int .i64 k5, .int .i64 n5, .string s5, .slice A5 l5 c5]) :
    ((W.cell? ⟨ga, 0, none⟩ = some (.int .i64 k) ∧ W.cell? ⟨ga, 1, none⟩ = some (.int .i64 n) ∧ W.cell? ⟨ga, 2, none⟩ = some (.string s) ∧ W.cell? ⟨ga, 3, none⟩ = some (.slice A l c)) ∧ W.cell? ⟨gb, 0, none⟩ = some (.int .i64 k5) ∧ W.cell? ⟨gb, 1, none⟩ = some (.int .i64 n5) ∧ W.cell? ⟨gb, 2, none⟩ = some (.string s5) ∧ W.cell? ⟨gb, 3, none⟩ = some (.slice A5 l5 c5)) :=
  ⟨⟨h.cell 0, h.cell 1, h.cell 2, h.cell 3⟩, h'.cell 0, h'.cell 1, h'.cell 2, h'.cell 3⟩
theorem T2.loose {w0 W : World} {ty : TypeId} {ga gb F : Nat} {ta tb : Tm} {va vb : Array Value} (h : T2 w0 W ty ga gb F ta tb va vb) : (W.frozen? ⟨ga, 0, none⟩ = false ∧ W.frozen? ⟨ga, 1, none⟩ = false ∧ W.frozen? ⟨ga, 2, none⟩ = false ∧ W.frozen? ⟨ga, 3, none⟩ = false) ∧ W.frozen? ⟨gb, 0, none⟩ = false ∧ W.frozen? ⟨gb, 1, none⟩ = false ∧ W.frozen? ⟨gb, 2, none⟩ = false ∧ W.frozen? ⟨gb, 3, none⟩ = false :=
  ⟨⟨h.ba.frozen 0, h.ba.frozen 1, h.ba.frozen 2, h.ba.frozen 3⟩, h.bb.frozen 0, h.bb.frozen 1, h.bb.frozen 2, h.bb.frozen 3⟩
/-- Two new terms stored over them. -/
theorem T2.store {w0 W : World} {ty : TypeId} {ga gb F F' : Nat} {ta tb ta' tb' : Tm} {z0 z1 z2 z3 u0 u1 u2 u3 a0 a1 a2 a3 b0 b1 b2 b3 : Value} (h : T2 w0 W ty ga gb F ta tb #[z0, z1, z2, z3] #[u0, u1, u2, u3])
    (ha : Reads W (fun b => b < W.heap.size ∧ b ≠ ga ∧ b ≠ gb) F' ta' (.agg #[a0, a1, a2, a3])) (hb : Reads W (fun b => b < W.heap.size ∧ b ≠ ga ∧ b ≠ gb) F' tb' (.agg #[b0, b1, b2, b3])) :
    T2 w0 ((((((((W.setCell ⟨ga, 0, none⟩ a0).setCell ⟨ga, 1, none⟩ a1).setCell ⟨ga, 2, none⟩ a2).setCell ⟨ga, 3, none⟩ a3).setCell ⟨gb, 0, none⟩ b0).setCell ⟨gb, 1, none⟩ b1).setCell ⟨gb, 2, none⟩ b2).setCell ⟨gb, 3, none⟩ b3) ty ga gb F' ta' tb' #[a0, a1, a2, a3] #[b0, b1, b2, b3] := by
  have hf : Fr (fun b => b = ga ∨ b = gb) W ((((((((W.setCell ⟨ga, 0, none⟩ a0).setCell ⟨ga, 1, none⟩ a1).setCell ⟨ga, 2, none⟩ a2).setCell ⟨ga, 3, none⟩ a3).setCell ⟨gb, 0, none⟩ b0).setCell ⟨gb, 1, none⟩ b1).setCell ⟨gb, 2, none⟩ b2).setCell ⟨gb, 3, none⟩ b3) :=
    ((((((((Fr.refl (fun b => b = ga ∨ b = gb) W).setCell (p := ⟨ga, 0, none⟩) (.inl (.inl rfl)) _).setCell (p := ⟨ga, 1, none⟩) (.inl (.inl rfl)) _).setCell (p := ⟨ga, 2, none⟩) (.inl (.inl rfl)) _).setCell (p := ⟨ga, 3, none⟩) (.inl (.inl rfl)) _).setCell (p := ⟨gb, 0, none⟩) (.inl (.inr rfl)) _).setCell (p := ⟨gb, 1, none⟩) (.inl (.inr rfl)) _).setCell (p := ⟨gb, 2, none⟩) (.inl (.inr rfl)) _).setCell (p := ⟨gb, 3, none⟩) (.inl (.inr rfl)) _
  have h1 : Box ((((((((W.setCell ⟨ga, 0, none⟩ a0).setCell ⟨ga, 1, none⟩ a1).setCell ⟨ga, 2, none⟩ a2).setCell ⟨ga, 3, none⟩ a3).setCell ⟨gb, 0, none⟩ b0).setCell ⟨gb, 1, none⟩ b1).setCell ⟨gb, 2, none⟩ b2).setCell ⟨gb, 3, none⟩ b3) ga ty #[a0, a1, a2, a3] := by
    have := ((((((((h.ba.set_ 0 a0).set_ 1 a1).set_ 2 a2).set_ 3 a3).far (p := ⟨gb, 0, none⟩) h.ne b0).far (p := ⟨gb, 1, none⟩) h.ne b1).far (p := ⟨gb, 2, none⟩) h.ne b2).far (p := ⟨gb, 3, none⟩) h.ne b3)
    simpa using this
  have h2 : Box ((((((((W.setCell ⟨ga, 0, none⟩ a0).setCell ⟨ga, 1, none⟩ a1).setCell ⟨ga, 2, none⟩ a2).setCell ⟨ga, 3, none⟩ a3).setCell ⟨gb, 0, none⟩ b0).setCell ⟨gb, 1, none⟩ b1).setCell ⟨gb, 2, none⟩ b2).setCell ⟨gb, 3, none⟩ b3) gb ty #[b0, b1, b2, b3] := by
    have hn : gb ≠ ga := fun e => h.ne e.symm
    have := ((((((((h.bb.far (p := ⟨ga, 0, none⟩) hn a0).far (p := ⟨ga, 1, none⟩) hn a1).far (p := ⟨ga, 2, none⟩) hn a2).far (p := ⟨ga, 3, none⟩) hn a3).set_ 0 b0).set_ 1 b1).set_ 2 b2).set_ 3 b3)
    simpa using this
  have hs := hf.size
  have hS : ∀ b, (b < W.heap.size ∧ b ≠ ga ∧ b ≠ gb) → b < W.heap.size ∧ ¬ (b = ga ∨ b = gb) := fun b x => ⟨x.1, by omega⟩
  exact ⟨h1, h2, (ha.fr hf hS).more (fun b x => ⟨Nat.lt_of_lt_of_le x.1 hs, x.2⟩), (hb.fr hf hS).more (fun b x => ⟨Nat.lt_of_lt_of_le x.1 hs, x.2⟩), h.na, h.nb, h.ne, h.bl.trans (hf.below h.bl.size (fun b e => by have := h.na; have := h.nb; omega))⟩
theorem t2_start (w : World) (ty : TypeId) {S : Nat → Prop} {F : Nat} {ta tb : Tm} {va vb : Array Value} (ha : Reads w S F ta (.agg va)) (hb : Reads w S F tb (.agg vb)) (hS : ∀ b, S b → b < w.heap.size) : T2 w ((w.alloc (.cells va ty)).alloc (.cells vb ty)) ty w.heap.size (w.heap.size + 1) F ta tb va vb := by
  have hb0 := ((Below.refl w.heap.size w).alloc (Nat.le_refl _) (.cells va ty)).alloc (by simp) (.cells vb ty)
  refine ⟨(Box.new w ty va).alloc _, ?_, (ha.below hb0 hS).more (fun b x => ?_), (hb.below hb0 hS).more (fun b x => ?_), Nat.le_refl _, by omega, by omega, hb0⟩
  · have := Box.new (w.alloc (.cells va ty)) ty vb
    simpa using this
  · have := hS b x
    simp
    omega
  · have := hS b x
    simp
    omega
theorem t2_new {w0 W : World} (ty : TypeId) {F : Nat} {ta tb : Tm} {va vb : Array Value} (hbl : Below w0.heap.size w0 W) (ha : Reads W (fun b => b < W.heap.size) F ta (.agg va)) (hb : Reads W (fun b => b < W.heap.size) F tb (.agg vb)) : T2 w0 ((W.alloc (.cells va ty)).alloc (.cells vb ty)) ty W.heap.size (W.heap.size + 1) F ta tb va vb := by
  have h := t2_start W ty ha hb (fun b x => x)
  have hs := hbl.size
  exact ⟨h.ba, h.bb, h.ra, h.rb, by omega, by omega, h.ne, hbl.trans (h.bl.mono hs)⟩
theorem at_call {P : Program} {f : FuncId} {args : Array Value} {W : World} {K : Ending → World → Prop} (h : ∀ W', W = W' → Calls P f args W' K) : Calls P f args W K := h W rfl
theorem bA1 (W : World) (o : Obj) : Below W.heap.size W (W.alloc o) := (Below.refl _ W).alloc (Nat.le_refl _) o
theorem bA2 (W : World) (o o' : Obj) : Below W.heap.size W ((W.alloc o).alloc o') := (bA1 W o).alloc (by simp) o'
theorem frb {W W' : World} (h : Fr (fun _ => False) W W') : Below W.heap.size W W' := h.below (Nat.le_refl _) (fun _ x => x.elim)
def zer : Array Value := #[.int .i64 0, .int .i64 0, .string ⟨#[]⟩, .slice none 0 0]
def sets4 (W : World) (g : Nat) (a b c d : Value) : World := (((W.setCell ⟨g, 0, none⟩ a).setCell ⟨g, 1, none⟩ b).setCell ⟨g, 2, none⟩ c).setCell ⟨g, 3, none⟩ d
theorem b4 {W : World} {g : Nat} {ty : TypeId} {a b c d : Value} (h : Box W g ty #[.int .i64 0, .int .i64 0, .string ⟨#[]⟩, .slice none 0 0]) : Box ((((W.setCell ⟨g, 0, none⟩ a).setCell ⟨g, 1, none⟩ b).setCell ⟨g, 2, none⟩ c).setCell ⟨g, 3, none⟩ d) g ty #[a, b, c, d] := by
  have := (((h.set_ 0 a).set_ 1 b).set_ 2 c).set_ 3 d
  simpa using this
theorem f4 {W : World} {g g' : Nat} {ty : TypeId} {v : Array Value} {a b c d : Value} (h : Box W g ty v) (hne : g ≠ g') : Box ((((W.setCell ⟨g', 0, none⟩ a).setCell ⟨g', 1, none⟩ b).setCell ⟨g', 2, none⟩ c).setCell ⟨g', 3, none⟩ d) g ty v :=
  (((h.far (p := ⟨g', 0, none⟩) hne a).far (p := ⟨g', 1, none⟩) hne b).far (p := ⟨g', 2, none⟩) hne c).far (p := ⟨g', 3, none⟩) hne d
theorem bn4 {W : World} {g' : Nat} {ty : TypeId} {v : Array Value} {a b c d : Value} : Box (((((W.setCell ⟨g', 0, none⟩ a).setCell ⟨g', 1, none⟩ b).setCell ⟨g', 2, none⟩ c).setCell ⟨g', 3, none⟩ d).alloc (.cells v ty)) W.heap.size ty v := by
  have := Box.new ((((W.setCell ⟨g', 0, none⟩ a).setCell ⟨g', 1, none⟩ b).setCell ⟨g', 2, none⟩ c).setCell ⟨g', 3, none⟩ d) ty v
  simpa using this
theorem bn1 {W : World} {o : Obj} {ty : TypeId} {v : Array Value} : Box ((W.alloc o).alloc (.cells v ty)) (W.heap.size + 1) ty v := by
  have := Box.new (W.alloc o) ty v
  simpa using this
theorem zfacts {W : World} {g : Nat} {ty : TypeId} (h : Box W g ty #[.int .i64 0, .int .i64 0, .string ⟨#[]⟩, .slice none 0 0]) :
    ((W.cell? ⟨g, 0, none⟩ = some (.int .i64 0) ∧ W.cell? ⟨g, 1, none⟩ = some (.int .i64 0) ∧ W.cell? ⟨g, 2, none⟩ = some (.string ⟨#[]⟩) ∧ W.cell? ⟨g, 3, none⟩ = some (.slice none 0 0)) ∧ W.frozen? ⟨g, 0, none⟩ = false ∧ W.frozen? ⟨g, 1, none⟩ = false ∧ W.frozen? ⟨g, 2, none⟩ = false ∧ W.frozen? ⟨g, 3, none⟩ = false) :=
  ⟨⟨h.cell 0, h.cell 1, h.cell 2, h.cell 3⟩, h.frozen 0, h.frozen 1, h.frozen 2, h.frozen 3⟩
theorem t2_end {w0 wc w5 w6 Wf : World} {ty : TypeId} {F gx gy m1 m2 : Nat} {xa xb : Tm} {vx vy : Array Value} (hbl : Below w0.heap.size w0 wc) (hb5 : Below wc.heap.size wc w5) (hb6 : Below w5.heap.size w5 w6)
    (R5 : Reads w5 (fun b => m1 ≤ b ∧ b < w5.heap.size) F xa (.agg vx)) (R6 : Reads w6 (fun b => m2 ≤ b ∧ b < w6.heap.size) F xb (.agg vy)) (hf : Fr (fun b => b = gx ∨ b = gy) w6 Wf) (bx : Box Wf gx ty vx) (by_ : Box Wf gy ty vy)
    (hx : wc.heap.size ≤ gx) (hy : wc.heap.size ≤ gy) (hne : gx ≠ gy) (dx : gx < m1 ∨ w5.heap.size ≤ gx) (dy : gy < m1 ∨ w5.heap.size ≤ gy) (ex : gx < m2 ∨ w6.heap.size ≤ gx) (ey : gy < m2 ∨ w6.heap.size ≤ gy) :
    T2 w0 Wf ty gx gy F xa xb vx vy ∧ Below wc.heap.size wc Wf := by
  have s1 := hb5.size
  have s2 := hb6.size
  have s3 := hf.size
  have s0 := hbl.size
  have hb : Below wc.heap.size wc Wf := (hb5.trans (hb6.mono s1)).trans (hf.below (by omega) (fun b e => by omega))
  exact ⟨⟨bx, by_, ((R5.below hb6 (fun b x => x.2)).fr hf (fun b x => ⟨by omega, by omega⟩)).more (fun b x => ⟨by omega, by omega, by omega⟩), (R6.fr hf (fun b x => ⟨by omega, by omega⟩)).more (fun b x => ⟨by omega, by omega, by omega⟩), by omega, by omega, hne, hbl.trans (hb.mono s0)⟩, hb⟩
theorem t2_both {w0 wc w5 w6 Wf : World} {tr ty : TypeId} {F ga gb gx gy m1 m2 : Nat} {xa xb : Tm} {va vb vx vy : Array Value} (K : T2 w0 wc tr ga gb F xa xb va vb) (hb5 : Below wc.heap.size wc w5) (hb6 : Below w5.heap.size w5 w6)
    (R5 : Reads w5 (fun b => m1 ≤ b ∧ b < w5.heap.size) F xa (.agg vx)) (R6 : Reads w6 (fun b => m2 ≤ b ∧ b < w6.heap.size) F xb (.agg vy)) (hf : Fr (fun b => b = gx ∨ b = gy) w6 Wf) (bx : Box Wf gx ty vx) (by_ : Box Wf gy ty vy)
    (ho : wc.heap.size ≤ gx ∧ wc.heap.size ≤ gy ∧ gx ≠ gy ∧ (gx < m1 ∨ w5.heap.size ≤ gx) ∧ (gy < m1 ∨ w5.heap.size ≤ gy) ∧ (gx < m2 ∨ w6.heap.size ≤ gx) ∧ (gy < m2 ∨ w6.heap.size ≤ gy)) :
    Hid (T2 w0 Wf tr ga gb F xa xb va vb) ∧ Hid (T2 w0 Wf ty gx gy F xa xb vx vy) := by
  have h := t2_end (ty := ty) K.bl hb5 hb6 R5 R6 hf bx by_ ho.1 ho.2.1 ho.2.2.1 ho.2.2.2.1 ho.2.2.2.2.1 ho.2.2.2.2.2.1 ho.2.2.2.2.2.2
  exact ⟨Lib.hid (K.below h.2), Lib.hid h.1⟩
theorem t2_A {w0 wc w5 w6 : World} {tr ty : TypeId} {F ga gb gx gy m1 m2 : Nat} {xa xb : Tm} {va vb : Array Value} {a b c d a' b' c' d' : Value} (K : T2 w0 wc tr ga gb F xa xb va vb) (hb5 : Below wc.heap.size wc w5) (hb6 : Below w5.heap.size w5 w6)
    (R5 : Reads w5 (fun b => m1 ≤ b ∧ b < w5.heap.size) F xa (.agg #[a, b, c, d])) (R6 : Reads w6 (fun b => m2 ≤ b ∧ b < w6.heap.size) F xb (.agg #[a', b', c', d']))
    (hx : Box w6 gx ty #[.int .i64 0, .int .i64 0, .string ⟨#[]⟩, .slice none 0 0]) (hy : Box w6 gy ty #[.int .i64 0, .int .i64 0, .string ⟨#[]⟩, .slice none 0 0]) (ho : (wc.heap.size ≤ gx ∧ wc.heap.size ≤ gy ∧ gx ≠ gy ∧ (gx < m1 ∨ w5.heap.size ≤ gx) ∧ (gy < m1 ∨ w5.heap.size ≤ gy) ∧ (gx < m2 ∨ w6.heap.size ≤ gx) ∧ (gy < m2 ∨ w6.heap.size ≤ gy))) :
    Hid (T2 w0 ((((((((w6.setCell ⟨gx, 0, none⟩ a).setCell ⟨gx, 1, none⟩ b).setCell ⟨gx, 2, none⟩ c).setCell ⟨gx, 3, none⟩ d).setCell ⟨gy, 0, none⟩ a').setCell ⟨gy, 1, none⟩ b').setCell ⟨gy, 2, none⟩ c').setCell ⟨gy, 3, none⟩ d') tr ga gb F xa xb va vb) ∧ Hid (T2 w0 ((((((((w6.setCell ⟨gx, 0, none⟩ a).setCell ⟨gx, 1, none⟩ b).setCell ⟨gx, 2, none⟩ c).setCell ⟨gx, 3, none⟩ d).setCell ⟨gy, 0, none⟩ a').setCell ⟨gy, 1, none⟩ b').setCell ⟨gy, 2, none⟩ c').setCell ⟨gy, 3, none⟩ d') ty gx gy F xa xb #[a, b, c, d] #[a', b', c', d']) :=
  t2_both K hb5 hb6 R5 R6 (((((((((Fr.refl (fun b => b = gx ∨ b = gy) w6).setCell (p := ⟨gx, 0, none⟩) (.inl (.inl rfl)) _).setCell (p := ⟨gx, 1, none⟩) (.inl (.inl rfl)) _).setCell (p := ⟨gx, 2, none⟩) (.inl (.inl rfl)) _).setCell (p := ⟨gx, 3, none⟩) (.inl (.inl rfl)) _).setCell (p := ⟨gy, 0, none⟩) (.inl (.inr rfl)) _).setCell (p := ⟨gy, 1, none⟩) (.inl (.inr rfl)) _).setCell (p := ⟨gy, 2, none⟩) (.inl (.inr rfl)) _).setCell (p := ⟨gy, 3, none⟩) (.inl (.inr rfl)) _) (f4 (b4 hx) ho.2.2.1) (b4 (f4 hy (fun e => ho.2.2.1 e.symm))) ho
theorem t2_B {w0 wc w5 w6 : World} {tr ty : TypeId} {F ga gb gx m1 m2 : Nat} {xa xb : Tm} {va vb : Array Value} {a b c d a' b' c' d' : Value} (K : T2 w0 wc tr ga gb F xa xb va vb) (hb5 : Below wc.heap.size wc w5) (hb6 : Below w5.heap.size w5 w6)
    (R5 : Reads w5 (fun b => m1 ≤ b ∧ b < w5.heap.size) F xa (.agg #[a, b, c, d])) (R6 : Reads w6 (fun b => m2 ≤ b ∧ b < w6.heap.size) F xb (.agg #[a', b', c', d']))
    (hx : Box w6 gx ty #[.int .i64 0, .int .i64 0, .string ⟨#[]⟩, .slice none 0 0]) (ho : (wc.heap.size ≤ gx ∧ wc.heap.size ≤ w6.heap.size ∧ gx ≠ w6.heap.size ∧ (gx < m1 ∨ w5.heap.size ≤ gx) ∧ (w6.heap.size < m1 ∨ w5.heap.size ≤ w6.heap.size) ∧ (gx < m2 ∨ w6.heap.size ≤ gx) ∧ (w6.heap.size < m2 ∨ w6.heap.size ≤ w6.heap.size))) :
    Hid (T2 w0 (((((w6.setCell ⟨gx, 0, none⟩ a).setCell ⟨gx, 1, none⟩ b).setCell ⟨gx, 2, none⟩ c).setCell ⟨gx, 3, none⟩ d).alloc (.cells #[a', b', c', d'] ty)) tr ga gb F xa xb va vb) ∧ Hid (T2 w0 (((((w6.setCell ⟨gx, 0, none⟩ a).setCell ⟨gx, 1, none⟩ b).setCell ⟨gx, 2, none⟩ c).setCell ⟨gx, 3, none⟩ d).alloc (.cells #[a', b', c', d'] ty)) ty gx w6.heap.size F xa xb #[a, b, c, d] #[a', b', c', d']) :=
  t2_both K hb5 hb6 R5 R6 ((((((Fr.refl (fun b => b = gx ∨ b = w6.heap.size) w6).setCell (p := ⟨gx, 0, none⟩) (.inl (.inl rfl)) _).setCell (p := ⟨gx, 1, none⟩) (.inl (.inl rfl)) _).setCell (p := ⟨gx, 2, none⟩) (.inl (.inl rfl)) _).setCell (p := ⟨gx, 3, none⟩) (.inl (.inl rfl)) _).alloc _) ((b4 hx).alloc _) bn4 ho
theorem t2_C {w0 wc w5 w6 : World} {tr ty : TypeId} {F ga gb gy m1 m2 : Nat} {xa xb : Tm} {va vb : Array Value} {a b c d a' b' c' d' : Value} (K : T2 w0 wc tr ga gb F xa xb va vb) (hb5 : Below wc.heap.size wc w5) (hb6 : Below w5.heap.size w5 w6)
    (R5 : Reads w5 (fun b => m1 ≤ b ∧ b < w5.heap.size) F xa (.agg #[a, b, c, d])) (R6 : Reads w6 (fun b => m2 ≤ b ∧ b < w6.heap.size) F xb (.agg #[a', b', c', d']))
    (hy : Box w6 gy ty #[.int .i64 0, .int .i64 0, .string ⟨#[]⟩, .slice none 0 0]) (ho : (wc.heap.size ≤ w6.heap.size ∧ wc.heap.size ≤ gy ∧ w6.heap.size ≠ gy ∧ (w6.heap.size < m1 ∨ w5.heap.size ≤ w6.heap.size) ∧ (gy < m1 ∨ w5.heap.size ≤ gy) ∧ (w6.heap.size < m2 ∨ w6.heap.size ≤ w6.heap.size) ∧ (gy < m2 ∨ w6.heap.size ≤ gy))) :
    Hid (T2 w0 (((((w6.setCell ⟨gy, 0, none⟩ a').setCell ⟨gy, 1, none⟩ b').setCell ⟨gy, 2, none⟩ c').setCell ⟨gy, 3, none⟩ d').alloc (.cells #[a, b, c, d] ty)) tr ga gb F xa xb va vb) ∧ Hid (T2 w0 (((((w6.setCell ⟨gy, 0, none⟩ a').setCell ⟨gy, 1, none⟩ b').setCell ⟨gy, 2, none⟩ c').setCell ⟨gy, 3, none⟩ d').alloc (.cells #[a, b, c, d] ty)) ty w6.heap.size gy F xa xb #[a, b, c, d] #[a', b', c', d']) :=
  t2_both K hb5 hb6 R5 R6 ((((((Fr.refl (fun b => b = w6.heap.size ∨ b = gy) w6).setCell (p := ⟨gy, 0, none⟩) (.inl (.inr rfl)) _).setCell (p := ⟨gy, 1, none⟩) (.inl (.inr rfl)) _).setCell (p := ⟨gy, 2, none⟩) (.inl (.inr rfl)) _).setCell (p := ⟨gy, 3, none⟩) (.inl (.inr rfl)) _).alloc _) bn4 ((b4 hy).alloc _) ho
theorem t2_D {w0 wc w5 w6 : World} {tr ty : TypeId} {F ga gb m1 m2 : Nat} {xa xb : Tm} {va vb : Array Value} {a b c d a' b' c' d' : Value} (K : T2 w0 wc tr ga gb F xa xb va vb) (hb5 : Below wc.heap.size wc w5) (hb6 : Below w5.heap.size w5 w6)
    (R5 : Reads w5 (fun b => m1 ≤ b ∧ b < w5.heap.size) F xa (.agg #[a, b, c, d])) (R6 : Reads w6 (fun b => m2 ≤ b ∧ b < w6.heap.size) F xb (.agg #[a', b', c', d']))
    (ho : (wc.heap.size ≤ w6.heap.size ∧ wc.heap.size ≤ (w6.heap.size + 1) ∧ w6.heap.size ≠ (w6.heap.size + 1) ∧ (w6.heap.size < m1 ∨ w5.heap.size ≤ w6.heap.size) ∧ ((w6.heap.size + 1) < m1 ∨ w5.heap.size ≤ (w6.heap.size + 1)) ∧ (w6.heap.size < m2 ∨ w6.heap.size ≤ w6.heap.size) ∧ ((w6.heap.size + 1) < m2 ∨ w6.heap.size ≤ (w6.heap.size + 1)))) :
    Hid (T2 w0 ((w6.alloc (.cells #[a, b, c, d] ty)).alloc (.cells #[a', b', c', d'] ty)) tr ga gb F xa xb va vb) ∧ Hid (T2 w0 ((w6.alloc (.cells #[a, b, c, d] ty)).alloc (.cells #[a', b', c', d'] ty)) ty w6.heap.size (w6.heap.size + 1) F xa xb #[a, b, c, d] #[a', b', c', d']) :=
  t2_both K hb5 hb6 R5 R6 (((Fr.refl (fun b => b = w6.heap.size ∨ b = w6.heap.size + 1) w6).alloc _).alloc _) ((Box.new _ _ _).alloc _) bn1 ho
theorem t2_E {w0 wc w5 w6 : World} {tr ty : TypeId} {F ga gb m1 m2 : Nat} {xa xb : Tm} {va vb : Array Value} {a b c d a' b' c' d' : Value} (K : T2 w0 wc tr ga gb F xa xb va vb) (hb5 : Below wc.heap.size wc w5) (hb6 : Below w5.heap.size w5 w6)
    (R5 : Reads w5 (fun b => m1 ≤ b ∧ b < w5.heap.size) F xa (.agg #[a, b, c, d])) (R6 : Reads w6 (fun b => m2 ≤ b ∧ b < w6.heap.size) F xb (.agg #[a', b', c', d']))
    (ho : (wc.heap.size ≤ (w6.heap.size + 1) ∧ wc.heap.size ≤ w6.heap.size ∧ (w6.heap.size + 1) ≠ w6.heap.size ∧ ((w6.heap.size + 1) < m1 ∨ w5.heap.size ≤ (w6.heap.size + 1)) ∧ (w6.heap.size < m1 ∨ w5.heap.size ≤ w6.heap.size) ∧ ((w6.heap.size + 1) < m2 ∨ w6.heap.size ≤ (w6.heap.size + 1)) ∧ (w6.heap.size < m2 ∨ w6.heap.size ≤ w6.heap.size))) :
    Hid (T2 w0 ((w6.alloc (.cells #[a', b', c', d'] ty)).alloc (.cells #[a, b, c, d] ty)) tr ga gb F xa xb va vb) ∧ Hid (T2 w0 ((w6.alloc (.cells #[a', b', c', d'] ty)).alloc (.cells #[a, b, c, d] ty)) ty (w6.heap.size + 1) w6.heap.size F xa xb #[a, b, c, d] #[a', b', c', d']) :=
  t2_both K hb5 hb6 R5 R6 (((Fr.refl (fun b => b = w6.heap.size + 1 ∨ b = w6.heap.size) w6).alloc _).alloc _) bn1 ((Box.new _ _ _).alloc _) ho
theorem ne_lists {a b : ByteArray} (h : ¬ a = b) : (a.toList == b.toList) = false := by
  rw [beq_eq_false_iff_ne]
  intro e
  rw [ByteArray.toList_eq, ByteArray.toList_eq] at e
  exact h (ByteArray.ext (Array.ext' e))
theorem cmp_of {a b : ByteArray} {x z : Bool} (h : (a = b) ↔ (x = true)) (hz : x = z) : (z = false → ¬ a = b) ∧ (z = true → a = b) := by
  subst hz
  exact ⟨fun e1 e2 => (by rw [h.1 e2] at e1; cases e1), fun e => h.2 e⟩
/-- What stands before the law's last statement. -/
structure RT (w0 W : World) (ga gb gx gy gt : Nat) (xa xb : Tm) (va vb vx vy vt : Array Value) : Prop where
  k : T2 w0 W 24 ga gb 5 xa xb va vb
  x : T2 w0 W 28 gx gy 5 xa xb vx vy
  bt : Box W gt 28 vt
  rt : Reads W (fun b => b < W.heap.size) 2000 xa (.agg vt)
theorem RT.below {w0 W W' : World} {ga gb gx gy gt : Nat} {xa xb : Tm} {va vb vx vy vt : Array Value} (h : RT w0 W ga gb gx gy gt xa xb va vb vx vy vt) (hb : Below W.heap.size W W') : RT w0 W' ga gb gx gy gt xa xb va vb vx vy vt :=
  ⟨h.k.below hb, h.x.below hb, h.bt.below hb h.bt.lt, (h.rt.below hb (fun b x => x)).more (fun b x => Nat.lt_of_lt_of_le x hb.size)⟩
theorem RT.cells {w0 w' : World} {ga gb gx gy gt : Nat} {xa xb : Tm} {k n : Int} {s : ByteArray} {A : Option Addr} {l c : Nat} {k2 n2 : Int} {s2 : ByteArray} {A2 : Option Addr} {l2 c2 : Nat} {k3 n3 : Int} {s3 : ByteArray} {A3 : Option Addr} {l3 c3 : Nat} {k4 n4 : Int} {s4 : ByteArray} {A4 : Option Addr} {l4 c4 : Nat} {k7 n7 : Int} {s7 : ByteArray} {A7 : Option Addr} {l7 c7 : Nat}
    (h : RT w0 w' ga gb gx gy gt xa xb #[.int .i64 k, .int .i64 n, .string s, .slice A l c] #[.int .i64 k2, .int .i64 n2, .string s2, .slice A2 l2 c2] #[.int .i64 k3, .int .i64 n3, .string s3, .slice A3 l3 c3] #[.int .i64 k4, .int .i64 n4, .string s4, .slice A4 l4 c4] #[.int .i64 k7, .int .i64 n7, .string s7, .slice A7 l7 c7]) :
    ((w'.cell? ⟨ga, 0, none⟩ = some (.int .i64 k) ∧ w'.cell? ⟨ga, 1, none⟩ = some (.int .i64 n) ∧ w'.cell? ⟨ga, 2, none⟩ = some (.string s) ∧ w'.cell? ⟨ga, 3, none⟩ = some (.slice A l c)) ∧ w'.cell? ⟨gb, 0, none⟩ = some (.int .i64 k2) ∧ w'.cell? ⟨gb, 1, none⟩ = some (.int .i64 n2) ∧ w'.cell? ⟨gb, 2, none⟩ = some (.string s2) ∧ w'.cell? ⟨gb, 3, none⟩ = some (.slice A2 l2 c2)) ∧ ((w'.cell? ⟨gx, 0, none⟩ = some (.int .i64 k3) ∧ w'.cell? ⟨gx, 1, none⟩ = some (.int .i64 n3) ∧ w'.cell? ⟨gx, 2, none⟩ = some (.string s3) ∧ w'.cell? ⟨gx, 3, none⟩ = some (.slice A3 l3 c3)) ∧ w'.cell? ⟨gy, 0, none⟩ = some (.int .i64 k4) ∧ w'.cell? ⟨gy, 1, none⟩ = some (.int .i64 n4) ∧ w'.cell? ⟨gy, 2, none⟩ = some (.string s4) ∧ w'.cell? ⟨gy, 3, none⟩ = some (.slice A4 l4 c4)) ∧ w'.cell? ⟨gt, 0, none⟩ = some (.int .i64 k7) ∧ w'.cell? ⟨gt, 1, none⟩ = some (.int .i64 n7) ∧ w'.cell? ⟨gt, 2, none⟩ = some (.string s7) ∧ w'.cell? ⟨gt, 3, none⟩ = some (.slice A7 l7 c7) :=
  ⟨h.k.cells, h.x.cells, h.bt.cell 0, h.bt.cell 1, h.bt.cell 2, h.bt.cell 3⟩
theorem pair_row {W : World} {g : Nat} {ty : TypeId} {S : Nat → Prop} {F : Nat} {xa xb : Tm} {a0 a1 a2 a3 b0 b1 b2 b3 : Value} (h : Box W g ty #[a0, a1, a2, a3, b0, b1, b2, b3]) (ra : Reads W S F xa (.agg #[a0, a1, a2, a3])) (rb : Reads W S F xb (.agg #[b0, b1, b2, b3])) (hg : S g) :
    ∀ i (h : i < [xa, xb].length), ∃ b off v0 v1 v2 v3, (some ⟨g, 0, none⟩ : Option Addr) = some ⟨b, off, none⟩ ∧ S b ∧ W.cell? ⟨b, off + i * 4, none⟩ = some v0 ∧ W.cell? ⟨b, off + i * 4 + 1, none⟩ = some v1 ∧
        W.cell? ⟨b, off + i * 4 + 2, none⟩ = some v2 ∧ W.cell? ⟨b, off + i * 4 + 3, none⟩ = some v3 ∧ Reads W S F [xa, xb][i] (.agg #[v0, v1, v2, v3]) := by
  intro i hi
  have hi2 : i = 0 ∨ i = 1 := by simp at hi; omega
  rcases hi2 with rfl | rfl
  · exact ⟨g, 0, a0, a1, a2, a3, rfl, hg, h.cell 0, h.cell 1, h.cell 2, h.cell 3, ra⟩
  · exact ⟨g, 0, b0, b1, b2, b3, rfl, hg, h.cell 4, h.cell 5, h.cell 6, h.cell 7, rb⟩
theorem below_drewN1 (W : World) (n : Nat) : Below W.heap.size W (W.drewN n) := ⟨rfl, rfl, rfl, Nat.le_refl _, fun _ _ => rfl⟩

set_option maxHeartbeats 4000000 in
set_option maxRecDepth 100000 in
theorem texts_any {F : Nat} {ta tb : Tm} {va vb : Value} {w : World} {B : Nat} (hra : Reads w (fun b => b < w.heap.size) F ta va) (hrb : Reads w (fun b => b < w.heap.size) F tb vb) (hL : Laid B w) :
    Calls Tryd.prog 3 #[va, vb] w fun e w' => e = .returned (.bool true) ∧ Below w.heap.size w w' := by
  obtain ⟨k, n, s, A, l, c, rfl⟩ := hra.form
  obtain ⟨k2, n2, s2, A2, l2, c2, rfl⟩ := hrb.form
  have K0 := Lib.hid (t2_start w 24 hra hrb (fun b x => x))
  have HL := Lib.hid hL
  obtain ⟨xa, hxa⟩ : ∃ x, (fixT 4 ta 30).1 = x := ⟨_, rfl⟩
  obtain ⟨xb, hxb⟩ : ∃ x, (fixT 4 tb 30).1 = x := ⟨_, rfl⟩
  have HXA := Lib.hid hxa
  have HXB := Lib.hid hxb
  clear hra hrb hL hxa hxb
  go_enter Tryd.func3, Tryd.ntmps3
  go_upto_region 1 with (fail)
  obtain ⟨W0, hW0⟩ : ∃ W0, ((w.alloc (.cells #[.int .i64 k, .int .i64 n, .string s, .slice A l c] 24)).alloc (.cells #[.int .i64 k2, .int .i64 n2, .string s2, .slice A2 l2 c2] 24)) = W0 := ⟨_, rfl⟩
  obtain ⟨gb, hgb⟩ : ∃ g, w.heap.size + 1 = g := ⟨_, rfl⟩
  obtain ⟨ga, hga⟩ : ∃ g, w.heap.size = g := ⟨_, rfl⟩
  rw [hW0, hgb, hga] at K0
  rw [hW0, hgb, hga]
  clear hW0
  have HGA := Lib.hid hga
  have HGB := Lib.hid hgb
  clear hga hgb
  go_cut [2, 3] from 10 to 13 (fun p q wc => p = .pointer (some ⟨ga, 0, none⟩) ∧ q = .pointer (some ⟨gb, 0, none⟩) ∧ ∃ (k n : Int) (s : ByteArray) (A : Option Addr) (l c : Nat) (k2 n2 : Int) (s2 : ByteArray) (A2 : Option Addr) (l2 c2 : Nat), Hid (T2 w wc 24 ga gb 5 xa xb #[.int .i64 k, .int .i64 n, .string s, .slice A l c] #[.int .i64 k2, .int .i64 n2, .string s2, .slice A2 l2 c2]))
  case first =>
    have KD := Lib.hid (K0.out.below (below_drewN1 W0 1))
    have hab : ga ≠ gb := K0.out.ne
    have hba : gb ≠ ga := fun e => K0.out.ne e.symm
    have hS0 := K0.out.cells
    have hS1 := KD.out.cells
    go_region_law (first
      | (go_simp; go_at_call 5; refine (lfix_any K5.out.rb (fun b x => x.1)).mono ?_; rintro e w6 ⟨v6, rfl, hr6, hb6⟩; obtain ⟨k6, n6, s6, A6, l6, c6, hv6⟩ := hr6.form; rw [hv6] at hr6; rw [hv6]; clear hv6; rw [HXB.out] at hr6; have K6 := Lib.hid (K5.out.below hb6); have HR6 := Lib.hid (hr6.more (S' := fun b => b < w6.heap.size ∧ b ≠ ga ∧ b ≠ gb) (fun b x => ⟨x.2, by have := K5.out.ba.lt; omega, by have := K5.out.bb.lt; omega⟩)); have HR56 := Lib.hid ((HR5.out.below hb6 (fun b x => x.1)).more (S' := fun b => b < w6.heap.size ∧ b ≠ ga ∧ b ≠ gb) (fun b x => ⟨Nat.lt_of_lt_of_le x.1 hb6.size, x.2⟩)); have hS6 := K6.out.cells; have hz6 := K6.out.loose; clear hr6 hb6)
      | (go_simp; go_at_call 5; refine (lfix_any KD.out.ra (fun b x => x.1)).mono ?_; rintro e w5 ⟨v5, rfl, hr5, hb5⟩; obtain ⟨k5, n5, s5, A5, l5, c5, hv5⟩ := hr5.form; rw [hv5] at hr5; rw [hv5]; clear hv5; rw [HXA.out] at hr5; have K5 := Lib.hid (KD.out.below hb5); have HR5 := Lib.hid (hr5.more (S' := fun b => b < w5.heap.size ∧ b ≠ ga ∧ b ≠ gb) (fun b x => ⟨x.2, by have := KD.out.ba.lt; omega, by have := KD.out.bb.lt; omega⟩)); have hS5 := K5.out.cells; clear hr5 hb5))
    all_goals
      go_wp2_with (fail)
      go_meet
      exact ⟨rfl, rfl, _, _, _, _, _, _, _, _, _, _, _, _, Lib.hid (K6.out.store HR56.out HR6.out)⟩
  case rest =>
    obtain ⟨rfl, rfl, k, n, s, A, l, c, k2, n2, s2, A2, l2, c2, K1⟩ := hcut
    clear K0
    go_upto_region 2 with (fail)
    go_cut [2, 3, 5, 6] from 14 to 17 (fun p q x y wc => p = .pointer (some ⟨ga, 0, none⟩) ∧ q = .pointer (some ⟨gb, 0, none⟩) ∧ ∃ (gx gy : Nat), x = .pointer (some ⟨gx, 0, none⟩) ∧ y = .pointer (some ⟨gy, 0, none⟩) ∧ ∃ (k3 n3 : Int) (s3 : ByteArray) (A3 : Option Addr) (l3 c3 : Nat) (k4 n4 : Int) (s4 : ByteArray) (A4 : Option Addr) (l4 c4 : Nat), Hid (T2 w wc 24 ga gb 5 xa xb #[.int .i64 k, .int .i64 n, .string s, .slice A l c] #[.int .i64 k2, .int .i64 n2, .string s2, .slice A2 l2 c2]) ∧ Hid (T2 w wc 28 gx gy 5 xa xb #[.int .i64 k3, .int .i64 n3, .string s3, .slice A3 l3 c3] #[.int .i64 k4, .int .i64 n4, .string s4, .slice A4 l4 c4]))
    case first =>
      have hsa : xa.size ≤ 1000000 := by
        have := (fix_all 4 ta 30).2.2.1
        rw [HXA.out] at this
        omega
      have hsb : xb.size ≤ 1000000 := by
        have := (fix_all 4 tb 30).2.2.1
        rw [HXB.out] at this
        omega
      have HSA := Lib.hid hsa
      have HSB := Lib.hid hsb
      clear hsa hsb
      have HFL : True := trivial
      have hab : ga ≠ gb := K1.out.ne
      have hba : gb ≠ ga := fun e => K1.out.ne e.symm
      have hS0 := K1.out.cells
      have hS0a := fun o => (K1.out.below (bA1 wc o)).cells
      have hS0b := fun o o' => (K1.out.below (bA2 wc o o')).cells
      have hS1 := (K1.out.below (below_drewN1 wc 1)).cells
      have hS1a := fun o => ((K1.out.below (below_drewN1 wc 1)).below (bA1 (wc.drewN 1) o)).cells
      have hS1b := fun o o' => ((K1.out.below (below_drewN1 wc 1)).below (bA2 (wc.drewN 1) o o')).cells
      have hg1 : ga < wc.heap.size := K1.out.ba.lt
      have hg2 : gb < wc.heap.size := K1.out.bb.lt
      go_region_held3 (fun w' => (w'.cell? ⟨ga, 0, none⟩ = some (.int .i64 k) ∧ w'.cell? ⟨ga, 1, none⟩ = some (.int .i64 n) ∧ w'.cell? ⟨ga, 2, none⟩ = some (.string s) ∧ w'.cell? ⟨ga, 3, none⟩ = some (.slice A l c)) ∧ w'.cell? ⟨gb, 0, none⟩ = some (.int .i64 k2) ∧ w'.cell? ⟨gb, 1, none⟩ = some (.int .i64 n2) ∧ w'.cell? ⟨gb, 2, none⟩ = some (.string s2) ∧ w'.cell? ⟨gb, 3, none⟩ = some (.slice A2 l2 c2))
        (first | with_reducible exact hS6 | with_reducible exact hS6a _ | with_reducible exact hS6b _ _ | with_reducible exact hS5 | with_reducible exact hS5a _ | with_reducible exact hS5b _ _ | with_reducible exact hS0 | with_reducible exact hS0a _ | with_reducible exact hS0b _ _ | with_reducible exact hS1 | with_reducible exact hS1a _ | with_reducible exact hS1b _ _ | with_reducible exact cells2 (f4 K6a (by assumption)) (f4 K6b (by assumption)) | with_reducible exact cells2 ((f4 K6a (by assumption)).alloc _) ((f4 K6b (by assumption)).alloc _) | with_reducible exact cells2 (f4 (f4 K6a (by assumption)) (by assumption)) (f4 (f4 K6b (by assumption)) (by assumption)) | with_reducible exact cells2 K1.out.ba.drew K1.out.bb.drew | with_reducible exact cells2 (K1.out.ba.alloc _).drew (K1.out.bb.alloc _).drew | with_reducible exact cells2 ((K1.out.ba.alloc _).alloc _).drew ((K1.out.bb.alloc _).alloc _).drew | go_keep)
        (first
        | (go_at_call 6; refine at_call ?_; intro W2 hW2; have hb2 : Below w5.heap.size w5 W2 := (by rw [← hW2]; first | exact Below.refl _ _ | exact bA1 _ _ | exact bA2 _ _ _); refine (to_any _ xb _ _ _ (K5.out.below hb2).rb (fun b x => x.1) HSB.out).mono ?_; rintro e w6 ⟨v6, rfl, hr6, hb6⟩; obtain ⟨k6, n6, s6, A6, l6, c6, hv6⟩ := hr6.form; rw [hv6] at hr6; rw [hv6]; clear hv6; have HR6 := Lib.hid hr6; have HB6 := Lib.hid (hb2.trans (hb6.mono hb2.size)); have K6a := (K5.out.below HB6.out).ba; have K6b := (K5.out.below HB6.out).bb; have hS6 := (K5.out.below HB6.out).cells; have hS6a := fun o => ((K5.out.below HB6.out).below (bA1 w6 o)).cells; have hS6b := fun o o' => ((K5.out.below HB6.out).below (bA2 w6 o o')).cells; have hl6 : wc.heap.size ≤ w6.heap.size := (by have := HB5.out.size; have := HB6.out.size; omega); have ha1 : ga ≠ w5.heap.size := (by have := HB5.out.size; omega); have ha2 : ga ≠ w5.heap.size + 1 := (by have := HB5.out.size; omega); have ha3 : gb ≠ w5.heap.size := (by have := HB5.out.size; omega); have ha4 : gb ≠ w5.heap.size + 1 := (by have := HB5.out.size; omega); have ha5 : ga ≠ w6.heap.size := (by omega); have ha6 : ga ≠ w6.heap.size + 1 := (by omega); have ha7 : gb ≠ w6.heap.size := (by omega); have ha8 : gb ≠ w6.heap.size + 1 := (by omega); have ha9 : ga ≠ wc.heap.size := (by omega); have haa : ga ≠ wc.heap.size + 1 := (by omega); have hab' : gb ≠ wc.heap.size := (by omega); have hac : gb ≠ wc.heap.size + 1 := (by omega); have hz := hb6.size; have hz2 : w5.heap.size ≤ W2.heap.size := hb2.size; (first | (have hxa6 := hxa5.below HB6.out hxa5.lt; have fxa6 := zfacts hxa6; have fxa6a := fun o => zfacts (hxa6.alloc o); try clear fxa5; try clear fxa5a) | skip); (first | (have hxb6 := hxb5.below HB6.out hxb5.lt; have fxb6 := zfacts hxb6; have fxb6a := fun o => zfacts (hxb6.alloc o); try clear fxb5; try clear fxb5a) | skip); (first | (have hya : Box W2 (w5.heap.size + 1) 28 #[.int .i64 0, .int .i64 0, .string ⟨#[]⟩, .slice none 0 0] := (by rw [← hW2]; exact bn1); have hyb : Box W2 w5.heap.size 28 #[.int .i64 0, .int .i64 0, .string ⟨#[]⟩, .slice none 0 0] := (by rw [← hW2]; exact (Box.new _ _ _).alloc _); have hW2s : W2.heap.size = w5.heap.size + 2 := (by rw [← hW2]; simp); have hya6 := hya.below hb6 hya.lt; have hyb6 := hyb.below hb6 hyb.lt; have fya6 := zfacts hya6; have fyb6 := zfacts hyb6) | (have hyb : Box W2 w5.heap.size 28 #[.int .i64 0, .int .i64 0, .string ⟨#[]⟩, .slice none 0 0] := (by rw [← hW2]; exact Box.new _ _ _); have hW2s : W2.heap.size = w5.heap.size + 1 := (by rw [← hW2]; simp); have hyb6 := hyb.below hb6 hyb.lt; have fyb6 := zfacts hyb6; have fyb6a := fun o => zfacts (hyb6.alloc o)) | (have hW2s : W2.heap.size = w5.heap.size := (by rw [← hW2]))); (first | (have hm1 : wc.heap.size ≠ w6.heap.size := (by omega); have hm2 : w6.heap.size ≠ wc.heap.size := (by omega); have hm3 : wc.heap.size < w6.heap.size := (by omega)) | skip); (first | (have hp1 : w5.heap.size ≠ w6.heap.size := (by omega); have hp2 : w6.heap.size ≠ w5.heap.size := (by omega); have hp3 : w5.heap.size < w6.heap.size := (by omega)) | skip); clear hW2)
        | (go_at_call 6; have _ := HFL; clear HFL; refine at_call ?_; intro W1 hW1; have hb1 : Below wc.heap.size wc W1 := (by rw [← hW1]; first | exact frb (Fr.refl _ wc).drew | exact frb ((Fr.refl _ wc).alloc _).drew | exact frb (((Fr.refl _ wc).alloc _).alloc _).drew); refine (to_any _ xa _ _ _ (K1.out.below hb1).ra (fun b x => x.1) HSA.out).mono ?_; rintro e w5 ⟨v5, rfl, hr5, hb5⟩; obtain ⟨k5, n5, s5, A5, l5, c5, hv5⟩ := hr5.form; rw [hv5] at hr5; rw [hv5]; clear hv5; have HR5 := Lib.hid hr5; have HB5 := Lib.hid (hb1.trans (hb5.mono hb1.size)); have K5 := Lib.hid (K1.out.below HB5.out); have hS5 := K5.out.cells; have hS5a := fun o => (K5.out.below (bA1 w5 o)).cells; have hS5b := fun o o' => (K5.out.below (bA2 w5 o o')).cells; have hz1 := hb5.size; (first | (have hxb : Box W1 (wc.heap.size + 1) 28 #[.int .i64 0, .int .i64 0, .string ⟨#[]⟩, .slice none 0 0] := (by rw [← hW1]; exact bn1.drew); have hxa : Box W1 wc.heap.size 28 #[.int .i64 0, .int .i64 0, .string ⟨#[]⟩, .slice none 0 0] := (by rw [← hW1]; exact ((Box.new _ _ _).alloc _).drew); have hW1s : W1.heap.size = wc.heap.size + 2 := (by rw [← hW1]; simp); have hxa5 := hxa.below hb5 hxa.lt; have hxb5 := hxb.below hb5 hxb.lt) | (have hxa : Box W1 wc.heap.size 28 #[.int .i64 0, .int .i64 0, .string ⟨#[]⟩, .slice none 0 0] := (by rw [← hW1]; exact (Box.new _ _ _).drew); have hW1s : W1.heap.size = wc.heap.size + 1 := (by rw [← hW1]; simp); have hxa5 := hxa.below hb5 hxa.lt; have fxa5 := zfacts hxa5; have fxa5a := fun o => zfacts (hxa5.alloc o)) | (have hW1s : W1.heap.size = wc.heap.size := (by rw [← hW1]; simp))); (first | (have hn1 : wc.heap.size ≠ w5.heap.size := (by omega); have hn2 : w5.heap.size ≠ wc.heap.size := (by omega); have hn3 : wc.heap.size < w5.heap.size := (by omega)) | skip); clear hW1))
      all_goals
        go_wp2_with (fail)
        go_meet
        have q1 := HB5.out.size
        have q2 := HB6.out.size
        refine ⟨rfl, rfl, _, _, rfl, rfl, k5, n5, s5, A5, l5, c5, k6, n6, s6, A6, l6, c6, ?_⟩
        first
          | with_reducible exact t2_A K1.out HB5.out HB6.out HR5.out HR6.out (by assumption) (by assumption) (by omega)
          | with_reducible exact t2_B K1.out HB5.out HB6.out HR5.out HR6.out (by assumption) (by omega)
          | with_reducible exact t2_C K1.out HB5.out HB6.out HR5.out HR6.out (by assumption) (by omega)
          | with_reducible exact t2_D K1.out HB5.out HB6.out HR5.out HR6.out (by omega)
          | with_reducible exact t2_E K1.out HB5.out HB6.out HR5.out HR6.out (by omega)
    case rest =>
      obtain ⟨rfl, rfl, gx, gy, rfl, rfl, k3, n3, s3, A3, l3, c3, k4, n4, s4, A4, l4, c4, K2, X2⟩ := hcut
      clear K1
      have hra : xa.right = true := by rw [← HXA.out]; exact (fix_all 4 ta 30).1
      have hrb : xb.right = true := by rw [← HXB.out]; exact (fix_all 4 tb 30).1
      have hsa : xa.size ≤ 256 := by rw [← HXA.out]; exact (fix_all 4 ta 30).2.2.1
      have hsb : xb.size ≤ 256 := by rw [← HXB.out]; exact (fix_all 4 tb 30).2.2.1
      have hta : xa.text.length ≤ 1280 := by
        have h := small_text xa (by rw [← HXA.out]; exact (fix_all 4 ta 30).2.1)
        omega
      have htb : xb.text.length ≤ 1280 := by
        have h := small_text xb (by rw [← HXB.out]; exact (fix_all 4 tb 30).2.1)
        omega
      have hts := text_same xa xb hra hrb (by omega) (by omega)
      have hpb := parse_back xa hra (by omega)
      obtain ⟨sa, hsae⟩ : ∃ sa, (⟨xa.text.toArray⟩ : ByteArray) = sa := ⟨_, rfl⟩
      obtain ⟨sb, hsbe⟩ : ∃ sb, (⟨xb.text.toArray⟩ : ByteArray) = sb := ⟨_, rfl⟩
      have hsz : sa.size ≤ 1280 := by rw [← hsae]; simpa [ByteArray.size] using hta
      have hsab : (sa = sb) ↔ (xa.same xb = true) := by
        rw [← hts, decide_eq_true_eq, ← hsae, ← hsbe]
        constructor
        · intro e
          injection e with e
          simpa using congrArg Array.toList e
        · intro e
          rw [e]
      rw [hsae] at hpb
      have HRA := Lib.hid hra
      have HRB := Lib.hid hrb
      have HZA := Lib.hid hsa
      have HZB := Lib.hid hsb
      have HTA := Lib.hid hta
      have HTB := Lib.hid htb
      have HPB := Lib.hid hpb
      have HSA := Lib.hid hsae
      have HSB := Lib.hid hsbe
      have HSZ := Lib.hid hsz
      have HSAB := Lib.hid hsab
      obtain ⟨zs, hzs⟩ : ∃ z, xa.same xb = z := ⟨_, rfl⟩
      have HZS := Lib.hid hzs
      clear hra hrb hsa hsb hta htb hpb hsae hsbe hsz hsab hts hzs
      have HLc := Lib.hid (HL.out.below K2.out.bl HL.out.size)
      have x0 : wc.cell? ⟨gx, 0, none⟩ = some (.int .i64 k3) := X2.out.ba.cell 0
      have x1 : wc.cell? ⟨gx, 1, none⟩ = some (.int .i64 n3) := X2.out.ba.cell 1
      have x2 : wc.cell? ⟨gx, 2, none⟩ = some (.string s3) := X2.out.ba.cell 2
      have x3 : wc.cell? ⟨gx, 3, none⟩ = some (.slice A3 l3 c3) := X2.out.ba.cell 3
      go_upto_region 5 with (first
        | (go_at_call 7; refine (tText_any X2.out.ra (fun b x => x.1) HLc.out (by have := HTA.out; omega)).mono ?_; rw [HSA.out]; rintro e wt ⟨rfl, hbt⟩; have KT := Lib.hid (K2.out.below hbt); have XT := Lib.hid (X2.out.below hbt); have HLT := Lib.hid (HLc.out.below hbt HLc.out.size); clear hbt x0 x1 x2 x3)
        | (go_at_call 8; refine (parse_any sa (by have := HSZ.out; unfold maxLen; omega) HLT.out).mono ?_; rw [HPB.out]; rintro e wp ⟨vp, rfl, hrp, hbp⟩; obtain ⟨k7, n7, s7, A7, l7, c7, hvp⟩ := hrp.form; rw [hvp] at hrp; rw [hvp]; clear hvp; have KP := Lib.hid (KT.out.below (hbp.trans (bA1 wp (.cells #[.int .i64 k7, .int .i64 n7, .string s7, .slice A7 l7 c7] 28) |>.mono hbp.size))); have XP := Lib.hid (XT.out.below (hbp.trans (bA1 wp (.cells #[.int .i64 k7, .int .i64 n7, .string s7, .slice A7 l7 c7] 28) |>.mono hbp.size))); have HLP := Lib.hid ((HLT.out.below hbp HLT.out.size).below (bA1 wp (.cells #[.int .i64 k7, .int .i64 n7, .string s7, .slice A7 l7 c7] 28)) (HLT.out.below hbp HLT.out.size).size); have HRP := Lib.hid (((hrp.alloc (fun b x => x.2) (.cells #[.int .i64 k7, .int .i64 n7, .string s7, .slice A7 l7 c7] 28)).more (S' := fun b => b < (wp.alloc (.cells #[.int .i64 k7, .int .i64 n7, .string s7, .slice A7 l7 c7] 28)).heap.size) (fun b x => by simp; omega)).fuel (g := 2000) (by have := HSZ.out; omega)); have HTP := Lib.hid (Box.new wp 28 #[.int .i64 k7, .int .i64 n7, .string s7, .slice A7 l7 c7]); clear hrp hbp))
      obtain ⟨w0, hw0⟩ : ∃ w0, wp.alloc (.cells #[.int .i64 k7, .int .i64 n7, .string s7, .slice A7 l7 c7] 28) = w0 := ⟨_, rfl⟩
      obtain ⟨gt, hgt⟩ : ∃ g, wp.heap.size = g := ⟨_, rfl⟩
      rw [hw0] at KP XP HLP HRP HTP
      rw [hgt] at HTP
      rw [hw0, hgt]
      clear hw0 hgt
      have HK0 : Hid (RT w w0 ga gb gx gy gt xa xb #[.int .i64 k, .int .i64 n, .string s, .slice A l c] #[.int .i64 k2, .int .i64 n2, .string s2, .slice A2 l2 c2] #[.int .i64 k3, .int .i64 n3, .string s3, .slice A3 l3 c3] #[.int .i64 k4, .int .i64 n4, .string s4, .slice A4 l4 c4] #[.int .i64 k7, .int .i64 n7, .string s7, .slice A7 l7 c7]) := Lib.hid ⟨KP.out, XP.out, HTP.out, HRP.out⟩
      clear KP XP HTP HRP KT XT HLT HLc HL K2 X2 HXA HXB HGA HGB
      have hS0 := HK0.out.cells
      have HKD := Lib.hid (HK0.out.below (below_drewN1 w0 1))
      have HLD := Lib.hid (HLP.out.below (below_drewN1 w0 1) HLP.out.size)
      have hVL : (varsL [] [xa, xb]).length ≤ 1000000 := by
        have h := (varsL_len [] [xa, xb]).2
        have := HZA.out
        have := HZB.out
        simp [sizes] at h
        omega
      have HVL := Lib.hid hVL
      have HVZ : Hid (sizes [xa, xb] ≤ 1000000) := by
        have := HZA.out
        have := HZB.out
        show _ ≤ _
        simp [sizes]
        omega
      clear hVL
      cases zs
      all_goals
        have hcmp := cmp_of HSAB.out HZS.out
        try (obtain rfl := hcmp.2 rfl)
        try (have hne : ¬ sa = sb := hcmp.1 rfl)
        go_region_held3 (fun w' => ((w'.cell? ⟨ga, 0, none⟩ = some (.int .i64 k) ∧ w'.cell? ⟨ga, 1, none⟩ = some (.int .i64 n) ∧ w'.cell? ⟨ga, 2, none⟩ = some (.string s) ∧ w'.cell? ⟨ga, 3, none⟩ = some (.slice A l c)) ∧ w'.cell? ⟨gb, 0, none⟩ = some (.int .i64 k2) ∧ w'.cell? ⟨gb, 1, none⟩ = some (.int .i64 n2) ∧ w'.cell? ⟨gb, 2, none⟩ = some (.string s2) ∧ w'.cell? ⟨gb, 3, none⟩ = some (.slice A2 l2 c2)) ∧ ((w'.cell? ⟨gx, 0, none⟩ = some (.int .i64 k3) ∧ w'.cell? ⟨gx, 1, none⟩ = some (.int .i64 n3) ∧ w'.cell? ⟨gx, 2, none⟩ = some (.string s3) ∧ w'.cell? ⟨gx, 3, none⟩ = some (.slice A3 l3 c3)) ∧ w'.cell? ⟨gy, 0, none⟩ = some (.int .i64 k4) ∧ w'.cell? ⟨gy, 1, none⟩ = some (.int .i64 n4) ∧ w'.cell? ⟨gy, 2, none⟩ = some (.string s4) ∧ w'.cell? ⟨gy, 3, none⟩ = some (.slice A4 l4 c4)) ∧ w'.cell? ⟨gt, 0, none⟩ = some (.int .i64 k7) ∧ w'.cell? ⟨gt, 1, none⟩ = some (.int .i64 n7) ∧ w'.cell? ⟨gt, 2, none⟩ = some (.string s7) ∧ w'.cell? ⟨gt, 3, none⟩ = some (.slice A7 l7 c7))
          (first | with_reducible assumption | with_reducible exact hS8a _ | with_reducible exact hS8b _ _ | with_reducible exact hS9a _ | go_keep)
          (first
            | (go_at_call 9; refine (told_any HLD.out).mono ?_; rintro e w2 ⟨rfl, hb2⟩; have HK2 := Lib.hid (HKD.out.below hb2); have HL2 := Lib.hid (HLD.out.below hb2 HLD.out.size); have hS2 := HK2.out.cells; clear hb2 HKD HLD HK0 HLP; try clear hS0)
            | (go_at_call 10; refine (rText_any 5 xa _ _ _ HK2.out.k.ra (fun b x => x.1) HRA.out (by have := HTA.out; omega)).mono ?_; rw [show bs xa.text = sa from HSA.out]; rintro e w3 ⟨rfl, hb3⟩; have HK3 := Lib.hid (HK2.out.below hb3); have HL3 := Lib.hid (HL2.out.below hb3 HL2.out.size); have hS3 := HK3.out.cells; clear hb3 HK2 HL2; try clear hS2)
            | (go_at_call 12; refine (from_any 2000 xa _ _ _ HK3.out.rt (fun b x => x) (by have := HZA.out; omega)).mono ?_; intro e w4 hc4; obtain ⟨v4, rfl, hr4, hb4⟩ := hc4; obtain ⟨k8, n8, s8, A8, l8, c8, hv4⟩ := hr4.form; rw [hv4] at hr4; rw [hv4]; clear hv4; have HR4 := Lib.hid (hr4.more (S' := fun b => b < w4.heap.size) (fun b hb => hb.2)); have HK4 := Lib.hid (HK3.out.below hb4); have HL4 := Lib.hid (HL3.out.below hb4 HL3.out.size); have hS4 := HK4.out.cells; clear hr4 hb4 HK3 HL3; try clear hS3)
            | (go_at_call 11; first
                | (refine (refSame_any 5 xa xb _ _ _ _ HK14.out.k.ra HK14.out.k.rb (fun b x => x.1)).mono ?_; rw [HZS.out]; rintro e w15 ⟨rfl, hb15⟩; have HK15 := Lib.hid (HK14.out.below hb15); have hS15 := HK15.out.cells; clear hb15 HK14; try clear hS14)
                | (refine (refSame_any 5 xa xb _ _ _ _ HK12.out.k.ra HK12.out.k.rb (fun b x => x.1)).mono ?_; rw [HZS.out]; rintro e w13 ⟨rfl, hb13⟩; have HK13 := Lib.hid (HK12.out.below hb13); have HL13 := Lib.hid (HL12.out.below hb13 HL12.out.size); have hS13 := HK13.out.cells; clear hb13 HK12 HL12; try clear hS12)
                | (refine (refSame_any 2000 xa xa _ _ _ (fun b => b < w4.heap.size) HR4.out ((HK4.out.k.ra.more (fun b x => x.1)).fuel (by omega)) (fun b x => x)).mono ?_; rw [same_self]; rintro e w5 ⟨rfl, hb5⟩; have HK5 := Lib.hid (HK4.out.below hb5); have HL5 := Lib.hid (HL4.out.below hb5 HL4.out.size); have hS5 := HK5.out.cells; clear hb5 HK4 HL4 HR4; try clear hS4))
            | (go_at_call 13; refine (tSize_tree 5 xa _ _ _ HK5.out.x.ra (fun b x => x.1) (by have := HZA.out; omega)).mono ?_; rintro e w6 ⟨rfl, hb6⟩; have HK6 := Lib.hid (HK5.out.below hb6); have HL6 := Lib.hid (HL5.out.below hb6 HL5.out.size); have hS6 := HK6.out.cells; clear hb6 HK5 HL5; try clear hS5)
            | (go_at_call 14; refine (refSize_any 5 xa _ _ _ HK6.out.k.ra (fun b x => x.1) (by have := HZA.out; omega)).mono ?_; rintro e w8 ⟨rfl, hb8⟩; have HK8 := Lib.hid (HK6.out.below hb8); have HL8 := Lib.hid (HL6.out.below hb8 HL6.out.size); have hS8 := HK8.out.cells; have hS8a := fun o => (HK8.out.below (bA1 w8 o)).cells; have hS8b := fun o o' => (HK8.out.below (bA2 w8 o o')).cells; clear hb8 HK6 HL6; try clear hS6)
            | (go_at_call 16; refine at_call ?_; intro W1 hW1; have hb1 : Below w8.heap.size w8 W1 := (by rw [← hW1]; first | with_reducible exact bA1 _ _ | with_reducible exact bA2 _ _ _); have HKV := Lib.hid (HK8.out.below hb1); (first | (have hbv : Box W1 w8.heap.size 24 #[.int .i64 k, .int .i64 n, .string s, .slice A l c, .int .i64 k2, .int .i64 n2, .string s2, .slice A2 l2 c2] := (by rw [← hW1]; with_reducible exact (Box.new _ _ _).alloc _); have hbw : Box W1 (w8.heap.size + 1) 28 #[.int .i64 k3, .int .i64 n3, .string s3, .slice A3 l3 c3, .int .i64 k4, .int .i64 n4, .string s4, .slice A4 l4 c4] := (by rw [← hW1]; with_reducible exact bn1)) | (have hbv : Box W1 (w8.heap.size + 1) 24 #[.int .i64 k, .int .i64 n, .string s, .slice A l c, .int .i64 k2, .int .i64 n2, .string s2, .slice A2 l2 c2] := (by rw [← hW1]; with_reducible exact bn1); have hbw : Box W1 w8.heap.size 28 #[.int .i64 k3, .int .i64 n3, .string s3, .slice A3 l3 c3, .int .i64 k4, .int .i64 n4, .string s4, .slice A4 l4 c4] := (by rw [← hW1]; with_reducible exact (Box.new _ _ _).alloc _)) | (have hbw : Box W1 w8.heap.size 28 #[.int .i64 k3, .int .i64 n3, .string s3, .slice A3 l3 c3, .int .i64 k4, .int .i64 n4, .string s4, .slice A4 l4 c4] := (by rw [← hW1]; with_reducible exact Box.new _ _ _))); refine (tVars_any [xa, xb] (some ⟨_, 0, none⟩) 2 W1 (fun b => b < W1.heap.size) (Nat.le_refl _) (by unfold maxLen; omega) (pair_row hbw (HKV.out.x.ra.more (fun b x => x.1)) (HKV.out.x.rb.more (fun b x => x.1)) hbw.lt) (fun b x => x) HVZ.out).mono ?_; rintro e w9 ⟨vs9, rfl, hrow9, hb9⟩; have HK9 := Lib.hid (HKV.out.below hb9); have hS9 := HK9.out.cells; have hS9a := fun o => (HK9.out.below (bA1 w9 o)).cells; have HRW9 := Lib.hid hrow9; (first | have hbv9 := hbv.below hb9 hbv.lt | skip); have HL9 := Lib.hid ((HL8.out.below hb1 HL8.out.size).below hb9 (HL8.out.below hb1 HL8.out.size).size); clear hW1 hrow9 HK8 HL8 HKV hS8 hS8a hS8b; try clear hb1)
            | (go_at_call 17; refine at_call ?_; intro W2 hW2; have hb2 : Below w9.heap.size w9 W2 := (by rw [← hW2]; first | with_reducible exact Below.refl _ _ | with_reducible exact bA1 _ _); have HKW := Lib.hid (HK9.out.below hb2); (first | (have hbu : Box W2 w9.heap.size 24 #[.int .i64 k, .int .i64 n, .string s, .slice A l c, .int .i64 k2, .int .i64 n2, .string s2, .slice A2 l2 c2] := (by rw [← hW2]; with_reducible exact Box.new _ _ _)) | (have hbu := hbv9.below hb2 hbv9.lt)); refine (rVars_any [xa, xb] (some ⟨_, 0, none⟩) 2 W2 (fun b => b < W2.heap.size) (Nat.le_refl _) (by unfold maxLen; omega) (pair_row hbu (HKW.out.k.ra.more (fun b x => x.1)) (HKW.out.k.rb.more (fun b x => x.1)) hbu.lt) (fun b x => x) HVZ.out).mono ?_; rintro e w10 ⟨vs10, rfl, hrow10, hb10⟩; have HK10 := Lib.hid (HKW.out.below hb10); have hS10 := HK10.out.cells; have HRW10 := Lib.hid hrow10; have HRW9b := Lib.hid (own_below2 (own_below2 HRW9.out hb2) hb10); have HL10 := Lib.hid ((HL9.out.below hb2 HL9.out.size).below hb10 (HL9.out.below hb2 HL9.out.size).size); clear hW2 hrow10 HK9 HL9 HKW hS9 hS9a HRW9; try clear hbv9)
            | (go_at_call 15; refine (ints_same HVL.out HRW9b.out HRW10.out).mono ?_; rintro e w11 ⟨rfl, mm, rfl⟩; have HK11 := Lib.hid (HK10.out.below (below_drewN1 w10 mm)); have HL11 := Lib.hid (HL10.out.below (below_drewN1 w10 mm) HL10.out.size); have hS11 := HK11.out.cells; clear HK10 HL10 HRW9b HRW10; try clear hS10)
            | (go_at_call 18; refine (tSame_any 5 xa xb _ _ _ _ HK11.out.x.ra HK11.out.x.rb (fun b x => x.1)).mono ?_; rw [HZS.out]; rintro e w12 ⟨rfl, hb12⟩; have HK12 := Lib.hid (HK11.out.below hb12); have HL12 := Lib.hid (HL11.out.below hb12 HL11.out.size); have hS12 := HK12.out.cells; clear hb12 HK11 HL11; try clear hS11)
            | (go_at_call 7; refine (tText_any HK13.out.x.rb (fun b x => x.1) HL13.out (by have := HTB.out; omega)).mono ?_; rw [HSB.out]; rintro e w14 ⟨rfl, hb14⟩; have HK14 := Lib.hid (HK13.out.below hb14); have hS14 := HK14.out.cells; clear hb14 HK13 HL13; try clear hS13))
        all_goals
          go_wp2_with (fail)
          go_ret
          first
            | exact ⟨rfl, HK15.out.k.bl⟩
            | exact ⟨(show Ending.returned (Value.bool (!(sa.toList == sb.toList))) = Ending.returned (Value.bool true) by rw [ne_lists hne]; rfl), HK15.out.k.bl⟩
end Go.Proofs.YtkfmagbaklikmaaDoor
