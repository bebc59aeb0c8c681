/-
  6 texts in one (ObjFX ObjZ ObjAC ObjW ObjWB ObjAE). Conditions: those of each theorem.
-/
import Derived.Test.YtclkdlegogjnbaaGreatDoorQ41
import Derived.Test.YtclkdlegogjnbaaGreatDoorQ39
import Derived.Test.YtclkdlegogjnbaaGreatDoorQ11
import Derived.Test.YtclkdlegogjnbaaGreatDoorQ15
import Derived.Test.YtclkdlegogjnbaaGreatDoorQ10
import Derived.Test.YtclkdlegogjnbaaGreatDoorQ07
namespace Go.Proofs.YtclkdlegogjnbaaGreatDoor
open Go Go.RowKit Go.WideShapes Go.ChangeShapes
set_option linter.unusedVariables false
set_option linter.unusedSimpArgs false

theorem wpList_of_slice {P : Program} {ops : Array Oper} {rest : List Oper} {o : Oper} {a : Act} {w : World} {Q : Exit → Act → World → Prop} {t : TypeId} {len : Nat} {parts : Array (Nat × Value)} {v' : Value} {w' : World}
    (hr : (Instr.buildSlice t len parts).run P w = .ok v' w') (hgd : o.guard = none) (ps : Array (Nat × Operand)) (ho : o.op = .buildSlice t len ps) (hp : (ps.map fun (i, x) => (i, a.eval x)) = parts)
    (h : wpList P ops Q rest (a.put o.dst v') w') : wpList P ops Q (o :: rest) a w := by
  refine wpList_plain hgd fun K hK => ?_
  subst hp
  unfold Oper.wp execOp
  simp only [ho, Sem.run_bind, Sem.run_pure, Result.andThen_ok, hr]
  exact hK _ _ h
theorem build_rins1 (n : Int) (w : World) : (Instr.build 51 #[(0, .int .i64 n)]).run Tryz.prog w = .ok (.agg #[.int .i64 n, .int .i64 0, .int .i64 0, .int .i64 0, .int .i64 0]) w := run_build w _ _ _ (by kernel_rfl)
def letterCells : Array Value := #[.string ⟨#[97]⟩, .string ⟨#[98]⟩, .string ⟨#[99]⟩, .string ⟨#[100]⟩]
def atomCells : Array Value := #[.string ⟨#[97]⟩, .string ⟨#[98]⟩, .string ⟨#[110, 105, 108]⟩]
def funCells : Array Value := #[.string ⟨#[102]⟩, .int .i64 1, .string ⟨#[103]⟩, .int .i64 2]
/-- How many numbers each operand may have, as a row. -/
def mostCells (np n : Nat) : Array Value := #[.int .i64 1, .int .i64 32, .int .i64 16, .int .i64 3, .int .i64 2, .int .i64 8, .int .i64 17, .int .i64 (np : Nat), .int .i64 (n : Nat), .int .i64 16]
theorem slice_most (np n : Nat) (w : World) : (Instr.buildSlice 53 10 #[(0, .int .i64 1), (1, .int .i64 32), (2, .int .i64 16), (3, .int .i64 3), (4, .int .i64 2), (5, .int .i64 8), (6, .int .i64 17), (7, .int .i64 (np : Nat)), (8, .int .i64 (n : Nat)), (9, .int .i64 16)]).run Tryz.prog w = .ok (.slice (some ⟨w.heap.size, 0, none⟩) 10 10) (w.alloc (.cells (mostCells np n) 3)) := by kernel_rfl
theorem most_at (np n : Nat) (kind : Nat) (h1 : 1 ≤ kind) (h : kind ≤ 9) : (mostCells np n)[kind]? = some (.int .i64 (mostOf np n (kind : Int) : Nat)) := by
  match kind, h1, h with
  | 1, _, _ => rfl
  | 2, _, _ => rfl
  | 3, _, _ => rfl
  | 4, _, _ => rfl
  | 5, _, _ => rfl
  | 6, _, _ => rfl
  | 7, _, _ => rfl
  | 8, _, _ => rfl
  | 9, _, _ => rfl

/-- What Fix keeps. -/
structure Fx (w W : World) (g3 g4 ga gf : Nat) (us : Array Value) (vp vc : Value) (lp : List (ByteArray × Int × Int)) (lc : List Ins) : Prop where
  b1 : Box W w.heap.size 29 us
  b2 : Box W (w.heap.size + 1) 29 #[.slice none 0 0, .slice none 0 0, .slice none 0 0, .slice none 0 0]
  b3 : Box W g3 9 letterCells
  b4 : Box W g4 29 #[.slice (some ⟨ga, 0, none⟩) 3 3, .slice (some ⟨gf, 0, none⟩) 2 2, vp, vc]
  ba : Box W ga 9 atomCells
  bf : Box W gf 81 funCells
  rp : W.ownsRow w.heap.size 62 3 vp lp.length (lp.flatMap predC)
  rc : W.ownsRow w.heap.size 51 5 vc lc.length (lc.flatMap insC)
  below : Below w.heap.size w W
  lt : w.heap.size + 1 < g4 ∧ w.heap.size ≤ ga ∧ w.heap.size ≤ gf
section
variable {w wr w' w6 : World} {g3 g4 ga gf : Nat} {us : Array Value} {vp vc v6 : Value} {lp : List (ByteArray × Int × Int)} {lc : List Ins}
theorem Fx.up (h : Fx w wr g3 g4 ga gf us vp vc lp lc) (hb : Below wr.heap.size wr w') : Fx w w' g3 g4 ga gf us vp vc lp lc :=
  ⟨h.b1.below hb h.b1.lt, h.b2.below hb h.b2.lt, h.b3.below hb h.b3.lt, h.b4.below hb h.b4.lt, h.ba.below hb h.ba.lt, h.bf.below hb h.bf.lt, own_fr (S := fun _ => False) h.rp (Fr.of_below hb) (fun _ _ x => x), own_fr (S := fun _ => False) h.rc (Fr.of_below hb) (fun _ _ x => x), h.below.trans (hb.mono h.below.size), h.lt⟩
theorem Fx.putp {s : ByteArray} {n m : Int} (h : Fx w wr g3 g4 ga gf us vp vc lp lc) (ha : App wr w6 w.heap.size 62 3 vp v6 (lp.length + 1) (lp.flatMap predC ++ [.string s, .int .i64 n, .int .i64 m])) :
    Fx w (w6.setCell ⟨g4, 2, none⟩ v6) g3 g4 ga gf us v6 vc (lp ++ [(s, n, m)]) lc ∧ w6.cell? ⟨g4, 2, none⟩ = some vp ∧ w6.frozen? ⟨g4, 2, none⟩ = false := by
  have hb4 := h.b4.fr ha.fr (fun e => own_ne_box h.rp h.b4 (by decide) _ e rfl)
  have f := fun {g : Nat} {t : TypeId} {cs : Array Value} (hb : Box wr g t cs) (hne : 62 ≠ t) => hb.fr ha.fr (fun e => own_ne_box h.rp hb hne _ e rfl)
  have n34 : g3 ≠ g4 := h.b3.ne_ h.b4 (by decide)
  have na4 : ga ≠ g4 := h.ba.ne_ h.b4 (by decide)
  have nf4 : gf ≠ g4 := h.bf.ne_ h.b4 (by decide)
  have hlt := h.lt
  refine ⟨⟨(f h.b1 (by decide)).far (by show w.heap.size ≠ g4; omega) _, (f h.b2 (by decide)).far (by show w.heap.size + 1 ≠ g4; omega) _, (f h.b3 (by decide)).far n34 _, ?_, (f h.ba (by decide)).far na4 _, (f h.bf (by decide)).far nf4 _, (by have h2 := own_set_far ha.own (p := ⟨g4, 2, none⟩) (fun k hk => own_ne_box ha.own hb4 (by decide) k hk) v6; rw [List.length_append, List.flatMap_append]; simpa [predC, insC] using h2), own_set_far (own_fr h.rc ha.fr (fun k hk e => own_ne_own h.rc h.rp (by decide) k hk e)) (p := ⟨g4, 2, none⟩) (fun k hk => own_ne_box (own_fr h.rc ha.fr (fun k hk e => own_ne_own h.rc h.rp (by decide) k hk e)) hb4 (by decide) k hk) v6, (h.below.trans (ha.fr.below h.below.size (fun k hk => (own_ge h.rp hk).1))).setCell (p := ⟨g4, 2, none⟩) (by show w.heap.size ≤ g4; omega) _, h.lt⟩, hb4.cell 2, hb4.frozen 2⟩
  have := hb4.set_ 2 v6
  simpa using this
theorem Fx.putc {i0 i1 i2 i3 i4 : Int} (h : Fx w wr g3 g4 ga gf us vp vc lp lc) (ha : App wr w6 w.heap.size 51 5 vc v6 (lc.length + 1) (lc.flatMap insC ++ [.int .i64 i0, .int .i64 i1, .int .i64 i2, .int .i64 i3, .int .i64 i4])) :
    Fx w (w6.setCell ⟨g4, 3, none⟩ v6) g3 g4 ga gf us vp v6 lp (lc ++ [(i0, i1, i2, i3, i4)]) ∧ w6.cell? ⟨g4, 3, none⟩ = some vc ∧ w6.frozen? ⟨g4, 3, none⟩ = false := by
  have hb4 := h.b4.fr ha.fr (fun e => own_ne_box h.rc h.b4 (by decide) _ e rfl)
  have f := fun {g : Nat} {t : TypeId} {cs : Array Value} (hb : Box wr g t cs) (hne : 51 ≠ t) => hb.fr ha.fr (fun e => own_ne_box h.rc hb hne _ e rfl)
  have n34 : g3 ≠ g4 := h.b3.ne_ h.b4 (by decide)
  have na4 : ga ≠ g4 := h.ba.ne_ h.b4 (by decide)
  have nf4 : gf ≠ g4 := h.bf.ne_ h.b4 (by decide)
  have hlt := h.lt
  refine ⟨⟨(f h.b1 (by decide)).far (by show w.heap.size ≠ g4; omega) _, (f h.b2 (by decide)).far (by show w.heap.size + 1 ≠ g4; omega) _, (f h.b3 (by decide)).far n34 _, ?_, (f h.ba (by decide)).far na4 _, (f h.bf (by decide)).far nf4 _, own_set_far (own_fr h.rp ha.fr (fun k hk e => own_ne_own h.rp h.rc (by decide) k hk e)) (p := ⟨g4, 3, none⟩) (fun k hk => own_ne_box (own_fr h.rp ha.fr (fun k hk e => own_ne_own h.rp h.rc (by decide) k hk e)) hb4 (by decide) k hk) v6, (by have h2 := own_set_far ha.own (p := ⟨g4, 3, none⟩) (fun k hk => own_ne_box ha.own hb4 (by decide) k hk) v6; rw [List.length_append, List.flatMap_append]; simpa [predC, insC] using h2), (h.below.trans (ha.fr.below h.below.size (fun k hk => (own_ge h.rc hk).1))).setCell (p := ⟨g4, 3, none⟩) (by show w.heap.size ≤ g4; omega) _, h.lt⟩, hb4.cell 3, hb4.frozen 3⟩
  have := hb4.set_ 3 v6
  simpa using this
end
theorem flat_set_ins : ∀ (l : List Ins) (i : Nat) (x : Ins), i < l.length → ((((((l.flatMap insC).set (i * 5) (.int .i64 x.1)).set (i * 5 + 1) (.int .i64 x.2.1)).set (i * 5 + 2) (.int .i64 x.2.2.1)).set (i * 5 + 3) (.int .i64 x.2.2.2.1)).set (i * 5 + 4) (.int .i64 x.2.2.2.2)) = (l.set i x).flatMap insC
  | [], _, _, h => by simp at h
  | a :: l, 0, x, _ => by simp [insC]
  | a :: l, i + 1, x, h => by
    have ih := flat_set_ins l i x (by simpa using h)
    rw [List.set_cons_succ, List.flatMap_cons, List.flatMap_cons, ← ih]
    have e : ∀ j (m : List Value) u, (insC a ++ m).set (j + 5) u = insC a ++ m.set j u := fun j m u => by simp [insC]
    rw [show (i + 1) * 5 = i * 5 + 5 by omega, show i * 5 + 5 + 1 = i * 5 + 1 + 5 by omega, show i * 5 + 5 + 2 = i * 5 + 2 + 5 by omega, show i * 5 + 5 + 3 = i * 5 + 3 + 5 by omega, show i * 5 + 5 + 4 = i * 5 + 4 + 5 by omega, e, e, e, e, e]
theorem Fx.setc {w wr : World} {g3 g4 ga gf gc cc : Nat} {us : Array Value} {vp : Value} {lp : List (ByteArray × Int × Int)} {lc : List Ins} (h : Fx w wr g3 g4 ga gf us vp (.slice (some ⟨gc, 0, none⟩) lc.length cc) lp lc) (i : Nat) (hi : i < lc.length) (x : Ins) :
    Fx w (((((wr.setCell ⟨gc, i * 5, none⟩ (.int .i64 x.1)).setCell ⟨gc, i * 5 + 1, none⟩ (.int .i64 x.2.1)).setCell ⟨gc, i * 5 + 2, none⟩ (.int .i64 x.2.2.1)).setCell ⟨gc, i * 5 + 3, none⟩ (.int .i64 x.2.2.2.1)).setCell ⟨gc, i * 5 + 4, none⟩ (.int .i64 x.2.2.2.2)) g3 g4 ga gf us vp (.slice (some ⟨gc, 0, none⟩) lc.length cc) lp (lc.set i x) := by
  have f := fun {g : Nat} {t : TypeId} {cs : Array Value} (hb : Box wr g t cs) (hne : 51 ≠ t) => (show g ≠ gc from fun e => own_ne_box h.rc hb hne gc rfl e.symm)
  have five := fun {g : Nat} {t : TypeId} {cs : Array Value} (hb : Box wr g t cs) (hn : g ≠ gc) => (show Box (((((wr.setCell ⟨gc, i * 5, none⟩ (.int .i64 x.1)).setCell ⟨gc, i * 5 + 1, none⟩ (.int .i64 x.2.1)).setCell ⟨gc, i * 5 + 2, none⟩ (.int .i64 x.2.2.1)).setCell ⟨gc, i * 5 + 3, none⟩ (.int .i64 x.2.2.2.1)).setCell ⟨gc, i * 5 + 4, none⟩ (.int .i64 x.2.2.2.2)) g t cs from ((((hb.far (p := ⟨gc, i * 5, none⟩) hn _).far (p := ⟨gc, i * 5 + 1, none⟩) hn _).far (p := ⟨gc, i * 5 + 2, none⟩) hn _).far (p := ⟨gc, i * 5 + 3, none⟩) hn _).far (p := ⟨gc, i * 5 + 4, none⟩) hn _)
  have hgc := (own_ge h.rc (b := gc) rfl).1
  have np : ∀ k, vp.ownBlock = some k → k ≠ gc := fun k hk e => own_ne_own h.rp h.rc (by decide) k hk (by rw [e]; rfl)
  refine ⟨five h.b1 (f h.b1 (by decide)), five h.b2 (f h.b2 (by decide)), five h.b3 (f h.b3 (by decide)), five h.b4 (f h.b4 (by decide)), five h.ba (f h.ba (by decide)), five h.bf (f h.bf (by decide)),
    own_set_far (own_set_far (own_set_far (own_set_far (own_set_far h.rp (p := ⟨gc, i * 5, none⟩) np _) (p := ⟨gc, i * 5 + 1, none⟩) np _) (p := ⟨gc, i * 5 + 2, none⟩) np _) (p := ⟨gc, i * 5 + 3, none⟩) np _) (p := ⟨gc, i * 5 + 4, none⟩) np _, ?_,
    ((((h.below.setCell (p := ⟨gc, i * 5, none⟩) hgc _).setCell (p := ⟨gc, i * 5 + 1, none⟩) hgc _).setCell (p := ⟨gc, i * 5 + 2, none⟩) hgc _).setCell (p := ⟨gc, i * 5 + 3, none⟩) hgc _).setCell (p := ⟨gc, i * 5 + 4, none⟩) hgc _, h.lt⟩
  rw [List.length_set, ← flat_set_ins lc i x hi]
  exact (World.ownsRow.stored (World.ownsRow.stored (World.ownsRow.stored (World.ownsRow.stored (World.ownsRow.stored h.rc _ _).1 _ _).1 _ _).1 _ _).1 _ _).1
theorem Fx.same {w W : World} {g3 g4 ga gf : Nat} {us : Array Value} {vp vc : Value} {lp : List (ByteArray × Int × Int)} {lc lc' : List Ins} (h : Fx w W g3 g4 ga gf us vp vc lp lc) (e : lc = lc') : Fx w W g3 g4 ga gf us vp vc lp lc' := e ▸ h

/-- The object that Fix has made, in memory. -/
theorem Fx.at_ {w W : World} {g3 g4 ga gf : Nat} {us : Array Value} {vp vc : Value} {lp : List (ByteArray × Int × Int)} {lc : List Ins} (h : Fx w W g3 g4 ga gf us vp vc lp lc) :
    ObAt W (.slice (some ⟨ga, 0, none⟩) 3 3) (.slice (some ⟨gf, 0, none⟩) 2 2) vp vc (fixOb lp lc) := by
  refine ⟨.inr ⟨ga, 0, 3, rfl, h.ba.lt, fun k u hk => ?_⟩, .inr ⟨gf, 0, 2, rfl, h.bf.lt, fun k u hk => ?_⟩, CellsAt.of_own h.rp (by decide), CellsAt.of_own h.rc (by decide)⟩
  · rw [Nat.zero_add, h.ba.cell k]
    simpa [fixOb, atomCells] using hk
  · rw [Nat.zero_add, h.bf.cell k]
    simpa [fixOb, funCells, funC] using hk

end Go.Proofs.YtclkdlegogjnbaaGreatDoor

namespace Go.Proofs.YtclkdlegogjnbaaGreatDoor
open Go Go.RowKit Go.WideShapes Go.ChangeShapes
set_option linter.unusedVariables false
set_option linter.unusedSimpArgs false

def tabOf (o : Ob) : Int := if namesOk o = false then 7 else if dupB o then 11 else if entsOk o.code.length (o.preds.map entOf) = false then 7 else 0

/-- What tables keeps: the object's box, what was there. -/
structure CkR (w wr : World) (g : Nat) (us : Array Value) : Prop where
  ob : Box wr g 29 us
  below : Below w.heap.size w wr
theorem CkR.up {w wr w' : World} {g : Nat} {us : Array Value} (h : CkR w wr g us) (hb : Below wr.heap.size wr w') : CkR w w' g us := ⟨h.ob.below hb h.ob.lt, h.below.trans (hb.mono h.below.size)⟩

theorem CkR.drewN {w wr : World} {g : Nat} {us : Array Value} (h : CkR w wr g us) (n : Nat) : CkR w (wr.drewN n) g us := ⟨h.ob.drewN n, h.below.trans ⟨rfl, rfl, rfl, Nat.le_refl _, fun _ _ => rfl⟩⟩
end Go.Proofs.YtclkdlegogjnbaaGreatDoor

namespace Go.Proofs.YtclkdlegogjnbaaGreatDoor
open Go Go.RowKit Go.WideShapes Go.ChangeShapes
set_option linter.unusedVariables false
set_option linter.unusedSimpArgs false

theorem newInts_nil {w w' : World} {l : List Int} {e : Ending} (h : l = []) (hN : NewInts w l e w') : e = .returned (.slice none 0 0) ∧ w' = w := by
  rcases hN with ⟨_, h1, h2⟩ | ⟨h1, _⟩
  · exact ⟨h1, h2⟩
  · exact absurd h h1
theorem newInts_some {w w' : World} {l : List Int} {e : Ending} (h : ¬ l = []) (hN : NewInts w l e w') : e = .returned (.slice (some ⟨w.heap.size, 0, none⟩) l.length l.length) ∧ w' = w.alloc (.cells (l.map (Value.int .i64)).toArray 3) := by
  rcases hN with ⟨h1, _⟩ | ⟨_, h1, h2⟩
  · exact absurd h1 h
  · exact ⟨h1, h2⟩

end Go.Proofs.YtclkdlegogjnbaaGreatDoor

namespace Go.Proofs.YtclkdlegogjnbaaGreatDoor
open Go Go.RowKit Go.WideShapes Go.ChangeShapes
set_option linter.unusedVariables false
set_option linter.unusedSimpArgs false

/-- A slice of bytes to be copied. -/
def Bin (w : World) (v : Value) (l : List Nat) : Prop := CellsAt w v l.length (bysV l) ∧ ∀ k c, v = .slice none k c → c = 0
theorem Bin.below {w w' : World} {v : Value} {l : List Nat} (h : Bin w v l) (hb : Below w.heap.size w w') : Bin w' v l := ⟨h.1.below hb, h.2⟩
theorem Strict.bin {w : World} {base : Nat} {v : Value} {l : List Nat} (h : Strict w base v l) : Bin w v l := by
  refine ⟨CellsAt.of_own h (by decide), ?_⟩
  rintro k c rfl
  rcases h.2 with ⟨h1, _⟩ | ⟨g, cap, cur, h1, _⟩
  · injection h1
  · injection h1 with h1
    cases h1
end Go.Proofs.YtclkdlegogjnbaaGreatDoor

namespace Go.Proofs.YtclkdlegogjnbaaGreatDoor
open Go Go.RowKit Go.WideShapes Go.ChangeShapes
set_option linter.unusedVariables false
set_option linter.unusedSimpArgs false

theorem Row.bin {w : World} {base : Nat} {v : Value} {l : List Nat} (h : Row w base v l) : Bin w v l := by
  rcases h with h | ⟨h0, g, cur, fz, rfl, hg, hh, hc⟩
  · exact h.bin
  · refine ⟨.inr ⟨g, 0, _, rfl, (Array.getElem?_eq_some_iff.1 hh).1, fun k u hk => ?_⟩, ?_⟩
    · rw [← hc, Array.getElem?_toList] at hk
      simp [World.cell?, hh, hk]
    · rintro k c h
      injection h with h1 h2 h3
      cases h1

end Go.Proofs.YtclkdlegogjnbaaGreatDoor

namespace Go.Proofs.YtclkdlegogjnbaaGreatDoor
open Go Go.RowKit Go.WideShapes Go.ChangeShapes
set_option linter.unusedVariables false
set_option linter.unusedSimpArgs false

/-- What a round keeps: the object's box; the bytes so far. -/
structure Er (w wr : World) (g : Nat) (us : Array Value) (v : Value) (l : List Nat) : Prop where
  ck : CkR w wr g us
  bin : Bin wr v l
theorem Er.next {w wr w' : World} {g : Nat} {us : Array Value} {v v' : Value} {l l' : List Nat} (h : Er w wr g us v l) (hs : Row w' wr.heap.size v' l') (hb : Below wr.heap.size wr w') : Er w w' g us v' l' := ⟨h.ck.up hb, hs.bin⟩
end Go.Proofs.YtclkdlegogjnbaaGreatDoor
