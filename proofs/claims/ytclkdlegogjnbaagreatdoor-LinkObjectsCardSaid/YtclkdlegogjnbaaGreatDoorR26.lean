/-
 What comes of several objects, as the program has it in memory. No condition.
-/
import Derived.Test.YtclkdlegogjnbaaGreatDoorR25
import Derived.Test.YtclkdlegogjnbaaGreatDoorR22
namespace Go.Proofs.YtclkdlegogjnbaaGreatDoor
open Go Go.RowKit Go.WideShapes Go.ChangeShapes
set_option linter.unusedVariables false
set_option linter.unusedSimpArgs false
structure WV where
 a : Value
 f : Value
 p : Value
 c : Value
 h : Value
 b : Value
structure WI where
 g : Nat
 ma : Nat
 mf : Nat
 mp : Nat
def WV.own (K : WV) (k : Nat) : Prop := K.a.ownBlock = some k ∨ K.f.ownBlock = some k ∨ K.p.ownBlock = some k ∨ K.c.ownBlock = some k ∨ K.h.ownBlock = some k ∨ K.b.ownBlock = some k
structure WhR (w wr : World) (I : WI) (K : WV) (s : Lk) (cd : List Ins) : Prop where
 ra : wr.ownsRow w.heap.size 9 1 K.a s.atoms.length (s.atoms.map Value.string)
 rf : wr.ownsRow w.heap.size 82 2 K.f s.funs.length (s.funs.flatMap funC)
 rp : wr.ownsRow w.heap.size 64 3 K.p s.preds.length (s.preds.flatMap predC)
 rc : wr.ownsRow w.heap.size 52 5 K.c cd.length (cd.flatMap insC)
 rh : wr.ownsRow w.heap.size 3 1 K.h s.homes.length (s.homes.map (Value.int .i64))
 rb : wr.ownsRow w.heap.size 4 1 K.b s.begun.length (s.begun.map Value.bool)
 ma : KMap 9 okS litS wr I.ma s.atoms.length (plT s.atoms)
 mf : KMap 112 okF litF wr I.mf s.funs.length (plT s.funs)
 mp : KMap 112 okF litF wr I.mp (s.preds.map called).length (plT (s.preds.map called))
 below : Below w.heap.size w wr
 lt : w.heap.size ≤ I.g ∧ w.heap.size ≤ I.ma ∧ w.heap.size ≤ I.mf ∧ w.heap.size ≤ I.mp
 ne : I.ma ≠ I.mf ∧ I.ma ≠ I.mp ∧ I.mf ≠ I.mp
structure Wh (w wr : World) (I : WI) (K : WV) (s : Lk) (cd : List Ins) : Prop where
 box : Box wr I.g 75 #[K.a, K.f, K.p, K.c, .map (some I.ma), .map (some I.mf), .map (some I.mp), K.h, K.b, .int .i64 s.n]
 r : WhR w wr I K s cd
structure WhF (w w' : World) (I : WI) (K K' : WV) : Prop where
 fr : Fr (fun k => k = I.g ∨ k = I.ma ∨ k = I.mf ∨ k = I.mp ∨ K.own k) w w'
 own : ∀ k, K'.own k → K.own k ∨ w.heap.size ≤ k
section
variable {w wr w' w6 : World} {I : WI} {K : WV} {s : Lk} {cd : List Ins} {S : Nat → Prop}
theorem WhR.fr (h : WhR w wr I K s cd) (hf : Fr S wr w') (h1 : ¬ S I.ma) (h2 : ¬ S I.mf) (h3 : ¬ S I.mp) (ho : ∀ k, K.own k → ¬ S k) (hb : Below w.heap.size w w') : WhR w w' I K s cd :=
 ⟨own_fr h.ra hf (fun k hk => ho k (.inl hk)), own_fr h.rf hf (fun k hk => ho k (.inr (.inl hk))), own_fr h.rp hf (fun k hk => ho k (.inr (.inr (.inl hk)))), own_fr h.rc hf (fun k hk => ho k (.inr (.inr (.inr (.inl hk))))), own_fr h.rh hf (fun k hk => ho k (.inr (.inr (.inr (.inr (.inl hk)))))), own_fr h.rb hf (fun k hk => ho k (.inr (.inr (.inr (.inr (.inr (hk))))))), h.ma.fr hf h1, h.mf.fr hf h2, h.mp.fr hf h3, hb, h.lt, h.ne⟩
theorem WhR.up (h : WhR w wr I K s cd) (hb : Below wr.heap.size wr w') : WhR w w' I K s cd :=
 h.fr (S := fun _ => False) (Fr.of_below hb) (fun x => x) (fun x => x) (fun x => x) (fun _ _ x => x) (h.below.trans (hb.mono h.below.size))
theorem Wh.up (h : Wh w wr I K s cd) (hb : Below wr.heap.size wr w') : Wh w w' I K s cd := ⟨h.box.below hb h.box.lt, h.r.up hb⟩
theorem Wh.drewN (h : Wh w wr I K s cd) (n : Nat) : Wh w (wr.drewN n) I K s cd := h.up (⟨rfl, rfl, rfl, Nat.le_refl _, fun _ _ => rfl⟩)
theorem Wh.alloc (h : Wh w wr I K s cd) (o : Obj) : Wh w (wr.alloc o) I K s cd := h.up (alloc_below wr o)
theorem WhR.own_lt (h : WhR w wr I K s cd) {k : Nat} (hk : K.own k) : w.heap.size ≤ k ∧ k < wr.heap.size := by
 rcases hk with e | e | e | e | e | e
 ·exact own_ge h.ra e
 ·exact own_ge h.rf e
 ·exact own_ge h.rp e
 ·exact own_ge h.rc e
 ·exact own_ge h.rh e
 ·exact own_ge h.rb e
theorem WhR.own_ne_box (h : WhR w wr I K s cd) {b : Nat} {t : TypeId} {cs : Array Value} (hb : Box wr b t cs) (ht : 9 ≠ t ∧ 82 ≠ t ∧ 64 ≠ t ∧ 52 ≠ t ∧ 3 ≠ t ∧ 4 ≠ t) {k : Nat} (hk : K.own k) : k ≠ b := by
 obtain ⟨t1, t2, t3, t4, t5, t6⟩ := ht
 rcases hk with e | e | e | e | e | e
 ·exact Go.Proofs.YtclkdlegogjnbaaGreatDoor.own_ne_box h.ra hb t1 k e
 ·exact Go.Proofs.YtclkdlegogjnbaaGreatDoor.own_ne_box h.rf hb t2 k e
 ·exact Go.Proofs.YtclkdlegogjnbaaGreatDoor.own_ne_box h.rp hb t3 k e
 ·exact Go.Proofs.YtclkdlegogjnbaaGreatDoor.own_ne_box h.rc hb t4 k e
 ·exact Go.Proofs.YtclkdlegogjnbaaGreatDoor.own_ne_box h.rh hb t5 k e
 ·exact Go.Proofs.YtclkdlegogjnbaaGreatDoor.own_ne_box h.rb hb t6 k e
theorem WhR.map_ne_own (h : WhR w wr I K s cd) {k : Nat} (hk : K.own k) : k ≠ I.ma ∧ k ≠ I.mf ∧ k ≠ I.mp := by
 rcases hk with e | e | e | e | e | e
 ·exact ⟨h.ma.ne_own h.ra k e, h.mf.ne_own h.ra k e, h.mp.ne_own h.ra k e⟩
 ·exact ⟨h.ma.ne_own h.rf k e, h.mf.ne_own h.rf k e, h.mp.ne_own h.rf k e⟩
 ·exact ⟨h.ma.ne_own h.rp k e, h.mf.ne_own h.rp k e, h.mp.ne_own h.rp k e⟩
 ·exact ⟨h.ma.ne_own h.rc k e, h.mf.ne_own h.rc k e, h.mp.ne_own h.rc k e⟩
 ·exact ⟨h.ma.ne_own h.rh k e, h.mf.ne_own h.rh k e, h.mp.ne_own h.rh k e⟩
 ·exact ⟨h.ma.ne_own h.rb k e, h.mf.ne_own h.rb k e, h.mp.ne_own h.rb k e⟩
theorem WhR.set (h : WhR w wr I K s cd) {cs : Array Value} (hb : Box wr I.g 75 cs) (i : Nat) (u : Value) : WhR w (wr.setCell ⟨I.g, i, none⟩ u) I K s cd :=
 h.fr (S := fun k => k = I.g) ((Fr.refl (fun k => k = I.g) wr).setCell (p := ⟨I.g, i, none⟩) (.inl rfl) u) (h.ma.ne_box hb) (h.mf.ne_box hb) (h.mp.ne_box hb) (fun k hk => h.own_ne_box hb (by decide) hk) (h.below.setCell (p := ⟨I.g, i, none⟩) h.lt.1 _)
theorem WhF.below {w w' : World} {I : WI} {K : WV} (hb : Below w.heap.size w w') : WhF w w' I K K := ⟨(Fr.of_below (S := fun _ => False) hb).mono (fun _ _ x => False.elim x), fun _ h => .inl h⟩
theorem WhF.refl (w : World) (I : WI) (K : WV) : WhF w w I K K := WhF.below (Below.refl _ w)
theorem WhF.trans {w w' w'' : World} {I : WI} {K K' K'' : WV} (h : WhF w w' I K K') (k : WhF w' w'' I K' K'') : WhF w w'' I K K'' := by
 refine ⟨⟨k.fr.os.trans h.fr.os, k.fr.tape.trans h.fr.tape, k.fr.output.trans h.fr.output, Nat.le_trans h.fr.size k.fr.size, fun j hj hs => (k.fr.block j (Nat.lt_of_lt_of_le hj h.fr.size) (fun e => ?_)).trans (h.fr.block j hj hs)⟩, fun j hj => ?_⟩
 ·rcases e with e | e | e | e | e
  ·exact hs (.inl e)
  ·exact hs (.inr (.inl e))
  ·exact hs (.inr (.inr (.inl e)))
  ·exact hs (.inr (.inr (.inr (.inl e))))
  ·rcases h.own j e with e | e
   ·exact hs (.inr (.inr (.inr (.inr e))))
   ·omega
 ·rcases k.own j hj with e | e
  ·exact h.own j e
  ·exact .inr (Nat.le_trans h.fr.size e)
theorem WhF.drewN {w w' : World} {I : WI} {K K' : WV} (h : WhF w w' I K K') (n : Nat) : WhF w (w'.drewN n) I K K' := ⟨h.fr.drewN n, h.own⟩
theorem WhF.set {w w' : World} {I : WI} {K K' : WV} (h : WhF w w' I K K') (i : Nat) (u : Value) : WhF w (w'.setCell ⟨I.g, i, none⟩ u) I K K' := ⟨h.fr.setCell (p := ⟨I.g, i, none⟩) (.inl (.inl rfl)) u, h.own⟩
def Apart (I : WI) (K : WV) (b : Nat) : Prop := b ≠ I.g ∧ b ≠ I.ma ∧ b ≠ I.mf ∧ b ≠ I.mp ∧ ¬ K.own b
theorem WhF.keep {w w' : World} {I : WI} {K K' : WV} (h : WhF w w' I K K') {b : Nat} {t : TypeId} {cs : Array Value} (hb : Box w b t cs) (ha : Apart I K b) : Box w' b t cs ∧ Apart I K' b := by
 obtain ⟨h1, h2, h3, h4, h5⟩ := ha
 refine ⟨hb.fr h.fr (by
  rintro (e | e | e | e | e)
  ·exact h1 e
  ·exact h2 e
  ·exact h3 e
  ·exact h4 e
  ·exact h5 e), h1, h2, h3, h4, fun e => ?_⟩
 rcases h.own b e with e | e
 ·exact h5 e
 ·have := hb.lt
  omega
theorem Wh.apart (h : Wh w wr I K s cd) {b : Nat} (hb : wr.heap.size ≤ b) : Apart I K b := by
 have h1 := h.box.lt
 have h2 := h.r.ma.lt
 have h3 := h.r.mf.lt
 have h4 := h.r.mp.lt
 exact ⟨by omega, by omega, by omega, by omega, fun e => by have := (h.r.own_lt e).2; omega⟩
theorem Wh.cells (h : Wh w wr I K s cd) : wr.cell? ⟨I.g, 0, none⟩ = some K.a ∧ wr.cell? ⟨I.g, 1, none⟩ = some K.f ∧ wr.cell? ⟨I.g, 2, none⟩ = some K.p ∧ wr.cell? ⟨I.g, 3, none⟩ = some K.c ∧ wr.cell? ⟨I.g, 4, none⟩ = some (.map (some I.ma)) ∧ wr.cell? ⟨I.g, 5, none⟩ = some (.map (some I.mf)) ∧ wr.cell? ⟨I.g, 6, none⟩ = some (.map (some I.mp)) ∧ wr.cell? ⟨I.g, 7, none⟩ = some K.h ∧ wr.cell? ⟨I.g, 8, none⟩ = some K.b ∧ wr.cell? ⟨I.g, 9, none⟩ = some (.int .i64 s.n) :=
 ⟨h.box.cell 0, h.box.cell 1, h.box.cell 2, h.box.cell 3, h.box.cell 4, h.box.cell 5, h.box.cell 6, h.box.cell 7, h.box.cell 8, h.box.cell 9⟩
theorem Wh.again (h : Wh w wr I K s cd) (i : Nat) (u : Value) (hu : wr.cell? ⟨I.g, i, none⟩ = some u) : Wh w (wr.setCell ⟨I.g, i, none⟩ u) I K s cd ∧ WhF wr (wr.setCell ⟨I.g, i, none⟩ u) I K K ∧ wr.frozen? ⟨I.g, i, none⟩ = false := by
 refine ⟨⟨?_, h.r.set h.box i u⟩, (WhF.refl wr I K).set i u, h.box.frozen i⟩
 have hb := h.box.set_ i u
 have hc := h.box.cell i
 rw [hu] at hc
 generalize (#[K.a, K.f, K.p, K.c, .map (some I.ma), .map (some I.mf), .map (some I.mp), K.h, K.b, .int .i64 s.n] : Array Value) = cs at hb hc ⊢
 have e : cs.setIfInBounds i u = cs := by
  apply Array.ext_getElem?
  intro j
  rw [Array.getElem?_setIfInBounds]
  by_cases e : i = j
  ·subst e
   have := (Array.getElem?_eq_some_iff.1 hc.symm).1
   rw [if_pos rfl, if_pos this, hc]
  ·rw [if_neg e]
 rw [e] at hb
 exact hb
theorem Wh.putn (h : Wh w wr I K s cd) (n : Int) : Wh w (wr.setCell ⟨I.g, 9, none⟩ (.int .i64 n)) I K { s with n := n } cd := by
 refine ⟨?_, ?_⟩
 ·have := h.box.set_ 9 (.int .i64 n)
  simpa using this
 ·have hr := h.r.set h.box 9 (.int .i64 n)
  exact ⟨hr.ra, hr.rf, hr.rp, hr.rc, hr.rh, hr.rb, hr.ma, hr.mf, hr.mp, hr.below, hr.lt, hr.ne⟩
end
structure MetN {α : Type} [DecidableEq α] (kt : TypeId) (ok : α → Prop) (lit : α → List UInt8) (e : TypeId) (size base M : Nat) (w w' : World) (v v' : Value) (ks : List α) (xs : List Value) : Prop where
 own : w'.ownsRow base e size v' ks.length xs
 map : KMap kt ok lit w' M ks.length (plT ks)
 fr : Fr (fun b => b = M ∨ v.ownBlock = some b) w w'
 at_ : v'.ownBlock = v.ownBlock ∨ ∃ g, v'.ownBlock = some g ∧ w.heap.size ≤ g
section
variable {w wr w' w6 : World} {I : WI} {K : WV} {s : Lk} {cd : List Ins} {S : Nat → Prop}
theorem WhF.appa {x : ByteArray} {v6 : Value} (m : MetN 9 okS litS 9 1 w.heap.size I.ma wr w6 K.a v6 (s.atoms ++ [x]) ((s.atoms.map Value.string) ++ [.string x])) : WhF wr w6 I K { K with a := v6 } := by
 refine ⟨?_, ?_⟩
 ·exact m.fr.mono (fun k _ e => by
   rcases e with e | e
   ·exact .inr (.inl e)
   ·exact .inr (.inr (.inr (.inr (.inl e)))))
 ·intro k hk
  rcases hk with e | e | e | e | e | e
  ·rcases m.at_ with h1 | ⟨b, h1, hb⟩
   ·exact .inl (.inl (h1.symm.trans e))
   ·have : b = k := by
     have h2 := h1.symm.trans e
     injection h2
    exact .inr (this ▸ hb)
  ·exact .inl (.inr (.inl e))
  ·exact .inl (.inr (.inr (.inl e)))
  ·exact .inl (.inr (.inr (.inr (.inl e))))
  ·exact .inl (.inr (.inr (.inr (.inr (.inl e)))))
  ·exact .inl (.inr (.inr (.inr (.inr (.inr (e))))))
theorem WhR.appa {x : ByteArray} {v6 : Value} (h : WhR w wr I K s cd) (m : MetN 9 okS litS 9 1 w.heap.size I.ma wr w6 K.a v6 (s.atoms ++ [x]) ((s.atoms.map Value.string) ++ [.string x])) : WhR w w6 I { K with a := v6 } { s with atoms := s.atoms ++ [x] } cd := by
 have ff := own_fr h.rf m.fr (fun k hk e => by
  rcases e with e | e
  ·exact h.ma.ne_own h.rf k hk e
  ·exact own_ne_own h.rf h.ra (by decide) k hk e)
 have fp := own_fr h.rp m.fr (fun k hk e => by
  rcases e with e | e
  ·exact h.ma.ne_own h.rp k hk e
  ·exact own_ne_own h.rp h.ra (by decide) k hk e)
 have fc := own_fr h.rc m.fr (fun k hk e => by
  rcases e with e | e
  ·exact h.ma.ne_own h.rc k hk e
  ·exact own_ne_own h.rc h.ra (by decide) k hk e)
 have fh := own_fr h.rh m.fr (fun k hk e => by
  rcases e with e | e
  ·exact h.ma.ne_own h.rh k hk e
  ·exact own_ne_own h.rh h.ra (by decide) k hk e)
 have fb := own_fr h.rb m.fr (fun k hk e => by
  rcases e with e | e
  ·exact h.ma.ne_own h.rb k hk e
  ·exact own_ne_own h.rb h.ra (by decide) k hk e)
 have gf := h.mf.fr m.fr (fun e => by
  rcases e with e | e
  ·exact h.ne.1 e.symm
  ·exact h.mf.ne_own h.ra _ e rfl)
 have gp := h.mp.fr m.fr (fun e => by
  rcases e with e | e
  ·exact h.ne.2.1 e.symm
  ·exact h.mp.ne_own h.ra _ e rfl)
 have hbl : Below w.heap.size w w6 := (h.below.trans (m.fr.below h.below.size (by
  rintro k (e | e)
  ·rw [e]; exact h.lt.2.1
  ·exact (own_ge h.ra e).1)))
 have own6 : w6.ownsRow w.heap.size 9 1 v6 (s.atoms ++ [x]).length ((s.atoms ++ [x]).map Value.string) := by have h2 := m.own; simpa [funC, predC, insC] using h2
 have map6 : KMap 9 okS litS w6 I.ma (s.atoms ++ [x]).length (plT (s.atoms ++ [x])) := by have h2 := m.map; simpa [called] using h2
 exact ⟨own6, ff, fp, fc, fh, fb, map6, gf, gp, hbl, h.lt, h.ne⟩
theorem Wh.puta {x : ByteArray} {v6 : Value} (h : Wh w wr I K s cd) (m : MetN 9 okS litS 9 1 w.heap.size I.ma wr w6 K.a v6 (s.atoms ++ [x]) ((s.atoms.map Value.string) ++ [.string x])) :
  Wh w (w6.setCell ⟨I.g, 0, none⟩ v6) I { K with a := v6 } { s with atoms := s.atoms ++ [x] } cd ∧ WhF wr (w6.setCell ⟨I.g, 0, none⟩ v6) I K { K with a := v6 } ∧ w6.cell? ⟨I.g, 0, none⟩ = some K.a ∧ w6.frozen? ⟨I.g, 0, none⟩ = false := by
 have hbx := h.box.fr (S := (fun b => b = I.ma ∨ K.a.ownBlock = some b)) m.fr (by
  rintro (e | e)
  ·exact h.r.ma.ne_box h.box e.symm
  ·exact Go.Proofs.YtclkdlegogjnbaaGreatDoor.own_ne_box h.r.ra h.box (by decide) _ e rfl)
 have hr := h.r.appa m
 refine ⟨⟨?_, hr.set hbx 0 v6⟩, ?_, hbx.cell 0, hbx.frozen 0⟩
 ·have := hbx.set_ 0 v6
  simpa using this
 ·exact (WhF.appa m).set 0 v6
theorem WhF.appf {x : ByteArray} {n : Int} {v6 : Value} (m : MetN 112 okF litF 82 2 w.heap.size I.mf wr w6 K.f v6 (s.funs ++ [(x, n)]) ((s.funs.flatMap funC) ++ [.string x, .int .i64 n])) : WhF wr w6 I K { K with f := v6 } := by
 refine ⟨?_, ?_⟩
 ·exact m.fr.mono (fun k _ e => by
   rcases e with e | e
   ·exact .inr (.inr (.inl e))
   ·exact .inr (.inr (.inr (.inr (.inr (.inl e))))))
 ·intro k hk
  rcases hk with e | e | e | e | e | e
  ·exact .inl (.inl e)
  ·rcases m.at_ with h1 | ⟨b, h1, hb⟩
   ·exact .inl (.inr (.inl (h1.symm.trans e)))
   ·have : b = k := by
     have h2 := h1.symm.trans e
     injection h2
    exact .inr (this ▸ hb)
  ·exact .inl (.inr (.inr (.inl e)))
  ·exact .inl (.inr (.inr (.inr (.inl e))))
  ·exact .inl (.inr (.inr (.inr (.inr (.inl e)))))
  ·exact .inl (.inr (.inr (.inr (.inr (.inr (e))))))
theorem WhR.appf {x : ByteArray} {n : Int} {v6 : Value} (h : WhR w wr I K s cd) (m : MetN 112 okF litF 82 2 w.heap.size I.mf wr w6 K.f v6 (s.funs ++ [(x, n)]) ((s.funs.flatMap funC) ++ [.string x, .int .i64 n])) : WhR w w6 I { K with f := v6 } { s with funs := s.funs ++ [(x, n)] } cd := by
 have fa := own_fr h.ra m.fr (fun k hk e => by
  rcases e with e | e
  ·exact h.mf.ne_own h.ra k hk e
  ·exact own_ne_own h.ra h.rf (by decide) k hk e)
 have fp := own_fr h.rp m.fr (fun k hk e => by
  rcases e with e | e
  ·exact h.mf.ne_own h.rp k hk e
  ·exact own_ne_own h.rp h.rf (by decide) k hk e)
 have fc := own_fr h.rc m.fr (fun k hk e => by
  rcases e with e | e
  ·exact h.mf.ne_own h.rc k hk e
  ·exact own_ne_own h.rc h.rf (by decide) k hk e)
 have fh := own_fr h.rh m.fr (fun k hk e => by
  rcases e with e | e
  ·exact h.mf.ne_own h.rh k hk e
  ·exact own_ne_own h.rh h.rf (by decide) k hk e)
 have fb := own_fr h.rb m.fr (fun k hk e => by
  rcases e with e | e
  ·exact h.mf.ne_own h.rb k hk e
  ·exact own_ne_own h.rb h.rf (by decide) k hk e)
 have ga := h.ma.fr m.fr (fun e => by
  rcases e with e | e
  ·exact h.ne.1 e
  ·exact h.ma.ne_own h.rf _ e rfl)
 have gp := h.mp.fr m.fr (fun e => by
  rcases e with e | e
  ·exact h.ne.2.2 e.symm
  ·exact h.mp.ne_own h.rf _ e rfl)
 have hbl : Below w.heap.size w w6 := (h.below.trans (m.fr.below h.below.size (by
  rintro k (e | e)
  ·rw [e]; exact h.lt.2.2.1
  ·exact (own_ge h.rf e).1)))
 have own6 : w6.ownsRow w.heap.size 82 2 v6 (s.funs ++ [(x, n)]).length ((s.funs ++ [(x, n)]).flatMap funC) := by have h2 := m.own; simpa [funC, predC, insC] using h2
 have map6 : KMap 112 okF litF w6 I.mf (s.funs ++ [(x, n)]).length (plT (s.funs ++ [(x, n)])) := by have h2 := m.map; simpa [called] using h2
 exact ⟨fa, own6, fp, fc, fh, fb, ga, map6, gp, hbl, h.lt, h.ne⟩
theorem Wh.putf {x : ByteArray} {n : Int} {v6 : Value} (h : Wh w wr I K s cd) (m : MetN 112 okF litF 82 2 w.heap.size I.mf wr w6 K.f v6 (s.funs ++ [(x, n)]) ((s.funs.flatMap funC) ++ [.string x, .int .i64 n])) :
  Wh w (w6.setCell ⟨I.g, 1, none⟩ v6) I { K with f := v6 } { s with funs := s.funs ++ [(x, n)] } cd ∧ WhF wr (w6.setCell ⟨I.g, 1, none⟩ v6) I K { K with f := v6 } ∧ w6.cell? ⟨I.g, 1, none⟩ = some K.f ∧ w6.frozen? ⟨I.g, 1, none⟩ = false := by
 have hbx := h.box.fr (S := (fun b => b = I.mf ∨ K.f.ownBlock = some b)) m.fr (by
  rintro (e | e)
  ·exact h.r.mf.ne_box h.box e.symm
  ·exact Go.Proofs.YtclkdlegogjnbaaGreatDoor.own_ne_box h.r.rf h.box (by decide) _ e rfl)
 have hr := h.r.appf m
 refine ⟨⟨?_, hr.set hbx 1 v6⟩, ?_, hbx.cell 1, hbx.frozen 1⟩
 ·have := hbx.set_ 1 v6
  simpa using this
 ·exact (WhF.appf m).set 1 v6
theorem WhF.appp {x : ByteArray} {n : Int} {v6 : Value} (m : MetN 112 okF litF 64 3 w.heap.size I.mp wr w6 K.p v6 (s.preds.map called ++ [(x, n)]) ((s.preds.flatMap predC) ++ [.string x, .int .i64 n, .int .i64 65535])) : WhF wr w6 I K { K with p := v6 } := by
 refine ⟨?_, ?_⟩
 ·exact m.fr.mono (fun k _ e => by
   rcases e with e | e
   ·exact .inr (.inr (.inr (.inl e)))
   ·exact .inr (.inr (.inr (.inr (.inr (.inr (.inl e)))))))
 ·intro k hk
  rcases hk with e | e | e | e | e | e
  ·exact .inl (.inl e)
  ·exact .inl (.inr (.inl e))
  ·rcases m.at_ with h1 | ⟨b, h1, hb⟩
   ·exact .inl (.inr (.inr (.inl (h1.symm.trans e))))
   ·have : b = k := by
     have h2 := h1.symm.trans e
     injection h2
    exact .inr (this ▸ hb)
  ·exact .inl (.inr (.inr (.inr (.inl e))))
  ·exact .inl (.inr (.inr (.inr (.inr (.inl e)))))
  ·exact .inl (.inr (.inr (.inr (.inr (.inr (e))))))
theorem WhR.appp {x : ByteArray} {n : Int} {v6 : Value} (h : WhR w wr I K s cd) (m : MetN 112 okF litF 64 3 w.heap.size I.mp wr w6 K.p v6 (s.preds.map called ++ [(x, n)]) ((s.preds.flatMap predC) ++ [.string x, .int .i64 n, .int .i64 65535])) : WhR w w6 I { K with p := v6 } { s with preds := s.preds ++ [(x, n, 65535)] } cd := by
 have fa := own_fr h.ra m.fr (fun k hk e => by
  rcases e with e | e
  ·exact h.mp.ne_own h.ra k hk e
  ·exact own_ne_own h.ra h.rp (by decide) k hk e)
 have ff := own_fr h.rf m.fr (fun k hk e => by
  rcases e with e | e
  ·exact h.mp.ne_own h.rf k hk e
  ·exact own_ne_own h.rf h.rp (by decide) k hk e)
 have fc := own_fr h.rc m.fr (fun k hk e => by
  rcases e with e | e
  ·exact h.mp.ne_own h.rc k hk e
  ·exact own_ne_own h.rc h.rp (by decide) k hk e)
 have fh := own_fr h.rh m.fr (fun k hk e => by
  rcases e with e | e
  ·exact h.mp.ne_own h.rh k hk e
  ·exact own_ne_own h.rh h.rp (by decide) k hk e)
 have fb := own_fr h.rb m.fr (fun k hk e => by
  rcases e with e | e
  ·exact h.mp.ne_own h.rb k hk e
  ·exact own_ne_own h.rb h.rp (by decide) k hk e)
 have ga := h.ma.fr m.fr (fun e => by
  rcases e with e | e
  ·exact h.ne.2.1 e
  ·exact h.ma.ne_own h.rp _ e rfl)
 have gf := h.mf.fr m.fr (fun e => by
  rcases e with e | e
  ·exact h.ne.2.2 e
  ·exact h.mf.ne_own h.rp _ e rfl)
 have hbl : Below w.heap.size w w6 := (h.below.trans (m.fr.below h.below.size (by
  rintro k (e | e)
  ·rw [e]; exact h.lt.2.2.2
  ·exact (own_ge h.rp e).1)))
 have own6 : w6.ownsRow w.heap.size 64 3 v6 (s.preds ++ [(x, n, 65535)]).length ((s.preds ++ [(x, n, 65535)]).flatMap predC) := by have h2 := m.own; simpa [funC, predC, insC] using h2
 have map6 : KMap 112 okF litF w6 I.mp ((s.preds ++ [(x, n, 65535)]).map called).length (plT ((s.preds ++ [(x, n, 65535)]).map called)) := by have h2 := m.map; simpa [called] using h2
 exact ⟨fa, ff, own6, fc, fh, fb, ga, gf, map6, hbl, h.lt, h.ne⟩
theorem Wh.putp {x : ByteArray} {n : Int} {v6 : Value} (h : Wh w wr I K s cd) (m : MetN 112 okF litF 64 3 w.heap.size I.mp wr w6 K.p v6 (s.preds.map called ++ [(x, n)]) ((s.preds.flatMap predC) ++ [.string x, .int .i64 n, .int .i64 65535])) :
  Wh w (w6.setCell ⟨I.g, 2, none⟩ v6) I { K with p := v6 } { s with preds := s.preds ++ [(x, n, 65535)] } cd ∧ WhF wr (w6.setCell ⟨I.g, 2, none⟩ v6) I K { K with p := v6 } ∧ w6.cell? ⟨I.g, 2, none⟩ = some K.p ∧ w6.frozen? ⟨I.g, 2, none⟩ = false := by
 have hbx := h.box.fr (S := (fun b => b = I.mp ∨ K.p.ownBlock = some b)) m.fr (by
  rintro (e | e)
  ·exact h.r.mp.ne_box h.box e.symm
  ·exact Go.Proofs.YtclkdlegogjnbaaGreatDoor.own_ne_box h.r.rp h.box (by decide) _ e rfl)
 have hr := h.r.appp m
 refine ⟨⟨?_, hr.set hbx 2 v6⟩, ?_, hbx.cell 2, hbx.frozen 2⟩
 ·have := hbx.set_ 2 v6
  simpa using this
 ·exact (WhF.appp m).set 2 v6
theorem WhF.appc {i : Ins} {v6 : Value} (m : App wr w6 w.heap.size 52 5 K.c v6 (cd.length + 1) ((cd.flatMap insC) ++ insC i)) : WhF wr w6 I K { K with c := v6 } := by
 refine ⟨?_, ?_⟩
 ·exact m.fr.mono (fun k _ e => .inr (.inr (.inr (.inr (.inr (.inr (.inr (.inl e))))))))
 ·intro k hk
  rcases hk with e | e | e | e | e | e
  ·exact .inl (.inl e)
  ·exact .inl (.inr (.inl e))
  ·exact .inl (.inr (.inr (.inl e)))
  ·rcases m.at_ with h1 | ⟨b, h1, hb⟩
   ·exact .inl (.inr (.inr (.inr (.inl (h1.symm.trans e)))))
   ·have : b = k := by
     have h2 := h1.symm.trans e
     injection h2
    exact .inr (this ▸ hb)
  ·exact .inl (.inr (.inr (.inr (.inr (.inl e)))))
  ·exact .inl (.inr (.inr (.inr (.inr (.inr (e))))))
theorem WhR.appc {i : Ins} {v6 : Value} (h : WhR w wr I K s cd) (m : App wr w6 w.heap.size 52 5 K.c v6 (cd.length + 1) ((cd.flatMap insC) ++ insC i)) : WhR w w6 I { K with c := v6 } s (cd ++ [i]) := by
 have fa := own_fr h.ra m.fr (fun k hk e => own_ne_own h.ra h.rc (by decide) k hk e)
 have ff := own_fr h.rf m.fr (fun k hk e => own_ne_own h.rf h.rc (by decide) k hk e)
 have fp := own_fr h.rp m.fr (fun k hk e => own_ne_own h.rp h.rc (by decide) k hk e)
 have fh := own_fr h.rh m.fr (fun k hk e => own_ne_own h.rh h.rc (by decide) k hk e)
 have fb := own_fr h.rb m.fr (fun k hk e => own_ne_own h.rb h.rc (by decide) k hk e)
 have ga := h.ma.fr m.fr (fun e => h.ma.ne_own h.rc _ e rfl)
 have gf := h.mf.fr m.fr (fun e => h.mf.ne_own h.rc _ e rfl)
 have gp := h.mp.fr m.fr (fun e => h.mp.ne_own h.rc _ e rfl)
 have hbl : Below w.heap.size w w6 := (h.below.trans (m.fr.below h.below.size (by
  rintro k e
  exact (own_ge h.rc e).1)))
 have own6 : w6.ownsRow w.heap.size 52 5 v6 (cd ++ [i]).length ((cd ++ [i]).flatMap insC) := by have h2 := m.own; simpa [funC, predC, insC] using h2
 exact ⟨fa, ff, fp, own6, fh, fb, ga, gf, gp, hbl, h.lt, h.ne⟩
theorem Wh.putc {i : Ins} {v6 : Value} (h : Wh w wr I K s cd) (m : App wr w6 w.heap.size 52 5 K.c v6 (cd.length + 1) ((cd.flatMap insC) ++ insC i)) :
  Wh w (w6.setCell ⟨I.g, 3, none⟩ v6) I { K with c := v6 } s (cd ++ [i]) ∧ WhF wr (w6.setCell ⟨I.g, 3, none⟩ v6) I K { K with c := v6 } ∧ w6.cell? ⟨I.g, 3, none⟩ = some K.c ∧ w6.frozen? ⟨I.g, 3, none⟩ = false := by
 have hbx := h.box.fr (S := (fun b => K.c.ownBlock = some b)) m.fr (fun e => Go.Proofs.YtclkdlegogjnbaaGreatDoor.own_ne_box h.r.rc h.box (by decide) _ e rfl)
 have hr := h.r.appc m
 refine ⟨⟨?_, hr.set hbx 3 v6⟩, ?_, hbx.cell 3, hbx.frozen 3⟩
 ·have := hbx.set_ 3 v6
  simpa using this
 ·exact (WhF.appc m).set 3 v6
theorem WhF.apph {n : Int} {v6 : Value} (m : App wr w6 w.heap.size 3 1 K.h v6 (s.homes.length + 1) ((s.homes.map (Value.int .i64)) ++ [.int .i64 n])) : WhF wr w6 I K { K with h := v6 } := by
 refine ⟨?_, ?_⟩
 ·exact m.fr.mono (fun k _ e => .inr (.inr (.inr (.inr (.inr (.inr (.inr (.inr (.inl e)))))))))
 ·intro k hk
  rcases hk with e | e | e | e | e | e
  ·exact .inl (.inl e)
  ·exact .inl (.inr (.inl e))
  ·exact .inl (.inr (.inr (.inl e)))
  ·exact .inl (.inr (.inr (.inr (.inl e))))
  ·rcases m.at_ with h1 | ⟨b, h1, hb⟩
   ·exact .inl (.inr (.inr (.inr (.inr (.inl (h1.symm.trans e))))))
   ·have : b = k := by
     have h2 := h1.symm.trans e
     injection h2
    exact .inr (this ▸ hb)
  ·exact .inl (.inr (.inr (.inr (.inr (.inr (e))))))
theorem WhR.apph {n : Int} {v6 : Value} (h : WhR w wr I K s cd) (m : App wr w6 w.heap.size 3 1 K.h v6 (s.homes.length + 1) ((s.homes.map (Value.int .i64)) ++ [.int .i64 n])) : WhR w w6 I { K with h := v6 } { s with homes := s.homes ++ [n] } cd := by
 have fa := own_fr h.ra m.fr (fun k hk e => own_ne_own h.ra h.rh (by decide) k hk e)
 have ff := own_fr h.rf m.fr (fun k hk e => own_ne_own h.rf h.rh (by decide) k hk e)
 have fp := own_fr h.rp m.fr (fun k hk e => own_ne_own h.rp h.rh (by decide) k hk e)
 have fc := own_fr h.rc m.fr (fun k hk e => own_ne_own h.rc h.rh (by decide) k hk e)
 have fb := own_fr h.rb m.fr (fun k hk e => own_ne_own h.rb h.rh (by decide) k hk e)
 have ga := h.ma.fr m.fr (fun e => h.ma.ne_own h.rh _ e rfl)
 have gf := h.mf.fr m.fr (fun e => h.mf.ne_own h.rh _ e rfl)
 have gp := h.mp.fr m.fr (fun e => h.mp.ne_own h.rh _ e rfl)
 have hbl : Below w.heap.size w w6 := (h.below.trans (m.fr.below h.below.size (by
  rintro k e
  exact (own_ge h.rh e).1)))
 have own6 : w6.ownsRow w.heap.size 3 1 v6 (s.homes ++ [n]).length ((s.homes ++ [n]).map (Value.int .i64)) := by have h2 := m.own; simpa [funC, predC, insC] using h2
 exact ⟨fa, ff, fp, fc, own6, fb, ga, gf, gp, hbl, h.lt, h.ne⟩
theorem WhF.appb {y : Bool} {v6 : Value} (m : App wr w6 w.heap.size 4 1 K.b v6 (s.begun.length + 1) ((s.begun.map Value.bool) ++ [.bool y])) : WhF wr w6 I K { K with b := v6 } := by
 refine ⟨?_, ?_⟩
 ·exact m.fr.mono (fun k _ e => .inr (.inr (.inr (.inr (.inr (.inr (.inr (.inr (.inr (e))))))))))
 ·intro k hk
  rcases hk with e | e | e | e | e | e
  ·exact .inl (.inl e)
  ·exact .inl (.inr (.inl e))
  ·exact .inl (.inr (.inr (.inl e)))
  ·exact .inl (.inr (.inr (.inr (.inl e))))
  ·exact .inl (.inr (.inr (.inr (.inr (.inl e)))))
  ·rcases m.at_ with h1 | ⟨b, h1, hb⟩
   ·exact .inl (.inr (.inr (.inr (.inr (.inr ((h1.symm.trans e)))))))
   ·have : b = k := by
     have h2 := h1.symm.trans e
     injection h2
    exact .inr (this ▸ hb)
theorem WhR.appb {y : Bool} {v6 : Value} (h : WhR w wr I K s cd) (m : App wr w6 w.heap.size 4 1 K.b v6 (s.begun.length + 1) ((s.begun.map Value.bool) ++ [.bool y])) : WhR w w6 I { K with b := v6 } { s with begun := s.begun ++ [y] } cd := by
 have fa := own_fr h.ra m.fr (fun k hk e => own_ne_own h.ra h.rb (by decide) k hk e)
 have ff := own_fr h.rf m.fr (fun k hk e => own_ne_own h.rf h.rb (by decide) k hk e)
 have fp := own_fr h.rp m.fr (fun k hk e => own_ne_own h.rp h.rb (by decide) k hk e)
 have fc := own_fr h.rc m.fr (fun k hk e => own_ne_own h.rc h.rb (by decide) k hk e)
 have fh := own_fr h.rh m.fr (fun k hk e => own_ne_own h.rh h.rb (by decide) k hk e)
 have ga := h.ma.fr m.fr (fun e => h.ma.ne_own h.rb _ e rfl)
 have gf := h.mf.fr m.fr (fun e => h.mf.ne_own h.rb _ e rfl)
 have gp := h.mp.fr m.fr (fun e => h.mp.ne_own h.rb _ e rfl)
 have hbl : Below w.heap.size w w6 := (h.below.trans (m.fr.below h.below.size (by
  rintro k e
  exact (own_ge h.rb e).1)))
 have own6 : w6.ownsRow w.heap.size 4 1 v6 (s.begun ++ [y]).length ((s.begun ++ [y]).map Value.bool) := by have h2 := m.own; simpa [funC, predC, insC] using h2
 exact ⟨fa, ff, fp, fc, fh, own6, ga, gf, gp, hbl, h.lt, h.ne⟩
theorem Wh.setp {gp cp : Nat} (h : Wh w wr I K s cd) (hv : K.p = .slice (some ⟨gp, 0, none⟩) s.preds.length cp) (i : Nat) (hi : i < s.preds.length) (x : Int) :
  Wh w (wr.setCell ⟨gp, i * 3 + 2, none⟩ (.int .i64 x)) I K { s with preds := s.preds.set i (s.preds[i].1, s.preds[i].2.1, x) } cd ∧ WhF wr (wr.setCell ⟨gp, i * 3 + 2, none⟩ (.int .i64 x)) I K K := by
 have hown : K.own gp := .inr (.inr (.inl (by rw [hv]; rfl)))
 have hf : Fr (fun k => k = gp) wr (wr.setCell ⟨gp, i * 3 + 2, none⟩ (.int .i64 x)) := (Fr.refl (fun k => k = gp) wr).setCell (p := ⟨gp, i * 3 + 2, none⟩) (.inl rfl) _
 have hb := h.r.below.setCell (p := ⟨gp, i * 3 + 2, none⟩) (h.r.own_lt hown).1 (.int .i64 x)
 have hrp := h.r.rp
 rw [hv] at hrp
 have own6 := (World.ownsRow.stored hrp (i * 3 + 2) (.int .i64 x)).1
 have hcl : (s.preds.set i (s.preds[i].1, s.preds[i].2.1, x)).map called = s.preds.map called := by
  apply List.ext_getElem (by simp)
  intro k h1 h2
  simp only [List.getElem_map, List.getElem_set]
  split
  ·rename_i e; subst e; rfl
  ·rfl
 refine ⟨⟨h.box.fr hf (fun e => h.r.own_ne_box h.box (by decide) hown e.symm), ?_⟩, ⟨hf.mono (fun k _ e => by subst e; exact .inr (.inr (.inr (.inr hown)))), fun k hk => .inl hk⟩⟩
 obtain ⟨n1, n2, n3⟩ := h.r.map_ne_own hown
 refine ⟨own_fr h.r.ra hf (fun k hk e => own_ne_own h.r.ra h.r.rp (by decide) k hk (by rw [hv, e]; rfl)), own_fr h.r.rf hf (fun k hk e => own_ne_own h.r.rf h.r.rp (by decide) k hk (by rw [hv, e]; rfl)), ?_, own_fr h.r.rc hf (fun k hk e => own_ne_own h.r.rc h.r.rp (by decide) k hk (by rw [hv, e]; rfl)), own_fr h.r.rh hf (fun k hk e => own_ne_own h.r.rh h.r.rp (by decide) k hk (by rw [hv, e]; rfl)), own_fr h.r.rb hf (fun k hk e => own_ne_own h.r.rb h.r.rp (by decide) k hk (by rw [hv, e]; rfl)), h.r.ma.fr hf (fun e => n1 e.symm), h.r.mf.fr hf (fun e => n2 e.symm), ?_, hb, h.r.lt, h.r.ne⟩
 ·show World.ownsRow _ _ _ _ _ (s.preds.set i _).length ((s.preds.set i _).flatMap predC)
  rw [List.length_set, ← flat_set_ent s.preds i x hi, hv]
  exact own6
 ·have h2 := h.r.mp.fr hf (fun e => n3 e.symm)
  show KMap _ _ _ _ _ ((s.preds.set i _).map called).length (plT ((s.preds.set i _).map called))
  rw [hcl]
  exact h2
theorem Wh.setb {gb cb : Nat} (h : Wh w wr I K s cd) (hv : K.b = .slice (some ⟨gb, 0, none⟩) s.begun.length cb) (i : Nat) (hi : i < s.begun.length) (y : Bool) :
  Wh w (wr.setCell ⟨gb, i, none⟩ (.bool y)) I K { s with begun := s.begun.set i y } cd ∧ WhF wr (wr.setCell ⟨gb, i, none⟩ (.bool y)) I K K := by
 have hown : K.own gb := .inr (.inr (.inr (.inr (.inr (by rw [hv]; rfl)))))
 have hf : Fr (fun k => k = gb) wr (wr.setCell ⟨gb, i, none⟩ (.bool y)) := (Fr.refl (fun k => k = gb) wr).setCell (p := ⟨gb, i, none⟩) (.inl rfl) _
 have hb := h.r.below.setCell (p := ⟨gb, i, none⟩) (h.r.own_lt hown).1 (.bool y)
 have hrb := h.r.rb
 rw [hv] at hrb
 have own6 := (World.ownsRow.stored hrb i (.bool y)).1
 refine ⟨⟨h.box.fr hf (fun e => h.r.own_ne_box h.box (by decide) hown e.symm), ?_⟩, ⟨hf.mono (fun k _ e => by subst e; exact .inr (.inr (.inr (.inr hown)))), fun k hk => .inl hk⟩⟩
 obtain ⟨n1, n2, n3⟩ := h.r.map_ne_own hown
 refine ⟨own_fr h.r.ra hf (fun k hk e => own_ne_own h.r.ra h.r.rb (by decide) k hk (by rw [hv, e]; rfl)), own_fr h.r.rf hf (fun k hk e => own_ne_own h.r.rf h.r.rb (by decide) k hk (by rw [hv, e]; rfl)), own_fr h.r.rp hf (fun k hk e => own_ne_own h.r.rp h.r.rb (by decide) k hk (by rw [hv, e]; rfl)), own_fr h.r.rc hf (fun k hk e => own_ne_own h.r.rc h.r.rb (by decide) k hk (by rw [hv, e]; rfl)), own_fr h.r.rh hf (fun k hk e => own_ne_own h.r.rh h.r.rb (by decide) k hk (by rw [hv, e]; rfl)), ?_, h.r.ma.fr hf (fun e => n1 e.symm), h.r.mf.fr hf (fun e => n2 e.symm), h.r.mp.fr hf (fun e => n3 e.symm), hb, h.r.lt, h.r.ne⟩
 show World.ownsRow _ _ _ _ _ (s.begun.set i y).length ((s.begun.set i y).map Value.bool)
 rw [List.length_set, List.map_set, hv]
 exact own6
theorem Wh.cellp {gp cp : Nat} (h : Wh w wr I K s cd) (hv : K.p = .slice (some ⟨gp, 0, none⟩) s.preds.length cp) (i : Nat) (hi : i < s.preds.length) : wr.cell? ⟨gp, i * 3 + 2, none⟩ = some (.int .i64 s.preds[i].2.2) ∧ wr.frozen? ⟨gp, i * 3 + 2, none⟩ = false := by
 have hrp := h.r.rp
 rw [hv] at hrp
 have hc := hrp.cells (g := gp) rfl (i * 3 + 2) _ (flat_ent s.preds i hi)
 rw [add_plain, Nat.zero_add] at hc
 refine ⟨hc, ?_⟩
 rcases hrp.2 with ⟨h0, _⟩ | ⟨g', cap, cur, h1, _, hh, _⟩
 ·simp at h0
 ·injection h1 with h1 _ _
  injection h1 with h1
  injection h1 with h1
  subst h1
  exact frozen_of_row wr gp (i * 3 + 2) cur _ hh
theorem Wh.cellb {gb cb : Nat} (h : Wh w wr I K s cd) (hv : K.b = .slice (some ⟨gb, 0, none⟩) s.begun.length cb) (i : Nat) (hi : i < s.begun.length) : wr.cell? ⟨gb, i, none⟩ = some (.bool s.begun[i]) ∧ wr.frozen? ⟨gb, i, none⟩ = false := by
 have hrb := h.r.rb
 rw [hv] at hrb
 have hc := hrb.cells (g := gb) rfl i (.bool s.begun[i]) (by rw [List.getElem?_map, List.getElem?_eq_getElem hi]; rfl)
 rw [add_plain, Nat.zero_add] at hc
 refine ⟨hc, ?_⟩
 rcases hrb.2 with ⟨h0, _⟩ | ⟨g', cap, cur, h1, _, hh, _⟩
 ·simp at h0
 ·injection h1 with h1 _ _
  injection h1 with h1
  injection h1 with h1
  subst h1
  exact frozen_of_row wr gb i cur _ hh
end
end Go.Proofs.YtclkdlegogjnbaaGreatDoor
