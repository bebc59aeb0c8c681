/-
  3 texts in one (LinkN LinkO AsmPB). Conditions: those of each theorem.
-/
import Derived.Test.YtclkdlegogjnbaaGreatDoorR22
namespace Go.Proofs.YtclkdlegogjnbaaGreatDoor
open Go
set_option linter.unusedVariables false
set_option linter.unusedSimpArgs false
def firstOf (l : List Ob) (f : ByteArray × Int) : Nat := l.findIdx fun x => decide (0 ≤ findFrom f.1 f.2 0 x.preds)
theorem firstOf_lt {l : List Ob} {f : ByteArray × Int} (h : ∃ x ∈ l, f ∈ x.preds.map called) : firstOf l f < l.length := by
 obtain ⟨x, hx, hf⟩ := h
 exact List.findIdx_lt_length_of_exists ⟨x, hx, by simpa using findFrom_mem f.1 f.2 0 x.preds hf⟩
theorem firstOf_none {l : List Ob} {f : ByteArray × Int} (h : ∀ x ∈ l, f ∉ x.preds.map called) : firstOf l f = l.length := by
 unfold firstOf
 rw [List.findIdx_eq_length]
 intro x hx
 have := findFrom_miss (k := 0) (h x hx)
 simp only [decide_eq_false_iff_not]
 omega
theorem firstOf_snoc {l : List Ob} {x : Ob} {f : ByteArray × Int} (h : (∃ y ∈ l, f ∈ y.preds.map called) ∨ f ∈ x.preds.map called) : firstOf (l ++ [x]) f = firstOf l f := by
 unfold firstOf
 rw [List.findIdx_append]
 rcases h with h | h
 ·exact if_pos (firstOf_lt h)
 ·split
  ·rfl
  ·rename_i hn
   have h1 : 0 ≤ findFrom f.1 f.2 0 x.preds := findFrom_mem f.1 f.2 0 x.preds h
   rw [List.findIdx_cons]
   have h2 : (l.findIdx fun x => decide (0 ≤ findFrom f.1 f.2 0 x.preds)) ≤ l.length := List.findIdx_le_length
   simp only [h1, decide_true, cond_true]
   omega
structure SimL (done : List Ob) (o : List Pr) (s : Lk) : Prop where
 preds : s.preds = o.map fun p => (p.1, p.2.1, 65535)
 begun : s.begun = o.map fun p => decide (p.2.2 ≠ 65535)
 homes : s.homes = o.map fun p => (firstOf done (called p) : Int)
 old : ∀ x ∈ done, ∀ f ∈ x.preds.map called, f ∈ o.map called
theorem SimL.called_eq {done : List Ob} {o : List Pr} {s : Lk} (h : SimL done o s) : s.preds.map called = o.map called := by
 rw [h.preds, List.map_map]
 rfl
theorem SimL.set {done : List Ob} {P : List Pr} {s : Lk} (h : SimL done P s) {k : Nat} (hk : k < P.length) {e : Int} (he : e ≠ 65535) : SimL done (setE P k e) { s with begun := s.begun.set k true } := by
 refine ⟨?_, ?_, ?_, fun x hx f hf => by rw [setE_called]; exact h.old x hx f hf⟩
 ·show s.preds = _
  rw [h.preds]
  apply List.ext_getElem (by simp [setE])
  intro i h1 h2
  simp only [setE, List.getElem_map, List.getElem_modify]
  split <;> rfl
 ·show s.begun.set k true = _
  rw [h.begun]
  apply List.ext_getElem (by simp [setE])
  intro i h1 h2
  simp only [setE, List.getElem_map, List.getElem_modify, List.getElem_set]
  by_cases hi : k = i
  ·rw [if_pos hi, if_pos hi]
   simp [he]
  ·rw [if_neg hi, if_neg hi]
 ·show s.homes = _
  rw [h.homes]
  apply List.ext_getElem (by simp [setE])
  intro i h1 h2
  simp only [setE, List.getElem_map, List.getElem_modify]
  split <;> rfl
theorem SimL.begun_at {done : List Ob} {P : List Pr} {s : Lk} (h : SimL done P s) {k : Nat} (hk : k < P.length) : s.begun.getD k false = decide ((P.getD k (⟨#[]⟩, 0, 0)).2.2 ≠ 65535) := by
 rw [h.begun, List.getD_eq_getElem?_getD, List.getD_eq_getElem?_getD, List.getElem?_map, List.getElem?_eq_getElem hk]
 rfl
theorem SimL.step {done : List Ob} {P : List Pr} {s : Lk} (h : SimL done P s) (f : ByteArray × Int) :
  (predIn s.preds f).1 = (predIn P f).1 ∧ 0 ≤ (predIn P f).1 ∧ (predIn P f).1.toNat < (predIn P f).2.length ∧
  SimL done (predIn P f).2 { s with preds := (predIn s.preds f).2, homes := (if s.homes.length < (predIn s.preds f).2.length then s.homes ++ [(done.length : Int)] else s.homes), begun := (if s.homes.length < (predIn s.preds f).2.length then s.begun ++ [false] else s.begun) } ∧
  f ∈ (predIn P f).2.map called ∧ (∀ g ∈ P.map called, g ∈ (predIn P f).2.map called) ∧ (∀ g ∈ (predIn P f).2.map called, g ∈ P.map called ∨ g = f) := by
 have hce := h.called_eq
 have hl : s.preds.length = P.length := by rw [h.preds, List.length_map]
 have hh : s.homes.length = P.length := by rw [h.homes, List.length_map]
 have hff := findFrom_called f.1 f.2 0 s.preds P hce
 rcases predIn_at P f with ⟨hm, he, h0, h1⟩ | ⟨hm, he⟩
 ·have hm2 : predIn s.preds f = (findFrom f.1 f.2 0 P, s.preds) := by
   unfold predIn
   rw [hff, if_neg (by omega)]
  rw [he, hm2]
  refine ⟨rfl, h0, h1, ?_, hm, fun g hg => hg, fun g hg => .inl hg⟩
  simp only
  rw [if_neg (by omega), if_neg (by omega)]
  exact h
 ·have hm2 : predIn s.preds f = ((s.preds.length : Int), s.preds ++ [(f.1, f.2, 65535)]) := by
   unfold predIn
   rw [hff, if_pos (findFrom_miss hm)]
  rw [he, hm2]
  refine ⟨by simp only; rw [hl], by simp only; omega, by simp, ?_, ?_, fun g hg => by simp only [List.map_append, List.mem_append]; exact .inl hg, fun g hg => ?_⟩
  ·simp only
   have hlt : s.homes.length < (s.preds ++ [(f.1, f.2, (65535 : Int))]).length := by simp; omega
   rw [if_pos hlt, if_pos hlt]
   refine ⟨by simp only; rw [h.preds, List.map_append]; rfl, by simp only; rw [h.begun, List.map_append]; rfl, ?_, fun x hx g hg => by rw [List.map_append, List.mem_append]; exact .inl (h.old x hx g hg)⟩
   simp only
   rw [h.homes, List.map_append]
   congr 1
   rw [List.map_cons, List.map_nil]
   have : firstOf done (called (f.1, f.2, (65535 : Int))) = done.length := firstOf_none fun x hx hg => hm (h.old x hx _ hg)
   rw [this]
  ·rw [List.map_append, List.mem_append]
   exact .inr (by simp [called])
  ·rw [List.map_append, List.mem_append] at hg
   rcases hg with hg | hg
   ·exact .inl hg
   ·exact .inr (by simpa [called] using hg)
theorem pred_sim {done : List Ob} {P : List Pr} {s : Lk} (h : SimL done P s) (base : Int) (p : Pr) (hb : p.2.2 ≠ 65535 → base + p.2.2 ≠ 65535) :
  (predJ base P p = none ∧ predK (done.length : Int) s p = none) ∨
  ∃ P' s', predJ base P p = some P' ∧ predK (done.length : Int) s p = some s' ∧ SimL done P' s' ∧ (s'.atoms = s.atoms ∧ s'.funs = s.funs ∧ s'.n = s.n) ∧
   called p ∈ P'.map called ∧ (∀ g ∈ P.map called, g ∈ P'.map called) ∧ (∀ g ∈ P'.map called, g ∈ P.map called ∨ g = called p) := by
 obtain ⟨a1, a2, a3, a4, a5, a6, a7⟩ := h.step (called p)
 unfold predJ predK
 simp only
 rw [a1]
 by_cases hp : p.2.2 = 65535
 ·right
  rw [if_pos hp, if_pos hp]
  exact ⟨_, _, rfl, rfl, a4, ⟨rfl, rfl, rfl⟩, a5, a6, a7⟩
 ·rw [if_neg hp, if_neg hp]
  have hbg := a4.begun_at a3
  simp only at hbg
  rw [hbg]
  by_cases hE : ((predIn P (called p)).2.getD (predIn P (called p)).1.toNat (⟨#[]⟩, 0, 0)).2.2 ≠ 65535
  ·left
   rw [if_pos hE, if_pos (decide_eq_true hE)]
   exact ⟨rfl, rfl⟩
  ·right
   rw [if_neg hE, if_neg (by rw [decide_eq_false hE]; decide)]
   have a8 := a4.set a3 (hb hp)
   exact ⟨_, _, rfl, rfl, a8, ⟨rfl, rfl, rfl⟩, by rw [setE_called]; exact a5, fun g hg => by rw [setE_called]; exact a6 g hg, fun g hg => a7 g (by rw [setE_called] at hg; exact hg)⟩
theorem preds_sim {done : List Ob} (base : Int) : ∀ (ps : List Pr) (P : List Pr) (s : Lk), SimL done P s → (∀ p ∈ ps, p.2.2 ≠ 65535 → base + p.2.2 ≠ 65535) →
  (predsJ base P ps = none ∧ predsK (done.length : Int) s ps = none) ∨
  ∃ P' s', predsJ base P ps = some P' ∧ predsK (done.length : Int) s ps = some s' ∧ SimL done P' s' ∧ (s'.atoms = s.atoms ∧ s'.funs = s.funs ∧ s'.n = s.n) ∧
   (∀ f ∈ ps.map called, f ∈ P'.map called) ∧ (∀ g ∈ P.map called, g ∈ P'.map called) ∧ (∀ g ∈ P'.map called, g ∈ P.map called ∨ g ∈ ps.map called)
 | [], P, s, h, _ => .inr ⟨P, s, rfl, rfl, h, ⟨rfl, rfl, rfl⟩, by simp, fun g hg => hg, fun g hg => .inl hg⟩
 | p :: ps, P, s, h, hb => by
  unfold predsJ predsK
  rcases pred_sim h base p (hb p (by simp)) with ⟨e1, e2⟩ | ⟨P1, s1, e1, e2, h1, ⟨b1, b2, b3⟩, c1, c2, c3⟩
  ·rw [e1, e2]
   exact .inl ⟨rfl, rfl⟩
  ·rw [e1, e2]
   rcases preds_sim base ps P1 s1 h1 (fun q hq => hb q (by simp [hq])) with ⟨e3, e4⟩ | ⟨P2, s2, e3, e4, h2, ⟨d1, d2, d3⟩, f1, f2, f3⟩
   ·exact .inl ⟨e3, e4⟩
   ·refine .inr ⟨P2, s2, e3, e4, h2, ⟨d1.trans b1, d2.trans b2, d3.trans b3⟩, fun g hg => ?_, fun g hg => f2 g (c2 g hg), fun g hg => ?_⟩
    ·rw [List.map_cons, List.mem_cons] at hg
     rcases hg with rfl | hg
     ·exact f2 _ c1
     ·exact f1 g hg
    ·rw [List.map_cons, List.mem_cons]
     rcases f3 g hg with hg | hg
     ·rcases c3 g hg with hg | hg
      ·exact .inl hg
      ·exact .inr (.inl hg)
     ·exact .inr (.inr hg)
structure SimW (done : List Ob) (o : Ob) (s : Lk) : Prop where
 atoms : s.atoms = o.atoms
 funs : s.funs = o.funs
 n : s.n = o.code.length
 l : SimL done o.preds s
 all : ∀ f ∈ o.preds.map called, ∃ x ∈ done, f ∈ x.preds.map called
 few : o.code.length ≤ 1024 * done.length
theorem join_sim {done : List Ob} {o : Ob} {s : Lk} (h : SimW done o s) {x : Ob} (hx : checkOf x = 0) (hd : done.length ≤ 60) :
  (joinJ o x = none ∧ enterK (done.length : Int) s x = none) ∨ ∃ o' s', joinJ o x = some o' ∧ enterK (done.length : Int) s x = some s' ∧ SimW (done ++ [x]) o' s' := by
 have hk := ok_of hx
 have hf := h.few
 have hl : SimL done o.preds { s with atoms := x.atoms.foldl addTo s.atoms, funs := x.funs.foldl addTo s.funs, n := s.n + x.code.length } := ⟨h.l.preds, h.l.begun, h.l.homes, h.l.old⟩
 unfold joinJ enterK
 rcases preds_sim (o.code.length : Int) x.preds o.preds _ hl (fun p hp hne => by
  have h1 := (hk.preds p hp).2.2.2
  have h2 := hk.lc
  omega) with ⟨e1, e2⟩ | ⟨P, s', e1, e2, h1, ⟨b1, b2, b3⟩, c1, c2, c3⟩
 ·rw [e1, e2]
  exact .inl ⟨rfl, rfl⟩
 ·rw [e1, e2]
  right
  have hall : ∀ f ∈ P.map called, (∃ y ∈ done, f ∈ y.preds.map called) ∨ f ∈ x.preds.map called := fun f hf => by
   rcases c3 f hf with hf | hf
   ·exact .inl (h.all f hf)
   ·exact .inr hf
  refine ⟨_, _, rfl, rfl, ?_⟩
  refine ⟨by rw [b1, h.atoms], by rw [b2, h.funs], by rw [b3]; simp only [List.length_append, List.length_map]; rw [h.n]; omega, ⟨h1.preds, h1.begun, ?_, ?_⟩, ?_, ?_⟩
  ·rw [h1.homes]
   apply List.map_congr_left
   intro p hp
   rw [firstOf_snoc (hall (called p) (List.mem_map_of_mem hp))]
  ·intro y hy f hf
   rcases List.mem_append.1 hy with hy | hy
   ·exact h1.old y hy f hf
   ·rw [List.mem_singleton.1 hy] at hf
    exact c1 f hf
  ·intro f hf
   rcases hall f hf with ⟨y, hy, h3⟩ | h3
   ·exact ⟨y, List.mem_append_left _ hy, h3⟩
   ·exact ⟨x, by simp, h3⟩
  ·have := hk.lc
   simp only [List.length_append, List.length_map, List.length_cons, List.length_nil]
   omega
theorem fold_sim : ∀ (l done : List Ob) (o : Ob) (s : Lk), SimW done o s → (∀ x ∈ l, checkOf x = 0) → done.length + l.length ≤ 60 →
  (∃ n, foldJ done.length o l = .error n ∧ foldK done.length s l = .error n) ∨ ∃ o' s', foldJ done.length o l = .ok o' ∧ foldK done.length s l = .ok s' ∧ SimW (done ++ l) o' s'
 | [], done, o, s, h, _, _ => .inr ⟨o, s, rfl, rfl, by simpa using h⟩
 | x :: l, done, o, s, h, hc, hn => by
  unfold foldJ foldK
  rw [List.length_cons] at hn
  rcases join_sim h (hc x (by simp)) (by omega) with ⟨e1, e2⟩ | ⟨o1, s1, e1, e2, h1⟩
  ·rw [e1, e2]
   exact .inl ⟨_, rfl, rfl⟩
  ·rw [e1, e2]
   have := fold_sim l (done ++ [x]) o1 s1 h1 (fun y hy => hc y (by simp [hy])) (by rw [List.length_append]; simp only [List.length_cons, List.length_nil]; omega)
   rw [List.length_append, List.append_assoc] at this
   exact this
theorem start_sim : SimW [] emptyOb startLk := ⟨rfl, rfl, rfl, ⟨rfl, rfl, rfl, (fun x hx => nomatch hx)⟩, (fun f hf => nomatch hf), Nat.le_refl _⟩
theorem unknown_rows (l : List Ob) : ∀ (P : List Pr), (∀ p ∈ P, firstOf l (called p) < l.length) →
  (unknownJ l P = none ∧ ¬ (P.map fun p => decide (p.2.2 ≠ 65535)).findIdx (fun b => !b) < (P.map fun p => decide (p.2.2 ≠ 65535)).length) ∨
  (unknownJ l P = some ((P.map fun p => (firstOf l (called p) : Int)).getD ((P.map fun p => decide (p.2.2 ≠ 65535)).findIdx (fun b => !b)) 0) ∧ (P.map fun p => decide (p.2.2 ≠ 65535)).findIdx (fun b => !b) < (P.map fun p => decide (p.2.2 ≠ 65535)).length ∧
   0 ≤ (P.map fun p => (firstOf l (called p) : Int)).getD ((P.map fun p => decide (p.2.2 ≠ 65535)).findIdx (fun b => !b)) 0)
 | [], _ => .inl ⟨rfl, by simp⟩
 | p :: P, h => by
  have hp : homeOf l (called p) = (firstOf l (called p) : Int) := by
   unfold homeOf
   exact if_pos (h p (by simp))
  unfold unknownJ
  rw [hp, List.map_cons, List.map_cons, List.findIdx_cons]
  by_cases he : p.2.2 = 65535
  ·right
   rw [if_pos ⟨he, by omega⟩]
   simp [he]
  ·rw [if_neg (fun hh => he hh.1)]
   have hb : (!decide (p.2.2 ≠ 65535)) = false := by simp [he]
   rw [hb, cond_false]
   rcases unknown_rows l P (fun q hq => h q (by simp [hq])) with ⟨h1, h2⟩ | ⟨h1, h2, h3⟩
   ·left
    refine ⟨h1, ?_⟩
    rw [List.length_cons]
    omega
   ·right
    rw [List.length_cons, List.getD_cons_succ]
    exact ⟨h1, by omega, h3⟩
theorem unknown_sim {l : List Ob} {o : Ob} {s : Lk} (h : SimW l o s) : (unknownJ l o.preds = none ∧ unknownK s < 0) ∨ (unknownJ l o.preds = some (unknownK s) ∧ 0 ≤ unknownK s) := by
 unfold unknownK
 rw [h.l.begun, h.l.homes]
 rcases unknown_rows l o.preds (fun p hp => firstOf_lt (h.all _ (List.mem_map_of_mem hp))) with ⟨h1, h2⟩ | ⟨h1, h2, h3⟩
 ·rw [if_neg h2]
  exact .inl ⟨h1, by omega⟩
 ·rw [if_pos h2]
  exact .inr ⟨h1, h3⟩
end Go.Proofs.YtclkdlegogjnbaaGreatDoor

namespace Go.Proofs.YtclkdlegogjnbaaGreatDoor
open Go
set_option linter.unusedVariables false
set_option linter.unusedSimpArgs false
theorem predIn_grow (P : List Pr) (f : ByteArray × Int) : ∃ Q, (predIn P f).2.map called = P.map called ++ Q := by
 rcases predIn_at P f with ⟨_, he, _⟩ | ⟨_, he⟩
 ·rw [he]
  exact ⟨[], by simp⟩
 ·rw [he]
  exact ⟨[f], by simp [called]⟩
theorem predJ_called {base : Int} {P P1 : List Pr} {p : Pr} (h : predJ base P p = some P1) : P1.map called = (predIn P (called p)).2.map called := by
 unfold predJ at h
 split at h
 ·injection h with h
  rw [h]
 ·split at h
  ·cases h
  ·injection h with h
   rw [← h, setE_called]
theorem predsJ_grow {base : Int} : ∀ (ps : List Pr) (P P' : List Pr), predsJ base P ps = some P' → ∃ Q, P'.map called = P.map called ++ Q
 | [], P, P', h => by
  unfold predsJ at h
  injection h with h
  exact ⟨[], by simp [h]⟩
 | p :: ps, P, P', h => by
  unfold predsJ at h
  cases h1 : predJ base P p with
  | none => rw [h1] at h; cases h
  | some P1 =>
   rw [h1] at h
   obtain ⟨Q, hQ⟩ := predsJ_grow ps P1 P' h
   obtain ⟨Q1, hQ1⟩ := predIn_grow P (called p)
   refine ⟨Q1 ++ Q, ?_⟩
   rw [hQ, predJ_called h1, hQ1, List.append_assoc]
theorem findFrom_new {f : ByteArray × Int} (r : Pr) (hr : called r = f) (R : List Pr) : ∀ (P : List Pr) (k : Nat), f ∉ P.map called → findFrom f.1 f.2 k (P ++ r :: R) = (k : Int) + (P.length : Int)
 | [], k, _ => by
  subst hr
  simp [findFrom, called]
 | p :: P, k, h => by
  rw [List.map_cons, List.mem_cons, not_or] at h
  rw [List.cons_append]
  unfold findFrom
  rw [if_neg (fun hc => h.1 (by unfold called; rw [hc.1, hc.2])), findFrom_new r hr R P (k + 1) h.2, List.length_cons]
  push_cast
  omega
theorem setE_app : ∀ (P : List Pr) (k : Nat) (R : List Pr) (e : Int), k < P.length → setE (P ++ R) k e = setE P k e ++ R
 | [], k, R, e, h => by simp at h
 | p :: P, 0, R, e, h => by simp [setE]
 | p :: P, k + 1, R, e, h => by
  have ih := setE_app P k R e (by simpa using h)
  unfold setE at ih ⊢
  simp only [List.cons_append, List.modify_succ_cons]
  rw [ih]
theorem lay_pred {base : Int} {P P1 R : List Pr} {p : Pr} (h : predJ base P p = some P1) (hR : ∀ r ∈ R, r.2.2 = 65535) (hq : ∃ Q, (P ++ R).map called = P1.map called ++ Q) :
  ∃ R1, layP base (P ++ R) p = P1 ++ R1 ∧ (∀ r ∈ R1, r.2.2 = 65535) ∧ (P1 ++ R1).map called = (P ++ R).map called := by
 have hc := predJ_called h
 unfold predJ at h
 unfold layP
 rcases predIn_at P (called p) with ⟨hm, he, h0, h1⟩ | ⟨hm, he⟩
 ·rw [he] at h
  have hff : findFrom p.1 p.2.1 0 (P ++ R) = findFrom p.1 p.2.1 0 P := findFrom_app p.1 p.2.1 0 P R h0
  by_cases hp : p.2.2 = 65535
  ·rw [if_pos hp] at h ⊢
   injection h with h
   subst h
   exact ⟨R, rfl, hR, rfl⟩
  ·rw [if_neg hp] at h ⊢
   split at h
   ·cases h
   ·injection h with h
    refine ⟨R, ?_, hR, ?_⟩
    ·rw [hff, ← h]
     exact setE_app P _ R _ h1
    ·rw [← h, List.map_append, setE_called, List.map_append]
 ·rw [he] at h hc
  obtain ⟨Q, hQ⟩ := hq
  rw [hc, List.map_append, List.map_append, List.append_assoc] at hQ
  have hQ2 := List.append_cancel_left hQ
  cases R with
  | nil => simp at hQ2
  | cons r R1 =>
   rw [List.map_cons, List.map_cons, List.map_nil, List.singleton_append] at hQ2
   injection hQ2 with hr _
   have hr2 := hR r (by simp)
   have hre : r = ((called p).1, (called p).2, (65535 : Int)) := by
    obtain ⟨a, b, c⟩ := r
    simp only [called] at hr hr2 ⊢
    injection hr with x1 x2
    rw [x1, x2, hr2]
   have e1 : P ++ r :: R1 = (P ++ [((called p).1, (called p).2, (65535 : Int))]) ++ R1 := by rw [← hre]; simp
   by_cases hp : p.2.2 = 65535
   ·rw [if_pos hp] at h ⊢
    injection h with h
    simp only at h
    exact ⟨R1, by rw [e1, h], fun x hx => hR x (by simp [hx]), by rw [← h, e1]⟩
   ·rw [if_neg hp] at h ⊢
    split at h
    ·cases h
    ·injection h with h
     have hff : findFrom p.1 p.2.1 0 (P ++ r :: R1) = (P.length : Int) := by
      have := findFrom_new (f := called p) r hr R1 P 0 hm
      simpa [called] using this
     refine ⟨R1, ?_, fun x hx => hR x (by simp [hx]), ?_⟩
     ·rw [hff, e1, setE_app _ _ R1 _ (by simp), ← h]
     ·rw [← h, e1, List.map_append, setE_called, ← List.map_append]
theorem lay_preds {base : Int} : ∀ (ps P R P' : List Pr), predsJ base P ps = some P' → (∀ r ∈ R, r.2.2 = 65535) → (∃ Q, (P ++ R).map called = P'.map called ++ Q) →
  ∃ R', ps.foldl (layP base) (P ++ R) = P' ++ R' ∧ (∀ r ∈ R', r.2.2 = 65535) ∧ (P' ++ R').map called = (P ++ R).map called
 | [], P, R, P', h, hR, _ => by
  unfold predsJ at h
  injection h with h
  subst h
  exact ⟨R, rfl, hR, rfl⟩
 | p :: ps, P, R, P', h, hR, hq => by
  unfold predsJ at h
  cases h1 : predJ base P p with
  | none => rw [h1] at h; cases h
  | some P1 =>
   rw [h1] at h
   obtain ⟨Q, hQ⟩ := hq
   obtain ⟨Q1, hQ1⟩ := predsJ_grow ps P1 P' h
   obtain ⟨R1, e1, e2, e3⟩ := lay_pred h1 hR ⟨Q1 ++ Q, by rw [hQ, hQ1, List.append_assoc]⟩
   obtain ⟨R2, f1, f2, f3⟩ := lay_preds ps P1 R1 P' h e2 ⟨Q, by rw [e3, hQ]⟩
   exact ⟨R2, by rw [List.foldl_cons, e1, f1], f2, f3.trans e3⟩
theorem argsJ_same {f g : Int → Int → Int} : ∀ (ks xs : List Int), (∀ j, j < ks.length → f (ks.getD j 0) (xs.getD j 0) = g (ks.getD j 0) (xs.getD j 0)) → argsJ f ks xs = argsJ g ks xs
 | [], xs, _ => rfl
 | k :: ks, xs, h => by
  unfold argsJ
  have h0 := h 0 (by simp)
  have e0 : xs.getD 0 0 = xs.headD 0 := by cases xs <;> rfl
  rw [e0] at h0
  have et : ∀ j, xs.tail.getD j 0 = xs.getD (j + 1) 0 := fun j => by cases xs <;> rfl
  have ih := argsJ_same ks xs.tail (f := f) (g := g) (fun j hj => by
   have h1 := h (j + 1) (by simpa using hj)
   rw [et]
   exact h1)
  rw [ih, show f k (xs.headD 0) = g k (xs.headD 0) from h0]
theorem opdJ_same {W1 W2 x : Ob} (base : Int) (ha : ∀ s ∈ x.atoms, placeOf W2.atoms s = placeOf W1.atoms s) (hf : ∀ s ∈ x.funs, placeOf W2.funs s = placeOf W1.funs s)
  (hp : ∀ p ∈ x.preds, findFrom p.1 p.2.1 0 W2.preds = findFrom p.1 p.2.1 0 W1.preds) (kind n : Int) (h : thereB x.atoms.length x.funs.length x.preds.length x.code.length kind n = true) :
  opdJ W2 x base kind n = opdJ W1 x base kind n := by
 unfold opdJ
 unfold thereB at h
 split
 ·rename_i hk
  rw [if_pos hk] at h
  have h := of_decide_eq_true h
  rw [ha]
  rw [List.getD_eq_getElem?_getD, List.getElem?_eq_getElem (by omega)]
  exact List.getElem_mem _
 ·rename_i hk
  rw [if_neg hk] at h
  split
  ·rename_i hk2
   rw [if_pos hk2] at h
   have h := of_decide_eq_true h
   rw [hf]
   rw [List.getD_eq_getElem?_getD, List.getElem?_eq_getElem (by omega)]
   exact List.getElem_mem _
  ·rename_i hk2
   rw [if_neg hk2] at h
   split
   ·rename_i hk3
    rw [if_pos hk3] at h
    have h := of_decide_eq_true h
    rw [hp]
    rw [List.getD_eq_getElem?_getD, List.getElem?_eq_getElem (by omega)]
    exact List.getElem_mem _
   ·rfl
theorem insJ_same {W1 W2 x : Ob} (base : Int) (ha : ∀ s ∈ x.atoms, placeOf W2.atoms s = placeOf W1.atoms s) (hf : ∀ s ∈ x.funs, placeOf W2.funs s = placeOf W1.funs s)
  (hp : ∀ p ∈ x.preds, findFrom p.1 p.2.1 0 W2.preds = findFrom p.1 p.2.1 0 W1.preds) {i : Ins} (h : insErr x.atoms.length x.funs.length x.preds.length x.code.length i = 0) : insJ W2 x base i = insJ W1 x base i := by
 unfold insJ
 rw [argsJ_same (f := opdJ W2 x base) (g := opdJ W1 x base) _ _ (fun j hj => opdJ_same base ha hf hp _ _ (by
  have h4 := (insErr_ne h).2.2.2
  rw [List.all_eq_true] at h4
  exact h4 j (by simpa using hj)))]
theorem joinJ_grow {o x o' : Ob} (h : joinJ o x = some o') : (∃ m, o'.atoms = o.atoms ++ m) ∧ (∃ m, o'.funs = o.funs ++ m) ∧ (∃ m, o'.preds.map called = o.preds.map called ++ m) := by
 unfold joinJ at h
 split at h
 ·cases h
 ·rename_i P hP
  injection h with h
  rw [← h]
  obtain ⟨m1, h1, _⟩ := addAll_grow x.atoms o.atoms
  obtain ⟨m2, h2, _⟩ := addAll_grow x.funs o.funs
  exact ⟨⟨m1, h1⟩, ⟨m2, h2⟩, predsJ_grow _ _ _ hP⟩
theorem foldJ_grow : ∀ (l : List Ob) (n : Nat) (o F : Ob), foldJ n o l = .ok F → (∃ m, F.atoms = o.atoms ++ m) ∧ (∃ m, F.funs = o.funs ++ m) ∧ (∃ m, F.preds.map called = o.preds.map called ++ m)
 | [], n, o, F, h => by
  unfold foldJ at h
  injection h with h
  subst h
  exact ⟨⟨[], by simp⟩, ⟨[], by simp⟩, ⟨[], by simp⟩⟩
 | x :: l, n, o, F, h => by
  unfold foldJ at h
  cases h1 : joinJ o x with
  | none => rw [h1] at h; cases h
  | some o1 =>
   rw [h1] at h
   obtain ⟨⟨a, ha⟩, ⟨b, hb⟩, ⟨c, hc⟩⟩ := foldJ_grow l (n + 1) o1 F h
   obtain ⟨⟨a', ha'⟩, ⟨b', hb'⟩, ⟨c', hc'⟩⟩ := joinJ_grow h1
   exact ⟨⟨a' ++ a, by rw [ha, ha', List.append_assoc]⟩, ⟨b' ++ b, by rw [hb, hb', List.append_assoc]⟩, ⟨c' ++ c, by rw [hc, hc', List.append_assoc]⟩⟩
theorem lay_sim : ∀ (l : List Ob) (n : Nat) (o F : Ob) (R : List Pr), foldJ n o l = .ok F → (∀ x ∈ l, checkOf x = 0) → (∀ r ∈ R, r.2.2 = 65535) → (o.preds ++ R).map called = F.preds.map called →
  l.foldl layK ⟨F.atoms, F.funs, o.preds ++ R, o.code⟩ = F
 | [], n, o, F, R, h, _, _, hq => by
  unfold foldJ at h
  injection h with h
  subst h
  rw [List.map_append] at hq
  have : R.map called = [] := by
   have := congrArg List.length hq
   simp at this
   simp [this]
  have hR : R = [] := List.map_eq_nil_iff.1 this
  subst hR
  simp
 | x :: l, n, o, F, R, h, hc, hR, hq => by
  unfold foldJ at h
  cases h1 : joinJ o x with
  | none => rw [h1] at h; cases h
  | some o1 =>
   rw [h1] at h
   simp only at h
   obtain ⟨⟨a, ha⟩, ⟨b, hb⟩, ⟨c, hc2⟩⟩ := foldJ_grow l (n + 1) o1 F h
   have hk := ok_of (hc x (by simp))
   unfold joinJ at h1
   cases hP : predsJ (o.code.length : Int) o.preds x.preds with
   | none => rw [hP] at h1; cases h1
   | some P =>
    rw [hP] at h1
    injection h1 with h1
    have hPc : ∃ Q, (o.preds ++ R).map called = P.map called ++ Q := ⟨c, by rw [hq, hc2, ← h1]⟩
    obtain ⟨R1, e1, e2, e3⟩ := lay_preds x.preds o.preds R P hP hR hPc
    obtain ⟨m1, hm1, hm1'⟩ := addAll_grow x.atoms o.atoms
    obtain ⟨m2, hm2, hm2'⟩ := addAll_grow x.funs o.funs
    have hFp : ∀ p ∈ x.preds, findFrom p.1 p.2.1 0 (o.preds ++ R) = findFrom p.1 p.2.1 0 P := fun p hp => by
     obtain ⟨Q, hQ⟩ := hPc
     have hin : (p.1, p.2.1) ∈ P.map called := by
      have : ∀ (ps P P' : List Pr), predsJ (o.code.length : Int) P ps = some P' → ∀ q ∈ ps, called q ∈ P'.map called := by
       intro ps
       induction ps with
       | nil => intro P P' _ q hq; cases hq
       | cons q0 ps ih =>
        intro P P' hh q hq
        unfold predsJ at hh
        cases h2 : predJ (o.code.length : Int) P q0 with
        | none => rw [h2] at hh; cases hh
        | some P1 =>
         rw [h2] at hh
         rcases List.mem_cons.1 hq with rfl | hq
         ·obtain ⟨Q3, hQ3⟩ := predsJ_grow ps P1 P' hh
          rw [hQ3, predJ_called h2, List.mem_append]
          left
          rcases predIn_at P (called q) with ⟨hm, he, _⟩ | ⟨hm, he⟩
          ·rw [he]; exact hm
          ·rw [he]; simp [called]
         ·exact ih P1 P' hh q hq
      exact this _ _ _ hP p hp
     have hfind := findFrom_mem p.1 p.2.1 0 P hin
     have hcut : ∃ T : List Pr, T.map called = Q := by
      refine ⟨(o.preds ++ R).drop P.length, ?_⟩
      have := congrArg (List.drop P.length) hQ
      rw [← List.map_drop] at this
      rw [this]
      simp
     obtain ⟨T, hT⟩ := hcut
     rw [findFrom_called p.1 p.2.1 0 (o.preds ++ R) (P ++ T) (by rw [hQ, List.map_append, hT]), findFrom_app p.1 p.2.1 0 P T hfind]
    have e4 : x.code.map (insJ ⟨F.atoms, F.funs, o.preds ++ R, []⟩ x (o.code.length : Int)) = x.code.map (insJ ⟨x.atoms.foldl addTo o.atoms, x.funs.foldl addTo o.funs, P, []⟩ x (o.code.length : Int)) := by
     apply List.map_congr_left
     intro i hi
     apply insJ_same
     ·intro s hs
      simp only
      rw [ha, ← h1]
      simp only
      exact place_app a (by rw [hm1]; exact hm1' s hs)
     ·intro s hs
      simp only
      rw [hb, ← h1]
      simp only
      exact place_app b (by rw [hm2]; exact hm2' s hs)
     ·exact hFp
     ·exact hk.code i hi
    rw [List.foldl_cons]
    have e5 : layK ⟨F.atoms, F.funs, o.preds ++ R, o.code⟩ x = ⟨F.atoms, F.funs, o1.preds ++ R1, o1.code⟩ := by
     unfold layK
     simp only
     rw [e1, e4, ← h1]
    rw [e5]
    exact lay_sim l (n + 1) o1 F R1 h (fun y hy => hc y (by simp [hy])) e2 (by rw [← hq, ← e3, ← h1])
theorem firstErr_none : ∀ (l : List Ob) (n : Nat), firstErr n l = none → ∀ x ∈ l, checkOf x = 0
 | [], n, _ => by simp
 | y :: l, n, h => by
  unfold firstErr at h
  split at h
  ·rename_i hy
   intro x hx
   rcases List.mem_cons.1 hx with rfl | hx
   ·exact hy
   ·exact firstErr_none l (n + 1) h x hx
  ·cases h
theorem link_eq (l : List Ob) (hl : l.length ≤ 60) : linkP l = linkOf l := by
 unfold linkP linkOf
 cases h1 : firstErr 0 l with
 | some p => rfl
 | none =>
  have hc := firstErr_none l 0 h1
  simp only
  rcases fold_sim l [] emptyOb startLk start_sim hc (by simpa using hl) with ⟨n, e1, e2⟩ | ⟨o, s, e1, e2, hs⟩
  ·rw [List.length_nil] at e1 e2
   rw [e1, e2]
  ·rw [List.length_nil] at e1 e2
   rw [List.nil_append] at hs
   rw [e1, e2]
   simp only
   rcases unknown_sim hs with ⟨h3, h4⟩ | ⟨h3, h4⟩
   ·rw [h3, if_neg (by omega)]
    simp only
    have hlen : s.preds.length = o.preds.length := by rw [hs.l.preds, List.length_map]
    have hfl : decide (256 < s.atoms.length ∨ 256 < s.funs.length ∨ 64 < s.preds.length ∨ 1024 < s.n) = bigO o := by
     unfold bigO bigB
     rw [hs.atoms, hs.funs, hlen, hs.n]
     congr 1
     simp only [eq_iff_iff]
     omega
    rw [hfl]
    split
    ·rfl
    ·have := lay_sim l 0 emptyOb o s.preds e1 hc (fun r hr => by
      rw [hs.l.preds] at hr
      obtain ⟨p, _, rfl⟩ := List.mem_map.1 hr
      rfl) (by rw [show emptyOb.preds = ([] : List Pr) from rfl, List.nil_append]; exact hs.l.called_eq)
     rw [show emptyOb.preds = ([] : List Pr) from rfl, List.nil_append, show emptyOb.code = ([] : List Ins) from rfl] at this
     rw [hs.atoms, hs.funs, this]
   ·rw [h3, if_pos h4]
end Go.Proofs.YtclkdlegogjnbaaGreatDoor

namespace Go.Proofs.YtclkdlegogjnbaaGreatDoor
open Go
set_option linter.unusedVariables false
set_option linter.unusedSimpArgs false
def GoodI (o : Ob) (i : Ins) : Prop :=
 0 ≤ i.1 ∧ i.1 ≤ 26 ∧ (∀ j, j < (opsOf i.1).length → goodArg o i.1 ((opsOf i.1).getD j 0) ((argOf i).getD j 0)) ∧ ∀ j, (opsOf i.1).length ≤ j → j < 4 → (argOf i).getD j 0 = 0
theorem GoodI.grow {o o' : Ob} {i : Ins} (h : GoodI o i) (hg : Grown o o') : GoodI o' i := ⟨h.1, h.2.1, fun j hj => (h.2.2.1 j hj).grow hg, h.2.2.2⟩
structure GoodS (s : St) : Prop where
 t : GoodT s.ob
 code : ∀ i ∈ s.ob.code, GoodI s.ob i
 ents : ∀ p ∈ s.ob.preds, p.2.2 = 65535 ∨ (0 ≤ p.2.2 ∧ ∃ l, (l, p.2.2, true) ∈ s.pts)
 pts : (s.pts.filter (fun p => !p.2.2)).map (fun p => p.2.1) = (List.range s.ob.code.length).map (fun k : Nat => (k : Int))
theorem GoodS.start : GoodS startSt :=
 ⟨⟨fun s h => absurd h (by simp [startSt, emptyOb]), by simp [startSt, emptyOb], fun s h => absurd h (by simp [startSt, emptyOb]), by simp [startSt, emptyOb], fun s h => absurd h (by simp [startSt, emptyOb]), by simp [startSt, emptyOb]⟩, fun s h => absurd h (by simp [startSt, emptyOb]), fun s h => absurd h (by simp [startSt, emptyOb]), by simp [startSt, emptyOb]⟩
end Go.Proofs.YtclkdlegogjnbaaGreatDoor
