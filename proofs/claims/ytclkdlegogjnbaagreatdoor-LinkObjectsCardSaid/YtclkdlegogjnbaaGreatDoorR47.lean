/-
  5 texts in one (LinkR LinkXD LinkY LinkLA LinkLQ). Conditions: those of each theorem.
-/
import Derived.Test.YtclkdlegogjnbaaGreatDoorR24
import Derived.Test.YtclkdlegogjnbaaGreatDoorR46
import Derived.Test.YtclkdlegogjnbaaGreatDoorR42
import Derived.Test.YtclkdlegogjnbaaGreatDoorR40
import Derived.Test.YtclkdlegogjnbaaGreatDoorR44
namespace Go.Proofs.YtclkdlegogjnbaaGreatDoor
open Go
set_option linter.unusedVariables false
set_option linter.unusedSimpArgs false
def codeJ (W : Ob) : Nat → List Ob → List Ins
 | _, [] => []
 | base, x :: l => x.code.map (insJ W x (base : Int)) ++ codeJ W (base + x.code.length) l
theorem codeJ_len (W : Ob) : ∀ (l : List Ob) (base : Nat), (codeJ W base l).length = (l.map fun x => x.code.length).sum
 | [], base => rfl
 | x :: l, base => by simp [codeJ, codeJ_len W l]
end Go.Proofs.YtclkdlegogjnbaaGreatDoor

namespace Go.Proofs.YtclkdlegogjnbaaGreatDoor
open Go Go.RowKit Go.WideShapes Go.ChangeShapes
set_option linter.unusedVariables false
set_option linter.unusedSimpArgs false
theorem linkOf_err {l : List Ob} {e : Int} {n : Nat} (h : firstErr 0 l = some (e, n)) : linkOf l = (emptyOb, e, (n : Int)) := by
 unfold linkOf
 rw [h]
theorem linkOf_twice {l : List Ob} {n : Nat} (h : firstErr 0 l = none) (h2 : foldJ 0 emptyOb l = .error n) : linkOf l = (emptyOb, 11, (n : Int)) := by
 unfold linkOf
 rw [h, h2]
theorem linkOf_unknown {l : List Ob} {o : Ob} {k : Int} (h : firstErr 0 l = none) (h2 : foldJ 0 emptyOb l = .ok o) (h3 : unknownJ l o.preds = some k) : linkOf l = (emptyOb, 12, k) := by
 unfold linkOf
 rw [h, h2]
 simp only
 rw [h3]
theorem linkOf_rest {l : List Ob} {o : Ob} (h : firstErr 0 l = none) (h2 : foldJ 0 emptyOb l = .ok o) (h3 : unknownJ l o.preds = none) : linkOf l = if bigO o = true then (emptyOb, 2, -1) else (o, 0, -1) := by
 unfold linkOf
 rw [h, h2]
 simp only
 rw [h3]
theorem foldJ_step {l : List Ob} {k : Nat} {o : Ob} (h : k < l.length) : foldJ k o (l.drop k) = match joinJ o l[k] with | none => .error k | some o' => foldJ (k + 1) o' (l.drop (k + 1)) := by
 rw [List.drop_eq_getElem_cons h, foldJ]
 rfl
theorem joinJ_len {o x o' : Ob} (h : joinJ o x = some o') : o'.atoms.length ≤ o.atoms.length + x.atoms.length ∧ o'.funs.length ≤ o.funs.length + x.funs.length ∧ o'.preds.length ≤ o.preds.length + x.preds.length ∧ o'.code.length = o.code.length + x.code.length := by
 unfold joinJ at h
 cases hp : predsJ (o.code.length : Int) o.preds x.preds with
 | none => rw [hp] at h; cases h
 | some P =>
  rw [hp] at h
  injection h with h
  subst h
  exact ⟨addAll_len _ _, addAll_len _ _, predsJ_len _ _ _ hp, by simp⟩
theorem unknownJ_skip {l : List Ob} {P : List Pr} {i : Nat} (h : i < P.length) (he : P[i].2.2 ≠ 65535 ∨ homeOf l (called P[i]) < 0) : unknownJ l (P.drop i) = unknownJ l (P.drop (i + 1)) := by
 rw [List.drop_eq_getElem_cons h, unknownJ, if_neg]
 rintro ⟨h1, h2⟩
 rcases he with he | he
 ·exact he h1
 ·omega
theorem unknownJ_hit {l : List Ob} {P : List Pr} {i : Nat} (h : i < P.length) (he : P[i].2.2 = 65535) (hh : 0 ≤ homeOf l (called P[i])) : unknownJ l (P.drop i) = some (homeOf l (called P[i])) := by
 rw [List.drop_eq_getElem_cons h, unknownJ, if_pos ⟨he, hh⟩]
theorem home_hit {l : List Ob} {f : ByteArray × Int} {k : Nat} (hk : k < l.length) (hm : ∀ j (hj : j < l.length), j < k → findFrom f.1 f.2 0 l[j].preds < 0) (hx : 0 ≤ findFrom f.1 f.2 0 l[k].preds) : homeOf l f = (k : Int) := by
 have h : (l.findIdx fun x => decide (0 ≤ findFrom f.1 f.2 0 x.preds)) = k := by
  rw [List.findIdx_eq hk]
  exact ⟨by simpa using hx, fun j hj => by have := hm j (by omega) hj; simp; omega⟩
 unfold homeOf
 rw [h, if_pos hk]
theorem home_miss {l : List Ob} {f : ByteArray × Int} (hm : ∀ j (hj : j < l.length), findFrom f.1 f.2 0 l[j].preds < 0) : homeOf l f = -1 := by
 have h : (l.findIdx fun x => decide (0 ≤ findFrom f.1 f.2 0 x.preds)) = l.length := by
  rw [List.findIdx_eq_length]
  intro x hx
  obtain ⟨j, hj, rfl⟩ := List.getElem_of_mem hx
  have := hm j hj
  simp
  omega
 unfold homeOf
 rw [h, if_neg (by omega)]
def RObjsW (w : World) (r : Ob × Int × Int) (e : Ending) (w' : World) : Prop :=
 ∃ va vf vp vc, e = .returned (.tuple #[.agg #[va, vf, vp, vc], .int .i64 r.2.1, .int .i64 r.2.2]) ∧ ObAt w' va vf vp vc r.1 ∧ Below w.heap.size w w'
theorem emptyAt (W : World) : ObAt W (.slice none 0 0) (.slice none 0 0) (.slice none 0 0) (.slice none 0 0) emptyOb :=
 ⟨.inl ⟨rfl, rfl, _, _, rfl⟩, .inl ⟨rfl, rfl, _, _, rfl⟩, .inl ⟨rfl, rfl, _, _, rfl⟩, .inl ⟨rfl, rfl, _, _, rfl⟩⟩
theorem robjsW_err {w w' : World} {r : Ob × Int × Int} {c n : Int} (h : r = (emptyOb, c, n)) (hb : Below w.heap.size w w') : RObjsW w r (.returned (.tuple #[.agg #[.slice none 0 0, .slice none 0 0, .slice none 0 0, .slice none 0 0], .int .i64 c, .int .i64 n])) w' := by
 subst h
 exact ⟨_, _, _, _, rfl, emptyAt _, hb⟩
theorem robjsW_ok {w w' : World} {va vf vp vc : Value} {r : Ob × Int × Int} {o : Ob} (h : r = (o, 0, -1)) (ho : ObAt w' va vf vp vc o) (hb : Below w.heap.size w w') : RObjsW w r (.returned (.tuple #[.agg #[va, vf, vp, vc], .int .i64 0, .int .i64 (-1)])) w' := by
 subst h
 exact ⟨_, _, _, _, rfl, ho, hb⟩
structure Ro (w0 wr : World) (gr go : Nat) (va vf vp vc : Value) (o : Ob) : Prop where
 box : Box wr go 29 #[va, vf, vp, vc]
 bz : Box wr gr 29 #[.slice none 0 0, .slice none 0 0, .slice none 0 0, .slice none 0 0]
 obs : ∀ W : World, Fr (fun k => k = go ∨ k = gr) wr W → ObAt W va vf vp vc o
 below : Below w0.heap.size w0 wr
 ge : w0.heap.size ≤ gr ∧ w0.heap.size ≤ go ∧ gr ≠ go
theorem Ro.up {w0 wr w' : World} {gr go : Nat} {va vf vp vc : Value} {o : Ob} (h : Ro w0 wr gr go va vf vp vc o) (hb : Below wr.heap.size wr w') : Ro w0 w' gr go va vf vp vc o :=
 ⟨h.box.below hb h.box.lt, h.bz.below hb h.bz.lt, fun W hW => h.obs W (((Fr.of_below (S := fun _ => False) hb).mono (fun _ _ x => False.elim x)).trans hW), h.below.trans (hb.mono h.below.size), h.ge⟩
theorem Ro.at_ {w0 wr : World} {gr go : Nat} {va vf vp vc : Value} {o : Ob} (h : Ro w0 wr gr go va vf vp vc o) : ObAt wr va vf vp vc o := h.obs wr (Fr.refl _ _)
def JS (wr : World) (gr go : Nat) (W0 : World) (k : Nat) : Prop := k = go ∨ k = gr ∨ (wr.heap.size ≤ k ∧ k < W0.heap.size)
theorem Ro.js {w0 wr W0 : World} {gr go : Nat} {va vf vp vc : Value} {o : Ob} (h : Ro w0 wr gr go va vf vp vc o) (hb : Below wr.heap.size wr W0) : (∀ k, JS wr gr go W0 k → k < W0.heap.size) ∧ ∀ W : World, Fr (JS wr gr go W0) W0 W → ObAt W va vf vp vc o := by
 refine ⟨fun k hk => ?_, fun W hW => h.obs W ?_⟩
 ·have h1 := h.box.lt
  have h2 := h.bz.lt
  have h3 := hb.size
  rcases hk with hk | hk | hk <;> omega
 ·refine ⟨hW.os.trans hb.os, hW.tape.trans hb.tape, hW.output.trans hb.output, Nat.le_trans hb.size hW.size, fun k hk hs => (hW.block k (Nat.lt_of_lt_of_le hk hb.size) (fun x => ?_)).trans (hb.block k hk)⟩
  rcases x with x | x | x
  ·exact hs (.inl x)
  ·exact hs (.inr x)
  ·omega
def JCut (S : Nat → Prop) (w wc : World) (r : Option Ob) (t9 t10 : Value) : Prop :=
 ∃ g A1 n1 c1 A2 n2 c2 A3 n3 c3 A4 n4 c4, t9 = .pointer (some ⟨g, 0, none⟩) ∧ t10 = .bool r.isSome ∧ Box wc g 29 #[.slice A1 n1 c1, .slice A2 n2 c2, .slice A3 n3 c3, .slice A4 n4 c4] ∧ w.heap.size ≤ g ∧ (∀ o', r = some o' → ∀ W : World, Fr S wc W → ObAt W (.slice A1 n1 c1) (.slice A2 n2 c2) (.slice A3 n3 c3) (.slice A4 n4 c4) o') ∧ Below w.heap.size w wc
theorem jcut_late {S T : Nat → Prop} {w w3 : World} {r : Option Ob} {A1 A2 A3 A4 : Option Addr} {n1 c1 n2 c2 n3 c3 n4 c4 : Nat} (hb : Below w.heap.size w w3) (ho : ∀ o', r = some o' → ∀ W : World, Fr T w3 W → ObAt W (.slice A1 n1 c1) (.slice A2 n2 c2) (.slice A3 n3 c3) (.slice A4 n4 c4) o') (hST : ∀ k, S k → T k) :
  JCut S w (w3.alloc (.cells #[.slice A1 n1 c1, .slice A2 n2 c2, .slice A3 n3 c3, .slice A4 n4 c4] 29)) r (.pointer (some ⟨w3.heap.size, 0, none⟩)) (.bool r.isSome) :=
 ⟨_, _, _, _, _, _, _, _, _, _, _, _, _, rfl, rfl, Box.new _ _ _, hb.size, fun o' h W hW => ho o' h W (((Fr.refl T w3).alloc _).trans (hW.mono (fun k _ hk => hST k hk))), hb.alloc hb.size _⟩
theorem jcut_early {S T : Nat → Prop} {w w3 : World} {g : Nat} {r : Option Ob} {A1 A2 A3 A4 : Option Addr} {n1 c1 n2 c2 n3 c3 n4 c4 : Nat} {z0 z1 z2 z3 : Value} (hx : Box w3 g 29 #[z0, z1, z2, z3]) (hg : w.heap.size ≤ g) (hT : T g) (hb : Below w.heap.size w w3) (ho : ∀ o', r = some o' → ∀ W : World, Fr T w3 W → ObAt W (.slice A1 n1 c1) (.slice A2 n2 c2) (.slice A3 n3 c3) (.slice A4 n4 c4) o') (hST : ∀ k, S k → T k) :
  JCut S w ((((w3.setCell ⟨g, 0, none⟩ (.slice A1 n1 c1)).setCell ⟨g, 1, none⟩ (.slice A2 n2 c2)).setCell ⟨g, 2, none⟩ (.slice A3 n3 c3)).setCell ⟨g, 3, none⟩ (.slice A4 n4 c4)) r (.pointer (some ⟨g, 0, none⟩)) (.bool r.isSome) := by
 have h4 := (((hx.set_ 0 (.slice A1 n1 c1)).set_ 1 (.slice A2 n2 c2)).set_ 2 (.slice A3 n3 c3)).set_ 3 (.slice A4 n4 c4)
 have hf : Fr T w3 ((((w3.setCell ⟨g, 0, none⟩ (.slice A1 n1 c1)).setCell ⟨g, 1, none⟩ (.slice A2 n2 c2)).setCell ⟨g, 2, none⟩ (.slice A3 n3 c3)).setCell ⟨g, 3, none⟩ (.slice A4 n4 c4)) :=
  ((((Fr.refl T w3).setCell (p := ⟨g, 0, none⟩) (.inl hT) _).setCell (p := ⟨g, 1, none⟩) (.inl hT) _).setCell (p := ⟨g, 2, none⟩) (.inl hT) _).setCell (p := ⟨g, 3, none⟩) (.inl hT) _
 exact ⟨_, _, _, _, _, _, _, _, _, _, _, _, _, rfl, rfl, by simpa using h4, hg, fun o' h W hW => ho o' h W (hf.trans (hW.mono (fun k _ hk => hST k hk))),
  (((hb.setCell (p := ⟨g, 0, none⟩) hg _).setCell (p := ⟨g, 1, none⟩) hg _).setCell (p := ⟨g, 2, none⟩) hg _).setCell (p := ⟨g, 3, none⟩) hg _⟩
theorem Ro.next {w0 wr wc : World} {gr go : Nat} {va vf vp vc : Value} {o o' : Ob} (h : Ro w0 wr gr go va vf vp vc o) (hb : Below wr.heap.size wr wc) {ua uf up uc : Value} (ho : ∀ W : World, Fr (fun k => k = go ∨ k = gr) wc W → ObAt W ua uf up uc o') :
  Ro w0 ((((wc.setCell ⟨go, 0, none⟩ ua).setCell ⟨go, 1, none⟩ uf).setCell ⟨go, 2, none⟩ up).setCell ⟨go, 3, none⟩ uc) gr go ua uf up uc o' := by
 have h4 := ((((h.up hb).box.set_ 0 ua).set_ 1 uf).set_ 2 up).set_ 3 uc
 have hz := (((((h.up hb).bz.far (p := ⟨go, 0, none⟩) h.ge.2.2 ua).far (p := ⟨go, 1, none⟩) h.ge.2.2 uf).far (p := ⟨go, 2, none⟩) h.ge.2.2 up).far (p := ⟨go, 3, none⟩) h.ge.2.2 uc)
 have hf : Fr (fun k => k = go ∨ k = gr) wc ((((wc.setCell ⟨go, 0, none⟩ ua).setCell ⟨go, 1, none⟩ uf).setCell ⟨go, 2, none⟩ up).setCell ⟨go, 3, none⟩ uc) :=
  ((((Fr.refl _ wc).setCell (p := ⟨go, 0, none⟩) (.inl (.inl rfl)) _).setCell (p := ⟨go, 1, none⟩) (.inl (.inl rfl)) _).setCell (p := ⟨go, 2, none⟩) (.inl (.inl rfl)) _).setCell (p := ⟨go, 3, none⟩) (.inl (.inl rfl)) _
 exact ⟨by simpa using h4, hz, fun W hW => ho W (hf.trans hW), (((((h.up hb).below.setCell (p := ⟨go, 0, none⟩) h.ge.2.1 _).setCell (p := ⟨go, 1, none⟩) h.ge.2.1 _).setCell (p := ⟨go, 2, none⟩) h.ge.2.1 _).setCell (p := ⟨go, 3, none⟩) h.ge.2.1 _), h.ge⟩
end Go.Proofs.YtclkdlegogjnbaaGreatDoor

namespace Go.Proofs.YtclkdlegogjnbaaGreatDoor
open Go Go.RowKit Go.WideShapes Go.ChangeShapes
set_option linter.unusedVariables false
set_option linter.unusedSimpArgs false
def TwoOk (a b : Ob) (kind x y : Int) : Prop :=
 (kind = 3 → (0 ≤ x ∧ x < a.atoms.length) ∧ 0 ≤ y ∧ y < b.atoms.length) ∧ (kind = 4 → (0 ≤ x ∧ x < a.funs.length) ∧ 0 ≤ y ∧ y < b.funs.length) ∧ (kind = 7 → (0 ≤ x ∧ x < a.preds.length) ∧ 0 ≤ y ∧ y < b.preds.length) ∧ (kind = 8 → (0 ≤ x ∧ x ≤ 65535) ∧ 0 ≤ y ∧ y ≤ 1000000000)
end Go.Proofs.YtclkdlegogjnbaaGreatDoor

namespace Go.Proofs.YtclkdlegogjnbaaGreatDoor
open Go Go.RowKit Go.WideShapes Go.ChangeShapes
set_option linter.unusedVariables false
set_option linter.unusedSimpArgs false
def baseAt (l : List Ob) (k : Nat) : Nat := ((l.take k).map fun x => x.code.length).sum
theorem codeJ_at (W : Ob) : ∀ (l : List Ob) (base k : Nat) (hk : k < l.length) (j : Nat) (hj : j < l[k].code.length), (codeJ W base l)[baseAt l k + j]? = some (insJ W l[k] ((base + baseAt l k : Nat) : Int) l[k].code[j])
 | [], _, k, hk, _, _ => by simp at hk
 | x :: l, base, 0, hk, j, hj => by
  unfold codeJ baseAt
  simp only [List.take_zero, List.map_nil, List.sum_nil, Nat.zero_add, Nat.add_zero]
  rw [List.getElem?_append_left (by simpa using hj), List.getElem?_map]
  have hj' : j < x.code.length := hj
  rw [List.getElem?_eq_getElem hj']
  rfl
 | x :: l, base, k + 1, hk, j, hj => by
  have ih := codeJ_at W l (base + x.code.length) k (by simpa using hk) j (by simpa using hj)
  have e : baseAt (x :: l) (k + 1) = x.code.length + baseAt l k := by simp [baseAt]
  unfold codeJ
  rw [e, List.getElem?_append_right (by simp; omega), List.length_map, show x.code.length + baseAt l k + j - x.code.length = baseAt l k + j by omega, ih]
  simp only [List.getElem_cons_succ]
  congr 3
  omega
structure Made (l : List Ob) (o : Ob) : Prop where
 checks : ∀ x ∈ l, checkOf x = 0
 code : o.code = codeJ o 0 l
 has : ∀ x ∈ l, (∀ s ∈ x.atoms, s ∈ o.atoms) ∧ (∀ f ∈ x.funs, f ∈ o.funs) ∧ ∀ p ∈ x.preds, called p ∈ o.preds.map called
 check : checkOf o = 0
theorem Made.at_ {l : List Ob} {o : Ob} (h : Made l o) (k : Nat) (hk : k < l.length) (j : Nat) (hj : j < l[k].code.length) : baseAt l k + j < o.code.length ∧ o.code[baseAt l k + j]? = some (insJ o l[k] ((baseAt l k : Nat) : Int) l[k].code[j]) := by
 have h1 := codeJ_at o l 0 k hk j hj
 rw [← h.code, Nat.zero_add] at h1
 exact ⟨(List.getElem?_eq_some_iff.1 h1).1, h1⟩
theorem Made.len {l : List Ob} {o : Ob} (h : Made l o) : o.code.length = baseAt l l.length := by
 have h1 := codeJ_len o l 0
 rw [← h.code] at h1
 rw [h1]
 unfold baseAt
 rw [List.take_length]
theorem Made.two {l : List Ob} {o : Ob} (h : Made l o) (k : Nat) (hk : k < l.length) (base : Int) (hb : 0 ≤ base ∧ base ≤ 1000000) (i : Ins) (hi : i ∈ l[k].code) (j : Nat) (hj : j < (opsOf i.1).length) :
  TwoOk l[k] o ((opsOf i.1).getD j 0) ((argOf i).getD j 0) ((argOf (insJ o l[k] base i)).getD j 0) := by
 obtain ⟨h1, h2, h3⟩ := h.has _ (List.getElem_mem hk)
 have hfew := ops_few i.1
 have ho := ops_of (h.checks _ (List.getElem_mem hk)) i hi j hj
 rw [insJ_arg _ _ _ _ j (by omega), if_pos hj]
 generalize (opsOf i.1).getD j 0 = kd at ho ⊢
 generalize (argOf i).getD j 0 = n at ho ⊢
 obtain ⟨o3, o4, o7, o8⟩ := ho
 refine ⟨fun e => ⟨o3 e, ?_⟩, fun e => ⟨o4 e, ?_⟩, fun e => ⟨o7 e, ?_⟩, fun e => ⟨o8 e, ?_⟩⟩
 ·have hn := o3 e
  unfold opdJ
  rw [if_pos e]
  have hm := h1 (l[k].atoms.getD n.toNat ⟨#[]⟩) (by rw [List.getD_eq_getElem?_getD, List.getElem?_eq_getElem (by omega)]; exact List.getElem_mem _)
  have := place_lt hm
  omega
 ·have hn := o4 e
  unfold opdJ
  rw [if_neg (by omega), if_pos e]
  have hm := h2 (l[k].funs.getD n.toNat (⟨#[]⟩, 0)) (by rw [List.getD_eq_getElem?_getD, List.getElem?_eq_getElem (by omega)]; exact List.getElem_mem _)
  have := place_lt hm
  omega
 ·have hn := o7 e
  unfold opdJ
  rw [if_neg (by omega), if_neg (by omega), if_pos e]
  have hm := h3 (l[k].preds.getD n.toNat (⟨#[]⟩, 0, 0)) (by rw [List.getD_eq_getElem?_getD, List.getElem?_eq_getElem (by omega)]; exact List.getElem_mem _)
  obtain ⟨q, hq, h4, _⟩ := findFrom_at _ _ 0 o.preds (findFrom_mem _ _ 0 o.preds hm)
  rw [h4]
  omega
 ·have hn := o8 e
  unfold opdJ
  rw [if_neg (by omega), if_neg (by omega), if_neg (by omega), if_pos e]
  split <;> omega
end Go.Proofs.YtclkdlegogjnbaaGreatDoor

namespace Go.Proofs.YtclkdlegogjnbaaGreatDoor
open Go Go.RowKit Go.WideShapes Go.ChangeShapes
set_option linter.unusedVariables false
set_option linter.unusedSimpArgs false
def Cut12 (wr wc : World) (t12 t13 : Value) (x0 x1 x2 x3 x4 y0 y1 y2 y3 y4 : Int) : Prop :=
 ∃ gx gy, t12 = .pointer (some ⟨gx, 0, none⟩) ∧ t13 = .pointer (some ⟨gy, 0, none⟩) ∧ Box wc gx 51 #[.int .i64 x0, .int .i64 x1, .int .i64 x2, .int .i64 x3, .int .i64 x4] ∧ Box wc gy 52 #[.int .i64 y0, .int .i64 y1, .int .i64 y2, .int .i64 y3, .int .i64 y4] ∧ Below wr.heap.size wr wc
theorem cell_block_lt10 {w : World} {a : Addr} {v : Value} (h : w.cell? a = some v) : a.block < w.heap.size := by
 unfold World.cell? at h
 split at h
 ·rename_i hb; exact (Array.getElem?_eq_some_iff.1 hb).1
 ·cases h
theorem bel_cell {w W : World} {p : Addr} {v : Value} (h : w.cell? p = some v) (hb : Below w.heap.size w W) : W.cell? p = some v := (hb.cell (cell_block_lt10 h)).trans h
theorem step_of_callL {P : Program} {ops : Array Oper} {o : Oper} {a : Act} {w : World} {K : Act → World → Prop} {Q : Exit → Act → World → Prop} {E : Prop} {f : FuncId} {ts : Array TypeId} {vs : Array Value}
  (hw : Region.wanted o (yielded ops a.tmps) = true) (hen : ∀ args w, (callFunc f args).run P w = .ok (.enter f args) w) (xs : Array Operand) (ho : o.op = .call { callee := .value (.func f), args := xs, argTypes := ts })
  (hx : xs.map a.eval = vs) (h : Calls P f vs w fun e w' => ∃ v, e = .returned v ∧ K (a.put o.dst v) w') :
  if Region.wanted o (yielded ops a.tmps) = true then Oper.wp P o a w K Q else E := by
 rw [if_pos hw]
 unfold Oper.wp execOp
 simp only [ho, resolve, invoke, Act.eval, Deferred.ofValue, Sem.run_bind, Sem.run_pure, Result.andThen_ok, hen]
 rw [Oper.upon_enter, hx]
 simp only [Array.empty_append, Array.append_empty]
 refine h.mono fun e w' he => ?_
 obtain ⟨v, rfl, hk⟩ := he
 exact hk
end Go.Proofs.YtclkdlegogjnbaaGreatDoor
