/-
  2 texts in one (LinkXA LinkXB). Conditions: those of each theorem.
-/
import Derived.Test.YtclkdlegogjnbaaGreatDoorR34
import Derived.Test.YtclkdlegogjnbaaGreatDoorR24
namespace Go.Proofs.YtclkdlegogjnbaaGreatDoor
open Go Go.RowKit Go.WideShapes Go.ChangeShapes
set_option linter.unusedVariables false
set_option linter.unusedSimpArgs false
set_option maxHeartbeats 2000000 in
theorem ratom_any (l : List ByteArray) (hm : l.length ≤ 1000000) (v : Value) (x : ByteArray) (w : World) (hv : AtomsAt w v l) :
  Calls Tryz.prog 61 #[v, .string x] w fun e w' => e = .returned (.int .i64 (idxI l x)) ∧ w = w' := by
 obtain ⟨A, c, rfl⟩ := CellsAt.form hv
 have HV := Lib.hid hv
 have HY := Lib.hid (fun k hk h hx => idxI_hit (l := l) (x := x) (k := k) hk h hx)
 have HM := Lib.hid (fun h => idxI_miss (l := l) (x := x) h)
 generalize idxI l x = r at HY HM
 clear hv
 go_enter Tryz.func61, Tryz.ntmps61
 go_wp2
 go_loop [5] (fun i => ∃ k : Nat, k ≤ l.length ∧ i = .int .i64 k ∧ Hid (∀ j (hj : j < l.length), j < k → l[j] ≠ x)) (fun i => l.length - (intOf i).toNat)
 case atStart => exact ⟨0, by omega, rfl, Lib.hid (fun j hj h => absurd h (by omega))⟩
 case round =>
  obtain ⟨k, hk, rfl, HN⟩ := hrel
  by_cases hlt : k < l.length
  ·obtain ⟨b, off, rfl, hb, hc⟩ := atomCell HV.out k hlt
   have i1 : (k : Int) < (l.length : Int) := by omega
   have i2 : (0 : Int) ≤ (k : Int) := by omega
   by_cases he : l[k] = x
   ·have HZ := Lib.hid (HY.out k hlt HN.out he)
    have hst := eq_strs he
    generalize l[k] = y at hc hst
    clear he
    go_wp2
    go_ret
    exact ⟨by rw [HZ.out]; rfl, rfl⟩
   ·have HN2 : Hid (∀ j (hj : j < l.length), j < k + 1 → l[j] ≠ x) := Lib.hid (fun j hj h => by
     by_cases hjk : j < k
     ·exact HN.out j hj hjk
     ·obtain rfl : j = k := by omega
      exact he)
    have hst := ne_strs he
    generalize l[k] = y at hc hst
    clear he
    go_wp2
    go_round
    case rel => exact ⟨k + 1, by omega, by go_num, HN2⟩
    case measure => simp [intOf]; omega
  ·obtain rfl : k = l.length := by omega
   have HZ := Lib.hid (HM.out (fun j hj => HN.out j hj (by omega)))
   go_wp2
   go_ret
   exact ⟨by rw [HZ.out]; rfl, rfl⟩
set_option maxHeartbeats 2000000 in
theorem rfun_any (l : List (ByteArray × Int)) (hm : l.length ≤ 1000000) (v : Value) (x : ByteArray) (n : Int) (w : World) (hv : FunsAt w v l) :
  Calls Tryz.prog 62 #[v, .agg #[.string x, .int .i64 n]] w fun e w' => e = .returned (.int .i64 (idxI l (x, n))) ∧ Below w.heap.size w w' := by
 obtain ⟨A, c, rfl⟩ := CellsAt.form hv
 have HV := Lib.hid hv
 have HY := Lib.hid (fun k hk h hx => idxI_hit (l := l) (x := (x, n)) (k := k) hk h hx)
 have HM := Lib.hid (fun h => idxI_miss (l := l) (x := (x, n)) h)
 have B0 := Lib.hid (alloc_below w (.cells #[.string x, .int .i64 n] 81))
 have X0 := Lib.hid (Box.new w 81 #[.string x, .int .i64 n])
 generalize idxI l (x, n) = r at HY HM
 clear hv
 go_enter Tryz.func62, Tryz.ntmps62
 go_wp2
 go_loopw [5] (fun i wr => ∃ k : Nat, k ≤ l.length ∧ i = .int .i64 k ∧ Hid (∀ j (hj : j < l.length), j < k → l[j] ≠ (x, n)) ∧ Hid (Below w.heap.size w wr) ∧ Hid (Box wr w.heap.size 81 #[.string x, .int .i64 n])) (fun i _ => l.length - (intOf i).toNat)
 case atStart => exact ⟨0, by omega, rfl, Lib.hid (fun j hj h => absurd h (by omega)), B0, X0⟩
 case round =>
  obtain ⟨k, hk, rfl, HN, HB, HX⟩ := hrel
  clear B0 X0
  have c0 := HX.out.cell 0
  have c1 := HX.out.cell 1
  by_cases hlt : k < l.length
  ·obtain ⟨b, off, rfl, hb, hc0, hc1⟩ := funCell HV.out k hlt
   have d0 := (HB.out.cell (p := ⟨b, off + k * 2, none⟩) hb).trans hc0
   have d1 := (HB.out.cell (p := ⟨b, off + k * 2 + 1, none⟩) hb).trans hc1
   have i1 : (k : Int) < (l.length : Int) := by omega
   have i2 : (0 : Int) ≤ (k : Int) := by omega
   clear hc0 hc1
   by_cases he : l[k] = (x, n)
   ·have HZ := Lib.hid (HY.out k hlt HN.out he)
    have e1 : (l[k].1.toList = x.toList) = True := by rw [he]; simp
    have e2 : (l[k].2 = n) = True := by rw [he]; simp
    generalize l[k].1 = y at d0 e1
    generalize l[k].2 = m at d1 e2
    clear he
    go_upto_region 4 with (fail)
    go_quiet (fail)
    go_wp2
    go_ret
    exact ⟨by rw [HZ.out]; rfl, bel_drewN HB.out _⟩
   ·have HN2 : Hid (∀ j (hj : j < l.length), j < k + 1 → l[j] ≠ (x, n)) := Lib.hid (fun j hj h => by
     by_cases hjk : j < k
     ·exact HN.out j hj hjk
     ·obtain rfl : j = k := by omega
      exact he)
    have hne : ¬ (l[k].1 = x ∧ l[k].2 = n) := fun e => he (Prod.ext e.1 e.2)
    by_cases h1 : l[k].1 = x
    ·have e1 : (l[k].1.toList = x.toList) = True := by rw [h1]; simp
     have e2 : (l[k].2 = n) = False := by simpa using fun e => hne ⟨h1, e⟩
     generalize l[k].1 = y at d0 e1
     generalize l[k].2 = m at d1 e2
     clear he hne h1
     go_upto_region 4 with (fail)
     go_quiet (fail)
     go_wp2
     go_roundw
     case rel => exact ⟨k + 1, by omega, by go_num, HN2, Lib.hid (bel_drewN HB.out _), Lib.hid (HX.out.drewN _)⟩
     case measure => simp [intOf]; omega
    ·have e1 : (l[k].1.toList = x.toList) = False := by
      have := ne_strs h1
      simpa using this
     generalize l[k].1 = y at d0 e1
     generalize l[k].2 = m at d1
     clear he hne h1
     go_upto_region 4 with (fail)
     go_quiet (fail)
     go_wp2
     go_roundw
     case rel => exact ⟨k + 1, by omega, by go_num, HN2, Lib.hid (bel_drewN HB.out _), Lib.hid (HX.out.drewN _)⟩
     case measure => simp [intOf]; omega
  ·obtain rfl : k = l.length := by omega
   have HZ := Lib.hid (HM.out (fun j hj => HN.out j hj (by omega)))
   go_wp2
   go_ret
   exact ⟨by rw [HZ.out]; rfl, HB.out⟩
/-! An append of what can be read. -/
theorem append_none3 {P : Program} (w : World) (base : Nat) (t ty e : TypeId) (i : TypeInfo) (size : Nat) (ht : P.underlying t = some (.slice e)) (hi : P.info? e = some i)
  (v : Value) (n : Nat) (xs : List Value) (hown : w.ownsRow base e size v n xs) (c : Nat) :
  (Builtin.append_ #[t, t] ty #[v, .slice none 0 c]).run P w = .ok v w := by
 rcases hown.2 with ⟨rfl, rfl⟩ | ⟨g, cap, cur, rfl, _, _, hnc, _⟩
 ·simp [Builtin.append_, run_underlying ht, sizeOf, typeInfo, hi, Builtin.lenOf, Builtin.firstCells]
 ·simp [Builtin.append_, run_underlying ht, sizeOf, typeInfo, hi, Builtin.lenOf, Builtin.firstCells, hnc, storeCells]
theorem app_src3 {t e : TypeId} {size bytes : Nat} (T : SlT t e size bytes) {wr : World} {base n m : Nat} {v u : Value} {xs news : List Value} (hown : wr.ownsRow base e size v n xs) (hu : CellsAt wr u m news) (hl : news.length = m * size)
  (h1 : ∀ u ∈ news, u.oneCell' = true) (hn : n + m ≤ 1000000) (hbase : base ≤ wr.heap.size) (ty : TypeId) :
  ∃ v' w', (Builtin.append_ #[t, t] ty #[v, u]).run Tryz.prog wr = .ok v' w' ∧ Hid (App wr w' base e size v v' (n + m) (xs ++ news)) := by
 obtain ⟨z, hi, hzs⟩ := T.info
 obtain ⟨i, hi1, hz0, hz1, hz2⟩ := info_parts hi
 have hT := T.pos
 have hsm := T.small
 have hb : (n + m) * bytes ≤ 140737488355328 := Nat.le_trans (Nat.mul_le_mul hn hsm) (by decide)
 have fin : ∀ (ad : Addr) c, u = .slice (some ad) m c → (∀ j x, news[j]? = some x → wr.cell? (ad.add j) = some x) → ∃ v' w', (Builtin.append_ #[t, t] ty #[v, u]).run Tryz.prog wr = .ok v' w' ∧ Hid (App wr w' base e size v v' (n + m) (xs ++ news)) := by
  intro ad c hu' hc
  subst hu'
  obtain ⟨v', w', hr, h2, h3, _, h5⟩ := run_append_own_at (P := Tryz.prog) wr base t ty e i z size bytes T.und hi1 hz0 hz1 hz2 hzs T.pos v n xs hown ad m c news hl hc h1 (by unfold maxLen; omega) hb hbase
  exact ⟨v', w', hr, Lib.hid ⟨h2, Fr.of_grown h3 fun _ _ e => e, h5.imp id fun h => ⟨_, h, Nat.le_refl _⟩, own_form h2 |>.imp fun _ ⟨c, h, _⟩ => ⟨c, h⟩⟩⟩
 rcases hu with ⟨rfl, rfl, A, c, rfl⟩ | ⟨b, off, c, rfl, hlt, hc⟩
 ·cases A with
  | none =>
   have hr := append_none3 wr base t ty e i size T.und hi1 v n xs hown c
   exact ⟨v, wr, hr, Lib.hid ⟨by simpa using hown, Fr.refl _ _, .inl rfl, own_form hown |>.imp fun _ ⟨c, h, _⟩ => ⟨c, h⟩⟩⟩
  | some ad => exact fin ad c rfl (fun j x hj => by simp at hj)
 ·exact fin ⟨b, off, none⟩ c rfl (fun j x hj => by rw [add_plain]; exact hc j x hj)
theorem empty_new (W : World) (e : TypeId) (size : Nat) : (W.alloc (.cells #[] e)).ownsRow W.heap.size e size (.slice (some ⟨W.heap.size, 0, none⟩) 0 0) 0 [] :=
 ⟨by simp, .inr ⟨W.heap.size, 0, #[], rfl, Nat.le_refl _, heap_alloc_new W _, Nat.le_refl _, by unfold maxLen; omega, by simp, by simp⟩⟩
end Go.Proofs.YtclkdlegogjnbaaGreatDoor

namespace Go.Proofs.YtclkdlegogjnbaaGreatDoor
open Go Go.RowKit Go.WideShapes Go.ChangeShapes
set_option linter.unusedVariables false
set_option linter.unusedSimpArgs false
/-! Plain. -/
theorem predsJ_append (base : Int) : ∀ (a b P : List Pr), predsJ base P (a ++ b) = (predsJ base P a).bind fun P' => predsJ base P' b
 | [], b, P => rfl
 | p :: a, b, P => by
  rw [List.cons_append, predsJ, predsJ]
  cases h : predJ base P p with
  | none => rfl
  | some P' => exact predsJ_append base a b P'
theorem predsJ_step {base : Int} {ps P P' : List Pr} {k : Nat} (h : predsJ base P (ps.take k) = some P') (hk : k < ps.length) : predsJ base P (ps.take (k + 1)) = predJ base P' ps[k] := by
 rw [List.take_succ_eq_append_getElem hk, predsJ_append, h]
 show predsJ base P' [ps[k]] = _
 rw [predsJ]
 cases predJ base P' ps[k] <;> rfl
theorem predsJ_stop {base : Int} {ps P P' : List Pr} {k : Nat} (h : predsJ base P (ps.take k) = some P') (hk : k < ps.length) (hn : predJ base P' ps[k] = none) : predsJ base P ps = none := by
 have h1 := predsJ_step h hk
 rw [hn] at h1
 rw [← List.take_append_drop (k + 1) ps, predsJ_append, h1]
 rfl
theorem predJ_len {base : Int} {P P' : List Pr} {p : Pr} (h : predJ base P p = some P') : P'.length ≤ P.length + 1 := by
 have h2 : (predIn P (called p)).2.length ≤ P.length + 1 := by
  unfold predIn
  split
  ·simp
  ·simp
 unfold predJ at h
 split at h
 ·injection h with h; rw [← h]; exact h2
 ·split at h
  ·cases h
  ·injection h with h; rw [← h, setE_len]; exact h2
theorem predsJ_len {base : Int} : ∀ (ps P P' : List Pr), predsJ base P ps = some P' → P'.length ≤ P.length + ps.length
 | [], P, P', h => by
  injection h with h
  subst h
  simp
 | p :: ps, P, P', h => by
  rw [predsJ] at h
  cases hp : predJ base P p with
  | none => rw [hp] at h; cases h
  | some P1 =>
   rw [hp] at h
   have h1 := predJ_len hp
   have h2 := predsJ_len ps P1 P' h
   simp only [List.length_cons]
   omega
/-! Memory. -/
def RowT (S : Nat → Prop) (w0 wr : World) (e : TypeId) (size : Nat) (v : Value) (n : Nat) (cs : List Value) : Prop := (∀ W : World, Fr S w0 W → CellsAt W v n cs) ∨ wr.ownsRow w0.heap.size e size v n cs
section
variable {S : Nat → Prop} {w0 wr w' : World} {e : TypeId} {size n : Nat} {v : Value} {cs : List Value}
theorem RowT.at_ (h : RowT S w0 wr e size v n cs) (hb : Below w0.heap.size w0 wr) (hs : 0 < size) : CellsAt wr v n cs := by
 rcases h with h | h
 ·exact h _ ((Fr.of_below hb).mono (fun k _ x => False.elim x))
 ·exact CellsAt.of_own h hs
theorem RowT.far (h : RowT S w0 wr e size v n cs) (hb : Below w0.heap.size w0 wr) (hs : 0 < size) (hS : ∀ k, S k → k < w0.heap.size) {W : World} (hf : Fr S wr W) : CellsAt W v n cs := by
 rcases h with h | h
 ·exact h W (((Fr.of_below (S := fun _ => False) hb).mono (fun k _ x => False.elim x)).trans hf)
 ·exact CellsAt.of_own (own_fr h hf (fun k hk x => by have := hS k x; have := (own_ge h hk).1; omega)) hs
theorem RowT.up (h : RowT S w0 wr e size v n cs) (hb : Below wr.heap.size wr w') : RowT S w0 w' e size v n cs := by
 rcases h with h | h
 ·exact .inl h
 ·exact .inr (own_fr (S := fun _ => False) h (Fr.of_below hb) (fun _ _ x => x))
theorem RowT.set {g : Nat} {t : TypeId} {bs : Array Value} (h : RowT S w0 wr e size v n cs) (hb : Box wr g t bs) (hne : e ≠ t) (i : Nat) (u : Value) : RowT S w0 (wr.setCell ⟨g, i, none⟩ u) e size v n cs := by
 rcases h with h | h
 ·exact .inl h
 ·exact .inr (own_set_far h (fun k hk => own_ne_box h hb hne k hk) u)
theorem RowT.fr {T : Nat → Prop} (h : RowT S w0 wr e size v n cs) (hf : Fr T wr w') (hn : wr.ownsRow w0.heap.size e size v n cs → ∀ k, v.ownBlock = some k → ¬ T k) : RowT S w0 w' e size v n cs := by
 rcases h with h | h
 ·exact .inl h
 ·exact .inr (own_fr h hf (hn h))
end
structure JI where
 g : Nat
 x : Nat
 z : Nat
structure Jn (S : Nat → Prop) (w0 wr : World) (I : JI) (X : Array Value) (va vf vp vc : Value) (o : Ob) : Prop where
 box : Box wr I.g 29 #[va, vf, vp, vc]
 bx : Box wr I.x 29 X
 bz : Box wr I.z 29 #[.slice none 0 0, .slice none 0 0, .slice none 0 0, .slice none 0 0]
 ra : RowT S w0 wr 9 1 va o.atoms.length (o.atoms.map Value.string)
 rf : RowT S w0 wr 81 2 vf o.funs.length (o.funs.flatMap funC)
 rp : RowT S w0 wr 62 3 vp o.preds.length (o.preds.flatMap predC)
 rc : RowT S w0 wr 51 5 vc o.code.length (o.code.flatMap insC)
 below : Below w0.heap.size w0 wr
 ge : w0.heap.size ≤ I.g ∧ w0.heap.size ≤ I.x ∧ w0.heap.size ≤ I.z
 ne : I.x ≠ I.g ∧ I.z ≠ I.g ∧ I.z ≠ I.x
section
variable {S : Nat → Prop} {w0 wr w' : World} {I : JI} {X : Array Value} {va vf vp vc : Value} {o : Ob}
theorem Jn.up (h : Jn S w0 wr I X va vf vp vc o) (hb : Below wr.heap.size wr w') : Jn S w0 w' I X va vf vp vc o :=
 ⟨h.box.below hb h.box.lt, h.bx.below hb h.bx.lt, h.bz.below hb h.bz.lt, h.ra.up hb, h.rf.up hb, h.rp.up hb, h.rc.up hb, h.below.trans (hb.mono h.below.size), h.ge, h.ne⟩
theorem Jn.drewN (h : Jn S w0 wr I X va vf vp vc o) (n : Nat) : Jn S w0 (wr.drewN n) I X va vf vp vc o := h.up ⟨rfl, rfl, rfl, Nat.le_refl _, fun _ _ => rfl⟩
theorem Jn.alloc (h : Jn S w0 wr I X va vf vp vc o) (b : Obj) : Jn S w0 (wr.alloc b) I X va vf vp vc o := h.up (alloc_below wr b)
theorem Jn.at_ (h : Jn S w0 wr I X va vf vp vc o) : ObAt wr va vf vp vc o := ⟨h.ra.at_ h.below (by decide), h.rf.at_ h.below (by decide), h.rp.at_ h.below (by decide), h.rc.at_ h.below (by decide)⟩
theorem Jn.set (h : Jn S w0 wr I X va vf vp vc o) (i : Nat) (u : Value) : Box (wr.setCell ⟨I.g, i, none⟩ u) I.x 29 X ∧ Box (wr.setCell ⟨I.g, i, none⟩ u) I.z 29 #[.slice none 0 0, .slice none 0 0, .slice none 0 0, .slice none 0 0] ∧ Below w0.heap.size w0 (wr.setCell ⟨I.g, i, none⟩ u) :=
 ⟨h.bx.far (p := ⟨I.g, i, none⟩) h.ne.1 u, h.bz.far (p := ⟨I.g, i, none⟩) h.ne.2.1 u, h.below.setCell (p := ⟨I.g, i, none⟩) h.ge.1 u⟩
theorem Jn.puta (h : Jn S w0 wr I X va vf vp vc o) {v' : Value} {l : List ByteArray} (ho : wr.ownsRow w0.heap.size 9 1 v' l.length (l.map Value.string)) : Jn S w0 (wr.setCell ⟨I.g, 0, none⟩ v') I X v' vf vp vc { o with atoms := l } := by
 obtain ⟨h1, h2, h3⟩ := h.set 0 v'
 have hb := h.box.set_ 0 v'
 exact ⟨by simpa using hb, h1, h2, .inr (own_set_far ho (fun k hk => own_ne_box ho h.box (by decide) k hk) v'), h.rf.set h.box (by decide) 0 v', h.rp.set h.box (by decide) 0 v', h.rc.set h.box (by decide) 0 v', h3, h.ge, h.ne⟩
theorem Jn.putf (h : Jn S w0 wr I X va vf vp vc o) {v' : Value} {l : List (ByteArray × Int)} (ho : wr.ownsRow w0.heap.size 81 2 v' l.length (l.flatMap funC)) : Jn S w0 (wr.setCell ⟨I.g, 1, none⟩ v') I X va v' vp vc { o with funs := l } := by
 obtain ⟨h1, h2, h3⟩ := h.set 1 v'
 have hb := h.box.set_ 1 v'
 exact ⟨by simpa using hb, h1, h2, h.ra.set h.box (by decide) 1 v', .inr (own_set_far ho (fun k hk => own_ne_box ho h.box (by decide) k hk) v'), h.rp.set h.box (by decide) 1 v', h.rc.set h.box (by decide) 1 v', h3, h.ge, h.ne⟩
theorem Jn.putp (h : Jn S w0 wr I X va vf vp vc o) {v' : Value} {l : List Pr} (ho : wr.ownsRow w0.heap.size 62 3 v' l.length (l.flatMap predC)) : Jn S w0 (wr.setCell ⟨I.g, 2, none⟩ v') I X va vf v' vc { o with preds := l } := by
 obtain ⟨h1, h2, h3⟩ := h.set 2 v'
 have hb := h.box.set_ 2 v'
 exact ⟨by simpa using hb, h1, h2, h.ra.set h.box (by decide) 2 v', h.rf.set h.box (by decide) 2 v', .inr (own_set_far ho (fun k hk => own_ne_box ho h.box (by decide) k hk) v'), h.rc.set h.box (by decide) 2 v', h3, h.ge, h.ne⟩
theorem Jn.putc (h : Jn S w0 wr I X va vf vp vc o) {v' : Value} {l : List Ins} (ho : wr.ownsRow w0.heap.size 51 5 v' l.length (l.flatMap insC)) : Jn S w0 (wr.setCell ⟨I.g, 3, none⟩ v') I X va vf vp v' { o with code := l } := by
 obtain ⟨h1, h2, h3⟩ := h.set 3 v'
 have hb := h.box.set_ 3 v'
 exact ⟨by simpa using hb, h1, h2, h.ra.set h.box (by decide) 3 v', h.rf.set h.box (by decide) 3 v', h.rp.set h.box (by decide) 3 v', .inr (own_set_far ho (fun k hk => own_ne_box ho h.box (by decide) k hk) v'), h3, h.ge, h.ne⟩
theorem Jn.keepP (h : Jn S w0 wr I X va vf vp vc o) {e : TypeId} {size n : Nat} {cs : List Value} (hp : wr.ownsRow w0.heap.size e size vp n cs) (ht : e = 62) {v' : Value} {n' : Nat} {xs : List Value} (a : App wr w' w0.heap.size e size vp v' n' xs) :
  Box w' I.g 29 #[va, vf, vp, vc] ∧ Box w' I.x 29 X ∧ Box w' I.z 29 #[.slice none 0 0, .slice none 0 0, .slice none 0 0, .slice none 0 0] ∧ RowT S w0 w' 9 1 va o.atoms.length (o.atoms.map Value.string) ∧ RowT S w0 w' 81 2 vf o.funs.length (o.funs.flatMap funC) ∧ RowT S w0 w' 51 5 vc o.code.length (o.code.flatMap insC) ∧ Below w0.heap.size w0 w' := by
 subst ht
 exact ⟨h.box.fr a.fr (fun e => own_ne_box hp h.box (by decide) _ e rfl), h.bx.fr a.fr (fun e => own_ne_box hp h.bx (by decide) _ e rfl), h.bz.fr a.fr (fun e => own_ne_box hp h.bz (by decide) _ e rfl), h.ra.fr a.fr (fun ho k hk e => own_ne_own ho hp (by decide) k hk e), h.rf.fr a.fr (fun ho k hk e => own_ne_own ho hp (by decide) k hk e), h.rc.fr a.fr (fun ho k hk e => own_ne_own ho hp (by decide) k hk e), h.below.trans (a.fr.below h.below.size (fun k hk => (own_ge hp hk).1))⟩
theorem Jn.appp (h : Jn S w0 wr I X va vf vp vc o) (hp : wr.ownsRow w0.heap.size 62 3 vp o.preds.length (o.preds.flatMap predC)) {v' : Value} {l : List Pr} (a : App wr w' w0.heap.size 62 3 vp v' l.length (l.flatMap predC)) :
  Jn S w0 (w'.setCell ⟨I.g, 2, none⟩ v') I X va vf v' vc { o with preds := l } ∧ (w'.setCell ⟨I.g, 2, none⟩ v').ownsRow w0.heap.size 62 3 v' l.length (l.flatMap predC) ∧ w'.cell? ⟨I.g, 2, none⟩ = some vp ∧ w'.frozen? ⟨I.g, 2, none⟩ = false := by
 obtain ⟨k1, k2, k3, k4, k5, k6, k7⟩ := h.keepP hp rfl a
 have hb := k1.set_ 2 v'
 have hv := a.own
 exact ⟨⟨by simpa using hb, k2.far (p := ⟨I.g, 2, none⟩) h.ne.1 _, k3.far (p := ⟨I.g, 2, none⟩) h.ne.2.1 _, k4.set k1 (by decide) 2 v', k5.set k1 (by decide) 2 v', .inr (own_set_far hv (fun k hk => own_ne_box hv k1 (by decide) k hk) v'), k6.set k1 (by decide) 2 v', k7.setCell (p := ⟨I.g, 2, none⟩) h.ge.1 _, h.ge, h.ne⟩, own_set_far hv (fun k hk => own_ne_box hv k1 (by decide) k hk) v', k1.cell 2, k1.frozen 2⟩
theorem Jn.appc (h : Jn S w0 wr I X va vf vp vc o) (hp : wr.ownsRow w0.heap.size 51 5 vc o.code.length (o.code.flatMap insC)) {v' : Value} {l : List Ins} (a : App wr w' w0.heap.size 51 5 vc v' l.length (l.flatMap insC)) :
  Jn S w0 (w'.setCell ⟨I.g, 3, none⟩ v') I X va vf vp v' { o with code := l } ∧ (w'.setCell ⟨I.g, 3, none⟩ v').ownsRow w0.heap.size 51 5 v' l.length (l.flatMap insC) ∧ w'.cell? ⟨I.g, 3, none⟩ = some vc ∧ w'.frozen? ⟨I.g, 3, none⟩ = false := by
 have k1 := h.box.fr a.fr (fun e => own_ne_box hp h.box (by decide) _ e rfl)
 have k2 := h.bx.fr a.fr (fun e => own_ne_box hp h.bx (by decide) _ e rfl)
 have k3 := h.bz.fr a.fr (fun e => own_ne_box hp h.bz (by decide) _ e rfl)
 have k4 := h.ra.fr a.fr (fun ho k hk e => own_ne_own ho hp (by decide) k hk e)
 have k5 := h.rf.fr a.fr (fun ho k hk e => own_ne_own ho hp (by decide) k hk e)
 have k6 := h.rp.fr a.fr (fun ho k hk e => own_ne_own ho hp (by decide) k hk e)
 have k7 := h.below.trans (a.fr.below h.below.size (fun k hk => (own_ge hp hk).1))
 have hb := k1.set_ 3 v'
 have hv := a.own
 exact ⟨⟨by simpa using hb, k2.far (p := ⟨I.g, 3, none⟩) h.ne.1 _, k3.far (p := ⟨I.g, 3, none⟩) h.ne.2.1 _, k4.set k1 (by decide) 3 v', k5.set k1 (by decide) 3 v', k6.set k1 (by decide) 3 v', .inr (own_set_far hv (fun k hk => own_ne_box hv k1 (by decide) k hk) v'), k7.setCell (p := ⟨I.g, 3, none⟩) h.ge.1 _, h.ge, h.ne⟩, own_set_far hv (fun k hk => own_ne_box hv k1 (by decide) k hk) v', k1.cell 3, k1.frozen 3⟩
end
/-! Two appends: a new row of what was there, and one more. -/
section
variable {t e : TypeId} {size bytes : Nat}
theorem first_app (T : SlT t e size bytes) {w2 W1 : World} {ge : Nat} (hb : Below w2.heap.size w2 W1) (he : W1.ownsRow w2.heap.size e size (.slice (some ⟨ge, 0, none⟩) 0 0) 0 []) (hge : w2.heap.size ≤ ge) {u : Value} {m : Nat} {cs : List Value} (hu : CellsAt W1 u m cs) (hl : cs.length = m * size) (h1 : ∀ u ∈ cs, u.oneCell' = true) (hm : m ≤ 1000000) (ty : TypeId) :
  ∃ A c w6, (Builtin.append_ #[t, t] ty #[.slice (some ⟨ge, 0, none⟩) 0 0, u]).run Tryz.prog W1 = .ok (.slice A m c) w6 ∧ Hid (w6.ownsRow w2.heap.size e size (.slice A m c) m cs ∧ Below w2.heap.size w2 w6 ∧ Fr (fun b => b = ge) W1 w6) := by
 obtain ⟨v6, w6, hr, ha⟩ := app_src3 T he hu hl h1 (by omega) hb.size ty
 obtain ⟨A, c, hv⟩ := ha.out.form
 subst hv
 have hf : Fr (fun b => b = ge) W1 w6 := ha.out.fr.mono (fun k _ hk => by simpa [Value.ownBlock] using hk.symm)
 have ho := ha.out.own
 rw [Nat.zero_add] at ho hr
 exact ⟨A, c, w6, hr, Lib.hid ⟨by simpa using ho, hb.trans (hf.below hb.size (fun k hk => by omega)), hf⟩⟩
theorem second_app (T : SlT t e size bytes) {w2 w6 : World} {gx : Nat} {v : Value} {m : Nat} {cs : List Value} (ho : w6.ownsRow w2.heap.size e size v m cs) (hb : Below w2.heap.size w2 w6) (news : List Value) (bx : Box w6 gx e news.toArray) (hl : news.length = size) (h1 : ∀ u ∈ news, u.oneCell' = true) (hm : m ≤ 1000000) (ty : TypeId) :
  ∃ A c w7, (Builtin.append_ #[t, t] ty #[v, .slice (some ⟨gx, 0, none⟩) 1 1]).run Tryz.prog w6 = .ok (.slice A (m + 1) c) w7 ∧ Hid (w7.ownsRow w2.heap.size e size (.slice A (m + 1) c) (m + 1) (cs ++ news) ∧ Below w2.heap.size w2 w7) := by
 obtain ⟨v7, w7, hr, ha⟩ := app_box T ho news bx hl h1 hm hb.size ty
 obtain ⟨A, c, hv⟩ := ha.out.form
 subst hv
 exact ⟨A, c, w7, hr, Lib.hid ⟨ha.out.own, hb.trans (ha.out.fr.below hb.size (fun k hk => (own_ge ho hk).1))⟩⟩
end
theorem cells_strs (l : List ByteArray) : ∀ u ∈ l.map Value.string, u.oneCell' = true := by
 intro u hu
 obtain ⟨x, _, rfl⟩ := List.mem_map.1 hu
 rfl
theorem cells_flat {α : Type} (f : α → List Value) (hf : ∀ a, ∀ u ∈ f a, u.oneCell' = true) (l : List α) : ∀ u ∈ l.flatMap f, u.oneCell' = true := by
 intro u hu
 obtain ⟨a, _, h⟩ := List.mem_flatMap.1 hu
 exact hf a u h
theorem cells_fun (a : ByteArray × Int) : ∀ u ∈ funC a, u.oneCell' = true := by
 intro u hu
 simp only [funC, List.mem_cons, List.not_mem_nil, or_false] at hu
 rcases hu with rfl | rfl <;> rfl
theorem cells_pred (a : Pr) : ∀ u ∈ predC a, u.oneCell' = true := by
 intro u hu
 simp only [predC, List.mem_cons, List.not_mem_nil, or_false] at hu
 rcases hu with rfl | rfl | rfl <;> rfl
theorem cells_ins (a : Ins) : ∀ u ∈ insC a, u.oneCell' = true := by
 intro u hu
 simp only [insC, List.mem_cons, List.not_mem_nil, or_false] at hu
 rcases hu with rfl | rfl | rfl | rfl | rfl <;> rfl
theorem cells_len {α : Type} (f : α → List Value) (m : Nat) (hf : ∀ a, (f a).length = m) : ∀ (l : List α), (l.flatMap f).length = l.length * m
 | [] => by simp
 | x :: l => by rw [List.flatMap_cons, List.length_append, hf, cells_len f m hf l, List.length_cons, Nat.succ_mul]; omega
section
variable {S : Nat → Prop} {w0 wr w' : World} {I : JI} {X : Array Value} {va vf vp vc : Value} {o : Ob}
theorem cellp_own {B gp cp : Nat} {P : List Pr} (h : wr.ownsRow B 62 3 (.slice (some ⟨gp, 0, none⟩) P.length cp) P.length (P.flatMap predC)) (i : Nat) (hi : i < P.length) : wr.cell? ⟨gp, i * 3 + 2, none⟩ = some (.int .i64 P[i].2.2) ∧ wr.frozen? ⟨gp, i * 3 + 2, none⟩ = false := by
 have hc := h.cells (g := gp) rfl (i * 3 + 2) _ (flat_ent P i hi)
 rw [add_plain, Nat.zero_add] at hc
 refine ⟨hc, ?_⟩
 rcases h.2 with ⟨h0, _⟩ | ⟨g', cap, cur, h1, _, hh, _⟩
 ·simp at h0
 ·injection h1 with h1 _ _
  injection h1 with h1
  injection h1 with h1
  subst h1
  exact frozen_of_row wr _ _ cur _ hh
theorem Jn.setp {gp cp : Nat} (h : Jn S w0 wr I X va vf (.slice (some ⟨gp, 0, none⟩) o.preds.length cp) vc o) (hr : wr.ownsRow w0.heap.size 62 3 (.slice (some ⟨gp, 0, none⟩) o.preds.length cp) o.preds.length (o.preds.flatMap predC)) (i : Nat) (hi : i < o.preds.length) (x : Int) :
  Jn S w0 (wr.setCell ⟨gp, i * 3 + 2, none⟩ (.int .i64 x)) I X va vf (.slice (some ⟨gp, 0, none⟩) o.preds.length cp) vc { o with preds := setE o.preds i x } ∧ (wr.setCell ⟨gp, i * 3 + 2, none⟩ (.int .i64 x)).ownsRow w0.heap.size 62 3 (.slice (some ⟨gp, 0, none⟩) o.preds.length cp) (setE o.preds i x).length ((setE o.preds i x).flatMap predC) := by
 have hf : Fr (fun k => k = gp) wr (wr.setCell ⟨gp, i * 3 + 2, none⟩ (.int .i64 x)) := (Fr.refl (fun k => k = gp) wr).setCell (p := ⟨gp, i * 3 + 2, none⟩) (.inl rfl) _
 have own6 := (World.ownsRow.stored hr (i * 3 + 2) (.int .i64 x)).1
 rw [flat_set_ent o.preds i x hi, ← setE_set _ _ hi] at own6
 have own7 : (wr.setCell ⟨gp, i * 3 + 2, none⟩ (.int .i64 x)).ownsRow w0.heap.size 62 3 (.slice (some ⟨gp, 0, none⟩) o.preds.length cp) (setE o.preds i x).length ((setE o.preds i x).flatMap predC) := by rw [setE_len]; exact own6
 refine ⟨⟨h.box.fr hf (fun e => own_ne_box hr h.box (by decide) gp rfl e.symm), h.bx.fr hf (fun e => own_ne_box hr h.bx (by decide) gp rfl e.symm), h.bz.fr hf (fun e => own_ne_box hr h.bz (by decide) gp rfl e.symm), h.ra.fr hf (fun ho k hk e => own_ne_own ho hr (by decide) k hk (by rw [e]; rfl)), h.rf.fr hf (fun ho k hk e => own_ne_own ho hr (by decide) k hk (by rw [e]; rfl)), .inr own7, h.rc.fr hf (fun ho k hk e => own_ne_own ho hr (by decide) k hk (by rw [e]; rfl)), h.below.trans (hf.below h.below.size (fun k e => by subst e; exact (own_ge hr rfl).1)), h.ge, h.ne⟩, own7⟩
theorem Jn.far (h : Jn S w0 wr I X va vf vp vc o) {gi : Nat} {cs : Array Value} (hy : Box wr gi 51 cs) (h0 : w0.heap.size ≤ gi) (h2 : vc.ownBlock ≠ some gi) (i : Nat) (u : Value) : Jn S w0 (wr.setCell ⟨gi, i, none⟩ u) I X va vf vp vc o := by
 have hf : Fr (fun k => k = gi) wr (wr.setCell ⟨gi, i, none⟩ u) := (Fr.refl (fun k => k = gi) wr).setCell (p := ⟨gi, i, none⟩) (.inl rfl) u
 exact ⟨h.box.fr hf (h.box.ne_ hy (by decide)), h.bx.fr hf (h.bx.ne_ hy (by decide)), h.bz.fr hf (h.bz.ne_ hy (by decide)), h.ra.fr hf (fun ho k hk => own_ne_box ho hy (by decide) k hk), h.rf.fr hf (fun ho k hk => own_ne_box ho hy (by decide) k hk), h.rp.fr hf (fun ho k hk => own_ne_box ho hy (by decide) k hk), h.rc.fr hf (fun _ k hk e => h2 (by rw [hk, e])), h.below.setCell (p := ⟨gi, i, none⟩) h0 u, h.ge, h.ne⟩
theorem own_lt' {B : Nat} {e : TypeId} {size n : Nat} {v : Value} {xs : List Value} (h : wr.ownsRow B e size v n xs) {g : Nat} (hg : wr.heap.size ≤ g) : v.ownBlock ≠ some g := fun e => by have := (own_ge h e).2; omega
end
theorem jn_start (S : Nat → Prop) (w : World) {va vf vp vc : Value} {o : Ob} (hv : ∀ W : World, Fr S w W → ObAt W va vf vp vc o) (X : Array Value) :
  Jn S w (((w.alloc (.cells #[va, vf, vp, vc] 29)).alloc (.cells X 29)).alloc (.cells #[.slice none 0 0, .slice none 0 0, .slice none 0 0, .slice none 0 0] 29)) ⟨w.heap.size, w.heap.size + 1, w.heap.size + 1 + 1⟩ X va vf vp vc o := by
 have h2 := Box.new (w.alloc (.cells #[va, vf, vp, vc] 29)) 29 X
 have h3 := Box.new ((w.alloc (.cells #[va, vf, vp, vc] 29)).alloc (.cells X 29)) 29 #[.slice none 0 0, .slice none 0 0, .slice none 0 0, .slice none 0 0]
 rw [World.size_alloc] at h2
 rw [World.size_alloc, World.size_alloc] at h3
 refine ⟨((Box.new w _ _).alloc _).alloc _, h2.alloc _, h3, .inl (fun W h => (hv W h).atoms), .inl (fun W h => (hv W h).funs), .inl (fun W h => (hv W h).preds), .inl (fun W h => (hv W h).code), (two_below w _ _).alloc (by simp; omega) _, ⟨Nat.le_refl _, by simp, by simp; omega⟩, (by show w.heap.size + 1 ≠ w.heap.size; omega), (by show w.heap.size + 1 + 1 ≠ w.heap.size; omega), (by show w.heap.size + 1 + 1 ≠ w.heap.size + 1; omega)⟩
def JoinW (S : Nat → Prop) (w : World) (r : Option Ob) (e : Ending) (w' : World) : Prop :=
 Below w.heap.size w w' ∧ ∃ A1 n1 c1 A2 n2 c2 A3 n3 c3 A4 n4 c4, e = .returned (.tuple #[.agg #[.slice A1 n1 c1, .slice A2 n2 c2, .slice A3 n3 c3, .slice A4 n4 c4], .bool r.isSome]) ∧ ∀ o', r = some o' → ∀ W : World, Fr S w' W → ObAt W (.slice A1 n1 c1) (.slice A2 n2 c2) (.slice A3 n3 c3) (.slice A4 n4 c4) o'
def CutP (S : Nat → Prop) (w wc : World) (I : JI) (X : Array Value) (va vf vc : Value) (o : Ob) (gp : Nat) (s : ByteArray) (m e : Int) (r : Int × List Pr) (t : Value) : Prop :=
 ∃ A c, t = .int .i64 r.1 ∧ Jn S w wc I X va vf (.slice A r.2.length c) vc { o with preds := r.2 } ∧ wc.ownsRow w.heap.size 62 3 (.slice A r.2.length c) r.2.length (r.2.flatMap predC) ∧ Box wc gp 62 #[.string s, .int .i64 m, .int .i64 e]
theorem grown_own {w7 : World} {B B' : Nat} {e : TypeId} {size m n' : Nat} {v : Value} {cs cs' : List Value} (h : w7.ownsRow B' e size v m cs) (hB : B ≤ B') (hn : n' = m) (hc : cs' = cs) : w7.ownsRow B e size v n' cs' := by
 subst hn hc
 exact own_more h (fun k hk => Nat.le_trans hB (own_ge h hk).1)
theorem joinW_none {S : Nat → Prop} {w W : World} {r : Option Ob} {A1 A2 A3 A4 : Option Addr} {n1 c1 n2 c2 n3 c3 n4 c4 : Nat} (hx : r = none) (hb : Below w.heap.size w W) : JoinW S w r (.returned (.tuple #[.agg #[.slice A1 n1 c1, .slice A2 n2 c2, .slice A3 n3 c3, .slice A4 n4 c4], .bool false])) W := by
 subst hx
 exact ⟨hb, _, _, _, _, _, _, _, _, _, _, _, _, rfl, fun o' h => by cases h⟩
theorem joinW_some {S : Nat → Prop} {w W : World} {r : Option Ob} {o' : Ob} {A1 A2 A3 A4 : Option Addr} {n1 c1 n2 c2 n3 c3 n4 c4 : Nat} (hx : r = some o') (hb : Below w.heap.size w W) (ho : ∀ W2 : World, Fr S W W2 → ObAt W2 (.slice A1 n1 c1) (.slice A2 n2 c2) (.slice A3 n3 c3) (.slice A4 n4 c4) o') : JoinW S w r (.returned (.tuple #[.agg #[.slice A1 n1 c1, .slice A2 n2 c2, .slice A3 n3 c3, .slice A4 n4 c4], .bool true])) W := by
 subst hx
 exact ⟨hb, _, _, _, _, _, _, _, _, _, _, _, _, rfl, fun o2 h => by injection h with h; rw [← h]; exact ho⟩
theorem Jn.after {S : Nat → Prop} {w0 wr W : World} {I : JI} {X : Array Value} {va vf vp vc : Value} {o : Ob} (h : Jn S w0 wr I X va vf vp vc o) (hS : ∀ k, S k → k < w0.heap.size) (hf : Fr (fun k => k = I.z) wr W) : ∀ W2 : World, Fr S W W2 → ObAt W2 va vf vp vc o := by
 have hb : Below w0.heap.size w0 W := h.below.trans (hf.below h.below.size (fun k hk => by have := h.ge.2.2; omega))
 intro W2 h2
 exact ⟨(h.ra.fr hf (fun ho k hk => own_ne_box ho h.bz (by decide) k hk)).far hb (by decide) hS h2, (h.rf.fr hf (fun ho k hk => own_ne_box ho h.bz (by decide) k hk)).far hb (by decide) hS h2, (h.rp.fr hf (fun ho k hk => own_ne_box ho h.bz (by decide) k hk)).far hb (by decide) hS h2, (h.rc.fr hf (fun ho k hk => own_ne_box ho h.bz (by decide) k hk)).far hb (by decide) hS h2⟩
theorem midA_same {F G : Nat → Int} {m : Nat} (h : F m = G m) : midA F G (m + 1) = midA F G m := by
 funext j
 unfold midA
 by_cases hj : j < m
 ·rw [if_pos (by omega), if_pos hj]
 ·rw [if_neg hj]
  by_cases e : j = m
  ·subst e
   rw [if_pos (by omega), h]
  ·rw [if_neg (by omega)]
end Go.Proofs.YtclkdlegogjnbaaGreatDoor
