/-
  2 texts in one (VerCU VerCX). Conditions: those of each theorem.
-/
import Derived.Test.YtlmbiafloiompaaGreatDoorJV33
import Derived.Test.YtlmbiafloiompaaGreatDoorJV10
import Derived.Test.YtlmbiafloiompaaGreatDoorJV19
import Derived.Test.YtlmbiafloiompaaGreatDoorJV34
import Derived.Test.YtlmbiafloiompaaGreatDoorJV26
import Derived.Test.YtlmbiafloiompaaGreatDoorJV04
namespace Go.Proofs.YtlmbiafloiompaaGreatDoor
open Go
set_option linter.unusedVariables false
set_option linter.unusedSimpArgs false

theorem v_fine {o : Ob} (h : (verifyOf o).2.2.1 = 0) : checkOf o = 0 ∧ o.preds.any noneP = false ∧ ∃ l, walkV o o.code.length 0 (startV o) [] = .ok l := by
  by_cases h1 : checkOf o = 0
  · by_cases h2 : o.preds.any noneP = true
    · rw [v_none h1 h2] at h
      exact absurd h (by decide)
    · have h2 := Bool.eq_false_iff.2 h2
      refine ⟨h1, h2, ?_⟩
      rcases h3 : walkV o o.code.length 0 (startV o) [] with m | l
      · rw [v_bad h1 h2 h3] at h
        exact absurd h (by show ¬ ((14 : Int) = 0); decide)
      · exact ⟨l, rfl⟩
  · rw [v_check h1] at h
    exact absurd h h1
theorem ent_of {o : Ob} (h : checkOf o = 0) (h2 : o.preds.any noneP = false) : ∀ q ∈ o.preds, 0 ≤ q.2.2 ∧ q.2.2 < (o.code.length : Int) := fun q hq => by
  have h3 := (ok_of h).preds q hq
  rcases h3.2.2.2 with h4 | h4
  · exfalso
    have : o.preds.any noneP = true := List.any_eq_true.2 ⟨q, hq, by unfold noneP; exact decide_eq_true h4⟩
    rw [h2] at this
    cases this
  · exact h4
theorem cut_bad {o : Ob} (h : (verifyOf o).2.2.1 = 0) (h0 : 0 < o.code.length) : (verifyOf { o with code := o.code.take (o.code.length - 1) }).2.2.1 ≠ 0 := fun hb => by
  obtain ⟨h1, h2, l, hw⟩ := v_fine h
  obtain ⟨k1, k2, l2, hw2⟩ := v_fine hb
  have hl : (o.code.take (o.code.length - 1)).length = o.code.length - 1 := by rw [List.length_take]; omega
  have he := ent_of k1 k2
  simp only [hl] at he hw2
  exact less_bad h0 hw (ent_of h1 h2) (fun q hq => (he q hq).2) hw2
theorem there_more {a f p c : Nat} {k n : Int} (h : thereB a f p c k n = true) : thereB a f p (c + 1) k n = true := by
  unfold thereB at h ⊢
  split <;> rename_i h1
  · rw [if_pos h1] at h; exact h
  · rw [if_neg h1] at h
    split <;> rename_i h2
    · rw [if_pos h2] at h; exact h
    · rw [if_neg h2] at h
      split <;> rename_i h3
      · rw [if_pos h3] at h; exact h
      · rw [if_neg h3] at h
        split <;> rename_i h4
        · rw [if_pos h4] at h
          have := of_decide_eq_true h
          exact decide_eq_true (by omega)
        · rfl
theorem ins_more {a f p c : Nat} {i : Ins} (h : insErr a f p c i = 0) : insErr a f p (c + 1) i = 0 := by
  obtain ⟨h1, h2, h3, h4⟩ := insErr_ne h
  unfold insErr
  rw [if_neg (by omega), h3, if_neg (by decide), if_pos]
  rw [List.all_eq_true] at h4 ⊢
  exact fun k hk => there_more (h4 k hk)
theorem codes_more {a f p c : Nat} : ∀ (l : List Ins), (∀ i ∈ l, insErr a f p c i = 0) → codeErr a f p c l = 0
  | [], _ => rfl
  | i :: l, h => by
    rw [codeErr, if_pos (h i (by simp))]
    exact codes_more l fun j hj => h j (by simp [hj])
theorem check_more {o : Ob} {x : Ins} (h : checkOf o = 0) (hx : x ∈ o.code) (hn : o.code.length < 1024) : checkOf { o with code := o.code ++ [x] } = 0 := by
  have hk := ok_of h
  unfold checkOf at h
  split at h
  · cases h
  · rename_i h1
    split at h
    · cases h
    · rename_i h2
      split at h
      · cases h
      · rename_i h3
        split at h
        · cases h
        · rename_i h4
          unfold checkOf
          have hl : (o.code ++ [x]).length = o.code.length + 1 := by simp
          have hla := hk.la
          have hlf := hk.lf
          have hlp := hk.lp
          simp only [hl]
          rw [if_neg (by unfold bigB; simp; omega), if_neg (by exact h2), if_neg (by exact h3), if_neg]
          · refine codes_more _ fun i hi => ins_more ?_
            rcases List.mem_append.1 hi with hi | hi
            · exact hk.code i hi
            · rw [List.mem_singleton.1 hi]
              exact hk.code x hx
          · intro h5
            have he : entsOk o.code.length (o.preds.map (·.2.2)) = true := by
              cases hh : entsOk o.code.length (o.preds.map (·.2.2))
              · exact absurd hh h4
              · rfl
            have h6 : entsOk (o.code.length + 1) (o.preds.map (·.2.2)) = true := by
              unfold entsOk at he ⊢
              simp only [Bool.and_eq_true, List.all_eq_true] at he ⊢
              refine ⟨fun e hm => ?_, he.2⟩
              have := of_decide_eq_true (he.1 e hm)
              exact decide_eq_true (by omega)
            rw [h6] at h5
            cases h5
theorem add_bad {o : Ob} {x : Ins} (h : (verifyOf o).2.2.1 = 0) (hx : x ∈ o.code) (hn : o.code.length < 1024) : (verifyOf { o with code := o.code ++ [x] }).2.2 = (14, (o.code.length : Int)) := by
  obtain ⟨h1, h2, l, hw⟩ := v_fine h
  have hb := more_bad x (ent_of h1 h2) hw
  rw [v_bad (check_more h1 hx hn) h2 (by rw [show (o.code ++ [x]).length = o.code.length + 1 from by simp]; exact hb)]

end Go.Proofs.YtlmbiafloiompaaGreatDoor

namespace Go.Proofs.YtlmbiafloiompaaGreatDoor
open Go Go.RowKit
set_option linter.unusedVariables false
set_option linter.unusedSimpArgs false

/-- An object that From made: its rows are its own, between base and top. -/
structure FromR (w : World) (base top : Nat) (va vf vp vc : Value) (o : Ob) : Prop where
  ra : w.ownsRow base 9 1 va o.atoms.length (o.atoms.map Value.string)
  rf : w.ownsRow base 60 2 vf o.funs.length (o.funs.flatMap funC)
  rp : w.ownsRow base 63 3 vp o.preds.length (o.preds.flatMap predC)
  rc : w.ownsRow base 54 5 vc o.code.length (o.code.flatMap insC)
  lts : ∀ v ∈ [va, vf, vp, vc], ∀ k, v.ownBlock = some k → k < top
  le : top ≤ w.heap.size
theorem FromR.new {w : World} {base : Nat} {va vf vp vc : Value} {o : Ob} (ra : w.ownsRow base 9 1 va o.atoms.length (o.atoms.map Value.string)) (rf : w.ownsRow base 60 2 vf o.funs.length (o.funs.flatMap funC)) (rp : w.ownsRow base 63 3 vp o.preds.length (o.preds.flatMap predC)) (rc : w.ownsRow base 54 5 vc o.code.length (o.code.flatMap insC)) :
    FromR w base w.heap.size va vf vp vc o := ⟨ra, rf, rp, rc, fun v hv k hk => by
      simp only [List.mem_cons, List.not_mem_nil, or_false] at hv
      rcases hv with rfl | rfl | rfl | rfl
      · exact (own_ge ra hk).2
      · exact (own_ge rf hk).2
      · exact (own_ge rp hk).2
      · exact (own_ge rc hk).2, Nat.le_refl _⟩
theorem FromR.fr {w w' : World} {base top : Nat} {va vf vp vc : Value} {o : Ob} {S : Nat → Prop} (h : FromR w base top va vf vp vc o) (hf : Fr S w w') (hs : w.heap.size ≤ w'.heap.size) (hn : ∀ v ∈ [va, vf, vp, vc], ∀ k, v.ownBlock = some k → ¬ S k) : FromR w' base top va vf vp vc o :=
  ⟨own_fr h.ra hf (hn va (by simp)), own_fr h.rf hf (hn vf (by simp)), own_fr h.rp hf (hn vp (by simp)), own_fr h.rc hf (hn vc (by simp)), h.lts, Nat.le_trans h.le hs⟩
theorem FromR.below {w w' : World} {base top : Nat} {va vf vp vc : Value} {o : Ob} (h : FromR w base top va vf vp vc o) (hb : Below w.heap.size w w') : FromR w' base top va vf vp vc o :=
  h.fr (Fr.of_below hb) hb.size fun v hv k hk hS => by have := h.lts v hv k hk; have := h.le; omega
theorem FromR.far {w : World} {base top g : Nat} {va vf vp vc : Value} {o : Ob} (h : FromR w base top va vf vp vc o) {Z : Array Value} (hg : Box w g 27 Z) : ∀ v ∈ [va, vf, vp, vc], ∀ k, v.ownBlock = some k → ¬ k = g := fun v hv k hk => by
  simp only [List.mem_cons, List.not_mem_nil, or_false] at hv
  rcases hv with rfl | rfl | rfl | rfl
  · exact own_ne_box h.ra hg (by decide) k hk
  · exact own_ne_box h.rf hg (by decide) k hk
  · exact own_ne_box h.rp hg (by decide) k hk
  · exact own_ne_box h.rc hg (by decide) k hk
theorem FromR.one {w : World} {base top : Nat} {va vf vp vc : Value} {o : Ob} (h : FromR w base top va vf vp vc o) : (#[va, vf, vp, vc] : Array Value).all (·.oneCell') = true := by
  obtain ⟨_, _, rfl, _⟩ := own_form h.ra
  obtain ⟨_, _, rfl, _⟩ := own_form h.rf
  obtain ⟨_, _, rfl, _⟩ := own_form h.rp
  obtain ⟨_, _, rfl, _⟩ := own_form h.rc
  refine Array.all_eq_true_iff_forall_mem.2 fun v hv => ?_
  simp only [List.mem_toArray, List.mem_cons, List.not_mem_nil, or_false] at hv
  rcases hv with rfl | rfl | rfl | rfl <;> rfl
theorem FromR.at_ {w : World} {base top : Nat} {va vf vp vc : Value} {o : Ob} (h : FromR w base top va vf vp vc o) : ObAt w va vf vp vc o :=
  ⟨CellsAt.of_own h.ra (by decide), CellsAt.of_own h.rf (by decide), CellsAt.of_own h.rp (by decide), CellsAt.of_own h.rc (by decide)⟩
theorem FromR.more {w w' : World} {base top : Nat} {va vf vp vc v' : Value} {o : Ob} {x : Ins} (h : FromR w base top va vf vp vc o) (ha : App w w' base 54 5 vc v' (o.code.length + 1) (o.code.flatMap insC ++ insC x)) :
    FromR w' base w'.heap.size va vf vp v' { o with code := o.code ++ [x] } :=
  FromR.new (own_fr h.ra ha.fr (fun k hk e => own_ne_own h.ra h.rc (by decide) k hk e)) (own_fr h.rf ha.fr (fun k hk e => own_ne_own h.rf h.rc (by decide) k hk e)) (own_fr h.rp ha.fr (fun k hk e => own_ne_own h.rp h.rc (by decide) k hk e)) (by
    have := ha.own
    simpa using this)
theorem code_take {w : World} {A : Option Addr} {c : Nat} {l : List Ins} (h : CodeAt w (.slice A l.length c) l) (k : Nat) (hk : k ≤ l.length) : CodeAt w (.slice A k c) (l.take k) := by
  have hl : (l.take k).length = k := by rw [List.length_take]; omega
  unfold CodeAt CellsAt at h ⊢
  rw [hl]
  rcases h with ⟨h1, h2, h3⟩ | ⟨b, off, c', he, hb, hc⟩
  · have hn : l = [] := List.eq_nil_of_length_eq_zero h1
    subst hn
    have hk0 : k = 0 := by simpa using hk
    subst hk0
    exact .inl ⟨rfl, by simp, A, c, rfl⟩
  · cases he
    refine .inr ⟨b, off, c, rfl, hb, fun j u hj => hc j u ?_⟩
    have h2 : l.flatMap insC = (l.take k).flatMap insC ++ (l.drop k).flatMap insC := by rw [← List.flatMap_append, List.take_append_drop]
    rw [h2, List.getElem?_append_left (List.getElem?_eq_some_iff.1 hj).1]
    exact hj
theorem FromR.less {w : World} {base top : Nat} {va vf vp : Value} {A : Option Addr} {c : Nat} {o : Ob} (h : FromR w base top va vf vp (.slice A o.code.length c) o) (k : Nat) (hk : k ≤ o.code.length) : ObAt w va vf vp (.slice A k c) { o with code := o.code.take k } :=
  ⟨h.at_.atoms, h.at_.funs, h.at_.preds, code_take h.at_.code k hk⟩
/-- What region 7 leaves. -/
def CutC7 (w wc : World) (g10 g11 : Nat) (o : Ob) : Prop := ∃ la lf lp lc ma mf mp mc b1 t1 b2 t2, w.heap.size ≤ b1 ∧ t1 ≤ b2 ∧ FromR wc b1 t1 la lf lp lc o ∧ FromR wc b2 t2 ma mf mp mc o ∧ Box wc g10 27 #[la, lf, lp, lc] ∧ Box wc g11 27 #[ma, mf, mp, mc] ∧ g10 ≠ g11 ∧ Below w.heap.size w wc ∧ w.heap.size ≤ g10 ∧ w.heap.size ≤ g11 ∧ w.heap.size ≤ b2
theorem cutC7_of {w w2 w3 : World} {g10 g11 b1 t1 b2 t2 : Nat} {la lf lp lc ma mf mp mc : Value} {o : Ob} {Z Y : Array Value} (hz : Z.size = 4) (hy : Y.size = 4) (h1 : FromR w3 b1 t1 la lf lp lc o) (h2 : FromR w3 b2 t2 ma mf mp mc o) (x10 : Box w3 g10 27 Z) (x11 : Box w3 g11 27 Y) (hne : g10 ≠ g11) (hb : Below w.heap.size w w2) (hb2 : Below w2.heap.size w2 w3) (l10 : w2.heap.size ≤ g10) (l11 : w2.heap.size ≤ g11) (l1 : w2.heap.size ≤ b1) (l2 : t1 ≤ b2) (l3 : w2.heap.size ≤ b2) :
    CutC7 w ((w3.setCells g10 0 [la, lf, lp, lc]).setCells g11 0 [ma, mf, mp, mc]) g10 g11 o := by
  have e1 := Box.setCells [la, lf, lp, lc] w3 Z 0 x10
  rw [show [la, lf, lp, lc] = (#[la, lf, lp, lc] : Array Value).toList from rfl, putL_all (by rw [hz]; rfl)] at e1
  have e2 := Box.setCells_far (fun e => hne e.symm) [la, lf, lp, lc] w3 Y 0 x11
  have e3 := Box.setCells [ma, mf, mp, mc] _ Y 0 e2
  rw [show [ma, mf, mp, mc] = (#[ma, mf, mp, mc] : Array Value).toList from rfl, putL_all (by rw [hy]; rfl)] at e3
  have f1 : Fr (fun k => k = g10) w3 (w3.setCells g10 0 [la, lf, lp, lc]) := Fr.setCells _ _ _ _ (Fr.refl _ _) (.inl rfl)
  have s1 := f1.size
  have k1 := h1.fr f1 (by omega) (h1.far x10)
  have k2 := h2.fr f1 (by omega) (h2.far x10)
  have f2 : Fr (fun k => k = g11) (w3.setCells g10 0 [la, lf, lp, lc]) ((w3.setCells g10 0 [la, lf, lp, lc]).setCells g11 0 [ma, mf, mp, mc]) := Fr.setCells _ _ _ _ (Fr.refl _ _) (.inl rfl)
  have s2 := f2.size
  have hs := hb.size
  have fa : Fr (fun k => w2.heap.size ≤ k) w2 ((w3.setCells g10 0 [la, lf, lp, lc]).setCells g11 0 [ma, mf, mp, mc]) := Fr.setCells _ _ _ _ (Fr.setCells _ _ _ _ (Fr.of_below hb2) (.inl l10)) (.inl l11)
  have hb3 := fa.below (Nat.le_refl _) (fun k hk => hk)
  exact ⟨la, lf, lp, lc, ma, mf, mp, mc, b1, t1, b2, t2, by omega, l2, k1.fr f2 (by omega) (k1.far e2), k2.fr f2 (by omega) (k2.far e2), Box.setCells_far hne _ _ _ 0 e1, e3, hne, hb.trans (hb3.mono hs), by omega, by omega, by omega⟩

end Go.Proofs.YtlmbiafloiompaaGreatDoor
