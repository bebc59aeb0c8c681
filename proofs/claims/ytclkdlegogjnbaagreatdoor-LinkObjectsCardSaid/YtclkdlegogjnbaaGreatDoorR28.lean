/-
 A region that draws its order, walked with a condition S on the world that is kept up to its last operations alone: so S may name cells that these store into. No condition.
-/
import Derived.Deep.RegionHeld3
import Derived.StillTailTactics
namespace Go.Proofs.YtclkdlegogjnbaaGreatDoor
open Go
set_option linter.unusedVariables false
set_option linter.unusedSimpArgs false
section
variable {P : Program} {ops : Array Oper} {Q : Exit → Act → World → Prop} {md : Region.Mode} {S : World → Prop} {n : Nat}
def wpAnyT (P : Program) (md : Region.Mode) (ops : Array Oper) (Q : Exit → Act → World → Prop) (S : World → Prop) (n : Nat) : Nat → Array Bool → Act → World → Prop
 | 0, L, a, w => Region.ready md ops L = [] ∧ Q .normal a w
 | f + 1, L, a, w => (Region.ready md ops L = [] → Q .normal a w) ∧ ∀ i ∈ Region.ready md ops L, wpOp P ops Q i (fun a' w' => (i < n → S w → S w') ∧ wpAnyT P md ops Q S n f (L.setIfInBounds i true) a' w') a w
theorem wpAny_of_T : ∀ (f : Nat) (L : Array Bool) (a : Act) (w : World), wpAnyT P md ops Q S n f L a w → wpAny P md ops Q f L a w
 | 0, _, _, _, h => h
 | f + 1, _, _, _, h => ⟨h.1, fun i hi => wpOp_mono (fun a' w' k => wpAny_of_T f _ a' w' k.2) (h.2 i hi)⟩
theorem wpAnyT_first {T : World → Prop} {i : Nat} {oi : Oper} {v : Value} (hi : ops[i]? = some oi) (hs : Region.noSelect ops = true) (hQ : ∀ c a w, Q (.panic c) (a.put oi.dst v) w → Q (.panic c) a w)
  (hT : ∀ j (L : Array Bool) (w w' : World), L.getD i true = false → j ∈ Region.ready md ops L → (j < n → S w → S w') → T w → T w') :
  ∀ (f : Nat) (L : Array Bool) (a : Act) (w : World), (∀ j oj, ops[j]? = some oj → j ≠ i → L.getD j true = false → (∀ e ∈ oj.after, Region.binds md e = true → e.on ≠ i) → oi.apart ops oj = true) →
   i ∈ Region.ready md ops L → YieldsIf P ops T oi v a → T w → wpAnyT P md ops Q S n f (L.setIfInBounds i true) (a.put oi.dst v) w → wpAnyT P md ops Q S n (f + 1) L a w := by
 intro f
 induction f with
 | zero =>
  intro L a w hap hr hy hw H
  have hne : Region.ready md ops L ≠ [] := fun e => by rw [e] at hr; cases hr
  refine ⟨fun e => absurd e hne, fun j hj => ?_⟩
  by_cases e : j = i
  ·rw [e]
   exact hy.wpOp hi hw ⟨fun _ x => x, H⟩
  ·have h0 := ready_mono hj e
   rw [H.1] at h0
   cases h0
 | succ f ih =>
  intro L a w hap hr hy hw H
  have hne : Region.ready md ops L ≠ [] := fun e => by rw [e] at hr; cases hr
  have hun := (mem_ready.1 hr).1
  refine ⟨fun e => absurd e hne, fun j hj => ?_⟩
  by_cases e : j = i
  ·rw [e]
   exact hy.wpOp hi hw ⟨fun _ x => x, H⟩
  ·obtain ⟨hj0, oj, hoj, hall⟩ := mem_ready.1 hj
   have hno : ∀ e ∈ oj.after, Region.binds md e = true → e.on ≠ i := fun e he hb h0 => by
    have h1 := hall e he hb
    rw [h0, getD_both hun] at h1
    cases h1
   have h2 := wpOp_putIf hoj (hap j oj hoj e hj0 hno) (fun cs b => Region.noSelect_spec hs i oi cs b hi) (fun cs b => Region.noSelect_spec hs j oj cs b hoj) hQ hy (H.2 j (ready_mono hj e))
   refine wpOp_mono (fun a' w' k => ⟨k.2.1, ih (L.setIfInBounds j true) a' w' (fun m om hm hmi hmu hmn => hap m om hm hmi ?_ hmn) (ready_mono hr (Ne.symm e)) k.1 (hT j L w w' hun hj k.2.1 hw) ?_⟩) h2
   ·by_cases hjm : j = m
    ·rw [← hjm]; exact hj0
    ·rw [getD_set_ne true hjm] at hmu; exact hmu
   ·rw [Array.setIfInBounds_comm _ _ e]
    exact k.2.2
def waitsB (md : Region.Mode) (ops : Array Oper) (n i : Nat) : Bool := (List.range ops.size).all fun j => decide (j < n) || Region.waitsFor md ops j i
theorem waitsB_lt {i j : Nat} {L : Array Bool} (h : waitsB md ops n i = true) (hun : L.getD i true = false) (hj : j ∈ Region.ready md ops L) : j < n := by
 obtain ⟨_, oj, hoj, hall⟩ := mem_ready.1 hj
 have h1 := List.all_eq_true.1 h j (List.mem_range.2 (Array.getElem?_eq_some_iff.1 hoj).1)
 simp only [Bool.or_eq_true, decide_eq_true_eq] at h1
 rcases h1 with h1 | h1
 ·exact h1
 ·obtain ⟨o', ho', e, he, hb, hon⟩ := Region.waitsFor_spec h1
  have : o' = oj := Option.some.inj (ho'.symm.trans hoj)
  subst this
  have h2 := hall e he hb
  rw [hon, getD_both hun] at h2
  cases h2
theorem tkS {i : Nat} {oi : Oper} {v : Value} {f : Nat} {L : Array Bool} {a : Act} {w : World} (hi : ops[i]? = some oi) (hQ : ∀ c a w, Q (.panic c) (a.put oi.dst v) w → Q (.panic c) a w) (hy : YieldsIf P ops S oi v a) (hS : S w)
  (h : wpAnyT P md ops Q S n f (L.setIfInBounds i true) (a.put oi.dst v) w) (hs : Region.noSelect ops = true := by kernel_rfl) (hf : Region.free md ops L i = true := by kernel_rfl) (hr : (Region.ready md ops L).contains i = true := by kernel_rfl) (hw : waitsB md ops n i = true := by kernel_rfl) : wpAnyT P md ops Q S n (f + 1) L a w :=
 wpAnyT_first hi hs hQ (fun j L w w' hun hj hk hT => hk (waitsB_lt hw hun hj) hT) f L a w (Region.free_spec hi hf) (by simpa using hr) hy hS h
theorem tkP {i : Nat} {oi : Oper} {v : Value} {f : Nat} {L : Array Bool} {a : Act} {w : World} (hi : ops[i]? = some oi) (hQ : ∀ c a w, Q (.panic c) (a.put oi.dst v) w → Q (.panic c) a w) (hy : YieldsIf P ops (fun _ => True) oi v a)
  (h : wpAnyT P md ops Q S n f (L.setIfInBounds i true) (a.put oi.dst v) w) (hs : Region.noSelect ops = true := by kernel_rfl) (hf : Region.free md ops L i = true := by kernel_rfl) (hr : (Region.ready md ops L).contains i = true := by kernel_rfl) : wpAnyT P md ops Q S n (f + 1) L a w :=
 wpAnyT_first hi hs hQ (fun _ _ _ _ _ _ _ _ => trivial) f L a w (Region.free_spec hi hf) (by simpa using hr) hy trivial h
def AllT (P : Program) (md : Region.Mode) (ops : Array Oper) (Q : Exit → Act → World → Prop) (S : World → Prop) (n f : Nat) (L : Array Bool) (a : Act) (w : World) (rs : List Nat) : Prop :=
 ∀ i ∈ rs, wpOp P ops Q i (fun a' w' => (i < n → S w → S w') ∧ wpAnyT P md ops Q S n f (L.setIfInBounds i true) a' w') a w
theorem AllT.nil {f : Nat} {L : Array Bool} {a : Act} {w : World} : AllT P md ops Q S n f L a w [] := fun _ h => by cases h
theorem AllT.cons {f : Nat} {L : Array Bool} {a : Act} {w : World} {i : Nat} {o : Oper} {rs : List Nat} (ho : ops[i]? = some o)
  (h : ∀ K' : Act → World → Prop, Shut (∀ a w', (i < n → S w') → ((i < n → S w') → wpAnyT P md ops Q S n f (L.setIfInBounds i true) a w') → K' a w') → if Region.wanted o (yielded ops a.tmps) = true then Oper.wp P o a w K' Q else K' (a.put o.dst undef) w)
  (hs : AllT P md ops Q S n f L a w rs) : AllT P md ops Q S n f L a w (i :: rs) := fun j hj => by
 rcases List.mem_cons.1 hj with rfl | hj
 ·exact wpOp_step ho (fun K' hK => h K' (fun a w' hS hW => hK a w' ⟨fun hn _ => hS hn, hW hS⟩))
 ·exact hs j hj
theorem wpAnyT_ready {rs : List Nat} {f : Nat} {L : Array Bool} {a : Act} {w : World} (hr : Region.ready md ops L = rs) (hne : rs ≠ []) (h : AllT P md ops Q S n f L a w rs) : wpAnyT P md ops Q S n (f + 1) L a w :=
 ⟨fun e => absurd (hr ▸ e) hne, hr ▸ h⟩
theorem wpAnyT_done {L : Array Bool} {a : Act} {w : World} (hr : Region.ready md ops L = []) (h : Q .normal a w) : ∀ f, wpAnyT P md ops Q S n f L a w
 | 0 => ⟨hr, h⟩
 | _ + 1 => ⟨fun _ => h, by rw [hr]; simp⟩
theorem wp_region_T {id : Nat} {a : Act} {w : World} (n : Nat) (S : World → Prop) (hm : P.follows .mixedOrders = true) (hS : S w.drew) (h : S w.drew → wpAnyT P .any ops Q S n ops.size (Array.replicate ops.size false) a w.drew) : (Code.region id ops true).wp P Q a w :=
 wp_region_any hm (wpAny_of_T _ _ _ _ (h hS))
end
section
variable {P : Program} {ops : Array Oper} {Q : Exit → Act → World → Prop} {md : Region.Mode} {S : World → Prop} {n : Nat}
theorem tP {i : Nat} {oi : Oper} {v : Value} {f : Nat} {L : Array Bool} {a : Act} {w : World} (hi : ops[i]? = some oi) (hy : ∀ w, True → (execOp a.eval oi).run P w = .ok (.value v) w)
  (h : wpAnyT P md ops Q S n f (L.setIfInBounds i true) (a.put oi.dst v) w) (hw : Region.wanted oi (yielded ops a.tmps) = true := by kernel_rfl) (hQ : ∀ c a w, Q (.panic c) (a.put oi.dst v) w → Q (.panic c) a w := by exact fun _ _ _ h => h) (hs : Region.noSelect ops = true := by kernel_rfl) (hf : Region.free md ops L i = true := by kernel_rfl) (hr : (Region.ready md ops L).contains i = true := by kernel_rfl) : wpAnyT P md ops Q S n (f + 1) L a w :=
 tkP hi hQ (Or.inl ⟨hw, hy⟩) h hs hf hr
theorem tS {i : Nat} {oi : Oper} {v : Value} {f : Nat} {L : Array Bool} {a : Act} {w : World} (hi : ops[i]? = some oi) (hy : ∀ w, S w → (execOp a.eval oi).run P w = .ok (.value v) w) (hS : S w)
  (h : wpAnyT P md ops Q S n f (L.setIfInBounds i true) (a.put oi.dst v) w) (hw : Region.wanted oi (yielded ops a.tmps) = true := by kernel_rfl) (hQ : ∀ c a w, Q (.panic c) (a.put oi.dst v) w → Q (.panic c) a w := by exact fun _ _ _ h => h) (hs : Region.noSelect ops = true := by kernel_rfl) (hf : Region.free md ops L i = true := by kernel_rfl) (hr : (Region.ready md ops L).contains i = true := by kernel_rfl) (hb : waitsB md ops n i = true := by kernel_rfl) : wpAnyT P md ops Q S n (f + 1) L a w :=
 tkS hi hQ (Or.inl ⟨hw, hy⟩) hS h hs hf hr hb
end
end Go.Proofs.YtclkdlegogjnbaaGreatDoor
