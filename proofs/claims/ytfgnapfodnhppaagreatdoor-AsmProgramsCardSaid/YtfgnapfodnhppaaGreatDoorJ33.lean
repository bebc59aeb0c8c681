/-
  2 texts in one (AsmRC AsmRD). Conditions: those of each theorem.
-/
import Derived.Test.YtfgnapfodnhppaaGreatDoorJ32
import Derived.Test.YtfgnapfodnhppaaGreatDoorJ21
namespace Go.Proofs.YtfgnapfodnhppaaGreatDoor
open Go Go.RowKit Go.WideShapes Go.ChangeShapes
set_option linter.unusedVariables false
set_option linter.unusedSimpArgs false

section
variable {base : Nat} {w w6 : World} {g : Nat} {va vf vp vc vu vl v6 : Value} {L : List Int} {o : Ob}
theorem Rt.puta {x : ByteArray} (h : Rt base w g va vf vp vc vu vl L o) (ha : App w w6 base 9 1 va v6 (o.atoms.length + 1) ((o.atoms.map Value.string) ++ [.string x]))
    (hk : ∀ (base' n' : Nat) (u : Value) (xs : List Value), w.ownsRow base' 9 1 u n' xs → (u.ownBlock = va.ownBlock → n' ≤ o.atoms.length) → w6.ownsRow base' 9 1 u n' xs) :
    Rt base (w6.setCell ⟨g, 0, none⟩ v6) g v6 vf vp vc vu vl L { o with atoms := o.atoms ++ [x] } ∧ RtF w (w6.setCell ⟨g, 0, none⟩ v6) g va vf vp v6 vf vp o { o with atoms := o.atoms ++ [x] } ∧ w6.cell? ⟨g, 0, none⟩ = some va ∧ w6.frozen? ⟨g, 0, none⟩ = false := by
  have hbx := h.box.fr ha.fr (fun e => own_ne_box h.ra h.box (by decide) _ e rfl)
  have hfar : ∀ {base' n' size' : Nat} {e' : TypeId} {u : Value} {xs : List Value}, w.ownsRow base' e' size' u n' xs → e' ≠ 9 → e' ≠ 66 → (w6.setCell ⟨g, 0, none⟩ v6).ownsRow base' e' size' u n' xs := fun hu he hb => by
    have h1 := own_fr hu ha.fr (fun k hk e => own_ne_own hu h.ra he k hk e)
    exact own_set_far h1 (p := ⟨g, 0, none⟩) (fun k hk => own_ne_box h1 hbx hb k hk) v6
  refine ⟨⟨?_, h.len, (by have h2 := own_set_far ha.own (p := ⟨g, 0, none⟩) (fun k hk => own_ne_box ha.own hbx (by decide) k hk) v6; simpa [funC, predC, insC] using h2), hfar h.rf (by decide) (by decide), hfar h.rp (by decide) (by decide), hfar h.rc (by decide) (by decide), h.ge⟩, ⟨(ha.fr.mono (fun k _ e => .inr (.inl e))).setCell (p := ⟨g, 0, none⟩) (.inl (.inl rfl)) _, ha.at_, .inl rfl, .inl rfl, fun _ _ _ _ hu hc => own_set_far (hk _ _ _ _ hu hc) (p := ⟨g, 0, none⟩) (fun k hk2 => own_ne_box (hk _ _ _ _ hu hc) hbx (by decide) k hk2) v6, fun _ _ _ _ hu _ => hfar hu (by decide) (by decide), fun _ _ _ _ hu _ => hfar hu (by decide) (by decide), by simp⟩, (hbx.cell 0).trans rcs_0, hbx.frozen 0⟩
  have := hbx.set_ 0 v6
  rw [rcs_set0] at this
  exact this
theorem Rt.putf {x : ByteArray} {n : Int} (h : Rt base w g va vf vp vc vu vl L o) (ha : App w w6 base 75 2 vf v6 (o.funs.length + 1) ((o.funs.flatMap funC) ++ [.string x, .int .i64 n]))
    (hk : ∀ (base' n' : Nat) (u : Value) (xs : List Value), w.ownsRow base' 75 2 u n' xs → (u.ownBlock = vf.ownBlock → n' ≤ o.funs.length) → w6.ownsRow base' 75 2 u n' xs) :
    Rt base (w6.setCell ⟨g, 1, none⟩ v6) g va v6 vp vc vu vl L { o with funs := o.funs ++ [(x, n)] } ∧ RtF w (w6.setCell ⟨g, 1, none⟩ v6) g va vf vp va v6 vp o { o with funs := o.funs ++ [(x, n)] } ∧ w6.cell? ⟨g, 1, none⟩ = some vf ∧ w6.frozen? ⟨g, 1, none⟩ = false := by
  have hbx := h.box.fr ha.fr (fun e => own_ne_box h.rf h.box (by decide) _ e rfl)
  have hfar : ∀ {base' n' size' : Nat} {e' : TypeId} {u : Value} {xs : List Value}, w.ownsRow base' e' size' u n' xs → e' ≠ 75 → e' ≠ 66 → (w6.setCell ⟨g, 1, none⟩ v6).ownsRow base' e' size' u n' xs := fun hu he hb => by
    have h1 := own_fr hu ha.fr (fun k hk e => own_ne_own hu h.rf he k hk e)
    exact own_set_far h1 (p := ⟨g, 1, none⟩) (fun k hk => own_ne_box h1 hbx hb k hk) v6
  refine ⟨⟨?_, h.len, hfar h.ra (by decide) (by decide), (by have h2 := own_set_far ha.own (p := ⟨g, 1, none⟩) (fun k hk => own_ne_box ha.own hbx (by decide) k hk) v6; simpa [funC, predC, insC] using h2), hfar h.rp (by decide) (by decide), hfar h.rc (by decide) (by decide), h.ge⟩, ⟨(ha.fr.mono (fun k _ e => .inr (.inr (.inl e)))).setCell (p := ⟨g, 1, none⟩) (.inl (.inl rfl)) _, .inl rfl, ha.at_, .inl rfl, fun _ _ _ _ hu _ => hfar hu (by decide) (by decide), fun _ _ _ _ hu hc => own_set_far (hk _ _ _ _ hu hc) (p := ⟨g, 1, none⟩) (fun k hk2 => own_ne_box (hk _ _ _ _ hu hc) hbx (by decide) k hk2) v6, fun _ _ _ _ hu _ => hfar hu (by decide) (by decide), by simp⟩, (hbx.cell 1).trans rcs_1, hbx.frozen 1⟩
  have := hbx.set_ 1 v6
  rw [rcs_set1] at this
  exact this
theorem Rt.putp {x : ByteArray} {n m : Int} (h : Rt base w g va vf vp vc vu vl L o) (ha : App w w6 base 73 3 vp v6 (o.preds.length + 1) ((o.preds.flatMap predC) ++ [.string x, .int .i64 n, .int .i64 m]))
    (hk : ∀ (base' n' : Nat) (u : Value) (xs : List Value), w.ownsRow base' 73 3 u n' xs → (u.ownBlock = vp.ownBlock → n' ≤ o.preds.length) → w6.ownsRow base' 73 3 u n' xs) :
    Rt base (w6.setCell ⟨g, 2, none⟩ v6) g va vf v6 vc vu vl L { o with preds := o.preds ++ [(x, n, m)] } ∧ RtF w (w6.setCell ⟨g, 2, none⟩ v6) g va vf vp va vf v6 o { o with preds := o.preds ++ [(x, n, m)] } ∧ w6.cell? ⟨g, 2, none⟩ = some vp ∧ w6.frozen? ⟨g, 2, none⟩ = false := by
  have hbx := h.box.fr ha.fr (fun e => own_ne_box h.rp h.box (by decide) _ e rfl)
  have hfar : ∀ {base' n' size' : Nat} {e' : TypeId} {u : Value} {xs : List Value}, w.ownsRow base' e' size' u n' xs → e' ≠ 73 → e' ≠ 66 → (w6.setCell ⟨g, 2, none⟩ v6).ownsRow base' e' size' u n' xs := fun hu he hb => by
    have h1 := own_fr hu ha.fr (fun k hk e => own_ne_own hu h.rp he k hk e)
    exact own_set_far h1 (p := ⟨g, 2, none⟩) (fun k hk => own_ne_box h1 hbx hb k hk) v6
  refine ⟨⟨?_, h.len, hfar h.ra (by decide) (by decide), hfar h.rf (by decide) (by decide), (by have h2 := own_set_far ha.own (p := ⟨g, 2, none⟩) (fun k hk => own_ne_box ha.own hbx (by decide) k hk) v6; simpa [funC, predC, insC] using h2), hfar h.rc (by decide) (by decide), h.ge⟩, ⟨(ha.fr.mono (fun k _ e => .inr (.inr (.inr e)))).setCell (p := ⟨g, 2, none⟩) (.inl (.inl rfl)) _, .inl rfl, .inl rfl, ha.at_, fun _ _ _ _ hu _ => hfar hu (by decide) (by decide), fun _ _ _ _ hu _ => hfar hu (by decide) (by decide), fun _ _ _ _ hu hc => own_set_far (hk _ _ _ _ hu hc) (p := ⟨g, 2, none⟩) (fun k hk2 => own_ne_box (hk _ _ _ _ hu hc) hbx (by decide) k hk2) v6, by simp⟩, (hbx.cell 2).trans rcs_2, hbx.frozen 2⟩
  have := hbx.set_ 2 v6
  rw [rcs_set2] at this
  exact this
end

end Go.Proofs.YtfgnapfodnhppaaGreatDoor

namespace Go.Proofs.YtfgnapfodnhppaaGreatDoor
open Go Go.RowKit Go.WideShapes Go.ChangeShapes
set_option linter.unusedVariables false
set_option linter.unusedSimpArgs false

theorem rfull9_any {base : Nat} {w : World} {g : Nat} {va vf vp vc vu vl : Value} {L : List Int} {o : Ob} (hk : Rt base w g va vf vp vc vu vl L o) :
    Calls Tryz.prog 22 #[.pointer (some ⟨g, 0, none⟩)] w fun e w' => e = .returned (.bool (bigO o)) ∧ w = w' := by
  obtain ⟨A1, c1, hva, _⟩ := own_form hk.ra
  obtain ⟨A2, c2, hvf, _⟩ := own_form hk.rf
  obtain ⟨A3, c3, hvp, _⟩ := own_form hk.rp
  obtain ⟨A4, c4, hvc, _⟩ := own_form hk.rc
  subst hva hvf hvp hvc
  obtain ⟨q0, q1, q2, q3⟩ := hk.cells
  have HB : Hid (bigO o = decide (256 < o.atoms.length ∨ 256 < o.funs.length ∨ 64 < o.preds.length ∨ 1024 < o.code.length)) := Lib.hid rfl
  generalize bigO o = r at HB
  generalize o.atoms.length = n0 at q0 HB
  generalize o.funs.length = n1 at q1 HB
  generalize o.preds.length = n2 at q2 HB
  generalize o.code.length = n3 at q3 HB
  clear hk
  by_cases h0 : (256 : Int) < (n0 : Int)
  · have HX : Hid (r = true) := Lib.hid (by rw [HB.out]; simp; omega)
    go_enter Tryz.func22, Tryz.ntmps22
    go_wp2
    go_ret
    exact ⟨by rw [HX.out]; rfl, rfl⟩
  by_cases h1 : (256 : Int) < (n1 : Int)
  · have HX : Hid (r = true) := Lib.hid (by rw [HB.out]; simp; omega)
    go_enter Tryz.func22, Tryz.ntmps22
    go_wp2
    go_ret
    exact ⟨by rw [HX.out]; rfl, rfl⟩
  by_cases h2 : (64 : Int) < (n2 : Int)
  · have HX : Hid (r = true) := Lib.hid (by rw [HB.out]; simp; omega)
    go_enter Tryz.func22, Tryz.ntmps22
    go_wp2
    go_ret
    exact ⟨by rw [HX.out]; rfl, rfl⟩
  by_cases h3 : (1024 : Int) < (n3 : Int)
  · have HX : Hid (r = true) := Lib.hid (by rw [HB.out]; simp; omega)
    go_enter Tryz.func22, Tryz.ntmps22
    go_wp2
    go_ret
    exact ⟨by rw [HX.out]; rfl, rfl⟩
  have HX : Hid (r = false) := Lib.hid (by rw [HB.out]; simp; omega)
  go_enter Tryz.func22, Tryz.ntmps22
  go_wp2
  go_ret
  exact ⟨by rw [HX.out]; rfl, rfl⟩

/-- What the document's pred comes to. -/
def RPredW (base : Nat) (w : World) (g : Nat) (va vf vp vc vu vl : Value) (L : List Int) (o : Ob) (r : Int × Ob) (e : Ending) (w' : World) : Prop :=
  ∃ vp', e = .returned (.int .i64 r.1) ∧ Rt base w' g va vf vp' vc vu vl L r.2 ∧ RtF w w' g va vf vp va vf vp' o r.2

set_option maxRecDepth 100000 in
set_option maxHeartbeats 8000000 in
theorem rpred9_any {base : Nat} {w : World} {g : Nat} {va vf vp vc vu vl : Value} {L : List Int} {o : Ob} (hk : Rt base w g va vf vp vc vu vl L o) (hb : base ≤ w.heap.size) (hl : o.preds.length ≤ 1000000) (x : ByteArray) (n : Int) :
    Calls Tryz.prog 54 #[.pointer (some ⟨g, 0, none⟩), .string x, .int .i64 n] w (RPredW base w g va vf vp vc vu vl L o (predStep o (x, n))) := by
  obtain ⟨A1, c1, hva, _⟩ := own_form hk.ra
  obtain ⟨A2, c2, hvf, _⟩ := own_form hk.rf
  obtain ⟨A3, c3, hvp, _⟩ := own_form hk.rp
  obtain ⟨A4, c4, hvc, _⟩ := own_form hk.rc
  subst hva hvf hvp hvc
  have HK := Lib.hid hk
  have HI := Lib.hid (fun W h => rfind_any A1 A2 A4 o.atoms.length c1 o.funs.length c2 o.code.length c4 o.preds hl (.slice A3 o.preds.length c3) x n W h)
  obtain ⟨q0, q1, q2, q3⟩ := hk.cells
  have HB := Lib.hid hb
  have hlen := hl
  clear hk hb
  by_cases hx : findFrom x n 0 o.preds < 0
  · have HE : Hid (predStep o (x, n) = ((o.preds.length : Int), { o with preds := o.preds ++ [(x, n, 65535)] })) := Lib.hid (by unfold predStep; rw [if_pos hx])
    generalize predStep o (x, n) = rr at HE
    generalize findFrom x n 0 o.preds = r at HI hx
    go_enter Tryz.func54, Tryz.ntmps54
    go_wp2_with (first
      | (go_at_call 86; refine (HI.out _ HK.out.at_.preds).mono ?_; rintro e w2 ⟨rfl, hb2⟩; have HK2 := Lib.hid (HK.out.goes hb2); have HF2 := Lib.hid (RtF.below (g := g) (va := .slice A1 o.atoms.length c1) (vf := .slice A2 o.funs.length c2) (vp := .slice A3 o.preds.length c3) hb2 o); have k2 := HK2.out.cells.2.2.1; have k2a := fun oo => (HK2.out.goes (alloc_below w2 oo)).cells.2.2.1; obtain ⟨v6, w6, hr6, HA6⟩ := app_one slPredR HK2.out.rp [.string x, .int .i64 n, .int .i64 65535] rfl (by intro u hu; simp only [List.mem_cons, List.not_mem_nil, or_false] at hu; rcases hu with rfl | rfl | rfl <;> rfl) hl (Nat.le_trans HB.out hb2.size) 36; have HKEEP := Lib.hid (fun (base' n' : Nat) (u : Value) (xs : List Value) (hu : w2.ownsRow base' 73 3 u n' xs) hc => app_keep slPredR HK2.out.rp [.string x, .int .i64 n, .int .i64 65535] rfl (by intro u hu; simp only [List.mem_cons, List.not_mem_nil, or_false] at hu; rcases hu with rfl | rfl | rfl <;> rfl) hl 36 hr6 hu hc); obtain ⟨A6, c6, hv6⟩ := HA6.out.form; subst hv6; obtain ⟨hT6, hF6, z0, z1⟩ := HK2.out.putp HA6.out HKEEP.out; have HT6 := Lib.hid hT6; have HF6 := Lib.hid (HF2.out.trans hF6); have HR6 := Lib.hid hr6; have z2 := HT6.out.cells.2.2.1; clear hr6 hT6 hF6 hb2)
      | (at_builtin; refine wpList_of_append HR6.out rfl _ _ rfl rfl rfl ?_))
    go_ret
    exact ⟨_, by rw [HE.out]; simp, by rw [HE.out]; exact HT6.out, by rw [HE.out]; exact HF6.out⟩
  · have HE : Hid (predStep o (x, n) = (findFrom x n 0 o.preds, o)) := Lib.hid (by unfold predStep; rw [if_neg hx])
    generalize predStep o (x, n) = rr at HE
    generalize findFrom x n 0 o.preds = r at HI hx HE
    have e1 : (0 : Int) ≤ r := by omega
    go_enter Tryz.func54, Tryz.ntmps54
    go_wp2_with (go_at_call 86; refine (HI.out _ HK.out.at_.preds).mono ?_; rintro e w2 ⟨rfl, hb2⟩; have HK2 := Lib.hid (HK.out.goes hb2); have HF2 := Lib.hid (RtF.below (g := g) (va := .slice A1 o.atoms.length c1) (vf := .slice A2 o.funs.length c2) (vp := .slice A3 o.preds.length c3) hb2 o); clear hb2)
    go_ret
    exact ⟨_, by rw [HE.out]; rfl, by rw [HE.out]; exact HK2.out, by rw [HE.out]; exact HF2.out⟩

end Go.Proofs.YtfgnapfodnhppaaGreatDoor
