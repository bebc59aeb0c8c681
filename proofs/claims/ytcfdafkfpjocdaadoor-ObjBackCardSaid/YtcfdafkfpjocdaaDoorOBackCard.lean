/-
  Proved: 'Rows.ObjBackCardSaid': for all two objects the statement ObjBack of the landed package obj returns true, and they read as before. Conditions: the card's own (one listed variable, the table of the instructions' names, starts as the program's text lays it; the card ties it to the text).
-/
import Derived.Test.YtcfdafkfpjocdaaDoorOBase
import Derived.Test.YtcfdafkfpjocdaaDoorObjBW
import Derived.ChangeMaps5
namespace Go.Proofs.YtcfdafkfpjocdaaDoor
open Go.ChangeShapes Go.WideShapes Go.ChangeAt Go.RowKit Go.Deep
set_option linter.unusedVariables false
set_option linter.unusedSimpArgs false

set_option maxRecDepth 100000 in
theorem objBackContract (H : Type) (enc : TypeId × Value → H) (W : World) (base : Nat) (args : Array Value) (ds gs : List (DataW H)) (before : List MemPlace)
    (hval : ∀ (j : Nat) t v, Tryd.f5.params[j]? = some t → args[j]? = some v → Value.okWide Tryd.prog W .any base t v)
    (hW : DataW.Whole enc Tryd.prog Tryd.f5.params.toList Rows.objBackSpec.vars false W args.toList ds gs before) (hL : laidMetH Tryd.prog Rows.objBackRow.laid W) (hsh : W.ShapedOpen Tryd.prog) :
    Calls Tryd.prog 5 args W fun e W' => ∃ v, e = .returned v ∧ Rows.objBackSpec.post enc Tryd.prog Tryd.f5 false true false false W args v W' := by
  have hW' := hW
  have hold : ∀ x ∈ before, x.block < W.heap.size := fun x hx => hW.lt x hx
  obtain ⟨p, q, hA0, hV, rfl, hfz, hnd⟩ := hW
  have hA : DataW.TrodAll enc Tryd.prog W 0 (fun _ => true) true Tryd.f5.params.toList args.toList ds p := hA0
  rw [Tryd.params5] at hA hval
  obtain ⟨v0, vs0, d0, ds0, p0, q0, hargs, rfl, rfl, h0, r0⟩ := trodAll_cons hA
  obtain ⟨v1, vs1, d1, ds1, p1, q1, rfl, rfl, rfl, h1, r1⟩ := trodAll_cons r0
  obtain ⟨rfl, rfl, rfl⟩ := trodAll_nil r1
  obtain rfl : args = #[v0, v1] := by cases args; simp_all
  obtain ⟨rfl, rfl⟩ := trodVars_none hV
  obtain ⟨fs, hfs, _⟩ := obUnder
  obtain ⟨cs0, rfl, _⟩ := okWide_struct hfs (hval 0 27 v0 rfl rfl)
  obtain ⟨cs1, rfl, _⟩ := okWide_struct hfs (hval 1 27 v1 rfl rfl)
  clear hA0
  obtain ⟨fuel0, hf0⟩ := id h0
  simp only [Value.cells] at hf0
  obtain ⟨o0, va0, vf0, vp0, vc0, hcs0, hat0, hsa0, hsf0, hsp0, hn0⟩ := ob_in hf0
  have e0 : cs0 = #[va0, vf0, vp0, vc0] := by
    cases cs0
    simp_all
  subst e0
  have hin0 : ∀ x ∈ p0, x ∈ (p0 ++ (p1 ++ [])) ++ [] := fun x hx => by simp [hx]
  obtain ⟨fuel1, hf1⟩ := id h1
  simp only [Value.cells] at hf1
  obtain ⟨o1, va1, vf1, vp1, vc1, hcs1, hat1, hsa1, hsf1, hsp1, hn1⟩ := ob_in hf1
  have e1 : cs1 = #[va1, vf1, vp1, vc1] := by
    cases cs1
    simp_all
  subst e1
  have hin1 : ∀ x ∈ p1, x ∈ (p0 ++ (p1 ++ [])) ++ [] := fun x hx => by simp [hx]
  have hL8 : laidMetH Tryd.prog Rows.objChecksRow.laid W := hL
  refine (objBack_any o0 o1 va0 vf0 vp0 vc0 va1 vf1 vp1 vc1 W (names_of8 hL8) hat0 hat1 hn0.2 hn1.2).mono fun e W' ⟨he, hg⟩ => ?_
  subst he
  exact ⟨_, rfl, post_below (pa := p0 ++ (p1 ++ [])) (pv := []) hW' (fun _ _ _ => (trodAll_cons_mk (shut_bool Tryd.underlying4 _) trodAll_mk0))
    (fun sp hsp => (trodAll_cons_mk (WideElems.Trod_stays laidOutTryd readOb8 rowOb8 h0 (fun x hx => hg.same (hold x (hin0 x hx))) (fun x hx => hsp x (hin0 x hx))) (trodAll_cons_mk (WideElems.Trod_stays laidOutTryd readOb8 rowOb8 h1 (fun x hx => hg.same (hold x (hin1 x hx))) (fun x hx => hsp x (hin1 x hx))) trodAll_mk0))) (fun _ _ => rfl) rfl
    hg (ok_one (by kernel_rfl) rfl (okWide_bool_mk Tryd.underlying4 _))⟩

theorem objBackMet (os : Os) : laidMet Tryd.prog Rows.objBackRow.laid ((laidWorld8 os).forCall (fun _ _ => 0) ⟨#[], #[.agg #[.slice none 0 0, .slice none 0 0, .slice none 0 0, .slice none 0 0], .agg #[.slice none 0 0, .slice none 0 0, .slice none 0 0, .slice none 0 0]], []⟩).memory :=
  laidMet_of_run' 8 (by kernel_rfl) (by kernel_rfl)
theorem objBackReads (os : Os) {H : Type} (enc : TypeId × Value → H) : ∃ places, DataW.whole enc Tryd.prog ((laidWorld8 os).forCall (fun _ _ => 0) ⟨#[], #[.agg #[.slice none 0 0, .slice none 0 0, .slice none 0 0, .slice none 0 0], .agg #[.slice none 0 0, .slice none 0 0, .slice none 0 0, .slice none 0 0]], []⟩).memory Tryd.f5.params.toList Rows.objBackSpec.vars false (#[.agg #[.slice none 0 0, .slice none 0 0, .slice none 0 0, .slice none 0 0], .agg #[.slice none 0 0, .slice none 0 0, .slice none 0 0, .slice none 0 0]] : Array Value).toList 8 = some ([.agg [.nil, .nil, .nil, .nil], .agg [.nil, .nil, .nil, .nil]], [], places) :=
  ⟨[], by kernel_rfl⟩

set_option maxRecDepth 100000 in
theorem objBackLifted (os : Os) (started : os.Started) (H : Type) (enc : TypeId × Value → H) (F : Stop.Interp) :
    ReturnsInHanded {} Tryd.checked os 5 .any ((OpenSpec.ofChange Rows.objBackSpec).preRow enc Tryd.prog Tryd.f5 Rows.objBackRow.domain false Rows.objBackRow.laid) (((OpenSpec.ofChange Rows.objBackSpec).at F).post enc Tryd.prog Tryd.f5 false true false false) := by
  obtain ⟨places, hx⟩ := objBackReads os enc
  refine returnsInHanded_of_row (C := Tryd.checked) (s := OpenSpec.ofChange Rows.objBackSpec) ownTryd started (by kernel_rfl) Tryd.func5
    (witness_row_at (enc := enc) (C := Tryd.checked) false (laidWorld8 os) #[.agg #[.slice none 0 0, .slice none 0 0, .slice none 0 0, .slice none 0 0], .agg #[.slice none 0 0, .slice none 0 0, .slice none 0 0, .slice none 0 0]] rfl (by kernel_rfl) (by kernel_rfl) (by kernel_rfl)
      (OpenSpec.preRow_of_cond 8 hx (by kernel_rfl) (fun k hk => by cases hk) (by kernel_rfl) (objBackMet os))) ?_
  intro W base args ds gs before hval hW _ _ _ hL hsh _
  exact objBackContract H enc W base args ds gs before hval hW hL hsh

theorem objBackSaid : Rows.ObjBackSaid :=
  OpenClaim.holds_of_cond 5 Tryd.f5 rfl rfl rfl rfl rfl rfl rfl ⟨rfl, rfl, rfl, rfl, rfl⟩ rfl rfl rfl rfl rfl (by kernel_rfl) Tryd.func5 (by kernel_rfl)
    (of_decide_eq_true (by kernel_rfl)) (by unfold Func.isWrapper; first | (rw [if_pos (by decide +kernel)]; kernel_rfl) | (rw [if_neg (by decide +kernel)]; exact ⟨rfl, rfl⟩))
    (fun os started H enc _ F => by rw [OpenClaim.pre_eq_preRow]; exact objBackLifted os started H enc F)

/-- No parameter wants a stand-in. -/
theorem objBackPlain (f : FuncId) (fn : Func) (hf : Tryd.pinned.checked.prog.funcNamed "resolvent/resolventlaw08.ObjBack" = some f) (hfn : Tryd.pinned.checked.prog.funcs[f]? = some fn) :
    false = Tryd.pinned.checked.prog.looks [] ∧ ∀ (j : Nat) t, fn.params[j]? = some t → Tryd.pinned.checked.prog.wantsStandIn t = false := by
  obtain rfl : f = 5 := Option.some.inj ((show Tryd.prog.funcNamed "resolvent/resolventlaw08.ObjBack" = some 5 by kernel_rfl).symm.trans hf) |>.symm
  obtain rfl : fn = Tryd.f5 := (Option.some.inj (Tryd.func5.symm.trans hfn)).symm
  refine ⟨by kernel_rfl, fun j t ht => ?_⟩
  rw [Tryd.params5] at ht
  have hm : t = 27 := by have := Array.mem_of_getElem? ht; first | simpa using this | (simp at this; rcases this with h | h <;> simp [h])
  rcases hm with rfl
  · exact (show Tryd.prog.wantsStandIn 27 = false by kernel_rfl)

/-- The card. -/
theorem objBack_holds : Rows.ObjBackCardSaid :=
  Claim7.holds_tied_plain_at .later [] _ _ _ _ objBackSaid (fun _ h => by cases h) (by kernel_rfl) (fun _ h => by cases h) objBack_row_tie rfl ⟨rfl, rfl⟩ (by kernel_rfl) rfl objBackPlain (by kernel_rfl)

end Go.Proofs.YtcfdafkfpjocdaaDoor
