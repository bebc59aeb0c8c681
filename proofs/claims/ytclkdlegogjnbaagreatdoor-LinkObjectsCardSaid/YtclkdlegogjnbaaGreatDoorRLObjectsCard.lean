/-
 Proved: 'Rows.LinkObjectsCardSaid': for all objects the statement LinkObjects of the landed package link returns true, and they read as before. Conditions: the card's own (the listed variables start as the program's text lays them; the card ties them to the text; one table of package unicode/utf8 is held against the form's constant).
-/
import Derived.Test.YtclkdlegogjnbaaGreatDoorR44
import Derived.Test.YtclkdlegogjnbaaGreatDoorR50
import Derived.Test.YtclkdlegogjnbaaGreatDoorR51
import Derived.ChangeMaps5
namespace Go.Proofs.YtclkdlegogjnbaaGreatDoor
open Go.ChangeShapes Go.WideShapes Go.ChangeAt Go.RowKit Go.Deep
set_option linter.unusedVariables false
set_option linter.unusedSimpArgs false
theorem readOb9 : Tryz.prog.readableRec 29 = true := by kernel_rfl
theorem rowOb9 : 29 < Tryz.prog.types.size := of_decide_eq_true (by kernel_rfl)
theorem readStrs9 : Tryz.prog.readableRec 24 = true := by kernel_rfl
theorem rowStrs9 : 24 < Tryz.prog.types.size := of_decide_eq_true (by kernel_rfl)
theorem readObs9 : Tryz.prog.readableRec 22 = true := by kernel_rfl
theorem rowObs9 : 22 < Tryz.prog.types.size := of_decide_eq_true (by kernel_rfl)
theorem readBool9 : Tryz.prog.readableRec 4 = true := by kernel_rfl
theorem rowBool9 : 4 < Tryz.prog.types.size := of_decide_eq_true (by kernel_rfl)
theorem readInt9 : Tryz.prog.readableRec 3 = true := by kernel_rfl
theorem rowInt9 : 3 < Tryz.prog.types.size := of_decide_eq_true (by kernel_rfl)
set_option maxRecDepth 100000 in
theorem linkObjectsContract (H : Type) (enc : TypeId × Value → H) (W : World) (base : Nat) (args : Array Value) (ds gs : List (DataW H)) (before : List MemPlace)
  (hval : ∀ (j : Nat) t v, Tryz.f3.params[j]? = some t → args[j]? = some v → Value.okWide Tryz.prog W .any base t v)
  (hW : DataW.Whole enc Tryz.prog Tryz.f3.params.toList Rows.linkObjectsSpec.vars false W args.toList ds gs before) (hL : laidMetH Tryz.prog Rows.linkObjectsRow.laid W) (hsh : W.ShapedOpen Tryz.prog) :
  Calls Tryz.prog 3 args W fun e W' => ∃ v, e = .returned v ∧ Rows.linkObjectsSpec.post enc Tryz.prog Tryz.f3 false true false false W args v W' := by
 have hW' := hW
 have hold : ∀ x ∈ before, x.block < W.heap.size := fun x hx => hW.lt x hx
 obtain ⟨p, q, hA0, hV, rfl, hfz, hnd⟩ := hW
 have hA : DataW.TrodAll enc Tryz.prog W 0 (fun _ => true) true Tryz.f3.params.toList args.toList ds p := hA0
 rw [Tryz.params3] at hA hval
 obtain ⟨v0, vs0, d0, ds0, p0, q0, hargs, rfl, rfl, h0, r0⟩ := trodAll_cons hA
 obtain ⟨v1, vs1, d1, ds1, p1, q1, rfl, rfl, rfl, h1, r1⟩ := trodAll_cons r0
 obtain ⟨v2, vs2, d2, ds2, p2, q2, rfl, rfl, rfl, h2, r2⟩ := trodAll_cons r1
 obtain ⟨rfl, rfl, rfl⟩ := trodAll_nil r2
 obtain rfl : args = #[v0, v1, v2] := by cases args; simp_all
 obtain ⟨rfl, rfl⟩ := trodVars_none hV
 obtain ⟨oa0, len0, cap0, rfl⟩ := okWide_slice Tryz.underlying22 (hval 0 22 v0 rfl rfl)
 obtain ⟨x1, rfl⟩ := okWide_int Tryz.underlying3 (hval 1 3 v1 rfl rfl)
 obtain ⟨x2, rfl⟩ := okWide_bool Tryz.underlying4 (hval 2 4 v2 rfl rfl)
 clear hA0
 have hin0 : ∀ x ∈ p0, x ∈ (p0 ++ (p1 ++ (p2 ++ []))) ++ [] := fun x hx => by simp [hx]
 obtain ⟨fuel0, hf0⟩ := id h0
 simp only [Value.cells] at hf0
 obtain ⟨qs0, l0, hat0, hnil0, htx0, hcap0⟩ := obs_in2 hf0
 have hin1 : ∀ x ∈ p1, x ∈ (p0 ++ (p1 ++ (p2 ++ []))) ++ [] := fun x hx => by simp [hx]
 have hin2 : ∀ x ∈ p2, x ∈ (p0 ++ (p1 ++ (p2 ++ []))) ++ [] := fun x hx => by simp [hx]
 have hL9 : laidMetH Tryz.prog Rows.linkRenamesRow.laid W := hL
 have hP := laid_of hL9 hsh
 refine (linkObjects_any l0 x1 x2 htx0 qs0 _ hcap0 W hP hat0 hnil0).mono fun e W' ⟨he, hg⟩ => ?_
 subst he
 exact ⟨_, rfl, post_below (pa := p0 ++ (p1 ++ (p2 ++ []))) (pv := []) hW' (fun _ _ _ => (trodAll_cons_mk (shut_bool Tryz.underlying4 _) trodAll_mk0))
  (fun sp hsp => (trodAll_cons_mk (WideElems.Trod_stays laidOutTryz readObs9 rowObs9 h0 (fun x hx => hg.same (hold x (hin0 x hx))) (fun x hx => hsp x (hin0 x hx))) (trodAll_cons_mk (WideElems.Trod_stays laidOutTryz readInt9 rowInt9 h1 (fun x hx => hg.same (hold x (hin1 x hx))) (fun x hx => hsp x (hin1 x hx))) (trodAll_cons_mk (WideElems.Trod_stays laidOutTryz readBool9 rowBool9 h2 (fun x hx => hg.same (hold x (hin2 x hx))) (fun x hx => hsp x (hin2 x hx))) trodAll_mk0)))) (fun _ _ => rfl) rfl
  hg (ok_one (by kernel_rfl) rfl (okWide_bool_mk Tryz.underlying4 _))⟩
theorem linkObjectsMet (os : Os) : laidMet Tryz.prog Rows.linkObjectsRow.laid ((laidWorld os).forCall (fun _ _ => 0) ⟨#[], #[.slice none 0 0, .int .i64 0, .bool false], []⟩).memory :=
 laidMet_of_run' 8 (by kernel_rfl) (by kernel_rfl)
theorem linkObjectsReads (os : Os) {H : Type} (enc : TypeId × Value → H) : ∃ places, DataW.whole enc Tryz.prog ((laidWorld os).forCall (fun _ _ => 0) ⟨#[], #[.slice none 0 0, .int .i64 0, .bool false], []⟩).memory Tryz.f3.params.toList Rows.linkObjectsSpec.vars false (#[.slice none 0 0, .int .i64 0, .bool false] : Array Value).toList 8 = some ([.nil, .lit (.int .i64 0), .lit (.bool false)], [], places) :=
 ⟨[], by kernel_rfl⟩
set_option maxRecDepth 100000 in
theorem linkObjectsLifted (os : Os) (started : os.Started) (H : Type) (enc : TypeId × Value → H) (F : Stop.Interp) :
  ReturnsInHanded {} Tryz.checked os 3 .any ((OpenSpec.ofChange Rows.linkObjectsSpec).preRow enc Tryz.prog Tryz.f3 Rows.linkObjectsRow.domain false Rows.linkObjectsRow.laid) (((OpenSpec.ofChange Rows.linkObjectsSpec).at F).post enc Tryz.prog Tryz.f3 false true false false) := by
 obtain ⟨places, hx⟩ := linkObjectsReads os enc
 refine returnsInHanded_of_row (C := Tryz.checked) (s := OpenSpec.ofChange Rows.linkObjectsSpec) ownTryz started (by kernel_rfl) Tryz.func3
  (witness_row_at (enc := enc) (C := Tryz.checked) false (laidWorld os) #[.slice none 0 0, .int .i64 0, .bool false] rfl (by kernel_rfl) (by kernel_rfl) (by kernel_rfl)
   (OpenSpec.preRow_of_cond 8 hx (by kernel_rfl) (fun k hk => by cases hk) (by kernel_rfl) (linkObjectsMet os))) ?_
 intro W base args ds gs before hval hW _ _ _ hL hsh _
 exact linkObjectsContract H enc W base args ds gs before hval hW hL hsh
theorem linkObjectsSaid : Rows.LinkObjectsSaid :=
 OpenClaim.holds_of_cond 3 Tryz.f3 rfl rfl rfl rfl rfl rfl rfl ⟨rfl, rfl, rfl, rfl, rfl⟩ rfl rfl rfl rfl rfl (by kernel_rfl) Tryz.func3 (by kernel_rfl)
  (of_decide_eq_true (by kernel_rfl)) (by unfold Func.isWrapper; first | (rw [if_pos (by decide +kernel)]; kernel_rfl) | (rw [if_neg (by decide +kernel)]; exact ⟨rfl, rfl⟩))
  (fun os started H enc _ F => by rw [OpenClaim.pre_eq_preRow]; exact linkObjectsLifted os started H enc F)
theorem linkObjectsPlain (f : FuncId) (fn : Func) (hf : Tryz.pinned.checked.prog.funcNamed "resolvent/resolventlaw10.LinkObjects" = some f) (hfn : Tryz.pinned.checked.prog.funcs[f]? = some fn) :
  true = Tryz.pinned.checked.prog.looks [] ∧ ∀ (j : Nat) t, fn.params[j]? = some t → Tryz.pinned.checked.prog.wantsStandIn t = false := by
 obtain rfl : f = 3 := Option.some.inj ((show Tryz.prog.funcNamed "resolvent/resolventlaw10.LinkObjects" = some 3 by kernel_rfl).symm.trans hf) |>.symm
 obtain rfl : fn = Tryz.f3 := (Option.some.inj (Tryz.func3.symm.trans hfn)).symm
 refine ⟨by kernel_rfl, fun j t ht => ?_⟩
 rw [Tryz.params3] at ht
 have hm : t = 22 ∨ t = 3 ∨ t = 4 := by have := Array.mem_of_getElem? ht; first | simpa using this | (simp at this; rcases this with h | h | h <;> simp [h])
 rcases hm with rfl | rfl | rfl
 ·exact (show Tryz.prog.wantsStandIn 22 = false by kernel_rfl)
 ·exact (show Tryz.prog.wantsStandIn 3 = false by kernel_rfl)
 ·exact (show Tryz.prog.wantsStandIn 4 = false by kernel_rfl)
theorem linkObjects_holds : Rows.LinkObjectsCardSaid :=
 Claim7.holds_tied_plain_at .later [] _ _ _ _ linkObjectsSaid (fun _ h => by cases h) (by kernel_rfl) (fun _ h => by cases h) linkObjects_row_tie rfl ⟨rfl, rfl⟩ (by kernel_rfl) rfl linkObjectsPlain (by kernel_rfl)
end Go.Proofs.YtclkdlegogjnbaaGreatDoor
