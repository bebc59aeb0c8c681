/-
  Proved: 'Rows.VerifyCutsUptoCardSaid': for all lines the statement VerifyCuts of the landed package asm returns true, and they read as before. Conditions: the card's own (the listed variables start as the program's text lays them; the card ties them to the text; one table of package unicode/utf8 is held against the form's constant).
-/
import Derived.Test.YtlmbiafloiompaaGreatDoorJV13
import Derived.Test.YtlmbiafloiompaaGreatDoorJV15
import Derived.Test.YtlmbiafloiompaaGreatDoorJV50
import Derived.Test.YtlmbiafloiompaaGreatDoorJV53
import Derived.ChangeMaps5
namespace Go.Proofs.YtlmbiafloiompaaGreatDoor
open Go.ChangeShapes Go.WideShapes Go.ChangeAt Go.RowKit Go.Deep
set_option linter.unusedVariables false
set_option linter.unusedSimpArgs false

theorem readOb9 : Tryz.prog.readableRec 27 = true := by kernel_rfl
theorem rowOb9 : 27 < Tryz.prog.types.size := of_decide_eq_true (by kernel_rfl)
theorem readStrs9 : Tryz.prog.readableRec 22 = true := by kernel_rfl
theorem rowStrs9 : 22 < Tryz.prog.types.size := of_decide_eq_true (by kernel_rfl)

set_option maxRecDepth 100000 in
theorem verifyCutsContract (H : Type) (enc : TypeId × Value → H) (W : World) (base : Nat) (args : Array Value) (ds gs : List (DataW H)) (before : List MemPlace)
    (hval : ∀ (j : Nat) t v, Tryz.f5.params[j]? = some t → args[j]? = some v → Value.okWide Tryz.prog W .any base t v)
    (hW : DataW.Whole enc Tryz.prog Tryz.f5.params.toList Rows.verifyCutsSpec.vars false W args.toList ds gs before) (hk : Rows.uptoSmall H (ds ++ gs) = true) (hL : laidMetH Tryz.prog Rows.verifyCutsRow.laid W) (hsh : W.ShapedOpen Tryz.prog) :
    Calls Tryz.prog 5 args W fun e W' => ∃ v, e = .returned v ∧ Rows.verifyCutsSpec.post enc Tryz.prog Tryz.f5 false true false false W args v W' := by
  have hW' := hW
  have hold : ∀ x ∈ before, x.block < W.heap.size := fun x hx => hW.lt x hx
  obtain ⟨p, q, hA0, hV, rfl, hfz, hnd⟩ := hW
  have hA : DataW.TrodAll enc Tryz.prog W 0 (fun _ => true) true Tryz.f5.params.toList args.toList ds p := hA0
  rw [Tryz.params5] at hA hval
  obtain ⟨v0, vs0, d0, ds0, p0, q0, hargs, rfl, rfl, h0, r0⟩ := trodAll_cons hA
  obtain ⟨rfl, rfl, rfl⟩ := trodAll_nil r0
  obtain rfl : args = #[v0] := by cases args; simp_all
  obtain ⟨rfl, rfl⟩ := trodVars_none hV
  obtain ⟨oa0, len0, cap0, rfl⟩ := okWide_slice Tryz.underlying22 (hval 0 22 v0 rfl rfl)
  clear hA0
  have hin0 : ∀ x ∈ p0, x ∈ (p0 ++ []) ++ [] := fun x hx => by simp [hx]
  obtain ⟨fuel0, hf0⟩ := id h0
  simp only [Value.cells] at hf0
  obtain ⟨l0, hl0, hcap0, hcap1, hat0, hst0⟩ := strs_up hf0
  subst hl0
  have hbk : Rows.uptoBulk d0 ≤ 1048576 := by
    have h : Rows.uptoBulkAll [d0] ≤ 1048576 := of_decide_eq_true hk
    simp only [Rows.uptoBulkAll] at h
    omega
  have hL9 : laidMetH Tryz.prog Rows.verifyCutsRow.laid W := hL
  have hP := laid_of hL9 hsh
  refine (verifyCuts_any (fun w hp => told11_any w hp) l0 (fun s hs => Nat.le_trans (hst0 s hs) hbk) oa0 cap0 hcap0 hcap1 W hP hat0).mono fun e W' ⟨he, hg⟩ => ?_
  subst he
  exact ⟨_, rfl, post_below (pa := p0 ++ []) (pv := []) hW' (fun _ _ _ => (trodAll_cons_mk (shut_bool Tryz.underlying4 _) trodAll_mk0))
    (fun sp hsp => (trodAll_cons_mk (WideElems.Trod_stays laidOutTryz readStrs9 rowStrs9 h0 (fun x hx => hg.same (hold x (hin0 x hx))) (fun x hx => hsp x (hin0 x hx))) trodAll_mk0)) (fun _ _ => rfl) rfl
    hg (ok_one (by kernel_rfl) rfl (okWide_bool_mk Tryz.underlying4 _))⟩

theorem verifyCutsMet (os : Os) : laidMet Tryz.prog Rows.verifyCutsRow.laid ((laidWorld os).forCall (fun _ _ => 0) ⟨#[], #[.slice none 0 0], []⟩).memory :=
  laidMet_of_run' 8 (by kernel_rfl) (by kernel_rfl)
theorem verifyCutsReads (os : Os) {H : Type} (enc : TypeId × Value → H) : ∃ places, DataW.whole enc Tryz.prog ((laidWorld os).forCall (fun _ _ => 0) ⟨#[], #[.slice none 0 0], []⟩).memory Tryz.f5.params.toList Rows.verifyCutsSpec.vars false (#[.slice none 0 0] : Array Value).toList 8 = some ([.nil], [], places) :=
  ⟨[], by kernel_rfl⟩

set_option maxRecDepth 100000 in
theorem verifyCutsLifted (os : Os) (started : os.Started) (H : Type) (enc : TypeId × Value → H) (F : Stop.Interp) :
    ReturnsInHanded {} Tryz.checked os 5 .any ((Rows.OpenSpec.upto Rows.verifyCutsSpec).preRow enc Tryz.prog Tryz.f5 Rows.verifyCutsUptoRow.domain false Rows.verifyCutsUptoRow.laid) (((Rows.OpenSpec.upto Rows.verifyCutsSpec).at F).post enc Tryz.prog Tryz.f5 false true false false) := by
  obtain ⟨places, hx⟩ := verifyCutsReads os enc
  refine returnsInHanded_of_row (C := Tryz.checked) (s := Rows.OpenSpec.upto Rows.verifyCutsSpec) ownTryz started (by kernel_rfl) Tryz.func5
    (witness_row_at (enc := enc) (C := Tryz.checked) false (laidWorld os) #[.slice none 0 0] rfl (by kernel_rfl) (by kernel_rfl) (by kernel_rfl)
      (OpenSpec.preRow_of_cond 8 hx (by kernel_rfl) (fun k hk => by cases hk; kernel_rfl) (by kernel_rfl) (verifyCutsMet os))) ?_
  intro W base args ds gs before hval hW _ hk _ hL hsh _
  exact verifyCutsContract H enc W base args ds gs before hval hW (hk _ rfl) hL hsh

theorem verifyCutsSaid : Rows.VerifyCutsUptoSaid :=
  OpenClaim.holds_of_cond 5 Tryz.f5 rfl rfl rfl rfl rfl rfl rfl ⟨rfl, rfl, rfl, rfl, rfl⟩ rfl rfl rfl rfl rfl (by kernel_rfl) Tryz.func5 (by kernel_rfl)
    (of_decide_eq_true (by kernel_rfl)) (by unfold Func.isWrapper; first | (rw [if_pos (by decide +kernel)]; kernel_rfl) | (rw [if_neg (by decide +kernel)]; exact ⟨rfl, rfl⟩))
    (fun os started H enc _ F => by rw [OpenClaim.pre_eq_preRow]; exact verifyCutsLifted os started H enc F)

/-- No parameter wants a stand-in. -/
theorem verifyCutsPlain (f : FuncId) (fn : Func) (hf : Tryz.pinned.checked.prog.funcNamed "resolvent/resolventlaw11.VerifyCuts" = some f) (hfn : Tryz.pinned.checked.prog.funcs[f]? = some fn) :
    true = Tryz.pinned.checked.prog.looks [] ∧ ∀ (j : Nat) t, fn.params[j]? = some t → Tryz.pinned.checked.prog.wantsStandIn t = false := by
  obtain rfl : f = 5 := Option.some.inj ((show Tryz.prog.funcNamed "resolvent/resolventlaw11.VerifyCuts" = some 5 by kernel_rfl).symm.trans hf) |>.symm
  obtain rfl : fn = Tryz.f5 := (Option.some.inj (Tryz.func5.symm.trans hfn)).symm
  refine ⟨by kernel_rfl, fun j t ht => ?_⟩
  rw [Tryz.params5] at ht
  have hm : t = 22 := by have := Array.mem_of_getElem? ht; first | simpa using this | (simp at this; rcases this with h <;> simp [h])
  rcases hm with rfl
  · exact (show Tryz.prog.wantsStandIn 22 = false by kernel_rfl)

/-- The card. -/
theorem verifyCuts_holds : Rows.VerifyCutsUptoCardSaid :=
  Claim7.holds_tied_plain_at .later [] _ _ _ _ verifyCutsSaid (fun _ h => by cases h) (by kernel_rfl) (fun _ h => by cases h) verifyCutsUpto_row_tie rfl ⟨rfl, rfl⟩ (by kernel_rfl) rfl verifyCutsPlain (by kernel_rfl)

end Go.Proofs.YtlmbiafloiompaaGreatDoor
