/-
  Proved: 'Rows.TermTextsCardSaid': for every two trees the statement TermTexts of the landed package term returns true, and the trees read as before. Conditions: the card's own (the decimal powers' table, two tables of math/bits and two errors of strconv start as the program's text lays them; the card ties that to the text).
-/
import Derived.Test.YtkfmagbaklikmaaDoorRow
import Derived.Test.YtkfmagbaklikmaaDoorTexts
namespace Go.Proofs.YtkfmagbaklikmaaDoor
open Go.ChangeShapes Go.WideShapes Go.ChangeAt Go.RowKit
set_option linter.unusedVariables false
set_option linter.unusedSimpArgs false

theorem readTerm : Tryd.prog.readableRec 24 = true := by kernel_rfl
theorem rowTerm : 24 < Tryd.prog.types.size := of_decide_eq_true (by kernel_rfl)

set_option maxRecDepth 100000 in
theorem termTextsContract (H : Type) (enc : TypeId × Value → H) (W : World) (base : Nat) (args : Array Value) (ds gs : List (DataW H)) (before : List MemPlace)
    (hval : ∀ (j : Nat) t v, Tryd.f3.params[j]? = some t → args[j]? = some v → Value.okWide Tryd.prog W .any base t v)
    (hW : DataW.Whole enc Tryd.prog Tryd.f3.params.toList Rows.termTextsSpec.vars false W args.toList ds gs before) (hL : laidMetH Tryd.prog Rows.termTextsRow.laid W) :
    Calls Tryd.prog 3 args W fun e W' => ∃ v, e = .returned v ∧ Rows.termTextsSpec.post enc Tryd.prog Tryd.f3 false true false false W args v W' := by
  have hW' := hW
  have hold : ∀ x ∈ before, x.block < W.heap.size := fun x hx => hW.lt x hx
  obtain ⟨p, q, hA0, hV, rfl, hfz, hnd⟩ := hW
  have hA : DataW.TrodAll enc Tryd.prog W 0 (fun _ => true) true Tryd.f3.params.toList args.toList ds p := hA0
  rw [Tryd.params3] at hA hval
  obtain ⟨v0, vs0, d0, ds0, p0, q0, hargs, rfl, rfl, h0, r0⟩ := trodAll_cons hA
  obtain ⟨v1, vs1, d1, ds1, p1, q1, rfl, rfl, rfl, h1, r1⟩ := trodAll_cons r0
  obtain ⟨rfl, rfl, rfl⟩ := trodAll_nil r1
  obtain rfl : args = #[v0, v1] := by cases args; simp_all
  obtain ⟨rfl, rfl⟩ := trodVars_none hV
  obtain ⟨fs, hfs, _⟩ := termUnder
  obtain ⟨cs, rfl, _⟩ := okWide_struct hfs (hval 0 24 v0 rfl rfl)
  obtain ⟨cs1, rfl, _⟩ := okWide_struct hfs (hval 1 24 v1 rfl rfl)
  clear hA0
  obtain ⟨fuel, hf⟩ := id h0
  obtain ⟨t, c0, c1, c2, c3, hcs, hr⟩ := tree_in fuel _ _ hf
  have e : cs = #[c0, c1, c2, c3] := by
    simp only [Value.cells] at hcs
    cases cs
    simp_all
  subst e
  obtain ⟨fuel1, hf1⟩ := id h1
  obtain ⟨t1, e0, e1, e2, e3, hcs1, hr1⟩ := tree_in fuel1 _ _ hf1
  have e' : cs1 = #[e0, e1, e2, e3] := by
    simp only [Value.cells] at hcs1
    cases cs1
    simp_all
  subst e'
  have hin : ∀ x ∈ p0, x ∈ (p0 ++ (p1 ++ [])) ++ [] := fun x hx => by simp [hx]
  have hin1 : ∀ x ∈ p1, x ∈ (p0 ++ (p1 ++ [])) ++ [] := fun x hx => by simp [hx]
  refine (texts_any (hr.fuel (Nat.le_max_left _ _)) (hr1.fuel (Nat.le_max_right _ _)) (laid_of hL)).mono fun e W' ⟨he, hg⟩ => ?_
  subst he
  exact ⟨_, rfl, post_below (pa := p0 ++ (p1 ++ [])) (pv := []) hW' (fun _ _ _ => (trodAll_cons_mk (shut_bool Tryd.underlying4 _) trodAll_mk0))
    (fun sp hsp => (trodAll_cons_mk (WideElems.Trod_stays laidOutTryd readTerm rowTerm h0 (fun x hx => hg.same (hold x (hin x hx))) (fun x hx => hsp x (hin x hx))) (trodAll_cons_mk (WideElems.Trod_stays laidOutTryd readTerm rowTerm h1 (fun x hx => hg.same (hold x (hin1 x hx))) (fun x hx => hsp x (hin1 x hx))) trodAll_mk0))) (fun _ _ => rfl) rfl
    hg (ok_one (by kernel_rfl) rfl (okWide_bool_mk Tryd.underlying4 _))⟩

theorem termTextsMet (os : Os) : laidMet Tryd.prog Rows.termTextsRow.laid ((laidWorld os).forCall (fun _ _ => 0) ⟨#[], #[.agg #[.int .i64 0, .int .i64 0, .string ⟨#[]⟩, .slice none 0 0], .agg #[.int .i64 0, .int .i64 0, .string ⟨#[]⟩, .slice none 0 0]], []⟩).memory :=
  laidMet_of_run' 8 (by kernel_rfl) (by kernel_rfl)
theorem termTextsReads (os : Os) {H : Type} (enc : TypeId × Value → H) : ∃ places, DataW.whole enc Tryd.prog ((laidWorld os).forCall (fun _ _ => 0) ⟨#[], #[.agg #[.int .i64 0, .int .i64 0, .string ⟨#[]⟩, .slice none 0 0], .agg #[.int .i64 0, .int .i64 0, .string ⟨#[]⟩, .slice none 0 0]], []⟩).memory Tryd.f3.params.toList Rows.termTextsSpec.vars false (#[.agg #[.int .i64 0, .int .i64 0, .string ⟨#[]⟩, .slice none 0 0], .agg #[.int .i64 0, .int .i64 0, .string ⟨#[]⟩, .slice none 0 0]] : Array Value).toList 8 = some ([.agg [.lit (.int .i64 0), .lit (.int .i64 0), .lit (.string []), .nil], .agg [.lit (.int .i64 0), .lit (.int .i64 0), .lit (.string []), .nil]], [], places) :=
  ⟨[], by kernel_rfl⟩

set_option maxRecDepth 100000 in
theorem termTextsLifted (os : Os) (started : os.Started) (H : Type) (enc : TypeId × Value → H) (F : Stop.Interp) :
    ReturnsInHanded {} Tryd.checked os 3 .any ((OpenSpec.ofChange Rows.termTextsSpec).preRow enc Tryd.prog Tryd.f3 Rows.termTextsRow.domain false Rows.termTextsRow.laid) (((OpenSpec.ofChange Rows.termTextsSpec).at F).post enc Tryd.prog Tryd.f3 false true false false) := by
  obtain ⟨places, hx⟩ := termTextsReads os enc
  refine returnsInHanded_of_row (C := Tryd.checked) (s := OpenSpec.ofChange Rows.termTextsSpec) ownTryd started (by kernel_rfl) Tryd.func3
    (witness_row_at (enc := enc) (C := Tryd.checked) false (laidWorld os) #[.agg #[.int .i64 0, .int .i64 0, .string ⟨#[]⟩, .slice none 0 0], .agg #[.int .i64 0, .int .i64 0, .string ⟨#[]⟩, .slice none 0 0]] rfl (by kernel_rfl) (by kernel_rfl) (by kernel_rfl)
      (OpenSpec.preRow_of_cond 8 hx (by kernel_rfl) (fun k hk => by cases hk) (by kernel_rfl) (termTextsMet os))) ?_
  intro W base args ds gs before hval hW _ _ _ hL _ _
  exact termTextsContract H enc W base args ds gs before hval hW hL

theorem termTextsSaid : Rows.TermTextsSaid :=
  OpenClaim.holds_of_cond 3 Tryd.f3 rfl rfl rfl rfl rfl rfl rfl ⟨rfl, rfl, rfl, rfl, rfl⟩ rfl rfl rfl rfl rfl (by kernel_rfl) Tryd.func3 (by kernel_rfl)
    (of_decide_eq_true (by kernel_rfl)) (by unfold Func.isWrapper; first | (rw [if_pos (by decide +kernel)]; kernel_rfl) | (rw [if_neg (by decide +kernel)]; exact ⟨rfl, rfl⟩))
    (fun os started H enc _ F => by rw [OpenClaim.pre_eq_preRow]; exact termTextsLifted os started H enc F)

/-- No parameter wants a stand-in; the program's own looks are off. -/
theorem termTextsPlain (f : FuncId) (fn : Func) (hf : Tryd.pinned.checked.prog.funcNamed "resolvent/resolventlaw03.TermTexts" = some f) (hfn : Tryd.pinned.checked.prog.funcs[f]? = some fn) :
    true = Tryd.pinned.checked.prog.looks [] ∧ ∀ (j : Nat) t, fn.params[j]? = some t → Tryd.pinned.checked.prog.wantsStandIn t = false := by
  obtain rfl : f = 3 := Option.some.inj ((show Tryd.prog.funcNamed "resolvent/resolventlaw03.TermTexts" = some 3 by kernel_rfl).symm.trans hf) |>.symm
  obtain rfl : fn = Tryd.f3 := (Option.some.inj (Tryd.func3.symm.trans hfn)).symm
  refine ⟨by kernel_rfl, fun j t ht => ?_⟩
  rw [Tryd.params3] at ht
  obtain rfl : t = 24 := by simpa using Array.mem_of_getElem? ht
  exact (show Tryd.prog.wantsStandIn 24 = false by kernel_rfl)

/-- The card. -/
theorem termTexts_holds : Rows.TermTextsCardSaid :=
  Claim7.holds_tied_plain_at .later [] _ _ _ _ termTextsSaid (fun _ h => by cases h) (by kernel_rfl) (fun _ h => by cases h) termTexts_row_tie rfl ⟨rfl, rfl⟩ (by kernel_rfl) rfl termTextsPlain (by kernel_rfl)
end Go.Proofs.YtkfmagbaklikmaaDoor
