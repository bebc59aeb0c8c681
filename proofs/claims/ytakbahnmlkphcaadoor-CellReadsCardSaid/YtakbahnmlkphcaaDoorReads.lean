/-
  Proved: 'Rows.CellReadsCardSaid': for every number the statement CellReads of the landed package cell returns true. Condition: the row's own (the listed tables read as their initialisers lay them, which the card ties to the program's text).
-/
import Derived.Test.YtakbahnmlkphcaaDoorMakes
import Derived.Test.YtakbahnmlkphcaaDoorRefText
namespace Go.Proofs.YtakbahnmlkphcaaDoor
open Go.ChangeShapes Go.WideShapes Go.ChangeAt Go.RowKit
set_option linter.unusedVariables false

theorem make_back {c : Int} (hw : (Lit.int .u64 c).wf = true) (hc : cellOk c = true) : cellMake (cellKind c) (cellNum c) = c := by
  have := ok_parts hc
  have hb := u64_bd hw
  rw [cellKind, cellNum, if_pos hc, if_pos hc, cellMake, if_pos (by omega)]
  omega

set_option maxHeartbeats 1000000 in
theorem reads_any (c : Int) (hw : (Lit.int .u64 c).wf = true) (w : World) (hp : Pow w) :
    Calls Tryd.prog 4 #[.int .u64 c] w fun e w' => e = .returned (.bool true) ∧ Below w.heap.size w w' := by
  have HP := Lib.hid hp
  have HR := right_any c hw
  have HRR := refRight_any c hw
  have HK := kind_any c hw
  have HRK := refKind_any c hw
  have HN := number_any c hw
  have HRN := refNumber_any c hw
  have HT := text_any c hw
  have HRT := rtext_any c hw
  have HM := make_any (cellKind c) (cellNum c)
  have hmk : cellOk c = true → cellMake (cellKind c) (cellNum c) = c := make_back hw
  obtain ⟨b, hb⟩ : ∃ b, cellOk c = b := ⟨_, rfl⟩
  obtain ⟨k, hk⟩ : ∃ k, cellKind c = k := ⟨_, rfl⟩
  obtain ⟨n, hn⟩ : ∃ n, cellNum c = n := ⟨_, rfl⟩
  obtain ⟨s, hs⟩ : ∃ s, cellWords c = s := ⟨_, rfl⟩
  rw [hb] at HR HRR hmk
  rw [hk] at HK HRK HM hmk
  rw [hn] at HN HRN HM hmk
  rw [hs] at HT HRT
  have HR := Lib.hid HR
  have HRR := Lib.hid HRR
  have HK := Lib.hid HK
  have HRK := Lib.hid HRK
  have HN := Lib.hid HN
  have HRN := Lib.hid HRN
  have HT := Lib.hid HT
  have HRT := Lib.hid HRT
  clear hb hk hn hs hp
  cases b
  · have HM := Lib.hid HM
    clear hmk
    go_enter Tryd.func4, Tryd.ntmps4
    go_wp2_with fail
    refine (told_yes _ HP.out).mono ?_
    rintro e w1 ⟨rfl, hb1⟩
    have HP1 := Lib.hid (HP.out.below hb1)
    have HB1 := Lib.hid hb1
    clear hb1
    go_wp2_with fail
    refine (HR.out _).mono ?_
    rintro e w' ⟨rfl, rfl⟩
    go_wp2_with fail
    refine (HRR.out _).mono ?_
    rintro e w' ⟨rfl, rfl⟩
    go_wp2_with fail
    refine (HK.out _).mono ?_
    rintro e w' ⟨rfl, rfl⟩
    go_wp2_with fail
    refine (HRK.out _).mono ?_
    rintro e w' ⟨rfl, rfl⟩
    go_wp2_with fail
    refine (HN.out _).mono ?_
    rintro e w' ⟨rfl, rfl⟩
    go_wp2_with fail
    refine (HRN.out _).mono ?_
    rintro e w' ⟨rfl, rfl⟩
    go_wp2_with fail
    refine (HT.out _ HP1.out).mono ?_
    rintro e w2 ⟨rfl, hb2⟩
    have HB2 := Lib.hid (HB1.out.trans (hb2.mono HB1.out.size))
    clear hb2
    go_wp2_with fail
    refine (HRT.out _).mono ?_
    rintro e w3 ⟨rfl, hb3⟩
    have HB3 := Lib.hid (HB2.out.trans (hb3.mono HB2.out.size))
    clear hb3
    go_wp2_with fail
    refine (HR.out _).mono ?_
    rintro e w' ⟨rfl, rfl⟩
    go_wp2_with fail
    go_ret
    exact ⟨by simp, HB3.out⟩
  · rw [hmk rfl] at HM
    have HM := Lib.hid HM
    clear hmk
    go_enter Tryd.func4, Tryd.ntmps4
    go_wp2_with fail
    refine (told_yes _ HP.out).mono ?_
    rintro e w1 ⟨rfl, hb1⟩
    have HP1 := Lib.hid (HP.out.below hb1)
    have HB1 := Lib.hid hb1
    clear hb1
    go_wp2_with fail
    refine (HR.out _).mono ?_
    rintro e w' ⟨rfl, rfl⟩
    go_wp2_with fail
    refine (HRR.out _).mono ?_
    rintro e w' ⟨rfl, rfl⟩
    go_wp2_with fail
    refine (HK.out _).mono ?_
    rintro e w' ⟨rfl, rfl⟩
    go_wp2_with fail
    refine (HRK.out _).mono ?_
    rintro e w' ⟨rfl, rfl⟩
    go_wp2_with fail
    refine (HN.out _).mono ?_
    rintro e w' ⟨rfl, rfl⟩
    go_wp2_with fail
    refine (HRN.out _).mono ?_
    rintro e w' ⟨rfl, rfl⟩
    go_wp2_with fail
    refine (HT.out _ HP1.out).mono ?_
    rintro e w2 ⟨rfl, hb2⟩
    have HB2 := Lib.hid (HB1.out.trans (hb2.mono HB1.out.size))
    clear hb2
    go_wp2_with fail
    refine (HRT.out _).mono ?_
    rintro e w3 ⟨rfl, hb3⟩
    have HB3 := Lib.hid (HB2.out.trans (hb3.mono HB2.out.size))
    clear hb3
    go_wp2_with fail
    refine (HR.out _).mono ?_
    rintro e w' ⟨rfl, rfl⟩
    go_wp2_with fail
    refine (HK.out _).mono ?_
    rintro e w' ⟨rfl, rfl⟩
    go_wp2_with fail
    refine (HN.out _).mono ?_
    rintro e w' ⟨rfl, rfl⟩
    go_wp2_with fail
    refine (HM.out _).mono ?_
    rintro e w' ⟨rfl, rfl⟩
    go_wp2_with fail
    go_ret
    exact ⟨by simp, HB3.out⟩

/-! ### The row -/
theorem powR_of {W : World} (h : laidMetH Tryd.prog Rows.cellReadsRow.laid W) : Pow W := pow_of h

theorem cellReadsContract (H : Type) (enc : TypeId × Value → H) (W : World) (base : Nat) (args : Array Value) (ds gs : List (DataW H)) (before : List MemPlace)
    (hval : ∀ (j : Nat) t v, Tryd.f4.params[j]? = some t → args[j]? = some v → Value.okWide Tryd.prog W .any base t v)
    (hW : DataW.Whole enc Tryd.prog Tryd.f4.params.toList Rows.cellReadsSpec.vars false W args.toList ds gs before) (hL : laidMetH Tryd.prog Rows.cellReadsRow.laid W) :
    Calls Tryd.prog 4 args W fun e W' => ∃ v, e = .returned v ∧ Rows.cellReadsSpec.post enc Tryd.prog Tryd.f4 false true false false W args v W' := by
  have hW' := hW
  obtain ⟨p, q, hA0, hV, rfl, hfz, hnd⟩ := hW
  have hA : DataW.TrodAll enc Tryd.prog W 0 (fun _ => true) true Tryd.f4.params.toList args.toList ds p := hA0
  rw [Tryd.params4] at hA hval
  obtain ⟨v0, vs0, d0, ds0, p0, q0, hargs, rfl, rfl, h0, r0⟩ := trodAll_cons hA
  obtain ⟨rfl, rfl, rfl⟩ := trodAll_nil r0
  obtain rfl : args = #[v0] := by cases args; simp_all
  obtain ⟨rfl, rfl⟩ := trodVars_none hV
  obtain ⟨a0, rfl, rfl, rfl, w0⟩ := open_int Tryd.underlying22 (hval 0 22 v0 rfl rfl) h0
  clear hA0
  simp only [List.append_nil] at hW'
  refine (reads_any a0 w0 W (powR_of hL)).mono fun e W' ⟨he, hg⟩ => ?_
  subst he
  exact ⟨_, rfl, post_below (pa := []) (pv := []) hW' (fun _ _ _ => trodAll_cons_mk (shut_bool Tryd.underlying4 _) trodAll_mk0) (fun _ _ => (trodAll_cons_mk (shut_int Tryd.underlying22 w0) trodAll_mk0)) (fun _ _ => rfl) rfl
    hg (ok_one (by kernel_rfl) rfl (okWide_bool_mk Tryd.underlying4 _))⟩

theorem cellReadsMet (os : Os) : laidMet Tryd.prog Rows.cellReadsRow.laid ((laidWorld os).forCall (fun _ _ => 0) ⟨#[], #[.int .u64 0], []⟩).memory :=
  laidMet_of_run' 8 (by kernel_rfl) (by kernel_rfl)
theorem cellReadsReads (os : Os) {H : Type} (enc : TypeId × Value → H) : ∃ places, DataW.whole enc Tryd.prog ((laidWorld os).forCall (fun _ _ => 0) ⟨#[], #[.int .u64 0], []⟩).memory Tryd.f4.params.toList Rows.cellReadsSpec.vars false (#[.int .u64 0] : Array Value).toList 8 = some ([.lit (.int .u64 0)], [], places) :=
  ⟨[], by kernel_rfl⟩

set_option maxRecDepth 100000 in
theorem cellReadsLifted (os : Os) (started : os.Started) (H : Type) (enc : TypeId × Value → H) (F : Stop.Interp) :
    ReturnsInHanded {} Tryd.checked os 4 .any ((OpenSpec.ofChange Rows.cellReadsSpec).preRow enc Tryd.prog Tryd.f4 Rows.cellReadsRow.domain false Rows.cellReadsRow.laid) (((OpenSpec.ofChange Rows.cellReadsSpec).at F).post enc Tryd.prog Tryd.f4 false true false false) := by
  obtain ⟨places, hx⟩ := cellReadsReads os enc
  refine returnsInHanded_of_row (C := Tryd.checked) (s := OpenSpec.ofChange Rows.cellReadsSpec) ownTryd started (by kernel_rfl) Tryd.func4
    (witness_row_at (enc := enc) (C := Tryd.checked) false (laidWorld os) #[.int .u64 0] rfl (by kernel_rfl) (by kernel_rfl) (by kernel_rfl)
      (OpenSpec.preRow_of_cond 8 hx (by kernel_rfl) (fun k hk => by cases hk) (by kernel_rfl) (cellReadsMet os))) ?_
  intro W base args ds gs before hval hW _ _ _ hL _ _
  exact cellReadsContract H enc W base args ds gs before hval hW hL

theorem cellReadsSaid : Rows.CellReadsSaid :=
  OpenClaim.holds_of_cond 4 Tryd.f4 rfl rfl rfl rfl rfl rfl rfl ⟨rfl, rfl, rfl, rfl, rfl⟩ rfl rfl rfl rfl rfl (by kernel_rfl) Tryd.func4 (by kernel_rfl)
    (of_decide_eq_true (by kernel_rfl)) (by unfold Func.isWrapper; first | (rw [if_pos (by decide +kernel)]; kernel_rfl) | (rw [if_neg (by decide +kernel)]; exact ⟨rfl, rfl⟩))
    (fun os started H enc _ F => by rw [OpenClaim.pre_eq_preRow]; exact cellReadsLifted os started H enc F)

/-- No parameter wants a stand-in; the program's own looks are off. -/
theorem cellReadsPlain (f : FuncId) (fn : Func) (hf : Tryd.pinned.checked.prog.funcNamed "resolvent/resolventlaw01.CellReads" = some f) (hfn : Tryd.pinned.checked.prog.funcs[f]? = some fn) :
    false = Tryd.pinned.checked.prog.looks [] ∧ ∀ (j : Nat) t, fn.params[j]? = some t → Tryd.pinned.checked.prog.wantsStandIn t = false := by
  obtain rfl : f = 4 := Option.some.inj ((show Tryd.prog.funcNamed "resolvent/resolventlaw01.CellReads" = some 4 by kernel_rfl).symm.trans hf) |>.symm
  obtain rfl : fn = Tryd.f4 := (Option.some.inj (Tryd.func4.symm.trans hfn)).symm
  refine ⟨by kernel_rfl, fun j t ht => ?_⟩
  rw [Tryd.params4] at ht
  obtain rfl : t = 22 := by simpa using Array.mem_of_getElem? ht
  exact (show Tryd.prog.wantsStandIn 22 = false by kernel_rfl)

/-- The card. -/
theorem cellReads_holds : Rows.CellReadsCardSaid :=
  Claim7.holds_tied_plain_at .later [] _ _ _ _ cellReadsSaid (fun _ h => by cases h) (by kernel_rfl) (fun _ h => by cases h) cellReads_row_tie rfl ⟨rfl, rfl⟩ (by kernel_rfl) rfl cellReadsPlain (by kernel_rfl)

end Go.Proofs.YtakbahnmlkphcaaDoor
