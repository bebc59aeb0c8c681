/-
  Proved: 'Rows.CellMakesCardSaid': for every kind and number the statement CellMakes of the landed package cell returns true. Condition: the row's own (the listed tables read as their initialisers lay them, which the card ties to the program's text).
-/
import Derived.Test.YtakbahnmlkphcaaDoorCards
import Derived.Test.YtakbahnmlkphcaaDoorTie
import Derived.Test.YtakbahnmlkphcaaDoorText
import Derived.OpenShut
import Derived.Deep.DeepHandedRow
import Derived.Lib.LaidTab
import Derived.LaidSub
import Derived.MakeChecks
import Derived.LaidMore
namespace Go.Proofs.YtakbahnmlkphcaaDoor
open Go.ChangeShapes Go.WideShapes Go.ChangeAt Go.RowKit
set_option linter.unusedVariables false

theorem ownTryd : ownKnob Tryd.prog.godebug = none := by kernel_rfl

theorem words42 : cellWords 42 = ⟨#[99, 111, 110, 32, 53]⟩ := by
  have e1 : cellOk 42 = true := by decide
  have e2 : cellKind 42 = 2 := by decide
  have e3 : cellNum 42 = 5 := by decide
  have e4 : Lib.itoa 5 = [53] := by
    rw [Lib.itoa, if_neg (by omega)]
    show Lib.decDigits 5 = [53]
    rw [Lib.decDigits, dif_pos (by omega)]
    rfl
  rw [cellWords, if_pos e1, e2, e3, cellText, e4]
  rfl

/-- Is a cell made? -/
theorem told_yes (w : World) (hp : Pow w) : Calls Tryd.prog 6 #[] w fun e w' => e = .returned (.bool true) ∧ Below w.heap.size w w' := by
  have HP := Lib.hid hp
  clear hp
  have HM : ∀ W, Calls Tryd.prog 5 #[.int .i64 2, .int .i64 5] W fun e w' => e = .returned (.int .u64 42) ∧ W = w' := fun W => make_any 2 5 W
  have HT : ∀ W, Pow W → Calls Tryd.prog 14 #[.int .u64 42] W fun e w' => e = .returned (.string ⟨#[99, 111, 110, 32, 53]⟩) ∧ Below W.heap.size W w' := fun W h => by
    have := text_any 42 (by decide) W h
    rw [words42] at this
    exact this
  have HK : ∀ W, Calls Tryd.prog 9 #[.int .u64 42] W fun e w' => e = .returned (.int .i64 2) ∧ W = w' := fun W => kind_any 42 (by decide) W
  have HN : ∀ W, Calls Tryd.prog 10 #[.int .u64 42] W fun e w' => e = .returned (.int .i64 5) ∧ W = w' := fun W => number_any 42 (by decide) W
  have HR : ∀ W, Calls Tryd.prog 8 #[.int .u64 42] W fun e w' => e = .returned (.bool true) ∧ W = w' := fun W => right_any 42 (by decide) W
  have HR5 : ∀ W, Calls Tryd.prog 8 #[.int .u64 5] W fun e w' => e = .returned (.bool false) ∧ W = w' := fun W => right_any 5 (by decide) W
  have HM := Lib.hid HM
  have HT := Lib.hid HT
  have HK := Lib.hid HK
  have HN := Lib.hid HN
  have HR := Lib.hid HR
  have HR5 := Lib.hid HR5
  go_enter Tryd.func6, Tryd.ntmps6
  go_wp2_with fail
  refine (HM.out _).mono ?_
  rintro e w' ⟨rfl, rfl⟩
  go_wp2_with fail
  refine (HT.out _ HP.out).mono ?_
  rintro e w1 ⟨rfl, hb⟩
  go_wp2_with fail
  refine (HK.out _).mono ?_
  rintro e w' ⟨rfl, rfl⟩
  go_wp2_with fail
  refine (HN.out _).mono ?_
  rintro e w' ⟨rfl, rfl⟩
  go_wp2_with fail
  refine (HR.out _).mono ?_
  rintro e w' ⟨rfl, rfl⟩
  go_wp2_with fail
  refine (HR5.out _).mono ?_
  rintro e w' ⟨rfl, rfl⟩
  go_wp2_with fail
  go_ret
  exact ⟨rfl, hb⟩

theorem make_parts (k n : Int) : (cellOk (cellMake k n) = true ∧ cellKind (cellMake k n) = k ∧ cellNum (cellMake k n) = n) ∨ cellOk (cellMake k n) = false := by
  by_cases h : (0 ≤ k ∧ k < 5) ∧ 0 ≤ n ∧ n < 1099511627776
  · have e : cellMake k n = n * 8 + k := by rw [cellMake, if_pos h]
    have ho : cellOk (n * 8 + k) = true := by
      simp only [cellOk, Bool.and_eq_true, decide_eq_true_eq]
      omega
    rw [e]
    refine .inl ⟨ho, ?_, ?_⟩
    · rw [cellKind, if_pos ho]
      omega
    · rw [cellNum, if_pos ho]
      omega
  · have e : cellMake k n = 18446744073709551615 := by rw [cellMake, if_neg h]
    rw [e]
    exact .inr (by decide)

theorem makes_any (k n : Int) (w : World) (hp : Pow w) :
    Calls Tryd.prog 3 #[.int .i64 k, .int .i64 n] w fun e w' => e = .returned (.bool true) ∧ Below w.heap.size w w' := by
  have HP := Lib.hid hp
  have hwf := make_wf k n
  have hparts := make_parts k n
  have HM := make_any k n
  have HRM := refMake_any k n
  obtain ⟨c, hc⟩ : ∃ c, cellMake k n = c := ⟨_, rfl⟩
  rw [hc] at hwf hparts HM HRM
  have HM := Lib.hid HM
  have HRM := Lib.hid HRM
  have HW := Lib.hid hwf
  clear hp hwf hc
  rcases hparts with ⟨h1, h2, h3⟩ | h1
  · have H1 := Lib.hid h1
    have H2 := Lib.hid h2
    have H3 := Lib.hid h3
    clear h1 h2 h3
    go_enter Tryd.func3, Tryd.ntmps3
    go_wp2_with fail
    refine (HM.out _).mono ?_
    rintro e w' ⟨rfl, rfl⟩
    go_wp2_with fail
    refine (told_yes _ HP.out).mono ?_
    rintro e w1 ⟨rfl, hb⟩
    go_wp2_with fail
    refine (HRM.out _).mono ?_
    rintro e w' ⟨rfl, rfl⟩
    go_wp2_with fail
    refine (right_is c HW.out H1.out _).mono ?_
    rintro e w' ⟨rfl, rfl⟩
    go_wp2_with fail
    refine (kind_is c HW.out H2.out _).mono ?_
    rintro e w' ⟨rfl, rfl⟩
    go_wp2_with fail
    refine (number_is c HW.out H3.out _).mono ?_
    rintro e w' ⟨rfl, rfl⟩
    go_wp2_with fail
    go_ret
    exact ⟨by simp, hb⟩
  · have H1 := Lib.hid h1
    clear h1
    go_enter Tryd.func3, Tryd.ntmps3
    go_wp2_with fail
    refine (HM.out _).mono ?_
    rintro e w' ⟨rfl, rfl⟩
    go_wp2_with fail
    refine (told_yes _ HP.out).mono ?_
    rintro e w1 ⟨rfl, hb⟩
    go_wp2_with fail
    refine (HRM.out _).mono ?_
    rintro e w' ⟨rfl, rfl⟩
    go_wp2_with fail
    refine (right_is c HW.out H1.out _).mono ?_
    rintro e w' ⟨rfl, rfl⟩
    go_wp2_with fail
    go_ret
    exact ⟨by simp, hb⟩

/-! ### The row -/
theorem gPowType : (Tryd.prog.globals[0]?).map (·.type) = some 45 := by kernel_rfl
theorem cellsPow : Tryd.prog.cellsOf 45 = 20 := by kernel_rfl
theorem cellsWord : Tryd.prog.cellsOf 22 = 1 := by kernel_rfl

/-- What the row's list gives: the decimal powers. -/
theorem pow_of {W : World} (h : laidMetH Tryd.prog Rows.cellMakesRow.laid W) : Pow W := by
  have h1 := laidMetH.filter (fun x => x.1 == "internal/strconv.uint64pow10") h
  have e : Rows.cellMakesRow.laid.filter (fun x => x.1 == "internal/strconv.uint64pow10") = [("internal/strconv.uint64pow10", Lib.tabData .u64 Lib.pow10Tab)] := by kernel_rfl
  rw [e, MakeChecks.laidMetH_plain _ _ _ (by kernel_rfl)] at h1
  exact Lib.tabIs_of_head (rest := []) gPow gPowType Tryd.underlying45 Tryd.underlying22 cellsWord cellsPow h1

/-- A world for the witness: the heap that the door's own run leaves. -/
noncomputable def laidWorld (os : Os) : World := World.doorLaid Tryd.prog 24 os

theorem cellMakesContract (H : Type) (enc : TypeId × Value → H) (W : World) (base : Nat) (args : Array Value) (ds gs : List (DataW H)) (before : List MemPlace)
    (hval : ∀ (j : Nat) t v, Tryd.f3.params[j]? = some t → args[j]? = some v → Value.okWide Tryd.prog W .any base t v)
    (hW : DataW.Whole enc Tryd.prog Tryd.f3.params.toList Rows.cellMakesSpec.vars false W args.toList ds gs before) (hL : laidMetH Tryd.prog Rows.cellMakesRow.laid W) :
    Calls Tryd.prog 3 args W fun e W' => ∃ v, e = .returned v ∧ Rows.cellMakesSpec.post enc Tryd.prog Tryd.f3 false true false false W args v W' := by
  have hW' := hW
  obtain ⟨p, q, hA0, hV, rfl, hfz, hnd⟩ := hW
  have hA : DataW.TrodAll enc Tryd.prog W 0 (fun _ => true) true Tryd.f3.params.toList args.toList ds p := hA0
  rw [Tryd.params3] at hA hval
  obtain ⟨v0, vs0, d0, ds0, p0, q0, hargs, rfl, rfl, h0, r0⟩ := trodAll_cons hA
  obtain ⟨v1, vs1, d1, ds1, p1, q1, rfl, rfl, rfl, h1, r1⟩ := trodAll_cons r0
  obtain ⟨rfl, rfl, rfl⟩ := trodAll_nil r1
  obtain rfl : args = #[v0, v1] := by cases args; simp_all
  obtain ⟨rfl, rfl⟩ := trodVars_none hV
  obtain ⟨a0, rfl, rfl, rfl, w0⟩ := open_int Tryd.underlying3 (hval 0 3 v0 rfl rfl) h0
  obtain ⟨a1, rfl, rfl, rfl, w1⟩ := open_int Tryd.underlying3 (hval 1 3 v1 rfl rfl) h1
  clear hA0
  simp only [List.append_nil] at hW'
  refine (makes_any a0 a1 W (pow_of hL)).mono fun e W' ⟨he, hg⟩ => ?_
  subst he
  exact ⟨_, rfl, post_below (pa := []) (pv := []) hW' (fun _ _ _ => trodAll_cons_mk (shut_bool Tryd.underlying4 _) trodAll_mk0) (fun _ _ => (trodAll_cons_mk (shut_int Tryd.underlying3 w0) (trodAll_cons_mk (shut_int Tryd.underlying3 w1) trodAll_mk0))) (fun _ _ => rfl) rfl
    hg (ok_one (by kernel_rfl) rfl (okWide_bool_mk Tryd.underlying4 _))⟩

theorem cellMakesMet (os : Os) : laidMet Tryd.prog Rows.cellMakesRow.laid ((laidWorld os).forCall (fun _ _ => 0) ⟨#[], #[.int .i64 0, .int .i64 0], []⟩).memory :=
  laidMet_of_run' 8 (by kernel_rfl) (by kernel_rfl)
theorem cellMakesReads (os : Os) {H : Type} (enc : TypeId × Value → H) : ∃ places, DataW.whole enc Tryd.prog ((laidWorld os).forCall (fun _ _ => 0) ⟨#[], #[.int .i64 0, .int .i64 0], []⟩).memory Tryd.f3.params.toList Rows.cellMakesSpec.vars false (#[.int .i64 0, .int .i64 0] : Array Value).toList 8 = some ([.lit (.int .i64 0), .lit (.int .i64 0)], [], places) :=
  ⟨[], by kernel_rfl⟩

set_option maxRecDepth 100000 in
theorem cellMakesLifted (os : Os) (started : os.Started) (H : Type) (enc : TypeId × Value → H) (F : Stop.Interp) :
    ReturnsInHanded {} Tryd.checked os 3 .any ((OpenSpec.ofChange Rows.cellMakesSpec).preRow enc Tryd.prog Tryd.f3 Rows.cellMakesRow.domain false Rows.cellMakesRow.laid) (((OpenSpec.ofChange Rows.cellMakesSpec).at F).post enc Tryd.prog Tryd.f3 false true false false) := by
  obtain ⟨places, hx⟩ := cellMakesReads os enc
  refine returnsInHanded_of_row (C := Tryd.checked) (s := OpenSpec.ofChange Rows.cellMakesSpec) ownTryd started (by kernel_rfl) Tryd.func3
    (witness_row_at (enc := enc) (C := Tryd.checked) false (laidWorld os) #[.int .i64 0, .int .i64 0] rfl (by kernel_rfl) (by kernel_rfl) (by kernel_rfl)
      (OpenSpec.preRow_of_cond 8 hx (by kernel_rfl) (fun k hk => by cases hk) (by kernel_rfl) (cellMakesMet os))) ?_
  intro W base args ds gs before hval hW _ _ _ hL _ _
  exact cellMakesContract H enc W base args ds gs before hval hW hL

theorem cellMakesSaid : Rows.CellMakesSaid :=
  OpenClaim.holds_of_cond 3 Tryd.f3 rfl rfl rfl rfl rfl rfl rfl ⟨rfl, rfl, rfl, rfl, rfl⟩ rfl rfl rfl rfl rfl (by kernel_rfl) Tryd.func3 (by kernel_rfl)
    (of_decide_eq_true (by kernel_rfl)) (by unfold Func.isWrapper; first | (rw [if_pos (by decide +kernel)]; kernel_rfl) | (rw [if_neg (by decide +kernel)]; exact ⟨rfl, rfl⟩))
    (fun os started H enc _ F => by rw [OpenClaim.pre_eq_preRow]; exact cellMakesLifted os started H enc F)

/-- No parameter wants a stand-in; the program's own looks are off. -/
theorem cellMakesPlain (f : FuncId) (fn : Func) (hf : Tryd.pinned.checked.prog.funcNamed "resolvent/resolventlaw01.CellMakes" = some f) (hfn : Tryd.pinned.checked.prog.funcs[f]? = some fn) :
    false = Tryd.pinned.checked.prog.looks [] ∧ ∀ (j : Nat) t, fn.params[j]? = some t → Tryd.pinned.checked.prog.wantsStandIn t = false := by
  obtain rfl : f = 3 := Option.some.inj ((show Tryd.prog.funcNamed "resolvent/resolventlaw01.CellMakes" = some 3 by kernel_rfl).symm.trans hf) |>.symm
  obtain rfl : fn = Tryd.f3 := (Option.some.inj (Tryd.func3.symm.trans hfn)).symm
  refine ⟨by kernel_rfl, fun j t ht => ?_⟩
  rw [Tryd.params3] at ht
  obtain rfl : t = 3 := by simpa using Array.mem_of_getElem? ht
  exact (show Tryd.prog.wantsStandIn 3 = false by kernel_rfl)

/-- The card. -/
theorem cellMakes_holds : Rows.CellMakesCardSaid :=
  Claim7.holds_tied_plain_at .later [] _ _ _ _ cellMakesSaid (fun _ h => by cases h) (by kernel_rfl) (fun _ h => by cases h) cellMakes_row_tie rfl ⟨rfl, rfl⟩ (by kernel_rfl) rfl cellMakesPlain (by kernel_rfl)

end Go.Proofs.YtakbahnmlkphcaaDoor
