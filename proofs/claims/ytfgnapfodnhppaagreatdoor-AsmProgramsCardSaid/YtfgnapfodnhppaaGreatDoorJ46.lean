/-
  4 texts in one (AsmGF AsmGV AsmGX AsmOB). Conditions: those of each theorem.
-/
import Derived.Test.YtfgnapfodnhppaaGreatDoorJ45
import Derived.Test.YtfgnapfodnhppaaGreatDoorJ43
import Derived.Test.YtfgnapfodnhppaaGreatDoorJ38
import Derived.Test.YtfgnapfodnhppaaGreatDoorJ32
import Derived.Test.YtfgnapfodnhppaaGreatDoorJ16
import Derived.Deep.RegionHeld3
import Derived.Test.YtfgnapfodnhppaaGreatDoorJ29
namespace Go.Proofs.YtfgnapfodnhppaaGreatDoor
open Go Go.RowKit Go.WideShapes Go.ChangeShapes
set_option linter.unusedVariables false
set_option linter.unusedSimpArgs false

theorem rline_any {base : Nat} {w : World} {g : Nat} {va vf vp vc vu vl : Value} {s : Rs} (hk : Rm base w g va vf vp vc vu vl s) (hb : base ≤ w.heap.size) (hl : s.ob.atoms.length ≤ 900000 ∧ s.ob.funs.length ≤ 900000 ∧ s.ob.preds.length ≤ 900000 ∧ s.ob.code.length ≤ 900000 ∧ s.used.length ≤ 900000) (hl2 : s.lines.length ≤ 900000) (n : Int) (x : ByteArray) (hx : x.size ≤ 9000) :
    Calls Tryz.prog 21 #[.pointer (some ⟨g, 0, none⟩), .string x, .int .i64 n] w (RLineW base w g (rLine n x.data.toList s)) := by
  have hlx : x.data.toList.length = x.size := by rw [Array.length_toList]; rfl
  have hsz := splitW_sizes x.data.toList
  unfold rLine
  by_cases h1 : (splitW x.data.toList).length = 2 ∧ (splitW x.data.toList).getD 0 [] = predB
  · rw [if_pos h1]
    obtain ⟨y, hy⟩ : ∃ y, splitW x.data.toList = [predB, y] := by
      generalize splitW x.data.toList = l at h1
      match l, h1 with
      | [a, b], h1 => exact ⟨b, by rw [show a = predB from h1.2]⟩
    have hyl : y.length ≤ 10000 := by
      have := hsz y (by rw [hy]; simp)
      omega
    rw [hy]
    exact rline_pred hk hb ⟨by omega, by omega, by omega⟩ n y x (by omega) hyl hy
  · rw [if_neg h1]
    by_cases h2 : (splitW x.data.toList).length = 1 ∧ 1 < x.data.toList.length ∧ x.data.toList.headD 0 = 64
    · rw [if_pos h2]
      have hnb : noBlank x.data.toList := by
        rcases blank_cases x.data.toList with h | ⟨u, v, hu, he⟩
        · exact h
        · rw [he, splitW_hit v hu, List.length_cons] at h2
          have := List.length_pos_iff.2 (splitW_ne v)
          omega
      obtain ⟨d, hd⟩ : ∃ d, x.data.toList = 64 :: d := by
        generalize x.data.toList = l at h2
        match l, h2 with
        | c :: d, h2 => exact ⟨d, by rw [show c = 64 from h2.2.2]⟩
      rw [hd]
      have hdl : d.length + 1 = x.size := by rw [← hlx, hd]; rfl
      refine rline_label hk hb (by omega) n d (fun c hc => hnb c (by rw [hd]; exact List.mem_cons_of_mem _ hc)) (fun e => ?_) (by omega) x hd
      rw [hd, e] at h2
      simp at h2
    · rw [if_neg h2]
      exact rline_instr hk hb hl n x (by omega) h1 h2
theorem line_keeps : LineKeeps := fun base w g va vf vp vc vu vl s h1 h2 h3 h4 n x h5 => rline_any h1 h2 h3 h4 n x h5

end Go.Proofs.YtfgnapfodnhppaaGreatDoor

namespace Go.Proofs.YtfgnapfodnhppaaGreatDoor
open Go Go.RowKit Go.WideShapes Go.ChangeShapes
set_option linter.unusedVariables false
set_option linter.unusedSimpArgs false

def fewB (l : List ByteArray) : Bool := decide (l.length ≤ 200) && l.all fun s => decide (s.size ≤ 200)
theorem few_take (l : List ByteArray) (k : Nat) (h : k < l.length) : (l.take (k + 1)).all (fun s => decide (s.size ≤ 200)) = ((l.take k).all (fun s => decide (s.size ≤ 200)) && decide (l[k].size ≤ 200)) := by
  rw [List.take_succ_eq_append_getElem h, List.all_append]
  simp
theorem few_not (l : List ByteArray) (k : Nat) (h : k < l.length) (hb : ¬ l[k].size ≤ 200) : fewB l = false := by
  have : l.all (fun s => decide (s.size ≤ 200)) = false := by
    rw [List.all_eq_false]
    exact ⟨l[k], List.getElem_mem h, by simpa using hb⟩
  unfold fewB
  rw [this, Bool.and_false]

set_option maxHeartbeats 4000000 in
theorem few9_any (l : List ByteArray) (hm : l.length ≤ 9223372036854775807) (v : Value) (w : World) (hv : AtomsAt w v l) :
    Calls Tryz.prog 6 #[v] w fun e w' => e = .returned (.bool (fewB l)) ∧ w = w' := by
  obtain ⟨A, c, rfl⟩ := hv.form
  have HV := Lib.hid hv
  clear hv
  obtain ⟨r, hr⟩ : ∃ r, fewB l = r := ⟨_, rfl⟩
  have HN := Lib.hid (fun k h hb => few_not l k h hb)
  have HT := Lib.hid (fun k h => few_take l k h)
  have HR : Hid (fewB l = (decide (l.length ≤ 200) && l.all fun s => decide (s.size ≤ 200))) := Lib.hid rfl
  rw [hr] at HR HN ⊢
  clear hr
  go_enter Tryz.func6, Tryz.ntmps6
  go_wp2
  go_loop [2, 3] (fun _ i => ∃ k : Nat, k ≤ l.length ∧ i = .int .i64 k ∧ Hid ((l.take k).all (fun s => decide (s.size ≤ 200)) = true)) (fun _ i => l.length - (intOf i).toNat)
  case atStart => exact ⟨0, by omega, rfl, by simp [Hid]⟩
  case round =>
    obtain ⟨k, hk, rfl, HA⟩ := hrel
    by_cases hlt : k < l.length
    · obtain ⟨b, off, rfl, hb, hc⟩ := atomCell HV.out k hlt
      have HNK := Lib.hid (fun h => HN.out k hlt h)
      have HTK := Lib.hid (HT.out k hlt)
      generalize l[k] = s at *
      by_cases hs : s.size ≤ 200
      · have HA2 : Hid ((l.take (k + 1)).all (fun s => decide (s.size ≤ 200)) = true) := Lib.hid (by rw [HTK.out, HA.out, Bool.true_and]; exact decide_eq_true hs)
        have e1 : ¬ (200 : Int) < (s.size : Int) := by omega
        go_wp2
        go_round
        case rel => exact ⟨k + 1, by omega, by go_num, HA2⟩
        case measure => simp [intOf]; omega
      · have HX := Lib.hid (HNK.out hs)
        have e1 : (200 : Int) < (s.size : Int) := by omega
        go_wp2
        go_ret
        exact ⟨by rw [HX.out] <;> rfl, rfl⟩
    · obtain rfl : k = l.length := by omega
      have HA2 : Hid (l.all (fun s => decide (s.size ≤ 200)) = true) := Lib.hid (by have := HA.out; rw [List.take_length] at this; exact this)
      by_cases h2 : l.length ≤ 200
      · have HX : Hid (r = true) := Lib.hid (by rw [HR.out, HA2.out, decide_eq_true h2]; rfl)
        have e1 : (l.length : Int) ≤ 200 := by omega
        go_wp2
        go_ret
        exact ⟨by rw [HX.out] <;> rfl, rfl⟩
      · have HX : Hid (r = false) := Lib.hid (by rw [HR.out, decide_eq_false h2]; rfl)
        have e1 : ¬ (l.length : Int) ≤ 200 := by omega
        go_wp2
        go_ret
        exact ⟨by rw [HX.out] <;> rfl, rfl⟩

theorem fewB_of {l : List ByteArray} (h : fewB l = true) : l.length ≤ 200 ∧ ∀ s ∈ l, s.size ≤ 200 := by
  unfold fewB at h
  rw [Bool.and_eq_true, List.all_eq_true] at h
  exact ⟨of_decide_eq_true h.1, fun s hs => of_decide_eq_true (h.2 s hs)⟩
theorem wf_of_ok {o : Ob} (h : checkOf o = 0) : ObWf o := by
  have hk := ok_of h
  have b : ∀ s : ByteArray, nameOk s = true → s.size ≤ maxLen := fun s hs => by
    have := (name_size hs).2
    unfold maxLen
    omega
  exact ⟨fun s hs => b s (hk.atoms s hs), fun f hf => b f.1 (hk.funs f hf).1, fun p hp => b p.1 (hk.preds p hp).1, by have := hk.la; omega, by have := hk.lf; omega, by have := hk.lp; omega, by have := hk.lc; omega⟩
theorem asm_wf (ls : List (List UInt8)) : ObWf (asmOf ls).1 := wf_of_ok (asm_check ls)

end Go.Proofs.YtfgnapfodnhppaaGreatDoor

namespace Go.Proofs.YtfgnapfodnhppaaGreatDoor
open Go Go.RowKit Go.WideShapes Go.ChangeShapes
set_option linter.unusedVariables false
set_option linter.unusedSimpArgs false

theorem step_of_call {P : Program} {ops : Array Oper} {o : Oper} {a : Act} {w : World} {K : Act → World → Prop} {Q : Exit → Act → World → Prop} {E : Prop} {f : FuncId} {ts : Array TypeId} {vs : Array Value}
    (hw : Region.wanted o (yielded ops a.tmps) = true) (hen : ∀ args w, (callFunc f args).run P w = .ok (.enter f args) w) (xs : Array Operand) (ho : o.op = .call { callee := .value (.func f), args := xs, argTypes := ts })
    (hx : xs.map a.eval = vs) (h : Calls P f vs w fun e w' => ∃ v, e = .returned v ∧ K (a.put o.dst v) w') :
    if Region.wanted o (yielded ops a.tmps) = true then Oper.wp P o a w K Q else E := by
  rw [if_pos hw]
  unfold Oper.wp execOp
  simp only [ho, resolve, invoke, Act.eval, Deferred.ofValue, Sem.run_bind, Sem.run_pure, Result.andThen_ok, hen]
  rw [Oper.upon_enter, hx]
  simp only [Array.empty_append, Array.append_empty]
  refine h.mono fun e w' he => ?_
  obtain ⟨v, rfl, hk⟩ := he
  exact hk
theorem exec_load {P : Program} {o : Oper} {a : Act} {w : World} {t : TypeId} {x : Operand} {p v : Value} (ho : o.op = .load t x) (hx : a.eval x = p) (h : (Instr.loadAt t p).run P w = .ok v w) : (execOp a.eval o).run P w = .ok (.value v) w := by
  unfold execOp
  simp only [ho, hx, Sem.run_bind, h, Result.andThen_ok, Sem.run_pure]
theorem load_robj (g : Nat) (W : World) {a b c d : Value} (h : W.cell? ⟨g, 0, none⟩ = some a ∧ W.cell? ⟨g, 1, none⟩ = some b ∧ W.cell? ⟨g, 2, none⟩ = some c ∧ W.cell? ⟨g, 3, none⟩ = some d) : (Instr.loadAt 39 (.pointer (some ⟨g, 0, none⟩))).run Tryz.prog W = .ok (.agg #[a, b, c, d]) W := by
  obtain ⟨h0, h1, h2, h3⟩ := h
  go_simp
theorem load_pobj (g : Nat) (W : World) {a b c d : Value} (h : W.cell? ⟨g, 0, none⟩ = some a ∧ W.cell? ⟨g, 1, none⟩ = some b ∧ W.cell? ⟨g, 2, none⟩ = some c ∧ W.cell? ⟨g, 3, none⟩ = some d) : (Instr.loadAt 31 (.pointer (some ⟨g, 0, none⟩))).run Tryz.prog W = .ok (.agg #[a, b, c, d]) W := by
  obtain ⟨h0, h1, h2, h3⟩ := h
  go_simp
theorem tkH {P : Program} {md : Region.Mode} {ops : Array Oper} {Q : Exit → Act → World → Prop} {S : World → Prop} {i : Nat} {oi : Oper} {v : Value} {f : Nat} {L : Array Bool} {a : Act} {w : World} (hi : ops[i]? = some oi) (hQ : ∀ c a w, Q (.panic c) (a.put oi.dst v) w → Q (.panic c) a w) (hy : YieldsIf P ops S oi v a) (hS : S w)
    (h : wpAnyH P md ops Q S f (L.setIfInBounds i true) (a.put oi.dst v) w) (hs : Region.noSelect ops = true := by kernel_rfl) (hf : Region.free md ops L i = true := by kernel_rfl) (hr : (Region.ready md ops L).contains i = true := by kernel_rfl) : wpAnyH P md ops Q S (f + 1) L a w :=
  wpAnyH_take hi hs hf hr hQ hy hS h

end Go.Proofs.YtfgnapfodnhppaaGreatDoor

namespace Go.Proofs.YtfgnapfodnhppaaGreatDoor
open Go Go.RowKit Go.WideShapes Go.ChangeShapes
set_option linter.unusedVariables false
set_option linter.unusedSimpArgs false

set_option maxRecDepth 100000 in
set_option maxHeartbeats 8000000 in
theorem pred_keeps : PredKeeps := by
  intro w0 g M va vf vp vc vq s n x hx hl B hp w hk
  have HK := Lib.hid hk
  have HP := Lib.hid hp
  have HL := Lib.hid hl
  have HR := Lib.hid (fun w h => readFun_any x (by omega) 0 w (B := B) h)
  unfold OptFun at HR
  obtain ⟨r, hr⟩ : ∃ r, predLine n x.data.toList s = r := ⟨_, rfl⟩
  rw [hr]
  unfold predLine at hr
  clear hk hp
  cases h : funOf x.data.toList 0 with
  | none =>
    rw [h] at HR hr
    have HX : Hid (r = .error 17) := Lib.hid hr.symm
    clear h hr hl
    go_enter Tryz.func46, Tryz.ntmps46
    go_wp2_with (go_at_call 77; refine (HR.out _ (HK.out.laid HP.out)).mono ?_; rintro e w2 ⟨rfl, hb2⟩; have HK2 := Lib.hid (HK.out.up hb2); clear hb2)
    go_ret
    exact lineW_err HX.out (HK2.out.alloc _).below
  | some f =>
    obtain ⟨f, m⟩ := f
    rw [h] at HR hr
    simp only at hr
    obtain ⟨i, hi, h1, h2, h3⟩ := predStep_at s.ob (f, m)
    obtain ⟨s1, hs1⟩ : ∃ s1 : St, s1 = { s with ob := (predStep s.ob (f, m)).2 } := ⟨_, rfl⟩
    have hi1 : i < s1.ob.preds.length := by rw [hs1]; exact hi
    have hc1 : s1.ob.code.length = s.ob.code.length := by rw [hs1]; exact congrArg List.length (predStep_code s.ob (f, m))
    have hp1 : s1.pts.length = s.pts.length := by rw [hs1]
    have HX : Hid (r = if s1.ob.preds[i].2.2 ≠ 65535 then .error 11 else .ok { entAt s1 i (s1.ob.preds[i].1, s1.ob.preds[i].2.1) (s1.ob.code.length : Int) with pts := s1.pts ++ [(n, (s1.ob.code.length : Int), true)] }) := Lib.hid (by
      rw [← hr]
      subst hs1
      simp only [h1, Int.toNat_natCast]
      rw [List.getD_eq_getElem?_getD, List.getElem?_eq_getElem hi, Option.getD_some, h2, h3, predStep_code]
      unfold entAt
      simp only [predStep_code])
    have HS := Lib.hid (fun W h => pred_any w0 g M va vf vp vc vq s f m (by omega) W h)
    rw [h1, ← hs1] at HS
    unfold PlacedP at HS
    obtain ⟨y, hy⟩ : ∃ y, s1.ob.preds[i].2.2 = y := ⟨_, rfl⟩
    have HPC : Hid (∀ (w : World) (gp cp : Nat) (vp' : Value), vp' = .slice (some ⟨gp, 0, none⟩) s1.ob.preds.length cp → Mk w0 w g M va vf vp' vc vq s1 → w.cell? ⟨gp, i * 3 + 2, none⟩ = some (.int .i64 y) ∧ w.frozen? ⟨gp, i * 3 + 2, none⟩ = false) := Lib.hid (fun w gp cp vp' e h => by
      subst e
      rw [← hy]
      exact h.pred_cell i hi1)
    rw [hy] at HX
    have HPS : Hid (∀ (w : World) (gp cp : Nat), Mk w0 w g M va vf (.slice (some ⟨gp, 0, none⟩) s1.ob.preds.length cp) vc vq s1 → Mk w0 (w.setCell ⟨gp, i * 3 + 2, none⟩ (.int .i64 (s1.ob.code.length : Int))) g M va vf (.slice (some ⟨gp, 0, none⟩) s1.ob.preds.length cp) vc vq (entAt s1 i (s1.ob.preds[i].1, s1.ob.preds[i].2.1) (s1.ob.code.length : Int)) ∧ gp < w.heap.size ∧ (w.setCell ⟨gp, i * 3 + 2, none⟩ (.int .i64 (s1.ob.code.length : Int))).cell? ⟨gp, i * 3 + 2, none⟩ = some (.int .i64 (s1.ob.code.length : Int))) := Lib.hid (fun w gp cp h => by
      have h4 := h.pred_set i hi1 (s1.ob.code.length : Int)
      refine ⟨h4, (own_ge h.rp (b := gp) rfl).2, ?_⟩
      have e : (entAt s1 i (s1.ob.preds[i].1, s1.ob.preds[i].2.1) (s1.ob.code.length : Int)).ob.preds.length = s1.ob.preds.length := by simp [entAt]
      have h4' : Mk w0 (w.setCell ⟨gp, i * 3 + 2, none⟩ (.int .i64 (s1.ob.code.length : Int))) g M va vf (.slice (some ⟨gp, 0, none⟩) (entAt s1 i (s1.ob.preds[i].1, s1.ob.preds[i].2.1) (s1.ob.code.length : Int)).ob.preds.length cp) vc vq (entAt s1 i (s1.ob.preds[i].1, s1.ob.preds[i].2.1) (s1.ob.code.length : Int)) := by
        rw [e]
        exact h4
      have h5 := h4'.pred_cell i (by simpa [entAt] using hi1)
      simpa [entAt] using h5.1)
    have hs2c : (entAt s1 i (s1.ob.preds[i].1, s1.ob.preds[i].2.1) (s1.ob.code.length : Int)).pts = s1.pts := rfl
    have hs2d : (entAt s1 i (s1.ob.preds[i].1, s1.ob.preds[i].2.1) (s1.ob.code.length : Int)).ob.code.length = s1.ob.code.length := rfl
    rw [← hs2c] at HX
    rw [← hs2c] at hp1
    generalize entAt s1 i (s1.ob.preds[i].1, s1.ob.preds[i].2.1) (s1.ob.code.length : Int) = s2 at HX HPS hs2c hs2d hp1
    have HI := Lib.hid hi1
    have hl2 := hl.2.2.2.1
    have hl3 := hl.2.2.2.2
    rw [← hc1] at hl2
    rw [← hp1] at hl3
    have hip : (i : Int) < (s1.ob.preds.length : Int) := by omega
    clear h hr hi h1 h2 h3 hs1 hc1 hp1 hl hy hi1 hs2c hs2d
    by_cases he : y = 65535
    case neg =>
      have HX2 : Hid (r = .error 11) := Lib.hid (by rw [HX.out, if_pos he])
      have e1 : (y != 65535) = true := by rw [bne_iff_ne]; exact he
      clear he
      go_enter Tryz.func46, Tryz.ntmps46
      go_wp2_with (first
        | (go_at_call 77; refine (HR.out _ (HK.out.laid HP.out)).mono ?_; rintro e w2 ⟨rfl, hb2⟩; have HK2 := Lib.hid ((HK.out.up hb2).alloc (.cells #[.string f, .int .i64 m] 76)); have X2 := Lib.hid (Box.new w2 76 #[.string f, .int .i64 m]); have d0 := X2.out.cell 0; have d1 := X2.out.cell 1; clear hb2)
        | (go_at_call 78; refine (HS.out _ HK2.out).mono ?_; rintro e w3 ⟨vp', rfl, hk3, hf3⟩; obtain ⟨gp, cp, hvp⟩ := own_some hk3.rp (Nat.lt_of_le_of_lt (Nat.zero_le _) HI.out); obtain ⟨c0, c1⟩ := HPC.out _ _ _ _ hvp hk3; subst hvp; have HK3 := Lib.hid hk3; have q2 := hk3.box.cell 2; clear hk3 hf3))
      go_ret
      exact lineW_err HX2.out HK3.out.below
    case pos =>
      have HX2 : Hid (r = .ok { s2 with pts := s2.pts ++ [(n, (s1.ob.code.length : Int), true)] }) := Lib.hid (by rw [HX.out, if_neg (by simpa using he)])
      have e1 : (y != 65535) = false := by rw [bne_eq_false_iff_eq]; exact he
      clear he
      go_enter Tryz.func46, Tryz.ntmps46
      go_upto_region 8 with (first
        | (go_at_call 77; refine (HR.out _ (HK.out.laid HP.out)).mono ?_; rintro e w2 ⟨rfl, hb2⟩; have HK2 := Lib.hid ((HK.out.up hb2).alloc (.cells #[.string f, .int .i64 m] 76)); have X2 := Lib.hid (Box.new w2 76 #[.string f, .int .i64 m]); have d0 := X2.out.cell 0; have d1 := X2.out.cell 1; clear hb2)
        | (go_at_call 78; refine (HS.out _ HK2.out).mono ?_; rintro e w3 ⟨vp', rfl, hk3, hf3⟩; obtain ⟨gp, cp, hvp⟩ := own_some hk3.rp (Nat.lt_of_le_of_lt (Nat.zero_le _) HI.out); obtain ⟨c0, c1⟩ := HPC.out _ _ _ _ hvp hk3; subst hvp; have HK3 := Lib.hid hk3; have q2 := hk3.box.cell 2; clear hk3 hf3))
      obtain ⟨A4, c4, hvc, _⟩ := own_form HK3.out.rc
      subst hvc
      have q3 := HK3.out.box.cell 3
      obtain ⟨hk4, hgp, hcc⟩ := HPS.out _ _ _ HK3.out
      have HK4 := Lib.hid hk4
      have HP4 := Lib.hid hcc
      clear hk4 hcc
      go_upto_region 9 with (fail)
      obtain ⟨w4, hw4⟩ : ∃ w4, w3.setCell ⟨gp, i * 3 + 2, none⟩ (.int .i64 (s1.ob.code.length : Int)) = w4 := ⟨_, rfl⟩
      rw [hw4] at HK4 HP4 ⊢
      clear HK3 q2 q3 c0 c1 hw4 HK2 X2 d0 d1
      obtain ⟨A5, c5, hvq, _⟩ := own_form HK4.out.rq
      subst hvq
      have q5 := HK4.out.box.cell 5
      have q5a := fun oo => (HK4.out.box.alloc oo).cell 5
      have p5 := HP4.out
      have p5a := fun oo => ((alloc_below w4 oo).cell (p := ⟨gp, i * 3 + 2, none⟩) (World.block_lt_of_cell? w4 _ HP4.out)).trans HP4.out
      obtain ⟨v6, w6, hr6, HA6⟩ := app_one slPt (HK4.out.drewN 1).rq [.int .i64 n, .int .i64 (s1.ob.code.length : Int), .bool true] rfl (by intro u hu; simp only [List.mem_cons, List.not_mem_nil, or_false] at hu; rcases hu with rfl | rfl | rfl <;> rfl) (Nat.le_trans hl3 (by decide)) (HK4.out.drewN 1).below.size 54
      obtain ⟨A6, c6, hv6⟩ := HA6.out.form
      subst hv6
      obtain ⟨hT6, z0, z1⟩ := (HK4.out.drewN 1).putq HA6.out
      have HT6 := Lib.hid hT6
      have HR6 := Lib.hid hr6
      clear hr6 hT6 HA6
      go_region_law (refine step_of_append HR6.out rfl _ _ rfl rfl rfl ?_)
      all_goals
        go_wp2
        go_ret
        exact lineW_ok HX2.out HT6.out

end Go.Proofs.YtfgnapfodnhppaaGreatDoor
