/-
  2 texts in one (VerNA VerNB). Conditions: those of each theorem.
-/
import Derived.Test.YtlmbiafloiompaaGreatDoorJV27
import Derived.StillTailTactics
namespace Go.Proofs.YtlmbiafloiompaaGreatDoor
open Go Go.RowKit
set_option linter.unusedVariables false
set_option linter.unusedSimpArgs false
set_option maxRecDepth 100000

def ndA (b : VNd) : Array Value := #[.int .i64 b.cells, .int .i64 b.words, .int .i64 b.choices]
def ndC (b : VNd) : List Value := [.int .i64 b.cells, .int .i64 b.words, .int .i64 b.choices]
theorem nd_size : (Tryz.prog.info? 105).map (·.size) = some 3 := by kernel_rfl
theorem nd_row : (Tryz.prog.underlying 105).map TypeDesc.isRow = some true := by kernel_rfl
theorem nd_und : ∃ d, Tryz.prog.underlying 105 = some d ∧ d.isRow = true := by
  have hr := nd_row
  cases hu : Tryz.prog.underlying 105 with
  | none => rw [hu] at hr; exact absurd hr (by decide)
  | some d =>
    rw [hu] at hr
    exact ⟨d, rfl, Option.some.inj hr⟩
theorem results_need {fn : Func} {p : Tmp} (h : fn.results = #[.cell p 105]) (tmps : Array Value) (w : World) (g : Nat) (A : Array Value)
    (hp : tmps.getD p undef = .pointer (some ⟨g, 0, none⟩)) (hb : Box w g 105 A) (hs : A.size = 3) : (results fn tmps).run Tryz.prog w = .ok (.agg A) w := by
  obtain ⟨d, hd, hd'⟩ := nd_und
  exact results_cell_row h tmps w g 105 A (0, 0) d hp hb hd (by cases d <;> first | rfl | exact absurd hd' Bool.false_ne_true) (by rw [hs]; exact nd_size)
theorem wpList_store_need {ops : Array Oper} {rest : List Oper} {o : Oper} {a : Act} {w : World} {Q : Exit → Act → World → Prop} (hgd : o.guard = none) (x y : Operand) (ho : o.op = .store 105 x y)
    (g : Nat) (A B : Array Value) (hx : a.eval x = .pointer (some ⟨g, 0, none⟩)) (hy : a.eval y = .agg A) (hb : Box w g 105 B) (h1 : A.size = 3) (h2 : B.size = 3) (hone : A.all (·.oneCell') = true)
    (h : wpList Tryz.prog ops Q rest (a.put o.dst undef) (w.setRow g A)) : wpList Tryz.prog ops Q (o :: rest) a w :=
  wpList_store_row hgd 105 x y ho g A hx hy 105 B hb (by rw [h1]; exact nd_size) (by rw [h1, h2]) hone h
theorem wpList_load_need {ops : Array Oper} {rest : List Oper} {op : Oper} {a : Act} {w : World} {Q : Exit → Act → World → Prop} (hgd : op.guard = none) (x : Operand) (ho : op.op = .load 105 x)
    (g : Nat) (hx : a.eval x = .pointer (some ⟨g, 0, none⟩)) (A : Array Value) (hb : Box w g 105 A) (hs : A.size = 3)
    (h : wpList Tryz.prog ops Q rest (a.put op.dst (.agg A)) w) : wpList Tryz.prog ops Q (op :: rest) a w := by
  obtain ⟨d, hd, hd'⟩ := nd_und
  refine wpList_load_mid hgd 105 x ho g 0 hx A.toList d (box_range hb) hd hd' (by rw [Array.length_toList, hs]; exact nd_size) ?_
  rwa [Array.toArray_toList]
theorem ndA_one (b : VNd) : (ndA b).all (·.oneCell') = true := Array.all_eq_true_iff_forall_mem.2 fun v hv => by
  simp only [ndA, List.mem_toArray, List.mem_cons, List.not_mem_nil, or_false] at hv
  rcases hv with rfl | rfl | rfl <;> rfl

/-! Both. -/
set_option maxHeartbeats 4000000 in
theorem and_any (b c : VNd) (hb : 0 ≤ b.cells ∧ b.cells ≤ 100000 ∧ 0 ≤ b.words ∧ b.words ≤ 100000 ∧ 0 ≤ b.choices ∧ b.choices ≤ 100000) (hc : 0 ≤ c.cells ∧ c.cells ≤ 100000 ∧ 0 ≤ c.words ∧ c.words ≤ 100000 ∧ 0 ≤ c.choices ∧ c.choices ≤ 100000) (w : World) :
    Calls Tryz.prog 57 #[.agg (ndA b), .agg (ndA c)] w fun e w' => e = .returned (.agg (ndA (ndAnd b c))) ∧ Below w.heap.size w w' := by
  obtain ⟨b1, b2, b3⟩ := b
  obtain ⟨c1, c2, c3⟩ := c
  simp only at hb hc
  obtain ⟨X1, X2, X3, hbb⟩ := three_boxes w #[.int .i64 b1, .int .i64 b2, .int .i64 b3] #[.int .i64 c1, .int .i64 c2, .int .i64 c3] #[.int .i64 0, .int .i64 0, .int .i64 0] 105
  have HX := Lib.hid X1
  have HY := Lib.hid X2
  have HZ := Lib.hid X3
  have HB := Lib.hid hbb
  clear X1 X2 X3 hbb
  have e1 : IntKind.i64.wrap (b1 + c1) = b1 + c1 := IntWalk.i64_in _ (by omega)
  have e2 : IntKind.i64.wrap (b2 + c2) = b2 + c2 := IntWalk.i64_in _ (by omega)
  have e3 : IntKind.i64.wrap (b3 + c3) = b3 + c3 := IntWalk.i64_in _ (by omega)
  obtain ⟨g, hg⟩ : ∃ g, w.heap.size = g := ⟨_, rfl⟩
  show Calls Tryz.prog 57 #[.agg #[.int .i64 b1, .int .i64 b2, .int .i64 b3], .agg #[.int .i64 c1, .int .i64 c2, .int .i64 c3]] w _
  go_enter Tryz.func57, Tryz.ntmps57
  go_upto_region 1 with (fail)
  obtain ⟨w1, hw1⟩ : ∃ w1, ((w.alloc (.cells #[.int .i64 b1, .int .i64 b2, .int .i64 b3] 105)).alloc (.cells #[.int .i64 c1, .int .i64 c2, .int .i64 c3] 105)).alloc (.cells #[.int .i64 0, .int .i64 0, .int .i64 0] 105) = w1 := ⟨_, rfl⟩
  rw [hw1] at HX HY HZ HB ⊢
  rw [hg] at HX HY HZ HB
  clear hw1
  have x0 := HX.out.cell 0
  have x1 := HX.out.cell 1
  have x2 := HX.out.cell 2
  have y0 := HY.out.cell 0
  have y1 := HY.out.cell 1
  have y2 := HY.out.cell 2
  go_wp2_with (refine wpList_store_need rfl (.tmp 4) (.tmp 20) rfl (g + 2) (ndA (ndAnd ⟨b1, b2, b3⟩ ⟨c1, c2, c3⟩)) _ rfl rfl HZ.out rfl rfl (ndA_one _) ?_)
  exact bodyPost_ret (results_need rfl _ _ (g + 2) (ndA (ndAnd ⟨b1, b2, b3⟩ ⟨c1, c2, c3⟩)) rfl (HZ.out.row _) rfl) rfl ⟨rfl, by first | exact below_row HB.out (by omega) _ | (rw [hg]; exact below_row HB.out (by omega) _)⟩

/-! An instruction itself. -/
theorem nS_1 {o : Ob} {op a b c d : Int} (h : op = 4 ∨ op = 13) : ndSelf o (op, a, b, c, d) = ⟨1 + arityF o a, 0, 0⟩ := if_pos h
theorem nS_2 {o : Ob} {op a b c d : Int} (h1 : ¬ (op = 4 ∨ op = 13)) (h : op = 5 ∨ op = 14) : ndSelf o (op, a, b, c, d) = ⟨2, 0, 0⟩ := by unfold ndSelf; rw [if_neg h1, if_pos h]
theorem nS_3 {o : Ob} {op a b c d : Int} (h : op = 10) : ndSelf o (op, a, b, c, d) = ⟨1, 0, 0⟩ := by unfold ndSelf; rw [if_neg (by show ¬ (op = 4 ∨ op = 13); omega), if_neg (by show ¬ (op = 5 ∨ op = 14); omega), if_pos h]
theorem nS_4 {o : Ob} {op a b c d : Int} (h : op = 15) : ndSelf o (op, a, b, c, d) = ⟨0, 3 + a, 0⟩ := by unfold ndSelf; rw [if_neg (by show ¬ (op = 4 ∨ op = 13); omega), if_neg (by show ¬ (op = 5 ∨ op = 14); omega), if_neg (by show ¬ op = 10; omega), if_pos h]
theorem nS_5 {o : Ob} {op a b c d : Int} (h : op = 20) : ndSelf o (op, a, b, c, d) = ⟨0, 0, 1⟩ := by unfold ndSelf; rw [if_neg (by show ¬ (op = 4 ∨ op = 13); omega), if_neg (by show ¬ (op = 5 ∨ op = 14); omega), if_neg (by show ¬ op = 10; omega), if_neg (by show ¬ op = 15; omega), if_pos h]
theorem nS_6 {o : Ob} {op a b c d : Int} (h : ¬ (op = 4 ∨ op = 13 ∨ op = 5 ∨ op = 14 ∨ op = 10 ∨ op = 15 ∨ op = 20)) : ndSelf o (op, a, b, c, d) = ⟨0, 0, 0⟩ := by unfold ndSelf; rw [if_neg (by show ¬ (op = 4 ∨ op = 13); omega), if_neg (by show ¬ (op = 5 ∨ op = 14); omega), if_neg (by show ¬ op = 10; omega), if_neg (by show ¬ op = 15; omega), if_neg (by show ¬ op = 20; omega)]; rfl

set_option maxHeartbeats 8000000 in
theorem own_any {o : Ob} (ho : ObK o) {op a b c d : Int} (hi : InsK o (op, a, b, c, d)) {va vf vp vc : Value} (w : World) (hv : ObAt w va vf vp vc o) :
    Calls Tryz.prog 56 #[.agg #[va, vf, vp, vc], .agg #[.int .i64 op, .int .i64 a, .int .i64 b, .int .i64 c, .int .i64 d]] w fun e w' => e = .returned (.agg (ndA (ndSelf o (op, a, b, c, d)))) ∧ Below w.heap.size w w' := by
  obtain ⟨A1, c1, rfl⟩ := CellsAt.form hv.atoms
  obtain ⟨A2, cf, rfl⟩ := CellsAt.form hv.funs
  obtain ⟨A3, cp, rfl⟩ := CellsAt.form hv.preds
  obtain ⟨A4, cc, rfl⟩ := CellsAt.form hv.code
  have HV := Lib.hid hv
  have hop := hi.op
  simp only at hop
  have hb1 := alloc_below w (.cells #[.slice A1 o.atoms.length c1, .slice A2 o.funs.length cf, .slice A3 o.preds.length cp, .slice A4 o.code.length cc] 35)
  have hob := Box.new w 35 #[.slice A1 o.atoms.length c1, .slice A2 o.funs.length cf, .slice A3 o.preds.length cp, .slice A4 o.code.length cc]
  obtain ⟨hx1, hx2, hb2⟩ := ins_st_boxes (w.alloc (.cells #[.slice A1 o.atoms.length c1, .slice A2 o.funs.length cf, .slice A3 o.preds.length cp, .slice A4 o.code.length cc] 35)) #[.int .i64 op, .int .i64 a, .int .i64 b, .int .i64 c, .int .i64 d] #[.int .i64 0, .int .i64 0, .int .i64 0] 65 105
  rw [World.size_alloc] at hx1 hx2 hb2
  have HO := Lib.hid ((hob.alloc (.cells #[.int .i64 op, .int .i64 a, .int .i64 b, .int .i64 c, .int .i64 d] 65)).alloc (.cells #[.int .i64 0, .int .i64 0, .int .i64 0] 105))
  have HI := Lib.hid hx1
  have HZ := Lib.hid hx2
  have HB := Lib.hid (hb1.trans (hb2.mono (by omega)))
  clear hb1 hb2 hx1 hx2 hob hv
  obtain ⟨g, hg⟩ : ∃ g, w.heap.size = g := ⟨_, rfl⟩
  go_enter Tryz.func56, Tryz.ntmps56
  go_upto_region 1 with (fail)
  obtain ⟨w1, hw1⟩ : ∃ w1, ((w.alloc (.cells #[.slice A1 o.atoms.length c1, .slice A2 o.funs.length cf, .slice A3 o.preds.length cp, .slice A4 o.code.length cc] 35)).alloc (.cells #[.int .i64 op, .int .i64 a, .int .i64 b, .int .i64 c, .int .i64 d] 65)).alloc (.cells #[.int .i64 0, .int .i64 0, .int .i64 0] 105) = w1 := ⟨_, rfl⟩
  rw [hw1] at HO HI HZ HB ⊢
  have HBW : Hid (Below w.heap.size w w1) := Lib.hid HB.out
  rw [hg] at HO HI HZ HB
  clear hw1
  have i0 := HI.out.cell 0
  have i1 := HI.out.cell 1
  by_cases h1 : op = 4 ∨ op = 13
  · obtain ⟨hf0, hf1⟩ := hi.fa (by simp only; omega)
    simp only at hf0 hf1
    obtain ⟨ak, rfl⟩ : ∃ ak : Nat, a = (ak : Int) := ⟨a.toNat, by omega⟩
    have hak : ak < o.funs.length := by omega
    obtain ⟨bp, of, rfl, hbp, _, hc5⟩ := funCell HV.out.funs ak hak
    have har2 : arityF o (ak : Int) = o.funs[ak].2 := by
      unfold arityF
      rw [Int.toNat_natCast, List.getD_eq_getElem?_getD, List.getElem?_eq_getElem hak]
      rfl
    have hsm := arityF_small ho (ak : Int)
    have HR := Lib.hid (nS_1 (o := o) (a := (ak : Int)) (b := b) (c := c) (d := d) h1)
    rw [har2] at HR hsm
    have q1 := HO.out.cell 1
    have c5 := (HBW.out.cell (p := ⟨bp, of + ak * 2 + 1, none⟩) hbp).trans hc5
    have i2 : (ak : Int) < (o.funs.length : Int) := by omega
    have i3 : (0 : Int) ≤ (ak : Int) := by omega
    clear hc5 har2
    generalize o.funs[ak].2 = ap at c5 hsm HR
    have hwr : IntKind.i64.wrap (1 + ap) = 1 + ap := IntWalk.i64_in _ (by omega)
    rcases h1 with rfl | rfl
    all_goals
      go_wp2_with (refine wpList_store_need rfl (.tmp 4) (.tmp 20) rfl (g + 1 + 1) (ndA ⟨1 + ap, 0, 0⟩) _ rfl rfl HZ.out rfl rfl (ndA_one _) ?_)
      exact bodyPost_ret (results_need rfl _ _ (g + 1 + 1) (ndA ⟨1 + ap, 0, 0⟩) rfl (HZ.out.row _) rfl) rfl ⟨by rw [HR.out], by first | exact below_row HB.out (by omega) _ | (rw [hg]; exact below_row HB.out (by omega) _)⟩
  by_cases h2 : op = 5 ∨ op = 14
  · have HR := Lib.hid (nS_2 (o := o) (a := a) (b := b) (c := c) (d := d) h1 h2)
    rcases h2 with rfl | rfl
    all_goals
      go_wp2_with (refine wpList_store_need rfl (.tmp 4) (.tmp 24) rfl (g + 1 + 1) (ndA ⟨2, 0, 0⟩) _ rfl rfl HZ.out rfl rfl (ndA_one _) ?_)
      exact bodyPost_ret (results_need rfl _ _ (g + 1 + 1) (ndA ⟨2, 0, 0⟩) rfl (HZ.out.row _) rfl) rfl ⟨by rw [HR.out], by first | exact below_row HB.out (by omega) _ | (rw [hg]; exact below_row HB.out (by omega) _)⟩
  by_cases h3 : op = 10
  · have HR := Lib.hid (nS_3 (o := o) (a := a) (b := b) (c := c) (d := d) h3)
    subst h3
    go_wp2_with (refine wpList_store_need rfl (.tmp 4) (.tmp 27) rfl (g + 1 + 1) (ndA ⟨1, 0, 0⟩) _ rfl rfl HZ.out rfl rfl (ndA_one _) ?_)
    exact bodyPost_ret (results_need rfl _ _ (g + 1 + 1) (ndA ⟨1, 0, 0⟩) rfl (HZ.out.row _) rfl) rfl ⟨by rw [HR.out], by first | exact below_row HB.out (by omega) _ | (rw [hg]; exact below_row HB.out (by omega) _)⟩
  by_cases h4 : op = 15
  · have HR := Lib.hid (nS_4 (o := o) (a := a) (b := b) (c := c) (d := d) h4)
    have hea := hi.ea (by simp only; omega)
    simp only at hea
    have hwr : IntKind.i64.wrap (3 + a) = 3 + a := IntWalk.i64_in _ (by omega)
    subst h4
    go_wp2_with (refine wpList_store_need rfl (.tmp 4) (.tmp 34) rfl (g + 1 + 1) (ndA ⟨0, 3 + a, 0⟩) _ rfl rfl HZ.out rfl rfl (ndA_one _) ?_)
    exact bodyPost_ret (results_need rfl _ _ (g + 1 + 1) (ndA ⟨0, 3 + a, 0⟩) rfl (HZ.out.row _) rfl) rfl ⟨by rw [HR.out], by first | exact below_row HB.out (by omega) _ | (rw [hg]; exact below_row HB.out (by omega) _)⟩
  by_cases h5 : op = 20
  · have HR := Lib.hid (nS_5 (o := o) (a := a) (b := b) (c := c) (d := d) h5)
    subst h5
    go_wp2_with (refine wpList_store_need rfl (.tmp 4) (.tmp 37) rfl (g + 1 + 1) (ndA ⟨0, 0, 1⟩) _ rfl rfl HZ.out rfl rfl (ndA_one _) ?_)
    exact bodyPost_ret (results_need rfl _ _ (g + 1 + 1) (ndA ⟨0, 0, 1⟩) rfl (HZ.out.row _) rfl) rfl ⟨by rw [HR.out], by first | exact below_row HB.out (by omega) _ | (rw [hg]; exact below_row HB.out (by omega) _)⟩
  have HR := Lib.hid (nS_6 (o := o) (a := a) (b := b) (c := c) (d := d) (op := op) (by omega))
  have e4 : (op == 4) = false := beq_eq_false_iff_ne.2 (by omega)
  have e13 : (op == 13) = false := beq_eq_false_iff_ne.2 (by omega)
  have e5 : (op == 5) = false := beq_eq_false_iff_ne.2 (by omega)
  have e14 : (op == 14) = false := beq_eq_false_iff_ne.2 (by omega)
  have e10 : (op == 10) = false := beq_eq_false_iff_ne.2 (by omega)
  have e15 : (op == 15) = false := beq_eq_false_iff_ne.2 (by omega)
  have e20 : (op == 20) = false := beq_eq_false_iff_ne.2 (by omega)
  go_wp2_with (refine wpList_store_need rfl (.tmp 4) (.tmp 38) rfl (g + 1 + 1) (ndA ⟨0, 0, 0⟩) _ rfl rfl HZ.out rfl rfl (ndA_one _) ?_)
  exact bodyPost_ret (results_need rfl _ _ (g + 1 + 1) (ndA ⟨0, 0, 0⟩) rfl (HZ.out.row _) rfl) rfl ⟨by rw [HR.out], by first | exact below_row HB.out (by omega) _ | (rw [hg]; exact below_row HB.out (by omega) _)⟩

/-! Where it goes on. -/
set_option maxHeartbeats 8000000 in
theorem follow_any (n : Nat) (hn : n ≤ 1024) (op a b c d : Int) (w : World) :
    Calls Tryz.prog 59 #[.int .i64 n, .agg #[.int .i64 op, .int .i64 a, .int .i64 b, .int .i64 c, .int .i64 d]] w fun e w' => ∃ v, e = .returned v ∧ IntsV w' v (followV n (op, a, b, c, d)) ∧ Below w.heap.size w w' := by
  have HB := Lib.hid (alloc_below w (.cells #[.int .i64 op, .int .i64 a, .int .i64 b, .int .i64 c, .int .i64 d] 65))
  have HX := Lib.hid (Box.new w 65 #[.int .i64 op, .int .i64 a, .int .i64 b, .int .i64 c, .int .i64 d])
  have HLB := Lib.hid (fun w => labels_any op a b c d w)
  have HON : Hid (∀ w, Calls Tryz.prog 99 #[.int .i64 op] w fun e w' => e = .returned (.bool (onV op)) ∧ w = w') := Lib.hid (fun w => goesOn_any op w)
  have HF26 : Hid (op = 26 → followV n (op, a, b, c, d) = labsV (op, a, b, c, d)) := Lib.hid (fun h => if_pos h)
  have HF17 : Hid (op ≠ 26 → (op = 17 ∨ onV op = false) → followV n (op, a, b, c, d) = []) := Lib.hid (fun h h2 => by unfold followV; rw [if_neg h, if_pos h2])
  have HFON : Hid (op ≠ 26 → op ≠ 17 → onV op = true → followV n (op, a, b, c, d) = [(n : Int) + 1]) := Lib.hid (fun h h2 h3 => by unfold followV; rw [if_neg h, if_neg (by show ¬ (op = 17 ∨ onV op = false); rw [h3]; rintro (h | h); exact h2 h; cases h)])
  generalize followV n (op, a, b, c, d) = F at HF26 HF17 HFON ⊢
  have hwr : IntKind.i64.wrap ((n : Int) + 1) = (n : Int) + 1 := IntWalk.i64_in _ (by omega)
  obtain ⟨g, hg⟩ : ∃ g, w.heap.size = g := ⟨_, rfl⟩
  go_enter Tryz.func59, Tryz.ntmps59
  go_upto_region 1 with (fail)
  obtain ⟨w1, hw1⟩ : ∃ w1, w.alloc (.cells #[.int .i64 op, .int .i64 a, .int .i64 b, .int .i64 c, .int .i64 d] 65) = w1 := ⟨_, rfl⟩
  rw [hw1] at HX HB ⊢
  rw [hg] at HX HB
  have HG := Lib.hid HB.out.size
  rw [hg] at HG
  clear hw1
  have y0 := HX.out.cell 0
  have y1 := HX.out.cell 1
  have y2 := HX.out.cell 2
  have y3 := HX.out.cell 3
  have y4 := HX.out.cell 4
  by_cases h26 : op = 26
  · have HR := Lib.hid (HF26.out h26)
    have e26 : (op == 26) = true := by rw [beq_iff_eq]; exact h26
    clear HF26 HF17 HFON h26
    go_wp2_with (go_at_call 100; refine (HLB.out _).mono ?_; rintro e1 w2 ⟨v2, rfl, ho2, hb2⟩; have HO2 := Lib.hid ho2; have HB2 := Lib.hid (HB.out.trans (hb2.mono HG.out)); clear ho2 hb2)
    go_ret
    exact ⟨_, rfl, by rw [HR.out]; exact CellsAt.of_own HO2.out (by decide), by first | exact HB2.out | (rw [hg]; exact HB2.out)⟩
  have e26 : (op == 26) = false := beq_eq_false_iff_ne.2 h26
  by_cases h17 : op = 17
  · have HR := Lib.hid (HF17.out h26 (.inl h17))
    have e17 : (op == 17) = true := by rw [beq_iff_eq]; exact h17
    clear HF26 HF17 HFON h26 h17
    go_wp2
    go_ret
    exact ⟨_, rfl, by rw [HR.out]; exact .inl ⟨rfl, rfl, _, _, rfl⟩, by first | exact HB.out | (rw [hg]; exact HB.out)⟩
  have e17 : (op == 17) = false := beq_eq_false_iff_ne.2 h17
  obtain ⟨on, hon⟩ : ∃ on, onV op = on := ⟨_, rfl⟩
  rw [hon] at HON HF17 HFON
  clear hon
  cases on with
  | false =>
    have HR := Lib.hid (HF17.out h26 (.inr rfl))
    clear HF26 HF17 HFON h26 h17
    go_wp2_with (go_at_call 99; refine (HON.out _).mono ?_; rintro e1 w5 ⟨rfl, rfl⟩)
    go_ret
    exact ⟨_, rfl, by rw [HR.out]; exact .inl ⟨rfl, rfl, _, _, rfl⟩, by first | exact HB.out | (rw [hg]; exact HB.out)⟩
  | true =>
    have HR := Lib.hid (HFON.out h26 h17 rfl)
    clear HF26 HF17 HFON h26 h17
    have HBN := Lib.hid (HB.out.alloc HG.out (.cells #[.int .i64 ((n : Int) + 1)] 3))
    have HXN := Lib.hid (Box.new w1 3 #[.int .i64 ((n : Int) + 1)])
    go_wp2_with (go_at_call 99; refine (HON.out _).mono ?_; rintro e1 w5 ⟨rfl, rfl⟩)
    go_ret
    refine ⟨_, rfl, ?_, by first | exact HBN.out | (rw [hg]; exact HBN.out)⟩
    rw [HR.out]
    exact .inr ⟨_, 0, 1, rfl, HXN.out.lt, fun k u hk => by rw [Nat.zero_add, HXN.out.cell k]; simpa using hk⟩

end Go.Proofs.YtlmbiafloiompaaGreatDoor

namespace Go.Proofs.YtlmbiafloiompaaGreatDoor
open Go Go.RowKit
set_option linter.unusedVariables false
set_option linter.unusedSimpArgs false
set_option maxRecDepth 100000

theorem ndC_at (R : List VNd) (t : Nat) (h : t < R.length) (j : Nat) (hj : j < 3) : (R.flatMap ndC).toArray[t * 3 + j]? = (ndC R[t])[j]? := by
  rw [List.getElem?_toArray]
  exact flat_at ndC 3 (fun _ => rfl) R t R[t] (List.getElem?_eq_getElem h) j hj

set_option maxHeartbeats 8000000 in
theorem greatest_any (R : List VNd) (hR : R.length ≤ 1024) (L : List Int) (hL : ∀ t ∈ L, 0 ≤ t ∧ t < (R.length : Int)) (hll : L.length ≤ 1000) (gl : Nat) (vL : Value) (w : World) (hb : Box w gl 105 (R.flatMap ndC).toArray) (hv : IntsV w vL L) :
    Calls Tryz.prog 58 #[.slice (some ⟨gl, 0, none⟩) R.length R.length, vL] w fun e w' => e = .returned (.agg (ndA (mostV (fun t => R.getD t.toNat ndZero) L))) ∧ Below w.heap.size w w' := by
  obtain ⟨A, c, rfl⟩ := CellsAt.form hv
  have HV := Lib.hid hv
  have HR := Lib.hid hb
  have HLL := Lib.hid hL
  obtain ⟨mk, hmk⟩ : ∃ mk : Nat → VNd, ∀ k, mk k = (L.take k).foldl (fun b t => ndMax b (R.getD t.toNat ndZero)) ndZero := ⟨fun _ => _, fun _ => rfl⟩
  have HM0 : Hid (mk 0 = ndZero) := Lib.hid (by rw [hmk]; rfl)
  have HMS : Hid (∀ k (hk : k < L.length), mk (k + 1) = ndMax (mk k) (R.getD (L[k]).toNat ndZero)) := Lib.hid (fun k hk => by
    rw [hmk, hmk, List.take_succ_eq_append_getElem hk, List.foldl_append]
    rfl)
  have HMA : Hid (mostV (fun t => R.getD t.toNat ndZero) L = mk L.length) := Lib.hid (by rw [hmk, List.take_length]; rfl)
  generalize mostV (fun t => R.getD t.toNat ndZero) L = res at HMA ⊢
  clear hv hb hL hmk
  obtain ⟨X1, X2, hbb⟩ := two_boxes w #[.int .i64 0, .int .i64 0, .int .i64 0] #[.int .i64 0, .int .i64 0, .int .i64 0] 105
  have HZ := Lib.hid X1
  have HM := Lib.hid X2
  have HB := Lib.hid hbb
  clear X1 X2 hbb
  obtain ⟨g, hg⟩ : ∃ g, w.heap.size = g := ⟨_, rfl⟩
  have hgl : gl < g := by rw [← hg]; exact HR.out.lt
  go_enter Tryz.func58, Tryz.ntmps58
  go_upto_region 2 with (fail)
  obtain ⟨w1, hw1⟩ : ∃ w1, (w.alloc (.cells #[.int .i64 0, .int .i64 0, .int .i64 0] 105)).alloc (.cells #[.int .i64 0, .int .i64 0, .int .i64 0] 105) = w1 := ⟨_, rfl⟩
  rw [hw1] at HZ HM HB ⊢
  rw [hg] at HZ HM
  clear hw1
  go_wp2
  have M0 : Hid (Box w1 (g + 1) 105 (ndA (mk 0))) := Lib.hid (by rw [HM0.out]; exact HM.out)
  clear HM
  go_loopw [7, 10] (fun _ i wr => ∃ k : Nat, k ≤ L.length ∧ i = .int .i64 k ∧ Hid (Box wr g 105 #[.int .i64 0, .int .i64 0, .int .i64 0]) ∧ Hid (Box wr (g + 1) 105 (ndA (mk k))) ∧ Hid (Below w.heap.size w wr)) (fun _ i _ => L.length - (intOf i).toNat)
  case atStart => exact ⟨0, by omega, rfl, HZ, M0, HB⟩
  obtain ⟨k, hk, rfl, HZr, HMr, HBr⟩ := hrel
  clear M0 HZ HB
  by_cases hlt : k < L.length
  case pos =>
    obtain ⟨_, bo, off, hA, hlo, hc⟩ := CellsAt.at_ HV.out (by omega)
    subst hA
    have d0 := (HBr.out.cell (p := ⟨bo, off + k, none⟩) hlo).trans (hc k (.int .i64 L[k]) (by simp [hlt]))
    have hlk := HLL.out L[k] (List.getElem_mem hlt)
    have HST := Lib.hid (HMS.out k hlt)
    clear hc
    generalize L[k] = t at d0 hlk HST
    obtain ⟨tk, rfl⟩ : ∃ tk : Nat, t = (tk : Int) := ⟨t.toNat, by omega⟩
    have htk : tk < R.length := by omega
    have HST2 : Hid (mk (k + 1) = ndMax (mk k) R[tk]) := Lib.hid (by
      rw [HST.out, Int.toNat_natCast, List.getD_eq_getElem?_getD, List.getElem?_eq_getElem htk]
      rfl)
    have hrw := HR.out.below HBr.out HR.out.lt
    have r0 := hrw.cell (tk * 3 + 0)
    have r1 := hrw.cell (tk * 3 + 1)
    have r2 := hrw.cell (tk * 3 + 2)
    rw [ndC_at R tk htk 0 (by decide)] at r0
    rw [ndC_at R tk htk 1 (by decide)] at r1
    rw [ndC_at R tk htk 2 (by decide)] at r2
    simp only [ndC, List.getElem?_cons_succ, List.getElem?_cons_zero, Nat.add_zero] at r0 r1 r2
    clear HST hrw
    generalize R[tk] = rb at r0 r1 r2 HST2
    obtain ⟨q1, q2, q3⟩ := rb
    simp only at r0 r1 r2
    have m0 := HMr.out.cell 0
    have m1 := HMr.out.cell 1
    have m2 := HMr.out.cell 2
    have HMK : Hid (∀ b, mk k = b → ndA (mk k) = #[.int .i64 b.cells, .int .i64 b.words, .int .i64 b.choices]) := Lib.hid (fun b h => by rw [h]; rfl)
    obtain ⟨⟨p1, p2, p3⟩, hp⟩ : ∃ b, mk k = b := ⟨_, rfl⟩
    rw [HMK.out _ hp] at m0 m1 m2
    rw [hp] at HST2 HMr
    simp only at m0 m1 m2
    have i0 : (0 : Int) ≤ (tk : Int) := by omega
    have i1 : (tk : Int) < (R.length : Int) := by omega
    have i2 : (k : Int) < (L.length : Int) := by omega
    have i3 : (0 : Int) ≤ (k : Int) := by omega
    clear HMK hp
    go_upto_region 5 with (fail)
    go_still_tail 25, (by kernel_rfl)
    change wpList _ _ _ _ _ wr.drew
    have HZd := Lib.hid HZr.out.drew
    have HMd := Lib.hid HMr.out.drew
    have HBd := Lib.hid (bel_dn HBr.out 1)
    change Hid (Below w.heap.size w wr.drew) at HBd
    generalize wr.drew = w5 at HZd HMd HBd ⊢
    have HMn := Lib.hid (HMd.out.row (ndA (mk (k + 1))))
    have HZn := Lib.hid (HZd.out.row_far (k := g + 1) (by omega) (ndA (mk (k + 1))))
    have HBn := Lib.hid (below_row HBd.out (g := g + 1) (by omega) (ndA (mk (k + 1))))
    have HEV : Hid (ndA (mk (k + 1)) = #[.int .i64 (max p1 q1), .int .i64 (max p2 q2), .int .i64 (max p3 q3)]) := Lib.hid (by rw [HST2.out]; rfl)
    go_wp2_with (refine wpList_store_need rfl (.tmp 5) (.tmp 38) rfl (g + 1) (ndA (mk (k + 1))) _ rfl (by rw [HEV.out]; first | rfl | kernel_rfl) HMd.out rfl rfl (ndA_one _) ?_)
    go_roundw
    case rel => exact ⟨k + 1, by omega, by go_num, HZn, HMn, HBn⟩
    case measure => simp [intOf]; omega
  case neg =>
  obtain rfl : k = L.length := by omega
  go_wp2_with (refine wpList_load_need rfl (.tmp 5) rfl (g + 1) rfl (ndA (mk L.length)) HMr.out rfl ?_; refine wpList_store_need rfl (.tmp 4) (.tmp 40) rfl g (ndA (mk L.length)) _ rfl rfl HZr.out rfl rfl (ndA_one _) ?_)
  exact bodyPost_ret (results_need rfl _ _ g (ndA (mk L.length)) rfl (HZr.out.row _) rfl) rfl ⟨by rw [HMA.out], below_row HBr.out (by omega) _⟩

end Go.Proofs.YtlmbiafloiompaaGreatDoor
