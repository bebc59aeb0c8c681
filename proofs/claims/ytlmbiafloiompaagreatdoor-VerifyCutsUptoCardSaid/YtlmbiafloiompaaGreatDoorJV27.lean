/-
  5 texts in one (ObjY ObjYB VerX VerXB VerR). Conditions: those of each theorem.
-/
import Derived.Test.YtlmbiafloiompaaGreatDoorJV11
import Derived.Shelf.Abstract
import Derived.Test.YtlmbiafloiompaaGreatDoorJV26
import Derived.Test.YtlmbiafloiompaaGreatDoorJV15
namespace Go.Proofs.YtlmbiafloiompaaGreatDoor
open Go Go.RowKit Go.WideShapes Go.ChangeShapes
set_option linter.unusedVariables false
set_option linter.unusedSimpArgs false

theorem find_drop (name : ByteArray) (arity : Int) (l : List (ByteArray × Int × Int)) (k : Nat) (h : k < l.length) :
    findFrom name arity k (l.drop k) = if l[k].1 = name ∧ l[k].2.1 = arity then (k : Int) else findFrom name arity (k + 1) (l.drop (k + 1)) := by
  rw [List.drop_eq_getElem_cons h, findFrom]
theorem eq_strs {a b : ByteArray} (h : a = b) : (a.toList == b.toList) = true := by rw [h]; simp

end Go.Proofs.YtlmbiafloiompaaGreatDoor

namespace Go.Proofs.YtlmbiafloiompaaGreatDoor
open Go Go.RowKit Go.WideShapes Go.ChangeShapes
set_option linter.unusedVariables false
set_option linter.unusedSimpArgs false

theorem run_makeFunc (fn : Fn) (first cap : Array Value) (w : World) : (Instr.makeFunc fn first cap).run Tryz.prog w = .ok (.func fn first cap) w := rfl

def hitB (name : ByteArray) (arity : Int) (p : ByteArray × Int × Int) : Bool := decide (p.1 = name ∧ p.2.1 = arity)

theorem closure_any (name : ByteArray) (arity : Int) (g4 g5 : Nat) (s : ByteArray) (n m : Int) (w : World) (h4 : w.cell? ⟨g4, 0, none⟩ = some (.string name)) (h5 : w.cell? ⟨g5, 0, none⟩ = some (.int .i64 arity)) (hl4 : g4 < w.heap.size) (hl5 : g5 < w.heap.size) :
    Calls Tryz.prog 135 #[.agg #[.string s, .int .i64 n, .int .i64 m], .pointer (some ⟨g4, 0, none⟩), .pointer (some ⟨g5, 0, none⟩)] w fun e w' => e = .returned (.bool (hitB name arity (s, n, m))) ∧ Below w.heap.size w w' := by
  have HB := Lib.hid (alloc_below w (.cells #[.string s, .int .i64 n, .int .i64 m] 64))
  have c4 := ((HB.out.cell (p := ⟨g4, 0, none⟩) hl4).trans h4)
  have c5 := ((HB.out.cell (p := ⟨g5, 0, none⟩) hl5).trans h5)
  clear h4 h5
  by_cases hs : s = name
  · have hst := eq_strs hs
    by_cases hn : n = arity
    · have hnt : (n == arity) = true := by simpa using hn
      have HX : Hid (hitB name arity (s, n, m) = true) := Lib.hid (decide_eq_true ⟨hs, hn⟩)
      clear hs hn
      go_enter Tryz.func135, Tryz.ntmps135
      go_wp2
      go_ret
      exact ⟨by rw [HX.out]; rfl, HB.out⟩
    · have hnt : (n == arity) = false := by simpa using hn
      have HX : Hid (hitB name arity (s, n, m) = false) := Lib.hid (decide_eq_false (fun h => hn h.2))
      clear hs hn
      go_enter Tryz.func135, Tryz.ntmps135
      go_wp2
      go_ret
      exact ⟨by rw [HX.out]; rfl, HB.out⟩
  · have hst := ne_strs hs
    have HX : Hid (hitB name arity (s, n, m) = false) := Lib.hid (decide_eq_false (fun h => hs h.1))
    clear hs
    go_enter Tryz.func135, Tryz.ntmps135
    go_wp2
    go_ret
    exact ⟨by rw [HX.out]; rfl, HB.out⟩

theorem find_hit (name : ByteArray) (arity : Int) (l : List (ByteArray × Int × Int)) (k : Nat) (h : k < l.length) :
    findFrom name arity k (l.drop k) = if hitB name arity l[k] = true then (k : Int) else findFrom name arity (k + 1) (l.drop (k + 1)) := by
  rw [find_drop name arity l k h]
  by_cases hh : l[k].1 = name ∧ l[k].2.1 = arity
  · rw [if_pos hh]
    exact (if_pos (decide_eq_true hh)).symm
  · rw [if_neg hh, if_neg (by unfold hitB; rw [decide_eq_false hh]; decide)]

set_option maxRecDepth 100000 in
set_option maxHeartbeats 4000000 in
theorem index_any (name : ByteArray) (arity : Int) (g4 g5 : Nat) (l : List (ByteArray × Int × Int)) (hm : l.length ≤ 1000000) (v : Value) (w : World) (hv : PredsAt w v l) (h4 : w.cell? ⟨g4, 0, none⟩ = some (.string name)) (h5 : w.cell? ⟨g5, 0, none⟩ = some (.int .i64 arity)) (hl4 : g4 < w.heap.size) (hl5 : g5 < w.heap.size) :
    Calls Tryz.prog 51 #[v, .func (.func 135) #[] #[.pointer (some ⟨g4, 0, none⟩), .pointer (some ⟨g5, 0, none⟩)]] w fun e w' => e = .returned (.int .i64 (findFrom name arity 0 l)) ∧ Below w.heap.size w w' := by
  obtain ⟨A, c, rfl⟩ := CellsAt.form hv
  have eg : ∀ args w, (callFunc 135 args).run Tryz.prog w = .ok (.enter 135 args) w := enters_of Tryz.func135 (by kernel_rfl) rfl
  have HV := Lib.hid hv
  have H4 := Lib.hid h4
  have H5 := Lib.hid h5
  clear hv h4 h5
  go_enter Tryz.func51, Tryz.ntmps51
  go_wp2
  go_loopw [8] (fun i wr => ∃ k : Nat, k ≤ l.length ∧ i = .int .i64 k ∧ Hid (findFrom name arity k (l.drop k) = findFrom name arity 0 l) ∧ Hid (Below w.heap.size w wr)) (fun i _ => l.length - (intOf i).toNat)
  case atStart => exact ⟨0, by omega, rfl, Lib.hid rfl, Lib.hid (Below.refl _ _)⟩
  case round =>
    obtain ⟨k, hk, rfl, HF, HB⟩ := hrel
    by_cases hlt : k < l.length
    · obtain ⟨b, off, rfl, hb, hc0, hc1, hc2⟩ := predCell HV.out k hlt
      have d0 := (HB.out.cell (p := ⟨b, off + k * 3, none⟩) hb).trans hc0
      have d1 := (HB.out.cell (p := ⟨b, off + k * 3 + 1, none⟩) hb).trans hc1
      have d2 := (HB.out.cell (p := ⟨b, off + k * 3 + 2, none⟩) hb).trans hc2
      have HST := Lib.hid (find_hit name arity l k hlt)
      have hcl := closure_any name arity g4 g5 l[k].1 l[k].2.1 l[k].2.2 wr ((HB.out.cell (p := ⟨g4, 0, none⟩) hl4).trans H4.out) ((HB.out.cell (p := ⟨g5, 0, none⟩) hl5).trans H5.out) (Nat.lt_of_lt_of_le hl4 HB.out.size) (Nat.lt_of_lt_of_le hl5 HB.out.size)
      rw [show (l[k].1, l[k].2.1, l[k].2.2) = l[k] from rfl] at hcl
      clear hc0 hc1 hc2
      generalize hitB name arity l[k] = hb' at hcl HST
      generalize l[k].1 = s at d0 hcl
      generalize l[k].2.1 = n at d1 hcl
      generalize l[k].2.2 = m at d2 hcl
      have HCL := Lib.hid hcl
      clear hcl
      cases hb'
      · have HX : Hid (findFrom name arity (k + 1) (l.drop (k + 1)) = findFrom name arity 0 l) := Lib.hid (by rw [← HF.out, HST.out, if_neg (by decide)])
        go_wp2_with (go_at_fn 135; refine HCL.out.mono ?_; rintro e w5 ⟨rfl, hb5⟩; have HB5 := Lib.hid (HB.out.trans (hb5.mono HB.out.size)); clear hb5)
        go_roundw
        case rel => exact ⟨k + 1, by omega, by go_num, HX, HB5⟩
        case measure => simp [intOf]; omega
      · have HX : Hid (findFrom name arity 0 l = (k : Int)) := Lib.hid (by rw [← HF.out, HST.out, if_pos rfl])
        go_wp2_with (go_at_fn 135; refine HCL.out.mono ?_; rintro e w5 ⟨rfl, hb5⟩; have HB5 := Lib.hid (HB.out.trans (hb5.mono HB.out.size)); clear hb5)
        go_ret
        exact ⟨by rw [HX.out]; rfl, HB5.out⟩
    · obtain rfl : k = l.length := by omega
      have HX : Hid (findFrom name arity 0 l = -1) := Lib.hid (by rw [← HF.out, List.drop_length]; rfl)
      go_wp2
      go_ret
      exact ⟨by rw [HX.out]; rfl, HB.out⟩

theorem pfind_any (A1 A2 A4 : Option Addr) (a c1 f c2 c c4 : Nat) (l : List (ByteArray × Int × Int)) (hm : l.length ≤ 1000000) (vp : Value) (name : ByteArray) (arity : Int) (w : World) (hv : PredsAt w vp l) :
    Calls Tryz.prog 106 #[.agg #[.slice A1 a c1, .slice A2 f c2, vp, .slice A4 c c4], .string name, .int .i64 arity] w fun e w' => e = .returned (.int .i64 (findFrom name arity 0 l)) ∧ Below w.heap.size w w' := by
  obtain ⟨A3, c3, rfl⟩ := CellsAt.form hv
  have hmf := run_makeFunc
  have HB3 := Lib.hid (((alloc_below w (.cells #[.slice A1 a c1, .slice A2 f c2, .slice A3 l.length c3, .slice A4 c c4] 35)).alloc (by simp) (.cells #[.string name] 9)).alloc (by simp; omega) (.cells #[.int .i64 arity] 3))
  have h4 : ((((w.alloc (.cells #[.slice A1 a c1, .slice A2 f c2, .slice A3 l.length c3, .slice A4 c c4] 35)).alloc (.cells #[.string name] 9)).alloc (.cells #[.int .i64 arity] 3)).cell? ⟨w.heap.size + 1, 0, none⟩) = some (.string name) := by
    have h := ((Box.new (w.alloc (.cells #[.slice A1 a c1, .slice A2 f c2, .slice A3 l.length c3, .slice A4 c c4] 35)) 9 #[.string name]).alloc (.cells #[.int .i64 arity] 3)).cell 0
    rw [World.size_alloc] at h
    exact h
  have h5 : ((((w.alloc (.cells #[.slice A1 a c1, .slice A2 f c2, .slice A3 l.length c3, .slice A4 c c4] 35)).alloc (.cells #[.string name] 9)).alloc (.cells #[.int .i64 arity] 3)).cell? ⟨w.heap.size + 1 + 1, 0, none⟩) = some (.int .i64 arity) := by
    have h := (Box.new ((w.alloc (.cells #[.slice A1 a c1, .slice A2 f c2, .slice A3 l.length c3, .slice A4 c c4] 35)).alloc (.cells #[.string name] 9)) 3 #[.int .i64 arity]).cell 0
    rw [World.size_alloc, World.size_alloc] at h
    exact h
  have HIX := Lib.hid (index_any name arity (w.heap.size + 1) (w.heap.size + 1 + 1) l hm (.slice A3 l.length c3) _ (CellsAt.below hv HB3.out) h4 h5 (by simp) (by simp))
  clear hv h4 h5
  go_enter Tryz.func106, Tryz.ntmps106
  go_wp2_with (go_at_call 51; refine HIX.out.mono ?_; rintro e w5 ⟨rfl, hb5⟩; have HB5 := Lib.hid (HB3.out.trans (hb5.mono HB3.out.size)); clear hb5)
  go_ret
  exact ⟨rfl, HB5.out⟩

end Go.Proofs.YtlmbiafloiompaaGreatDoor

namespace Go.Proofs.YtlmbiafloiompaaGreatDoor
open Go Go.RowKit
set_option linter.unusedVariables false
set_option linter.unusedSimpArgs false
set_option maxRecDepth 100000

def noneP (p : ByteArray × Int × Int) : Bool := decide (p.2.2 = 65535)
theorem noneC_any (s : ByteArray) (n m : Int) (w : World) :
    Calls Tryz.prog 24 #[.agg #[.string s, .int .i64 n, .int .i64 m]] w fun e w' => e = .returned (.bool (decide (m = 65535))) ∧ Below w.heap.size w w' := by
  have HB := Lib.hid (alloc_below w (.cells #[.string s, .int .i64 n, .int .i64 m] 64))
  by_cases h : m = 65535
  · have hx : decide (m = 65535) = true := decide_eq_true h
    have HX := Lib.hid hx
    have e0 : (m == 65535) = true := by rw [beq_iff_eq]; exact h
    clear hx h
    generalize decide (m = 65535) = r at HX ⊢
    go_enter Tryz.func24, Tryz.ntmps24
    go_wp2
    go_ret
    exact ⟨by rw [HX.out]; rfl, HB.out⟩
  · have hx : decide (m = 65535) = false := decide_eq_false h
    have HX := Lib.hid hx
    have e0 : (m == 65535) = false := beq_eq_false_iff_ne.2 h
    clear hx h
    generalize decide (m = 65535) = r at HX ⊢
    go_enter Tryz.func24, Tryz.ntmps24
    go_wp2
    go_ret
    exact ⟨by rw [HX.out]; rfl, HB.out⟩

set_option maxHeartbeats 4000000 in
theorem noneIx_any (l : List (ByteArray × Int × Int)) (hm : l.length ≤ 1000000) (v : Value) (w : World) (hv : PredsAt w v l) :
    Calls Tryz.prog 51 #[v, .func (.func 24) #[] #[]] w fun e w' => ∃ i : Int, e = .returned (.int .i64 i) ∧ decide (0 ≤ i) = l.any noneP ∧ Below w.heap.size w w' := by
  obtain ⟨A, c, rfl⟩ := CellsAt.form hv
  have eg : ∀ args w, (callFunc 24 args).run Tryz.prog w = .ok (.enter 24 args) w := enters_of Tryz.func24 (by kernel_rfl) rfl
  have HV := Lib.hid hv
  clear hv
  go_enter Tryz.func51, Tryz.ntmps51
  go_wp2
  go_loopw [8] (fun i wr => ∃ k : Nat, k ≤ l.length ∧ i = .int .i64 k ∧ Hid ((l.drop k).any noneP = l.any noneP) ∧ Hid (Below w.heap.size w wr)) (fun i _ => l.length - (intOf i).toNat)
  case atStart => exact ⟨0, by omega, rfl, Lib.hid rfl, Lib.hid (Below.refl _ _)⟩
  case round =>
    obtain ⟨k, hk, rfl, HF, HB⟩ := hrel
    by_cases hlt : k < l.length
    · obtain ⟨b, off, rfl, hb, hc0, hc1, hc2⟩ := predCell HV.out k hlt
      have d0 := (HB.out.cell (p := ⟨b, off + k * 3, none⟩) hb).trans hc0
      have d1 := (HB.out.cell (p := ⟨b, off + k * 3 + 1, none⟩) hb).trans hc1
      have d2 := (HB.out.cell (p := ⟨b, off + k * 3 + 2, none⟩) hb).trans hc2
      have HST : Hid ((l.drop k).any noneP = (decide (l[k].2.2 = 65535) || (l.drop (k + 1)).any noneP)) := Lib.hid (by rw [List.drop_eq_getElem_cons hlt, List.any_cons]; rfl)
      have hcl := noneC_any l[k].1 l[k].2.1 l[k].2.2 wr
      clear hc0 hc1 hc2
      generalize decide (l[k].2.2 = 65535) = hb' at hcl HST
      generalize l[k].1 = s at d0 hcl
      generalize l[k].2.1 = n at d1 hcl
      generalize l[k].2.2 = m at d2 hcl
      have HCL := Lib.hid hcl
      clear hcl
      cases hb'
      · have HX : Hid ((l.drop (k + 1)).any noneP = l.any noneP) := Lib.hid (by rw [← HF.out, HST.out]; rfl)
        go_wp2_with (go_at_fn 24; refine HCL.out.mono ?_; rintro e w5 ⟨rfl, hb5⟩; have HB5 := Lib.hid (HB.out.trans (hb5.mono HB.out.size)); clear hb5)
        go_roundw
        case rel => exact ⟨k + 1, by omega, by go_num, HX, HB5⟩
        case measure => simp [intOf]; omega
      · have HX : Hid (l.any noneP = true) := Lib.hid (by rw [← HF.out, HST.out]; rfl)
        go_wp2_with (go_at_fn 24; refine HCL.out.mono ?_; rintro e w5 ⟨rfl, hb5⟩; have HB5 := Lib.hid (HB.out.trans (hb5.mono HB.out.size)); clear hb5)
        go_ret
        exact ⟨(k : Int), rfl, by rw [HX.out]; simp, HB5.out⟩
    · obtain rfl : k = l.length := by omega
      have HX : Hid (l.any noneP = false) := Lib.hid (by rw [← HF.out, List.drop_length]; rfl)
      go_wp2
      go_ret
      exact ⟨-1, rfl, by rw [HX.out]; rfl, HB.out⟩

theorem noneB_any (l : List (ByteArray × Int × Int)) (hm : l.length ≤ 1000000) (v : Value) (w : World) (hv : PredsAt w v l) :
    Calls Tryz.prog 23 #[v, .func (.func 24) #[] #[]] w fun e w' => e = .returned (.bool (l.any noneP)) ∧ Below w.heap.size w w' := by
  have HI := Lib.hid (noneIx_any l hm v w hv)
  obtain ⟨A, c, rfl⟩ := CellsAt.form hv
  generalize l.any noneP = r at HI ⊢
  clear hv
  go_enter Tryz.func23, Tryz.ntmps23
  go_wp2_with (go_at_call 51; refine HI.out.mono ?_; rintro e w5 ⟨i, rfl, hi, hb5⟩; have HB5 := Lib.hid hb5; have HII := Lib.hid hi; clear hb5 hi)
  go_ret
  exact ⟨by rw [← HII.out]; rfl, HB5.out⟩

/-! The States. -/
theorem run_slice_st {s : VSt} (h : StOk s) (w : World) : (Instr.buildSlice 46 1 #[(0, .agg (stA s))]).run Tryz.prog w = .ok (.slice (some ⟨w.heap.size, 0, none⟩) 1 1) (w.alloc (.cells (stA s) 58)) := by
  obtain ⟨x, env, y, left, alt, neck⟩ := s
  obtain ⟨y0, y1, y2, y3, y4, y5, y6, y7, y8, y9, y10, y11, y12, y13, y14, y15, rfl⟩ := sixteen y h.y
  kernel_rfl
theorem wpList_of_sliceV {P : Program} {ops : Array Oper} {rest : List Oper} {o : Oper} {a : Act} {w : World} {Q : Exit → Act → World → Prop} {t : TypeId} {len : Nat} {parts : Array (Nat × Value)} {v' : Value} {w' : World}
    (hr : (Instr.buildSlice t len parts).run P w = .ok v' w') (hgd : o.guard = none) (ps : Array (Nat × Operand)) (ho : o.op = .buildSlice t len ps) (hp : (ps.map fun (i, x) => (i, a.eval x)) = parts)
    (h : wpList P ops Q rest (a.put o.dst v') w') : wpList P ops Q (o :: rest) a w := by
  refine wpList_plain hgd fun K hK => ?_
  subst hp
  unfold Oper.wp execOp
  simp only [ho, Sem.run_bind, Sem.run_pure, Result.andThen_ok, hr]
  exact hK _ _ h
theorem wpList_load_place {ops : Array Oper} {rest : List Oper} {op : Oper} {a : Act} {w : World} {Q : Exit → Act → World → Prop} (hgd : op.guard = none) (x : Operand) (ho : op.op = .load 133 x)
    (g o : Nat) (hx : a.eval x = .pointer (some ⟨g, o, none⟩)) (cs : List Value) (hb : w.rangeAt g o cs) (hs : cs.length = 23)
    (h : wpList Tryz.prog ops Q rest (a.put op.dst (.agg cs.toArray)) w) : wpList Tryz.prog ops Q (op :: rest) a w := by
  obtain ⟨d, hd, hd'⟩ := pl_und
  exact wpList_load_mid hgd 133 x ho g o hx cs d hb hd hd' (by rw [hs]; exact pl_size) h
theorem wpList_store_place {ops : Array Oper} {rest : List Oper} {o : Oper} {a : Act} {w : World} {Q : Exit → Act → World → Prop} (hgd : o.guard = none) (x y : Operand) (ho : o.op = .store 133 x y)
    (g : Nat) (A B : Array Value) (hx : a.eval x = .pointer (some ⟨g, 0, none⟩)) (hy : a.eval y = .agg A) (hb : Box w g 133 B) (h1 : A.size = 23) (h2 : B.size = 23) (hone : A.all (·.oneCell') = true)
    (h : wpList Tryz.prog ops Q rest (a.put o.dst undef) (w.setRow g A)) : wpList Tryz.prog ops Q (o :: rest) a w :=
  wpList_store_row hgd 133 x y ho g A hx hy 133 B hb (by rw [h1]; exact pl_size) (by rw [h1, h2]) hone h
/-- Appending one State. -/
theorem app_st {wr : World} {base n : Nat} {v : Value} {xs : List Value} (hown : wr.ownsRow base 58 21 v n xs) (news : List Value) (hl : news.length = 21)
    (h1 : ∀ u ∈ news, u.oneCell' = true) (hn : n ≤ 1000000) (hbase : base ≤ wr.heap.size) (ty : TypeId) :
    ∃ v' w', (Builtin.append_ #[46, 46] ty #[v, .slice (some ⟨wr.heap.size, 0, none⟩) 1 1]).run Tryz.prog (wr.alloc (.cells news.toArray 58)) = .ok v' w' ∧ Hid (App wr w' base 58 21 v v' (n + 1) (xs ++ news)) := by
  have hi : ∃ z, (Tryz.prog.info? 58).map (fun i => (i.zero, i.size, i.bytes)) = some (some z, 21, 160) ∧ z.cells.size = 21 := ⟨.agg zeroA, by kernel_rfl, rfl⟩
  obtain ⟨z, hi, hzs⟩ := hi
  obtain ⟨i, hi1, hz0, hz1, hz2⟩ := info_parts hi
  have hb : (n + 1) * 160 ≤ 140737488355328 := Nat.le_trans (Nat.mul_le_mul (show n + 1 ≤ 1000001 by omega) (Nat.le_refl 160)) (by decide)
  obtain ⟨v', w', hr, h2, h3, _, h5⟩ := run_append_own_at (P := Tryz.prog) (wr.alloc (.cells news.toArray 58)) base 46 ty 58 i z 21 160 Tryz.underlying46 hi1 hz0 hz1 hz2 hzs (by decide) v n xs
    (own_fr (S := fun _ => False) hown ((Fr.refl _ wr).alloc _) (fun _ _ x => x)) ⟨wr.heap.size, 0, none⟩ 1 1 news (by omega) (fun j u hu => by
      rw [Addr.add_mid, Nat.zero_add, (Box.new wr 58 news.toArray).cell j]
      simpa using hu) h1 (by unfold maxLen; omega) hb (by simp; omega)
  refine ⟨v', w', hr, Lib.hid ⟨h2, ?_, ?_, own_form h2 |>.imp fun _ ⟨c, h, _⟩ => ⟨c, h⟩⟩⟩
  · exact ((Fr.refl (fun b => v.ownBlock = some b) wr).alloc _).trans (Fr.of_grown h3 fun _ _ e => e)
  · rcases h5 with h5 | h5
    · exact .inl h5
    · exact .inr ⟨_, h5, by simp⟩
def stC (p : VPl) : List Value := (stA p.s).toList

end Go.Proofs.YtlmbiafloiompaaGreatDoor

namespace Go.Proofs.YtlmbiafloiompaaGreatDoor
open Go Go.RowKit
set_option linter.unusedVariables false
set_option linter.unusedSimpArgs false
set_option maxRecDepth 100000

set_option maxHeartbeats 1000000 in
theorem states_any {w : World} {gw gp : Nat} {va vf vp vc : Value} {P : List VPl} (h : WkAt w gw gp va vf vp vc P) (hP : PlOk P) (hm : P.length ≤ 1024) :
    Calls Tryz.prog 27 #[.pointer (some ⟨gw, 0, none⟩)] w fun e w' => ∃ v, e = .returned v ∧ w'.ownsRow w.heap.size 58 21 v P.length (P.flatMap stC) ∧ Below w.heap.size w w' := by
  have HW := Lib.hid h
  have HPo := Lib.hid hP
  have c4 := h.wk.cell 4
  have F0 := Lib.hid (Below.refl w.heap.size w)
  have O0 : Hid (w.ownsRow w.heap.size 58 21 (.slice none 0 0) 0 ((P.take 0).flatMap stC)) := Lib.hid ⟨rfl, .inl ⟨rfl, rfl⟩⟩
  clear h hP
  go_enter Tryz.func27, Tryz.ntmps27
  go_wp2
  clear c4
  go_loopw [3, 5, 11] (fun s _ i wr => ∃ (k : Nat) (vs : Value), k ≤ P.length ∧ i = .int .i64 k ∧ vs = s ∧ Hid (wr.ownsRow w.heap.size 58 21 vs k ((P.take k).flatMap stC)) ∧ Hid (Below w.heap.size w wr)) (fun _ _ i _ => P.length - (intOf i).toNat)
  case atStart => exact ⟨0, _, by omega, rfl, rfl, O0, F0⟩
  obtain ⟨k, vs, hk, rfl, rfl, HO, HF⟩ := hrel
  clear F0 O0
  by_cases hlt : k < P.length
  case pos =>
    have hpk := HPo.out P[k] (List.getElem_mem hlt)
    have HRG := Lib.hid (plA_whole (HW.out.fr HF.out).pl HPo.out hlt)
    have HL := Lib.hid (plC_len hpk)
    have H1 := Lib.hid (plC_one P[k])
    have HSZ := Lib.hid (stA_size hpk)
    have HRS : Hid (∀ W g, Box W g 133 (plC P[k]).toArray → W.rangeAt g 0 (stA P[k].s).toList) := Lib.hid (fun W g hW j v hj => by
      have hj2 : j < 21 := by
        have h1 := (List.getElem?_eq_some_iff.1 hj).1
        rw [Array.length_toList, stA_size hpk] at h1
        exact h1
      rw [hW.cell, Nat.zero_add, List.getElem?_toArray, plC_s hpk hj2, ← Array.getElem?_toList]
      exact hj)
    have HBS := Lib.hid (fun w => run_slice_st hpk w)
    have HT : Hid ((P.take (k + 1)).flatMap stC = (P.take k).flatMap stC ++ (stA P[k].s).toList) := Lib.hid (by
      rw [List.take_succ_eq_append_getElem hlt, List.flatMap_append]
      simp [stC])
    have HON := Lib.hid (stA_one P[k].s)
    have hgs := HF.out.size
    have i0 : (0 : Int) ≤ (k : Int) := by omega
    have i1 : (k : Int) < (P.length : Int) := by omega
    generalize plC P[k] = pc at HRG HL H1 HRS
    generalize stA P[k].s = A at HSZ HRS HBS HT HON
    have HZB := Lib.hid (fun zs => ((Box.new wr 133 zs).row pc.toArray))
    have HBB := Lib.hid (fun zs => below_row (alloc_below wr (.cells zs 133)) (Nat.le_refl _) pc.toArray)
    have hpz : pc.toArray.size = 23 := by rw [List.size_toArray]; exact HL.out
    have HPZ := Lib.hid hpz
    clear hpz
    go_upto_region 5 with (first | (refine wpList_load_place rfl (.tmp 13) rfl gp (k * 23) rfl pc HRG.out HL.out ?_) | (refine wpList_store_place rfl (.tmp 5) (.tmp 14) rfl wr.heap.size pc.toArray _ rfl rfl (Box.new wr 133 _) HPZ.out rfl H1.out ?_))
    have HX5 := Lib.hid (HZB.out #[.int .u32 0, .int .i64 0, .int .i64 0, .int .i64 0, .int .i64 0, .int .i64 0, .int .i64 0, .int .i64 0, .int .i64 0, .int .i64 0, .int .i64 0, .int .i64 0, .int .i64 0, .int .i64 0, .int .i64 0, .int .i64 0, .int .i64 0, .int .i64 0, .int .i64 0, .bool false, .bool false, .bool false, .bool false])
    have HB5 := Lib.hid (HBB.out #[.int .u32 0, .int .i64 0, .int .i64 0, .int .i64 0, .int .i64 0, .int .i64 0, .int .i64 0, .int .i64 0, .int .i64 0, .int .i64 0, .int .i64 0, .int .i64 0, .int .i64 0, .int .i64 0, .int .i64 0, .int .i64 0, .int .i64 0, .int .i64 0, .int .i64 0, .bool false, .bool false, .bool false, .bool false])
    obtain ⟨w5, hw5⟩ : ∃ w5, (wr.alloc (.cells #[.int .u32 0, .int .i64 0, .int .i64 0, .int .i64 0, .int .i64 0, .int .i64 0, .int .i64 0, .int .i64 0, .int .i64 0, .int .i64 0, .int .i64 0, .int .i64 0, .int .i64 0, .int .i64 0, .int .i64 0, .int .i64 0, .int .i64 0, .int .i64 0, .int .i64 0, .bool false, .bool false, .bool false, .bool false] 133)).setRow wr.heap.size pc.toArray = w5 := ⟨_, rfl⟩
    rw [hw5] at HX5 HB5 ⊢
    clear hw5
    obtain ⟨g5, hg5⟩ : ∃ g5, wr.heap.size = g5 := ⟨_, rfl⟩
    have HG5 := Lib.hid hg5
    rw [hg5] at HX5 ⊢
    clear hg5
    have HF5 := Lib.hid (HF.out.trans (HB5.out.mono hgs))
    have HO5 := Lib.hid (own_fr (S := fun _ => False) HO.out (Fr.of_below HB5.out) (fun _ _ x => x))
    have HRA := Lib.hid (HRS.out w5 _ HX5.out)
    obtain ⟨v7, w7, hr7, HA7⟩ := app_st HO5.out A.toList (by rw [Array.length_toList]; exact HSZ.out) (fun u hu => Array.all_eq_true_iff_forall_mem.1 HON.out u (by simpa using hu)) (by omega) HF5.out.size 46
    rw [Array.toArray_toList] at hr7
    have HR7 := Lib.hid hr7
    have HB7 : Hid (Below w.heap.size w w7) := Lib.hid (HF5.out.trans (HA7.out.below HO5.out HF5.out.size))
    have HO7 : Hid (w7.ownsRow w.heap.size 58 21 v7 (k + 1) ((P.take (k + 1)).flatMap stC)) := Lib.hid (by rw [HT.out]; exact HA7.out.own)
    clear hr7
    go_wp2_with (refine wpList_load_stateM rfl (.tmp 16) rfl g5 0 rfl A HRA.out HSZ.out ?_; refine wpList_of_sliceV (HBS.out w5) rfl _ rfl (by kernel_rfl) ?_; refine wpList_of_append HR7.out rfl (.tmp 15) (.tmp 18) rfl (by kernel_rfl) (by kernel_rfl) ?_)
    go_roundw
    case rel => exact ⟨k + 1, _, by omega, by go_num, rfl, HO7, HB7⟩
    case measure => simp [intOf]; omega
  case neg =>
  obtain rfl : k = P.length := by omega
  have HOE : Hid (wr.ownsRow w.heap.size 58 21 vs P.length (P.flatMap stC)) := Lib.hid (by have h := HO.out; rw [List.take_length] at h; exact h)
  go_wp2
  go_ret
  exact ⟨_, rfl, HOE.out, HF.out⟩

end Go.Proofs.YtlmbiafloiompaaGreatDoor

namespace Go.Proofs.YtlmbiafloiompaaGreatDoor
open Go
set_option linter.unusedVariables false
set_option linter.unusedSimpArgs false

/-- The program's words. -/
def ndSelf (o : Ob) (i : Ins) : VNd :=
  if i.1 = 4 ∨ i.1 = 13 then ⟨1 + arityF o i.2.1, 0, 0⟩
  else if i.1 = 5 ∨ i.1 = 14 then ⟨2, 0, 0⟩
  else if i.1 = 10 then ⟨1, 0, 0⟩
  else if i.1 = 15 then ⟨0, 3 + i.2.1, 0⟩
  else if i.1 = 20 then ⟨0, 0, 1⟩
  else ndZero
def ndAnd (a b : VNd) : VNd := ⟨a.cells + b.cells, a.words + b.words, a.choices + b.choices⟩
def followV (n : Nat) (i : Ins) : List Int := if i.1 = 26 then labsV i else if i.1 = 17 ∨ onV i.1 = false then [] else [(n : Int) + 1]
def mostV (at_ : Int → VNd) (l : List Int) : VNd := l.foldl (fun b t => ndMax b (at_ t)) ndZero
def ndOk (b : VNd) : Prop := 0 ≤ b.cells ∧ 0 ≤ b.words ∧ 0 ≤ b.choices
theorem ndOk_zero : ndOk ndZero := ⟨Int.le_refl _, Int.le_refl _, Int.le_refl _⟩
theorem ndMax_ok {a b : VNd} (ha : ndOk a) : ndOk (ndMax a b) := by
  unfold ndOk ndMax
  obtain ⟨h1, h2, h3⟩ := ha
  simp only
  omega
theorem ndMax_zero {b : VNd} (hb : ndOk b) : ndMax ndZero b = b := by
  obtain ⟨c, w, k⟩ := b
  obtain ⟨h1, h2, h3⟩ := hb
  simp only at h1 h2 h3
  unfold ndMax ndZero
  simp only [VNd.mk.injEq]
  omega
theorem mostV_ok (at_ : Int → VNd) : ∀ (l : List Int) (b : VNd), ndOk b → ndOk (l.foldl (fun b t => ndMax b (at_ t)) b)
  | [], b, h => h
  | t :: l, b, h => mostV_ok at_ l _ (ndMax_ok h)
theorem self_and (o : Ob) (i : Ins) (b : VNd) : ndAnd (ndSelf o i) b = ndOwn o i b := by
  obtain ⟨c, w, k⟩ := b
  unfold ndAnd ndSelf ndOwn ndZero
  split
  · simp only [VNd.mk.injEq]; omega
  · split
    · simp only [VNd.mk.injEq]; omega
    · split
      · simp only [VNd.mk.injEq]; omega
      · split
        · simp only [VNd.mk.injEq]; omega
        · split
          · simp only [VNd.mk.injEq]; omega
          · simp only [VNd.mk.injEq]; omega
theorem own_ok {o : Ob} {i : Ins} {b : VNd} (hf : ∀ f ∈ o.funs, 0 ≤ f.2) (hi : i.1 = 15 → 0 ≤ i.2.1) (hb : ndOk b) : ndOk (ndOwn o i b) := by
  have ha : ∀ k, 0 ≤ arityF o k := by
    intro k
    unfold arityF
    rw [List.getD_eq_getElem?_getD]
    cases h : o.funs[k.toNat]? with
    | none => simp
    | some f => exact hf f (List.mem_of_getElem? h)
  obtain ⟨h1, h2, h3⟩ := hb
  have h4 := ha i.2.1
  unfold ndOwn ndOk
  split
  · simp only; omega
  · split
    · simp only; omega
    · split
      · simp only; omega
      · split
        · rename_i h15
          have := hi h15
          simp only; omega
        · split
          · simp only; omega
          · exact ⟨h1, h2, h3⟩
/-- A place's Need, of the list of the last k. -/
def needAt (o : Ob) (l : List VNd) (t : Int) : VNd := l.getD (t.toNat - (o.code.length - l.length)) ndZero
theorem needsV_len (o : Ob) : ∀ k, (needsV o k).length = k
  | 0 => rfl
  | k + 1 => by simp only [needsV, List.length_cons]; rw [needsV_len o k]
theorem needs_ok {o : Ob} (hf : ∀ f ∈ o.funs, 0 ≤ f.2) (hi : ∀ i ∈ o.code, i.1 = 15 → 0 ≤ i.2.1) : ∀ k, k ≤ o.code.length → ∀ b ∈ needsV o k, ndOk b
  | 0, _, b, hb => by cases hb
  | k + 1, hk, b, hb => by
    have ih := needs_ok hf hi k (by omega)
    rw [needsV] at hb
    rcases List.mem_cons.1 hb with rfl | hb
    · have hlt : o.code.length - (k + 1) < o.code.length := by omega
      have him : o.code.getD (o.code.length - (k + 1)) (0, 0, 0, 0, 0) ∈ o.code := by
        rw [List.getD_eq_getElem?_getD, List.getElem?_eq_getElem hlt]
        exact List.getElem_mem hlt
      refine own_ok hf (hi _ him) ?_
      split
      · exact mostV_ok _ _ _ ndOk_zero
      · split
        · rw [List.getD_eq_getElem?_getD]
          cases h : (needsV o k)[0]? with
          | none => exact ndOk_zero
          | some b => exact ih b (List.mem_of_getElem? h)
        · exact ndOk_zero
    · exact ih b hb
/-- One more place, the program's way. -/
theorem needs_step {o : Ob} (hf : ∀ f ∈ o.funs, 0 ≤ f.2) (hi : ∀ i ∈ o.code, i.1 = 15 → 0 ≤ i.2.1) (k : Nat) (hk : k + 1 ≤ o.code.length) :
    needsV o (k + 1) = ndAnd (ndSelf o (o.code.getD (o.code.length - (k + 1)) (0, 0, 0, 0, 0))) (mostV (needAt o (needsV o k)) (followV (o.code.length - (k + 1)) (o.code.getD (o.code.length - (k + 1)) (0, 0, 0, 0, 0)))) :: needsV o k := by
  rw [needsV]
  congr 1
  rw [self_and]
  congr 1
  generalize o.code.getD (o.code.length - (k + 1)) (0, 0, 0, 0, 0) = i
  have hkl : o.code.length - (needsV o k).length = o.code.length - (k + 1) + 1 := by rw [needsV_len]; omega
  unfold followV
  by_cases h26 : i.1 = 26
  · rw [if_pos h26, if_pos h26]
    unfold mostV needAt
    rw [hkl]
  · rw [if_neg h26, if_neg h26]
    by_cases h17 : i.1 = 17 ∨ onV i.1 = false
    · rw [if_pos h17, if_neg (by rintro ⟨h1, h2⟩; rcases h17 with h | h; exact h2 h; rw [h1] at h; cases h)]
      rfl
    · rw [if_neg h17, if_pos ⟨by cases ho : onV i.1 with | true => rfl | false => exact absurd (.inr ho) h17, fun h => h17 (.inl h)⟩]
      unfold mostV needAt
      rw [hkl]
      simp only [List.foldl_cons, List.foldl_nil]
      have h0 : (((o.code.length - (k + 1) : Nat) : Int) + 1).toNat - (o.code.length - (k + 1) + 1) = 0 := by omega
      rw [h0, ndMax_zero]
      rw [List.getD_eq_getElem?_getD]
      cases h : (needsV o k)[0]? with
      | none => exact ndOk_zero
      | some b => exact needs_ok hf hi k (by omega) b (List.mem_of_getElem? h)

end Go.Proofs.YtlmbiafloiompaaGreatDoor
