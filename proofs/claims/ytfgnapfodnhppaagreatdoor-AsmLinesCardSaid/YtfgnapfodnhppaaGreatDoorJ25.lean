/-
  2 texts in one (ObjY ObjYB). Conditions: those of each theorem.
-/
import Derived.Test.YtfgnapfodnhppaaGreatDoorJ18
import Derived.Shelf.Abstract
namespace Go.Proofs.YtfgnapfodnhppaaGreatDoor
open Go Go.RowKit Go.WideShapes Go.ChangeShapes
set_option linter.unusedVariables false
set_option linter.unusedSimpArgs false

theorem find_drop (name : ByteArray) (arity : Int) (l : List (ByteArray × Int × Int)) (k : Nat) (h : k < l.length) :
    findFrom name arity k (l.drop k) = if l[k].1 = name ∧ l[k].2.1 = arity then (k : Int) else findFrom name arity (k + 1) (l.drop (k + 1)) := by
  rw [List.drop_eq_getElem_cons h, findFrom]
theorem eq_strs {a b : ByteArray} (h : a = b) : (a.toList == b.toList) = true := by rw [h]; simp

set_option maxRecDepth 100000 in
set_option maxHeartbeats 4000000 in
theorem rfind_any (A1 A2 A4 : Option Addr) (a c1 f c2 c c4 : Nat) (l : List (ByteArray × Int × Int)) (hm : l.length ≤ 1000000) (vp : Value) (name : ByteArray) (arity : Int) (w : World) (hv : PredsAt w vp l) :
    Calls Tryz.prog 86 #[.agg #[.slice A1 a c1, .slice A2 f c2, vp, .slice A4 c c4], .string name, .int .i64 arity] w fun e w' => e = .returned (.int .i64 (findFrom name arity 0 l)) ∧ Below w.heap.size w w' := by
  obtain ⟨A3, c3, rfl⟩ := CellsAt.form hv
  have HV := Lib.hid hv
  have HB := Lib.hid (Box.new w 39 #[.slice A1 a c1, .slice A2 f c2, .slice A3 l.length c3, .slice A4 c c4])
  have HBW := Lib.hid (alloc_below w (.cells #[.slice A1 a c1, .slice A2 f c2, .slice A3 l.length c3, .slice A4 c c4] 39))
  clear hv
  go_enter Tryz.func86, Tryz.ntmps86
  go_wp2
  obtain ⟨w1, hw1⟩ : ∃ w1, w.alloc (.cells #[.slice A1 a c1, .slice A2 f c2, .slice A3 l.length c3, .slice A4 c c4] 39) = w1 := ⟨_, rfl⟩
  rw [hw1] at HB HBW ⊢
  clear hw1
  have q2 := HB.out.cell 2
  go_loop [7] (fun i => ∃ k : Nat, k ≤ l.length ∧ i = .int .i64 k ∧ Hid (findFrom name arity k (l.drop k) = findFrom name arity 0 l)) (fun i => l.length - (intOf i).toNat)
  case atStart => exact ⟨0, by omega, rfl, Lib.hid rfl⟩
  case round =>
    obtain ⟨k, hk, rfl, HF⟩ := hrel
    by_cases hlt : k < l.length
    · obtain ⟨b, off, rfl, hb, hc0, hc1, hc2⟩ := predCell HV.out k hlt
      have d0 := (HBW.out.cell (p := ⟨b, off + k * 3, none⟩) hb).trans hc0
      have d1 := (HBW.out.cell (p := ⟨b, off + k * 3 + 1, none⟩) hb).trans hc1
      have HST := Lib.hid (find_drop name arity l k hlt)
      clear hc0 hc1 hc2
      generalize l[k].1 = s at d0 HST
      generalize l[k].2.1 = n at d1 HST
      by_cases hs : s = name
      · have hst := eq_strs hs
        by_cases hn : n = arity
        · have hnt : (n == arity) = true := by simpa using hn
          have HX : Hid (findFrom name arity 0 l = (k : Int)) := Lib.hid (by rw [← HF.out, HST.out, if_pos ⟨hs, hn⟩])
          clear hs hn
          go_wp2
          go_ret
          exact ⟨by rw [HX.out]; rfl, HBW.out⟩
        · have hnt : (n == arity) = false := by simpa using hn
          have HX : Hid (findFrom name arity (k + 1) (l.drop (k + 1)) = findFrom name arity 0 l) := Lib.hid (by rw [← HF.out, HST.out, if_neg (fun h => hn h.2)])
          clear hs hn
          go_wp2
          go_round
          case rel => exact ⟨k + 1, by omega, by go_num, HX⟩
          case measure => simp [intOf]; omega
      · have hst := ne_strs hs
        have HX : Hid (findFrom name arity (k + 1) (l.drop (k + 1)) = findFrom name arity 0 l) := Lib.hid (by rw [← HF.out, HST.out, if_neg (fun h => hs h.1)])
        clear hs
        go_wp2
        go_round
        case rel => exact ⟨k + 1, by omega, by go_num, HX⟩
        case measure => simp [intOf]; omega
    · obtain rfl : k = l.length := by omega
      have HX : Hid (findFrom name arity 0 l = -1) := Lib.hid (by rw [← HF.out, List.drop_length]; rfl)
      go_wp2
      go_ret
      exact ⟨by rw [HX.out]; rfl, HBW.out⟩

end Go.Proofs.YtfgnapfodnhppaaGreatDoor

namespace Go.Proofs.YtfgnapfodnhppaaGreatDoor
open Go Go.RowKit Go.WideShapes Go.ChangeShapes
set_option linter.unusedVariables false
set_option linter.unusedSimpArgs false

theorem run_makeFunc (fn : Fn) (first cap : Array Value) (w : World) : (Instr.makeFunc fn first cap).run Tryz.prog w = .ok (.func fn first cap) w := rfl

def hitB (name : ByteArray) (arity : Int) (p : ByteArray × Int × Int) : Bool := decide (p.1 = name ∧ p.2.1 = arity)

theorem closure_any (name : ByteArray) (arity : Int) (g4 g5 : Nat) (s : ByteArray) (n m : Int) (w : World) (h4 : w.cell? ⟨g4, 0, none⟩ = some (.string name)) (h5 : w.cell? ⟨g5, 0, none⟩ = some (.int .i64 arity)) (hl4 : g4 < w.heap.size) (hl5 : g5 < w.heap.size) :
    Calls Tryz.prog 121 #[.agg #[.string s, .int .i64 n, .int .i64 m], .pointer (some ⟨g4, 0, none⟩), .pointer (some ⟨g5, 0, none⟩)] w fun e w' => e = .returned (.bool (hitB name arity (s, n, m))) ∧ Below w.heap.size w w' := by
  have HB := Lib.hid (alloc_below w (.cells #[.string s, .int .i64 n, .int .i64 m] 52))
  have c4 := ((HB.out.cell (p := ⟨g4, 0, none⟩) hl4).trans h4)
  have c5 := ((HB.out.cell (p := ⟨g5, 0, none⟩) hl5).trans h5)
  clear h4 h5
  by_cases hs : s = name
  · have hst := eq_strs hs
    by_cases hn : n = arity
    · have hnt : (n == arity) = true := by simpa using hn
      have HX : Hid (hitB name arity (s, n, m) = true) := Lib.hid (decide_eq_true ⟨hs, hn⟩)
      clear hs hn
      go_enter Tryz.func121, Tryz.ntmps121
      go_wp2
      go_ret
      exact ⟨by rw [HX.out]; rfl, HB.out⟩
    · have hnt : (n == arity) = false := by simpa using hn
      have HX : Hid (hitB name arity (s, n, m) = false) := Lib.hid (decide_eq_false (fun h => hn h.2))
      clear hs hn
      go_enter Tryz.func121, Tryz.ntmps121
      go_wp2
      go_ret
      exact ⟨by rw [HX.out]; rfl, HB.out⟩
  · have hst := ne_strs hs
    have HX : Hid (hitB name arity (s, n, m) = false) := Lib.hid (decide_eq_false (fun h => hs h.1))
    clear hs
    go_enter Tryz.func121, Tryz.ntmps121
    go_wp2
    go_ret
    exact ⟨by rw [HX.out]; rfl, HB.out⟩

theorem find_hit (name : ByteArray) (arity : Int) (l : List (ByteArray × Int × Int)) (k : Nat) (h : k < l.length) :
    findFrom name arity k (l.drop k) = if hitB name arity l[k] = true then (k : Int) else findFrom name arity (k + 1) (l.drop (k + 1)) := by
  rw [find_drop name arity l k h]
  by_cases hh : l[k].1 = name ∧ l[k].2.1 = arity
  · rw [if_pos hh]
    exact (if_pos (decide_eq_true hh)).symm
  · rw [if_neg hh, if_neg (by unfold hitB; rw [decide_eq_false hh]; decide)]

set_option maxRecDepth 100000 in
set_option maxHeartbeats 4000000 in
theorem index_any (name : ByteArray) (arity : Int) (g4 g5 : Nat) (l : List (ByteArray × Int × Int)) (hm : l.length ≤ 1000000) (v : Value) (w : World) (hv : PredsAt w v l) (h4 : w.cell? ⟨g4, 0, none⟩ = some (.string name)) (h5 : w.cell? ⟨g5, 0, none⟩ = some (.int .i64 arity)) (hl4 : g4 < w.heap.size) (hl5 : g5 < w.heap.size) :
    Calls Tryz.prog 120 #[v, .func (.func 121) #[] #[.pointer (some ⟨g4, 0, none⟩), .pointer (some ⟨g5, 0, none⟩)]] w fun e w' => e = .returned (.int .i64 (findFrom name arity 0 l)) ∧ Below w.heap.size w w' := by
  obtain ⟨A, c, rfl⟩ := CellsAt.form hv
  have eg : ∀ args w, (callFunc 121 args).run Tryz.prog w = .ok (.enter 121 args) w := enters_of Tryz.func121 (by kernel_rfl) rfl
  have HV := Lib.hid hv
  have H4 := Lib.hid h4
  have H5 := Lib.hid h5
  clear hv h4 h5
  go_enter Tryz.func120, Tryz.ntmps120
  go_wp2
  go_loopw [8] (fun i wr => ∃ k : Nat, k ≤ l.length ∧ i = .int .i64 k ∧ Hid (findFrom name arity k (l.drop k) = findFrom name arity 0 l) ∧ Hid (Below w.heap.size w wr)) (fun i _ => l.length - (intOf i).toNat)
  case atStart => exact ⟨0, by omega, rfl, Lib.hid rfl, Lib.hid (Below.refl _ _)⟩
  case round =>
    obtain ⟨k, hk, rfl, HF, HB⟩ := hrel
    by_cases hlt : k < l.length
    · obtain ⟨b, off, rfl, hb, hc0, hc1, hc2⟩ := predCell HV.out k hlt
      have d0 := (HB.out.cell (p := ⟨b, off + k * 3, none⟩) hb).trans hc0
      have d1 := (HB.out.cell (p := ⟨b, off + k * 3 + 1, none⟩) hb).trans hc1
      have d2 := (HB.out.cell (p := ⟨b, off + k * 3 + 2, none⟩) hb).trans hc2
      have HST := Lib.hid (find_hit name arity l k hlt)
      have hcl := closure_any name arity g4 g5 l[k].1 l[k].2.1 l[k].2.2 wr ((HB.out.cell (p := ⟨g4, 0, none⟩) hl4).trans H4.out) ((HB.out.cell (p := ⟨g5, 0, none⟩) hl5).trans H5.out) (Nat.lt_of_lt_of_le hl4 HB.out.size) (Nat.lt_of_lt_of_le hl5 HB.out.size)
      rw [show (l[k].1, l[k].2.1, l[k].2.2) = l[k] from rfl] at hcl
      clear hc0 hc1 hc2
      generalize hitB name arity l[k] = hb' at hcl HST
      generalize l[k].1 = s at d0 hcl
      generalize l[k].2.1 = n at d1 hcl
      generalize l[k].2.2 = m at d2 hcl
      have HCL := Lib.hid hcl
      clear hcl
      cases hb'
      · have HX : Hid (findFrom name arity (k + 1) (l.drop (k + 1)) = findFrom name arity 0 l) := Lib.hid (by rw [← HF.out, HST.out, if_neg (by decide)])
        go_wp2_with (go_at_fn 121; refine HCL.out.mono ?_; rintro e w5 ⟨rfl, hb5⟩; have HB5 := Lib.hid (HB.out.trans (hb5.mono HB.out.size)); clear hb5)
        go_roundw
        case rel => exact ⟨k + 1, by omega, by go_num, HX, HB5⟩
        case measure => simp [intOf]; omega
      · have HX : Hid (findFrom name arity 0 l = (k : Int)) := Lib.hid (by rw [← HF.out, HST.out, if_pos rfl])
        go_wp2_with (go_at_fn 121; refine HCL.out.mono ?_; rintro e w5 ⟨rfl, hb5⟩; have HB5 := Lib.hid (HB.out.trans (hb5.mono HB.out.size)); clear hb5)
        go_ret
        exact ⟨by rw [HX.out]; rfl, HB5.out⟩
    · obtain rfl : k = l.length := by omega
      have HX : Hid (findFrom name arity 0 l = -1) := Lib.hid (by rw [← HF.out, List.drop_length]; rfl)
      go_wp2
      go_ret
      exact ⟨by rw [HX.out]; rfl, HB.out⟩

theorem pfind_any (A1 A2 A4 : Option Addr) (a c1 f c2 c c4 : Nat) (l : List (ByteArray × Int × Int)) (hm : l.length ≤ 1000000) (vp : Value) (name : ByteArray) (arity : Int) (w : World) (hv : PredsAt w vp l) :
    Calls Tryz.prog 102 #[.agg #[.slice A1 a c1, .slice A2 f c2, vp, .slice A4 c c4], .string name, .int .i64 arity] w fun e w' => e = .returned (.int .i64 (findFrom name arity 0 l)) ∧ Below w.heap.size w w' := by
  obtain ⟨A3, c3, rfl⟩ := CellsAt.form hv
  have hmf := run_makeFunc
  have HB3 := Lib.hid (((alloc_below w (.cells #[.slice A1 a c1, .slice A2 f c2, .slice A3 l.length c3, .slice A4 c c4] 31)).alloc (by simp) (.cells #[.string name] 9)).alloc (by simp; omega) (.cells #[.int .i64 arity] 3))
  have h4 : ((((w.alloc (.cells #[.slice A1 a c1, .slice A2 f c2, .slice A3 l.length c3, .slice A4 c c4] 31)).alloc (.cells #[.string name] 9)).alloc (.cells #[.int .i64 arity] 3)).cell? ⟨w.heap.size + 1, 0, none⟩) = some (.string name) := by
    have h := ((Box.new (w.alloc (.cells #[.slice A1 a c1, .slice A2 f c2, .slice A3 l.length c3, .slice A4 c c4] 31)) 9 #[.string name]).alloc (.cells #[.int .i64 arity] 3)).cell 0
    rw [World.size_alloc] at h
    exact h
  have h5 : ((((w.alloc (.cells #[.slice A1 a c1, .slice A2 f c2, .slice A3 l.length c3, .slice A4 c c4] 31)).alloc (.cells #[.string name] 9)).alloc (.cells #[.int .i64 arity] 3)).cell? ⟨w.heap.size + 1 + 1, 0, none⟩) = some (.int .i64 arity) := by
    have h := (Box.new ((w.alloc (.cells #[.slice A1 a c1, .slice A2 f c2, .slice A3 l.length c3, .slice A4 c c4] 31)).alloc (.cells #[.string name] 9)) 3 #[.int .i64 arity]).cell 0
    rw [World.size_alloc, World.size_alloc] at h
    exact h
  have HIX := Lib.hid (index_any name arity (w.heap.size + 1) (w.heap.size + 1 + 1) l hm (.slice A3 l.length c3) _ (CellsAt.below hv HB3.out) h4 h5 (by simp) (by simp))
  clear hv h4 h5
  go_enter Tryz.func102, Tryz.ntmps102
  go_wp2_with (go_at_call 120; refine HIX.out.mono ?_; rintro e w5 ⟨rfl, hb5⟩; have HB5 := Lib.hid (HB3.out.trans (hb5.mono HB3.out.size)); clear hb5)
  go_ret
  exact ⟨rfl, HB5.out⟩

end Go.Proofs.YtfgnapfodnhppaaGreatDoor
