/-
  3 texts in one (VerA VerB VerC). Conditions: those of each theorem.
-/
import Derived.Test.YtlmbiafloiompaaGreatDoorJV15
import Derived.Test.YtlmbiafloiompaaGreatDoorJV01
import Derived.Test.YtlmbiafloiompaaGreatDoorJV02
import Derived.WalkKit
import Derived.BigQuiet
import Derived.Laws.BitsAllLaws
import Derived.Deep.MidRow
namespace Go.Proofs.YtlmbiafloiompaaGreatDoor
open Go Go.RowKit
set_option linter.unusedVariables false
set_option linter.unusedSimpArgs false

theorem pfirst_any (n : Nat) (hn : n ≤ 8) (w : World) :
    Calls Tryz.prog 95 #[.int .i64 n] w fun e w' => e = .returned (.int .u32 ((2 ^ n - 1 : Nat) : Int)) ∧ w = w' := by
  have HV : Hid (((2 : Int) ^ n % 4294967296 - 1) % 4294967296 = ((2 ^ n - 1 : Nat) : Int)) := Lib.hid (by
    have h : n = 0 ∨ n = 1 ∨ n = 2 ∨ n = 3 ∨ n = 4 ∨ n = 5 ∨ n = 6 ∨ n = 7 ∨ n = 8 := by omega
    rcases h with rfl | rfl | rfl | rfl | rfl | rfl | rfl | rfl | rfl <;> decide)
  go_enter Tryz.func95, Tryz.ntmps95
  go_wp2
  go_ret
  exact ⟨by rw [HV.out]; rfl, rfl⟩

/-- A State's cells. -/
def yC (y : List Int) : List Value := y.map (Value.int .i64)
theorem y_at (x : Nat) (env y0 y1 y2 y3 y4 y5 y6 y7 y8 y9 y10 y11 y12 y13 y14 y15 left : Int) (alt neck : Bool) (k : Nat) (hk : k < 16) : (#[.int .u32 (x : Nat), .int .i64 env, .int .i64 y0, .int .i64 y1, .int .i64 y2, .int .i64 y3, .int .i64 y4, .int .i64 y5, .int .i64 y6, .int .i64 y7, .int .i64 y8, .int .i64 y9, .int .i64 y10, .int .i64 y11, .int .i64 y12, .int .i64 y13, .int .i64 y14, .int .i64 y15, .int .i64 left, .bool alt, .bool neck] : Array Value)[2 + k]? = some (.int .i64 ([y0, y1, y2, y3, y4, y5, y6, y7, y8, y9, y10, y11, y12, y13, y14, y15].getD k 0)) := by
  have h : k = 0 ∨ k = 1 ∨ k = 2 ∨ k = 3 ∨ k = 4 ∨ k = 5 ∨ k = 6 ∨ k = 7 ∨ k = 8 ∨ k = 9 ∨ k = 10 ∨ k = 11 ∨ k = 12 ∨ k = 13 ∨ k = 14 ∨ k = 15 := by omega
  rcases h with rfl | rfl | rfl | rfl | rfl | rfl | rfl | rfl | rfl | rfl | rfl | rfl | rfl | rfl | rfl | rfl <;> rfl
theorem shr_is (x r : Nat) (hx : x < 2 ^ 16) : (bits .and .u32 ((x : Int) / 2 ^ r) 1 == 1) = x.testBit r := by
  have e : (x : Int) / 2 ^ r = ((x / 2 ^ r : Nat) : Int) := by rw [Int.natCast_ediv, Int.natCast_pow]; rfl
  have hl : x / 2 ^ r < 4294967296 := Nat.lt_of_le_of_lt (Nat.div_le_self _ _) (by omega)
  have h := u32_and_nat (x / 2 ^ r) 1 hl (by decide)
  rw [e]
  have h1 : ((1 : Nat) : Int) = 1 := rfl
  rw [h1] at h
  rw [h, Nat.and_one_is_mod]
  have h2 := set_is x r
  rcases Nat.mod_two_eq_zero_or_one (x / 2 ^ r) with h3 | h3
  · rw [h3]
    cases hb : x.testBit r with
    | false => decide
    | true => have := h2.2 hb; omega
  · rw [h3, h2.1 h3]
    decide

theorem isSet_any (x : Nat) (env y0 y1 y2 y3 y4 y5 y6 y7 y8 y9 y10 y11 y12 y13 y14 y15 left : Int) (alt neck : Bool) (r : Nat) (hx : x < 2 ^ 16) (hr : r < 16) (w : World) :
    Calls Tryz.prog 125 #[.agg #[.int .u32 (x : Nat), .int .i64 env, .int .i64 y0, .int .i64 y1, .int .i64 y2, .int .i64 y3, .int .i64 y4, .int .i64 y5, .int .i64 y6, .int .i64 y7, .int .i64 y8, .int .i64 y9, .int .i64 y10, .int .i64 y11, .int .i64 y12, .int .i64 y13, .int .i64 y14, .int .i64 y15, .int .i64 left, .bool alt, .bool neck], .int .i64 r] w fun e w' => e = .returned (.bool (setV (⟨x, env, [y0, y1, y2, y3, y4, y5, y6, y7, y8, y9, y10, y11, y12, y13, y14, y15], left, alt, neck⟩ : VSt) r)) ∧ Below w.heap.size w w' := by
  have HS := Lib.hid (shr_is x r hx)
  have hmin : min r 32 = r := by omega
  have HB := Lib.hid (alloc_below w (.cells #[.int .u32 (x : Nat), .int .i64 env, .int .i64 y0, .int .i64 y1, .int .i64 y2, .int .i64 y3, .int .i64 y4, .int .i64 y5, .int .i64 y6, .int .i64 y7, .int .i64 y8, .int .i64 y9, .int .i64 y10, .int .i64 y11, .int .i64 y12, .int .i64 y13, .int .i64 y14, .int .i64 y15, .int .i64 left, .bool alt, .bool neck] 58))
  go_enter Tryz.func125, Tryz.ntmps125
  go_wp2
  go_ret
  exact ⟨by rw [HS.out]; rfl, HB.out⟩

theorem bel_dn {B : Nat} {w w' : World} (h : Below B w w') (n : Nat) : Below B w (w'.drewN n) := ⟨h.os, h.tape, h.output, h.size, h.block⟩

theorem has_any (x : Nat) (env y0 y1 y2 y3 y4 y5 y6 y7 y8 y9 y10 y11 y12 y13 y14 y15 left : Int) (alt neck : Bool) (k : Nat) (hk : k < 16) (w : World) :
    Calls Tryz.prog 129 #[.agg #[.int .u32 (x : Nat), .int .i64 env, .int .i64 y0, .int .i64 y1, .int .i64 y2, .int .i64 y3, .int .i64 y4, .int .i64 y5, .int .i64 y6, .int .i64 y7, .int .i64 y8, .int .i64 y9, .int .i64 y10, .int .i64 y11, .int .i64 y12, .int .i64 y13, .int .i64 y14, .int .i64 y15, .int .i64 left, .bool alt, .bool neck], .int .i64 k] w fun e w' => e = .returned (.int .i64 (if env ≤ k then -1 else yAt (⟨x, env, [y0, y1, y2, y3, y4, y5, y6, y7, y8, y9, y10, y11, y12, y13, y14, y15], left, alt, neck⟩ : VSt) k)) ∧ Below w.heap.size w w' := by
  have HB := Lib.hid (alloc_below w (.cells #[.int .u32 (x : Nat), .int .i64 env, .int .i64 y0, .int .i64 y1, .int .i64 y2, .int .i64 y3, .int .i64 y4, .int .i64 y5, .int .i64 y6, .int .i64 y7, .int .i64 y8, .int .i64 y9, .int .i64 y10, .int .i64 y11, .int .i64 y12, .int .i64 y13, .int .i64 y14, .int .i64 y15, .int .i64 left, .bool alt, .bool neck] 58))
  have hc := (Box.new w 58 #[.int .u32 (x : Nat), .int .i64 env, .int .i64 y0, .int .i64 y1, .int .i64 y2, .int .i64 y3, .int .i64 y4, .int .i64 y5, .int .i64 y6, .int .i64 y7, .int .i64 y8, .int .i64 y9, .int .i64 y10, .int .i64 y11, .int .i64 y12, .int .i64 y13, .int .i64 y14, .int .i64 y15, .int .i64 left, .bool alt, .bool neck]).cell (2 + k)
  rw [y_at x env y0 y1 y2 y3 y4 y5 y6 y7 y8 y9 y10 y11 y12 y13 y14 y15 left alt neck k hk] at hc
  have HY : Hid ([y0, y1, y2, y3, y4, y5, y6, y7, y8, y9, y10, y11, y12, y13, y14, y15].getD k 0 = yAt (⟨x, env, [y0, y1, y2, y3, y4, y5, y6, y7, y8, y9, y10, y11, y12, y13, y14, y15], left, alt, neck⟩ : VSt) k) := Lib.hid (by unfold yAt; rw [Int.toNat_natCast])
  generalize [y0, y1, y2, y3, y4, y5, y6, y7, y8, y9, y10, y11, y12, y13, y14, y15].getD k 0 = yk at hc HY
  obtain ⟨res, hres⟩ : ∃ res, (if env ≤ k then -1 else yAt (⟨x, env, [y0, y1, y2, y3, y4, y5, y6, y7, y8, y9, y10, y11, y12, y13, y14, y15], left, alt, neck⟩ : VSt) k) = res := ⟨_, rfl⟩
  rw [hres]
  by_cases h : env ≤ k
  · have HR : Hid (res = -1) := Lib.hid (by rw [← hres, if_pos h])
    clear hres
    go_enter Tryz.func129, Tryz.ntmps129
    go_wp2
    go_ret
    exact ⟨by rw [HR.out]; rfl, HB.out⟩
  · have HR : Hid (res = yk) := Lib.hid (by rw [← hres, if_neg h, ← HY.out])
    clear hres
    have k0 : (0 : Int) ≤ (k : Int) := by omega
    have k1 : (k : Int) < 16 := by omega
    go_enter Tryz.func129, Tryz.ntmps129
    go_wp2
    go_ret
    exact ⟨by rw [HR.out]; rfl, HB.out⟩

theorem cover_is (x n : Nat) (hx : x < 2 ^ 16) (hn : n ≤ 8) : (bits .and .u32 (x : Int) ((2 ^ n - 1 : Nat) : Int) == ((2 ^ n - 1 : Nat) : Int)) = decide (x &&& (2 ^ n - 1) = 2 ^ n - 1) := by
  have h1 := first_lt hn
  rw [u32_and_nat x (2 ^ n - 1) (by omega) (by omega)]
  by_cases h : x &&& (2 ^ n - 1) = 2 ^ n - 1
  · rw [decide_eq_true h, h]
    simp
  · rw [decide_eq_false h]
    rw [beq_eq_false_iff_ne]
    intro e
    exact h (by exact_mod_cast e)
theorem hasFirst_any (x : Nat) (env y0 y1 y2 y3 y4 y5 y6 y7 y8 y9 y10 y11 y12 y13 y14 y15 left : Int) (alt neck : Bool) (n : Nat) (hx : x < 2 ^ 16) (hn : n ≤ 8) (w : World) :
    Calls Tryz.prog 128 #[.agg #[.int .u32 (x : Nat), .int .i64 env, .int .i64 y0, .int .i64 y1, .int .i64 y2, .int .i64 y3, .int .i64 y4, .int .i64 y5, .int .i64 y6, .int .i64 y7, .int .i64 y8, .int .i64 y9, .int .i64 y10, .int .i64 y11, .int .i64 y12, .int .i64 y13, .int .i64 y14, .int .i64 y15, .int .i64 left, .bool alt, .bool neck], .int .i64 n] w fun e w' => e = .returned (.bool (coverV (⟨x, env, [y0, y1, y2, y3, y4, y5, y6, y7, y8, y9, y10, y11, y12, y13, y14, y15], left, alt, neck⟩ : VSt) n)) ∧ Below w.heap.size w w' := by
  have HS := Lib.hid (cover_is x n hx hn)
  have HB := Lib.hid (alloc_below w (.cells #[.int .u32 (x : Nat), .int .i64 env, .int .i64 y0, .int .i64 y1, .int .i64 y2, .int .i64 y3, .int .i64 y4, .int .i64 y5, .int .i64 y6, .int .i64 y7, .int .i64 y8, .int .i64 y9, .int .i64 y10, .int .i64 y11, .int .i64 y12, .int .i64 y13, .int .i64 y14, .int .i64 y15, .int .i64 left, .bool alt, .bool neck] 58))
  have HF := Lib.hid (fun w => pfirst_any n hn w)
  have HR : Hid (coverV (⟨x, env, [y0, y1, y2, y3, y4, y5, y6, y7, y8, y9, y10, y11, y12, y13, y14, y15], left, alt, neck⟩ : VSt) n = decide (x &&& (2 ^ n - 1) = 2 ^ n - 1)) := Lib.hid (by unfold coverV; rw [Int.toNat_natCast])
  generalize coverV (⟨x, env, [y0, y1, y2, y3, y4, y5, y6, y7, y8, y9, y10, y11, y12, y13, y14, y15], left, alt, neck⟩ : VSt) n = res at HR ⊢
  have hx0 := Box.new w 58 #[.int .u32 (x : Nat), .int .i64 env, .int .i64 y0, .int .i64 y1, .int .i64 y2, .int .i64 y3, .int .i64 y4, .int .i64 y5, .int .i64 y6, .int .i64 y7, .int .i64 y8, .int .i64 y9, .int .i64 y10, .int .i64 y11, .int .i64 y12, .int .i64 y13, .int .i64 y14, .int .i64 y15, .int .i64 left, .bool alt, .bool neck]
  have c0 := hx0.cell 0
  clear hx0
  go_enter Tryz.func128, Tryz.ntmps128
  go_upto_region 1 with (fail)
  obtain ⟨w1, hw1⟩ : ∃ w1, w.alloc (.cells #[.int .u32 (x : Nat), .int .i64 env, .int .i64 y0, .int .i64 y1, .int .i64 y2, .int .i64 y3, .int .i64 y4, .int .i64 y5, .int .i64 y6, .int .i64 y7, .int .i64 y8, .int .i64 y9, .int .i64 y10, .int .i64 y11, .int .i64 y12, .int .i64 y13, .int .i64 y14, .int .i64 y15, .int .i64 left, .bool alt, .bool neck] 58) = w1 := ⟨_, rfl⟩
  obtain ⟨g, hg⟩ : ∃ g, w.heap.size = g := ⟨_, rfl⟩
  rw [hw1] at HB c0 ⊢
  rw [hg] at c0 ⊢
  clear hw1
  go_quiet ((go_at_call 95; exact Calls.quiet_of_same ((HF.out _).mono fun _ _ h => ⟨h.1, h.2.symm⟩)))
  go_wp2
  go_ret
  exact ⟨by rw [HR.out, ← HS.out]; rfl, by first | exact bel_dn HB.out _ | (rw [← hg]; exact bel_dn HB.out _)⟩

end Go.Proofs.YtlmbiafloiompaaGreatDoor

namespace Go.Proofs.YtlmbiafloiompaaGreatDoor
open Go Go.RowKit
set_option linter.unusedVariables false
set_option linter.unusedSimpArgs false
set_option maxRecDepth 4000

/-- A State's cells. -/
def stA (s : VSt) : Array Value := (Value.int .u32 (s.x : Int) :: Value.int .i64 s.env :: (s.y.map (Value.int .i64) ++ [.int .i64 s.left, .bool s.alt, .bool s.neck])).toArray
structure StOk (s : VSt) : Prop where
  y : s.y.length = 16
  x : s.x < 2 ^ 16
theorem sixteen (l : List Int) (h : l.length = 16) : ∃ y0 y1 y2 y3 y4 y5 y6 y7 y8 y9 y10 y11 y12 y13 y14 y15, l = [y0, y1, y2, y3, y4, y5, y6, y7, y8, y9, y10, y11, y12, y13, y14, y15] := by
  match l, h with
  | [y0, y1, y2, y3, y4, y5, y6, y7, y8, y9, y10, y11, y12, y13, y14, y15], _ => exact ⟨y0, y1, y2, y3, y4, y5, y6, y7, y8, y9, y10, y11, y12, y13, y14, y15, rfl⟩
theorem stA_size {s : VSt} (h : StOk s) : (stA s).size = 21 := by
  have := h.y
  simp [stA, this]
theorem stA_x (s : VSt) : (stA s)[0]? = some (.int .u32 (s.x : Int)) := rfl
theorem stA_env (s : VSt) : (stA s)[1]? = some (.int .i64 s.env) := rfl
theorem stA_left {s : VSt} (h : StOk s) : (stA s)[18]? = some (.int .i64 s.left) := by
  obtain ⟨y0, y1, y2, y3, y4, y5, y6, y7, y8, y9, y10, y11, y12, y13, y14, y15, e⟩ := sixteen s.y h.y
  rw [stA, e]; rfl
theorem stA_alt {s : VSt} (h : StOk s) : (stA s)[19]? = some (.bool s.alt) := by
  obtain ⟨y0, y1, y2, y3, y4, y5, y6, y7, y8, y9, y10, y11, y12, y13, y14, y15, e⟩ := sixteen s.y h.y
  rw [stA, e]; rfl
theorem stA_neck {s : VSt} (h : StOk s) : (stA s)[20]? = some (.bool s.neck) := by
  obtain ⟨y0, y1, y2, y3, y4, y5, y6, y7, y8, y9, y10, y11, y12, y13, y14, y15, e⟩ := sixteen s.y h.y
  rw [stA, e]; rfl
theorem stA_y {s : VSt} (h : StOk s) (k : Nat) (hk : k < 16) : (stA s)[2 + k]? = some (.int .i64 (yAt s k)) := by
  obtain ⟨x, env, y, left, alt, neck⟩ := s
  obtain ⟨y0, y1, y2, y3, y4, y5, y6, y7, y8, y9, y10, y11, y12, y13, y14, y15, rfl⟩ := sixteen y h.y
  have := y_at x env y0 y1 y2 y3 y4 y5 y6 y7 y8 y9 y10 y11 y12 y13 y14 y15 left alt neck k hk
  unfold yAt
  rw [Int.toNat_natCast]
  exact this

theorem isSet_st {s : VSt} (h : StOk s) (r : Int) (h0 : 0 ≤ r) (hr : r < 16) (w : World) :
    Calls Tryz.prog 125 #[.agg (stA s), .int .i64 r] w fun e w' => e = .returned (.bool (setV s r)) ∧ Below w.heap.size w w' := by
  obtain ⟨x, env, y, left, alt, neck⟩ := s
  obtain ⟨y0, y1, y2, y3, y4, y5, y6, y7, y8, y9, y10, y11, y12, y13, y14, y15, rfl⟩ := sixteen y h.y
  obtain ⟨k, rfl⟩ : ∃ k : Nat, r = k := ⟨r.toNat, by omega⟩
  exact isSet_any x env y0 y1 y2 y3 y4 y5 y6 y7 y8 y9 y10 y11 y12 y13 y14 y15 left alt neck k h.x (by omega) w
theorem has_st {s : VSt} (h : StOk s) (r : Int) (h0 : 0 ≤ r) (hr : r < 16) (w : World) :
    Calls Tryz.prog 129 #[.agg (stA s), .int .i64 r] w fun e w' => e = .returned (.int .i64 (if s.env ≤ r then -1 else yAt s r)) ∧ Below w.heap.size w w' := by
  obtain ⟨x, env, y, left, alt, neck⟩ := s
  obtain ⟨y0, y1, y2, y3, y4, y5, y6, y7, y8, y9, y10, y11, y12, y13, y14, y15, rfl⟩ := sixteen y h.y
  obtain ⟨k, rfl⟩ : ∃ k : Nat, r = k := ⟨r.toNat, by omega⟩
  exact has_any x env y0 y1 y2 y3 y4 y5 y6 y7 y8 y9 y10 y11 y12 y13 y14 y15 left alt neck k (by omega) w
theorem hasFirst_st {s : VSt} (h : StOk s) (n : Nat) (hn : n ≤ 8) (w : World) :
    Calls Tryz.prog 128 #[.agg (stA s), .int .i64 n] w fun e w' => e = .returned (.bool (coverV s n)) ∧ Below w.heap.size w w' := by
  obtain ⟨x, env, y, left, alt, neck⟩ := s
  obtain ⟨y0, y1, y2, y3, y4, y5, y6, y7, y8, y9, y10, y11, y12, y13, y14, y15, rfl⟩ := sixteen y h.y
  exact hasFirst_any x env y0 y1 y2 y3 y4 y5 y6 y7 y8 y9 y10 y11 y12 y13 y14 y15 left alt neck n h.x hn w

theorem has_eq (env r v : Int) (c : Int) (hc : c ≠ -1) : ((if env ≤ r then -1 else v) == c) = (decide (r < env) && decide (v = c)) := by
  by_cases h : env ≤ r
  · have h1 : ¬ r < env := by omega
    rw [if_pos h, decide_eq_false h1, Bool.false_and, beq_eq_false_iff_ne]
    exact fun e => hc e.symm
  · have h1 : r < env := by omega
    rw [if_neg h, decide_eq_true h1, Bool.true_and]
    by_cases hv : v = c
    · rw [decide_eq_true hv, hv]; simp
    · rw [decide_eq_false hv, beq_eq_false_iff_ne]; exact hv

theorem st_size : (Tryz.prog.info? 58).map (·.size) = some 21 := by kernel_rfl
theorem st_row : (Tryz.prog.underlying 58).map TypeDesc.isRow = some true := by kernel_rfl
theorem wpList_load_want {ops : Array Oper} {rest : List Oper} {op : Oper} {a : Act} {w : World} {Q : Exit → Act → World → Prop} (hw : Region.wanted op (yielded ops a.tmps) = true) (x : Operand) (ho : op.op = .load 58 x)
    (g : Nat) (hx : a.eval x = .pointer (some ⟨g, 0, none⟩)) (A : Array Value) (hb : Box w g 58 A) (hs : A.size = 21)
    (h : wpList Tryz.prog ops Q rest (a.put op.dst (.agg A)) w) : wpList Tryz.prog ops Q (op :: rest) a w := by
  have hr := st_row
  obtain ⟨d, hd⟩ : ∃ d, Tryz.prog.underlying 58 = some d := by
    cases hu : Tryz.prog.underlying 58 with
    | none => rw [hu] at hr; exact absurd hr (by decide)
    | some d => exact ⟨d, rfl⟩
  have hd' : d.isRow = true := by
    rw [hd] at hr
    exact Option.some.inj hr
  have hl : A.toList.length = 21 := by rw [Array.length_toList, hs]
  refine BigFrame.wpList_want hw fun K hK => wp_load_mid 58 x ho g 0 hx A.toList d (fun j v hv => by
    rw [hb.cell, Nat.zero_add, ← Array.getElem?_toList]; exact hv) hd hd' (by rw [hl]; exact st_size) ?_
  rw [Array.toArray_toList]
  exact hK _ _ h
theorem wpList_load_state {ops : Array Oper} {rest : List Oper} {op : Oper} {a : Act} {w : World} {Q : Exit → Act → World → Prop} (hgd : op.guard = none) (x : Operand) (ho : op.op = .load 58 x)
    (g : Nat) (hx : a.eval x = .pointer (some ⟨g, 0, none⟩)) (A : Array Value) (hb : Box w g 58 A) (hs : A.size = 21)
    (h : wpList Tryz.prog ops Q rest (a.put op.dst (.agg A)) w) : wpList Tryz.prog ops Q (op :: rest) a w :=
  wpList_load_want (by simp only [Region.wanted, hgd]) x ho g hx A hb hs h

theorem isTerm_st {s : VSt} (hs : StOk s) (r : Int) (h0 : 0 ≤ r) (hr : r < 32) (w : World) :
    Calls Tryz.prog 127 #[.agg (stA s), .int .i64 r] w fun e w' => e = .returned (.bool (termV s r)) ∧ Below w.heap.size w w' := by
  have HB := Lib.hid (alloc_below w (.cells (stA s) 58))
  have HX := Lib.hid (Box.new w 58 (stA s))
  have HZ := Lib.hid (stA_size hs)
  by_cases h : r < 16
  · have HR : Hid (termV s r = setV s r) := Lib.hid (if_pos h)
    have HI := Lib.hid (fun w => isSet_st hs r h0 h w)
    generalize termV s r = res at HR ⊢
    generalize setV s r = sv at HR HI
    generalize stA s = A at HB HX HZ HI ⊢
    go_enter Tryz.func127, Tryz.ntmps127
    go_upto_region 1 with (fail)
    obtain ⟨w1, hw1⟩ : ∃ w1, w.alloc (.cells A 58) = w1 := ⟨_, rfl⟩
    obtain ⟨g, hg⟩ : ∃ g, w.heap.size = g := ⟨_, rfl⟩
    rw [hw1] at HB HX ⊢
    have HG := Lib.hid HB.out.size
    rw [hg] at HB HX HG ⊢
    clear hw1
    go_wp2_with (first | (refine wpList_load_state rfl (.tmp 2) rfl g rfl A HX.out HZ.out ?_) | (go_at_call 125; refine (HI.out _).mono ?_; rintro e1 w2 ⟨rfl, hb1⟩; have HB1 := Lib.hid (HB.out.trans (hb1.mono HG.out)); clear hb1))
    go_ret
    exact ⟨by rw [HR.out]; rfl, by first | exact HB1.out | exact HB.out | (rw [hg]; exact HB1.out) | (rw [hg]; exact HB.out)⟩
  · have hk0 : 0 ≤ r - 16 := by omega
    have hk1 : r - 16 < 16 := by omega
    have HR : Hid (termV s r = ((if s.env ≤ r - 16 then -1 else yAt s (r - 16)) == 1)) := Lib.hid (by
      rw [has_eq _ _ _ 1 (by decide)]
      exact if_neg h)
    have HI := Lib.hid (fun w => has_st hs (r - 16) hk0 hk1 w)
    generalize termV s r = res at HR ⊢
    generalize (if s.env ≤ r - 16 then -1 else yAt s (r - 16)) = sv at HR HI
    generalize stA s = A at HB HX HZ HI ⊢
    go_enter Tryz.func127, Tryz.ntmps127
    go_upto_region 1 with (fail)
    obtain ⟨w1, hw1⟩ : ∃ w1, w.alloc (.cells A 58) = w1 := ⟨_, rfl⟩
    obtain ⟨g, hg⟩ : ∃ g, w.heap.size = g := ⟨_, rfl⟩
    rw [hw1] at HB HX ⊢
    have HG := Lib.hid HB.out.size
    rw [hg] at HB HX HG ⊢
    clear hw1
    go_wp2_with (first | (refine wpList_load_state rfl (.tmp 2) rfl g rfl A HX.out HZ.out ?_) | (go_at_call 129; refine (HI.out _).mono ?_; rintro e1 w2 ⟨rfl, hb1⟩; have HB1 := Lib.hid (HB.out.trans (hb1.mono HG.out)); clear hb1))
    go_ret
    exact ⟨by rw [HR.out]; rfl, by first | exact HB1.out | exact HB.out | (rw [hg]; exact HB1.out) | (rw [hg]; exact HB.out)⟩

theorem mayBe_st {s : VSt} (hs : StOk s) (r : Int) (h0 : 0 ≤ r) (hr : r < 32) (w : World) :
    Calls Tryz.prog 126 #[.agg (stA s), .int .i64 r] w fun e w' => e = .returned (.bool (mayV s r)) ∧ Below w.heap.size w w' := by
  have HB := Lib.hid (alloc_below w (.cells (stA s) 58))
  have HX := Lib.hid (Box.new w 58 (stA s))
  have HZ := Lib.hid (stA_size hs)
  by_cases h : r < 16
  · have HR : Hid (mayV s r = true) := Lib.hid (by unfold mayV; rw [decide_eq_true h, Bool.true_or])
    generalize mayV s r = res at HR ⊢
    generalize stA s = A at HB HX HZ ⊢
    go_enter Tryz.func126, Tryz.ntmps126
    go_upto_region 1 with (fail)
    obtain ⟨w1, hw1⟩ : ∃ w1, w.alloc (.cells A 58) = w1 := ⟨_, rfl⟩
    obtain ⟨g, hg⟩ : ∃ g, w.heap.size = g := ⟨_, rfl⟩
    rw [hw1] at HB HX ⊢
    have HG := Lib.hid HB.out.size
    rw [hg] at HB HX HG ⊢
    clear hw1
    go_wp2_with (first | (refine wpList_load_want (by rfl) (.tmp 2) rfl g rfl A HX.out HZ.out ?_) | (go_at_call 125; refine (HI.out _).mono ?_; rintro e1 w2 ⟨rfl, hb1⟩; have HB1 := Lib.hid (HB.out.trans (hb1.mono HG.out)); clear hb1))
    go_ret
    exact ⟨by rw [HR.out]; rfl, by first | exact HB1.out | exact HB.out | (rw [hg]; exact HB1.out) | (rw [hg]; exact HB.out)⟩
  · have hk0 : 0 ≤ r - 16 := by omega
    have hk1 : r - 16 < 16 := by omega
    have HR : Hid (mayV s r = ((if s.env ≤ r - 16 then -1 else yAt s (r - 16)) == 0)) := Lib.hid (by
      rw [has_eq _ _ _ 0 (by decide)]
      unfold mayV; rw [decide_eq_false h, Bool.false_or])
    have HI := Lib.hid (fun w => has_st hs (r - 16) hk0 hk1 w)
    generalize mayV s r = res at HR ⊢
    generalize (if s.env ≤ r - 16 then -1 else yAt s (r - 16)) = sv at HR HI
    generalize stA s = A at HB HX HZ HI ⊢
    go_enter Tryz.func126, Tryz.ntmps126
    go_upto_region 1 with (fail)
    obtain ⟨w1, hw1⟩ : ∃ w1, w.alloc (.cells A 58) = w1 := ⟨_, rfl⟩
    obtain ⟨g, hg⟩ : ∃ g, w.heap.size = g := ⟨_, rfl⟩
    rw [hw1] at HB HX ⊢
    have HG := Lib.hid HB.out.size
    rw [hg] at HB HX HG ⊢
    clear hw1
    go_wp2_with (first | (refine wpList_load_want (by rfl) (.tmp 2) rfl g rfl A HX.out HZ.out ?_) | (go_at_call 129; refine (HI.out _).mono ?_; rintro e1 w2 ⟨rfl, hb1⟩; have HB1 := Lib.hid (HB.out.trans (hb1.mono HG.out)); clear hb1))
    go_ret
    exact ⟨by rw [HR.out]; rfl, by first | exact HB1.out | exact HB.out | (rw [hg]; exact HB1.out) | (rw [hg]; exact HB.out)⟩

end Go.Proofs.YtlmbiafloiompaaGreatDoor

namespace Go.Proofs.YtlmbiafloiompaaGreatDoor
open Go Go.RowKit
set_option linter.unusedVariables false
set_option linter.unusedSimpArgs false
set_option maxRecDepth 4000

theorem two_boxes (w : World) (A B : Array Value) (t : TypeId) : Box ((w.alloc (.cells A t)).alloc (.cells B t)) w.heap.size t A ∧ Box ((w.alloc (.cells A t)).alloc (.cells B t)) (w.heap.size + 1) t B ∧ Below w.heap.size w ((w.alloc (.cells A t)).alloc (.cells B t)) := by
  have h1 := alloc_below w (.cells A t)
  have h2 := alloc_below (w.alloc (.cells A t)) (.cells B t)
  have e : (w.alloc (.cells A t)).heap.size = w.heap.size + 1 := by simp
  refine ⟨(Box.new w t A).alloc _, ?_, h1.trans (h2.mono h1.size)⟩
  have := Box.new (w.alloc (.cells A t)) t B
  rw [e] at this
  exact this

theorem fits_st {s t : VSt} (hs : StOk s) (ht : StOk t) (w : World) :
    Calls Tryz.prog 93 #[.agg (stA s), .agg (stA t)] w fun e w' => e = .returned (.bool (fitsV s t)) ∧ Below w.heap.size w w' := by
  obtain ⟨X1, X2, hb⟩ := two_boxes w (stA s) (stA t) 58
  have HB := Lib.hid hb
  have HX := Lib.hid X1
  have HY := Lib.hid X2
  clear hb X1 X2
  have s1 := stA_env s
  have s2 := stA_left hs
  have s3 := stA_alt hs
  have t1 := stA_env t
  have t2 := stA_left ht
  have t3 := stA_alt ht
  have HR : Hid (fitsV s t = (decide (s.env = t.env) && decide (s.left = t.left) && decide (s.alt = t.alt))) := Lib.hid rfl
  generalize fitsV s t = res at HR ⊢
  generalize stA s = A at HB HX HY s1 s2 s3 ⊢
  generalize stA t = B at HB HX HY t1 t2 t3 ⊢
  generalize s.env = se at HR s1
  generalize t.env = te at HR t1
  generalize s.left = sl at HR s2
  generalize t.left = tl at HR t2
  generalize s.alt = sa at HR s3
  generalize t.alt = ta at HR t3
  go_enter Tryz.func93, Tryz.ntmps93
  go_upto_region 1 with (fail)
  obtain ⟨w1, hw1⟩ : ∃ w1, (w.alloc (.cells A 58)).alloc (.cells B 58) = w1 := ⟨_, rfl⟩
  obtain ⟨g, hg⟩ : ∃ g, w.heap.size = g := ⟨_, rfl⟩
  rw [hw1] at HB HX HY ⊢
  have HG := Lib.hid HB.out.size
  rw [hg] at HB HX HY HG ⊢
  clear hw1
  have c1 := HX.out.cell 1
  have c2 := HX.out.cell 18
  have c3 := HX.out.cell 19
  have d1 := HY.out.cell 1
  have d2 := HY.out.cell 18
  have d3 := HY.out.cell 19
  rw [s1] at c1
  rw [s2] at c2
  rw [s3] at c3
  rw [t1] at d1
  rw [t2] at d2
  rw [t3] at d3
  clear s1 s2 s3 t1 t2 t3
  by_cases h1 : se = te
  · by_cases h2 : sl = tl
    · by_cases h3 : sa = ta
      · have HR' : Hid (res = true) := Lib.hid (by rw [HR.out, decide_eq_true h1, decide_eq_true h2, decide_eq_true h3]; rfl)
        clear HR
        subst h1 h2 h3
        go_wp2
        go_ret
        exact ⟨by rw [HR'.out]; rfl, by first | exact HB.out | (rw [hg]; exact HB.out)⟩
      · have HR' : Hid (res = false) := Lib.hid (by rw [HR.out, decide_eq_false h3, Bool.and_false])
        clear HR
        have h3' : (sa == ta) = false := beq_eq_false_iff_ne.2 h3
        subst h1 h2
        go_wp2
        go_ret
        exact ⟨by rw [HR'.out]; rfl, by first | exact HB.out | (rw [hg]; exact HB.out)⟩
    · have HR' : Hid (res = false) := Lib.hid (by rw [HR.out, decide_eq_false h2, Bool.and_false, Bool.false_and])
      clear HR
      have h2' : (sl == tl) = false := beq_eq_false_iff_ne.2 h2
      subst h1
      go_wp2
      go_ret
      exact ⟨by rw [HR'.out]; rfl, by first | exact HB.out | (rw [hg]; exact HB.out)⟩
  · have HR' : Hid (res = false) := Lib.hid (by rw [HR.out, decide_eq_false h1, Bool.false_and, Bool.false_and])
    clear HR
    have h1' : (se == te) = false := beq_eq_false_iff_ne.2 h1
    go_wp2
    go_ret
    exact ⟨by rw [HR'.out]; rfl, by first | exact HB.out | (rw [hg]; exact HB.out)⟩

theorem goesOn_any (op : Int) (w : World) :
    Calls Tryz.prog 99 #[.int .i64 op] w fun e w' => e = .returned (.bool (!(decide (op = 0) || decide (op = 18) || decide (op = 19) || decide (op = 26)))) ∧ w = w' := by
  obtain ⟨res, hres⟩ : ∃ res, (!(decide (op = 0) || decide (op = 18) || decide (op = 19) || decide (op = 26))) = res := ⟨_, rfl⟩
  rw [hres]
  have HR := Lib.hid hres
  clear hres
  by_cases h0 : op = 0
  · subst h0
    go_enter Tryz.func99, Tryz.ntmps99
    go_wp2
    go_ret
    exact ⟨by rw [← HR.out]; rfl, rfl⟩
  by_cases h1 : op = 18
  · subst h1
    go_enter Tryz.func99, Tryz.ntmps99
    go_wp2
    go_ret
    exact ⟨by rw [← HR.out]; rfl, rfl⟩
  by_cases h2 : op = 19
  · subst h2
    go_enter Tryz.func99, Tryz.ntmps99
    go_wp2
    go_ret
    exact ⟨by rw [← HR.out]; rfl, rfl⟩
  by_cases h3 : op = 26
  · subst h3
    go_enter Tryz.func99, Tryz.ntmps99
    go_wp2
    go_ret
    exact ⟨by rw [← HR.out]; rfl, rfl⟩
  have HT : Hid (res = true) := Lib.hid (by rw [← HR.out, decide_eq_false h0, decide_eq_false h1, decide_eq_false h2, decide_eq_false h3]; rfl)
  clear HR
  have e0 : (op == 0) = false := beq_eq_false_iff_ne.2 h0
  have e1 : (op == 18) = false := beq_eq_false_iff_ne.2 h1
  have e2 : (op == 19) = false := beq_eq_false_iff_ne.2 h2
  have e3 : (op == 26) = false := beq_eq_false_iff_ne.2 h3
  go_enter Tryz.func99, Tryz.ntmps99
  go_wp2
  go_ret
  exact ⟨by rw [HT.out]; rfl, rfl⟩

end Go.Proofs.YtlmbiafloiompaaGreatDoor
