/-
  6 texts in one (VerD VerE VerF VerG VerH VerN). Conditions: those of each theorem.
-/
import Derived.Test.YtlmbiafloiompaaGreatDoorJV16
import Derived.Test.YtlmbiafloiompaaGreatDoorJV15
namespace Go.Proofs.YtlmbiafloiompaaGreatDoor
open Go Go.RowKit
set_option linter.unusedVariables false
set_option linter.unusedSimpArgs false
set_option maxRecDepth 4000

theorem stA_entry (n : Nat) (n1 : Int) (h : n1 = ((2 ^ n - 1 : Nat) : Int)) : stA (stEntry n) = #[.int .u32 n1, .int .i64 (-1), .int .i64 0, .int .i64 0, .int .i64 0, .int .i64 0, .int .i64 0, .int .i64 0, .int .i64 0, .int .i64 0, .int .i64 0, .int .i64 0, .int .i64 0, .int .i64 0, .int .i64 0, .int .i64 0, .int .i64 0, .int .i64 0, .int .i64 0, .bool false, .bool true] := by
  subst h
  rfl
theorem StOk.entry (n : Nat) (hn : n ≤ 8) : StOk (stEntry n) := ⟨rfl, Nat.lt_of_lt_of_le (first_lt hn) (by decide)⟩
theorem stA_one (s : VSt) : (stA s).all (·.oneCell') = true := by
  refine Array.all_eq_true_iff_forall_mem.2 fun v hv => ?_
  simp only [stA, List.mem_toArray, List.mem_cons, List.mem_append, List.mem_map, List.not_mem_nil, or_false] at hv
  rcases hv with rfl | rfl | ⟨_, _, rfl⟩ | rfl | rfl | rfl <;> rfl
theorem Box.row {w : World} {g : Nat} {t : TypeId} {A : Array Value} (h : Box w g t A) (B : Array Value) : Box (w.setRow g B) g t B := setRow_heap w g A B t (0, 0) h
theorem Box.row_far {w : World} {g k : Nat} {t : TypeId} {A : Array Value} (h : Box w g t A) (hk : g ≠ k) (B : Array Value) : Box (w.setRow k B) g t A := (setRow_other w k g B hk).trans h
theorem below_row {b : Nat} {w w' : World} (h : Below b w w') {g : Nat} (hg : b ≤ g) (B : Array Value) : Below b w (w'.setRow g B) :=
  ⟨h.os, h.tape, h.output, by rw [setRow_size]; exact h.size, fun k hk => (setRow_other w' g k B (by omega)).trans (h.block k hk)⟩
theorem results_state {fn : Func} {p : Tmp} (h : fn.results = #[.cell p 58]) (tmps : Array Value) (w : World) (g : Nat) (A : Array Value)
    (hp : tmps.getD p undef = .pointer (some ⟨g, 0, none⟩)) (hb : Box w g 58 A) (hs : A.size = 21) : (results fn tmps).run Tryz.prog w = .ok (.agg A) w := by
  have hr := st_row
  obtain ⟨d, hd⟩ : ∃ d, Tryz.prog.underlying 58 = some d := by
    cases hu : Tryz.prog.underlying 58 with
    | none => rw [hu] at hr; exact absurd hr (by decide)
    | some d => exact ⟨d, rfl⟩
  have hd' : d.isRow = true := by
    rw [hd] at hr
    exact Option.some.inj hr
  exact results_cell_row h tmps w g 58 A (0, 0) d hp hb hd (by cases d <;> first | rfl | exact absurd hd' Bool.false_ne_true) (by rw [hs]; exact st_size)
theorem wpList_store_state {ops : Array Oper} {rest : List Oper} {o : Oper} {a : Act} {w : World} {Q : Exit → Act → World → Prop} (hgd : o.guard = none) (x y : Operand) (ho : o.op = .store 58 x y)
    (g : Nat) (A B : Array Value) (hx : a.eval x = .pointer (some ⟨g, 0, none⟩)) (hy : a.eval y = .agg A) (hb : Box w g 58 B) (h1 : A.size = 21) (h2 : B.size = 21) (hone : A.all (·.oneCell') = true)
    (h : wpList Tryz.prog ops Q rest (a.put o.dst undef) (w.setRow g A)) : wpList Tryz.prog ops Q (o :: rest) a w :=
  wpList_store_row hgd 58 x y ho g A hx hy 58 B hb (by rw [h1]; exact st_size) (by rw [h1, h2]) hone h

theorem atEntry_st (n : Nat) (hn : n ≤ 8) (w : World) :
    Calls Tryz.prog 54 #[.int .i64 n] w fun e w' => e = .returned (.agg (stA (stEntry n))) ∧ Below w.heap.size w w' := by
  have HF := Lib.hid (fun w => pfirst_any n hn w)
  have HE := Lib.hid (fun n1 h => stA_entry n n1 h)
  have HS := Lib.hid (stA_size (StOk.entry n hn))
  have H1 := Lib.hid (stA_one (stEntry n))
  obtain ⟨n1, hn1⟩ : ∃ n1 : Int, ((2 ^ n - 1 : Nat) : Int) = n1 := ⟨_, rfl⟩
  rw [hn1] at HF
  have HE2 := Lib.hid (HE.out n1 hn1.symm)
  clear HE hn1
  generalize stA (stEntry n) = A at HE2 HS H1 ⊢
  have HB0 := Lib.hid (fun o => alloc_below w o)
  have HX0 := Lib.hid (fun cs => Box.new w 58 cs)
  go_enter Tryz.func54, Tryz.ntmps54
  go_upto_region 1 with (fail)
  obtain ⟨Z, hZ⟩ : ∃ Z : Array Value, #[.int .u32 0, .int .i64 0, .int .i64 0, .int .i64 0, .int .i64 0, .int .i64 0, .int .i64 0, .int .i64 0, .int .i64 0, .int .i64 0, .int .i64 0, .int .i64 0, .int .i64 0, .int .i64 0, .int .i64 0, .int .i64 0, .int .i64 0, .int .i64 0, .int .i64 0, .bool false, .bool false] = Z := ⟨_, rfl⟩
  have HZ : Hid (Z.size = 21) := Lib.hid (by rw [← hZ]; rfl)
  rw [hZ]
  have HB := Lib.hid (HB0.out (.cells Z 58))
  have HX := Lib.hid (HX0.out Z)
  clear HB0 HX0 hZ
  obtain ⟨w1, hw1⟩ : ∃ w1, w.alloc (.cells Z 58) = w1 := ⟨_, rfl⟩
  rw [hw1] at HB HX ⊢
  clear hw1
  obtain ⟨g, hg⟩ : ∃ g, w.heap.size = g := ⟨_, rfl⟩
  rw [hg] at HB HX ⊢
  go_wp2_with (first | (go_at_call 95; refine (HF.out _).mono ?_; rintro e1 w2 ⟨rfl, rfl⟩) | (refine wpList_store_state rfl (.tmp 2) (.tmp 5) rfl g A Z rfl (by rw [HE2.out]; rfl) HX.out HS.out HZ.out H1.out ?_))
  exact bodyPost_ret (results_state rfl _ _ g A rfl (HX.out.row A) HS.out) rfl ⟨rfl, by rw [hg]; exact below_row HB.out (Nat.le_refl _) A⟩

end Go.Proofs.YtlmbiafloiompaaGreatDoor

namespace Go.Proofs.YtlmbiafloiompaaGreatDoor
open Go Go.RowKit
set_option linter.unusedVariables false
set_option linter.unusedSimpArgs false
set_option maxRecDepth 4000

theorem stA_other (n : Nat) : stA (stOther n) = (stA (stEntry n)).setIfInBounds 19 (.bool true) := rfl
theorem StOk.other (n : Nat) (hn : n ≤ 8) : StOk (stOther n) := ⟨rfl, Nat.lt_of_lt_of_le (first_lt hn) (by decide)⟩

theorem atOtherWay_st (n : Nat) (hn : n ≤ 8) (w : World) :
    Calls Tryz.prog 101 #[.int .i64 n] w fun e w' => e = .returned (.agg (stA (stOther n))) ∧ Below w.heap.size w w' := by
  have HF := Lib.hid (fun w => atEntry_st n hn w)
  have HS := Lib.hid (stA_size (StOk.entry n hn))
  have H1 := Lib.hid (stA_one (stEntry n))
  have HS2 := Lib.hid (stA_size (StOk.other n hn))
  have H12 := Lib.hid (stA_one (stOther n))
  have HA := stA_alt (StOk.entry n hn)
  have HO := Lib.hid (stA_other n)
  generalize stA (stEntry n) = A at HF HS H1 HO HA ⊢
  generalize stA (stOther n) = C at HO HS2 H12 ⊢
  have HB0 := Lib.hid (fun o => alloc_below w o)
  have HX0 := Lib.hid (fun cs => Box.new w 58 cs)
  go_enter Tryz.func101, Tryz.ntmps101
  go_upto_region 1 with (fail)
  obtain ⟨Z, hZ⟩ : ∃ Z : Array Value, #[.int .u32 0, .int .i64 0, .int .i64 0, .int .i64 0, .int .i64 0, .int .i64 0, .int .i64 0, .int .i64 0, .int .i64 0, .int .i64 0, .int .i64 0, .int .i64 0, .int .i64 0, .int .i64 0, .int .i64 0, .int .i64 0, .int .i64 0, .int .i64 0, .int .i64 0, .bool false, .bool false] = Z := ⟨_, rfl⟩
  have HZ : Hid (Z.size = 21) := Lib.hid (by rw [← hZ]; rfl)
  rw [hZ]
  have HB := Lib.hid (HB0.out (.cells Z 58))
  have HX := Lib.hid (HX0.out Z)
  clear HB0 HX0
  have HZE := Lib.hid hZ
  clear hZ
  obtain ⟨w1, hw1⟩ : ∃ w1, w.alloc (.cells Z 58) = w1 := ⟨_, rfl⟩
  rw [hw1] at HB HX ⊢
  clear hw1
  obtain ⟨g, hg⟩ : ∃ g, w.heap.size = g := ⟨_, rfl⟩
  have HG := Lib.hid HB.out.size
  rw [hg] at HB HX HG ⊢
  have HL := Lib.hid HX.out.lt
  go_upto_region 2 with (first | (go_at_call 54; refine (HF.out _).mono ?_; rintro e1 w2 ⟨rfl, hb2⟩; have HX2 := Lib.hid (HX.out.below hb2 HL.out); have HB2 := Lib.hid (HB.out.trans (hb2.mono HG.out)); clear hb2 HX HB) | (refine wpList_store_state rfl (.tmp 3) (.tmp 5) rfl w2.heap.size A _ rfl rfl (Box.new w2 58 _) HS.out rfl H1.out ?_))
  have HL2 := Lib.hid HX2.out.lt
  have HX3 := Lib.hid ((HX2.out.alloc (.cells #[.int .u32 0, .int .i64 0, .int .i64 0, .int .i64 0, .int .i64 0, .int .i64 0, .int .i64 0, .int .i64 0, .int .i64 0, .int .i64 0, .int .i64 0, .int .i64 0, .int .i64 0, .int .i64 0, .int .i64 0, .int .i64 0, .int .i64 0, .int .i64 0, .int .i64 0, .bool false, .bool false] 58)).row_far (Nat.ne_of_lt HL2.out) A)
  have HY3 := Lib.hid ((Box.new w2 58 #[.int .u32 0, .int .i64 0, .int .i64 0, .int .i64 0, .int .i64 0, .int .i64 0, .int .i64 0, .int .i64 0, .int .i64 0, .int .i64 0, .int .i64 0, .int .i64 0, .int .i64 0, .int .i64 0, .int .i64 0, .int .i64 0, .int .i64 0, .int .i64 0, .int .i64 0, .bool false, .bool false]).row A)
  have HB3 := Lib.hid (below_row (HB2.out.alloc (Nat.le_of_lt HL2.out) (.cells #[.int .u32 0, .int .i64 0, .int .i64 0, .int .i64 0, .int .i64 0, .int .i64 0, .int .i64 0, .int .i64 0, .int .i64 0, .int .i64 0, .int .i64 0, .int .i64 0, .int .i64 0, .int .i64 0, .int .i64 0, .int .i64 0, .int .i64 0, .int .i64 0, .int .i64 0, .bool false, .bool false] 58)) (Nat.le_of_lt HL2.out) A)
  obtain ⟨w3, hw3⟩ : ∃ w3, (w2.alloc (.cells #[.int .u32 0, .int .i64 0, .int .i64 0, .int .i64 0, .int .i64 0, .int .i64 0, .int .i64 0, .int .i64 0, .int .i64 0, .int .i64 0, .int .i64 0, .int .i64 0, .int .i64 0, .int .i64 0, .int .i64 0, .int .i64 0, .int .i64 0, .int .i64 0, .int .i64 0, .bool false, .bool false] 58)).setRow w2.heap.size A = w3 := ⟨_, rfl⟩
  rw [hw3] at HX3 HY3 HB3 ⊢
  clear hw3 HX2 HB2
  obtain ⟨k, hk⟩ : ∃ k, w2.heap.size = k := ⟨_, rfl⟩
  rw [hk] at HY3 HL2 ⊢
  have c1 := HY3.out.cell 19
  have z1 := HY3.out.frozen 19
  rw [HA] at c1
  clear HA
  have HY4 := Lib.hid (HY3.out.set_ 19 (.bool true))
  have HX4 := Lib.hid (HX3.out.far (p := ⟨k, 19, none⟩) (Nat.ne_of_lt HL2.out) (.bool true))
  have HB4 := Lib.hid (HB3.out.setCell (p := ⟨k, 19, none⟩) (Nat.le_of_lt HL2.out) (.bool true))
  rw [← HO.out] at HY4
  go_upto_region 3 with (fail)
  obtain ⟨w4, hw4⟩ : ∃ w4, w3.setCell ⟨k, 19, none⟩ (.bool true) = w4 := ⟨_, rfl⟩
  rw [hw4] at HX4 HY4 HB4 ⊢
  clear hw4 c1 z1
  go_wp2_with (first | (refine wpList_load_state rfl (.tmp 3) rfl k rfl C HY4.out HS2.out ?_) | (refine wpList_store_state rfl (.tmp 2) (.tmp 7) rfl g C Z rfl rfl HX4.out HS2.out HZ.out H12.out ?_))
  exact bodyPost_ret (results_state rfl _ _ g C rfl (HX4.out.row C) HS2.out) rfl ⟨rfl, by rw [hg]; exact below_row HB4.out (Nat.le_refl _) C⟩

end Go.Proofs.YtlmbiafloiompaaGreatDoor

namespace Go.Proofs.YtlmbiafloiompaaGreatDoor
open Go Go.RowKit
set_option linter.unusedVariables false
set_option linter.unusedSimpArgs false
set_option maxRecDepth 4000

theorem stA_reg (s : VSt) (k : Nat) : stA (regV s k) = (stA s).setIfInBounds 0 (.int .u32 ((s.x ||| 2 ^ k : Nat) : Int)) := by
  unfold regV
  rw [Int.toNat_natCast]
  rfl
theorem stA_yset {s : VSt} (h : StOk s) (k : Nat) (hk : k < 16) : stA { s with y := s.y.set k 1 } = (stA s).setIfInBounds (2 + k) (.int .i64 1) := by
  obtain ⟨x, env, y, left, alt, neck⟩ := s
  obtain ⟨y0, y1, y2, y3, y4, y5, y6, y7, y8, y9, y10, y11, y12, y13, y14, y15, rfl⟩ := sixteen y h.y
  have h : k = 0 ∨ k = 1 ∨ k = 2 ∨ k = 3 ∨ k = 4 ∨ k = 5 ∨ k = 6 ∨ k = 7 ∨ k = 8 ∨ k = 9 ∨ k = 10 ∨ k = 11 ∨ k = 12 ∨ k = 13 ∨ k = 14 ∨ k = 15 := by omega
  rcases h with rfl | rfl | rfl | rfl | rfl | rfl | rfl | rfl | rfl | rfl | rfl | rfl | rfl | rfl | rfl | rfl <;> rfl
theorem or_is (x k : Nat) (hx : x < 2 ^ 16) (hk : k < 16) : bits .or .u32 (x : Int) ((2 : Int) ^ k % 4294967296) = ((x ||| 2 ^ k : Nat) : Int) := by
  have h2 : (2 : Nat) ^ k < 2 ^ 16 := Nat.pow_lt_pow_right (by decide) hk
  have e : (2 : Int) ^ k % 4294967296 = ((2 ^ k : Nat) : Int) := by
    have : ((2 ^ k : Nat) : Int) = (2 : Int) ^ k := by push_cast; rfl
    rw [← this]
    generalize (2 : Nat) ^ k = m at h2
    omega
  rw [e]
  exact u32_or_nat x (2 ^ k) (by omega) (by omega)

theorem become_x {s : VSt} (hs : StOk s) (k : Nat) (hk : k < 16) (w : World) (g : Nat) (hb : Box w g 58 (stA s)) :
    Calls Tryz.prog 131 #[.pointer (some ⟨g, 0, none⟩), .int .i64 k] w fun e w' => e = .returned (.tuple #[]) ∧ Fr (fun j => j = g) w w' ∧ Box w' g 58 (stA (regV s k)) := by
  have hmin : min k 32 = k := by omega
  have HV := Lib.hid (or_is s.x k hs.x hk)
  have HS := Lib.hid (stA_reg s k)
  have c0 := hb.cell 0
  have z0 := hb.frozen 0
  rw [stA_x] at c0
  have HB := Lib.hid hb
  clear hb
  generalize stA (regV s k) = C at HS ⊢
  generalize stA s = A at HS HB
  generalize s.x = x at c0 HV HS
  go_enter Tryz.func131, Tryz.ntmps131
  go_wp2_with fail
  go_region
  all_goals go_wp2
  all_goals exact bodyPost_end (results_none rfl _ _ _) rfl ⟨rfl, ((Fr.refl (fun j => j = g) w).setCell (p := ⟨g, 0, none⟩) (.inl rfl) _).drew, by rw [HS.out, ← HV.out]; exact (HB.out.set_ 0 _).drew⟩

theorem become_y {s : VSt} (hs : StOk s) (k : Nat) (hk : k < 16) (w : World) (g : Nat) (hb : Box w g 58 (stA s)) :
    Calls Tryz.prog 131 #[.pointer (some ⟨g, 0, none⟩), .int .i64 ((k : Int) + 16)] w fun e w' => e = .returned (.tuple #[]) ∧ Fr (fun j => j = g) w w' ∧ Box w' g 58 (stA { s with y := s.y.set k 1 }) := by
  have HS := Lib.hid (stA_yset hs k hk)
  have c0 := hb.cell (2 + k)
  have z0 := hb.frozen (2 + k)
  rw [stA_y hs k hk] at c0
  have HB := Lib.hid hb
  clear hb
  generalize stA { s with y := s.y.set k 1 } = C at HS ⊢
  generalize stA s = A at HS HB
  generalize yAt s k = v at c0
  have e1 : (k : Int) + 16 - 16 = k := by omega
  have e2 : ¬ ((k : Int) + 16 < 16) := by omega
  go_enter Tryz.func131, Tryz.ntmps131
  go_wp2_with fail
  exact bodyPost_end (results_none rfl _ _ _) rfl ⟨rfl, (Fr.refl (fun j => j = g) w).setCell (p := ⟨g, 2 + k, none⟩) (.inl rfl) _, by rw [HS.out]; exact HB.out.set_ (2 + k) (.int .i64 1)⟩

end Go.Proofs.YtlmbiafloiompaaGreatDoor

namespace Go.Proofs.YtlmbiafloiompaaGreatDoor
open Go Go.RowKit
set_option linter.unusedVariables false
set_option linter.unusedSimpArgs false
set_option maxRecDepth 4000

theorem takesOtherWay_any (op : Int) (w : World) :
    Calls Tryz.prog 122 #[.int .i64 op] w fun e w' => e = .returned (.bool (decide (op = 21) || decide (op = 22))) ∧ w = w' := by
  obtain ⟨res, hres⟩ : ∃ res, (decide (op = 21) || decide (op = 22)) = res := ⟨_, rfl⟩
  rw [hres]
  have HR := Lib.hid hres
  clear hres
  by_cases h0 : op = 21
  · subst h0
    go_enter Tryz.func122, Tryz.ntmps122
    go_wp2
    go_ret
    exact ⟨by rw [← HR.out]; rfl, rfl⟩
  by_cases h1 : op = 22
  · subst h1
    go_enter Tryz.func122, Tryz.ntmps122
    go_wp2
    go_ret
    exact ⟨by rw [← HR.out]; rfl, rfl⟩
  have HT : Hid (res = false) := Lib.hid (by rw [← HR.out, decide_eq_false h0, decide_eq_false h1]; rfl)
  clear HR
  have e0 : (op == 21) = false := beq_eq_false_iff_ne.2 h0
  have e1 : (op == 22) = false := beq_eq_false_iff_ne.2 h1
  go_enter Tryz.func122, Tryz.ntmps122
  go_wp2
  go_ret
  exact ⟨by rw [HT.out]; rfl, rfl⟩

theorem isPart_any (op : Int) (w : World) :
    Calls Tryz.prog 123 #[.int .i64 op] w fun e w' => e = .returned (.bool (decide (op = 6) || decide (op = 7) || decide (op = 8) || decide (op = 9))) ∧ w = w' := by
  obtain ⟨res, hres⟩ : ∃ res, (decide (op = 6) || decide (op = 7) || decide (op = 8) || decide (op = 9)) = res := ⟨_, rfl⟩
  rw [hres]
  have HR := Lib.hid hres
  clear hres
  by_cases h0 : op = 6
  · subst h0
    go_enter Tryz.func123, Tryz.ntmps123
    go_wp2
    go_ret
    exact ⟨by rw [← HR.out]; rfl, rfl⟩
  by_cases h1 : op = 7
  · subst h1
    go_enter Tryz.func123, Tryz.ntmps123
    go_wp2
    go_ret
    exact ⟨by rw [← HR.out]; rfl, rfl⟩
  by_cases h2 : op = 8
  · subst h2
    go_enter Tryz.func123, Tryz.ntmps123
    go_wp2
    go_ret
    exact ⟨by rw [← HR.out]; rfl, rfl⟩
  by_cases h3 : op = 9
  · subst h3
    go_enter Tryz.func123, Tryz.ntmps123
    go_wp2
    go_ret
    exact ⟨by rw [← HR.out]; rfl, rfl⟩
  have HT : Hid (res = false) := Lib.hid (by rw [← HR.out, decide_eq_false h0, decide_eq_false h1, decide_eq_false h2, decide_eq_false h3]; rfl)
  clear HR
  have e0 : (op == 6) = false := beq_eq_false_iff_ne.2 h0
  have e1 : (op == 7) = false := beq_eq_false_iff_ne.2 h1
  have e2 : (op == 8) = false := beq_eq_false_iff_ne.2 h2
  have e3 : (op == 9) = false := beq_eq_false_iff_ne.2 h3
  go_enter Tryz.func123, Tryz.ntmps123
  go_wp2
  go_ret
  exact ⟨by rw [HT.out]; rfl, rfl⟩

theorem behind_any (p s e n l : Int) (w : World) :
    Calls Tryz.prog 130 #[.agg #[.int .i64 p, .int .i64 s, .int .i64 e], .int .i64 n, .int .i64 l] w fun r w' => r = .returned (.bool (decide (n < l) && decide (l < e))) ∧ Below w.heap.size w w' := by
  have HB := Lib.hid (alloc_below w (.cells #[.int .i64 p, .int .i64 s, .int .i64 e] 128))
  by_cases h1 : n < l
  · by_cases h2 : l < e
    · have HR : Hid ((decide (n < l) && decide (l < e)) = true) := Lib.hid (by rw [decide_eq_true h1, decide_eq_true h2]; rfl)
      generalize (decide (n < l) && decide (l < e)) = res at HR ⊢
      go_enter Tryz.func130, Tryz.ntmps130
      go_wp2
      go_ret
      exact ⟨by rw [HR.out]; rfl, HB.out⟩
    · have HR : Hid ((decide (n < l) && decide (l < e)) = false) := Lib.hid (by rw [decide_eq_false h2, Bool.and_false])
      generalize (decide (n < l) && decide (l < e)) = res at HR ⊢
      go_enter Tryz.func130, Tryz.ntmps130
      go_wp2
      go_ret
      exact ⟨by rw [HR.out]; rfl, HB.out⟩
  · have HR : Hid ((decide (n < l) && decide (l < e)) = false) := Lib.hid (by rw [decide_eq_false h1, Bool.false_and])
    generalize (decide (n < l) && decide (l < e)) = res at HR ⊢
    go_enter Tryz.func130, Tryz.ntmps130
    go_wp2
    go_ret
    exact ⟨by rw [HR.out]; rfl, HB.out⟩

end Go.Proofs.YtlmbiafloiompaaGreatDoor

namespace Go.Proofs.YtlmbiafloiompaaGreatDoor
set_option linter.unusedVariables false

/-- The first k places are joined. -/
def mixTo (y z : List Int) (k : Nat) : List Int := List.zipWith mixY (y.take k) (z.take k) ++ y.drop k
theorem mixTo_zero (y z : List Int) : mixTo y z 0 = y := by simp [mixTo]
theorem mixTo_all (y z : List Int) (h : y.length = z.length) : mixTo y z y.length = List.zipWith mixY y z := by
  have e : z.take y.length = z := by rw [h, List.take_length]
  simp [mixTo, e]
theorem mixTo_length (y z : List Int) (h : y.length = z.length) (k : Nat) : (mixTo y z k).length = y.length := by
  simp [mixTo]
  omega
theorem mixTo_at (y z : List Int) (h : y.length = z.length) (k : Nat) (hk : k < y.length) : (mixTo y z k).getD k 0 = y.getD k 0 := by
  have hz : k < z.length := by omega
  have hl : (List.zipWith mixY (y.take k) (z.take k)).length = k := by simp; omega
  simp only [mixTo, List.getD_eq_getElem?_getD]
  rw [List.getElem?_append_right (by omega), hl, Nat.sub_self, List.getElem?_drop, Nat.add_zero]
theorem mixTo_next (y z : List Int) (h : y.length = z.length) (k : Nat) (hk : k < y.length) : mixTo y z (k + 1) = (mixTo y z k).set k (mixY (y.getD k 0) (z.getD k 0)) := by
  have hz : k < z.length := by omega
  have hl : (List.zipWith mixY (y.take k) (z.take k)).length = k := by simp; omega
  have ey : y.getD k 0 = y[k] := by simp [hk]
  have ez : z.getD k 0 = z[k] := by simp [hz]
  unfold mixTo
  rw [List.set_append_right _ _ (by omega), hl, Nat.sub_self, List.take_succ_eq_append_getElem hk, List.take_succ_eq_append_getElem hz, List.zipWith_append (by simp; omega), List.append_assoc, List.drop_eq_getElem_cons hk, ey, ez]
  rfl
theorem mixTo_same (y z : List Int) (h : y.length = z.length) (k : Nat) (hk : k < y.length) (e : y.getD k 0 = z.getD k 0) : mixTo y z (k + 1) = mixTo y z k := by
  rw [mixTo_next y z h k hk]
  have hm : mixY (y.getD k 0) (z.getD k 0) = (mixTo y z k).getD k 0 := by
    rw [mixTo_at y z h k hk]
    unfold mixY
    rw [if_pos e]
  have hk' : k < (mixTo y z k).length := by rw [mixTo_length y z h]; exact hk
  rw [hm]
  have : (mixTo y z k).getD k 0 = (mixTo y z k)[k] := by simp [hk']
  rw [this, List.set_getElem_self]

end Go.Proofs.YtlmbiafloiompaaGreatDoor

namespace Go.Proofs.YtlmbiafloiompaaGreatDoor
open Go
set_option linter.unusedVariables false
set_option linter.unusedSimpArgs false

theorem own_spec (o : Ob) (n : Int) : ∀ m, (((List.range m).foldl (ownStep o n) (-1) = -1 ∧ ∀ k, k < m → ¬ entP o (k : Int) ≤ n) ∨
    (∃ j : Nat, j < m ∧ (List.range m).foldl (ownStep o n) (-1) = (j : Int) ∧ entP o (j : Int) ≤ n ∧ ∀ k, k < m → entP o (k : Int) ≤ n → entP o (k : Int) ≤ entP o (j : Int)))
  | 0 => .inl ⟨rfl, fun k h => absurd h (by omega)⟩
  | m + 1 => by
    rw [List.range_succ, List.foldl_append]
    show (ownStep o n _ m = -1 ∧ _) ∨ _
    rcases own_spec o n m with ⟨h1, h2⟩ | ⟨j, hj, h1, h2, h3⟩
    · by_cases h : entP o (m : Int) ≤ n
      · right
        refine ⟨m, by omega, ?_, h, fun k hk hkn => ?_⟩
        · show ownStep o n _ m = _
          rw [h1, ownStep, if_pos ⟨h, .inl (by decide)⟩]
        · by_cases e : k = m
          · subst e; exact Int.le_refl _
          · exact absurd hkn (h2 k (by omega))
      · left
        refine ⟨by rw [h1, ownStep, if_neg (fun x => h x.1)], fun k hk hkn => ?_⟩
        by_cases e : k = m
        · subst e; exact h hkn
        · exact h2 k (by omega) hkn
    · right
      by_cases h : entP o (m : Int) ≤ n ∧ entP o (j : Int) < entP o (m : Int)
      · refine ⟨m, by omega, ?_, h.1, fun k hk hkn => ?_⟩
        · show ownStep o n _ m = _
          rw [h1, ownStep, if_pos ⟨h.1, .inr h.2⟩]
        · by_cases e : k = m
          · subst e; exact Int.le_refl _
          · have := h3 k (by omega) hkn
            omega
      · refine ⟨j, by omega, ?_, h2, fun k hk hkn => ?_⟩
        · show ownStep o n _ m = _
          rw [h1, ownStep, if_neg]
          rintro ⟨x1, x2⟩
          rcases x2 with x2 | x2
          · omega
          · exact h ⟨x1, x2⟩
        · by_cases e : k = m
          · subst e
            by_cases x : entP o (j : Int) < entP o (k : Int)
            · exact absurd ⟨hkn, x⟩ h
            · omega
          · exact h3 k (by omega) hkn
theorem min_spec (c : Int) : ∀ (l : List (ByteArray × Int × Int)) (m : Int), (l.foldl (fun m p => min m p.2.2) m = m ∨ ∃ p ∈ l, l.foldl (fun m p => min m p.2.2) m = p.2.2) ∧ l.foldl (fun m p => min m p.2.2) m ≤ m ∧ ∀ p ∈ l, l.foldl (fun m p => min m p.2.2) m ≤ p.2.2
  | [], m => ⟨.inl rfl, Int.le_refl _, fun p hp => by cases hp⟩
  | q :: l, m => by
    obtain ⟨h1, h2, h3⟩ := min_spec c l (min m q.2.2)
    rw [List.foldl_cons]
    refine ⟨?_, by omega, fun p hp => ?_⟩
    · rcases h1 with h1 | ⟨p, hp, h1⟩
      · rw [h1]
        by_cases h : m ≤ q.2.2
        · left; omega
        · right; exact ⟨q, List.mem_cons_self, by omega⟩
      · exact .inr ⟨p, List.mem_cons_of_mem _ hp, h1⟩
    · rcases List.mem_cons.1 hp with rfl | hp
      · omega
      · exact h3 p hp
/-- Sorted predicates: the next Entry, or the code's end. -/
def nextEnt (n : Nat) : List (ByteArray × Int × Int) → Int
  | [] => (n : Int)
  | p :: _ => p.2.2
/-- A place in the code of p, of predicates in order: those ahead of p begin earlier, those behind it later. -/
theorem place_in {o : Ob} {A L : List (ByteArray × Int × Int)} {p : ByteArray × Int × Int} (hperm : (A ++ p :: L).Perm o.preds) (hs : (A ++ p :: L).Pairwise (fun p q => p.2.2 < q.2.2)) {n : Int} (h0 : p.2.2 ≤ n) (h1 : n < nextEnt o.code.length L) (hlt : ∀ q ∈ o.preds, q.2.2 < (o.code.length : Int)) :
    (∃ j : Nat, ownV o n = (j : Int) ∧ o.preds[j]? = some p) ∧ stopV o n = nextEnt o.code.length L := by
  rw [List.pairwise_append] at hs
  obtain ⟨hA, hpL, hAL⟩ := hs
  rw [List.pairwise_cons] at hpL
  obtain ⟨hp, hL⟩ := hpL
  have hmem : ∀ q, q ∈ o.preds ↔ q ∈ A ∨ q = p ∨ q ∈ L := fun q => by rw [← hperm.mem_iff]; simp
  have hless : ∀ q ∈ L, n < q.2.2 := by
    intro q hq
    cases L with
    | nil => cases hq
    | cons r L' =>
      have hr : n < r.2.2 := h1
      rcases List.mem_cons.1 hq with rfl | hq
      · exact hr
      · rw [List.pairwise_cons] at hL
        have := hL.1 q hq
        omega
  constructor
  · have hent : ∀ k : Nat, k < o.preds.length → ∃ q ∈ o.preds, o.preds[k]? = some q ∧ entP o (k : Int) = q.2.2 := fun k hk => ⟨o.preds[k], List.getElem_mem hk, List.getElem?_eq_getElem hk, by unfold entP; rw [Int.toNat_natCast, List.getD_eq_getElem?_getD, List.getElem?_eq_getElem hk]; rfl⟩
    obtain ⟨i, hi, hpi⟩ := List.getElem_of_mem ((hmem p).2 (.inr (.inl rfl)))
    have hei : entP o (i : Int) = p.2.2 := by
      obtain ⟨q, _, h2, h3⟩ := hent i hi
      rw [List.getElem?_eq_getElem hi, hpi] at h2
      injection h2 with h2
      rw [h3, h2]
    unfold ownV
    rcases own_spec o n o.preds.length with ⟨_, h2⟩ | ⟨j, hj, h2, h3, h4⟩
    · exact absurd (by rw [hei]; exact h0) (h2 i hi)
    · refine ⟨j, h2, ?_⟩
      obtain ⟨q, hq, h5, h6⟩ := hent j hj
      have h7 := h4 i hi (by rw [hei]; exact h0)
      rw [hei, h6] at h7
      rw [h6] at h3
      rw [h5]
      congr 1
      rcases (hmem q).1 hq with hq' | hq' | hq'
      · have := hAL q hq' p List.mem_cons_self
        omega
      · exact hq'
      · have := hless q hq'
        omega
  · unfold stopV
    obtain ⟨h2, h3, h4⟩ := min_spec 0 (o.preds.filter fun p => decide (n < p.2.2)) (o.code.length : Int)
    cases L with
    | nil =>
      rcases h2 with h2 | ⟨q, hq, h2⟩
      · exact h2
      · rw [List.mem_filter] at hq
        obtain ⟨hq1, hq2⟩ := hq
        have hq3 : n < q.2.2 := by simpa using hq2
        rcases (hmem q).1 hq1 with x | x | x
        · have := hAL q x p List.mem_cons_self
          omega
        · subst x; omega
        · cases x
    | cons r L' =>
      have hr : n < r.2.2 := h1
      have hrm : r ∈ o.preds := (hmem r).2 (.inr (.inr List.mem_cons_self))
      have h5 := h4 r (List.mem_filter.2 ⟨hrm, by simpa using hr⟩)
      show _ = r.2.2
      rcases h2 with h2 | ⟨q, hq, h2⟩
      · have := hlt r hrm
        omega
      · rw [List.mem_filter] at hq
        obtain ⟨hq1, hq2⟩ := hq
        have hq3 : n < q.2.2 := by simpa using hq2
        rcases (hmem q).1 hq1 with x | x | x
        · have := hAL q x p List.mem_cons_self
          omega
        · subst x; omega
        · rcases List.mem_cons.1 x with rfl | x
          · omega
          · rw [List.pairwise_cons] at hL
            have := hL.1 q x
            omega

end Go.Proofs.YtlmbiafloiompaaGreatDoor
