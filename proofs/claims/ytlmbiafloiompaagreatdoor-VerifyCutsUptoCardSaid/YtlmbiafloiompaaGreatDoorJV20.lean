/-
  3 texts in one (VerK VerJ RegT). Conditions: those of each theorem.
-/
import Derived.Test.YtlmbiafloiompaaGreatDoorJV19
import Derived.Deep.RegionHeld3
import Derived.StillTailTactics
namespace Go.Proofs.YtlmbiafloiompaaGreatDoor
open Go Go.RowKit
set_option linter.unusedVariables false
set_option linter.unusedSimpArgs false
set_option maxRecDepth 4000

theorem three_boxes (w : World) (A B C : Array Value) (t : TypeId) : Box (((w.alloc (.cells A t)).alloc (.cells B t)).alloc (.cells C t)) w.heap.size t A ∧ Box (((w.alloc (.cells A t)).alloc (.cells B t)).alloc (.cells C t)) (w.heap.size + 1) t B ∧ Box (((w.alloc (.cells A t)).alloc (.cells B t)).alloc (.cells C t)) (w.heap.size + 2) t C ∧ Below w.heap.size w (((w.alloc (.cells A t)).alloc (.cells B t)).alloc (.cells C t)) := by
  obtain ⟨h1, h2, h3⟩ := two_boxes w A B t
  have h4 := alloc_below ((w.alloc (.cells A t)).alloc (.cells B t)) (.cells C t)
  have e : ((w.alloc (.cells A t)).alloc (.cells B t)).heap.size = w.heap.size + 2 := by simp
  refine ⟨h1.alloc _, h2.alloc _, ?_, h3.trans (h4.mono h3.size)⟩
  have := Box.new ((w.alloc (.cells A t)).alloc (.cells B t)) t C
  rw [e] at this
  exact this
theorem stA_setx (s : VSt) (v : Nat) : stA { s with x := v } = (stA s).setIfInBounds 0 (.int .u32 (v : Int)) := rfl
theorem stA_setneck {s : VSt} (h : StOk s) (b : Bool) : stA { s with neck := b } = (stA s).setIfInBounds 20 (.bool b) := by
  obtain ⟨x, env, y, left, alt, neck⟩ := s
  obtain ⟨y0, y1, y2, y3, y4, y5, y6, y7, y8, y9, y10, y11, y12, y13, y14, y15, rfl⟩ := sixteen y h.y
  rfl
theorem stA_setleft {s : VSt} (h : StOk s) (v : Int) : stA { s with left := v } = (stA s).setIfInBounds 18 (.int .i64 v) := by
  obtain ⟨x, env, y, left, alt, neck⟩ := s
  obtain ⟨y0, y1, y2, y3, y4, y5, y6, y7, y8, y9, y10, y11, y12, y13, y14, y15, rfl⟩ := sixteen y h.y
  rfl
theorem stA_setalt {s : VSt} (h : StOk s) (b : Bool) : stA { s with alt := b } = (stA s).setIfInBounds 19 (.bool b) := by
  obtain ⟨x, env, y, left, alt, neck⟩ := s
  obtain ⟨y0, y1, y2, y3, y4, y5, y6, y7, y8, y9, y10, y11, y12, y13, y14, y15, rfl⟩ := sixteen y h.y
  rfl
theorem stA_setenv (s : VSt) (v : Int) : stA { s with env := v } = (stA s).setIfInBounds 1 (.int .i64 v) := rfl
theorem stA_sety {s : VSt} (h : StOk s) (k : Nat) (hk : k < 16) (v : Int) : stA { s with y := s.y.set k v } = (stA s).setIfInBounds (2 + k) (.int .i64 v) := by
  obtain ⟨x, env, y, left, alt, neck⟩ := s
  obtain ⟨y0, y1, y2, y3, y4, y5, y6, y7, y8, y9, y10, y11, y12, y13, y14, y15, rfl⟩ := sixteen y h.y
  have h : k = 0 ∨ k = 1 ∨ k = 2 ∨ k = 3 ∨ k = 4 ∨ k = 5 ∨ k = 6 ∨ k = 7 ∨ k = 8 ∨ k = 9 ∨ k = 10 ∨ k = 11 ∨ k = 12 ∨ k = 13 ∨ k = 14 ∨ k = 15 := by omega
  rcases h with rfl | rfl | rfl | rfl | rfl | rfl | rfl | rfl | rfl | rfl | rfl | rfl | rfl | rfl | rfl | rfl <;> rfl
def zeroA : Array Value := #[.int .u32 0, .int .i64 0, .int .i64 0, .int .i64 0, .int .i64 0, .int .i64 0, .int .i64 0, .int .i64 0, .int .i64 0, .int .i64 0, .int .i64 0, .int .i64 0, .int .i64 0, .int .i64 0, .int .i64 0, .int .i64 0, .int .i64 0, .int .i64 0, .int .i64 0, .bool false, .bool false]
/-- Joined up to place k. -/
def joinK (s t : VSt) (k : Nat) : VSt := { joinV s t with y := mixTo s.y t.y k }
theorem joinK_zero (s t : VSt) : joinK s t 0 = { { s with x := s.x &&& t.x } with neck := s.neck && t.neck } := by unfold joinK joinV; rw [mixTo_zero]
theorem joinK_all {s t : VSt} (hs : StOk s) (ht : StOk t) : joinK s t 16 = joinV s t := by
  have := mixTo_all s.y t.y (hs.y.trans ht.y.symm)
  rw [hs.y] at this
  unfold joinK
  rw [this]
  rfl
theorem joinK_ok {s t : VSt} (hs : StOk s) (ht : StOk t) (k : Nat) : StOk (joinK s t k) := ⟨(mixTo_length s.y t.y (hs.y.trans ht.y.symm) k).trans hs.y, Nat.lt_of_le_of_lt Nat.and_le_left hs.x⟩

set_option maxHeartbeats 4000000 in
theorem with_st {s t : VSt} (hs : StOk s) (ht : StOk t) (w : World) :
    Calls Tryz.prog 94 #[.agg (stA s), .agg (stA t)] w fun e w' => e = .returned (.agg (stA (joinV s t))) ∧ Below w.heap.size w w' := by
  obtain ⟨C, hC⟩ : ∃ C : Nat → Array Value, ∀ k, C k = stA (joinK s t k) := ⟨fun k => _, fun _ => rfl⟩
  obtain ⟨Y, hY⟩ : ∃ Y : Nat → Int, ∀ k : Nat, Y k = yAt s (k : Int) := ⟨fun k => _, fun _ => rfl⟩
  obtain ⟨Z, hZ⟩ : ∃ Z : Nat → Int, ∀ k : Nat, Z k = yAt t (k : Int) := ⟨fun k => _, fun _ => rfl⟩
  obtain ⟨X1, X2, X3, hb⟩ := three_boxes w (stA s) (stA t) zeroA 58
  have HB := Lib.hid hb
  have HX := Lib.hid X1
  have HY := Lib.hid X2
  have HZ := Lib.hid X3
  clear hb X1 X2 X3
  have s0 := stA_x s
  have t0 := stA_x t
  have s20 := stA_neck hs
  have t20 := stA_neck ht
  have HAND := Lib.hid (u32_and_nat s.x t.x (Nat.lt_trans hs.x (by decide)) (Nat.lt_trans ht.x (by decide)))
  have HC0 : Hid (C 0 = ((stA s).setIfInBounds 0 (.int .u32 ((s.x &&& t.x : Nat) : Int))).setIfInBounds 20 (.bool (s.neck && t.neck))) := Lib.hid (by
    rw [hC, joinK_zero, stA_setneck (s := { s with x := s.x &&& t.x }) ⟨hs.y, Nat.lt_of_le_of_lt Nat.and_le_left hs.x⟩, stA_setx])
  have HCY : Hid (∀ k, k < 16 → (C k)[2 + k]? = some (.int .i64 (Y k))) := Lib.hid (fun k hk => by
    rw [hC, hY, stA_y (joinK_ok hs ht k) k hk]
    unfold yAt
    rw [Int.toNat_natCast]
    have := mixTo_at s.y t.y (hs.y.trans ht.y.symm) k (by rw [hs.y]; exact hk)
    show some (Value.int .i64 ((mixTo s.y t.y k).getD k 0)) = _
    rw [this])
  have HTY : Hid (∀ k, k < 16 → (stA t)[2 + k]? = some (.int .i64 (Z k))) := Lib.hid (fun k hk => by rw [hZ]; exact stA_y ht k hk)
  have HNE : Hid (∀ k, k < 16 → Y k ≠ Z k → C (k + 1) = (C k).setIfInBounds (2 + k) (.int .i64 3)) := Lib.hid (fun k hk hne => by
    rw [hC, hC, ← stA_sety (joinK_ok hs ht k) k hk 3]
    congr 1
    unfold joinK
    have e := mixTo_next s.y t.y (hs.y.trans ht.y.symm) k (by rw [hs.y]; exact hk)
    have hm : mixY (s.y.getD k 0) (t.y.getD k 0) = 3 := by
      unfold mixY
      rw [hY, hZ] at hne
      unfold yAt at hne
      rw [Int.toNat_natCast] at hne
      rw [if_neg hne]
    rw [hm] at e
    rw [e])
  have HEQ : Hid (∀ k, k < 16 → Y k = Z k → C (k + 1) = C k) := Lib.hid (fun k hk he => by
    rw [hC, hC]
    congr 1
    unfold joinK
    rw [hY, hZ] at he
    unfold yAt at he
    rw [Int.toNat_natCast] at he
    rw [mixTo_same s.y t.y (hs.y.trans ht.y.symm) k (by rw [hs.y]; exact hk) he])
  have HALL : Hid (stA (joinV s t) = C 16) := Lib.hid (by rw [hC, joinK_all hs ht])
  have HSZ : Hid (∀ k, (C k).size = 21) := Lib.hid (fun k => by rw [hC]; exact stA_size (joinK_ok hs ht k))
  have H1 : Hid (∀ k, (C k).all (·.oneCell') = true) := Lib.hid (fun k => by rw [hC]; exact stA_one _)
  have HZE : Hid (zeroA = #[.int .u32 0, .int .i64 0, .int .i64 0, .int .i64 0, .int .i64 0, .int .i64 0, .int .i64 0, .int .i64 0, .int .i64 0, .int .i64 0, .int .i64 0, .int .i64 0, .int .i64 0, .int .i64 0, .int .i64 0, .int .i64 0, .int .i64 0, .int .i64 0, .int .i64 0, .bool false, .bool false]) := Lib.hid rfl
  have HZS : Hid (zeroA.size = 21) := Lib.hid rfl
  clear hC hY hZ
  generalize stA (joinV s t) = R at HALL ⊢
  generalize zeroA = O at HB HX HY HZ HZE HZS
  generalize stA s = A at HB HX HY HZ HC0 s0 s20 ⊢
  generalize stA t = B at HB HX HY HZ HTY t0 t20 ⊢
  generalize s.x = sx at HAND HC0 s0
  generalize t.x = tx at HAND HC0 t0
  generalize s.neck = sn at HC0 s20
  generalize t.neck = tn at HC0 t20
  generalize sx &&& tx = xx at HAND HC0
  clear hs ht
  go_enter Tryz.func94, Tryz.ntmps94
  go_upto_region 1 with (fail)
  rw [← HZE.out]
  obtain ⟨w1, hw1⟩ : ∃ w1, ((w.alloc (.cells A 58)).alloc (.cells B 58)).alloc (.cells O 58) = w1 := ⟨_, rfl⟩
  obtain ⟨g, hg⟩ : ∃ g, w.heap.size = g := ⟨_, rfl⟩
  rw [hw1] at HB HX HY HZ ⊢
  have HG := Lib.hid HB.out.size
  rw [hg] at HB HX HY HZ HG ⊢
  clear hw1 HZE
  have c0 := HX.out.cell 0
  have c20 := HX.out.cell 20
  have z0 := HX.out.frozen 0
  have z20 := HX.out.frozen 20
  have d0 := HY.out.cell 0
  have d20 := HY.out.cell 20
  rw [s0] at c0
  rw [s20] at c20
  rw [t0] at d0
  rw [t20] at d20
  clear s0 s20 t0 t20
  obtain ⟨nb, hnb⟩ : ∃ nb, (sn && tn) = nb := ⟨_, rfl⟩
  rw [hnb] at HC0
  have HX2 := Lib.hid ((HX.out.set_ 0 (.int .u32 (xx : Int))).set_ 20 (.bool nb))
  rw [← HC0.out] at HX2
  have HY2 := Lib.hid ((HY.out.far (p := ⟨g, 0, none⟩) (by simp) (.int .u32 (xx : Int))).far (p := ⟨g, 20, none⟩) (by simp) (.bool nb))
  have HZ2 := Lib.hid ((HZ.out.far (p := ⟨g, 0, none⟩) (by simp) (.int .u32 (xx : Int))).far (p := ⟨g, 20, none⟩) (by simp) (.bool nb))
  have HB2 := Lib.hid ((HB.out.setCell (p := ⟨g, 0, none⟩) (Nat.le_refl _) (.int .u32 (xx : Int))).setCell (p := ⟨g, 20, none⟩) (Nat.le_refl _) (.bool nb))
  have HAND2 := HAND.out
  clear HC0 HX HY HZ HB HAND
  rcases Bool.eq_false_or_eq_true sn with hsn | hsn
  all_goals
    subst hsn
    try (obtain rfl : tn = nb := hnb)
    try (obtain rfl : false = nb := hnb)
    go_upto_region 3 with (fail)
    generalize hw2 : (w1.setCell ⟨g, 0, none⟩ (.int .u32 (xx : Int))).setCell ⟨g, 20, none⟩ _ = w2 at HX2 HY2 HZ2 HB2 ⊢
    clear hw2 c0 c20 z0 z20 d0 d20 HAND2
    go_wp2
    go_loopw [5, 19] (fun yv i wr => ∃ k : Nat, k ≤ 16 ∧ i = .int .i64 k ∧ Hid (Box wr g 58 (C k)) ∧ Hid (Box wr (g + 1) 58 B) ∧ Hid (Box wr (g + 2) 58 O) ∧ Hid (Below g w wr)) (fun yv i _ => 16 - (intOf i).toNat)
    case atStart => exact ⟨0, by omega, rfl, HX2, HY2, HZ2, HB2⟩
    obtain ⟨k, hk, rfl, HX, HY, HZ, HB⟩ := hrel
    clear HX2 HY2 HZ2 HB2
    by_cases hlt : k < 16
    case pos =>
      have c1 := HX.out.cell (2 + k)
      have z1 := HX.out.frozen (2 + k)
      have d1 := HY.out.cell (2 + k)
      rw [HCY.out k hlt] at c1
      rw [HTY.out k hlt] at d1
      have i0 : (0 : Int) ≤ (k : Int) := by omega
      have i1 : (k : Int) < 16 := by omega
      by_cases hyz : Y k = Z k
      · have e1 : (Y k != Z k) = false := by rw [bne_eq_false_iff_eq]; exact hyz
        have HN := Lib.hid (HEQ.out k hlt hyz)
        clear hyz
        generalize Y k = yk at c1 e1
        generalize Z k = zk at d1 e1
        go_wp2_with fail
        go_quiet (fail)
        go_wp2
        go_roundw
        case rel => exact ⟨k + 1, by omega, by go_num, Lib.hid (by rw [HN.out]; exact HX.out.drewN _), Lib.hid (HY.out.drewN _), Lib.hid (HZ.out.drewN _), Lib.hid (bel_dn HB.out _)⟩
        case measure => simp [intOf]; omega
      · have e1 : (Y k != Z k) = true := by rw [bne_iff_ne]; exact hyz
        have HN := Lib.hid (HNE.out k hlt hyz)
        clear hyz
        generalize Y k = yk at c1 e1
        generalize Z k = zk at d1 e1
        go_wp2_with fail
        go_quiet (fail)
        go_wp2
        go_roundw
        case rel => exact ⟨k + 1, by omega, by go_num, Lib.hid (by rw [HN.out]; exact (HX.out.drewN _).set_ (2 + k) (.int .i64 3)), Lib.hid ((HY.out.drewN _).far (p := ⟨g, 2 + k, none⟩) (by simp) _), Lib.hid ((HZ.out.drewN _).far (p := ⟨g, 2 + k, none⟩) (by simp) _), Lib.hid ((bel_dn HB.out _).setCell (p := ⟨g, 2 + k, none⟩) (Nat.le_refl _) _)⟩
        case measure => simp [intOf]; omega
    case neg =>
    obtain rfl : k = 16 := by omega
    go_wp2_with (first | (refine wpList_load_state rfl (.tmp 2) rfl g rfl (C 16) HX.out (HSZ.out 16) ?_) | (refine wpList_store_state rfl (.tmp 4) (.tmp 35) rfl (g + 2) (C 16) O rfl rfl HZ.out (HSZ.out 16) HZS.out (H1.out 16) ?_))
    exact bodyPost_ret (results_state rfl _ _ (g + 2) (C 16) rfl (HZ.out.row (C 16)) (HSZ.out 16)) rfl ⟨by rw [HALL.out], by rw [hg]; exact below_row HB.out (by omega) (C 16)⟩

end Go.Proofs.YtlmbiafloiompaaGreatDoor

namespace Go.Proofs.YtlmbiafloiompaaGreatDoor
open Go
set_option linter.unusedVariables false
set_option linter.unusedSimpArgs false

/-! Labels. -/
def labK (i : Ins) (k : Nat) : List Int := ((List.range k).filter fun k => decide ((opsOf i.1).getD k 0 = 8) && decide ((argOf i).getD k 0 ≠ 65535)).map fun k => (argOf i).getD k 0
theorem labK_zero (i : Ins) : labK i 0 = [] := rfl
theorem labK_all (i : Ins) : labK i (opsOf i.1).length = labsV i := rfl
theorem labK_yes {i : Ins} {k : Nat} (h1 : (opsOf i.1).getD k 0 = 8) (h2 : (argOf i).getD k 0 ≠ 65535) : labK i (k + 1) = labK i k ++ [(argOf i).getD k 0] := by
  unfold labK
  rw [List.range_succ, List.filter_append, List.map_append]
  congr 1
  rw [List.filter_cons_of_pos (by rw [decide_eq_true h1, decide_eq_true h2]; rfl)]
  rfl
theorem labK_no {i : Ins} {k : Nat} (h : ¬ ((opsOf i.1).getD k 0 = 8 ∧ (argOf i).getD k 0 ≠ 65535)) : labK i (k + 1) = labK i k := by
  unfold labK
  rw [List.range_succ, List.filter_append, List.map_append, List.filter_cons_of_neg (by simpa using fun a b => h ⟨a, b⟩)]
  simp
theorem labK_len (i : Ins) (k : Nat) : (labK i k).length ≤ k := by
  unfold labK
  rw [List.length_map]
  exact Nat.le_trans (List.length_filter_le _ _) (by rw [List.length_range]; exact Nat.le_refl _)
theorem ops_len (op : Int) : (opsOf op).length ≤ 4 := by
  unfold opsOf
  repeat' split
  all_goals decide

/-! Spans. -/
def spC (p : Int × Int × Int) : List Value := [.int .i64 p.1, .int .i64 p.2.1, .int .i64 p.2.2]
def spZ (p : ByteArray × Int × Int) : Int × Int × Int := (p.2.1, p.2.2, 0)
def spansOf (n : Nat) : List (ByteArray × Int × Int) → List (Int × Int × Int)
  | [] => []
  | p :: L => (p.2.1, p.2.2, nextEnt n L) :: spansOf n L
theorem spans_len (n : Nat) : ∀ L, (spansOf n L).length = L.length
  | [] => rfl
  | p :: L => by simp [spansOf, spans_len n L]
theorem spans_at (n : Nat) : ∀ (L : List (ByteArray × Int × Int)) (k : Nat) (h : k < L.length), (spansOf n L)[k]? = some (L[k].2.1, L[k].2.2, nextEnt n (L.drop (k + 1)))
  | [], k, h => absurd h (Nat.not_lt_zero _)
  | p :: L, 0, h => rfl
  | p :: L, k + 1, h => by
    have := spans_at n L k (by simpa using h)
    simpa [spansOf] using this
theorem perm_lift {α β : Type} [DecidableEq α] (f : α → β) : ∀ (l' : List β) (l : List α), l'.Perm (l.map f) → ∃ L : List α, L.Perm l ∧ L.map f = l'
  | [], l, h => by
    have h1 := h.symm.eq_nil
    rw [List.map_eq_nil_iff] at h1
    exact ⟨[], by rw [h1], rfl⟩
  | x :: xs, l, h => by
    have hx : x ∈ l.map f := h.mem_iff.1 List.mem_cons_self
    obtain ⟨a, ha, e⟩ := List.mem_map.1 hx
    have h1 := List.perm_cons_erase ha
    have h2 := (h.trans (h1.map f))
    rw [List.map_cons, e] at h2
    obtain ⟨L, hL, hm⟩ := perm_lift f xs (l.erase a) h2.cons_inv
    exact ⟨a :: L, (hL.cons a).trans h1.symm, by rw [List.map_cons, hm, e]⟩

/-! The program's way, place by place. -/
def stepF (o : Ob) (ar stop : Int) (L : List (ByteArray × Int × Int)) (n : Nat) (P : List VPl) : Except Nat (Nat × List VPl) :=
  match runS o ar stop (stop - n).toNat n P with
  | .error m => .error m
  | .ok Q => faultP o L stop.toNat Q
theorem stepF_end {o : Ob} {ar stop : Int} {L : List (ByteArray × Int × Int)} {n : Nat} {P : List VPl} (h : (n : Int) = stop) : stepF o ar stop L n P = faultP o L n P := by
  subst h
  unfold stepF
  rw [show ((n : Int) - (n : Int)).toNat = 0 by omega, runS, Int.toNat_natCast]
theorem stepF_bad {o : Ob} {ar stop : Int} {L : List (ByteArray × Int × Int)} {n : Nat} {P : List VPl} (h : (n : Int) < stop) (hp : passV o ar stop n P = none) : stepF o ar stop L n P = .error n := by
  unfold stepF
  rw [show (stop - (n : Int)).toNat = (stop - ((n : Int) + 1)).toNat + 1 by omega, runS, hp]
theorem stepF_go {o : Ob} {ar stop : Int} {L : List (ByteArray × Int × Int)} {n : Nat} {P Q : List VPl} (h : (n : Int) < stop) (hp : passV o ar stop n P = some Q) : stepF o ar stop L n P = stepF o ar stop L (n + 1) Q := by
  unfold stepF
  rw [show (stop - (n : Int)).toNat = (stop - ((n : Int) + 1)).toNat + 1 by omega, runS, hp, show (((n + 1 : Nat) : Int)) = (n : Int) + 1 by omega]
theorem faultP_bad {o : Ob} {p : ByteArray × Int × Int} {L : List (ByteArray × Int × Int)} {n : Nat} {P : List VPl} (h : (n : Int) < p.2.2) : faultP o (p :: L) n P = .error n := by rw [faultP, if_pos h]
theorem faultP_go {o : Ob} {p : ByteArray × Int × Int} {L : List (ByteArray × Int × Int)} {n : Nat} {P : List VPl} (h : ¬ (n : Int) < p.2.2) : faultP o (p :: L) n P = stepF o p.2.1 (nextEnt o.code.length L) L n (bringV P p.2.2 (stEntry p.2.1.toNat)) := by rw [faultP, if_neg h]; rfl
theorem pass_len {o : Ob} {ar stop : Int} {n : Nat} {P Q : List VPl} (h : passV o ar stop n P = some Q) : Q.length = P.length := by
  unfold passV at h
  simp only at h
  split at h
  · cases h
  · injection h with h
    rw [← h]
    have all : ∀ (l : List Int) (f : Int → VSt) (R : List VPl), (l.foldl (fun Q t => bringV Q t (f t)) R).length = R.length := by
      intro l f
      induction l with
      | nil => intro R; rfl
      | cons t l ih => intro R; rw [List.foldl_cons, ih, bring_len]
    rw [all _ (fun _ => if (o.code.getD n (0, 0, 0, 0, 0)).1 = 26 then makesV o (o.code.getD n (0, 0, 0, 0, 0)) (P.getD n plZero).s else stOther ar.toNat)]
    split
    · rw [bring_len]
    · rfl

end Go.Proofs.YtlmbiafloiompaaGreatDoor

namespace Go.Proofs.YtlmbiafloiompaaGreatDoor
open Go
set_option linter.unusedVariables false
set_option linter.unusedSimpArgs false

section
variable {P : Program} {ops : Array Oper} {Q : Exit → Act → World → Prop} {md : Region.Mode} {S : World → Prop} {n : Nat}

/-- In whatever order; each operation ahead of number n keeps S. -/
def wpAnyT (P : Program) (md : Region.Mode) (ops : Array Oper) (Q : Exit → Act → World → Prop) (S : World → Prop) (n : Nat) : Nat → Array Bool → Act → World → Prop
  | 0, L, a, w => Region.ready md ops L = [] ∧ Q .normal a w
  | f + 1, L, a, w => (Region.ready md ops L = [] → Q .normal a w) ∧ ∀ i ∈ Region.ready md ops L, wpOp P ops Q i (fun a' w' => (i < n → S w → S w') ∧ wpAnyT P md ops Q S n f (L.setIfInBounds i true) a' w') a w
theorem wpAny_of_T : ∀ (f : Nat) (L : Array Bool) (a : Act) (w : World), wpAnyT P md ops Q S n f L a w → wpAny P md ops Q f L a w
  | 0, _, _, _, h => h
  | f + 1, _, _, _, h => ⟨h.1, fun i hi => wpOp_mono (fun a' w' k => wpAny_of_T f _ a' w' k.2) (h.2 i hi)⟩

/-- One operation is taken first: it yields v in every world of T, which every other one keeps that may come up ahead of it. -/
theorem wpAnyT_first {T : World → Prop} {i : Nat} {oi : Oper} {v : Value} (hi : ops[i]? = some oi) (hs : Region.noSelect ops = true) (hQ : ∀ c a w, Q (.panic c) (a.put oi.dst v) w → Q (.panic c) a w)
    (hT : ∀ j (L : Array Bool) (w w' : World), L.getD i true = false → j ∈ Region.ready md ops L → (j < n → S w → S w') → T w → T w') :
    ∀ (f : Nat) (L : Array Bool) (a : Act) (w : World), (∀ j oj, ops[j]? = some oj → j ≠ i → L.getD j true = false → (∀ e ∈ oj.after, Region.binds md e = true → e.on ≠ i) → oi.apart ops oj = true) →
      i ∈ Region.ready md ops L → YieldsIf P ops T oi v a → T w → wpAnyT P md ops Q S n f (L.setIfInBounds i true) (a.put oi.dst v) w → wpAnyT P md ops Q S n (f + 1) L a w := by
  intro f
  induction f with
  | zero =>
    intro L a w hap hr hy hw H
    have hne : Region.ready md ops L ≠ [] := fun e => by rw [e] at hr; cases hr
    refine ⟨fun e => absurd e hne, fun j hj => ?_⟩
    by_cases e : j = i
    · rw [e]
      exact hy.wpOp hi hw ⟨fun _ x => x, H⟩
    · have h0 := ready_mono hj e
      rw [H.1] at h0
      cases h0
  | succ f ih =>
    intro L a w hap hr hy hw H
    have hne : Region.ready md ops L ≠ [] := fun e => by rw [e] at hr; cases hr
    have hun := (mem_ready.1 hr).1
    refine ⟨fun e => absurd e hne, fun j hj => ?_⟩
    by_cases e : j = i
    · rw [e]
      exact hy.wpOp hi hw ⟨fun _ x => x, H⟩
    · obtain ⟨hj0, oj, hoj, hall⟩ := mem_ready.1 hj
      have hno : ∀ e ∈ oj.after, Region.binds md e = true → e.on ≠ i := fun e he hb h0 => by
        have h1 := hall e he hb
        rw [h0, getD_both hun] at h1
        cases h1
      have h2 := wpOp_putIf hoj (hap j oj hoj e hj0 hno) (fun cs b => Region.noSelect_spec hs i oi cs b hi) (fun cs b => Region.noSelect_spec hs j oj cs b hoj) hQ hy (H.2 j (ready_mono hj e))
      refine wpOp_mono (fun a' w' k => ⟨k.2.1, ih (L.setIfInBounds j true) a' w' (fun m om hm hmi hmu hmn => hap m om hm hmi ?_ hmn) (ready_mono hr (Ne.symm e)) k.1 (hT j L w w' hun hj k.2.1 hw) ?_⟩) h2
      · by_cases hjm : j = m
        · rw [← hjm]; exact hj0
        · rw [getD_set_ne true hjm] at hmu; exact hmu
      · rw [Array.setIfInBounds_comm _ _ e]
        exact k.2.2

/-- All from number n on wait for i. -/
def waitsB (md : Region.Mode) (ops : Array Oper) (n i : Nat) : Bool := (List.range ops.size).all fun j => decide (j < n) || Region.waitsFor md ops j i
theorem waitsB_lt {i j : Nat} {L : Array Bool} (h : waitsB md ops n i = true) (hun : L.getD i true = false) (hj : j ∈ Region.ready md ops L) : j < n := by
  obtain ⟨_, oj, hoj, hall⟩ := mem_ready.1 hj
  have h1 := List.all_eq_true.1 h j (List.mem_range.2 (Array.getElem?_eq_some_iff.1 hoj).1)
  simp only [Bool.or_eq_true, decide_eq_true_eq] at h1
  rcases h1 with h1 | h1
  · exact h1
  · obtain ⟨o', ho', e, he, hb, hon⟩ := Region.waitsFor_spec h1
    have : o' = oj := Option.some.inj (ho'.symm.trans hoj)
    subst this
    have h2 := hall e he hb
    rw [hon, getD_both hun] at h2
    cases h2
/-- A load, or what else reads, in a world of S. -/
theorem tkS {i : Nat} {oi : Oper} {v : Value} {f : Nat} {L : Array Bool} {a : Act} {w : World} (hi : ops[i]? = some oi) (hQ : ∀ c a w, Q (.panic c) (a.put oi.dst v) w → Q (.panic c) a w) (hy : YieldsIf P ops S oi v a) (hS : S w)
    (h : wpAnyT P md ops Q S n f (L.setIfInBounds i true) (a.put oi.dst v) w) (hs : Region.noSelect ops = true := by kernel_rfl) (hf : Region.free md ops L i = true := by kernel_rfl) (hr : (Region.ready md ops L).contains i = true := by kernel_rfl) (hw : waitsB md ops n i = true := by kernel_rfl) : wpAnyT P md ops Q S n (f + 1) L a w :=
  wpAnyT_first hi hs hQ (fun j L w w' hun hj hk hT => hk (waitsB_lt hw hun hj) hT) f L a w (Region.free_spec hi hf) (by simpa using hr) hy hS h
/-- What yields in whatever world. -/
theorem tkP {i : Nat} {oi : Oper} {v : Value} {f : Nat} {L : Array Bool} {a : Act} {w : World} (hi : ops[i]? = some oi) (hQ : ∀ c a w, Q (.panic c) (a.put oi.dst v) w → Q (.panic c) a w) (hy : YieldsIf P ops (fun _ => True) oi v a)
    (h : wpAnyT P md ops Q S n f (L.setIfInBounds i true) (a.put oi.dst v) w) (hs : Region.noSelect ops = true := by kernel_rfl) (hf : Region.free md ops L i = true := by kernel_rfl) (hr : (Region.ready md ops L).contains i = true := by kernel_rfl) : wpAnyT P md ops Q S n (f + 1) L a w :=
  wpAnyT_first hi hs hQ (fun _ _ _ _ _ _ _ _ => trivial) f L a w (Region.free_spec hi hf) (by simpa using hr) hy trivial h
def AllT (P : Program) (md : Region.Mode) (ops : Array Oper) (Q : Exit → Act → World → Prop) (S : World → Prop) (n f : Nat) (L : Array Bool) (a : Act) (w : World) (rs : List Nat) : Prop :=
  ∀ i ∈ rs, wpOp P ops Q i (fun a' w' => (i < n → S w → S w') ∧ wpAnyT P md ops Q S n f (L.setIfInBounds i true) a' w') a w
theorem AllT.nil {f : Nat} {L : Array Bool} {a : Act} {w : World} : AllT P md ops Q S n f L a w [] := fun _ h => by cases h
theorem AllT.cons {f : Nat} {L : Array Bool} {a : Act} {w : World} {i : Nat} {o : Oper} {rs : List Nat} (ho : ops[i]? = some o)
    (h : ∀ K' : Act → World → Prop, Shut (∀ a w', (i < n → S w') → ((i < n → S w') → wpAnyT P md ops Q S n f (L.setIfInBounds i true) a w') → K' a w') → if Region.wanted o (yielded ops a.tmps) = true then Oper.wp P o a w K' Q else K' (a.put o.dst undef) w)
    (hs : AllT P md ops Q S n f L a w rs) : AllT P md ops Q S n f L a w (i :: rs) := fun j hj => by
  rcases List.mem_cons.1 hj with rfl | hj
  · exact wpOp_step ho (fun K' hK => h K' (fun a w' hS hW => hK a w' ⟨fun hn _ => hS hn, hW hS⟩))
  · exact hs j hj
theorem wpAnyT_ready {rs : List Nat} {f : Nat} {L : Array Bool} {a : Act} {w : World} (hr : Region.ready md ops L = rs) (hne : rs ≠ []) (h : AllT P md ops Q S n f L a w rs) : wpAnyT P md ops Q S n (f + 1) L a w :=
  ⟨fun e => absurd (hr ▸ e) hne, hr ▸ h⟩
theorem wpAnyT_done {L : Array Bool} {a : Act} {w : World} (hr : Region.ready md ops L = []) (h : Q .normal a w) : ∀ f, wpAnyT P md ops Q S n f L a w
  | 0 => ⟨hr, h⟩
  | _ + 1 => ⟨fun _ => h, by rw [hr]; simp⟩
theorem wp_region_T {id : Nat} {a : Act} {w : World} (n : Nat) (S : World → Prop) (hm : P.follows .mixedOrders = true) (hS : S w.drew) (h : S w.drew → wpAnyT P .any ops Q S n ops.size (Array.replicate ops.size false) a w.drew) : (Code.region id ops true).wp P Q a w :=
  wp_region_any hm (wpAny_of_T _ _ _ _ (h hS))
end

end Go.Proofs.YtlmbiafloiompaaGreatDoor
