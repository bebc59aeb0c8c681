/-
  The term with which a text begins (resolventref03.take), by a contract: a name, with terms or without. Conditions: a text of at most 100000 bytes; shorter texts are taken so.
-/
import Derived.Test.YtkfmagbaklikmaaDoorTakeC
import Derived.Test.YtkfmagbaklikmaaDoorFixB
namespace Go.Proofs.YtkfmagbaklikmaaDoor
open Go Go.RowKit
set_option linter.unusedVariables false
set_option linter.unusedSimpArgs false

theorem names_end (p : UInt8 → Bool) (L : List UInt8) (k : Nat) (ha : (L.take k).all p = true) (he : k = L.length ∨ ∃ h : k < L.length, p L[k] = false) : L.takeWhile p = L.take k := by
  have e : L = L.take k ++ L.drop k := (List.take_append_drop k L).symm
  have hd : (L.drop k).takeWhile p = [] := by
    rcases he with h | ⟨h, hb⟩
    · rw [List.drop_eq_nil_of_le (by omega)]
      rfl
    · rw [List.drop_eq_getElem_cons h, List.takeWhile_cons_of_neg (by simp [hb])]
  conv => lhs; rw [e]
  exact while_app _ _ _ ha hd

/-- What the loop over the terms keeps. -/
def argsAt (P : List UInt8 → Option (Tm × Nat)) (L : List UInt8) (k0 k : Nat) (ts : List Tm) : Prop :=
  k0 + ts.length ≤ k ∧ rArgs P (L.length + 1) true (L.drop k0) = (rArgs P (L.length + 1 - ts.length) (decide (ts.length = 0)) (L.drop k)).map (fun x => (ts ++ x.1, (k - k0) + x.2))
theorem argsAt_start (P : List UInt8 → Option (Tm × Nat)) (L : List UInt8) (k0 : Nat) : argsAt P L k0 k0 [] := by
  refine ⟨by simp, ?_⟩
  simp
theorem argsAt_fuel {P : List UInt8 → Option (Tm × Nat)} {L : List UInt8} {k0 k : Nat} {ts : List Tm} (h : argsAt P L k0 k ts) (hk : k ≤ L.length) : ∃ q, L.length + 1 - ts.length = q + 1 := ⟨L.length - ts.length, by have := h.1; omega⟩
theorem argsAt_none {P : List UInt8 → Option (Tm × Nat)} {L : List UInt8} {k0 k : Nat} {ts : List Tm} (h : argsAt P L k0 k ts) (hk : k ≤ L.length) (hc : (headIs (L.drop k) 40 && decide (ts.length = 0) || headIs (L.drop k) 44) = true) (hp : P (L.drop (k + 1)) = none) : rArgs P (L.length + 1) true (L.drop k0) = none := by
  obtain ⟨q, hq⟩ := argsAt_fuel h hk
  rw [h.2, hq, rArgs, if_pos hc, List.drop_drop, hp]
  rfl
theorem argsAt_next {P : List UInt8 → Option (Tm × Nat)} {L : List UInt8} {k0 k n : Nat} {ts : List Tm} {t : Tm} (h : argsAt P L k0 k ts) (hk : k ≤ L.length) (hc : (headIs (L.drop k) 40 && decide (ts.length = 0) || headIs (L.drop k) 44) = true) (hp : P (L.drop (k + 1)) = some (t, n)) : argsAt P L k0 (k + 1 + n) (ts ++ [t]) := by
  obtain ⟨q, hq⟩ := argsAt_fuel h hk
  have h1 := h.1
  refine ⟨by simp; omega, ?_⟩
  have e1 : L.length + 1 - (ts ++ [t]).length = q := by simp; omega
  have e2 : decide ((ts ++ [t]).length = 0) = false := by simp
  rw [h.2, hq, rArgs, if_pos hc, List.drop_drop, hp, e1, e2]
  simp only []
  rw [List.drop_drop, Nat.add_assoc]
  cases rArgs P q false (L.drop (k + (1 + n))) with
  | none => rfl
  | some x =>
    simp only [Option.map_some, List.append_assoc, List.singleton_append]
    congr 2
    omega
theorem argsAt_end {P : List UInt8 → Option (Tm × Nat)} {L : List UInt8} {k0 k : Nat} {ts : List Tm} (h : argsAt P L k0 k ts) (hk : k ≤ L.length) (hc : (headIs (L.drop k) 40 && decide (ts.length = 0) || headIs (L.drop k) 44) = false) : rArgs P (L.length + 1) true (L.drop k0) = if headIs (L.drop k) 41 = true then some (ts, (k - k0) + 1) else none := by
  obtain ⟨q, hq⟩ := argsAt_fuel h hk
  rw [h.2, hq, rArgs, if_neg (by rw [hc]; decide)]
  split <;> simp

theorem fk_named {w W0 : World} {g f : Nat} (nm : ByteArray) (h : Tk0 w W0 g) : Fk w (W0.alloc (.cells #[.int .i64 2, .int .i64 0, .string nm, .slice none 0 0] 24)) f #[.int .i64 0, .int .i64 0, .string ⟨#[]⟩, .slice none 0 0] 2 0 nm g g W0.heap.size [] (.slice none 0 0) [] := by
  have hl := h.box.lt
  exact ⟨h.box.alloc _, h.box.alloc _, Box.new _ _ _, h.new, h.new, h.bl.size, by omega, by omega, World.ownsRow_nil _ _ _ _, by simp [Value.ownBlock], by simp [Value.ownBlock], by simp [Value.ownBlock], fun i h => by simp at h, h.bl.alloc h.bl.size _⟩

set_option maxHeartbeats 8000000 in
set_option maxRecDepth 100000 in
theorem take_n (f : Nat) (ih : TakeC f) (s : ByteArray) (w : World) (hs : s.size ≤ 100000) (h0 : 0 < s.size) (hf : s.size < f + 1) (h88 : ¬ s[0] = 88) (h91 : ¬ s[0] = 91) :
    Calls Tryd.prog 29 #[.string s] w fun e w' => TakeOk w (f + 1) (rNamed (rTake f) s.data.toList) e w' := by
  have he : ¬ ((s[0].toNat : Nat) : Int) = 88 := fun e => h88 (UInt8.toNat_inj.1 (by show _ = 88; omega))
  have he' : ¬ ((s[0].toNat : Nat) : Int) = 91 := fun e => h91 (UInt8.toNat_inj.1 (by show _ = 91; omega))
  have he1 : ¬ s[0].toNat = 88 := by omega
  have he2 : ¬ s[0].toNat = 91 := by omega
  have he3 : (((s[0].toNat : Nat) : Int) == 88) = false := beq_eq_false_iff_ne.2 he
  have he4 : (((s[0].toNat : Nat) : Int) == 91) = false := beq_eq_false_iff_ne.2 he'
  clear h88 h91
  obtain ⟨rv, hrv⟩ : ∃ rv, rNamed (rTake f) s.data.toList = rv := ⟨_, rfl⟩
  have HRVE := Lib.hid hrv
  rw [hrv]
  clear hrv
  have HIH := Lib.hid ih
  have HF := Lib.hid hf
  obtain ⟨L, hL⟩ : ∃ L, s.data.toList = L := ⟨_, rfl⟩
  have HLL := Lib.hid hL
  have HLN : Hid (L.length = s.size) := by show _ = _; rw [← hL]; simp
  have HAT : Hid (∀ j (h : j < s.size) (c : UInt8), headIs (L.drop j) c = (s[j] == c)) := fun j h c => by rw [← hL]; exact head_at s j h c
  have HATE : Hid (∀ j (h : s.size ≤ j) (c : UInt8), headIs (L.drop j) c = false) := fun j h c => by rw [← hL]; exact head_end s j h c
  have HGET : Hid (∀ j (h : j < s.size) (h' : j < L.length), L[j] = s[j]) := fun j h h' => by subst hL; rfl
  have HSN : Hid (∀ j (h : j < s.size), L.take (j + 1) = L.take j ++ [s[j]]) := fun j h => by rw [← hL]; exact take_snocB s j h
  rw [hL] at HRVE
  clear ih hf hL
  have K0 := Lib.hid (Tk0.start w)
  have hne := not_nil h0
  have hemp := not_empty h0
  have hn3 : ¬ s.size = 0 := by omega
  have hlen : s.size < 9223372036854775807 := by omega
  go_enter Tryd.func29, Tryd.ntmps29
  go_upto_region 1 with (fail)
  obtain ⟨W0, hW0⟩ : ∃ W0, w.alloc (.cells #[.int .i64 0, .int .i64 0, .string ⟨#[]⟩, .slice none 0 0] 24) = W0 := ⟨_, rfl⟩
  obtain ⟨g, hg⟩ : ∃ g, w.heap.size = g := ⟨_, rfl⟩
  rw [hW0, hg] at K0
  rw [hW0, hg]
  have HG := Lib.hid hg
  clear hW0 hg
  have r0 := K0.out.box.cell 0
  have r1 := K0.out.box.cell 1
  have r2 := K0.out.box.cell 2
  have r3 := K0.out.box.cell 3
  have z0 := K0.out.box.frozen 0
  have z1 := K0.out.box.frozen 1
  have z2 := K0.out.box.frozen 2
  have z3 := K0.out.box.frozen 3

  have ra0 : ∀ o, (W0.alloc o).cell? ⟨g, 0, none⟩ = some (.int .i64 0) := fun o => (K0.out.box.alloc o).cell 0
  have za0 : ∀ o, (W0.alloc o).frozen? ⟨g, 0, none⟩ = false := fun o => (K0.out.box.alloc o).frozen 0
  have ra1 : ∀ o, (W0.alloc o).cell? ⟨g, 1, none⟩ = some (.int .i64 0) := fun o => (K0.out.box.alloc o).cell 1
  have za1 : ∀ o, (W0.alloc o).frozen? ⟨g, 1, none⟩ = false := fun o => (K0.out.box.alloc o).frozen 1
  have ra2 : ∀ o, (W0.alloc o).cell? ⟨g, 2, none⟩ = some (.string ⟨#[]⟩) := fun o => (K0.out.box.alloc o).cell 2
  have za2 : ∀ o, (W0.alloc o).frozen? ⟨g, 2, none⟩ = false := fun o => (K0.out.box.alloc o).frozen 2
  have ra3 : ∀ o, (W0.alloc o).cell? ⟨g, 3, none⟩ = some (.slice none 0 0) := fun o => (K0.out.box.alloc o).cell 3
  have za3 : ∀ o, (W0.alloc o).frozen? ⟨g, 3, none⟩ = false := fun o => (K0.out.box.alloc o).frozen 3
  go_wp2_with (fail)
  go_loop [10] (fun a => ∃ j : Nat, j ≤ s.size ∧ a = .int .i64 j ∧ Hid ((L.take j).all nameB = true)) (fun a => s.size - (intOf a).toNat)
  case atStart => exact ⟨0, Nat.zero_le _, rfl, by simp [Hid]⟩
  case round =>
    obtain ⟨j, hj, rfl, HA⟩ := hrel
    have j0 : (0 : Int) ≤ (j : Int) := by omega
    by_cases hgo : ∃ h : j < s.size, nameB s[j] = true
    · obtain ⟨hlt, hb⟩ := hgo
      have HB := Lib.hid hb
      have hcc : ((97 : Int) ≤ ((s[j].toNat : Nat) : Int) ∧ ((s[j].toNat : Nat) : Int) ≤ 122) ∨ (((s[j].toNat : Nat) : Int) < 97 ∧ (48 : Int) ≤ ((s[j].toNat : Nat) : Int) ∧ ((s[j].toNat : Nat) : Int) ≤ 57) := by
        simp only [nameB, lowerB, Bool.or_eq_true, Bool.and_eq_true, decide_eq_true_eq] at hb
        omega
      clear hb
      rcases hcc with ⟨a1, a2⟩ | ⟨a1, a2, a3⟩
      all_goals
        go_wp2_with (fail)
        go_round
        case rel => exact ⟨j + 1, by omega, by go_num, by show _ = _; rw [HSN.out j hlt, List.all_append, HA.out]; simp [HB.out]⟩
        case measure => simp [intOf]; omega
    · have hx : j = s.size ∨ ∃ h : j < s.size, (122 < s[j].toNat ∨ (57 < s[j].toNat ∧ s[j].toNat < 97) ∨ (s[j].toNat < 48 ∧ ¬ s[j].toNat = 40) ∨ s[j].toNat = 40) := by
        by_cases a1 : j < s.size
        · have hb : ¬ nameB s[j] = true := fun e => hgo ⟨a1, e⟩
          simp only [nameB, lowerB, Bool.or_eq_true, Bool.and_eq_true, decide_eq_true_eq] at hb
          exact .inr ⟨a1, by omega⟩
        · exact .inl (by omega)
      have hwn : L.takeWhile nameB = L.take j := names_end nameB L j HA.out (by
        by_cases a1 : j < s.size
        · refine .inr ⟨by rw [HLN.out]; exact a1, ?_⟩
          rw [HGET.out j a1]
          cases hb : nameB s[j] with
          | false => rfl
          | true => exact absurd ⟨a1, hb⟩ hgo
        · exact .inl (by rw [HLN.out]; omega))
      have hwl : (L.take j).length = j := by rw [List.length_take, HLN.out]; omega
      have hnm : s.extract 0 j = (⟨(L.take j).toArray⟩ : ByteArray) := by
        rw [ext_eq s 0 j (Nat.zero_le _) hj, List.drop_zero, HLL.out]
        rfl
      have HWN := Lib.hid hwn
      have HWL := Lib.hid hwl
      have HNM := Lib.hid hnm
      clear hgo hwn hwl hnm
      have jS : (j : Int) ≤ (s.size : Int) := by omega
      obtain ⟨nm, hnme⟩ : ∃ nm, s.extract 0 j = nm := ⟨_, rfl⟩
      have hnz : nm.size ≤ maxLen := by
        rw [← hnme, HNM.out]
        show (L.take j).toArray.size ≤ _
        rw [List.size_toArray, HWL.out]
        unfold maxLen
        omega
      have HNZ := Lib.hid hnz
      clear hnz
      by_cases hj0 : j = 0
      · subst hj0
        have HRV : Hid (rNamed (rTake f) L = none) := by
          show _ = _
          unfold rNamed
          rw [HWN.out, if_pos HWL.out]
        have hnil : nm = ⟨#[]⟩ := by rw [← hnme, HNM.out]; rfl
        subst hnil
        rcases hx with hx | ⟨hlt, hx | ⟨hx, hx2⟩ | ⟨hx, hx2⟩ | hx⟩
        · omega
        all_goals
          have hxi := hx
          go_wp2_with (fail)
          refine ret_store4 (x := .int .i64 0) (K0.out.box.alloc _) (by intro W c0 c1 c2 c3; simp [results, Tryd.results29, go_sem, c0, c1, c2, c3]) ?_
          intro W hW hF
          rw [← HRVE.out, HRV.out]
          exact ⟨1, rfl, (K0.out.below (bA1 W0 _)).end_ hF⟩
      · have jn : ¬ (j : Int) = 0 := by omega
        have jb : ((j : Int) == 0) = false := beq_eq_false_iff_ne.2 jn
        have jp : (0 : Int) < (j : Int) := by omega
        have hcon : headIs (L.drop j) 40 = false → rNamed (rTake f) L = some (.node 1 0 nm [], j) := by
          intro h
          unfold rNamed
          rw [HWN.out, HWL.out, if_neg hj0, h, if_neg (by decide), ← hnme, HNM.out]
        have HCON := Lib.hid hcon
        clear hcon
        rcases hx with hx | ⟨hlt, hx | ⟨hx, hx2⟩ | ⟨hx, hx2⟩ | hx⟩
        · have HRV : Hid (rNamed (rTake f) L = some (.node 1 0 nm [], j)) := HCON.out (HATE.out j (by omega) 40)
          have hns : nm = s := by
            rw [← hnme, hx, ext_eq s 0 s.size (Nat.zero_le _) (Nat.le_refl _), List.drop_zero, List.take_of_length_le (by simp)]
            exact str_bs s
          subst hx
          subst hns
          go_wp2_with (fail)
          refine ret_store4 (x := .int .i64 nm.size) (K0.out.box.alloc _) (by intro W c0 c1 c2 c3; simp [results, Tryd.results29, go_sem, c0, c1, c2, c3]) ?_
          intro W hW hF
          rw [← HRVE.out, HRV.out]
          exact ⟨_, rfl, reads_leaf HNZ.out (by decide) (by decide), (K0.out.below (bA1 W0 _)).end_ hF⟩
        · have HRV : Hid (rNamed (rTake f) L = some (.node 1 0 nm [], j)) := HCON.out (by rw [HAT.out j hlt]; exact beq_eq_false_iff_ne.2 (fun e => by have := congrArg UInt8.toNat e; simp at this; omega))
          have n1 : ¬ s[j].toNat = 40 := by omega
          have n2 : ¬ ((s[j].toNat : Nat) : Int) = 40 := by omega
          have n3 : (((s[j].toNat : Nat) : Int) == 40) = false := beq_eq_false_iff_ne.2 n2
          have n4 : ¬ (s.size : Int) = (j : Int) := by omega
          have n5 : ¬ (j : Int) = (s.size : Int) := by omega
          have n9 : ((j : Int) == (s.size : Int)) = false := beq_eq_false_iff_ne.2 n5
          have n6 : ¬ j = s.size := by omega
          have n7 : (122 : Int) < ((s[j].toNat : Nat) : Int) := by omega
          go_wp2_with (fail)
          refine ret_store4 (x := .int .i64 j) (K0.out.box.alloc _) (by intro W c0 c1 c2 c3; simp [results, Tryd.results29, go_sem, c0, c1, c2, c3]) ?_
          intro W hW hF
          rw [← HRVE.out, HRV.out]
          exact ⟨_, rfl, reads_leaf HNZ.out (by decide) (by decide), (K0.out.below (bA1 W0 _)).end_ hF⟩
        · have HRV : Hid (rNamed (rTake f) L = some (.node 1 0 nm [], j)) := HCON.out (by rw [HAT.out j hlt]; exact beq_eq_false_iff_ne.2 (fun e => by have := congrArg UInt8.toNat e; simp at this; omega))
          have n1 : ¬ s[j].toNat = 40 := by omega
          have n2 : ¬ ((s[j].toNat : Nat) : Int) = 40 := by omega
          have n3 : (((s[j].toNat : Nat) : Int) == 40) = false := beq_eq_false_iff_ne.2 n2
          have n4 : ¬ (s.size : Int) = (j : Int) := by omega
          have n5 : ¬ (j : Int) = (s.size : Int) := by omega
          have n9 : ((j : Int) == (s.size : Int)) = false := beq_eq_false_iff_ne.2 n5
          have n6 : ¬ j = s.size := by omega
          have n7 : (57 : Int) < ((s[j].toNat : Nat) : Int) := by omega
          have n8 : ((s[j].toNat : Nat) : Int) < 97 := by omega
          go_wp2_with (fail)
          refine ret_store4 (x := .int .i64 j) (K0.out.box.alloc _) (by intro W c0 c1 c2 c3; simp [results, Tryd.results29, go_sem, c0, c1, c2, c3]) ?_
          intro W hW hF
          rw [← HRVE.out, HRV.out]
          exact ⟨_, rfl, reads_leaf HNZ.out (by decide) (by decide), (K0.out.below (bA1 W0 _)).end_ hF⟩
        · have HRV : Hid (rNamed (rTake f) L = some (.node 1 0 nm [], j)) := HCON.out (by rw [HAT.out j hlt]; exact beq_eq_false_iff_ne.2 (fun e => by have := congrArg UInt8.toNat e; simp at this; omega))
          have n1 : ¬ s[j].toNat = 40 := by omega
          have n2 : ¬ ((s[j].toNat : Nat) : Int) = 40 := by omega
          have n3 : (((s[j].toNat : Nat) : Int) == 40) = false := beq_eq_false_iff_ne.2 n2
          have n4 : ¬ (s.size : Int) = (j : Int) := by omega
          have n5 : ¬ (j : Int) = (s.size : Int) := by omega
          have n9 : ((j : Int) == (s.size : Int)) = false := beq_eq_false_iff_ne.2 n5
          have n6 : ¬ j = s.size := by omega
          have n7 : ((s[j].toNat : Nat) : Int) < 48 := by omega
          go_wp2_with (fail)
          refine ret_store4 (x := .int .i64 j) (K0.out.box.alloc _) (by intro W c0 c1 c2 c3; simp [results, Tryd.results29, go_sem, c0, c1, c2, c3]) ?_
          intro W hW hF
          rw [← HRVE.out, HRV.out]
          exact ⟨_, rfl, reads_leaf HNZ.out (by decide) (by decide), (K0.out.below (bA1 W0 _)).end_ hF⟩
        · have n2 : ((s[j].toNat : Nat) : Int) = 40 := by omega
          have n7 : (((s[j].toNat : Nat) : Int) != 40) = false := by rw [n2]; rfl
          have n4 : ¬ (s.size : Int) = (j : Int) := by omega
          have n5 : ¬ (j : Int) = (s.size : Int) := by omega
          have n9 : ((j : Int) == (s.size : Int)) = false := beq_eq_false_iff_ne.2 n5
          have n6 : ¬ j = s.size := by omega
          have hb40 : s[j] = 40 := UInt8.toNat_inj.1 hx
          have hnam : rNamed (rTake f) L = (match rArgs (rTake f) (L.length + 1) true (L.drop j) with | none => none | some (ts, m) => some (.node 2 0 nm ts, j + m)) := by
            unfold rNamed
            rw [HWN.out, HWL.out, if_neg hj0, HAT.out j hlt, hb40, if_pos (by decide), ← hnme, HNM.out]
            rfl
          have HNAM := Lib.hid hnam
          have HB40 := Lib.hid hb40
          obtain ⟨i0, hi, hz0, hz1, hz2⟩ := info_parts infoR
          have HI := Lib.hid hi
          have HZ0 := Lib.hid hz0
          have HZ1 := Lib.hid hz1
          have HZ2 := Lib.hid hz2
          clear hnam hi hz0 hz1 hz2 hb40 hx
          go_upto_region 26 with (fail)
          have KF := Lib.hid (fk_named (f := f) nm K0.out)
          obtain ⟨W3, hW3⟩ : ∃ W3, W0.alloc (.cells #[.int .i64 2, .int .i64 0, .string nm, .slice none 0 0] 24) = W3 := ⟨_, rfl⟩
          obtain ⟨g3, hg3⟩ : ∃ g3, W0.heap.size = g3 := ⟨_, rfl⟩
          rw [hW3, hg3] at KF
          rw [hW3, hg3]
          clear hW3 hg3 r0 r1 r2 r3 z0 z1 z2 z3 ra0 ra1 ra2 ra3 za0 za1 za2 za3
          go_loopw [10] (fun i wr => ∃ (k : Nat) (ts : List Tm) (vs : Value) (xs : List Value), k ≤ s.size ∧ i = .int .i64 k ∧ Hid (argsAt (rTake f) L j k ts) ∧ Hid (Fk w wr f #[.int .i64 0, .int .i64 0, .string ⟨#[]⟩, .slice none 0 0] 2 0 nm g g g3 ts vs xs)) (fun i _ => s.size - (intOf i).toNat)
          case atStart => exact ⟨j, [], _, _, hj, rfl, Lib.hid (argsAt_start _ _ _), KF⟩
          case round =>
            obtain ⟨k, ts, vs, xs, hk, rfl, HM, KR⟩ := hrel
            clear KF n2 n7 n4 n5 n9 n6
            obtain ⟨A3, cp3, hv3, _⟩ := own_form KR.out.row
            subst hv3
            have k3 : wr.cell? ⟨g3, 3, none⟩ = some (.slice A3 ts.length cp3) := KR.out.b3.cell 3
            have HTL : Hid (ts.length ≤ 100000) := by have := HM.out.1; show _ ≤ _; omega
            have kk0 : (0 : Int) ≤ (k : Int) := by omega
            by_cases hkk : k < s.size
            · obtain ⟨q, hq⟩ : ∃ q, k + 1 = q := ⟨_, rfl⟩
              have hw1 : IntKind.i64.wrap ((k : Int) + 1) = (q : Int) := by rw [IntWalk.i64_in _ (by omega)]; omega
              have hqs : (q : Int) ≤ (s.size : Int) := by omega
              have hcol : (headIs (L.drop k) 40 && decide (ts.length = 0) || headIs (L.drop k) 44) = true → ((s[k].toNat = 40 ∧ ts.length = 0) ∨ s[k].toNat = 44) := by
                rw [HAT.out k hkk, HAT.out k hkk]
                simp only [Bool.or_eq_true, Bool.and_eq_true, beq_iff_eq, decide_eq_true_eq]
                rintro (⟨e1, e2⟩ | e1)
                · exact .inl ⟨by rw [e1]; rfl, e2⟩
                · exact .inr (by rw [e1]; rfl)
              by_cases hgo : (s[k].toNat = 40 ∧ ts.length = 0) ∨ s[k].toNat = 44
              · have hcond : (headIs (L.drop k) 40 && decide (ts.length = 0) || headIs (L.drop k) 44) = true := by
                  rw [HAT.out k hkk, HAT.out k hkk]
                  simp only [Bool.or_eq_true, Bool.and_eq_true, beq_iff_eq, decide_eq_true_eq]
                  rcases hgo with ⟨e1, e2⟩ | e1
                  · exact .inl ⟨UInt8.toNat_inj.1 e1, e2⟩
                  · exact .inr (UInt8.toNat_inj.1 e1)
                have HCD := Lib.hid hcond
                have hgo2 : (((s[k].toNat : Nat) : Int) = 40 ∧ (((ts.length : Nat) : Int) = 0)) ∨ ((((s[k].toNat : Nat) : Int) = 44) ∧ ((((s[k].toNat : Nat) : Int) == 40) = false)) := by
                  rcases hgo with ⟨e1, e2⟩ | e1
                  · exact .inl ⟨by omega, by omega⟩
                  · exact .inr ⟨by omega, beq_eq_false_iff_ne.2 (by omega)⟩
                have hcall := fun (V : World) => HIH.out (s.extract q s.size) V (by rw [drop_ext s q (by omega)]; omega) (by rw [drop_ext s q (by omega)]; have := HF.out; omega)
                rw [ext_list s q (by omega), HLL.out] at hcall
                have HQ := Lib.hid hq
                clear hcond hcol hgo hq
                cases hr : rTake f (L.drop q) with
                | none =>
                  rw [hr] at hcall
                  have HC := Lib.hid hcall
                  have HRV : Hid (rNamed (rTake f) L = none) := by
                    show _ = _
                    rw [HNAM.out, argsAt_none HM.out (by rw [HLN.out]; exact hk) HCD.out (by rw [HQ.out]; exact hr)]
                  clear hcall hr
                  rcases hgo2 with ⟨g1, g2⟩ | ⟨g1, g2⟩
                  all_goals
                    go_upto_region 28 with (go_at_call 29; refine (HC.out _).mono ?_; rintro e w5 ⟨kk, rfl, hb5⟩; have B5 := Lib.hid (KR.out.b2.below (hb5.alloc hb5.size (.cells #[.int .i64 kk, .int .i64 0, .string ⟨#[]⟩, .slice none 0 0] 24)) KR.out.b2.lt); have HB5 := Lib.hid (hb5.alloc hb5.size (.cells #[.int .i64 kk, .int .i64 0, .string ⟨#[]⟩, .slice none 0 0] 24)); have r0 := B5.out.cell 0; have z0 := B5.out.frozen 0; have r1 := B5.out.cell 1; have z1 := B5.out.frozen 1; have r2 := B5.out.cell 2; have z2 := B5.out.frozen 2; have r3 := B5.out.cell 3; have z3 := B5.out.frozen 3)
                    go_wp2_with (fail)
                    refine ret_store4 (x := .int .i64 0) B5.out (by intro W c0 c1 c2 c3; simp [results, Tryd.results29, go_sem, c0, c1, c2, c3]) ?_
                    intro W hW hF
                    rw [← HRVE.out, HRV.out]
                    exact ⟨0, rfl, (KR.out.below.trans (HB5.out.mono KR.out.below.size)).trans (hF.below (by have := KR.out.below.size; have := HB5.out.size; omega) (fun b e => by rw [e]; exact KR.out.new2))⟩
                | some p1 =>
                  obtain ⟨t, n⟩ := p1
                  rw [hr] at hcall
                  have HC := Lib.hid hcall
                  obtain ⟨t1, t2, _⟩ := take_sound _ _ _ _ hr
                  rw [List.length_drop, HLN.out] at t2
                  obtain ⟨q2, hq2⟩ : ∃ q2, q + n = q2 := ⟨_, rfl⟩
                  have hw2 : IntKind.i64.wrap ((q : Int) + (n : Int)) = (q2 : Int) := by rw [IntWalk.i64_in _ (by omega)]; omega
                  have nn0 : ¬ (n : Int) = 0 := by omega
                  have nb0 : ((n : Int) == 0) = false := beq_eq_false_iff_ne.2 nn0
                  have hq2s : q2 ≤ s.size := by omega
                  have HM2 := Lib.hid (argsAt_next HM.out (by rw [HLN.out]; exact hk) HCD.out (by rw [HQ.out]; exact hr))
                  have HQ2 : Hid (k + 1 + n = q2 ∧ k < q2) := ⟨by have := HQ.out; omega, by have := HQ.out; omega⟩
                  clear hcall hr t1 t2 hq2
                  rcases hgo2 with ⟨g1, g2⟩ | ⟨g1, g2⟩
                  all_goals
                    go_upto_region 30 with (go_at_call 29; refine (HC.out _).mono ?_; rintro e w5 ⟨v5, rfl, hr5, hb5⟩; obtain ⟨k5, n5, s5, A5, m5, c5, hv5⟩ := hr5.form; rw [hv5] at hr5; rw [hv5]; clear hv5; have HR6 := Lib.hid hr5; have HB6 := Lib.hid hb5; clear hr5 hb5)
                    have e3 : ∀ o, (w5.alloc o).cell? ⟨g3, 3, none⟩ = some (.slice A3 ts.length cp3) := fun o => ((KR.out.go HB6.out).b3.alloc o).cell 3
                    have e4 : ∀ o o', ((w5.alloc o).alloc o').cell? ⟨g3, 3, none⟩ = some (.slice A3 ts.length cp3) := fun o o' => (((KR.out.go HB6.out).b3.alloc o).alloc o').cell 3
                    go_wp2_with (at_builtin; refine wpList_own_at _ rfl (.tmp 212) (.tmp 214) 22 rfl w.heap.size 24 i0 _ 4 56 Tryd.underlying22 HI.out HZ0.out HZ1.out HZ2.out rfl (by decide) (.slice A3 ts.length cp3) ts.length xs rfl (own_fr (S := fun _ => False) (w := wr) KR.out.row (((Fr.of_below (S := fun _ => False) (w := wr) HB6.out).alloc _).alloc _) (fun _ _ x => x)) ⟨w5.heap.size + 1, 0, none⟩ 1 1 [.int .i64 k5, .int .i64 n5, .string s5, .slice A5 m5 c5] rfl rfl (by intro jj u hu; have e4 := cells_four (w5.alloc (.cells #[.int .i64 k5, .int .i64 n5, .string s5, .slice A5 m5 c5] 24)) _ _ _ _ 24 jj u hu; simpa using e4) (by intro u hu; simp only [List.mem_cons, List.not_mem_nil, or_false] at hu; rcases hu with rfl | rfl | rfl | rfl <;> rfl) (by have := HTL.out; unfold maxLen; omega) (by have := HTL.out; omega) (by have := KR.out.below.size; have := HB6.out.size; simp; omega) ?_; intro v6 w6 hown6 hgr6 hloc6; obtain ⟨hK6, z3, zf⟩ := KR.out.step HB6.out HR6.out hown6 hgr6 hloc6; have HK6 := Lib.hid hK6; obtain ⟨A6, cp6, hv6, _⟩ := own_form hown6; rw [hv6] at HK6 ⊢; clear hK6 hv6 hown6 hgr6 hloc6)
                    go_roundw
                    case rel => exact ⟨q2, ts ++ [t], _, _, hq2s, by go_num, HQ2.out.1 ▸ HM2, HK6⟩
                    case measure => have := HQ2.out.2; simp [intOf]; omega
              · have hcf : (headIs (L.drop k) 40 && decide (ts.length = 0) || headIs (L.drop k) 44) = false := by
                  cases hh : (headIs (L.drop k) 40 && decide (ts.length = 0) || headIs (L.drop k) 44) with
                  | false => rfl
                  | true => exact absurd (hcol hh) hgo
                have hend := argsAt_end HM.out (by rw [HLN.out]; exact hk) hcf
                have HEND := Lib.hid hend
                have hks : ¬ (k : Int) = (s.size : Int) := by omega
                have hkb : ((k : Int) == (s.size : Int)) = false := beq_eq_false_iff_ne.2 hks
                have h44 : ¬ ((s[k].toNat : Nat) : Int) = 44 := by omega
                have h44b : (((s[k].toNat : Nat) : Int) == 44) = false := beq_eq_false_iff_ne.2 h44
                clear hcf hend hcol
                have B5 := Lib.hid KR.out.b2
                have r0 : (wr).cell? ⟨g, 0, none⟩ = some (.int .i64 0) := (KR.out.b2).cell 0
                have z0 : (wr).frozen? ⟨g, 0, none⟩ = false := (KR.out.b2).frozen 0
                have r1 : (wr).cell? ⟨g, 1, none⟩ = some (.int .i64 0) := (KR.out.b2).cell 1
                have z1 : (wr).frozen? ⟨g, 1, none⟩ = false := (KR.out.b2).frozen 1
                have r2 : (wr).cell? ⟨g, 2, none⟩ = some (.string ⟨#[]⟩) := (KR.out.b2).cell 2
                have z2 : (wr).frozen? ⟨g, 2, none⟩ = false := (KR.out.b2).frozen 2
                have r3 : (wr).cell? ⟨g, 3, none⟩ = some (.slice none 0 0) := (KR.out.b2).cell 3
                have z3 : (wr).frozen? ⟨g, 3, none⟩ = false := (KR.out.b2).frozen 3
                by_cases h41 : s[k].toNat = 41
                · have HRV : Hid (rNamed (rTake f) L = some (.node 2 0 nm ts, q)) := by
                    show _ = _
                    rw [HNAM.out, HEND.out, HAT.out k hkk, show s[k] = 41 from UInt8.toNat_inj.1 h41, if_pos (by decide)]
                    have := HM.out.1
                    simp only []
                    congr 2
                    omega
                  have h41i : ((s[k].toNat : Nat) : Int) = 41 := by omega
                  have h41b : (((s[k].toNat : Nat) : Int) != 41) = false := by rw [h41i]; rfl
                  have h40b : (((s[k].toNat : Nat) : Int) == 40) = false := beq_eq_false_iff_ne.2 (by omega)
                  have m0 : wr.cell? ⟨g3, 0, none⟩ = some (.int .i64 2) := KR.out.b3.cell 0
                  have m1 : wr.cell? ⟨g3, 1, none⟩ = some (.int .i64 0) := KR.out.b3.cell 1
                  have m2 : wr.cell? ⟨g3, 2, none⟩ = some (.string nm) := KR.out.b3.cell 2
                  clear h41 hgo hq
                  go_wp2_with (fail)
                  refine ret_store4 (x := .int .i64 q) KR.out.b2 (by intro W c0 c1 c2 c3; simp [results, Tryd.results29, go_sem, c0, c1, c2, c3]) ?_
                  intro W hW hF
                  rw [← HRVE.out, HRV.out]
                  obtain ⟨e1, e2⟩ := fk_end KR.out HNZ.out (by decide) (by decide) hF
                  exact ⟨_, rfl, e1, e2⟩
                · have HRV : Hid (rNamed (rTake f) L = none) := by
                    show _ = _
                    rw [HNAM.out, HEND.out, HAT.out k hkk, if_neg (by simpa using fun e => h41 (by rw [e]; rfl))]
                  have h41i : ¬ ((s[k].toNat : Nat) : Int) = 41 := by omega
                  have h41b : (((s[k].toNat : Nat) : Int) != 41) = true := bne_iff_ne.2 h41i
                  have hd40 : (((s[k].toNat : Nat) : Int) = 40 ∧ ((((ts.length : Nat) : Int) == 0) = false)) ∨ ((((s[k].toNat : Nat) : Int) == 40) = false) := by
                    by_cases e : s[k].toNat = 40
                    · exact .inl ⟨by omega, beq_eq_false_iff_ne.2 (by omega)⟩
                    · exact .inr (beq_eq_false_iff_ne.2 (by omega))
                  clear h41 hgo hq
                  rcases hd40 with ⟨d1, d2⟩ | d1
                  all_goals
                    go_wp2_with (fail)
                    refine ret_store4 (x := .int .i64 0) KR.out.b2 (by intro W c0 c1 c2 c3; simp [results, Tryd.results29, go_sem, c0, c1, c2, c3]) ?_
                    intro W hW hF
                    rw [← HRVE.out, HRV.out]
                    exact ⟨0, rfl, KR.out.below.trans (hF.below KR.out.below.size (fun b e => by rw [e]; exact KR.out.new2))⟩
            · have hcf : (headIs (L.drop k) 40 && decide (ts.length = 0) || headIs (L.drop k) 44) = false := by
                rw [HATE.out k (by omega), HATE.out k (by omega)]
                rfl
              have hend := argsAt_end HM.out (by rw [HLN.out]; exact hk) hcf
              have HRV : Hid (rNamed (rTake f) L = none) := by
                show _ = _
                rw [HNAM.out, hend, HATE.out k (by omega), if_neg (by decide)]
              have hks : (k : Int) = (s.size : Int) := by omega
              have hkl : ¬ (k : Int) < (s.size : Int) := by omega
              clear hcf hend
              have r0 : (wr).cell? ⟨g, 0, none⟩ = some (.int .i64 0) := (KR.out.b2).cell 0
              have z0 : (wr).frozen? ⟨g, 0, none⟩ = false := (KR.out.b2).frozen 0
              have r1 : (wr).cell? ⟨g, 1, none⟩ = some (.int .i64 0) := (KR.out.b2).cell 1
              have z1 : (wr).frozen? ⟨g, 1, none⟩ = false := (KR.out.b2).frozen 1
              have r2 : (wr).cell? ⟨g, 2, none⟩ = some (.string ⟨#[]⟩) := (KR.out.b2).cell 2
              have z2 : (wr).frozen? ⟨g, 2, none⟩ = false := (KR.out.b2).frozen 2
              have r3 : (wr).cell? ⟨g, 3, none⟩ = some (.slice none 0 0) := (KR.out.b2).cell 3
              have z3 : (wr).frozen? ⟨g, 3, none⟩ = false := (KR.out.b2).frozen 3
              go_wp2_with (fail)
              refine ret_store4 (x := .int .i64 0) KR.out.b2 (by intro W c0 c1 c2 c3; simp [results, Tryd.results29, go_sem, c0, c1, c2, c3]) ?_
              intro W hW hF
              rw [← HRVE.out, HRV.out]
              exact ⟨0, rfl, KR.out.below.trans (hF.below KR.out.below.size (fun b e => by rw [e]; exact KR.out.new2))⟩
end Go.Proofs.YtkfmagbaklikmaaDoor
