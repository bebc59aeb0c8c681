/-
  The program's Right: by its plain words, in whatever world. Condition: the world holds the table of names.
-/
import Derived.Test.YtlmbiafloiompaaGreatDoorJV02
import Derived.Deep.QuietTactic
import Derived.BigQuiet
import Derived.Deep.RegionLaw
namespace Go.Proofs.YtlmbiafloiompaaGreatDoor
open Go Go.RowKit Go.WideShapes Go.ChangeShapes
set_option linter.unusedVariables false

theorem ops_few (op : Int) : (opsOf op).length ≤ 4 := by
  unfold opsOf
  repeat (first | (split <;> try decide) | decide)

theorem ops_kind (op : Int) (k : Nat) : 0 ≤ (opsOf op).getD k 0 ∧ (opsOf op).getD k 0 ≤ 9 := by
  by_cases h : 0 ≤ op ∧ op ≤ 26
  · rw [List.getD_eq_getElem?_getD]
    cases hq : (opsOf op)[k]? with
    | none => simp
    | some x =>
      have hm := span_list op (by
        obtain ⟨j, rfl⟩ := Int.eq_ofNat_of_zero_le h.1
        have hj : j < 27 := by omega
        have : ∀ j : Nat, j < 27 → ((j : Nat) : Int) ∈ ([0, 1, 2, 3, 4, 5, 6, 7, 8, 9, 10, 11, 12, 13, 14, 15, 16, 17, 18, 19, 20, 21, 22, 23, 24, 25, 26] : List Int) := by decide
        exact this j hj) x (List.mem_of_getElem? hq)
      simp only [Option.getD_some]
      omega
  · have he : opsOf op = [] := by
      unfold opsOf
      repeat rw [if_neg (by omega)]
    rw [he]
    simp

theorem operands_none (op : Int) (h : opsOf op = []) (w : World) : Calls Tryz.prog 79 #[.int .i64 op] w fun e w' => e = .returned (.slice none 0 0) ∧ w = w' :=
  (operands_any op w).mono fun e w' hn => by
    rcases hn with ⟨_, h1, h2⟩ | ⟨h0, _⟩
    · exact ⟨h1, h2.symm⟩
    · exact absurd h h0
theorem operands_some (op : Int) (n : Nat) (hn : (opsOf op).length = n) (h : 0 < n) (w : World) :
    Calls Tryz.prog 79 #[.int .i64 op] w fun e w' => e = .returned (.slice (some ⟨w.heap.size, 0, none⟩) n n) ∧ w.alloc (.cells ((opsOf op).map (Value.int .i64)).toArray 3) = w' :=
  (operands_any op w).mono fun e w' hn' => by
    rcases hn' with ⟨h0, _⟩ | ⟨_, h1, h2⟩
    · rw [h0] at hn
      simp at hn
      omega
    · rw [hn] at h1
      exact ⟨h1, h2.symm⟩

theorem splice_kinds (l : List Int) (h : l.length ≤ 4) : splice [Value.int .i64 0, .int .i64 0, .int .i64 0, .int .i64 0] 0 (l.map (Value.int .i64)) =
    [Value.int .i64 (l.getD 0 0), .int .i64 (l.getD 1 0), .int .i64 (l.getD 2 0), .int .i64 (l.getD 3 0)] := by
  match l, h with
  | [], _ => rfl
  | [a], _ => rfl
  | [a, b], _ => rfl
  | [a, b, c], _ => rfl
  | [a, b, c, d], _ => rfl

theorem name_nonempty (k : Nat) (h : k < 27) : (nameAt k).toList.isEmpty = false := by
  rw [ByteArray.toList_eq]
  have : ∀ k, k < 27 → (nameAt k).data.toList.isEmpty = false := by decide
  exact this k h

/-- Behind Right. -/
theorem right_out (op a b c d : Int) (h : ¬ (0 ≤ op ∧ op ≤ 26)) (w : World) (hw : NamesAt w) :
    Calls Tryz.prog 88 #[insV op a b c d] w fun e w' => e = .returned (.bool (rightB op [a, b, c, d])) ∧ Below w.heap.size w w' := by
  have hr : rightB op [a, b, c, d] = false := by rw [rightB, decide_eq_false h]; rfl
  have hn : nameOf op = ⟨#[]⟩ := if_neg h
  rw [hr]
  have HW := Lib.hid hw
  have hnm := fun w (hw : NamesAt w) => name_any op w hw
  rw [hn] at hnm
  have HNM := Lib.hid hnm
  clear hr hn hnm h hw
  unfold insV
  go_enter Tryz.func88, Tryz.ntmps88
  go_wp2_with (refine (HNM.out _ (HW.out.below (alloc_below w _) HW.out.lt)).mono ?_; rintro e w' ⟨rfl, rfl⟩)
  go_ret
  exact ⟨rfl, alloc_below w _⟩

/-- Behind the copy: the box of the instruction, the row of kinds. -/
structure KindsAt (B : Nat) (op a b c d : Int) (w0 w : World) : Prop where
  ins : Box w B 65 #[.int .i64 op, .int .i64 a, .int .i64 b, .int .i64 c, .int .i64 d]
  kinds : Box w (B + 1) 52 #[.int .i64 ((opsOf op).getD 0 0), .int .i64 ((opsOf op).getD 1 0), .int .i64 ((opsOf op).getD 2 0), .int .i64 ((opsOf op).getD 3 0)]
  below : Below B w0 w
theorem KindsAt.drewN {B : Nat} {op a b c d : Int} {w0 w : World} (h : KindsAt B op a b c d w0 w) (n : Nat) : KindsAt B op a b c d w0 (w.drewN n) :=
  ⟨h.ins, h.kinds, ⟨h.below.os, h.below.tape, h.below.output, h.below.size, h.below.block⟩⟩
theorem KindsAt.cell {B : Nat} {op a b c d : Int} {w0 w : World} (h : KindsAt B op a b c d w0 w) (k : Nat) (hk : k < 4) : w.cell? ⟨B + 1, k, none⟩ = some (.int .i64 ((opsOf op).getD k 0)) := by
  rw [h.kinds.cell k]
  match k, hk with
  | 0, _ => rfl
  | 1, _ => rfl
  | 2, _ => rfl
  | 3, _ => rfl

theorem right_all (op a b c d : Int) (h : 0 ≤ op ∧ op ≤ 26) (hk : ∀ j, j < 4 → mayB op ((opsOf op).getD j 0) ([a, b, c, d].getD j 0) = true) : rightB op [a, b, c, d] = true := by
  rw [rightB, decide_eq_true h, Bool.true_and, List.all_eq_true]
  intro k hk'
  exact hk k (List.mem_range.1 hk')
theorem right_not (op a b c d : Int) (k : Nat) (hk4 : k < 4) (hk : mayB op ((opsOf op).getD k 0) ([a, b, c, d].getD k 0) = false) : rightB op [a, b, c, d] = false := by
  rw [rightB]
  have : ((List.range 4).all fun k => mayB op ((opsOf op).getD k 0) ([a, b, c, d].getD k 0)) = false := by
    rw [Bool.eq_false_iff]
    intro hx
    rw [List.all_eq_true] at hx
    have := hx k (List.mem_range.2 hk4)
    rw [hk] at this
    cases this
  rw [this, Bool.and_false]

set_option maxRecDepth 100000 in
set_option maxHeartbeats 2000000 in
theorem right_none (op a b c d : Int) (h : 0 ≤ op ∧ op ≤ 26) (ho : opsOf op = []) (w : World) (hw : NamesAt w) :
    Calls Tryz.prog 88 #[insV op a b c d] w fun e w' => e = .returned (.bool (rightB op [a, b, c, d])) ∧ Below w.heap.size w w' := by
  obtain ⟨m, hm⟩ := Int.eq_ofNat_of_zero_le h.1
  have hne := name_nonempty m (by omega)
  have hnm : nameOf op = nameAt m := by rw [hm]; rw [nameOf, if_pos (by omega)]; rfl
  have HH := Lib.hid h
  have HOPS := fun w => operands_none op ho w
  have HALL := Lib.hid (right_all op a b c d h)
  have HNOT := Lib.hid (right_not op a b c d)
  have HKND := Lib.hid (ops_kind op)
  have HFEW := Lib.hid (ops_few op)
  have HMAY := Lib.hid (fun kind n h0 h1 w => may_any op kind n h0 h1 w)
  have HNAME := Lib.hid (fun w hw => hnm ▸ name_any op w hw)
  have HW := Lib.hid hw
  have HO := Lib.hid HOPS
  obtain ⟨nm, hnmx⟩ : ∃ nm, nameAt m = nm := ⟨_, rfl⟩
  rw [hnmx] at hne HNAME
  have hbx : Box ((w.alloc (.cells #[.int .i64 op, .int .i64 a, .int .i64 b, .int .i64 c, .int .i64 d] 65)).alloc (.cells #[.int .i64 0, .int .i64 0, .int .i64 0, .int .i64 0] 52)) w.heap.size 65 #[.int .i64 op, .int .i64 a, .int .i64 b, .int .i64 c, .int .i64 d] := (Box.new w _ _).alloc _
  have hbk : Box ((w.alloc (.cells #[.int .i64 op, .int .i64 a, .int .i64 b, .int .i64 c, .int .i64 d] 65)).alloc (.cells #[.int .i64 0, .int .i64 0, .int .i64 0, .int .i64 0] 52)) (w.heap.size + 1) 52 #[.int .i64 0, .int .i64 0, .int .i64 0, .int .i64 0] := by
    have h := Box.new (w.alloc (.cells #[.int .i64 op, .int .i64 a, .int .i64 b, .int .i64 c, .int .i64 d] 65)) 52 #[.int .i64 0, .int .i64 0, .int .i64 0, .int .i64 0]
    rw [show (w.alloc (.cells #[.int .i64 op, .int .i64 a, .int .i64 b, .int .i64 c, .int .i64 d] 65)).heap.size = w.heap.size + 1 by simp] at h
    exact h
  have hbb := two_below w (.cells #[.int .i64 op, .int .i64 a, .int .i64 b, .int .i64 c, .int .i64 d] 65) (.cells #[.int .i64 0, .int .i64 0, .int .i64 0, .int .i64 0] 52)
  have HBX := Lib.hid hbx
  have HBK := Lib.hid hbk
  have HBB := Lib.hid hbb
  clear h hm hnm HOPS hw hnmx hbx hbk hbb
  have hspl : splice [Value.int .i64 0, .int .i64 0, .int .i64 0, .int .i64 0] 0 [] = [Value.int .i64 ((opsOf op).getD 0 0), .int .i64 ((opsOf op).getD 1 0), .int .i64 ((opsOf op).getD 2 0), .int .i64 ((opsOf op).getD 3 0)] := by rw [ho]; rfl
  have HSPL := Lib.hid hspl
  have HHO := Lib.hid ho
  clear hspl ho
  unfold insV
  go_enter Tryz.func88, Tryz.ntmps88
  go_wp2_with (refine (HNAME.out _ (HW.out.below (alloc_below w _) HW.out.lt)).mono ?_; rintro e w' ⟨rfl, rfl⟩)
  clear hne
  go_region_law
    (first
      | (go_simp; go_at_call 79; (with_reducible refine (HO.out _).mono ?_); rintro e w5 ⟨rfl, rfl⟩)
      | (refine step_copy_splice rfl (.tmp 10) (.tmp 13) 73 73 rfl 3 Tryz.underlying73 (by kernel_rfl) _ _ 4 4 0 0 rfl rfl (w.heap.size + 1) 0 [.int .i64 0, .int .i64 0, .int .i64 0, .int .i64 0] 52 HBK.out [] rfl (fun h => absurd h (by decide)) (by decide) (fun _ h => by cases h) (w.heap.size + 1) _ (Below.refl _ _) (Nat.le_refl _) ?_; intro w4 hg4 hb4))
  have hK : KindsAt w.heap.size op a b c d w w4 := by
    have hb5 : Below (w.heap.size + 1) ((w.alloc (.cells #[.int .i64 op, .int .i64 a, .int .i64 b, .int .i64 c, .int .i64 d] 65)).alloc (.cells #[.int .i64 0, .int .i64 0, .int .i64 0, .int .i64 0] 52)) w4 := ⟨hb4.os, hb4.tape, hb4.output, hb4.size, hb4.block⟩
    refine ⟨HBX.out.below hb5 (by omega), ?_, HBB.out.trans (hb5.mono (show w.heap.size ≤ w.heap.size + 1 by omega))⟩
    have h := hg4.out
    rw [HSPL.out] at h
    exact h
  have HK := Lib.hid hK
  have b0 := hK.ins.cell 0
  have b1 := hK.ins.cell 1
  have b2 := hK.ins.cell 2
  have b3 := hK.ins.cell 3
  have b4 := hK.ins.cell 4
  clear hg4 hb4 hK
  go_wp2
  clear b0 b1 b2 b3 b4
  go_loopw [17] (fun i wr => ∃ k : Nat, k ≤ 4 ∧ i = .int .i64 k ∧ KindsAt w.heap.size op a b c d w wr ∧ ∀ j, j < k → mayB op ((opsOf op).getD j 0) ([a, b, c, d].getD j 0) = true) (fun i _ => 4 - (intOf i).toNat)
  case atStart => exact ⟨0, by omega, rfl, HK.out, fun j hj => absurd hj (by omega)⟩
  case round =>
    obtain ⟨k, hk, rfl, hkk, hall⟩ := hrel
    have HA := Lib.hid hall
    clear hall
    by_cases hlt : k < 4
    · have hix := run_index_agg (P := Tryz.prog) wr 52 3 4 #[.int .i64 a, .int .i64 b, .int .i64 c, .int .i64 d] .i64 k (.int .i64 ([a, b, c, d].getD k 0)) Tryz.underlying52 (fun _ => by kernel_rfl) (fun _ => by kernel_rfl) hlt (by
        match k, hlt with
        | 0, _ => rfl
        | 1, _ => rfl
        | 2, _ => rfl
        | 3, _ => rfl)
      have hc0 : wr.cell? ⟨w.heap.size, 0, none⟩ = some (.int .i64 op) := hkk.ins.cell 0
      have hck := hkk.cell k hlt
      have hkd := HKND.out k
      have hm := HMAY.out _ ([a, b, c, d].getD k 0) hkd.1 hkd.2
      have HKK := Lib.hid hkk
      have HN2 := Lib.hid (HNOT.out k hlt)
      clear hkk hkd
      obtain ⟨x, hx⟩ : ∃ x, [a, b, c, d].getD k 0 = x := ⟨_, rfl⟩
      obtain ⟨y, hy⟩ : ∃ y, (opsOf op).getD k 0 = y := ⟨_, rfl⟩
      rw [hx] at hix
      rw [hy] at hck
      rw [hx, hy] at hm HN2
      have HX := Lib.hid hx
      have HY := Lib.hid hy
      clear hx hy
      cases hB : mayB op y x
      · rw [hB] at hm
        have HM := Lib.hid hm
        have HN3 := Lib.hid (HN2.out hB)
        clear hm hB HN2
        go_wp2
        go_quiet ((go_at_call 118; exact Calls.quiet_of_same ((HM.out _).mono fun _ _ h => ⟨h.1, h.2.symm⟩)))
        go_wp2
        go_ret
        exact ⟨ret_b HN3.out.symm, (HKK.out.drewN _).below⟩
      · rw [hB] at hm
        have HM := Lib.hid hm
        have HBF := Lib.hid hB
        clear hm hB
        go_wp2
        go_quiet ((go_at_call 118; exact Calls.quiet_of_same ((HM.out _).mono fun _ _ h => ⟨h.1, h.2.symm⟩)))
        go_wp2
        go_roundw
        case rel => exact ⟨k + 1, by omega, by go_num, HKK.out.drewN _, fun j hj => by
          by_cases e : j = k
          · subst e
            rw [HX.out, HY.out]
            exact HBF.out
          · exact HA.out j (by omega)⟩
        case measure => simp [intOf]; omega
    · obtain rfl : k = 4 := by omega
      have HKK := Lib.hid hkk
      have hr := HALL.out HA.out
      have HR := Lib.hid hr
      clear hkk hr
      go_wp2
      go_ret
      exact ⟨ret_b HR.out.symm, HKK.out.below⟩


set_option maxRecDepth 100000 in
set_option maxHeartbeats 2000000 in
theorem right_some (op a b c d : Int) (h : 0 ≤ op ∧ op ≤ 26) (n : Nat) (hn : (opsOf op).length = n) (hn0 : 0 < n) (w : World) (hw : NamesAt w) :
    Calls Tryz.prog 88 #[insV op a b c d] w fun e w' => e = .returned (.bool (rightB op [a, b, c, d])) ∧ Below w.heap.size w w' := by
  obtain ⟨m, hm⟩ := Int.eq_ofNat_of_zero_le h.1
  have hne := name_nonempty m (by omega)
  have hnm : nameOf op = nameAt m := by rw [hm]; rw [nameOf, if_pos (by omega)]; rfl
  have HH := Lib.hid h
  have HOPS := fun w => operands_some op n hn hn0 w
  have HALL := Lib.hid (right_all op a b c d h)
  have HNOT := Lib.hid (right_not op a b c d)
  have HKND := Lib.hid (ops_kind op)
  have HFEW := Lib.hid (ops_few op)
  have HMAY := Lib.hid (fun kind n h0 h1 w => may_any op kind n h0 h1 w)
  have HNAME := Lib.hid (fun w hw => hnm ▸ name_any op w hw)
  have HW := Lib.hid hw
  have HO := Lib.hid HOPS
  obtain ⟨nm, hnmx⟩ : ∃ nm, nameAt m = nm := ⟨_, rfl⟩
  rw [hnmx] at hne HNAME
  have hbx : Box ((w.alloc (.cells #[.int .i64 op, .int .i64 a, .int .i64 b, .int .i64 c, .int .i64 d] 65)).alloc (.cells #[.int .i64 0, .int .i64 0, .int .i64 0, .int .i64 0] 52)) w.heap.size 65 #[.int .i64 op, .int .i64 a, .int .i64 b, .int .i64 c, .int .i64 d] := (Box.new w _ _).alloc _
  have hbk : Box ((w.alloc (.cells #[.int .i64 op, .int .i64 a, .int .i64 b, .int .i64 c, .int .i64 d] 65)).alloc (.cells #[.int .i64 0, .int .i64 0, .int .i64 0, .int .i64 0] 52)) (w.heap.size + 1) 52 #[.int .i64 0, .int .i64 0, .int .i64 0, .int .i64 0] := by
    have h := Box.new (w.alloc (.cells #[.int .i64 op, .int .i64 a, .int .i64 b, .int .i64 c, .int .i64 d] 65)) 52 #[.int .i64 0, .int .i64 0, .int .i64 0, .int .i64 0]
    rw [show (w.alloc (.cells #[.int .i64 op, .int .i64 a, .int .i64 b, .int .i64 c, .int .i64 d] 65)).heap.size = w.heap.size + 1 by simp] at h
    exact h
  have hbb := two_below w (.cells #[.int .i64 op, .int .i64 a, .int .i64 b, .int .i64 c, .int .i64 d] 65) (.cells #[.int .i64 0, .int .i64 0, .int .i64 0, .int .i64 0] 52)
  have HBX := Lib.hid hbx
  have HBK := Lib.hid hbk
  have HBB := Lib.hid hbb
  clear h hm hnm HOPS hw hnmx hbx hbk hbb
  have hspl := splice_kinds (opsOf op) HFEW.out
  have hcs : ∃ cs : List Value, (opsOf op).map (Value.int .i64) = cs ∧ cs.length = Nat.min n 4 ∧ 0 + cs.length ≤ 4 ∧ (∀ u ∈ cs, u.oneCell' = true) := by
    refine ⟨_, rfl, ?_, ?_, ?_⟩
    · have := HFEW.out
      rw [List.length_map, hn]
      exact (Nat.min_eq_left (by omega)).symm
    · have := HFEW.out
      rw [List.length_map]
      omega
    · intro u hu
      obtain ⟨x, _, rfl⟩ := List.mem_map.1 hu
      rfl
  obtain ⟨cs, hcs, hlen, hfit, hone⟩ := hcs
  rw [hcs] at hspl HO
  have hcel : ∀ (j : Nat) (u : Value), cs[j]? = some u → (((w.alloc (.cells #[.int .i64 op, .int .i64 a, .int .i64 b, .int .i64 c, .int .i64 d] 65)).alloc (.cells #[.int .i64 0, .int .i64 0, .int .i64 0, .int .i64 0] 52)).alloc (.cells cs.toArray 3)).cell? ((⟨w.heap.size + 1 + 1, 0, none⟩ : Addr).add j) = some u := fun j u hu => by
    have h := Box.new ((w.alloc (.cells #[.int .i64 op, .int .i64 a, .int .i64 b, .int .i64 c, .int .i64 d] 65)).alloc (.cells #[.int .i64 0, .int .i64 0, .int .i64 0, .int .i64 0] 52)) 3 cs.toArray
    rw [show ((w.alloc (.cells #[.int .i64 op, .int .i64 a, .int .i64 b, .int .i64 c, .int .i64 d] 65)).alloc (.cells #[.int .i64 0, .int .i64 0, .int .i64 0, .int .i64 0] 52)).heap.size = w.heap.size + 1 + 1 by simp] at h
    rw [add_plain, Nat.zero_add, h.cell j]
    simpa using hu
  have HCEL := Lib.hid hcel
  have HLEN := Lib.hid hlen
  have HFIT := Lib.hid hfit
  have HONE := Lib.hid hone
  have HSPL := Lib.hid hspl
  have HN := Lib.hid hn
  have HN0 := Lib.hid hn0
  clear hcel hlen hfit hone hspl hcs hn hn0
  unfold insV
  go_enter Tryz.func88, Tryz.ntmps88
  go_wp2_with (refine (HNAME.out _ (HW.out.below (alloc_below w _) HW.out.lt)).mono ?_; rintro e w' ⟨rfl, rfl⟩)
  clear hne
  go_region_law
    (first
      | (go_simp; go_at_call 79; (with_reducible refine (HO.out _).mono ?_); rintro e w5 ⟨rfl, rfl⟩)
      | (refine step_copy_splice rfl (.tmp 10) (.tmp 13) 73 73 rfl 3 Tryz.underlying73 (by kernel_rfl) _ _ 4 4 n n rfl rfl (w.heap.size + 1) 0 [.int .i64 0, .int .i64 0, .int .i64 0, .int .i64 0] 52 (HBK.out.alloc (.cells cs.toArray 3)) cs HLEN.out (fun _ => ⟨rfl, _, rfl, HCEL.out⟩) HFIT.out HONE.out (w.heap.size + 1) _ (Below.refl _ _) (Nat.le_refl _) ?_; intro w4 hg4 hb4))
  have hK : KindsAt w.heap.size op a b c d w w4 := by
    have hb5 : Below (w.heap.size + 1) ((w.alloc (.cells #[.int .i64 op, .int .i64 a, .int .i64 b, .int .i64 c, .int .i64 d] 65)).alloc (.cells #[.int .i64 0, .int .i64 0, .int .i64 0, .int .i64 0] 52)) w4 := ((Below.refl (w.heap.size + 1) ((w.alloc (.cells #[.int .i64 op, .int .i64 a, .int .i64 b, .int .i64 c, .int .i64 d] 65)).alloc (.cells #[.int .i64 0, .int .i64 0, .int .i64 0, .int .i64 0] 52))).alloc (by simp) (.cells cs.toArray 3)).trans ⟨hb4.os, hb4.tape, hb4.output, hb4.size, hb4.block⟩
    refine ⟨HBX.out.below hb5 (by omega), ?_, HBB.out.trans (hb5.mono (show w.heap.size ≤ w.heap.size + 1 by omega))⟩
    have h := hg4.out
    rw [HSPL.out] at h
    exact h
  have HK := Lib.hid hK
  have b0 := hK.ins.cell 0
  have b1 := hK.ins.cell 1
  have b2 := hK.ins.cell 2
  have b3 := hK.ins.cell 3
  have b4 := hK.ins.cell 4
  clear hg4 hb4 hK
  go_wp2
  clear b0 b1 b2 b3 b4
  go_loopw [17] (fun i wr => ∃ k : Nat, k ≤ 4 ∧ i = .int .i64 k ∧ KindsAt w.heap.size op a b c d w wr ∧ ∀ j, j < k → mayB op ((opsOf op).getD j 0) ([a, b, c, d].getD j 0) = true) (fun i _ => 4 - (intOf i).toNat)
  case atStart => exact ⟨0, by omega, rfl, HK.out, fun j hj => absurd hj (by omega)⟩
  case round =>
    obtain ⟨k, hk, rfl, hkk, hall⟩ := hrel
    have HA := Lib.hid hall
    clear hall
    by_cases hlt : k < 4
    · have hix := run_index_agg (P := Tryz.prog) wr 52 3 4 #[.int .i64 a, .int .i64 b, .int .i64 c, .int .i64 d] .i64 k (.int .i64 ([a, b, c, d].getD k 0)) Tryz.underlying52 (fun _ => by kernel_rfl) (fun _ => by kernel_rfl) hlt (by
        match k, hlt with
        | 0, _ => rfl
        | 1, _ => rfl
        | 2, _ => rfl
        | 3, _ => rfl)
      have hc0 : wr.cell? ⟨w.heap.size, 0, none⟩ = some (.int .i64 op) := hkk.ins.cell 0
      have hck := hkk.cell k hlt
      have hkd := HKND.out k
      have hm := HMAY.out _ ([a, b, c, d].getD k 0) hkd.1 hkd.2
      have HKK := Lib.hid hkk
      have HN2 := Lib.hid (HNOT.out k hlt)
      clear hkk hkd
      obtain ⟨x, hx⟩ : ∃ x, [a, b, c, d].getD k 0 = x := ⟨_, rfl⟩
      obtain ⟨y, hy⟩ : ∃ y, (opsOf op).getD k 0 = y := ⟨_, rfl⟩
      rw [hx] at hix
      rw [hy] at hck
      rw [hx, hy] at hm HN2
      have HX := Lib.hid hx
      have HY := Lib.hid hy
      clear hx hy
      cases hB : mayB op y x
      · rw [hB] at hm
        have HM := Lib.hid hm
        have HN3 := Lib.hid (HN2.out hB)
        clear hm hB HN2
        go_wp2
        go_quiet ((go_at_call 118; exact Calls.quiet_of_same ((HM.out _).mono fun _ _ h => ⟨h.1, h.2.symm⟩)))
        go_wp2
        go_ret
        exact ⟨ret_b HN3.out.symm, (HKK.out.drewN _).below⟩
      · rw [hB] at hm
        have HM := Lib.hid hm
        have HBF := Lib.hid hB
        clear hm hB
        go_wp2
        go_quiet ((go_at_call 118; exact Calls.quiet_of_same ((HM.out _).mono fun _ _ h => ⟨h.1, h.2.symm⟩)))
        go_wp2
        go_roundw
        case rel => exact ⟨k + 1, by omega, by go_num, HKK.out.drewN _, fun j hj => by
          by_cases e : j = k
          · subst e
            rw [HX.out, HY.out]
            exact HBF.out
          · exact HA.out j (by omega)⟩
        case measure => simp [intOf]; omega
    · obtain rfl : k = 4 := by omega
      have HKK := Lib.hid hkk
      have hr := HALL.out HA.out
      have HR := Lib.hid hr
      clear hkk hr
      go_wp2
      go_ret
      exact ⟨ret_b HR.out.symm, HKK.out.below⟩


end Go.Proofs.YtlmbiafloiompaaGreatDoor
