/-
  The document's Text: by its plain words, in whatever world.
-/
import Derived.Test.YtgkldglknkeedaaDoorCodeN
import Derived.Test.YtgkldglknkeedaaDoorCodeO
import Derived.Deep.QuietTactic
import Derived.BigQuiet
namespace Go.Proofs.YtgkldglknkeedaaDoor
open Go Go.RowKit Go.WideShapes Go.ChangeShapes
set_option linter.unusedVariables false

theorem rright_any (op a b c d : Int) (w : World) :
    Calls Tryd.prog 9 #[insV op a b c d] w fun e w' => e = .returned (.bool (rightB op [a, b, c, d])) ∧ Below w.heap.size w w' := by
  by_cases h : 0 ≤ op ∧ op ≤ 26
  · by_cases ho : opsOf op = []
    · exact rright_none op a b c d h ho w
    · exact rright_some op a b c d h _ rfl (List.length_pos_iff.2 ho) w
  · exact rright_out op a b c d h w

theorem TxtAt.step2 {op : Int} {l : List Int} {k : Nat} {T : ByteArray} (h : TxtAt op l k T) (hr : rightB op l = true) (hk : k < 4) : TxtAt op l (k + 1) (T ++ ⟨#[32]⟩ ++ bs (wordOf ((opsOf op).getD k 0) (l.getD k 0))) := by
  rw [ByteArray.append_assoc]
  exact h.step hr hk

theorem may_far {op x : Int} {k : Nat} (hk : k < (opsOf op).length) (h : mayB op ((opsOf op).getD k 0) x = true) : x = 65535 → (opsOf op).getD k 0 = 8 := by
  rintro rfl
  rcases of_decide_eq_true (may_valid hk h) with ⟨h1, _⟩ | ⟨_, h2⟩
  · exact h1
  · have b : highOf ((opsOf op).getD k 0) ≤ 1023 := by
      unfold highOf
      repeat (first | split | omega)
    omega

set_option maxRecDepth 100000 in
theorem rtext_no (op a b c d : Int) (h : rightB op [a, b, c, d] = false) (w : World) :
    Calls Tryd.prog 16 #[insV op a b c d] w fun e w' => e = .returned (.string (bs (textOf op [a, b, c, d]))) ∧ Below w.heap.size w w' := by
  have ht : textOf op [a, b, c, d] = [] := by rw [textOf, h]; rfl
  have hr := fun w => rright_any op a b c d w
  rw [h] at hr
  rw [ht]
  have HR := Lib.hid hr
  have HB := Lib.hid (alloc_below w (.cells #[.int .i64 op, .int .i64 a, .int .i64 b, .int .i64 c, .int .i64 d] 24))
  clear ht hr h
  unfold insV at HR ⊢
  go_enter Tryd.func16, Tryd.ntmps16
  go_wp2_with (refine (HR.out _).mono ?_; rintro e w' ⟨rfl, hb⟩)
  go_ret
  exact ⟨rfl, HB.out.trans (hb.mono HB.out.size)⟩

set_option maxRecDepth 100000 in
set_option maxHeartbeats 1000000 in
theorem rtext_none (op a b c d : Int) (h : rightB op [a, b, c, d] = true) (ho : opsOf op = []) (w : World) :
    Calls Tryd.prog 16 #[insV op a b c d] w fun e w' => e = .returned (.string (bs (textOf op [a, b, c, d]))) ∧ Below w.heap.size w w' := by
  have ht : bs (textOf op [a, b, c, d]) = nameOf op := by rw [textOf, if_pos h, ho]; simp [textTail, str_bs]
  have hr := fun w => rright_any op a b c d w
  rw [h] at hr
  rw [ht]
  have HR := Lib.hid hr
  have hbx : RBox w.heap.size op a b c d w (w.alloc (.cells #[.int .i64 op, .int .i64 a, .int .i64 b, .int .i64 c, .int .i64 d] 24)) := ⟨Box.new w _ _, alloc_below w _⟩
  have HBX := Lib.hid hbx
  have HN := Lib.hid (fun w => rname_any op w)
  have HO := Lib.hid (fun w => roperands_none op ho w)
  generalize nameOf op = nm at HN ⊢
  clear ht hr h hbx ho
  unfold insV at HR ⊢
  go_enter Tryd.func16, Tryd.ntmps16
  go_wp2_with fail
  refine (HR.out _).mono ?_
  rintro e w1 ⟨rfl, hb⟩
  have hb1 := HBX.out.up hb
  have c0 := hb1.ins.cell 0
  have HB1 := Lib.hid hb1
  clear hb1 hb
  go_wp2_with fail
  refine (HN.out _).mono ?_
  rintro e w2 ⟨rfl, hb⟩
  have hb2 := HB1.out.up hb
  have d0 := hb2.ins.cell 0
  have HB2 := Lib.hid hb2
  clear hb2 hb c0
  go_wp2_with fail
  refine (HO.out _).mono ?_
  rintro e w' ⟨rfl, rfl⟩
  go_wp2
  go_loop [3, 5] (fun v i => v = .string nm ∧ i = .int .i64 0) (fun _ _ => 0)
  case atStart => exact ⟨rfl, rfl⟩
  case round =>
    obtain ⟨rfl, rfl⟩ := hrel
    go_wp2
    go_ret
    exact ⟨rfl, HB2.out.below⟩

set_option maxRecDepth 100000 in
set_option maxHeartbeats 2000000 in
theorem rtext_some (op a b c d : Int) (h : rightB op [a, b, c, d] = true) (n : Nat) (hn : (opsOf op).length = n) (hn0 : 0 < n) (w : World) :
    Calls Tryd.prog 16 #[insV op a b c d] w fun e w' => e = .returned (.string (bs (textOf op [a, b, c, d]))) ∧ Below w.heap.size w w' := by
  have ht : bs (textOf op [a, b, c, d]) = bs ((nameOf op).data.toList ++ textTail op [a, b, c, d] n) := by rw [textOf, if_pos h, hn]
  have hr := fun w => rright_any op a b c d w
  rw [h] at hr
  rw [ht]
  have HR := Lib.hid hr
  have hbx : RBox w.heap.size op a b c d w (w.alloc (.cells #[.int .i64 op, .int .i64 a, .int .i64 b, .int .i64 c, .int .i64 d] 24)) := ⟨Box.new w _ _, alloc_below w _⟩
  have HBX := Lib.hid hbx
  have HN := Lib.hid (fun w => rname_any op w)
  have HO := Lib.hid (fun w => roperands_some op n hn hn0 w)
  have hn4 : n ≤ 4 := by have := ops_few op; omega
  have HH := Lib.hid h
  have HZ := Lib.hid (TxtAt.zero op [a, b, c, d])
  have HLEN := Lib.hid hn
  have HWORD := Lib.hid (fun (k : Nat) (hk : k < n) w => roperand_any ((opsOf op).getD k 0) ([a, b, c, d].getD k 0) (may_bd (right_at h k (by omega))).1 (may_bd (right_at h k (by omega))).2 (may_far (by omega) (right_at h k (by omega))) w)
  have HSZ := Lib.hid (fun (k : Nat) (hk : k < 4) => wordOf_len ((opsOf op).getD k 0) ([a, b, c, d].getD k 0) (may_bd (right_at h k hk)).1 (may_bd (right_at h k hk)).2)
  obtain ⟨nm, hnm⟩ : ∃ nm, nameOf op = nm := ⟨_, rfl⟩
  rw [hnm] at HN HZ
  clear ht hr h hbx hn hnm
  unfold insV at HR ⊢
  go_enter Tryd.func16, Tryd.ntmps16
  go_wp2_with fail
  refine (HR.out _).mono ?_
  rintro e w0 ⟨rfl, hb⟩
  have hb1 := HBX.out.up hb
  have c0 := hb1.ins.cell 0
  have HB0 := Lib.hid hb1
  clear hb1 hb
  go_wp2_with fail
  refine (HN.out _).mono ?_
  rintro e w1 ⟨rfl, hb⟩
  have hb2 := HB0.out.up hb
  have d0 := hb2.ins.cell 0
  have HB1 := Lib.hid hb2
  clear hb2 hb c0
  go_wp2_with fail
  refine (HO.out _).mono ?_
  rintro e w2 ⟨rfl, hw2⟩
  have hkc : ∀ k, k < n → w2.cell? ⟨w1.heap.size, k, none⟩ = some (.int .i64 ((opsOf op).getD k 0)) := fun k hk => by
    subst hw2
    rw [(Box.new w1 3 ((opsOf op).map (Value.int .i64)).toArray).cell k]
    have hk' : k < (opsOf op).length := by rw [HLEN.out]; exact hk
    simp [List.getD_eq_getElem?_getD, hk']
  have hb12 : Below w1.heap.size w1 w2 := by rw [← hw2]; exact alloc_below w1 _
  have hb2 := HB1.out.up hb12
  have hlt1 : w1.heap.size < w2.heap.size := by rw [← hw2]; simp
  have HKC := Lib.hid hkc
  have HB2 := Lib.hid hb2
  have HLT1 := Lib.hid hlt1
  clear hkc hb2 hw2 d0 hlt1 hb12
  go_wp2
  go_loopw [3, 5] (fun v i wr => ∃ (k : Nat) (T : ByteArray), k ≤ n ∧ i = .int .i64 k ∧ v = .string T ∧ TxtAt op [a, b, c, d] k T ∧ RBox w.heap.size op a b c d w wr ∧ Below w2.heap.size w2 wr) (fun _ i _ => n - (intOf i).toNat)
  case atStart => exact ⟨0, nm, by omega, rfl, rfl, HZ.out, HB2.out, Below.refl _ _⟩
  case round =>
    obtain ⟨k, T, hk, rfl, rfl, ht, hbx, hbl⟩ := hrel
    by_cases hlt : k < n
    · have hk4 : k < 4 := by omega
      have hkc := (hbl.cell (p := ⟨w1.heap.size, k, none⟩) HLT1.out).trans (HKC.out k hlt)
      have hac := hbx.cell k hk4
      have hwd := HWORD.out k hlt
      have hst := ht.step2 HH.out hk4
      have hts := ht.2
      have hws := HSZ.out k hk4
      rw [← bs_size] at hws
      generalize (opsOf op).getD k 0 = kd at hkc hwd hst hws
      generalize [a, b, c, d].getD k 0 = x at hac hwd hst hws
      generalize bs (wordOf kd x) = ws at hwd hst hws
      have z1 : (9223372036854775807 < T.size + 1) = False := by simp; omega
      have z2 : (9223372036854775807 < T.size + 1 + ws.size) = False := by simp; omega
      have j0 : (0 : Int) ≤ (k : Int) := by omega
      have j1 : (k : Int) < (n : Int) := by omega
      have j2 : (k : Int) < 4 := by omega
      have HWD := Lib.hid hwd
      have HST := Lib.hid hst
      have HBX2 := Lib.hid hbx
      have HBL := Lib.hid hbl
      clear hwd hst hbx hbl ht hts hws
      go_wp2_with fail
      go_quiet ((go_at_call 28; exact Calls.quiet_of (HWD.out _)))
      clear hkc hac z1 z2
      go_wp2
      go_roundw
      case rel => exact ⟨k + 1, _, by omega, by go_num, rfl, HST.out, HBX2.out.drewN _, bel_drewN HBL.out _⟩
      case measure => simp [intOf]; omega
    · obtain rfl : k = n := by omega
      have HT := Lib.hid ht.1
      have HBX2 := Lib.hid hbx
      clear ht hbx hbl
      go_wp2
      go_ret
      exact ⟨ret_str HT.out, HBX2.out.below⟩

theorem rtext_any (op a b c d : Int) (w : World) :
    Calls Tryd.prog 16 #[insV op a b c d] w fun e w' => e = .returned (.string (bs (textOf op [a, b, c, d]))) ∧ Below w.heap.size w w' := by
  cases h : rightB op [a, b, c, d]
  · exact rtext_no op a b c d h w
  · by_cases ho : opsOf op = []
    · exact rtext_none op a b c d h ho w
    · exact rtext_some op a b c d h _ rfl (List.length_pos_iff.2 ho) w

end Go.Proofs.YtgkldglknkeedaaDoor
