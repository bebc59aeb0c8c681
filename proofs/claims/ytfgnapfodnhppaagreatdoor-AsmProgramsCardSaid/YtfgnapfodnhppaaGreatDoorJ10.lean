/-
  3 texts in one (CodeO CodeP ObjD). Conditions: those of each theorem.
-/
import Derived.Test.YtfgnapfodnhppaaGreatDoorJ08
import Derived.Test.YtfgnapfodnhppaaGreatDoorJ06
import Derived.Test.YtfgnapfodnhppaaGreatDoorJ09
import Derived.Deep.QuietTactic
import Derived.BigQuiet
import Derived.Test.YtfgnapfodnhppaaGreatDoorJ04
namespace Go.Proofs.YtfgnapfodnhppaaGreatDoor
open Go Go.RowKit Go.WideShapes Go.ChangeShapes
set_option linter.unusedVariables false

theorem num_bs (n : Int) (h0 : 0 ≤ n) (h1 : n ≤ 65535) (w : World) : Calls Tryz.prog 38 #[.int .i64 n] w fun e w' => e = .returned (.string (bs (Lib.itoa n))) ∧ ∃ m, w' = w.drewN m :=
  num_itoa n h0 (by omega) w

theorem roperand_any (kind n : Int) (h0 : 0 ≤ n) (h1 : n ≤ 65535) (h8 : n = 65535 → kind = 8) (w : World) :
    Calls Tryz.prog 99 #[.int .i64 kind, .int .i64 n] w fun e w' => e = .returned (.string (bs (wordOf kind n))) ∧ ∃ m, w' = w.drewN m := by
  by_cases hn : n = 65535
  · have hk := h8 hn
    subst hn hk
    clear h0 h1 h8
    go_enter Tryz.func99, Tryz.ntmps99
    go_wp2
    go_ret
    exact ⟨rfl, 0, rfl⟩
  · have k8 : ¬ (kind = 8 ∧ n = 65535) := fun x => hn x.2
    have hn' : (n == 65535) = false := by simpa using hn
    by_cases k1 : kind = 1 ∧ 16 ≤ n
    · have hw : bs (wordOf kind n) = ⟨#[89]⟩ ++ bs (Lib.itoa (n - 16)) := by rw [wordOf, if_neg k8, if_pos k1, cons_bs]
      have hi := fun w => num_bs (n - 16) (by omega) (by omega) w
      obtain ⟨s, hs, hsz⟩ := itoa_size (n - 16) (by omega) (by omega)
      rw [hs] at hw hi
      rw [hw]
      have HI := Lib.hid hi
      obtain ⟨rfl, k16⟩ := k1
      clear hw hi k8 hs hn h8
      go_enter Tryz.func99, Tryz.ntmps99
      go_wp2_with (refine (HI.out _).mono ?_; rintro e w' ⟨rfl, m, rfl⟩)
      go_ret
      exact ⟨rfl, m, rfl⟩
    · by_cases k2 : kind = 1 ∨ kind = 2
      · have hw : bs (wordOf kind n) = ⟨#[88]⟩ ++ bs (Lib.itoa n) := by rw [wordOf, if_neg k8, if_neg k1, if_pos k2, cons_bs]
        have hi := fun w => num_bs n (by omega) (by omega) w
        obtain ⟨s, hs, hsz⟩ := itoa_size n (by omega) (by omega)
        rw [hs] at hw hi
        rw [hw]
        have HI := Lib.hid hi
        clear hw hi k8 hs hn h8
        rcases k2 with rfl | rfl
        · have hlt : n < 16 := by omega
          clear k1
          go_enter Tryz.func99, Tryz.ntmps99
          go_wp2_with (refine (HI.out _).mono ?_; rintro e w' ⟨rfl, m, rfl⟩)
          go_ret
          exact ⟨rfl, m, rfl⟩
        · clear k1
          go_enter Tryz.func99, Tryz.ntmps99
          go_wp2_with (refine (HI.out _).mono ?_; rintro e w' ⟨rfl, m, rfl⟩)
          go_ret
          exact ⟨rfl, m, rfl⟩
      · have e1 : (kind == 1) = false := by simp; omega
        have e2 : (kind == 2) = false := by simp; omega
        by_cases k9 : kind = 9
        · have hw : bs (wordOf kind n) = ⟨#[89]⟩ ++ bs (Lib.itoa n) := by rw [wordOf, if_neg k8, if_neg k1, if_neg k2, if_pos k9, cons_bs]
          have hi := fun w => num_bs n (by omega) (by omega) w
          obtain ⟨s, hs, hsz⟩ := itoa_size n (by omega) (by omega)
          rw [hs] at hw hi
          rw [hw]
          have HI := Lib.hid hi
          subst k9
          clear hw hi k8 hs k1 k2 e1 e2 hn h8
          go_enter Tryz.func99, Tryz.ntmps99
          go_wp2_with (refine (HI.out _).mono ?_; rintro e w' ⟨rfl, m, rfl⟩)
          go_ret
          exact ⟨rfl, m, rfl⟩
        · have e9 : (kind == 9) = false := by simp; omega
          have hw : bs (wordOf kind n) = bs (Lib.itoa n) := by rw [wordOf, if_neg k8, if_neg k1, if_neg k2, if_neg k9]
          have hi := fun w => num_bs n (by omega) (by omega) w
          obtain ⟨s, hs, hsz⟩ := itoa_size n (by omega) (by omega)
          rw [hs] at hw hi
          rw [hw]
          have HI := Lib.hid hi
          clear hw hi hs k1 k2 k9 k8 hn h8
          go_enter Tryz.func99, Tryz.ntmps99
          go_wp2_with (refine (HI.out _).mono ?_; rintro e w' ⟨rfl, m, rfl⟩)
          go_ret
          exact ⟨rfl, m, rfl⟩

end Go.Proofs.YtfgnapfodnhppaaGreatDoor

namespace Go.Proofs.YtfgnapfodnhppaaGreatDoor
open Go Go.RowKit Go.WideShapes Go.ChangeShapes
set_option linter.unusedVariables false

theorem rright_any (op a b c d : Int) (w : World) :
    Calls Tryz.prog 72 #[insV op a b c d] w fun e w' => e = .returned (.bool (rightB op [a, b, c, d])) ∧ Below w.heap.size w w' := by
  by_cases h : 0 ≤ op ∧ op ≤ 26
  · by_cases ho : opsOf op = []
    · exact rright_none op a b c d h ho w
    · exact rright_some op a b c d h _ rfl (List.length_pos_iff.2 ho) w
  · exact rright_out op a b c d h w

theorem TxtAt.step2 {op : Int} {l : List Int} {k : Nat} {T : ByteArray} (h : TxtAt op l k T) (hr : rightB op l = true) (hk : k < 4) : TxtAt op l (k + 1) (T ++ ⟨#[32]⟩ ++ bs (wordOf ((opsOf op).getD k 0) (l.getD k 0))) := by
  rw [ByteArray.append_assoc]
  exact h.step hr hk

theorem may_far {op x : Int} {k : Nat} (hk : k < (opsOf op).length) (h : mayB op ((opsOf op).getD k 0) x = true) : x = 65535 → (opsOf op).getD k 0 = 8 := by
  rintro rfl
  rcases of_decide_eq_true (may_valid hk h) with ⟨h1, _⟩ | ⟨_, h2⟩
  · exact h1
  · have b : highOf ((opsOf op).getD k 0) ≤ 1023 := by
      unfold highOf
      repeat (first | split | omega)
    omega

set_option maxRecDepth 100000 in
theorem rtext_no (op a b c d : Int) (h : rightB op [a, b, c, d] = false) (w : World) :
    Calls Tryz.prog 75 #[insV op a b c d] w fun e w' => e = .returned (.string (bs (textOf op [a, b, c, d]))) ∧ Below w.heap.size w w' := by
  have ht : textOf op [a, b, c, d] = [] := by rw [textOf, h]; rfl
  have hr := fun w => rright_any op a b c d w
  rw [h] at hr
  rw [ht]
  have HR := Lib.hid hr
  have HB := Lib.hid (alloc_below w (.cells #[.int .i64 op, .int .i64 a, .int .i64 b, .int .i64 c, .int .i64 d] 71))
  clear ht hr h
  unfold insV at HR ⊢
  go_enter Tryz.func75, Tryz.ntmps75
  go_wp2_with (refine (HR.out _).mono ?_; rintro e w' ⟨rfl, hb⟩)
  go_ret
  exact ⟨rfl, HB.out.trans (hb.mono HB.out.size)⟩

set_option maxRecDepth 100000 in
set_option maxHeartbeats 1000000 in
theorem rtext_none (op a b c d : Int) (h : rightB op [a, b, c, d] = true) (ho : opsOf op = []) (w : World) :
    Calls Tryz.prog 75 #[insV op a b c d] w fun e w' => e = .returned (.string (bs (textOf op [a, b, c, d]))) ∧ Below w.heap.size w w' := by
  have ht : bs (textOf op [a, b, c, d]) = nameOf op := by rw [textOf, if_pos h, ho]; simp [textTail, str_bs]
  have hr := fun w => rright_any op a b c d w
  rw [h] at hr
  rw [ht]
  have HR := Lib.hid hr
  have hbx : RBox w.heap.size op a b c d w (w.alloc (.cells #[.int .i64 op, .int .i64 a, .int .i64 b, .int .i64 c, .int .i64 d] 71)) := ⟨Box.new w _ _, alloc_below w _⟩
  have HBX := Lib.hid hbx
  have HN := Lib.hid (fun w => rname_any op w)
  have HO := Lib.hid (fun w => roperands_none op ho w)
  generalize nameOf op = nm at HN ⊢
  clear ht hr h hbx ho
  unfold insV at HR ⊢
  go_enter Tryz.func75, Tryz.ntmps75
  go_wp2_with fail
  refine (HR.out _).mono ?_
  rintro e w1 ⟨rfl, hb⟩
  have hb1 := HBX.out.up hb
  have c0 := hb1.ins.cell 0
  have HB1 := Lib.hid hb1
  clear hb1 hb
  go_wp2_with fail
  refine (HN.out _).mono ?_
  rintro e w2 ⟨rfl, hb⟩
  have hb2 := HB1.out.up hb
  have d0 := hb2.ins.cell 0
  have HB2 := Lib.hid hb2
  clear hb2 hb c0
  go_wp2_with fail
  refine (HO.out _).mono ?_
  rintro e w' ⟨rfl, rfl⟩
  go_wp2
  go_loop [3, 5] (fun v i => v = .string nm ∧ i = .int .i64 0) (fun _ _ => 0)
  case atStart => exact ⟨rfl, rfl⟩
  case round =>
    obtain ⟨rfl, rfl⟩ := hrel
    go_wp2
    go_ret
    exact ⟨rfl, HB2.out.below⟩

set_option maxRecDepth 100000 in
set_option maxHeartbeats 2000000 in
theorem rtext_some (op a b c d : Int) (h : rightB op [a, b, c, d] = true) (n : Nat) (hn : (opsOf op).length = n) (hn0 : 0 < n) (w : World) :
    Calls Tryz.prog 75 #[insV op a b c d] w fun e w' => e = .returned (.string (bs (textOf op [a, b, c, d]))) ∧ Below w.heap.size w w' := by
  have ht : bs (textOf op [a, b, c, d]) = bs ((nameOf op).data.toList ++ textTail op [a, b, c, d] n) := by rw [textOf, if_pos h, hn]
  have hr := fun w => rright_any op a b c d w
  rw [h] at hr
  rw [ht]
  have HR := Lib.hid hr
  have hbx : RBox w.heap.size op a b c d w (w.alloc (.cells #[.int .i64 op, .int .i64 a, .int .i64 b, .int .i64 c, .int .i64 d] 71)) := ⟨Box.new w _ _, alloc_below w _⟩
  have HBX := Lib.hid hbx
  have HN := Lib.hid (fun w => rname_any op w)
  have HO := Lib.hid (fun w => roperands_some op n hn hn0 w)
  have hn4 : n ≤ 4 := by have := ops_few op; omega
  have HH := Lib.hid h
  have HZ := Lib.hid (TxtAt.zero op [a, b, c, d])
  have HLEN := Lib.hid hn
  have HWORD := Lib.hid (fun (k : Nat) (hk : k < n) w => roperand_any ((opsOf op).getD k 0) ([a, b, c, d].getD k 0) (may_bd (right_at h k (by omega))).1 (may_bd (right_at h k (by omega))).2 (may_far (by omega) (right_at h k (by omega))) w)
  have HSZ := Lib.hid (fun (k : Nat) (hk : k < 4) => wordOf_len ((opsOf op).getD k 0) ([a, b, c, d].getD k 0) (may_bd (right_at h k hk)).1 (may_bd (right_at h k hk)).2)
  obtain ⟨nm, hnm⟩ : ∃ nm, nameOf op = nm := ⟨_, rfl⟩
  rw [hnm] at HN HZ
  clear ht hr h hbx hn hnm
  unfold insV at HR ⊢
  go_enter Tryz.func75, Tryz.ntmps75
  go_wp2_with fail
  refine (HR.out _).mono ?_
  rintro e w0 ⟨rfl, hb⟩
  have hb1 := HBX.out.up hb
  have c0 := hb1.ins.cell 0
  have HB0 := Lib.hid hb1
  clear hb1 hb
  go_wp2_with fail
  refine (HN.out _).mono ?_
  rintro e w1 ⟨rfl, hb⟩
  have hb2 := HB0.out.up hb
  have d0 := hb2.ins.cell 0
  have HB1 := Lib.hid hb2
  clear hb2 hb c0
  go_wp2_with fail
  refine (HO.out _).mono ?_
  rintro e w2 ⟨rfl, hw2⟩
  have hkc : ∀ k, k < n → w2.cell? ⟨w1.heap.size, k, none⟩ = some (.int .i64 ((opsOf op).getD k 0)) := fun k hk => by
    subst hw2
    rw [(Box.new w1 3 ((opsOf op).map (Value.int .i64)).toArray).cell k]
    have hk' : k < (opsOf op).length := by rw [HLEN.out]; exact hk
    simp [List.getD_eq_getElem?_getD, hk']
  have hb12 : Below w1.heap.size w1 w2 := by rw [← hw2]; exact alloc_below w1 _
  have hb2 := HB1.out.up hb12
  have hlt1 : w1.heap.size < w2.heap.size := by rw [← hw2]; simp
  have HKC := Lib.hid hkc
  have HB2 := Lib.hid hb2
  have HLT1 := Lib.hid hlt1
  clear hkc hb2 hw2 d0 hlt1 hb12
  go_wp2
  go_loopw [3, 5] (fun v i wr => ∃ (k : Nat) (T : ByteArray), k ≤ n ∧ i = .int .i64 k ∧ v = .string T ∧ TxtAt op [a, b, c, d] k T ∧ RBox w.heap.size op a b c d w wr ∧ Below w2.heap.size w2 wr) (fun _ i _ => n - (intOf i).toNat)
  case atStart => exact ⟨0, nm, by omega, rfl, rfl, HZ.out, HB2.out, Below.refl _ _⟩
  case round =>
    obtain ⟨k, T, hk, rfl, rfl, ht, hbx, hbl⟩ := hrel
    by_cases hlt : k < n
    · have hk4 : k < 4 := by omega
      have hkc := (hbl.cell (p := ⟨w1.heap.size, k, none⟩) HLT1.out).trans (HKC.out k hlt)
      have hac := hbx.cell k hk4
      have hwd := HWORD.out k hlt
      have hst := ht.step2 HH.out hk4
      have hts := ht.2
      have hws := HSZ.out k hk4
      rw [← bs_size] at hws
      generalize (opsOf op).getD k 0 = kd at hkc hwd hst hws
      generalize [a, b, c, d].getD k 0 = x at hac hwd hst hws
      generalize bs (wordOf kd x) = ws at hwd hst hws
      have z1 : (9223372036854775807 < T.size + 1) = False := by simp; omega
      have z2 : (9223372036854775807 < T.size + 1 + ws.size) = False := by simp; omega
      have j0 : (0 : Int) ≤ (k : Int) := by omega
      have j1 : (k : Int) < (n : Int) := by omega
      have j2 : (k : Int) < 4 := by omega
      have HWD := Lib.hid hwd
      have HST := Lib.hid hst
      have HBX2 := Lib.hid hbx
      have HBL := Lib.hid hbl
      clear hwd hst hbx hbl ht hts hws
      go_wp2_with fail
      go_quiet ((go_at_call 99; exact Calls.quiet_of (HWD.out _)))
      clear hkc hac z1 z2
      go_wp2
      go_roundw
      case rel => exact ⟨k + 1, _, by omega, by go_num, rfl, HST.out, HBX2.out.drewN _, bel_drewN HBL.out _⟩
      case measure => simp [intOf]; omega
    · obtain rfl : k = n := by omega
      have HT := Lib.hid ht.1
      have HBX2 := Lib.hid hbx
      clear ht hbx hbl
      go_wp2
      go_ret
      exact ⟨ret_str HT.out, HBX2.out.below⟩

theorem rtext_any (op a b c d : Int) (w : World) :
    Calls Tryz.prog 75 #[insV op a b c d] w fun e w' => e = .returned (.string (bs (textOf op [a, b, c, d]))) ∧ Below w.heap.size w w' := by
  cases h : rightB op [a, b, c, d]
  · exact rtext_no op a b c d h w
  · by_cases ho : opsOf op = []
    · exact rtext_none op a b c d h ho w
    · exact rtext_some op a b c d h _ rfl (List.length_pos_iff.2 ho) w

end Go.Proofs.YtfgnapfodnhppaaGreatDoor

namespace Go.Proofs.YtfgnapfodnhppaaGreatDoor
open Go Go.RowKit Go.WideShapes Go.ChangeShapes
set_option linter.unusedVariables false
set_option linter.unusedSimpArgs false

theorem there_any (A1 A2 A3 A4 : Option Addr) (a c1 f c2 p c3 c c4 : Nat) (kind n : Int) (w : World) :
    Calls Tryz.prog 63 #[.agg #[.slice A1 a c1, .slice A2 f c2, .slice A3 p c3, .slice A4 c c4], .int .i64 kind, .int .i64 n] w fun e w' => e = .returned (.bool (thereB a f p c kind n)) ∧ Below w.heap.size w w' := by
  have HB := Lib.hid (alloc_below w (.cells #[.slice A1 a c1, .slice A2 f c2, .slice A3 p c3, .slice A4 c c4] 31))
  by_cases h3 : kind = 3
  · subst h3
    go_enter Tryz.func63, Tryz.ntmps63
    go_wp2_with (go_at_call 59; refine (within_any _ _ _).mono ?_; rintro e w' ⟨rfl, rfl⟩)
    go_ret
    exact ⟨ret_b (by simp [thereB]), HB.out⟩
  have h3' : (kind == 3) = false := by simpa using h3
  by_cases h4 : kind = 4
  · subst h4
    go_enter Tryz.func63, Tryz.ntmps63
    go_wp2_with (go_at_call 59; refine (within_any _ _ _).mono ?_; rintro e w' ⟨rfl, rfl⟩)
    go_ret
    exact ⟨ret_b (by simp [thereB]), HB.out⟩
  have h4' : (kind == 4) = false := by simpa using h4
  by_cases h7 : kind = 7
  · subst h7
    go_enter Tryz.func63, Tryz.ntmps63
    go_wp2_with (go_at_call 59; refine (within_any _ _ _).mono ?_; rintro e w' ⟨rfl, rfl⟩)
    go_ret
    exact ⟨ret_b (by simp [thereB]), HB.out⟩
  have h7' : (kind == 7) = false := by simpa using h7
  by_cases h8 : kind = 8
  · subst h8
    by_cases hn : n = 65535
    · subst hn
      go_enter Tryz.func63, Tryz.ntmps63
      go_wp2_with (go_at_call 59; refine (within_any _ _ _).mono ?_; rintro e w' ⟨rfl, rfl⟩)
      go_ret
      exact ⟨rfl, HB.out⟩
    · have hn' : (n == 65535) = false := by simpa using hn
      have he : thereB a f p c 8 n = decide (0 ≤ n ∧ n < (c : Int)) := by
        show decide (n = 65535 ∨ (0 ≤ n ∧ n < (c : Int))) = _
        rw [Bool.eq_iff_iff]
        simp [hn]
      rw [he]
      clear he
      go_enter Tryz.func63, Tryz.ntmps63
      go_wp2_with (go_at_call 59; refine (within_any _ _ _).mono ?_; rintro e w' ⟨rfl, rfl⟩)
      go_ret
      exact ⟨ret_b (by simp), HB.out⟩
  have h8' : (kind == 8) = false := by simpa using h8
  have he : thereB a f p c kind n = true := by
    unfold thereB
    rw [if_neg h3, if_neg h4, if_neg h7, if_neg h8]
  rw [he]
  clear he
  go_enter Tryz.func63, Tryz.ntmps63
  go_wp2
  go_ret
  exact ⟨rfl, HB.out⟩


/-- What checkInstr keeps: the object's box, the instruction's, the kinds'. -/
structure Ck (w w3 wr : World) (g2 g3 : Nat) (va vf vp vc : Value) (i : Ins) : Prop where
  ob : Box w3 g2 31 #[va, vf, vp, vc]
  ins : Box w3 g3 78 #[.int .i64 i.1, .int .i64 i.2.1, .int .i64 i.2.2.1, .int .i64 i.2.2.2.1, .int .i64 i.2.2.2.2]
  new : w.heap.size ≤ w3.heap.size
  old : Below w.heap.size w w3
  below : Below w3.heap.size w3 wr
theorem Ck.up {w w3 wr w' : World} {g2 g3 : Nat} {va vf vp vc : Value} {i : Ins} (h : Ck w w3 wr g2 g3 va vf vp vc i) (hb : Below wr.heap.size wr w') : Ck w w3 w' g2 g3 va vf vp vc i :=
  ⟨h.ob, h.ins, h.new, h.old, h.below.trans (hb.mono h.below.size)⟩
theorem Ck.all {w w3 wr : World} {g2 g3 : Nat} {va vf vp vc : Value} {i : Ins} (h : Ck w w3 wr g2 g3 va vf vp vc i) : Below w.heap.size w wr := h.old.trans (h.below.mono h.new)
theorem Ck.obAt {w w3 wr : World} {g2 g3 : Nat} {va vf vp vc : Value} {i : Ins} (h : Ck w w3 wr g2 g3 va vf vp vc i) : Box wr g2 31 #[va, vf, vp, vc] := h.ob.below h.below h.ob.lt
theorem Ck.insAt {w w3 wr : World} {g2 g3 : Nat} {va vf vp vc : Value} {i : Ins} (h : Ck w w3 wr g2 g3 va vf vp vc i) : Box wr g3 78 #[.int .i64 i.1, .int .i64 i.2.1, .int .i64 i.2.2.1, .int .i64 i.2.2.2.1, .int .i64 i.2.2.2.2] := h.ins.below h.below h.ins.lt
theorem Ck.arg {w w3 wr : World} {g2 g3 : Nat} {va vf vp vc : Value} {i : Ins} (h : Ck w w3 wr g2 g3 va vf vp vc i) (k : Nat) (hk : k < 4) : wr.cell? ⟨g3, 1 + k, none⟩ = some (.int .i64 ((argOf i).getD k 0)) := by
  rw [h.insAt.cell (1 + k)]
  match k, hk with
  | 0, _ => rfl
  | 1, _ => rfl
  | 2, _ => rfl
  | 3, _ => rfl

theorem ck_start (w : World) (va vf vp vc : Value) (i : Ins) : Ck w ((w.alloc (.cells #[va, vf, vp, vc] 31)).alloc (.cells #[.int .i64 i.1, .int .i64 i.2.1, .int .i64 i.2.2.1, .int .i64 i.2.2.2.1, .int .i64 i.2.2.2.2] 78))
    ((w.alloc (.cells #[va, vf, vp, vc] 31)).alloc (.cells #[.int .i64 i.1, .int .i64 i.2.1, .int .i64 i.2.2.1, .int .i64 i.2.2.2.1, .int .i64 i.2.2.2.2] 78)) w.heap.size (w.heap.size + 1) va vf vp vc i := by
  refine ⟨(Box.new w _ _).alloc _, ?_, by simp; omega, two_below w _ _, Below.refl _ _⟩
  have h := Box.new (w.alloc (.cells #[va, vf, vp, vc] 31)) 78 #[.int .i64 i.1, .int .i64 i.2.1, .int .i64 i.2.2.1, .int .i64 i.2.2.2.1, .int .i64 i.2.2.2.2]
  rw [World.size_alloc] at h
  exact h

theorem five_up {w0 w' : World} {g2 g3 k : Nat} {a b c d e : Value} (h : Below w0.heap.size w0 w') (h2 : g2 < w0.heap.size) (h3 : g3 < w0.heap.size)
    (h0 : (w0.cell? ⟨g2, 0, none⟩ = some a ∧ w0.cell? ⟨g2, 1, none⟩ = some b) ∧ (w0.cell? ⟨g2, 2, none⟩ = some c ∧ w0.cell? ⟨g2, 3, none⟩ = some d) ∧ w0.cell? ⟨g3, k, none⟩ = some e) :
    (w'.cell? ⟨g2, 0, none⟩ = some a ∧ w'.cell? ⟨g2, 1, none⟩ = some b) ∧ (w'.cell? ⟨g2, 2, none⟩ = some c ∧ w'.cell? ⟨g2, 3, none⟩ = some d) ∧ w'.cell? ⟨g3, k, none⟩ = some e :=
  ⟨⟨(h.cell (p := ⟨g2, 0, none⟩) h2).trans h0.1.1, (h.cell (p := ⟨g2, 1, none⟩) h2).trans h0.1.2⟩, ⟨(h.cell (p := ⟨g2, 2, none⟩) h2).trans h0.2.1.1, (h.cell (p := ⟨g2, 3, none⟩) h2).trans h0.2.1.2⟩, (h.cell (p := ⟨g3, k, none⟩) h3).trans h0.2.2⟩
theorem bdrew0 (W : World) (n : Nat) : Below W.heap.size W (W.drewN n) := ⟨rfl, rfl, rfl, Nat.le_refl _, fun _ _ => rfl⟩
theorem list_all_take (n : Nat) (P : Nat → Bool) : (List.range n).all P = true ↔ ∀ j, j < n → P j = true := by
  simp [List.all_eq_true]

set_option maxRecDepth 100000 in
set_option maxHeartbeats 8000000 in
theorem checkInstr_any (A1 A2 A3 A4 : Option Addr) (a c1 f c2 p c3 c c4 : Nat) (i : Ins) (w : World) (hw : NamesAt w) :
    Calls Tryz.prog 31 #[.agg #[.slice A1 a c1, .slice A2 f c2, .slice A3 p c3, .slice A4 c c4], .agg #[.int .i64 i.1, .int .i64 i.2.1, .int .i64 i.2.2.1, .int .i64 i.2.2.2.1, .int .i64 i.2.2.2.2]] w
      fun e w' => e = .returned (.int .i64 (insErr a f p c i)) ∧ Below w.heap.size w w' := by
  have K0 := Lib.hid (ck_start w (.slice A1 a c1) (.slice A2 f c2) (.slice A3 p c3) (.slice A4 c c4) i)
  have HW := Lib.hid hw
  have HRI := Lib.hid (fun w hw => right_any i.1 i.2.1 i.2.2.1 i.2.2.2.1 i.2.2.2.2 w hw)
  have HIE : Hid (insErr a f p c i = if ¬ (0 ≤ i.1 ∧ i.1 ≤ 26) then 8 else if rightB i.1 (argOf i) = false then 9 else if (List.range (opsOf i.1).length).all (fun k => thereB a f p c ((opsOf i.1).getD k 0) ((argOf i).getD k 0)) then 0 else 9) := Lib.hid rfl
  have HARG : Hid (argOf i = [i.2.1, i.2.2.1, i.2.2.2.1, i.2.2.2.2]) := Lib.hid rfl
  generalize insErr a f p c i = ie at HIE
  have HCARG := Lib.hid (fun w3 wr g2 g3 (h : Ck w w3 wr g2 g3 (.slice A1 a c1) (.slice A2 f c2) (.slice A3 p c3) (.slice A4 c c4) i) k hk => h.arg k hk)
  have HCINS := Lib.hid (fun w3 wr g2 g3 (h : Ck w w3 wr g2 g3 (.slice A1 a c1) (.slice A2 f c2) (.slice A3 p c3) (.slice A4 c c4) i) => h.insAt)
  unfold insV at HRI
  clear hw
  by_cases hr : 0 ≤ i.1 ∧ i.1 ≤ 26
  · obtain ⟨m, hm⟩ := Int.eq_ofNat_of_zero_le hr.1
    have hne := name_nonempty m (by omega)
    have hnm : nameOf i.1 = nameAt m := by rw [hm]; rw [nameOf, if_pos (by omega)]; rfl
    have HNAME := Lib.hid (fun w hw => hnm ▸ name_any i.1 w hw)
    obtain ⟨nm, hnmx⟩ : ∃ nm, nameAt m = nm := ⟨_, rfl⟩
    rw [hnmx] at hne HNAME
    have HOPN := Lib.hid (fun (h : opsOf i.1 = []) w => operands_none i.1 h w)
    have HOPS := Lib.hid (fun n hn h0 w => operands_some i.1 n hn h0 w)
    have HFEW := Lib.hid (ops_few i.1)
    cases hB : rightB i.1 (argOf i)
    · have HX : Hid (ie = 9) := Lib.hid (by rw [HIE.out, if_neg (by omega), if_pos hB])
      rw [HARG.out] at hB
      rw [hB] at HRI
      clear hB hm hnm hnmx hr
      go_enter Tryz.func31, Tryz.ntmps31
      go_wp2_with (first
        | (go_at_call 60; refine (HNAME.out _ (HW.out.below (two_below w _ _) HW.out.lt)).mono ?_; rintro e w' ⟨rfl, rfl⟩)
        | (go_at_call 61; refine (HRI.out _ (HW.out.below (two_below w _ _) HW.out.lt)).mono ?_; rintro e w4 ⟨rfl, hb4⟩; have HK4 := Lib.hid (K0.out.up hb4); clear hb4))
      go_ret
      exact ⟨by rw [HX.out]; rfl, HK4.out.all⟩
    · have HX : Hid (ie = if (List.range (opsOf i.1).length).all (fun k => thereB a f p c ((opsOf i.1).getD k 0) ((argOf i).getD k 0)) then 0 else 9) := Lib.hid (by rw [HIE.out, if_neg (by omega), if_neg (by rw [hB]; decide)])
      rw [HARG.out] at hB
      rw [hB] at HRI
      clear hB hm hnm hnmx hr
      by_cases ho : opsOf i.1 = []
      · have HO := Lib.hid (HOPN.out ho)
        have HX2 : Hid (ie = 0) := Lib.hid (by rw [HX.out, ho]; rfl)
        clear ho
        go_enter Tryz.func31, Tryz.ntmps31
        go_upto_region 3 with (go_at_call 60; refine (HNAME.out _ (HW.out.below (two_below w _ _) HW.out.lt)).mono ?_; rintro e w' ⟨rfl, rfl⟩)
        go_wp2_with (first
          | (go_at_call 61; refine (HRI.out _ (HW.out.below (two_below w _ _) HW.out.lt)).mono ?_; rintro e w4 ⟨rfl, hb4⟩; have HK4 := Lib.hid (K0.out.up hb4); have c0 := (HCINS.out _ _ _ _ HK4.out).cell 0; clear hb4)
          | (go_at_call 62; refine (HO.out _).mono ?_; rintro e w5 ⟨rfl, rfl⟩))
        go_loopw [18] (fun i wr => i = .int .i64 0 ∧ wr = w4) (fun _ _ => 0)
        case atStart => exact ⟨rfl, rfl⟩
        case round =>
          obtain ⟨rfl, rfl⟩ := hrel
          go_wp2
          go_ret
          exact ⟨by rw [HX2.out]; rfl, HK4.out.all⟩
      · obtain ⟨n, hn⟩ : ∃ n, (opsOf i.1).length = n := ⟨_, rfl⟩
        have hn0 : 0 < n := by rw [← hn]; exact List.length_pos_iff.2 ho
        have HO := Lib.hid (HOPS.out n hn hn0)
        have hn4 : n ≤ 4 := by rw [← hn]; exact HFEW.out
        have HN := Lib.hid hn
        rw [hn] at HX
        clear ho hn hn0
        go_enter Tryz.func31, Tryz.ntmps31
        go_upto_region 3 with (go_at_call 60; refine (HNAME.out _ (HW.out.below (two_below w _ _) HW.out.lt)).mono ?_; rintro e w' ⟨rfl, rfl⟩)
        go_wp2_with (first
          | (go_at_call 61; refine (HRI.out _ (HW.out.below (two_below w _ _) HW.out.lt)).mono ?_; rintro e w4 ⟨rfl, hb4⟩; have HK4 := Lib.hid (K0.out.up hb4); have c0 := (HCINS.out _ _ _ _ HK4.out).cell 0; clear hb4)
          | (go_at_call 62; refine (HO.out _).mono ?_; rintro e w5 ⟨rfl, hw5⟩))
        have HK5 : Hid (Ck w _ w5 (w.heap.size) (w.heap.size + 1) (.slice A1 a c1) (.slice A2 f c2) (.slice A3 p c3) (.slice A4 c c4) i) := Lib.hid (HK4.out.up (by rw [← hw5]; exact alloc_below w4 _))
        have HKND : Hid (∀ k, k < n → w5.cell? ⟨w4.heap.size, k, none⟩ = some (.int .i64 ((opsOf i.1).getD k 0))) := Lib.hid (fun k hk => by
          rw [← hw5, (Box.new w4 3 ((opsOf i.1).map (Value.int .i64)).toArray).cell k]
          have := HN.out
          simp [List.getD_eq_getElem?_getD, show k < (opsOf i.1).length by omega])
        have HLT5 : Hid (w4.heap.size < w5.heap.size) := Lib.hid (by rw [← hw5]; simp)
        obtain ⟨gk, hgk⟩ : ∃ gk, w4.heap.size = gk := ⟨_, rfl⟩
        rw [hgk] at HKND HLT5 ⊢
        obtain ⟨g3, hg3⟩ : ∃ g3, w.heap.size + 1 = g3 := ⟨_, rfl⟩
        rw [hg3] at HK5 ⊢
        obtain ⟨g2, hg2⟩ : ∃ g2, w.heap.size = g2 := ⟨_, rfl⟩
        rw [hg2] at HK5 ⊢
        have HG2 := Lib.hid hg2
        clear hw5 c0 HK4 hgk hg3 hg2
        go_loopw [18] (fun iv wr => ∃ k : Nat, k ≤ n ∧ iv = .int .i64 k ∧ Below w5.heap.size w5 wr ∧ ∀ j, j < k → thereB a f p c ((opsOf i.1).getD j 0) ((argOf i).getD j 0) = true) (fun iv _ => n - (intOf iv).toNat)
        case atStart => exact ⟨0, by omega, rfl, Below.refl _ _, fun j hj => absurd hj (by omega)⟩
        case round =>
          obtain ⟨k, hk, rfl, hbl, hall⟩ := hrel
          have HBL := Lib.hid hbl
          have HA := Lib.hid hall
          have HKR := Lib.hid (HK5.out.up hbl)
          clear hbl hall
          by_cases hlt : k < n
          · have hkc := (HBL.out.cell (p := ⟨gk, k, none⟩) HLT5.out).trans (HKND.out k hlt)
            have hac := HCARG.out _ _ _ _ HKR.out k (by omega)
            have o0 := HKR.out.obAt.cell 0
            have o1 := HKR.out.obAt.cell 1
            have o2 := HKR.out.obAt.cell 2
            have o3 := HKR.out.obAt.cell 3
            have HTH := Lib.hid (fun w => there_any A1 A2 A3 A4 a c1 f c2 p c3 c c4 ((opsOf i.1).getD k 0) ((argOf i).getD k 0) w)
            have d1 : decide ((k : Int) < (4 : Int)) = true := by rw [decide_eq_true_eq]; omega
            have HT2 : Hid (thereB a f p c ((opsOf i.1).getD k 0) ((argOf i).getD k 0) = false → ie = 9) := Lib.hid (fun h => by
              rw [HX.out, if_neg]
              intro h2
              rw [(list_all_take n _).1 h2 k hlt] at h
              cases h)
            have HT3 : Hid (thereB a f p c ((opsOf i.1).getD k 0) ((argOf i).getD k 0) = true → ∀ j, j < k + 1 → thereB a f p c ((opsOf i.1).getD j 0) ((argOf i).getD j 0) = true) := Lib.hid (fun h j hj => by
              by_cases e : j = k
              · rw [e]; exact h
              · exact HA.out j (by omega))
            generalize (opsOf i.1).getD k 0 = y at hkc HTH HT2 HT3
            generalize (argOf i).getD k 0 = x at hac HTH HT2 HT3
            generalize thereB a f p c y x = th at HTH HT2 HT3
            have d2 : (k : Int) < 4 := by omega
            have d3 : k < 4 := by omega
            have d4 : decide (k < 4) = true := by rw [decide_eq_true_eq]; omega
            have d5 : (0 : Int) ≤ (k : Int) := by omega
            have hS := And.intro (And.intro o0 o1) (And.intro (And.intro o2 o3) hac)
            clear o0 o1 o2 o3 hac
            go_upto_region 8 with (fail)
            have HG : Hid (g2 < wr.heap.size ∧ g3 < wr.heap.size) := Lib.hid ⟨HKR.out.obAt.lt, HKR.out.insAt.lt⟩
            have HB7 : Hid (Below wr.heap.size wr (wr.drewN 1)) := Lib.hid (bdrew0 wr 1)
            cases th
            · have HT := Lib.hid (HT2.out rfl)
              clear HT2 HT3
              go_region_held3 (fun w' => (w'.cell? ⟨g2, 0, none⟩ = some (.slice A1 a c1) ∧ w'.cell? ⟨g2, 1, none⟩ = some (.slice A2 f c2)) ∧ (w'.cell? ⟨g2, 2, none⟩ = some (.slice A3 p c3) ∧ w'.cell? ⟨g2, 3, none⟩ = some (.slice A4 c c4)) ∧ w'.cell? ⟨g3, 1 + k, none⟩ = some (.int .i64 x))
                (first | exact hS8 | exact hS)
                (first
                  | (go_at_call 63; refine (HTH.out _).mono ?_; rintro e w8 ⟨rfl, hb8⟩; have hS8 := five_up hb8 HG.out.1 HG.out.2 hS; replace HB7 := Lib.hid (HB7.out.trans (hb8.mono HB7.out.size)); clear hb8))
              go_wp2
              go_ret
              exact ⟨by rw [HT.out]; rfl, (HKR.out.up HB7.out).all⟩
            · have HT := Lib.hid (HT3.out rfl)
              clear HT2 HT3
              go_region_held3 (fun w' => (w'.cell? ⟨g2, 0, none⟩ = some (.slice A1 a c1) ∧ w'.cell? ⟨g2, 1, none⟩ = some (.slice A2 f c2)) ∧ (w'.cell? ⟨g2, 2, none⟩ = some (.slice A3 p c3) ∧ w'.cell? ⟨g2, 3, none⟩ = some (.slice A4 c c4)) ∧ w'.cell? ⟨g3, 1 + k, none⟩ = some (.int .i64 x))
                (first | exact hS8 | exact hS)
                (first
                  | (go_at_call 63; refine (HTH.out _).mono ?_; rintro e w8 ⟨rfl, hb8⟩; have hS8 := five_up hb8 HG.out.1 HG.out.2 hS; replace HB7 := Lib.hid (HB7.out.trans (hb8.mono HB7.out.size)); clear hb8))
              go_wp2
              go_roundw
              case rel => exact ⟨k + 1, by omega, by go_num, HBL.out.trans (HB7.out.mono HBL.out.size), HT.out⟩
              case measure => simp [intOf]; omega
          · obtain rfl : k = n := by omega
            have HT : Hid (ie = 0) := Lib.hid (by rw [HX.out, if_pos ((list_all_take _ _).2 HA.out)])
            go_wp2
            go_ret
            exact ⟨by rw [HT.out]; rfl, HKR.out.all⟩
  · have hnm : nameOf i.1 = ⟨#[]⟩ := if_neg hr
    have HNAME := Lib.hid (fun w hw => hnm ▸ name_any i.1 w hw)
    have HX : Hid (ie = 8) := Lib.hid (by rw [HIE.out, if_pos hr])
    clear hnm hr
    go_enter Tryz.func31, Tryz.ntmps31
    go_wp2_with (go_at_call 60; refine (HNAME.out _ (HW.out.below (two_below w _ _) HW.out.lt)).mono ?_; rintro e w' ⟨rfl, rfl⟩)
    go_ret
    exact ⟨by rw [HX.out]; rfl, K0.out.all⟩

end Go.Proofs.YtfgnapfodnhppaaGreatDoor
