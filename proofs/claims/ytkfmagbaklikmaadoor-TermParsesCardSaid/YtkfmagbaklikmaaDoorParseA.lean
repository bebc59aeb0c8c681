/-
  The reader's skip, by a contract. Condition: the reader's block holds a text, and a place within it.
-/
import Derived.Test.YtkfmagbaklikmaaDoorTName
import Derived.Deep.QuietTactic
import Derived.BigQuiet
namespace Go.Proofs.YtkfmagbaklikmaaDoor
open Go Go.RowKit
set_option linter.unusedVariables false

theorem quiet_eq {P : Program} {f : FuncId} {args : Array Value} {w : World} {n : Nat} {v : Value} (h : Calls P f args (w.drewN n) fun e w' => e = .returned v ∧ w.drewN n = w') :
    Calls P f args (w.drewN n) fun e w'' => e = .returned v ∧ ∃ m, w'' = w.drewN m := h.mono fun _ _ ⟨he, hm⟩ => ⟨he, n, hm.symm⟩

/-- A reader in block g: its text, and its place. -/
def Rd (w : World) (g : Nat) (s : ByteArray) (i : Nat) : Prop := Box w g 53 #[.string s, .int .i64 ((i : Nat) : Int)] ∧ i ≤ s.size

theorem skip_no {w : World} {g : Nat} {s : ByteArray} {i : Nat} (h : Rd w g s i) (hs : s.size ≤ maxLen) (c : UInt8) (hc : ∀ hi : i < s.size, s[i] ≠ c) :
    Calls Tryd.prog 35 #[.pointer (some ⟨g, 0, none⟩), .int .u8 ((c.toNat : Nat) : Int)] w fun e w' => e = .returned (.bool false) ∧ ∃ n, w' = w.drewN n := by
  have h0 : w.cell? ⟨g, 0, none⟩ = some (.string s) := h.1.cell 0
  have h1 : w.cell? ⟨g, 1, none⟩ = some (.int .i64 ((i : Nat) : Int)) := h.1.cell 1
  have hi := h.2
  unfold maxLen at hs
  clear h
  by_cases e : i = s.size
  · subst e
    clear hc hi
    go_enter Tryd.func35, Tryd.ntmps35
    go_wp2
    go_quiet (fail)
    go_wp2
    go_ret
    exact ⟨rfl, _, rfl⟩
  · have hlt : i < s.size := by omega
    have e' : ((i : Int) == (s.size : Int)) = false := by simp only [beq_eq_false_iff_ne, ne_eq]; omega
    have hne : (((s[i].toNat : Nat) : Int) == ((c.toNat : Nat) : Int)) = false := by
      have := hc hlt
      have h2 : ¬ s[i].toNat = c.toNat := fun e => this (UInt8.toNat_inj.1 e)
      simp only [beq_eq_false_iff_ne, ne_eq]
      omega
    clear hc e
    go_enter Tryd.func35, Tryd.ntmps35
    go_wp2
    go_quiet (fail)
    go_wp2
    go_ret
    exact ⟨rfl, _, rfl⟩

theorem Rd.step {w : World} {g : Nat} {s : ByteArray} {i : Nat} (h : Rd w g s i) (hlt : i < s.size) (n m : Nat) : Rd (((w.drewN n).setCell ⟨g, 1, none⟩ (.int .i64 ((i : Int) + 1))).drewN m) g s (i + 1) := by
  refine ⟨?_, hlt⟩
  have := ((h.1.drewN n).set_ 1 (.int .i64 ((i : Int) + 1))).drewN m
  simpa using this

theorem skip_yes {w : World} {g : Nat} {s : ByteArray} {i : Nat} (h : Rd w g s i) (hs : s.size ≤ maxLen) (c : UInt8) (hlt : i < s.size) (hc : s[i] = c) :
    Calls Tryd.prog 35 #[.pointer (some ⟨g, 0, none⟩), .int .u8 ((c.toNat : Nat) : Int)] w fun e w' => e = .returned (.bool true) ∧ Rd w' g s (i + 1) ∧ Fr (fun k => k = g) w w' := by
  subst hc
  have h0 : w.cell? ⟨g, 0, none⟩ = some (.string s) := h.1.cell 0
  have h1 : w.cell? ⟨g, 1, none⟩ = some (.int .i64 ((i : Nat) : Int)) := h.1.cell 1
  have hf : w.frozen? ⟨g, 1, none⟩ = false := h.1.frozen 1
  have H := Lib.hid h
  unfold maxLen at hs
  clear h
  have e' : ((i : Int) == (s.size : Int)) = false := by simp only [beq_eq_false_iff_ne, ne_eq]; omega
  go_enter Tryd.func35, Tryd.ntmps35
  go_wp2
  go_quiet (fail)
  go_wp2
  go_ret
  exact ⟨rfl, H.out.step hlt _ 0, ((Fr.refl (fun k => k = g) w).drewN _).setCell (p := ⟨g, 1, none⟩) (.inl rfl) _⟩

theorem named1_is {b : Bool} (c : UInt8) (hb : nameB c = b) (w : World) :
    Calls Tryd.prog 45 #[.int .u8 ((c.toNat : Nat) : Int)] w fun e w' => e = .returned (.bool b) ∧ w = w' := by
  have HB := Lib.hid hb
  clear hb
  obtain ⟨b1, h1⟩ : ∃ b1, lowerB c = b1 := ⟨_, rfl⟩
  obtain ⟨b2, h2⟩ : ∃ b2, digitB c = b2 := ⟨_, rfl⟩
  have H1 := Lib.hid h1
  have H2 := Lib.hid h2
  have HZ : Hid (b = (b1 || b2)) := by
    show _ = _
    rw [← HB.out, nameB_eq, h1, h2]
  clear h1 h2 HB
  cases b1 <;> cases b2
  all_goals
    go_enter Tryd.func45, Tryd.ntmps45
    go_wp2_with (first
      | (go_at_call 31; refine (letter_is c H1.out _).mono ?_; rintro e w' ⟨rfl, rfl⟩)
      | (go_at_call 32; refine (digit_is c H2.out _).mono ?_; rintro e w' ⟨rfl, rfl⟩))
    go_ret
    exact ⟨by rw [HZ.out]; rfl, rfl⟩

/-- Where the bytes that may be end. -/
def wend (p : UInt8 → Bool) (s : ByteArray) (i : Nat) : Nat := i + ((s.data.toList.drop i).takeWhile p).length
theorem wend_le (p : UInt8 → Bool) (s : ByteArray) (i : Nat) (hi : i ≤ s.size) : wend p s i ≤ s.size := by
  unfold wend
  have h1 : ((s.data.toList.drop i).takeWhile p).length ≤ (s.data.toList.drop i).length := (List.takeWhile_sublist p).length_le
  have h2 : s.data.toList.length = s.size := by simp
  rw [List.length_drop, h2] at h1
  omega
theorem drop_at (s : ByteArray) (i : Nat) (hi : i < s.size) : s.data.toList.drop i = s[i] :: s.data.toList.drop (i + 1) := by
  have h2 : i < s.data.toList.length := by simpa using hi
  rw [List.drop_eq_getElem_cons h2]
  rfl
theorem wend_yes (p : UInt8 → Bool) (s : ByteArray) (i : Nat) (hi : i < s.size) (hp : p s[i] = true) : wend p s i = wend p s (i + 1) := by
  unfold wend
  rw [drop_at s i hi, List.takeWhile_cons_of_pos hp]
  simp
  omega
theorem wend_no (p : UInt8 → Bool) (s : ByteArray) (i : Nat) (hi : i < s.size) (hp : p s[i] = false) : wend p s i = i := by
  unfold wend
  rw [drop_at s i hi, List.takeWhile_cons_of_neg (by rw [hp]; exact Bool.false_ne_true)]
  simp
theorem wend_end (p : UInt8 → Bool) (s : ByteArray) (i : Nat) (hi : i = s.size) : wend p s i = i := by
  subst hi
  unfold wend
  rw [List.drop_of_length_le (by simp)]
  simp
def posOf (w : World) (g : Nat) : Nat := match w.cell? ⟨g, 1, none⟩ with
  | some (.int _ z) => z.toNat
  | _ => 0
theorem Rd.pos {w : World} {g : Nat} {s : ByteArray} {i : Nat} (h : Rd w g s i) : posOf w g = i := by
  have h1 : w.cell? ⟨g, 1, none⟩ = some (.int .i64 ((i : Nat) : Int)) := h.1.cell 1
  unfold posOf
  rw [h1]
  simp
theorem Rd.drewN {w : World} {g : Nat} {s : ByteArray} {i : Nat} (h : Rd w g s i) (n : Nat) : Rd (w.drewN n) g s i := ⟨h.1.drewN n, h.2⟩
theorem Rd.lt {w : World} {g : Nat} {s : ByteArray} {i : Nat} (h : Rd w g s i) : g < w.heap.size := h.1.lt
theorem Rd.below {w w' : World} {g : Nat} {s : ByteArray} {i : Nat} (h : Rd w g s i) (hb : Below w.heap.size w w') : Rd w' g s i := ⟨h.1.below hb h.1.lt, h.2⟩
theorem Rd.alloc {w : World} {g : Nat} {s : ByteArray} {i : Nat} (h : Rd w g s i) (o : Obj) : Rd (w.alloc o) g s i := ⟨h.1.alloc o, h.2⟩

set_option maxHeartbeats 2000000 in
theorem while_digits {w : World} {g : Nat} {s : ByteArray} {i : Nat} (h : Rd w g s i) (hs : s.size ≤ maxLen) :
    Calls Tryd.prog 42 #[.pointer (some ⟨g, 0, none⟩), .func (.func 32) #[] #[]] w fun e w' =>
      e = .returned (.string (s.extract i (wend digitB s i))) ∧ Rd w' g s (wend digitB s i) ∧ Fr (fun k => k = g) w w' := by
  have h1 : w.cell? ⟨g, 1, none⟩ = some (.int .i64 ((i : Nat) : Int)) := h.1.cell 1
  have H := Lib.hid h
  unfold maxLen at hs
  have hi := h.2
  clear h
  go_enter Tryd.func42, Tryd.ntmps42
  go_wp2_with fail
  clear h1
  go_loopw [13] (fun _ wr => ∃ j : Nat, i ≤ j ∧ j ≤ s.size ∧ Hid (wend digitB s i = wend digitB s j) ∧ Hid (Rd wr g s j) ∧ Hid (Fr (fun k => k = g) w wr)) (fun _ wr => s.size - posOf wr g)
  case atStart => exact ⟨i, Nat.le_refl _, hi, rfl, H, Fr.refl _ _⟩
  case round =>
    obtain ⟨j, hij, hj, HE, HR, HF⟩ := hrel
    clear H
    have h0 : wr.cell? ⟨g, 0, none⟩ = some (.string s) := HR.out.1.cell 0
    have h1 : wr.cell? ⟨g, 1, none⟩ = some (.int .i64 ((j : Nat) : Int)) := HR.out.1.cell 1
    have hf : wr.frozen? ⟨g, 1, none⟩ = false := HR.out.1.frozen 1
    by_cases hlt : j < s.size
    · have hltI : (j : Int) < (s.size : Int) := by omega
      obtain ⟨b, hb⟩ : ∃ b, digitB s[j] = b := ⟨_, rfl⟩
      have HB := Lib.hid hb
      clear hb
      cases b
      · go_upto_region 2 with fail
        go_quiet ((go_at_call 32; exact quiet_eq (digit_is s[j] HB.out _)))
        have HE2 : Hid (wend digitB s i = j) := by
          show _ = _
          rw [HE.out, wend_no _ s j hlt HB.out]
        have i1 : (i : Int) ≤ (j : Int) := by omega
        have i2 : (j : Int) ≤ (s.size : Int) := by omega
        go_upto_region 4 with fail
        go_quiet (fail)
        go_wp2
        go_ret
        refine ⟨by rw [HE2.out]; rfl, ?_, (HF.out.drewN _).drewN _⟩
        rw [HE2.out]
        exact (HR.out.drewN _).drewN _
      · go_upto_region 2 with fail
        go_quiet ((go_at_call 32; exact quiet_eq (digit_is s[j] HB.out _)))
        have HE2 : Hid (wend digitB s i = wend digitB s (j + 1)) := by
          show _ = _
          rw [HE.out, wend_yes _ s j hlt HB.out]
        have e1 : posOf ((wr.drewN nq).setCell ⟨g, 1, none⟩ (.int .i64 ((j : Int) + 1))) g = j + 1 := (HR.out.step hlt nq 0).pos
        have E1 := Lib.hid e1
        have E2 := Lib.hid HR.out.pos
        clear e1
        go_wp2
        go_roundw
        case rel => exact ⟨j + 1, by omega, by omega, HE2, HR.out.step hlt _ 0, HF.out.trans (((Fr.refl (fun k => k = g) wr).drewN _).setCell (p := ⟨g, 1, none⟩) (.inl rfl) _)⟩
        case measure =>
          rw [E1.out, E2.out]
          omega
    · have hd : decide ((j : Int) < (s.size : Int)) = false := by simp; omega
      have HE2 : Hid (wend digitB s i = j) := by
        show _ = _
        rw [HE.out, wend_end _ s j (by omega)]
      have i1 : (i : Int) ≤ (j : Int) := by omega
      have i2 : (j : Int) ≤ (s.size : Int) := by omega
      go_upto_region 2 with fail
      go_quiet (fail)
      go_upto_region 4 with fail
      go_quiet (fail)
      go_wp2
      go_ret
      refine ⟨by rw [HE2.out]; rfl, ?_, (HF.out.drewN _).drewN _⟩
      rw [HE2.out]
      exact (HR.out.drewN _).drewN _

set_option maxHeartbeats 2000000 in
theorem while_names {w : World} {g : Nat} {s : ByteArray} {i : Nat} (h : Rd w g s i) (hs : s.size ≤ maxLen) :
    Calls Tryd.prog 42 #[.pointer (some ⟨g, 0, none⟩), .func (.func 45) #[] #[]] w fun e w' =>
      e = .returned (.string (s.extract i (wend nameB s i))) ∧ Rd w' g s (wend nameB s i) ∧ Fr (fun k => k = g) w w' := by
  have h1 : w.cell? ⟨g, 1, none⟩ = some (.int .i64 ((i : Nat) : Int)) := h.1.cell 1
  have H := Lib.hid h
  unfold maxLen at hs
  have hi := h.2
  clear h
  go_enter Tryd.func42, Tryd.ntmps42
  go_wp2_with fail
  clear h1
  go_loopw [13] (fun _ wr => ∃ j : Nat, i ≤ j ∧ j ≤ s.size ∧ Hid (wend nameB s i = wend nameB s j) ∧ Hid (Rd wr g s j) ∧ Hid (Fr (fun k => k = g) w wr)) (fun _ wr => s.size - posOf wr g)
  case atStart => exact ⟨i, Nat.le_refl _, hi, rfl, H, Fr.refl _ _⟩
  case round =>
    obtain ⟨j, hij, hj, HE, HR, HF⟩ := hrel
    clear H
    have h0 : wr.cell? ⟨g, 0, none⟩ = some (.string s) := HR.out.1.cell 0
    have h1 : wr.cell? ⟨g, 1, none⟩ = some (.int .i64 ((j : Nat) : Int)) := HR.out.1.cell 1
    have hf : wr.frozen? ⟨g, 1, none⟩ = false := HR.out.1.frozen 1
    by_cases hlt : j < s.size
    · have hltI : (j : Int) < (s.size : Int) := by omega
      obtain ⟨b, hb⟩ : ∃ b, nameB s[j] = b := ⟨_, rfl⟩
      have HB := Lib.hid hb
      clear hb
      cases b
      · go_upto_region 2 with fail
        go_quiet ((go_at_call 45; exact quiet_eq (named1_is s[j] HB.out _)))
        have HE2 : Hid (wend nameB s i = j) := by
          show _ = _
          rw [HE.out, wend_no _ s j hlt HB.out]
        have i1 : (i : Int) ≤ (j : Int) := by omega
        have i2 : (j : Int) ≤ (s.size : Int) := by omega
        go_upto_region 4 with fail
        go_quiet (fail)
        go_wp2
        go_ret
        refine ⟨by rw [HE2.out]; rfl, ?_, (HF.out.drewN _).drewN _⟩
        rw [HE2.out]
        exact (HR.out.drewN _).drewN _
      · go_upto_region 2 with fail
        go_quiet ((go_at_call 45; exact quiet_eq (named1_is s[j] HB.out _)))
        have HE2 : Hid (wend nameB s i = wend nameB s (j + 1)) := by
          show _ = _
          rw [HE.out, wend_yes _ s j hlt HB.out]
        have e1 : posOf ((wr.drewN nq).setCell ⟨g, 1, none⟩ (.int .i64 ((j : Int) + 1))) g = j + 1 := (HR.out.step hlt nq 0).pos
        have E1 := Lib.hid e1
        have E2 := Lib.hid HR.out.pos
        clear e1
        go_wp2
        go_roundw
        case rel => exact ⟨j + 1, by omega, by omega, HE2, HR.out.step hlt _ 0, HF.out.trans (((Fr.refl (fun k => k = g) wr).drewN _).setCell (p := ⟨g, 1, none⟩) (.inl rfl) _)⟩
        case measure =>
          rw [E1.out, E2.out]
          omega
    · have hd : decide ((j : Int) < (s.size : Int)) = false := by simp; omega
      have HE2 : Hid (wend nameB s i = j) := by
        show _ = _
        rw [HE.out, wend_end _ s j (by omega)]
      have i1 : (i : Int) ≤ (j : Int) := by omega
      have i2 : (j : Int) ≤ (s.size : Int) := by omega
      go_upto_region 2 with fail
      go_quiet (fail)
      go_upto_region 4 with fail
      go_quiet (fail)
      go_wp2
      go_ret
      refine ⟨by rw [HE2.out]; rfl, ?_, (HF.out.drewN _).drewN _⟩
      rw [HE2.out]
      exact (HR.out.drewN _).drewN _
end Go.Proofs.YtkfmagbaklikmaaDoor
