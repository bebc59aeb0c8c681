/-
  The document's Num (a word's number), by contract: whatever text; and cutting at all blanks, in plain words.
-/
import Derived.Test.YtgkldglknkeedaaDoorCodeO
import Derived.Test.YtgkldglknkeedaaDoorCodeH
namespace Go.Proofs.YtgkldglknkeedaaDoor
open Go Go.RowKit Go.WideShapes Go.ChangeShapes
set_option linter.unusedVariables false

/-- All words. -/
def splitW : List UInt8 → List (List UInt8)
  | [] => [[]]
  | c :: r => if c = 32 then [] :: splitW r else match splitW r with
    | [] => [[c]]
    | w :: ws => (c :: w) :: ws

theorem splitW_ne (l : List UInt8) : splitW l ≠ [] := by
  cases l with
  | nil => simp [splitW]
  | cons c r =>
    rw [splitW]
    split
    · simp
    · split <;> simp
theorem splitW_miss : ∀ {w : List UInt8}, noBlank w → splitW w = [w] := by
  intro w
  induction w with
  | nil => intro _; rfl
  | cons c r ih =>
    intro h
    rw [splitW, if_neg (h c (by simp)), ih (fun x hx => h x (by simp [hx]))]
theorem splitW_hit : ∀ {w : List UInt8} (r : List UInt8), noBlank w → splitW (w ++ 32 :: r) = w :: splitW r := by
  intro w r
  induction w with
  | nil => intro _; simp [splitW]
  | cons c w ih =>
    intro h
    rw [List.cons_append, splitW, if_neg (h c (by simp)), ih (fun x hx => h x (by simp [hx]))]
theorem splitW_join : ∀ (ws : List (List UInt8)) (w0 : List UInt8), noBlank w0 → (∀ w ∈ ws, noBlank w) → splitW (w0 ++ ws.flatMap (32 :: ·)) = w0 :: ws := by
  intro ws
  induction ws with
  | nil => intro w0 h0 _; simp [splitW_miss h0]
  | cons w ws ih =>
    intro w0 h0 hws
    rw [List.flatMap_cons, List.cons_append, splitW_hit _ h0, ih w (hws w (by simp)) (fun x hx => hws x (by simp [hx]))]

/-- The digits' number, as far as they are digits. -/
def digOk (c : UInt8) : Bool := decide (48 ≤ c.toNat ∧ c.toNat ≤ 57)
def valOf (l : List UInt8) : Nat := l.foldl (fun n c => 10 * n + (c.toNat - 48)) 0
/-- A word's number; -1: it is none of few digits. -/
def rnumOf (w : List UInt8) : Int :=
  if w.length < 1 ∨ 7 < w.length then -1
  else if w.all digOk = true then (if Lib.itoa (valOf w : Int) = w then (valOf w : Int) else -1)
  else -1

theorem valOf_snoc (l : List UInt8) (c : UInt8) : valOf (l ++ [c]) = 10 * valOf l + (c.toNat - 48) := by simp [valOf]
theorem take_byte (s : ByteArray) (k : Nat) (h : k < s.size) : s.data.toList.take (k + 1) = s.data.toList.take k ++ [s[k]] := by
  rw [List.take_succ_eq_append_getElem (by simpa using h)]; rfl
theorem take_all_dig (s : ByteArray) (k : Nat) (h : k < s.size) (ha : (s.data.toList.take k).all digOk = true) (hd : digOk s[k] = true) : (s.data.toList.take (k + 1)).all digOk = true := by
  rw [take_byte s k h, List.all_append, ha]
  simpa using hd
theorem valOf_take_lt (s : ByteArray) : ∀ k, k ≤ s.size → (s.data.toList.take k).all digOk = true → valOf (s.data.toList.take k) < 10 ^ k := by
  intro k
  induction k with
  | zero => intro _ _; simp [valOf]
  | succ k ih =>
    intro hk h
    have hk' : k < s.size := by omega
    rw [take_byte s k hk', List.all_append, Bool.and_eq_true] at h
    have h1 := ih (by omega) h.1
    have h2 : digOk s[k] = true := by simpa using h.2
    have h3 := of_decide_eq_true h2
    rw [take_byte s k hk', valOf_snoc, Nat.pow_succ]
    omega

set_option maxHeartbeats 2000000 in
theorem rnum_any (s : ByteArray) (w : World) :
    Calls Tryd.prog 32 #[.string s] w fun e w' => e = .returned (.int .i64 (rnumOf s.data.toList)) ∧ Below w.heap.size w w' := by
  have hl : s.data.toList.length = s.size := by rw [Array.length_toList]; rfl
  by_cases hsz : s.size < 1 ∨ 7 < s.size
  · have hr : rnumOf s.data.toList = -1 := by rw [rnumOf, if_pos (by rw [hl]; exact hsz)]
    rw [hr]
    clear hr hl
    rcases hsz with h | h
    · have h0 : s.size = 0 := by omega
      have h1 : (s.size : Int) < 1 := by omega
      clear h
      go_enter Tryd.func32, Tryd.ntmps32
      go_wp2
      go_ret
      exact ⟨rfl, Below.refl _ _⟩
    · have h1 : ¬ (s.size : Int) < 1 := by omega
      have h2 : (7 : Int) < (s.size : Int) := by omega
      clear h
      go_enter Tryd.func32, Tryd.ntmps32
      go_wp2
      go_ret
      exact ⟨rfl, Below.refl _ _⟩
  · have h1 : ¬ (s.size : Int) < 1 := by omega
    have h2 : ¬ (7 : Int) < (s.size : Int) := by omega
    have h3 : s.size ≤ 7 := by omega
    have hr : rnumOf s.data.toList = if s.data.toList.all digOk = true then (if Lib.itoa (valOf s.data.toList : Int) = s.data.toList then (valOf s.data.toList : Int) else -1) else -1 := by
      rw [rnumOf, if_neg (by rw [hl]; exact hsz)]
    have HR := Lib.hid hr
    have HL := Lib.hid hl
    clear hr hl hsz
    go_enter Tryd.func32, Tryd.ntmps32
    go_wp2
    go_loop [3, 4] (fun n i => ∃ k : Nat, k ≤ s.size ∧ i = .int .i64 k ∧ n = .int .i64 (valOf (s.data.toList.take k) : Int) ∧ (s.data.toList.take k).all digOk = true) (fun _ i => s.size - (intOf i).toNat)
    case atStart => exact ⟨0, by omega, rfl, rfl, rfl⟩
    case round =>
      obtain ⟨k, hk, rfl, rfl, hall⟩ := hrel
      have hv := valOf_take_lt s k hk hall
      have hp : (10 : Nat) ^ k ≤ 10 ^ 7 := Nat.pow_le_pow_right (by decide) (by omega)
      have hv7 : valOf (s.data.toList.take k) < 10000000 := Nat.lt_of_lt_of_le hv hp
      clear hv hp
      by_cases hlt : k < s.size
      · have hts := take_byte s k hlt
        by_cases hd : digOk s[k] = true
        · have hb := of_decide_eq_true hd
          have hall2 := take_all_dig s k hlt hall hd
          have hval : (valOf (s.data.toList.take (k + 1)) : Int) = 10 * (valOf (s.data.toList.take k) : Int) + ((s[k].toNat : Int) - 48) := by
            rw [hts, valOf_snoc]
            omega
          generalize valOf (s.data.toList.take k) = n at hv7 hval
          have HALL2 := Lib.hid hall2
          have HVAL := Lib.hid hval
          have b1 : ¬ (s[k].toNat : Int) < 48 := by omega
          have b2 : ¬ (57 : Int) < (s[k].toNat : Int) := by omega
          clear hall hall2 hval hts hd hb
          go_wp2
          go_round
          case rel => exact ⟨k + 1, by omega, by go_num, by rw [HVAL.out], HALL2.out⟩
          case measure => simp [intOf]; omega
        · have hno : rnumOf s.data.toList = -1 := by
            rw [HR.out, if_neg]
            intro h
            rw [List.all_eq_true] at h
            exact hd (h s[k] (by
              have : s[k] = s.data.toList[k]'(by simpa using hlt) := rfl
              rw [this]
              exact List.getElem_mem _))
          have HNO := Lib.hid hno
          have hb : (s[k].toNat : Int) < 48 ∨ (57 : Int) < (s[k].toNat : Int) := by
            have h4 : ¬ (48 ≤ s[k].toNat ∧ s[k].toNat ≤ 57) := fun h => hd (decide_eq_true h)
            omega
          clear hall hts hd hno
          rcases hb with b1 | b2
          · go_wp2
            go_ret
            exact ⟨by rw [HNO.out]; rfl, Below.refl _ _⟩
          · have b1 : ¬ (s[k].toNat : Int) < 48 := by omega
            go_wp2
            go_ret
            exact ⟨by rw [HNO.out]; rfl, Below.refl _ _⟩
      · obtain rfl : k = s.size := by omega
        have ht : s.data.toList.take s.size = s.data.toList := List.take_of_length_le (by rw [HL.out]; exact Nat.le_refl _)
        rw [ht] at hall hv7
        have hr2 : rnumOf s.data.toList = if Lib.itoa (valOf s.data.toList : Int) = s.data.toList then (valOf s.data.toList : Int) else -1 := by rw [HR.out, if_pos hall]
        have HT := Lib.hid ht
        obtain ⟨n, hn⟩ : ∃ n, valOf s.data.toList = n := ⟨_, rfl⟩
        have hn2 : valOf (s.data.toList.take s.size) = n := by rw [ht, hn]
        rw [hn] at hr2 hv7
        rw [hn2]
        have hnum := fun w => num_itoa (n : Int) (by omega) (by omega) w
        have HR2 := Lib.hid hr2
        clear hall ht hr2 hn hn2 HR
        by_cases he : Lib.itoa (n : Int) = s.data.toList
        · have hs : (⟨(Lib.itoa (n : Int)).toArray⟩ : ByteArray) = s := by rw [he]
          rw [hs] at hnum
          have hr3 : rnumOf s.data.toList = (n : Int) := by rw [HR2.out, if_pos he]
          have HR3 := Lib.hid hr3
          have HNUM := Lib.hid hnum
          clear hs hr3 hnum he
          go_wp2_with (refine (HNUM.out _).mono ?_; rintro e w2 ⟨rfl, hm⟩)
          go_ret
          exact ⟨by rw [HR3.out]; rfl, by obtain ⟨m, rfl⟩ := hm; exact ⟨rfl, rfl, rfl, Nat.le_refl _, fun _ _ => rfl⟩⟩
        · have hs : ¬ (⟨(Lib.itoa (n : Int)).toArray⟩ : ByteArray) = s := fun e => he (by rw [← e])
          generalize (⟨(Lib.itoa (n : Int)).toArray⟩ : ByteArray) = t at hs hnum
          have hne := ne_strs hs
          have hr3 : rnumOf s.data.toList = -1 := by rw [HR2.out, if_neg he]
          have HR3 := Lib.hid hr3
          have HNUM := Lib.hid hnum
          clear hs hr3 hnum he
          go_wp2_with (refine (HNUM.out _).mono ?_; rintro e w2 ⟨rfl, hm⟩)
          go_ret
          exact ⟨by rw [HR3.out]; rfl, by obtain ⟨m, rfl⟩ := hm; exact ⟨rfl, rfl, rfl, Nat.le_refl _, fun _ _ => rfl⟩⟩

end Go.Proofs.YtgkldglknkeedaaDoor
