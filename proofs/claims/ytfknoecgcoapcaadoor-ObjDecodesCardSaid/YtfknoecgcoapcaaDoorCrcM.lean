/-
  The plain mathematics of the sum: the register as a natural number, bits that go out one by one; linear under exclusive or; a register that isn't 0 never becomes 0. No condition.
-/
import Derived.Laws.BitsAllLaws
namespace Go.Proofs.YtfknoecgcoapcaaDoor

/-- One bit goes out. -/
def shr1 (r : Nat) : Nat := if r % 2 = 1 then (r / 2) ^^^ 3988292384 else r / 2
/-- So many bits. -/
def shrN (r : Nat) : Nat → Nat
  | 0 => r
  | k + 1 => shr1 (shrN r k)
/-- A byte goes in. -/
def stepB (r c : Nat) : Nat := shrN (r ^^^ c) 8
/-- All bytes, one behind the other. -/
def regOf (r : Nat) (l : List Nat) : Nat := l.foldl stepB r
/-- The sum, from a sum on. -/
def crcOf (s : Nat) (l : List Nat) : Nat := 4294967295 ^^^ regOf (4294967295 ^^^ s) l

theorem xor_ones (b : Nat) (hb : b < 4294967296) : 4294967295 ^^^ b = 4294967295 - b := by
  have hb' : b < 2 ^ 32 := hb
  apply Nat.eq_of_testBit_eq
  intro i
  rw [Nat.testBit_xor, show (4294967295 : Nat) = 2 ^ 32 - 1 from rfl, Nat.testBit_two_pow_sub_one, show 2 ^ 32 - 1 - b = 2 ^ 32 - (b + 1) by omega, Nat.testBit_two_pow_sub_succ hb']
  by_cases hi : i < 32
  · simp [hi]
  · have : b.testBit i = false := Nat.testBit_lt_two_pow (Nat.lt_of_lt_of_le hb' (Nat.pow_le_pow_right (by decide) (by omega)))
    simp [hi, this]

theorem xor_lt {a b : Nat} (ha : a < 4294967296) (hb : b < 4294967296) : a ^^^ b < 4294967296 := Nat.xor_lt_two_pow (n := 32) ha hb

theorem shr1_lt {r : Nat} (h : r < 4294967296) : shr1 r < 4294967296 := by
  unfold shr1
  split
  · exact xor_lt (by omega) (by omega)
  · omega

theorem shrN_lt {r : Nat} (h : r < 4294967296) (k : Nat) : shrN r k < 4294967296 := by
  induction k with
  | zero => exact h
  | succ k ih => exact shr1_lt ih

theorem stepB_lt {r c : Nat} (h : r < 4294967296) (hc : c < 256) : stepB r c < 4294967296 := shrN_lt (xor_lt h (by omega)) 8

theorem regOf_lt {l : List Nat} : ∀ {r : Nat}, r < 4294967296 → (∀ c ∈ l, c < 256) → regOf r l < 4294967296 := by
  induction l with
  | nil => exact fun h _ => h
  | cons c l ih => exact fun h hl => ih (stepB_lt h (hl c (by simp))) (fun x hx => hl x (by simp [hx]))

theorem crcOf_lt {s : Nat} {l : List Nat} (h : s < 4294967296) (hl : ∀ c ∈ l, c < 256) : crcOf s l < 4294967296 :=
  xor_lt (by omega) (regOf_lt (xor_lt (by omega) h) hl)

theorem regOf_snoc (r : Nat) (l : List Nat) (c : Nat) : regOf r (l ++ [c]) = stepB (regOf r l) c := by simp [regOf]
theorem regOf_append (r : Nat) (l m : List Nat) : regOf r (l ++ m) = regOf (regOf r l) m := by simp [regOf]

theorem crcOf_nil (s : Nat) : crcOf s [] = s := by
  show 4294967295 ^^^ (4294967295 ^^^ s) = s
  rw [← Nat.xor_assoc, Nat.xor_self, Nat.zero_xor]

theorem crcOf_append (s : Nat) (l m : List Nat) : crcOf (crcOf s l) m = crcOf s (l ++ m) := by
  unfold crcOf
  rw [← Nat.xor_assoc, Nat.xor_self, Nat.zero_xor, regOf_append]

/-! ### Linear -/
theorem xor_mod2 (a b : Nat) : (a ^^^ b) % 2 = (a % 2 + b % 2) % 2 := by
  have h := Nat.xor_mod_two_pow (a := a) (b := b) (n := 1)
  rw [show (2 : Nat) ^ 1 = 2 from rfl] at h
  rw [h]
  rcases Nat.mod_two_eq_zero_or_one a with ha | ha <;> rcases Nat.mod_two_eq_zero_or_one b with hb | hb <;> simp [ha, hb]

theorem xor_div2 (a b : Nat) : (a ^^^ b) / 2 = a / 2 ^^^ b / 2 := by
  have h := Nat.xor_div_two_pow (a := a) (b := b) (n := 1)
  simpa using h

theorem shr1_xor (a b : Nat) : shr1 (a ^^^ b) = shr1 a ^^^ shr1 b := by
  unfold shr1
  rw [xor_mod2, xor_div2]
  rcases Nat.mod_two_eq_zero_or_one a with ha | ha <;> rcases Nat.mod_two_eq_zero_or_one b with hb | hb <;> simp only [ha, hb]
  · simp
  · simp [Nat.xor_assoc]
  · simp only [Nat.zero_ne_one, if_false, if_true]
    rw [Nat.xor_assoc, Nat.xor_comm (b / 2), Nat.xor_assoc]
  · simp only [Nat.reduceAdd, Nat.reduceMod, Nat.zero_ne_one, if_false, if_true]
    rw [Nat.xor_assoc, ← Nat.xor_assoc 3988292384, Nat.xor_comm 3988292384 (b / 2), Nat.xor_assoc, Nat.xor_self, Nat.xor_zero]

theorem shrN_xor (a b k : Nat) : shrN (a ^^^ b) k = shrN a k ^^^ shrN b k := by
  induction k with
  | zero => rfl
  | succ k ih => show shr1 _ = _; rw [ih, shr1_xor]; rfl

theorem shrN_add (r a b : Nat) : shrN r (a + b) = shrN (shrN r a) b := by
  induction b with
  | zero => rfl
  | succ b ih => show shr1 (shrN r (a + b)) = _; rw [ih]; rfl

theorem shr1_double (x : Nat) : shr1 (2 * x) = x := by
  unfold shr1
  rw [if_neg (by omega)]
  omega

theorem shrN_pow (x k : Nat) : shrN (2 ^ k * x) k = x := by
  induction k generalizing x with
  | zero => simp [shrN]
  | succ k ih =>
    show shr1 (shrN _ k) = x
    rw [show 2 ^ (k + 1) * x = 2 ^ k * (2 * x) by rw [Nat.pow_succ, Nat.mul_assoc], ih, shr1_double]

theorem shr1_pos {r : Nat} (h : r < 4294967296) (hr : r ≠ 0) : shr1 r ≠ 0 := by
  unfold shr1
  split
  · intro e
    have : r / 2 = 3988292384 := by
      have h2 := congrArg (fun x => x ^^^ 3988292384) e
      simpa [Nat.xor_assoc] using h2
    omega
  · omega

theorem shrN_pos {r : Nat} (h : r < 4294967296) (hr : r ≠ 0) (k : Nat) : shrN r k ≠ 0 := by
  induction k with
  | zero => exact hr
  | succ k ih => exact shr1_pos (shrN_lt h k) ih

/-- All bytes as one number, the first one lowest. -/
def numOf : List Nat → Nat
  | [] => 0
  | c :: l => c ^^^ 2 ^ 8 * numOf l

theorem regOf_eq (l : List Nat) : ∀ r, regOf r l = shrN (r ^^^ numOf l) (8 * l.length) := by
  induction l with
  | nil => intro r; simp [regOf, numOf, shrN]
  | cons c l ih =>
    intro r
    show regOf (stepB r c) l = shrN (r ^^^ (c ^^^ 2 ^ 8 * numOf l)) (8 * (l.length + 1))
    rw [ih, show 8 * (l.length + 1) = 8 + 8 * l.length by omega, shrN_add, ← Nat.xor_assoc, shrN_xor (r ^^^ c), shrN_pow]
    rfl

/-- Two rows of as many bytes, which part by some bits within 32: another register, so another sum. -/
theorem crcOf_ne {b c : List Nat} {k y : Nat} (s : Nat) (hlen : c.length = b.length) (hn : numOf c = numOf b ^^^ 2 ^ k * y) (hy : y ≠ 0) (hy2 : y < 4294967296) (hk : k + 32 ≤ 8 * b.length) :
    crcOf s b ≠ crcOf s c := by
  intro he
  have h1 : regOf (4294967295 ^^^ s) b = regOf (4294967295 ^^^ s) c := by
    have := congrArg (fun x => 4294967295 ^^^ x) he
    simpa [crcOf, ← Nat.xor_assoc] using this
  rw [regOf_eq, regOf_eq, hlen, hn, ← Nat.xor_assoc, shrN_xor _ (2 ^ k * y)] at h1
  have h2 : shrN (2 ^ k * y) (8 * b.length) = 0 := by
    have := congrArg (fun x => shrN ((4294967295 ^^^ s) ^^^ numOf b) (8 * b.length) ^^^ x) h1
    simp only [← Nat.xor_assoc, Nat.xor_self, Nat.zero_xor] at this
    exact this.symm
  rw [show 8 * b.length = k + (8 * b.length - k) by omega, shrN_add, shrN_pow] at h2
  exact shrN_pos hy2 hy _ h2

/-! ### Bits turned, one by one -/
/-- The bits of 'by' below i turned, from bit k on. -/
def turned (l : List Nat) (k y : Nat) : Nat → List Nat
  | 0 => l
  | i + 1 => if y / 2 ^ i % 2 = 1 then (turned l k y i).set ((k + i) / 8) ((turned l k y i).getD ((k + i) / 8) 0 ^^^ 2 ^ ((k + i) % 8)) else turned l k y i

theorem turned_length (l : List Nat) (k y i : Nat) : (turned l k y i).length = l.length := by
  induction i with
  | zero => rfl
  | succ i ih => unfold turned; split <;> simp [ih]

theorem turned_lt (l : List Nat) (k y : Nat) (hl : ∀ c ∈ l, c < 256) (i : Nat) : ∀ c ∈ turned l k y i, c < 256 := by
  induction i with
  | zero => exact hl
  | succ i ih =>
    unfold turned
    split
    · intro c hc
      rcases List.mem_or_eq_of_mem_set hc with h | h
      · exact ih c h
      · subst h
        refine Nat.xor_lt_two_pow (n := 8) ?_ ?_
        · rw [List.getD_eq_getElem?_getD]
          cases hq : (turned l k y i)[(k + i) / 8]? with
          | none => simp
          | some v => exact ih v (List.mem_of_getElem? hq)
        · exact Nat.pow_lt_pow_right (by decide) (by omega)
    · exact ih

theorem xor_mul_pow (a b k : Nat) : 2 ^ k * (a ^^^ b) = 2 ^ k * a ^^^ 2 ^ k * b := by
  have h := Nat.shiftLeft_xor_distrib (a := a) (b := b) (i := k)
  rw [Nat.shiftLeft_eq, Nat.shiftLeft_eq, Nat.shiftLeft_eq] at h
  rw [Nat.mul_comm, h, Nat.mul_comm a, Nat.mul_comm b]

theorem numOf_set (l : List Nat) : ∀ (j x : Nat), j < l.length → numOf (l.set j (l.getD j 0 ^^^ x)) = numOf l ^^^ 2 ^ (8 * j) * x := by
  induction l with
  | nil => intro j x h; simp at h
  | cons c l ih =>
    intro j x h
    cases j with
    | zero =>
      simp only [List.set_cons_zero, List.getD_cons_zero, numOf, Nat.mul_zero, Nat.pow_zero, Nat.one_mul]
      rw [Nat.xor_assoc, Nat.xor_assoc, Nat.xor_comm x]
    | succ j =>
      simp only [List.set_cons_succ, List.getD_cons_succ, numOf]
      rw [ih j x (by simpa using h), xor_mul_pow, ← Nat.xor_assoc, ← Nat.mul_assoc, ← Nat.pow_add]
      congr 3
      omega

theorem low_succ (y i : Nat) : y % 2 ^ (i + 1) = y % 2 ^ i ^^^ 2 ^ i * (y / 2 ^ i % 2) := by
  apply Nat.eq_of_testBit_eq
  intro j
  rw [Nat.testBit_xor, Nat.testBit_mod_two_pow, Nat.testBit_mod_two_pow, Nat.testBit_two_pow_mul]
  by_cases h : j < i
  · simp [h, show j < i + 1 by omega, show ¬ i ≤ j by omega]
  · by_cases h2 : j = i
    · subst h2
      simp [Nat.testBit, Nat.shiftRight_eq_div_pow]
    · have h3 : ¬ j < i + 1 := by omega
      have : Nat.testBit (y / 2 ^ i % 2) (j - i) = false := Nat.testBit_lt_two_pow (Nat.lt_of_lt_of_le (Nat.mod_lt _ (by decide)) (show 2 ^ 1 ≤ 2 ^ (j - i) from Nat.pow_le_pow_right (by decide) (by omega)))
      simp [h, h3, this]

theorem numOf_turned (l : List Nat) (k y i : Nat) (h : k + i ≤ 8 * l.length) : numOf (turned l k y i) = numOf l ^^^ 2 ^ k * (y % 2 ^ i) := by
  induction i with
  | zero => simp [turned, Nat.mod_one]
  | succ i ih =>
    have hlt : (k + i) / 8 < (turned l k y i).length := by rw [turned_length]; omega
    unfold turned
    rw [low_succ]
    split
    · rename_i hb
      rw [numOf_set _ _ _ hlt, ih (by omega), hb, Nat.mul_one, xor_mul_pow, Nat.xor_assoc, ← Nat.pow_add, ← Nat.pow_add, show 8 * ((k + i) / 8) + (k + i) % 8 = k + i by omega]
    · rename_i hb
      rw [ih (by omega), show y / 2 ^ i % 2 = 0 by omega]
      simp

theorem turned_ne {l : List Nat} {k y : Nat} (s : Nat) (hy : y ≠ 0) (hy2 : y < 4294967296) (hk : k + 32 ≤ 8 * l.length) : crcOf s l ≠ crcOf s (turned l k y 32) :=
  crcOf_ne s (turned_length l k y 32) (by rw [numOf_turned l k y 32 hk, Nat.mod_eq_of_lt hy2]) hy hy2 hk

end Go.Proofs.YtfknoecgcoapcaaDoor
