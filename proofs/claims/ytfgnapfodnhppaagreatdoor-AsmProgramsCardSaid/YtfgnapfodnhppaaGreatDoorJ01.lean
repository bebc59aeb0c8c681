/-
  4 texts in one (CodeM CrcM Mem OName). Conditions: those of each theorem.
-/
import Derived.Lib.Hide
import Derived.WalkKit
import Derived.Laws.BitsAllLaws
import Derived.ProofKit
import Derived.Below
import Derived.Laws.OwnMore
import Derived.Laws.Rows
import Derived.Deep.Draws
import Derived.OwnWalk
import Derived.ChangeSame
import Derived.WalkSmall
import Derived.Test.YtfgnapfodnhppaaGreatDoorProg
import Derived.LoopTactic
import Derived.OpenShut
import Derived.IntWalk
namespace Go.Proofs.YtfgnapfodnhppaaGreatDoor
open Go

/-- What an Op's operands are. -/
def opsOf (op : Int) : List Int :=
  if op = 1 ∨ op = 2 ∨ op = 10 ∨ op = 11 then [1, 2]
  else if op = 3 ∨ op = 12 then [3, 2]
  else if op = 4 ∨ op = 13 then [4, 2]
  else if op = 5 ∨ op = 14 then [2]
  else if op = 6 ∨ op = 7 then [1]
  else if op = 8 then [3]
  else if op = 9 then [5]
  else if op = 15 then [6]
  else if op = 17 ∨ op = 18 then [7]
  else if op = 20 ∨ op = 21 then [8]
  else if op = 24 ∨ op = 25 then [9]
  else if op = 26 then [8, 8, 8, 8]
  else []

/-- From where to where an operand's numbers go. -/
def lowOf (kind : Int) : Int := if kind = 5 then 1 else 0
def highOf (kind : Int) : Int :=
  if kind = 1 then 31 else if kind = 2 then 15 else if kind = 3 then 255 else if kind = 4 then 255 else if kind = 5 then 8
  else if kind = 6 then 16 else if kind = 7 then 63 else if kind = 8 then 1023 else if kind = 9 then 15 else 0

/-- May a number stand there? -/
def mayB (op kind n : Int) : Bool := decide ((op = 26 ∧ n = 65535) ∨ (lowOf kind ≤ n ∧ n ≤ highOf kind))

/-- May it be an instruction? -/
def rightB (op : Int) (a : List Int) : Bool :=
  decide (0 ≤ op ∧ op ≤ 26) && (List.range 4).all fun k => mayB op ((opsOf op).getD k 0) (a.getD k 0)

/-- The names. -/
def nameList : List (List UInt8) := [
  [102, 97, 105, 108], [103, 101, 116, 118, 97, 114], [103, 101, 116, 118, 97, 108], [103, 101, 116, 99, 111, 110], [103, 101, 116, 115, 116, 114], [103, 101, 116, 108, 105, 115],
  [117, 110, 105, 118, 97, 114], [117, 110, 105, 118, 97, 108], [117, 110, 105, 99, 111, 110], [117, 110, 105, 118, 111, 105, 100], [112, 117, 116, 118, 97, 114], [112, 117, 116, 118, 97, 108],
  [112, 117, 116, 99, 111, 110], [112, 117, 116, 115, 116, 114], [112, 117, 116, 108, 105, 115], [97, 108, 108, 111, 99, 97, 116, 101], [100, 101, 97, 108, 108, 111, 99, 97, 116, 101],
  [99, 97, 108, 108], [101, 120, 101, 99, 117, 116, 101], [112, 114, 111, 99, 101, 101, 100], [116, 114, 121], [114, 101, 116, 114, 121], [116, 114, 117, 115, 116], [110, 101, 99, 107, 99, 117, 116],
  [103, 101, 116, 108, 101, 118, 101, 108], [99, 117, 116], [115, 119, 105, 116, 99, 104]]

def nameAt (k : Nat) : ByteArray := ⟨(nameList.getD k []).toArray⟩
def nameOf (op : Int) : ByteArray := if 0 ≤ op ∧ op ≤ 26 then nameAt op.toNat else ⟨#[]⟩

theorem span_list : ∀ op ∈ ([0, 1, 2, 3, 4, 5, 6, 7, 8, 9, 10, 11, 12, 13, 14, 15, 16, 17, 18, 19, 20, 21, 22, 23, 24, 25, 26] : List Int), ∀ k ∈ opsOf op, 1 ≤ k ∧ k ≤ 9 := by decide +kernel

end Go.Proofs.YtfgnapfodnhppaaGreatDoor

namespace Go.Proofs.YtfgnapfodnhppaaGreatDoor

/-- One bit goes out. -/
def shr1 (r : Nat) : Nat := if r % 2 = 1 then (r / 2) ^^^ 3988292384 else r / 2
/-- So many bits. -/
def shrN (r : Nat) : Nat → Nat
  | 0 => r
  | k + 1 => shr1 (shrN r k)
/-- A byte goes in. -/
def stepB (r c : Nat) : Nat := shrN (r ^^^ c) 8
/-- All bytes, one behind the other. -/
def regOf (r : Nat) (l : List Nat) : Nat := l.foldl stepB r
/-- The sum, from a sum on. -/
def crcOf (s : Nat) (l : List Nat) : Nat := 4294967295 ^^^ regOf (4294967295 ^^^ s) l

theorem xor_ones (b : Nat) (hb : b < 4294967296) : 4294967295 ^^^ b = 4294967295 - b := by
  have hb' : b < 2 ^ 32 := hb
  apply Nat.eq_of_testBit_eq
  intro i
  rw [Nat.testBit_xor, show (4294967295 : Nat) = 2 ^ 32 - 1 from rfl, Nat.testBit_two_pow_sub_one, show 2 ^ 32 - 1 - b = 2 ^ 32 - (b + 1) by omega, Nat.testBit_two_pow_sub_succ hb']
  by_cases hi : i < 32
  · simp [hi]
  · have : b.testBit i = false := Nat.testBit_lt_two_pow (Nat.lt_of_lt_of_le hb' (Nat.pow_le_pow_right (by decide) (by omega)))
    simp [hi, this]

theorem xor_lt {a b : Nat} (ha : a < 4294967296) (hb : b < 4294967296) : a ^^^ b < 4294967296 := Nat.xor_lt_two_pow (n := 32) ha hb

theorem shr1_lt {r : Nat} (h : r < 4294967296) : shr1 r < 4294967296 := by
  unfold shr1
  split
  · exact xor_lt (by omega) (by omega)
  · omega

theorem shrN_lt {r : Nat} (h : r < 4294967296) (k : Nat) : shrN r k < 4294967296 := by
  induction k with
  | zero => exact h
  | succ k ih => exact shr1_lt ih

theorem stepB_lt {r c : Nat} (h : r < 4294967296) (hc : c < 256) : stepB r c < 4294967296 := shrN_lt (xor_lt h (by omega)) 8

theorem regOf_lt {l : List Nat} : ∀ {r : Nat}, r < 4294967296 → (∀ c ∈ l, c < 256) → regOf r l < 4294967296 := by
  induction l with
  | nil => exact fun h _ => h
  | cons c l ih => exact fun h hl => ih (stepB_lt h (hl c (by simp))) (fun x hx => hl x (by simp [hx]))

theorem crcOf_lt {s : Nat} {l : List Nat} (h : s < 4294967296) (hl : ∀ c ∈ l, c < 256) : crcOf s l < 4294967296 :=
  xor_lt (by omega) (regOf_lt (xor_lt (by omega) h) hl)

theorem regOf_snoc (r : Nat) (l : List Nat) (c : Nat) : regOf r (l ++ [c]) = stepB (regOf r l) c := by simp [regOf]
theorem regOf_append (r : Nat) (l m : List Nat) : regOf r (l ++ m) = regOf (regOf r l) m := by simp [regOf]

theorem crcOf_nil (s : Nat) : crcOf s [] = s := by
  show 4294967295 ^^^ (4294967295 ^^^ s) = s
  rw [← Nat.xor_assoc, Nat.xor_self, Nat.zero_xor]

theorem crcOf_append (s : Nat) (l m : List Nat) : crcOf (crcOf s l) m = crcOf s (l ++ m) := by
  unfold crcOf
  rw [← Nat.xor_assoc, Nat.xor_self, Nat.zero_xor, regOf_append]

/-! ### Linear -/
theorem xor_mod2 (a b : Nat) : (a ^^^ b) % 2 = (a % 2 + b % 2) % 2 := by
  have h := Nat.xor_mod_two_pow (a := a) (b := b) (n := 1)
  rw [show (2 : Nat) ^ 1 = 2 from rfl] at h
  rw [h]
  rcases Nat.mod_two_eq_zero_or_one a with ha | ha <;> rcases Nat.mod_two_eq_zero_or_one b with hb | hb <;> simp [ha, hb]

theorem xor_div2 (a b : Nat) : (a ^^^ b) / 2 = a / 2 ^^^ b / 2 := by
  have h := Nat.xor_div_two_pow (a := a) (b := b) (n := 1)
  simpa using h

theorem shr1_xor (a b : Nat) : shr1 (a ^^^ b) = shr1 a ^^^ shr1 b := by
  unfold shr1
  rw [xor_mod2, xor_div2]
  rcases Nat.mod_two_eq_zero_or_one a with ha | ha <;> rcases Nat.mod_two_eq_zero_or_one b with hb | hb <;> simp only [ha, hb]
  · simp
  · simp [Nat.xor_assoc]
  · simp only [Nat.zero_ne_one, if_false, if_true]
    rw [Nat.xor_assoc, Nat.xor_comm (b / 2), Nat.xor_assoc]
  · simp only [Nat.reduceAdd, Nat.reduceMod, Nat.zero_ne_one, if_false, if_true]
    rw [Nat.xor_assoc, ← Nat.xor_assoc 3988292384, Nat.xor_comm 3988292384 (b / 2), Nat.xor_assoc, Nat.xor_self, Nat.xor_zero]

theorem shrN_xor (a b k : Nat) : shrN (a ^^^ b) k = shrN a k ^^^ shrN b k := by
  induction k with
  | zero => rfl
  | succ k ih => show shr1 _ = _; rw [ih, shr1_xor]; rfl

theorem shrN_add (r a b : Nat) : shrN r (a + b) = shrN (shrN r a) b := by
  induction b with
  | zero => rfl
  | succ b ih => show shr1 (shrN r (a + b)) = _; rw [ih]; rfl

theorem shr1_double (x : Nat) : shr1 (2 * x) = x := by
  unfold shr1
  rw [if_neg (by omega)]
  omega

theorem shrN_pow (x k : Nat) : shrN (2 ^ k * x) k = x := by
  induction k generalizing x with
  | zero => simp [shrN]
  | succ k ih =>
    show shr1 (shrN _ k) = x
    rw [show 2 ^ (k + 1) * x = 2 ^ k * (2 * x) by rw [Nat.pow_succ, Nat.mul_assoc], ih, shr1_double]

theorem shr1_pos {r : Nat} (h : r < 4294967296) (hr : r ≠ 0) : shr1 r ≠ 0 := by
  unfold shr1
  split
  · intro e
    have : r / 2 = 3988292384 := by
      have h2 := congrArg (fun x => x ^^^ 3988292384) e
      simpa [Nat.xor_assoc] using h2
    omega
  · omega

theorem shrN_pos {r : Nat} (h : r < 4294967296) (hr : r ≠ 0) (k : Nat) : shrN r k ≠ 0 := by
  induction k with
  | zero => exact hr
  | succ k ih => exact shr1_pos (shrN_lt h k) ih

/-- All bytes as one number, the first one lowest. -/
def numOfC : List Nat → Nat
  | [] => 0
  | c :: l => c ^^^ 2 ^ 8 * numOfC l

theorem regOf_eq (l : List Nat) : ∀ r, regOf r l = shrN (r ^^^ numOfC l) (8 * l.length) := by
  induction l with
  | nil => intro r; simp [regOf, numOfC, shrN]
  | cons c l ih =>
    intro r
    show regOf (stepB r c) l = shrN (r ^^^ (c ^^^ 2 ^ 8 * numOfC l)) (8 * (l.length + 1))
    rw [ih, show 8 * (l.length + 1) = 8 + 8 * l.length by omega, shrN_add, ← Nat.xor_assoc, shrN_xor (r ^^^ c), shrN_pow]
    rfl

/-- Two rows of as many bytes, which part by some bits within 32: another register, so another sum. -/
theorem crcOf_ne {b c : List Nat} {k y : Nat} (s : Nat) (hlen : c.length = b.length) (hn : numOfC c = numOfC b ^^^ 2 ^ k * y) (hy : y ≠ 0) (hy2 : y < 4294967296) (hk : k + 32 ≤ 8 * b.length) :
    crcOf s b ≠ crcOf s c := by
  intro he
  have h1 : regOf (4294967295 ^^^ s) b = regOf (4294967295 ^^^ s) c := by
    have := congrArg (fun x => 4294967295 ^^^ x) he
    simpa [crcOf, ← Nat.xor_assoc] using this
  rw [regOf_eq, regOf_eq, hlen, hn, ← Nat.xor_assoc, shrN_xor _ (2 ^ k * y)] at h1
  have h2 : shrN (2 ^ k * y) (8 * b.length) = 0 := by
    have := congrArg (fun x => shrN ((4294967295 ^^^ s) ^^^ numOfC b) (8 * b.length) ^^^ x) h1
    simp only [← Nat.xor_assoc, Nat.xor_self, Nat.zero_xor] at this
    exact this.symm
  rw [show 8 * b.length = k + (8 * b.length - k) by omega, shrN_add, shrN_pow] at h2
  exact shrN_pos hy2 hy _ h2

/-! ### Bits turned, one by one -/
/-- The bits of 'by' below i turned, from bit k on. -/
def turned (l : List Nat) (k y : Nat) : Nat → List Nat
  | 0 => l
  | i + 1 => if y / 2 ^ i % 2 = 1 then (turned l k y i).set ((k + i) / 8) ((turned l k y i).getD ((k + i) / 8) 0 ^^^ 2 ^ ((k + i) % 8)) else turned l k y i

theorem turned_length (l : List Nat) (k y i : Nat) : (turned l k y i).length = l.length := by
  induction i with
  | zero => rfl
  | succ i ih => unfold turned; split <;> simp [ih]

theorem turned_lt (l : List Nat) (k y : Nat) (hl : ∀ c ∈ l, c < 256) (i : Nat) : ∀ c ∈ turned l k y i, c < 256 := by
  induction i with
  | zero => exact hl
  | succ i ih =>
    unfold turned
    split
    · intro c hc
      rcases List.mem_or_eq_of_mem_set hc with h | h
      · exact ih c h
      · subst h
        refine Nat.xor_lt_two_pow (n := 8) ?_ ?_
        · rw [List.getD_eq_getElem?_getD]
          cases hq : (turned l k y i)[(k + i) / 8]? with
          | none => simp
          | some v => exact ih v (List.mem_of_getElem? hq)
        · exact Nat.pow_lt_pow_right (by decide) (by omega)
    · exact ih

theorem xor_mul_pow (a b k : Nat) : 2 ^ k * (a ^^^ b) = 2 ^ k * a ^^^ 2 ^ k * b := by
  have h := Nat.shiftLeft_xor_distrib (a := a) (b := b) (i := k)
  rw [Nat.shiftLeft_eq, Nat.shiftLeft_eq, Nat.shiftLeft_eq] at h
  rw [Nat.mul_comm, h, Nat.mul_comm a, Nat.mul_comm b]

theorem numOf_set (l : List Nat) : ∀ (j x : Nat), j < l.length → numOfC (l.set j (l.getD j 0 ^^^ x)) = numOfC l ^^^ 2 ^ (8 * j) * x := by
  induction l with
  | nil => intro j x h; simp at h
  | cons c l ih =>
    intro j x h
    cases j with
    | zero =>
      simp only [List.set_cons_zero, List.getD_cons_zero, numOfC, Nat.mul_zero, Nat.pow_zero, Nat.one_mul]
      rw [Nat.xor_assoc, Nat.xor_assoc, Nat.xor_comm x]
    | succ j =>
      simp only [List.set_cons_succ, List.getD_cons_succ, numOfC]
      rw [ih j x (by simpa using h), xor_mul_pow, ← Nat.xor_assoc, ← Nat.mul_assoc, ← Nat.pow_add]
      congr 3
      omega

theorem low_succ (y i : Nat) : y % 2 ^ (i + 1) = y % 2 ^ i ^^^ 2 ^ i * (y / 2 ^ i % 2) := by
  apply Nat.eq_of_testBit_eq
  intro j
  rw [Nat.testBit_xor, Nat.testBit_mod_two_pow, Nat.testBit_mod_two_pow, Nat.testBit_two_pow_mul]
  by_cases h : j < i
  · simp [h, show j < i + 1 by omega, show ¬ i ≤ j by omega]
  · by_cases h2 : j = i
    · subst h2
      simp [Nat.testBit, Nat.shiftRight_eq_div_pow]
    · have h3 : ¬ j < i + 1 := by omega
      have : Nat.testBit (y / 2 ^ i % 2) (j - i) = false := Nat.testBit_lt_two_pow (Nat.lt_of_lt_of_le (Nat.mod_lt _ (by decide)) (show 2 ^ 1 ≤ 2 ^ (j - i) from Nat.pow_le_pow_right (by decide) (by omega)))
      simp [h, h3, this]

theorem numOf_turned (l : List Nat) (k y i : Nat) (h : k + i ≤ 8 * l.length) : numOfC (turned l k y i) = numOfC l ^^^ 2 ^ k * (y % 2 ^ i) := by
  induction i with
  | zero => simp [turned, Nat.mod_one]
  | succ i ih =>
    have hlt : (k + i) / 8 < (turned l k y i).length := by rw [turned_length]; omega
    unfold turned
    rw [low_succ]
    split
    · rename_i hb
      rw [numOf_set _ _ _ hlt, ih (by omega), hb, Nat.mul_one, xor_mul_pow, Nat.xor_assoc, ← Nat.pow_add, ← Nat.pow_add, show 8 * ((k + i) / 8) + (k + i) % 8 = k + i by omega]
    · rename_i hb
      rw [ih (by omega), show y / 2 ^ i % 2 = 0 by omega]
      simp

theorem turned_ne {l : List Nat} {k y : Nat} (s : Nat) (hy : y ≠ 0) (hy2 : y < 4294967296) (hk : k + 32 ≤ 8 * l.length) : crcOf s l ≠ crcOf s (turned l k y 32) :=
  crcOf_ne s (turned_length l k y 32) (by rw [numOf_turned l k y 32 hk, Nat.mod_eq_of_lt hy2]) hy hy2 hk

end Go.Proofs.YtfgnapfodnhppaaGreatDoor

namespace Go.Proofs.YtfgnapfodnhppaaGreatDoor
open Go Go.RowKit Go.WideShapes Go.ChangeShapes

/-- From w to w' only blocks of S may have turned; new ones may be there. -/
structure Fr (S : Nat → Prop) (w w' : World) : Prop where
  os : w'.os = w.os
  tape : w'.tape = w.tape
  output : w'.output = w.output
  size : w.heap.size ≤ w'.heap.size
  block : ∀ k, k < w.heap.size → ¬ S k → w'.heap[k]? = w.heap[k]?

def Box (w : World) (g : Nat) (t : TypeId) (cs : Array Value) : Prop := w.heap[g]? = some (.cells cs t (0, 0))

section
variable {S T : Nat → Prop} {w w' w'' : World} {g : Nat} {t : TypeId} {cs : Array Value}

theorem Fr.refl (S : Nat → Prop) (w : World) : Fr S w w := ⟨rfl, rfl, rfl, Nat.le_refl _, fun _ _ _ => rfl⟩
theorem Fr.trans (h : Fr S w w') (k : Fr S w' w'') : Fr S w w'' :=
  ⟨k.os.trans h.os, k.tape.trans h.tape, k.output.trans h.output, Nat.le_trans h.size k.size, fun i hi hs => (k.block i (Nat.lt_of_lt_of_le hi h.size) hs).trans (h.block i hi hs)⟩
theorem Fr.mono (h : Fr S w w') (hST : ∀ k, k < w.heap.size → S k → T k) : Fr T w w' := ⟨h.os, h.tape, h.output, h.size, fun i hi hs => h.block i hi (fun x => hs (hST i hi x))⟩
theorem Fr.of_grown {row : Option Nat} (h : w.grownBy w' row) (hs : ∀ k, k < w.heap.size → row = some k → S k) : Fr S w w' := ⟨h.os, h.tape, h.output, h.size, fun i hi hn => h.block i hi (fun e => hn (hs i hi e.symm))⟩
theorem Fr.drew (h : Fr S w w') : Fr S w w'.drew := ⟨h.os, h.tape, h.output, h.size, h.block⟩
theorem Fr.drewN (h : Fr S w w') (n : Nat) : Fr S w (w'.drewN n) := ⟨h.os, h.tape, h.output, h.size, h.block⟩
theorem Fr.from_drewN {n : Nat} (h : Fr S (w.drewN n) w') : Fr S w w' := ⟨h.os, h.tape, h.output, h.size, h.block⟩
theorem Fr.alloc (h : Fr S w w') (o : Obj) : Fr S w (w'.alloc o) :=
  ⟨h.os, h.tape, h.output, Nat.le_trans h.size (by simp), fun i hi hs => (Below.heap_alloc w' o i (Nat.lt_of_lt_of_le hi h.size)).trans (h.block i hi hs)⟩
theorem Fr.setCell (h : Fr S w w') {p : Addr} (hp : S p.block ∨ w.heap.size ≤ p.block) (u : Value) : Fr S w (w'.setCell p u) :=
  ⟨h.os, h.tape, h.output, by simpa [World.setCell] using h.size, fun i hi hs => (Below.heap_setCell w' p u i (by
    rintro rfl
    rcases hp with hp | hp
    · exact hs hp
    · omega)).trans (h.block i hi hs)⟩
theorem Fr.below {B : Nat} (h : Fr S w w') (hB : B ≤ w.heap.size) (hs : ∀ k, S k → B ≤ k) : Below B w w' :=
  ⟨h.os, h.tape, h.output, h.size, fun k hk => h.block k (by omega) (fun x => by have := hs k x; omega)⟩
theorem Fr.of_below (h : Below w.heap.size w w') : Fr S w w' := ⟨h.os, h.tape, h.output, h.size, fun k hk _ => h.block k hk⟩

theorem Box.lt (h : Box w g t cs) : g < w.heap.size := by
  unfold Box at h
  exact (Array.getElem?_eq_some_iff.1 h).1
theorem Box.cell (h : Box w g t cs) (i : Nat) : w.cell? ⟨g, i, none⟩ = cs[i]? := cell_of_row w g i cs t (0, 0) h
theorem Box.frozen (h : Box w g t cs) (i : Nat) : w.frozen? ⟨g, i, none⟩ = false := frozen_of_row w g i cs t h
theorem Box.new (w : World) (t : TypeId) (cs : Array Value) : Box (w.alloc (.cells cs t)) w.heap.size t cs := heap_alloc_new w _
theorem Box.drew (h : Box w g t cs) : Box w.drew g t cs := h
theorem Box.drewN (h : Box w g t cs) (n : Nat) : Box (w.drewN n) g t cs := h
theorem Box.fr (h : Box w g t cs) (hf : Fr S w w') (hg : ¬ S g) : Box w' g t cs := (hf.block g h.lt hg).trans h
theorem Box.alloc (h : Box w g t cs) (o : Obj) : Box (w.alloc o) g t cs := (Below.heap_alloc w o g h.lt).trans h
theorem Box.set_ (h : Box w g t cs) (i : Nat) (u : Value) : Box (w.setCell ⟨g, i, none⟩ u) g t (cs.setIfInBounds i u) := heap_setCell_same w g i cs t u h
theorem Box.far (h : Box w g t cs) {p : Addr} (hp : g ≠ p.block) (u : Value) : Box (w.setCell p u) g t cs := (Below.heap_setCell w p u g hp).trans h
theorem Box.ne_ {g' : Nat} {t' : TypeId} {cs' : Array Value} (h : Box w g t cs) (h' : Box w g' t' cs') (hne : t ≠ t') : g ≠ g' := by
  rintro rfl
  unfold Box at h h'
  rw [h] at h'
  injection h' with h'
  injection h' with _ ht
  exact hne ht
theorem Box.below {B : Nat} (h : Box w g t cs) (hb : Below B w w') (hg : g < B) : Box w' g t cs := (hb.block g hg).trans h

variable {base : Nat} {e : TypeId} {size n : Nat} {v : Value} {xs : List Value}

theorem own_fr (h : w.ownsRow base e size v n xs) (hf : Fr S w w') (hn : ∀ k, v.ownBlock = some k → ¬ S k) : w'.ownsRow base e size v n xs := by
  refine ⟨h.1, ?_⟩
  rcases h.2 with h0 | ⟨g, cap, cur, rfl, hb, hg, rest⟩
  · exact .inl h0
  · exact .inr ⟨g, cap, cur, rfl, hb, (hf.block g (Array.getElem?_eq_some_iff.1 hg).1 (hn g rfl)).trans hg, rest⟩

theorem cell_alloc_lt (w : World) (o : Obj) {p : Addr} (hp : p.block < w.heap.size) : (w.alloc o).cell? p = w.cell? p := World.cell?_of_block (w := w) (Below.heap_alloc w o p.block hp)

theorem below_from_drewN {B m : Nat} (h : Below B (w.drewN m) w') : Below B w w' := ⟨h.os, h.tape, h.output, h.size, h.block⟩

theorem own_drewN (h : w.ownsRow base e size v n xs) (k : Nat) : (w.drewN k).ownsRow base e size v n xs := h

theorem own_ne_box (h : w.ownsRow base e size v n xs) (hg : Box w g t cs) (hne : e ≠ t) : ∀ k, v.ownBlock = some k → k ≠ g := by
  intro k hk
  rcases h.2 with ⟨rfl, _⟩ | ⟨g', cap, cur, rfl, _, hh, _⟩
  · simp [Value.ownBlock] at hk
  · have hk' : g' = k := by simpa [Value.ownBlock] using hk
    subst hk'
    exact Box.ne_ (t := e) hh hg hne

theorem own_form (h : w.ownsRow base e size v n xs) : ∃ A c, v = .slice A n c ∧ n ≤ c := by
  rcases h.2 with ⟨rfl, rfl⟩ | ⟨g, cap, cur, rfl, _, _, hc, _⟩
  · exact ⟨_, _, rfl, Nat.le_refl _⟩
  · exact ⟨_, _, rfl, hc⟩

theorem own_ne_box_of (h : w.ownsRow base e size v n xs) (hg : Box w g t cs) (hk : v.ownBlock = some g) : e = t := by
  cases hd : decide (e = t) with
  | true => exact of_decide_eq_true hd
  | false => exact absurd rfl (own_ne_box h hg (of_decide_eq_false hd) g hk)

theorem own_ne_own {base' : Nat} {e' : TypeId} {size' n' : Nat} {v' : Value} {xs' : List Value} (h : w.ownsRow base e size v n xs) (h' : w.ownsRow base' e' size' v' n' xs') (hne : e ≠ e') :
    ∀ k, v.ownBlock = some k → v'.ownBlock ≠ some k := by
  intro k hk hk'
  rcases h.2 with ⟨rfl, _⟩ | ⟨g, cap, cur, rfl, _, hh, _⟩
  · simp [Value.ownBlock] at hk
  · have e1 : g = k := by simpa [Value.ownBlock] using hk
    subst e1
    exact own_ne_box h' (t := e) hh (fun x => hne x.symm) g hk' rfl

theorem own_set_far (h : w.ownsRow base e size v n xs) {p : Addr} (hp : ∀ k, v.ownBlock = some k → k ≠ p.block) (u : Value) : (w.setCell p u).ownsRow base e size v n xs :=
  own_fr (S := fun k => k = p.block) h ((Fr.refl (fun k => k = p.block) w).setCell (p := p) (.inl rfl) u) hp

theorem own_more {base' : Nat} (h : w.ownsRow base e size v n xs) (hb : ∀ k, v.ownBlock = some k → base' ≤ k) : w.ownsRow base' e size v n xs := by
  refine ⟨h.1, ?_⟩
  rcases h.2 with h0 | ⟨g, cap, cur, rfl, _, rest⟩
  · exact .inl h0
  · exact .inr ⟨g, cap, cur, rfl, hb g rfl, rest⟩

/-- A cut of an owned row of one-cell elements. -/
theorem own_cut {k : Nat} (h : w.ownsRow base e 1 v n xs) (hk : k ≤ n) {A : Option Addr} {c : Nat} (hv : v = .slice A n c) : w.ownsRow base e 1 (.slice A k c) k (xs.take k) := by
  subst hv
  have hl := h.1
  rcases h.2 with ⟨h0, h1⟩ | ⟨g, cap, cur, he, hb, hg, hnc, hcm, hcs, ht⟩
  · subst h1
    obtain rfl : k = 0 := by omega
    refine ⟨by simp, .inl ⟨?_, rfl⟩⟩
    simpa using h0
  · simp only [Value.slice.injEq, true_and] at he
    obtain ⟨rfl, rfl⟩ := he
    refine ⟨by simp [hl]; omega, .inr ⟨g, c, cur, rfl, hb, hg, by omega, hcm, hcs, ?_⟩⟩
    rw [← ht, List.take_take, Nat.mul_one, Nat.mul_one, Nat.min_eq_left hk]

/-- The row's last step, from 'below the heap's size nothing has turned'. -/
theorem post_below {H : Type} {enc : TypeId × Value → H} {P : Program} {f : Func} {s : ChangeSpec} {apart fresh handsOn again : Bool} {W W' : World} {args : Array Value} {v : Value} {ds gs : List (DataW H)} {before pa pv : List MemPlace}
    (hW : DataW.Whole enc P f.params.toList s.vars apart W args.toList ds gs before)
    (hres : ∀ (b : Nat) (sp : Nat → Bool) (hd : Bool), DataW.TrodAll enc P W' b sp hd f.resultTypes.toList (v.resultList f.resultTypes.size) (s.fn H (ds ++ gs)).results [])
    (hargs : ∀ sp : Nat → Bool, (∀ p ∈ before, sp p.block = true) → DataW.TrodAll enc P W' 0 sp true f.params.toList args.toList (s.fn H (ds ++ gs)).args pa)
    (hvars : ∀ sp : Nat → Bool, (∀ p ∈ before, sp p.block = true) → DataW.TrodVars enc P W' sp s.vars (s.fn H (ds ++ gs)).vars pv)
    (hps : before = pa ++ pv) (hb : Below W.heap.size W W')
    (hok : ∀ (j : Nat) (t : TypeId) (r : Value), f.resultTypes[j]? = some t → (v.resultList f.resultTypes.size)[j]? = some r → Value.okWide P W' .any 0 t r) :
    s.post enc P f apart fresh handsOn again W args v W' := by
  have hlt : ∀ p ∈ before, p.block < W.heap.size := fun p hp => hW.lt p hp
  have hold : ∀ p ∈ before, (fun b => decide (b < W.heap.size)) p.block = true := fun p hp => by simpa using hlt p hp
  refine ⟨ds, gs, before, [], pa, pv, hW, hres _ _ _, hargs _ hold, hvars _ hold, World.keptBut_mono (fun p hp => ⟨hp, ?_⟩) (hb.frame (· ∈ before)), fun _ => ?_⟩
  · rw [hps, List.mem_append] at hp
    exact Or.inr hp
  · obtain ⟨_, _, _, _, _, hz, hn⟩ := hW
    refine ⟨hok, _, _, ([] ++ pa) ++ pv, ⟨[] ++ pa, pv, trodAll_append (hargs _ (fun _ _ => rfl)) (hres _ _ _), hvars _ (fun _ _ => rfl), rfl, ?_, ?_⟩, ?_⟩
    · intro b off hp
      have hin : MemPlace.cell b off ∈ before := by rw [hps]; simpa using hp
      rw [hb.frozen (hlt _ hin)]
      exact hz b off hin
    · intro ha
      have := hn ha
      rw [hps] at this
      simpa using this
    · intro p hp _
      rw [hps]
      simpa using hp

theorem cell_one_new (w : World) (a : Value) (t : TypeId) : ∀ j u, [a][j]? = some u → (w.alloc (.cells #[a] t)).cell? ((⟨w.heap.size, 0, none⟩ : Addr).add j) = some u := by
  intro j u hu
  match j with
  | 0 =>
    obtain rfl : a = u := by simpa using hu
    simp [Addr.add]
  | j + 1 => simp at hu
theorem one_word (k : IntKind) (c : Int) : ∀ u ∈ [Value.int k c], u.oneCell' = true := by
  intro u hu
  obtain rfl : u = .int k c := by simpa using hu
  rfl

end
end Go.Proofs.YtfgnapfodnhppaaGreatDoor

namespace Go.Proofs.YtfgnapfodnhppaaGreatDoor
open Go Go.RowKit
set_option linter.unusedVariables false

def lowerB (c : UInt8) : Bool := decide (97 ≤ c.toNat) && decide (c.toNat ≤ 122)
def nameB (c : UInt8) : Bool := lowerB c || (decide (48 ≤ c.toNat) && decide (c.toNat ≤ 57))
def nameOk (s : ByteArray) : Bool := decide (1 ≤ s.size) && decide (s.size ≤ 32) && (s.data.toList.head?.any lowerB) && s.data.toList.all nameB

theorem take_snocB (s : ByteArray) (k : Nat) (h : k < s.size) : s.data.toList.take (k + 1) = s.data.toList.take k ++ [s[k]] := by
  rw [List.take_succ_eq_append_getElem (by simpa using h)]; rfl
theorem all_drop (s : ByteArray) (k : Nat) (h : k < s.size) (hb : nameB s[k] = false) : s.data.toList.all nameB = false := by
  have : ¬ s.data.toList.all nameB = true := fun e => by
    rw [List.all_eq_true] at e
    have := e s[k] (by
      have h' : k < s.data.toList.length := by simpa using h
      exact List.getElem_mem h')
    rw [hb] at this
    cases this
  simpa using this
theorem head_of (s : ByteArray) (h : 0 < s.size) : s.data.toList.head? = some s[0] := by
  have h' : 0 < s.data.toList.length := by simpa using h
  rw [List.head?_eq_getElem?, List.getElem?_eq_getElem h']
  rfl

theorem refName_any (s : ByteArray) (w : World) (hs : s.size ≤ maxLen) :
    Calls Tryz.prog 85 #[.string s] w fun e w' => e = .returned (.bool (nameOk s)) ∧ w = w' := by
  unfold maxLen at hs
  by_cases c1 : s.size < 1 ∨ 32 < s.size
  · have HV : Hid (nameOk s = false) := by
      show _ = _
      simp only [nameOk, Bool.and_eq_false_iff, decide_eq_false_iff_not]
      omega
    by_cases c2 : s.size < 1
    · clear c1
      go_enter Tryz.func85, Tryz.ntmps85
      go_wp2_with fail
      go_ret
      exact ⟨by rw [HV.out]; rfl, rfl⟩
    · have c3 : 32 < (s.size : Int) := by omega
      clear c1
      go_enter Tryz.func85, Tryz.ntmps85
      go_wp2_with fail
      go_ret
      exact ⟨by rw [HV.out]; rfl, rfl⟩
  · have h1 : ¬ (s.size : Int) < 1 := by omega
    have h2 : ¬ 32 < (s.size : Int) := by omega
    have h0 : 0 < s.size := by omega
    have hd := head_of s h0
    have HD := Lib.hid hd
    clear hd c1
    by_cases l1 : ((s[0].toNat : Nat) : Int) < 97
    · have HV : Hid (nameOk s = false) := by
        show _ = _
        have : lowerB s[0] = false := by simp [lowerB]; omega
        simp [nameOk, HD.out, this]
      go_enter Tryz.func85, Tryz.ntmps85
      go_wp2_with fail
      go_ret
      exact ⟨by rw [HV.out]; rfl, rfl⟩
    · by_cases l2 : 122 < ((s[0].toNat : Nat) : Int)
      · have HV : Hid (nameOk s = false) := by
          show _ = _
          have : lowerB s[0] = false := by simp [lowerB]; omega
          simp [nameOk, HD.out, this]
        go_enter Tryz.func85, Tryz.ntmps85
        go_wp2_with fail
        go_ret
        exact ⟨by rw [HV.out]; rfl, rfl⟩
      · have HV : Hid (nameOk s = s.data.toList.all nameB) := by
          show _ = _
          have e1 : lowerB s[0] = true := by simp [lowerB]; omega
          have e2 : decide (1 ≤ s.size) = true := by simp; omega
          have e3 : decide (s.size ≤ 32) = true := by simp; omega
          simp only [nameOk, HD.out, e1, e2, e3, Option.any_some, Bool.true_and]
        go_enter Tryz.func85, Tryz.ntmps85
        go_wp2_with fail
        clear l1 l2
        go_loop [3] (fun i => ∃ j : Nat, j ≤ s.size ∧ i = .int .i64 j ∧ Hid ((s.data.toList.take j).all nameB = true)) (fun i => s.size - (intOf i).toNat)
        case atStart => exact ⟨0, Nat.zero_le _, rfl, by simp [Hid]⟩
        case round =>
          obtain ⟨j, hj, rfl, HA⟩ := hrel
          by_cases hlt : j < s.size
          · have HS := Lib.hid (take_snocB s j hlt)
            have HN := Lib.hid (fun hb => all_drop s j hlt hb)
            go_wp2
            all_goals first
              | (go_ret; exact ⟨by rw [HV.out, HN.out (by simp [nameB, lowerB]; omega)]; rfl, rfl⟩)
              | (go_round
                 case rel => exact ⟨j + 1, by omega, by go_num, by show _ = _; rw [HS.out, List.all_append, HA.out]; simp [nameB, lowerB]; omega⟩
                 case measure => simp [intOf]; omega)
          · have hge : (s.size : Int) ≤ (j : Int) := by omega
            have HF : Hid (s.data.toList.all nameB = true) := by
              have := HA.out
              rw [List.take_of_length_le (by simp; omega)] at this
              exact this
            go_wp2_with fail
            go_ret
            exact ⟨by rw [HV.out, HF.out]; rfl, rfl⟩
end Go.Proofs.YtfgnapfodnhppaaGreatDoor
