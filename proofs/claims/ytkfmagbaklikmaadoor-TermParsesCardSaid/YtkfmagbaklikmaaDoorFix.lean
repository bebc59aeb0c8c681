/-
  One that may be, out of any (resolventref03.Fix): the model; the contract.
-/
import Derived.Test.YtkfmagbaklikmaaDoorTold
import Derived.Test.YtkfmagbaklikmaaDoorRightB
import Derived.IntWalk
namespace Go.Proofs.YtkfmagbaklikmaaDoor
open Go Go.RowKit
set_option linter.unusedVariables false
set_option linter.unusedSimpArgs false

/-- An int as uint64, the rest by m. -/
def modU (x : Int) (m : Int) : Int := (IntKind.u64.wrap x).tmod m
def divU (x : Int) (m : Int) : Int := (IntKind.u64.wrap x).tdiv m
def zeroT : Tm := .node 0 0 ⟨#[]⟩ []
def fixKind (kk : Int) (d : Nat) (left : Int) : Int := if 2 ≤ modU kk 4 ∧ (d = 0 ∨ left < 4) then modU kk 4 - 2 else modU kk 4
def fixName (k n : Int) : ByteArray :=
  if k = 1 then (if modU n 3 = 0 then ⟨#[97]⟩ else if modU n 3 = 1 then ⟨#[98]⟩ else ⟨#[99]⟩) else if k = 2 then (if modU n 2 = 0 then ⟨#[102]⟩ else ⟨#[103]⟩) else ⟨#[]⟩
def fixWant (k n : Int) : Nat := if k = 3 then 2 else if k = 2 then 1 + ((divU n 2).tmod 3).toNat else 0
mutual
def fixT : Nat → Tm → Int → Tm × Int
  | 0, .node kk nn _ l, left => (.node (fixKind kk 0 left) (if fixKind kk 0 left = 0 then modU nn 6 else 0) (fixName (fixKind kk 0 left) nn) [], left - 1)
  | d + 1, .node kk nn _ l, left =>
    let k := fixKind kk (d + 1) left
    let r := fixL d (fixWant k nn) l (left - 1)
    (.node k (if k = 0 then modU nn 6 else 0) (fixName k nn) r.1, r.2)
def fixL : Nat → Nat → List Tm → Int → List Tm × Int
  | _, 0, _, left => ([], left)
  | d, w + 1, l, left =>
    let x := fixT d (l.headD zeroT) left
    let r := fixL d w l.tail x.2
    (x.1 :: r.1, r.2)
end
theorem wrapU (x : Int) : 0 ≤ IntKind.u64.wrap x ∧ IntKind.u64.wrap x ≤ 18446744073709551615 := by
  constructor
  · exact Int.emod_nonneg _ (by decide)
  · have : IntKind.u64.wrap x = x.emod 18446744073709551616 := rfl
    rw [this]
    have h := Int.emod_lt_of_pos x (show (0 : Int) < 18446744073709551616 by decide)
    show x % 18446744073709551616 ≤ _
    omega
theorem modU_range (x m : Int) (hm : 0 < m) : 0 ≤ modU x m ∧ modU x m < m := by
  have h := wrapU x
  unfold modU
  rw [Int.tmod_eq_emod_of_nonneg h.1]
  exact ⟨Int.emod_nonneg _ (by omega), Int.emod_lt_of_pos _ hm⟩
theorem divU_range (x m : Int) (hm : 0 < m) : 0 ≤ divU x m := by
  have h := wrapU x
  unfold divU
  rw [Int.tdiv_eq_ediv_of_nonneg h.1]
  exact Int.ediv_nonneg h.1 (by omega)
theorem fixKind_range (kk : Int) (d : Nat) (left : Int) : 0 ≤ fixKind kk d left ∧ fixKind kk d left ≤ 3 ∧ (d = 0 → fixKind kk d left ≤ 1) := by
  have h := modU_range kk 4 (by decide)
  unfold fixKind
  split <;> omega
theorem fixWant_range (k n : Int) : fixWant k n ≤ 3 ∧ (k = 3 → fixWant k n = 2) ∧ (k = 2 → 1 ≤ fixWant k n) ∧ (k ≤ 1 → fixWant k n = 0) := by
  unfold fixWant
  have h := divU_range n 2 (by decide)
  have h2 : (divU n 2).tmod 3 = (divU n 2) % 3 := Int.tmod_eq_emod_of_nonneg h
  rw [h2]
  split
  · omega
  · split <;> omega
theorem fixName_one (k n : Int) : (k = 1 ∨ k = 2) → nameOk (fixName k n) = true := by
  rintro (rfl | rfl)
  · unfold fixName
    rw [if_pos rfl]
    split
    · kernel_rfl
    · split <;> kernel_rfl
  · unfold fixName
    rw [if_neg (by decide), if_pos rfl]
    split <;> kernel_rfl
theorem fixName_none (k n : Int) (h : k ≠ 1) (h2 : k ≠ 2) : fixName k n = ⟨#[]⟩ := by
  unfold fixName
  rw [if_neg h, if_neg h2]
theorem fixName_size (k n : Int) : (fixName k n).size ≤ 1 := by
  unfold fixName
  repeat' split
  all_goals decide

/-- What Fix's terms are: short names, small numbers. -/
def smallN (k n : Int) (s : ByteArray) : Bool := decide (s.size ≤ 1) && decide (0 ≤ n ∧ n ≤ 5)
mutual
def Tm.small : Tm → Bool
  | .node k n s l => smallN k n s && smalls l
def smalls : List Tm → Bool
  | [] => true
  | t :: r => t.small && smalls r
end

theorem fixL_len : ∀ (d w : Nat) (l : List Tm) (left : Int), (fixL d w l left).1.length = w
  | d, 0, l, left => by rw [fixL]; rfl
  | d, w + 1, l, left => by
    rw [fixL]
    simp only [List.length_cons, fixL_len d w]

theorem fix_node_ok (kk nn : Int) (d : Nat) (left : Int) (m : Nat) (hm : m = fixWant (fixKind kk d left) nn) :
    kindOk (fixKind kk d left) (if fixKind kk d left = 0 then modU nn 6 else 0) (fixName (fixKind kk d left) nn) m = true ∧ smallN (fixKind kk d left) (if fixKind kk d left = 0 then modU nn 6 else 0) (fixName (fixKind kk d left) nn) = true := by
  have hr := fixKind_range kk d left
  have hw := fixWant_range (fixKind kk d left) nn
  have h6 := modU_range nn 6 (by decide)
  have hs := fixName_size (fixKind kk d left) nn
  have h1 := fixName_one (fixKind kk d left) nn
  have h0 := fixName_none (fixKind kk d left) nn
  obtain ⟨k, hk⟩ : ∃ k, fixKind kk d left = k := ⟨_, rfl⟩
  rw [hk] at hr hw hm hs h1 h0 ⊢
  refine ⟨?_, ?_⟩
  · rcases (show k = 0 ∨ k = 1 ∨ k = 2 ∨ k = 3 by omega) with rfl | rfl | rfl | rfl
    · rw [kind0, if_pos rfl, h0 (by decide) (by decide)]
      refine ⟨by omega, rfl, by omega⟩
    · rw [kind1, if_neg (by decide)]
      exact ⟨rfl, h1 (.inl rfl), by omega⟩
    · rw [kind2, if_neg (by decide)]
      exact ⟨rfl, h1 (.inr rfl), by omega⟩
    · rw [kind3, if_neg (by decide), h0 (by decide) (by decide)]
      exact ⟨rfl, rfl, by omega⟩
  · unfold smallN
    rw [Bool.and_eq_true, decide_eq_true_eq, decide_eq_true_eq]
    refine ⟨hs, ?_⟩
    split <;> omega

theorem fix_all (d : Nat) : (∀ (t : Tm) (left : Int), (fixT d t left).1.right = true ∧ (fixT d t left).1.small = true ∧ (fixT d t left).1.size ≤ 4 ^ d ∧ (fixT d t left).2 = left - (fixT d t left).1.size) := by
  induction d with
  | zero =>
    rintro ⟨kk, nn, s, l⟩ left
    rw [fixT]
    have hr := fixKind_range kk 0 left
    have hw := fixWant_range (fixKind kk 0 left) nn
    obtain ⟨h1, h2⟩ := fix_node_ok kk nn 0 left 0 (by have := hr.2.2 rfl; omega)
    refine ⟨?_, ?_, ?_, ?_⟩
    · rw [Tm.right, rights, Bool.true_and]; exact h1
    · rw [Tm.small, smalls, Bool.and_true]; exact h2
    · simp [size_node, sizes]
    · simp [size_node, sizes]
  | succ d ih =>
    have hL : ∀ (w : Nat) (l : List Tm) (left : Int), rights (fixL d w l left).1 = true ∧ smalls (fixL d w l left).1 = true ∧ sizes (fixL d w l left).1 ≤ w * 4 ^ d ∧ (fixL d w l left).2 = left - sizes (fixL d w l left).1 := by
      intro w
      induction w with
      | zero => intro l left; rw [fixL]; simp [rights, smalls, sizes]
      | succ w iw =>
        intro l left
        rw [fixL]
        obtain ⟨a1, a2, a3, a4⟩ := ih (l.headD zeroT) left
        obtain ⟨b1, b2, b3, b4⟩ := iw l.tail (fixT d (l.headD zeroT) left).2
        refine ⟨by simp only [rights, a1, b1, Bool.and_self], by simp only [smalls, a2, b2, Bool.and_self], ?_, ?_⟩
        · simp only [sizes]
          rw [Nat.add_mul, Nat.one_mul]
          omega
        · simp only [sizes]
          omega
    rintro ⟨kk, nn, s, l⟩ left
    rw [fixT]
    obtain ⟨b1, b2, b3, b4⟩ := hL (fixWant (fixKind kk (d + 1) left) nn) l (left - 1)
    have hlen := fixL_len d (fixWant (fixKind kk (d + 1) left) nn) l (left - 1)
    obtain ⟨h1, h2⟩ := fix_node_ok kk nn (d + 1) left _ hlen
    have hw := (fixWant_range (fixKind kk (d + 1) left) nn).1
    have hp : 1 ≤ 4 ^ d := Nat.one_le_pow _ _ (by decide)
    have hm : fixWant (fixKind kk (d + 1) left) nn * 4 ^ d ≤ 3 * 4 ^ d := Nat.mul_le_mul_right _ hw
    refine ⟨?_, ?_, ?_, ?_⟩
    · simp only [Tm.right, b1, Bool.true_and]; exact h1
    · simp only [Tm.small, b2, Bool.and_true]; exact h2
    · simp only [size_node]
      rw [Nat.pow_succ]
      omega
    · simp only [size_node, b4]
      omega

def itoasOk : Bool := (List.range 6).all fun n => decide ((Lib.itoa (n : Int)).length ≤ 2)
theorem itoas_ok : itoasOk = true := by kernel_rfl
theorem itoa_short (n : Int) (h0 : 0 ≤ n) (h1 : n ≤ 5) : (Lib.itoa n).length ≤ 2 := by
  obtain ⟨k, rfl⟩ := Int.eq_ofNat_of_zero_le h0
  have h := List.all_eq_true.1 itoas_ok k (by simp; omega)
  exact of_decide_eq_true h
mutual
theorem small_text : ∀ (t : Tm), t.small = true → t.text.length + 1 ≤ 5 * t.size
  | .node k n s l, h => by
    rw [Tm.small, Bool.and_eq_true] at h
    obtain ⟨h1, h2⟩ := h
    unfold smallN at h1
    rw [Bool.and_eq_true, decide_eq_true_eq, decide_eq_true_eq] at h1
    have hs : s.data.toList.length = s.size := by simp
    have hi := itoa_short n h1.2.1 h1.2.2
    have m1 := smalls_text 44 l h2
    have m2 := smalls_text 124 l h2
    rw [Tm.text, size_node]
    split
    · simp only [List.length_cons]; omega
    · split
      · omega
      · split
        · simp only [List.length_append, List.length_cons, List.length_drop, List.length_nil]; omega
        · split
          · simp only [List.length_append, List.length_cons, List.length_drop, List.length_nil]; omega
          · simp only [List.length_nil]; omega
theorem smalls_text (c : UInt8) : ∀ (l : List Tm), smalls l = true → (more c l).length ≤ 5 * sizes l
  | [], _ => by simp [more]
  | t :: r, h => by
    rw [smalls, Bool.and_eq_true] at h
    have h1 := small_text t h.1
    have h2 := smalls_text c r h.2
    simp only [more, sizes, List.length_cons, List.length_append]
    omega
end
end Go.Proofs.YtkfmagbaklikmaaDoor
