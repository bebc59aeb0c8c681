/-
  The program's word: an operand's text. What the world must hold for texts: the table of names, the decimal powers, the two errors of strconv, a number of bytealg's.
-/
import Derived.Test.YtgkldglknkeedaaDoorCodeD
import Derived.Test.YtgkldglknkeedaaDoorShelf
import Derived.Lib.SmallJoins
import Derived.Lib.ItoaLen
import Derived.Sort.Grow
import Derived.Lib.AppendIntMem
import Derived.Lib.AtoiAllCases
namespace Go.Proofs.YtgkldglknkeedaaDoor
open Go Go.RowKit Go.WideShapes Go.ChangeShapes
set_option linter.unusedVariables false

/-- The package-level variables that the calls read, all in blocks below B. -/
structure LaidC (B : Nat) (w : World) : Prop where
  tab : Lib.TabBelow Tryd.prog B w "internal/strconv.uint64pow10" .u64 Lib.pow10Tab
  syn : ∃ te pe, w.cell? ⟨2, 0, none⟩ = some (.iface te pe)
  ran : ∃ te pe, w.cell? ⟨3, 0, none⟩ = some (.iface te pe)
  names : NamesAt w
  len : ∃ m, w.cell? ⟨1, 0, none⟩ = some (.int .i64 m)
  low : 2 < B ∧ 3 < B ∧ 0 < B ∧ 1 < B
  size : B ≤ w.heap.size
theorem LaidC.below {B B' : Nat} {w w' : World} (h : LaidC B w) (hb : Below B' w w') (hB : B ≤ B') : LaidC B w' := by
  have hb' := hb.mono hB
  obtain ⟨te, pe, h1⟩ := h.syn
  obtain ⟨tf, pf, h2⟩ := h.ran
  obtain ⟨m, h3⟩ := h.len
  exact ⟨h.tab.on hb', ⟨te, pe, (hb'.cell (p := ⟨2, 0, none⟩) h.low.1).trans h1⟩, ⟨tf, pf, (hb'.cell (p := ⟨3, 0, none⟩) h.low.2.1).trans h2⟩,
    h.names.below hb' h.low.2.2.1, ⟨m, (hb'.cell (p := ⟨1, 0, none⟩) h.low.2.2.2).trans h3⟩, h.low, Nat.le_trans h.size hb'.size⟩

theorem LaidC.up {B : Nat} {w w' : World} (h : LaidC B w) (hb : Below w.heap.size w w') : LaidC B w' := h.below hb h.size

def bs (l : List UInt8) : ByteArray := ⟨l.toArray⟩
theorem bs_app (a b : List UInt8) : bs a ++ bs b = bs (a ++ b) := by
  unfold bs
  apply ByteArray.ext
  simp
theorem bs_size (l : List UInt8) : (bs l).size = l.length := by simp [bs, ByteArray.size]
theorem str_bs (s : ByteArray) : bs s.data.toList = s := by simp [bs]
theorem bs_data (l : List UInt8) : (bs l).data.toList = l := by simp [bs]

theorem below_grow (w : World) (k : Nat) (os : Array Obj) : Below w.heap.size w (Sort.grow (w.drewN k) os) :=
  ⟨rfl, rfl, rfl, by simp [Sort.grow], fun j hj => Sort.heap_grow_old (w.drewN k) os hj⟩

theorem itoa_any (n : Int) (h0 : -9223372036854775808 ≤ n) (h1 : n ≤ 9223372036854775807) (w : World) {B : Nat} (hp : LaidC B w) :
    Calls Tryd.prog 34 #[.int .i64 n] w fun e w' => e = .returned (.string (bs (Lib.itoa n))) ∧ Below w.heap.size w w' := by
  refine (Tryd.strconv_Itoa n h0 h1 w hp.tab.here).mono ?_
  rintro e w' ⟨rfl, k, os, rfl⟩
  exact ⟨rfl, below_grow w k os⟩

/-- An operand's text. -/
def wordOf (kind n : Int) : List UInt8 :=
  if kind = 8 ∧ n = 65535 then [45]
  else if kind = 1 ∧ 16 ≤ n then 89 :: Lib.itoa (n - 16)
  else if kind = 1 ∨ kind = 2 then 88 :: Lib.itoa n
  else if kind = 9 then 89 :: Lib.itoa n
  else Lib.itoa n

theorem wordOf_len (kind n : Int) (h0 : 0 ≤ n) (h1 : n ≤ 65535) : (wordOf kind n).length ≤ 22 := by
  have a := Lib.itoa_length_le n (by omega) (by omega)
  have b := Lib.itoa_length_le (n - 16) (by omega) (by omega)
  unfold wordOf
  repeat (first | split | (simp only [List.length_cons, List.length_nil]; omega) | omega)

theorem cons_bs (x : UInt8) (l : List UInt8) : (⟨#[x]⟩ : ByteArray) ++ bs l = bs (x :: l) := bs_app [x] l

theorem itoa_size (n : Int) (h0 : 0 ≤ n) (h1 : n ≤ 65535) : ∃ s : ByteArray, bs (Lib.itoa n) = s ∧ (9223372036854775807 < 1 + s.size) = False := by
  refine ⟨_, rfl, ?_⟩
  have a := Lib.itoa_length_le n (by omega) (by omega)
  rw [bs_size]
  simp
  omega

theorem word_any (kind n : Int) (h0 : 0 ≤ n) (h1 : n ≤ 65535) (w : World) {B : Nat} (hp : LaidC B w) :
    Calls Tryd.prog 27 #[.int .i64 kind, .int .i64 n] w fun e w' => e = .returned (.string (bs (wordOf kind n))) ∧ Below w.heap.size w w' := by
  by_cases k8 : kind = 8 ∧ n = 65535
  · obtain ⟨rfl, rfl⟩ := k8
    go_enter Tryd.func27, Tryd.ntmps27
    go_wp2
    go_ret
    exact ⟨rfl, Below.refl _ _⟩
  · by_cases k1 : kind = 1 ∧ 16 ≤ n
    · have hw : bs (wordOf kind n) = ⟨#[89]⟩ ++ bs (Lib.itoa (n - 16)) := by rw [wordOf, if_neg k8, if_pos k1, cons_bs]
      have hi := fun w (hp : LaidC B w) => itoa_any (n - 16) (by omega) (by omega) w hp
      obtain ⟨s, hs, hsz⟩ := itoa_size (n - 16) (by omega) (by omega)
      rw [hs] at hw hi
      rw [hw]
      have HI := Lib.hid hi
      have HP := Lib.hid hp
      obtain ⟨rfl, k16⟩ := k1
      clear hw hi hp k8 hs
      go_enter Tryd.func27, Tryd.ntmps27
      go_wp2_with (refine (HI.out _ HP.out).mono ?_; rintro e w' ⟨rfl, hb⟩)
      go_ret
      exact ⟨rfl, hb⟩
    · have k1' : ¬ (kind = 1 ∧ 16 ≤ n) := k1
      by_cases k2 : kind = 1 ∨ kind = 2
      · have hw : bs (wordOf kind n) = ⟨#[88]⟩ ++ bs (Lib.itoa n) := by rw [wordOf, if_neg k8, if_neg k1, if_pos k2, cons_bs]
        have hi := fun w (hp : LaidC B w) => itoa_any n (by omega) (by omega) w hp
        obtain ⟨s, hs, hsz⟩ := itoa_size n (by omega) (by omega)
        rw [hs] at hw hi
        rw [hw]
        have HI := Lib.hid hi
        have HP := Lib.hid hp
        clear hw hi hp k8 hs
        rcases k2 with rfl | rfl
        · have hlt : n < 16 := by omega
          clear k1 k1'
          go_enter Tryd.func27, Tryd.ntmps27
          go_wp2_with (refine (HI.out _ HP.out).mono ?_; rintro e w' ⟨rfl, hb⟩)
          go_ret
          exact ⟨rfl, hb⟩
        · clear k1 k1'
          go_enter Tryd.func27, Tryd.ntmps27
          go_wp2_with (refine (HI.out _ HP.out).mono ?_; rintro e w' ⟨rfl, hb⟩)
          go_ret
          exact ⟨rfl, hb⟩
      · have e1 : (kind == 1) = false := by simp; omega
        have e2 : (kind == 2) = false := by simp; omega
        by_cases k9 : kind = 9
        · have hw : bs (wordOf kind n) = ⟨#[89]⟩ ++ bs (Lib.itoa n) := by rw [wordOf, if_neg k8, if_neg k1, if_neg k2, if_pos k9, cons_bs]
          have hi := fun w (hp : LaidC B w) => itoa_any n (by omega) (by omega) w hp
          obtain ⟨s, hs, hsz⟩ := itoa_size n (by omega) (by omega)
          rw [hs] at hw hi
          rw [hw]
          have HI := Lib.hid hi
          have HP := Lib.hid hp
          subst k9
          clear hw hi hp k8 hs k1 k1' k2 e1 e2
          go_enter Tryd.func27, Tryd.ntmps27
          go_wp2_with (refine (HI.out _ HP.out).mono ?_; rintro e w' ⟨rfl, hb⟩)
          go_ret
          exact ⟨rfl, hb⟩
        · have e9 : (kind == 9) = false := by simp; omega
          have hw : bs (wordOf kind n) = bs (Lib.itoa n) := by rw [wordOf, if_neg k8, if_neg k1, if_neg k2, if_neg k9]
          have hi := fun w (hp : LaidC B w) => itoa_any n (by omega) (by omega) w hp
          obtain ⟨s, hs, hsz⟩ := itoa_size n (by omega) (by omega)
          rw [hs] at hw hi
          rw [hw]
          have HI := Lib.hid hi
          have HP := Lib.hid hp
          clear hw hi hp hs k1 k1' k2 k9
          by_cases h8 : kind = 8
          · have hn : (n == 65535) = false := by simp; omega
            subst h8
            clear k8 e1 e2 e9
            go_enter Tryd.func27, Tryd.ntmps27
            go_wp2_with (refine (HI.out _ HP.out).mono ?_; rintro e w' ⟨rfl, hb⟩)
            go_ret
            exact ⟨rfl, hb⟩
          · have e8 : (kind == 8) = false := by simp; omega
            clear k8 h8
            go_enter Tryd.func27, Tryd.ntmps27
            go_wp2_with (refine (HI.out _ HP.out).mono ?_; rintro e w' ⟨rfl, hb⟩)
            go_ret
            exact ⟨rfl, hb⟩

end Go.Proofs.YtgkldglknkeedaaDoor
