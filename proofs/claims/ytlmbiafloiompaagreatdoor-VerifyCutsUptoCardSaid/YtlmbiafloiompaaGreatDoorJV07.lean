/-
  3 texts in one (CodeE CodeF CodeG). Conditions: those of each theorem.
-/
import Derived.Test.YtlmbiafloiompaaGreatDoorJV03
import Derived.Test.YtlmbiafloiompaaGreatDoorJV06
import Derived.Lib.SmallJoins
import Derived.Lib.ItoaLen
import Derived.Sort.Grow
import Derived.Lib.AppendIntMem
import Derived.Lib.AtoiAllCases
import Derived.Shelf.Strings.SlTrimAscii
import Derived.Lib.IndexBytes
namespace Go.Proofs.YtlmbiafloiompaaGreatDoor
open Go Go.RowKit Go.WideShapes Go.ChangeShapes
set_option linter.unusedVariables false

/-- The package-level variables that the calls read, all in blocks below B. -/
structure LaidC (B : Nat) (w : World) : Prop where
  tab : Lib.TabBelow Tryz.prog B w "internal/strconv.uint64pow10" .u64 Lib.pow10Tab
  syn : ∃ te pe, w.cell? ⟨2, 0, none⟩ = some (.iface te pe)
  ran : ∃ te pe, w.cell? ⟨3, 0, none⟩ = some (.iface te pe)
  names : NamesAt w
  len : ∃ m, w.cell? ⟨1, 0, none⟩ = some (.int .i64 m)
  low : 2 < B ∧ 3 < B ∧ 0 < B ∧ 1 < B
  size : B ≤ w.heap.size
theorem LaidC.below {B B' : Nat} {w w' : World} (h : LaidC B w) (hb : Below B' w w') (hB : B ≤ B') : LaidC B w' := by
  have hb' := hb.mono hB
  obtain ⟨te, pe, h1⟩ := h.syn
  obtain ⟨tf, pf, h2⟩ := h.ran
  obtain ⟨m, h3⟩ := h.len
  exact ⟨h.tab.on hb', ⟨te, pe, (hb'.cell (p := ⟨2, 0, none⟩) h.low.1).trans h1⟩, ⟨tf, pf, (hb'.cell (p := ⟨3, 0, none⟩) h.low.2.1).trans h2⟩,
    h.names.below hb' h.low.2.2.1, ⟨m, (hb'.cell (p := ⟨1, 0, none⟩) h.low.2.2.2).trans h3⟩, h.low, Nat.le_trans h.size hb'.size⟩

theorem LaidC.up {B : Nat} {w w' : World} (h : LaidC B w) (hb : Below w.heap.size w w') : LaidC B w' := h.below hb h.size

def bs (l : List UInt8) : ByteArray := ⟨l.toArray⟩
theorem bs_app (a b : List UInt8) : bs a ++ bs b = bs (a ++ b) := by
  unfold bs
  apply ByteArray.ext
  simp
theorem bs_size (l : List UInt8) : (bs l).size = l.length := by simp [bs, ByteArray.size]
theorem str_bs (s : ByteArray) : bs s.data.toList = s := by simp [bs]
theorem bs_data (l : List UInt8) : (bs l).data.toList = l := by simp [bs]

theorem below_grow (w : World) (k : Nat) (os : Array Obj) : Below w.heap.size w (Sort.grow (w.drewN k) os) :=
  ⟨rfl, rfl, rfl, by simp [Sort.grow], fun j hj => Sort.heap_grow_old (w.drewN k) os hj⟩

theorem itoa_any (n : Int) (h0 : -9223372036854775808 ≤ n) (h1 : n ≤ 9223372036854775807) (w : World) {B : Nat} (hp : LaidC B w) :
    Calls Tryz.prog 134 #[.int .i64 n] w fun e w' => e = .returned (.string (bs (Lib.itoa n))) ∧ Below w.heap.size w w' := by
  refine (Tryz.strconv_Itoa n h0 h1 w hp.tab.here).mono ?_
  rintro e w' ⟨rfl, k, os, rfl⟩
  exact ⟨rfl, below_grow w k os⟩

/-- An operand's text. -/
def wordOf (kind n : Int) : List UInt8 :=
  if kind = 8 ∧ n = 65535 then [45]
  else if kind = 1 ∧ 16 ≤ n then 89 :: Lib.itoa (n - 16)
  else if kind = 1 ∨ kind = 2 then 88 :: Lib.itoa n
  else if kind = 9 then 89 :: Lib.itoa n
  else Lib.itoa n

theorem wordOf_len (kind n : Int) (h0 : 0 ≤ n) (h1 : n ≤ 65535) : (wordOf kind n).length ≤ 22 := by
  have a := Lib.itoa_length_le n (by omega) (by omega)
  have b := Lib.itoa_length_le (n - 16) (by omega) (by omega)
  unfold wordOf
  repeat (first | split | (simp only [List.length_cons, List.length_nil]; omega) | omega)

theorem cons_bs (x : UInt8) (l : List UInt8) : (⟨#[x]⟩ : ByteArray) ++ bs l = bs (x :: l) := bs_app [x] l

theorem itoa_size (n : Int) (h0 : 0 ≤ n) (h1 : n ≤ 65535) : ∃ s : ByteArray, bs (Lib.itoa n) = s ∧ (9223372036854775807 < 1 + s.size) = False := by
  refine ⟨_, rfl, ?_⟩
  have a := Lib.itoa_length_le n (by omega) (by omega)
  rw [bs_size]
  simp
  omega

theorem word_any (kind n : Int) (h0 : 0 ≤ n) (h1 : n ≤ 65535) (w : World) {B : Nat} (hp : LaidC B w) :
    Calls Tryz.prog 142 #[.int .i64 kind, .int .i64 n] w fun e w' => e = .returned (.string (bs (wordOf kind n))) ∧ Below w.heap.size w w' := by
  by_cases k8 : kind = 8 ∧ n = 65535
  · obtain ⟨rfl, rfl⟩ := k8
    go_enter Tryz.func142, Tryz.ntmps142
    go_wp2
    go_ret
    exact ⟨rfl, Below.refl _ _⟩
  · by_cases k1 : kind = 1 ∧ 16 ≤ n
    · have hw : bs (wordOf kind n) = ⟨#[89]⟩ ++ bs (Lib.itoa (n - 16)) := by rw [wordOf, if_neg k8, if_pos k1, cons_bs]
      have hi := fun w (hp : LaidC B w) => itoa_any (n - 16) (by omega) (by omega) w hp
      obtain ⟨s, hs, hsz⟩ := itoa_size (n - 16) (by omega) (by omega)
      rw [hs] at hw hi
      rw [hw]
      have HI := Lib.hid hi
      have HP := Lib.hid hp
      obtain ⟨rfl, k16⟩ := k1
      clear hw hi hp k8 hs
      go_enter Tryz.func142, Tryz.ntmps142
      go_wp2_with (refine (HI.out _ HP.out).mono ?_; rintro e w' ⟨rfl, hb⟩)
      go_ret
      exact ⟨rfl, hb⟩
    · have k1' : ¬ (kind = 1 ∧ 16 ≤ n) := k1
      by_cases k2 : kind = 1 ∨ kind = 2
      · have hw : bs (wordOf kind n) = ⟨#[88]⟩ ++ bs (Lib.itoa n) := by rw [wordOf, if_neg k8, if_neg k1, if_pos k2, cons_bs]
        have hi := fun w (hp : LaidC B w) => itoa_any n (by omega) (by omega) w hp
        obtain ⟨s, hs, hsz⟩ := itoa_size n (by omega) (by omega)
        rw [hs] at hw hi
        rw [hw]
        have HI := Lib.hid hi
        have HP := Lib.hid hp
        clear hw hi hp k8 hs
        rcases k2 with rfl | rfl
        · have hlt : n < 16 := by omega
          clear k1 k1'
          go_enter Tryz.func142, Tryz.ntmps142
          go_wp2_with (refine (HI.out _ HP.out).mono ?_; rintro e w' ⟨rfl, hb⟩)
          go_ret
          exact ⟨rfl, hb⟩
        · clear k1 k1'
          go_enter Tryz.func142, Tryz.ntmps142
          go_wp2_with (refine (HI.out _ HP.out).mono ?_; rintro e w' ⟨rfl, hb⟩)
          go_ret
          exact ⟨rfl, hb⟩
      · have e1 : (kind == 1) = false := by simp; omega
        have e2 : (kind == 2) = false := by simp; omega
        by_cases k9 : kind = 9
        · have hw : bs (wordOf kind n) = ⟨#[89]⟩ ++ bs (Lib.itoa n) := by rw [wordOf, if_neg k8, if_neg k1, if_neg k2, if_pos k9, cons_bs]
          have hi := fun w (hp : LaidC B w) => itoa_any n (by omega) (by omega) w hp
          obtain ⟨s, hs, hsz⟩ := itoa_size n (by omega) (by omega)
          rw [hs] at hw hi
          rw [hw]
          have HI := Lib.hid hi
          have HP := Lib.hid hp
          subst k9
          clear hw hi hp k8 hs k1 k1' k2 e1 e2
          go_enter Tryz.func142, Tryz.ntmps142
          go_wp2_with (refine (HI.out _ HP.out).mono ?_; rintro e w' ⟨rfl, hb⟩)
          go_ret
          exact ⟨rfl, hb⟩
        · have e9 : (kind == 9) = false := by simp; omega
          have hw : bs (wordOf kind n) = bs (Lib.itoa n) := by rw [wordOf, if_neg k8, if_neg k1, if_neg k2, if_neg k9]
          have hi := fun w (hp : LaidC B w) => itoa_any n (by omega) (by omega) w hp
          obtain ⟨s, hs, hsz⟩ := itoa_size n (by omega) (by omega)
          rw [hs] at hw hi
          rw [hw]
          have HI := Lib.hid hi
          have HP := Lib.hid hp
          clear hw hi hp hs k1 k1' k2 k9
          by_cases h8 : kind = 8
          · have hn : (n == 65535) = false := by simp; omega
            subst h8
            clear k8 e1 e2 e9
            go_enter Tryz.func142, Tryz.ntmps142
            go_wp2_with (refine (HI.out _ HP.out).mono ?_; rintro e w' ⟨rfl, hb⟩)
            go_ret
            exact ⟨rfl, hb⟩
          · have e8 : (kind == 8) = false := by simp; omega
            clear k8 h8
            go_enter Tryz.func142, Tryz.ntmps142
            go_wp2_with (refine (HI.out _ HP.out).mono ?_; rintro e w' ⟨rfl, hb⟩)
            go_ret
            exact ⟨rfl, hb⟩

end Go.Proofs.YtlmbiafloiompaaGreatDoor

namespace Go.Proofs.YtlmbiafloiompaaGreatDoor
open Go Go.RowKit Go.WideShapes Go.ChangeShapes
set_option linter.unusedVariables false

theorem right_any (op a b c d : Int) (w : World) (hw : NamesAt w) :
    Calls Tryz.prog 88 #[insV op a b c d] w fun e w' => e = .returned (.bool (rightB op [a, b, c, d])) ∧ Below w.heap.size w w' := by
  by_cases h : 0 ≤ op ∧ op ≤ 26
  · by_cases ho : opsOf op = []
    · exact right_none op a b c d h ho w hw
    · exact right_some op a b c d h _ rfl (List.length_pos_iff.2 ho) w hw
  · exact right_out op a b c d h w hw

/-- The texts of the first k operands. -/
def textTail (op : Int) (l : List Int) : Nat → List UInt8
  | 0 => []
  | k + 1 => textTail op l k ++ 32 :: wordOf ((opsOf op).getD k 0) (l.getD k 0)
/-- An instruction's text. -/
def textOf (op : Int) (l : List Int) : List UInt8 :=
  if rightB op l = true then (nameOf op).data.toList ++ textTail op l (opsOf op).length else []

theorem right_range {op : Int} {l : List Int} (h : rightB op l = true) : 0 ≤ op ∧ op ≤ 26 := by
  rw [rightB, Bool.and_eq_true] at h
  exact of_decide_eq_true h.1
theorem right_at {op : Int} {l : List Int} (h : rightB op l = true) (k : Nat) (hk : k < 4) : mayB op ((opsOf op).getD k 0) (l.getD k 0) = true := by
  rw [rightB, Bool.and_eq_true, List.all_eq_true] at h
  exact h.2 k (List.mem_range.2 hk)
theorem may_bd {op kind n : Int} (h : mayB op kind n = true) : 0 ≤ n ∧ n ≤ 65535 := by
  rcases of_decide_eq_true h with ⟨_, rfl⟩ | ⟨h1, h2⟩
  · omega
  · have a : 0 ≤ lowOf kind := by unfold lowOf; split <;> omega
    have b : highOf kind ≤ 1023 := by
      unfold highOf
      repeat (first | split | omega)
    omega

theorem name_len (op : Int) : (nameOf op).size ≤ 10 := by
  unfold nameOf
  split
  · rename_i h
    have : ∀ k, k < 27 → (nameAt k).size ≤ 10 := by decide
    exact this _ (by omega)
  · decide

theorem ret_str {a b : ByteArray} (h : a = b) : Ending.returned (.string a) = .returned (.string b) := by rw [h]

/-- What stands behind the first k operands. -/
def TxtAt (op : Int) (l : List Int) (k : Nat) (T : ByteArray) : Prop := T = bs ((nameOf op).data.toList ++ textTail op l k) ∧ T.size ≤ 10 + 23 * k
theorem TxtAt.zero (op : Int) (l : List Int) : TxtAt op l 0 (nameOf op) := by
  refine ⟨?_, by have := name_len op; omega⟩
  rw [textTail, List.append_nil, str_bs]
theorem TxtAt.step {op : Int} {l : List Int} {k : Nat} {T : ByteArray} (h : TxtAt op l k T) (hr : rightB op l = true) (hk : k < 4) : TxtAt op l (k + 1) (T ++ (⟨#[32]⟩ ++ bs (wordOf ((opsOf op).getD k 0) (l.getD k 0)))) := by
  obtain ⟨h1, h2⟩ := h
  have h3 := may_bd (right_at hr k hk)
  have h4 := wordOf_len ((opsOf op).getD k 0) (l.getD k 0) h3.1 h3.2
  refine ⟨?_, ?_⟩
  · rw [h1, cons_bs, bs_app, textTail, List.append_assoc]
  · rw [cons_bs, ByteArray.size_append, bs_size, List.length_cons]
    omega

set_option maxRecDepth 100000 in
theorem text_no (op a b c d : Int) (h : rightB op [a, b, c, d] = false) (w : World) {B : Nat} (hp : LaidC B w) :
    Calls Tryz.prog 112 #[insV op a b c d] w fun e w' => e = .returned (.string (bs (textOf op [a, b, c, d]))) ∧ Below w.heap.size w w' := by
  have ht : textOf op [a, b, c, d] = [] := by rw [textOf, h]; rfl
  have hr := fun w (hw : NamesAt w) => right_any op a b c d w hw
  rw [h] at hr
  rw [ht]
  have HR := Lib.hid hr
  have HP := Lib.hid (hp.up (alloc_below w (.cells #[.int .i64 op, .int .i64 a, .int .i64 b, .int .i64 c, .int .i64 d] 65))).names
  have HB := Lib.hid (alloc_below w (.cells #[.int .i64 op, .int .i64 a, .int .i64 b, .int .i64 c, .int .i64 d] 65))
  clear ht hr h hp
  unfold insV at HR ⊢
  go_enter Tryz.func112, Tryz.ntmps112
  go_wp2_with (refine (HR.out _ HP.out).mono ?_; rintro e w' ⟨rfl, hb⟩)
  go_ret
  exact ⟨rfl, HB.out.trans (hb.mono HB.out.size)⟩

/-- The box of the instruction, what the calls read, and what was there. -/
structure BoxAt (B B0 : Nat) (op a b c d : Int) (w0 w : World) : Prop where
  ins : Box w B 65 #[.int .i64 op, .int .i64 a, .int .i64 b, .int .i64 c, .int .i64 d]
  laid : LaidC B0 w
  below : Below B w0 w
theorem BoxAt.up {B B0 : Nat} {op a b c d : Int} {w0 w w' : World} (h : BoxAt B B0 op a b c d w0 w) (hb : Below w.heap.size w w') : BoxAt B B0 op a b c d w0 w' :=
  ⟨h.ins.below hb h.ins.lt, h.laid.up hb, h.below.trans (hb.mono (Nat.le_of_lt h.ins.lt))⟩
theorem BoxAt.cell {B B0 : Nat} {op a b c d : Int} {w0 w : World} (h : BoxAt B B0 op a b c d w0 w) (k : Nat) (hk : k < 4) : w.cell? ⟨B, 1 + k, none⟩ = some (.int .i64 ([a, b, c, d].getD k 0)) := by
  rw [h.ins.cell (1 + k)]
  match k, hk with
  | 0, _ => rfl
  | 1, _ => rfl
  | 2, _ => rfl
  | 3, _ => rfl

set_option maxRecDepth 100000 in
set_option maxHeartbeats 1000000 in
theorem text_none (op a b c d : Int) (h : rightB op [a, b, c, d] = true) (ho : opsOf op = []) (w : World) {B : Nat} (hp : LaidC B w) :
    Calls Tryz.prog 112 #[insV op a b c d] w fun e w' => e = .returned (.string (bs (textOf op [a, b, c, d]))) ∧ Below w.heap.size w w' := by
  have ht : bs (textOf op [a, b, c, d]) = nameOf op := by rw [textOf, if_pos h, ho]; simp [textTail, str_bs]
  have hr := fun w (hw : NamesAt w) => right_any op a b c d w hw
  rw [h] at hr
  rw [ht]
  have HR := Lib.hid hr
  have hbx : BoxAt w.heap.size B op a b c d w (w.alloc (.cells #[.int .i64 op, .int .i64 a, .int .i64 b, .int .i64 c, .int .i64 d] 65)) := ⟨Box.new w _ _, hp.up (alloc_below w _), alloc_below w _⟩
  have HBX := Lib.hid hbx
  have HN := Lib.hid (fun w (hw : NamesAt w) => name_any op w hw)
  have HO := Lib.hid (fun w => operands_none op ho w)
  generalize nameOf op = nm at HN ⊢
  clear ht hr h hp hbx ho
  unfold insV at HR ⊢
  go_enter Tryz.func112, Tryz.ntmps112
  go_wp2_with fail
  refine (HR.out _ HBX.out.laid.names).mono ?_
  rintro e w1 ⟨rfl, hb⟩
  have hb1 := HBX.out.up hb
  have c0 := hb1.ins.cell 0
  have HB1 := Lib.hid hb1
  clear hb1 hb
  go_wp2_with fail
  refine (HN.out _ HB1.out.laid.names).mono ?_
  rintro e w' ⟨rfl, rfl⟩
  go_wp2_with fail
  refine (HO.out _).mono ?_
  rintro e w' ⟨rfl, rfl⟩
  go_wp2
  go_loop [3, 16] (fun v i => v = .string nm ∧ i = .int .i64 0) (fun _ _ => 0)
  case atStart => exact ⟨rfl, rfl⟩
  case round =>
    obtain ⟨rfl, rfl⟩ := hrel
    go_wp2
    go_ret
    exact ⟨rfl, HB1.out.below⟩

set_option maxRecDepth 100000 in
set_option maxHeartbeats 2000000 in
theorem text_some (op a b c d : Int) (h : rightB op [a, b, c, d] = true) (n : Nat) (hn : (opsOf op).length = n) (hn0 : 0 < n) (w : World) {B : Nat} (hp : LaidC B w) :
    Calls Tryz.prog 112 #[insV op a b c d] w fun e w' => e = .returned (.string (bs (textOf op [a, b, c, d]))) ∧ Below w.heap.size w w' := by
  have ht : bs (textOf op [a, b, c, d]) = bs ((nameOf op).data.toList ++ textTail op [a, b, c, d] n) := by rw [textOf, if_pos h, hn]
  have hr := fun w (hw : NamesAt w) => right_any op a b c d w hw
  rw [h] at hr
  rw [ht]
  have HR := Lib.hid hr
  have hbx : BoxAt w.heap.size B op a b c d w (w.alloc (.cells #[.int .i64 op, .int .i64 a, .int .i64 b, .int .i64 c, .int .i64 d] 65)) := ⟨Box.new w _ _, hp.up (alloc_below w _), alloc_below w _⟩
  have HBX := Lib.hid hbx
  have HN := Lib.hid (fun w (hw : NamesAt w) => name_any op w hw)
  have HO := Lib.hid (fun w => operands_some op n hn hn0 w)
  have hn4 : n ≤ 4 := by have := ops_few op; omega
  have HH := Lib.hid h
  have HZ := Lib.hid (TxtAt.zero op [a, b, c, d])
  have HLEN := Lib.hid hn
  have HWORD := Lib.hid (fun (k : Nat) (hk : k < 4) w (hp : LaidC B w) => word_any ((opsOf op).getD k 0) ([a, b, c, d].getD k 0) (may_bd (right_at h k hk)).1 (may_bd (right_at h k hk)).2 w hp)
  have HSZ := Lib.hid (fun (k : Nat) (hk : k < 4) => wordOf_len ((opsOf op).getD k 0) ([a, b, c, d].getD k 0) (may_bd (right_at h k hk)).1 (may_bd (right_at h k hk)).2)
  obtain ⟨nm, hnm⟩ : ∃ nm, nameOf op = nm := ⟨_, rfl⟩
  rw [hnm] at HN HZ
  clear ht hr h hp hbx hn hnm
  unfold insV at HR ⊢
  go_enter Tryz.func112, Tryz.ntmps112
  go_wp2_with fail
  refine (HR.out _ HBX.out.laid.names).mono ?_
  rintro e w1 ⟨rfl, hb⟩
  have hb1 := HBX.out.up hb
  have c0 := hb1.ins.cell 0
  have HB1 := Lib.hid hb1
  clear hb1 hb
  go_wp2_with fail
  refine (HN.out _ HB1.out.laid.names).mono ?_
  rintro e w' ⟨rfl, rfl⟩
  go_wp2_with fail
  refine (HO.out _).mono ?_
  rintro e w2 ⟨rfl, hw2⟩
  have hkc : ∀ k, k < n → w2.cell? ⟨w1.heap.size, k, none⟩ = some (.int .i64 ((opsOf op).getD k 0)) := fun k hk => by
    subst hw2
    rw [(Box.new w1 3 ((opsOf op).map (Value.int .i64)).toArray).cell k]
    have hk' : k < (opsOf op).length := by rw [HLEN.out]; exact hk
    simp [List.getD_eq_getElem?_getD, hk']
  have hb12 : Below w1.heap.size w1 w2 := by rw [← hw2]; exact alloc_below w1 _
  have hb2 := HB1.out.up hb12
  have hlt1 : w1.heap.size < w2.heap.size := by rw [← hw2]; simp
  have HKC := Lib.hid hkc
  have HB2 := Lib.hid hb2
  have HW2 := Lib.hid hw2
  have HLT1 := Lib.hid hlt1
  clear hkc hb2 hw2 c0 hlt1 hb12
  go_wp2
  go_loopw [3, 16] (fun v i wr => ∃ (k : Nat) (T : ByteArray), k ≤ n ∧ i = .int .i64 k ∧ v = .string T ∧ TxtAt op [a, b, c, d] k T ∧ BoxAt w.heap.size B op a b c d w wr ∧ Below w2.heap.size w2 wr) (fun _ i _ => n - (intOf i).toNat)
  case atStart => exact ⟨0, nm, by omega, rfl, rfl, HZ.out, HB2.out, Below.refl _ _⟩
  case round =>
    obtain ⟨k, T, hk, rfl, rfl, ht, hbx, hbl⟩ := hrel
    by_cases hlt : k < n
    · have hk4 : k < 4 := by omega
      have hkc := (hbl.cell (p := ⟨w1.heap.size, k, none⟩) HLT1.out).trans (HKC.out k hlt)
      have hac := hbx.cell k hk4
      have hwd := HWORD.out k hk4 wr hbx.laid
      have hst := ht.step HH.out hk4
      have hts := ht.2
      have hws := HSZ.out k hk4
      rw [← bs_size] at hws
      generalize (opsOf op).getD k 0 = kd at hkc hwd hst hws
      generalize [a, b, c, d].getD k 0 = x at hac hwd hst hws
      generalize bs (wordOf kd x) = ws at hwd hst hws
      have z1 : (9223372036854775807 < 1 + ws.size) = False := by simp; omega
      have z2 : (9223372036854775807 < T.size + (1 + ws.size)) = False := by simp; omega
      have HWD := Lib.hid hwd
      have HST := Lib.hid hst
      have HBX2 := Lib.hid hbx
      have HBL := Lib.hid hbl
      clear hwd hst hbx hbl ht hts hws
      go_wp2_with fail
      refine HWD.out.mono ?_
      rintro e w3 ⟨rfl, hb3⟩
      have HBX3 := Lib.hid (HBX2.out.up hb3)
      have HBL3 := Lib.hid (HBL.out.trans (hb3.mono HBL.out.size))
      clear hb3 hkc hac
      go_wp2
      go_roundw
      case rel => exact ⟨k + 1, _, by omega, by go_num, rfl, HST.out, HBX3.out, HBL3.out⟩
      case measure => simp [intOf]; omega
    · obtain rfl : k = n := by omega
      have HT := Lib.hid ht.1
      have HBX2 := Lib.hid hbx
      clear ht hbx hbl
      go_wp2
      go_ret
      exact ⟨ret_str HT.out, HBX2.out.below⟩

theorem text_any (op a b c d : Int) (w : World) {B : Nat} (hp : LaidC B w) :
    Calls Tryz.prog 112 #[insV op a b c d] w fun e w' => e = .returned (.string (bs (textOf op [a, b, c, d]))) ∧ Below w.heap.size w w' := by
  cases h : rightB op [a, b, c, d]
  · exact text_no op a b c d h w hp
  · by_cases ho : opsOf op = []
    · exact text_none op a b c d h ho w hp
    · exact text_some op a b c d h _ rfl (List.length_pos_iff.2 ho) w hp

end Go.Proofs.YtlmbiafloiompaaGreatDoor

namespace Go.Proofs.YtlmbiafloiompaaGreatDoor
open Go Go.RowKit Go.WideShapes Go.ChangeShapes
set_option linter.unusedVariables false

/-- What a word is read as. -/
def numOf (kind : Int) (w : List UInt8) : Option Int :=
  if w = [45] then some 65535
  else match Lib.atoiAll (Lib.trimLeftS w [88, 89]) with
    | .ok v => some (if kind = 1 ∧ Lib.hasPrefix w [89] = true then wrap64 (v + 16) else v)
    | _ => none

def NumRes (w : World) (r : Option Int) (e : Ending) (w' : World) : Prop :=
  ∃ x, e = .returned (.tuple #[.int .i64 x, .bool r.isSome]) ∧ (∀ v, r = some v → x = v) ∧ Below w.heap.size w w'

theorem bel_drewN {B : Nat} {w w' : World} (h : Below B w w') (n : Nat) : Below B w (w'.drewN n) := ⟨h.os, h.tape, h.output, h.size, h.block⟩
theorem num_some {w w' : World} {r : Option Int} {x : Int} (h : r = some x) (hb : Below w.heap.size w w') : NumRes w r (.returned (.tuple #[.int .i64 x, .bool true])) w' := by
  subst h
  exact ⟨x, rfl, fun v hv => Option.some.inj hv, hb⟩
theorem num_none {w w' : World} {r : Option Int} {x : Int} (h : r = none) (hb : Below w.heap.size w w') : NumRes w r (.returned (.tuple #[.int .i64 x, .bool false])) w' := by
  subst h
  exact ⟨x, rfl, (fun v hv => by cases hv), hb⟩

theorem atoi_below {w w2 : World} {t : TypeId} (h : w2 = w ∨ ∃ x, w2 = Lib.bytesWorld w t x) : Below w.heap.size w w2 := by
  rcases h with rfl | ⟨x, rfl⟩
  · exact Below.refl _ _
  · exact Lib.bytesWorld_below _ _ _

theorem trim_any (s : ByteArray) (w : World) :
    Calls Tryz.prog 141 #[.string s, .string ⟨#[88, 89]⟩] w fun e w' => e = .returned (.string (bs (Lib.trimLeftS s.data.toList [88, 89]))) ∧ Below w.heap.size w w' :=
  Any.strings_TrimLeft_laid Tryz.lays161 (by kernel_rfl) s ⟨#[88, 89]⟩ w (by decide) (ascii_of_all (by decide))

theorem trim_len (l : List UInt8) : (Lib.trimLeftS l [88, 89]).length ≤ l.length := (List.dropWhile_sublist _).length_le

theorem prefix_any (s : ByteArray) (w : World) :
    Calls Tryz.prog 38 #[.string s, .string ⟨#[89]⟩] w fun e w' => e = .returned (.bool (Lib.hasPrefix s.data.toList [89])) ∧ w = w' :=
  (Tryz.strings_HasPrefix s ⟨#[89]⟩ w).mono fun e w' h => ⟨h.1, h.2.symm⟩

end Go.Proofs.YtlmbiafloiompaaGreatDoor
