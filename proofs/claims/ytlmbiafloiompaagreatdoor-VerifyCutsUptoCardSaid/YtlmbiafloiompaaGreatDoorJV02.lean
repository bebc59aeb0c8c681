/-
  3 texts in one (CodeA CodeB CodeC). Conditions: those of each theorem.
-/
import Derived.Test.YtlmbiafloiompaaGreatDoorJV01
import Derived.Test.YtlmbiafloiompaaGreatDoorProg
import Derived.IntWalk
import Derived.Outline
import Derived.Laws.Rows
import Derived.Deep.DeepCutAuto
import Derived.Laws.CopyOwn
namespace Go.Proofs.YtlmbiafloiompaaGreatDoor
open Go Go.RowKit Go.WideShapes Go.ChangeShapes
set_option linter.unusedVariables false

theorem ret_b {a b : Bool} (h : a = b) : Ending.returned (.bool a) = .returned (.bool b) := by rw [h]

theorem span_any (kind : Int) (h0 : 0 ≤ kind) (h1 : kind ≤ 9) (w : World) :
    Calls Tryz.prog 145 #[.int .i64 kind] w fun e w' => e = .returned (.tuple #[.int .i64 (lowOf kind), .int .i64 (highOf kind)]) ∧ w = w' := by
  have hk : kind = 0 ∨ kind = 1 ∨ kind = 2 ∨ kind = 3 ∨ kind = 4 ∨ kind = 5 ∨ kind = 6 ∨ kind = 7 ∨ kind = 8 ∨ kind = 9 := by omega
  clear h0 h1
  rcases hk with rfl | rfl | rfl | rfl | rfl | rfl | rfl | rfl | rfl | rfl
  all_goals
    go_enter Tryz.func145, Tryz.ntmps145
    go_wp2
    go_ret2
    exact ⟨rfl, rfl⟩

set_option maxHeartbeats 1000000 in
theorem may_any (op kind n : Int) (h0 : 0 ≤ kind) (h1 : kind ≤ 9) (w : World) :
    Calls Tryz.prog 118 #[.int .i64 op, .int .i64 kind, .int .i64 n] w fun e w' => e = .returned (.bool (mayB op kind n)) ∧ w = w' := by
  have HS := Lib.hid (span_any kind h0 h1 w)
  obtain ⟨lo, hlo⟩ : ∃ lo, lowOf kind = lo := ⟨_, rfl⟩
  obtain ⟨hi, hhi⟩ : ∃ hi, highOf kind = hi := ⟨_, rfl⟩
  have hm : mayB op kind n = decide ((op = 26 ∧ n = 65535) ∨ (lo ≤ n ∧ n ≤ hi)) := by rw [mayB, hlo, hhi]
  rw [hlo, hhi] at HS
  rw [hm]
  clear hm hlo hhi
  by_cases h26 : op = 26
  · subst h26
    by_cases hn : n = 65535
    · subst hn
      go_enter Tryz.func118, Tryz.ntmps118
      go_wp2
      go_ret
      exact ⟨by simp, rfl⟩
    · have hn' : (n == 65535) = false := by simpa using hn
      go_enter Tryz.func118, Tryz.ntmps118
      go_wp2_with (refine HS.out.mono ?_; rintro e w' ⟨rfl, rfl⟩)
      all_goals
        go_ret
        refine ⟨ret_b ?_, rfl⟩
        rw [Bool.eq_iff_iff]
        simp
        omega
  · have h26' : (op == 26) = false := by simpa using h26
    go_enter Tryz.func118, Tryz.ntmps118
    go_wp2_with (refine HS.out.mono ?_; rintro e w' ⟨rfl, rfl⟩)
    all_goals
      go_ret
      refine ⟨ret_b ?_, rfl⟩
      rw [Bool.eq_iff_iff]
      simp
      omega

/-- What a slice of the call's own, new, says of a list. -/
def NewInts (w : World) (l : List Int) (e : Ending) (w' : World) : Prop :=
  (l = [] ∧ e = .returned (.slice none 0 0) ∧ w' = w) ∨
    (l ≠ [] ∧ e = .returned (.slice (some ⟨w.heap.size, 0, none⟩) l.length l.length) ∧ w' = w.alloc (.cells (l.map (Value.int .i64)).toArray 3))

set_option maxHeartbeats 8000000 in
theorem operands_any (op : Int) (w : World) :
    Calls Tryz.prog 79 #[.int .i64 op] w (NewInts w (opsOf op)) := by
  by_cases h : 0 ≤ op ∧ op ≤ 26
  · obtain ⟨h0, h1⟩ := h
    have hk : op = 0 ∨ op = 1 ∨ op = 2 ∨ op = 3 ∨ op = 4 ∨ op = 5 ∨ op = 6 ∨ op = 7 ∨ op = 8 ∨ op = 9 ∨ op = 10 ∨ op = 11 ∨ op = 12 ∨ op = 13 ∨ op = 14 ∨ op = 15 ∨ op = 16 ∨ op = 17 ∨ op = 18 ∨ op = 19 ∨ op = 20 ∨ op = 21 ∨ op = 22 ∨ op = 23 ∨ op = 24 ∨ op = 25 ∨ op = 26 := by omega
    clear h0 h1
    rcases hk with rfl | rfl | rfl | rfl | rfl | rfl | rfl | rfl | rfl | rfl | rfl | rfl | rfl | rfl | rfl | rfl | rfl | rfl | rfl | rfl | rfl | rfl | rfl | rfl | rfl | rfl | rfl
    all_goals
      go_enter Tryz.func79, Tryz.ntmps79
      go_wp2
      go_ret
      first
        | exact .inl ⟨rfl, rfl, rfl⟩
        | exact .inr ⟨by decide, rfl, rfl⟩
  · have he : opsOf op = [] := by
      unfold opsOf
      repeat rw [if_neg (by omega)]
    rw [he]
    have h1 : (op == 1) = false := by simp; omega
    have h2 : (op == 2) = false := by simp; omega
    have h10 : (op == 10) = false := by simp; omega
    have h11 : (op == 11) = false := by simp; omega
    have h3 : (op == 3) = false := by simp; omega
    have h12 : (op == 12) = false := by simp; omega
    have h4 : (op == 4) = false := by simp; omega
    have h13 : (op == 13) = false := by simp; omega
    have h5 : (op == 5) = false := by simp; omega
    have h14 : (op == 14) = false := by simp; omega
    have h6 : (op == 6) = false := by simp; omega
    have h7 : (op == 7) = false := by simp; omega
    have h8 : (op == 8) = false := by simp; omega
    have h9 : (op == 9) = false := by simp; omega
    have h15 : (op == 15) = false := by simp; omega
    have h17 : (op == 17) = false := by simp; omega
    have h18 : (op == 18) = false := by simp; omega
    have h20 : (op == 20) = false := by simp; omega
    have h21 : (op == 21) = false := by simp; omega
    have h24 : (op == 24) = false := by simp; omega
    have h25 : (op == 25) = false := by simp; omega
    have h26 : (op == 26) = false := by simp; omega
    clear h he
    go_enter Tryz.func79, Tryz.ntmps79
    go_wp2
    go_ret
    exact .inl ⟨rfl, rfl, rfl⟩

end Go.Proofs.YtlmbiafloiompaaGreatDoor

namespace Go.Proofs.YtlmbiafloiompaaGreatDoor
open Go Go.RowKit Go.WideShapes Go.ChangeShapes
set_option linter.unusedVariables false

def namesArr : Array Value := ((List.range 27).map fun k => Value.string (nameAt k)).toArray

/-- The program's table of names. -/
def NamesAt (w : World) : Prop := ∃ t fr, w.heap[0]? = some (.cells namesArr t fr)

theorem namesArr_at (k : Nat) (h : k < 27) : namesArr[k]? = some (.string (nameAt k)) := by
  unfold namesArr
  simp [h]
theorem NamesAt.cell {w : World} (h : NamesAt w) (k : Nat) (hk : k < 27) : w.cell? ⟨0, k, none⟩ = some (.string (nameAt k)) := by
  obtain ⟨t, fr, h⟩ := h
  exact (cell_of_row w _ k namesArr t fr h).trans (namesArr_at k hk)
theorem NamesAt.below {w w' : World} {B : Nat} (h : NamesAt w) (hb : Below B w w') (hB : 0 < B) : NamesAt w' := by
  obtain ⟨t, fr, h⟩ := h
  exact ⟨t, fr, (hb.block _ hB).trans h⟩
theorem NamesAt.lt {w : World} (h : NamesAt w) : 0 < w.heap.size := by
  obtain ⟨t, fr, h⟩ := h
  exact (Array.getElem?_eq_some_iff.1 h).1

theorem name_any (op : Int) (w : World) (hw : NamesAt w) :
    Calls Tryz.prog 87 #[.int .i64 op] w fun e w' => e = .returned (.string (nameOf op)) ∧ w = w' := by
  by_cases h : 0 ≤ op ∧ op ≤ 26
  · have hn : nameOf op = nameAt op.toNat := if_pos h
    obtain ⟨k, rfl⟩ := Int.eq_ofNat_of_zero_le h.1
    have hk : k ≤ 26 := by omega
    have hc := hw.cell k (by omega)
    rw [hn]
    simp only [Int.toNat_natCast]
    clear hn h hw
    generalize nameAt k = s at hc ⊢
    go_enter Tryz.func87, Tryz.ntmps87
    go_wp2
    go_ret
    exact ⟨rfl, rfl⟩
  · have hn : nameOf op = ⟨#[]⟩ := if_neg h
    rw [hn]
    clear hn hw
    by_cases h0 : op < 0
    · clear h
      go_enter Tryz.func87, Tryz.ntmps87
      go_wp2
      go_ret
      exact ⟨rfl, rfl⟩
    · have h1 : 27 ≤ op := by omega
      clear h
      go_enter Tryz.func87, Tryz.ntmps87
      go_wp2
      go_ret
      exact ⟨rfl, rfl⟩

theorem run_index_agg {P : Program} (w : World) (t e : TypeId) (n : Nat) (cs : Array Value) (k : IntKind) (i : Nat) (v : Value) (h : P.underlying t = some (.array n e)) (he : ∀ w, (sizeOf e).run P w = .ok 1 w) (ha : ∀ w, (isAgg e).run P w = .ok false w) (hi : i < n) (hv : cs[i]? = some v) :
    (Instr.index t (.agg cs) (.int k (i : Int))).run P w = .ok v w := by
  have h1 : 0 ≤ (i : Int) ∧ (i : Int) < (n : Int) := by omega
  simp [Instr.index, run_underlying h, asIntOf, hi, he, ha, hv, go_sem]

theorem ne_strs {a b : ByteArray} (h : ¬ a = b) : (a.toList == b.toList) = false := by
  rw [beq_eq_false_iff_ne]
  intro e
  rw [ByteArray.toList_eq, ByteArray.toList_eq] at e
  exact h (ByteArray.ext (Array.ext' e))

/-- The first Op from k on of that name. -/
def namedFrom (s : ByteArray) : Nat → Nat → Int
  | _, 0 => -1
  | k, n + 1 => if nameAt k = s then (k : Int) else namedFrom s (k + 1) n
def namedOf (s : ByteArray) : Int := namedFrom s 0 27

theorem namedFrom_eq (s : ByteArray) (k n : Nat) : namedFrom s k (n + 1) = if nameAt k = s then (k : Int) else namedFrom s (k + 1) n := rfl

set_option maxRecDepth 100000 in
set_option maxHeartbeats 1000000 in
theorem named_any (s : ByteArray) (w : World) (hw : NamesAt w) :
    Calls Tryz.prog 80 #[.string s] w fun e w' => e = .returned (.int .i64 (namedOf s)) ∧ w = w' := by
  obtain ⟨tt, fr, hb⟩ := id hw
  have hs1 : ∀ w, (sizeOf 9).run Tryz.prog w = .ok 1 w := fun _ => by kernel_rfl
  have ha1 : ∀ w, (isAgg 9).run Tryz.prog w = .ok false w := fun _ => by kernel_rfl
  have HS1 := Lib.hid hs1
  have HA1 := Lib.hid ha1
  have HB := Lib.hid hb
  clear hs1 ha1 hb hw
  go_enter Tryz.func80, Tryz.ntmps80
  go_wp2_with (refine wpList_load_row rfl 184 _ rfl 0 rfl tt _ fr _ HB.out Tryz.underlying184 rfl (by kernel_rfl) ?_)
  go_loop [6] (fun i => ∃ k : Nat, k ≤ 27 ∧ i = .int .i64 k ∧ namedOf s = namedFrom s k (27 - k)) (fun i => 27 - (intOf i).toNat)
  case atStart => exact ⟨0, by omega, rfl, rfl⟩
  case round =>
    obtain ⟨k, hk, rfl, hf⟩ := hrel
    by_cases hlt : k < 27
    · have hidx := run_index_agg (P := Tryz.prog) w 184 9 27 namesArr .i64 k _ Tryz.underlying184 HS1.out HA1.out hlt (namesArr_at k hlt)
      rw [show 27 - k = (27 - (k + 1)) + 1 by omega, namedFrom_eq] at hf
      have HF := Lib.hid hf
      clear hf
      by_cases he : nameAt k = s
      · subst he
        have hx : namedOf (nameAt k) = (k : Int) := by rw [HF.out, if_pos rfl]
        have HX := Lib.hid hx
        clear hx HF
        go_wp2
        go_ret
        exact ⟨by rw [HX.out]; rfl, rfl⟩
      · have hne := ne_strs he
        have hx : namedOf s = namedFrom s (k + 1) (27 - (k + 1)) := by rw [HF.out, if_neg he]
        have HX := Lib.hid hx
        clear hx HF he
        go_wp2
        go_round
        case rel => exact ⟨k + 1, by omega, by go_num, HX.out⟩
        case measure => simp [intOf]; omega
    · obtain rfl : k = 27 := by omega
      have HF := Lib.hid hf
      clear hf
      go_wp2
      go_ret
      exact ⟨by rw [HF.out]; rfl, rfl⟩

end Go.Proofs.YtlmbiafloiompaaGreatDoor

namespace Go.Proofs.YtlmbiafloiompaaGreatDoor
open Go Go.RowKit Go.WideShapes Go.ChangeShapes
set_option linter.unusedVariables false

/-- An instruction, as a value. -/
def insV (op a b c d : Int) : Value := .agg #[.int .i64 op, .int .i64 a, .int .i64 b, .int .i64 c, .int .i64 d]

/-- A slice whose cells hold these numbers. -/
def IntsAt (w : World) (v : Value) (l : List Int) : Prop :=
  (l = [] ∧ ∃ A c, v = .slice A 0 c) ∨
    ∃ b off c, v = .slice (some ⟨b, off, none⟩) l.length c ∧ ∀ k, k < l.length → w.cell? ⟨b, off + k, none⟩ = some (.int .i64 (l.getD k 0))

theorem IntsAt.below {w w' : World} {v : Value} {l : List Int} (h : IntsAt w v l) (hb : Below w.heap.size w w') : IntsAt w' v l := by
  rcases h with h | ⟨b, off, c, rfl, hc⟩
  · exact .inl h
  · exact .inr ⟨b, off, c, rfl, fun k hk => (hb.cell (p := ⟨b, off + k, none⟩) (World.block_lt_of_cell? w _ (hc k hk))).trans (hc k hk)⟩

theorem alloc_below (w : World) (o : Obj) : Below w.heap.size w (w.alloc o) := (Below.refl _ w).alloc (Nat.le_refl _) o
theorem two_below (w : World) (o p : Obj) : Below w.heap.size w ((w.alloc o).alloc p) := ((Below.refl _ w).alloc (Nat.le_refl _) o).alloc (by simp) p

theorem to_any (op a b c d : Int) (w : World) :
    Calls Tryz.prog 14 #[insV op a b c d] w fun e w' => e = .returned (insV op a b c d) ∧ Below w.heap.size w w' := by
  unfold insV
  go_enter Tryz.func14, Tryz.ntmps14
  go_wp2
  exact bodyPost_ret (v := .agg #[.int .i64 op, .int .i64 a, .int .i64 b, .int .i64 c, .int .i64 d]) (by simp [results, Tryz.results14, go_sem]) rfl ⟨rfl, two_below w _ _⟩

theorem from_any (op a b c d : Int) (w : World) :
    Calls Tryz.prog 18 #[insV op a b c d] w fun e w' => e = .returned (insV op a b c d) ∧ Below w.heap.size w w' := by
  unfold insV
  go_enter Tryz.func18, Tryz.ntmps18
  go_wp2
  exact bodyPost_ret (v := .agg #[.int .i64 op, .int .i64 a, .int .i64 b, .int .i64 c, .int .i64 d]) (by simp [results, Tryz.results18, go_sem]) rfl ⟨rfl, two_below w _ _⟩

theorem splice_four (op : Int) (l : List Int) : splice [Value.int .i64 op, .int .i64 0, .int .i64 0, .int .i64 0, .int .i64 0] 1 ((l.take 4).map (Value.int .i64)) =
    [Value.int .i64 op, .int .i64 (l.getD 0 0), .int .i64 (l.getD 1 0), .int .i64 (l.getD 2 0), .int .i64 (l.getD 3 0)] := by
  match l with
  | [] => rfl
  | [a] => rfl
  | [a, b] => rfl
  | [a, b, c] => rfl
  | a :: b :: c :: d :: r => rfl

set_option maxHeartbeats 1000000 in
theorem make_any (op : Int) (l : List Int) (v : Value) (w : World) (hv : IntsAt w v l) :
    Calls Tryz.prog 111 #[.int .i64 op, v] w fun e w' => e = .returned (insV op (l.getD 0 0) (l.getD 1 0) (l.getD 2 0) (l.getD 3 0)) ∧ Below w.heap.size w w' := by
  have hform : ∃ A n c, v = .slice A n c ∧ n = l.length ∧ (0 < n → ∃ ad, A = some ad ∧ ∀ j u, (l.map (Value.int .i64))[j]? = some u → w.cell? (ad.add j) = some u ∧ ad.block < w.heap.size) := by
    rcases hv with ⟨rfl, A, c, rfl⟩ | ⟨b, off, c, rfl, hc⟩
    · exact ⟨A, 0, c, rfl, rfl, fun h => absurd h (by omega)⟩
    · refine ⟨_, l.length, c, rfl, rfl, fun _ => ⟨_, rfl, fun j u hu => ?_⟩⟩
      rw [List.getElem?_map] at hu
      cases hq : l[j]? with
      | none => simp [hq] at hu
      | some x =>
        rw [hq] at hu
        obtain rfl : Value.int .i64 x = u := by simpa using hu
        have hj : j < l.length := (List.getElem?_eq_some_iff.1 hq).1
        have h1 := hc j hj
        rw [List.getD_eq_getElem?_getD, hq] at h1
        rw [add_plain]
        exact ⟨h1, World.block_lt_of_cell? w ⟨b, off + j, none⟩ h1⟩
  obtain ⟨A, n, c, rfl, hn, hsrc⟩ := hform
  have HN := Lib.hid hn
  have HSRC := Lib.hid hsrc
  clear hv hn hsrc
  have hcs : ∃ cs : List Value, cs.length = Nat.min n 4 ∧ (∀ (i : Nat) (u : Value), cs[i]? = some u → (l.map (Value.int .i64))[i]? = some u) ∧ (∀ u ∈ cs, u.oneCell' = true) ∧
      splice [Value.int .i64 op, .int .i64 0, .int .i64 0, .int .i64 0, .int .i64 0] 1 cs = [Value.int .i64 op, .int .i64 (l.getD 0 0), .int .i64 (l.getD 1 0), .int .i64 (l.getD 2 0), .int .i64 (l.getD 3 0)] := by
    refine ⟨(l.take 4).map (Value.int .i64), ?_, ?_, ?_, splice_four op l⟩
    · rw [List.length_map, List.length_take, HN.out, Nat.min_comm]
    · intro i u hu
      rw [List.map_take, List.getElem?_take] at hu
      split at hu
      · exact hu
      · cases hu
    · intro u hu
      obtain ⟨x, _, rfl⟩ := List.mem_map.1 hu
      rfl
  obtain ⟨cs, hlen, hz, hone, hspl⟩ := hcs
  have hle4 : cs.length ≤ 4 := by rw [hlen]; exact Nat.min_le_right _ _
  have hlen0 : 0 < cs.length → 0 < n := by rw [hlen]; intro h; exact Nat.lt_of_lt_of_le h (Nat.min_le_left _ _)
  have HZ := Lib.hid hz
  have HLEN := Lib.hid hlen
  have HONE := Lib.hid hone
  have HSPL := Lib.hid hspl
  have HLE4 := Lib.hid hle4
  have HLEN0 := Lib.hid hlen0
  clear hz hlen hone hspl hle4 hlen0
  have hblk : ((w.alloc (.cells #[.int .i64 0, .int .i64 0, .int .i64 0, .int .i64 0, .int .i64 0] 65)).alloc (.cells #[.int .i64 op, .int .i64 0, .int .i64 0, .int .i64 0, .int .i64 0] 65)).heap[w.heap.size + 1]? = some (.cells [Value.int .i64 op, .int .i64 0, .int .i64 0, .int .i64 0, .int .i64 0].toArray 65 (0, 0)) := by
    have h := heap_alloc_new (w.alloc (.cells #[.int .i64 0, .int .i64 0, .int .i64 0, .int .i64 0, .int .i64 0] 65)) (.cells #[.int .i64 op, .int .i64 0, .int .i64 0, .int .i64 0, .int .i64 0] 65)
    rw [show (w.alloc (.cells #[.int .i64 0, .int .i64 0, .int .i64 0, .int .i64 0, .int .i64 0] 65)).heap.size = w.heap.size + 1 by simp] at h
    exact h
  have HBLK := Lib.hid hblk
  have hres : Box ((w.alloc (.cells #[.int .i64 0, .int .i64 0, .int .i64 0, .int .i64 0, .int .i64 0] 65)).alloc (.cells #[.int .i64 op, .int .i64 0, .int .i64 0, .int .i64 0, .int .i64 0] 65)) w.heap.size 65 #[.int .i64 0, .int .i64 0, .int .i64 0, .int .i64 0, .int .i64 0] := (Box.new w _ _).alloc _
  have HRES := Lib.hid hres
  clear hblk hres
  unfold insV
  go_enter Tryz.func111, Tryz.ntmps111
  go_upto_region 2 with (fail)
  go_wp2_with (with_reducible refine wpList_copy_splice rfl _ _ _ _ rfl 3 Tryz.underlying73 (by kernel_rfl) _ _ 4 4 n c rfl rfl (w.heap.size + 1) 1 [Value.int .i64 op, .int .i64 0, .int .i64 0, .int .i64 0, .int .i64 0] 65 HBLK.out cs HLEN.out ?c1 ?c2 HONE.out (w.heap.size + 1) _ (Below.refl _ _) (Nat.le_refl _) ?_)
  case c1 =>
    intro h0
    obtain ⟨ad, h1, h2⟩ := HSRC.out (HLEN0.out h0)
    refine ⟨ad, h1, fun j u hu => ?_⟩
    obtain ⟨h3, h4⟩ := h2 j u (HZ.out j u hu)
    have h5 : (ad.add j).block = ad.block := by unfold Addr.add; split <;> rfl
    refine (cell_alloc_lt _ _ ?_).trans ((cell_alloc_lt w _ ?_).trans h3)
    · rw [h5]; simp; omega
    · rw [h5]; exact h4
  case c2 => have := HLE4.out; simp only [List.length_cons, List.length_nil]; omega
  rintro w1 hb1 hbel1
  have hbox : Box w1 (w.heap.size + 1) 65 #[.int .i64 op, .int .i64 (l.getD 0 0), .int .i64 (l.getD 1 0), .int .i64 (l.getD 2 0), .int .i64 (l.getD 3 0)] := by
    have h := hb1.out
    rw [HSPL.out] at h
    exact h
  have hres1 : Box w1 w.heap.size 65 #[.int .i64 0, .int .i64 0, .int .i64 0, .int .i64 0, .int .i64 0] := HRES.out.below hbel1 (by omega)
  have HBEL : Hid (Below w.heap.size w w1) := Lib.hid ((two_below w _ _).trans (hbel1.mono (by omega)))
  obtain ⟨a0, ha0⟩ : ∃ x, l.getD 0 0 = x := ⟨_, rfl⟩
  rw [ha0] at hbox
  have HA0 := Lib.hid ha0
  clear ha0
  obtain ⟨a1, ha1⟩ : ∃ x, l.getD 1 0 = x := ⟨_, rfl⟩
  rw [ha1] at hbox
  have HA1 := Lib.hid ha1
  clear ha1
  obtain ⟨a2, ha2⟩ : ∃ x, l.getD 2 0 = x := ⟨_, rfl⟩
  rw [ha2] at hbox
  have HA2 := Lib.hid ha2
  clear ha2
  obtain ⟨a3, ha3⟩ : ∃ x, l.getD 3 0 = x := ⟨_, rfl⟩
  rw [ha3] at hbox
  have HA3 := Lib.hid ha3
  clear ha3
  have c0 := hbox.cell 0
  have c1 := hbox.cell 1
  have c2 := hbox.cell 2
  have c3 := hbox.cell 3
  have c4 := hbox.cell 4
  have d0 := hres1.cell 0
  have d1 := hres1.cell 1
  have d2 := hres1.cell 2
  have d3 := hres1.cell 3
  have d4 := hres1.cell 4
  have f0 := hres1.frozen 0
  have f1 := hres1.frozen 1
  have f2 := hres1.frozen 2
  have f3 := hres1.frozen 3
  have f4 := hres1.frozen 4
  have HRES1 := Lib.hid hres1
  clear hb1 hbel1 hres1 hbox
  go_wp2
  have hb5 : Box (((((w1.setCell ⟨w.heap.size, 0, none⟩ (.int .i64 op)).setCell ⟨w.heap.size, 1, none⟩ (.int .i64 a0)).setCell ⟨w.heap.size, 2, none⟩ (.int .i64 a1)).setCell ⟨w.heap.size, 3, none⟩ (.int .i64 a2)).setCell ⟨w.heap.size, 4, none⟩ (.int .i64 a3)) w.heap.size 65 #[.int .i64 op, .int .i64 a0, .int .i64 a1, .int .i64 a2, .int .i64 a3] :=
    ((((HRES1.out.set_ 0 _).set_ 1 _).set_ 2 _).set_ 3 _).set_ 4 _
  refine bodyPost_ret (v := .agg #[.int .i64 op, .int .i64 a0, .int .i64 a1, .int .i64 a2, .int .i64 a3]) (results_cell_row rfl _ _ w.heap.size 65 _ (0, 0) _ rfl hb5 Tryz.underlying65 rfl (by kernel_rfl)) rfl ⟨by rw [HA0.out, HA1.out, HA2.out, HA3.out], ?_⟩
  exact ((((HBEL.out.setCell (p := ⟨w.heap.size, 0, none⟩) (Nat.le_refl _) _).setCell (p := ⟨w.heap.size, 1, none⟩) (Nat.le_refl _) _).setCell (p := ⟨w.heap.size, 2, none⟩) (Nat.le_refl _) _).setCell (p := ⟨w.heap.size, 3, none⟩) (Nat.le_refl _) _).setCell (p := ⟨w.heap.size, 4, none⟩) (Nat.le_refl _) _

end Go.Proofs.YtlmbiafloiompaaGreatDoor
