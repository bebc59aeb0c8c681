/-
  The statement CrcTurns: in whatever world, of whatever bytes that a slice may hold, whatever place and whatever bits: true; new memory alone. Condition: no more than 140737488351232 bytes.
-/
import Derived.Test.YtgkldglknkeedaaCrcC
import Derived.Test.YtgkldglknkeedaaChecked
import Derived.BigRegion
import Derived.Deep.QuietTactic
import Derived.BigQuiet
import Derived.Laws.AppendOwn
import Derived.Outline
import Derived.Deep.DeepCutAuto
namespace Go.Proofs.Ytgkldglknkeedaa
open Go Go.RowKit Go.WideShapes Go.ChangeShapes
set_option linter.unusedVariables false

theorem infoTryu8 : (Try.prog.info? 5).map (fun i => (i.zero, i.size, i.bytes)) = some (some (.int .u8 0), 1, 1) := by kernel_rfl

/-- A buffer of the call's own. -/
def BufAt (w : World) (g : Nat) (l : List Nat) : Prop := ∃ cs, Box w g 5 cs ∧ ∀ k, k < l.length → cs[k]? = some (.int .u8 ((l.getD k 0 : Nat) : Int))

theorem BufAt.bys {w : World} {g c : Nat} {l : List Nat} (h : BufAt w g l) : BysAt w (.slice (some ⟨g, 0, none⟩) l.length c) l := by
  obtain ⟨cs, h1, h2⟩ := h
  exact bys_blk h1 h2
theorem BufAt.cell {w : World} {g k : Nat} {l : List Nat} (h : BufAt w g l) (hk : k < l.length) : w.cell? ⟨g, k, none⟩ = some (.int .u8 ((l.getD k 0 : Nat) : Int)) := by
  obtain ⟨cs, h1, h2⟩ := h
  exact (h1.cell k).trans (h2 k hk)
theorem BufAt.frozen {w : World} {g : Nat} {l : List Nat} (h : BufAt w g l) (k : Nat) : w.frozen? ⟨g, k, none⟩ = false := by
  obtain ⟨cs, h1, h2⟩ := h
  exact h1.frozen k
theorem BufAt.drewN {w : World} {g : Nat} {l : List Nat} (h : BufAt w g l) (n : Nat) : BufAt (w.drewN n) g l := h
theorem BufAt.set {w : World} {g j x : Nat} {l : List Nat} (h : BufAt w g l) (hj : j < l.length) : BufAt (w.setCell ⟨g, j, none⟩ (.int .u8 (x : Int))) g (l.set j x) := by
  obtain ⟨cs, h1, h2⟩ := h
  refine ⟨_, h1.set_ j _, fun k hk => ?_⟩
  rw [List.length_set] at hk
  have hjs : j < cs.size := (Array.getElem?_eq_some_iff.1 (h2 j hj)).1
  by_cases e : j = k
  · subst e
    simp [hjs, hj]
  · rw [Array.getElem?_setIfInBounds_ne e, h2 k hk]
    simp [List.getD_eq_getElem?_getD, List.getElem?_set_ne e]

theorem BysAt.below {w w' : World} {v : Value} {l : List Nat} (h : BysAt w v l) (hb : Below w.heap.size w w') : BysAt w' v l := by
  rcases h with h | ⟨b, off, c, rfl, hc⟩
  · exact .inl h
  · exact .inr ⟨b, off, c, rfl, fun k hk => (hb.cell (p := ⟨b, off + k, none⟩) (World.block_lt_of_cell? w _ (hc k hk))).trans (hc k hk)⟩

theorem buf_of_own {w : World} {base : Nat} {v : Value} {l : List Nat} (h : w.ownsRow base 5 1 v l.length (l.map fun c => Value.int .u8 ((c : Nat) : Int))) (hl : 0 < l.length) :
    ∃ g cap, v = .slice (some ⟨g, 0, none⟩) l.length cap ∧ base ≤ g ∧ BufAt w g l := by
  rcases h.2 with ⟨_, h0⟩ | ⟨g, cap, cur, rfl, hg, hb, hc, _, hs, ht⟩
  · omega
  · refine ⟨g, cap, rfl, hg, cur, hb, fun k hk => ?_⟩
    have h1 : cur.toList[k]? = (cur.toList.take (l.length * 1))[k]? := by rw [List.getElem?_take, if_pos (by omega)]
    rw [← Array.getElem?_toList, h1, ht, List.getElem?_map, List.getD_eq_getElem?_getD, List.getElem?_eq_getElem hk]
    rfl

theorem bit_is (y k : Nat) : ((y : Int) / 2 ^ k).tmod 2 = ((y / 2 ^ k % 2 : Nat) : Int) := by
  have e : ((y : Int) / 2 ^ k) = ((y / 2 ^ k : Nat) : Int) := by simp
  rw [e]
  generalize y / 2 ^ k = m
  rw [Int.tmod_eq_emod_of_nonneg (Int.natCast_nonneg m)]
  omega
theorem bit_on {y k : Nat} (h : y / 2 ^ k % 2 = 1) : (((y : Int) / 2 ^ k).tmod 2 == 1) = true := by
  rw [bit_is, h]; rfl
theorem bit_off {y k : Nat} (h : ¬ y / 2 ^ k % 2 = 1) : (((y : Int) / 2 ^ k).tmod 2 == 1) = false := by
  rw [bit_is, show y / 2 ^ k % 2 = 0 by omega]; rfl

theorem xor_bit (x m : Nat) (hx : x < 256) : bits .xor .u8 (x : Int) ((2 : Int) ^ (m % 8) % 256) = ((x ^^^ 2 ^ (m % 8) : Nat) : Int) := by
  have h : 2 ^ (m % 8) < 2 ^ 8 := Nat.pow_lt_pow_right (by decide) (by omega)
  have e : ((2 : Int) ^ (m % 8) % 256) = ((2 ^ (m % 8) : Nat) : Int) := by
    have : ((2 : Int) ^ (m % 8)) = ((2 ^ (m % 8) : Nat) : Int) := by simp
    rw [this]
    generalize 2 ^ (m % 8) = q at h
    omega
  rw [e]
  exact u8_xor_nat _ _ hx h

theorem BufAt.below {w w' : World} {g : Nat} {l : List Nat} (h : BufAt w g l) (hb : Below w.heap.size w w') : BufAt w' g l := by
  obtain ⟨cs, h1, h2⟩ := h
  exact ⟨cs, h1.below hb h1.lt, h2⟩

theorem alloc_below (w : World) (o : Obj) : Below w.heap.size w (w.alloc o) := (Below.refl _ w).alloc (Nat.le_refl _) o

theorem below_set_drew {B g j : Nat} {w w' : World} {u : Value} (h : Below B w w') (hg : B ≤ g) : Below B w (w'.setCell ⟨g, j, none⟩ u).drew :=
  let h2 := h.setCell (p := ⟨g, j, none⟩) hg u
  ⟨h2.os, h2.tape, h2.output, h2.size, h2.block⟩

/-- The sum of one part, as a row of the call's own. -/
theorem sum_one (l : List Nat) (hl : ∀ c ∈ l, c < 256) (hm : l.length ≤ 9223372036854775807) (w : World) (u : Value) (h : BysAt w u l) :
    Calls Try.prog 7 #[.slice (some ⟨w.heap.size, 0, none⟩) 1 1] (w.alloc (.cells #[u] 23)) fun e w' => e = .returned (.int .u32 (crcOf 0 l)) ∧ w.alloc (.cells #[u] 23) = w' := by
  have hp : PartsAt (w.alloc (.cells #[u] 23)) (.slice (some ⟨w.heap.size, 0, none⟩) 1 1) [l] := parts_blk (ls := [l]) (blk_new w _) (fun k hk => by
    obtain rfl : k = 0 := by simpa using hk
    exact ⟨u, rfl, h.below (alloc_below w _)⟩)
  have := sum_any [l] (by simpa using ⟨hl, hm⟩) (by simp) _ _ hp
  simpa using this

/-- Which bit is the first one. -/
def bitOf (a : Int) (n : Nat) : Nat := (a % 18446744073709551616).toNat % (8 * n - 31)

theorem turns_short (l : List Nat) (c : Nat) (A : Option Addr) (a : Int) (y : Nat) (hs : l.length < 5) (w : World) :
    Calls Try.prog 4 #[.slice A l.length c, .int .i64 a, .int .u32 y] w fun e w' => e = .returned (.bool true) ∧ Below w.heap.size w w' := by
  go_enter Try.func4, Try.ntmps4
  go_wp2_with (refine (ctold_any _).mono ?_; rintro e w' ⟨rfl, hb⟩)
  go_ret
  exact ⟨rfl, hb⟩

theorem turns_none (l : List Nat) (c : Nat) (A : Option Addr) (a : Int) (hs : 5 ≤ l.length) (w : World) :
    Calls Try.prog 4 #[.slice A l.length c, .int .i64 a, .int .u32 0] w fun e w' => e = .returned (.bool true) ∧ Below w.heap.size w w' := by
  go_enter Try.func4, Try.ntmps4
  go_wp2_with (refine (ctold_any _).mono ?_; rintro e w' ⟨rfl, hb⟩)
  go_ret
  exact ⟨rfl, hb⟩

set_option maxHeartbeats 1000000 in
theorem turns_some (l : List Nat) (hl : ∀ c ∈ l, c < 256) (b off c : Nat) (a : Int) (ha0 : -9223372036854775808 ≤ a) (ha1 : a ≤ 9223372036854775807) (y : Nat) (hy : y ≠ 0) (hy2 : y < 4294967296) (hs : 5 ≤ l.length)
    (hm : l.length ≤ 140737488351232) (w : World) (hc : ∀ k, k < l.length → w.cell? ⟨b, off + k, none⟩ = some (.int .u8 ((l.getD k 0 : Nat) : Int))) :
    Calls Try.prog 4 #[.slice (some ⟨b, off, none⟩) l.length c, .int .i64 a, .int .u32 y] w fun e w' => e = .returned (.bool true) ∧ Below w.heap.size w w' := by
  have HC := Lib.hid hc
  have HL := Lib.hid hl
  clear hc hl
  have hy3 : ((y : Int) == 0) = false := by simpa using hy
  have hKx : ∃ K : Nat, wrap64 ((IntKind.u64.wrap a).tmod (8 * (l.length : Int) - 32 + 1)) = (K : Int) ∧ K + 32 ≤ 8 * l.length := by
    have h1 : (0 : Int) ≤ IntKind.u64.wrap a := by rw [IntKind.wrap_u64]; omega
    have h2 : (0 : Int) < 8 * (l.length : Int) - 32 + 1 := by omega
    have h3 := Int.tmod_nonneg (8 * (l.length : Int) - 32 + 1) h1
    have h4 := Int.tmod_lt_of_pos (IntKind.u64.wrap a) h2
    generalize (IntKind.u64.wrap a).tmod (8 * (l.length : Int) - 32 + 1) = m at h3 h4
    obtain ⟨K, rfl⟩ := Int.eq_ofNat_of_zero_le h3
    refine ⟨K, ?_, by omega⟩
    unfold wrap64
    omega
  obtain ⟨K, hK, hKb⟩ := hKx
  obtain ⟨i0, hi, hz0, hz1, hz2⟩ := info_parts infoTryu8
  have HI := Lib.hid hi
  have HZ0 := Lib.hid hz0
  have HZ1 := Lib.hid hz1
  have HZ2 := Lib.hid hz2
  clear hi hz0 hz1 hz2
  go_enter Try.func4, Try.ntmps4
  go_upto_region 5 with (fail)
  rw [hK]
  clear hK hy3
  have hown : (w.alloc (.cells #[] 5)).ownsRow w.heap.size 5 1 (.slice (some ⟨w.heap.size, 0, none⟩) 0 0) 0 [] :=
    ⟨rfl, .inr ⟨w.heap.size, 0, #[], rfl, Nat.le_refl _, heap_alloc_new w _, by omega, by unfold maxLen; omega, rfl, rfl⟩⟩
  have hnew : ∀ j u, (l.map fun c => Value.int .u8 ((c : Nat) : Int))[j]? = some u → (w.alloc (.cells #[] 5)).cell? ((⟨b, off, none⟩ : Addr).add j) = some u := by
    intro j u hu
    rw [List.getElem?_map] at hu
    cases hq : l[j]? with
    | none => simp [hq] at hu
    | some x =>
      rw [hq] at hu
      obtain rfl : Value.int .u8 (x : Int) = u := by simpa using hu
      have hj : j < l.length := (List.getElem?_eq_some_iff.1 hq).1
      have h1 := HC.out j hj
      rw [List.getD_eq_getElem?_getD, hq] at h1
      rw [add_plain]
      exact (cell_alloc_lt w _ (World.block_lt_of_cell? w _ h1)).trans h1
  go_wp2_with (at_builtin; refine wpList_append_own _ rfl _ _ 23 rfl w.heap.size 5 i0 (.int .u8 0) 1 1 Try.underlying23 HI.out HZ0.out HZ1.out HZ2.out rfl (by decide) _ _ _ rfl hown ⟨b, off, none⟩ l.length c (l.map fun c => Value.int .u8 ((c : Nat) : Int)) rfl (by simp) hnew ?c1 ?c2 ?c3 ?c4 ?_)
  case c1 => intro u hu; obtain ⟨x, _, rfl⟩ := List.mem_map.1 hu; rfl
  case c2 => unfold maxLen; omega
  case c3 => omega
  case c4 => simp
  intro v' w1 hown1 hgrow _
  replace hown1 : w1.ownsRow w.heap.size 5 1 v' l.length (l.map fun c => Value.int .u8 ((c : Nat) : Int)) := by first | exact hown1 | simpa using hown1
  have hB1 : Below w.heap.size w w1 := ((Below.refl _ w).alloc (Nat.le_refl _) _).trans <| (Fr.of_grown (S := fun k => w.heap.size ≤ k) hgrow (fun k _ e => by simp [Value.ownBlock] at e; omega)).below (B := w.heap.size) (by simp) (fun k h => h)
  obtain ⟨g, cap, rfl, hg, hbuf⟩ := buf_of_own hown1 (by omega)
  have HB1 := Lib.hid hB1
  have HBuf := Lib.hid hbuf
  clear hown hnew hown1 hgrow hB1 hbuf HI HZ0 HZ1 HZ2
  go_wp2
  go_loopw [10] (fun i wr => ∃ k : Nat, k ≤ 32 ∧ i = .int .i64 k ∧ BufAt wr g (turned l K y k) ∧ Below w.heap.size w wr) (fun i _ => 32 - (intOf i).toNat)
  case atStart => exact ⟨0, by omega, rfl, HBuf.out, HB1.out⟩
  case round =>
    obtain ⟨k, hk, rfl, hbuf, hbel⟩ := hrel
    have HBuf2 := Lib.hid hbuf
    have HBel := Lib.hid hbel
    clear hbuf hbel
    by_cases hlt : k < 32
    · by_cases hb : y / 2 ^ k % 2 = 1
      · have hj : (K + k) / 8 < (turned l K y k).length := by rw [turned_length]; omega
        have hcell := HBuf2.out.cell hj
        have hfr := HBuf2.out.frozen ((K + k) / 8)
        have hl2 := getD_lt (turned_lt l K y HL.out k) ((K + k) / 8)
        have hset := fun x => BufAt.set (x := x) HBuf2.out hj
        have ht := bit_on hb
        have HS := Lib.hid hset
        have HT : Hid (turned l K y (k + 1) = (turned l K y k).set ((K + k) / 8) ((turned l K y k).getD ((K + k) / 8) 0 ^^^ 2 ^ ((K + k) % 8))) := by
          show turned l K y (k + 1) = _
          rw [turned, if_pos hb]
        clear hset hb
        generalize (turned l K y k).getD ((K + k) / 8) 0 = x at hcell hl2 HT
        go_wp2
        go_region
        go_wp2
        rw [xor_bit x (K + k) hl2]
        go_roundw
        case rel => exact ⟨k + 1, by omega, by go_num, by rw [HT.out]; exact HS.out _, below_set_drew HBel.out hg⟩
        case measure => simp [intOf]; omega
      · have ht := bit_off hb
        have HT : Hid (turned l K y (k + 1) = turned l K y k) := by
          show turned l K y (k + 1) = _
          rw [turned, if_neg hb]
        clear hb
        go_wp2
        go_roundw
        case rel => exact ⟨k + 1, by omega, by go_num, by rw [HT.out]; exact HBuf2.out, HBel.out⟩
        case measure => simp [intOf]; omega
    · obtain rfl : k = 32 := by omega
      have hne := turned_ne (l := l) (k := K) 0 hy hy2 hKb
      have hlt2 := turned_lt l K y HL.out 32
      have hlen2 := turned_length l K y 32
      generalize turned l K y 32 = m at hne hlt2 hlen2 HBuf2
      have hbys : BysAt w (.slice (some ⟨b, off, none⟩) l.length c) l := .inr ⟨b, off, c, rfl, HC.out⟩
      have HBY := Lib.hid (hbys.below HBel.out)
      have HNE := Lib.hid hne
      have HM := Lib.hid hlt2
      have HN := Lib.hid hlen2
      clear hne hlt2 hlen2 hbys HB1 HBuf
      go_wp2_with fail
      refine (ctold_any _).mono ?_
      rintro e w2 ⟨rfl, hb2⟩
      have HBY2 := Lib.hid (HBY.out.below hb2)
      have HBuf3 := Lib.hid (HBuf2.out.below hb2)
      have HBel2 := Lib.hid (HBel.out.trans (hb2.mono HBel.out.size))
      clear hb2
      go_wp2_with fail
      (with_reducible refine (sum_one l HL.out (by omega) _ _ HBY2.out).mono ?_)
      rintro e w3 ⟨rfl, rfl⟩
      have HBuf4 : Hid (BysAt (w2.alloc (.cells #[.slice (some ⟨b, off, none⟩) l.length c] 23)) (.slice (some ⟨g, 0, none⟩) l.length cap) m) := by
        have h := (HBuf3.out.below (alloc_below w2 (.cells #[.slice (some ⟨b, off, none⟩) l.length c] 23))).bys (c := cap)
        rw [HN.out] at h
        exact h
      go_wp2_with fail
      have h5 := sum_one m HM.out (by rw [HN.out]; omega) _ _ HBuf4.out
      simp only [World.size_alloc] at h5
      (with_reducible refine h5.mono ?_)
      clear h5
      rintro e w3 ⟨rfl, rfl⟩
      have hn1 : ((crcOf 0 l : Int) != (crcOf 0 m : Int)) = true := by
        have := HNE.out
        simp only [bne_iff_ne, ne_eq]
        omega
      go_wp2_with fail
      go_ret
      exact ⟨by simp, (HBel2.out.alloc (HBel2.out.size) _).alloc (by have := HBel2.out.size; simp; omega) _⟩

theorem turns_any (l : List Nat) (hl : ∀ c ∈ l, c < 256) (v : Value) (a : Int) (ha : (Lit.int .i64 a).wf = true) (y : Int) (hy : (Lit.int .u32 y).wf = true)
    (hm : l.length ≤ 140737488351232) (w : World) (hv : BysAt w v l) :
    Calls Try.prog 4 #[v, .int .i64 a, .int .u32 y] w fun e w' => e = .returned (.bool true) ∧ Below w.heap.size w w' := by
  have hy1 : 0 ≤ y ∧ y ≤ 4294967295 := by simpa [Lit.wf, IntKind.min, IntKind.max, IntKind.signed, IntKind.bits] using hy
  have ha1 : -9223372036854775808 ≤ a ∧ a ≤ 9223372036854775807 := by simpa [Lit.wf, IntKind.min, IntKind.max, IntKind.signed, IntKind.bits] using ha
  obtain ⟨Y, rfl⟩ := Int.eq_ofNat_of_zero_le hy1.1
  rcases hv with ⟨rfl, A, c, rfl⟩ | ⟨b, off, c, rfl, hc⟩
  · exact turns_short [] c A a Y (by simp) w
  · by_cases h5 : l.length < 5
    · exact turns_short l c _ a Y h5 w
    · by_cases h0 : Y = 0
      · subst h0
        exact turns_none l c _ a (by omega) w
      · exact turns_some l hl b off c a ha1.1 (by omega) Y h0 (by omega) (by omega) hm w hc

end Go.Proofs.Ytgkldglknkeedaa
