/-
  The document's Go and Sum answer the plain sum of the bytes that they are handed, and leave the world alone. Conditions: the slice's cells hold bytes.
-/
import Derived.Test.YtfknoecgcoapcaaDoorCrcA
namespace Go.Proofs.YtfknoecgcoapcaaDoor
open Go Go.RowKit Go.WideShapes Go.ChangeShapes
set_option linter.unusedVariables false

theorem ret_val {a b : Nat} (h : a = b) : Value.int .u32 (a : Int) = .int .u32 (b : Int) := by rw [h]

/-- The byte goes in below. -/
theorem low_xor (x c : Nat) (hc : c < 256) : x / 256 * 256 + (x % 256 ^^^ c) = x ^^^ c := by
  have h1 : (x ^^^ c) / 2 ^ 8 = x / 2 ^ 8 ^^^ c / 2 ^ 8 := Nat.xor_div_two_pow
  have h2 : (x ^^^ c) % 2 ^ 8 = x % 2 ^ 8 ^^^ c % 2 ^ 8 := Nat.xor_mod_two_pow
  have h3 : c / 2 ^ 8 = 0 := Nat.div_eq_of_lt hc
  have h4 : c % 2 ^ 8 = c := Nat.mod_eq_of_lt hc
  rw [h3, Nat.xor_zero] at h1
  rw [h4] at h2
  have h5 := Nat.div_add_mod (x ^^^ c) 256
  have h1' : (x ^^^ c) / 256 = x / 256 := h1
  have h2' : (x ^^^ c) % 256 = x % 256 ^^^ c := h2
  rw [h1', h2'] at h5
  omega

theorem regOf_take (r : Nat) (l : List Nat) (k : Nat) (h : k < l.length) : regOf r (l.take (k + 1)) = shrN (regOf r (l.take k) ^^^ l.getD k 0) 8 := by
  rw [take_snoc' l k h, regOf_snoc]; rfl

set_option maxHeartbeats 1000000 in
theorem rgo_any (s : Nat) (hs : s < 4294967296) (l : List Nat) (hl : ∀ c ∈ l, c < 256) (hm : l.length ≤ 9223372036854775807) (v : Value) (w : World) (hv : BysAt w v l) :
    Calls Tryd.prog 57 #[.int .u32 s, v] w fun e w' => e = .returned (.int .u32 (crcOf s l)) ∧ w = w' := by
  obtain ⟨r, hre⟩ : ∃ r, r = 4294967295 - s := ⟨_, rfl⟩
  have hr : r < 4294967296 := by omega
  have hri : (4294967295 : Int) - (s : Int) = (r : Int) := by omega
  have hr2 : 4294967295 ^^^ s = r := by rw [xor_ones s hs, hre]
  have HE := Lib.hid hr2
  clear hre hr2
  rcases hv with ⟨rfl, A, c, rfl⟩ | ⟨b, off, c, rfl, hc⟩
  · go_enter Tryd.func57, Tryd.ntmps57
    go_wp2
    go_loop [5, 6] (fun v i => i = .int .i64 0 ∧ v = .int .u32 r) (fun _ i => 0)
    case atStart => exact ⟨rfl, rfl⟩
    case round =>
      obtain ⟨rfl, rfl⟩ := hrel
      go_wp2
      go_ret
      exact ⟨by unfold crcOf; rw [HE.out]; show Ending.returned (Value.int IntKind.u32 (4294967295 - (r : Int))) = .returned (.int .u32 ((4294967295 ^^^ r : Nat) : Int)); rw [xor_ones r hr]; congr 2; omega, rfl⟩
  · have HC := Lib.hid hc
    clear hc
    go_enter Tryd.func57, Tryd.ntmps57
    go_wp2
    go_loop [5, 6] (fun v i => ∃ k : Nat, k ≤ l.length ∧ i = .int .i64 k ∧ v = .int .u32 (regOf r (l.take k))) (fun _ i => l.length - (intOf i).toNat)
    case atStart => exact ⟨0, by omega, rfl, rfl⟩
    case round =>
      obtain ⟨k, hk, rfl, rfl⟩ := hrel
      have hx := regOf_lt hr (take_all l hl k)
      by_cases hlt : k < l.length
      · have hcell := HC.out k hlt
        have hts := regOf_take r l k hlt
        have hcl := getD_lt hl k
        generalize l.getD k 0 = c at hcell hts hcl
        generalize regOf r (l.take k) = x at hts hx
        have HT := Lib.hid hts
        clear hts
        have h3 : bits .xor .u8 ((x : Int) % 256) (c : Int) = ((x % 256 ^^^ c : Nat) : Int) := u8_xor_nat (x % 256) c (by omega) hcl
        have hxc : x ^^^ c < 4294967296 := xor_lt hx (by omega)
        have h4 : ((x : Int) / 256 * 256 + ((x % 256 ^^^ c : Nat) : Int)) % 4294967296 = ((x ^^^ c : Nat) : Int) := by
          have := low_xor x c hcl
          omega
        generalize x ^^^ c = y at h4 hxc HT
        go_wp2
        clear h3 h4 hcell
        go_loop [5, 7] (fun v i => ∃ j : Nat, j ≤ 8 ∧ i = .int .i64 j ∧ v = .int .u32 (shrN y j)) (fun _ i => 8 - (intOf i).toNat)
        case atStart => exact ⟨0, by omega, rfl, rfl⟩
        case round =>
          obtain ⟨j, hj, rfl, rfl⟩ := hrel
          have hlt2 := shrN_lt hxc j
          by_cases hj8 : j < 8
          · have hs2 : shrN y (j + 1) = shr1 (shrN y j) := rfl
            generalize shrN y j = z at hlt2 hs2
            rcases Nat.mod_two_eq_zero_or_one z with hz | hz
            · have h1 : (z : Int) % 2 = 0 := by omega
              have hs3 : shrN y (j + 1) = z / 2 := by rw [hs2, shr1, if_neg (by omega)]
              have HS := Lib.hid hs3
              clear hs2 hs3 hz
              go_wp2
              go_round
              case rel => exact ⟨j + 1, by omega, by go_num, by rw [HS.out]; go_num⟩
              case measure => simp [intOf]; omega
            · have h1 : (z : Int) % 2 = 1 := by omega
              have h2 : bits .xor .u32 ((z : Int) / 2) 3988292384 = ((z / 2 ^^^ 3988292384 : Nat) : Int) := u32_xor_nat (z / 2) 3988292384 (by omega) (by omega)
              have hs3 : shrN y (j + 1) = (z / 2) ^^^ 3988292384 := by rw [hs2, shr1, if_pos hz]
              have HS := Lib.hid hs3
              clear hs2 hs3 hz
              go_wp2
              go_round
              case rel => exact ⟨j + 1, by omega, by go_num, by rw [HS.out]⟩
              case measure => simp [intOf]; omega
          · obtain rfl : j = 8 := by omega
            go_wp2
            go_round
            case rel => exact ⟨k + 1, by omega, by go_num, by rw [HT.out]⟩
            case measure => simp [intOf]; omega
      · obtain rfl : k = l.length := by omega
        have ht : regOf r (l.take l.length) = regOf r l := by rw [List.take_length]
        generalize regOf r (l.take l.length) = x at ht hx
        have HT := Lib.hid ht
        clear ht
        go_wp2
        go_ret
        exact ⟨by unfold crcOf; rw [HE.out, ← HT.out]; show Ending.returned (Value.int IntKind.u32 (4294967295 - (x : Int))) = .returned (.int .u32 ((4294967295 ^^^ x : Nat) : Int)); rw [xor_ones x hx]; congr 2; omega, rfl⟩

theorem rsum_any (l : List Nat) (hl : ∀ c ∈ l, c < 256) (hm : l.length ≤ 9223372036854775807) (v : Value) (w : World) (hv : BysAt w v l) :
    Calls Tryd.prog 30 #[v] w fun e w' => e = .returned (.int .u32 (crcOf 0 l)) ∧ w = w' := by
  have H := rgo_any 0 (by omega) l hl hm v w hv
  obtain ⟨n, hn⟩ : ∃ n, crcOf 0 l = n := ⟨_, rfl⟩
  rw [hn] at H ⊢
  clear hn
  go_enter Tryd.func30, Tryd.ntmps30
  go_wp2_with (refine H.mono ?_; rintro e w' ⟨rfl, rfl⟩)
  go_ret
  exact ⟨rfl, rfl⟩

/-- A slice of slices of bytes. -/
def PartsAt (w : World) (v : Value) (ls : List (List Nat)) : Prop :=
  (ls = [] ∧ ∃ A c, v = .slice A 0 c) ∨
    ∃ b off c, v = .slice (some ⟨b, off, none⟩) ls.length c ∧ ∀ k, k < ls.length → ∃ u, w.cell? ⟨b, off + k, none⟩ = some u ∧ BysAt w u (ls.getD k [])

theorem take_snoc2 (ls : List (List Nat)) (k : Nat) (h : k < ls.length) : ls.take (k + 1) = ls.take k ++ [ls.getD k []] := by
  rw [List.take_succ_eq_append_getElem h, List.getD_eq_getElem?_getD, List.getElem?_eq_getElem h]; rfl

theorem flat_lt {ls : List (List Nat)} (hl : ∀ l ∈ ls, ∀ c ∈ l, c < 256) : ∀ c ∈ ls.flatten, c < 256 := by
  intro c hc
  obtain ⟨l, h1, h2⟩ := List.mem_flatten.1 hc
  exact hl l h1 c h2

theorem getD_mem {ls : List (List Nat)} {k : Nat} (h : k < ls.length) : ls.getD k [] ∈ ls := by
  rw [List.getD_eq_getElem?_getD, List.getElem?_eq_getElem h]
  exact List.getElem_mem h

set_option maxHeartbeats 1000000 in
theorem sum_any (ls : List (List Nat)) (hl : ∀ l ∈ ls, (∀ c ∈ l, c < 256) ∧ l.length ≤ 9223372036854775807) (hm : ls.length ≤ 9223372036854775807) (v : Value) (w : World) (hv : PartsAt w v ls) :
    Calls Tryd.prog 26 #[v] w fun e w' => e = .returned (.int .u32 (crcOf 0 ls.flatten)) ∧ w = w' := by
  rcases hv with ⟨rfl, A, c, rfl⟩ | ⟨b, off, c, rfl, hc⟩
  · go_enter Tryd.func26, Tryd.ntmps26
    go_wp2
    go_loop [3, 8] (fun v i => i = .int .i64 0 ∧ v = .int .u32 0) (fun _ i => 0)
    case atStart => exact ⟨rfl, rfl⟩
    case round =>
      obtain ⟨rfl, rfl⟩ := hrel
      go_wp2
      go_ret
      exact ⟨ret_u32 (b := crcOf 0 ([] : List (List Nat)).flatten) (crcOf_nil 0).symm, rfl⟩
  · have HC := Lib.hid hc
    have HL := Lib.hid hl
    clear hc hl
    go_enter Tryd.func26, Tryd.ntmps26
    go_wp2
    go_loop [3, 8] (fun v i => ∃ k : Nat, k ≤ ls.length ∧ i = .int .i64 k ∧ v = .int .u32 (crcOf 0 (ls.take k).flatten)) (fun _ i => ls.length - (intOf i).toNat)
    case atStart => exact ⟨0, by omega, rfl, ret_val (crcOf_nil 0).symm⟩
    case round =>
      obtain ⟨k, hk, rfl, rfl⟩ := hrel
      have hx : crcOf 0 (ls.take k).flatten < 4294967296 := crcOf_lt (by omega) (flat_lt fun l h => (HL.out l (List.mem_of_mem_take h)).1)
      by_cases hlt : k < ls.length
      · obtain ⟨u, hcell, hu⟩ := HC.out k hlt
        have hts : crcOf 0 (ls.take (k + 1)).flatten = crcOf (crcOf 0 (ls.take k).flatten) (ls.getD k []) := by
          rw [take_snoc2 ls k hlt, List.flatten_append, crcOf_append]; simp
        have hb := HL.out _ (getD_mem hlt)
        generalize ls.getD k [] = l at hu hts hb
        generalize crcOf 0 (ls.take k).flatten = x at hts hx
        have H := go_any x hx l hb.1 hb.2 u w hu
        rw [← hts] at H
        obtain ⟨y, hy⟩ : ∃ y, crcOf 0 (ls.take (k + 1)).flatten = y := ⟨_, rfl⟩
        rw [hy] at H
        have HY := Lib.hid hy
        clear hts hb hy hu
        go_wp2_with ((with_reducible refine H.mono ?_); rintro e w' ⟨rfl, rfl⟩)
        go_round
        case rel => exact ⟨k + 1, by omega, by go_num, by rw [HY.out]⟩
        case measure => simp [intOf]; omega
      · obtain rfl : k = ls.length := by omega
        have ht : crcOf 0 (ls.take ls.length).flatten = crcOf 0 ls.flatten := by rw [List.take_length]
        generalize crcOf 0 (ls.take ls.length).flatten = x at ht hx
        have HT := Lib.hid ht
        clear ht
        go_wp2
        go_ret
        exact ⟨ret_u32 HT.out, rfl⟩

end Go.Proofs.YtfknoecgcoapcaaDoor
