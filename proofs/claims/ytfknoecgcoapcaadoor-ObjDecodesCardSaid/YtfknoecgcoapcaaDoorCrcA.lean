/-
  The program's shift, Go and Sum, and the document's Go and Sum: each answers the plain sum of the bytes that it is handed, and leaves the world alone. Conditions: the slices' cells hold bytes, as each contract says.
-/
import Derived.Test.YtfknoecgcoapcaaDoorCrcM
import Derived.Test.YtfknoecgcoapcaaDoorMem
import Derived.Test.YtfknoecgcoapcaaDoorProg
import Derived.IntWalk
import Derived.Lib.Hide
namespace Go.Proofs.YtfknoecgcoapcaaDoor
open Go Go.RowKit Go.WideShapes Go.ChangeShapes
set_option linter.unusedVariables false

theorem ret_u32 {a b : Nat} (h : a = b) : Ending.returned (.int .u32 (a : Int)) = .returned (.int .u32 (b : Int)) := by rw [h]

theorem shift_any (r : Nat) (hr : r < 4294967296) (w : World) :
    Calls Tryd.prog 69 #[.int .u32 r] w fun e w' => e = .returned (.int .u32 (shrN r 8)) ∧ w = w' := by
  go_enter Tryd.func69, Tryd.ntmps69
  go_wp2
  go_loop [0, 4] (fun v i => ∃ k : Nat, k ≤ 8 ∧ i = .int .i64 k ∧ v = .int .u32 (shrN r k)) (fun _ i => 8 - (intOf i).toNat)
  case atStart => exact ⟨0, by omega, rfl, rfl⟩
  case round =>
    obtain ⟨k, hk, rfl, rfl⟩ := hrel
    have hlt := shrN_lt hr k
    by_cases hk8 : k < 8
    · have hs : shrN r (k + 1) = shr1 (shrN r k) := rfl
      generalize shrN r k = x at hlt hs
      rcases Nat.mod_two_eq_zero_or_one x with hx | hx
      · have h1 : bits .and .u32 (x : Int) 1 = 0 := by
          have := u32_and_nat x 1 hlt (by omega)
          rw [Nat.and_one_is_mod, hx] at this
          exact this
        have hs2 : shrN r (k + 1) = x / 2 := by rw [hs, shr1, if_neg (by omega)]
        have HS := Lib.hid hs2
        clear hs hs2 hx
        go_wp2
        go_round
        case rel => exact ⟨k + 1, by omega, by go_num, by rw [HS.out]; go_num⟩
        case measure => simp [intOf]; omega
      · have h1 : bits .and .u32 (x : Int) 1 = 1 := by
          have := u32_and_nat x 1 hlt (by omega)
          rw [Nat.and_one_is_mod, hx] at this
          exact this
        have h2 : bits .xor .u32 ((x : Int) / 2) 3988292384 = ((x / 2 ^^^ 3988292384 : Nat) : Int) := u32_xor_nat (x / 2) 3988292384 (by omega) (by omega)
        have hs2 : shrN r (k + 1) = (x / 2) ^^^ 3988292384 := by rw [hs, shr1, if_pos hx]
        have HS := Lib.hid hs2
        clear hs hs2 hx
        go_wp2
        go_round
        case rel => exact ⟨k + 1, by omega, by go_num, by rw [HS.out]⟩
        case measure => simp [intOf]; omega
    · obtain rfl : k = 8 := by omega
      go_wp2
      go_ret
      exact ⟨rfl, rfl⟩

/-- A slice whose cells hold these bytes. -/
def BysAt (w : World) (v : Value) (l : List Nat) : Prop :=
  (l = [] ∧ ∃ A c, v = .slice A 0 c) ∨
    ∃ b off c, v = .slice (some ⟨b, off, none⟩) l.length c ∧ ∀ k, k < l.length → w.cell? ⟨b, off + k, none⟩ = some (.int .u8 ((l.getD k 0 : Nat) : Int))

theorem take_snoc' (l : List Nat) (k : Nat) (h : k < l.length) : l.take (k + 1) = l.take k ++ [l.getD k 0] := by
  rw [List.take_succ_eq_append_getElem h, List.getD_eq_getElem?_getD, List.getElem?_eq_getElem h]; rfl

theorem getD_lt {l : List Nat} (hl : ∀ c ∈ l, c < 256) (k : Nat) : l.getD k 0 < 256 := by
  rw [List.getD_eq_getElem?_getD]
  cases hq : l[k]? with
  | none => simp
  | some v => exact hl v (List.mem_of_getElem? hq)

theorem take_all (l : List Nat) (hl : ∀ c ∈ l, c < 256) (k : Nat) : ∀ c ∈ l.take k, c < 256 := fun c hc => hl c (List.mem_of_mem_take hc)

set_option maxHeartbeats 1000000 in
theorem go_any (s : Nat) (hs : s < 4294967296) (l : List Nat) (hl : ∀ c ∈ l, c < 256) (hm : l.length ≤ 9223372036854775807) (v : Value) (w : World) (hv : BysAt w v l) :
    Calls Tryd.prog 56 #[.int .u32 s, v] w fun e w' => e = .returned (.int .u32 (crcOf s l)) ∧ w = w' := by
  have h1 : bits .xor .u32 IntKind.u32.max (s : Int) = ((4294967295 ^^^ s : Nat) : Int) := u32_xor_nat 4294967295 s (by omega) hs
  have hr : 4294967295 ^^^ s < 4294967296 := xor_lt (by omega) hs
  have H1 := Lib.hid h1
  obtain ⟨r, hre⟩ : ∃ r, 4294967295 ^^^ s = r := ⟨_, rfl⟩
  rw [hre] at hr h1
  have HE := Lib.hid hre
  clear hre H1
  rcases hv with ⟨rfl, A, c, rfl⟩ | ⟨b, off, c, rfl, hc⟩
  · have h2 : bits .xor .u32 IntKind.u32.max (r : Int) = ((4294967295 ^^^ r : Nat) : Int) := u32_xor_nat 4294967295 r (by omega) hr
    go_enter Tryd.func56, Tryd.ntmps56
    go_wp2
    go_loop [5, 12] (fun v i => i = .int .i64 0 ∧ v = .int .u32 r) (fun _ i => 0)
    case atStart => exact ⟨rfl, rfl⟩
    case round =>
      obtain ⟨rfl, rfl⟩ := hrel
      go_wp2
      go_ret
      exact ⟨ret_u32 (by unfold crcOf; rw [HE.out]; rfl), rfl⟩
  · have HC := Lib.hid hc
    clear hc
    go_enter Tryd.func56, Tryd.ntmps56
    go_wp2
    go_loop [5, 12] (fun v i => ∃ k : Nat, k ≤ l.length ∧ i = .int .i64 k ∧ v = .int .u32 (regOf r (l.take k))) (fun _ i => l.length - (intOf i).toNat)
    case atStart => exact ⟨0, by omega, rfl, rfl⟩
    case round =>
      obtain ⟨k, hk, rfl, rfl⟩ := hrel
      by_cases hlt : k < l.length
      · have hcell := HC.out k hlt
        have hts : regOf r (l.take (k + 1)) = stepB (regOf r (l.take k)) (l.getD k 0) := by rw [take_snoc' l k hlt, regOf_snoc]
        have hx := regOf_lt hr (take_all l hl k)
        have hcl := getD_lt hl k
        generalize l.getD k 0 = c at hcell hts hcl
        generalize regOf r (l.take k) = x at hts hx
        have h3 : bits .xor .u32 (x : Int) (c : Int) = ((x ^^^ c : Nat) : Int) := u32_xor_nat x c hx (by omega)
        have hy : x ^^^ c < 4294967296 := xor_lt hx (by omega)
        have HT := Lib.hid hts
        clear hts
        go_wp2_with ((with_reducible refine (shift_any (x ^^^ c) hy _).mono ?_); rintro e w' ⟨rfl, rfl⟩)
        go_round
        case rel => exact ⟨k + 1, by omega, by go_num, by rw [HT.out]; rfl⟩
        case measure => simp [intOf]; omega
      · obtain rfl : k = l.length := by omega
        have hx := regOf_lt hr (take_all l hl l.length)
        have ht : regOf r (l.take l.length) = regOf r l := by rw [List.take_length]
        generalize regOf r (l.take l.length) = x at ht hx
        have h2 : bits .xor .u32 IntKind.u32.max (x : Int) = ((4294967295 ^^^ x : Nat) : Int) := u32_xor_nat 4294967295 x (by omega) hx
        have HT := Lib.hid ht
        clear ht
        go_wp2
        go_ret
        exact ⟨ret_u32 (by unfold crcOf; rw [HE.out, HT.out]), rfl⟩

end Go.Proofs.YtfknoecgcoapcaaDoor
