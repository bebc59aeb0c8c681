/-
  The document's num and name: bytes laid behind others, in new memory. Conditions: rows of less than a million bytes; numbers that are not below nought.
-/
import Derived.Test.YtfknoecgcoapcaaDoorObjU
import Derived.Test.YtfknoecgcoapcaaDoorObjV
namespace Go.Proofs.YtfknoecgcoapcaaDoor
open Go Go.RowKit Go.WideShapes Go.ChangeShapes
set_option linter.unusedVariables false
set_option linter.unusedSimpArgs false

theorem numL_snoc (k n : Nat) : numL (k + 1) n = numL k (n / 256) ++ [n % 256] := by
  induction k generalizing n with
  | zero => simp [numL]
  | succ k ih =>
    rw [numL, ih n, numL, List.cons_append]
    congr 1
    rw [Nat.div_div_eq_div_mul, Nat.pow_succ, Nat.mul_comm 256]

/-- A slice of bytes to be copied. -/
def Bin (w : World) (v : Value) (l : List Nat) : Prop := CellsAt w v l.length (bysV l) ∧ ∀ k c, v = .slice none k c → c = 0
theorem Bin.below {w w' : World} {v : Value} {l : List Nat} (h : Bin w v l) (hb : Below w.heap.size w w') : Bin w' v l := ⟨h.1.below hb, h.2⟩
theorem Strict.bin {w : World} {base : Nat} {v : Value} {l : List Nat} (h : Strict w base v l) : Bin w v l := by
  refine ⟨CellsAt.of_own h (by decide), ?_⟩
  rintro k c rfl
  rcases h.2 with ⟨h1, _⟩ | ⟨g, cap, cur, h1, _⟩
  · injection h1
  · injection h1 with h1
    cases h1
theorem bys_one (l : List Nat) : ∀ u ∈ bysV l, u.oneCell' = true := by
  intro u hu
  obtain ⟨c, _, rfl⟩ := List.mem_map.1 hu
  rfl
theorem own_empty (w : World) (e : TypeId) (size : Nat) : (w.alloc (.cells #[] e)).ownsRow w.heap.size e size (.slice (some ⟨w.heap.size, 0, none⟩) 0 0) 0 [] :=
  ⟨by simp, .inr ⟨w.heap.size, 0, #[], rfl, Nat.le_refl _, heap_alloc_new w _, Nat.le_refl _, by unfold maxLen; omega, by simp, by simp⟩⟩
/-- The bytes copied into new memory. -/
theorem copy_bys {w : World} {v : Value} {l : List Nat} (h : Bin w v l) (hl : l.length ≤ 1000000) (ty : TypeId) :
    ∃ A c w', (Builtin.append_ #[38, 38] ty #[.slice (some ⟨w.heap.size, 0, none⟩) 0 0, v]).run Tryd.prog (w.alloc (.cells #[] 5)) = .ok (.slice A l.length c) w' ∧ Hid (Strict w' w.heap.size (.slice A l.length c) l ∧ Below w.heap.size w w') := by
  obtain ⟨v', w', hr, ha⟩ := app_src slU8 (own_empty w 5 1) (h.1.below (alloc_below w _)) (by rw [bysV_len]; omega) (bys_one l) (by omega) (by simp) h.2 ty
  obtain ⟨A, c, hv⟩ := ha.out.form
  subst hv
  rw [Nat.zero_add] at hr
  refine ⟨A, c, w', hr, Lib.hid ⟨?_, (alloc_below w _).trans (ha.out.fr.below (by simp) (fun k hk => (own_ge (own_empty w 5 1) hk).1))⟩⟩
  have := ha.out.own
  rw [Nat.zero_add, List.nil_append] at this
  exact this

set_option maxRecDepth 100000 in
set_option maxHeartbeats 4000000 in
theorem rnum_any (size : Nat) : ∀ (n : Nat) (l : List Nat) (v : Value) (w : World), size ≤ 3 → n < 4294967296 → l.length + size ≤ 900000 → Bin w v l →
    Calls Tryd.prog 27 #[v, .int .i64 n, .int .i64 (size + 1 : Nat)] w fun e w' => ∃ v', e = .returned v' ∧ Strict w' w.heap.size v' (l ++ numL (size + 1) n) ∧ Below w.heap.size w w' := by
  induction size with
  | zero =>
    intro n l v w hs hn hl hv
    obtain ⟨A, c, w5, hr5, HS5⟩ := copy_bys hv (by omega) 38
    have HR5 := Lib.hid hr5
    obtain ⟨v6, w6, hr6, HA6⟩ := app_byte (.inl HS5.out.1) (n % 256) (by omega) HS5.out.2.size 38
    rw [show ((n % 256 : Nat) : Int) = (n : Int) % 256 by omega] at hr6
    have HR6 := Lib.hid hr6
    have HN : Hid (numL 1 n = [n % 256]) := Lib.hid (by simp [numL])
    clear hr5 hr6 hv
    go_enter Tryd.func27, Tryd.ntmps27
    go_wp2_with (first
      | (at_builtin; refine wpList_of_append HR5.out rfl _ _ rfl rfl rfl ?_)
      | (at_builtin; refine wpList_of_append HR6.out rfl _ _ rfl rfl rfl ?_))
    go_ret
    exact ⟨_, rfl, by rw [HN.out]; exact HA6.out.2, HS5.out.2.trans (HA6.out.1.below (.inl HS5.out.1) HS5.out.2.size)⟩
  | succ size ih =>
    intro n l v w hs hn hl hv
    obtain ⟨A, c, w5, hr5, HS5⟩ := copy_bys hv (by omega) 38
    have HR5 := Lib.hid hr5
    have hih := ih (n / 256) l (.slice A l.length c) w5 (by omega) (by omega) (by omega) HS5.out.1.bin
    rw [show ((size + 1 : Nat) : Int) = ((size + 1 + 1 : Nat) : Int) - 1 by omega, show ((n / 256 : Nat) : Int) = (n : Int) / 256 by omega] at hih
    have HIH := Lib.hid hih
    have HB5 := Lib.hid HS5.out.2
    have HST := Lib.hid (numL_snoc (size + 1) n)
    have hq : (n : Int).tdiv 256 = (n : Int) / 256 := by rw [Int.tdiv_eq_ediv_of_nonneg (by omega)]
    have hsz : (1 : Int) < ((size + 1 + 1 : Nat) : Int) := by omega
    have hsz2 : ((size + 1 + 1 : Nat) : Int) ≤ 4 := by omega
    have HAPP := Lib.hid (fun (w' : World) v' (h : Strict w' w5.heap.size v' (l ++ numL (size + 1) (n / 256))) (hb : Below w5.heap.size w5 w') => app_byte (.inl h) (n % 256) (by rw [List.length_append, numL_len]; omega) hb.size 38)
    obtain ⟨sz, hszz⟩ : ∃ sz : Int, ((size + 1 + 1 : Nat) : Int) = sz := ⟨_, rfl⟩
    rw [hszz] at hsz hsz2 HIH ⊢
    clear hr5 hih hv ih HS5 hszz
    go_enter Tryd.func27, Tryd.ntmps27
    go_upto_region 4 with (first
      | (at_builtin; refine wpList_of_append HR5.out rfl _ _ rfl rfl rfl ?_)
      | (go_at_call 27; refine HIH.out.mono ?_; rintro e w7 ⟨v7, rfl, hs7, hb7⟩; have HS7 := Lib.hid hs7; have HB7 := Lib.hid hb7; clear hs7 hb7))
    obtain ⟨v8, w8, hr8, HA8⟩ := HAPP.out _ _ HS7.out HB7.out
    rw [show ((n % 256 : Nat) : Int) = (n : Int) % 256 by omega] at hr8
    have HR8 := Lib.hid hr8
    clear hr8
    go_wp2_with (at_builtin; refine wpList_of_append HR8.out rfl _ _ rfl rfl rfl ?_)
    go_ret
    have h1 : Below w5.heap.size w5 w8 := HB7.out.trans (HA8.out.1.below (.inl HS7.out) HB7.out.size)
    refine ⟨_, rfl, ?_, HB5.out.trans (h1.mono HB5.out.size)⟩
    rw [HST.out, ← List.append_assoc]
    exact own_more HA8.out.2 (fun k hk => Nat.le_trans HB5.out.size (own_ge HA8.out.2 hk).1)

end Go.Proofs.YtfknoecgcoapcaaDoor
