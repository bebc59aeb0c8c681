/-
  Bits of an object's bytes turned: it is not told. No condition.
-/
import Derived.Test.YtfknoecgcoapcaaDoorObjJ
import Derived.Test.YtfknoecgcoapcaaDoorObjT
import Derived.Test.YtfknoecgcoapcaaDoorCrcB
import Derived.BigRegion
import Derived.Outline
namespace Go.Proofs.YtfknoecgcoapcaaDoor
open Go Go.RowKit Go.WideShapes Go.ChangeShapes
set_option linter.unusedVariables false
set_option linter.unusedSimpArgs false

theorem bys_blk8 {w : World} {g c : Nat} {cs : Array Value} {l : List Nat} (h : Box w g 5 cs) (hc : ∀ k, k < l.length → cs[k]? = some (.int .u8 ((l.getD k 0 : Nat) : Int))) : BysAt w (.slice (some ⟨g, 0, none⟩) l.length c) l :=
  .inr ⟨g, 0, c, rfl, fun k hk => by rw [Nat.zero_add, h.cell k]; exact hc k hk⟩
/-- A buffer of the call's own. -/
def BufAt (w : World) (g : Nat) (l : List Nat) : Prop := ∃ cs, Box w g 5 cs ∧ ∀ k, k < l.length → cs[k]? = some (.int .u8 ((l.getD k 0 : Nat) : Int))

theorem BufAt.bys {w : World} {g c : Nat} {l : List Nat} (h : BufAt w g l) : BysAt w (.slice (some ⟨g, 0, none⟩) l.length c) l := by
  obtain ⟨cs, h1, h2⟩ := h
  exact bys_blk8 h1 h2
theorem BufAt.cell {w : World} {g k : Nat} {l : List Nat} (h : BufAt w g l) (hk : k < l.length) : w.cell? ⟨g, k, none⟩ = some (.int .u8 ((l.getD k 0 : Nat) : Int)) := by
  obtain ⟨cs, h1, h2⟩ := h
  exact (h1.cell k).trans (h2 k hk)
theorem BufAt.frozen {w : World} {g : Nat} {l : List Nat} (h : BufAt w g l) (k : Nat) : w.frozen? ⟨g, k, none⟩ = false := by
  obtain ⟨cs, h1, h2⟩ := h
  exact h1.frozen k
theorem BufAt.drewN {w : World} {g : Nat} {l : List Nat} (h : BufAt w g l) (n : Nat) : BufAt (w.drewN n) g l := h
theorem BufAt.set {w : World} {g j x : Nat} {l : List Nat} (h : BufAt w g l) (hj : j < l.length) : BufAt (w.setCell ⟨g, j, none⟩ (.int .u8 (x : Int))) g (l.set j x) := by
  obtain ⟨cs, h1, h2⟩ := h
  refine ⟨_, h1.set_ j _, fun k hk => ?_⟩
  rw [List.length_set] at hk
  have hjs : j < cs.size := (Array.getElem?_eq_some_iff.1 (h2 j hj)).1
  by_cases e : j = k
  · subst e
    simp [hjs, hj]
  · rw [Array.getElem?_setIfInBounds_ne e, h2 k hk]
    simp [List.getD_eq_getElem?_getD, List.getElem?_set_ne e]

theorem buf_of_own {w : World} {base : Nat} {v : Value} {l : List Nat} (h : w.ownsRow base 5 1 v l.length (l.map fun c => Value.int .u8 ((c : Nat) : Int))) (hl : 0 < l.length) :
    ∃ g cap, v = .slice (some ⟨g, 0, none⟩) l.length cap ∧ base ≤ g ∧ BufAt w g l := by
  rcases h.2 with ⟨_, h0⟩ | ⟨g, cap, cur, rfl, hg, hb, hc, _, hs, ht⟩
  · omega
  · refine ⟨g, cap, rfl, hg, cur, hb, fun k hk => ?_⟩
    have h1 : cur.toList[k]? = (cur.toList.take (l.length * 1))[k]? := by rw [List.getElem?_take, if_pos (by omega)]
    rw [← Array.getElem?_toList, h1, ht, List.getElem?_map, List.getD_eq_getElem?_getD, List.getElem?_eq_getElem hk]
    rfl

theorem bit_is (y k : Nat) : ((y : Int) / 2 ^ k).tmod 2 = ((y / 2 ^ k % 2 : Nat) : Int) := by
  have e : ((y : Int) / 2 ^ k) = ((y / 2 ^ k : Nat) : Int) := by simp
  rw [e]
  generalize y / 2 ^ k = m
  rw [Int.tmod_eq_emod_of_nonneg (Int.natCast_nonneg m)]
  omega
theorem bit_on {y k : Nat} (h : y / 2 ^ k % 2 = 1) : (((y : Int) / 2 ^ k).tmod 2 == 1) = true := by
  rw [bit_is, h]; rfl
theorem bit_off {y k : Nat} (h : ¬ y / 2 ^ k % 2 = 1) : (((y : Int) / 2 ^ k).tmod 2 == 1) = false := by
  rw [bit_is, show y / 2 ^ k % 2 = 0 by omega]; rfl

theorem xor_bit (x m : Nat) (hx : x < 256) : bits .xor .u8 (x : Int) ((2 : Int) ^ (m % 8) % 256) = ((x ^^^ 2 ^ (m % 8) : Nat) : Int) := by
  have h : 2 ^ (m % 8) < 2 ^ 8 := Nat.pow_lt_pow_right (by decide) (by omega)
  have e : ((2 : Int) ^ (m % 8) % 256) = ((2 ^ (m % 8) : Nat) : Int) := by
    have : ((2 : Int) ^ (m % 8)) = ((2 ^ (m % 8) : Nat) : Int) := by simp
    rw [this]
    generalize 2 ^ (m % 8) = q at h
    omega
  rw [e]
  exact u8_xor_nat _ _ hx h

theorem BufAt.below {w w' : World} {g : Nat} {l : List Nat} (h : BufAt w g l) (hb : Below w.heap.size w w') : BufAt w' g l := by
  obtain ⟨cs, h1, h2⟩ := h
  exact ⟨cs, h1.below hb h1.lt, h2⟩

theorem below_set_drew {B g j : Nat} {w w' : World} {u : Value} (h : Below B w w') (hg : B ≤ g) : Below B w (w'.setCell ⟨g, j, none⟩ u).drew :=
  let h2 := h.setCell (p := ⟨g, j, none⟩) hg u
  ⟨h2.os, h2.tape, h2.output, h2.size, h2.block⟩


theorem turned_append (a b : List Nat) (k y : Nat) : ∀ i, k + i ≤ 8 * a.length → turned (a ++ b) k y i = turned a k y i ++ b
  | 0, _ => rfl
  | i + 1, h => by
    have ih := turned_append a b k y i (by omega)
    have hj : (k + i) / 8 < (turned a k y i).length := by rw [turned_length]; omega
    unfold turned
    rw [ih]
    split
    · rw [List.set_append_left _ _ hj, List.getD_eq_getElem?_getD, List.getD_eq_getElem?_getD, List.getElem?_append_left hj]
    · rfl
theorem valL_cons (c : Nat) (l : List Nat) : valL (c :: l) = c * 256 ^ l.length + valL l := by
  have H : ∀ (l : List Nat) (n : Nat), l.foldl (fun n c => n * 256 + c) n = n * 256 ^ l.length + valL l := by
    intro l
    induction l with
    | nil => intro n; simp [valL]
    | cons d l ih =>
      intro n
      unfold valL
      rw [List.foldl_cons, List.foldl_cons, ih, ih, List.length_cons, Nat.pow_succ, Nat.zero_mul, Nat.zero_add, Nat.add_mul, Nat.mul_assoc, Nat.mul_comm 256, Nat.add_assoc]
  show (c :: l).foldl (fun n c => n * 256 + c) 0 = _
  rw [List.foldl_cons, H, Nat.zero_mul, Nat.zero_add]
theorem valL_numL (n : Nat) : ∀ k, valL (numL k n) = n % 256 ^ k
  | 0 => by simp [numL, valL, Nat.mod_one]
  | k + 1 => by
    rw [numL, valL_cons, numL_len, valL_numL n k, Nat.pow_succ, Nat.mod_mul, Nat.mul_comm (256 ^ k), Nat.add_comm]
theorem object_err8 {r : Rd} {e : Int} (h : objectR r = .error e) : e ≠ 0 := by
  unfold objectR at h
  split at h
  · injection h with h
    omega
  · simp only at h
    split at h
    · injection h with h
      omega
    · split at h
      · injection h with h
        omega
      · split at h
        · injection h with h
          omega
        · split at h
          · injection h with h
            omega
          · cases h

/-- An object's bytes of which bits ahead of the sum are turned are not told. -/
theorem decode_turned {o : Ob} {K y : Nat} (hy : y ≠ 0) (hy2 : y < 4294967296) (hK : K + 32 ≤ 8 * (bodyL o).length) : (decodeOf (turned (bytesL o) K y 32)).2 ≠ 0 := by
  have hT : turned (bytesL o) K y 32 = turned (bodyL o) K y 32 ++ numL 4 (crcOf 0 (bodyL o)) := turned_append _ _ _ _ _ hK
  have hne := turned_ne (l := bodyL o) (k := K) 0 hy hy2 hK
  have hcl : crcOf 0 (bodyL o) < 4294967296 := crcOf_lt (by omega) (bodyL_lt o)
  rw [hT]
  generalize turned (bodyL o) K y 32 = t at hne
  generalize crcOf 0 (bodyL o) = c at hne hcl
  unfold decodeOf
  cases hob : objectR ⟨t ++ numL 4 c, false⟩ with
  | error e => exact object_err8 hob
  | ok p =>
    obtain ⟨o', r⟩ := p
    simp only
    split
    · rename_i h
      exact h
    · split
      · rename_i h
        exact h
      · rename_i h
        exfalso
        apply h
        unfold endErr
        have hl : (t ++ numL 4 c).length - 4 = t.length := by rw [List.length_append, numL_len]; omega
        rw [hl, List.drop_left, List.take_left, valL_numL, Nat.mod_eq_of_lt (by simpa using hcl), if_neg (fun e => hne e)]
        split
        · omega
        · split <;> omega

/-- An object that may be is not too great. -/
theorem wf_of_ok {o : Ob} (h : checkOf o = 0) : ObWf o := by
  have hk := ok_of h
  have b : ∀ s : ByteArray, nameOk s = true → s.size ≤ maxLen := fun s hs => by
    have := (name_size hs).2
    unfold maxLen
    omega
  exact ⟨fun s hs => b s (hk.atoms s hs), fun f hf => b f.1 (hk.funs f hf).1, fun p hp => b p.1 (hk.preds p hp).1, by have := hk.la; omega, by have := hk.lf; omega, by have := hk.lp; omega, by have := hk.lc; omega⟩
theorem body_len {o : Ob} (h : checkOf o = 0) : 13 ≤ (bodyL o).length ∧ (bodyL o).length ≤ 50000 := by
  have hk := ok_of h
  unfold bodyL
  have h1 := flat_len nameL 33 o.atoms (fun s hs => nameL_len (hk.atoms s hs))
  have h2 := flat_len funL 34 o.funs (fun f hf => by have := nameL_len (hk.funs f hf).1; rw [funL, List.length_append, numL_len]; omega)
  have h3 := flat_len predL 36 o.preds (fun f hf => by have := nameL_len (hk.preds f hf).1; rw [predL, List.length_append, List.length_append, numL_len, numL_len]; omega)
  have h4 := flat_len insL 9 o.code (fun i hi => insL_len i)
  have := hk.la
  have := hk.lf
  have := hk.lp
  have := hk.lc
  simp only [List.length_append, headL_len]
  omega

end Go.Proofs.YtfknoecgcoapcaaDoor
