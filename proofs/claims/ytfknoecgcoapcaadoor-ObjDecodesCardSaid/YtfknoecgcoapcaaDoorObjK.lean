/-
  The program's reader: take, number, name, magic, each by its plain words. Conditions: the reader stands in memory of the call's own; numbers of at most four bytes.
-/
import Derived.Test.YtfknoecgcoapcaaDoorObjJ
namespace Go.Proofs.YtfknoecgcoapcaaDoor
open Go Go.RowKit Go.WideShapes Go.ChangeShapes
set_option linter.unusedVariables false
set_option linter.unusedSimpArgs false

/-- A slice, nil or of a block, whose cells hold these bytes. -/
def BysIn (w : World) (v : Value) (l : List Nat) : Prop :=
  (l = [] ∧ v = .slice none 0 0) ∨
    ∃ b off c, v = .slice (some ⟨b, off, none⟩) l.length c ∧ l.length ≤ c ∧ c ≤ 9223372036854775807 ∧ b < w.heap.size ∧ ∀ k, k < l.length → w.cell? ⟨b, off + k, none⟩ = some (.int .u8 ((l.getD k 0 : Nat) : Int))
theorem BysIn.below {w w' : World} {v : Value} {l : List Nat} (h : BysIn w v l) (hb : Below w.heap.size w w') : BysIn w' v l := by
  rcases h with h | ⟨b, off, c, rfl, h1, h2, h3, hc⟩
  · exact .inl h
  · exact .inr ⟨b, off, c, rfl, h1, h2, Nat.lt_of_lt_of_le h3 hb.size, fun k hk => (hb.cell (p := ⟨b, off + k, none⟩) h3).trans (hc k hk)⟩
theorem BysIn.bys {w : World} {v : Value} {l : List Nat} (h : BysIn w v l) : BysAt w v l := by
  rcases h with ⟨rfl, rfl⟩ | ⟨b, off, c, rfl, h1, h2, h3, hc⟩
  · exact .inl ⟨rfl, _, _, rfl⟩
  · exact .inr ⟨b, off, c, rfl, hc⟩
theorem BysIn.form {w : World} {v : Value} {l : List Nat} (h : BysIn w v l) : ∃ A c, v = .slice A l.length c := by
  rcases h with ⟨rfl, rfl⟩ | ⟨b, off, c, rfl, _⟩
  · exact ⟨_, _, rfl⟩
  · exact ⟨_, _, rfl⟩

/-- A reader in memory: what is left lies in memory of before. -/
structure RdAt (w0 w : World) (R : Nat) (r : Rd) : Prop where
  box : ∃ v, Box w R 92 #[v, .bool r.short] ∧ BysIn w0 v r.rest
  new : w0.heap.size ≤ R
  below : Below w0.heap.size w0 w
theorem RdAt.up {w0 w w' : World} {R : Nat} {r : Rd} (h : RdAt w0 w R r) (hb : Below w.heap.size w w') : RdAt w0 w' R r := by
  obtain ⟨v, h1, h2⟩ := h.box
  exact ⟨⟨v, h1.below hb h1.lt, h2⟩, h.new, h.below.trans (hb.mono h.below.size)⟩
theorem RdAt.fr {w0 w w' : World} {S : Nat → Prop} {R : Nat} {r : Rd} (h : RdAt w0 w R r) (hf : Fr S w w') (hR : ¬ S R) (hS : ∀ k, S k → w0.heap.size ≤ k) : RdAt w0 w' R r := by
  obtain ⟨v, h1, h2⟩ := h.box
  exact ⟨⟨v, h1.fr hf hR, h2⟩, h.new, h.below.trans (hf.below h.below.size hS)⟩

theorem take_full {n : Nat} {r : Rd} (h : r.short = false) (hn : n ≤ r.rest.length) : takeR n r = (r.rest.take n, ⟨r.rest.drop n, false⟩) := by
  unfold takeR
  rw [if_neg (by rw [h]; simp; omega)]
theorem take_lack {n : Nat} {r : Rd} (h : r.short = true ∨ r.rest.length < n) : takeR n r = ([], ⟨r.rest, true⟩) := if_pos h

theorem bysIn_nil (w : World) : BysIn w (.slice none 0 0) [] := .inl ⟨rfl, rfl⟩

/-- What taking bytes comes to. -/
def Took (w0 w : World) (R : Nat) (n : Nat) (r : Rd) (e : Ending) (w' : World) : Prop :=
  ∃ v', e = .returned v' ∧ BysIn w0 v' (takeR n r).1 ∧ RdAt w0 w' R (takeR n r).2 ∧ Fr (fun b => b = R) w w'

set_option maxHeartbeats 1000000 in
theorem takeP_any (n : Nat) (hn : n ≤ 100000) (r : Rd) (R : Nat) (w0 w : World) (h : RdAt w0 w R r) :
    Calls Tryd.prog 73 #[.pointer (some ⟨R, 0, none⟩), .int .i64 n] w (Took w0 w R n r) := by
  obtain ⟨v, hb, hv⟩ := h.box
  have HR := Lib.hid h
  have c0 := hb.cell 0
  have c1 := hb.cell 1
  have f0 := hb.frozen 0
  have f1 := hb.frozen 1
  have HBX := Lib.hid hb
  have hnew := h.new
  clear h hb
  cases hsh : r.short
  case true =>
    rw [hsh] at c1
    have HT := Lib.hid (take_lack (n := n) (Or.inl hsh))
    have HRES : Hid (RdAt w0 (w.setCell ⟨R, 1, none⟩ (.bool true)) R ⟨r.rest, true⟩) := Lib.hid ⟨⟨v, by simpa using HBX.out.set_ 1 (.bool true), hv⟩, HR.out.new, HR.out.below.setCell (p := ⟨R, 1, none⟩) HR.out.new _⟩
    have HFR : Hid (Fr (fun b => b = R) w (w.setCell ⟨R, 1, none⟩ (.bool true))) := Lib.hid ((Fr.refl (fun b => b = R) w).setCell (p := ⟨R, 1, none⟩) (.inl rfl) _)
    clear hv hsh
    go_enter Tryd.func73, Tryd.ntmps73
    go_wp2
    go_ret
    exact ⟨_, rfl, by rw [HT.out]; exact bysIn_nil w0, by rw [HT.out]; exact HRES.out, HFR.out⟩
  case false =>
  rw [hsh] at c1
  by_cases hlk : r.rest.length < n
  case pos =>
    have HT := Lib.hid (take_lack (n := n) (Or.inr hlk))
    have hlk2 : (r.rest.length : Int) < (n : Int) := by omega
    have HRES : Hid (RdAt w0 (w.setCell ⟨R, 1, none⟩ (.bool true)) R ⟨r.rest, true⟩) := Lib.hid ⟨⟨v, by simpa using HBX.out.set_ 1 (.bool true), hv⟩, HR.out.new, HR.out.below.setCell (p := ⟨R, 1, none⟩) HR.out.new _⟩
    have HFR : Hid (Fr (fun b => b = R) w (w.setCell ⟨R, 1, none⟩ (.bool true))) := Lib.hid ((Fr.refl (fun b => b = R) w).setCell (p := ⟨R, 1, none⟩) (.inl rfl) _)
    obtain ⟨A, c, rfl⟩ := hv.form
    clear hv hsh hlk
    go_enter Tryd.func73, Tryd.ntmps73
    go_wp2
    go_ret
    exact ⟨_, rfl, by rw [HT.out]; exact bysIn_nil w0, by rw [HT.out]; exact HRES.out, HFR.out⟩
  case neg =>
  have HT := Lib.hid (take_full hsh (show n ≤ r.rest.length by omega))
  rcases hv with ⟨hnil, rfl⟩ | ⟨b, off, c, rfl, h1, h2, h3, hc⟩
  · have hn0 : n = 0 := by rw [hnil] at hlk; simp at hlk; exact hlk
    subst hn0
    have HNIL := Lib.hid hnil
    have HFR : Hid (Fr (fun b => b = R) w (w.setCell ⟨R, 0, none⟩ (.slice none 0 0))) := Lib.hid ((Fr.refl (fun b => b = R) w).setCell (p := ⟨R, 0, none⟩) (.inl rfl) _)
    have HRES : Hid (RdAt w0 (w.setCell ⟨R, 0, none⟩ (.slice none 0 0)) R ⟨[], false⟩) := Lib.hid ⟨⟨_, by have := HBX.out.set_ 0 (.slice none 0 0); rw [hsh] at this; simpa using this, bysIn_nil w0⟩, HR.out.new, HR.out.below.setCell (p := ⟨R, 0, none⟩) HR.out.new _⟩
    clear hsh hnil hlk
    go_enter Tryd.func73, Tryd.ntmps73
    go_wp2
    go_ret
    exact ⟨_, rfl, by rw [HT.out, HNIL.out]; exact bysIn_nil w0, by rw [HT.out, HNIL.out]; exact HRES.out, HFR.out⟩
  · have HC := Lib.hid hc
    have k1 : ¬ ((r.rest.length : Int) < (n : Int)) := by omega
    have k2 : (n : Int) ≤ (c : Int) := by omega
    have k3 : (n : Int) ≤ (r.rest.length : Int) := by omega
    have HSH := Lib.hid hsh
    have HFR := Lib.hid (fun u => (Fr.refl (fun b => b = R) w).setCell (p := ⟨R, 0, none⟩) (.inl rfl) u)
    have HTAKE : Hid (BysIn w0 (.slice (some ⟨b, off, none⟩) n c) (r.rest.take n)) := Lib.hid (.inr ⟨b, off, c, by rw [List.length_take, Nat.min_eq_left (by omega)], by rw [List.length_take]; omega, h2, h3, fun k hk => by
      rw [List.length_take] at hk
      rw [HC.out k (by omega)]
      congr 3
      rw [List.getD_eq_getElem?_getD, List.getD_eq_getElem?_getD, List.getElem?_take, if_pos (by omega)]⟩)
    by_cases hcn : c = n
    · subst hcn
      have hrl : r.rest.length = c := by omega
      have HNIL : Hid (r.rest.drop c = []) := Lib.hid (List.drop_of_length_le (by omega))
      have HRES : Hid (RdAt w0 (w.setCell ⟨R, 0, none⟩ (.slice (some ⟨b, off, none⟩) 0 0)) R ⟨[], false⟩) := Lib.hid ⟨⟨_, by have := HBX.out.set_ 0 (.slice (some ⟨b, off, none⟩) 0 0); rw [hsh] at this; simpa using this, .inr ⟨b, off, 0, rfl, by simp, by omega, h3, fun k hk => by simp at hk⟩⟩, HR.out.new, HR.out.below.setCell (p := ⟨R, 0, none⟩) HR.out.new _⟩
      have HF := Lib.hid (HFR.out (.slice (some ⟨b, off, none⟩) 0 0))
      have HSUB : Hid (r.rest.length - c = 0) := Lib.hid (by omega)
      clear hc hsh hrl
      go_enter Tryd.func73, Tryd.ntmps73
      go_wp2
      go_ret
      exact ⟨_, rfl, by rw [HT.out]; exact HTAKE.out, by rw [HT.out, HNIL.out]; exact HRES.out, HF.out⟩
    · have k4 : (c == n) = false := by simpa using hcn
      have HRES : Hid (RdAt w0 (w.setCell ⟨R, 0, none⟩ (.slice (some ⟨b, off + n, none⟩) (r.rest.length - n) (c - n))) R ⟨r.rest.drop n, false⟩) := Lib.hid ⟨⟨_, by have := HBX.out.set_ 0 (.slice (some ⟨b, off + n, none⟩) (r.rest.length - n) (c - n)); rw [hsh] at this; simpa using this, .inr ⟨b, off + n, c - n, by rw [List.length_drop], by rw [List.length_drop]; omega, by omega, h3, fun k hk => by
        rw [List.length_drop] at hk
        rw [show off + n + k = off + (n + k) by omega, HC.out (n + k) (by omega)]
        congr 3
        rw [List.getD_eq_getElem?_getD, List.getD_eq_getElem?_getD, List.getElem?_drop]⟩⟩, HR.out.new, HR.out.below.setCell (p := ⟨R, 0, none⟩) HR.out.new _⟩
      have HF := Lib.hid (HFR.out (.slice (some ⟨b, off + n, none⟩) (r.rest.length - n) (c - n)))
      clear hc hsh
      go_enter Tryd.func73, Tryd.ntmps73
      go_wp2
      go_ret
      exact ⟨_, rfl, by rw [HT.out]; exact HTAKE.out, by rw [HT.out]; exact HRES.out, HF.out⟩

theorem took_len {n : Nat} {r : Rd} : (takeR n r).1.length = n ∨ (takeR n r).1 = [] := by
  unfold takeR
  split
  · exact .inr rfl
  · left
    simp
    omega
theorem took_lt {n : Nat} {r : Rd} (h : ∀ c ∈ r.rest, c < 256) : (∀ c ∈ (takeR n r).1, c < 256) ∧ ∀ c ∈ (takeR n r).2.rest, c < 256 := by
  unfold takeR
  split
  · exact ⟨by simp, h⟩
  · exact ⟨fun c hc => h c (List.mem_of_mem_take hc), fun c hc => h c (List.mem_of_mem_drop hc)⟩

theorem valL_snoc (l : List Nat) (c : Nat) : valL (l ++ [c]) = valL l * 256 + c := by simp [valL]
theorem valL_lt : ∀ (n : Nat) (l : List Nat), l.length = n → (∀ c ∈ l, c < 256) → valL l < 256 ^ n
  | 0, l, hl, _ => by
    obtain rfl := List.length_eq_zero_iff.1 hl
    simp [valL]
  | n + 1, l, hl, h => by
    have hn : n < l.length := by omega
    have h1 := valL_lt n (l.take n) (by simp; omega) (fun x hx => h x (List.mem_of_mem_take hx))
    have h2 := h l[n] (List.getElem_mem hn)
    have e : l = l.take n ++ [l[n]] := by rw [← List.take_succ_eq_append_getElem hn, List.take_of_length_le (by omega)]
    rw [e, valL_snoc, Nat.pow_succ]
    omega

/-- What reading a number comes to. -/
def Read (w0 w : World) (R : Nat) (n : Nat) (r : Rd) (e : Ending) (w' : World) : Prop :=
  e = .returned (.int .i64 ((numR n r).1 : Nat)) ∧ RdAt w0 w' R (numR n r).2 ∧ Fr (fun b => b = R) w w'

theorem or_low (x c : Nat) (hc : c < 256) : x * 256 ||| c = x * 256 + c := by
  have h : x <<< 8 + c = x <<< 8 ||| c := Nat.shiftLeft_add_eq_or_of_lt (b := c) (i := 8) (by omega) x
  rw [Nat.shiftLeft_eq] at h
  exact h.symm
theorem or_bytes (x c : Nat) (hx : x < 16777216) (hc : c < 256) : bits .or .i64 ((x : Int) * 256) (c : Int) = ((x * 256 + c : Nat) : Int) := by
  show IntKind.i64.wrap ((BitVec.ofInt 64 ((x : Int) * 256) ||| BitVec.ofInt 64 (c : Int)).toNat : Int) = _
  have h1 : (BitVec.ofInt 64 ((x : Int) * 256)).toNat = x * 256 := by
    rw [BitVec.toNat_ofInt]
    omega
  have h2 : (BitVec.ofInt 64 (c : Int)).toNat = c := by
    rw [BitVec.toNat_ofInt]
    omega
  rw [BitVec.toNat_or, h1, h2, or_low x c hc]
  unfold IntKind.wrap
  simp [IntKind.bits, IntKind.signed]
  omega

set_option maxHeartbeats 1000000 in
theorem number_any (n : Nat) (hn : n ≤ 4) (r : Rd) (hr : ∀ c ∈ r.rest, c < 256) (R : Nat) (w0 w : World) (h : RdAt w0 w R r) :
    Calls Tryd.prog 66 #[.pointer (some ⟨R, 0, none⟩), .int .i64 n] w (Read w0 w R n r) := by
  have HTK := Lib.hid (takeP_any n (by omega) r R w0 w h)
  have HV : Hid (numR n r = (valL (takeR n r).1, (takeR n r).2)) := Lib.hid rfl
  have hbl := (took_lt (n := n) hr).1
  have hln : (takeR n r).1.length ≤ 4 := by
    rcases took_len (n := n) (r := r) with h | h
    · omega
    · rw [h]; simp
  obtain ⟨l, hl⟩ : ∃ l, (takeR n r).1 = l := ⟨_, rfl⟩
  obtain ⟨r', hr'⟩ : ∃ r', (takeR n r).2 = r' := ⟨_, rfl⟩
  unfold Took at HTK
  rw [hl, hr'] at HTK HV
  rw [hl] at hbl hln
  unfold Read
  rw [HV.out]
  have HBL := Lib.hid hbl
  clear h hl hr' hr hbl HV
  go_enter Tryd.func66, Tryd.ntmps66
  go_wp2_with (go_at_call 73; refine HTK.out.mono ?_; rintro e w5 ⟨v5, rfl, hv5, hr5, hf5⟩; have HV5 := Lib.hid (hv5.below hr5.below); have HR5 := Lib.hid hr5; have HF5 := Lib.hid hf5; obtain ⟨A5, c5, hA5⟩ := hv5.form; subst hA5; clear hv5 hr5 hf5)
  go_loop [5, 12] (fun s i => ∃ k : Nat, k ≤ l.length ∧ i = .int .i64 k ∧ s = .int .i64 (valL (l.take k) : Nat)) (fun _ i => l.length - (intOf i).toNat)
  case atStart => exact ⟨0, by omega, rfl, rfl⟩
  case round =>
    obtain ⟨k, hk, rfl, rfl⟩ := hrel
    by_cases hlt : k < l.length
    · have hcell : ∃ b off, A5 = some ⟨b, off, none⟩ ∧ w5.cell? ⟨b, off + k, none⟩ = some (.int .u8 ((l.getD k 0 : Nat) : Int)) := by
        rcases HV5.out with ⟨h0, _⟩ | ⟨b, off, c, he, _, _, _, hc⟩
        · rw [h0] at hlt; simp at hlt
        · injection he with h1 _ _
          exact ⟨b, off, h1, hc k hlt⟩
      obtain ⟨b, off, rfl, hc⟩ := hcell
      have hvl := valL_lt k (l.take k) (by simp; omega) (take_all l HBL.out k)
      have hcl := getD_lt HBL.out k
      have hst : valL (l.take (k + 1)) = valL (l.take k) * 256 + l.getD k 0 := by rw [take_snoc' l k hlt, valL_snoc]
      have hx : valL (l.take k) < 16777216 := Nat.lt_of_lt_of_le hvl (Nat.le_trans (Nat.pow_le_pow_right (by decide) (show k ≤ 3 by omega)) (by decide))
      generalize valL (l.take k) = x at hx hst
      generalize l.getD k 0 = c at hc hcl hst
      have hor := or_bytes x c hx hcl
      have HST := Lib.hid hst
      clear hvl hst
      go_wp2
      go_round
      case rel => exact ⟨k + 1, by omega, by go_num, by rw [HST.out]; simp⟩
      case measure => simp [intOf]; omega
    · obtain rfl : k = l.length := by omega
      go_wp2
      go_ret
      exact ⟨rfl, HR5.out, HF5.out⟩

end Go.Proofs.YtfknoecgcoapcaaDoor
