/-
  The document's Parse: by its plain words, in whatever world. Condition: a text of no more than 100000 bytes.
-/
import Derived.Test.YtfgnapfodnhppaaGreatDoorJ19
import Derived.Test.YtfgnapfodnhppaaGreatDoorJ10
namespace Go.Proofs.YtfgnapfodnhppaaGreatDoor
open Go Go.RowKit Go.WideShapes Go.ChangeShapes
set_option linter.unusedVariables false

def RParseRes (w : World) (r : Option (Int × List Int)) (e : Ending) (w' : World) : Prop :=
  e = .returned (match r with
    | some (op, l) => .tuple #[insV op (l.getD 0 0) (l.getD 1 0) (l.getD 2 0) (l.getD 3 0), .bool true]
    | none => .tuple #[insV 0 0 0 0 0, .bool false]) ∧ Below w.heap.size w w'
theorem rparse_no {w w' : World} {r : Option (Int × List Int)} (h : r = none) (hb : Below w.heap.size w w') : RParseRes w r (.returned (.tuple #[insV 0 0 0 0 0, .bool false])) w' := by
  subst h
  exact ⟨rfl, hb⟩
theorem rparse_yes {w w' : World} {r : Option (Int × List Int)} {op a b c d : Int} (h : r = some (op, [a, b, c, d])) (hb : Below w.heap.size w w') :
    RParseRes w r (.returned (.tuple #[insV op a b c d, .bool true])) w' := by
  subst h
  exact ⟨rfl, hb⟩

theorem rnum_bd (x : List UInt8) : -1 ≤ rnumOf x ∧ rnumOf x ≤ 10000000 := by
  unfold rnumOf
  split
  · omega
  · rename_i h
    split
    · rename_i ha
      have h1 := valOf_take_lt (bs x) x.length (by rw [bs_size]; exact Nat.le_refl _) (by rw [bs_data, List.take_length]; exact ha)
      rw [bs_data, List.take_length] at h1
      have h2 : (10 : Nat) ^ x.length ≤ 10 ^ 7 := Nat.pow_le_pow_right (by decide) (by omega)
      split
      · omega
      · omega
    · omega

/-- What is laid after k operands. -/
def laidR (op : Int) (f : Nat → Int) (k : Nat) : Array Value :=
  #[.int .i64 op, .int .i64 (if 0 < k then f 0 else 0), .int .i64 (if 1 < k then f 1 else 0), .int .i64 (if 2 < k then f 2 else 0), .int .i64 (if 3 < k then f 3 else 0)]
theorem laidR_set (op : Int) (f : Nat → Int) (k : Nat) (h : k < 4) : (laidR op f k).setIfInBounds (1 + k) (.int .i64 (f k)) = laidR op f (k + 1) := by
  match k, h with
  | 0, _ => rfl
  | 1, _ => rfl
  | 2, _ => rfl
  | 3, _ => rfl
theorem laidR_set2 (op x : Int) (f : Nat → Int) (k : Nat) (h : k < 4) : ((laidR op f k).setIfInBounds (1 + k) (.int .i64 x)).setIfInBounds (1 + k) (.int .i64 (f k)) = laidR op f (k + 1) := by
  match k, h with
  | 0, _ => rfl
  | 1, _ => rfl
  | 2, _ => rfl
  | 3, _ => rfl
theorem laidR_end (op : Int) (f : Nat → Int) (k : Nat) (h : ∀ j, k ≤ j → j < 4 → f j = 0) : laidR op f k = #[.int .i64 op, .int .i64 (f 0), .int .i64 (f 1), .int .i64 (f 2), .int .i64 (f 3)] := by
  have hi : ∀ j, j < 4 → (if j < k then f j else 0) = f j := fun j hj4 => by
    by_cases hj : j < k
    · rw [if_pos hj]
    · rw [if_neg hj, h j (by omega) hj4]
  unfold laidR
  rw [hi 0 (by omega), hi 1 (by omega), hi 2 (by omega), hi 3 (by omega)]

/-- The loop's memory: the instruction's block; all else as it was. -/
structure RP (g5 : Nat) (op : Int) (f : Nat → Int) (k : Nat) (w4 w : World) : Prop where
  box : Box w g5 71 (laidR op f k)
  fr : Fr (fun b => b = g5) w4 w
theorem RP.up {g5 k : Nat} {op : Int} {f : Nat → Int} {w4 w w' : World} (h : RP g5 op f k w4 w) (hb : Below w.heap.size w w') : RP g5 op f k w4 w' :=
  ⟨h.box.below hb h.box.lt, h.fr.trans (Fr.of_below hb)⟩
theorem RP.set {g5 k : Nat} {op x : Int} {f : Nat → Int} {w4 w : World} (h : RP g5 op f k w4 w) (hk : k < 4) (hx : x = f k) : RP g5 op f (k + 1) w4 (w.setCell ⟨g5, 1 + k, none⟩ (.int .i64 x)) := by
  subst hx
  refine ⟨?_, h.fr.setCell (p := ⟨g5, 1 + k, none⟩) (.inl rfl) _⟩
  rw [← laidR_set op f k hk]
  exact h.box.set_ (1 + k) _
theorem RP.set2 {g5 k : Nat} {op x y : Int} {f : Nat → Int} {w4 w : World} (h : RP g5 op f k w4 w) (hk : k < 4) (hx : y = f k) : RP g5 op f (k + 1) w4 ((w.setCell ⟨g5, 1 + k, none⟩ (.int .i64 x)).setCell ⟨g5, 1 + k, none⟩ (.int .i64 y)) := by
  subst hx
  refine ⟨?_, (h.fr.setCell (p := ⟨g5, 1 + k, none⟩) (.inl rfl) _).setCell (p := ⟨g5, 1 + k, none⟩) (.inl rfl) _⟩
  rw [← laidR_set2 op x f k hk]
  exact (h.box.set_ (1 + k) _).set_ (1 + k) _
theorem RP.slot {g5 k : Nat} {op : Int} {f : Nat → Int} {w4 w : World} (h : RP g5 op f k w4 w) (hk : k < 4) : ∃ z, w.cell? ⟨g5, 1 + k, none⟩ = some z := by
  rw [h.box.cell (1 + k)]
  match k, hk with
  | 0, _ => exact ⟨_, rfl⟩
  | 1, _ => exact ⟨_, rfl⟩
  | 2, _ => exact ⟨_, rfl⟩
  | 3, _ => exact ⟨_, rfl⟩
theorem RP.far {g5 k b o : Nat} {op : Int} {f : Nat → Int} {w4 w : World} {v : Value} (h : RP g5 op f k w4 w) (hb : b ≠ g5) (hc : w4.cell? ⟨b, o, none⟩ = some v) : w.cell? ⟨b, o, none⟩ = some v :=
  (World.cell?_of_block (w := w4) (w' := w) (a := ⟨b, o, none⟩) (h.fr.block b (World.block_lt_of_cell? w4 ⟨b, o, none⟩ hc) hb)).trans hc

theorem strs_cells {w : World} {base : Nat} {v : Value} {W : List (List UInt8)} (h : w.ownsRow base 9 1 v W.length (strs W)) (hW : 0 < W.length) :
    ∃ g cap, v = .slice (some ⟨g, 0, none⟩) W.length cap ∧ base ≤ g ∧ ∀ j, j < W.length → w.cell? ⟨g, j, none⟩ = some (.string (bs (W.getD j []))) := by
  rcases h.2 with ⟨_, h0⟩ | ⟨g, cap, cur, rfl, hg, hb, hc, _, hs, ht⟩
  · omega
  · refine ⟨g, cap, rfl, hg, fun j hj => ?_⟩
    have h1 : cur.toList[j]? = (cur.toList.take (W.length * 1))[j]? := by rw [List.getElem?_take, if_pos (by omega)]
    rw [cell_of_row w g j cur 9 (0, 0) hb, ← Array.getElem?_toList, h1, ht, strs, List.getElem?_map, List.getD_eq_getElem?_getD, List.getElem?_eq_getElem hj]
    rfl

set_option maxRecDepth 100000 in
set_option maxHeartbeats 8000000 in
theorem refparse_none (s : ByteArray) (hs : s.size ≤ 100000) (op : Int) (hop : rOp s.data.toList = op) (ho : opsOf op = []) (w : World) :
    Calls Tryz.prog 107 #[.string s] w (RParseRes w (rparse s.data.toList)) := by
  obtain ⟨W, hW⟩ : ∃ W, splitW s.data.toList = W := ⟨_, rfl⟩
  have hW0 : 0 < W.length := by
    rw [← hW]
    exact List.length_pos_iff.2 (splitW_ne _)
  have hpar : rparse s.data.toList = if s.data.toList = [] ∨ textOf op [rAt op W 0, rAt op W 1, rAt op W 2, rAt op W 3] ≠ s.data.toList then none else some (op, [rAt op W 0, rAt op W 1, rAt op W 2, rAt op W 3]) := by
    unfold rparse rArgs
    rw [hop, hW]
  have hnm := fun w => rnamed_any (bs (W.getD 0 [])) w
  have hop2 : namedOf (bs (W.getD 0 [])) = op := by rw [← hop, rOp, hW]
  rw [hop2] at hnm
  have hwd := rwords_any s hs (w.alloc (.cells #[.int .i64 0, .int .i64 0, .int .i64 0, .int .i64 0, .int .i64 0] 71))
  have hwd2 : Calls Tryz.prog 52 #[.string s] (w.alloc (.cells #[.int .i64 0, .int .i64 0, .int .i64 0, .int .i64 0, .int .i64 0] 71)) fun e w' => ∃ g cap, e = .returned (.slice (some ⟨g, 0, none⟩) W.length cap) ∧ w.heap.size + 1 ≤ g ∧ (∀ j, j < W.length → w'.cell? ⟨g, j, none⟩ = some (.string (bs (W.getD j [])))) ∧ Below (w.heap.size + 1) (w.alloc (.cells #[.int .i64 0, .int .i64 0, .int .i64 0, .int .i64 0, .int .i64 0] 71)) w' := by
    refine hwd.mono fun e w' h => ?_
    obtain ⟨v, rfl, hown, hb⟩ := h
    rw [hW] at hown
    obtain ⟨g, cap, rfl, hg, hc⟩ := strs_cells hown hW0
    rw [show (w.alloc (.cells #[.int .i64 0, .int .i64 0, .int .i64 0, .int .i64 0, .int .i64 0] 71)).heap.size = w.heap.size + 1 by simp] at hg hb
    exact ⟨g, cap, rfl, hg, hc, hb⟩
  have HO := Lib.hid (fun w => roperands_none op ho w)
  have HLEN : Hid ((opsOf op).length = 0) := Lib.hid (by rw [ho]; rfl)
  clear ho
  have HPAR := Lib.hid hpar
  have HNM := Lib.hid hnm
  have HWD := Lib.hid hwd2
  have HBZ := Lib.hid (Box.new w 71 #[.int .i64 0, .int .i64 0, .int .i64 0, .int .i64 0, .int .i64 0])
  have HBA := Lib.hid (alloc_below w (.cells #[.int .i64 0, .int .i64 0, .int .i64 0, .int .i64 0, .int .i64 0] 71))
  clear hpar hnm hwd hwd2 hop hop2 hW
  go_enter Tryz.func107, Tryz.ntmps107
  go_wp2_with fail
  refine HWD.out.mono ?_
  rintro e w2 ⟨gw, cap, rfl, hgw, hwc, hb2⟩
  have hz2 := HBZ.out.below hb2 (by omega)
  have hB2 := HBA.out.trans (hb2.mono (by omega))
  have hc0 := hwc 0 hW0
  have HZ2 := Lib.hid hz2
  have HB2 := Lib.hid hB2
  have HWC := Lib.hid hwc
  have HGW := Lib.hid hgw
  clear hz2 hB2 hwc hb2 hgw
  obtain ⟨x0, hx0⟩ : ∃ x, bs (W.getD 0 []) = x := ⟨_, rfl⟩
  rw [hx0] at hc0 HNM
  clear hx0
  go_wp2_with fail
  refine (HNM.out _).mono ?_
  rintro e w3 ⟨rfl, hb3⟩
  have hgw2 : gw < w2.heap.size := World.block_lt_of_cell? w2 _ (HWC.out 0 hW0)
  have hB3 := HB2.out.trans (hb3.mono HB2.out.size)
  have hz3 := HZ2.out.below hb3 HZ2.out.lt
  have hwc3 : ∀ j, j < W.length → w3.cell? ⟨gw, j, none⟩ = some (.string (bs (W.getD j []))) := fun j hj => (hb3.cell (p := ⟨gw, j, none⟩) hgw2).trans (HWC.out j hj)
  have hgw3 : gw < w3.heap.size := Nat.lt_of_lt_of_le hgw2 hb3.size
  have hwz : w.heap.size < w3.heap.size := hz3.lt
  have HB3 := Lib.hid hB3
  have HZ3 := Lib.hid hz3
  have HWC3 := Lib.hid hwc3
  have HGW3 := Lib.hid hgw3
  have HWZ := Lib.hid hwz
  clear hb3 hB3 hz3 hwc3 hgw2 hgw3 hc0 HZ2 HB2 HWC hwz
  go_wp2_with fail
  refine (HO.out _).mono ?_
  rintro e w4 ⟨rfl, hw4⟩
  have hi4 : Box w4 w3.heap.size 71 (laidR op (rAt op W) 0) := by rw [← hw4]; exact Box.new w3 _ _
  have hz4 : Box w4 w.heap.size 71 #[.int .i64 0, .int .i64 0, .int .i64 0, .int .i64 0, .int .i64 0] := by rw [← hw4]; exact HZ3.out.alloc _
  have hB4 : Below w.heap.size w w4 := by rw [← hw4]; exact HB3.out.alloc HB3.out.size _
  have HI4 := Lib.hid hi4
  have HZ4 := Lib.hid hz4
  have HB4 := Lib.hid hB4
  clear hw4 hi4 hz4 hB4 HZ3 HB3
  have HF : Hid (∃ f : Nat → Int, f = rAt op W) := Lib.hid ⟨_, rfl⟩
  obtain ⟨f, hf⟩ := HF.out
  clear HF
  rw [← hf] at HPAR
  have HFF := Lib.hid hf
  clear hf
  obtain ⟨g5, hg5⟩ : ∃ g, w3.heap.size = g := ⟨_, rfl⟩
  have hrp : RP g5 op f 0 w4 w4 := ⟨by rw [← hg5]; exact HI4.out, Fr.refl _ _⟩
  have hg5z : w.heap.size ≠ g5 := by rw [← hg5]; have := HWZ.out; omega
  have hg5w : gw ≠ g5 := by rw [← hg5]; have := HGW3.out; omega
  have HG5B : Hid (w.heap.size ≤ g5) := Lib.hid (by rw [← hg5]; have := HWZ.out; omega)
  rw [hg5]
  have HRP := Lib.hid hrp
  clear hrp hg5
  go_wp2
  go_loopw [7] (fun i wr => ∃ k : Nat, k ≤ 4 ∧ k ≤ 0 ∧ i = .int .i64 k ∧ RP g5 op f k w4 wr) (fun i _ => 0 - (intOf i).toNat)
  case atStart => exact ⟨0, by omega, by omega, rfl, HRP.out⟩
  case round =>
    obtain ⟨k, hk4, hkn, rfl, hrk⟩ := hrel
    have HRK := Lib.hid hrk
    clear hrk
    obtain rfl : k = 0 := by omega
    have hend : ∀ j, 0 ≤ j → j < 4 → f j = 0 := fun j _ _ => by rw [HFF.out, rAt, HLEN.out, if_neg (by omega)]
    have hb5 := HRK.out.box
    rw [laidR_end op f 0 hend] at hb5
    have hz : Box wr w.heap.size 71 #[.int .i64 0, .int .i64 0, .int .i64 0, .int .i64 0, .int .i64 0] := (HRK.out.fr.block _ HZ4.out.lt hg5z).trans HZ4.out
    have hbl : Below w.heap.size w wr := HB4.out.trans (HRK.out.fr.below HB4.out.size (fun b e => by subst e; exact HG5B.out))
    have hpar : rparse s.data.toList = if s.data.toList = [] ∨ textOf op [f 0, f 1, f 2, f 3] ≠ s.data.toList then none else some (op, [f 0, f 1, f 2, f 3]) := HPAR.out
    obtain ⟨a0, ha0⟩ : ∃ x, f 0 = x := ⟨_, rfl⟩
    obtain ⟨a1, ha1⟩ : ∃ x, f 1 = x := ⟨_, rfl⟩
    obtain ⟨a2, ha2⟩ : ∃ x, f 2 = x := ⟨_, rfl⟩
    obtain ⟨a3, ha3⟩ : ∃ x, f 3 = x := ⟨_, rfl⟩
    rw [ha0, ha1, ha2, ha3] at hb5 hpar
    clear ha0 ha1 ha2 ha3 hend HRK
    have HBL := Lib.hid hbl
    have HB5 := Lib.hid hb5
    have HZ5 := Lib.hid hz
    clear hbl hb5 hz HPAR HZ4 HB4 HRP HI4
    by_cases he : s.data.toList = []
    · have hnone : rparse s.data.toList = none := by rw [hpar, if_pos (.inl he)]
      have he2 : s.toList.isEmpty = true := by rw [ByteArray.toList_eq, he]; rfl
      have he3 : s.toList = [] := by rw [ByteArray.toList_eq, he]
      have HNONE := Lib.hid hnone
      have z0 := HZ5.out.cell 0
      have z1 := HZ5.out.cell 1
      have z2 := HZ5.out.cell 2
      have z3 := HZ5.out.cell 3
      have z4 := HZ5.out.cell 4
      have y0 := HZ5.out.frozen 0
      have y1 := HZ5.out.frozen 1
      have y2 := HZ5.out.frozen 2
      have y3 := HZ5.out.frozen 3
      have y4 := HZ5.out.frozen 4
      clear hnone hpar he
      go_wp2
      exact ret_store5 HZ5.out (fun W h0 h1 h2 h3 h4 => by simp [results, Tryz.results107, go_sem, h0, h1, h2, h3, h4]) (fun W hb hf => rparse_no HNONE.out (HBL.out.trans hf))
    · have he2 : s.toList.isEmpty = false := by
        rw [ByteArray.toList_eq, List.isEmpty_eq_false_iff]
        exact he
      have htext := rtext_any op a0 a1 a2 a3 wr
      have c0 := HB5.out.cell 0
      have c1 := HB5.out.cell 1
      have c2 := HB5.out.cell 2
      have c3 := HB5.out.cell 3
      have c4 := HB5.out.cell 4
      by_cases ht : textOf op [a0, a1, a2, a3] = s.data.toList
      · have hyes : rparse s.data.toList = some (op, [a0, a1, a2, a3]) := by rw [hpar, if_neg (by simp [he, ht])]
        rw [ht, str_bs] at htext
        unfold insV at htext
        have HYES := Lib.hid hyes
        have HT := Lib.hid htext
        clear hyes htext hpar he ht
        go_wp2_with fail
        refine HT.out.mono ?_
        rintro e w6 ⟨rfl, hb6⟩
        have hz6 := HZ5.out.below hb6 HZ5.out.lt
        have hb56 := HB5.out.below hb6 HB5.out.lt
        have HBL6 := Lib.hid (HBL.out.trans (hb6.mono HBL.out.size))
        have d0 := hb56.cell 0
        have d1 := hb56.cell 1
        have d2 := hb56.cell 2
        have d3 := hb56.cell 3
        have d4 := hb56.cell 4
        have z0 := hz6.cell 0
        have z1 := hz6.cell 1
        have z2 := hz6.cell 2
        have z3 := hz6.cell 3
        have z4 := hz6.cell 4
        have y0 := hz6.frozen 0
        have y1 := hz6.frozen 1
        have y2 := hz6.frozen 2
        have y3 := hz6.frozen 3
        have y4 := hz6.frozen 4
        have HZ6 := Lib.hid hz6
        clear hz6 hb56 hb6 c0 c1 c2 c3 c4
        go_wp2
        exact ret_store5 HZ6.out (fun W h0 h1 h2 h3 h4 => by simp [results, Tryz.results107, go_sem, h0, h1, h2, h3, h4]) (fun W hb hf => rparse_yes HYES.out (HBL6.out.trans hf))
      · have hnone : rparse s.data.toList = none := by rw [hpar, if_pos (.inr ht)]
        have hne : ¬ bs (textOf op [a0, a1, a2, a3]) = s := fun e => ht (by rw [← e, bs_data])
        generalize bs (textOf op [a0, a1, a2, a3]) = t at htext hne
        have hne2 := ne_strs hne
        unfold insV at htext
        have HNONE := Lib.hid hnone
        have HT := Lib.hid htext
        clear hnone htext hpar he ht hne
        go_wp2_with fail
        refine HT.out.mono ?_
        rintro e w6 ⟨rfl, hb6⟩
        have hz6 := HZ5.out.below hb6 HZ5.out.lt
        have HBL6 := Lib.hid (HBL.out.trans (hb6.mono HBL.out.size))
        have z0 := hz6.cell 0
        have z1 := hz6.cell 1
        have z2 := hz6.cell 2
        have z3 := hz6.cell 3
        have z4 := hz6.cell 4
        have y0 := hz6.frozen 0
        have y1 := hz6.frozen 1
        have y2 := hz6.frozen 2
        have y3 := hz6.frozen 3
        have y4 := hz6.frozen 4
        have HZ6 := Lib.hid hz6
        clear hz6 hb6 c0 c1 c2 c3 c4
        go_wp2
        exact ret_store5 HZ6.out (fun W h0 h1 h2 h3 h4 => by simp [results, Tryz.results107, go_sem, h0, h1, h2, h3, h4]) (fun W hb hf => rparse_no HNONE.out (HBL6.out.trans hf))

set_option maxRecDepth 100000 in
set_option maxHeartbeats 8000000 in
theorem refparse_some (s : ByteArray) (hs : s.size ≤ 100000) (op : Int) (hop : rOp s.data.toList = op) (n : Nat) (hn : (opsOf op).length = n) (hn0 : 0 < n) (w : World) :
    Calls Tryz.prog 107 #[.string s] w (RParseRes w (rparse s.data.toList)) := by
  obtain ⟨W, hW⟩ : ∃ W, splitW s.data.toList = W := ⟨_, rfl⟩
  have hW0 : 0 < W.length := by
    rw [← hW]
    exact List.length_pos_iff.2 (splitW_ne _)
  have hpar : rparse s.data.toList = if s.data.toList = [] ∨ textOf op [rAt op W 0, rAt op W 1, rAt op W 2, rAt op W 3] ≠ s.data.toList then none else some (op, [rAt op W 0, rAt op W 1, rAt op W 2, rAt op W 3]) := by
    unfold rparse rArgs
    rw [hop, hW]
  have hnm := fun w => rnamed_any (bs (W.getD 0 [])) w
  have hop2 : namedOf (bs (W.getD 0 [])) = op := by rw [← hop, rOp, hW]
  rw [hop2] at hnm
  have hwd := rwords_any s hs (w.alloc (.cells #[.int .i64 0, .int .i64 0, .int .i64 0, .int .i64 0, .int .i64 0] 71))
  have hwd2 : Calls Tryz.prog 52 #[.string s] (w.alloc (.cells #[.int .i64 0, .int .i64 0, .int .i64 0, .int .i64 0, .int .i64 0] 71)) fun e w' => ∃ g cap, e = .returned (.slice (some ⟨g, 0, none⟩) W.length cap) ∧ w.heap.size + 1 ≤ g ∧ (∀ j, j < W.length → w'.cell? ⟨g, j, none⟩ = some (.string (bs (W.getD j [])))) ∧ Below (w.heap.size + 1) (w.alloc (.cells #[.int .i64 0, .int .i64 0, .int .i64 0, .int .i64 0, .int .i64 0] 71)) w' := by
    refine hwd.mono fun e w' h => ?_
    obtain ⟨v, rfl, hown, hb⟩ := h
    rw [hW] at hown
    obtain ⟨g, cap, rfl, hg, hc⟩ := strs_cells hown hW0
    rw [show (w.alloc (.cells #[.int .i64 0, .int .i64 0, .int .i64 0, .int .i64 0, .int .i64 0] 71)).heap.size = w.heap.size + 1 by simp] at hg hb
    exact ⟨g, cap, rfl, hg, hc, hb⟩
  have HO := Lib.hid (fun w => roperands_some op n hn hn0 w)
  have HLEN := Lib.hid hn
  have hn4 : n ≤ 4 := by rw [← hn]; exact ops_few op
  clear hn
  have HPAR := Lib.hid hpar
  have HNM := Lib.hid hnm
  have HWD := Lib.hid hwd2
  have HBZ := Lib.hid (Box.new w 71 #[.int .i64 0, .int .i64 0, .int .i64 0, .int .i64 0, .int .i64 0])
  have HBA := Lib.hid (alloc_below w (.cells #[.int .i64 0, .int .i64 0, .int .i64 0, .int .i64 0, .int .i64 0] 71))
  clear hpar hnm hwd hwd2 hop hop2 hW
  go_enter Tryz.func107, Tryz.ntmps107
  go_wp2_with fail
  refine HWD.out.mono ?_
  rintro e w2 ⟨gw, cap, rfl, hgw, hwc, hb2⟩
  have hz2 := HBZ.out.below hb2 (by omega)
  have hB2 := HBA.out.trans (hb2.mono (by omega))
  have hc0 := hwc 0 hW0
  have HZ2 := Lib.hid hz2
  have HB2 := Lib.hid hB2
  have HWC := Lib.hid hwc
  have HGW := Lib.hid hgw
  clear hz2 hB2 hwc hb2 hgw
  obtain ⟨x0, hx0⟩ : ∃ x, bs (W.getD 0 []) = x := ⟨_, rfl⟩
  rw [hx0] at hc0 HNM
  clear hx0
  go_wp2_with fail
  refine (HNM.out _).mono ?_
  rintro e w3 ⟨rfl, hb3⟩
  have hgw2 : gw < w2.heap.size := World.block_lt_of_cell? w2 _ (HWC.out 0 hW0)
  have hB3 := HB2.out.trans (hb3.mono HB2.out.size)
  have hz3 := HZ2.out.below hb3 HZ2.out.lt
  have hwc3 : ∀ j, j < W.length → w3.cell? ⟨gw, j, none⟩ = some (.string (bs (W.getD j []))) := fun j hj => (hb3.cell (p := ⟨gw, j, none⟩) hgw2).trans (HWC.out j hj)
  have hgw3 : gw < w3.heap.size := Nat.lt_of_lt_of_le hgw2 hb3.size
  have hwz : w.heap.size < w3.heap.size := hz3.lt
  have HB3 := Lib.hid hB3
  have HZ3 := Lib.hid hz3
  have HWC3 := Lib.hid hwc3
  have HGW3 := Lib.hid hgw3
  have HWZ := Lib.hid hwz
  clear hb3 hB3 hz3 hwc3 hgw2 hgw3 hc0 HZ2 HB2 HWC hwz
  go_wp2_with fail
  refine (HO.out _).mono ?_
  rintro e w4 ⟨rfl, hw4⟩
  have hi4 : Box w4 w3.heap.size 71 (laidR op (rAt op W) 0) := by
    rw [← hw4]
    exact (Box.new w3 71 #[.int .i64 op, .int .i64 0, .int .i64 0, .int .i64 0, .int .i64 0]).alloc _
  have hz4 : Box w4 w.heap.size 71 #[.int .i64 0, .int .i64 0, .int .i64 0, .int .i64 0, .int .i64 0] := by
    rw [← hw4]
    exact (HZ3.out.alloc _).alloc _
  have hb34 : Below w3.heap.size w3 w4 := by
    rw [← hw4]
    exact ((Below.refl _ w3).alloc (Nat.le_refl _) _).alloc (by simp) _
  have hB4 : Below w.heap.size w w4 := HB3.out.trans (hb34.mono HB3.out.size)
  have hwc4 : ∀ j, j < W.length → w4.cell? ⟨gw, j, none⟩ = some (.string (bs (W.getD j []))) := fun j hj => (hb34.cell (p := ⟨gw, j, none⟩) HGW3.out).trans (HWC3.out j hj)
  have hkc4 : ∀ k, k < n → w4.cell? ⟨w3.heap.size + 1, k, none⟩ = some (.int .i64 ((opsOf op).getD k 0)) := fun k hk => by
    have hb := Box.new (w3.alloc (.cells #[.int .i64 op, .int .i64 0, .int .i64 0, .int .i64 0, .int .i64 0] 71)) 3 ((opsOf op).map (Value.int .i64)).toArray
    rw [hw4, show (w3.alloc (.cells #[.int .i64 op, .int .i64 0, .int .i64 0, .int .i64 0, .int .i64 0] 71)).heap.size = w3.heap.size + 1 by simp] at hb
    rw [hb.cell k]
    have hk' : k < (opsOf op).length := by rw [HLEN.out]; exact hk
    simp [List.getD_eq_getElem?_getD, hk']
  have HI4 := Lib.hid hi4
  have HZ4 := Lib.hid hz4
  have HB4 := Lib.hid hB4
  have HWC4 := Lib.hid hwc4
  have HKC4 := Lib.hid hkc4
  rw [show (w3.alloc (.cells #[.int .i64 op, .int .i64 0, .int .i64 0, .int .i64 0, .int .i64 0] 71)).heap.size = w3.heap.size + 1 by simp]
  clear hw4 hi4 hz4 hB4 HZ3 HB3 hb34 hwc4 hkc4 HWC3
  have HF : Hid (∃ f : Nat → Int, f = rAt op W) := Lib.hid ⟨_, rfl⟩
  obtain ⟨f, hf⟩ := HF.out
  clear HF
  rw [← hf] at HPAR
  have HFF := Lib.hid hf
  clear hf
  obtain ⟨g5, hg5⟩ : ∃ g, w3.heap.size = g := ⟨_, rfl⟩
  have hrp : RP g5 op f 0 w4 w4 := ⟨by rw [← hg5]; exact HI4.out, Fr.refl _ _⟩
  have hg5z : w.heap.size ≠ g5 := by rw [← hg5]; have := HWZ.out; omega
  have hg5w : gw ≠ g5 := by rw [← hg5]; have := HGW3.out; omega
  have HG5B : Hid (w.heap.size ≤ g5) := Lib.hid (by rw [← hg5]; have := HWZ.out; omega)
  rw [hg5]
  have HRP := Lib.hid hrp
  have HKC : Hid (∀ k, k < n → w4.cell? ⟨g5 + 1, k, none⟩ = some (.int .i64 ((opsOf op).getD k 0))) := Lib.hid (by rw [← hg5]; exact HKC4.out)
  clear HKC4
  clear hrp hg5
  go_wp2
  go_loopw [7] (fun i wr => ∃ k : Nat, k ≤ 4 ∧ k ≤ n ∧ i = .int .i64 k ∧ RP g5 op f k w4 wr) (fun i _ => n - (intOf i).toNat)
  case atStart => exact ⟨0, by omega, by omega, rfl, HRP.out⟩
  case round =>
    obtain ⟨k, hk4, hkn, rfl, hrk⟩ := hrel
    have HRK := Lib.hid hrk
    clear hrk
    have j0 : (0 : Int) ≤ (k : Int) := by omega
    have j4 : (k : Int) < 4 ∨ k = 4 := by omega
    by_cases hlt : k < n ∧ k + 1 < W.length
    · obtain ⟨hlk, hlw⟩ := hlt
      have hk4' : k < 4 := by omega
      obtain ⟨z, hsl⟩ := HRK.out.slot hk4'
      have hfz := HRK.out.box.frozen (1 + k)
      have hkc := HRK.out.far (b := g5 + 1) (by omega) (HKC.out k hlk)
      have hwc := HRK.out.far hg5w (HWC4.out (k + 1) hlw)
      have hfk : f k = rnumAt ((opsOf op).getD k 0) (W.getD (k + 1) []) := by rw [HFF.out, rAt, if_pos ⟨by rw [HLEN.out]; exact hlk, hlw⟩]
      obtain ⟨kd, hkd⟩ : ∃ x, (opsOf op).getD k 0 = x := ⟨_, rfl⟩
      rw [hkd] at hkc hfk
      rw [← bs_data (W.getD (k + 1) [])] at hfk
      generalize bs (W.getD (k + 1) []) = t at hwc hfk
      have j1 : (k : Int) < (n : Int) := by omega
      have j2 : (k : Int) < 4 := by omega
      have j3 : (k : Int) + 1 < (W.length : Int) := by omega
      have j5 : (0 : Int) ≤ (k : Int) + 1 := by omega
      by_cases hc : t.data.toList = [45]
      · have hv : f k = 65535 := by rw [hfk, rnumAt, if_pos hc]
        obtain rfl : t = ⟨#[45]⟩ := ByteArray.ext (Array.ext' hc)
        have HV := Lib.hid hv
        clear hc hfk hv
        go_wp2
        go_roundw
        case rel => exact ⟨k + 1, by omega, by omega, by go_num, HRK.out.set hk4' HV.out.symm⟩
        case measure => simp [intOf]; omega
      · have hcmp : (t.toList == ByteArray.toList ⟨#[45]⟩) = false := ne_strs (fun e => hc (by rw [e]))
        have hcmp2 : (t.toList == [45]) = false := by
          rw [beq_eq_false_iff_ne, ByteArray.toList_eq]
          exact hc
        by_cases hz1 : 1 < t.size
        · have hz2 : (1 : Int) < (t.size : Int) := by omega
          have hz3 : (0 : Int) < (t.size : Int) := by omega
          have hz4 : (1 : Int) ≤ (t.size : Int) := by omega
          have htl : 1 < t.data.toList.length := by rw [Array.length_toList]; exact hz1
          have hhd : t.data.toList.head? = some t[0] := by
            rw [List.head?_eq_getElem?, List.getElem?_eq_getElem (by omega)]
            rfl
          have hex : (t.extract 1 t.size).data.toList = t.data.toList.drop 1 := by
            rw [ext_bs, bs_data]
            exact List.take_of_length_le (by rw [List.length_drop, Array.length_toList]; exact Nat.le_refl _)
          have hnum := fun w => rnum_any (t.extract 1 t.size) w
          rw [hex] at hnum
          have hbd := rnum_bd (t.data.toList.drop 1)
          by_cases h88 : t[0] = 88
          · have hfk2 : f k = rnumOf (t.data.toList.drop 1) := by rw [hfk, rnumAt, if_neg hc, if_pos ⟨htl, by rw [hhd, h88]⟩]
            have hbb : ((t[0].toNat : Int) == 88) = true := by rw [h88]; rfl
            generalize rnumOf (t.data.toList.drop 1) = y at hnum hfk2
            have HNUM := Lib.hid hnum
            have HV := Lib.hid hfk2
            clear hfk hfk2 hc htl hhd hex h88 hnum hbd
            go_wp2_with fail
            refine (HNUM.out _).mono ?_
            rintro e w5 ⟨rfl, hb5⟩
            have HR5 := Lib.hid (HRK.out.up hb5)
            have hsl5 : ∃ z, w5.cell? ⟨g5, 1 + k, none⟩ = some z := HR5.out.slot hk4'
            obtain ⟨z5, hs5⟩ := hsl5
            have hf5 := HR5.out.box.frozen (1 + k)
            have hk5 := HR5.out.far (b := g5 + 1) (by omega) (HKC.out k hlk)
            rw [hkd] at hk5
            clear hb5 hsl hfz
            go_wp2
            go_roundw
            case rel => exact ⟨k + 1, by omega, by omega, by go_num, HR5.out.set hk4' HV.out.symm⟩
            case measure => simp [intOf]; omega
          · have hb8 : ((t[0].toNat : Int) == 88) = false := by
              rw [beq_eq_false_iff_ne]
              intro e
              apply h88
              apply UInt8.toNat_inj.1
              show t[0].toNat = 88
              omega
            by_cases h89 : t[0] = 89
            · have hb9 : ((t[0].toNat : Int) == 89) = true := by rw [h89]; rfl
              have hfk2 : f k = if kd = 1 then rnumOf (t.data.toList.drop 1) + 16 else rnumOf (t.data.toList.drop 1) := by rw [hfk, rnumAt, if_neg hc, if_neg (by rw [hhd]; rintro ⟨_, e⟩; exact h88 (Option.some.inj e)), if_pos ⟨htl, by rw [hhd, h89]⟩]
              generalize rnumOf (t.data.toList.drop 1) = y at hnum hfk2 hbd
              have HNUM := Lib.hid hnum
              obtain ⟨hy1, hy2⟩ := hbd
              by_cases hk1 : kd = 1
              · subst hk1
                rw [if_pos rfl] at hfk2
                have HV := Lib.hid hfk2
                clear hfk hfk2 hc htl hhd hex h89 h88 hnum
                go_wp2_with fail
                refine (HNUM.out _).mono ?_
                rintro e w5 ⟨rfl, hb5⟩
                have HR5 := Lib.hid (HRK.out.up hb5)
                have hsl5 : ∃ z, w5.cell? ⟨g5, 1 + k, none⟩ = some z := HR5.out.slot hk4'
                obtain ⟨z5, hs5⟩ := hsl5
                have hf5 := HR5.out.box.frozen (1 + k)
                have hk5 := HR5.out.far (b := g5 + 1) (by omega) (HKC.out k hlk)
                rw [hkd] at hk5
                clear hb5 hsl hfz
                go_wp2
                go_roundw
                case rel => exact ⟨k + 1, by omega, by omega, by go_num, HR5.out.set2 hk4' HV.out.symm⟩
                case measure => simp [intOf]; omega
              · rw [if_neg hk1] at hfk2
                have hk1' : (kd == 1) = false := by simpa using hk1
                have HV := Lib.hid hfk2
                clear hfk hfk2 hc htl hhd hex h89 h88 hnum hk1
                go_wp2_with fail
                refine (HNUM.out _).mono ?_
                rintro e w5 ⟨rfl, hb5⟩
                have HR5 := Lib.hid (HRK.out.up hb5)
                have hsl5 : ∃ z, w5.cell? ⟨g5, 1 + k, none⟩ = some z := HR5.out.slot hk4'
                obtain ⟨z5, hs5⟩ := hsl5
                have hf5 := HR5.out.box.frozen (1 + k)
                have hk5 := HR5.out.far (b := g5 + 1) (by omega) (HKC.out k hlk)
                rw [hkd] at hk5
                clear hb5 hsl hfz
                go_wp2
                go_roundw
                case rel => exact ⟨k + 1, by omega, by omega, by go_num, HR5.out.set hk4' HV.out.symm⟩
                case measure => simp [intOf]; omega
            · have hb9 : ((t[0].toNat : Int) == 89) = false := by
                rw [beq_eq_false_iff_ne]
                intro e
                apply h89
                apply UInt8.toNat_inj.1
                show t[0].toNat = 89
                omega
              have hfk2 : f k = rnumOf t.data.toList := by rw [hfk, rnumAt, if_neg hc, if_neg (by rw [hhd]; rintro ⟨_, e⟩; exact h88 (Option.some.inj e)), if_neg (by rw [hhd]; rintro ⟨_, e⟩; exact h89 (Option.some.inj e))]
              clear hnum hbd
              have HNUM := Lib.hid (fun w => rnum_any t w)
              have HV := Lib.hid hfk2
              clear hfk hfk2 hc htl hhd hex h89 h88
              go_wp2_with fail
              refine (HNUM.out _).mono ?_
              rintro e w5 ⟨rfl, hb5⟩
              have HR5 := Lib.hid (HRK.out.up hb5)
              have hsl5 : ∃ z, w5.cell? ⟨g5, 1 + k, none⟩ = some z := HR5.out.slot hk4'
              obtain ⟨z5, hs5⟩ := hsl5
              have hf5 := HR5.out.box.frozen (1 + k)
              have hk5 := HR5.out.far (b := g5 + 1) (by omega) (HKC.out k hlk)
              rw [hkd] at hk5
              clear hb5 hsl hfz
              go_wp2
              go_roundw
              case rel => exact ⟨k + 1, by omega, by omega, by go_num, HR5.out.set hk4' HV.out.symm⟩
              case measure => simp [intOf]; omega
        · have hz2 : ¬ (1 : Int) < (t.size : Int) := by omega
          have htl : ¬ 1 < t.data.toList.length := by rw [Array.length_toList]; exact hz1
          have hfk2 : f k = rnumOf t.data.toList := by rw [hfk, rnumAt, if_neg hc, if_neg (fun e => htl e.1), if_neg (fun e => htl e.1)]
          have HNUM := Lib.hid (fun w => rnum_any t w)
          have HV := Lib.hid hfk2
          clear hfk hfk2 hc htl
          go_wp2_with fail
          refine (HNUM.out _).mono ?_
          rintro e w5 ⟨rfl, hb5⟩
          have HR5 := Lib.hid (HRK.out.up hb5)
          have hsl5 : ∃ z, w5.cell? ⟨g5, 1 + k, none⟩ = some z := HR5.out.slot hk4'
          obtain ⟨z5, hs5⟩ := hsl5
          have hf5 := HR5.out.box.frozen (1 + k)
          have hk5 := HR5.out.far (b := g5 + 1) (by omega) (HKC.out k hlk)
          rw [hkd] at hk5
          clear hb5 hsl hfz
          go_wp2
          go_roundw
          case rel => exact ⟨k + 1, by omega, by omega, by go_num, HR5.out.set hk4' HV.out.symm⟩
          case measure => simp [intOf]; omega
    · have hend : ∀ j, k ≤ j → j < 4 → f j = 0 := fun j hj _ => by
        rw [HFF.out, rAt, HLEN.out, if_neg (fun e => hlt ⟨Nat.lt_of_le_of_lt hj e.1, Nat.lt_of_le_of_lt (Nat.succ_le_succ hj) e.2⟩)]
      by_cases hkn' : k < n
      · have j1 : (k : Int) < (n : Int) := by omega
        have j3 : ¬ (k : Int) + 1 < (W.length : Int) := by omega
        have hb5 := HRK.out.box
        rw [laidR_end op f k hend] at hb5
        have hz : Box wr w.heap.size 71 #[.int .i64 0, .int .i64 0, .int .i64 0, .int .i64 0, .int .i64 0] := (HRK.out.fr.block _ HZ4.out.lt hg5z).trans HZ4.out
        have hbl : Below w.heap.size w wr := HB4.out.trans (HRK.out.fr.below HB4.out.size (fun b e => by subst e; exact HG5B.out))
        have hpar : rparse s.data.toList = if s.data.toList = [] ∨ textOf op [f 0, f 1, f 2, f 3] ≠ s.data.toList then none else some (op, [f 0, f 1, f 2, f 3]) := HPAR.out
        obtain ⟨a0, ha0⟩ : ∃ x, f 0 = x := ⟨_, rfl⟩
        obtain ⟨a1, ha1⟩ : ∃ x, f 1 = x := ⟨_, rfl⟩
        obtain ⟨a2, ha2⟩ : ∃ x, f 2 = x := ⟨_, rfl⟩
        obtain ⟨a3, ha3⟩ : ∃ x, f 3 = x := ⟨_, rfl⟩
        rw [ha0, ha1, ha2, ha3] at hb5 hpar
        clear ha0 ha1 ha2 ha3 hend HRK
        have HBL := Lib.hid hbl
        have HB5 := Lib.hid hb5
        have HZ5 := Lib.hid hz
        clear hbl hb5 hz HPAR HZ4 HB4 HRP HI4
        by_cases he : s.data.toList = []
        · have hnone : rparse s.data.toList = none := by rw [hpar, if_pos (.inl he)]
          have he2 : s.toList.isEmpty = true := by rw [ByteArray.toList_eq, he]; rfl
          have he3 : s.toList = [] := by rw [ByteArray.toList_eq, he]
          have HNONE := Lib.hid hnone
          have z0 := HZ5.out.cell 0
          have z1 := HZ5.out.cell 1
          have z2 := HZ5.out.cell 2
          have z3 := HZ5.out.cell 3
          have z4 := HZ5.out.cell 4
          have y0 := HZ5.out.frozen 0
          have y1 := HZ5.out.frozen 1
          have y2 := HZ5.out.frozen 2
          have y3 := HZ5.out.frozen 3
          have y4 := HZ5.out.frozen 4
          clear hnone hpar he
          go_wp2
          exact ret_store5 HZ5.out (fun W h0 h1 h2 h3 h4 => by simp [results, Tryz.results107, go_sem, h0, h1, h2, h3, h4]) (fun W hb hf => rparse_no HNONE.out (HBL.out.trans hf))
        · have he2 : s.toList.isEmpty = false := by
            rw [ByteArray.toList_eq, List.isEmpty_eq_false_iff]
            exact he
          have htext := rtext_any op a0 a1 a2 a3 wr
          have c0 := HB5.out.cell 0
          have c1 := HB5.out.cell 1
          have c2 := HB5.out.cell 2
          have c3 := HB5.out.cell 3
          have c4 := HB5.out.cell 4
          by_cases ht : textOf op [a0, a1, a2, a3] = s.data.toList
          · have hyes : rparse s.data.toList = some (op, [a0, a1, a2, a3]) := by rw [hpar, if_neg (by simp [he, ht])]
            rw [ht, str_bs] at htext
            unfold insV at htext
            have HYES := Lib.hid hyes
            have HT := Lib.hid htext
            clear hyes htext hpar he ht
            go_wp2_with fail
            refine HT.out.mono ?_
            rintro e w6 ⟨rfl, hb6⟩
            have hz6 := HZ5.out.below hb6 HZ5.out.lt
            have hb56 := HB5.out.below hb6 HB5.out.lt
            have HBL6 := Lib.hid (HBL.out.trans (hb6.mono HBL.out.size))
            have d0 := hb56.cell 0
            have d1 := hb56.cell 1
            have d2 := hb56.cell 2
            have d3 := hb56.cell 3
            have d4 := hb56.cell 4
            have z0 := hz6.cell 0
            have z1 := hz6.cell 1
            have z2 := hz6.cell 2
            have z3 := hz6.cell 3
            have z4 := hz6.cell 4
            have y0 := hz6.frozen 0
            have y1 := hz6.frozen 1
            have y2 := hz6.frozen 2
            have y3 := hz6.frozen 3
            have y4 := hz6.frozen 4
            have HZ6 := Lib.hid hz6
            clear hz6 hb56 hb6 c0 c1 c2 c3 c4
            go_wp2
            exact ret_store5 HZ6.out (fun W h0 h1 h2 h3 h4 => by simp [results, Tryz.results107, go_sem, h0, h1, h2, h3, h4]) (fun W hb hf => rparse_yes HYES.out (HBL6.out.trans hf))
          · have hnone : rparse s.data.toList = none := by rw [hpar, if_pos (.inr ht)]
            have hne : ¬ bs (textOf op [a0, a1, a2, a3]) = s := fun e => ht (by rw [← e, bs_data])
            generalize bs (textOf op [a0, a1, a2, a3]) = t at htext hne
            have hne2 := ne_strs hne
            unfold insV at htext
            have HNONE := Lib.hid hnone
            have HT := Lib.hid htext
            clear hnone htext hpar he ht hne
            go_wp2_with fail
            refine HT.out.mono ?_
            rintro e w6 ⟨rfl, hb6⟩
            have hz6 := HZ5.out.below hb6 HZ5.out.lt
            have HBL6 := Lib.hid (HBL.out.trans (hb6.mono HBL.out.size))
            have z0 := hz6.cell 0
            have z1 := hz6.cell 1
            have z2 := hz6.cell 2
            have z3 := hz6.cell 3
            have z4 := hz6.cell 4
            have y0 := hz6.frozen 0
            have y1 := hz6.frozen 1
            have y2 := hz6.frozen 2
            have y3 := hz6.frozen 3
            have y4 := hz6.frozen 4
            have HZ6 := Lib.hid hz6
            clear hz6 hb6 c0 c1 c2 c3 c4
            go_wp2
            exact ret_store5 HZ6.out (fun W h0 h1 h2 h3 h4 => by simp [results, Tryz.results107, go_sem, h0, h1, h2, h3, h4]) (fun W hb hf => rparse_no HNONE.out (HBL6.out.trans hf))
      · have j1 : ¬ (k : Int) < (n : Int) := by omega
        have hb5 := HRK.out.box
        rw [laidR_end op f k hend] at hb5
        have hz : Box wr w.heap.size 71 #[.int .i64 0, .int .i64 0, .int .i64 0, .int .i64 0, .int .i64 0] := (HRK.out.fr.block _ HZ4.out.lt hg5z).trans HZ4.out
        have hbl : Below w.heap.size w wr := HB4.out.trans (HRK.out.fr.below HB4.out.size (fun b e => by subst e; exact HG5B.out))
        have hpar : rparse s.data.toList = if s.data.toList = [] ∨ textOf op [f 0, f 1, f 2, f 3] ≠ s.data.toList then none else some (op, [f 0, f 1, f 2, f 3]) := HPAR.out
        obtain ⟨a0, ha0⟩ : ∃ x, f 0 = x := ⟨_, rfl⟩
        obtain ⟨a1, ha1⟩ : ∃ x, f 1 = x := ⟨_, rfl⟩
        obtain ⟨a2, ha2⟩ : ∃ x, f 2 = x := ⟨_, rfl⟩
        obtain ⟨a3, ha3⟩ : ∃ x, f 3 = x := ⟨_, rfl⟩
        rw [ha0, ha1, ha2, ha3] at hb5 hpar
        clear ha0 ha1 ha2 ha3 hend HRK
        have HBL := Lib.hid hbl
        have HB5 := Lib.hid hb5
        have HZ5 := Lib.hid hz
        clear hbl hb5 hz HPAR HZ4 HB4 HRP HI4
        by_cases he : s.data.toList = []
        · have hnone : rparse s.data.toList = none := by rw [hpar, if_pos (.inl he)]
          have he2 : s.toList.isEmpty = true := by rw [ByteArray.toList_eq, he]; rfl
          have he3 : s.toList = [] := by rw [ByteArray.toList_eq, he]
          have HNONE := Lib.hid hnone
          have z0 := HZ5.out.cell 0
          have z1 := HZ5.out.cell 1
          have z2 := HZ5.out.cell 2
          have z3 := HZ5.out.cell 3
          have z4 := HZ5.out.cell 4
          have y0 := HZ5.out.frozen 0
          have y1 := HZ5.out.frozen 1
          have y2 := HZ5.out.frozen 2
          have y3 := HZ5.out.frozen 3
          have y4 := HZ5.out.frozen 4
          clear hnone hpar he
          go_wp2
          exact ret_store5 HZ5.out (fun W h0 h1 h2 h3 h4 => by simp [results, Tryz.results107, go_sem, h0, h1, h2, h3, h4]) (fun W hb hf => rparse_no HNONE.out (HBL.out.trans hf))
        · have he2 : s.toList.isEmpty = false := by
            rw [ByteArray.toList_eq, List.isEmpty_eq_false_iff]
            exact he
          have htext := rtext_any op a0 a1 a2 a3 wr
          have c0 := HB5.out.cell 0
          have c1 := HB5.out.cell 1
          have c2 := HB5.out.cell 2
          have c3 := HB5.out.cell 3
          have c4 := HB5.out.cell 4
          by_cases ht : textOf op [a0, a1, a2, a3] = s.data.toList
          · have hyes : rparse s.data.toList = some (op, [a0, a1, a2, a3]) := by rw [hpar, if_neg (by simp [he, ht])]
            rw [ht, str_bs] at htext
            unfold insV at htext
            have HYES := Lib.hid hyes
            have HT := Lib.hid htext
            clear hyes htext hpar he ht
            go_wp2_with fail
            refine HT.out.mono ?_
            rintro e w6 ⟨rfl, hb6⟩
            have hz6 := HZ5.out.below hb6 HZ5.out.lt
            have hb56 := HB5.out.below hb6 HB5.out.lt
            have HBL6 := Lib.hid (HBL.out.trans (hb6.mono HBL.out.size))
            have d0 := hb56.cell 0
            have d1 := hb56.cell 1
            have d2 := hb56.cell 2
            have d3 := hb56.cell 3
            have d4 := hb56.cell 4
            have z0 := hz6.cell 0
            have z1 := hz6.cell 1
            have z2 := hz6.cell 2
            have z3 := hz6.cell 3
            have z4 := hz6.cell 4
            have y0 := hz6.frozen 0
            have y1 := hz6.frozen 1
            have y2 := hz6.frozen 2
            have y3 := hz6.frozen 3
            have y4 := hz6.frozen 4
            have HZ6 := Lib.hid hz6
            clear hz6 hb56 hb6 c0 c1 c2 c3 c4
            go_wp2
            exact ret_store5 HZ6.out (fun W h0 h1 h2 h3 h4 => by simp [results, Tryz.results107, go_sem, h0, h1, h2, h3, h4]) (fun W hb hf => rparse_yes HYES.out (HBL6.out.trans hf))
          · have hnone : rparse s.data.toList = none := by rw [hpar, if_pos (.inr ht)]
            have hne : ¬ bs (textOf op [a0, a1, a2, a3]) = s := fun e => ht (by rw [← e, bs_data])
            generalize bs (textOf op [a0, a1, a2, a3]) = t at htext hne
            have hne2 := ne_strs hne
            unfold insV at htext
            have HNONE := Lib.hid hnone
            have HT := Lib.hid htext
            clear hnone htext hpar he ht hne
            go_wp2_with fail
            refine HT.out.mono ?_
            rintro e w6 ⟨rfl, hb6⟩
            have hz6 := HZ5.out.below hb6 HZ5.out.lt
            have HBL6 := Lib.hid (HBL.out.trans (hb6.mono HBL.out.size))
            have z0 := hz6.cell 0
            have z1 := hz6.cell 1
            have z2 := hz6.cell 2
            have z3 := hz6.cell 3
            have z4 := hz6.cell 4
            have y0 := hz6.frozen 0
            have y1 := hz6.frozen 1
            have y2 := hz6.frozen 2
            have y3 := hz6.frozen 3
            have y4 := hz6.frozen 4
            have HZ6 := Lib.hid hz6
            clear hz6 hb6 c0 c1 c2 c3 c4
            go_wp2
            exact ret_store5 HZ6.out (fun W h0 h1 h2 h3 h4 => by simp [results, Tryz.results107, go_sem, h0, h1, h2, h3, h4]) (fun W hb hf => rparse_no HNONE.out (HBL6.out.trans hf))

theorem refparse_any (s : ByteArray) (hs : s.size ≤ 100000) (w : World) :
    Calls Tryz.prog 107 #[.string s] w (RParseRes w (rparse s.data.toList)) := by
  by_cases ho : opsOf (rOp s.data.toList) = []
  · exact refparse_none s hs _ rfl ho w
  · exact refparse_some s hs _ rfl _ rfl (List.length_pos_iff.2 ho) w

end Go.Proofs.YtfgnapfodnhppaaGreatDoor
