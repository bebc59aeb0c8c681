/-
  An instruction as a line: the program's instrLine. Conditions: names of at most a million bytes, an instruction that may be, whose operands are in the tables.
-/
import Derived.Test.YtclkdlegogjnbaaGreatDoorQ48
namespace Go.Proofs.YtclkdlegogjnbaaGreatDoor
open Go Go.RowKit Go.WideShapes Go.ChangeShapes
set_option linter.unusedVariables false
set_option linter.unusedSimpArgs false

def wordL (o : Ob) (kind n : Int) : List UInt8 := if isNamedB kind (wordOf kind n) = true then namedW o kind n else wordOf kind n
def wordsI (i : Ins) : List (List UInt8) := (List.range (opsOf i.1).length).map fun j => wordOf ((opsOf i.1).getD j 0) ((argOf i).getD j 0)
def lineWs (o : Ob) (i : Ins) : List (List UInt8) := (List.range (opsOf i.1).length).map fun j => wordL o ((opsOf i.1).getD j 0) ((argOf i).getD j 0)
/-- An instruction as a line. -/
def lineL (o : Ob) (i : Ins) : List UInt8 := (nameOf i.1).data.toList ++ (lineWs o i).flatMap (32 :: ·)

theorem count_join : ∀ (ws : List (List UInt8)) (w0 : List UInt8), noBlank w0 → (∀ w ∈ ws, noBlank w) → Lib.count (w0 ++ ws.flatMap (32 :: ·)) [32] = ws.length
  | [], w0, h0, _ => by
    simp only [List.flatMap_nil, List.append_nil]
    exact Lib.count_miss (index_miss h0)
  | w :: ws, w0, h0, h => by
    have ih := count_join ws w (h w (by simp)) (fun u hu => h u (by simp [hu]))
    have e : w0 ++ (w :: ws).flatMap (32 :: ·) = w0 ++ 32 :: (w ++ ws.flatMap (32 :: ·)) := by simp
    rw [e, Lib.count_hit (by simp) (index_hit _ h0), ← List.drop_drop, List.drop_left]
    show 1 + Lib.count (w ++ ws.flatMap (32 :: ·)) [32] = _
    rw [ih, List.length_cons]
    omega
theorem text_words {i : Ins} (h : rightB i.1 (argOf i) = true) : textOf i.1 (argOf i) = (nameOf i.1).data.toList ++ (wordsI i).flatMap (32 :: ·) := by
  rw [textOf, if_pos h, tail_flat]
  rfl
theorem nameOf_noBlank (op : Int) : noBlank (nameOf op).data.toList := by
  unfold nameOf
  split
  · rename_i h
    intro c hc e
    subst e
    have := name_noBlank op.toNat (by omega)
    simp [hc] at this
  · intro c hc
    simp at hc
theorem wordsI_noBlank {i : Ins} (h : rightB i.1 (argOf i) = true) : ∀ w ∈ wordsI i, noBlank w := by
  intro w hw
  obtain ⟨j, hj, rfl⟩ := List.mem_map.1 hw
  have hj := List.mem_range.1 hj
  have hkd := ops_kind i.1 j
  have hfew := ops_few i.1
  exact (back_at hkd.1 hkd.2 (may_valid hj (right_at h j (by omega)))).2
theorem wordsI_len (i : Ins) : (wordsI i).length = (opsOf i.1).length := by simp [wordsI]
theorem lineWs_len (o : Ob) (i : Ins) : (lineWs o i).length = (opsOf i.1).length := by simp [lineWs]
theorem namedW_len {o : Ob} (hn : NamesWf o) (kind n : Int) (h0 : 0 ≤ n) (h1 : n ≤ 4000000) : (namedW o kind n).length ≤ 1000100 := by
  have hl : ∀ s : ByteArray, s.data.toList.length = s.size := fun s => by rw [Array.length_toList]; rfl
  have hf : ∀ (f : ByteArray) (m : Int), f.size ≤ 1000000 → -9223372036854775808 ≤ m → m ≤ 9223372036854775807 → (funW (f, m)).length ≤ 1000100 := fun f m a b c => by
    have := Lib.itoa_length_le m b c
    have := hl f
    simp only [funW, List.length_append, List.length_cons]
    omega
  unfold namedW
  split
  · rw [hl, List.getD_eq_getElem?_getD]
    cases e : o.atoms[n.toNat]? with
    | none => decide
    | some s => have := hn.atoms s (List.mem_of_getElem? e); simp only [Option.getD_some]; omega
  · split
    · rw [List.getD_eq_getElem?_getD]
      cases e : o.funs[n.toNat]? with
      | none => exact hf _ _ (by decide) (by decide) (by decide)
      | some f => have := hn.funs f (List.mem_of_getElem? e); exact hf _ _ this.1 this.2.1 this.2.2
    · split
      · rw [List.getD_eq_getElem?_getD]
        cases e : o.preds[n.toNat]? with
        | none => exact hf _ _ (by decide) (by decide) (by decide)
        | some f => have := hn.preds f (List.mem_of_getElem? e); exact hf _ _ this.1 this.2.1 this.2.2
      · have := Lib.itoa_length_le n (by omega) (by omega)
        simp only [List.length_cons]
        omega
theorem wordL_len {o : Ob} (hn : NamesWf o) (kind n : Int) (h0 : 0 ≤ n) (h1 : n ≤ 65535) : (wordL o kind n).length ≤ 1000100 := by
  unfold wordL
  split
  · exact namedW_len hn kind n h0 (by omega)
  · have := wordOf_len kind n h0 h1
    omega

/-- The words' loop in memory: the object, the instruction, the words (gw), the kinds (gl). -/
structure Il (w wr : World) (go gi gw gl : Nat) (pl : Option Addr) (cs : Array Value) (i : Ins) (L : List Int) (us : List (List UInt8)) : Prop where
  ob : Box wr go 39 cs
  ib : Box wr gi 52 (insC i).toArray
  wb : Box wr gw 9 (us.map fun u => Value.string (bs u)).toArray
  lb : 0 < L.length → pl = some ⟨gl, 0, none⟩ ∧ Box wr gl 3 (L.map (Value.int .i64)).toArray
  ne : gw ≠ go ∧ gw ≠ gi ∧ (0 < L.length → gw ≠ gl)
  ge : w.heap.size ≤ gw
  below : Below w.heap.size w wr
section
variable {w wr w' : World} {go gi gw gl : Nat} {pl : Option Addr} {cs : Array Value} {i : Ins} {L : List Int} {us : List (List UInt8)}
theorem Il.goes (h : Il w wr go gi gw gl pl cs i L us) (hb : Below wr.heap.size wr w') : Il w w' go gi gw gl pl cs i L us :=
  ⟨h.ob.below hb h.ob.lt, h.ib.below hb h.ib.lt, h.wb.below hb h.wb.lt, fun hl => ⟨(h.lb hl).1, (h.lb hl).2.below hb (h.lb hl).2.lt⟩, h.ne, h.ge, h.below.trans (hb.mono h.below.size)⟩
theorem Il.put (h : Il w wr go gi gw gl pl cs i L us) (k : Nat) (x : List UInt8) : Il w (wr.setCell ⟨gw, k, none⟩ (.string (bs x))) go gi gw gl pl cs i L (us.set k x) := by
  refine ⟨h.ob.far (p := ⟨gw, k, none⟩) (fun e => h.ne.1 e.symm) _, h.ib.far (p := ⟨gw, k, none⟩) (fun e => h.ne.2.1 e.symm) _, ?_, fun hl => ⟨(h.lb hl).1, (h.lb hl).2.far (p := ⟨gw, k, none⟩) (fun e => h.ne.2.2 hl e.symm) _⟩, h.ne, h.ge, h.below.setCell (p := ⟨gw, k, none⟩) h.ge _⟩
  have h2 := h.wb.set_ k (.string (bs x))
  have e : (us.map fun u => Value.string (bs u)).toArray.setIfInBounds k (.string (bs x)) = ((us.set k x).map fun u => Value.string (bs u)).toArray := by
    rw [List.map_set]
    apply Array.ext'
    simp
  rw [← e]
  exact h2
end
theorem mix_put {A B : List (List UInt8)} {m : Nat} (a0 : List UInt8) (hA : m < A.length) (hB : A.length = B.length) : (a0 :: (A.take m ++ B.drop m)).set (m + 1) (A.getD m []) = a0 :: (A.take (m + 1) ++ B.drop (m + 1)) := by
  rw [List.set_cons_succ, List.drop_eq_getElem_cons (show m < B.length by omega), List.set_append_right _ _ (by simp; omega)]
  rw [List.length_take, Nat.min_eq_left (by omega), Nat.sub_self, List.set_cons_zero, List.take_succ_eq_append_getElem hA, List.getD_eq_getElem?_getD, List.getElem?_eq_getElem hA]
  simp only [Option.getD_some, List.append_assoc, List.singleton_append]
theorem mix_keep {A B : List (List UInt8)} {m : Nat} (a0 : List UInt8) (hA : m < A.length) (hB : A.length = B.length) (he : A.getD m [] = B.getD m []) : a0 :: (A.take m ++ B.drop m) = a0 :: (A.take (m + 1) ++ B.drop (m + 1)) := by
  rw [List.getD_eq_getElem?_getD, List.getElem?_eq_getElem hA, List.getD_eq_getElem?_getD, List.getElem?_eq_getElem (show m < B.length by omega)] at he
  simp only [Option.getD_some] at he
  rw [List.drop_eq_getElem_cons (show m < B.length by omega), List.take_succ_eq_append_getElem hA, he]
  simp
theorem mix_at {A B : List (List UInt8)} {m : Nat} (a0 : List UInt8) (hA : m < A.length) (hB : A.length = B.length) : ((a0 :: (A.take m ++ B.drop m)).map fun u => Value.string (bs u)).toArray[m + 1]? = some (.string (bs (B.getD m []))) := by
  rw [List.getElem?_toArray, List.getElem?_map, List.getElem?_cons_succ, List.getElem?_append_right (by simp; omega), List.length_take, Nat.min_eq_left (by omega), Nat.sub_self, List.getElem?_drop, Nat.add_zero, List.getElem?_eq_getElem (show m < B.length by omega), List.getD_eq_getElem?_getD, List.getElem?_eq_getElem (show m < B.length by omega)]
  rfl

theorem ins_at (i : Ins) (m : Nat) (hm : m < 4) : (insC i).toArray[1 + m]? = some (.int .i64 ((argOf i).getD m 0)) := by
  match m, hm with
  | 0, _ => rfl
  | 1, _ => rfl
  | 2, _ => rfl
  | 3, _ => rfl
theorem inamed_kind {kind : Int} {w : List UInt8} (h : isNamedB kind w = true) : kind = 3 ∨ kind = 4 ∨ kind = 7 ∨ kind = 8 := by
  rcases of_decide_eq_true h with h | h | h | h
  · exact .inl h
  · exact .inr (.inl h)
  · exact .inr (.inr (.inl h))
  · exact .inr (.inr (.inr h.1))
theorem splitAll_any (y0 : List UInt8) (ws : List (List UInt8)) (h0 : noBlank y0) (h : ∀ w ∈ ws, noBlank w) (hs : (y0 ++ ws.flatMap (32 :: ·)).length ≤ 100000) (w : World) {B : Nat} (hp : LaidC B w) :
    Calls Tryz.prog 69 #[.string (bs (y0 ++ ws.flatMap (32 :: ·))), .string ⟨#[32]⟩] w fun e w' => e = .returned (.slice (some ⟨w.heap.size, 0, none⟩) (ws.length + 1) (ws.length + 1)) ∧ w.alloc (.cells ((y0 :: ws).map fun u => Value.string (bs u)).toArray 9) = w' := by
  obtain ⟨m, hm⟩ := hp.len
  have h1 := Tryz.strings_Split (bs (y0 ++ ws.flatMap (32 :: ·))) ⟨#[32]⟩ m w (by rw [bs_size]; omega) hm (by decide)
  have hc : Lib.countB (bs (y0 ++ ws.flatMap (32 :: ·))) ⟨#[32]⟩ = ws.length := by
    show Lib.count (bs (y0 ++ ws.flatMap (32 :: ·))).data.toList [32] = _
    rw [bs_data, count_join ws y0 h0 h]
  rw [hc] at h1
  have hW : (Lib.splitB ⟨#[32]⟩ 0 ws.length (bs (y0 ++ ws.flatMap (32 :: ·)))).map (·.data.toList) = y0 :: ws := by
    rw [Lib.splitB_data, bs_data]
    exact split_join ws y0 ws.length h0 h (Nat.le_refl _)
  have hV : (Lib.splitB ⟨#[32]⟩ 0 ws.length (bs (y0 ++ ws.flatMap (32 :: ·)))).map Value.string = (y0 :: ws).map fun u => Value.string (bs u) := by
    rw [← hW, List.map_map]
    refine List.map_congr_left fun b _ => ?_
    show Value.string b = Value.string (bs b.data.toList)
    rw [str_bs]
  rw [hV] at h1
  exact h1.mono fun e w' hx => ⟨hx.1, hx.2.symm⟩
theorem nameOf_small (op : Int) : (nameOf op).data.toList.length ≤ 20 := by
  unfold nameOf
  split
  · rename_i h
    have : ∀ k, k < 27 → (nameAt k).data.toList.length ≤ 20 := by decide
    exact this _ (by omega)
  · decide

set_option maxRecDepth 100000 in
set_option maxHeartbeats 16000000 in
theorem instrLine_any (o : Ob) (hn : NamesWf o) (i : Ins) (hr : rightB i.1 (argOf i) = true) (ht : ∀ j, j < (opsOf i.1).length → inTab o ((opsOf i.1).getD j 0) ((argOf i).getD j 0)) (va vf vp vc : Value) (w : World) {B : Nat} (hp : LaidC B w) (hv : ObAt w va vf vp vc o) :
    Calls Tryz.prog 46 #[.agg #[va, vf, vp, vc], insV i.1 i.2.1 i.2.2.1 i.2.2.2.1 i.2.2.2.2] w fun e w' => e = .returned (.string (bs (lineL o i))) ∧ Below w.heap.size w w' := by
  obtain ⟨A1, c1, rfl⟩ := hv.atoms.form
  obtain ⟨A2, c2, rfl⟩ := hv.funs.form
  obtain ⟨A3, c3, rfl⟩ := hv.preds.form
  obtain ⟨A4, c4, rfl⟩ := hv.code.form
  have hfew := ops_few i.1
  have HLN := Lib.hid (wordsI_len i)
  have HLS := Lib.hid (lineWs_len o i)
  have HWB := Lib.hid (wordsI_noBlank hr)
  have HNB := Lib.hid (nameOf_noBlank i.1)
  have HTX := Lib.hid (text_words hr)
  have HLL : Hid (lineL o i = (nameOf i.1).data.toList ++ (lineWs o i).flatMap (32 :: ·)) := Lib.hid rfl
  have HAT : Hid (∀ m, m < (opsOf i.1).length → (wordsI i).getD m [] = wordOf ((opsOf i.1).getD m 0) ((argOf i).getD m 0) ∧ (lineWs o i).getD m [] = wordL o ((opsOf i.1).getD m 0) ((argOf i).getD m 0)) := Lib.hid (fun m hm => by
    unfold wordsI lineWs
    simp [hm])
  have HSZ : Hid (∀ w ∈ lineWs o i, w.length ≤ 1000100) := Lib.hid (fun u hu => by
    obtain ⟨j, hj, rfl⟩ := List.mem_map.1 hu
    have hj := List.mem_range.1 hj
    have := may_bd (right_at hr j (by omega))
    exact wordL_len hn _ _ this.1 this.2)
  have HNS : Hid ((nameOf i.1).data.toList.length ≤ 20) := Lib.hid (nameOf_small i.1)
  have HTM := Lib.hid (fun w h => text_any i.1 i.2.1 i.2.2.1 i.2.2.2.1 i.2.2.2.2 w (B := B) h)
  have HOPS := Lib.hid (fun w => operands_any i.1 w)
  have HND := Lib.hid (fun kind n hk htt va vf vp vc w h1 h2 => named_anyL o hn kind n hk htt va vf vp vc w (B := B) h1 h2)
  have HT := Lib.hid ht
  have HV := Lib.hid hv
  have HIC := Lib.hid (fun m hm => ins_at i m hm)
  have HIZ : Hid ((insC i).toArray[0]? = some (.int .i64 i.1)) := Lib.hid rfl
  have HBW : Hid (∀ j, j < (opsOf i.1).length → 0 ≤ (argOf i).getD j 0 ∧ (argOf i).getD j 0 ≤ 65535) := Lib.hid (fun j hj => may_bd (right_at hr j (by omega)))
  have hb0 := two_below w (.cells #[.slice A1 o.atoms.length c1, .slice A2 o.funs.length c2, .slice A3 o.preds.length c3, .slice A4 o.code.length c4] 39) (.cells #[.int .i64 i.1, .int .i64 i.2.1, .int .i64 i.2.2.1, .int .i64 i.2.2.2.1, .int .i64 i.2.2.2.2] 52)
  have HB0 := Lib.hid hb0
  have HP := Lib.hid hp
  have HX0 := Lib.hid ((Box.new w 39 #[.slice A1 o.atoms.length c1, .slice A2 o.funs.length c2, .slice A3 o.preds.length c3, .slice A4 o.code.length c4]).alloc (.cells #[.int .i64 i.1, .int .i64 i.2.1, .int .i64 i.2.2.1, .int .i64 i.2.2.2.1, .int .i64 i.2.2.2.2] 52))
  have HX1 : Hid (Box ((w.alloc (.cells #[.slice A1 o.atoms.length c1, .slice A2 o.funs.length c2, .slice A3 o.preds.length c3, .slice A4 o.code.length c4] 39)).alloc (.cells #[.int .i64 i.1, .int .i64 i.2.1, .int .i64 i.2.2.1, .int .i64 i.2.2.2.1, .int .i64 i.2.2.2.2] 52)) (w.heap.size + 1) 52 #[.int .i64 i.1, .int .i64 i.2.1, .int .i64 i.2.2.1, .int .i64 i.2.2.2.1, .int .i64 i.2.2.2.2]) := Lib.hid (by
    have h := Box.new (w.alloc (.cells #[.slice A1 o.atoms.length c1, .slice A2 o.funs.length c2, .slice A3 o.preds.length c3, .slice A4 o.code.length c4] 39)) 52 #[.int .i64 i.1, .int .i64 i.2.1, .int .i64 i.2.2.1, .int .i64 i.2.2.2.1, .int .i64 i.2.2.2.2]
    rw [World.size_alloc] at h
    exact h)
  have HIA : Hid ((insC i).toArray = #[.int .i64 i.1, .int .i64 i.2.1, .int .i64 i.2.2.1, .int .i64 i.2.2.2.1, .int .i64 i.2.2.2.2]) := Lib.hid rfl
  obtain ⟨w1, hw1⟩ : ∃ w1, (w.alloc (.cells #[.slice A1 o.atoms.length c1, .slice A2 o.funs.length c2, .slice A3 o.preds.length c3, .slice A4 o.code.length c4] 39)).alloc (.cells #[.int .i64 i.1, .int .i64 i.2.1, .int .i64 i.2.2.1, .int .i64 i.2.2.2.1, .int .i64 i.2.2.2.2] 52) = w1 := ⟨_, rfl⟩
  unfold insV
  clear hr ht hv hb0 hp
  go_enter Tryz.func46, Tryz.ntmps46
  go_upto_region 1 with (fail)
  rw [hw1] at HB0 HX0 HX1
  have g0 : w1.cell? ⟨w.heap.size + 1, 0, none⟩ = some (.int .i64 i.1) := HX1.out.cell 0
  have g1 : w1.cell? ⟨w.heap.size + 1, 1, none⟩ = some (.int .i64 i.2.1) := HX1.out.cell 1
  have g2 : w1.cell? ⟨w.heap.size + 1, 2, none⟩ = some (.int .i64 i.2.2.1) := HX1.out.cell 2
  have g3 : w1.cell? ⟨w.heap.size + 1, 3, none⟩ = some (.int .i64 i.2.2.2.1) := HX1.out.cell 3
  have g4 : w1.cell? ⟨w.heap.size + 1, 4, none⟩ = some (.int .i64 i.2.2.2.2) := HX1.out.cell 4
  rw [← HIA.out] at HX1
  have HSP := Lib.hid (fun w h => splitAll_any (nameOf i.1).data.toList (wordsI i) HNB.out HWB.out (by
    have h1 := flatw_len (wordsI i) 30 (fun u hu => by
      obtain ⟨j, hj, rfl⟩ := List.mem_map.1 hu
      have hj := List.mem_range.1 hj
      have hb := HBW.out j hj
      have := wordOf_len ((opsOf i.1).getD j 0) ((argOf i).getD j 0) hb.1 hb.2
      omega)
    have h2 := HNS.out
    have h3 : (wordsI i).length * (30 + 1) ≤ 4 * 31 := Nat.mul_le_mul_right _ (by rw [HLN.out]; exact hfew)
    rw [List.length_append]
    omega) w (B := B) h)
  rw [HLN.out] at HSP
  obtain ⟨arr, harr⟩ : ∃ arr, (((nameOf i.1).data.toList :: wordsI i).map fun u => Value.string (bs u)).toArray = arr := ⟨_, rfl⟩
  have HARR := Lib.hid harr
  rw [harr] at HSP
  clear harr
  have HTM2 : Hid (∀ W : World, LaidC B W → Calls Tryz.prog 70 #[.agg #[.int .i64 i.1, .int .i64 i.2.1, .int .i64 i.2.2.1, .int .i64 i.2.2.2.1, .int .i64 i.2.2.2.2]] W fun e w' => e = .returned (.string (bs ((nameOf i.1).data.toList ++ (wordsI i).flatMap (32 :: ·)))) ∧ Below W.heap.size W w') := Lib.hid (fun W h => by rw [← HTX.out]; exact HTM.out W h)
  have HP1 := Lib.hid (HP.out.up HB0.out)
  clear HTM HTX HWB HNB HIA hw1
  go_upto_region 3 with (first
    | (go_at_call 70; refine (HTM2.out _ HP1.out).mono ?_; rintro e w2 ⟨rfl, hb2⟩; have HB2 := Lib.hid hb2; clear hb2)
    | (go_at_call 69; refine (HSP.out _ (HP1.out.up HB2.out)).mono ?_; rintro e w3 ⟨rfl, rfl⟩; have n0 := (((HX1.out.below HB2.out HX1.out.lt).alloc (.cells arr 9)).cell 0).trans (by rw [HIZ.out]))
    | (go_at_call 55; refine (HOPS.out _).mono ?_; rintro e w4 hN; obtain ⟨pl, rfl, hb4, hl4⟩ := newInts_any9 hN; have HB4 := Lib.hid hb4; have HL4 := Lib.hid hl4; clear hN hb4 hl4))
  obtain ⟨w5, hw5⟩ : ∃ w5, w2.alloc (.cells arr 9) = w5 := ⟨_, rfl⟩
  have HB5 := Lib.hid (HB2.out.alloc HB2.out.size (.cells arr 9))
  have HW5 := Lib.hid (Box.new w2 9 arr)
  rw [hw5] at HB4 HL4 HB5 HW5
  obtain ⟨gl, hgl⟩ : ∃ gl, w5.heap.size = gl := ⟨_, rfl⟩
  obtain ⟨gw, hgw⟩ : ∃ gw, w2.heap.size = gw := ⟨_, rfl⟩
  obtain ⟨go, hgo⟩ : ∃ go, w.heap.size = go := ⟨_, rfl⟩
  have HG : Hid (go + 1 < gw ∧ gw < gl) := Lib.hid (by
    have a1 := HX1.out.lt
    have a2 := HB2.out.size
    have a3 := HW5.out.lt
    omega)
  rw [hgl] at HL4
  rw [hgw] at HW5 ⊢
  have HI4 : Hid (Il w w4 go (go + 1) gw gl pl #[.slice A1 o.atoms.length c1, .slice A2 o.funs.length c2, .slice A3 o.preds.length c3, .slice A4 o.code.length c4] i (opsOf i.1) ((nameOf i.1).data.toList :: wordsI i)) := Lib.hid (by
    have hb14 := HB5.out.trans (HB4.out.mono HB5.out.size)
    have hg := HG.out
    refine ⟨by rw [← hgo]; exact HX0.out.below hb14 HX0.out.lt, by rw [← hgo]; exact HX1.out.below hb14 HX1.out.lt, ?_, HL4.out, ⟨by omega, by omega, fun _ => by omega⟩, by omega, HB0.out.trans (hb14.mono HB0.out.size)⟩
    rw [HARR.out]
    exact HW5.out.below HB4.out HW5.out.lt)
  rw [hgo]
  clear hw5 hgl hgw hgo HB4 HL4 HB5 HW5 n0 g0 g1 g2 g3 g4 HX0 HX1 HSP HTM2 HOPS HP1 HB2 HARR
  have HKD : Hid (∀ m, m < (opsOf i.1).length → wordL o ((opsOf i.1).getD m 0) ((argOf i).getD m 0) = if isNamedB ((opsOf i.1).getD m 0) (wordOf ((opsOf i.1).getD m 0) ((argOf i).getD m 0)) = true then namedW o ((opsOf i.1).getD m 0) ((argOf i).getD m 0) else wordOf ((opsOf i.1).getD m 0) ((argOf i).getD m 0)) := Lib.hid (fun m hm => rfl)
  generalize opsOf i.1 = L at hfew HLN HLS HAT HT HBW HI4 HKD ⊢
  generalize wordsI i = Wd at HLN HAT HI4 ⊢
  generalize lineWs o i = Wl at HLS HAT HSZ HLL
  generalize (nameOf i.1).data.toList = n0 at HNS HLL HI4 ⊢
  go_wp2
  go_loopw [6, 7, 15] (fun _ _ j wr => ∃ m : Nat, m ≤ L.length ∧ j = .int .i64 m ∧ Hid (Il w wr go (go + 1) gw gl pl #[.slice A1 o.atoms.length c1, .slice A2 o.funs.length c2, .slice A3 o.preds.length c3, .slice A4 o.code.length c4] i L (n0 :: (Wl.take m ++ Wd.drop m)))) (fun _ _ j _ => L.length - (intOf j).toNat)
  case atStart => exact ⟨0, by omega, rfl, Lib.hid (by simpa using HI4.out)⟩
  obtain ⟨m, hmL, rfl, HI⟩ := hrel
  clear HI4
  by_cases hlm : m < L.length
  case neg =>
    obtain rfl : m = L.length := by omega
    have hUS : n0 :: (Wl.take L.length ++ Wd.drop L.length) = n0 :: Wl := by
      rw [List.take_of_length_le (by rw [HLS.out]; exact Nat.le_refl _), List.drop_of_length_le (by rw [HLN.out]; exact Nat.le_refl _), List.append_nil]
    rw [hUS] at HI
    have he : ((n0 :: Wl).map bs).map (fun b => b.data.toList) = n0 :: Wl := by
      rw [List.map_map]
      conv => rhs; rw [← List.map_id (n0 :: Wl)]
      exact List.map_congr_left fun a _ => bs_data a
    have hjn : (Lib.join (n0 :: Wl) [32]) = lineL o i := by rw [join_flat, HLL.out]
    have HJ := Lib.hid (Tryz.strings_Join gw 0 (L.length + 1) ((n0 :: Wl).map bs) ⟨#[32]⟩ wr (by
      intro j v hj
      rw [Nat.zero_add, HI.out.wb.cell j, List.getElem?_toArray, show ((n0 :: Wl).map fun u => Value.string (bs u)) = ((n0 :: Wl).map bs).map Value.string by rw [List.map_map]; rfl, List.getElem?_map, hj]
      rfl) HI.out.wb.lt (by simp; have := HLS.out; omega) (by simp; have := HLS.out; omega) (by
      rw [he]
      show (Lib.join (n0 :: Wl) [32]).length ≤ _
      rw [join_flat, List.length_append]
      have h1 := flatw_len Wl 1000100 HSZ.out
      have h2 := HNS.out
      have h3 : Wl.length * (1000100 + 1) ≤ 4 * 1000101 := Nat.mul_le_mul_right _ (by rw [HLS.out]; exact hfew)
      omega))
    rw [he, show ((n0 :: Wl).map bs).length = L.length + 1 by simp; exact HLS.out, show (ByteArray.mk #[32]).data.toList = [32] from rfl, hjn] at HJ
    clear he hjn hUS
    go_wp2_with (go_at_call 73; refine HJ.out.mono ?_; rintro e w6 ⟨rfl, hb6⟩; have HI6 := Lib.hid (HI.out.goes hb6); clear hb6)
    go_ret
    exact ⟨rfl, HI6.out.below⟩
  case pos =>
  obtain ⟨rfl, hbl⟩ := HI.out.lb (by omega)
  have hkd : wr.cell? ⟨gl, m, none⟩ = some (.int .i64 (L.getD m 0)) := by rw [hbl.cell m]; simp [hlm]
  have hwA : m < Wl.length := by rw [HLS.out]; exact hlm
  have hwB : Wl.length = Wd.length := by rw [HLS.out, HLN.out]
  have hwd := (HI.out.wb.cell (m + 1)).trans (mix_at n0 hwA hwB)
  have hwf := HI.out.wb.frozen (m + 1)
  have hcc := (HI.out.ib.cell (1 + m)).trans (HIC.out m (by omega))
  obtain ⟨hA1, hA2⟩ := HAT.out m hlm
  have hkk := HKD.out m hlm
  have htt := HT.out m hlm
  have hm4 : (m : Int) < 4 := by omega
  have hm0 : (0 : Int) ≤ (m : Int) := by omega
  have hmN : (m : Int) + 1 < ((L.length + 1 : Nat) : Int) := by omega
  have hmN2 : m + 1 < L.length + 1 := by omega
  have q0 := HI.out.ob.cell 0
  have q1 := HI.out.ob.cell 1
  have q2 := HI.out.ob.cell 2
  have q3 := HI.out.ob.cell 3
  have HIN := Lib.hid (fun w => isNamed_any (L.getD m 0) (bs (Wd.getD m [])) w)
  rw [bs_data, hA1] at HIN
  rw [hA1] at hwd
  have HMX := Lib.hid (mix_at n0 hwA hwB)
  rw [hA1] at HMX
  have HKP := Lib.hid (fun h => mix_keep n0 hwA hwB h)
  have HPU := Lib.hid (mix_put n0 hwA hwB)
  rw [hA2, hkk] at HPU HKP
  rw [hA1] at HKP
  clear hbl hwA hwB hA1 hA2 hkk
  generalize L.getD m 0 = kd at *
  generalize (argOf i).getD m 0 = nn at *
  cases hnm : isNamedB kd (wordOf kd nn) with
  | false =>
    rw [hnm] at HIN
    rw [hnm, if_neg (by decide)] at HKP
    have HI2 := Lib.hid (HI.out)
    rw [HKP.out rfl] at HI2
    generalize wordOf kd nn = xw at *
    clear hnm HPU
    go_wp2_with (go_at_call 71; refine (HIN.out _).mono ?_; rintro e w5 ⟨rfl, rfl⟩)
    go_roundw
    case rel => exact ⟨m + 1, by omega, by go_num, HI2⟩
    case measure => simp [intOf]; omega
  | true =>
    rw [hnm] at HIN
    rw [hnm, if_pos rfl] at HPU
    have HNC := Lib.hid (HND.out kd nn (inamed_kind hnm) htt (.slice A1 o.atoms.length c1) (.slice A2 o.funs.length c2) (.slice A3 o.preds.length c3) (.slice A4 o.code.length c4) (wr.drewN 1) ((HP.out.up HI.out.below).drewN 1) (HV.out.below (bel_drewN HI.out.below 1)))
    have HI1 := Lib.hid (HI.out.goes (show Below wr.heap.size wr (wr.drewN 1) from ⟨rfl, rfl, rfl, Nat.le_refl _, fun _ _ => rfl⟩))
    generalize wordOf kd nn = xw at *
    generalize namedW o kd nn = yw at HNC HPU
    clear hnm HKP htt
    have hwr : IntKind.i64.wrap ((m : Int) + 1) = (m : Int) + 1 := IntWalk.i64_in _ (by omega)
    have hmN3 : (m : Int) + 1 < (L.length : Int) + 1 := by omega
    have hmN4 : (0 : Int) ≤ (m : Int) + 1 := by omega
    have hmN5 : ((m : Int) + 1).toNat = m + 1 := by omega
    go_upto_region 6 with (go_at_call 71; refine (HIN.out _).mono ?_; rintro e w5 ⟨rfl, rfl⟩)
    go_region_law (go_simp; go_at_call 72; refine HNC.out.mono ?_; rintro e w6 ⟨rfl, hb6⟩; have HI6 := Lib.hid (HI1.out.goes hb6); have z0 := HI6.out.wb.frozen (m + 1); have z1 := (HI6.out.wb.cell (m + 1)).trans HMX.out; clear hb6)
    all_goals
      go_wp2
      go_roundw
      case rel => exact ⟨m + 1, by omega, by go_num, Lib.hid (by rw [← HPU.out]; exact HI6.out.put (m + 1) yw)⟩
      case measure => simp [intOf]; omega

end Go.Proofs.YtclkdlegogjnbaaGreatDoor
