/-
  3 texts in one (AsmZA AsmZB ObjV). Conditions: those of each theorem.
-/
import Derived.Test.YtfgnapfodnhppaaGreatDoorJ39
import Derived.Test.YtfgnapfodnhppaaGreatDoorJ18
namespace Go.Proofs.YtfgnapfodnhppaaGreatDoor
open Go Go.RowKit Go.WideShapes Go.ChangeShapes
set_option linter.unusedVariables false
set_option linter.unusedSimpArgs false

theorem wordL_nowhere (o : Ob) : wordL o 8 65535 = [45] := by
  unfold wordL
  rw [dash_word, if_neg (by decide)]
theorem wordL_label (o : Ob) (n : Int) (h0 : 0 ≤ n) (h1 : n ≤ 1023) : wordL o 8 n = 64 :: Lib.itoa n := by
  have hv : validB 8 n = true := by
    have a : lowOf 8 = 0 := by decide
    have b : highOf 8 = 1023 := by decide
    exact decide_eq_true (.inr ⟨by omega, by omega⟩)
  have hb := (back_at (kind := 8) (by decide) (by decide) hv).1
  have hw : wordOf 8 n ≠ [45] := fun e => by
    rw [e, dash_num] at hb
    injection hb with hb
    omega
  have hi : isNamedB 8 (wordOf 8 n) = true := decide_eq_true (.inr (.inr (.inr ⟨rfl, hw⟩)))
  unfold wordL
  rw [if_pos hi]
  rfl
theorem wordL_named (o : Ob) (kd n : Int) (h : kd = 3 ∨ kd = 4 ∨ kd = 7) : wordL o kd n = namedW o kd n := by
  have hi : isNamedB kd (wordOf kd n) = true := decide_eq_true (by rcases h with h | h | h <;> simp [h])
  unfold wordL
  rw [if_pos hi]
theorem wordL_plain (o : Ob) (kd n : Int) (h : ¬ (kd = 3 ∨ kd = 4 ∨ kd = 7 ∨ kd = 8)) : wordL o kd n = wordOf kd n := by
  have hf : isNamedB kd (wordOf kd n) = false := decide_eq_false (fun hh => h (by
    rcases hh with hh | hh | hh | hh
    · exact .inl hh
    · exact .inr (.inl hh)
    · exact .inr (.inr (.inl hh))
    · exact .inr (.inr (.inr hh.1))))
  unfold wordL
  rw [hf, if_neg (by decide)]
theorem take_words {ws : List (List UInt8)} {n0 : List UInt8} {m : Nat} (h : m < ws.length) : bs (n0 ++ (ws.take (m + 1)).flatMap (32 :: ·)) = bs (n0 ++ (ws.take m).flatMap (32 :: ·)) ++ ⟨#[32]⟩ ++ bs (ws.getD m []) := by
  rw [List.take_succ_eq_append_getElem h, List.flatMap_append, List.getD_eq_getElem?_getD, List.getElem?_eq_getElem h]
  apply ByteArray.ext
  simp [bs]

/-- What the text's loop keeps in memory. -/
structure Tx (w wr : World) (go gi gl : Nat) (pl : Option Addr) (cs : Array Value) (i : Ins) (L : List Int) (A : Option Addr) (c : Nat) (us : List (List UInt8)) : Prop where
  ob : Box wr go 39 cs
  ib : Box wr gi 71 (insC i).toArray
  lb : 0 < L.length → pl = some ⟨gl, 0, none⟩ ∧ Box wr gl 3 (L.map (Value.int .i64)).toArray
  wb : ∃ b, A = some ⟨b, 0, none⟩ ∧ b < wr.heap.size ∧ ∀ k, k < us.length → wr.cell? ⟨b, k, none⟩ = some (.string (bs (us.getD k [])))
  below : Below w.heap.size w wr
theorem Tx.goes {w wr w' : World} {go gi gl : Nat} {pl : Option Addr} {cs : Array Value} {i : Ins} {L : List Int} {A : Option Addr} {c : Nat} {us : List (List UInt8)} (h : Tx w wr go gi gl pl cs i L A c us) (hb : Below wr.heap.size wr w') : Tx w w' go gi gl pl cs i L A c us := by
  obtain ⟨b, h1, h2, h3⟩ := h.wb
  exact ⟨h.ob.below hb h.ob.lt, h.ib.below hb h.ib.lt, fun hl => ⟨(h.lb hl).1, (h.lb hl).2.below hb (h.lb hl).2.lt⟩, ⟨b, h1, Nat.lt_of_lt_of_le h2 hb.size, fun k hk => (hb.cell (p := ⟨b, k, none⟩) h2).trans (h3 k hk)⟩, h.below.trans (hb.mono h.below.size)⟩
theorem strs_own {w : World} {base : Nat} {A : Option Addr} {c : Nat} {us : List (List UInt8)} (h : w.ownsRow base 9 1 (.slice A us.length c) us.length (strs us)) (hn : 0 < us.length) : ∃ b, A = some ⟨b, 0, none⟩ ∧ b < w.heap.size ∧ ∀ k, k < us.length → w.cell? ⟨b, k, none⟩ = some (.string (bs (us.getD k []))) := by
  obtain ⟨b, cp, hv⟩ := own_some h hn
  injection hv with hA _ _
  subst hA
  refine ⟨b, rfl, (own_ge h rfl).2, fun k hk => ?_⟩
  have c0 := h.cells (g := b) rfl k (.string (bs (us.getD k []))) (by
    unfold strs
    rw [List.getElem?_map, List.getElem?_eq_getElem hk, List.getD_eq_getElem?_getD, List.getElem?_eq_getElem hk]
    rfl)
  rw [add_plain, Nat.zero_add] at c0
  exact c0

end Go.Proofs.YtfgnapfodnhppaaGreatDoor

namespace Go.Proofs.YtfgnapfodnhppaaGreatDoor
open Go Go.RowKit Go.WideShapes Go.ChangeShapes
set_option linter.unusedVariables false
set_option linter.unusedSimpArgs false

theorem funW_bs (f : ByteArray) (n : Int) : bs (funW (f, n)) = f ++ ⟨#[47]⟩ ++ bs (Lib.itoa n) := by
  apply ByteArray.ext
  simp [bs, funW]

set_option maxRecDepth 100000 in
set_option maxHeartbeats 16000000 in
theorem rtext9_any (o : Ob) (hok : ObOk o) (i : Ins) (hi : i ∈ o.code) (va vf vp vc : Value) (w : World) (hv : ObAt w va vf vp vc o) :
    Calls Tryz.prog 40 #[.agg #[va, vf, vp, vc], insV i.1 i.2.1 i.2.2.1 i.2.2.2.1 i.2.2.2.2] w fun e w' => e = .returned (.string (bs (lineL o i))) ∧ Below w.heap.size w w' := by
  obtain ⟨A1, c1, rfl⟩ := hv.atoms.form
  obtain ⟨A2, c2, rfl⟩ := hv.funs.form
  obtain ⟨A3, c3, rfl⟩ := hv.preds.form
  obtain ⟨A4, c4, rfl⟩ := hv.code.form
  have hr := ins_right hok hi
  have hfew := ops_few i.1
  have HLN := Lib.hid (wordsI_len i)
  have HLS := Lib.hid (lineWs_len o i)
  have HLL : Hid (lineL o i = (nameOf i.1).data.toList ++ (lineWs o i).flatMap (32 :: ·)) := Lib.hid rfl
  have HAT : Hid (∀ m, m < (opsOf i.1).length → (wordsI i).getD m [] = wordOf ((opsOf i.1).getD m 0) ((argOf i).getD m 0) ∧ (lineWs o i).getD m [] = wordL o ((opsOf i.1).getD m 0) ((argOf i).getD m 0)) := Lib.hid (fun m hm => by
    unfold wordsI lineWs
    simp [hm])
  have hnw := namesWf_of hok
  have HSZ : Hid (∀ m, m < (opsOf i.1).length → (wordL o ((opsOf i.1).getD m 0) ((argOf i).getD m 0)).length ≤ 1000100) := Lib.hid (fun m hm => by
    have := may_bd (right_at hr m (by omega))
    exact wordL_len hnw _ _ this.1 this.2)
  have HNS : Hid ((nameOf i.1).data.toList.length ≤ 20) := Lib.hid (nameOf_small i.1)
  have HWS : Hid (splitW (textOf i.1 (argOf i)) = (nameOf i.1).data.toList :: wordsI i) := Lib.hid (by rw [text_words hr, splitW_join _ _ (nameOf_noBlank i.1) (wordsI_noBlank hr)])
  have HTL : Hid ((textOf i.1 (argOf i)).length ≤ 200) := Lib.hid (by
    rw [text_words hr, List.length_append]
    have h1 := flatw_len (wordsI i) 30 (fun u hu => by
      obtain ⟨j, hj, rfl⟩ := List.mem_map.1 hu
      have hj := List.mem_range.1 hj
      have hb := may_bd (right_at hr j (by omega))
      have := wordOf_len ((opsOf i.1).getD j 0) ((argOf i).getD j 0) hb.1 hb.2
      omega)
    have h2 := HNS.out
    have h3 : (wordsI i).length * (30 + 1) ≤ 4 * 31 := Nat.mul_le_mul_right _ (by rw [HLN.out]; exact hfew)
    omega)
  have HTM := Lib.hid (fun w => rtext_any i.1 i.2.1 i.2.2.1 i.2.2.2.1 i.2.2.2.2 w)
  have HWD := Lib.hid (fun w => rwords_any (bs (textOf i.1 (argOf i))) (by rw [bs_size]; have := HTL.out; omega) w)
  rw [bs_data] at HWD
  unfold WordsRes at HWD
  rw [HWS.out] at HWD
  have HNM := Lib.hid (fun w => rname_any i.1 w)
  have HOPS := Lib.hid (fun w => roperands_any i.1 w)
  have HT := Lib.hid (fun m hm => ins_tab hok hi m hm)
  have HLB := Lib.hid (fun m hm h8 hn => ins_lab hok i hi m hm h8 hn)
  have HRM := Lib.hid (fun m (hm : m < (opsOf i.1).length) => may_bd (right_at hr m (by omega)))
  have HIC := Lib.hid (fun m hm => ins_at i m hm)
  have HV := Lib.hid hv
  have HIZ : Hid ((insC i).toArray[0]? = some (.int .i64 i.1)) := Lib.hid rfl
  have HIA : Hid ((insC i).toArray = #[.int .i64 i.1, .int .i64 i.2.1, .int .i64 i.2.2.1, .int .i64 i.2.2.2.1, .int .i64 i.2.2.2.2]) := Lib.hid rfl
  have HX0 := Lib.hid ((Box.new w 39 #[.slice A1 o.atoms.length c1, .slice A2 o.funs.length c2, .slice A3 o.preds.length c3, .slice A4 o.code.length c4]).alloc (.cells #[.int .i64 i.1, .int .i64 i.2.1, .int .i64 i.2.2.1, .int .i64 i.2.2.2.1, .int .i64 i.2.2.2.2] 71))
  have HX1 : Hid (Box ((w.alloc (.cells #[.slice A1 o.atoms.length c1, .slice A2 o.funs.length c2, .slice A3 o.preds.length c3, .slice A4 o.code.length c4] 39)).alloc (.cells #[.int .i64 i.1, .int .i64 i.2.1, .int .i64 i.2.2.1, .int .i64 i.2.2.2.1, .int .i64 i.2.2.2.2] 71)) (w.heap.size + 1) 71 #[.int .i64 i.1, .int .i64 i.2.1, .int .i64 i.2.2.1, .int .i64 i.2.2.2.1, .int .i64 i.2.2.2.2]) := Lib.hid (by
    have h := Box.new (w.alloc (.cells #[.slice A1 o.atoms.length c1, .slice A2 o.funs.length c2, .slice A3 o.preds.length c3, .slice A4 o.code.length c4] 39)) 71 #[.int .i64 i.1, .int .i64 i.2.1, .int .i64 i.2.2.1, .int .i64 i.2.2.2.1, .int .i64 i.2.2.2.2]
    rw [World.size_alloc] at h
    exact h)
  have HB0 := Lib.hid (two_below w (.cells #[.slice A1 o.atoms.length c1, .slice A2 o.funs.length c2, .slice A3 o.preds.length c3, .slice A4 o.code.length c4] 39) (.cells #[.int .i64 i.1, .int .i64 i.2.1, .int .i64 i.2.2.1, .int .i64 i.2.2.2.1, .int .i64 i.2.2.2.2] 71))
  obtain ⟨w1, hw1⟩ : ∃ w1, (w.alloc (.cells #[.slice A1 o.atoms.length c1, .slice A2 o.funs.length c2, .slice A3 o.preds.length c3, .slice A4 o.code.length c4] 39)).alloc (.cells #[.int .i64 i.1, .int .i64 i.2.1, .int .i64 i.2.2.1, .int .i64 i.2.2.2.1, .int .i64 i.2.2.2.2] 71) = w1 := ⟨_, rfl⟩
  unfold insV at HTM ⊢
  clear hr hi hv hnw
  go_enter Tryz.func40, Tryz.ntmps40
  go_upto_region 1 with (fail)
  rw [hw1] at HB0 HX0 HX1
  have g0 : w1.cell? ⟨w.heap.size + 1, 0, none⟩ = some (.int .i64 i.1) := HX1.out.cell 0
  rw [← HIA.out] at HX1
  obtain ⟨go, hgo⟩ : ∃ go, w.heap.size = go := ⟨_, rfl⟩
  rw [hgo] at g0 HX0 HX1 ⊢
  clear hw1
  go_upto_region 3 with (first
    | (go_at_call 74; refine (HNM.out _).mono ?_; rintro e w2 ⟨rfl, hb2⟩; have HB2 := Lib.hid hb2; have HX2 := Lib.hid (HX1.out.below hb2 HX1.out.lt); have g2 := (HX2.out.cell 0).trans (by rw [HIZ.out]); clear hb2)
    | (go_at_call 39; refine (HOPS.out _).mono ?_; rintro e w4 hN; obtain ⟨pl, rfl, hb4, hl4⟩ := newInts_any9 hN; have HB4 := Lib.hid hb4; have HL4 := Lib.hid hl4; have HX4 := Lib.hid (HX2.out.below hb4 HX2.out.lt); clear hN hb4 hl4))
  rw [HIA.out] at HX4
  have k0 : w4.cell? ⟨go + 1, 0, none⟩ = some (.int .i64 i.1) := HX4.out.cell 0
  have k1 : w4.cell? ⟨go + 1, 1, none⟩ = some (.int .i64 i.2.1) := HX4.out.cell 1
  have k2 : w4.cell? ⟨go + 1, 2, none⟩ = some (.int .i64 i.2.2.1) := HX4.out.cell 2
  have k3 : w4.cell? ⟨go + 1, 3, none⟩ = some (.int .i64 i.2.2.2.1) := HX4.out.cell 3
  have k4 : w4.cell? ⟨go + 1, 4, none⟩ = some (.int .i64 i.2.2.2.2) := HX4.out.cell 4
  rw [← HIA.out] at HX4
  have HTM2 : Hid (∀ W : World, Calls Tryz.prog 75 #[.agg #[.int .i64 i.1, .int .i64 i.2.1, .int .i64 i.2.2.1, .int .i64 i.2.2.2.1, .int .i64 i.2.2.2.2]] W fun e w' => e = .returned (.string (bs (textOf i.1 (argOf i)))) ∧ Below W.heap.size W w') := HTM
  have HN0 : Hid (nameOf i.1 = bs (nameOf i.1).data.toList) := Lib.hid (str_bs _).symm
  have hnz : (nameOf i.1).size ≤ 20 := by have := HNS.out; rw [Array.length_toList] at this; exact this
  generalize textOf i.1 (argOf i) = tx at HTM2 HWD
  clear HTM HTL HWS HNM HOPS
  go_upto_region 5 with (first
    | (go_at_call 75; refine (HTM2.out _).mono ?_; rintro e w5 ⟨rfl, hb5⟩; have HB5 := Lib.hid hb5; clear hb5)
    | (go_at_call 52; refine (HWD.out _).mono ?_; rintro e w6 ⟨vw, rfl, hown, hb6⟩; have HOWN := Lib.hid hown; have HB6 := Lib.hid hb6; clear hown hb6))
  obtain ⟨Aw, cw, hvw, _⟩ := own_form HOWN.out
  subst hvw
  have HB24 : Hid (Below w4.heap.size w4 w6) := Lib.hid (HB5.out.trans (HB6.out.mono HB5.out.size))
  obtain ⟨gl, hgl⟩ : ∃ gl, w2.heap.size = gl := ⟨_, rfl⟩
  rw [hgl] at HL4
  have HTX : Hid (Tx w w6 go (go + 1) gl pl #[.slice A1 o.atoms.length c1, .slice A2 o.funs.length c2, .slice A3 o.preds.length c3, .slice A4 o.code.length c4] i (opsOf i.1) Aw cw ((nameOf i.1).data.toList :: wordsI i)) := Lib.hid (by
    have b14 : Below w1.heap.size w1 w4 := HB2.out.trans (HB4.out.mono HB2.out.size)
    have b16 : Below w1.heap.size w1 w6 := b14.trans (HB24.out.mono b14.size)
    exact ⟨HX0.out.below b16 HX0.out.lt, HX4.out.below HB24.out HX4.out.lt, fun h => ⟨(HL4.out h).1, (HL4.out h).2.below HB24.out (HL4.out h).2.lt⟩, strs_own HOWN.out (by simp), HB0.out.trans (b16.mono HB0.out.size)⟩)
  have HWL : Hid (∀ m, m < (opsOf i.1).length → ((nameOf i.1).data.toList :: wordsI i).getD (m + 1) [] = wordOf ((opsOf i.1).getD m 0) ((argOf i).getD m 0)) := Lib.hid (fun m hm => (HAT.out m hm).1)
  have HUL : Hid (((nameOf i.1).data.toList :: wordsI i).length = (opsOf i.1).length + 1) := Lib.hid (by rw [List.length_cons, HLN.out])
  rw [HUL.out]
  clear hgl HOWN HB24 HB6 HB5 HB4 HB2 HB0 HL4 HX0 HX1 HX2 HX4 k0 k1 k2 k3 k4 g0 g2 HTM2 HWD HIZ HIA
  generalize (nameOf i.1).data.toList :: wordsI i = us at *
  generalize opsOf i.1 = L at *
  generalize lineWs o i = Wl at *
  generalize (nameOf i.1).data.toList = n0 at *
  generalize nameOf i.1 = nm at *
  go_wp2
  go_loopw [5, 8, 9] (fun s j _ wr => ∃ (m : Nat) (x : ByteArray), m ≤ L.length ∧ j = .int .i64 m ∧ s = .string x ∧ x.size ≤ 20 + m * 1000101 ∧ Hid (x = bs (n0 ++ (Wl.take m).flatMap (32 :: ·))) ∧ Hid (Tx w wr go (go + 1) gl pl #[.slice A1 o.atoms.length c1, .slice A2 o.funs.length c2, .slice A3 o.preds.length c3, .slice A4 o.code.length c4] i L Aw cw us)) (fun _ j _ _ => L.length - (intOf j).toNat)
  case atStart => exact ⟨0, nm, by omega, rfl, rfl, by omega, Lib.hid (by rw [HN0.out]; simp), HTX⟩
  obtain ⟨m, x, hmL, rfl, rfl, hxs, HXE, HT2⟩ := hrel
  clear HTX
  by_cases hlm : m < L.length
  case neg =>
    obtain rfl : m = L.length := by omega
    have HEND : Hid (x = bs (lineL o i)) := Lib.hid (by rw [HXE.out, HLL.out, List.take_of_length_le (by rw [HLS.out]; exact Nat.le_refl _)])
    go_wp2
    go_ret
    exact ⟨by rw [← HEND.out] <;> rfl, HT2.out.below⟩
  case pos =>
  obtain ⟨rfl, hbl⟩ := HT2.out.lb (by omega)
  obtain ⟨bw, rfl, hbw, hwc⟩ := HT2.out.wb
  have hkd := hbl.cell m
  rw [show (L.map (Value.int .i64)).toArray[m]? = some (.int .i64 (L.getD m 0)) by simp [hlm]] at hkd
  have hcc := (HT2.out.ib.cell (1 + m)).trans (HIC.out m (by omega))
  have hpw := hwc (m + 1) (by rw [HUL.out]; omega)
  rw [HWL.out m hlm] at hpw
  have HSTEP := Lib.hid (take_words (n0 := n0) (show m < Wl.length by rw [HLS.out]; exact hlm))
  rw [(HAT.out m hlm).2, ← HXE.out] at HSTEP
  have hwl := HSZ.out m hlm
  have htt := HT.out m hlm
  have hlb := HLB.out m hlm
  have hrm := HRM.out m hlm
  have hlen := hok.lc
  have hm4 : (m : Int) < 4 := by omega
  have hm0 : (0 : Int) ≤ (m : Int) := by omega
  have q0 := HT2.out.ob.cell 0
  have q1 := HT2.out.ob.cell 1
  have q2 := HT2.out.ob.cell 2
  have HVW := Lib.hid (HV.out.below HT2.out.below)
  clear hbl hwc
  generalize L.getD m 0 = kd at *
  generalize (argOf i).getD m 0 = nn at *
  by_cases h3 : kd = 3
  · subst h3
    obtain ⟨t0, _, t3, t4, t7⟩ := htt
    obtain ⟨j, rfl⟩ := Int.eq_ofNat_of_zero_le t0
    have hj := t3 rfl
    rw [Int.toNat_natCast] at hj
    have hW : bs (wordL o 3 (j : Int)) = o.atoms[j] := by
      rw [wordL_named o 3 _ (by decide), namedW, if_pos rfl, Int.toNat_natCast, List.getD_eq_getElem?_getD, List.getElem?_eq_getElem hj]
      exact str_bs _
    rw [hW] at HSTEP
    have hns := name_size (hok.atoms _ (List.getElem_mem hj))
    obtain ⟨b, off, rfl, hb, d0⟩ := atomCell HVW.out.atoms j hj
    clear hW t0 t3 t4 t7 hlb hwl hrm
    generalize o.atoms[j] = y0 at *
    have HSZ2 : Hid ((x ++ ⟨#[32]⟩ ++ y0 : ByteArray).size ≤ 20 + (m + 1) * 1000101) := Lib.hid (by
      have e1 : (⟨#[32]⟩ : ByteArray).size = 1 := rfl
      rw [ByteArray.size_append, ByteArray.size_append, e1]
      omega)
    have hx5 : x.size ≤ 5000000 := by omega
    have z1 : (x ++ ⟨#[32]⟩ : ByteArray).size = x.size + 1 := by rw [ByteArray.size_append]; rfl
    go_wp2
    go_roundw
    case rel => exact ⟨m + 1, _, by omega, by go_num, rfl, HSZ2.out, Lib.hid HSTEP.out.symm, HT2⟩
    case measure => simp [intOf]; omega
  by_cases h4 : kd = 4
  · subst h4
    obtain ⟨t0, _, t3, t4, t7⟩ := htt
    obtain ⟨j, rfl⟩ := Int.eq_ofNat_of_zero_le t0
    have hj := t4 rfl
    rw [Int.toNat_natCast] at hj
    have hW : bs (wordL o 4 (j : Int)) = o.funs[j].1 ++ ⟨#[47]⟩ ++ bs (Lib.itoa o.funs[j].2) := by
      rw [wordL_named o 4 _ (by decide), namedW, if_neg (by decide), if_pos rfl, Int.toNat_natCast, List.getD_eq_getElem?_getD, List.getElem?_eq_getElem hj]
      exact funW_bs _ _
    rw [hW] at HSTEP
    have hsz := hok.funs _ (List.getElem_mem hj)
    have hns := name_size hsz.1
    obtain ⟨b, off, rfl, hb, d0, d1⟩ := funCell HVW.out.funs j hj
    have hnum := fun w => num_bs o.funs[j].2 (by omega) (by omega) w
    have hil := Lib.itoa_length_le o.funs[j].2 (by omega) (by omega)
    clear hW t0 t3 t4 t7 hlb hwl hrm
    generalize o.funs[j].1 = y0 at *
    generalize o.funs[j].2 = y1 at *
    obtain ⟨xn, hxn⟩ : ∃ xn, bs (Lib.itoa y1) = xn := ⟨_, rfl⟩
    have hxs2 : xn.size ≤ 21 := by rw [← hxn, bs_size]; omega
    rw [hxn] at hnum HSTEP
    have HNUM := Lib.hid hnum
    have HSZ2 : Hid ((x ++ ⟨#[32]⟩ ++ y0 ++ ⟨#[47]⟩ ++ xn : ByteArray).size ≤ 20 + (m + 1) * 1000101) := Lib.hid (by
      have e1 : (⟨#[32]⟩ : ByteArray).size = 1 := rfl
      have e2 : (⟨#[47]⟩ : ByteArray).size = 1 := rfl
      rw [ByteArray.size_append, ByteArray.size_append, ByteArray.size_append, ByteArray.size_append, e1, e2]
      omega)
    have HST2 : Hid ((x ++ ⟨#[32]⟩ ++ y0 ++ ⟨#[47]⟩ ++ xn : ByteArray) = bs (n0 ++ (Wl.take (m + 1)).flatMap (32 :: ·))) := Lib.hid (by
      rw [HSTEP.out]
      simp only [ByteArray.append_assoc])
    have hx5 : x.size ≤ 5000000 := by omega
    have z1 : (x ++ ⟨#[32]⟩ : ByteArray).size = x.size + 1 := by rw [ByteArray.size_append]; rfl
    have z2 : (x ++ ⟨#[32]⟩ ++ y0 : ByteArray).size = x.size + 1 + y0.size := by rw [ByteArray.size_append, z1]
    have z3 : (x ++ ⟨#[32]⟩ ++ y0 ++ ⟨#[47]⟩ : ByteArray).size = x.size + 1 + y0.size + 1 := by rw [ByteArray.size_append, z2]; rfl
    clear hnum hxn hil hsz HSTEP
    go_upto_region 13 with (fail)
    go_quiet ((go_at_call 38; exact Calls.quiet_of (HNUM.out _)))
    go_wp2
    go_roundw
    case rel => exact ⟨m + 1, _, by omega, by go_num, rfl, HSZ2.out, HST2, Lib.hid (HT2.out.goes (show Below wr.heap.size wr (wr.drewN _) from ⟨rfl, rfl, rfl, Nat.le_refl _, fun _ _ => rfl⟩))⟩
    case measure => simp [intOf]; omega
  by_cases h7 : kd = 7
  · subst h7
    obtain ⟨t0, _, t3, t4, t7⟩ := htt
    obtain ⟨j, rfl⟩ := Int.eq_ofNat_of_zero_le t0
    have hj := t7 rfl
    rw [Int.toNat_natCast] at hj
    have hW : bs (wordL o 7 (j : Int)) = o.preds[j].1 ++ ⟨#[47]⟩ ++ bs (Lib.itoa o.preds[j].2.1) := by
      rw [wordL_named o 7 _ (by decide), namedW, if_neg (by decide), if_neg (by decide), if_pos rfl, Int.toNat_natCast, List.getD_eq_getElem?_getD, List.getElem?_eq_getElem hj]
      exact funW_bs _ _
    rw [hW] at HSTEP
    have hsz := hok.preds _ (List.getElem_mem hj)
    have hns := name_size hsz.1
    obtain ⟨b, off, rfl, hb, d0, d1, d2⟩ := predCell HVW.out.preds j hj
    have hnum := fun w => num_bs o.preds[j].2.1 (by omega) (by omega) w
    have hil := Lib.itoa_length_le o.preds[j].2.1 (by omega) (by omega)
    clear hW t0 t3 t4 t7 hlb hwl hrm
    generalize o.preds[j].1 = y0 at *
    generalize o.preds[j].2.1 = y1 at *
    obtain ⟨xn, hxn⟩ : ∃ xn, bs (Lib.itoa y1) = xn := ⟨_, rfl⟩
    have hxs2 : xn.size ≤ 21 := by rw [← hxn, bs_size]; omega
    rw [hxn] at hnum HSTEP
    have HNUM := Lib.hid hnum
    have HSZ2 : Hid ((x ++ ⟨#[32]⟩ ++ y0 ++ ⟨#[47]⟩ ++ xn : ByteArray).size ≤ 20 + (m + 1) * 1000101) := Lib.hid (by
      have e1 : (⟨#[32]⟩ : ByteArray).size = 1 := rfl
      have e2 : (⟨#[47]⟩ : ByteArray).size = 1 := rfl
      rw [ByteArray.size_append, ByteArray.size_append, ByteArray.size_append, ByteArray.size_append, e1, e2]
      omega)
    have HST2 : Hid ((x ++ ⟨#[32]⟩ ++ y0 ++ ⟨#[47]⟩ ++ xn : ByteArray) = bs (n0 ++ (Wl.take (m + 1)).flatMap (32 :: ·))) := Lib.hid (by
      rw [HSTEP.out]
      simp only [ByteArray.append_assoc])
    have hx5 : x.size ≤ 5000000 := by omega
    have z1 : (x ++ ⟨#[32]⟩ : ByteArray).size = x.size + 1 := by rw [ByteArray.size_append]; rfl
    have z2 : (x ++ ⟨#[32]⟩ ++ y0 : ByteArray).size = x.size + 1 + y0.size := by rw [ByteArray.size_append, z1]
    have z3 : (x ++ ⟨#[32]⟩ ++ y0 ++ ⟨#[47]⟩ : ByteArray).size = x.size + 1 + y0.size + 1 := by rw [ByteArray.size_append, z2]; rfl
    clear hnum hxn hil hsz HSTEP
    go_upto_region 15 with (fail)
    go_quiet ((go_at_call 38; exact Calls.quiet_of (HNUM.out _)))
    go_wp2
    go_roundw
    case rel => exact ⟨m + 1, _, by omega, by go_num, rfl, HSZ2.out, HST2, Lib.hid (HT2.out.goes (show Below wr.heap.size wr (wr.drewN _) from ⟨rfl, rfl, rfl, Nat.le_refl _, fun _ _ => rfl⟩))⟩
    case measure => simp [intOf]; omega
  have e3 : (kd == 3) = false := by simpa using h3
  have e4 : (kd == 4) = false := by simpa using h4
  have e7 : (kd == 7) = false := by simpa using h7
  by_cases h8 : kd = 8
  · subst h8
    by_cases hnw : nn = 65535
    · subst hnw
      rw [wordL_nowhere] at HSTEP
      have HSZ2 : Hid ((x ++ ⟨#[32, 45]⟩ : ByteArray).size ≤ 20 + (m + 1) * 1000101) := Lib.hid (by
        have e1 : (⟨#[32, 45]⟩ : ByteArray).size = 2 := rfl
        rw [ByteArray.size_append, e1]
        omega)
      have HST2 : Hid ((x ++ ⟨#[32, 45]⟩ : ByteArray) = bs (n0 ++ (Wl.take (m + 1)).flatMap (32 :: ·))) := Lib.hid (by
        rw [HSTEP.out, ByteArray.append_assoc]
        rfl)
      have hx5 : x.size ≤ 5000000 := by omega
      clear htt hlb hwl hrm
      go_wp2
      go_roundw
      case rel => exact ⟨m + 1, _, by omega, by go_num, rfl, HSZ2.out, HST2, HT2⟩
      case measure => simp [intOf]; omega
    · obtain ⟨hn0, hn1⟩ := hlb rfl hnw
      rw [wordL_label o nn hn0 (by omega)] at HSTEP
      have hnum := fun w => num_bs nn (by omega) (by omega) w
      have hil := Lib.itoa_length_le nn (by omega) (by omega)
      have en : (nn == 65535) = false := by simpa using hnw
      obtain ⟨xn, hxn⟩ : ∃ xn, bs (Lib.itoa nn) = xn := ⟨_, rfl⟩
      have hxs2 : xn.size ≤ 21 := by rw [← hxn, bs_size]; omega
      have HST2 : Hid ((x ++ ⟨#[32, 64]⟩ ++ xn : ByteArray) = bs (n0 ++ (Wl.take (m + 1)).flatMap (32 :: ·))) := Lib.hid (by
        have e : (⟨#[32, 64]⟩ : ByteArray) = ⟨#[32]⟩ ++ ⟨#[64]⟩ := rfl
        rw [HSTEP.out, ← cons_bs, hxn, e]
        simp only [ByteArray.append_assoc])
      rw [hxn] at hnum
      have HNUM := Lib.hid hnum
      have HSZ2 : Hid ((x ++ ⟨#[32, 64]⟩ ++ xn : ByteArray).size ≤ 20 + (m + 1) * 1000101) := Lib.hid (by
        have e1 : (⟨#[32, 64]⟩ : ByteArray).size = 2 := rfl
        rw [ByteArray.size_append, ByteArray.size_append, e1]
        omega)
      have hx5 : x.size ≤ 5000000 := by omega
      have z1 : (x ++ ⟨#[32, 64]⟩ : ByteArray).size = x.size + 2 := by rw [ByteArray.size_append]; rfl
      clear htt hlb hwl hrm hnum hxn hil HSTEP hnw
      go_wp2_with (go_at_call 38; refine (HNUM.out _).mono ?_; rintro e w7 ⟨rfl, mm, rfl⟩)
      go_roundw
      case rel => exact ⟨m + 1, _, by omega, by go_num, rfl, HSZ2.out, HST2, Lib.hid (HT2.out.goes (show Below wr.heap.size wr (wr.drewN _) from ⟨rfl, rfl, rfl, Nat.le_refl _, fun _ _ => rfl⟩))⟩
      case measure => simp [intOf]; omega
  · have e8 : (kd == 8) = false := by simpa using h8
    rw [wordL_plain o kd nn (by omega)] at HSTEP hwl
    obtain ⟨xw, hxw⟩ : ∃ xw, bs (wordOf kd nn) = xw := ⟨_, rfl⟩
    have hxs2 : xw.size ≤ 1000100 := by rw [← hxw, bs_size]; exact hwl
    rw [hxw] at HSTEP hpw
    have HSZ2 : Hid ((x ++ ⟨#[32]⟩ ++ xw : ByteArray).size ≤ 20 + (m + 1) * 1000101) := Lib.hid (by
      have e1 : (⟨#[32]⟩ : ByteArray).size = 1 := rfl
      rw [ByteArray.size_append, ByteArray.size_append, e1]
      omega)
    have hx5 : x.size ≤ 5000000 := by omega
    have z1 : (x ++ ⟨#[32]⟩ : ByteArray).size = x.size + 1 := by rw [ByteArray.size_append]; rfl
    have hmN : (m : Int) + 1 < ((L.length + 1 : Nat) : Int) := by omega
    have hmN2 : m + 1 < L.length + 1 := by omega
    clear htt hlb hwl hrm hxw h3 h4 h7 h8
    go_wp2
    go_roundw
    case rel => exact ⟨m + 1, _, by omega, by go_num, rfl, HSZ2.out, Lib.hid HSTEP.out.symm, HT2⟩
    case measure => simp [intOf]; omega

end Go.Proofs.YtfgnapfodnhppaaGreatDoor

namespace Go.Proofs.YtfgnapfodnhppaaGreatDoor
open Go Go.RowKit Go.WideShapes Go.ChangeShapes
set_option linter.unusedVariables false
set_option linter.unusedSimpArgs false

theorem big_any (a f p c : Nat) (w : World) :
    Calls Tryz.prog 70 #[.int .i64 a, .int .i64 f, .int .i64 p, .int .i64 c] w fun e w' => e = .returned (.bool (bigB a f p c)) ∧ w = w' := by
  have hb : bigB a f p c = (decide ((256 : Int) < a) || decide ((256 : Int) < f) || decide ((64 : Int) < p) || decide ((1024 : Int) < c)) := by
    unfold bigB
    rw [Bool.eq_iff_iff]
    simp
    omega
  rw [hb]
  clear hb
  by_cases h1 : (256 : Int) < (a : Int)
  · go_enter Tryz.func70, Tryz.ntmps70
    go_wp2
    go_ret
    exact ⟨ret_b (by simp [h1]), rfl⟩
  · by_cases h2 : (256 : Int) < (f : Int)
    · go_enter Tryz.func70, Tryz.ntmps70
      go_wp2
      go_ret
      exact ⟨ret_b (by simp [h2]), rfl⟩
    · by_cases h3 : (64 : Int) < (p : Int)
      · go_enter Tryz.func70, Tryz.ntmps70
        go_wp2
        go_ret
        exact ⟨ret_b (by simp [h3]), rfl⟩
      · go_enter Tryz.func70, Tryz.ntmps70
        go_wp2
        go_ret
        exact ⟨ret_b (by simp; omega), rfl⟩

/-- Is there what an operand names? Where numbers aren't below nought. -/
theorem roper_any (A1 A2 A3 A4 : Option Addr) (a c1 f c2 p c3 c c4 : Nat) (kind n : Int) (hn : kind = 3 ∨ kind = 4 ∨ kind = 7 ∨ kind = 8 → 0 ≤ n) (w : World) :
    Calls Tryz.prog 73 #[.agg #[.slice A1 a c1, .slice A2 f c2, .slice A3 p c3, .slice A4 c c4], .int .i64 kind, .int .i64 n] w fun e w' => e = .returned (.bool (thereB a f p c kind n)) ∧ Below w.heap.size w w' := by
  have HB := Lib.hid (alloc_below w (.cells #[.slice A1 a c1, .slice A2 f c2, .slice A3 p c3, .slice A4 c c4] 39))
  by_cases h3 : kind = 3
  · subst h3
    have h0 := hn (.inl rfl)
    go_enter Tryz.func73, Tryz.ntmps73
    go_wp2
    go_ret
    exact ⟨ret_b (by simp [thereB, h0]), HB.out⟩
  have h3' : (kind == 3) = false := by simpa using h3
  by_cases h4 : kind = 4
  · subst h4
    have h0 := hn (.inr (.inl rfl))
    go_enter Tryz.func73, Tryz.ntmps73
    go_wp2
    go_ret
    exact ⟨ret_b (by simp [thereB, h0]), HB.out⟩
  have h4' : (kind == 4) = false := by simpa using h4
  by_cases h7 : kind = 7
  · subst h7
    have h0 := hn (.inr (.inr (.inl rfl)))
    go_enter Tryz.func73, Tryz.ntmps73
    go_wp2
    go_ret
    exact ⟨ret_b (by simp [thereB, h0]), HB.out⟩
  have h7' : (kind == 7) = false := by simpa using h7
  by_cases h8 : kind = 8
  · subst h8
    have h0 := hn (.inr (.inr (.inr rfl)))
    by_cases hc : n < (c : Int)
    · go_enter Tryz.func73, Tryz.ntmps73
      go_wp2
      go_ret
      exact ⟨ret_b (by rw [Bool.eq_iff_iff]; simp [thereB]; omega), HB.out⟩
    · go_enter Tryz.func73, Tryz.ntmps73
      go_wp2
      go_ret
      exact ⟨ret_b (by rw [Bool.eq_iff_iff]; simp [thereB]; omega), HB.out⟩
  have h8' : (kind == 8) = false := by simpa using h8
  have he : thereB a f p c kind n = true := by
    unfold thereB
    rw [if_neg h3, if_neg h4, if_neg h7, if_neg h8]
  rw [he]
  clear he
  go_enter Tryz.func73, Tryz.ntmps73
  go_wp2
  go_ret
  exact ⟨rfl, HB.out⟩

end Go.Proofs.YtfgnapfodnhppaaGreatDoor
