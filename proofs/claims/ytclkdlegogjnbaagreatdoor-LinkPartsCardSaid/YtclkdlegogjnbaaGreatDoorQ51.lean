/-
  2 texts in one (AsmYB AsmLA). Conditions: those of each theorem.
-/
import Derived.Test.YtclkdlegogjnbaaGreatDoorQ50
import Derived.Test.YtclkdlegogjnbaaGreatDoorQ11
namespace Go.Proofs.YtclkdlegogjnbaaGreatDoor
open Go Go.RowKit Go.WideShapes Go.ChangeShapes
set_option linter.unusedVariables false
set_option linter.unusedSimpArgs false

/-- What Lines hands back. -/
def LinesW (w : World) (us : List (List UInt8)) (e : Ending) (w' : World) : Prop :=
  ∃ vl, e = .returned vl ∧ w'.ownsRow w.heap.size 9 1 vl us.length (strC us) ∧ Below w.heap.size w w'

set_option maxRecDepth 100000 in
set_option maxHeartbeats 16000000 in
theorem lines_any (o : Ob) (ho : ObWf o) (va vf vp vc : Value) (w : World) {B : Nat} (hp : LaidC B w) (hv : ObAt w va vf vp vc o) :
    Calls Tryz.prog 18 #[.agg #[va, vf, vp, vc]] w (LinesW w (linesOf o)) := by
  obtain ⟨A1, c1, rfl⟩ := hv.atoms.form
  obtain ⟨A2, c2, rfl⟩ := hv.funs.form
  obtain ⟨A3, c3, rfl⟩ := hv.preds.form
  obtain ⟨A4, c4, rfl⟩ := hv.code.form
  have hb1 := alloc_below w (.cells #[.slice A1 o.atoms.length c1, .slice A2 o.funs.length c2, .slice A3 o.preds.length c3, .slice A4 o.code.length c4] 39)
  have HB1 := Lib.hid hb1
  have HX1 := Lib.hid (Box.new w 39 #[.slice A1 o.atoms.length c1, .slice A2 o.funs.length c2, .slice A3 o.preds.length c3, .slice A4 o.code.length c4])
  have HC := Lib.hid (check_any o ho _ _ _ _ _ (hp.up hb1).names (hv.below hb1))
  have HP := Lib.hid hp
  have HV := Lib.hid hv
  have HLO : Hid (linesOf o = if checkOf o ≠ 0 then [] else linesTo o o.code.length) := Lib.hid rfl
  obtain ⟨r, hr⟩ : ∃ r, linesOf o = r := ⟨_, rfl⟩
  rw [hr] at HLO ⊢
  cases hck : decide (checkOf o = 0) with
  | false =>
    have hck := of_decide_eq_false hck
    have HX : Hid (r = []) := Lib.hid (by rw [HLO.out, if_pos hck])
    generalize checkOf o = ck at *
    have e1 : (ck != 0) = true := by rw [bne_iff_ne]; exact hck
    clear hck hv hp hb1 hr
    go_enter Tryz.func18, Tryz.ntmps18
    go_wp2_with (go_at_call 13; refine HC.out.mono ?_; rintro e w2 ⟨rfl, hb2⟩; have HB2 := Lib.hid (HB1.out.trans (hb2.mono HB1.out.size)); clear hb2)
    go_ret
    exact ⟨_, rfl, by rw [HX.out]; exact World.ownsRow_nil _ _ _ _, HB2.out⟩
  | true =>
  have hck := of_decide_eq_true hck
  have HX : Hid (r = linesTo o o.code.length) := Lib.hid (by rw [HLO.out, if_neg (by simp [hck])])
  have HOK := Lib.hid (ok_of hck)
  rw [hck] at HC
  have HNW := Lib.hid (namesWf_of HOK.out)
  have HLB := Lib.hid (fun v w hv => labels_any o.code (by have := HOK.out.lc; omega) (ins_lab HOK.out) v w hv)
  have HIL := Lib.hid (fun i (hi : i ∈ o.code) va vf vp vc w hp hv => instrLine_any o HNW.out i (ins_right HOK.out hi) (ins_tab HOK.out hi) va vf vp vc w (B := B) hp hv)
  have HFW := Lib.hid (fun f n hf h0 h1 w hp => funWord_any f n hf h0 h1 w (B := B) hp)
  have HIT := Lib.hid (fun n h0 h1 w (hp : LaidC B w) => itoa_any n h0 h1 w hp)
  have hlc := HOK.out.lc
  have hlp := HOK.out.lp
  have hlen0 : (linesTo o 0).length = 0 := rfl
  unfold insV at HIL
  clear hv hp hb1 hr hck HLO
  go_enter Tryz.func18, Tryz.ntmps18
  go_upto_region 6 with (first
    | (go_at_call 13; refine HC.out.mono ?_; rintro e w2 ⟨rfl, hb2⟩; have HB2 := Lib.hid hb2; have HX2 := Lib.hid (HX1.out.below hb2 HX1.out.lt); have q2 := HX2.out.cell 2; have q3 := HX2.out.cell 3; clear hb2)
    | (go_at_call 43; refine (HLB.out _ _ (HV.out.code.below (HB1.out.trans (HB2.out.mono HB1.out.size)))).mono ?_; rintro e w3 ⟨gb, rfl, hgb, hbx, hb3⟩; have HX3 := Lib.hid (HX2.out.below hb3 HX2.out.lt); have q4 := HX3.out.cell 3; have HBB3 := Lib.hid ((HB1.out.trans (HB2.out.mono HB1.out.size)).trans (hb3.mono (Nat.le_trans HB1.out.size HB2.out.size))); have HLX3 := Lib.hid hbx; clear hb3 hbx hgb))
  obtain ⟨go, hgo⟩ : ∃ go, w.heap.size = go := ⟨_, rfl⟩
  rw [hgo] at HX3 ⊢
  have HL3 : Hid (Lm w w3 go gb #[.slice A1 o.atoms.length c1, .slice A2 o.funs.length c2, .slice A3 o.preds.length c3, .slice A4 o.code.length c4] o.code.length (labTo o.code o.code.length) (.slice none 0 0) (linesTo o 0)) := Lib.hid ⟨World.ownsRow_nil _ _ _ _, HX3.out, HLX3.out, HBB3.out⟩
  clear HC HX1 HX2 HX3 HBB3 HLX3 HB2 q2 q3 q4 HLB hgo
  go_wp2
  go_loopw [4, 5, 6, 8, 18, 26] (fun vl _ _ _ i _ wr => ∃ (k : Nat) (us : List (List UInt8)), k ≤ o.code.length ∧ i = .int .i64 k ∧ Hid (us = linesTo o k) ∧ Hid (Lm w wr go gb #[.slice A1 o.atoms.length c1, .slice A2 o.funs.length c2, .slice A3 o.preds.length c3, .slice A4 o.code.length c4] o.code.length (labTo o.code o.code.length) vl us) ∧ Hid (us.length ≤ 70 * k)) (fun _ _ _ _ i _ _ => o.code.length - (intOf i).toNat)
  case atStart => exact ⟨0, _, by omega, rfl, Lib.hid rfl, HL3, Lib.hid (by rw [hlen0]; omega)⟩
  obtain ⟨k, us, hkl, rfl, HUS, HM, HLEN⟩ := hrel
  clear HL3
  by_cases hlt : k < o.code.length
  case neg =>
    obtain rfl : k = o.code.length := by omega
    go_wp2
    go_ret
    exact ⟨_, rfl, by rw [HX.out, ← HUS.out]; exact HM.out.row, HM.out.below⟩
  case pos =>
  have HVW := Lib.hid (HV.out.below HM.out.below)
  obtain ⟨b, off, rfl, hb, d0, d1, d2, d3, d4⟩ := insCell HVW.out.code k hlt
  have HSU := Lib.hid (linesTo_succ o k)
  have HPL : Hid (placeLns o k = predLns o k o.preds.length ++ labLn o k ++ [lineL o o.code[k]]) := Lib.hid (by
    unfold placeLns
    rw [List.getD_eq_getElem?_getD, List.getElem?_eq_getElem hlt]
    rfl)
  have HII := Lib.hid (fun va vf vp vc w hp hv => HIL.out o.code[k] (List.getElem_mem hlt) va vf vp vc w hp hv)
  have HIA : Hid ((insC o.code[k]).toArray = #[.int .i64 o.code[k].1, .int .i64 o.code[k].2.1, .int .i64 o.code[k].2.2.1, .int .i64 o.code[k].2.2.2.1, .int .i64 o.code[k].2.2.2.2]) := Lib.hid rfl
  generalize o.code[k] = ii at *
  obtain ⟨i0, i1, i2, i3, i4⟩ := ii
  simp only at d0 d1 d2 d3 d4 HII HIA
  have hb4 := alloc_below wr (.cells #[.int .i64 i0, .int .i64 i1, .int .i64 i2, .int .i64 i3, .int .i64 i4] 52)
  have HM4 := Lib.hid (HM.out.goes hb4)
  have HXI := Lib.hid (Box.new wr 52 #[.int .i64 i0, .int .i64 i1, .int .i64 i2, .int .i64 i3, .int .i64 i4])
  have q2 := HM4.out.ob.cell 2
  have q3 := HM.out.ob.cell 3
  clear hb4
  go_upto_region 9 with (fail)
  obtain ⟨w4, hw4⟩ : ∃ w4, wr.alloc (.cells #[.int .i64 i0, .int .i64 i1, .int .i64 i2, .int .i64 i3, .int .i64 i4] 52) = w4 := ⟨_, rfl⟩
  rw [hw4] at HM4 HXI ⊢
  obtain ⟨gi, hgi⟩ : ∃ gi, wr.heap.size = gi := ⟨_, rfl⟩
  rw [hgi] at HXI ⊢
  have HU5 : Hid (us = linesTo o k ++ predLns o k 0) := Lib.hid (by
    rw [show linesTo o k ++ predLns o k 0 = linesTo o k by simp [predLns]]
    exact HUS.out)
  have HLE5 : Hid (us.length ≤ 70 * k + 0) := HLEN
  have hk1 : k ≤ 1024 := by omega
  clear hw4 hgi HM HLEN HUS HVW HIL d0 d1 d2 d3 d4 q2 q3
  go_wp2
  go_loopw [4, 8, 26] (fun vl _ i wr => ∃ (q : Nat) (us : List (List UInt8)), q ≤ o.preds.length ∧ i = .int .i64 q ∧ Hid (us = linesTo o k ++ predLns o k q) ∧ Hid (Lm w wr go gb #[.slice A1 o.atoms.length c1, .slice A2 o.funs.length c2, .slice A3 o.preds.length c3, .slice (some ⟨b, off, none⟩) o.code.length c4] o.code.length (labTo o.code o.code.length) vl us) ∧ Hid (Box wr gi 52 #[.int .i64 i0, .int .i64 i1, .int .i64 i2, .int .i64 i3, .int .i64 i4]) ∧ Hid (us.length ≤ 70 * k + q)) (fun _ _ i _ => o.preds.length - (intOf i).toNat)
  case atStart => exact ⟨0, us, by omega, rfl, HU5, HM4, HXI, HLE5⟩
  obtain ⟨q, us2, hql, rfl, HUS, HM, HXI2, HLEN⟩ := hrel
  clear HM4 HXI HLE5 HU5
  clear us
  rename List (List UInt8) => us
  by_cases hlq : q < o.preds.length
  case pos =>
    obtain ⟨b2, off2, rfl, hb2, d0, d1, d2⟩ := predCell (HV.out.below HM.out.below).preds q hlq
    have HYES := Lib.hid (fun h => predLns_yes (k := k) hlq h)
    have HNO := Lib.hid (fun h => predLns_no (k := k) hlq h)
    have hpw := HNW.out.preds _ (List.getElem_mem hlq)
    have HPN : Hid (predLn o.preds[q] = predWord ++ funW (o.preds[q].1, o.preds[q].2.1)) := Lib.hid rfl
    have HFC := Lib.hid (fun w hp => HFW.out o.preds[q].1 o.preds[q].2.1 hpw.1 hpw.2.1 hpw.2.2 w hp)
    have hfl : (bs (funW (o.preds[q].1, o.preds[q].2.1))).size ≤ 1000100 := by
      have := Lib.itoa_length_le o.preds[q].2.1 hpw.2.1 hpw.2.2
      have h2 : o.preds[q].1.data.toList.length = o.preds[q].1.size := by rw [Array.length_toList]; rfl
      rw [bs_size]
      simp only [funW, List.length_append, List.length_cons]
      omega
    generalize predLn o.preds[q] = ln at HYES HPN
    have hxx : ∃ xx, bs (funW (o.preds[q].1, o.preds[q].2.1)) = xx ∧ (⟨#[112, 114, 101, 100, 32]⟩ : ByteArray) ++ xx = bs ln := ⟨_, rfl, by
      rw [HPN.out]
      apply ByteArray.ext
      simp [bs, predWord]⟩
    obtain ⟨xx, hx1, hx2⟩ := hxx
    rw [hx1] at HFC hfl
    have HX2 := Lib.hid hx2
    clear hx1 hx2 hpw HPN
    generalize o.preds[q].1 = y0 at *
    generalize o.preds[q].2.1 = y1 at *
    generalize o.preds[q].2.2 = y2 at *
    have hb5 := alloc_below wr (.cells #[.string y0, .int .i64 y1, .int .i64 y2] 64)
    have HM5 := Lib.hid (HM.out.goes hb5)
    have HXI5 := Lib.hid (HXI2.out.below hb5 HXI2.out.lt)
    have HP5 := Lib.hid (HP.out.up HM5.out.below)
    clear hb5
    by_cases he : y2 = (k : Int)
    · have e1 : (y2 == (k : Int)) = true := by simpa using he
      have HPS := Lib.hid (HYES.out he)
      clear he HYES HNO
      go_wp2_with (first
        | (go_at_call 44; refine (HFC.out _ HP5.out).mono ?_; rintro e w6 ⟨rfl, hb6⟩; have HM6 := Lib.hid (HM5.out.goes hb6); have HXI6 := Lib.hid (HXI5.out.below hb6 HXI5.out.lt); obtain ⟨v7, w7, hr7, HA7⟩ := app_one slStr HM6.out.row [.string (⟨#[112, 114, 101, 100, 32]⟩ ++ xx)] rfl (by intro u hu; rw [List.mem_singleton.1 hu]; rfl) (by have := HLEN.out; omega) HM6.out.below.size 24; obtain ⟨A7, c7, hv7⟩ := HA7.out.form; subst hv7; have HR7 := Lib.hid hr7; have HM7 := Lib.hid (HM6.out.app rfl HA7.out HX2.out); have HXI7 := Lib.hid (HM6.out.keep HA7.out HXI6.out (by decide)); obtain ⟨A6, c6, hv6, _⟩ := own_form HM6.out.row; subst hv6; clear hb6 hr7)
        | (at_builtin; refine wpList_of_append HR7.out rfl _ _ rfl rfl rfl ?_))
      go_roundw
      case rel => exact ⟨q + 1, us ++ [ln], by omega, by go_num, Lib.hid (by rw [HPS.out, HUS.out, List.append_assoc]), HM7, HXI7, Lib.hid (by have := HLEN.out; rw [List.length_append, List.length_singleton]; omega)⟩
      case measure => simp [intOf]; omega
    · have e1 : (y2 == (k : Int)) = false := by simpa using he
      have HPS := Lib.hid (HNO.out he)
      clear he HYES HNO
      go_wp2
      go_roundw
      case rel => exact ⟨q + 1, us, by omega, by go_num, Lib.hid (by rw [HPS.out]; exact HUS.out), HM5, HXI5, Lib.hid (by have := HLEN.out; omega)⟩
      case measure => simp [intOf]; omega
  case neg =>
  obtain rfl : q = o.preds.length := by omega
  have HLC : Hid (labLn o k = if labTo o.code o.code.length k = true then [64 :: Lib.itoa (k : Int)] else []) := Lib.hid rfl
  have hlabc := (HM.out.lab.cell k).trans (boolsC_at _ _ k hlt)
  have HSTEP : Hid (linesTo o (k + 1) = us ++ (labLn o k ++ [lineL o (i0, i1, i2, i3, i4)])) := Lib.hid (by
    rw [HSU.out, HPL.out, HUS.out]
    simp only [List.append_assoc])
  generalize lineL o (i0, i1, i2, i3, i4) = ln at *
  obtain ⟨A0, cA0, hv0, _⟩ := own_form HM.out.row
  subst hv0
  clear HPL HSU hlq hql
  cases hlb : labTo o.code o.code.length k with
  | true =>
    rw [hlb] at hlabc
    have HST2 : Hid (linesTo o (k + 1) = us ++ [64 :: Lib.itoa (k : Int)] ++ [ln]) := Lib.hid (by rw [HSTEP.out, HLC.out, if_pos hlb, List.append_assoc])
    have HITK := Lib.hid (fun w hp => HIT.out (k : Int) (by omega) (by omega) w hp)
    obtain ⟨xx, hx1, hx2⟩ : ∃ xx, bs (Lib.itoa (k : Int)) = xx ∧ (⟨#[64]⟩ : ByteArray) ++ xx = bs (64 :: Lib.itoa (k : Int)) := ⟨_, rfl, cons_bs _ _⟩
    have hxs : xx.size ≤ 21 := by rw [← hx1, bs_size]; have := Lib.itoa_length_le (k : Int) (by omega) (by omega); omega
    rw [hx1] at HITK
    have HX2 := Lib.hid hx2
    generalize (64 :: Lib.itoa (k : Int)) = lb at HX2 HST2
    clear hx1 hx2 hlb HSTEP HLC
    go_wp2_with (first
      | (go_at_call 45; refine (HITK.out _ (HP.out.up HM.out.below)).mono ?_; rintro e w6 ⟨rfl, hb6⟩; have HM6 := Lib.hid (HM.out.goes hb6); have HXI6 := Lib.hid (HXI2.out.below hb6 HXI2.out.lt); obtain ⟨v7, w7, hr7, HA7⟩ := app_one slStr HM6.out.row [.string (⟨#[64]⟩ ++ xx)] rfl (by intro u hu; rw [List.mem_singleton.1 hu]; rfl) (by have := HLEN.out; omega) HM6.out.below.size 24; obtain ⟨A7, c7, hv7⟩ := HA7.out.form; subst hv7; have HR7 := Lib.hid hr7; have HM7 := Lib.hid (HM6.out.app rfl HA7.out HX2.out); have HXI7 := Lib.hid (HM6.out.keep HA7.out HXI6.out (by decide)); clear hr7; have x0 := HXI7.out.cell 0; have x1 := HXI7.out.cell 1; have x2 := HXI7.out.cell 2; have x3 := HXI7.out.cell 3; have x4 := HXI7.out.cell 4; have y0 := HM7.out.ob.cell 0; have y1 := HM7.out.ob.cell 1; have y2 := HM7.out.ob.cell 2; have y3 := HM7.out.ob.cell 3; clear hb6)
      | (go_at_call 46; refine (HII.out _ _ _ _ _ (HP.out.up HM7.out.below) (HV.out.below HM7.out.below)).mono ?_; rintro e w8 ⟨rfl, hb8⟩; have HM8 := Lib.hid (HM7.out.goes hb8); have HXI8 := Lib.hid (HXI7.out.below hb8 HXI7.out.lt); have hl8 : (us ++ [lb]).length = us.length + 1 := (by simp); have hrow8 := HM8.out.row; rw [hl8] at hrow8; obtain ⟨v9, w9, hr9, HA9⟩ := app_one slStr hrow8 [.string (bs ln)] rfl (by intro u hu; rw [List.mem_singleton.1 hu]; rfl) (by have := HLEN.out; omega) HM8.out.below.size 24; obtain ⟨A9, c9, hv9⟩ := HA9.out.form; subst hv9; have HR9 := Lib.hid hr9; have HM9 := Lib.hid (HM8.out.app hl8 HA9.out rfl); have HXI9 := Lib.hid (HM8.out.keep HA9.out HXI8.out (by decide)); clear hr9; clear hb8)
      | (at_builtin; refine wpList_of_append HR9.out rfl _ _ rfl rfl rfl ?_)
      | (at_builtin; refine wpList_of_append HR7.out rfl _ _ rfl rfl rfl ?_))
    go_roundw
    case rel => exact ⟨k + 1, us ++ [lb] ++ [ln], by omega, by go_num, Lib.hid HST2.out.symm, HM9, Lib.hid (by have := HLEN.out; simp only [List.length_append, List.length_singleton]; omega)⟩
    case measure => simp [intOf]; omega
  | false =>
    rw [hlb] at hlabc
    have HST2 : Hid (linesTo o (k + 1) = us ++ [ln]) := Lib.hid (by rw [HSTEP.out, HLC.out, if_neg (by rw [hlb]; decide)]; rfl)
    have x0 := HXI2.out.cell 0
    have x1 := HXI2.out.cell 1
    have x2 := HXI2.out.cell 2
    have x3 := HXI2.out.cell 3
    have x4 := HXI2.out.cell 4
    have y0 := HM.out.ob.cell 0
    have y1 := HM.out.ob.cell 1
    have y2 := HM.out.ob.cell 2
    have y3 := HM.out.ob.cell 3
    clear hlb HSTEP HLC
    go_wp2_with (first
      | (go_at_call 46; refine (HII.out _ _ _ _ _ (HP.out.up HM.out.below) (HV.out.below HM.out.below)).mono ?_; rintro e w8 ⟨rfl, hb8⟩; have HM8 := Lib.hid (HM.out.goes hb8); have HXI8 := Lib.hid (HXI2.out.below hb8 HXI2.out.lt); obtain ⟨v9, w9, hr9, HA9⟩ := app_one slStr HM8.out.row [.string (bs ln)] rfl (by intro u hu; rw [List.mem_singleton.1 hu]; rfl) (by have := HLEN.out; omega) HM8.out.below.size 24; obtain ⟨A9, c9, hv9⟩ := HA9.out.form; subst hv9; have HR9 := Lib.hid hr9; have HM9 := Lib.hid (HM8.out.app rfl HA9.out rfl); have HXI9 := Lib.hid (HM8.out.keep HA9.out HXI8.out (by decide)); clear hr9; clear hb8)
      | (at_builtin; refine wpList_of_append HR9.out rfl _ _ rfl rfl rfl ?_))
    go_roundw
    case rel => exact ⟨k + 1, us ++ [ln], by omega, by go_num, Lib.hid HST2.out.symm, HM9, Lib.hid (by have := HLEN.out; simp only [List.length_append, List.length_singleton]; omega)⟩
    case measure => simp [intOf]; omega

end Go.Proofs.YtclkdlegogjnbaaGreatDoor

namespace Go.Proofs.YtclkdlegogjnbaaGreatDoor
open Go Go.RowKit Go.WideShapes Go.ChangeShapes
set_option linter.unusedVariables false
set_option linter.unusedSimpArgs false

theorem strC_at {us : List (List UInt8)} {k : Nat} (h : k < us.length) : (strC us)[k]? = some (.string (bs us[k])) := by
  unfold strC
  rw [List.getElem?_map, List.getElem?_eq_getElem h]
  rfl
theorem lineCell {w : World} {A : Option Addr} {n c : Nat} {us : List (List UInt8)} (h : CellsAt w (.slice A n c) us.length (strC us)) (k : Nat) (hk : k < us.length) : ∃ b off, A = some ⟨b, off, none⟩ ∧ w.cell? ⟨b, off + k, none⟩ = some (.string (bs us[k])) := by
  obtain ⟨_, b, off, hA, hl, hc⟩ := h.at_ (by omega)
  exact ⟨b, off, hA, hc k _ (strC_at hk)⟩

set_option maxHeartbeats 4000000 in
theorem strings_any (us : List (List UInt8)) (hm : us.length ≤ 1000000) (v1 v2 : Value) (w : World) (h1 : CellsAt w v1 us.length (strC us)) (h2 : CellsAt w v2 us.length (strC us)) :
    Calls Tryz.prog 17 #[v1, v2] w fun e w' => e = .returned (.bool true) ∧ Below w.heap.size w w' := by
  obtain ⟨A1, c1, rfl⟩ := h1.form
  obtain ⟨A2, c2, rfl⟩ := h2.form
  have H1 := Lib.hid h1
  have H2 := Lib.hid h2
  clear h1 h2
  go_enter Tryz.func17, Tryz.ntmps17
  go_wp2
  go_loopw [4, 5] (fun _ i wr => ∃ k : Nat, k ≤ us.length ∧ i = .int .i64 k ∧ ∃ m, wr = w.drewN m) (fun _ i _ => us.length - (intOf i).toNat)
  case atStart => exact ⟨0, by omega, rfl, 0, rfl⟩
  obtain ⟨k, hk, rfl, mm, rfl⟩ := hrel
  by_cases hlt : k < us.length
  · obtain ⟨b, off, rfl, d0⟩ := lineCell H1.out k hlt
    obtain ⟨b2, off2, rfl, d1⟩ := lineCell H2.out k hlt
    generalize bs us[k] = x at d0 d1
    have e1 : (x.toList != x.toList) = false := by simp
    have e2 : (x.toList = x.toList) = True := by simp
    go_upto_region 6 with (fail)
    go_quiet (fail)
    go_wp2
    go_roundw
    case rel => exact ⟨k + 1, by omega, by go_num, _, rfl⟩
    case measure => simp [intOf]; omega
  · obtain rfl : k = us.length := by omega
    go_wp2
    go_ret
    exact ⟨rfl, bel_drewN (Below.refl _ _) _⟩

def fewB (l : List ByteArray) : Bool := decide (l.length ≤ 200) && l.all fun s => decide (s.size ≤ 200)
theorem linesTo_len (o : Ob) (k : Nat) : (linesTo o k).length ≤ k * (o.preds.length + 2) := by
  induction k with
  | zero => simp [linesTo]
  | succ k ih =>
    rw [linesTo_succ, List.length_append, Nat.succ_mul]
    have h1 : (placeLns o k).length ≤ o.preds.length + 2 := by
      unfold placeLns predLns labLn
      have h2 := List.length_filter_le (fun p : ByteArray × Int × Int => p.2.2 == (k : Int)) (o.preds.take o.preds.length)
      rw [List.take_length] at h2
      rw [List.length_append, List.length_append, List.length_map, List.length_singleton, List.take_length]
      split
      · rw [List.length_singleton]; omega
      · rw [List.length_nil]; omega
    omega
theorem linesOf_len (o : Ob) (h : o.code.length ≤ 2000) (h2 : o.preds.length ≤ 200) : (linesOf o).length ≤ 1000000 := by
  unfold linesOf
  split
  · simp
  · have h1 := linesTo_len o o.code.length
    have h3 : o.code.length * (o.preds.length + 2) ≤ 2000 * 202 := Nat.mul_le_mul h (by omega)
    omega

end Go.Proofs.YtclkdlegogjnbaaGreatDoor
