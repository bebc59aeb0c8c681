/-
  The document's Lines (resolventref09). Conditions: names of at most maxLen bytes, tables of at most a million rows.
-/
import Derived.Test.YtfgnapfodnhppaaGreatDoorJ40
import Derived.Test.YtfgnapfodnhppaaGreatDoorJ42
namespace Go.Proofs.YtfgnapfodnhppaaGreatDoor
open Go Go.RowKit Go.WideShapes Go.ChangeShapes
set_option linter.unusedVariables false
set_option linter.unusedSimpArgs false

/-- The document's Lines in memory: the row of lines; the object. -/
structure Lr (w wr : World) (go : Nat) (cs : Array Value) (vl : Value) (us : List (List UInt8)) : Prop where
  row : wr.ownsRow w.heap.size 9 1 vl us.length (strC us)
  ob : Box wr go 39 cs
  below : Below w.heap.size w wr
section
variable {w wr w' : World} {go : Nat} {cs : Array Value} {vl : Value} {us : List (List UInt8)}
theorem Lr.goes (h : Lr w wr go cs vl us) (hb : Below wr.heap.size wr w') : Lr w w' go cs vl us :=
  ⟨own_fr h.row (Fr.of_below (S := fun _ => False) hb) (fun _ _ x => x), h.ob.below hb h.ob.lt, h.below.trans (hb.mono h.below.size)⟩
theorem Lr.drewN (h : Lr w wr go cs vl us) (n : Nat) : Lr w (wr.drewN n) go cs vl us := h.goes ⟨rfl, rfl, rfl, Nat.le_refl _, fun _ _ => rfl⟩
theorem Lr.app {v6 : Value} {x : ByteArray} {y : List UInt8} {n0 : Nat} (h : Lr w wr go cs vl us) (hn : us.length = n0) (ha : App wr w' w.heap.size 9 1 vl v6 (n0 + 1) (strC us ++ [.string x])) (hx : x = bs y) : Lr w w' go cs v6 (us ++ [y]) := by
  subst hx
  subst hn
  refine ⟨?_, h.ob.fr ha.fr (fun e => own_ne_box h.row h.ob (by decide) _ e rfl), h.below.trans (ha.fr.below h.below.size (fun k hk => (own_ge h.row hk).1))⟩
  have := ha.own
  simpa [strC] using this
end

set_option maxRecDepth 100000 in
set_option maxHeartbeats 16000000 in
theorem rlines_any (o : Ob) (ho : ObWf o) (va vf vp vc : Value) (w : World) (hv : ObAt w va vf vp vc o) :
    Calls Tryz.prog 16 #[.agg #[va, vf, vp, vc]] w (LinesW w (linesOf o)) := by
  obtain ⟨A1, c1, rfl⟩ := hv.atoms.form
  obtain ⟨A2, c2, rfl⟩ := hv.funs.form
  obtain ⟨A3, c3, rfl⟩ := hv.preds.form
  obtain ⟨A4, c4, rfl⟩ := hv.code.form
  have hb1 := alloc_below w (.cells #[.slice A1 o.atoms.length c1, .slice A2 o.funs.length c2, .slice A3 o.preds.length c3, .slice A4 o.code.length c4] 39)
  have HB1 := Lib.hid hb1
  have HX1 := Lib.hid (Box.new w 39 #[.slice A1 o.atoms.length c1, .slice A2 o.funs.length c2, .slice A3 o.preds.length c3, .slice A4 o.code.length c4])
  have HC := Lib.hid (rcheck_any o ho _ _ _ _ _ (hv.below hb1))
  have HV := Lib.hid hv
  have HLO : Hid (linesOf o = if checkOf o ≠ 0 then [] else linesTo o o.code.length) := Lib.hid rfl
  obtain ⟨r, hr⟩ : ∃ r, linesOf o = r := ⟨_, rfl⟩
  rw [hr] at HLO ⊢
  cases hck : decide (checkOf o = 0) with
  | false =>
    have hck := of_decide_eq_false hck
    have HX : Hid (r = []) := Lib.hid (by rw [HLO.out, if_pos hck])
    generalize checkOf o = ck at *
    have e1 : (ck != 0) = true := by rw [bne_iff_ne]; exact hck
    clear hck hv hb1 hr
    go_enter Tryz.func16, Tryz.ntmps16
    go_wp2_with (go_at_call 37; refine HC.out.mono ?_; rintro e w2 ⟨rfl, hb2⟩; have HB2 := Lib.hid (HB1.out.trans (hb2.mono HB1.out.size)); clear hb2)
    go_ret
    exact ⟨_, rfl, by rw [HX.out]; exact World.ownsRow_nil _ _ _ _, HB2.out⟩
  | true =>
  have hck := of_decide_eq_true hck
  have HX : Hid (r = linesTo o o.code.length) := Lib.hid (by rw [HLO.out, if_neg (by simp [hck])])
  have hok := ok_of hck
  rw [hck] at HC
  have HIL := Lib.hid (fun i (hi : i ∈ o.code) va vf vp vc w hv => rtext9_any o hok i hi va vf vp vc w hv)
  have HNM := Lib.hid (fun n h0 h1 w => num_bs n h0 h1 w)
  have HOPS := Lib.hid (fun op w => roperands_any op w)
  have hlc := hok.lc
  have hlp := hok.lp
  have hlen0 : (linesTo o 0).length = 0 := rfl
  unfold insV at HIL
  clear hv hb1 hr hck HLO
  go_enter Tryz.func16, Tryz.ntmps16
  go_upto_region 5 with (go_at_call 37; refine HC.out.mono ?_; rintro e w2 ⟨rfl, hb2⟩; have HB2 := Lib.hid (HB1.out.trans (hb2.mono HB1.out.size)); have HX2 := Lib.hid (HX1.out.below hb2 HX1.out.lt); clear hb2)
  obtain ⟨go, hgo⟩ : ∃ go, w.heap.size = go := ⟨_, rfl⟩
  rw [hgo] at HX2 ⊢
  have HL3 : Hid (Lr w w2 go #[.slice A1 o.atoms.length c1, .slice A2 o.funs.length c2, .slice A3 o.preds.length c3, .slice A4 o.code.length c4] (.slice none 0 0) (linesTo o 0)) := Lib.hid ⟨World.ownsRow_nil _ _ _ _, HX2.out, HB2.out⟩
  clear HC HX1 HX2 HB2 hgo
  go_wp2
  go_loopw [3, 4, 5, 6, 7, 8, 9] (fun vl i _ _ _ _ _ wr => ∃ (k : Nat) (us : List (List UInt8)), k ≤ o.code.length ∧ i = .int .i64 k ∧ Hid (us = linesTo o k) ∧ Hid (Lr w wr go #[.slice A1 o.atoms.length c1, .slice A2 o.funs.length c2, .slice A3 o.preds.length c3, .slice A4 o.code.length c4] vl us) ∧ Hid (us.length ≤ 70 * k)) (fun _ i _ _ _ _ _ _ => o.code.length - (intOf i).toNat)
  case atStart => exact ⟨0, _, by omega, rfl, Lib.hid rfl, HL3, Lib.hid (by rw [hlen0]; omega)⟩
  obtain ⟨k, us, hkl, rfl, HUS, HMO, HLEN⟩ := hrel
  clear HL3
  by_cases hlt : k < o.code.length
  case neg =>
    obtain rfl : k = o.code.length := by omega
    have q3 := HMO.out.ob.cell 3
    go_wp2
    go_ret
    exact ⟨_, rfl, by rw [HX.out, ← HUS.out]; exact HMO.out.row, HMO.out.below⟩
  case pos =>
  have q3 := HMO.out.ob.cell 3
  have HSU := Lib.hid (linesTo_succ o k)
  have HPL : Hid (placeLns o k = predLns o k o.preds.length ++ labLn o k ++ [lineL o o.code[k]]) := Lib.hid (by
    unfold placeLns
    rw [List.getD_eq_getElem?_getD, List.getElem?_eq_getElem hlt]
    rfl)
  have HU5 : Hid (us = linesTo o k ++ predLns o k 0) := Lib.hid (by
    rw [show linesTo o k ++ predLns o k 0 = linesTo o k by simp [predLns]]
    exact HUS.out)
  have HLE5 : Hid (us.length ≤ 70 * k + 0) := HLEN
  have hk1 : k ≤ 1024 := by omega
  go_upto_region 8 with (fail)
  clear q3 HUS HLEN
  go_wp2
  go_loopw [3, 5] (fun vl i wr => ∃ (q : Nat) (us : List (List UInt8)), q ≤ o.preds.length ∧ i = .int .i64 q ∧ Hid (us = linesTo o k ++ predLns o k q) ∧ Hid (Lr w wr go #[.slice A1 o.atoms.length c1, .slice A2 o.funs.length c2, .slice A3 o.preds.length c3, .slice A4 o.code.length c4] vl us) ∧ Hid (us.length ≤ 70 * k + q)) (fun _ i _ => o.preds.length - (intOf i).toNat)
  case atStart => exact ⟨0, us, by omega, rfl, HU5, HMO, HLE5⟩
  obtain ⟨q, us2, hql, rfl, HUS, HM, HLEN⟩ := hrel
  clear HU5 HLE5 HMO
  clear us
  rename List (List UInt8) => us
  have q2 := HM.out.ob.cell 2
  by_cases hlq : q < o.preds.length
  case pos =>
    obtain ⟨b2, off2, rfl, hb2, d0, d1, d2⟩ := predCell (HV.out.below HM.out.below).preds q hlq
    have HYES := Lib.hid (fun h => predLns_yes (k := k) hlq h)
    have HNO := Lib.hid (fun h => predLns_no (k := k) hlq h)
    have hpw := hok.preds _ (List.getElem_mem hlq)
    have hns := name_size hpw.1
    have HPN : Hid (predLn o.preds[q] = predWord ++ funW (o.preds[q].1, o.preds[q].2.1)) := Lib.hid rfl
    have HNC := Lib.hid (fun w => HNM.out o.preds[q].2.1 (by omega) (by omega) w)
    have hil := Lib.itoa_length_le o.preds[q].2.1 (by omega) (by omega)
    generalize predLn o.preds[q] = ln at HYES HPN
    generalize o.preds[q].1 = y0 at *
    generalize o.preds[q].2.1 = y1 at *
    generalize o.preds[q].2.2 = y2 at *
    obtain ⟨xn, hx1, hx2⟩ : ∃ xn, bs (Lib.itoa y1) = xn ∧ (⟨#[112, 114, 101, 100, 32]⟩ : ByteArray) ++ y0 ++ ⟨#[47]⟩ ++ xn = bs ln := ⟨_, rfl, by
      rw [HPN.out]
      apply ByteArray.ext
      simp [bs, predWord, funW]⟩
    have hxs : xn.size ≤ 21 := by rw [← hx1, bs_size]; exact hil
    rw [hx1] at HNC
    have HX2 := Lib.hid hx2
    clear hx1 hx2 hpw HPN hil
    by_cases he : y2 = (k : Int)
    · have e1 : (y2 == (k : Int)) = true := by simpa using he
      have HPS := Lib.hid (HYES.out he)
      have z1 : ((⟨#[112, 114, 101, 100, 32]⟩ : ByteArray) ++ y0).size = 5 + y0.size := by rw [ByteArray.size_append]; rfl
      have z2 : ((⟨#[112, 114, 101, 100, 32]⟩ : ByteArray) ++ y0 ++ ⟨#[47]⟩).size = 5 + y0.size + 1 := by rw [ByteArray.size_append, z1]; rfl
      have t1 : (9223372036854775807 < 5 + y0.size) = False := eq_false (by omega)
      have t2 : (9223372036854775807 < 5 + y0.size + 1) = False := eq_false (by omega)
      have t3 : (9223372036854775807 < 5 + y0.size + 1 + xn.size) = False := eq_false (by omega)
      clear he HYES HNO
      obtain ⟨A0, cA0, hv0, _⟩ := own_form HM.out.row
      subst hv0
      go_upto_region 11 with (fail)
      go_region_law (first
        | (refine step_of_append HR7.out rfl _ _ rfl rfl rfl ?_)
        | (go_simp; go_at_call 38; refine (HNC.out _).mono ?_; rintro e w6 ⟨rfl, mm, rfl⟩; have HM6 := Lib.hid (HM.out.drewN (1 + mm)); obtain ⟨v7, w7, hr7, HA7⟩ := app_one slStr HM6.out.row [.string (⟨#[112, 114, 101, 100, 32]⟩ ++ y0 ++ ⟨#[47]⟩ ++ xn)] rfl (by intro u hu; rw [List.mem_singleton.1 hu]; rfl) (by have := HLEN.out; omega) HM6.out.below.size 22; obtain ⟨A7, c7, hv7⟩ := HA7.out.form; subst hv7; have HR7 := Lib.hid hr7; have HM7 := Lib.hid (HM6.out.app rfl HA7.out HX2.out); clear hr7))
      all_goals
        go_wp2
        go_roundw
        case rel => exact ⟨q + 1, us ++ [ln], by omega, by go_num, Lib.hid (by rw [HPS.out, HUS.out, List.append_assoc]), HM7, Lib.hid (by have := HLEN.out; rw [List.length_append, List.length_singleton]; omega)⟩
        case measure => simp [intOf]; omega
    · have e1 : (y2 == (k : Int)) = false := by simpa using he
      have HPS := Lib.hid (HNO.out he)
      clear he HYES HNO
      go_wp2
      go_roundw
      case rel => exact ⟨q + 1, us, by omega, by go_num, Lib.hid (by rw [HPS.out]; exact HUS.out), HM, Lib.hid (by have := HLEN.out; omega)⟩
      case measure => simp [intOf]; omega
  case neg =>
  obtain rfl : q = o.preds.length := by omega
  obtain ⟨A0, cA0, hv0, _⟩ := own_form HM.out.row
  subst hv0
  have HLC : Hid (labLn o k = if labTo o.code o.code.length k = true then [64 :: Lib.itoa (k : Int)] else []) := Lib.hid rfl
  have HSTEP : Hid (linesTo o (k + 1) = us ++ (labLn o k ++ [lineL o o.code[k]])) := Lib.hid (by
    rw [HSU.out, HPL.out, HUS.out]
    simp only [List.append_assoc])
  have hL0 : labTo o.code 0 k = false := rfl
  go_upto_region 14 with (fail)
  go_wp2
  go_loopw [6, 7, 8, 9] (fun b j _ _ wr => ∃ t : Nat, t ≤ o.code.length ∧ j = .int .i64 t ∧ b = .bool (labTo o.code t k) ∧ Hid (Lr w wr go #[.slice A1 o.atoms.length c1, .slice A2 o.funs.length c2, .slice A3 o.preds.length c3, .slice A4 o.code.length c4] (.slice A0 us.length cA0) us)) (fun _ j _ _ _ => o.code.length - (intOf j).toNat)
  case atStart => exact ⟨0, by omega, rfl, by rw [hL0], HM⟩
  obtain ⟨t, htl, rfl, rfl, HM2⟩ := hrel
  clear HM q2 hL0
  have q3 := HM2.out.ob.cell 3
  by_cases hlt2 : t < o.code.length
  case pos =>
    obtain ⟨b2, off2, hA4, hb2, d0, d1, d2, d3, d4⟩ := insCell (HV.out.below HM2.out.below).code t hlt2
    subst hA4
    have HLS := Lib.hid (fun m => labI_succ o.code[t] m k)
    have HTS := Lib.hid (labTo_succ o.code t k hlt2)
    have hop := HOPS.out o.code[t].1
    have HOP := Lib.hid hop
    have hfew := ops_few o.code[t].1
    have HAC : Hid (∀ m, m < 4 → wr.cell? ⟨b2, off2 + t * 5 + 1 + m, none⟩ = some (.int .i64 ((argOf o.code[t]).getD m 0))) := Lib.hid (fun m hm => by
      match m, hm with
      | 0, _ => exact d1
      | 1, _ => exact d2
      | 2, _ => exact d3
      | 3, _ => exact d4)
    have hI0 : labI o.code[t] 0 k = false := rfl
    clear hop d1 d2 d3 d4
    generalize o.code[t] = ii at *
    go_upto_region 18 with (go_at_call 39; refine (HOP.out _).mono ?_; rintro e w4 hN; obtain ⟨pl, rfl, hb4, hl4⟩ := newInts_any9 hN; have HB4 := Lib.hid hb4; have HL4 := Lib.hid hl4; have HM4 := Lib.hid (HM2.out.goes hb4); clear hN hb4 hl4)
    obtain ⟨gl, hgl⟩ : ∃ gl, wr.heap.size = gl := ⟨_, rfl⟩
    rw [hgl] at HL4
    have HAC4 : Hid (∀ m, m < 4 → w4.cell? ⟨b2, off2 + t * 5 + 1 + m, none⟩ = some (.int .i64 ((argOf ii).getD m 0))) := Lib.hid (fun m hm => (HB4.out.cell (p := ⟨b2, _, none⟩) hb2).trans (HAC.out m hm))
    have hb4 : b2 < w4.heap.size := Nat.lt_of_lt_of_le hb2 HB4.out.size
    generalize opsOf ii.1 = L at *
    generalize labTo o.code t k = l0 at *
    clear hgl HB4 HOP d0 HM2 hb2 HAC q3
    go_wp2
    go_loopw [6, 9] (fun b j wr => ∃ m : Nat, m ≤ L.length ∧ j = .int .i64 m ∧ b = .bool (l0 || labI ii m k) ∧ Hid (Lr w wr go #[.slice A1 o.atoms.length c1, .slice A2 o.funs.length c2, .slice A3 o.preds.length c3, .slice (some ⟨b2, off2, none⟩) o.code.length c4] (.slice A0 us.length cA0) us) ∧ wr = w4) (fun _ j _ => L.length - (intOf j).toNat)
    case atStart => exact ⟨0, by omega, rfl, by rw [hI0, Bool.or_false], HM4, rfl⟩
    obtain ⟨m, hmL, rfl, rfl, HM5, rfl⟩ := hrel
    clear HM4
    by_cases hlm : m < L.length
    case neg =>
      obtain rfl : m = L.length := by omega
      go_wp2
      go_roundw
      case rel => exact ⟨t + 1, by omega, by go_num, by rw [HTS.out], HM5⟩
      case measure => simp [intOf]; omega
    case pos =>
    obtain ⟨rfl, hbl⟩ := HL4.out (by omega)
    have hkd := hbl.cell m
    rw [show (L.map (Value.int .i64)).toArray[m]? = some (.int .i64 (L.getD m 0)) by simp [hlm]] at hkd
    have hcc := HAC4.out m (by omega)
    have HLM := Lib.hid (HLS.out m)
    have hm4 : (m : Int) < 4 := by omega
    have hm0 : (0 : Int) ≤ (m : Int) := by omega
    have q3 := HM5.out.ob.cell 3
    clear hbl
    generalize L.getD m 0 = kd at *
    generalize (argOf ii).getD m 0 = nn at *
    generalize labI ii m k = lm at *
    obtain ⟨bb, hbb⟩ : ∃ bb, (l0 || lm) = bb := ⟨_, rfl⟩
    rw [hbb]
    cases bb with
    | true =>
      have HNX : Hid ((l0 || labI ii (m + 1) k) = true) := Lib.hid (by rw [HLM.out, ← Bool.or_assoc, hbb, Bool.true_or])
      go_wp2
      go_roundw
      case rel => exact ⟨m + 1, by omega, by go_num, by rw [HNX.out], HM5, by trivial⟩
      case measure => simp [intOf]; omega
    | false =>
      by_cases h8 : kd = 8
      · subst h8
        by_cases hn : nn = (k : Int)
        · have HNX : Hid ((l0 || labI ii (m + 1) k) = true) := Lib.hid (by
            rw [HLM.out, ← Bool.or_assoc, hbb, Bool.false_or]
            exact decide_eq_true ⟨rfl, by omega, hn⟩)
          have e1 : (nn == (k : Int)) = true := by simpa using hn
          clear hbb
          go_wp2
          go_roundw
          case rel => exact ⟨m + 1, by omega, by go_num, by rw [HNX.out], HM5, by trivial⟩
          case measure => simp [intOf]; omega
        · have HNX : Hid ((l0 || labI ii (m + 1) k) = false) := Lib.hid (by
            rw [HLM.out, ← Bool.or_assoc, hbb, Bool.false_or]
            exact decide_eq_false (fun h => hn h.2.2))
          have e1 : (nn == (k : Int)) = false := by simpa using hn
          clear hbb
          go_wp2
          go_roundw
          case rel => exact ⟨m + 1, by omega, by go_num, by rw [HNX.out], HM5, by trivial⟩
          case measure => simp [intOf]; omega
      · have HNX : Hid ((l0 || labI ii (m + 1) k) = false) := Lib.hid (by
          rw [HLM.out, ← Bool.or_assoc, hbb, Bool.false_or]
          exact decide_eq_false (fun h => h8 h.1))
        have e1 : (kd == 8) = false := by simpa using h8
        clear hbb
        go_wp2
        go_roundw
        case rel => exact ⟨m + 1, by omega, by go_num, by rw [HNX.out], HM5, by trivial⟩
        case measure => simp [intOf]; omega
  case neg =>
  obtain rfl : t = o.code.length := by omega
  cases hlb : labTo o.code o.code.length k with
  | true =>
    have HST2 : Hid (linesTo o (k + 1) = us ++ [64 :: Lib.itoa (k : Int)] ++ [lineL o o.code[k]]) := Lib.hid (by rw [HSTEP.out, HLC.out, if_pos hlb, List.append_assoc])
    have HITK := Lib.hid (fun w => HNM.out (k : Int) (by omega) (by omega) w)
    obtain ⟨xx, hx1, hx2⟩ : ∃ xx, bs (Lib.itoa (k : Int)) = xx ∧ (⟨#[64]⟩ : ByteArray) ++ xx = bs (64 :: Lib.itoa (k : Int)) := ⟨_, rfl, cons_bs _ _⟩
    have hxs : xx.size ≤ 21 := by rw [← hx1, bs_size]; have := Lib.itoa_length_le (k : Int) (by omega) (by omega); omega
    rw [hx1] at HITK
    have HX2 := Lib.hid hx2
    generalize (64 :: Lib.itoa (k : Int)) = lb at HX2 HST2
    clear hx1 hx2 hlb HSTEP HLC
    go_upto_region 23 with (first
      | (go_at_call 38; refine (HITK.out _).mono ?_; rintro e w6 ⟨rfl, mm, rfl⟩; have HM6 := Lib.hid (HM2.out.drewN mm); obtain ⟨v7, w7, hr7, HA7⟩ := app_one slStr HM6.out.row [.string (⟨#[64]⟩ ++ xx)] rfl (by intro u hu; rw [List.mem_singleton.1 hu]; rfl) (by have := HLEN.out; omega) HM6.out.below.size 22; obtain ⟨A7, c7, hv7⟩ := HA7.out.form; subst hv7; have HR7 := Lib.hid hr7; have HM7 := Lib.hid (HM6.out.app rfl HA7.out HX2.out); clear hr7)
      | (at_builtin; refine wpList_of_append HR7.out rfl _ _ rfl rfl rfl ?_))
    clear HM6 HR7 HA7 q3 HM2
    have HVE := Lib.hid (HV.out.below HM7.out.below)
    obtain ⟨be, offe, hA5, hbe, f0, f1, f2, f3, f4⟩ := insCell HVE.out.code k hlt
    subst hA5
    have HTC := Lib.hid (HIL.out o.code[k] (List.getElem_mem hlt) _ _ _ _ (w7.drewN 1) (HVE.out.below (show Below w7.heap.size w7 (w7.drewN 1) from ⟨rfl, rfl, rfl, Nat.le_refl _, fun _ _ => rfl⟩)))
    have HMd := Lib.hid (HM7.out.drewN 1)
    have s0 := HM7.out.ob.cell 0
    have s1 := HM7.out.ob.cell 1
    have s2 := HM7.out.ob.cell 2
    have s3 := HM7.out.ob.cell 3
    generalize lineL o o.code[k] = ln at *
    generalize o.code[k] = ii at *
    obtain ⟨i0, i1, i2, i3, i4⟩ := ii
    simp only at f0 f1 f2 f3 f4 HTC
    clear HVE
    go_region_law (first
      | (refine step_of_append HR9.out rfl _ _ rfl rfl rfl ?_)
      | (go_simp; go_at_call 40; refine HTC.out.mono ?_; rintro e w8 ⟨rfl, hb8⟩; have HM8 := Lib.hid (HMd.out.goes hb8); have hl8 : (us ++ [lb]).length = us.length + 1 := (by simp); have hrow8 := HM8.out.row; rw [hl8] at hrow8; obtain ⟨v9, w9, hr9, HA9⟩ := app_one slStr hrow8 [.string (bs ln)] rfl (by intro u hu; rw [List.mem_singleton.1 hu]; rfl) (by have := HLEN.out; omega) HM8.out.below.size 22; obtain ⟨A9, c9, hv9⟩ := HA9.out.form; subst hv9; have HR9 := Lib.hid hr9; have HM9 := Lib.hid (HM8.out.app hl8 HA9.out rfl); clear hr9 hb8))
    all_goals
      go_wp2
      go_roundw
      case rel => exact ⟨k + 1, us ++ [lb] ++ [ln], by omega, by go_num, Lib.hid HST2.out.symm, HM9, Lib.hid (by have := HLEN.out; simp only [List.length_append, List.length_singleton]; omega)⟩
      case measure => simp [intOf]; omega
  | false =>
    have HST2 : Hid (linesTo o (k + 1) = us ++ [lineL o o.code[k]]) := Lib.hid (by rw [HSTEP.out, HLC.out, if_neg (by rw [hlb]; decide)]; rfl)
    clear hlb HSTEP HLC
    go_upto_region 23 with (fail)
    clear q3
    have HVE := Lib.hid (HV.out.below HM2.out.below)
    obtain ⟨be, offe, hA5, hbe, f0, f1, f2, f3, f4⟩ := insCell HVE.out.code k hlt
    subst hA5
    have HTC := Lib.hid (HIL.out o.code[k] (List.getElem_mem hlt) _ _ _ _ (wr.drewN 1) (HVE.out.below (show Below wr.heap.size wr (wr.drewN 1) from ⟨rfl, rfl, rfl, Nat.le_refl _, fun _ _ => rfl⟩)))
    have HMd := Lib.hid (HM2.out.drewN 1)
    have s0 := HM2.out.ob.cell 0
    have s1 := HM2.out.ob.cell 1
    have s2 := HM2.out.ob.cell 2
    have s3 := HM2.out.ob.cell 3
    generalize lineL o o.code[k] = ln at *
    generalize o.code[k] = ii at *
    obtain ⟨i0, i1, i2, i3, i4⟩ := ii
    simp only at f0 f1 f2 f3 f4 HTC
    clear HVE
    go_region_law (first
      | (refine step_of_append HR9.out rfl _ _ rfl rfl rfl ?_)
      | (go_simp; go_at_call 40; refine HTC.out.mono ?_; rintro e w8 ⟨rfl, hb8⟩; have HM8 := Lib.hid (HMd.out.goes hb8); have hrow8 := HM8.out.row; obtain ⟨v9, w9, hr9, HA9⟩ := app_one slStr hrow8 [.string (bs ln)] rfl (by intro u hu; rw [List.mem_singleton.1 hu]; rfl) (by have := HLEN.out; omega) HM8.out.below.size 22; obtain ⟨A9, c9, hv9⟩ := HA9.out.form; subst hv9; have HR9 := Lib.hid hr9; have HM9 := Lib.hid (HM8.out.app rfl HA9.out rfl); clear hr9 hb8))
    all_goals
      go_wp2
      go_roundw
      case rel => exact ⟨k + 1, us ++ [ln], by omega, by go_num, Lib.hid HST2.out.symm, HM9, Lib.hid (by have := HLEN.out; simp only [List.length_append, List.length_singleton]; omega)⟩
      case measure => simp [intOf]; omega

end Go.Proofs.YtfgnapfodnhppaaGreatDoor
