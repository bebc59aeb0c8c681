/-
  The document's line (resolventref09): instructions. Conditions: a line of at most 10000 bytes, tables of at most 900000 rows.
-/
import Derived.Test.YtfgnapfodnhppaaGreatDoorJ38
import Derived.Test.YtfgnapfodnhppaaGreatDoorJ43
import Derived.Test.YtfgnapfodnhppaaGreatDoorJ45a
import Derived.Test.YtfgnapfodnhppaaGreatDoorJ08
namespace Go.Proofs.YtfgnapfodnhppaaGreatDoor
open Go Go.RowKit Go.WideShapes Go.ChangeShapes
set_option linter.unusedVariables false
set_option linter.unusedSimpArgs false

theorem ops_one (op : Int) (j : Nat) (hj : j < (opsOf op).length) : 1 ≤ (opsOf op).getD j 0 ∧ (opsOf op).getD j 0 ≤ 9 := by
  have key : ∀ K : Nat, K < 27 → ∀ j, j < 4 → j < (opsOf (K : Int)).length → 1 ≤ (opsOf (K : Int)).getD j 0 := by decide
  have hk := ops_kind op j
  have hfew := ops_few op
  refine ⟨?_, hk.2⟩
  by_cases h : 0 ≤ op ∧ op ≤ 26
  · obtain ⟨K, rfl⟩ := Int.eq_ofNat_of_zero_le h.1
    exact key K (by omega) j (by omega) hj
  · have e : opsOf op = [] := by
      unfold opsOf
      repeat rw [if_neg (by omega)]
    rw [e] at hj
    simp at hj
theorem zero9 : Tryz.zeroCells66 = rcs (.slice none 0 0) (.slice none 0 0) (.slice none 0 0) (.slice none 0 0) (List.replicate 1024 0) (.slice none 0 0) (.slice none 0 0) := by kernel_rfl
/-- The second record's cells at its beginning; what is made there. -/
def rcsT (a b c : Value) : Array Value := rcs a b c (.slice none 0 0) (List.replicate 1024 0) (.slice none 0 0) (.slice none 0 0)
theorem second_made (w : World) (a b c : Value) : Box (w.alloc (.cells ((((Tryz.zeroCells66.setIfInBounds 0 a).setIfInBounds 1 b).setIfInBounds 2 c).setIfInBounds 3 (.slice none 0 0)) 66)).drew w.heap.size 66 (rcsT a b c) ∧
    Below w.heap.size w (w.alloc (.cells ((((Tryz.zeroCells66.setIfInBounds 0 a).setIfInBounds 1 b).setIfInBounds 2 c).setIfInBounds 3 (.slice none 0 0)) 66)).drew := by
  have e : (((Tryz.zeroCells66.setIfInBounds 0 a).setIfInBounds 1 b).setIfInBounds 2 c).setIfInBounds 3 (.slice none 0 0) = rcsT a b c := by
    rw [zero9, rcs_set0, rcs_set1, rcs_set2, rcs_set3]
    rfl
  rw [e]
  exact ⟨(Box.new w 66 (rcsT a b c)).drew, (alloc_below w _).trans ⟨rfl, rfl, rfl, Nat.le_refl _, fun _ _ => rfl⟩⟩
theorem Rm.secondT {base : Nat} {w : World} {g gt : Nat} {va vf vp vc vu vl : Value} {s : Rs} (h : Rm base w g va vf vp vc vu vl s) (hb : Box w gt 66 (rcsT va vf vp)) (hge : base ≤ gt) :
    Rt base w gt va vf vp (.slice none 0 0) (.slice none 0 0) (.slice none 0 0) (List.replicate 1024 0) (noCode s.ob) := h.second hb hge
theorem kinds_at (L : List Int) (m : Nat) (h : m < L.length) : (L.map (Value.int .i64)).toArray[m]? = some (.int .i64 (L.getD m 0)) := by
  rw [List.getElem?_toArray, List.getElem?_map, List.getElem?_eq_getElem h, List.getD_eq_getElem?_getD, List.getElem?_eq_getElem h]
  rfl
theorem tail_getW (ws : List (List UInt8)) (m : Nat) : ws.tail.getD m [] = ws.getD (m + 1) [] := by cases ws <;> simp
theorem noBlank_at {ws : List (List UInt8)} (h : ∀ w ∈ ws, noBlank w) (k : Nat) : noBlank (ws.getD k []) := by
  rw [List.getD_eq_getElem?_getD]
  cases e : ws[k]? with
  | none => intro c hc; cases hc
  | some w => exact h w (List.mem_of_getElem? e)
theorem size_at {ws : List (List UInt8)} {n : Nat} (h : ∀ w ∈ ws, w.length ≤ n) (k : Nat) : (ws.getD k []).length ≤ n := by
  rw [List.getD_eq_getElem?_getD]
  cases e : ws[k]? with
  | none => simp
  | some w => exact h w (List.mem_of_getElem? e)

set_option maxRecDepth 100000 in
set_option maxHeartbeats 32000000 in
theorem rline_instr {base : Nat} {w : World} {g : Nat} {va vf vp vc vu vl : Value} {s : Rs} (hk : Rm base w g va vf vp vc vu vl s) (hb : base ≤ w.heap.size) (hl : s.ob.atoms.length ≤ 900000 ∧ s.ob.funs.length ≤ 900000 ∧ s.ob.preds.length ≤ 900000 ∧ s.ob.code.length ≤ 900000 ∧ s.used.length ≤ 900000) (n : Int) (x : ByteArray) (hx : x.size ≤ 10000)
    (hn1 : ¬ ((splitW x.data.toList).length = 2 ∧ (splitW x.data.toList).getD 0 [] = predB)) (hn2 : ¬ ((splitW x.data.toList).length = 1 ∧ 1 < x.data.toList.length ∧ x.data.toList.headD 0 = 64)) :
    Calls Tryz.prog 21 #[.pointer (some ⟨g, 0, none⟩), .string x, .int .i64 n] w (RLineW base w g (rInstrLine n (splitW x.data.toList) s)) := by
  have HW := Lib.hid (fun w => rwords_any x (by omega) w)
  unfold WordsRes at HW
  have hlx : x.data.toList.length = x.size := by rw [Array.length_toList]; rfl
  have HNB := Lib.hid (splitW_noBlank x.data.toList)
  have HSZ : Hid (∀ u ∈ splitW x.data.toList, u.length ≤ 10000) := Lib.hid (fun u hu => by have := splitW_sizes x.data.toList u hu; omega)
  have hlw := splitW_len x.data.toList
  have hne : 0 < (splitW x.data.toList).length := List.length_pos_iff.2 (splitW_ne _)
  have HK := Lib.hid hk
  have HB := Lib.hid hb
  have HH : Hid (∀ h : 0 < x.size, x.data.toList.headD 0 = x[0]) := Lib.hid (fun h => by
    have h2 : 0 < x.data.toList.length := by omega
    rw [List.headD_eq_head?_getD, List.head?_eq_getElem?, List.getElem?_eq_getElem h2]
    rfl)
  generalize hws : splitW x.data.toList = ws at *
  generalize hop : namedOf (bs (ws.getD 0 [])) = op
  have HRL : Hid (rInstrLine n ws s = if op < 0 ∨ ws.length ≠ (opsOf op).length + 1 then .error 17
    else match opsStep op (opsOf op) ws.tail s.ob with
    | none => .error 17
    | some (xs, o') => .ok { s with ob := { o' with code := o'.code ++ [insOf op xs] }, used := s.used ++ usedOf (s.ob.code.length : Int) n 0 (opsOf op) xs }) := Lib.hid (by subst hop; rfl)
  generalize rInstrLine n ws s = r at HRL
  obtain ⟨y, hy⟩ : ∃ y, bs (ws.getD 0 []) = y := ⟨_, rfl⟩
  have HNM := Lib.hid (fun w => rnamed_any (bs (ws.getD 0 [])) w)
  rw [hop, hy] at HNM
  have HYP : Hid (ws.length = 2 → ¬ y = ⟨#[112, 114, 101, 100]⟩) := Lib.hid (fun h2 e => hn1 ⟨h2, by rw [← bs_data (ws.getD 0 []), hy, e]; rfl⟩)
  have HOPS := Lib.hid (fun w => roperands_any op w)
  have hfew := ops_few op
  have HKO := Lib.hid (fun j (hj : j < (opsOf op).length) => ops_one op j hj)
  have HSW := Lib.hid (fun (e : op = 26) k hk => opsOf_sw op e k hk)
  clear hk hb hop
  go_enter Tryz.func21, Tryz.ntmps21
  go_upto_region 2 with (go_at_call 52; refine (HW.out _).mono ?_; rintro e w2 ⟨vw, rfl, hown, hb2⟩; have HK2 := Lib.hid (HK.out.goes hb2); have HB2 := Lib.hid hb2; obtain ⟨Aw, cw, hvw, _⟩ := own_form hown; subst hvw; have HWC := Lib.hid (strs_own hown hne); have HWG := Lib.hid (fun k hk => (own_ge hown (b := k) hk).1); clear hown hb2)
  obtain ⟨bw, rfl, hbw, hwc⟩ := HWC.out
  have x0 := hwc 0 hne
  rw [hy] at x0
  have HWA := Lib.hid hwc
  have HBG : Hid (w.heap.size ≤ bw) := Lib.hid (HWG.out bw rfl)
  clear hwc HWC
  have l0 : (0 : Int) < (ws.length : Int) := by omega
  go_cut [30] (fun t wc => t = .bool false ∧ wc = w2)
  case first =>
    by_cases h2 : ws.length = 2
    · have hnp := HYP.out h2
      have e2 : ((ws.length : Int) == 2) = true := by rw [h2]; rfl
      have ep : (y.toList == [112, 114, 101, 100]) = false := by
        rw [beq_eq_false_iff_ne]
        intro e
        rw [ByteArray.toList_eq] at e
        exact hnp (ByteArray.ext (Array.ext' e))
      clear h2 hnp
      go_wp2
      go_meet
      exact ⟨rfl, rfl⟩
    · have e2 : ((ws.length : Int) == 2) = false := by rw [beq_eq_false_iff_ne]; omega
      clear h2
      go_wp2
      go_meet
      exact ⟨rfl, rfl⟩
  case rest =>
  obtain ⟨rfl, hwc2⟩ := hcut
  subst wc
  go_upto_region 15 with (fail)
  go_cut [101] (fun t wc => t = .bool false ∧ wc = w2)
  case first =>
    by_cases h1 : ws.length = 1
    · have e1 : ((ws.length : Int) == 1) = true := by rw [h1]; rfl
      by_cases h2 : 1 < x.size
      · have e2 : (1 : Int) < (x.size : Int) := by omega
        have e3 : 0 < x.size := by omega
        have hnh : ¬ x[0] = 64 := fun e => hn2 ⟨h1, by omega, by rw [HH.out e3, e]⟩
        have e64 : ((x[0].toNat : Int) == 64) = false := by
          rw [beq_eq_false_iff_ne]
          intro e
          have e64 : (64 : UInt8).toNat = 64 := rfl
          exact hnh (UInt8.toNat_inj.1 (by omega))
        clear h1 hnh
        go_wp2
        go_meet
        exact ⟨rfl, rfl⟩
      · have e2 : ¬ (1 : Int) < (x.size : Int) := by omega
        clear h1
        go_wp2
        go_meet
        exact ⟨rfl, rfl⟩
    · have e1 : ((ws.length : Int) == 1) = false := by rw [beq_eq_false_iff_ne]; omega
      clear h1
      go_wp2
      go_meet
      exact ⟨rfl, rfl⟩
  case rest =>
  obtain ⟨rfl, hwc2⟩ := hcut
  subst wc
  go_upto_region 25 with (first
    | (go_at_call 56; refine (HNM.out _).mono ?_; rintro e w3 ⟨rfl, hb3⟩; have HB3 := Lib.hid hb3; have x3 := Box.new w3 71 #[.int .i64 op, .int .i64 0, .int .i64 0, .int .i64 0, .int .i64 0]; have HX3 := Lib.hid x3; have y0 := x3.cell 0; clear hb3 x3)
    | (go_at_call 39; refine (HOPS.out _).mono ?_; rintro e w4 hN; obtain ⟨pl, rfl, hb4, hl4⟩ := newInts_any9 hN; have HB4 := Lib.hid hb4; have HL4 := Lib.hid hl4; clear hN hb4 hl4))
  have HS3 : Hid (bw < w3.heap.size ∧ w.heap.size ≤ w3.heap.size) := Lib.hid ⟨Nat.lt_of_lt_of_le hbw HB3.out.size, Nat.le_trans HB2.out.size HB3.out.size⟩
  obtain ⟨gx, hgx⟩ : ∃ gx, w3.heap.size = gx := ⟨_, rfl⟩
  rw [hgx] at HX3 ⊢
  obtain ⟨gl, hgl⟩ : ∃ gl, (w3.alloc (.cells #[.int .i64 op, .int .i64 0, .int .i64 0, .int .i64 0, .int .i64 0] 71)).heap.size = gl := ⟨_, rfl⟩
  rw [hgl] at HL4
  have HX4 := Lib.hid (HX3.out.below HB4.out HX3.out.lt)
  have HK3 := Lib.hid ((HK2.out.goes HB3.out).goes (alloc_below w3 (.cells #[.int .i64 op, .int .i64 0, .int .i64 0, .int .i64 0, .int .i64 0] 71)))
  have HK4 := Lib.hid (HK3.out.goes HB4.out)
  have HB24 : Hid (Below w.heap.size w w4) := Lib.hid (by
    have a := HB2.out.trans (HB3.out.mono HB2.out.size)
    have b := a.alloc a.size (.cells #[.int .i64 op, .int .i64 0, .int .i64 0, .int .i64 0, .int .i64 0] 71)
    exact b.trans (HB4.out.mono b.size))
  have HW4 : Hid (∀ k, k < ws.length → w4.cell? ⟨bw, k, none⟩ = some (.string (bs (ws.getD k [])))) := Lib.hid (fun k hk => by
    have hb3 : bw < w3.heap.size := Nat.lt_of_lt_of_le hbw HB3.out.size
    have h1 := (HB3.out.cell (p := ⟨bw, k, none⟩) hbw).trans (HWA.out k hk)
    have h2 := ((alloc_below w3 (.cells #[.int .i64 op, .int .i64 0, .int .i64 0, .int .i64 0, .int .i64 0] 71)).cell (p := ⟨bw, k, none⟩) hb3).trans h1
    exact (HB4.out.cell (p := ⟨bw, k, none⟩) (Nat.lt_of_lt_of_le hb3 (alloc_below w3 _).size)).trans h2)
  have y1 := HX4.out.cell 0
  have y2 : w4.cell? ⟨gx, 0, none⟩ = some (.int .i64 op) := y1
  have HGX : Hid (bw < gx ∧ w.heap.size ≤ gx) := Lib.hid (by have := HS3.out; omega)
  have HGL : Hid (gx < gl) := Lib.hid (by rw [← hgl, ← hgx]; simp)
  clear y1 hgl hgx y0 x0 HWA HS3
  by_cases hbad : op < 0 ∨ ws.length ≠ (opsOf op).length + 1
  case pos =>
    have HX : Hid (r = .error 17) := Lib.hid (by rw [HRL.out, if_pos hbad])
    by_cases ho : op < 0
    · clear hbad
      go_wp2
      go_ret
      exact rlineW_err HX.out (HB24.out.mono HB.out)
    · have e1 : ((ws.length : Int) != ((opsOf op).length : Int) + 1) = true := by rw [bne_iff_ne]; omega
      clear hbad
      go_wp2
      go_ret
      exact rlineW_err HX.out (HB24.out.mono HB.out)
  case neg =>
  have ho : ¬ op < 0 := fun h => hbad (.inl h)
  have hwl : ws.length = (opsOf op).length + 1 := by omega
  have e1 : ((ws.length : Int) != ((opsOf op).length : Int) + 1) = false := by rw [bne_eq_false_iff_eq]; omega
  have HWL := Lib.hid hwl
  clear hbad hwl
  obtain ⟨A1, c1, hva, _⟩ := own_form HK4.out.t.ra
  obtain ⟨A2, c2, hvf, _⟩ := own_form HK4.out.t.rf
  obtain ⟨A3, c3, hvp, _⟩ := own_form HK4.out.t.rp
  subst hva hvf hvp
  have z0 := HK4.out.t.cells.1
  have z1 := HK4.out.t.cells.2.1
  have z2 := HK4.out.t.cells.2.2.1
  have k0 := HK4.out.t.box.lt
  have k1 := HX4.out.lt
  have HNE : Hid (g ≠ w4.heap.size ∧ gx < w4.heap.size) := Lib.hid ⟨by omega, k1⟩
  clear k0 k1
  go_upto_region 27 with (fail)
  go_region
  obtain ⟨wc, hwc⟩ : ∃ wc, (w4.alloc (.cells ((((Tryz.zeroCells66.setIfInBounds 0 (.slice A1 s.ob.atoms.length c1)).setIfInBounds 1 (.slice A2 s.ob.funs.length c2)).setIfInBounds 2 (.slice A3 s.ob.preds.length c3)).setIfInBounds 3 (.slice none 0 0)) 66)).drew = wc := ⟨_, rfl⟩
  obtain ⟨hbx, hb5⟩ := second_made w4 (.slice A1 s.ob.atoms.length c1) (.slice A2 s.ob.funs.length c2) (.slice A3 s.ob.preds.length c3)
  rw [hwc] at hbx hb5 ⊢
  have HBX := Lib.hid hbx
  have HB5 := Lib.hid hb5
  clear hbx hb5 hwc
  have HK5 := Lib.hid (HK4.out.goes HB5.out)
  have HB25 : Hid (Below w.heap.size w wc) := Lib.hid (HB24.out.trans (HB5.out.mono HB24.out.size))
  have HT5 := Lib.hid (HK5.out.secondT HBX.out (Nat.le_trans HB.out HB24.out.size))
  have HAP : Hid (∀ b g', w.heap.size ≤ b → b < wc.heap.size → b ≠ g' → Apart wc b g' (.slice A1 s.ob.atoms.length c1) (.slice A2 s.ob.funs.length c2) (.slice A3 s.ob.preds.length c3)) := Lib.hid (fun b g' h1 h2 h3 => ⟨h2, h3, fun e => by have := (own_ge HK.out.t.ra e).2; omega, fun e => by have := (own_ge HK.out.t.rf e).2; omega, fun e => by have := (own_ge HK.out.t.rp e).2; omega⟩)
  have HAU : Hid (∀ b, w.heap.size ≤ b → vu.ownBlock ≠ some b ∧ vc.ownBlock ≠ some b) := Lib.hid (fun b h1 => ⟨fun e => by have := (own_ge HK.out.ru e).2; omega, fun e => by have := (own_ge HK.out.t.rc e).2; omega⟩)
  have HGW : Hid (g < w.heap.size) := Lib.hid HK.out.t.box.lt
  have HSZ4 : Hid (w4.heap.size ≤ wc.heap.size ∧ w4.heap.size < wc.heap.size) := Lib.hid ⟨HB5.out.size, HBX.out.lt⟩
  have HL5 : Hid (0 < (opsOf op).length → pl = some ⟨gl, 0, none⟩ ∧ Box wc gl 3 ((opsOf op).map (Value.int .i64)).toArray ∧ gl < w4.heap.size) := Lib.hid (fun h0 => ⟨(HL4.out h0).1, (HL4.out h0).2.below HB5.out (HL4.out h0).2.lt, (HL4.out h0).2.lt⟩)
  have HTM : Hid (TryM base w wc g w4.heap.size bw gx gl pl (opsOf op) ws (insC (insOf op [])).toArray (.slice A1 s.ob.atoms.length c1) (.slice A2 s.ob.funs.length c2) (.slice A3 s.ob.preds.length c3) vc vu vl s (.slice A1 s.ob.atoms.length c1) (.slice A2 s.ob.funs.length c2) (.slice A3 s.ob.preds.length c3) (noCode s.ob) 0) := Lib.hid (by
    have h1 := HGX.out
    have h2 := HNE.out
    have h3 := HBG.out
    have h4 := HSZ4.out
    have h5 := HGW.out
    have h6 := HGL.out
    refine ⟨HK5.out, HT5.out, ⟨fun k hk => (HB5.out.cell (p := ⟨bw, k, none⟩) (show bw < w4.heap.size by omega)).trans (HW4.out k hk), HX4.out.below HB5.out HX4.out.lt, fun h0 => ⟨(HL5.out h0).1, (HL5.out h0).2.1⟩, by omega, ⟨by omega, fun h0 => by omega⟩⟩, ⟨HAP.out bw _ h3 (by omega) (by omega), HAP.out gx _ h1.2 (by omega) (by omega), fun h0 => HAP.out gl _ (by omega) (by have := (HL5.out h0).2.2; omega) (by have := (HL5.out h0).2.2; omega)⟩, ⟨HAP.out bw _ h3 (by omega) (by omega), HAP.out gx _ h1.2 (by omega) (by omega), fun h0 => HAP.out gl _ (by omega) (by have := (HL5.out h0).2.2; omega) (by omega)⟩, h2.1, ⟨Nat.le_refl _, Nat.le_refl _, Nat.le_refl _⟩, ⟨Nat.le_refl _, Nat.le_refl _, Nat.le_refl _⟩, HB25.out.mono HB.out⟩)
  have HAU2 : Hid ((vu.ownBlock ≠ some bw ∧ vu.ownBlock ≠ some gx ∧ vu.ownBlock ≠ some gl) ∧ vc.ownBlock ≠ some gx ∧ base ≤ gx) := Lib.hid ⟨⟨(HAU.out bw HBG.out).1, (HAU.out gx HGX.out.2).1, (HAU.out gl (by have := HGL.out; have := HGX.out; omega)).1⟩, (HAU.out gx HGX.out.2).2, Nat.le_trans HB.out HGX.out.2⟩
  obtain ⟨gt, hgt⟩ : ∃ gt, w4.heap.size = gt := ⟨_, rfl⟩
  rw [hgt] at HTM ⊢
  have HOP0 : Hid (¬ op < 0) := Lib.hid ho
  have HLQ : Hid (s.ob.atoms.length ≤ 900000 ∧ s.ob.funs.length ≤ 900000 ∧ s.ob.preds.length ≤ 900000 ∧ s.ob.code.length ≤ 900000 ∧ s.used.length ≤ 900000) := Lib.hid hl
  clear hgt HK HK2 HK3 HK4 HK5 HT5 HB2 HB3 HB4 HB5 HB25 HB24 HX3 HX4 HL4 HL5 HW4 z0 z1 z2 y2 HNM HOPS HBX HAP HAU HGW HSZ4 HGX HGL HNE HBG HH HYP hl hbw l0 ho e1 hlw hne hlx hn1 hn2
  generalize opsOf op = L at *
  go_wp2
  go_loopw [6, 16, 17, 18] (fun _ j _ _ wr => ∃ (m : Nat) (xs : List Int) (o : Ob) (ta tf tp : Value), m ≤ L.length ∧ j = .int .i64 m ∧ Hid (OpP op L ws.tail (noCode s.ob) m xs o) ∧ Hid (TryM base w wr g gt bw gx gl pl L ws (insC (insOf op [])).toArray (.slice A1 s.ob.atoms.length c1) (.slice A2 s.ob.funs.length c2) (.slice A3 s.ob.preds.length c3) vc vu vl s ta tf tp o m)) (fun _ j _ _ _ => L.length - (intOf j).toNat)
  case atStart => exact ⟨0, [], noCode s.ob, _, _, _, by omega, rfl, Lib.hid (OpP.start op L ws.tail (noCode s.ob)), HTM⟩
  obtain ⟨m, xs, o, ta, tf, tp, hml, rfl, HOP, HTM2⟩ := hrel
  clear HTM
  by_cases hlt : m < L.length
  case pos =>
    as_aux_lemma =>
    obtain ⟨hpl, hlb⟩ := HTM2.out.side.lb (by omega)
    subst hpl
    have k0 := (hlb.cell m).trans (kinds_at L m hlt)
    have v0 := HTM2.out.side.wc (m + 1) (by have := HWL.out; omega)
    have x0 : wr.cell? ⟨gx, 0, none⟩ = some (.int .i64 op) := HTM2.out.side.xb.cell 0
    have hkd := HKO.out m hlt
    have HTMd := Lib.hid (fun n => HTM2.out.goes HB.out (show Below wr.heap.size wr (wr.drewN n) from ⟨rfl, rfl, rfl, Nat.le_refl _, fun _ _ => rfl⟩))
    have hbd := HTM2.out.bd
    have HCALL := Lib.hid (fun n => roperand9_any (HTMd.out n).rt (Nat.le_trans HB.out (HTMd.out n).below.size) (by have := HLQ.out; omega) op (L.getD m 0) hkd.1 hkd.2 (bs (ws.getD (m + 1) [])) (by rw [bs_size]; have := size_at HSZ.out (m + 1); omega) (by rw [bs_data]; exact noBlank_at HNB.out (m + 1)))
    rw [bs_data] at HCALL
    have HBD := Lib.hid (fun (x : Int) (o' : Ob) (h : opStep op (L.getD m 0) (ws.getD (m + 1) []) o = some (x, o')) => opStep_len h (fun e => HSW.out e _ (by rw [List.getD_eq_getElem?_getD, List.getElem?_eq_getElem hlt]; exact List.getElem_mem hlt)))
    have HBAD := Lib.hid (fun (h : opStep op (L.getD m 0) (ws.getD (m + 1) []) o = none) => HOP.out.bad hlt (by rw [tail_getW]; exact h))
    have HNX := Lib.hid (fun (x : Int) (o' : Ob) (h : opStep op (L.getD m 0) (ws.getD (m + 1) []) o = some (x, o')) => HOP.out.next hlt (by rw [tail_getW]; exact h))
    generalize hres : opStep op (L.getD m 0) (ws.getD (m + 1) []) o = res at HCALL HBD HBAD HNX
    have HSA : Hid (∀ W, Side W bw gx gl (some ⟨gl, 0, none⟩) L ws (insC (insOf op [])).toArray → W.cell? ⟨gx, 0, none⟩ = some (.int .i64 op) ∧ W.cell? ⟨gl, m, none⟩ = some (.int .i64 (L.getD m 0)) ∧ W.cell? ⟨bw, m + 1, none⟩ = some (.string (bs (ws.getD (m + 1) [])))) := Lib.hid (fun W h => ⟨h.xb.cell 0, ((h.lb (by omega)).2.cell m).trans (kinds_at L m hlt), h.wc (m + 1) (by have := HWL.out; omega)⟩)
    generalize L.getD m 0 = kd at k0 HCALL HSA
    generalize bs (ws.getD (m + 1) []) = xw at v0 HCALL HSA
    have i1 : (m : Int) < (L.length : Int) := by omega
    have i2 : (0 : Int) ≤ (m : Int) := by omega
    have i3 : (m : Int) + 1 < (ws.length : Int) := by have := HWL.out; omega
    have i4 : (0 : Int) ≤ (m : Int) + 1 := by omega
    have i5 : IntKind.i64.wrap ((m : Int) + 1) = (m : Int) + 1 := IntWalk.i64_in _ (by have := HWL.out; omega)
    clear hlb hkd hres
    cases res with
    | none =>
      have HX : Hid (r = .error 17) := Lib.hid (by
        have h := HBAD.out rfl
        rw [opsStep_noCode] at h
        have h2 := Option.map_eq_none_iff.1 h
        rw [HRL.out, if_neg (by have := HWL.out; have := HOP0.out; omega), h2])
      unfold ROpW at HCALL
      simp only at HCALL
      go_upto_region 31 with (fail)
      go_region_held3 (fun w' => w'.cell? ⟨gx, 0, none⟩ = some (.int .i64 op) ∧ w'.cell? ⟨gl, m, none⟩ = some (.int .i64 kd) ∧ w'.cell? ⟨bw, m + 1, none⟩ = some (.string xw)) (first | exact HS7.out | exact ⟨x0, k0, v0⟩) (first | (go_at_call 57; refine (HCALL.out 1).mono ?_; rintro e w7 ⟨⟨z, rfl⟩, hb7⟩; have HB7 := Lib.hid ((HTMd.out 1).below.trans (hb7.mono (Nat.le_trans HB.out (HTMd.out 1).below.size))); have hs7 := (HTMd.out 1).side.goes hb7; have HS7 := Lib.hid (show w7.cell? ⟨gx, 0, none⟩ = some (.int .i64 op) ∧ w7.cell? ⟨gl, m, none⟩ = some (.int .i64 kd) ∧ w7.cell? ⟨bw, m + 1, none⟩ = some (.string xw) from HSA.out _ hs7); clear hb7 hs7))
      all_goals
        go_wp2
        go_ret
        exact rlineW_err HX.out HB7.out
    | some p =>
      obtain ⟨x, o'⟩ := p
      have HNX2 := Lib.hid (HNX.out x o' rfl)
      have HBD2 := Lib.hid (HBD.out x o' rfl)
      unfold ROpW at HCALL
      simp only at HCALL
      clear HBAD
      go_upto_region 31 with (fail)
      go_region_held3 (fun w' => w'.cell? ⟨gx, 0, none⟩ = some (.int .i64 op) ∧ w'.cell? ⟨gl, m, none⟩ = some (.int .i64 kd) ∧ w'.cell? ⟨bw, m + 1, none⟩ = some (.string xw)) (first | exact HS7.out | exact ⟨x0, k0, v0⟩) (first | (go_at_call 57; refine (HCALL.out 1).mono ?_; rintro e w7 ⟨ta', tf', tp', rfl, ht7, hf7⟩; have HTM7 := Lib.hid ((HTMd.out 1).after HB.out ht7 hf7 HBD2.out); have HS7 := Lib.hid (show w7.cell? ⟨gx, 0, none⟩ = some (.int .i64 op) ∧ w7.cell? ⟨gl, m, none⟩ = some (.int .i64 kd) ∧ w7.cell? ⟨bw, m + 1, none⟩ = some (.string xw) from HSA.out _ HTM7.out.side); clear ht7 hf7))
      all_goals
        go_wp2
        go_roundw
        case rel => exact ⟨m + 1, xs ++ [x], o', ta', tf', tp', by omega, by go_num, HNX2, HTM7⟩
        case measure => simp [intOf]; omega
  case neg =>
  as_aux_lemma =>
  obtain rfl : m = L.length := by omega
  obtain ⟨O, hO, hoO⟩ : ∃ O, opsStep op L ws.tail s.ob = some (xs, O) ∧ noCode O = o := by
    have h := HOP.out.done
    rw [opsStep_noCode] at h
    obtain ⟨⟨a, b⟩, h1, h2⟩ := Option.map_eq_some_iff.1 h
    simp only [Prod.mk.injEq] at h2
    obtain ⟨rfl, h3⟩ := h2
    exact ⟨b, h1, h3⟩
  have HOK := Lib.hid hO
  have HX : Hid (r = .ok { s with ob := { O with code := O.code ++ [insOf op xs] }, used := s.used ++ usedOf (s.ob.code.length : Int) n 0 L xs }) := Lib.hid (by rw [HRL.out, if_neg (by have := HWL.out; have := HOP0.out; omega), hO])
  have HSM : Hid (SetM base w wr g bw gx gl pl L ws (insC (insOf op [])).toArray (.slice A1 s.ob.atoms.length c1) (.slice A2 s.ob.funs.length c2) (.slice A3 s.ob.preds.length c3) vc vu vl { s with ob := s.ob, used := s.used ++ usedOf (s.ob.code.length : Int) n 0 (L.take 0) [] }) := Lib.hid (by
    have e : s.used ++ usedOf (s.ob.code.length : Int) n 0 (L.take 0) [] = s.used := by simp [usedOf]
    rw [e]
    exact ⟨HTM2.out.rm, HTM2.out.side, HTM2.out.apa, ⟨HAU2.out.1.1, HAU2.out.1.2.1, fun _ => HAU2.out.1.2.2⟩, HAU2.out.2.1, HAU2.out.2.2, HTM2.out.below⟩)
  clear hO hoO HOP HTM2 HRL hml hlt
  go_wp2
  go_loopw [19] (fun j wr => ∃ (m : Nat) (xs2 : List Int) (o : Ob) (va vf vp vu : Value), m ≤ L.length ∧ j = .int .i64 m ∧ Hid (OpP op L ws.tail s.ob m xs2 o) ∧ Hid (o.code = s.ob.code ∧ o.atoms.length ≤ s.ob.atoms.length + m ∧ o.funs.length ≤ s.ob.funs.length + m ∧ o.preds.length ≤ s.ob.preds.length + m) ∧ Hid (SetM base w wr g bw gx gl pl L ws (insC (insOf op xs2)).toArray va vf vp vc vu vl { s with ob := o, used := s.used ++ usedOf (s.ob.code.length : Int) n 0 (L.take m) xs2 })) (fun j _ => L.length - (intOf j).toNat)
  case atStart => exact ⟨0, [], s.ob, _, _, _, _, by omega, rfl, Lib.hid (OpP.start op L ws.tail s.ob), Lib.hid ⟨rfl, Nat.le_refl _, Nat.le_refl _, Nat.le_refl _⟩, HSM⟩
  obtain ⟨m, xs2, o, va, vf, vp, vu, hml, rfl, HOP, HOB, HSM2⟩ := hrel
  clear HSM
  by_cases hlt : m < L.length
  case pos =>
    as_aux_lemma =>
    obtain ⟨hpl, hlb⟩ := HSM2.out.side.lb (by omega)
    subst hpl
    have hkd := HKO.out m hlt
    have HSd := Lib.hid (fun n => HSM2.out.goes HB.out (show Below wr.heap.size wr (wr.drewN n) from ⟨rfl, rfl, rfl, Nat.le_refl _, fun _ _ => rfl⟩))
    have hbd := HOB.out
    have HCALL := Lib.hid (fun n => roperand9_any (HSd.out n).rm.t (Nat.le_trans HB.out (HSd.out n).below.size) (by have := HLQ.out; simp only; omega) op (L.getD m 0) hkd.1 hkd.2 (bs (ws.getD (m + 1) [])) (by rw [bs_size]; have := size_at HSZ.out (m + 1); omega) (by rw [bs_data]; exact noBlank_at HNB.out (m + 1)))
    rw [bs_data] at HCALL
    simp only at HCALL
    cases hres : opStep op (L.getD m 0) (ws.getD (m + 1) []) o with
    | none =>
      have h := HOP.out.bad hlt (by rw [tail_getW]; exact hres)
      rw [HOK.out] at h
      cases h
    | some p =>
      obtain ⟨x, o'⟩ := p
      rw [hres] at HCALL
      have HNX := Lib.hid (HOP.out.next hlt (by rw [tail_getW]; exact hres))
      have hb3 := opStep_bd hres (fun e => HSW.out e _ (by rw [List.getD_eq_getElem?_getD, List.getElem?_eq_getElem hlt]; exact List.getElem_mem hlt))
      have HOB2 : Hid (o'.code = s.ob.code ∧ o'.atoms.length ≤ s.ob.atoms.length + (m + 1) ∧ o'.funs.length ≤ s.ob.funs.length + (m + 1) ∧ o'.preds.length ≤ s.ob.preds.length + (m + 1)) := Lib.hid ⟨hb3.2.2.2.2.2.trans HOB.out.1, by have := HOB.out; omega, by have := HOB.out; omega, by have := HOB.out; omega⟩
      have hxl := HOP.out.1
      have HUS := Lib.hid (usedOf_snoc (s.ob.code.length : Int) n (L.take m) xs2 0 (L.getD m 0) x (by rw [hxl, List.length_take]; omega))
      rw [← take_snocL hlt, List.length_take, Nat.min_eq_left (Nat.le_of_lt hlt), Nat.zero_add] at HUS
      have HIS := Lib.hid (insC_snoc op xs2 x m hxl (by omega))
      have HIZ := Lib.hid (ins_at (insOf op xs2) m (by omega))
      have HIA : Hid ((insC (insOf op (xs2 ++ [x]))).toArray[1 + m]? = some (.int .i64 x)) := Lib.hid (by
        rw [ins_at _ _ (by omega), argOf_ins _ _ _ (by omega)]
        congr 2
        rw [List.getD_eq_getElem?_getD, List.getElem?_append_right (by omega), hxl, Nat.sub_self]
        rfl)
      unfold ROpW at HCALL
      simp only at HCALL
      have k0 := (hlb.cell m).trans (kinds_at L m hlt)
      have v0 := HSM2.out.side.wc (m + 1) (by have := HWL.out; omega)
      have x0 : wr.cell? ⟨gx, 0, none⟩ = some (.int .i64 op) := HSM2.out.side.xb.cell 0
      have HSA : Hid (∀ (W : World) (l : List Int), Side W bw gx gl (some ⟨gl, 0, none⟩) L ws (insC (insOf op l)).toArray → W.cell? ⟨gx, 0, none⟩ = some (.int .i64 op) ∧ W.cell? ⟨gl, m, none⟩ = some (.int .i64 (L.getD m 0)) ∧ W.cell? ⟨bw, m + 1, none⟩ = some (.string (bs (ws.getD (m + 1) [])))) := Lib.hid (fun W l h => ⟨h.xb.cell 0, ((h.lb (by omega)).2.cell m).trans (kinds_at L m hlt), h.wc (m + 1) (by have := HWL.out; omega)⟩)
      obtain ⟨kd, hkdE⟩ : ∃ kd, L.getD m 0 = kd := ⟨_, rfl⟩
      rw [hkdE] at k0 HCALL HUS HSA
      generalize bs (ws.getD (m + 1) []) = xw at v0 HCALL HSA
      have i1 : (m : Int) < (L.length : Int) := by omega
      have i2 : (0 : Int) ≤ (m : Int) := by omega
      have i3 : (m : Int) + 1 < (ws.length : Int) := by have := HWL.out; omega
      have i4 : (0 : Int) ≤ (m : Int) + 1 := by omega
      have i6 : (m : Int) < 4 := by omega
      have i5 : IntKind.i64.wrap ((m : Int) + 1) = (m : Int) + 1 := IntWalk.i64_in _ (by have := HWL.out; omega)
      clear hlb hkd hres hb3 hbd hxl HOP
      go_upto_region 37 with (fail)
      go_cut [] (fun wc => ∃ (va vf vp : Value), Hid (SetM base w wc g bw gx gl (some ⟨gl, 0, none⟩) L ws (insC (insOf op (xs2 ++ [x]))).toArray va vf vp vc vu vl { s with ob := o', used := s.used ++ usedOf (s.ob.code.length : Int) n 0 (L.take m) xs2 }))
      case first =>
        go_region_held3 (fun w' => w'.cell? ⟨gx, 0, none⟩ = some (.int .i64 op) ∧ w'.cell? ⟨gl, m, none⟩ = some (.int .i64 kd) ∧ w'.cell? ⟨bw, m + 1, none⟩ = some (.string xw)) (first | exact HP7.out | exact HC7.out | exact ⟨x0, k0, v0⟩) (first | (go_at_call 57; refine (HCALL.out 1).mono ?_; rintro e w7 ⟨va', vf', vp', rfl, ht7, hf7⟩; have HS7 := Lib.hid ((HSd.out 1).after HB.out ht7 hf7); have HC7 := Lib.hid (show w7.cell? ⟨gx, 0, none⟩ = some (.int .i64 op) ∧ w7.cell? ⟨gl, m, none⟩ = some (.int .i64 kd) ∧ w7.cell? ⟨bw, m + 1, none⟩ = some (.string xw) from HSA.out _ _ HS7.out.side); have HP7 := Lib.hid (show (w7.setCell ⟨gx, 1 + m, none⟩ (.int .i64 x)).cell? ⟨gx, 0, none⟩ = some (.int .i64 op) ∧ (w7.setCell ⟨gx, 1 + m, none⟩ (.int .i64 x)).cell? ⟨gl, m, none⟩ = some (.int .i64 kd) ∧ (w7.setCell ⟨gx, 1 + m, none⟩ (.int .i64 x)).cell? ⟨bw, m + 1, none⟩ = some (.string xw) from HSA.out _ (xs2 ++ [x]) (by have h := (HS7.out.put (1 + m) (.int .i64 x)).side; rw [HIS.out] at h; exact h)); clear ht7 hf7; have z0 := (HS7.out.side.xb.cell (1 + m)).trans HIZ.out; have z1 := HS7.out.side.xb.frozen (1 + m)))
        all_goals
          go_wp2
          go_meet
          exact ⟨_, _, _, Lib.hid (by rw [← HIS.out]; exact HS7.out.put (1 + m) (.int .i64 x))⟩
      case rest =>
      obtain ⟨va', vf', vp', HS8⟩ := hcut
      clear HSM2 HSd HCALL k0 v0 x0 HIS HIZ i3 i4 i5
      have k0 := ((HS8.out.side.lb (by omega)).2.cell m).trans (kinds_at L m hlt)
      rw [hkdE] at k0
      have x1 := (HS8.out.side.xb.cell (1 + m)).trans HIA.out
      by_cases h8 : kd = 8
      case neg =>
        have e8 : (kd == 8) = false := by rw [beq_eq_false_iff_ne]; exact h8
        have HS9 : Hid (SetM base w wc g bw gx gl (some ⟨gl, 0, none⟩) L ws (insC (insOf op (xs2 ++ [x]))).toArray va' vf' vp' vc vu vl { s with ob := o', used := s.used ++ usedOf (s.ob.code.length : Int) n 0 (L.take (m + 1)) (xs2 ++ [x]) }) := Lib.hid (by
          rw [HUS.out, if_neg (fun h => h8 h.1), List.append_nil]
          exact HS8.out)
        clear h8 HUS HS8
        go_wp2
        go_roundw
        case rel => exact ⟨m + 1, xs2 ++ [x], o', va', vf', vp', vu, by omega, by go_num, HNX, HOB2, HS9⟩
        case measure => simp [intOf]; omega
      case pos =>
      have e8 : (kd == 8) = true := by rw [beq_iff_eq]; exact h8
      by_cases hx5 : x = 65535
      case pos =>
        have ex : (x != 65535) = false := by rw [bne_eq_false_iff_eq]; exact hx5
        have HS9 : Hid (SetM base w wc g bw gx gl (some ⟨gl, 0, none⟩) L ws (insC (insOf op (xs2 ++ [x]))).toArray va' vf' vp' vc vu vl { s with ob := o', used := s.used ++ usedOf (s.ob.code.length : Int) n 0 (L.take (m + 1)) (xs2 ++ [x]) }) := Lib.hid (by
          rw [HUS.out, if_neg (fun h => h.2 hx5), List.append_nil]
          exact HS8.out)
        clear h8 hx5 HUS HS8
        go_wp2
        go_roundw
        case rel => exact ⟨m + 1, xs2 ++ [x], o', va', vf', vp', vu, by omega, by go_num, HNX, HOB2, HS9⟩
        case measure => simp [intOf]; omega
      case neg =>
      have ex : (x != 65535) = true := by rw [bne_iff_ne]; exact hx5
      have HUS2 : Hid (s.used ++ usedOf (s.ob.code.length : Int) n 0 (L.take (m + 1)) (xs2 ++ [x]) = s.used ++ usedOf (s.ob.code.length : Int) n 0 (L.take m) xs2 ++ [((s.ob.code.length : Int), (m : Int), n)]) := Lib.hid (by
        rw [HUS.out, if_pos ⟨h8, hx5⟩, List.append_assoc])
      clear h8 hx5 HUS
      have HUB : Hid ((s.used ++ usedOf (s.ob.code.length : Int) n 0 (L.take m) xs2).length ≤ 1000000) := Lib.hid (by
        have h1 := usedOf_len (s.ob.code.length : Int) n (L.take m) xs2 0
        have h2 := HLQ.out
        rw [List.length_append]
        rw [List.length_take] at h1
        omega)
      obtain ⟨us, hus⟩ : ∃ us, s.used ++ usedOf (s.ob.code.length : Int) n 0 (L.take m) xs2 = us := ⟨_, rfl⟩
      rw [hus] at HS8 HUS2 HUB
      clear hus
      have HOC : Hid (o'.code.length = s.ob.code.length) := Lib.hid (congrArg List.length HOB2.out.1)
      obtain ⟨A8, c8, hvu8, _⟩ := own_form HS8.out.rm.ru
      subst hvu8
      obtain ⟨A9, c9, hvc9, _⟩ := own_form HS8.out.rm.t.rc
      have q3 : wc.cell? ⟨g, 3, none⟩ = some (.slice A9 s.ob.code.length c9) := by
        have h := HS8.out.rm.t.cells.2.2.2
        rw [hvc9] at h
        simp only at h
        rw [HOC.out] at h
        exact h
      have q28 := (HS8.out.rm.t.box.cell 1028).trans (rcs_u HS8.out.rm.t.len)
      have q28a := fun oo => ((HS8.out.rm.goes (alloc_below wc oo)).t.box.cell 1028).trans (rcs_u HS8.out.rm.t.len)
      have HS8d := Lib.hid (HS8.out.goes HB.out (show Below wc.heap.size wc (wc.drewN 1) from ⟨rfl, rfl, rfl, Nat.le_refl _, fun _ _ => rfl⟩))
      go_upto_region 39 with (fail)
      obtain ⟨v6, w6, hr6, HA6⟩ := app_one slUsed HS8d.out.rm.ru [.int .i64 (s.ob.code.length : Int), .int .i64 (m : Int), .int .i64 n] rfl (by intro u hu; simp only [List.mem_cons, List.not_mem_nil, or_false] at hu; rcases hu with rfl | rfl | rfl <;> rfl) HUB.out (Nat.le_trans HB.out HS8d.out.below.size) 63
      obtain ⟨A6, c6, hv6⟩ := HA6.out.form
      subst hv6
      obtain ⟨hT6, z0, z1⟩ := HS8d.out.used HB.out HA6.out
      have HT6 : Hid (SetM base w (w6.setCell ⟨g, 1028, none⟩ (.slice A6 (us.length + 1) c6)) g bw gx gl (some ⟨gl, 0, none⟩) L ws (insC (insOf op (xs2 ++ [x]))).toArray va' vf' vp' vc (.slice A6 (us.length + 1) c6) vl { s with ob := o', used := s.used ++ usedOf (s.ob.code.length : Int) n 0 (L.take (m + 1)) (xs2 ++ [x]) }) := Lib.hid (by
        rw [HUS2.out]
        exact hT6)
      have HR6 := Lib.hid hr6
      clear hr6 hT6 HA6
      refine wp_region_noPanic ?_
      refine region39 (fun _ _ _ _ _ h => h) (by kernel_rfl) (by kernel_rfl) (by kernel_rfl) (by kernel_rfl) q3 q28 (q28a _) HR6.out z0 z1 (NoPanic.normal ?_)
      simp only [Act.put, List.setIfInBounds_toArray, List.set_cons_zero, List.set_cons_succ]
      all_goals
        go_wp2
        go_roundw
        case rel => exact ⟨m + 1, xs2 ++ [x], o', va', vf', vp', _, by omega, by go_num, HNX, HOB2, HT6⟩
        case measure => simp [intOf]; omega
  case neg =>
  as_aux_lemma =>
  obtain rfl : m = L.length := by omega
  obtain ⟨rfl, rfl⟩ : xs2 = xs ∧ o = O := by
    have h := HOP.out.done
    rw [HOK.out] at h
    simp only [Option.some.injEq, Prod.mk.injEq] at h
    exact ⟨h.1.symm, h.2.symm⟩
  have HSM3 : Hid (SetM base w wr g bw gx gl pl L ws (insC (insOf op xs2)).toArray va vf vp vc vu vl { s with ob := o, used := s.used ++ usedOf (s.ob.code.length : Int) n 0 L xs2 }) := Lib.hid (by
    have h := HSM2.out
    rw [List.take_length] at h
    exact h)
  have HOC : Hid (o.code.length ≤ 1000000) := Lib.hid (by rw [HOB.out.1]; have := HLQ.out; omega)
  clear HSM2 HOP
  generalize insOf op xs2 = ii at HSM3 HX
  obtain ⟨i0, i1, i2, i3, i4⟩ := ii
  have j0 : wr.cell? ⟨gx, 0, none⟩ = some (.int .i64 i0) := HSM3.out.side.xb.cell 0
  have j1 : wr.cell? ⟨gx, 1, none⟩ = some (.int .i64 i1) := HSM3.out.side.xb.cell 1
  have j2 : wr.cell? ⟨gx, 2, none⟩ = some (.int .i64 i2) := HSM3.out.side.xb.cell 2
  have j3 : wr.cell? ⟨gx, 3, none⟩ = some (.int .i64 i3) := HSM3.out.side.xb.cell 3
  have j4 : wr.cell? ⟨gx, 4, none⟩ = some (.int .i64 i4) := HSM3.out.side.xb.cell 4
  obtain ⟨A9, c9, hvc9, _⟩ := own_form HSM3.out.rm.t.rc
  subst hvc9
  have q3 := HSM3.out.rm.t.cells.2.2.2
  have q3a := fun oo => (HSM3.out.rm.goes (alloc_below wr oo)).t.cells.2.2.2
  have HSd := Lib.hid (HSM3.out.goes HB.out (show Below wr.heap.size wr (wr.drewN 1) from ⟨rfl, rfl, rfl, Nat.le_refl _, fun _ _ => rfl⟩))
  go_upto_region 40 with (fail)
  obtain ⟨v6, w6, hr6, HA6⟩ := app_one slInsR HSd.out.rm.t.rc [.int .i64 i0, .int .i64 i1, .int .i64 i2, .int .i64 i3, .int .i64 i4] rfl (by intro u hu; simp only [List.mem_cons, List.not_mem_nil, or_false] at hu; rcases hu with rfl | rfl | rfl | rfl | rfl <;> rfl) HOC.out (Nat.le_trans HB.out HSd.out.below.size) 37
  obtain ⟨A6, c6, hv6⟩ := HA6.out.form
  subst hv6
  obtain ⟨hT6, z0, z1⟩ := HSd.out.rm.putcG HA6.out
  have HT6 := Lib.hid hT6
  have HR6 := Lib.hid hr6
  have HB6 := Lib.hid ((HSd.out.below.trans (HA6.out.fr.below (Nat.le_trans HB.out HSd.out.below.size) (fun k hk => (own_ge HSd.out.rm.t.rc hk).1))).setCell (p := ⟨g, 3, none⟩) HSd.out.rm.t.ge (.slice A6 (o.code.length + 1) c6))
  clear hr6 hT6
  refine wp_region_noPanic ?_
  refine region40 (fun _ _ _ _ _ h => h) (by kernel_rfl) (by kernel_rfl) (by kernel_rfl) q3 (q3a _) j0 j1 j2 j3 j4 HR6.out z0 z1 (NoPanic.normal ?_)
  simp only [Act.put, List.setIfInBounds_toArray, List.set_cons_zero, List.set_cons_succ]
  all_goals
    go_wp2
    go_ret
    exact rlineW_ok HX.out HT6.out HB6.out

end Go.Proofs.YtfgnapfodnhppaaGreatDoor
