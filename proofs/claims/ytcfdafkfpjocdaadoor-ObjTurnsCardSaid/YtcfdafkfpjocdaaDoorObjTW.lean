/-
  The statement ObjTurns: in whatever world that holds the names of the instructions, of whatever object, place and bits: true; new memory alone.
-/
import Derived.Test.YtcfdafkfpjocdaaDoorObjTM
import Derived.Test.YtcfdafkfpjocdaaDoorObjFY
namespace Go.Proofs.YtcfdafkfpjocdaaDoor
open Go Go.RowKit Go.WideShapes Go.ChangeShapes
set_option linter.unusedVariables false
set_option linter.unusedSimpArgs false

set_option maxRecDepth 100000 in
set_option maxHeartbeats 16000000 in
theorem objTurns_any (o : Ob) (va vf vp vc : Value) (a : Int) (y : Nat) (hy2 : y < 4294967296) (w : World) (hw : NamesAt w) (hv : ObAt w va vf vp vc o) (hnp : ∀ k c, vp = .slice none k c → c = 0) :
    Calls Tryd.prog 6 #[.agg #[va, vf, vp, vc], .int .i64 a, .int .u32 (y : Int)] w fun e w' => e = .returned (.bool true) ∧ Below w.heap.size w w' := by
  have HW := Lib.hid hw
  have HB1 := Lib.hid (alloc_below w (.cells #[va, vf, vp, vc] 27))
  have HV1 := Lib.hid (hv.below HB1.out)
  have HW1 := Lib.hid (hw.below HB1.out hw.lt)
  have HBX := Lib.hid (Box.new w 27 #[va, vf, vp, vc])
  have HFX := Lib.hid (fix8_any o va vf vp vc _ HV1.out hnp)
  have HEW := Lib.hid (fun (o' : Ob) (h : checkOf o' = 0) ua uf up uc W hw hv => by have := encode_any o' (wf_of_ok h) ua uf up uc W hw hv; rw [h, show encodeOf o' = bytesL o' by unfold encodeOf; rw [if_pos h]] at this; exact this)
  clear hw hv hnp
  have q0 := HBX.out.cell 0
  have q1 := HBX.out.cell 1
  have q2 := HBX.out.cell 2
  have q3 := HBX.out.cell 3
  go_enter Tryd.func6, Tryd.ntmps6
  go_upto_region 2 with (first
    | (go_at_call 20; refine HFX.out.mono ?_; rintro e w2 ⟨o', ua, uf, up, uc, rfl, hat, hck, hn, hb2⟩; have HAT := Lib.hid (hat w2 (Fr.refl _ _)); have HCK := Lib.hid hck; have HN := Lib.hid hn; have HB2 := Lib.hid (HB1.out.trans (hb2.mono HB1.out.size)); have HW2 := Lib.hid (HW1.out.below hb2 HW1.out.lt); clear hat hck hn hb2)
    | (go_at_call 9; refine (toOb_any o' (wf_of_ok HCK.out) ua uf up uc w2 HAT.out HN.out).mono ?_; rintro e w3 ⟨xa, xf, xp, xc, rfl, hx, hb3, _⟩; have HX := Lib.hid hx; have HB3 := Lib.hid (HB2.out.trans (hb3.mono HB2.out.size)); have HW3 := Lib.hid (HW2.out.below hb3 HW2.out.lt); clear hx hb3)
    | (go_at_call 10; refine (HEW.out o' HCK.out xa xf xp xc w3 HW3.out HX.out).mono ?_; rintro e w4 ⟨v5, rfl, hs4, hb4⟩; have HS4 := Lib.hid hs4; have HB4 := Lib.hid (HB3.out.trans (hb4.mono HB3.out.size)); have HW4 := Lib.hid (HW3.out.below hb4 HW3.out.lt); have HG3 := Lib.hid (Nat.le_trans HB3.out.size (Nat.le_refl w3.heap.size)); clear hs4 hb4))
  have hbl := body_len HCK.out
  have hby : (bytesL o').length = (bodyL o').length + 4 := by unfold bytesL; rw [List.length_append, numL_len]
  obtain ⟨g, cap, hv5, hgb, hbuf⟩ := buf_of_own HS4.out (by omega)
  have HBF := Lib.hid hbuf
  have HBY := Lib.hid hby
  have HIN := Lib.hid (HS4.out.in_ (by omega))
  obtain ⟨n, hn⟩ : ∃ n, (bytesL o').length = n := ⟨_, rfl⟩
  rw [hn] at hv5
  have HNN := Lib.hid hn
  have HGB := Lib.hid (Nat.le_trans HB3.out.size hgb)
  subst hv5
  clear hbuf hgb hby hn q0 q1 q2 q3 HBX HFX HEW
  by_cases hy : y = 0
  case pos =>
    subst hy
    go_wp2_with (first
      | (go_at_call 8; refine (told_any _ HW5.out).mono ?_; rintro e w6 ⟨rfl, hb6⟩; have HB6 := Lib.hid (HB5.out.trans (hb6.mono HB5.out.size)); clear hb6)
      | (go_at_call 8; refine (told_any _ HW4.out).mono ?_; rintro e w5 ⟨rfl, hb5⟩; have HB5 := Lib.hid (HB4.out.trans (hb5.mono HB4.out.size)); have HW5 := Lib.hid (HW4.out.below hb5 HW4.out.lt); clear hb5))
    go_ret
    exact ⟨rfl, HB6.out⟩
  case neg =>
  have hy3 : ((y : Int) == 0) = false := by simpa using hy
  go_upto_region 4 with (go_at_call 8; refine (told_any _ HW4.out).mono ?_; rintro e w5 ⟨rfl, hb5⟩; have HB5 := Lib.hid (HB4.out.trans (hb5.mono HB4.out.size)); have HW5 := Lib.hid (HW4.out.below hb5 HW4.out.lt); have HBF5 := Lib.hid (HBF.out.below hb5); clear hb5)
  have hn2 : 17 ≤ n ∧ n ≤ 50004 := by
    have := HBY.out
    have := HNN.out
    omega
  have hKx : ∃ K : Nat, wrap64 ((IntKind.u64.wrap a).tmod (8 * ((n : Int) - 4) - 31)) = (K : Int) ∧ K + 32 ≤ 8 * (n - 4) := by
    have h1 := (u64_nonneg a).1
    have h2 : (0 : Int) < 8 * ((n : Int) - 4) - 31 := by omega
    have h3 := Int.tmod_nonneg (8 * ((n : Int) - 4) - 31) h1
    have h4 := Int.tmod_lt_of_pos (IntKind.u64.wrap a) h2
    generalize (IntKind.u64.wrap a).tmod (8 * ((n : Int) - 4) - 31) = m at h3 h4
    obtain ⟨K, rfl⟩ := Int.eq_ofNat_of_zero_le h3
    refine ⟨K, ?_, by omega⟩
    unfold wrap64
    omega
  obtain ⟨K, hK, hKb⟩ := hKx
  go_upto_region 5 with (fail)
  rw [hK]
  clear hK hy3
  have HTU : Hid ((decodeOf (turned (bytesL o') K y 32)).2 ≠ 0) := Lib.hid (decode_turned hy hy2 (by have := HBY.out; have := HNN.out; omega))
  have HLT : Hid (∀ c ∈ bytesL o', c < 256) := Lib.hid (app_lt (bodyL_lt o') (numL_lt _ _))
  generalize bytesL o' = l at HBF5 HTU HLT HNN HIN
  clear HBF HS4 HBY
  obtain ⟨g', c', hgc, hc1, hc2, _⟩ := HIN.out
  rw [HNN.out] at hgc hc1
  injection hgc with hg1 hg2 hg3
  subst hg3
  have HC1 := Lib.hid (And.intro hc1 hc2)
  clear hg1 hg2 hc1 hc2 HIN
  go_wp2
  go_loopw [10] (fun i wr => ∃ k : Nat, k ≤ 32 ∧ i = .int .i64 k ∧ Hid (BufAt wr g (turned l K y k)) ∧ Hid (Below w.heap.size w wr)) (fun i _ => 32 - (intOf i).toNat)
  case atStart => exact ⟨0, by omega, rfl, HBF5, HB5⟩
  obtain ⟨k, hk, rfl, HBuf2, HBel⟩ := hrel
  clear HBF5
  by_cases hlt : k < 32
  · by_cases hb : y / 2 ^ k % 2 = 1
    · have hj : (K + k) / 8 < (turned l K y k).length := by rw [turned_length, HNN.out]; omega
      have hcell := HBuf2.out.cell hj
      have hfr := HBuf2.out.frozen ((K + k) / 8)
      have hl2 := getD_lt (turned_lt l K y HLT.out k) ((K + k) / 8)
      have hset := fun x => BufAt.set (x := x) HBuf2.out hj
      have ht := bit_on hb
      have HS := Lib.hid hset
      have HT : Hid (turned l K y (k + 1) = (turned l K y k).set ((K + k) / 8) ((turned l K y k).getD ((K + k) / 8) 0 ^^^ 2 ^ ((K + k) % 8))) := by
        show turned l K y (k + 1) = _
        rw [turned, if_pos hb]
      clear hset hb
      generalize (turned l K y k).getD ((K + k) / 8) 0 = x at hcell hl2 HT
      go_wp2
      go_region
      go_wp2
      rw [xor_bit x (K + k) hl2]
      go_roundw
      case rel => exact ⟨k + 1, by omega, by go_num, Lib.hid (by rw [HT.out]; exact HS.out _), Lib.hid (below_set_drew HBel.out HGB.out)⟩
      case measure => simp [intOf]; omega
    · have ht := bit_off hb
      have HT : Hid (turned l K y (k + 1) = turned l K y k) := by
        show turned l K y (k + 1) = _
        rw [turned, if_neg hb]
      clear hb
      go_wp2
      go_roundw
      case rel => exact ⟨k + 1, by omega, by go_num, Lib.hid (by rw [HT.out]; exact HBuf2.out), HBel⟩
      case measure => simp [intOf]; omega
  · obtain rfl : k = 32 := by omega
    have hlen : (turned l K y 32).length = n := (turned_length l K y 32).trans HNN.out
    have HLEN := Lib.hid hlen
    have hin : BysIn wr (.slice (some ⟨g, 0, none⟩) n cap) (turned l K y 32) := by
      obtain ⟨cs, hb1, hb2⟩ := HBuf2.out
      refine .inr ⟨g, 0, cap, by rw [HLEN.out], by rw [HLEN.out]; exact HC1.out.1, HC1.out.2, hb1.lt, fun j hj => ?_⟩
      rw [Nat.zero_add, hb1.cell j]
      exact hb2 j hj
    have HDE := Lib.hid (decode_any (turned l K y 32) (turned_lt l K y HLT.out 32) (by rw [HLEN.out]; omega) _ wr (HW.out.below HBel.out HW.out.lt) hin)
    unfold Decoded at HDE
    generalize (decodeOf (turned l K y 32)).1 = oo at HDE
    generalize (decodeOf (turned l K y 32)).2 = ec at HDE HTU
    have hec : (ec != 0) = true := by simpa using HTU.out
    clear hlen hin
    go_wp2_with (go_at_call 18; refine HDE.out.mono ?_; rintro e w7 ⟨za, zf, zp, zc, rfl, _, hb7⟩; have HB7 := Lib.hid (HBel.out.trans (hb7.mono HBel.out.size)); clear hb7)
    go_ret
    exact ⟨rfl, HB7.out⟩

end Go.Proofs.YtcfdafkfpjocdaaDoor
