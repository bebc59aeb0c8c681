/-
  The document's Encode: an object's bytes. Conditions: lengths are such as may be.
-/
import Derived.Test.YtfknoecgcoapcaaDoorObjAC
import Derived.Test.YtfknoecgcoapcaaDoorObjWB
import Derived.Test.YtfknoecgcoapcaaDoorObjJ
namespace Go.Proofs.YtfknoecgcoapcaaDoor
open Go Go.RowKit Go.WideShapes Go.ChangeShapes
set_option linter.unusedVariables false
set_option linter.unusedSimpArgs false

/-- What a round keeps: the object's box; the bytes so far. -/
structure Er (w wr : World) (g : Nat) (us : Array Value) (v : Value) (l : List Nat) : Prop where
  ck : CkR w wr g us
  bin : Bin wr v l
theorem Bin.below' {w w' : World} {v : Value} {l : List Nat} (h : Bin w v l) (hb : Below w.heap.size w w') : Bin w' v l := h.below hb
theorem Er.next {w wr w' : World} {g : Nat} {us : Array Value} {v v' : Value} {l l' : List Nat} (h : Er w wr g us v l) (hs : Row w' wr.heap.size v' l') (hb : Below wr.heap.size wr w') : Er w w' g us v' l' := ⟨h.ck.up hb, hs.bin⟩
theorem bin_new (w : World) (l : List Nat) : Bin (w.alloc (.cells (bysV l).toArray 5)) (.slice (some ⟨w.heap.size, 0, none⟩) l.length l.length) l := by
  refine ⟨.inr ⟨w.heap.size, 0, _, rfl, by simp, fun k u hk => ?_⟩, ?_⟩
  · rw [(Box.new w 5 (bysV l).toArray).cell]
    simpa using hk
  · rintro k c h
    injection h with h1 h2 h3
    cases h1

theorem Bin.bys {w : World} {v : Value} {l : List Nat} (h : Bin w v l) : BysAt w v l := by
  rcases h.1 with ⟨h0, _, A, c, rfl⟩ | ⟨b, off, c, rfl, _, hc⟩
  · exact .inl ⟨List.length_eq_zero_iff.1 h0, A, c, rfl⟩
  · refine .inr ⟨b, off, c, rfl, fun k hk => hc k _ ?_⟩
    simp [bysV, List.getD_eq_getElem?_getD, hk]

theorem er_num {w wr : World} {g : Nat} {us : Array Value} {v : Value} {l : List Nat} (size n : Nat) (hs : size ≤ 3) (hn : n < 4294967296) (hl : l.length ≤ 800000) (h : Er w wr g us v l) :
    Calls Tryd.prog 27 #[v, .int .i64 n, .int .i64 (size + 1 : Nat)] wr fun e w' => ∃ v', e = .returned v' ∧ Er w w' g us v' (l ++ numL (size + 1) n) :=
  (rnum_any size n l v wr hs hn (by omega) h.bin).mono (by rintro e w' ⟨v', rfl, hs, hb⟩; exact ⟨v', rfl, h.next (.inl hs) hb⟩)

theorem er_name {w wr : World} {g : Nat} {us : Array Value} {v : Value} {l : List Nat} (s : ByteArray) (hs : nameOk s = true) (hl : l.length ≤ 800000) (h : Er w wr g us v l) :
    Calls Tryd.prog 28 #[v, .string s] wr fun e w' => ∃ v', e = .returned v' ∧ Er w w' g us v' (l ++ nameL s) :=
  (rname_any s (by have := name_size hs; omega) (by have := name_size hs; omega) l hl v wr h.bin).mono (by rintro e w' ⟨v', rfl, hs, hb⟩; exact ⟨v', rfl, h.next hs hb⟩)
theorem flat_more {α : Type} (f : α → List Nat) (l : List α) (k : Nat) (h : k < l.length) (x : List Nat) : x ++ (l.take (k + 1)).flatMap f = x ++ (l.take k).flatMap f ++ f l[k] := by
  rw [List.take_succ_eq_append_getElem h, List.flatMap_append]
  simp

set_option maxRecDepth 100000 in
set_option maxHeartbeats 16000000 in
theorem rencode_any (o : Ob) (ho : ObWf o) (va vf vp vc : Value) (w : World) (hv : ObAt w va vf vp vc o) :
    Calls Tryd.prog 11 #[.agg #[va, vf, vp, vc]] w fun e w' => ∃ v', e = .returned (.tuple #[v', .int .i64 (checkOf o)]) ∧ Strict w' w.heap.size v' (encodeOf o) ∧ Below w.heap.size w w' := by
  have HTA := Lib.hid (fun w' h => rcheck_any o ho va vf vp vc w' h)
  obtain ⟨A1, c1, rfl⟩ := CellsAt.form hv.atoms
  obtain ⟨A2, c2, rfl⟩ := CellsAt.form hv.funs
  obtain ⟨A3, c3, rfl⟩ := CellsAt.form hv.preds
  obtain ⟨A4, c4, rfl⟩ := CellsAt.form hv.code
  have HV := Lib.hid hv
  have HEN : Hid (encodeOf o = if checkOf o = 0 then bytesL o else []) := Lib.hid rfl
  have HOK := Lib.hid (fun h => ok_of (o := o) h)
  generalize encodeOf o = en at HEN
  generalize checkOf o = ck at HTA HEN HOK
  have K0 := Lib.hid (⟨Box.new w _ _, alloc_below w _⟩ : CkR w (w.alloc (.cells #[.slice A1 o.atoms.length c1, .slice A2 o.funs.length c2, .slice A3 o.preds.length c3, .slice A4 o.code.length c4] 27)) w.heap.size #[.slice A1 o.atoms.length c1, .slice A2 o.funs.length c2, .slice A3 o.preds.length c3, .slice A4 o.code.length c4])
  have HCHK := Lib.hid (HTA.out _ (hv.below K0.out.below))
  clear hv ho HTA
  by_cases hz : ck = 0
  case neg =>
    have hnz : (ck != 0) = true := by simp [hz]
    have hnz2 : (ck == 0) = false := by simpa using hz
    have HE2 : Hid (en = []) := Lib.hid (by rw [HEN.out, if_neg hz])
    clear hz
    go_enter Tryd.func11, Tryd.ntmps11
    go_wp2_with (go_at_call 13; refine HCHK.out.mono ?_; rintro e w5 ⟨rfl, hb5⟩; have HK5 := Lib.hid (K0.out.up hb5); clear hb5)
    go_ret2
    exact ⟨_, rfl, by rw [HE2.out]; exact ⟨rfl, .inl ⟨rfl, rfl⟩⟩, HK5.out.below⟩
  subst hz
  have HE2 : Hid (en = bytesL o) := Lib.hid (by rw [HEN.out, if_pos rfl])
  have HO := Lib.hid (HOK.out rfl)
  have HL : Hid (o.atoms.length ≤ 256 ∧ o.funs.length ≤ 256 ∧ o.preds.length ≤ 64 ∧ o.code.length ≤ 1024) := Lib.hid ⟨HO.out.la, HO.out.lf, HO.out.lp, HO.out.lc⟩
  clear HEN HOK
  go_enter Tryd.func11, Tryd.ntmps11
  go_upto_region 4 with (go_at_call 13; refine HCHK.out.mono ?_; rintro e w5 ⟨rfl, hb5⟩; have HK5 := Lib.hid (K0.out.up hb5); clear hb5)
  go_upto_region 5 with (fail)
  have E0 : Hid (Er w (w5.alloc (.cells #[.int .u8 82, .int .u8 83, .int .u8 76, .int .u8 86, .int .u8 1] 5)) w.heap.size #[.slice A1 o.atoms.length c1, .slice A2 o.funs.length c2, .slice A3 o.preds.length c3, .slice A4 o.code.length c4] (.slice (some ⟨w5.heap.size, 0, none⟩) 5 5) [82, 83, 76, 86, 1]) := Lib.hid ⟨HK5.out.up (alloc_below _ _), bin_new w5 [82, 83, 76, 86, 1]⟩
  obtain ⟨w6, hw6⟩ : ∃ w6, w5.alloc (.cells #[.int .u8 82, .int .u8 83, .int .u8 76, .int .u8 86, .int .u8 1] 5) = w6 := ⟨_, rfl⟩
  rw [hw6] at E0 ⊢
  obtain ⟨g5, hg5⟩ : ∃ g5, w5.heap.size = g5 := ⟨_, rfl⟩
  rw [hg5] at E0
  try rw [hg5]
  clear hw6 hg5 HK5 HCHK K0
  have HE0 : Hid (Er w w6.drew w.heap.size #[.slice A1 o.atoms.length c1, .slice A2 o.funs.length c2, .slice A3 o.preds.length c3, .slice A4 o.code.length c4] (.slice (some ⟨g5, 0, none⟩) 5 5) [82, 83, 76, 86, 1]) := Lib.hid ⟨E0.out.ck.up (bdrew1 w6), E0.out.bin.below' (bdrew1 w6)⟩
  have HN1 := Lib.hid (fun (v : Value) (W : World) (h : Er w W w.heap.size #[.slice A1 o.atoms.length c1, .slice A2 o.funs.length c2, .slice A3 o.preds.length c3, .slice A4 o.code.length c4] v [82, 83, 76, 86, 1]) => (show Calls Tryd.prog 27 #[v, .int .i64 (o.atoms.length : Nat), .int .i64 2] W fun e w' => ∃ v', e = .returned v' ∧ Er w w' w.heap.size #[.slice A1 o.atoms.length c1, .slice A2 o.funs.length c2, .slice A3 o.preds.length c3, .slice A4 o.code.length c4] v' ([82, 83, 76, 86, 1] ++ numL 2 o.atoms.length) from er_num 1 o.atoms.length (by omega) (by have := HL.out; omega) (by simp [numL_len]) h))
  have HN2 := Lib.hid (fun (v : Value) (W : World) (h : Er w W w.heap.size #[.slice A1 o.atoms.length c1, .slice A2 o.funs.length c2, .slice A3 o.preds.length c3, .slice A4 o.code.length c4] v ([82, 83, 76, 86, 1] ++ numL 2 o.atoms.length)) => (show Calls Tryd.prog 27 #[v, .int .i64 (o.funs.length : Nat), .int .i64 2] W fun e w' => ∃ v', e = .returned v' ∧ Er w w' w.heap.size #[.slice A1 o.atoms.length c1, .slice A2 o.funs.length c2, .slice A3 o.preds.length c3, .slice A4 o.code.length c4] v' (([82, 83, 76, 86, 1] ++ numL 2 o.atoms.length) ++ numL 2 o.funs.length) from er_num 1 o.funs.length (by omega) (by have := HL.out; omega) (by simp [numL_len]) h))
  have HN3 := Lib.hid (fun (v : Value) (W : World) (h : Er w W w.heap.size #[.slice A1 o.atoms.length c1, .slice A2 o.funs.length c2, .slice A3 o.preds.length c3, .slice A4 o.code.length c4] v (([82, 83, 76, 86, 1] ++ numL 2 o.atoms.length) ++ numL 2 o.funs.length)) => (show Calls Tryd.prog 27 #[v, .int .i64 (o.preds.length : Nat), .int .i64 2] W fun e w' => ∃ v', e = .returned v' ∧ Er w w' w.heap.size #[.slice A1 o.atoms.length c1, .slice A2 o.funs.length c2, .slice A3 o.preds.length c3, .slice A4 o.code.length c4] v' ((([82, 83, 76, 86, 1] ++ numL 2 o.atoms.length) ++ numL 2 o.funs.length) ++ numL 2 o.preds.length) from er_num 1 o.preds.length (by omega) (by have := HL.out; omega) (by simp [numL_len]) h))
  have HN4 := Lib.hid (fun (v : Value) (W : World) (h : Er w W w.heap.size #[.slice A1 o.atoms.length c1, .slice A2 o.funs.length c2, .slice A3 o.preds.length c3, .slice A4 o.code.length c4] v ((([82, 83, 76, 86, 1] ++ numL 2 o.atoms.length) ++ numL 2 o.funs.length) ++ numL 2 o.preds.length)) => (show Calls Tryd.prog 27 #[v, .int .i64 (o.code.length : Nat), .int .i64 2] W fun e w' => ∃ v', e = .returned v' ∧ Er w w' w.heap.size #[.slice A1 o.atoms.length c1, .slice A2 o.funs.length c2, .slice A3 o.preds.length c3, .slice A4 o.code.length c4] v' (((([82, 83, 76, 86, 1] ++ numL 2 o.atoms.length) ++ numL 2 o.funs.length) ++ numL 2 o.preds.length) ++ numL 2 o.code.length) from er_num 1 o.code.length (by omega) (by have := HL.out; omega) (by simp [numL_len]) h))
  go_region_held3 (fun W => W.cell? ⟨w.heap.size, 0, none⟩ = some (.slice A1 o.atoms.length c1) ∧ W.cell? ⟨w.heap.size, 1, none⟩ = some (.slice A2 o.funs.length c2) ∧ W.cell? ⟨w.heap.size, 2, none⟩ = some (.slice A3 o.preds.length c3) ∧ W.cell? ⟨w.heap.size, 3, none⟩ = some (.slice A4 o.code.length c4))
    (first | exact ⟨HE4.out.ck.ob.cell 0, HE4.out.ck.ob.cell 1, HE4.out.ck.ob.cell 2, HE4.out.ck.ob.cell 3⟩ | exact ⟨HE3.out.ck.ob.cell 0, HE3.out.ck.ob.cell 1, HE3.out.ck.ob.cell 2, HE3.out.ck.ob.cell 3⟩ | exact ⟨HE2.out.ck.ob.cell 0, HE2.out.ck.ob.cell 1, HE2.out.ck.ob.cell 2, HE2.out.ck.ob.cell 3⟩ | exact ⟨HE1.out.ck.ob.cell 0, HE1.out.ck.ob.cell 1, HE1.out.ck.ob.cell 2, HE1.out.ck.ob.cell 3⟩ | exact ⟨HE0.out.ck.ob.cell 0, HE0.out.ck.ob.cell 1, HE0.out.ck.ob.cell 2, HE0.out.ck.ob.cell 3⟩)
    (first
      | (go_at_call 27; refine (HN4.out _ _ HE3.out).mono ?_; rintro e w7 ⟨v7, rfl, he7⟩; have HE4 := Lib.hid he7; clear he7)
      | (go_at_call 27; refine (HN3.out _ _ HE2.out).mono ?_; rintro e w7 ⟨v7, rfl, he7⟩; have HE3 := Lib.hid he7; clear he7)
      | (go_at_call 27; refine (HN2.out _ _ HE1.out).mono ?_; rintro e w7 ⟨v7, rfl, he7⟩; have HE2 := Lib.hid he7; clear he7)
      | (go_at_call 27; refine (HN1.out _ _ HE0.out).mono ?_; rintro e w7 ⟨v7, rfl, he7⟩; have HE1 := Lib.hid he7; clear he7))
  have E1 : Hid (Er w w7 w.heap.size #[.slice A1 o.atoms.length c1, .slice A2 o.funs.length c2, .slice A3 o.preds.length c3, .slice A4 o.code.length c4] v7 (headL o)) := Lib.hid HE4.out
  clear HE0 HE1 HE2 HE3 HE4 HN1 HN2 HN3 HN4 E0
  have HBL1 := Lib.hid (fun k => flat_len_take nameL 33 k o.atoms (fun s hs => nameL_len (HO.out.atoms s hs)))
  have HBL2 := Lib.hid (fun k => flat_len_take funL 34 k o.funs (fun f hf => by have := nameL_len (HO.out.funs f hf).1; rw [funL, List.length_append, numL_len]; omega))
  have HBL3 := Lib.hid (fun k => flat_len_take predL 36 k o.preds (fun f hf => by have := nameL_len (HO.out.preds f hf).1; rw [predL, List.length_append, List.length_append, numL_len, numL_len]; omega))
  have HBL4 := Lib.hid (fun k => flat_len_take insL 9 k o.code (fun i hi => insL_len i))
  have HHD := Lib.hid (headL_len o)
  obtain ⟨g, hg⟩ : ∃ g, w.heap.size = g := ⟨_, rfl⟩
  rw [hg] at E1 ⊢
  have HG := Lib.hid hg
  clear hg
  go_wp2
  go_loopw [5, 6] (fun v i wr => ∃ k : Nat, k ≤ o.atoms.length ∧ i = .int .i64 k ∧ Hid (Er w wr g #[.slice A1 o.atoms.length c1, .slice A2 o.funs.length c2, .slice A3 o.preds.length c3, .slice A4 o.code.length c4] v (headL o ++ (o.atoms.take k).flatMap nameL))) (fun _ i _ => o.atoms.length - (intOf i).toNat)
  case atStart => exact ⟨0, by omega, rfl, Lib.hid (by simpa using E1.out)⟩
  obtain ⟨k, hk, rfl, HE⟩ := hrel
  clear E1
  have hlen := HL.out.1
  have q0 := HE.out.ck.ob.cell 0
  by_cases hlt : k < o.atoms.length
  case pos =>
    obtain ⟨b, off, rfl, hb, hc0⟩ := atomCell HV.out.atoms k hlt
    have d0 := (HE.out.ck.below.cell (p := ⟨b, off + k, none⟩) hb).trans hc0
    have hEN := er_name o.atoms[k] (HO.out.atoms _ (List.getElem_mem hlt)) (by rw [List.length_append, HHD.out]; have := HBL1.out k; omega) HE.out
    rw [← flat_more nameL o.atoms k hlt] at hEN
    clear hc0
    generalize o.atoms[k] = s at d0 hEN
    have HEN := Lib.hid hEN
    clear hEN
    go_wp2_with (go_at_call 28; refine HEN.out.mono ?_; rintro e w8 ⟨v8, rfl, he8⟩; have HE8 := Lib.hid he8; clear he8)
    go_roundw
    case rel => first | exact ⟨k + 1, by omega, by go_num, HE8⟩ | exact ⟨_, _, _, _, _, _, _, _, _, _, ⟨k + 1, by omega, by go_num, HE8⟩, rfl⟩
    case measure => simp [intOf]; omega
  obtain rfl : k = o.atoms.length := by omega
  have E2 := Lib.hid (by have := HE.out; rw [List.take_length] at this; exact this)
  clear hlt HE
  go_wp2
  clear q0 hlen
  go_loopw [5, 7] (fun v i wr => ∃ k : Nat, k ≤ o.funs.length ∧ i = .int .i64 k ∧ Hid (Er w wr g #[.slice A1 o.atoms.length c1, .slice A2 o.funs.length c2, .slice A3 o.preds.length c3, .slice A4 o.code.length c4] v (headL o ++ o.atoms.flatMap nameL ++ (o.funs.take k).flatMap funL))) (fun _ i _ => o.funs.length - (intOf i).toNat)
  case atStart => exact ⟨0, by omega, rfl, Lib.hid (by simpa using E2.out)⟩
  obtain ⟨k, hk, rfl, HE⟩ := hrel
  clear E2
  have hlen := HL.out.2.1
  have q0 := HE.out.ck.ob.cell 1
  by_cases hlt : k < o.funs.length
  case pos =>
    obtain ⟨b, off, rfl, hb, hc0, hc1⟩ := funCell HV.out.funs k hlt
    have hHD := fun (W : World) (hb9 : Below w.heap.size w W) => And.intro ((hb9.cell (p := ⟨b, off + k * 2, none⟩) hb).trans hc0) ((hb9.cell (p := ⟨b, off + k * 2 + 1, none⟩) hb).trans hc1)
    have hok := HO.out.funs _ (List.getElem_mem hlt)
    have HED := Lib.hid (⟨HE.out.ck.up (bdrew1 wr), HE.out.bin.below' (bdrew1 wr)⟩ : Er w wr.drew g _ _ _)
    have hle : (headL o ++ o.atoms.flatMap nameL ++ (o.funs.take k).flatMap funL).length ≤ 700000 := by
      have h1 := HBL2.out k
      have h2 := HBL1.out o.atoms.length
      rw [List.take_length] at h2
      have := HL.out
      rw [List.length_append, List.length_append, HHD.out]
      omega
    have hNM := er_name o.funs[k].1 hok.1 (by omega) HED.out
    have hnl := nameL_len hok.1
    have hFM := flat_more funL o.funs k hlt (headL o ++ o.atoms.flatMap nameL)
    rw [funL, ← List.append_assoc] at hFM
    obtain ⟨nn, hnn⟩ : ∃ nn : Nat, o.funs[k].2 = (nn : Int) := ⟨o.funs[k].2.toNat, by omega⟩
    rw [hnn, Int.toNat_natCast] at hFM
    rw [hnn] at hHD
    have hNU := fun (v : Value) (W : World) (h : Er w W g #[.slice A1 o.atoms.length c1, .slice (some ⟨b, off, none⟩) o.funs.length c2, .slice A3 o.preds.length c3, .slice A4 o.code.length c4] v (headL o ++ o.atoms.flatMap nameL ++ (o.funs.take k).flatMap funL ++ nameL o.funs[k].1)) => (show Calls Tryd.prog 27 #[v, .int .i64 nn, .int .i64 1] W fun e w' => ∃ v', e = .returned v' ∧ Er w w' g #[.slice A1 o.atoms.length c1, .slice (some ⟨b, off, none⟩) o.funs.length c2, .slice A3 o.preds.length c3, .slice A4 o.code.length c4] v' (headL o ++ o.atoms.flatMap nameL ++ (o.funs.take k).flatMap funL ++ nameL o.funs[k].1 ++ numL 1 nn) from er_num 0 nn (by omega) (by omega) (by rw [List.length_append]; omega) h)
    rw [← hFM] at hNU
    clear hc0 hc1 hok hnn hFM hle hnl
    generalize o.funs[k].1 = s at hHD hNM hNU
    have HHD2 := Lib.hid hHD
    have HNM := Lib.hid hNM
    have HNU := Lib.hid hNU
    clear hHD hNM hNU
    have hkn := And.intro (show (k : Int) < (o.funs.length : Int) by omega) (show (0 : Int) ≤ (k : Int) by omega)
    obtain ⟨hkn1, hkn2⟩ := hkn
    go_upto_region 13 with (fail)
    go_region_held3 (fun W => W.cell? ⟨g, 1, none⟩ = some (.slice (some ⟨b, off, none⟩) o.funs.length c2) ∧ W.cell? ⟨b, off + k * 2, none⟩ = some (.string s) ∧ W.cell? ⟨b, off + k * 2 + 1, none⟩ = some (.int .i64 nn))
      (first | exact ⟨HE9.out.ck.ob.cell 1, HHD2.out _ HE9.out.ck.below⟩ | exact ⟨HE8.out.ck.ob.cell 1, HHD2.out _ HE8.out.ck.below⟩ | exact ⟨HED.out.ck.ob.cell 1, HHD2.out _ HED.out.ck.below⟩)
      (first
        | (go_at_call 28; refine HNM.out.mono ?_; rintro e w8 ⟨v8, rfl, he8⟩; have HE8 := Lib.hid he8; clear he8)
        | (go_at_call 27; refine (HNU.out _ _ HE8.out).mono ?_; rintro e w9 ⟨v9, rfl, he9⟩; have HE9 := Lib.hid he9; clear he9))
    go_wp2
    go_roundw
    case rel => first | exact ⟨k + 1, by omega, by go_num, HE9⟩ | exact ⟨_, _, _, _, _, _, _, _, _, _, _, _, _, _, _, _, _, ⟨k + 1, by omega, by go_num, HE9⟩, rfl⟩
    case measure => simp [intOf]; omega
  obtain rfl : k = o.funs.length := by omega
  have E3 := Lib.hid (by have := HE.out; rw [List.take_length] at this; exact this)
  clear hlt HE
  go_wp2
  clear q0 hlen
  go_loopw [5, 8] (fun v i wr => ∃ k : Nat, k ≤ o.preds.length ∧ i = .int .i64 k ∧ Hid (Er w wr g #[.slice A1 o.atoms.length c1, .slice A2 o.funs.length c2, .slice A3 o.preds.length c3, .slice A4 o.code.length c4] v (headL o ++ o.atoms.flatMap nameL ++ o.funs.flatMap funL ++ (o.preds.take k).flatMap predL))) (fun _ i _ => o.preds.length - (intOf i).toNat)
  case atStart => exact ⟨0, by omega, rfl, Lib.hid (by simpa using E3.out)⟩
  obtain ⟨k, hk, rfl, HE⟩ := hrel
  clear E3
  have hlen := HL.out.2.2.1
  have hlc := HL.out.2.2.2
  have q0 := HE.out.ck.ob.cell 2
  by_cases hlt : k < o.preds.length
  case pos =>
    obtain ⟨b, off, rfl, hb, hc0, hc1, hc2⟩ := predCell HV.out.preds k hlt
    have hHD := fun (W : World) (hb9 : Below w.heap.size w W) => And.intro ((hb9.cell (p := ⟨b, off + k * 3, none⟩) hb).trans hc0) (And.intro ((hb9.cell (p := ⟨b, off + k * 3 + 1, none⟩) hb).trans hc1) ((hb9.cell (p := ⟨b, off + k * 3 + 2, none⟩) hb).trans hc2))
    have hok := HO.out.preds _ (List.getElem_mem hlt)
    have HED := Lib.hid (⟨HE.out.ck.up (bdrew1 wr), HE.out.bin.below' (bdrew1 wr)⟩ : Er w wr.drew g _ _ _)
    have hle : (headL o ++ o.atoms.flatMap nameL ++ o.funs.flatMap funL ++ (o.preds.take k).flatMap predL).length ≤ 700000 := by
      have h1 := HBL3.out k
      have h2 := HBL1.out o.atoms.length
      have h3 := HBL2.out o.funs.length
      rw [List.take_length] at h2 h3
      have := HL.out
      rw [List.length_append, List.length_append, List.length_append, HHD.out]
      omega
    have hNM := er_name o.preds[k].1 hok.1 (by omega) HED.out
    have hnl := nameL_len hok.1
    have hFM := flat_more predL o.preds k hlt (headL o ++ o.atoms.flatMap nameL ++ o.funs.flatMap funL)
    rw [predL, ← List.append_assoc, ← List.append_assoc] at hFM
    obtain ⟨nn, hnn⟩ : ∃ nn : Nat, o.preds[k].2.1 = (nn : Int) := ⟨o.preds[k].2.1.toNat, by omega⟩
    obtain ⟨ne, hne⟩ : ∃ ne : Nat, o.preds[k].2.2 = (ne : Int) := ⟨o.preds[k].2.2.toNat, by omega⟩
    have hne2 : ne < 4294967296 := by omega
    rw [hnn, hne, Int.toNat_natCast, Int.toNat_natCast] at hFM
    rw [hnn, hne] at hHD
    have hNU := fun (v : Value) (W : World) (h : Er w W g #[.slice A1 o.atoms.length c1, .slice A2 o.funs.length c2, .slice (some ⟨b, off, none⟩) o.preds.length c3, .slice A4 o.code.length c4] v (headL o ++ o.atoms.flatMap nameL ++ o.funs.flatMap funL ++ (o.preds.take k).flatMap predL ++ nameL o.preds[k].1)) => (show Calls Tryd.prog 27 #[v, .int .i64 nn, .int .i64 1] W fun e w' => ∃ v', e = .returned v' ∧ Er w w' g #[.slice A1 o.atoms.length c1, .slice A2 o.funs.length c2, .slice (some ⟨b, off, none⟩) o.preds.length c3, .slice A4 o.code.length c4] v' (headL o ++ o.atoms.flatMap nameL ++ o.funs.flatMap funL ++ (o.preds.take k).flatMap predL ++ nameL o.preds[k].1 ++ numL 1 nn) from er_num 0 nn (by omega) (by omega) (by simp only [List.length_append, numL_len] at hle ⊢; omega) h)
    have hNV := fun (v : Value) (W : World) (h : Er w W g #[.slice A1 o.atoms.length c1, .slice A2 o.funs.length c2, .slice (some ⟨b, off, none⟩) o.preds.length c3, .slice A4 o.code.length c4] v (headL o ++ o.atoms.flatMap nameL ++ o.funs.flatMap funL ++ (o.preds.take k).flatMap predL ++ nameL o.preds[k].1 ++ numL 1 nn)) => (show Calls Tryd.prog 27 #[v, .int .i64 ne, .int .i64 2] W fun e w' => ∃ v', e = .returned v' ∧ Er w w' g #[.slice A1 o.atoms.length c1, .slice A2 o.funs.length c2, .slice (some ⟨b, off, none⟩) o.preds.length c3, .slice A4 o.code.length c4] v' (headL o ++ o.atoms.flatMap nameL ++ o.funs.flatMap funL ++ (o.preds.take k).flatMap predL ++ nameL o.preds[k].1 ++ numL 1 nn ++ numL 2 ne) from er_num 1 ne (by omega) (by omega) (by simp only [List.length_append, numL_len] at hle ⊢; omega) h)
    rw [← hFM] at hNV
    clear hc0 hc1 hc2 hok hnn hne hne2 hFM hle hnl
    generalize o.preds[k].1 = s at hHD hNM hNU hNV
    have HHD2 := Lib.hid hHD
    have HNM := Lib.hid hNM
    have HNU := Lib.hid hNU
    have HNV := Lib.hid hNV
    clear hHD hNM hNU hNV
    have hkn := And.intro (show (k : Int) < (o.preds.length : Int) by omega) (show (0 : Int) ≤ (k : Int) by omega)
    obtain ⟨hkn1, hkn2⟩ := hkn
    go_upto_region 17 with (fail)
    go_region_held3 (fun W => W.cell? ⟨g, 2, none⟩ = some (.slice (some ⟨b, off, none⟩) o.preds.length c3) ∧ W.cell? ⟨b, off + k * 3, none⟩ = some (.string s) ∧ W.cell? ⟨b, off + k * 3 + 1, none⟩ = some (.int .i64 nn) ∧ W.cell? ⟨b, off + k * 3 + 2, none⟩ = some (.int .i64 ne))
      (first | exact ⟨HE7.out.ck.ob.cell 2, HHD2.out _ HE7.out.ck.below⟩ | exact ⟨HE9.out.ck.ob.cell 2, HHD2.out _ HE9.out.ck.below⟩ | exact ⟨HE8.out.ck.ob.cell 2, HHD2.out _ HE8.out.ck.below⟩ | exact ⟨HED.out.ck.ob.cell 2, HHD2.out _ HED.out.ck.below⟩)
      (first
        | (go_at_call 28; refine HNM.out.mono ?_; rintro e w8 ⟨v8, rfl, he8⟩; have HE8 := Lib.hid he8; clear he8)
        | (go_at_call 27; refine (HNV.out _ _ HE9.out).mono ?_; rintro e w7 ⟨v7, rfl, he7⟩; have HE7 := Lib.hid he7; clear he7)
        | (go_at_call 27; refine (HNU.out _ _ HE8.out).mono ?_; rintro e w9 ⟨v9, rfl, he9⟩; have HE9 := Lib.hid he9; clear he9))
    go_wp2
    go_roundw
    case rel => first | exact ⟨k + 1, by omega, by go_num, HE7⟩ | exact ⟨_, _, _, _, _, _, _, _, _, _, _, _, _, _, _, _, _, _, _, _, _, _, _, _, ⟨k + 1, by omega, by go_num, HE7⟩, rfl⟩
    case measure => simp [intOf]; omega
  obtain rfl : k = o.preds.length := by omega
  have E4 := Lib.hid (by have := HE.out; rw [List.take_length] at this; exact this)
  clear hlt HE
  go_wp2
  clear q0 hlen hlc
  have HPL : Hid ((headL o ++ o.atoms.flatMap nameL ++ o.funs.flatMap funL ++ o.preds.flatMap predL).length ≤ 30000) := Lib.hid (by
    have h1 := HBL1.out o.atoms.length
    have h2 := HBL2.out o.funs.length
    have h3 := HBL3.out o.preds.length
    rw [List.take_length] at h1 h2 h3
    have := HL.out
    rw [List.length_append, List.length_append, List.length_append, HHD.out]
    omega)
  have HBODY : Hid (bodyL o = headL o ++ o.atoms.flatMap nameL ++ o.funs.flatMap funL ++ o.preds.flatMap predL ++ o.code.flatMap insL) := Lib.hid rfl
  have HBLT := Lib.hid (bodyL_lt o)
  have HBY : Hid (bytesL o = bodyL o ++ numL 4 (crcOf 0 (bodyL o))) := Lib.hid rfl
  generalize headL o ++ o.atoms.flatMap nameL ++ o.funs.flatMap funL ++ o.preds.flatMap predL = P at E4 HPL HBODY
  generalize bodyL o = bd at HBODY HBLT HBY
  generalize bytesL o = by_ at HBY HE2
  clear HBL1 HBL2 HBL3 HHD
  go_loopw [5, 9, 10, 11, 12, 13] (fun vv i x l kk sz wr => ∃ (k : Nat) (v : Value), k ≤ o.code.length ∧ i = .int .i64 k ∧ v = vv ∧ Hid (Er w wr g #[.slice A1 o.atoms.length c1, .slice A2 o.funs.length c2, .slice A3 o.preds.length c3, .slice A4 o.code.length c4] v (P ++ (o.code.take k).flatMap insL))) (fun _ i _ _ _ _ _ => o.code.length - (intOf i).toNat)
  case atStart => exact ⟨0, _, by omega, rfl, rfl, Lib.hid (by simpa using E4.out)⟩
  obtain ⟨k, v, hk, rfl, rfl, HE⟩ := hrel
  clear E4
  have hlc := HL.out.2.2.2
  have q3 := HE.out.ck.ob.cell 3
  by_cases hlt : k < o.code.length
  case neg =>
    obtain rfl : k = o.code.length := by omega
    have E5 : Hid (Er w wr g #[.slice A1 o.atoms.length c1, .slice A2 o.funs.length c2, .slice A3 o.preds.length c3, .slice A4 o.code.length c4] v bd) := Lib.hid (by have := HE.out; rw [List.take_length, ← HBODY.out] at this; exact this)
    have hbl : bd.length ≤ 50000 := by
      rw [HBODY.out, List.length_append]
      have h1 := HBL4.out o.code.length
      rw [List.take_length] at h1
      have := HPL.out
      omega
    have HSUM := Lib.hid (rsum_any bd HBLT.out (by omega) v wr E5.out.bin.bys)
    have hcl : crcOf 0 bd < 4294967296 := crcOf_lt (by omega) HBLT.out
    have HNUM := Lib.hid (rnum_any 3 (crcOf 0 bd) bd v wr (by omega) hcl (by omega) E5.out.bin)
    have HBY2 := Lib.hid (HE2.out.trans HBY.out)
    clear HBY HE2 HE
    generalize crcOf 0 bd = crc at HSUM hcl HNUM HBY2
    go_wp2_with (first
      | (go_at_call 30; refine HSUM.out.mono ?_; rintro e w6 ⟨rfl, rfl⟩)
      | (go_at_call 27; refine HNUM.out.mono ?_; rintro e w7 ⟨v7, rfl, hs7, hb7⟩; have HS7 := Lib.hid hs7; have HB7 := Lib.hid hb7; clear hs7 hb7))
    go_ret2
    rw [HG.out.symm]
    exact ⟨_, rfl, by rw [HBY2.out]; exact own_more HS7.out (fun j hj => Nat.le_trans E5.out.ck.below.size (own_ge HS7.out hj).1), E5.out.ck.below.trans (HB7.out.mono E5.out.ck.below.size)⟩
  obtain ⟨b, off, rfl, hb, hc0, hc1, hc2, hc3, hc4⟩ := insCell HV.out.code k hlt
  have d0 := (HE.out.ck.below.cell (p := ⟨b, off + k * 5, none⟩) hb).trans hc0
  have d1 := (HE.out.ck.below.cell (p := ⟨b, off + k * 5 + 1, none⟩) hb).trans hc1
  have d2 := (HE.out.ck.below.cell (p := ⟨b, off + k * 5 + 2, none⟩) hb).trans hc2
  have d3 := (HE.out.ck.below.cell (p := ⟨b, off + k * 5 + 3, none⟩) hb).trans hc3
  have d4 := (HE.out.ck.below.cell (p := ⟨b, off + k * 5 + 4, none⟩) hb).trans hc4
  have hins := insErr_ne (HO.out.code _ (List.getElem_mem hlt))
  have HFM := Lib.hid (flat_more insL o.code k hlt P)
  have HIN : Hid (insL o.code[k] = numL 1 o.code[k].1.toNat ++ argsL (opsOf o.code[k].1) [o.code[k].2.1, o.code[k].2.2.1, o.code[k].2.2.2.1, o.code[k].2.2.2.2]) := Lib.hid rfl
  have HARG : Hid (∀ j : Nat, j < 4 → 0 ≤ [o.code[k].2.1, o.code[k].2.2.1, o.code[k].2.2.2.1, o.code[k].2.2.2.2].getD j 0 ∧ [o.code[k].2.1, o.code[k].2.2.1, o.code[k].2.2.2.1, o.code[k].2.2.2.2].getD j 0 ≤ 65535) := Lib.hid (fun j hj => right_nat hins.2.2.1 j hj)
  have HIL := Lib.hid (insL_len o.code[k])
  have HPK : Hid ((P ++ (o.code.take k).flatMap insL).length ≤ 50000) := Lib.hid (by
    rw [List.length_append]
    have h1 := HBL4.out k
    have := HPL.out
    omega)
  have hi0 := hins.1
  have hi26 := hins.2.1
  clear hc0 hc1 hc2 hc3 hc4 hins
  generalize insL o.code[k] = li at HFM HIN HIL
  generalize o.code[k].1 = i0 at d0 HIN hi0 hi26
  generalize o.code[k].2.1 = i1 at d1 HIN HARG
  generalize o.code[k].2.2.1 = i2 at d2 HIN HARG
  generalize o.code[k].2.2.2.1 = i3 at d3 HIN HARG
  generalize o.code[k].2.2.2.2 = i4 at d4 HIN HARG
  obtain ⟨n0, hn0⟩ := Int.eq_ofNat_of_zero_le hi0
  have HOPS := Lib.hid (fun w => roperands_any i0 w)
  have HFEW := Lib.hid (ops_few i0)
  have hn026 : n0 < 4294967296 := by omega
  generalize hpk : P ++ (o.code.take k).flatMap insL = pk at HE HFM HPK
  clear hpk
  obtain ⟨pk1, hpk1⟩ : ∃ x, P ++ (o.code.take (k + 1)).flatMap insL = x := ⟨_, rfl⟩
  rw [hpk1] at HFM
  have HPK1 := Lib.hid hpk1
  clear hpk1
  have HIN2 : Hid (li = numL 1 n0 ++ argsL (opsOf i0) [i1, i2, i3, i4]) := Lib.hid (by rw [HIN.out, hn0, Int.toNat_natCast])
  clear HIN
  generalize hL : opsOf i0 = L at HOPS HFEW HIN2
  rw [hn0] at d0 HOPS
  clear hL hn0 hi0 hi26
  have HKA := Lib.hid (HE.out.ck.up (alloc_below wr (.cells #[.int .i64 n0, .int .i64 i1, .int .i64 i2, .int .i64 i3, .int .i64 i4] 71)))
  have HBA : Hid (RBox wr.heap.size n0 i1 i2 i3 i4 wr (wr.alloc (.cells #[.int .i64 n0, .int .i64 i1, .int .i64 i2, .int .i64 i3, .int .i64 i4] 71))) := Lib.hid ⟨Box.new _ _ _, alloc_below wr _⟩
  have hbin := HE.out.bin.below' (alloc_below wr (.cells #[.int .i64 n0, .int .i64 i1, .int .i64 i2, .int .i64 i3, .int .i64 i4] 71))
  have HNUM := Lib.hid (rnum_any 0 n0 pk v _ (by omega) hn026 (by have := HPK.out; omega) hbin)
  clear hbin hn026
  obtain ⟨gb, hgb⟩ : ∃ gb, wr.heap.size = gb := ⟨_, rfl⟩
  go_upto_region 23 with (go_at_call 27; refine HNUM.out.mono ?_; rintro e w6 ⟨v6, rfl, hs6, hb6⟩; have HE6 := Lib.hid (⟨HKA.out.up hb6, hs6.bin⟩ : Er w w6 g #[.slice A1 o.atoms.length c1, .slice A2 o.funs.length c2, .slice A3 o.preds.length c3, .slice (some ⟨b, off, none⟩) o.code.length c4] v6 (pk ++ numL (0 + 1) n0)); have HB6 := Lib.hid (HBA.out.up hb6); clear hs6 hb6)
  clear HNUM HKA HBA HE d0 d1 d2 d3 d4 q3
  rw [hgb] at HB6
  have e0 := HB6.out.ins.cell 0
  by_cases hop : L = []
  · have HE7 : Hid (Er w w6 g #[.slice A1 o.atoms.length c1, .slice A2 o.funs.length c2, .slice A3 o.preds.length c3, .slice (some ⟨b, off, none⟩) o.code.length c4] v6 pk1) := Lib.hid (by have := HE6.out; rw [HFM.out, HIN2.out, hop, argsL]; simpa using this)
    clear HFM HIN2 HE6
    go_upto_region 24 with (go_at_call 29; refine (HOPS.out _).mono ?_; rintro e w7 hN; obtain ⟨rfl, rfl⟩ := newInts_nil hop hN; clear hN)
    go_wp2
    go_loopw [5, 12, 13] (fun vv j sz wr2 => ∃ v : Value, v = vv ∧ j = .int .i64 0 ∧ Hid (Er w wr2 g #[.slice A1 o.atoms.length c1, .slice A2 o.funs.length c2, .slice A3 o.preds.length c3, .slice (some ⟨b, off, none⟩) o.code.length c4] v pk1)) (fun _ _ _ _ => 0)
    case atStart => exact ⟨_, rfl, rfl, HE7⟩
    obtain ⟨v8, rfl, rfl, HE8⟩ := hrel
    go_wp2
    go_roundw
    case rel => exact ⟨k + 1, _, by omega, by go_num, rfl, Lib.hid (by rw [HPK1.out]; exact HE8.out)⟩
    case measure => simp [intOf]; omega
  obtain ⟨gl, hgl⟩ : ∃ gl, w6.heap.size = gl := ⟨_, rfl⟩
  have HE7 := Lib.hid (⟨HE6.out.ck.up (alloc_below w6 (.cells (L.map (Value.int .i64)).toArray 3)), HE6.out.bin.below' (alloc_below w6 (.cells (L.map (Value.int .i64)).toArray 3))⟩ : Er w (w6.alloc (.cells (L.map (Value.int .i64)).toArray 3)) g #[.slice A1 o.atoms.length c1, .slice A2 o.funs.length c2, .slice A3 o.preds.length c3, .slice (some ⟨b, off, none⟩) o.code.length c4] v6 (pk ++ numL 1 n0))
  have HB7 := Lib.hid (HB6.out.up (alloc_below w6 (.cells (L.map (Value.int .i64)).toArray 3)))
  have HL7 := Lib.hid (Box.new w6 3 (L.map (Value.int .i64)).toArray)
  have hl4 := HFEW.out
  have hl0 : 0 < L.length := List.length_pos_iff.2 hop
  go_upto_region 24 with (go_at_call 29; refine (HOPS.out _).mono ?_; rintro e w7 hN; obtain ⟨rfl, rfl⟩ := newInts_some hop hN; clear hN)
  obtain ⟨w7, hw7⟩ : ∃ w7, w6.alloc (.cells (L.map (Value.int .i64)).toArray 3) = w7 := ⟨_, rfl⟩
  rw [hw7] at HE7 HB7 HL7
  try rw [hw7]
  rw [hgl] at HL7
  try rw [hgl]
  try rw [show ({ block := wr.heap.size, off := 0 } : Addr) = { block := gb, off := 0 } by rw [hgb]]
  clear hw7 hgl e0 HOPS hgb HE6 HB6
  go_wp2
  go_loopw [5, 12, 13] (fun vv j sz wr2 => ∃ (m : Nat) (v : Value) (cur : List Nat), m ≤ L.length ∧ j = .int .i64 m ∧ v = vv ∧ Hid (Er w wr2 g #[.slice A1 o.atoms.length c1, .slice A2 o.funs.length c2, .slice A3 o.preds.length c3, .slice (some ⟨b, off, none⟩) o.code.length c4] v cur) ∧ Hid (cur ++ argsL (L.drop m) ([i1, i2, i3, i4].drop m) = pk1) ∧ Hid (RBox gb n0 i1 i2 i3 i4 wr wr2) ∧ Hid (Box wr2 gl 3 (L.map (Value.int .i64)).toArray)) (fun _ j _ _ => L.length - (intOf j).toNat)
  case atStart => exact ⟨0, _, _, by omega, rfl, rfl, HE7, Lib.hid (by rw [HFM.out, HIN2.out, ← List.append_assoc]; rfl), HB7, HL7⟩
  obtain ⟨m, v8, cur, hm, rfl, rfl, HE8, HCU, HB8, HL8⟩ := hrel
  clear HE7 HB7 HL7
  by_cases hlm : m < L.length
  case neg =>
    obtain rfl : m = L.length := by omega
    have HE9 : Hid (Er w wr g #[.slice A1 o.atoms.length c1, .slice A2 o.funs.length c2, .slice A3 o.preds.length c3, .slice (some ⟨b, off, none⟩) o.code.length c4] v8 pk1) := Lib.hid (by have := HE8.out; have h2 := HCU.out; rw [List.drop_length, argsL, List.append_nil] at h2; rw [← h2]; exact this)
    go_wp2
    go_roundw
    case rel => exact ⟨k + 1, _, by omega, by go_num, rfl, Lib.hid (by rw [HPK1.out]; exact HE9.out)⟩
    case measure => simp [intOf]; omega
  case pos =>
    have hst := argsL_step L [i1, i2, i3, i4] m hlm
    obtain ⟨x, hx⟩ := Int.eq_ofNat_of_zero_le (HARG.out m (by omega)).1
    have hx2 : x < 65536 := by have := (HARG.out m (by omega)).2; omega
    have hkd : wr.cell? ⟨gl, m, none⟩ = some (.int .i64 (L.getD m 0)) := by rw [HL8.out.cell m]; simp [hlm]
    have hnn := HB8.out.cell m (by omega)
    have hm4 : (m : Int) < 4 := by omega
    have hm0 : (0 : Int) ≤ (m : Int) := by omega
    have hcl : cur.length ≤ 60000 := by
      have h := congrArg List.length HCU.out
      rw [HFM.out, List.length_append, List.length_append] at h
      have := HPK.out
      have := HIL.out
      omega
    rw [hx, Int.toNat_natCast] at hst
    rw [hx] at hnn
    clear hx
    by_cases h8 : L.getD m 0 = 8
    · rw [h8] at hst hkd
      have HCU2 : Hid ((cur ++ numL 2 x) ++ argsL (L.drop (m + 1)) ([i1, i2, i3, i4].drop (m + 1)) = pk1) := Lib.hid (by rw [← HCU.out, hst, List.append_assoc]; rfl)
      clear hst h8
      have HNUM := Lib.hid (rnum_any 1 x cur v8 wr (by omega) (by omega) (by omega) HE8.out.bin)
      go_wp2_with (go_at_call 27; refine HNUM.out.mono ?_; rintro e w9 ⟨v9, rfl, hs9, hb9⟩; have HE9 := Lib.hid (⟨HE8.out.ck.up hb9, hs9.bin⟩ : Er w w9 g #[.slice A1 o.atoms.length c1, .slice A2 o.funs.length c2, .slice A3 o.preds.length c3, .slice (some ⟨b, off, none⟩) o.code.length c4] v9 (cur ++ numL 2 x)); have HB9 := Lib.hid (HB8.out.up hb9); have HL9 := Lib.hid (HL8.out.below hb9 HL8.out.lt); clear hs9 hb9)
      go_roundw
      case rel => first | exact ⟨m + 1, _, _, by omega, by go_num, rfl, HE9, HCU2, HB9, HL9⟩ | exact ⟨_, _, _, _, ⟨m + 1, _, _, by omega, by go_num, rfl, HE9, HCU2, HB9, HL9⟩, rfl⟩
      case measure => simp [intOf]; omega
    · have hsk : sizeK (L.getD m 0) = 1 := if_neg h8
      rw [hsk] at hst
      have HCU2 : Hid ((cur ++ numL 1 x) ++ argsL (L.drop (m + 1)) ([i1, i2, i3, i4].drop (m + 1)) = pk1) := Lib.hid (by rw [← HCU.out, hst, List.append_assoc])
      have hk8 : (L.getD m 0 == 8) = false := by simpa using h8
      clear hst h8 hsk
      generalize L.getD m 0 = kd at hkd hk8
      have HNUM := Lib.hid (rnum_any 0 x cur v8 wr (by omega) (by omega) (by omega) HE8.out.bin)
      go_wp2_with (go_at_call 27; refine HNUM.out.mono ?_; rintro e w9 ⟨v9, rfl, hs9, hb9⟩; have HE9 := Lib.hid (⟨HE8.out.ck.up hb9, hs9.bin⟩ : Er w w9 g #[.slice A1 o.atoms.length c1, .slice A2 o.funs.length c2, .slice A3 o.preds.length c3, .slice (some ⟨b, off, none⟩) o.code.length c4] v9 (cur ++ numL 1 x)); have HB9 := Lib.hid (HB8.out.up hb9); have HL9 := Lib.hid (HL8.out.below hb9 HL8.out.lt); clear hs9 hb9)
      go_roundw
      case rel => first | exact ⟨m + 1, _, _, by omega, by go_num, rfl, HE9, HCU2, HB9, HL9⟩ | exact ⟨_, _, _, _, ⟨m + 1, _, _, by omega, by go_num, rfl, HE9, HCU2, HB9, HL9⟩, rfl⟩
      case measure => simp [intOf]; omega

end Go.Proofs.YtfknoecgcoapcaaDoor
