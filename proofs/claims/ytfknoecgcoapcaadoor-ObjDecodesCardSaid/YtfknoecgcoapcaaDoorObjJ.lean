/-
  The program's Encode: an object's bytes, or what is wrong with it; new memory alone. Conditions: lengths are such as may be; the world holds the names of the instructions.
-/
import Derived.Test.YtfknoecgcoapcaaDoorObjI
import Derived.Lib.SlBytesConst
namespace Go.Proofs.YtfknoecgcoapcaaDoor
open Go Go.RowKit Go.WideShapes Go.ChangeShapes
set_option linter.unusedVariables false
set_option linter.unusedSimpArgs false

/-- The bytes, or none. -/
def encodeOf (o : Ob) : List Nat := if checkOf o = 0 then bytesL o else []

theorem row_new (w : World) (l : List Nat) {base : Nat} (hb : base ≤ w.heap.size) (hl : 0 < l.length) (fz : Nat × Nat) : Row (w.alloc (.cells (bysV l).toArray 5 fz)) base (.slice (some ⟨w.heap.size, 0, none⟩) l.length l.length) l :=
  .inr ⟨hl, w.heap.size, _, fz, rfl, hb, heap_alloc_new w _, by simp⟩
theorem Row.bys {w : World} {base : Nat} {v : Value} {l : List Nat} (h : Row w base v l) : BysAt w v l := by
  rcases h with h | ⟨h0, g, cur, fz, rfl, hg, hh, hc⟩
  · rcases h.2 with ⟨rfl, h0⟩ | ⟨g, cap, cur, rfl, hb, hg, _⟩
    · exact .inl ⟨List.length_eq_zero_iff.1 h0, _, _, rfl⟩
    · refine .inr ⟨g, 0, cap, rfl, fun k hk => ?_⟩
      rw [Nat.zero_add, World.ownsRow.cellAt (g := g) h k (by omega)]
      simp [bysV, List.getD_eq_getElem?_getD, hk]
  · refine .inr ⟨g, 0, _, rfl, fun k hk => ?_⟩
    rw [Nat.zero_add, cell_of_row _ g k cur _ fz hh, ← Array.getElem?_toList, hc]
    simp [bysV, List.getD_eq_getElem?_getD, hk]
theorem BysAt.below {w w' : World} {v : Value} {l : List Nat} (h : BysAt w v l) (hb : Below w.heap.size w w') : BysAt w' v l := by
  rcases h with h | ⟨b, off, c, rfl, hc⟩
  · exact .inl h
  · exact .inr ⟨b, off, c, rfl, fun k hk => (hb.cell (p := ⟨b, off + k, none⟩) (World.block_lt_of_cell? w _ (hc k hk))).trans (hc k hk)⟩
theorem uU8 : Tryd.prog.underlying 5 = some (.int .u8) := by kernel_rfl
theorem nat_of {n : Int} (h : 0 ≤ n) : ((n.toNat : Nat) : Int) = n := by omega

/-- What Encode keeps. -/
structure Ec (w wr : World) (g : Nat) (cs : Array Value) (vs : Value) (pre : List Nat) : Prop where
  row : Row wr w.heap.size vs pre
  box : Box wr g 36 cs
  ne : vs.ownBlock ≠ some g
  below : Below w.heap.size w wr
theorem Ec.up {w wr w' : World} {g : Nat} {cs : Array Value} {vs v' : Value} {pre pre' : List Nat} (h : Ec w wr g cs vs pre) (hg : Grows wr w' w.heap.size vs v' pre') : Ec w w' g cs v' pre' :=
  ⟨hg.own, (hg.box h.box h.ne).1, (hg.box h.box h.ne).2, h.below.trans (hg.below h.row h.below.size)⟩
theorem Ec.cells {w wr : World} {g : Nat} {a b c d : Value} {vs : Value} {pre : List Nat} (h : Ec w wr g #[a, b, c, d] vs pre) : wr.cell? ⟨g, 0, none⟩ = some a ∧ wr.cell? ⟨g, 1, none⟩ = some b ∧ wr.cell? ⟨g, 2, none⟩ = some c ∧ wr.cell? ⟨g, 3, none⟩ = some d :=
  ⟨h.box.cell 0, h.box.cell 1, h.box.cell 2, h.box.cell 3⟩
theorem Ec.pre {w wr : World} {g : Nat} {cs : Array Value} {vs : Value} {pre pre' : List Nat} (h : Ec w wr g cs vs pre) (e : pre = pre') : Ec w wr g cs vs pre' := e ▸ h

/-- A box laid aside while a row grows. -/
theorem aside {wr w' : World} {base : Nat} {vs v' : Value} {pre pre' : List Nat} {t : TypeId} {cs : Array Value} (hr : Row wr base vs pre) (hg : Grows (wr.alloc (.cells cs t)) w' base vs v' pre') : Box w' wr.heap.size t cs ∧ v'.ownBlock ≠ some wr.heap.size :=
  hg.box (Box.new wr t cs) (fun e => by have := (hr.ge e).2; omega)

set_option maxRecDepth 100000 in
set_option maxHeartbeats 16000000 in
theorem encode_any (o : Ob) (ho : ObWf o) (va vf vp vc : Value) (w : World) (hw : NamesAt w) (hv : ObAt w va vf vp vc o) :
    Calls Tryd.prog 10 #[.agg #[va, vf, vp, vc]] w fun e w' => ∃ v', e = .returned (.tuple #[v', .int .i64 (checkOf o)]) ∧ Strict w' w.heap.size v' (encodeOf o) ∧ Below w.heap.size w w' := by
  obtain ⟨A1, c1, rfl⟩ := CellsAt.form hv.atoms
  obtain ⟨A2, c2, rfl⟩ := CellsAt.form hv.funs
  obtain ⟨A3, c3, rfl⟩ := CellsAt.form hv.preds
  obtain ⟨A4, c4, rfl⟩ := CellsAt.form hv.code
  have HV := Lib.hid hv
  have HK0 := Lib.hid (⟨Box.new w _ _, alloc_below w _⟩ : CkB w (w.alloc (.cells #[.slice A1 o.atoms.length c1, .slice A2 o.funs.length c2, .slice A3 o.preds.length c3, .slice A4 o.code.length c4] 36)) w.heap.size (.slice A1 o.atoms.length c1) (.slice A2 o.funs.length c2) (.slice A3 o.preds.length c3) (.slice A4 o.code.length c4))
  have HCHK := Lib.hid (check_any o ho _ _ _ _ _ (hw.below HK0.out.below hw.lt) (hv.below HK0.out.below))
  have HEN : Hid (encodeOf o = if checkOf o = 0 then bytesL o else []) := Lib.hid rfl
  have HOK := Lib.hid (fun h => ok_of (o := o) h)
  generalize encodeOf o = en at HEN
  generalize checkOf o = ck at HCHK HEN HOK
  have HWF := Lib.hid ho
  clear hv hw ho
  by_cases hz : ck = 0
  case neg =>
    have hnz := ne_zero hz
    have hnz2 : (ck == 0) = false := by simpa using hz
    have HE2 : Hid (en = []) := Lib.hid (by rw [HEN.out, if_neg hz])
    clear hz
    go_enter Tryd.func10, Tryd.ntmps10
    go_wp2_with (go_at_call 12; refine HCHK.out.mono ?_; rintro e w5 ⟨rfl, hb5⟩; have HK5 := Lib.hid (HK0.out.up hb5); clear hb5)
    go_ret2
    exact ⟨_, rfl, by rw [HE2.out]; exact ⟨rfl, .inl ⟨rfl, rfl⟩⟩, HK5.out.below⟩
  subst hz
  have HE2 : Hid (en = bytesL o) := Lib.hid (by rw [HEN.out, if_pos rfl])
  have HO := Lib.hid (HOK.out rfl)
  have HL : Hid (o.atoms.length ≤ 256 ∧ o.funs.length ≤ 256 ∧ o.preds.length ≤ 64 ∧ o.code.length ≤ 1024) := Lib.hid ⟨HO.out.la, HO.out.lf, HO.out.lp, HO.out.lc⟩
  have HBL1 := Lib.hid (fun k => flat_len_take nameL 33 k o.atoms (fun s hs => nameL_len (HO.out.atoms s hs)))
  have HBL2 := Lib.hid (fun k => flat_len_take funL 34 k o.funs (fun f hf => by have := nameL_len (HO.out.funs f hf).1; rw [funL, List.length_append, numL_len]; omega))
  have HBL3 := Lib.hid (fun k => flat_len_take predL 36 k o.preds (fun f hf => by have := nameL_len (HO.out.preds f hf).1; rw [predL, List.length_append, List.length_append, numL_len, numL_len]; omega))
  have HBL4 := Lib.hid (fun k => flat_len_take insL 9 k o.code (fun i hi => insL_len i))
  have HHD := Lib.hid (headL_len o)
  clear HEN HOK
  go_enter Tryd.func10, Tryd.ntmps10
  go_upto_region 4 with (go_at_call 12; refine HCHK.out.mono ?_; rintro e w5 ⟨rfl, hb5⟩; have HK5 := Lib.hid (HK0.out.up hb5); clear hb5)
  have hcv := Lib.run_convert_bytes_const w5 38 5 #[.int .u8 82, .int .u8 83, .int .u8 76, .int .u8 86, .int .u8 1] 5 5 Tryd.underlying38 uU8
  go_upto_region 5 with (fail)
  clear hcv
  have E0 : Hid (Ec w (w5.alloc (.cells (bysV magicL).toArray 5 (5, 6))) w.heap.size #[.slice A1 o.atoms.length c1, .slice A2 o.funs.length c2, .slice A3 o.preds.length c3, .slice A4 o.code.length c4] (.slice (some ⟨w5.heap.size, 0, none⟩) 5 5) magicL) := Lib.hid
    ⟨row_new w5 magicL HK5.out.below.size (by decide) _, HK5.out.ob.alloc _, by
      have := HK5.out.ob.lt
      intro e
      have e2 : w5.heap.size = w.heap.size := by simpa [Value.ownBlock] using e
      omega, HK5.out.below.alloc HK5.out.below.size _⟩
  have hmg : (bysV magicL).toArray = #[.int .u8 82, .int .u8 83, .int .u8 76, .int .u8 86, .int .u8 1] := rfl
  rw [hmg] at E0
  obtain ⟨w6, hw6⟩ : ∃ w6, w5.alloc (.cells #[.int .u8 82, .int .u8 83, .int .u8 76, .int .u8 86, .int .u8 1] 5 (5, 6)) = w6 := ⟨_, rfl⟩
  rw [hw6] at E0 ⊢
  obtain ⟨v6, hv6⟩ : ∃ v6, Value.slice (some ⟨w5.heap.size, 0, none⟩) 5 5 = v6 := ⟨_, rfl⟩
  rw [hv6] at E0 ⊢
  obtain ⟨g, hg⟩ : ∃ g, w.heap.size = g := ⟨_, rfl⟩
  rw [hg] at E0 ⊢
  have HG := Lib.hid hg
  clear hg hmg hw6 hv6 HCHK
  obtain ⟨q0, q1, q2, q3⟩ := E0.out.cells
  go_wp2
  clear q0 q1 q2 q3
  go_loopw [5, 38] (fun s iv wr => ∃ (k : Nat) (vs : Value), k ≤ 4 ∧ iv = .int .i64 k ∧ vs = s ∧ Hid (Ec w wr g #[.slice A1 o.atoms.length c1, .slice A2 o.funs.length c2, .slice A3 o.preds.length c3, .slice A4 o.code.length c4] vs (magicL ++ ((cntL o).take k).flatMap (numL 2)))) (fun _ iv _ => 4 - (intOf iv).toNat)
  case atStart => exact ⟨0, _, by omega, rfl, rfl, E0⟩
  obtain ⟨k, vs, hk, rfl, rfl, HE⟩ := hrel
  have hlc := HL.out
  by_cases hlt : k < 4
  case pos =>
    have hix := fun wr => run_index_agg (P := Tryd.prog) wr 67 3 4 #[.int .i64 (o.atoms.length : Nat), .int .i64 (o.funs.length : Nat), .int .i64 (o.preds.length : Nat), .int .i64 (o.code.length : Nat)] .i64 k (.int .i64 ((cntL o).getD k 0 : Nat)) Tryd.underlying67 (fun _ => by kernel_rfl) (fun _ => by kernel_rfl) hlt (by
      match k, hlt with
      | 0, _ => rfl
      | 1, _ => rfl
      | 2, _ => rfl
      | 3, _ => rfl)
    have HNUM := Lib.hid (appNum_any 2 ((cntL o).getD k 0) (by omega) (by
      match k, hlt with
      | 0, _ => show o.atoms.length < _; omega
      | 1, _ => show o.funs.length < _; omega
      | 2, _ => show o.preds.length < _; omega
      | 3, _ => show o.code.length < _; omega) (by
      have h := flat_len_take (numL 2) 2 k (cntL o) (fun a _ => by rw [numL_len]; omega)
      have h2 : (cntL o).length = 4 := rfl
      rw [List.length_append]
      have h3 : magicL.length = 5 := rfl
      omega) vs _ HE.out.row HE.out.below.size)
    have HTK := Lib.hid (flatN_take (numL 2) (cntL o) k hlt)
    have HGE : Hid ((cntL o)[k]'hlt = (cntL o).getD k 0) := Lib.hid (by rw [List.getD_eq_getElem?_getD, List.getElem?_eq_getElem (h := hlt)]; rfl)
    go_wp2_with (go_at_call 23; refine HNUM.out.mono ?_; rintro e w8 ⟨v8, rfl, hg8, _⟩; have HE8 := Lib.hid ((HE.out.up hg8).pre (by rw [List.append_assoc, ← HGE.out, ← HTK.out])); clear hg8)
    go_roundw
    case rel => exact ⟨k + 1, _, by omega, by go_num, rfl, HE8⟩
    case measure => simp [intOf]; omega
  obtain rfl : k = 4 := by omega
  have E1 := Lib.hid (HE.out.pre (show _ = headL o ++ (o.atoms.take 0).flatMap nameL by rw [← headL_eq o]; simp [cntL]))
  obtain ⟨q0, q1, q2, q3⟩ := E1.out.cells
  clear E0 HE
  go_wp2
  clear q0 q1 q2 q3
  go_loopw [5, 49] (fun s iv wr => ∃ (k : Nat) (vs : Value), k ≤ o.atoms.length ∧ iv = .int .i64 k ∧ vs = s ∧ Hid (Ec w wr g #[.slice A1 o.atoms.length c1, .slice A2 o.funs.length c2, .slice A3 o.preds.length c3, .slice A4 o.code.length c4] vs (headL o ++ (o.atoms.take k).flatMap nameL))) (fun _ iv _ => o.atoms.length - (intOf iv).toNat)
  case atStart => exact ⟨0, _, by omega, rfl, rfl, E1⟩
  obtain ⟨k, vs, hk, rfl, rfl, HE⟩ := hrel
  clear E1 hlt
  by_cases hlt : k < o.atoms.length
  case pos =>
    obtain ⟨b, off, rfl, hb, hc0⟩ := atomCell HV.out.atoms k hlt
    have d0 := (HE.out.below.cell (p := ⟨b, off + k, none⟩) hb).trans hc0
    have hnm := name_size (HO.out.atoms _ (List.getElem_mem hlt))
    have HTK := Lib.hid (flatN_take nameL o.atoms k hlt)
    have hlen := HBL1.out k
    have hhd := HHD.out
    generalize o.atoms[k] = s at d0 hnm HTK
    have HNM := Lib.hid (appName_any s (by omega) hnm.1 (l := headL o ++ (o.atoms.take k).flatMap nameL) (by rw [List.length_append]; omega) vs _ HE.out.row HE.out.below.size)
    clear hc0 hnm hlen hhd
    go_wp2_with (go_at_call 24; refine HNM.out.mono ?_; rintro e w8 ⟨v8, rfl, hg8⟩; have HE8 := Lib.hid ((HE.out.up hg8).pre (by rw [List.append_assoc, ← HTK.out])); clear hg8)
    go_roundw
    case rel => exact ⟨_, _, _, _, _, _, _, _, _, _, ⟨k + 1, _, by omega, by go_num, rfl, HE8⟩, rfl⟩
    case measure => simp [intOf]; omega
  obtain rfl : k = o.atoms.length := by omega
  have E2 := Lib.hid (HE.out.pre (show _ = headL o ++ o.atoms.flatMap nameL ++ (o.funs.take 0).flatMap funL by rw [List.take_length]; simp))
  obtain ⟨q0, q1, q2, q3⟩ := E2.out.cells
  clear HE
  go_wp2
  clear q0 q1 q2 q3
  go_loopw [5, 61] (fun s iv wr => ∃ (k : Nat) (vs : Value), k ≤ o.funs.length ∧ iv = .int .i64 k ∧ vs = s ∧ Hid (Ec w wr g #[.slice A1 o.atoms.length c1, .slice A2 o.funs.length c2, .slice A3 o.preds.length c3, .slice A4 o.code.length c4] vs (headL o ++ o.atoms.flatMap nameL ++ (o.funs.take k).flatMap funL))) (fun _ iv _ => o.funs.length - (intOf iv).toNat)
  case atStart => exact ⟨0, _, by omega, rfl, rfl, E2⟩
  obtain ⟨k, vs, hk, rfl, rfl, HE⟩ := hrel
  clear E2 hlt
  by_cases hlt : k < o.funs.length
  case pos =>
    obtain ⟨b, off, rfl, hb, hc0, hc1⟩ := funCell HV.out.funs k hlt
    have d0 := (HE.out.below.cell (p := ⟨b, off + k * 2, none⟩) hb).trans hc0
    have d1 := (HE.out.below.cell (p := ⟨b, off + k * 2 + 1, none⟩) hb).trans hc1
    have hok := HO.out.funs _ (List.getElem_mem hlt)
    have hnm := name_size hok.1
    have HTK := Lib.hid (flatN_take funL o.funs k hlt)
    have HFL : Hid (funL o.funs[k] = nameL o.funs[k].1 ++ numL 1 o.funs[k].2.toNat) := Lib.hid rfl
    have hlen := HBL2.out k
    have hlen1 := HBL1.out o.atoms.length
    rw [List.take_length] at hlen1
    have hhd := HHD.out
    generalize funL o.funs[k] = fl at HTK HFL
    generalize o.funs[k].1 = s at d0 hnm HFL
    obtain ⟨m, hm⟩ := Int.eq_ofNat_of_zero_le (show 0 ≤ o.funs[k].2 by omega)
    rw [hm] at d1 hok HFL
    have hm8 : m ≤ 8 := by have := hok.2.2; omega
    have HPL : Hid ((headL o ++ o.atoms.flatMap nameL ++ (o.funs.take k).flatMap funL).length ≤ 100000) := Lib.hid (by rw [List.length_append, List.length_append]; omega)
    have HNL : Hid ((nameL s).length ≤ 33) := Lib.hid (by rw [nameL, List.length_append, numL_len, strL_len]; omega)
    have HNM := Lib.hid (appName_any s (by omega) hnm.1 (l := headL o ++ o.atoms.flatMap nameL ++ (o.funs.take k).flatMap funL) (by have := HPL.out; omega) vs ((wr.alloc (.cells #[.string s, .int .i64 (m : Int)] 63)).drewN 1) ((HE.out.row.alloc _) : Row (wr.alloc (.cells #[.string s, .int .i64 (m : Int)] 63)) _ _ _) (by have := HE.out.below.size; simp; omega))
    have HNUM := Lib.hid (fun (w' : World) v' h hb => appNum_any 1 m (by omega) (by omega) (base := w.heap.size) (l := headL o ++ o.atoms.flatMap nameL ++ (o.funs.take k).flatMap funL ++ nameL s) (by have h1 := HPL.out; have h2 := HNL.out; rw [List.length_append]; omega) v' w' h hb)
    have HGT : Hid (headL o ++ o.atoms.flatMap nameL ++ (o.funs.take k).flatMap funL ++ nameL s ++ numL 1 m = headL o ++ o.atoms.flatMap nameL ++ (o.funs.take (k + 1)).flatMap funL) := Lib.hid (by rw [HTK.out, HFL.out]; simp)
    have HLTW : Hid (w.heap.size ≤ (wr).heap.size) := Lib.hid HE.out.below.size
    clear hc0 hc1 hnm hlen hlen1 hhd hok hm HTK HFL
    go_upto_region 18 with (fail)
    have hS := And.intro ((Box.new (wr) 63 #[.string s, .int .i64 (m : Int)]).cell 0) ((Box.new (wr) 63 #[.string s, .int .i64 (m : Int)]).cell 1)
    go_region_held3 (fun w' => w'.cell? ⟨(wr).heap.size, 0, none⟩ = some (.string s) ∧ w'.cell? ⟨(wr).heap.size, 1, none⟩ = some (.int .i64 (m : Int)))
      (first | exact hS9 | exact hS8 | exact hS)
      (first
        | (go_at_call 24; refine HNM.out.mono ?_; rintro e w8 ⟨v8, rfl, hg8⟩; have HG8 := Lib.hid hg8.of_drewN; have HBX8 := Lib.hid (aside HE.out.row HG8.out); have hS8 := And.intro (HBX8.out.1.cell 0) (HBX8.out.1.cell 1); clear hg8)
        | (go_at_call 23; refine (HNUM.out _ _ HG8.out.own (Nat.le_trans HLTW.out HG8.out.of_alloc.fr.size)).mono ?_; rintro e w9 ⟨v9, rfl, hg9, _⟩; have HE9 := Lib.hid ((HE.out.up (HG8.out.of_alloc.trans hg9)).pre HGT.out); have hS9 := And.intro ((hg9.box HBX8.out.1 HBX8.out.2).1.cell 0) ((hg9.box HBX8.out.1 HBX8.out.2).1.cell 1); clear hg9))
    go_wp2
    go_roundw
    case rel => exact ⟨_, _, _, _, _, _, _, _, _, _, _, _, _, _, ⟨k + 1, _, by omega, by go_num, rfl, HE9⟩, rfl⟩
    case measure => simp [intOf]; omega
  obtain rfl : k = o.funs.length := by omega
  have E3 := Lib.hid (HE.out.pre (show _ = headL o ++ o.atoms.flatMap nameL ++ o.funs.flatMap funL ++ (o.preds.take 0).flatMap predL by rw [List.take_length]; simp))
  obtain ⟨q0, q1, q2, q3⟩ := E3.out.cells
  clear HE
  go_wp2
  clear q0 q1 q2 q3
  go_loopw [5, 76] (fun s iv wr => ∃ (k : Nat) (vs : Value), k ≤ o.preds.length ∧ iv = .int .i64 k ∧ vs = s ∧ Hid (Ec w wr g #[.slice A1 o.atoms.length c1, .slice A2 o.funs.length c2, .slice A3 o.preds.length c3, .slice A4 o.code.length c4] vs (headL o ++ o.atoms.flatMap nameL ++ o.funs.flatMap funL ++ (o.preds.take k).flatMap predL))) (fun _ iv _ => o.preds.length - (intOf iv).toNat)
  case atStart => exact ⟨0, _, by omega, rfl, rfl, E3⟩
  obtain ⟨k, vs, hk, rfl, rfl, HE⟩ := hrel
  clear E3 hlt
  by_cases hlt : k < o.preds.length
  case pos =>
    obtain ⟨b, off, rfl, hb, hc0, hc1, hc2⟩ := predCell HV.out.preds k hlt
    have d0 := (HE.out.below.cell (p := ⟨b, off + k * 3, none⟩) hb).trans hc0
    have d1 := (HE.out.below.cell (p := ⟨b, off + k * 3 + 1, none⟩) hb).trans hc1
    have d2 := (HE.out.below.cell (p := ⟨b, off + k * 3 + 2, none⟩) hb).trans hc2
    have hok := HO.out.preds _ (List.getElem_mem hlt)
    have hnm := name_size hok.1
    have HTK := Lib.hid (flatN_take predL o.preds k hlt)
    have HFL : Hid (predL o.preds[k] = nameL o.preds[k].1 ++ numL 1 o.preds[k].2.1.toNat ++ numL 2 o.preds[k].2.2.toNat) := Lib.hid rfl
    have hlen := HBL3.out k
    have hlen1 := HBL1.out o.atoms.length
    rw [List.take_length] at hlen1
    have hlen2 := HBL2.out o.funs.length
    rw [List.take_length] at hlen2
    have hhd := HHD.out
    generalize predL o.preds[k] = fl at HTK HFL
    generalize o.preds[k].1 = s at d0 hnm HFL
    obtain ⟨m, hm⟩ := Int.eq_ofNat_of_zero_le (show 0 ≤ o.preds[k].2.1 by omega)
    rw [hm] at d1 hok HFL
    have hm8 : m ≤ 8 := by have := hok.2.2.1; omega
    obtain ⟨n, hn⟩ := Int.eq_ofNat_of_zero_le (show 0 ≤ o.preds[k].2.2 by have := hok.2.2.2; omega)
    rw [hn] at d2 hok HFL
    have hn16 : n ≤ 65535 := by have := hok.2.2.2; have := HL.out; omega
    have HPL : Hid ((headL o ++ o.atoms.flatMap nameL ++ o.funs.flatMap funL ++ (o.preds.take k).flatMap predL).length ≤ 100000) := Lib.hid (by rw [List.length_append, List.length_append, List.length_append]; omega)
    have HNL : Hid ((nameL s).length ≤ 33) := Lib.hid (by rw [nameL, List.length_append, numL_len, strL_len]; omega)
    have HNM := Lib.hid (appName_any s (by omega) hnm.1 (l := headL o ++ o.atoms.flatMap nameL ++ o.funs.flatMap funL ++ (o.preds.take k).flatMap predL) (by have := HPL.out; omega) vs ((wr.alloc (.cells #[.string s, .int .i64 (m : Int), .int .i64 (n : Int)] 66)).drewN 1) ((HE.out.row.alloc _) : Row (wr.alloc (.cells #[.string s, .int .i64 (m : Int), .int .i64 (n : Int)] 66)) _ _ _) (by have := HE.out.below.size; simp; omega))
    have HNUM := Lib.hid (fun (w' : World) v' h hb => appNum_any 1 m (by omega) (by omega) (base := w.heap.size) (l := headL o ++ o.atoms.flatMap nameL ++ o.funs.flatMap funL ++ (o.preds.take k).flatMap predL ++ nameL s) (by have h1 := HPL.out; have h2 := HNL.out; rw [List.length_append]; omega) v' w' h hb)
    have HNUM2 := Lib.hid (fun (w' : World) v' h hb => appNum_any 2 n (by omega) (by omega) (base := w.heap.size) (l := headL o ++ o.atoms.flatMap nameL ++ o.funs.flatMap funL ++ (o.preds.take k).flatMap predL ++ nameL s ++ numL 1 m) (by have h1 := HPL.out; have h2 := HNL.out; rw [List.length_append, List.length_append, numL_len]; omega) v' w' h hb)
    have HGT : Hid (headL o ++ o.atoms.flatMap nameL ++ o.funs.flatMap funL ++ (o.preds.take k).flatMap predL ++ nameL s ++ numL 1 m ++ numL 2 n = headL o ++ o.atoms.flatMap nameL ++ o.funs.flatMap funL ++ (o.preds.take (k + 1)).flatMap predL) := Lib.hid (by rw [HTK.out, HFL.out]; simp)
    have HLTW : Hid (w.heap.size ≤ wr.heap.size) := Lib.hid HE.out.below.size
    clear hc0 hc1 hc2 hnm hlen hlen1 hlen2 hhd hok hm hn HTK HFL
    go_upto_region 23 with (fail)
    have hS := And.intro ((Box.new wr 66 #[.string s, .int .i64 (m : Int), .int .i64 (n : Int)]).cell 0) ((Box.new wr 66 #[.string s, .int .i64 (m : Int), .int .i64 (n : Int)]).cell 1)
    go_region_held3 (fun w' => w'.cell? ⟨wr.heap.size, 0, none⟩ = some (.string s) ∧ w'.cell? ⟨wr.heap.size, 1, none⟩ = some (.int .i64 (m : Int)))
      (first | exact hS9 | exact hS8 | exact hS)
      (first
        | (go_at_call 24; refine HNM.out.mono ?_; rintro e w8 ⟨v8, rfl, hg8⟩; have HG8 := Lib.hid hg8.of_drewN; have HBX8 := Lib.hid (aside HE.out.row HG8.out); have hS8 := And.intro (HBX8.out.1.cell 0) (HBX8.out.1.cell 1); clear hg8)
        | (go_at_call 23; refine (HNUM.out _ _ HG8.out.own (Nat.le_trans HLTW.out HG8.out.of_alloc.fr.size)).mono ?_; rintro e w9 ⟨v9, rfl, hg9, _⟩; have HG9 := Lib.hid (HG8.out.of_alloc.trans hg9); have HBX9 := Lib.hid (hg9.box HBX8.out.1 HBX8.out.2); have hS9 := And.intro (HBX9.out.1.cell 0) (HBX9.out.1.cell 1); clear hg9))
    have d9 := HBX9.out.1.cell 2
    go_wp2_with (go_at_call 23; refine (HNUM2.out _ _ HG9.out.own (Nat.le_trans HLTW.out HG9.out.fr.size)).mono ?_; rintro e w10 ⟨v10, rfl, hg10, _⟩; have HE10 := Lib.hid ((HE.out.up (HG9.out.trans hg10)).pre HGT.out); clear hg10)
    go_roundw
    case rel => exact ⟨_, _, _, _, _, _, _, _, _, _, _, _, _, _, _, _, _, _, ⟨k + 1, _, by omega, by go_num, rfl, HE10⟩, rfl⟩
    case measure => simp [intOf]; omega
  obtain rfl : k = o.preds.length := by omega
  have E4 := Lib.hid (HE.out.pre (show _ = headL o ++ o.atoms.flatMap nameL ++ o.funs.flatMap funL ++ o.preds.flatMap predL ++ (o.code.take 0).flatMap insL by rw [List.take_length]; simp))
  obtain ⟨q0, q1, q2, q3⟩ := E4.out.cells
  clear HE
  go_wp2
  clear q0 q1 q2 q3
  go_loopw [5, 95] (fun s iv wr => ∃ (k : Nat) (vs : Value), k ≤ o.code.length ∧ iv = .int .i64 k ∧ vs = s ∧ Hid (Ec w wr g #[.slice A1 o.atoms.length c1, .slice A2 o.funs.length c2, .slice A3 o.preds.length c3, .slice A4 o.code.length c4] vs (headL o ++ o.atoms.flatMap nameL ++ o.funs.flatMap funL ++ o.preds.flatMap predL ++ (o.code.take k).flatMap insL))) (fun _ iv _ => o.code.length - (intOf iv).toNat)
  case atStart => exact ⟨0, _, by omega, rfl, rfl, E4⟩
  obtain ⟨k, vs, hk, rfl, rfl, HE⟩ := hrel
  clear E4 hlt
  have hlen0 := HBL4.out k
  have hlen1 := HBL1.out o.atoms.length
  rw [List.take_length] at hlen1
  have hlen2 := HBL2.out o.funs.length
  rw [List.take_length] at hlen2
  have hlen3 := HBL3.out o.preds.length
  rw [List.take_length] at hlen3
  have hhd := HHD.out
  have HPL : Hid ((headL o ++ o.atoms.flatMap nameL ++ o.funs.flatMap funL ++ o.preds.flatMap predL ++ (o.code.take k).flatMap insL).length ≤ 100000) := Lib.hid (by rw [List.length_append, List.length_append, List.length_append, List.length_append]; omega)
  clear hlen0 hlen1 hlen2 hlen3 hhd
  by_cases hlt : k < o.code.length
  case pos =>
    obtain ⟨b, off, rfl, hb, hc0, hc1, hc2, hc3, hc4⟩ := insCell HV.out.code k hlt
    have d0 := (HE.out.below.cell (p := ⟨b, off + k * 5, none⟩) hb).trans hc0
    have d1 := (HE.out.below.cell (p := ⟨b, off + k * 5 + 1, none⟩) hb).trans hc1
    have d2 := (HE.out.below.cell (p := ⟨b, off + k * 5 + 2, none⟩) hb).trans hc2
    have d3 := (HE.out.below.cell (p := ⟨b, off + k * 5 + 3, none⟩) hb).trans hc3
    have d4 := (HE.out.below.cell (p := ⟨b, off + k * 5 + 4, none⟩) hb).trans hc4
    have hri := (insErr_ne (HO.out.code _ (List.getElem_mem hlt))).2.2.1
    have HTK := Lib.hid (flatN_take insL o.code k hlt)
    have hAI := fun w' h hb => appInstr_any o.code[k] hri (base := w.heap.size) (l := headL o ++ o.atoms.flatMap nameL ++ o.funs.flatMap funL ++ o.preds.flatMap predL ++ (o.code.take k).flatMap insL) (by have := HPL.out; omega) vs w' h hb
    generalize insL o.code[k] = il at HTK hAI
    generalize o.code[k].1 = i0 at d0 hAI
    generalize o.code[k].2.1 = i1 at d1 hAI
    generalize o.code[k].2.2.1 = i2 at d2 hAI
    generalize o.code[k].2.2.2.1 = i3 at d3 hAI
    generalize o.code[k].2.2.2.2 = i4 at d4 hAI
    have HAI := Lib.hid (hAI (wr.alloc (.cells #[.int .i64 i0, .int .i64 i1, .int .i64 i2, .int .i64 i3, .int .i64 i4] 69)) (HE.out.row.alloc _) (by have := HE.out.below.size; simp; omega))
    clear hc0 hc1 hc2 hc3 hc4 hAI
    go_wp2_with (go_at_call 25; refine HAI.out.mono ?_; rintro e w8 ⟨v8, rfl, hg8⟩; have HE8 := Lib.hid ((HE.out.up hg8.of_alloc).pre (by rw [List.append_assoc, ← HTK.out])); clear hg8)
    go_roundw
    case rel => exact ⟨_, _, _, _, _, _, _, _, _, _, ⟨k + 1, _, by omega, by go_num, rfl, HE8⟩, rfl⟩
    case measure => simp [intOf]; omega
  obtain rfl : k = o.code.length := by omega
  have hbd : headL o ++ o.atoms.flatMap nameL ++ o.funs.flatMap funL ++ o.preds.flatMap predL ++ (o.code.take o.code.length).flatMap insL = bodyL o := by rw [List.take_length]; rfl
  rw [hbd] at HPL
  have E5 := Lib.hid (HE.out.pre hbd)
  have HBLT := Lib.hid (bodyL_lt o)
  have HBY : Hid (en = bodyL o ++ numL 4 (crcOf 0 (bodyL o))) := Lib.hid HE2.out
  clear HE hbd
  obtain ⟨A5, c5, hv5⟩ := E5.out.row.form
  subst hv5
  have hsum := sum_any [bodyL o] (fun l hl => by obtain rfl := List.mem_singleton.1 hl; exact ⟨HBLT.out, by have := HPL.out; omega⟩) (by simp) (.slice (some ⟨wr.heap.size, 0, none⟩) 1 1) (wr.alloc (.cells #[.slice A5 (bodyL o).length c5] 38)) (.inr ⟨wr.heap.size, 0, 1, rfl, fun j hj => by
    obtain rfl : j = 0 := by simpa using hj
    exact ⟨_, (Box.new wr 38 #[.slice A5 (bodyL o).length c5]).cell 0, (E5.out.row.alloc _).bys⟩⟩)
  rw [show [bodyL o].flatten = bodyL o by simp] at hsum
  have hclt := crcOf_lt (s := 0) (by omega) HBLT.out
  have HN4 := Lib.hid (appNum_any 4 (crcOf 0 (bodyL o)) (by omega) hclt (by have := HPL.out; omega) (.slice A5 (bodyL o).length c5) (wr.alloc (.cells #[.slice A5 (bodyL o).length c5] 38)) (E5.out.row.alloc _) (by have := E5.out.below.size; simp; omega))
  generalize crcOf 0 (bodyL o) = cr at hsum hclt HN4 HBY
  have HSUM := Lib.hid hsum
  clear hsum
  go_wp2_with (first
    | (go_at_call 26; refine HSUM.out.mono ?_; rintro e w8 ⟨rfl, rfl⟩)
    | (go_at_call 23; refine HN4.out.mono ?_; rintro e w9 ⟨v9, rfl, hg9, hs9⟩; have HS9 := Lib.hid (hs9 (by decide)); have HG9 := Lib.hid hg9; clear hg9 hs9))
  go_ret2
  exact ⟨_, rfl, by rw [HBY.out]; exact HS9.out, (E5.out.up HG9.out.of_alloc).below⟩

end Go.Proofs.YtfknoecgcoapcaaDoor
