/-
 The program's lay: an object's code comes behind what is there, its Entries into the whole. Conditions: operands that can be looked at, names that the whole has.
-/
import Derived.Test.YtclkdlegogjnbaaGreatDoorR31
import Derived.Test.YtclkdlegogjnbaaGreatDoorR24
namespace Go.Proofs.YtclkdlegogjnbaaGreatDoor
open Go Go.RowKit Go.WideShapes Go.ChangeShapes
set_option linter.unusedVariables false
set_option linter.unusedSimpArgs false
theorem setE_set (P : List Pr) (i : Nat) (hi : i < P.length) (e : Int) : setE P i e = P.set i (P[i].1, P[i].2.1, e) := by
 unfold setE
 apply List.ext_getElem (by simp)
 intro k h1 h2
 simp only [List.getElem_modify, List.getElem_set]
 split
 ·rename_i h
  subst h
  rfl
 ·rfl
theorem layP_called (base : Int) (P : List Pr) (p : Pr) : (layP base P p).map called = P.map called := by
 unfold layP
 split
 ·rfl
 ·exact setE_called _ _ _
theorem layAll_called (base : Int) : ∀ (ps P : List Pr), (ps.foldl (layP base) P).map called = P.map called
 | [], P => rfl
 | p :: ps, P => by rw [List.foldl_cons, layAll_called base ps, layP_called]
theorem layAll_take (base : Int) (ps P : List Pr) (k : Nat) (h : k < ps.length) : (ps.take (k + 1)).foldl (layP base) P = layP base ((ps.take k).foldl (layP base) P) ps[k] := by
 rw [List.take_succ_eq_append_getElem h, List.foldl_append]
 rfl
theorem opdJ_called {a : List ByteArray} {f : List (ByteArray × Int)} {P P' : List Pr} (h : P'.map called = P.map called) (o : Ob) (base kind n : Int) : opdJ ⟨a, f, P', []⟩ o base kind n = opdJ ⟨a, f, P, []⟩ o base kind n := by
 unfold opdJ
 simp only
 rw [findFrom_called _ _ 0 P' P h]
def argC (op : Int) (g : Nat → Int) : List Value := [.int .i64 op, .int .i64 (g 0), .int .i64 (g 1), .int .i64 (g 2), .int .i64 (g 3)]
def midA (F x : Nat → Int) (m j : Nat) : Int := if j < m then F j else x j
theorem argC_at (op : Int) (g : Nat → Int) (k : Nat) (hk : k < 4) : (argC op g).toArray[1 + k]? = some (.int .i64 (g k)) := by
 match k, hk with
 | 0, _ => simp [argC]
 | 1, _ => simp [argC]
 | 2, _ => simp [argC]
 | 3, _ => simp [argC]
theorem argC_step (op : Int) (F x : Nat → Int) (m : Nat) (hm : m < 4) : (argC op (midA F x m)).toArray.setIfInBounds (1 + m) (.int .i64 (F m)) = (argC op (midA F x (m + 1))).toArray := by
 match m, hm with
 | 0, _ => simp [argC, midA]
 | 1, _ => simp [argC, midA]
 | 2, _ => simp [argC, midA]
 | 3, _ => simp [argC, midA]
theorem argC_start (F : Nat → Int) (i : Ins) : argC i.1 (midA F (fun j => (argOf i).getD j 0) 0) = insC i := by
 obtain ⟨op, a, b, c, d⟩ := i
 simp [argC, midA, insC, argOf]
theorem argC_end (W o : Ob) (base : Int) (i : Ins) : argC i.1 (midA (fun j => opdJ W o base ((opsOf i.1).getD j 0) ((argOf i).getD j 0)) (fun j => (argOf i).getD j 0) (opsOf i.1).length) = insC (insJ W o base i) := by
 have h := fun j => argsJ_get (opdJ W o base) (opsOf i.1) (argOf i) j
 unfold insJ insOf argC insC
 simp only [h, midA]
theorem Wh.far {w wr : World} {I : WI} {K : WV} {s : Lk} {cd : List Ins} (h : Wh w wr I K s cd) {p : Addr} (ha : Apart I K p.block ∧ w.heap.size ≤ p.block) (u : Value) : Wh w (wr.setCell p u) I K s cd := by
 obtain ⟨⟨h1, h2, h3, h4, h5⟩, hl⟩ := ha
 have hf : Fr (fun k => k = p.block) wr (wr.setCell p u) := (Fr.refl (fun k => k = p.block) wr).setCell (p := p) (.inl rfl) u
 exact ⟨h.box.fr hf (fun e => h1 e.symm), h.r.fr hf (fun e => h2 e.symm) (fun e => h3 e.symm) (fun e => h4 e.symm) (fun k hk e => h5 (e ▸ hk)) (h.r.below.setCell (p := p) hl u)⟩
theorem WhF.far {w w' : World} {I : WI} {K K' : WV} (h : WhF w w' I K K') {p : Addr} (hl : w.heap.size ≤ p.block) (u : Value) : WhF w (w'.setCell p u) I K K' :=
 ⟨h.fr.setCell (p := p) (.inr hl) u, h.own⟩
def LayW (w0 w : World) (I : WI) (K : WV) (s : Lk) (r : Ob) (e : Ending) (w' : World) : Prop :=
 ∃ K', e = .returned (.tuple #[]) ∧ Wh w0 w' I K' { s with preds := r.preds } r.code ∧ WhF w w' I K K'
set_option maxRecDepth 100000 in
set_option maxHeartbeats 32000000 in
theorem lay_any (w0 : World) (I : WI) (K : WV) (s : Lk) (cd : List Ins) (o : Ob) (ho : ObKeys o) (hh : Has s o) (hent : ∀ p ∈ o.preds, 0 ≤ p.2.2 ∧ p.2.2 ≤ 65535) (hops : ∀ i ∈ o.code, ∀ j, j < (opsOf i.1).length → OpdOk o ((opsOf i.1).getD j 0) ((argOf i).getD j 0)) (ua uf up uc : Value) (hl : cd.length ≤ 500000) (w : World) (hv : ObAt w0 ua uf up uc o) (hk : Wh w0 w I K s cd) :
  Calls Tryz.prog 26 #[.pointer (some ⟨I.g, 0, none⟩), .agg #[ua, uf, up, uc]] w (LayW w0 w I K s (layK ⟨s.atoms, s.funs, s.preds, cd⟩ o)) := by
 obtain ⟨A1, c1, rfl⟩ := CellsAt.form hv.atoms
 obtain ⟨A2, c2, rfl⟩ := CellsAt.form hv.funs
 obtain ⟨A3, c3, rfl⟩ := CellsAt.form hv.preds
 obtain ⟨A4, c4, rfl⟩ := CellsAt.form hv.code
 have HO := Lib.hid ho
 have HH := Lib.hid hh
 have HV := Lib.hid hv
 have HENT := Lib.hid hent
 have HOPS := Lib.hid hops
 have hsm := ho.small
 have HK0 := Lib.hid (hk.alloc (.cells #[.slice A1 o.atoms.length c1, .slice A2 o.funs.length c2, .slice A3 o.preds.length c3, .slice A4 o.code.length c4] 39))
 have HF0 : Hid (WhF w (w.alloc (.cells #[.slice A1 o.atoms.length c1, .slice A2 o.funs.length c2, .slice A3 o.preds.length c3, .slice A4 o.code.length c4] 39)) I K K) := Lib.hid (WhF.below (alloc_below w _))
 have X0 := Lib.hid (Box.new w 39 #[.slice A1 o.atoms.length c1, .slice A2 o.funs.length c2, .slice A3 o.preds.length c3, .slice A4 o.code.length c4])
 have AX := Lib.hid (hk.apart (b := w.heap.size) (Nat.le_refl _))
 clear ho hh hv hk hent hops
 go_enter Tryz.func26, Tryz.ntmps26
 go_upto_region 1 with (fail)
 obtain ⟨w1, hw1⟩ : ∃ w1, w.alloc (.cells #[.slice A1 o.atoms.length c1, .slice A2 o.funs.length c2, .slice A3 o.preds.length c3, .slice A4 o.code.length c4] 39) = w1 := ⟨_, rfl⟩
 obtain ⟨go, hgo⟩ : ∃ go, w.heap.size = go := ⟨_, rfl⟩
 rw [hw1] at HK0 HF0 X0 ⊢
 rw [hgo] at X0 AX ⊢
 clear hw1 hgo
 obtain ⟨va, vf, vp, vc, vh, vb⟩ := K
 obtain ⟨Ac, cc, hvc, _⟩ := own_form HK0.out.r.rc
 simp only at hvc
 subst hvc
 have x1 := X0.out.cell 2
 have q3 := HK0.out.box.cell 3
 obtain ⟨base, hbase⟩ : ∃ base : Int, (cd.length : Int) = base := ⟨_, rfl⟩
 have hb0 : 0 ≤ base ∧ base ≤ 500000 := by omega
 have HBASE := Lib.hid hbase
 go_upto_region 2 with (fail)
 clear hbase
 go_wp2
 clear x1 q3
 have R0 : Hid (Wh w0 w1 I ⟨va, vf, vp, .slice Ac cd.length cc, vh, vb⟩ { s with preds := (o.preds.take 0).foldl (layP base) s.preds } cd) := Lib.hid HK0.out
 have F0 : Hid (WhF w1 w1 I ⟨va, vf, vp, .slice Ac cd.length cc, vh, vb⟩ ⟨va, vf, vp, .slice Ac cd.length cc, vh, vb⟩) := Lib.hid (WhF.refl _ _ _)
 go_loopw [6, 20] (fun _ i wr => ∃ (k : Nat), k ≤ o.preds.length ∧ i = .int .i64 k ∧ Hid (Wh w0 wr I ⟨va, vf, vp, .slice Ac cd.length cc, vh, vb⟩ { s with preds := (o.preds.take k).foldl (layP base) s.preds } cd) ∧ Hid (WhF w1 wr I ⟨va, vf, vp, .slice Ac cd.length cc, vh, vb⟩ ⟨va, vf, vp, .slice Ac cd.length cc, vh, vb⟩)) (fun _ i _ => o.preds.length - (intOf i).toNat)
 case atStart => exact ⟨0, by omega, rfl, R0, F0⟩
 obtain ⟨k, hkl, rfl, HK, HF⟩ := hrel
 clear R0 F0
 by_cases hlt : k < o.preds.length
 case pos =>
  obtain ⟨b, off, rfl, hb, hc0, hc1, hc2⟩ := predCell HV.out.preds k hlt
  have d0 := (HK.out.r.below.cell (p := ⟨b, off + k * 3, none⟩) hb).trans hc0
  have d1 := (HK.out.r.below.cell (p := ⟨b, off + k * 3 + 1, none⟩) hb).trans hc1
  have d2 := (HK.out.r.below.cell (p := ⟨b, off + k * 3 + 2, none⟩) hb).trans hc2
  have HX : Hid (okF (o.preds[k].1, o.preds[k].2.1)) := Lib.hid (HO.out.preds _ (List.getElem_mem hlt))
  have hin : (o.preds[k].1, o.preds[k].2.1) ∈ s.preds.map called := HH.out.preds _ (List.getElem_mem hlt)
  have hee := HENT.out _ (List.getElem_mem hlt)
  have HT := Lib.hid (layAll_take base o.preds s.preds k hlt)
  have hcl := layAll_called base (o.preds.take k) s.preds
  obtain ⟨s1, hs1⟩ : ∃ s1 : Lk, ({ s with preds := (o.preds.take k).foldl (layP base) s.preds } : Lk) = s1 := ⟨_, rfl⟩
  have hs1a : (o.preds.take k).foldl (layP base) s.preds = s1.preds := by rw [← hs1]
  rw [hs1a] at HT hcl
  have HS2 : Hid (({ s with preds := (o.preds.take (k + 1)).foldl (layP base) s.preds } : Lk) = { s1 with preds := layP base s1.preds (o.preds[k].1, o.preds[k].2.1, o.preds[k].2.2) }) := Lib.hid (by rw [HT.out, ← hs1])
  rw [hs1] at HK
  have hin1 : (o.preds[k].1, o.preds[k].2.1) ∈ s1.preds.map called := by rw [hcl]; exact hin
  have HPL : Hid (findFrom o.preds[k].1 o.preds[k].2.1 0 s1.preds = (placeOf (s1.preds.map called) (o.preds[k].1, o.preds[k].2.1) : Int)) := Lib.hid (by rw [findFrom_pl _ _ _ _ hin1]; simp)
  have hat := place_lt hin1
  rw [List.length_map] at hat
  have hpl := plT_yes hin1
  clear hs1 hs1a hc0 hc1 hc2 HT hb hcl hin hin1
  generalize o.preds[k].1 = x at d0 HX HS2 HPL hat hpl
  generalize o.preds[k].2.1 = m at d1 HX HS2 HPL hat hpl
  generalize o.preds[k].2.2 = e at d2 hee HS2
  generalize placeOf (s1.preds.map called) (x, m) = at_ at HPL hat hpl
  have HK5 := Lib.hid (HK.out.alloc (.cells #[.string x, .int .i64 m, .int .i64 e] 64))
  have HF5 := Lib.hid (HF.out.trans (WhF.below (alloc_below wr (.cells #[.string x, .int .i64 m, .int .i64 e] 64))))
  have X5 := Lib.hid (Box.new wr 64 #[.string x, .int .i64 m, .int .i64 e])
  go_upto_region 5 with (fail)
  obtain ⟨w5, hw5⟩ : ∃ w5, wr.alloc (.cells #[.string x, .int .i64 m, .int .i64 e] 64) = w5 := ⟨_, rfl⟩
  obtain ⟨gx, hgx⟩ : ∃ gx, wr.heap.size = gx := ⟨_, rfl⟩
  rw [hw5] at HK5 HF5 X5 ⊢
  rw [hgx] at X5 ⊢
  clear hw5 hgx d0 d1 d2
  have x0 := X5.out.cell 0
  have x1 := X5.out.cell 1
  have x2 := X5.out.cell 2
  by_cases he : e = 65535
  ·have e1 : (e != 65535) = false := by rw [bne_eq_false_iff_eq]; exact he
   have HS3 : Hid (({ s with preds := (o.preds.take (k + 1)).foldl (layP base) s.preds } : Lk) = s1) := Lib.hid (by rw [HS2.out, layP, if_pos he])
   clear he
   go_wp2
   go_roundw
   case rel => exact ⟨k + 1, by omega, by go_num, Lib.hid (by rw [HS3.out]; exact HK5.out), HF5⟩
   case measure => simp [intOf]; omega
  ·have e1 : (e != 65535) = true := by rw [bne_iff_ne]; exact he
   obtain ⟨gp, cp, hvp⟩ := own_some HK5.out.r.rp (by omega)
   simp only at hvp
   subst hvp
   have HP0 : Hid (({ s1 with preds := s1.preds.set at_ (s1.preds[at_].1, s1.preds[at_].2.1, base + e) } : Lk) = { s1 with preds := layP base s1.preds (x, m, e) }) := Lib.hid (by
    rw [layP, if_neg he]
    simp only
    rw [HPL.out, Int.toNat_natCast, setE_set _ _ hat])
   have hwrap : IntKind.i64.wrap (base + e) = base + e := IntWalk.i64_in _ (by omega)
   have q2 := HK5.out.box.cell 2
   have q6 := HK5.out.box.cell 6
   have hlk := ((HK5.out.drewN 1).r.mp.look keyTC uMapCI (x, m) HX.out).2
   rw [hpl] at hlk
   unfold valF at hlk
   simp only [Option.getD_some] at hlk
   have i1 : (at_ : Int) < (s1.preds.length : Int) := by omega
   have i2 : (0 : Int) ≤ (at_ : Int) := by omega
   clear he hpl
   go_upto_region 6 with (fail)
   refine wp_region_noPanic ?_
   refine wp_region_T 21 (fun w' => w'.cell? ⟨I.g, 2, none⟩ = some (.slice (some ⟨gp, 0, none⟩) s1.preds.length cp) ∧ w'.cell? ⟨I.g, 6, none⟩ = some (.map (some I.mp)) ∧ w'.cell? ⟨gx, 0, none⟩ = some (.string x) ∧ w'.cell? ⟨gx, 1, none⟩ = some (.int .i64 m) ∧ w'.cell? ⟨gx, 2, none⟩ = some (.int .i64 e) ∧ (Instr.lookup 72 (.map (some I.mp)) (.agg #[.string x, .int .i64 m]) false).run Tryz.prog w' = .ok (.int .i64 (at_ : Int)) w') (by kernel_rfl) ?_ (fun hHeld => ?_)
   ·exact ⟨q2, q6, x0, x1, x2, hlk⟩
   have HK2 := Lib.hid (HK5.out.drewN 1)
   change wpAnyT _ _ _ _ _ _ _ _ _ (w5.drewN 1)
   replace hHeld : (w5.drewN 1).cell? ⟨I.g, 2, none⟩ = some (.slice (some ⟨gp, 0, none⟩) s1.preds.length cp) ∧ (w5.drewN 1).cell? ⟨I.g, 6, none⟩ = some (.map (some I.mp)) ∧ (w5.drewN 1).cell? ⟨gx, 0, none⟩ = some (.string x) ∧ (w5.drewN 1).cell? ⟨gx, 1, none⟩ = some (.int .i64 m) ∧ (w5.drewN 1).cell? ⟨gx, 2, none⟩ = some (.int .i64 e) ∧ (Instr.lookup 72 (.map (some I.mp)) (.agg #[.string x, .int .i64 m]) false).run Tryz.prog (w5.drewN 1) = .ok (.int .i64 (at_ : Int)) (w5.drewN 1) := hHeld
   have HF2 := Lib.hid (HF5.out.drewN 1)
   generalize w5.drewN 1 = w2 at HK2 HF2 hHeld ⊢
   obtain ⟨z0, z1⟩ := HK2.out.cellp rfl at_ hat
   obtain ⟨hk4, hf4⟩ := HK2.out.setp rfl at_ hat (base + e)
   have HK4 := Lib.hid hk4
   have HF4 := Lib.hid (HF2.out.trans hf4)
   clear hk4 hf4
   refine tP (i := 0) (v := ?_) rfl ?_ ?_
   rotate_left
   ·(intro w hSw; (try dsimp only at hSw); go_simp; try with_reducible rfl)
   try simp only [qA, qB, qC, Act.put, qD, qE, qF]
   refine tP (i := 1) (v := ?_) rfl ?_ ?_
   rotate_left
   ·(intro w hSw; (try dsimp only at hSw); go_simp; try with_reducible rfl)
   try simp only [qA, qB, qC, Act.put, qD, qE, qF]
   refine tP (i := 2) (v := ?_) rfl ?_ ?_
   rotate_left
   ·(intro w hSw; (try dsimp only at hSw); go_simp; try with_reducible rfl)
   try simp only [qA, qB, qC, Act.put, qD, qE, qF]
   refine tP (i := 3) (v := ?_) rfl ?_ ?_
   rotate_left
   ·(intro w hSw; (try dsimp only at hSw); go_simp; try with_reducible rfl)
   try simp only [qA, qB, qC, Act.put, qD, qE, qF]
   refine tS (i := 4) (v := ?_) rfl ?_ hHeld ?_
   rotate_left
   ·(intro w hSw; (try dsimp only at hSw); go_simp; try with_reducible rfl)
   try simp only [qA, qB, qC, Act.put, qD, qE, qF]
   refine tP (i := 5) (v := ?_) rfl ?_ ?_
   rotate_left
   ·(intro w hSw; (try dsimp only at hSw); go_simp; try with_reducible rfl)
   try simp only [qA, qB, qC, Act.put, qD, qE, qF]
   refine tP (i := 6) (v := ?_) rfl ?_ ?_
   rotate_left
   ·(intro w hSw; (try dsimp only at hSw); go_simp; try with_reducible rfl)
   try simp only [qA, qB, qC, Act.put, qD, qE, qF]
   refine tP (i := 7) (v := ?_) rfl ?_ ?_
   rotate_left
   ·(intro w hSw; (try dsimp only at hSw); go_simp; try with_reducible rfl)
   try simp only [qA, qB, qC, Act.put, qD, qE, qF]
   refine tS (i := 8) (v := ?_) rfl ?_ hHeld ?_
   rotate_left
   ·(intro w hSw; (try dsimp only at hSw); go_simp; try with_reducible rfl)
   try simp only [qA, qB, qC, Act.put, qD, qE, qF]
   refine tP (i := 9) (v := ?_) rfl ?_ ?_
   rotate_left
   ·(intro w hSw; (try dsimp only at hSw); go_simp; try with_reducible rfl)
   try simp only [qA, qB, qC, Act.put, qD, qE, qF]
   refine tS (i := 10) (v := ?_) rfl ?_ hHeld ?_
   rotate_left
   ·(intro w hSw; (try dsimp only at hSw); go_simp; try with_reducible rfl)
   try simp only [qA, qB, qC, Act.put, qD, qE, qF]
   refine tP (i := 11) (v := ?_) rfl ?_ ?_
   rotate_left
   ·(intro w hSw; (try dsimp only at hSw); go_simp; try with_reducible rfl)
   try simp only [qA, qB, qC, Act.put, qD, qE, qF]
   refine tS (i := 12) (v := ?_) rfl ?_ hHeld ?_
   rotate_left
   ·(intro w hSw; (try dsimp only at hSw); go_simp; try with_reducible rfl)
   try simp only [qA, qB, qC, Act.put, qD, qE, qF]
   refine tP (i := 13) (v := ?_) rfl ?_ ?_
   rotate_left
   ·(intro w hSw; (try dsimp only at hSw); go_simp; try with_reducible rfl)
   try simp only [qA, qB, qC, Act.put, qD, qE, qF]
   refine tS (i := 14) (v := ?_) rfl ?_ hHeld ?_
   rotate_left
   ·(intro w hSw; (try dsimp only at hSw); go_simp; try with_reducible rfl)
   try simp only [qA, qB, qC, Act.put, qD, qE, qF]
   refine tP (i := 15) (v := ?_) rfl ?_ ?_
   rotate_left
   ·(intro w hSw; (try dsimp only at hSw); go_simp; try with_reducible rfl)
   try simp only [qA, qB, qC, Act.put, qD, qE, qF]
   refine tP (i := 16) (v := ?_) rfl ?_ ?_
   rotate_left
   ·(intro w hSw; (try dsimp only at hSw); go_simp; try with_reducible rfl)
   try simp only [qA, qB, qC, Act.put, qD, qE, qF]
   refine tS (i := 17) (v := ?_) rfl ?_ hHeld ?_
   rotate_left
   ·(intro w hSw; (try dsimp only at hSw); go_simp; try with_reducible rfl)
   try simp only [qA, qB, qC, Act.put, qD, qE, qF]
   refine tP (i := 18) (v := ?_) rfl ?_ ?_
   rotate_left
   ·(intro w hSw; (try dsimp only at hSw); go_simp; try with_reducible rfl)
   try simp only [qA, qB, qC, Act.put, qD, qE, qF]
   refine tP (i := 19) (v := ?_) rfl ?_ ?_
   rotate_left
   ·(intro w hSw; (try dsimp only at hSw); go_simp; try with_reducible rfl)
   try simp only [qA, qB, qC, Act.put, qD, qE, qF]
   refine tP (i := 20) (v := ?_) rfl ?_ ?_
   rotate_left
   ·(intro w hSw; (try dsimp only at hSw); go_simp; try with_reducible rfl)
   try simp only [qA, qB, qC, Act.put, qD, qE, qF]
   refine wpAnyT_ready (rs := [21]) (by kernel_rfl) (by simp) ?_
   refine AllT.cons (o := _) rfl (fun K hK => ?_) AllT.nil
   go_simp
   refine hK.out _ _ (fun h => absurd h (by decide)) (fun _ => ?_)
   clear hK K
   try simp only [qA, qB, qC, Act.put, qD, qE, qF]
   refine wpAnyT_done (by kernel_rfl) (NoPanic.normal ?_) _
   go_wp2
   go_roundw
   case rel => exact ⟨k + 1, by omega, by go_num, Lib.hid (by rw [HS2.out, ← HP0.out]; exact HK4.out), HF4⟩
   case measure => simp [intOf]; omega
 case neg =>
 obtain rfl : k = o.preds.length := by omega
 obtain ⟨sp, hsp⟩ : ∃ sp : Lk, ({ s with preds := o.preds.foldl (layP base) s.preds } : Lk) = sp := ⟨_, rfl⟩
 have HKp : Hid (Wh w0 wr I ⟨va, vf, vp, .slice Ac cd.length cc, vh, vb⟩ sp cd) := Lib.hid (by rw [← hsp]; have h := HK.out; rw [List.take_length] at h; exact h)
 have HFp := HF
 have Xp := Lib.hid (HFp.out.keep X0.out AX.out).1
 have APp := Lib.hid (HFp.out.keep X0.out AX.out).2
 have HSP : Hid (sp = { s with preds := o.preds.foldl (layP base) s.preds }) := Lib.hid hsp.symm
 obtain ⟨wp, hwp⟩ : ∃ wp, wr = wp := ⟨_, rfl⟩
 rw [hwp] at HKp HFp Xp ⊢
 clear HK HF hsp hwp
 have x3 := Xp.out.cell 3
 go_wp2
 clear x3
 have R0 : Hid (Wh w0 wp I ⟨va, vf, vp, .slice Ac cd.length cc, vh, vb⟩ sp (cd ++ (o.code.take 0).map (insJ ⟨s.atoms, s.funs, s.preds, []⟩ o base))) := Lib.hid (by simpa using HKp.out)
 have F0 : Hid (WhF wp wp I ⟨va, vf, vp, .slice Ac cd.length cc, vh, vb⟩ ⟨va, vf, vp, .slice Ac cd.length cc, vh, vb⟩) := Lib.hid (WhF.refl _ _ _)
 go_loopw [8, 9, 10, 52] (fun _ _ _ i wr => ∃ (k : Nat) (K1 : WV), k ≤ o.code.length ∧ i = .int .i64 k ∧ Hid (Wh w0 wr I K1 sp (cd ++ (o.code.take k).map (insJ ⟨s.atoms, s.funs, s.preds, []⟩ o base))) ∧ Hid (WhF wp wr I ⟨va, vf, vp, .slice Ac cd.length cc, vh, vb⟩ K1) ∧ Hid (Box wr go 39 #[.slice A1 o.atoms.length c1, .slice A2 o.funs.length c2, .slice A3 o.preds.length c3, .slice A4 o.code.length c4])) (fun _ _ _ i _ => o.code.length - (intOf i).toNat)
 case atStart => exact ⟨0, _, by omega, rfl, R0, F0, Xp⟩
 obtain ⟨k, K1, hkl, rfl, HK, HFo, Xo⟩ := hrel
 clear R0 F0
 by_cases hlt : k < o.code.length
 case neg =>
  obtain rfl : k = o.code.length := by omega
  have HKE : Hid (Wh w0 wr I K1 { s with preds := (layK ⟨s.atoms, s.funs, s.preds, cd⟩ o).preds } (layK ⟨s.atoms, s.funs, s.preds, cd⟩ o).code) := Lib.hid (by
   have h := HK.out
   rw [List.take_length, HSP.out] at h
   unfold layK
   simp only
   rw [HBASE.out]
   exact h)
  go_wp2
  go_end0
  exact ⟨K1, rfl, HKE.out, (HF0.out.trans HFp.out).trans HFo.out⟩
 obtain ⟨b, off, rfl, hb, hc0, hc1, hc2, hc3, hc4⟩ := insCell HV.out.code k hlt
 have d0 := (HK.out.r.below.cell (p := ⟨b, off + k * 5, none⟩) hb).trans hc0
 have d1 := (HK.out.r.below.cell (p := ⟨b, off + k * 5 + 1, none⟩) hb).trans hc1
 have d2 := (HK.out.r.below.cell (p := ⟨b, off + k * 5 + 2, none⟩) hb).trans hc2
 have d3 := (HK.out.r.below.cell (p := ⟨b, off + k * 5 + 3, none⟩) hb).trans hc3
 have d4 := (HK.out.r.below.cell (p := ⟨b, off + k * 5 + 4, none⟩) hb).trans hc4
 have HOPj := Lib.hid (HOPS.out _ (List.getElem_mem hlt))
 obtain ⟨W, hW⟩ : ∃ W : Ob, (⟨s.atoms, s.funs, s.preds, []⟩ : Ob) = W := ⟨_, rfl⟩
 have HSX : Hid (∀ kind n, opdJ ⟨sp.atoms, sp.funs, sp.preds, []⟩ o base kind n = opdJ W o base kind n) := Lib.hid (fun kind n => by
  rw [← hW, HSP.out]
  exact opdJ_called (layAll_called base o.preds s.preds) o base kind n)
 have HHS : Hid (Has sp o) := Lib.hid (by
  rw [HSP.out]
  exact ⟨HH.out.atoms, HH.out.funs, fun p hp => by
   show _ ∈ (o.preds.foldl (layP base) s.preds).map called
   rw [layAll_called]
   exact HH.out.preds p hp⟩)
 have HS2 : Hid (cd ++ (o.code.take (k + 1)).map (insJ W o base) = (cd ++ (o.code.take k).map (insJ W o base)) ++ [insJ W o base o.code[k]]) := Lib.hid (by rw [List.take_succ_eq_append_getElem hlt, List.map_append, List.append_assoc]; rfl)
 have hcdl : (cd ++ (o.code.take k).map (insJ W o base)).length ≤ 1000000 := by simp; omega
 rw [hW] at HK ⊢
 obtain ⟨cd1, hcd1⟩ : ∃ cd1, cd ++ (o.code.take k).map (insJ W o base) = cd1 := ⟨_, rfl⟩
 rw [hcd1] at HK HS2 hcdl
 have HAE := Lib.hid (argC_end W o base o.code[k])
 have HAS := Lib.hid (argC_start (fun j => opdJ W o base ((opsOf o.code[k].1).getD j 0) ((argOf o.code[k]).getD j 0)) o.code[k])
 have HQ4 := Lib.hid (argOf_len o.code[k])
 obtain ⟨wo, hwo⟩ : ∃ wo, wr = wo := ⟨_, rfl⟩
 rw [hwo] at HK HFo Xo d0 d1 d2 d3 d4 ⊢
 clear hwo hcd1 hc0 hc1 hc2 hc3 hc4 hb
 generalize hii : o.code[k] = ii at d0 d1 d2 d3 d4 HOPj HS2 HAE HAS HQ4
 clear hii
 generalize insJ W o base ii = i' at HS2 HAE
 have HK5 := Lib.hid (HK.out.alloc (.cells (insC ii).toArray 52))
 have HF5 : Hid (WhF wo (wo.alloc (.cells (insC ii).toArray 52)) I K1 K1) := Lib.hid (WhF.below (alloc_below wo _))
 have X5 := Lib.hid (Xo.out.alloc (.cells (insC ii).toArray 52))
 have Y5 := Lib.hid (Box.new wo 52 (insC ii).toArray)
 have AX5 := Lib.hid (HFo.out.keep Xp.out APp.out).2
 have AY : Hid (Apart I K1 wo.heap.size ∧ w0.heap.size ≤ wo.heap.size) := Lib.hid ⟨HK.out.apart (Nat.le_refl _), HK.out.r.below.size⟩
 have HNE : Hid (go ≠ wo.heap.size) := Lib.hid (by have := Xo.out.lt; omega)
 have HGI : Hid (wo.heap.size ≤ wo.heap.size) := Lib.hid (Nat.le_refl _)
 obtain ⟨op, z0, z1, z2, z3⟩ := ii
 simp only [insC] at HK5 HF5 X5 Y5
 go_upto_region 11 with (fail)
 obtain ⟨w5, hw5⟩ : ∃ w5, wo.alloc (.cells #[.int .i64 op, .int .i64 z0, .int .i64 z1, .int .i64 z2, .int .i64 z3] 52) = w5 := ⟨_, rfl⟩
 have hw5' : wo.alloc (.cells [.int .i64 op, .int .i64 z0, .int .i64 z1, .int .i64 z2, .int .i64 z3].toArray 52) = w5 := hw5
 obtain ⟨gi, hgi⟩ : ∃ gi, wo.heap.size = gi := ⟨_, rfl⟩
 rw [hw5'] at HK5 HF5 X5 Y5
 rw [hw5]
 rw [hgi] at Y5 AY HNE ⊢
 have HGI : Hid (wo.heap.size ≤ gi) := Lib.hid (by omega)
 obtain ⟨L, hL⟩ : ∃ L, opsOf op = L := ⟨_, rfl⟩
 obtain ⟨zs, hzs⟩ : ∃ zs, argOf (op, z0, z1, z2, z3) = zs := ⟨_, rfl⟩
 simp only at HOPj HAE HAS
 rw [hL, hzs] at HOPj HAE HAS
 obtain ⟨F, hF⟩ : ∃ F : Nat → Int, (fun j => opdJ W o base (L.getD j 0) (zs.getD j 0)) = F := ⟨_, rfl⟩
 obtain ⟨G, hG⟩ : ∃ G : Nat → Int, (fun j => zs.getD j 0) = G := ⟨_, rfl⟩
 have HFJ : Hid (∀ j, opdJ W o base (L.getD j 0) (G j) = F j) := Lib.hid (fun j => by rw [← hF, ← hG])
 have HOPk : Hid (∀ j, j < L.length → OpdOk o (L.getD j 0) (G j)) := Lib.hid (fun j hj => by rw [← hG]; exact HOPj.out j hj)
 rw [hF, hG] at HAE HAS
 have hfew := ops_few op
 rw [hL] at hfew
 have Y5 : Hid (Box w5 gi 52 (argC op (midA F G 0)).toArray) := Lib.hid (by rw [HAS.out]; exact Y5.out)
 have HOPR := Lib.hid (fun w => operands_any op w)
 rw [hL] at HOPR
 have y0 : w5.cell? ⟨gi, 0, none⟩ = some (.int .i64 op) := by rw [Y5.out.cell 0]; rfl
 obtain ⟨gl, hgl⟩ : ∃ gl, w5.heap.size = gl := ⟨_, rfl⟩
 have HGL := Lib.hid hgl
 have HNL : Hid (0 < L.length → gl ≠ gi) := Lib.hid (fun _ => by have := Y5.out.lt; omega)
 clear hw5 hw5' hgi hL hzs hF hG hgl d0 d1 d2 d3 d4 HOPj HAS Xo HQ4
 go_upto_region 12 with (go_at_call 55; refine (HOPR.out _).mono ?_; rintro e6 w6 hN; obtain ⟨pl, rfl, hb6, hl6⟩ := newInts_any9 hN; rw [HGL.out] at hl6; have HK6 := Lib.hid (HK5.out.up hb6); have HF6 : Hid (WhF wo w6 I K1 K1) := Lib.hid (HF5.out.trans (WhF.below hb6)); have X6 := Lib.hid (X5.out.below hb6 X5.out.lt); have Y6 := Lib.hid (Y5.out.below hb6 Y5.out.lt); have L6 := Lib.hid hl6; clear hN hb6 hl6)
 clear y0 HK5 HF5 X5 Y5 HOPR
 have HOPC := Lib.hid (fun m (hm : m < L.length) W' (h : Wh w0 W' I K1 sp cd1) => operand_any w0 I K1 sp cd1 o HO.out HHS.out _ _ _ _ base (L.getD m 0) (G m) (by omega) (HOPk.out m hm) W' HV.out h)
 simp only [HSX.out, HFJ.out] at HOPC
 go_loopw [9, 10, 60] (fun _ _ j wr => ∃ (m : Nat), m ≤ L.length ∧ j = .int .i64 m ∧ Hid (Wh w0 wr I K1 sp cd1) ∧ Hid (WhF wo wr I K1 K1) ∧ Hid (Box wr go 39 #[.slice A1 o.atoms.length c1, .slice A2 o.funs.length c2, .slice A3 o.preds.length c3, .slice (some ⟨b, off, none⟩) o.code.length c4]) ∧ Hid (Box wr gi 52 (argC op (midA F G m)).toArray) ∧ Hid (0 < L.length → pl = some ⟨gl, 0, none⟩ ∧ Box wr gl 3 (L.map (Value.int .i64)).toArray)) (fun _ _ j _ => L.length - (intOf j).toNat)
 case atStart => exact ⟨0, by omega, rfl, HK6, HF6, X6, Y6, L6⟩
 obtain ⟨m, hmL, rfl, HK, HF, X, Y, HL⟩ := hrel
 clear HK6 HF6 X6 Y6 L6
 by_cases hlm : m < L.length
 case pos =>
  obtain ⟨rfl, hbl⟩ := HL.out (by omega)
  have hkd : wr.cell? ⟨gl, m, none⟩ = some (.int .i64 (L.getD m 0)) := by rw [hbl.cell m]; simp [hlm]
  have HOP := Lib.hid (HOPC.out m hlm)
  have HGA : Hid ((argC op (midA F G m)).toArray[1 + m]? = some (.int .i64 (G m))) := Lib.hid (by rw [argC_at op _ m (by omega)]; simp [midA])
  have HGS := Lib.hid (argC_step op F G m (by omega))
  have HL : Hid (0 < L.length → (some ⟨gl, 0, none⟩ : Option Addr) = some ⟨gl, 0, none⟩ ∧ Box wr gl 3 (L.map (Value.int .i64)).toArray) := Lib.hid (fun h => ⟨by trivial, hbl⟩)
  have hm4 : (m : Int) < 4 := by omega
  have hm0 : (0 : Int) ≤ (m : Int) := by omega
  have o0 := X.out.cell 0
  have o1 := X.out.cell 1
  have o2 := X.out.cell 2
  have o3 := X.out.cell 3
  have yz := Y.out.cell (1 + m)
  rw [HGA.out] at yz
  clear hbl
  generalize L.getD m 0 = kd at hkd HOP
  generalize G m = zm at yz HGA HOP
  go_upto_region 14 with (fail)
  refine wp_region_noPanic ?_
  refine wp_region_T 11 (fun w' => w'.cell? ⟨go, 0, none⟩ = some (.slice A1 o.atoms.length c1) ∧ w'.cell? ⟨go, 1, none⟩ = some (.slice A2 o.funs.length c2) ∧ w'.cell? ⟨go, 2, none⟩ = some (.slice A3 o.preds.length c3) ∧ w'.cell? ⟨go, 3, none⟩ = some (.slice (some ⟨b, off, none⟩) o.code.length c4) ∧ w'.cell? ⟨gi, 1 + m, none⟩ = some (.int .i64 zm)) (by kernel_rfl) ?_ (fun hHeld => ?_)
  ·exact ⟨o0, o1, o2, o3, yz⟩
  have HK2 := Lib.hid (HK.out.drewN 1)
  have HF2 := Lib.hid (HF.out.drewN 1)
  have X2 := Lib.hid (X.out.drewN 1)
  have Y2 := Lib.hid (Y.out.drewN 1)
  have L2 : Hid (0 < L.length → (some ⟨gl, 0, none⟩ : Option Addr) = some ⟨gl, 0, none⟩ ∧ Box (wr.drewN 1) gl 3 (L.map (Value.int .i64)).toArray) := Lib.hid (fun h => ⟨(HL.out h).1, (HL.out h).2.drewN 1⟩)
  change wpAnyT _ _ _ _ _ _ _ _ _ (wr.drewN 1)
  replace hHeld : (wr.drewN 1).cell? ⟨go, 0, none⟩ = some (.slice A1 o.atoms.length c1) ∧ (wr.drewN 1).cell? ⟨go, 1, none⟩ = some (.slice A2 o.funs.length c2) ∧ (wr.drewN 1).cell? ⟨go, 2, none⟩ = some (.slice A3 o.preds.length c3) ∧ (wr.drewN 1).cell? ⟨go, 3, none⟩ = some (.slice (some ⟨b, off, none⟩) o.code.length c4) ∧ (wr.drewN 1).cell? ⟨gi, 1 + m, none⟩ = some (.int .i64 zm) := hHeld
  generalize wr.drewN 1 = w2 at HK2 HF2 X2 Y2 L2 hHeld ⊢
  refine tP (i := 0) (v := ?_) rfl ?_ ?_
  rotate_left
  ·(intro w hSw; (try dsimp only at hSw); go_simp; try with_reducible rfl)
  try simp only [qA, qB, qC, Act.put, qD, qE, qF]
  refine tP (i := 1) (v := ?_) rfl ?_ ?_
  rotate_left
  ·(intro w hSw; (try dsimp only at hSw); go_simp; try with_reducible rfl)
  try simp only [qA, qB, qC, Act.put, qD, qE, qF]
  refine tS (i := 2) (v := ?_) rfl ?_ hHeld ?_
  rotate_left
  ·(intro w hSw; (try dsimp only at hSw); go_simp; try with_reducible rfl)
  try simp only [qA, qB, qC, Act.put, qD, qE, qF]
  refine tP (i := 3) (v := ?_) rfl ?_ ?_
  rotate_left
  ·(intro w hSw; (try dsimp only at hSw); go_simp; try with_reducible rfl)
  try simp only [qA, qB, qC, Act.put, qD, qE, qF]
  refine tP (i := 4) (v := ?_) rfl ?_ ?_
  rotate_left
  ·(intro w hSw; (try dsimp only at hSw); go_simp; try with_reducible rfl)
  try simp only [qA, qB, qC, Act.put, qD, qE, qF]
  refine tP (i := 5) (v := ?_) rfl ?_ ?_
  rotate_left
  ·(intro w hSw; (try dsimp only at hSw); go_simp; try with_reducible rfl)
  try simp only [qA, qB, qC, Act.put, qD, qE, qF]
  refine tP (i := 6) (v := ?_) rfl ?_ ?_
  rotate_left
  ·(intro w hSw; (try dsimp only at hSw); go_simp; try with_reducible rfl)
  try simp only [qA, qB, qC, Act.put, qD, qE, qF]
  refine tP (i := 7) (v := ?_) rfl ?_ ?_
  rotate_left
  ·(intro w hSw; (try dsimp only at hSw); go_simp; try with_reducible rfl)
  try simp only [qA, qB, qC, Act.put, qD, qE, qF]
  refine tS (i := 8) (v := ?_) rfl ?_ hHeld ?_
  rotate_left
  ·(intro w hSw; (try dsimp only at hSw); go_simp; try with_reducible rfl)
  try simp only [qA, qB, qC, Act.put, qD, qE, qF]
  refine tP (i := 10) (v := ?_) rfl ?_ ?_
  rotate_left
  ·(intro w hSw; (try dsimp only at hSw); go_simp; try with_reducible rfl)
  try simp only [qA, qB, qC, Act.put, qD, qE, qF]
  refine wpAnyT_ready (rs := [9]) (by kernel_rfl) (by simp) ?_
  refine AllT.cons (o := _) rfl (fun K hK => ?_) AllT.nil
  go_simp
  go_at_call 56; refine (HOP.out w2 HK2.out).mono ?_; rintro e3 w3 ⟨rfl, hb3⟩; have HK3 := Lib.hid (HK2.out.up hb3); have HF3 := Lib.hid (HF2.out.trans (WhF.below hb3)); have X3 := Lib.hid (X2.out.below hb3 X2.out.lt); have Y3 := Lib.hid (Y2.out.below hb3 Y2.out.lt); have L3 : Hid (0 < L.length → (some ⟨gl, 0, none⟩ : Option Addr) = some ⟨gl, 0, none⟩ ∧ Box w3 gl 3 (L.map (Value.int .i64)).toArray) := Lib.hid (fun h => ⟨(L2.out h).1, (L2.out h).2.below hb3 (L2.out h).2.lt⟩); have z0 := Y3.out.cell (1 + m); have z1 := Y3.out.frozen (1 + m); rw [HGA.out] at z0; have HY4 := Lib.hid (Y3.out.set_ (1 + m) (.int .i64 (F m))); rw [HGS.out] at HY4; have HK4 := Lib.hid (HK3.out.far (p := ⟨gi, 1 + m, none⟩) AY.out (.int .i64 (F m))); have HF4 := Lib.hid (HF3.out.far (p := ⟨gi, 1 + m, none⟩) HGI.out (.int .i64 (F m))); have X4 := Lib.hid (X3.out.far (p := ⟨gi, 1 + m, none⟩) HNE.out (.int .i64 (F m))); have L4 : Hid (0 < L.length → (some ⟨gl, 0, none⟩ : Option Addr) = some ⟨gl, 0, none⟩ ∧ Box (w3.setCell ⟨gi, 1 + m, none⟩ (.int .i64 (F m))) gl 3 (L.map (Value.int .i64)).toArray) := Lib.hid (fun h => ⟨(L3.out h).1, (L3.out h).2.far (p := ⟨gi, 1 + m, none⟩) (fun e => HNL.out h e) _⟩); clear hb3
  refine hK.out _ _ (fun _ => ?_) (fun hHeld2 => ?_)
  ·exact ⟨X3.out.cell 0, X3.out.cell 1, X3.out.cell 2, X3.out.cell 3, z0⟩
  replace hHeld := hHeld2 (by decide)
  clear hHeld2 hK K
  try simp only [qA, qB, qC, Act.put, qD, qE, qF]
  refine tP (i := 11) (v := ?_) rfl ?_ ?_
  rotate_left
  ·(intro w hSw; (try dsimp only at hSw); go_simp; try with_reducible rfl)
  try simp only [qA, qB, qC, Act.put, qD, qE, qF]
  refine wpAnyT_ready (rs := [12]) (by kernel_rfl) (by simp) ?_
  refine AllT.cons (o := _) rfl (fun K hK => ?_) AllT.nil
  go_simp
  refine hK.out _ _ (fun h => absurd h (by decide)) (fun _ => ?_)
  clear hK K
  try simp only [qA, qB, qC, Act.put, qD, qE, qF]
  refine wpAnyT_done (by kernel_rfl) (NoPanic.normal ?_) _
  go_wp2
  go_roundw
  case rel => exact ⟨m + 1, by omega, by go_num, HK4, HF4, X4, HY4, Lib.hid (fun h => ⟨by trivial, (L4.out h).2⟩)⟩
  case measure => simp [intOf]; omega
 case neg =>
 obtain rfl : m = L.length := by omega
 obtain ⟨p0, b0, b1, b2, b3⟩ := i'
 have Y : Hid (Box wr gi 52 #[.int .i64 p0, .int .i64 b0, .int .i64 b1, .int .i64 b2, .int .i64 b3]) := Lib.hid (by have h := Y.out; rw [HAE.out] at h; exact h)
 obtain ⟨va1, vf1, vp1, vc1, vh1, vb1⟩ := K1
 obtain ⟨A0, c0, hvc, _⟩ := own_form HK.out.r.rc
 simp only at hvc
 subst hvc
 have q3 := HK.out.box.cell 3
 have y0 := Y.out.cell 0
 have y1 := Y.out.cell 1
 have y2 := Y.out.cell 2
 have y3 := Y.out.cell 3
 have y4 := Y.out.cell 4
 have AX : Hid (Apart I ⟨va1, vf1, vp1, .slice A0 cd1.length c0, vh1, vb1⟩ go) := Lib.hid AX5.out
 go_upto_region 16 with (fail)
 refine wp_region_noPanic ?_
 refine wp_region_T 9 (fun w' => w'.cell? ⟨I.g, 3, none⟩ = some (.slice A0 cd1.length c0) ∧ w'.cell? ⟨gi, 0, none⟩ = some (.int .i64 p0) ∧ w'.cell? ⟨gi, 1, none⟩ = some (.int .i64 b0) ∧ w'.cell? ⟨gi, 2, none⟩ = some (.int .i64 b1) ∧ w'.cell? ⟨gi, 3, none⟩ = some (.int .i64 b2) ∧ w'.cell? ⟨gi, 4, none⟩ = some (.int .i64 b3)) (by kernel_rfl) ?_ (fun hHeld => ?_)
 ·exact ⟨q3, y0, y1, y2, y3, y4⟩
 have HK2 := Lib.hid (HK.out.drewN 1)
 have HF2 := Lib.hid (HF.out.drewN 1)
 have X2 := Lib.hid (X.out.drewN 1)
 have Y2 := Lib.hid (Y.out.drewN 1)
 change wpAnyT _ _ _ _ _ _ _ _ _ (wr.drewN 1)
 replace hHeld : (wr.drewN 1).cell? ⟨I.g, 3, none⟩ = some (.slice A0 cd1.length c0) ∧ (wr.drewN 1).cell? ⟨gi, 0, none⟩ = some (.int .i64 p0) ∧ (wr.drewN 1).cell? ⟨gi, 1, none⟩ = some (.int .i64 b0) ∧ (wr.drewN 1).cell? ⟨gi, 2, none⟩ = some (.int .i64 b1) ∧ (wr.drewN 1).cell? ⟨gi, 3, none⟩ = some (.int .i64 b2) ∧ (wr.drewN 1).cell? ⟨gi, 4, none⟩ = some (.int .i64 b3) := hHeld
 generalize wr.drewN 1 = w2 at HK2 HF2 X2 Y2 hHeld ⊢
 obtain ⟨v6, w6, hr6, HA6⟩ := app_one slInsM HK2.out.r.rc [.int .i64 p0, .int .i64 b0, .int .i64 b1, .int .i64 b2, .int .i64 b3] rfl (by intro u hu; simp only [List.mem_cons, List.not_mem_nil, or_false] at hu; rcases hu with rfl | rfl | rfl | rfl | rfl <;> rfl) hcdl HK2.out.r.below.size 37
 obtain ⟨A6, c6, hv6⟩ := HA6.out.form
 subst hv6
 have HA7 := HA6.out
 have ha7 : App w2 w6 w0.heap.size 52 5 (.slice A0 cd1.length c0) (.slice A6 (cd1.length + 1) c6) (cd1.length + 1) (cd1.flatMap insC ++ insC (p0, b0, b1, b2, b3)) := HA6.out
 obtain ⟨hk4, hf4, z0, z1⟩ := HK2.out.putc ha7
 have HK4 := Lib.hid hk4
 have HF4 := Lib.hid (HF2.out.trans hf4)
 have X4 := Lib.hid (hf4.keep X2.out AX.out).1
 have HR6 := Lib.hid hr6
 have Y6 := Lib.hid (Y2.out.fr (S := fun b => (Value.slice A0 cd1.length c0).ownBlock = some b) ha7.fr (fun e => AY.out.1.2.2.2.2 (.inr (.inr (.inr (.inl e))))))
 clear hk4 hf4 hr6 HA6 HA7 ha7
 refine tP (i := 0) (v := ?_) rfl ?_ ?_
 rotate_left
 ·(intro w hSw; (try dsimp only at hSw); go_simp; try with_reducible rfl)
 try simp only [qA, qB, qC, Act.put, qD, qE, qF]
 refine tP (i := 1) (v := ?_) rfl ?_ ?_
 rotate_left
 ·(intro w hSw; (try dsimp only at hSw); go_simp; try with_reducible rfl)
 try simp only [qA, qB, qC, Act.put, qD, qE, qF]
 refine tP (i := 2) (v := ?_) rfl ?_ ?_
 rotate_left
 ·(intro w hSw; (try dsimp only at hSw); go_simp; try with_reducible rfl)
 try simp only [qA, qB, qC, Act.put, qD, qE, qF]
 refine tP (i := 3) (v := ?_) rfl ?_ ?_
 rotate_left
 ·(intro w hSw; (try dsimp only at hSw); go_simp; try with_reducible rfl)
 try simp only [qA, qB, qC, Act.put, qD, qE, qF]
 refine tP (i := 4) (v := ?_) rfl ?_ ?_
 rotate_left
 ·(intro w hSw; (try dsimp only at hSw); go_simp; try with_reducible rfl)
 try simp only [qA, qB, qC, Act.put, qD, qE, qF]
 refine tS (i := 5) (v := ?_) rfl ?_ hHeld ?_
 rotate_left
 ·(intro w hSw; (try dsimp only at hSw); go_simp; try with_reducible rfl)
 try simp only [qA, qB, qC, Act.put, qD, qE, qF]
 refine tS (i := 6) (v := ?_) rfl ?_ hHeld ?_
 rotate_left
 ·(intro w hSw; (try dsimp only at hSw); go_simp; try with_reducible rfl)
 try simp only [qA, qB, qC, Act.put, qD, qE, qF]
 refine wpAnyT_ready (rs := [7]) (by kernel_rfl) (by simp) ?_
 refine AllT.cons (o := _) rfl (fun K hK => ?_) AllT.nil
 go_simp
 refine hK.out _ _ (fun _ => ?_) (fun hHeld2 => ?_)
 ·exact ⟨(HK2.out.alloc _).box.cell 3, (Y2.out.alloc _).cell 0, (Y2.out.alloc _).cell 1, (Y2.out.alloc _).cell 2, (Y2.out.alloc _).cell 3, (Y2.out.alloc _).cell 4⟩
 replace hHeld := hHeld2 (by decide)
 clear hHeld2 hK K
 try simp only [qA, qB, qC, Act.put, qD, qE, qF]
 refine wpAnyT_ready (rs := [8]) (by kernel_rfl) (by simp) ?_
 refine AllT.cons (o := _) rfl (fun K hK => ?_) AllT.nil
 refine step_of_append HR6.out rfl _ _ rfl rfl rfl ?_
 refine hK.out _ _ (fun _ => ?_) (fun hHeld2 => ?_)
 ·exact ⟨z0, Y6.out.cell 0, Y6.out.cell 1, Y6.out.cell 2, Y6.out.cell 3, Y6.out.cell 4⟩
 replace hHeld := hHeld2 (by decide)
 clear hHeld2 hK K
 try simp only [qA, qB, qC, Act.put, qD, qE, qF]
 refine tP (i := 9) (v := ?_) rfl ?_ ?_
 rotate_left
 ·(intro w hSw; (try dsimp only at hSw); go_simp; try with_reducible rfl)
 try simp only [qA, qB, qC, Act.put, qD, qE, qF]
 refine tP (i := 10) (v := ?_) rfl ?_ ?_
 rotate_left
 ·(intro w hSw; (try dsimp only at hSw); go_simp; try with_reducible rfl)
 try simp only [qA, qB, qC, Act.put, qD, qE, qF]
 refine tP (i := 11) (v := ?_) rfl ?_ ?_
 rotate_left
 ·(intro w hSw; (try dsimp only at hSw); go_simp; try with_reducible rfl)
 try simp only [qA, qB, qC, Act.put, qD, qE, qF]
 refine wpAnyT_ready (rs := [12]) (by kernel_rfl) (by simp) ?_
 refine AllT.cons (o := _) rfl (fun K hK => ?_) AllT.nil
 go_simp
 refine hK.out _ _ (fun h => absurd h (by decide)) (fun _ => ?_)
 clear hK K
 try simp only [qA, qB, qC, Act.put, qD, qE, qF]
 refine wpAnyT_done (by kernel_rfl) (NoPanic.normal ?_) _
 go_wp2
 go_roundw
 case rel => first | exact ⟨k + 1, _, by omega, by go_num, Lib.hid (by rw [HS2.out]; exact HK4.out), Lib.hid (HFo.out.trans HF4.out), X4⟩ | ((repeat apply Exists.intro); exact ⟨⟨k + 1, _, by omega, by go_num, Lib.hid (by rw [HS2.out]; exact HK4.out), Lib.hid (HFo.out.trans HF4.out), X4⟩, rfl⟩)
 case measure => simp [intOf]; omega
end Go.Proofs.YtclkdlegogjnbaaGreatDoor
