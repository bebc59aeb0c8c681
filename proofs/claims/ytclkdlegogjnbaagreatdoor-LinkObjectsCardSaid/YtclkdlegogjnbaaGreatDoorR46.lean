/-
 The document's join (walk). Conditions: with the other object nothing is wrong, the whole's tables are no longer than 100000.
-/
import Derived.Test.YtclkdlegogjnbaaGreatDoorR45
import Derived.Test.YtclkdlegogjnbaaGreatDoorR37
import Derived.Test.YtclkdlegogjnbaaGreatDoorR28
namespace Go.Proofs.YtclkdlegogjnbaaGreatDoor
open Go Go.RowKit Go.WideShapes Go.ChangeShapes
set_option linter.unusedVariables false
set_option linter.unusedSimpArgs false
set_option maxRecDepth 100000 in
set_option maxHeartbeats 32000000 in
theorem join_any (o x : Ob) (hx : checkOf x = 0) (hs : o.atoms.length ≤ 100000 ∧ o.funs.length ≤ 100000 ∧ o.preds.length ≤ 100000 ∧ o.code.length ≤ 100000) (va vf vp vc ua uf up uc : Value) (S : Nat → Prop) (w : World) (hS : ∀ k, S k → k < w.heap.size) (hv : ∀ W : World, Fr S w W → ObAt W va vf vp vc o) (hu : ObAt w ua uf up uc x) :
  Calls Tryz.prog 28 #[.agg #[va, vf, vp, vc], .agg #[ua, uf, up, uc]] w (JoinW S w (joinJ o x)) := by
 have HS0 := Lib.hid hS
 clear hS
 have hv0 := hv w (Fr.refl S w)
 obtain ⟨A1, c1, rfl⟩ := CellsAt.form hv0.atoms
 obtain ⟨A2, c2, rfl⟩ := CellsAt.form hv0.funs
 obtain ⟨A3, c3, rfl⟩ := CellsAt.form hv0.preds
 obtain ⟨A4, c4, rfl⟩ := CellsAt.form hv0.code
 clear hv0
 obtain ⟨B1, e1, rfl⟩ := CellsAt.form hu.atoms
 obtain ⟨B2, e2, rfl⟩ := CellsAt.form hu.funs
 obtain ⟨B3, e3, rfl⟩ := CellsAt.form hu.preds
 obtain ⟨B4, e4, rfl⟩ := CellsAt.form hu.code
 have HU := Lib.hid hu
 have HENT := Lib.hid (ents_of hx)
 have HOPS := Lib.hid (ops_of hx)
 have hxl := (check_parts hx).1
 have HK := Lib.hid (jn_start S w hv #[.slice B1 x.atoms.length e1, .slice B2 x.funs.length e2, .slice B3 x.preds.length e3, .slice B4 x.code.length e4])
 obtain ⟨r, hr⟩ : ∃ r, joinJ o x = r := ⟨_, rfl⟩
 rw [hr]
 have HR := Lib.hid hr
 clear hv hu hx hr
 go_enter Tryz.func28, Tryz.ntmps28
 go_upto_region 1 with (fail)
 obtain ⟨w1, hw1⟩ : ∃ w1, ((w.alloc (.cells #[.slice A1 o.atoms.length c1, .slice A2 o.funs.length c2, .slice A3 o.preds.length c3, .slice A4 o.code.length c4] 29)).alloc (.cells #[.slice B1 x.atoms.length e1, .slice B2 x.funs.length e2, .slice B3 x.preds.length e3, .slice B4 x.code.length e4] 29)).alloc (.cells #[.slice none 0 0, .slice none 0 0, .slice none 0 0, .slice none 0 0] 29) = w1 := ⟨_, rfl⟩
 rw [hw1] at HK ⊢
 clear hw1
 obtain ⟨I, hI⟩ : ∃ I : JI, (⟨w.heap.size, w.heap.size + 1, w.heap.size + 1 + 1⟩ : JI) = I := ⟨_, rfl⟩
 rw [hI] at HK
 rw [show w.heap.size = I.g by rw [← hI], show I.g + 1 = I.x by rw [← hI], show I.x + 1 = I.z by rw [← hI]]
 clear hI
 have q3 := HK.out.box.cell 3
 obtain ⟨base, hbase⟩ : ∃ base : Int, (o.code.length : Int) = base := ⟨_, rfl⟩
 have hb0 : 0 ≤ base ∧ base ≤ 100000 := by omega
 have HBASE := Lib.hid hbase
 go_upto_region 2 with (fail)
 clear hbase q3
 go_wp2
 have R0 : Hid (Jn S w w1 I #[.slice B1 x.atoms.length e1, .slice B2 x.funs.length e2, .slice B3 x.preds.length e3, .slice B4 x.code.length e4] (.slice A1 o.atoms.length c1) (.slice A2 o.funs.length c2) (.slice A3 o.preds.length c3) (.slice A4 o.code.length c4) { o with atoms := (x.atoms.take 0).foldl addTo o.atoms }) := Lib.hid HK.out
 clear HK
 go_loopw [7] (fun i wr => ∃ (k : Nat) (u : Value), k ≤ x.atoms.length ∧ i = .int .i64 k ∧ Hid (Jn S w wr I #[.slice B1 x.atoms.length e1, .slice B2 x.funs.length e2, .slice B3 x.preds.length e3, .slice B4 x.code.length e4] u (.slice A2 o.funs.length c2) (.slice A3 o.preds.length c3) (.slice A4 o.code.length c4) { o with atoms := (x.atoms.take k).foldl addTo o.atoms })) (fun i _ => x.atoms.length - (intOf i).toNat)
 case atStart => exact ⟨0, _, by omega, rfl, R0⟩
 obtain ⟨k, u, hkl, rfl, HK⟩ := hrel
 clear R0
 have x0 := HK.out.bx.cell 0
 by_cases hlt : k < x.atoms.length
 case pos =>
  obtain ⟨b, off, rfl, hb, hc⟩ := atomCell HU.out.atoms k hlt
  have d0 := (HK.out.below.cell (p := ⟨b, off + k, none⟩) hb).trans hc
  have HADD := Lib.hid (addAll_take x.atoms o.atoms k hlt)
  have hcur : ((x.atoms.take k).foldl addTo o.atoms).length ≤ 200000 := by
   have := addAll_len (x.atoms.take k) o.atoms
   rw [List.length_take] at this
   omega
  have i1 : (k : Int) < (x.atoms.length : Int) := by omega
  have i2 : (0 : Int) ≤ (k : Int) := by omega
  generalize (x.atoms.take k).foldl addTo o.atoms = cur at HK HADD hcur
  generalize x.atoms[k] = s at d0 HADD hc
  have HC0 := Lib.hid hc
  obtain ⟨A0, c0, hu0⟩ := CellsAt.form HK.out.at_.atoms
  simp only at hu0
  subst hu0
  have q0 := HK.out.box.cell 0
  have HAT := Lib.hid (fun nq => ratom_any cur (by omega) (.slice A0 cur.length c0) s (wr.drewN nq) (HK.out.drewN nq).at_.atoms)
  have HSM : Hid (cur.length ≤ 1000000) := Lib.hid (by omega)
  by_cases hin : s ∈ cur
  ·have hi : idxI cur s = (placeOf cur s : Nat) := if_pos hin
   rw [hi] at HAT
   rw [addTo_yes hin] at HADD
   generalize placeOf cur s = pl at HAT
   clear hin hi hc hb
   go_upto_region 5 with (fail)
   go_quiet ((go_at_call 61; exact Calls.quiet_of_same ((HAT.out _).mono fun _ _ h => ⟨h.1, h.2.symm⟩)))
   go_wp2
   go_roundw
   case rel => exact ⟨k + 1, _, by omega, by go_num, Lib.hid (by rw [HADD.out]; exact HK.out.drewN _)⟩
   case measure => simp [intOf]; omega
  ·have hi : idxI cur s = -1 := if_neg hin
   rw [hi] at HAT
   rw [addTo_no hin] at HADD
   clear hin hi hc
   go_upto_region 5 with (fail)
   go_quiet ((go_at_call 61; exact Calls.quiet_of_same ((HAT.out _).mono fun _ _ h => ⟨h.1, h.2.symm⟩)))
   obtain ⟨w5, hw5⟩ : ∃ w5, wr.drewN nq = w5 := ⟨_, rfl⟩
   have HK5 := Lib.hid (HK.out.drewN nq)
   rw [hw5] at HK5 ⊢
   clear hw5 q0 x0 d0 HK HAT
   have HS : Hid (∀ W : World, Below w5.heap.size w5 W → (fun w' => w'.cell? ⟨I.g, 0, none⟩ = some (.slice A0 cur.length c0) ∧ w'.cell? ⟨I.x, 0, none⟩ = some (.slice (some ⟨b, off, none⟩) x.atoms.length e1) ∧ w'.cell? ⟨b, off + k, none⟩ = some (.string s)) W) := Lib.hid (fun W hb' => ⟨(HK5.out.up hb').box.cell 0, (HK5.out.up hb').bx.cell 0, ((HK5.out.up hb').below.cell (p := ⟨b, off + k, none⟩) hb).trans HC0.out⟩)
   go_upto_region 6 with (fail)
   refine wp_region_noPanic ?_
   refine wp_region_T 12 (fun w' => w'.cell? ⟨I.g, 0, none⟩ = some (.slice A0 cur.length c0) ∧ w'.cell? ⟨I.x, 0, none⟩ = some (.slice (some ⟨b, off, none⟩) x.atoms.length e1) ∧ w'.cell? ⟨b, off + k, none⟩ = some (.string s)) (by kernel_rfl) ?_ (fun hHeld => ?_)
   ·exact HS.out _ ⟨rfl, rfl, rfl, Nat.le_refl _, fun _ _ => rfl⟩
   change wpAnyT _ _ _ _ _ _ _ _ _ (w5.drewN 1)
   replace hHeld : (w5.drewN 1).cell? ⟨I.g, 0, none⟩ = some (.slice A0 cur.length c0) ∧ (w5.drewN 1).cell? ⟨I.x, 0, none⟩ = some (.slice (some ⟨b, off, none⟩) x.atoms.length e1) ∧ (w5.drewN 1).cell? ⟨b, off + k, none⟩ = some (.string s) := hHeld
   have HBd : Hid (Below w5.heap.size w5 (w5.drewN 1)) := Lib.hid ⟨rfl, rfl, rfl, Nat.le_refl _, fun _ _ => rfl⟩
   have HK2 := Lib.hid (HK5.out.drewN 1)
   generalize w5.drewN 1 = w2 at HBd hHeld HK2 ⊢
   have HS2 : Hid (∀ W : World, Below w2.heap.size w2 W → (fun w' => w'.cell? ⟨I.g, 0, none⟩ = some (.slice A0 cur.length c0) ∧ w'.cell? ⟨I.x, 0, none⟩ = some (.slice (some ⟨b, off, none⟩) x.atoms.length e1) ∧ w'.cell? ⟨b, off + k, none⟩ = some (.string s)) W) := Lib.hid (fun W hb => HS.out W (HBd.out.trans (hb.mono HBd.out.size)))
   have HROW := Lib.hid HK2.out.at_.atoms
   refine tP (i := 1) (v := ?_) rfl ?_ ?_
   rotate_left
   ·(intro w hSw; (try dsimp only at hSw); go_simp; try with_reducible rfl)
   try simp only [qA, qB, qC, Act.put, qD, qE, qF]
   refine tS (i := 2) (v := ?_) rfl ?_ hHeld ?_
   rotate_left
   ·(intro w hSw; (try dsimp only at hSw); go_simp; try with_reducible rfl)
   try simp only [qA, qB, qC, Act.put, qD, qE, qF]
   refine tP (i := 4) (v := ?_) rfl ?_ ?_
   rotate_left
   ·(intro w hSw; (try dsimp only at hSw); go_simp; try with_reducible rfl)
   try simp only [qA, qB, qC, Act.put, qD, qE, qF]
   refine tS (i := 5) (v := ?_) rfl ?_ hHeld ?_
   rotate_left
   ·(intro w hSw; (try dsimp only at hSw); go_simp; try with_reducible rfl)
   try simp only [qA, qB, qC, Act.put, qD, qE, qF]
   refine tP (i := 6) (v := ?_) rfl ?_ ?_
   rotate_left
   ·(intro w hSw; (try dsimp only at hSw); go_simp; try with_reducible rfl)
   try simp only [qA, qB, qC, Act.put, qD, qE, qF]
   refine tP (i := 7) (v := ?_) rfl ?_ ?_
   rotate_left
   ·(intro w hSw; (try dsimp only at hSw); go_simp; try with_reducible rfl)
   try simp only [qA, qB, qC, Act.put, qD, qE, qF]
   refine tS (i := 8) (v := ?_) rfl ?_ hHeld ?_
   rotate_left
   ·(intro w hSw; (try dsimp only at hSw); go_simp; try with_reducible rfl)
   try simp only [qA, qB, qC, Act.put, qD, qE, qF]
   refine wpAnyT_ready (rs := [0, 9]) (by kernel_rfl) (by simp) ?_
   refine AllT.cons (o := _) rfl (fun K hK => ?_) ?_
   ·go_simp
    refine hK.out _ _ (fun _ => ?_) (fun hHeld2 => ?_)
    ·exact HS2.out _ (alloc_below w2 _)
    replace hHeld := hHeld2 (by decide)
    clear hHeld2 hK K
    try simp only [qA, qB, qC, Act.put, qD, qE, qF]
    refine wpAnyT_ready (rs := [3, 9]) (by kernel_rfl) (by simp) ?_
    refine AllT.cons (o := _) rfl (fun K hK => ?_) ?_
    ·obtain ⟨A6, c6, w6, hr6, h6⟩ := first_app slStr (alloc_below w2 (.cells #[] 9)) (empty_new w2 9 1) (Nat.le_refl _) (CellsAt.below HROW.out (alloc_below w2 (.cells #[] 9))) (by simp) (cells_strs _) HSM.out 24
     have HR6 := Lib.hid hr6
     clear hr6
     refine step_of_append HR6.out rfl _ _ rfl rfl rfl ?_
     refine hK.out _ _ (fun _ => ?_) (fun hHeld2 => ?_)
     ·exact HS2.out _ h6.out.2.1
     replace hHeld := hHeld2 (by decide)
     clear hHeld2 hK K
     try simp only [qA, qB, qC, Act.put, qD, qE, qF]
     refine wpAnyT_ready (rs := [9]) (by kernel_rfl) (by simp) ?_
     refine AllT.cons (o := _) rfl (fun K hK => ?_) AllT.nil
     go_simp
     refine hK.out _ _ (fun _ => ?_) (fun hHeld2 => ?_)
     ·exact HS2.out _ (h6.out.2.1.alloc h6.out.2.1.size _)
     replace hHeld := hHeld2 (by decide)
     clear hHeld2 hK K
     try simp only [qA, qB, qC, Act.put, qD, qE, qF]
     refine wpAnyT_ready (rs := [10]) (by kernel_rfl) (by simp) ?_
     refine AllT.cons (o := _) rfl (fun K hK => ?_) AllT.nil
     obtain ⟨A7, c7, w7, hr7, h7⟩ := second_app slStr (own_fr (S := fun _ => False) h6.out.1 ((Fr.refl _ w6).alloc (.cells #[.string s] 9)) (fun _ _ x => x)) (h6.out.2.1.alloc h6.out.2.1.size _) [.string s] (Box.new w6 9 #[.string s]) rfl (by intro u hu; simp only [List.mem_cons, List.not_mem_nil, or_false] at hu; rcases hu with rfl <;> rfl) HSM.out 24
     have HR7 := Lib.hid hr7
     clear hr7
     refine step_of_append HR7.out rfl _ _ rfl rfl rfl ?_
     refine hK.out _ _ (fun _ => ?_) (fun hHeld2 => ?_)
     ·exact HS2.out _ h7.out.2
     replace hHeld := hHeld2 (by decide)
     clear hHeld2 hK K
     try simp only [qA, qB, qC, Act.put, qD, qE, qF]
     refine tP (i := 11) (v := ?_) rfl ?_ ?_
     rotate_left
     ·(intro w hSw; (try dsimp only at hSw); go_simp; try with_reducible rfl)
     try simp only [qA, qB, qC, Act.put, qD, qE, qF]
     refine wpAnyT_ready (rs := [12]) (by kernel_rfl) (by simp) ?_
     refine AllT.cons (o := _) rfl (fun K hK => ?_) AllT.nil
     have z0 := (HK2.out.up h7.out.2).box.cell 0
     have z1 := (HK2.out.up h7.out.2).box.frozen 0
     go_simp
     refine hK.out _ _ (fun h => absurd h (by decide)) (fun _ => ?_)
     clear hK K
     try simp only [qA, qB, qC, Act.put, qD, qE, qF]
     refine wpAnyT_done (by kernel_rfl) (NoPanic.normal ?_) _
     go_wp2
     go_roundw
     case rel => exact ⟨k + 1, _, by omega, by go_num, Lib.hid (by rw [HADD.out]; exact (HK2.out.up h7.out.2).puta (l := cur ++ [s]) (grown_own h7.out.1 HK2.out.below.size (by simp) (by simp)))⟩
     case measure => simp [intOf]; omega
    refine AllT.cons (o := _) rfl (fun K hK => ?_) ?_
    ·go_simp
     refine hK.out _ _ (fun _ => ?_) (fun hHeld2 => ?_)
     ·exact HS2.out _ (two_below w2 _ _)
     replace hHeld := hHeld2 (by decide)
     clear hHeld2 hK K
     try simp only [qA, qB, qC, Act.put, qD, qE, qF]
     refine wpAnyT_ready (rs := [3]) (by kernel_rfl) (by simp) ?_
     refine AllT.cons (o := _) rfl (fun K hK => ?_) AllT.nil
     obtain ⟨A6, c6, w6, hr6, h6⟩ := first_app slStr (two_below w2 (.cells #[] 9) (.cells #[.string s] 9)) (own_fr (S := fun _ => False) (empty_new w2 9 1) ((Fr.refl _ _).alloc (.cells #[.string s] 9)) (fun _ _ x => x)) (Nat.le_refl _) (CellsAt.below HROW.out (two_below w2 (.cells #[] 9) (.cells #[.string s] 9))) (by simp) (cells_strs _) HSM.out 24
     have HR6 := Lib.hid hr6
     clear hr6
     refine step_of_append HR6.out rfl _ _ rfl rfl rfl ?_
     refine hK.out _ _ (fun _ => ?_) (fun hHeld2 => ?_)
     ·exact HS2.out _ h6.out.2.1
     replace hHeld := hHeld2 (by decide)
     clear hHeld2 hK K
     try simp only [qA, qB, qC, Act.put, qD, qE, qF]
     refine wpAnyT_ready (rs := [10]) (by kernel_rfl) (by simp) ?_
     refine AllT.cons (o := _) rfl (fun K hK => ?_) AllT.nil
     have bx7 := Box.new (w2.alloc (.cells #[] 9)) 9 #[.string s]
     rw [World.size_alloc] at bx7
     obtain ⟨A7, c7, w7, hr7, h7⟩ := second_app slStr h6.out.1 h6.out.2.1 [.string s] (bx7.fr h6.out.2.2 (by omega)) rfl (by intro u hu; simp only [List.mem_cons, List.not_mem_nil, or_false] at hu; rcases hu with rfl <;> rfl) HSM.out 24
     have HR7 := Lib.hid hr7
     clear hr7
     refine step_of_append HR7.out rfl _ _ rfl rfl rfl ?_
     refine hK.out _ _ (fun _ => ?_) (fun hHeld2 => ?_)
     ·exact HS2.out _ h7.out.2
     replace hHeld := hHeld2 (by decide)
     clear hHeld2 hK K
     try simp only [qA, qB, qC, Act.put, qD, qE, qF]
     refine tP (i := 11) (v := ?_) rfl ?_ ?_
     rotate_left
     ·(intro w hSw; (try dsimp only at hSw); go_simp; try with_reducible rfl)
     try simp only [qA, qB, qC, Act.put, qD, qE, qF]
     refine wpAnyT_ready (rs := [12]) (by kernel_rfl) (by simp) ?_
     refine AllT.cons (o := _) rfl (fun K hK => ?_) AllT.nil
     have z0 := (HK2.out.up h7.out.2).box.cell 0
     have z1 := (HK2.out.up h7.out.2).box.frozen 0
     go_simp
     refine hK.out _ _ (fun h => absurd h (by decide)) (fun _ => ?_)
     clear hK K
     try simp only [qA, qB, qC, Act.put, qD, qE, qF]
     refine wpAnyT_done (by kernel_rfl) (NoPanic.normal ?_) _
     go_wp2
     go_roundw
     case rel => exact ⟨k + 1, _, by omega, by go_num, Lib.hid (by rw [HADD.out]; exact (HK2.out.up h7.out.2).puta (l := cur ++ [s]) (grown_own h7.out.1 HK2.out.below.size (by simp) (by simp)))⟩
     case measure => simp [intOf]; omega
    exact AllT.nil
   refine AllT.cons (o := _) rfl (fun K hK => ?_) ?_
   ·go_simp
    refine hK.out _ _ (fun _ => ?_) (fun hHeld2 => ?_)
    ·exact HS2.out _ (alloc_below w2 _)
    replace hHeld := hHeld2 (by decide)
    clear hHeld2 hK K
    try simp only [qA, qB, qC, Act.put, qD, qE, qF]
    refine wpAnyT_ready (rs := [0]) (by kernel_rfl) (by simp) ?_
    refine AllT.cons (o := _) rfl (fun K hK => ?_) AllT.nil
    go_simp
    refine hK.out _ _ (fun _ => ?_) (fun hHeld2 => ?_)
    ·exact HS2.out _ (two_below w2 _ _)
    replace hHeld := hHeld2 (by decide)
    clear hHeld2 hK K
    try simp only [qA, qB, qC, Act.put, qD, qE, qF]
    refine wpAnyT_ready (rs := [3]) (by kernel_rfl) (by simp) ?_
    refine AllT.cons (o := _) rfl (fun K hK => ?_) AllT.nil
    have he7 := empty_new (w2.alloc (.cells #[.string s] 9)) 9 1
    rw [World.size_alloc] at he7
    obtain ⟨A6, c6, w6, hr6, h6⟩ := first_app slStr (two_below w2 (.cells #[.string s] 9) (.cells #[] 9)) (own_more he7 (fun k hk => by simp only [Value.ownBlock, Option.some.injEq] at hk; omega)) (by omega) (CellsAt.below HROW.out (two_below w2 (.cells #[.string s] 9) (.cells #[] 9))) (by simp) (cells_strs _) HSM.out 24
    have HR6 := Lib.hid hr6
    clear hr6
    refine step_of_append HR6.out rfl _ _ rfl rfl rfl ?_
    refine hK.out _ _ (fun _ => ?_) (fun hHeld2 => ?_)
    ·exact HS2.out _ h6.out.2.1
    replace hHeld := hHeld2 (by decide)
    clear hHeld2 hK K
    try simp only [qA, qB, qC, Act.put, qD, qE, qF]
    refine wpAnyT_ready (rs := [10]) (by kernel_rfl) (by simp) ?_
    refine AllT.cons (o := _) rfl (fun K hK => ?_) AllT.nil
    obtain ⟨A7, c7, w7, hr7, h7⟩ := second_app slStr h6.out.1 h6.out.2.1 [.string s] (((Box.new w2 9 #[.string s]).alloc (.cells #[] 9)).fr h6.out.2.2 (by omega)) rfl (by intro u hu; simp only [List.mem_cons, List.not_mem_nil, or_false] at hu; rcases hu with rfl <;> rfl) HSM.out 24
    have HR7 := Lib.hid hr7
    clear hr7
    refine step_of_append HR7.out rfl _ _ rfl rfl rfl ?_
    refine hK.out _ _ (fun _ => ?_) (fun hHeld2 => ?_)
    ·exact HS2.out _ h7.out.2
    replace hHeld := hHeld2 (by decide)
    clear hHeld2 hK K
    try simp only [qA, qB, qC, Act.put, qD, qE, qF]
    refine tP (i := 11) (v := ?_) rfl ?_ ?_
    rotate_left
    ·(intro w hSw; (try dsimp only at hSw); go_simp; try with_reducible rfl)
    try simp only [qA, qB, qC, Act.put, qD, qE, qF]
    refine wpAnyT_ready (rs := [12]) (by kernel_rfl) (by simp) ?_
    refine AllT.cons (o := _) rfl (fun K hK => ?_) AllT.nil
    have z0 := (HK2.out.up h7.out.2).box.cell 0
    have z1 := (HK2.out.up h7.out.2).box.frozen 0
    go_simp
    refine hK.out _ _ (fun h => absurd h (by decide)) (fun _ => ?_)
    clear hK K
    try simp only [qA, qB, qC, Act.put, qD, qE, qF]
    refine wpAnyT_done (by kernel_rfl) (NoPanic.normal ?_) _
    go_wp2
    go_roundw
    case rel => exact ⟨k + 1, _, by omega, by go_num, Lib.hid (by rw [HADD.out]; exact (HK2.out.up h7.out.2).puta (l := cur ++ [s]) (grown_own h7.out.1 HK2.out.below.size (by simp) (by simp)))⟩
    case measure => simp [intOf]; omega
   exact AllT.nil
 case neg =>
 obtain rfl : k = x.atoms.length := by omega
 rw [List.take_length] at HK
 obtain ⟨atoms', hat'⟩ : ∃ a, x.atoms.foldl addTo o.atoms = a := ⟨_, rfl⟩
 rw [hat'] at HK
 have HATO := Lib.hid hat'
 obtain ⟨wa, hwa⟩ : ∃ wa, wr = wa := ⟨_, rfl⟩
 rw [hwa] at HK x0 ⊢
 obtain ⟨ua, hua⟩ : ∃ ua, u = ua := ⟨_, rfl⟩
 rw [hua] at HK
 clear hwa hua hat' hkl hlt
 go_wp2
 clear x0
 have R0 : Hid (Jn S w wa I #[.slice B1 x.atoms.length e1, .slice B2 x.funs.length e2, .slice B3 x.preds.length e3, .slice B4 x.code.length e4] ua (.slice A2 o.funs.length c2) (.slice A3 o.preds.length c3) (.slice A4 o.code.length c4) { o with atoms := atoms', funs := (x.funs.take 0).foldl addTo o.funs }) := Lib.hid HK.out
 clear HK
 go_loopw [8] (fun i wr => ∃ (k : Nat) (u : Value), k ≤ x.funs.length ∧ i = .int .i64 k ∧ Hid (Jn S w wr I #[.slice B1 x.atoms.length e1, .slice B2 x.funs.length e2, .slice B3 x.preds.length e3, .slice B4 x.code.length e4] ua u (.slice A3 o.preds.length c3) (.slice A4 o.code.length c4) { o with atoms := atoms', funs := (x.funs.take k).foldl addTo o.funs })) (fun i _ => x.funs.length - (intOf i).toNat)
 case atStart => exact ⟨0, _, by omega, rfl, R0⟩
 obtain ⟨k, u, hkl, rfl, HK⟩ := hrel
 clear R0
 have x0 := HK.out.bx.cell 1
 by_cases hlt : k < x.funs.length
 case pos =>
  obtain ⟨b, off, rfl, hb, hc0, hc1⟩ := funCell HU.out.funs k hlt
  have HADD := Lib.hid (addAll_take x.funs o.funs k hlt)
  have hcur : ((x.funs.take k).foldl addTo o.funs).length ≤ 200000 := by
   have := addAll_len (x.funs.take k) o.funs
   rw [List.length_take] at this
   omega
  have i1 : (k : Int) < (x.funs.length : Int) := by omega
  have i2 : (0 : Int) ≤ (k : Int) := by omega
  generalize (x.funs.take k).foldl addTo o.funs = cur at HK HADD hcur
  have he : x.funs[k] = (x.funs[k].1, x.funs[k].2) := rfl
  rw [he] at HADD
  clear he
  generalize x.funs[k].1 = s at HADD hc0
  generalize x.funs[k].2 = m at HADD hc1
  have HC0 := Lib.hid hc0
  have HC1 := Lib.hid hc1
  have HBB := Lib.hid hb
  clear hc0 hc1 hb
  obtain ⟨A0, c0, hu0⟩ := CellsAt.form HK.out.at_.funs
  simp only at hu0
  subst hu0
  have HFN := Lib.hid (fun (W : World) (hb' : Below wr.heap.size wr W) => rfun_any cur (by omega) (.slice A0 cur.length c0) s m W (HK.out.up hb').at_.funs)
  have HSM : Hid (cur.length ≤ 1000000) := Lib.hid (by omega)
  have HS : Hid (∀ W : World, Below wr.heap.size wr W → (fun w' => w'.cell? ⟨I.g, 1, none⟩ = some (.slice A0 cur.length c0) ∧ w'.cell? ⟨I.x, 1, none⟩ = some (.slice (some ⟨b, off, none⟩) x.funs.length e2) ∧ w'.cell? ⟨b, off + k * 2, none⟩ = some (.string s) ∧ w'.cell? ⟨b, off + k * 2 + 1, none⟩ = some (.int .i64 m)) W) := Lib.hid (fun W hb' => ⟨(HK.out.up hb').box.cell 1, (HK.out.up hb').bx.cell 1, ((HK.out.up hb').below.cell (p := ⟨b, off + k * 2, none⟩) HBB.out).trans HC0.out, ((HK.out.up hb').below.cell (p := ⟨b, off + k * 2 + 1, none⟩) HBB.out).trans HC1.out⟩)
  by_cases hin : (s, m) ∈ cur
  ·have hi : idxI cur (s, m) = (placeOf cur (s, m) : Nat) := if_pos hin
   rw [hi] at HFN
   rw [addTo_yes hin] at HADD
   generalize placeOf cur (s, m) = pl at HFN
   clear hin hi
   go_upto_region 10 with (fail)
   clear x0
   refine wp_region_noPanic ?_
   refine wp_region_T 99 (fun w' => w'.cell? ⟨I.g, 1, none⟩ = some (.slice A0 cur.length c0) ∧ w'.cell? ⟨I.x, 1, none⟩ = some (.slice (some ⟨b, off, none⟩) x.funs.length e2) ∧ w'.cell? ⟨b, off + k * 2, none⟩ = some (.string s) ∧ w'.cell? ⟨b, off + k * 2 + 1, none⟩ = some (.int .i64 m)) (by kernel_rfl) ?_ (fun hHeld => ?_)
   ·exact HS.out _ ⟨rfl, rfl, rfl, Nat.le_refl _, fun _ _ => rfl⟩
   change wpAnyT _ _ _ _ _ _ _ _ _ (wr.drewN 1)
   replace hHeld : (wr.drewN 1).cell? ⟨I.g, 1, none⟩ = some (.slice A0 cur.length c0) ∧ (wr.drewN 1).cell? ⟨I.x, 1, none⟩ = some (.slice (some ⟨b, off, none⟩) x.funs.length e2) ∧ (wr.drewN 1).cell? ⟨b, off + k * 2, none⟩ = some (.string s) ∧ (wr.drewN 1).cell? ⟨b, off + k * 2 + 1, none⟩ = some (.int .i64 m) := hHeld
   have HBd : Hid (Below wr.heap.size wr (wr.drewN 1)) := Lib.hid ⟨rfl, rfl, rfl, Nat.le_refl _, fun _ _ => rfl⟩
   generalize wr.drewN 1 = w2 at HBd hHeld ⊢
   refine tP (i := 0) (v := ?_) rfl ?_ ?_
   rotate_left
   ·(intro w hSw; (try dsimp only at hSw); go_simp; try with_reducible rfl)
   try simp only [qA, qB, qC, Act.put, qD, qE, qF]
   refine tS (i := 1) (v := ?_) rfl ?_ hHeld ?_
   rotate_left
   ·(intro w hSw; (try dsimp only at hSw); go_simp; try with_reducible rfl)
   try simp only [qA, qB, qC, Act.put, qD, qE, qF]
   refine tP (i := 2) (v := ?_) rfl ?_ ?_
   rotate_left
   ·(intro w hSw; (try dsimp only at hSw); go_simp; try with_reducible rfl)
   try simp only [qA, qB, qC, Act.put, qD, qE, qF]
   refine tS (i := 3) (v := ?_) rfl ?_ hHeld ?_
   rotate_left
   ·(intro w hSw; (try dsimp only at hSw); go_simp; try with_reducible rfl)
   try simp only [qA, qB, qC, Act.put, qD, qE, qF]
   refine tP (i := 4) (v := ?_) rfl ?_ ?_
   rotate_left
   ·(intro w hSw; (try dsimp only at hSw); go_simp; try with_reducible rfl)
   try simp only [qA, qB, qC, Act.put, qD, qE, qF]
   refine tP (i := 5) (v := ?_) rfl ?_ ?_
   rotate_left
   ·(intro w hSw; (try dsimp only at hSw); go_simp; try with_reducible rfl)
   try simp only [qA, qB, qC, Act.put, qD, qE, qF]
   refine tS (i := 6) (v := ?_) rfl ?_ hHeld ?_
   rotate_left
   ·(intro w hSw; (try dsimp only at hSw); go_simp; try with_reducible rfl)
   try simp only [qA, qB, qC, Act.put, qD, qE, qF]
   refine wpAnyT_ready (rs := [7]) (by kernel_rfl) (by simp) ?_
   refine AllT.cons (o := _) rfl (fun K hK => ?_) AllT.nil
   go_simp
   go_at_call 62; refine (HFN.out _ HBd.out).mono ?_; rintro e w3 ⟨rfl, hb3⟩; have HBe := Lib.hid (HBd.out.trans (hb3.mono HBd.out.size)); clear hb3
   refine hK.out _ _ (fun _ => ?_) (fun hHeld2 => ?_)
   ·exact HS.out _ HBe.out
   replace hHeld := hHeld2 (by decide)
   clear hHeld2 hK K
   try simp only [qA, qB, qC, Act.put, qD, qE, qF]
   refine tP (i := 8) (v := ?_) rfl ?_ ?_
   rotate_left
   ·(intro w hSw; (try dsimp only at hSw); go_simp; try with_reducible rfl)
   try simp only [qA, qB, qC, Act.put, qD, qE, qF]
   refine wpAnyT_done (by kernel_rfl) (NoPanic.normal ?_) _
   go_wp2
   go_roundw
   case rel => exact ⟨k + 1, _, by omega, by go_num, Lib.hid (by rw [HADD.out]; exact HK.out.up HBe.out)⟩
   case measure => simp [intOf]; omega
  ·have hi : idxI cur (s, m) = -1 := if_neg hin
   rw [hi] at HFN
   rw [addTo_no hin] at HADD
   clear hin hi
   go_upto_region 10 with (fail)
   clear x0
   refine wp_region_noPanic ?_
   refine wp_region_T 99 (fun w' => w'.cell? ⟨I.g, 1, none⟩ = some (.slice A0 cur.length c0) ∧ w'.cell? ⟨I.x, 1, none⟩ = some (.slice (some ⟨b, off, none⟩) x.funs.length e2) ∧ w'.cell? ⟨b, off + k * 2, none⟩ = some (.string s) ∧ w'.cell? ⟨b, off + k * 2 + 1, none⟩ = some (.int .i64 m)) (by kernel_rfl) ?_ (fun hHeld => ?_)
   ·exact HS.out _ ⟨rfl, rfl, rfl, Nat.le_refl _, fun _ _ => rfl⟩
   change wpAnyT _ _ _ _ _ _ _ _ _ (wr.drewN 1)
   replace hHeld : (wr.drewN 1).cell? ⟨I.g, 1, none⟩ = some (.slice A0 cur.length c0) ∧ (wr.drewN 1).cell? ⟨I.x, 1, none⟩ = some (.slice (some ⟨b, off, none⟩) x.funs.length e2) ∧ (wr.drewN 1).cell? ⟨b, off + k * 2, none⟩ = some (.string s) ∧ (wr.drewN 1).cell? ⟨b, off + k * 2 + 1, none⟩ = some (.int .i64 m) := hHeld
   have HBd : Hid (Below wr.heap.size wr (wr.drewN 1)) := Lib.hid ⟨rfl, rfl, rfl, Nat.le_refl _, fun _ _ => rfl⟩
   generalize wr.drewN 1 = w2 at HBd hHeld ⊢
   refine tP (i := 0) (v := ?_) rfl ?_ ?_
   rotate_left
   ·(intro w hSw; (try dsimp only at hSw); go_simp; try with_reducible rfl)
   try simp only [qA, qB, qC, Act.put, qD, qE, qF]
   refine tS (i := 1) (v := ?_) rfl ?_ hHeld ?_
   rotate_left
   ·(intro w hSw; (try dsimp only at hSw); go_simp; try with_reducible rfl)
   try simp only [qA, qB, qC, Act.put, qD, qE, qF]
   refine tP (i := 2) (v := ?_) rfl ?_ ?_
   rotate_left
   ·(intro w hSw; (try dsimp only at hSw); go_simp; try with_reducible rfl)
   try simp only [qA, qB, qC, Act.put, qD, qE, qF]
   refine tS (i := 3) (v := ?_) rfl ?_ hHeld ?_
   rotate_left
   ·(intro w hSw; (try dsimp only at hSw); go_simp; try with_reducible rfl)
   try simp only [qA, qB, qC, Act.put, qD, qE, qF]
   refine tP (i := 4) (v := ?_) rfl ?_ ?_
   rotate_left
   ·(intro w hSw; (try dsimp only at hSw); go_simp; try with_reducible rfl)
   try simp only [qA, qB, qC, Act.put, qD, qE, qF]
   refine tP (i := 5) (v := ?_) rfl ?_ ?_
   rotate_left
   ·(intro w hSw; (try dsimp only at hSw); go_simp; try with_reducible rfl)
   try simp only [qA, qB, qC, Act.put, qD, qE, qF]
   refine tS (i := 6) (v := ?_) rfl ?_ hHeld ?_
   rotate_left
   ·(intro w hSw; (try dsimp only at hSw); go_simp; try with_reducible rfl)
   try simp only [qA, qB, qC, Act.put, qD, qE, qF]
   refine wpAnyT_ready (rs := [7]) (by kernel_rfl) (by simp) ?_
   refine AllT.cons (o := _) rfl (fun K hK => ?_) AllT.nil
   go_simp
   go_at_call 62; refine (HFN.out _ HBd.out).mono ?_; rintro e w3 ⟨rfl, hb3⟩; have HBe := Lib.hid (HBd.out.trans (hb3.mono HBd.out.size)); clear hb3
   refine hK.out _ _ (fun _ => ?_) (fun hHeld2 => ?_)
   ·exact HS.out _ HBe.out
   replace hHeld := hHeld2 (by decide)
   clear hHeld2 hK K
   try simp only [qA, qB, qC, Act.put, qD, qE, qF]
   refine tP (i := 8) (v := ?_) rfl ?_ ?_
   rotate_left
   ·(intro w hSw; (try dsimp only at hSw); go_simp; try with_reducible rfl)
   try simp only [qA, qB, qC, Act.put, qD, qE, qF]
   refine wpAnyT_done (by kernel_rfl) (NoPanic.normal ?_) _
   skip
   clear hHeld
   obtain ⟨w5, hw5⟩ : ∃ w5, w3 = w5 := ⟨_, rfl⟩
   have HK5 := Lib.hid (HK.out.up HBe.out)
   rw [hw5] at HK5 ⊢
   clear hw5 HK HFN HBd HBe HS
   have HS : Hid (∀ W : World, Below w5.heap.size w5 W → (fun w' => w'.cell? ⟨I.g, 1, none⟩ = some (.slice A0 cur.length c0) ∧ w'.cell? ⟨I.x, 1, none⟩ = some (.slice (some ⟨b, off, none⟩) x.funs.length e2) ∧ w'.cell? ⟨b, off + k * 2, none⟩ = some (.string s) ∧ w'.cell? ⟨b, off + k * 2 + 1, none⟩ = some (.int .i64 m)) W) := Lib.hid (fun W hb' => ⟨(HK5.out.up hb').box.cell 1, (HK5.out.up hb').bx.cell 1, ((HK5.out.up hb').below.cell (p := ⟨b, off + k * 2, none⟩) HBB.out).trans HC0.out, ((HK5.out.up hb').below.cell (p := ⟨b, off + k * 2 + 1, none⟩) HBB.out).trans HC1.out⟩)
   go_upto_region 11 with (fail)
   refine wp_region_noPanic ?_
   refine wp_region_T 12 (fun w' => w'.cell? ⟨I.g, 1, none⟩ = some (.slice A0 cur.length c0) ∧ w'.cell? ⟨I.x, 1, none⟩ = some (.slice (some ⟨b, off, none⟩) x.funs.length e2) ∧ w'.cell? ⟨b, off + k * 2, none⟩ = some (.string s) ∧ w'.cell? ⟨b, off + k * 2 + 1, none⟩ = some (.int .i64 m)) (by kernel_rfl) ?_ (fun hHeld => ?_)
   ·exact HS.out _ ⟨rfl, rfl, rfl, Nat.le_refl _, fun _ _ => rfl⟩
   change wpAnyT _ _ _ _ _ _ _ _ _ (w5.drewN 1)
   replace hHeld : (w5.drewN 1).cell? ⟨I.g, 1, none⟩ = some (.slice A0 cur.length c0) ∧ (w5.drewN 1).cell? ⟨I.x, 1, none⟩ = some (.slice (some ⟨b, off, none⟩) x.funs.length e2) ∧ (w5.drewN 1).cell? ⟨b, off + k * 2, none⟩ = some (.string s) ∧ (w5.drewN 1).cell? ⟨b, off + k * 2 + 1, none⟩ = some (.int .i64 m) := hHeld
   have HBd : Hid (Below w5.heap.size w5 (w5.drewN 1)) := Lib.hid ⟨rfl, rfl, rfl, Nat.le_refl _, fun _ _ => rfl⟩
   have HK2 := Lib.hid (HK5.out.drewN 1)
   generalize w5.drewN 1 = w2 at HBd hHeld HK2 ⊢
   have HS2 : Hid (∀ W : World, Below w2.heap.size w2 W → (fun w' => w'.cell? ⟨I.g, 1, none⟩ = some (.slice A0 cur.length c0) ∧ w'.cell? ⟨I.x, 1, none⟩ = some (.slice (some ⟨b, off, none⟩) x.funs.length e2) ∧ w'.cell? ⟨b, off + k * 2, none⟩ = some (.string s) ∧ w'.cell? ⟨b, off + k * 2 + 1, none⟩ = some (.int .i64 m)) W) := Lib.hid (fun W hb => HS.out W (HBd.out.trans (hb.mono HBd.out.size)))
   have HROW := Lib.hid HK2.out.at_.funs
   refine tP (i := 1) (v := ?_) rfl ?_ ?_
   rotate_left
   ·(intro w hSw; (try dsimp only at hSw); go_simp; try with_reducible rfl)
   try simp only [qA, qB, qC, Act.put, qD, qE, qF]
   refine tS (i := 2) (v := ?_) rfl ?_ hHeld ?_
   rotate_left
   ·(intro w hSw; (try dsimp only at hSw); go_simp; try with_reducible rfl)
   try simp only [qA, qB, qC, Act.put, qD, qE, qF]
   refine tP (i := 4) (v := ?_) rfl ?_ ?_
   rotate_left
   ·(intro w hSw; (try dsimp only at hSw); go_simp; try with_reducible rfl)
   try simp only [qA, qB, qC, Act.put, qD, qE, qF]
   refine tS (i := 5) (v := ?_) rfl ?_ hHeld ?_
   rotate_left
   ·(intro w hSw; (try dsimp only at hSw); go_simp; try with_reducible rfl)
   try simp only [qA, qB, qC, Act.put, qD, qE, qF]
   refine tP (i := 6) (v := ?_) rfl ?_ ?_
   rotate_left
   ·(intro w hSw; (try dsimp only at hSw); go_simp; try with_reducible rfl)
   try simp only [qA, qB, qC, Act.put, qD, qE, qF]
   refine tP (i := 7) (v := ?_) rfl ?_ ?_
   rotate_left
   ·(intro w hSw; (try dsimp only at hSw); go_simp; try with_reducible rfl)
   try simp only [qA, qB, qC, Act.put, qD, qE, qF]
   refine tS (i := 8) (v := ?_) rfl ?_ hHeld ?_
   rotate_left
   ·(intro w hSw; (try dsimp only at hSw); go_simp; try with_reducible rfl)
   try simp only [qA, qB, qC, Act.put, qD, qE, qF]
   refine wpAnyT_ready (rs := [0, 9]) (by kernel_rfl) (by simp) ?_
   refine AllT.cons (o := _) rfl (fun K hK => ?_) ?_
   ·go_simp
    refine hK.out _ _ (fun _ => ?_) (fun hHeld2 => ?_)
    ·exact HS2.out _ (alloc_below w2 _)
    replace hHeld := hHeld2 (by decide)
    clear hHeld2 hK K
    try simp only [qA, qB, qC, Act.put, qD, qE, qF]
    refine wpAnyT_ready (rs := [3, 9]) (by kernel_rfl) (by simp) ?_
    refine AllT.cons (o := _) rfl (fun K hK => ?_) ?_
    ·obtain ⟨A6, c6, w6, hr6, h6⟩ := first_app slRFun (alloc_below w2 (.cells #[] 81)) (empty_new w2 81 2) (Nat.le_refl _) (CellsAt.below HROW.out (alloc_below w2 (.cells #[] 81))) (cells_len funC 2 (fun _ => rfl) _) (cells_flat funC cells_fun _) HSM.out 25
     have HR6 := Lib.hid hr6
     clear hr6
     refine step_of_append HR6.out rfl _ _ rfl rfl rfl ?_
     refine hK.out _ _ (fun _ => ?_) (fun hHeld2 => ?_)
     ·exact HS2.out _ h6.out.2.1
     replace hHeld := hHeld2 (by decide)
     clear hHeld2 hK K
     try simp only [qA, qB, qC, Act.put, qD, qE, qF]
     refine wpAnyT_ready (rs := [9]) (by kernel_rfl) (by simp) ?_
     refine AllT.cons (o := _) rfl (fun K hK => ?_) AllT.nil
     go_simp
     refine hK.out _ _ (fun _ => ?_) (fun hHeld2 => ?_)
     ·exact HS2.out _ (h6.out.2.1.alloc h6.out.2.1.size _)
     replace hHeld := hHeld2 (by decide)
     clear hHeld2 hK K
     try simp only [qA, qB, qC, Act.put, qD, qE, qF]
     refine wpAnyT_ready (rs := [10]) (by kernel_rfl) (by simp) ?_
     refine AllT.cons (o := _) rfl (fun K hK => ?_) AllT.nil
     obtain ⟨A7, c7, w7, hr7, h7⟩ := second_app slRFun (own_fr (S := fun _ => False) h6.out.1 ((Fr.refl _ w6).alloc (.cells #[.string s, .int .i64 m] 81)) (fun _ _ x => x)) (h6.out.2.1.alloc h6.out.2.1.size _) [.string s, .int .i64 m] (Box.new w6 81 #[.string s, .int .i64 m]) rfl (by intro u hu; simp only [List.mem_cons, List.not_mem_nil, or_false] at hu; rcases hu with rfl | rfl <;> rfl) HSM.out 25
     have HR7 := Lib.hid hr7
     clear hr7
     refine step_of_append HR7.out rfl _ _ rfl rfl rfl ?_
     refine hK.out _ _ (fun _ => ?_) (fun hHeld2 => ?_)
     ·exact HS2.out _ h7.out.2
     replace hHeld := hHeld2 (by decide)
     clear hHeld2 hK K
     try simp only [qA, qB, qC, Act.put, qD, qE, qF]
     refine tP (i := 11) (v := ?_) rfl ?_ ?_
     rotate_left
     ·(intro w hSw; (try dsimp only at hSw); go_simp; try with_reducible rfl)
     try simp only [qA, qB, qC, Act.put, qD, qE, qF]
     refine wpAnyT_ready (rs := [12]) (by kernel_rfl) (by simp) ?_
     refine AllT.cons (o := _) rfl (fun K hK => ?_) AllT.nil
     have z0 := (HK2.out.up h7.out.2).box.cell 1
     have z1 := (HK2.out.up h7.out.2).box.frozen 1
     go_simp
     refine hK.out _ _ (fun h => absurd h (by decide)) (fun _ => ?_)
     clear hK K
     try simp only [qA, qB, qC, Act.put, qD, qE, qF]
     refine wpAnyT_done (by kernel_rfl) (NoPanic.normal ?_) _
     go_wp2
     go_roundw
     case rel => exact ⟨k + 1, _, by omega, by go_num, Lib.hid (by rw [HADD.out]; exact (HK2.out.up h7.out.2).putf (l := cur ++ [(s, m)]) (grown_own h7.out.1 HK2.out.below.size (by simp) (by simp [funC])))⟩
     case measure => simp [intOf]; omega
    refine AllT.cons (o := _) rfl (fun K hK => ?_) ?_
    ·go_simp
     refine hK.out _ _ (fun _ => ?_) (fun hHeld2 => ?_)
     ·exact HS2.out _ (two_below w2 _ _)
     replace hHeld := hHeld2 (by decide)
     clear hHeld2 hK K
     try simp only [qA, qB, qC, Act.put, qD, qE, qF]
     refine wpAnyT_ready (rs := [3]) (by kernel_rfl) (by simp) ?_
     refine AllT.cons (o := _) rfl (fun K hK => ?_) AllT.nil
     obtain ⟨A6, c6, w6, hr6, h6⟩ := first_app slRFun (two_below w2 (.cells #[] 81) (.cells #[.string s, .int .i64 m] 81)) (own_fr (S := fun _ => False) (empty_new w2 81 2) ((Fr.refl _ _).alloc (.cells #[.string s, .int .i64 m] 81)) (fun _ _ x => x)) (Nat.le_refl _) (CellsAt.below HROW.out (two_below w2 (.cells #[] 81) (.cells #[.string s, .int .i64 m] 81))) (cells_len funC 2 (fun _ => rfl) _) (cells_flat funC cells_fun _) HSM.out 25
     have HR6 := Lib.hid hr6
     clear hr6
     refine step_of_append HR6.out rfl _ _ rfl rfl rfl ?_
     refine hK.out _ _ (fun _ => ?_) (fun hHeld2 => ?_)
     ·exact HS2.out _ h6.out.2.1
     replace hHeld := hHeld2 (by decide)
     clear hHeld2 hK K
     try simp only [qA, qB, qC, Act.put, qD, qE, qF]
     refine wpAnyT_ready (rs := [10]) (by kernel_rfl) (by simp) ?_
     refine AllT.cons (o := _) rfl (fun K hK => ?_) AllT.nil
     have bx7 := Box.new (w2.alloc (.cells #[] 81)) 81 #[.string s, .int .i64 m]
     rw [World.size_alloc] at bx7
     obtain ⟨A7, c7, w7, hr7, h7⟩ := second_app slRFun h6.out.1 h6.out.2.1 [.string s, .int .i64 m] (bx7.fr h6.out.2.2 (by omega)) rfl (by intro u hu; simp only [List.mem_cons, List.not_mem_nil, or_false] at hu; rcases hu with rfl | rfl <;> rfl) HSM.out 25
     have HR7 := Lib.hid hr7
     clear hr7
     refine step_of_append HR7.out rfl _ _ rfl rfl rfl ?_
     refine hK.out _ _ (fun _ => ?_) (fun hHeld2 => ?_)
     ·exact HS2.out _ h7.out.2
     replace hHeld := hHeld2 (by decide)
     clear hHeld2 hK K
     try simp only [qA, qB, qC, Act.put, qD, qE, qF]
     refine tP (i := 11) (v := ?_) rfl ?_ ?_
     rotate_left
     ·(intro w hSw; (try dsimp only at hSw); go_simp; try with_reducible rfl)
     try simp only [qA, qB, qC, Act.put, qD, qE, qF]
     refine wpAnyT_ready (rs := [12]) (by kernel_rfl) (by simp) ?_
     refine AllT.cons (o := _) rfl (fun K hK => ?_) AllT.nil
     have z0 := (HK2.out.up h7.out.2).box.cell 1
     have z1 := (HK2.out.up h7.out.2).box.frozen 1
     go_simp
     refine hK.out _ _ (fun h => absurd h (by decide)) (fun _ => ?_)
     clear hK K
     try simp only [qA, qB, qC, Act.put, qD, qE, qF]
     refine wpAnyT_done (by kernel_rfl) (NoPanic.normal ?_) _
     go_wp2
     go_roundw
     case rel => exact ⟨k + 1, _, by omega, by go_num, Lib.hid (by rw [HADD.out]; exact (HK2.out.up h7.out.2).putf (l := cur ++ [(s, m)]) (grown_own h7.out.1 HK2.out.below.size (by simp) (by simp [funC])))⟩
     case measure => simp [intOf]; omega
    exact AllT.nil
   refine AllT.cons (o := _) rfl (fun K hK => ?_) ?_
   ·go_simp
    refine hK.out _ _ (fun _ => ?_) (fun hHeld2 => ?_)
    ·exact HS2.out _ (alloc_below w2 _)
    replace hHeld := hHeld2 (by decide)
    clear hHeld2 hK K
    try simp only [qA, qB, qC, Act.put, qD, qE, qF]
    refine wpAnyT_ready (rs := [0]) (by kernel_rfl) (by simp) ?_
    refine AllT.cons (o := _) rfl (fun K hK => ?_) AllT.nil
    go_simp
    refine hK.out _ _ (fun _ => ?_) (fun hHeld2 => ?_)
    ·exact HS2.out _ (two_below w2 _ _)
    replace hHeld := hHeld2 (by decide)
    clear hHeld2 hK K
    try simp only [qA, qB, qC, Act.put, qD, qE, qF]
    refine wpAnyT_ready (rs := [3]) (by kernel_rfl) (by simp) ?_
    refine AllT.cons (o := _) rfl (fun K hK => ?_) AllT.nil
    have he7 := empty_new (w2.alloc (.cells #[.string s, .int .i64 m] 81)) 81 2
    rw [World.size_alloc] at he7
    obtain ⟨A6, c6, w6, hr6, h6⟩ := first_app slRFun (two_below w2 (.cells #[.string s, .int .i64 m] 81) (.cells #[] 81)) (own_more he7 (fun k hk => by simp only [Value.ownBlock, Option.some.injEq] at hk; omega)) (by omega) (CellsAt.below HROW.out (two_below w2 (.cells #[.string s, .int .i64 m] 81) (.cells #[] 81))) (cells_len funC 2 (fun _ => rfl) _) (cells_flat funC cells_fun _) HSM.out 25
    have HR6 := Lib.hid hr6
    clear hr6
    refine step_of_append HR6.out rfl _ _ rfl rfl rfl ?_
    refine hK.out _ _ (fun _ => ?_) (fun hHeld2 => ?_)
    ·exact HS2.out _ h6.out.2.1
    replace hHeld := hHeld2 (by decide)
    clear hHeld2 hK K
    try simp only [qA, qB, qC, Act.put, qD, qE, qF]
    refine wpAnyT_ready (rs := [10]) (by kernel_rfl) (by simp) ?_
    refine AllT.cons (o := _) rfl (fun K hK => ?_) AllT.nil
    obtain ⟨A7, c7, w7, hr7, h7⟩ := second_app slRFun h6.out.1 h6.out.2.1 [.string s, .int .i64 m] (((Box.new w2 81 #[.string s, .int .i64 m]).alloc (.cells #[] 81)).fr h6.out.2.2 (by omega)) rfl (by intro u hu; simp only [List.mem_cons, List.not_mem_nil, or_false] at hu; rcases hu with rfl | rfl <;> rfl) HSM.out 25
    have HR7 := Lib.hid hr7
    clear hr7
    refine step_of_append HR7.out rfl _ _ rfl rfl rfl ?_
    refine hK.out _ _ (fun _ => ?_) (fun hHeld2 => ?_)
    ·exact HS2.out _ h7.out.2
    replace hHeld := hHeld2 (by decide)
    clear hHeld2 hK K
    try simp only [qA, qB, qC, Act.put, qD, qE, qF]
    refine tP (i := 11) (v := ?_) rfl ?_ ?_
    rotate_left
    ·(intro w hSw; (try dsimp only at hSw); go_simp; try with_reducible rfl)
    try simp only [qA, qB, qC, Act.put, qD, qE, qF]
    refine wpAnyT_ready (rs := [12]) (by kernel_rfl) (by simp) ?_
    refine AllT.cons (o := _) rfl (fun K hK => ?_) AllT.nil
    have z0 := (HK2.out.up h7.out.2).box.cell 1
    have z1 := (HK2.out.up h7.out.2).box.frozen 1
    go_simp
    refine hK.out _ _ (fun h => absurd h (by decide)) (fun _ => ?_)
    clear hK K
    try simp only [qA, qB, qC, Act.put, qD, qE, qF]
    refine wpAnyT_done (by kernel_rfl) (NoPanic.normal ?_) _
    go_wp2
    go_roundw
    case rel => exact ⟨k + 1, _, by omega, by go_num, Lib.hid (by rw [HADD.out]; exact (HK2.out.up h7.out.2).putf (l := cur ++ [(s, m)]) (grown_own h7.out.1 HK2.out.below.size (by simp) (by simp [funC])))⟩
    case measure => simp [intOf]; omega
   exact AllT.nil
 case neg =>
 obtain rfl : k = x.funs.length := by omega
 rw [List.take_length] at HK
 obtain ⟨funs', hat'⟩ : ∃ a, x.funs.foldl addTo o.funs = a := ⟨_, rfl⟩
 rw [hat'] at HK
 have HFUN := Lib.hid hat'
 obtain ⟨wf, hwf⟩ : ∃ wf, wr = wf := ⟨_, rfl⟩
 rw [hwf] at HK x0 ⊢
 obtain ⟨uf, huf⟩ : ∃ uf, u = uf := ⟨_, rfl⟩
 rw [huf] at HK
 clear hwf huf hat' hkl hlt
 go_upto_region 12 with (fail)
 clear x0
 obtain ⟨Aa, ca, hua⟩ := CellsAt.form HK.out.at_.atoms
 obtain ⟨Af, cf, huf⟩ := CellsAt.form HK.out.at_.funs
 simp only at hua huf
 subst hua huf
 have HSM : Hid (o.preds.length ≤ 1000000) := Lib.hid (by omega)
 obtain ⟨A6, c6, w6, hr6, h6⟩ := first_app slRPred (alloc_below wf (.cells #[] 62)) (empty_new wf 62 3) (Nat.le_refl _) (CellsAt.below HK.out.at_.preds (alloc_below wf (.cells #[] 62))) (cells_len predC 3 (fun _ => rfl) _) (cells_flat predC cells_pred _) HSM.out 26
 have HR6 := Lib.hid hr6
 have q2 := (HK.out.alloc (.cells #[] 62)).box.cell 2
 have z0 := (HK.out.up h6.out.2.1).box.cell 2
 have z1 := (HK.out.up h6.out.2.1).box.frozen 2
 have HO6 := Lib.hid (grown_own h6.out.1 HK.out.below.size rfl rfl)
 have HKp := Lib.hid ((HK.out.up h6.out.2.1).putp (l := o.preds) HO6.out)
 have HOp := Lib.hid (own_set_far (p := ⟨I.g, 2, none⟩) HO6.out (fun k hk => own_ne_box HO6.out (HK.out.up h6.out.2.1).box (by decide) k hk) (.slice A6 o.preds.length c6))
 clear hr6
 go_upto_region 13 with (at_builtin; refine wpList_of_append HR6.out rfl _ _ rfl rfl rfl ?_)
 obtain ⟨wp, hwp⟩ : ∃ wp, w6.setCell ⟨I.g, 2, none⟩ (.slice A6 o.preds.length c6) = wp := ⟨_, rfl⟩
 rw [hwp] at HKp HOp ⊢
 clear hwp q2 z0 z1 h6 HK HR6 HO6
 have R0 : Hid (predsJ base o.preds (x.preds.take 0) = some o.preds) := Lib.hid rfl
 go_wp2
 go_loopw [9, 10, 11] (fun i _ _ wr => ∃ (k : Nat) (P : List Pr) (A : Option Addr) (c : Nat), k ≤ x.preds.length ∧ i = .int .i64 k ∧ Hid (predsJ base o.preds (x.preds.take k) = some P) ∧ Hid (Jn S w wr I #[.slice B1 x.atoms.length e1, .slice B2 x.funs.length e2, .slice B3 x.preds.length e3, .slice B4 x.code.length e4] (.slice Aa atoms'.length ca) (.slice Af funs'.length cf) (.slice A P.length c) (.slice A4 o.code.length c4) ⟨atoms', funs', P, o.code⟩) ∧ Hid (wr.ownsRow w.heap.size 62 3 (.slice A P.length c) P.length (P.flatMap predC))) (fun i _ _ _ => x.preds.length - (intOf i).toNat)
 case atStart => exact ⟨0, _, _, _, by omega, rfl, R0, HKp, HOp⟩
 obtain ⟨k, P, A0, c0, hkl, rfl, HP, HK, HO⟩ := hrel
 clear R0 HKp HOp
 have x0 := HK.out.bx.cell 2
 by_cases hlt : k < x.preds.length
 case pos =>
  obtain ⟨b, off, rfl, hb, hc0, hc1, hc2⟩ := predCell HU.out.preds k hlt
  have d0 := (HK.out.below.cell (p := ⟨b, off + k * 3, none⟩) hb).trans hc0
  have d1 := (HK.out.below.cell (p := ⟨b, off + k * 3 + 1, none⟩) hb).trans hc1
  have d2 := (HK.out.below.cell (p := ⟨b, off + k * 3 + 2, none⟩) hb).trans hc2
  have hee := HENT.out _ (List.getElem_mem hlt)
  have HPL : Hid (P.length ≤ 200000) := Lib.hid (by
   have h1 := predsJ_len _ _ _ HP.out
   rw [List.length_take] at h1
   omega)
  have HST := Lib.hid (predsJ_step HP.out hlt)
  have HSP := Lib.hid (fun h => predsJ_stop HP.out hlt h)
  have i1 : (k : Int) < (x.preds.length : Int) := by omega
  have i2 : (0 : Int) ≤ (k : Int) := by omega
  have he : x.preds[k] = (x.preds[k].1, x.preds[k].2.1, x.preds[k].2.2) := rfl
  rw [he] at HST HSP
  clear he hc0 hc1 hc2 hb
  generalize x.preds[k].1 = s at d0 HST HSP
  generalize x.preds[k].2.1 = m at d1 HST HSP
  generalize x.preds[k].2.2 = e at d2 hee HST HSP
  have HK5 := Lib.hid (HK.out.alloc (.cells #[.string s, .int .i64 m, .int .i64 e] 62))
  have HO5 : Hid ((wr.alloc (.cells #[.string s, .int .i64 m, .int .i64 e] 62)).ownsRow w.heap.size 62 3 (.slice A0 P.length c0) P.length (P.flatMap predC)) := Lib.hid (own_fr (S := fun _ => False) HO.out ((Fr.refl _ wr).alloc _) (fun _ _ x => x))
  have XP5 := Lib.hid (Box.new wr 62 #[.string s, .int .i64 m, .int .i64 e])
  have HNP : Hid ((Value.slice A0 P.length c0).ownBlock ≠ some wr.heap.size) := Lib.hid (own_lt' HO.out (Nat.le_refl _))
  go_upto_region 17 with (fail)
  obtain ⟨w5, hw5⟩ : ∃ w5, wr.alloc (.cells #[.string s, .int .i64 m, .int .i64 e] 62) = w5 := ⟨_, rfl⟩
  obtain ⟨gp, hgp⟩ : ∃ gp, wr.heap.size = gp := ⟨_, rfl⟩
  rw [hw5] at HK5 HO5 XP5 ⊢
  rw [hgp] at XP5 HNP ⊢
  clear hw5 hgp d0 d1 d2 x0 HK HO
  have HF := Lib.hid (fun (W : World) (hb : Below w5.heap.size w5 W) => rfind_any Aa Af A4 atoms'.length ca funs'.length cf o.code.length c4 P (by have := HPL.out; omega) (.slice A0 P.length c0) s m W (HK5.out.up hb).at_.preds)
  obtain ⟨rr, hrr⟩ : ∃ rr, predIn P (s, m) = rr := ⟨_, rfl⟩
  have HRR := Lib.hid hrr
  clear hrr
  have q0 := HK5.out.box.cell 0
  have q1 := HK5.out.box.cell 1
  have q2 := HK5.out.box.cell 2
  have q3 := HK5.out.box.cell 3
  have y0 := XP5.out.cell 0
  have y1 := XP5.out.cell 1
  go_upto_if 100 with (go_at_call 29; refine (HF.out _ (Below.refl _ _)).mono ?_; rintro e6 w6 ⟨rfl, hb6⟩; have HB6 := Lib.hid hb6; clear hb6)
  have HK6 := Lib.hid (HK5.out.up HB6.out)
  have HO6 : Hid (w6.ownsRow w.heap.size 62 3 (.slice A0 P.length c0) P.length (P.flatMap predC)) := Lib.hid (own_fr (S := fun _ => False) HO5.out (Fr.of_below HB6.out) (fun _ _ x => x))
  have XP6 := Lib.hid (XP5.out.below HB6.out XP5.out.lt)
  clear q0 q1 q2 q3 y0 y1 HK5 HO5 XP5 HF HB6
  go_cut [11] (fun t11 wc => CutP S w wc I #[.slice B1 x.atoms.length e1, .slice B2 x.funs.length e2, .slice (some ⟨b, off, none⟩) x.preds.length e3, .slice B4 x.code.length e4] (.slice Aa atoms'.length ca) (.slice Af funs'.length cf) (.slice A4 o.code.length c4) ⟨atoms', funs', P, o.code⟩ gp s m e rr t11)
  case first =>
   rcases predIn_at P (s, m) with ⟨_, hp1, hp2, _⟩ | ⟨hp0, hp1⟩
   ·have HE := Lib.hid (HRR.out.symm.trans hp1)
    have eb1 : ¬ findFrom s m 0 P < 0 := by simp only at hp2; omega
    have eb2 : decide (findFrom s m 0 P < 0) = false := decide_eq_false eb1
    clear hp1 hp2
    generalize findFrom s m 0 P = z at eb1 eb2 HE ⊢
    go_wp2
    go_meet
    exact ⟨A0, c0, by rw [HE.out], by rw [HE.out]; exact HK6.out, by rw [HE.out]; exact HO6.out, XP6.out⟩
   ·have HE := Lib.hid (HRR.out.symm.trans hp1)
    have eb1 : findFrom s m 0 P < 0 := findFrom_miss hp0
    have eb2 : decide (findFrom s m 0 P < 0) = true := decide_eq_true eb1
    clear hp0 hp1
    generalize findFrom s m 0 P = z at eb1 eb2 ⊢
    obtain ⟨v7, w7, hr7, HA7⟩ := app_one slRPred HO6.out [.string s, .int .i64 m, .int .i64 65535] rfl (by intro u hu; simp only [List.mem_cons, List.not_mem_nil, or_false] at hu; rcases hu with rfl | rfl | rfl <;> rfl) (by have := HPL.out; omega) HK6.out.below.size 26
    obtain ⟨A7, c7, hv7⟩ := HA7.out.form
    subst hv7
    have HR7 := Lib.hid hr7
    obtain ⟨P2, hP2⟩ : ∃ P2, P ++ [(s, m, 65535)] = P2 := ⟨_, rfl⟩
    have HLEN : Hid (P2.length = P.length + 1) := Lib.hid (by rw [← hP2]; simp)
    rw [hP2] at HE
    have ha7 : App w6 w7 w.heap.size 62 3 (.slice A0 P.length c0) (.slice A7 (P.length + 1) c7) P2.length (P2.flatMap predC) := by
     have h := HA7.out
     rw [HLEN.out, ← hP2]
     simpa [predC] using h
    obtain ⟨k8, o8, z0, z1⟩ := HK6.out.appp HO6.out ha7
    have HK8 := Lib.hid k8
    have HO8 := Lib.hid o8
    have XP8 := Lib.hid ((XP6.out.fr ha7.fr (fun e => HNP.out e)).far (p := ⟨I.g, 2, none⟩) (fun e => absurd (e ▸ XP6.out) (by have h := HK6.out.box; unfold Box at h ⊢; rw [h]; simp)) (.slice A7 (P.length + 1) c7))
    have q2 := (HK6.out.alloc (.cells #[.string s, .int .i64 m, .int .i64 65535] 62)).box.cell 2
    have q2' := HK6.out.box.cell 2
    have y0 := XP6.out.cell 0
    have y1 := XP6.out.cell 1
    have hwr2 : wrap64 (P.length : Int) = (P.length : Int) := by rw [wrap64]; have := HPL.out; omega
    clear hr7 ha7 k8 o8 hP2 HA7
    go_upto_region 20 with (at_builtin; refine wpList_of_append HR7.out rfl _ _ rfl rfl rfl ?_)
    obtain ⟨w8, hw8⟩ : ∃ w8, w7.setCell ⟨I.g, 2, none⟩ (.slice A7 (P.length + 1) c7) = w8 := ⟨_, rfl⟩
    rw [hw8] at HK8 HO8 XP8 ⊢
    clear hw8 q2 q2' z0 z1 y0 y1
    have p2 := HK8.out.box.cell 2
    go_wp2
    go_meet
    exact ⟨A7, c7, by rw [HE.out], by rw [HE.out, show ((P.length : Int), P2).2.length = P.length + 1 from HLEN.out]; exact HK8.out, by have h := HO8.out; rw [HE.out]; show World.ownsRow _ _ _ _ (.slice A7 P2.length c7) P2.length _; rw [HLEN.out] at h ⊢; exact h, XP8.out⟩
  case rest =>
  obtain ⟨A1', c1', rfl, hk, ho, hxp⟩ := hcut
  have hpj : predJ base P (s, m, e) = if e = 65535 then some rr.2 else if (rr.2.getD rr.1.toNat (⟨#[]⟩, 0, 0)).2.2 ≠ 65535 then none else some (setE rr.2 rr.1.toNat (base + e)) := by
   unfold predJ
   simp only [called, HRR.out]
  have hra : 0 ≤ rr.1 ∧ rr.1.toNat < rr.2.length := by
   rcases predIn_at P (s, m) with ⟨_, hp1, hp2, hp3⟩ | ⟨hp0, hp1⟩
   ·rw [← HRR.out, hp1]; exact ⟨hp2, hp3⟩
   ·rw [← HRR.out, hp1]; exact ⟨by simp, by simp⟩
  rw [hpj] at HST HSP
  obtain ⟨f, P2⟩ := rr
  obtain ⟨at_, rfl⟩ := Int.eq_ofNat_of_zero_le hra.1
  have hat : at_ < P2.length := hra.2
  simp only at hk ho
  obtain ⟨zz, hzz⟩ : ∃ zz, P2[at_].2.2 = zz := ⟨_, rfl⟩
  have hzd : (P2.getD at_ (⟨#[]⟩, 0, 0)).2.2 = zz := by rw [List.getD_eq_getElem?_getD, List.getElem?_eq_getElem hat]; exact hzz
  simp only [Int.toNat_natCast, hzd] at HST HSP
  clear hzd
  clear HK6 HO6 XP6
  have HK6 := Lib.hid hk
  have HO6 := Lib.hid ho
  have y2 := hxp.cell 2
  simp only
  clear hk ho hpj hra HRR HNP
  by_cases he : e = 65535
  ·have eb1 : (e != 65535) = false := by rw [bne_eq_false_iff_eq]; exact he
   have HP2 : Hid (predsJ base o.preds (x.preds.take (k + 1)) = some P2) := Lib.hid (by rw [HST.out, if_pos he])
   clear he hzz hat HST HSP HP
   go_wp2
   go_roundw
   case rel => first | exact ⟨k + 1, P2, _, _, by omega, by go_num, HP2, HK6, HO6⟩ | ((repeat apply Exists.intro); exact ⟨⟨k + 1, P2, _, _, by omega, by go_num, HP2, HK6, HO6⟩, rfl⟩)
   case measure => simp [intOf]; omega
  ·have eb1 : (e != 65535) = true := by rw [bne_iff_ne]; exact he
   have HHE := Lib.hid he
   rw [if_neg he] at HST HSP
   clear he
   obtain ⟨bp, cp, hvp⟩ := own_some HO6.out (by omega)
   rw [hvp] at HK6 HO6
   injection hvp with hv1 _ hv2
   subst hv1 hv2
   obtain ⟨z0, z1⟩ := cellp_own HO6.out at_ hat
   have HAT := Lib.hid hat
   have i3 : (at_ : Int) < (P2.length : Int) := by omega
   have i4 : (0 : Int) ≤ (at_ : Int) := by omega
   have g2 := HK6.out.box.cell 2
   rw [hzz] at z0
   clear hzz
   by_cases hE : zz = 65535
   ·have hf : (zz != 65535) = false := by rw [bne_eq_false_iff_eq]; exact hE
    have HP2 : Hid (predsJ base o.preds (x.preds.take (k + 1)) = some (setE P2 at_ (base + e))) := Lib.hid (by rw [HST.out, if_neg (by simpa using hE)])
    obtain ⟨k8, o8⟩ := Jn.setp (o := ⟨atoms', funs', P2, o.code⟩) HK6.out HO6.out at_ hat (base + e)
    have HK8 := Lib.hid k8
    have HO8 := Lib.hid o8
    have hwr : wrap64 (base + e) = base + e := by rw [wrap64]; omega
    have hsl : (setE P2 at_ (base + e)).length = P2.length := setE_len _ _ _
    have HSL := Lib.hid hsl
    clear hE hat HST HSP HP k8 o8 hsl HAT
    go_wp2
    go_roundw
    case rel => first | exact ⟨k + 1, setE P2 at_ (base + e), _, _, by omega, by go_num, HP2, Lib.hid (by rw [HSL.out]; exact HK8.out), Lib.hid (by rw [HSL.out] at HO8 ⊢; exact HO8.out)⟩ | ((repeat apply Exists.intro); exact ⟨⟨k + 1, setE P2 at_ (base + e), _, _, by omega, by go_num, HP2, Lib.hid (by rw [HSL.out]; exact HK8.out), Lib.hid (by have h := HO8.out; rw [HSL.out] at h ⊢; exact h)⟩, rfl⟩)
    case measure => simp [intOf]; omega
   ·have hf : (zz != 65535) = true := by rw [bne_iff_ne]; exact hE
    have HX : Hid (r = none) := Lib.hid (by
     rw [← HR.out]
     unfold joinJ
     rw [HBASE.out, HSP.out (by rw [if_pos (by simpa using hE)])])
    have HZ := Lib.hid HK6.out.bz
    have g0 := HK6.out.box.cell 0
    have g1 := HK6.out.box.cell 1
    have g3 := HK6.out.box.cell 3
    have b0 := HZ.out.cell 0
    have b1 := HZ.out.cell 1
    have b2 := HZ.out.cell 2
    have b3 := HZ.out.cell 3
    have f0 := HZ.out.frozen 0
    have f1 := HZ.out.frozen 1
    have f2 := HZ.out.frozen 2
    have f3 := HZ.out.frozen 3
    clear hE hat HST HSP HP HAT
    go_wp2
    refine ret_store4 (x := .bool false) HZ.out (by intro W c0 c1 c2 c3; simp [results, Tryz.results28, go_sem, c0, c1, c2, c3]) ?_
    intro W hW hF
    exact joinW_none HX.out (HK6.out.below.trans (hF.below HK6.out.below.size (fun k hk => by have := HK6.out.ge.2.2; omega)))
 case neg =>
 obtain rfl : k = x.preds.length := by omega
 rw [List.take_length] at HP
 obtain ⟨Wo, hWo⟩ : ∃ Wo : Ob, (⟨atoms', funs', P, []⟩ : Ob) = Wo := ⟨_, rfl⟩
 have HX : Hid (r = some ⟨atoms', funs', P, o.code ++ x.code.map (insJ Wo x base)⟩) := Lib.hid (by
  rw [← HR.out, ← hWo]
  unfold joinJ
  rw [HBASE.out, HP.out, HATO.out, HFUN.out])
 have HWO := Lib.hid hWo
 have HPL : Hid (P.length ≤ 200000) := Lib.hid (by have h1 := predsJ_len _ _ _ HP.out; omega)
 have HSM2 : Hid (atoms'.length ≤ 1000000 ∧ funs'.length ≤ 1000000) := Lib.hid (by
  have h1 := addAll_len x.atoms o.atoms
  have h2 := addAll_len x.funs o.funs
  rw [HATO.out] at h1
  rw [HFUN.out] at h2
  omega)
 obtain ⟨we, hwe⟩ : ∃ we, wr = we := ⟨_, rfl⟩
 rw [hwe] at HK x0 ⊢
 clear hwe HO HP HR hWo hkl hlt
 go_upto_region 25 with (fail)
 clear x0
 obtain ⟨Ap, cp, hup⟩ : ∃ Ap cp, (Value.slice A0 P.length c0) = .slice Ap P.length cp := ⟨_, _, rfl⟩
 rw [hup] at HK
 clear hup
 have HSM3 : Hid (o.code.length ≤ 1000000) := Lib.hid (by omega)
 obtain ⟨A6, c6, w6, hr6, h6⟩ := first_app slRIns (alloc_below we (.cells #[] 51)) (empty_new we 51 5) (Nat.le_refl _) (CellsAt.below HK.out.at_.code (alloc_below we (.cells #[] 51))) (cells_len insC 5 (fun _ => rfl) _) (cells_flat insC cells_ins _) HSM3.out 27
 have HR6 := Lib.hid hr6
 have q3 := (HK.out.alloc (.cells #[] 51)).box.cell 3
 have z0 := (HK.out.up h6.out.2.1).box.cell 3
 have z1 := (HK.out.up h6.out.2.1).box.frozen 3
 have HO6 := Lib.hid (grown_own h6.out.1 HK.out.below.size rfl rfl)
 have HKc := Lib.hid ((HK.out.up h6.out.2.1).putc (l := o.code) HO6.out)
 have HOc := Lib.hid (own_set_far (p := ⟨I.g, 3, none⟩) HO6.out (fun k hk => own_ne_box HO6.out (HK.out.up h6.out.2.1).box (by decide) k hk) (.slice A6 o.code.length c6))
 clear hr6
 go_upto_region 26 with (at_builtin; refine wpList_of_append HR6.out rfl _ _ rfl rfl rfl ?_)
 obtain ⟨wp, hwp⟩ : ∃ wp, w6.setCell ⟨I.g, 3, none⟩ (.slice A6 o.code.length c6) = wp := ⟨_, rfl⟩
 rw [hwp] at HKc HOc ⊢
 clear hwp q3 z0 z1 h6 HK HR6 HO6
 have R0 : Hid (o.code = o.code ++ (x.code.take 0).map (insJ Wo x base)) := Lib.hid (by simp)
 go_wp2
 go_loopw [12, 13, 14, 15, 16, 169, 182, 195, 214] (fun i _ _ _ _ _ _ _ _ wr => ∃ (k : Nat) (cd : List Ins) (A : Option Addr) (c : Nat), k ≤ x.code.length ∧ i = .int .i64 k ∧ Hid (cd = o.code ++ (x.code.take k).map (insJ Wo x base)) ∧ Hid (Jn S w wr I #[.slice B1 x.atoms.length e1, .slice B2 x.funs.length e2, .slice B3 x.preds.length e3, .slice B4 x.code.length e4] (.slice Aa atoms'.length ca) (.slice Af funs'.length cf) (.slice Ap P.length cp) (.slice A cd.length c) ⟨atoms', funs', P, cd⟩) ∧ Hid (wr.ownsRow w.heap.size 51 5 (.slice A cd.length c) cd.length (cd.flatMap insC))) (fun i _ _ _ _ _ _ _ _ _ => x.code.length - (intOf i).toNat)
 case atStart => exact ⟨0, _, _, _, by omega, rfl, R0, HKc, HOc⟩
 obtain ⟨k, cd, A0, c0, hkl, rfl, HCD, HK, HO⟩ := hrel
 clear R0 HKc HOc
 have x0 := HK.out.bx.cell 3
 by_cases hlt : k < x.code.length
 case neg =>
  obtain rfl : k = x.code.length := by omega
  have HX2 : Hid (r = some ⟨atoms', funs', P, cd⟩) := Lib.hid (by rw [HX.out, HCD.out, List.take_length])
  have HZ := Lib.hid HK.out.bz
  have g0 := HK.out.box.cell 0
  have g1 := HK.out.box.cell 1
  have g2 := HK.out.box.cell 2
  have g3 := HK.out.box.cell 3
  have b0 := HZ.out.cell 0
  have b1 := HZ.out.cell 1
  have b2 := HZ.out.cell 2
  have b3 := HZ.out.cell 3
  have f0 := HZ.out.frozen 0
  have f1 := HZ.out.frozen 1
  have f2 := HZ.out.frozen 2
  have f3 := HZ.out.frozen 3
  go_wp2
  refine ret_store4 (x := .bool true) HZ.out (by intro W c0 c1 c2 c3; simp [results, Tryz.results28, go_sem, c0, c1, c2, c3]) ?_
  intro W hW hF
  exact joinW_some HX2.out (HK.out.below.trans (hF.below HK.out.below.size (fun k hk => by have := HK.out.ge.2.2; omega))) (HK.out.after HS0.out hF)
 obtain ⟨b, off, rfl, hb, hc0, hc1, hc2, hc3, hc4⟩ := insCell HU.out.code k hlt
 have d0 := (HK.out.below.cell (p := ⟨b, off + k * 5, none⟩) hb).trans hc0
 have d1 := (HK.out.below.cell (p := ⟨b, off + k * 5 + 1, none⟩) hb).trans hc1
 have d2 := (HK.out.below.cell (p := ⟨b, off + k * 5 + 2, none⟩) hb).trans hc2
 have d3 := (HK.out.below.cell (p := ⟨b, off + k * 5 + 3, none⟩) hb).trans hc3
 have d4 := (HK.out.below.cell (p := ⟨b, off + k * 5 + 4, none⟩) hb).trans hc4
 have HOPj := Lib.hid (HOPS.out _ (List.getElem_mem hlt))
 have HCD2 : Hid (o.code ++ (x.code.take (k + 1)).map (insJ Wo x base) = cd ++ [insJ Wo x base x.code[k]]) := Lib.hid (by rw [List.take_succ_eq_append_getElem hlt, List.map_append, ← List.append_assoc, ← HCD.out]; rfl)
 have HCL : Hid (cd.length ≤ 1000000) := Lib.hid (by rw [HCD.out]; simp; omega)
 have HAE := Lib.hid (argC_end Wo x base x.code[k])
 have HAS := Lib.hid (argC_start (fun j => opdJ Wo x base ((opsOf x.code[k].1).getD j 0) ((argOf x.code[k]).getD j 0)) x.code[k])
 have i1 : (k : Int) < (x.code.length : Int) := by omega
 have i2 : (0 : Int) ≤ (k : Int) := by omega
 obtain ⟨wo, hwo⟩ : ∃ wo, wr = wo := ⟨_, rfl⟩
 rw [hwo] at HK HO d0 d1 d2 d3 d4 x0 ⊢
 clear hwo hc0 hc1 hc2 hc3 hc4 hb HCD
 generalize hii : x.code[k] = ii at d0 d1 d2 d3 d4 HOPj HCD2 HAE HAS
 clear hii
 generalize insJ Wo x base ii = i' at HCD2 HAE
 have HK5 := Lib.hid (HK.out.alloc (.cells (insC ii).toArray 51))
 have HO5 := Lib.hid (own_fr (S := fun _ => False) HO.out ((Fr.refl _ wo).alloc (.cells (insC ii).toArray 51)) (fun _ _ x => x))
 have Y5 := Lib.hid (Box.new wo 51 (insC ii).toArray)
 have HNC : Hid ((Value.slice A0 cd.length c0).ownBlock ≠ some wo.heap.size) := Lib.hid (own_lt' HO.out (Nat.le_refl _))
 have HGI : Hid (w.heap.size ≤ wo.heap.size) := Lib.hid HK.out.below.size
 obtain ⟨op, v0, v1, v2, v3⟩ := ii
 simp only [insC] at HK5 HO5 Y5 d0 d1 d2 d3 d4
 go_upto_region 30 with (fail)
 obtain ⟨w5, hw5⟩ : ∃ w5, wo.alloc (.cells #[.int .i64 op, .int .i64 v0, .int .i64 v1, .int .i64 v2, .int .i64 v3] 51) = w5 := ⟨_, rfl⟩
 have hw5' : wo.alloc (.cells [.int .i64 op, .int .i64 v0, .int .i64 v1, .int .i64 v2, .int .i64 v3].toArray 51) = w5 := hw5
 obtain ⟨gi, hgi⟩ : ∃ gi, wo.heap.size = gi := ⟨_, rfl⟩
 rw [hw5'] at HK5 HO5 Y5
 rw [hw5]
 rw [hgi] at Y5 HNC HGI ⊢
 obtain ⟨L, hL⟩ : ∃ L, opsOf op = L := ⟨_, rfl⟩
 obtain ⟨zs, hzs⟩ : ∃ zs, argOf (op, v0, v1, v2, v3) = zs := ⟨_, rfl⟩
 simp only at HOPj HAE HAS
 rw [hL, hzs] at HOPj HAE HAS
 obtain ⟨F, hF⟩ : ∃ F : Nat → Int, (fun j => opdJ Wo x base (L.getD j 0) (zs.getD j 0)) = F := ⟨_, rfl⟩
 obtain ⟨G, hG⟩ : ∃ G : Nat → Int, (fun j => zs.getD j 0) = G := ⟨_, rfl⟩
 have HFJ0 : Hid (∀ j, opdJ Wo x base (L.getD j 0) (G j) = F j) := Lib.hid (fun j => by rw [← hF, ← hG])
 have HOPk : Hid (∀ j, j < L.length → OpdOk x (L.getD j 0) (G j)) := Lib.hid (fun j hj => by rw [← hG]; exact HOPj.out j hj)
 rw [hF, hG] at HAE HAS
 have hfew := ops_few op
 rw [hL] at hfew
 have Y5 : Hid (Box w5 gi 51 (argC op (midA F G 0)).toArray) := Lib.hid (by rw [HAS.out]; exact Y5.out)
 have HOPR := Lib.hid (fun w => roperands_any op w)
 rw [hL] at HOPR
 have y0 : w5.cell? ⟨gi, 0, none⟩ = some (.int .i64 op) := by rw [Y5.out.cell 0]; rfl
 obtain ⟨gl, hgl⟩ : ∃ gl, w5.heap.size = gl := ⟨_, rfl⟩
 have HGL := Lib.hid hgl
 clear hw5 hw5' hgi hL hzs hF hG hgl d0 d1 d2 d3 d4 x0 HOPj HAS HK HO
 go_upto_region 31 with (go_at_call 14; refine (HOPR.out _).mono ?_; rintro e6 w6 hN; obtain ⟨pl, rfl, hb6, hl6⟩ := newInts_any9 hN; rw [HGL.out] at hl6; have HK6 := Lib.hid (HK5.out.up hb6); have HO6 := Lib.hid (own_fr (S := fun _ => False) HO5.out (Fr.of_below hb6) (fun _ _ x => x)); have Y6 := Lib.hid (Y5.out.below hb6 Y5.out.lt); have L6 := Lib.hid hl6; clear hN hb6 hl6)
 clear y0 HK5 HO5 Y5 HOPR
 go_wp2
 go_loopw [15, 16, 169, 182, 195, 214] (fun j _ _ _ _ _ wr => ∃ (m : Nat), m ≤ L.length ∧ j = .int .i64 m ∧ Hid (Jn S w wr I #[.slice B1 x.atoms.length e1, .slice B2 x.funs.length e2, .slice B3 x.preds.length e3, .slice (some ⟨b, off, none⟩) x.code.length e4] (.slice Aa atoms'.length ca) (.slice Af funs'.length cf) (.slice Ap P.length cp) (.slice A0 cd.length c0) ⟨atoms', funs', P, cd⟩) ∧ Hid (wr.ownsRow w.heap.size 51 5 (.slice A0 cd.length c0) cd.length (cd.flatMap insC)) ∧ Hid (Box wr gi 51 (argC op (midA F G m)).toArray) ∧ Hid (0 < L.length → pl = some ⟨gl, 0, none⟩ ∧ Box wr gl 3 (L.map (Value.int .i64)).toArray)) (fun j _ _ _ _ _ _ => L.length - (intOf j).toNat)
 case atStart => exact ⟨0, by omega, rfl, HK6, HO6, Y6, L6⟩
 obtain ⟨m, hmL, rfl, HK, HO, Y, HL⟩ := hrel
 clear HK6 HO6 Y6 L6
 by_cases hlm : m < L.length
 case neg =>
  obtain rfl : m = L.length := by omega
  obtain ⟨p0, b0, b1, b2, b3⟩ := i'
  have Y : Hid (Box wr gi 51 #[.int .i64 p0, .int .i64 b0, .int .i64 b1, .int .i64 b2, .int .i64 b3]) := Lib.hid (by have h := Y.out; rw [HAE.out] at h; exact h)
  have q3 := HK.out.box.cell 3
  have y0 := Y.out.cell 0
  have y1 := Y.out.cell 1
  have y2 := Y.out.cell 2
  have y3 := Y.out.cell 3
  have y4 := Y.out.cell 4
  obtain ⟨v7, w7, hr7, HA7⟩ := app_one slRIns HO.out [.int .i64 p0, .int .i64 b0, .int .i64 b1, .int .i64 b2, .int .i64 b3] rfl (by intro u hu; simp only [List.mem_cons, List.not_mem_nil, or_false] at hu; rcases hu with rfl | rfl | rfl | rfl | rfl <;> rfl) HCL.out HK.out.below.size 27
  obtain ⟨A7, c7, hv7⟩ := HA7.out.form
  subst hv7
  have HR7 := Lib.hid hr7
  obtain ⟨cd2, hcd2⟩ : ∃ cd2, cd ++ [((p0, b0, b1, b2, b3) : Ins)] = cd2 := ⟨_, rfl⟩
  have HLEN : Hid (cd2.length = cd.length + 1) := Lib.hid (by rw [← hcd2]; simp)
  rw [hcd2] at HCD2
  have ha7 : App wr w7 w.heap.size 51 5 (.slice A0 cd.length c0) (.slice A7 (cd.length + 1) c7) cd2.length (cd2.flatMap insC) := by
   have h := HA7.out
   rw [HLEN.out, ← hcd2]
   simpa [insC] using h
  obtain ⟨k8, o8, z0, z1⟩ := HK.out.appc HO.out ha7
  have HK8 := Lib.hid k8
  have HO8 := Lib.hid o8
  clear hr7 ha7 k8 o8 hcd2 HA7 HFJ0 HOPk HAE
  go_wp2_with (at_builtin; refine wpList_of_append HR7.out rfl _ _ rfl rfl rfl ?_)
  go_roundw
  case rel => first | exact ⟨k + 1, cd2, A7, c7, by omega, by go_num, Lib.hid HCD2.out.symm, Lib.hid (by rw [HLEN.out]; exact HK8.out), Lib.hid (by have h := HO8.out; rw [HLEN.out] at h ⊢; exact h)⟩ | ((repeat apply Exists.intro); exact ⟨⟨k + 1, cd2, A7, c7, by omega, by go_num, Lib.hid HCD2.out.symm, Lib.hid (by rw [HLEN.out]; exact HK8.out), Lib.hid (by have h := HO8.out; rw [HLEN.out] at h ⊢; exact h)⟩, rfl⟩)
  case measure => simp [intOf]; omega
 obtain ⟨rfl, hbl⟩ := HL.out (by omega)
 have hkd : wr.cell? ⟨gl, m, none⟩ = some (.int .i64 (L.getD m 0)) := by rw [hbl.cell m]; simp [hlm]
 have HGA : Hid ((argC op (midA F G m)).toArray[1 + m]? = some (.int .i64 (G m))) := Lib.hid (by rw [argC_at op _ m (by omega)]; simp [midA])
 have HGS := Lib.hid (argC_step op F G m (by omega))
 have HL : Hid (0 < L.length → (some ⟨gl, 0, none⟩ : Option Addr) = some ⟨gl, 0, none⟩ ∧ Box wr gl 3 (L.map (Value.int .i64)).toArray) := Lib.hid (fun h => ⟨by trivial, hbl⟩)
 have hm4 : (m : Int) < 4 := by omega
 have hm0 : (0 : Int) ≤ (m : Int) := by omega
 have hmL2 : (m : Int) < (L.length : Int) := by omega
 have hzm := Y.out.cell (1 + m)
 rw [HGA.out] at hzm
 have HFJ := Lib.hid (HFJ0.out m)
 have HOK := Lib.hid (HOPk.out m hlm)
 clear hbl HFJ0 HOPk HAE
 generalize L.getD m 0 = kd at hkd HFJ HOK
 obtain ⟨zm, hzz⟩ : ∃ zm, G m = zm := ⟨_, rfl⟩
 rw [hzz] at hzm HFJ HOK HGA
 have HZZ := Lib.hid hzz
 clear hzz
 by_cases h3 : kd = 3
 case pos =>
  subst h3
  obtain ⟨hn0, hn1⟩ := HOK.out.1 rfl
  obtain ⟨zk, rfl⟩ := Int.eq_ofNat_of_zero_le hn0
  have hzk : zk < x.atoms.length := by omega
  obtain ⟨bb, of2, rfl, hb, hc⟩ := atomCell HU.out.atoms zk hzk
  have hin : x.atoms[zk] ∈ atoms' := by rw [← HATO.out]; exact (addAll_in x.atoms o.atoms).1 _ (List.getElem_mem hzk)
  have hFm : idxI atoms' x.atoms[zk] = F m := by
   rw [← HFJ.out, opdJ, if_pos rfl, ← HWO.out, idxI, if_pos hin]
   simp [List.getD_eq_getElem?_getD, List.getElem?_eq_getElem hzk]
  have HC0 := Lib.hid hc
  have HBB := Lib.hid hb
  generalize x.atoms[zk] = s at hFm HC0
  have HAT : Hid (∀ (W : World), Below wr.heap.size wr W → Calls Tryz.prog 61 #[.slice Aa atoms'.length ca, .string s] W fun e w' => e = .returned (.int .i64 (F m)) ∧ Below W.heap.size W w') := Lib.hid (fun W hb => (ratom_any atoms' HSM2.out.1 (.slice Aa atoms'.length ca) s W (HK.out.up hb).at_.atoms).mono (fun e w' h => ⟨by rw [h.1, hFm], by rw [← h.2]; exact Below.refl _ _⟩))
  have HS : Hid (∀ W : World, Below wr.heap.size wr W → (fun w' => w'.cell? ⟨I.g, 0, none⟩ = some (.slice Aa atoms'.length ca) ∧ w'.cell? ⟨I.x, 0, none⟩ = some (.slice (some ⟨bb, of2, none⟩) x.atoms.length e1) ∧ w'.cell? ⟨bb, of2 + zk, none⟩ = some (.string s)) W) := Lib.hid (fun W hb' => ⟨(HK.out.up hb').box.cell 0, (HK.out.up hb').bx.cell 0, ((HK.out.up hb').below.cell (p := ⟨bb, of2 + zk, none⟩) HBB.out).trans HC0.out⟩)
  have j1 : (zk : Int) < (x.atoms.length : Int) := by omega
  have j0 : (0 : Int) ≤ (zk : Int) := by omega
  clear hb hc hin hFm hn0 hn1 HFJ HOK
  go_upto_region 37 with (fail)
  clear hzm hkd
  refine wp_region_noPanic ?_
  refine wp_region_T 11 (fun w' => w'.cell? ⟨I.g, 0, none⟩ = some (.slice Aa atoms'.length ca) ∧ w'.cell? ⟨I.x, 0, none⟩ = some (.slice (some ⟨bb, of2, none⟩) x.atoms.length e1) ∧ w'.cell? ⟨bb, of2 + zk, none⟩ = some (.string s)) (by kernel_rfl) ?_ (fun hHeld => ?_)
  ·exact HS.out _ ⟨rfl, rfl, rfl, Nat.le_refl _, fun _ _ => rfl⟩
  change wpAnyT _ _ _ _ _ _ _ _ _ (wr.drewN 1)
  replace hHeld : (wr.drewN 1).cell? ⟨I.g, 0, none⟩ = some (.slice Aa atoms'.length ca) ∧ (wr.drewN 1).cell? ⟨I.x, 0, none⟩ = some (.slice (some ⟨bb, of2, none⟩) x.atoms.length e1) ∧ (wr.drewN 1).cell? ⟨bb, of2 + zk, none⟩ = some (.string s) := hHeld
  have HBd : Hid (Below wr.heap.size wr (wr.drewN 1)) := Lib.hid ⟨rfl, rfl, rfl, Nat.le_refl _, fun _ _ => rfl⟩
  generalize wr.drewN 1 = w2 at HBd hHeld ⊢
  refine tP (i := 0) (v := ?_) rfl ?_ ?_
  rotate_left
  ·(intro w hSw; (try dsimp only at hSw); go_simp; try with_reducible rfl)
  try simp only [qA, qB, qC, Act.put, qD, qE, qF]
  refine tP (i := 1) (v := ?_) rfl ?_ ?_
  rotate_left
  ·(intro w hSw; (try dsimp only at hSw); go_simp; try with_reducible rfl)
  try simp only [qA, qB, qC, Act.put, qD, qE, qF]
  refine tS (i := 2) (v := ?_) rfl ?_ hHeld ?_
  rotate_left
  ·(intro w hSw; (try dsimp only at hSw); go_simp; try with_reducible rfl)
  try simp only [qA, qB, qC, Act.put, qD, qE, qF]
  refine tP (i := 3) (v := ?_) rfl ?_ ?_
  rotate_left
  ·(intro w hSw; (try dsimp only at hSw); go_simp; try with_reducible rfl)
  try simp only [qA, qB, qC, Act.put, qD, qE, qF]
  refine tS (i := 4) (v := ?_) rfl ?_ hHeld ?_
  rotate_left
  ·(intro w hSw; (try dsimp only at hSw); go_simp; try with_reducible rfl)
  try simp only [qA, qB, qC, Act.put, qD, qE, qF]
  refine tP (i := 5) (v := ?_) rfl ?_ ?_
  rotate_left
  ·(intro w hSw; (try dsimp only at hSw); go_simp; try with_reducible rfl)
  try simp only [qA, qB, qC, Act.put, qD, qE, qF]
  refine tP (i := 6) (v := ?_) rfl ?_ ?_
  rotate_left
  ·(intro w hSw; (try dsimp only at hSw); go_simp; try with_reducible rfl)
  try simp only [qA, qB, qC, Act.put, qD, qE, qF]
  refine tS (i := 7) (v := ?_) rfl ?_ hHeld ?_
  rotate_left
  ·(intro w hSw; (try dsimp only at hSw); go_simp; try with_reducible rfl)
  try simp only [qA, qB, qC, Act.put, qD, qE, qF]
  refine tP (i := 9) (v := ?_) rfl ?_ ?_
  rotate_left
  ·(intro w hSw; (try dsimp only at hSw); go_simp; try with_reducible rfl)
  try simp only [qA, qB, qC, Act.put, qD, qE, qF]
  refine wpAnyT_ready (rs := [8]) (by kernel_rfl) (by simp) ?_
  refine AllT.cons (o := _) rfl (fun K hK => ?_) AllT.nil
  go_simp
  go_at_call 61; refine (HAT.out _ HBd.out).mono ?_; rintro e3 w3 ⟨rfl, hb3⟩; have HBe := Lib.hid (HBd.out.trans (hb3.mono HBd.out.size)); have Y3 := Lib.hid (Y.out.below HBe.out Y.out.lt); have HK3 := Lib.hid (HK.out.up HBe.out); have HO3 := Lib.hid (own_fr (S := fun _ => False) HO.out (Fr.of_below HBe.out) (fun _ _ x => x)); have HK4 := Lib.hid (HK3.out.far Y3.out HGI.out HNC.out (1 + m) (.int .i64 (F m))); have HO4 := Lib.hid (own_set_far (p := ⟨gi, 1 + m, none⟩) HO3.out (fun k hk e => HNC.out (by rw [hk, e])) (.int .i64 (F m))); have HY4 := Lib.hid (Y3.out.set_ (1 + m) (.int .i64 (F m))); rw [HGS.out] at HY4; have L4 : Hid (0 < L.length → (some ⟨gl, 0, none⟩ : Option Addr) = some ⟨gl, 0, none⟩ ∧ Box (w3.setCell ⟨gi, 1 + m, none⟩ (.int .i64 (F m))) gl 3 (L.map (Value.int .i64)).toArray) := Lib.hid (fun h => ⟨(HL.out h).1, ((HL.out h).2.below HBe.out (HL.out h).2.lt).far (p := ⟨gi, 1 + m, none⟩) (((HL.out h).2.below HBe.out (HL.out h).2.lt).ne_ Y3.out (by decide)) _⟩); clear hb3
  refine hK.out _ _ (fun _ => ?_) (fun hHeld2 => ?_)
  ·exact HS.out _ HBe.out
  replace hHeld := hHeld2 (by decide)
  clear hHeld2 hK K
  try simp only [qA, qB, qC, Act.put, qD, qE, qF]
  refine tP (i := 10) (v := ?_) rfl ?_ ?_
  rotate_left
  ·(intro w hSw; (try dsimp only at hSw); go_simp; try with_reducible rfl)
  try simp only [qA, qB, qC, Act.put, qD, qE, qF]
  refine wpAnyT_ready (rs := [11]) (by kernel_rfl) (by simp) ?_
  refine AllT.cons (o := _) rfl (fun K hK => ?_) AllT.nil
  have z0 := Y3.out.cell (1 + m)
  have z1 := Y3.out.frozen (1 + m)
  rw [HGA.out] at z0
  go_simp
  refine hK.out _ _ (fun h => absurd h (by decide)) (fun _ => ?_)
  clear hK K
  try simp only [qA, qB, qC, Act.put, qD, qE, qF]
  refine wpAnyT_done (by kernel_rfl) (NoPanic.normal ?_) _
  go_wp2
  go_roundw
  case rel => exact ⟨m + 1, by omega, by go_num, HK4, HO4, HY4, Lib.hid (fun h => ⟨by trivial, (L4.out h).2⟩)⟩
  case measure => simp [intOf]; omega
 by_cases h4 : kd = 4
 case pos =>
  subst h4
  obtain ⟨hn0, hn1⟩ := HOK.out.2.1 rfl
  obtain ⟨zk, rfl⟩ := Int.eq_ofNat_of_zero_le hn0
  have hzk : zk < x.funs.length := by omega
  obtain ⟨bb, of2, rfl, hb, hc0, hc1⟩ := funCell HU.out.funs zk hzk
  have hin : (x.funs[zk].1, x.funs[zk].2) ∈ funs' := by rw [← HFUN.out]; exact (addAll_in x.funs o.funs).1 _ (List.getElem_mem hzk)
  have hFm : idxI funs' (x.funs[zk].1, x.funs[zk].2) = F m := by
   rw [← HFJ.out, opdJ, if_neg (by decide), if_pos rfl, ← HWO.out, idxI, if_pos hin]
   simp [List.getD_eq_getElem?_getD, List.getElem?_eq_getElem hzk]
  have HC0 := Lib.hid hc0
  have HC1 := Lib.hid hc1
  have HBB := Lib.hid hb
  generalize x.funs[zk].1 = s at hFm HC0
  generalize x.funs[zk].2 = mm at hFm HC1
  have HAT : Hid (∀ (W : World), Below wr.heap.size wr W → Calls Tryz.prog 62 #[.slice Af funs'.length cf, .agg #[.string s, .int .i64 mm]] W fun e w' => e = .returned (.int .i64 (F m)) ∧ Below W.heap.size W w') := Lib.hid (fun W hb => (rfun_any funs' HSM2.out.2 (.slice Af funs'.length cf) s mm W (HK.out.up hb).at_.funs).mono (fun e w' h => ⟨by rw [h.1, hFm], h.2⟩))
  have HS : Hid (∀ W : World, Below wr.heap.size wr W → (fun w' => w'.cell? ⟨I.g, 1, none⟩ = some (.slice Af funs'.length cf) ∧ w'.cell? ⟨I.x, 1, none⟩ = some (.slice (some ⟨bb, of2, none⟩) x.funs.length e2) ∧ w'.cell? ⟨bb, of2 + zk * 2, none⟩ = some (.string s) ∧ w'.cell? ⟨bb, of2 + zk * 2 + 1, none⟩ = some (.int .i64 mm)) W) := Lib.hid (fun W hb' => ⟨(HK.out.up hb').box.cell 1, (HK.out.up hb').bx.cell 1, ((HK.out.up hb').below.cell (p := ⟨bb, of2 + zk * 2, none⟩) HBB.out).trans HC0.out, ((HK.out.up hb').below.cell (p := ⟨bb, of2 + zk * 2 + 1, none⟩) HBB.out).trans HC1.out⟩)
  have j1 : (zk : Int) < (x.funs.length : Int) := by omega
  have j0 : (0 : Int) ≤ (zk : Int) := by omega
  clear hb hc0 hc1 hin hFm hn0 hn1 HFJ HOK
  go_upto_region 39 with (fail)
  clear hzm hkd
  refine wp_region_noPanic ?_
  refine wp_region_T 11 (fun w' => w'.cell? ⟨I.g, 1, none⟩ = some (.slice Af funs'.length cf) ∧ w'.cell? ⟨I.x, 1, none⟩ = some (.slice (some ⟨bb, of2, none⟩) x.funs.length e2) ∧ w'.cell? ⟨bb, of2 + zk * 2, none⟩ = some (.string s) ∧ w'.cell? ⟨bb, of2 + zk * 2 + 1, none⟩ = some (.int .i64 mm)) (by kernel_rfl) ?_ (fun hHeld => ?_)
  ·exact HS.out _ ⟨rfl, rfl, rfl, Nat.le_refl _, fun _ _ => rfl⟩
  change wpAnyT _ _ _ _ _ _ _ _ _ (wr.drewN 1)
  replace hHeld : (wr.drewN 1).cell? ⟨I.g, 1, none⟩ = some (.slice Af funs'.length cf) ∧ (wr.drewN 1).cell? ⟨I.x, 1, none⟩ = some (.slice (some ⟨bb, of2, none⟩) x.funs.length e2) ∧ (wr.drewN 1).cell? ⟨bb, of2 + zk * 2, none⟩ = some (.string s) ∧ (wr.drewN 1).cell? ⟨bb, of2 + zk * 2 + 1, none⟩ = some (.int .i64 mm) := hHeld
  have HBd : Hid (Below wr.heap.size wr (wr.drewN 1)) := Lib.hid ⟨rfl, rfl, rfl, Nat.le_refl _, fun _ _ => rfl⟩
  generalize wr.drewN 1 = w2 at HBd hHeld ⊢
  refine tP (i := 0) (v := ?_) rfl ?_ ?_
  rotate_left
  ·(intro w hSw; (try dsimp only at hSw); go_simp; try with_reducible rfl)
  try simp only [qA, qB, qC, Act.put, qD, qE, qF]
  refine tP (i := 1) (v := ?_) rfl ?_ ?_
  rotate_left
  ·(intro w hSw; (try dsimp only at hSw); go_simp; try with_reducible rfl)
  try simp only [qA, qB, qC, Act.put, qD, qE, qF]
  refine tS (i := 2) (v := ?_) rfl ?_ hHeld ?_
  rotate_left
  ·(intro w hSw; (try dsimp only at hSw); go_simp; try with_reducible rfl)
  try simp only [qA, qB, qC, Act.put, qD, qE, qF]
  refine tP (i := 3) (v := ?_) rfl ?_ ?_
  rotate_left
  ·(intro w hSw; (try dsimp only at hSw); go_simp; try with_reducible rfl)
  try simp only [qA, qB, qC, Act.put, qD, qE, qF]
  refine tS (i := 4) (v := ?_) rfl ?_ hHeld ?_
  rotate_left
  ·(intro w hSw; (try dsimp only at hSw); go_simp; try with_reducible rfl)
  try simp only [qA, qB, qC, Act.put, qD, qE, qF]
  refine tP (i := 5) (v := ?_) rfl ?_ ?_
  rotate_left
  ·(intro w hSw; (try dsimp only at hSw); go_simp; try with_reducible rfl)
  try simp only [qA, qB, qC, Act.put, qD, qE, qF]
  refine tP (i := 6) (v := ?_) rfl ?_ ?_
  rotate_left
  ·(intro w hSw; (try dsimp only at hSw); go_simp; try with_reducible rfl)
  try simp only [qA, qB, qC, Act.put, qD, qE, qF]
  refine tS (i := 7) (v := ?_) rfl ?_ hHeld ?_
  rotate_left
  ·(intro w hSw; (try dsimp only at hSw); go_simp; try with_reducible rfl)
  try simp only [qA, qB, qC, Act.put, qD, qE, qF]
  refine tP (i := 9) (v := ?_) rfl ?_ ?_
  rotate_left
  ·(intro w hSw; (try dsimp only at hSw); go_simp; try with_reducible rfl)
  try simp only [qA, qB, qC, Act.put, qD, qE, qF]
  refine wpAnyT_ready (rs := [8]) (by kernel_rfl) (by simp) ?_
  refine AllT.cons (o := _) rfl (fun K hK => ?_) AllT.nil
  go_simp
  go_at_call 62; refine (HAT.out _ HBd.out).mono ?_; rintro e3 w3 ⟨rfl, hb3⟩; have HBe := Lib.hid (HBd.out.trans (hb3.mono HBd.out.size)); have Y3 := Lib.hid (Y.out.below HBe.out Y.out.lt); have HK3 := Lib.hid (HK.out.up HBe.out); have HO3 := Lib.hid (own_fr (S := fun _ => False) HO.out (Fr.of_below HBe.out) (fun _ _ x => x)); have HK4 := Lib.hid (HK3.out.far Y3.out HGI.out HNC.out (1 + m) (.int .i64 (F m))); have HO4 := Lib.hid (own_set_far (p := ⟨gi, 1 + m, none⟩) HO3.out (fun k hk e => HNC.out (by rw [hk, e])) (.int .i64 (F m))); have HY4 := Lib.hid (Y3.out.set_ (1 + m) (.int .i64 (F m))); rw [HGS.out] at HY4; have L4 : Hid (0 < L.length → (some ⟨gl, 0, none⟩ : Option Addr) = some ⟨gl, 0, none⟩ ∧ Box (w3.setCell ⟨gi, 1 + m, none⟩ (.int .i64 (F m))) gl 3 (L.map (Value.int .i64)).toArray) := Lib.hid (fun h => ⟨(HL.out h).1, ((HL.out h).2.below HBe.out (HL.out h).2.lt).far (p := ⟨gi, 1 + m, none⟩) (((HL.out h).2.below HBe.out (HL.out h).2.lt).ne_ Y3.out (by decide)) _⟩); clear hb3
  refine hK.out _ _ (fun _ => ?_) (fun hHeld2 => ?_)
  ·exact HS.out _ HBe.out
  replace hHeld := hHeld2 (by decide)
  clear hHeld2 hK K
  try simp only [qA, qB, qC, Act.put, qD, qE, qF]
  refine tP (i := 10) (v := ?_) rfl ?_ ?_
  rotate_left
  ·(intro w hSw; (try dsimp only at hSw); go_simp; try with_reducible rfl)
  try simp only [qA, qB, qC, Act.put, qD, qE, qF]
  refine wpAnyT_ready (rs := [11]) (by kernel_rfl) (by simp) ?_
  refine AllT.cons (o := _) rfl (fun K hK => ?_) AllT.nil
  have z0 := Y3.out.cell (1 + m)
  have z1 := Y3.out.frozen (1 + m)
  rw [HGA.out] at z0
  go_simp
  refine hK.out _ _ (fun h => absurd h (by decide)) (fun _ => ?_)
  clear hK K
  try simp only [qA, qB, qC, Act.put, qD, qE, qF]
  refine wpAnyT_done (by kernel_rfl) (NoPanic.normal ?_) _
  go_wp2
  go_roundw
  case rel => exact ⟨m + 1, by omega, by go_num, HK4, HO4, HY4, Lib.hid (fun h => ⟨by trivial, (L4.out h).2⟩)⟩
  case measure => simp [intOf]; omega
 by_cases h7 : kd = 7
 case pos =>
  subst h7
  obtain ⟨hn0, hn1⟩ := HOK.out.2.2.1 rfl
  obtain ⟨zk, rfl⟩ := Int.eq_ofNat_of_zero_le hn0
  have hzk : zk < x.preds.length := by omega
  obtain ⟨bb, of2, rfl, hb, hc0, hc1, hc2⟩ := predCell HU.out.preds zk hzk
  have hFm : findFrom x.preds[zk].1 x.preds[zk].2.1 0 P = F m := by
   rw [← HFJ.out, opdJ, if_neg (by decide), if_neg (by decide), if_pos rfl, ← HWO.out]
   simp [List.getD_eq_getElem?_getD, List.getElem?_eq_getElem hzk]
  have HC0 := Lib.hid hc0
  have HC1 := Lib.hid hc1
  have HBB := Lib.hid hb
  generalize x.preds[zk].1 = s at hFm HC0
  generalize x.preds[zk].2.1 = mm at hFm HC1
  have HAT : Hid (∀ (W : World), Below wr.heap.size wr W → Calls Tryz.prog 29 #[.agg #[.slice Aa atoms'.length ca, .slice Af funs'.length cf, .slice Ap P.length cp, .slice A0 cd.length c0], .string s, .int .i64 mm] W fun e w' => e = .returned (.int .i64 (F m)) ∧ Below W.heap.size W w') := Lib.hid (fun W hb => (rfind_any Aa Af A0 atoms'.length ca funs'.length cf cd.length c0 P (by have := HPL.out; omega) (.slice Ap P.length cp) s mm W (HK.out.up hb).at_.preds).mono (fun e w' h => ⟨by rw [h.1, hFm], h.2⟩))
  have HS : Hid (∀ W : World, Below wr.heap.size wr W → (fun w' => w'.cell? ⟨I.g, 0, none⟩ = some (.slice Aa atoms'.length ca) ∧ w'.cell? ⟨I.g, 1, none⟩ = some (.slice Af funs'.length cf) ∧ w'.cell? ⟨I.g, 2, none⟩ = some (.slice Ap P.length cp) ∧ w'.cell? ⟨I.g, 3, none⟩ = some (.slice A0 cd.length c0) ∧ w'.cell? ⟨I.x, 2, none⟩ = some (.slice (some ⟨bb, of2, none⟩) x.preds.length e3) ∧ w'.cell? ⟨bb, of2 + zk * 3, none⟩ = some (.string s) ∧ w'.cell? ⟨bb, of2 + zk * 3 + 1, none⟩ = some (.int .i64 mm)) W) := Lib.hid (fun W hb' => ⟨(HK.out.up hb').box.cell 0, (HK.out.up hb').box.cell 1, (HK.out.up hb').box.cell 2, (HK.out.up hb').box.cell 3, (HK.out.up hb').bx.cell 2, ((HK.out.up hb').below.cell (p := ⟨bb, of2 + zk * 3, none⟩) HBB.out).trans HC0.out, ((HK.out.up hb').below.cell (p := ⟨bb, of2 + zk * 3 + 1, none⟩) HBB.out).trans HC1.out⟩)
  have j1 : (zk : Int) < (x.preds.length : Int) := by omega
  have j0 : (0 : Int) ≤ (zk : Int) := by omega
  clear hb hc0 hc1 hc2 hFm hn0 hn1 HFJ HOK
  go_upto_region 41 with (fail)
  clear hzm hkd
  refine wp_region_noPanic ?_
  refine wp_region_T 17 (fun w' => w'.cell? ⟨I.g, 0, none⟩ = some (.slice Aa atoms'.length ca) ∧ w'.cell? ⟨I.g, 1, none⟩ = some (.slice Af funs'.length cf) ∧ w'.cell? ⟨I.g, 2, none⟩ = some (.slice Ap P.length cp) ∧ w'.cell? ⟨I.g, 3, none⟩ = some (.slice A0 cd.length c0) ∧ w'.cell? ⟨I.x, 2, none⟩ = some (.slice (some ⟨bb, of2, none⟩) x.preds.length e3) ∧ w'.cell? ⟨bb, of2 + zk * 3, none⟩ = some (.string s) ∧ w'.cell? ⟨bb, of2 + zk * 3 + 1, none⟩ = some (.int .i64 mm)) (by kernel_rfl) ?_ (fun hHeld => ?_)
  ·exact HS.out _ ⟨rfl, rfl, rfl, Nat.le_refl _, fun _ _ => rfl⟩
  change wpAnyT _ _ _ _ _ _ _ _ _ (wr.drewN 1)
  replace hHeld : (wr.drewN 1).cell? ⟨I.g, 0, none⟩ = some (.slice Aa atoms'.length ca) ∧ (wr.drewN 1).cell? ⟨I.g, 1, none⟩ = some (.slice Af funs'.length cf) ∧ (wr.drewN 1).cell? ⟨I.g, 2, none⟩ = some (.slice Ap P.length cp) ∧ (wr.drewN 1).cell? ⟨I.g, 3, none⟩ = some (.slice A0 cd.length c0) ∧ (wr.drewN 1).cell? ⟨I.x, 2, none⟩ = some (.slice (some ⟨bb, of2, none⟩) x.preds.length e3) ∧ (wr.drewN 1).cell? ⟨bb, of2 + zk * 3, none⟩ = some (.string s) ∧ (wr.drewN 1).cell? ⟨bb, of2 + zk * 3 + 1, none⟩ = some (.int .i64 mm) := hHeld
  have HBd : Hid (Below wr.heap.size wr (wr.drewN 1)) := Lib.hid ⟨rfl, rfl, rfl, Nat.le_refl _, fun _ _ => rfl⟩
  generalize wr.drewN 1 = w2 at HBd hHeld ⊢
  refine tP (i := 0) (v := ?_) rfl ?_ ?_
  rotate_left
  ·(intro w hSw; (try dsimp only at hSw); go_simp; try with_reducible rfl)
  try simp only [qA, qB, qC, Act.put, qD, qE, qF]
  refine tS (i := 1) (v := ?_) rfl ?_ hHeld ?_
  rotate_left
  ·(intro w hSw; (try dsimp only at hSw); go_simp; try with_reducible rfl)
  try simp only [qA, qB, qC, Act.put, qD, qE, qF]
  refine tP (i := 2) (v := ?_) rfl ?_ ?_
  rotate_left
  ·(intro w hSw; (try dsimp only at hSw); go_simp; try with_reducible rfl)
  try simp only [qA, qB, qC, Act.put, qD, qE, qF]
  refine tS (i := 3) (v := ?_) rfl ?_ hHeld ?_
  rotate_left
  ·(intro w hSw; (try dsimp only at hSw); go_simp; try with_reducible rfl)
  try simp only [qA, qB, qC, Act.put, qD, qE, qF]
  refine tP (i := 4) (v := ?_) rfl ?_ ?_
  rotate_left
  ·(intro w hSw; (try dsimp only at hSw); go_simp; try with_reducible rfl)
  try simp only [qA, qB, qC, Act.put, qD, qE, qF]
  refine tP (i := 5) (v := ?_) rfl ?_ ?_
  rotate_left
  ·(intro w hSw; (try dsimp only at hSw); go_simp; try with_reducible rfl)
  try simp only [qA, qB, qC, Act.put, qD, qE, qF]
  refine tP (i := 6) (v := ?_) rfl ?_ ?_
  rotate_left
  ·(intro w hSw; (try dsimp only at hSw); go_simp; try with_reducible rfl)
  try simp only [qA, qB, qC, Act.put, qD, qE, qF]
  refine tS (i := 7) (v := ?_) rfl ?_ hHeld ?_
  rotate_left
  ·(intro w hSw; (try dsimp only at hSw); go_simp; try with_reducible rfl)
  try simp only [qA, qB, qC, Act.put, qD, qE, qF]
  refine tP (i := 8) (v := ?_) rfl ?_ ?_
  rotate_left
  ·(intro w hSw; (try dsimp only at hSw); go_simp; try with_reducible rfl)
  try simp only [qA, qB, qC, Act.put, qD, qE, qF]
  refine tS (i := 9) (v := ?_) rfl ?_ hHeld ?_
  rotate_left
  ·(intro w hSw; (try dsimp only at hSw); go_simp; try with_reducible rfl)
  try simp only [qA, qB, qC, Act.put, qD, qE, qF]
  refine tP (i := 10) (v := ?_) rfl ?_ ?_
  rotate_left
  ·(intro w hSw; (try dsimp only at hSw); go_simp; try with_reducible rfl)
  try simp only [qA, qB, qC, Act.put, qD, qE, qF]
  refine tP (i := 11) (v := ?_) rfl ?_ ?_
  rotate_left
  ·(intro w hSw; (try dsimp only at hSw); go_simp; try with_reducible rfl)
  try simp only [qA, qB, qC, Act.put, qD, qE, qF]
  refine tP (i := 12) (v := ?_) rfl ?_ ?_
  rotate_left
  ·(intro w hSw; (try dsimp only at hSw); go_simp; try with_reducible rfl)
  try simp only [qA, qB, qC, Act.put, qD, qE, qF]
  refine tS (i := 13) (v := ?_) rfl ?_ hHeld ?_
  rotate_left
  ·(intro w hSw; (try dsimp only at hSw); go_simp; try with_reducible rfl)
  try simp only [qA, qB, qC, Act.put, qD, qE, qF]
  refine tP (i := 15) (v := ?_) rfl ?_ ?_
  rotate_left
  ·(intro w hSw; (try dsimp only at hSw); go_simp; try with_reducible rfl)
  try simp only [qA, qB, qC, Act.put, qD, qE, qF]
  refine wpAnyT_ready (rs := [14]) (by kernel_rfl) (by simp) ?_
  refine AllT.cons (o := _) rfl (fun K hK => ?_) AllT.nil
  go_simp
  go_at_call 29; refine (HAT.out _ HBd.out).mono ?_; rintro e3 w3 ⟨rfl, hb3⟩; have HBe := Lib.hid (HBd.out.trans (hb3.mono HBd.out.size)); have Y3 := Lib.hid (Y.out.below HBe.out Y.out.lt); have HK3 := Lib.hid (HK.out.up HBe.out); have HO3 := Lib.hid (own_fr (S := fun _ => False) HO.out (Fr.of_below HBe.out) (fun _ _ x => x)); have HK4 := Lib.hid (HK3.out.far Y3.out HGI.out HNC.out (1 + m) (.int .i64 (F m))); have HO4 := Lib.hid (own_set_far (p := ⟨gi, 1 + m, none⟩) HO3.out (fun k hk e => HNC.out (by rw [hk, e])) (.int .i64 (F m))); have HY4 := Lib.hid (Y3.out.set_ (1 + m) (.int .i64 (F m))); rw [HGS.out] at HY4; have L4 : Hid (0 < L.length → (some ⟨gl, 0, none⟩ : Option Addr) = some ⟨gl, 0, none⟩ ∧ Box (w3.setCell ⟨gi, 1 + m, none⟩ (.int .i64 (F m))) gl 3 (L.map (Value.int .i64)).toArray) := Lib.hid (fun h => ⟨(HL.out h).1, ((HL.out h).2.below HBe.out (HL.out h).2.lt).far (p := ⟨gi, 1 + m, none⟩) (((HL.out h).2.below HBe.out (HL.out h).2.lt).ne_ Y3.out (by decide)) _⟩); clear hb3
  refine hK.out _ _ (fun _ => ?_) (fun hHeld2 => ?_)
  ·exact HS.out _ HBe.out
  replace hHeld := hHeld2 (by decide)
  clear hHeld2 hK K
  try simp only [qA, qB, qC, Act.put, qD, qE, qF]
  refine tP (i := 16) (v := ?_) rfl ?_ ?_
  rotate_left
  ·(intro w hSw; (try dsimp only at hSw); go_simp; try with_reducible rfl)
  try simp only [qA, qB, qC, Act.put, qD, qE, qF]
  refine wpAnyT_ready (rs := [17]) (by kernel_rfl) (by simp) ?_
  refine AllT.cons (o := _) rfl (fun K hK => ?_) AllT.nil
  have z0 := Y3.out.cell (1 + m)
  have z1 := Y3.out.frozen (1 + m)
  rw [HGA.out] at z0
  go_simp
  refine hK.out _ _ (fun h => absurd h (by decide)) (fun _ => ?_)
  clear hK K
  try simp only [qA, qB, qC, Act.put, qD, qE, qF]
  refine wpAnyT_done (by kernel_rfl) (NoPanic.normal ?_) _
  go_wp2
  go_roundw
  case rel => exact ⟨m + 1, by omega, by go_num, HK4, HO4, HY4, Lib.hid (fun h => ⟨by trivial, (L4.out h).2⟩)⟩
  case measure => simp [intOf]; omega
 have k3 : (kd == 3) = false := by simpa using h3
 have k4 : (kd == 4) = false := by simpa using h4
 have k7 : (kd == 7) = false := by simpa using h7
 by_cases h8 : kd = 8
 case pos =>
  subst h8
  have hn8 := HOK.out.2.2.2 rfl
  have HE : Hid (F m = if zm ≠ 65535 then base + zm else zm) := Lib.hid (by rw [← HFJ.out, opdJ, if_neg (by decide), if_neg (by decide), if_neg (by decide), if_pos rfl])
  clear h3 h4 h7 HOK k3 k4 k7
  by_cases hz : zm = 65535
  ·have ez : (zm != 65535) = false := by rw [bne_eq_false_iff_eq]; exact hz
   have HFG : Hid (F m = G m) := Lib.hid (by rw [HE.out, if_neg (by simpa using hz), HZZ.out])
   have HYm : Hid (Box wr gi 51 (argC op (midA F G (m + 1))).toArray) := Lib.hid (by rw [midA_same HFG.out]; exact Y.out)
   have HZM := Lib.hid hzm
   clear HFJ HFG hz
   go_wp2
   go_roundw
   case rel => exact ⟨m + 1, by omega, by go_num, HK, HO, HYm, Lib.hid (fun h => ⟨by trivial, (HL.out h).2⟩)⟩
   case measure => simp [intOf]; omega
  ·have ez : (zm != 65535) = true := by rw [bne_iff_ne]; exact hz
   have hwr : wrap64 (base + zm) = base + zm := by rw [wrap64]; omega
   have HE2 : Hid (base + zm = F m) := Lib.hid (by rw [HE.out, if_pos hz])
   have hzf := Y.out.frozen (1 + m)
   have HK4 := Lib.hid (HK.out.far Y.out HGI.out HNC.out (1 + m) (.int .i64 (base + zm)))
   have HO4 := Lib.hid (own_set_far (p := ⟨gi, 1 + m, none⟩) HO.out (fun k hk e => HNC.out (by rw [hk, e])) (.int .i64 (base + zm)))
   have HY4 : Hid (Box (wr.setCell ⟨gi, 1 + m, none⟩ (.int .i64 (base + zm))) gi 51 (argC op (midA F G (m + 1))).toArray) := Lib.hid (by
    have h := Y.out.set_ (1 + m) (.int .i64 (F m))
    rw [HGS.out] at h
    rw [HE2.out]
    exact h)
   have L4 : Hid (0 < L.length → (some ⟨gl, 0, none⟩ : Option Addr) = some ⟨gl, 0, none⟩ ∧ Box (wr.setCell ⟨gi, 1 + m, none⟩ (.int .i64 (base + zm))) gl 3 (L.map (Value.int .i64)).toArray) := Lib.hid (fun h => ⟨(HL.out h).1, (HL.out h).2.far (p := ⟨gi, 1 + m, none⟩) ((HL.out h).2.ne_ Y.out (by decide)) _⟩)
   clear HFJ hz
   go_wp2
   go_roundw
   case rel => exact ⟨m + 1, by omega, by go_num, HK4, HO4, HY4, Lib.hid (fun h => ⟨by trivial, (L4.out h).2⟩)⟩
   case measure => simp [intOf]; omega
 case neg =>
  have k8 : (kd == 8) = false := by simpa using h8
  have HFG : Hid (F m = G m) := Lib.hid (by rw [← HFJ.out, opdJ, if_neg h3, if_neg h4, if_neg h7, if_neg h8, HZZ.out])
  have HYm : Hid (Box wr gi 51 (argC op (midA F G (m + 1))).toArray) := Lib.hid (by rw [midA_same HFG.out]; exact Y.out)
  have HZM := Lib.hid hzm
  clear HFJ HFG h3 h4 h7 h8 HOK
  go_wp2
  go_roundw
  case rel => exact ⟨m + 1, by omega, by go_num, HK, HO, HYm, Lib.hid (fun h => ⟨by trivial, (HL.out h).2⟩)⟩
  case measure => simp [intOf]; omega
end Go.Proofs.YtclkdlegogjnbaaGreatDoor
