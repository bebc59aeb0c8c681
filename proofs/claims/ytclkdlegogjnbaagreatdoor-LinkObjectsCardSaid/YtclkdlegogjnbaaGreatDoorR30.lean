/-
 The program's enter: an object's names come into the whole. Conditions: at most 900000 rows, lengths as Go's values have them.
-/
import Derived.Test.YtclkdlegogjnbaaGreatDoorR29
namespace Go.Proofs.YtclkdlegogjnbaaGreatDoor
open Go Go.RowKit Go.WideShapes Go.ChangeShapes
set_option linter.unusedVariables false
set_option linter.unusedSimpArgs false
theorem addTo_len {α : Type} [DecidableEq α] (l : List α) (x : α) : (addTo l x).length ≤ l.length + 1 := by
 unfold addTo
 split <;> simp
theorem addAll_len {α : Type} [DecidableEq α] : ∀ (xs l : List α), (xs.foldl addTo l).length ≤ l.length + xs.length
 | [], l => by simp
 | x :: xs, l => by
  have h1 := addTo_len l x
  have h2 := addAll_len xs (addTo l x)
  rw [List.foldl_cons, List.length_cons]
  omega
theorem addAll_take {α : Type} [DecidableEq α] (xs l : List α) (k : Nat) (h : k < xs.length) : (xs.take (k + 1)).foldl addTo l = addTo ((xs.take k).foldl addTo l) xs[k] := by
 rw [List.take_succ_eq_append_getElem h, List.foldl_append]
 rfl
theorem predK_even {n : Int} {s s' : Lk} {p : Pr} (h : Even3 s) (hs : predK n s p = some s') : Even3 s' ∧ s'.preds.length ≤ s.preds.length + 1 ∧ s'.atoms = s.atoms ∧ s'.funs = s.funs ∧ s'.n = s.n := by
 rw [predK_eq h] at hs
 have e := predG_even (n := n) (f := called p) h
 have l := predG_len n s (called p)
 have g : (predG n s (called p)).atoms = s.atoms ∧ (predG n s (called p)).funs = s.funs ∧ (predG n s (called p)).n = s.n := by
  unfold predG hadOr
  split <;> exact ⟨rfl, rfl, rfl⟩
 split at hs
 ·injection hs with hs
  subst hs
  exact ⟨e, l, g⟩
 ·split at hs
  ·cases hs
  ·injection hs with hs
   subst hs
   exact ⟨⟨e.1, by simp only [List.length_set]; exact e.2⟩, l, g⟩
structure ObKeys (o : Ob) : Prop where
 atoms : ∀ x ∈ o.atoms, okS x
 funs : ∀ f ∈ o.funs, okF f
 preds : ∀ p ∈ o.preds, okF (called p)
 small : o.atoms.length ≤ 1000 ∧ o.funs.length ≤ 1000 ∧ o.preds.length ≤ 1000 ∧ o.code.length ≤ 2000
set_option maxRecDepth 100000 in
set_option maxHeartbeats 16000000 in
theorem enter_any (w0 : World) (I : WI) (K : WV) (s : Lk) (cd : List Ins) (n : Int) (o : Ob) (ho : ObKeys o) (ua uf up uc : Value) (hl : s.atoms.length ≤ 500000 ∧ s.funs.length ≤ 500000 ∧ s.preds.length ≤ 500000 ∧ 0 ≤ s.n ∧ s.n ≤ 1000000000) (hev : Even3 s) (w : World) (hv : ObAt w0 ua uf up uc o) (hk : Wh w0 w I K s cd) :
  Calls Tryz.prog 23 #[.pointer (some ⟨I.g, 0, none⟩), .int .i64 n, .agg #[ua, uf, up, uc]] w (EnW w0 w I K cd (enterK n s o)) := by
 obtain ⟨A1, c1, rfl⟩ := CellsAt.form hv.atoms
 obtain ⟨A2, c2, rfl⟩ := CellsAt.form hv.funs
 obtain ⟨A3, c3, rfl⟩ := CellsAt.form hv.preds
 obtain ⟨A4, c4, rfl⟩ := CellsAt.form hv.code
 have HR : Hid (enterK n s o = predsK n { s with atoms := o.atoms.foldl addTo s.atoms, funs := o.funs.foldl addTo s.funs, n := s.n + o.code.length } o.preds) := Lib.hid rfl
 generalize enterK n s o = r at HR ⊢
 have HO := Lib.hid ho
 have HV := Lib.hid hv
 have HEV := Lib.hid hev
 have hsm := ho.small
 have HK0 := Lib.hid (hk.alloc (.cells #[.slice A1 o.atoms.length c1, .slice A2 o.funs.length c2, .slice A3 o.preds.length c3, .slice A4 o.code.length c4] 39))
 have HF0 : Hid (WhF w (w.alloc (.cells #[.slice A1 o.atoms.length c1, .slice A2 o.funs.length c2, .slice A3 o.preds.length c3, .slice A4 o.code.length c4] 39)) I K K) := Lib.hid (WhF.below (alloc_below w _))
 have X0 := Lib.hid (Box.new w 39 #[.slice A1 o.atoms.length c1, .slice A2 o.funs.length c2, .slice A3 o.preds.length c3, .slice A4 o.code.length c4])
 have AX := Lib.hid (hk.apart (b := w.heap.size) (Nat.le_refl _))
 clear ho hv hk hev
 go_enter Tryz.func23, Tryz.ntmps23
 go_upto_region 1 with (fail)
 obtain ⟨w1, hw1⟩ : ∃ w1, w.alloc (.cells #[.slice A1 o.atoms.length c1, .slice A2 o.funs.length c2, .slice A3 o.preds.length c3, .slice A4 o.code.length c4] 39) = w1 := ⟨_, rfl⟩
 obtain ⟨go, hgo⟩ : ∃ go, w.heap.size = go := ⟨_, rfl⟩
 rw [hw1] at HK0 HF0 X0 ⊢
 rw [hgo] at X0 AX ⊢
 clear hw1 hgo
 have x0 := X0.out.cell 0
 -- the names
 go_wp2
 clear x0
 have R0 : Hid (Wh w0 w1 I K { s with atoms := (o.atoms.take 0).foldl addTo s.atoms } cd) := Lib.hid HK0.out
 have F0 : Hid (WhF w1 w1 I K K) := Lib.hid (WhF.refl w1 I K)
 go_loopw [9, 22] (fun _ i wr => ∃ (k : Nat) (K1 : WV), k ≤ o.atoms.length ∧ i = .int .i64 k ∧ Hid (Wh w0 wr I K1 { s with atoms := (o.atoms.take k).foldl addTo s.atoms } cd) ∧ Hid (WhF w1 wr I K K1)) (fun _ i _ => o.atoms.length - (intOf i).toNat)
 case atStart => exact ⟨0, K, by omega, rfl, R0, F0⟩
 obtain ⟨k, K1, hkl, rfl, HK, HF⟩ := hrel
 clear R0 F0
 by_cases hlt : k < o.atoms.length
 case pos =>
  obtain ⟨b, off, rfl, hb, hc⟩ := atomCell HV.out.atoms k hlt
  have d0 := (HK.out.r.below.cell (p := ⟨b, off + k, none⟩) hb).trans hc
  have HX := Lib.hid (HO.out.atoms _ (List.getElem_mem hlt))
  have HT := Lib.hid (addAll_take o.atoms s.atoms k hlt)
  have hlen : ((o.atoms.take k).foldl addTo s.atoms).length ≤ 900000 := by have := addAll_len (o.atoms.take k) s.atoms; rw [List.length_take] at this; omega
  obtain ⟨s1, hs1⟩ : ∃ s1 : Lk, ({ s with atoms := (o.atoms.take k).foldl addTo s.atoms } : Lk) = s1 := ⟨_, rfl⟩
  have hs1a : (o.atoms.take k).foldl addTo s.atoms = s1.atoms := by rw [← hs1]
  rw [hs1a] at hlen HT
  have HS2 : Hid (({ s with atoms := (o.atoms.take (k + 1)).foldl addTo s.atoms } : Lk) = { s1 with atoms := addTo s1.atoms o.atoms[k] }) := Lib.hid (by rw [HT.out, ← hs1])
  rw [hs1] at HK
  clear hs1 hs1a hc HT hb
  generalize o.atoms[k] = x at d0 HX HS2
  obtain ⟨va, vf, vp, vc, vh, vb⟩ := K1
  obtain ⟨A0, c0, hva, _⟩ := own_form HK.out.r.ra
  simp only at hva
  subst hva
  have q0 := HK.out.box.cell 0
  have q4 := HK.out.box.cell 4
  by_cases hin : x ∈ s1.atoms
  ·have HIN := Lib.hid hin
   have HS2 : Hid (({ s with atoms := (o.atoms.take (k + 1)).foldl addTo s.atoms } : Lk) = s1) := Lib.hid (by rw [HS2.out, addTo_yes hin])
   clear hin
   go_upto_region 5 with (fail)
   refine wp_region_noPanic ?_
   refine wp_region_T 12 (fun w' => w'.cell? ⟨I.g, 4, none⟩ = some (.map (some I.ma)) ∧ w'.cell? ⟨I.g, 0, none⟩ = some (.slice A0 s1.atoms.length c0)) (by kernel_rfl) ?_ (fun hHeld => ?_)
   ·exact ⟨q4, q0⟩
   have HK2 := Lib.hid (HK.out.drewN 1)
   change wpAnyT _ _ _ _ _ _ _ _ _ (wr.drewN 1)
   replace hHeld : (wr.drewN 1).cell? ⟨I.g, 4, none⟩ = some (.map (some I.ma)) ∧ (wr.drewN 1).cell? ⟨I.g, 0, none⟩ = some (.slice A0 s1.atoms.length c0) := hHeld
   have HF2 := Lib.hid (HF.out.drewN 1)
   generalize wr.drewN 1 = w2 at HK2 HF2 hHeld ⊢
   refine tP (i := 0) (v := ?_) rfl ?_ ?_
   rotate_left
   ·(intro w hSw; (try dsimp only at hSw); go_simp; try with_reducible rfl)
   try simp only [qA, qB, qC, Act.put, qD, qE, qF]
   refine tP (i := 1) (v := ?_) rfl ?_ ?_
   rotate_left
   ·(intro w hSw; (try dsimp only at hSw); go_simp; try with_reducible rfl)
   try simp only [qA, qB, qC, Act.put, qD, qE, qF]
   refine tP (i := 2) (v := ?_) rfl ?_ ?_
   rotate_left
   ·(intro w hSw; (try dsimp only at hSw); go_simp; try with_reducible rfl)
   try simp only [qA, qB, qC, Act.put, qD, qE, qF]
   refine tP (i := 3) (v := ?_) rfl ?_ ?_
   rotate_left
   ·(intro w hSw; (try dsimp only at hSw); go_simp; try with_reducible rfl)
   try simp only [qA, qB, qC, Act.put, qD, qE, qF]
   refine tS (i := 4) (v := ?_) rfl ?_ hHeld ?_
   rotate_left
   ·(intro w hSw; (try dsimp only at hSw); go_simp; try with_reducible rfl)
   try simp only [qA, qB, qC, Act.put, qD, qE, qF]
   refine tP (i := 5) (v := ?_) rfl ?_ ?_
   rotate_left
   ·(intro w hSw; (try dsimp only at hSw); go_simp; try with_reducible rfl)
   try simp only [qA, qB, qC, Act.put, qD, qE, qF]
   refine tP (i := 6) (v := ?_) rfl ?_ ?_
   rotate_left
   ·(intro w hSw; (try dsimp only at hSw); go_simp; try with_reducible rfl)
   try simp only [qA, qB, qC, Act.put, qD, qE, qF]
   refine tP (i := 7) (v := ?_) rfl ?_ ?_
   rotate_left
   ·(intro w hSw; (try dsimp only at hSw); go_simp; try with_reducible rfl)
   try simp only [qA, qB, qC, Act.put, qD, qE, qF]
   refine tP (i := 8) (v := ?_) rfl ?_ ?_
   rotate_left
   ·(intro w hSw; (try dsimp only at hSw); go_simp; try with_reducible rfl)
   try simp only [qA, qB, qC, Act.put, qD, qE, qF]
   refine tS (i := 9) (v := ?_) rfl ?_ hHeld ?_
   rotate_left
   ·(intro w hSw; (try dsimp only at hSw); go_simp; try with_reducible rfl)
   try simp only [qA, qB, qC, Act.put, qD, qE, qF]
   refine tP (i := 10) (v := ?_) rfl ?_ ?_
   rotate_left
   ·(intro w hSw; (try dsimp only at hSw); go_simp; try with_reducible rfl)
   try simp only [qA, qB, qC, Act.put, qD, qE, qF]
   refine wpAnyT_ready (rs := [11]) (by kernel_rfl) (by simp) ?_
   refine AllT.cons (o := _) rfl (fun K hK => ?_) AllT.nil
   go_simp
   go_at_call 51; refine (metS_any w0.heap.size I.ma _ s1.atoms x w2 HK2.out.r.ma HK2.out.r.ra HX.out (by omega) HK2.out.r.below.size).mono ?_; rintro e3 w3 h3; obtain ⟨rfl, hb3⟩ := MetW.of_yes HIN.out h3; clear h3; have HK3 := Lib.hid (HK2.out.up hb3); have z0 := HK3.out.box.cell 0; have z0f := HK3.out.box.frozen 0; have z4 := HK3.out.box.cell 4; obtain ⟨hk4, hf4, _⟩ := HK3.out.again 0 (.slice A0 s1.atoms.length c0) z0; have HK4 := Lib.hid hk4; have HF4 := Lib.hid ((HF2.out.trans (WhF.below hb3)).trans hf4); clear hk4 hf4 hb3
   refine hK.out _ _ (fun _ => ?_) (fun hHeld2 => ?_)
   ·exact ⟨z4, z0⟩
   replace hHeld := hHeld2 (by decide)
   clear hHeld2 hK K
   try simp only [qA, qB, qC, Act.put, qD, qE, qF]
   refine tP (i := 12) (v := ?_) rfl ?_ ?_
   rotate_left
   ·(intro w hSw; (try dsimp only at hSw); go_simp; try with_reducible rfl)
   try simp only [qA, qB, qC, Act.put, qD, qE, qF]
   refine tP (i := 13) (v := ?_) rfl ?_ ?_
   rotate_left
   ·(intro w hSw; (try dsimp only at hSw); go_simp; try with_reducible rfl)
   try simp only [qA, qB, qC, Act.put, qD, qE, qF]
   refine wpAnyT_ready (rs := [14]) (by kernel_rfl) (by simp) ?_
   refine AllT.cons (o := _) rfl (fun K hK => ?_) AllT.nil
   go_simp
   refine hK.out _ _ (fun h => absurd h (by decide)) (fun _ => ?_)
   clear hK K
   try simp only [qA, qB, qC, Act.put, qD, qE, qF]
   refine wpAnyT_done (by kernel_rfl) (NoPanic.normal ?_) _
   go_wp2
   go_roundw
   case rel => exact ⟨k + 1, _, by omega, by go_num, Lib.hid (by rw [HS2.out]; exact HK4.out), HF4⟩
   case measure => simp [intOf]; omega
  ·have HIN := Lib.hid hin
   have HS2 : Hid (({ s with atoms := (o.atoms.take (k + 1)).foldl addTo s.atoms } : Lk) = { s1 with atoms := s1.atoms ++ [x] }) := Lib.hid (by rw [HS2.out, addTo_no hin])
   clear hin
   go_upto_region 5 with (fail)
   refine wp_region_noPanic ?_
   refine wp_region_T 12 (fun w' => w'.cell? ⟨I.g, 4, none⟩ = some (.map (some I.ma)) ∧ w'.cell? ⟨I.g, 0, none⟩ = some (.slice A0 s1.atoms.length c0)) (by kernel_rfl) ?_ (fun hHeld => ?_)
   ·exact ⟨q4, q0⟩
   have HK2 := Lib.hid (HK.out.drewN 1)
   change wpAnyT _ _ _ _ _ _ _ _ _ (wr.drewN 1)
   replace hHeld : (wr.drewN 1).cell? ⟨I.g, 4, none⟩ = some (.map (some I.ma)) ∧ (wr.drewN 1).cell? ⟨I.g, 0, none⟩ = some (.slice A0 s1.atoms.length c0) := hHeld
   have HF2 := Lib.hid (HF.out.drewN 1)
   generalize wr.drewN 1 = w2 at HK2 HF2 hHeld ⊢
   refine tP (i := 0) (v := ?_) rfl ?_ ?_
   rotate_left
   ·(intro w hSw; (try dsimp only at hSw); go_simp; try with_reducible rfl)
   try simp only [qA, qB, qC, Act.put, qD, qE, qF]
   refine tP (i := 1) (v := ?_) rfl ?_ ?_
   rotate_left
   ·(intro w hSw; (try dsimp only at hSw); go_simp; try with_reducible rfl)
   try simp only [qA, qB, qC, Act.put, qD, qE, qF]
   refine tP (i := 2) (v := ?_) rfl ?_ ?_
   rotate_left
   ·(intro w hSw; (try dsimp only at hSw); go_simp; try with_reducible rfl)
   try simp only [qA, qB, qC, Act.put, qD, qE, qF]
   refine tP (i := 3) (v := ?_) rfl ?_ ?_
   rotate_left
   ·(intro w hSw; (try dsimp only at hSw); go_simp; try with_reducible rfl)
   try simp only [qA, qB, qC, Act.put, qD, qE, qF]
   refine tS (i := 4) (v := ?_) rfl ?_ hHeld ?_
   rotate_left
   ·(intro w hSw; (try dsimp only at hSw); go_simp; try with_reducible rfl)
   try simp only [qA, qB, qC, Act.put, qD, qE, qF]
   refine tP (i := 5) (v := ?_) rfl ?_ ?_
   rotate_left
   ·(intro w hSw; (try dsimp only at hSw); go_simp; try with_reducible rfl)
   try simp only [qA, qB, qC, Act.put, qD, qE, qF]
   refine tP (i := 6) (v := ?_) rfl ?_ ?_
   rotate_left
   ·(intro w hSw; (try dsimp only at hSw); go_simp; try with_reducible rfl)
   try simp only [qA, qB, qC, Act.put, qD, qE, qF]
   refine tP (i := 7) (v := ?_) rfl ?_ ?_
   rotate_left
   ·(intro w hSw; (try dsimp only at hSw); go_simp; try with_reducible rfl)
   try simp only [qA, qB, qC, Act.put, qD, qE, qF]
   refine tP (i := 8) (v := ?_) rfl ?_ ?_
   rotate_left
   ·(intro w hSw; (try dsimp only at hSw); go_simp; try with_reducible rfl)
   try simp only [qA, qB, qC, Act.put, qD, qE, qF]
   refine tS (i := 9) (v := ?_) rfl ?_ hHeld ?_
   rotate_left
   ·(intro w hSw; (try dsimp only at hSw); go_simp; try with_reducible rfl)
   try simp only [qA, qB, qC, Act.put, qD, qE, qF]
   refine tP (i := 10) (v := ?_) rfl ?_ ?_
   rotate_left
   ·(intro w hSw; (try dsimp only at hSw); go_simp; try with_reducible rfl)
   try simp only [qA, qB, qC, Act.put, qD, qE, qF]
   refine wpAnyT_ready (rs := [11]) (by kernel_rfl) (by simp) ?_
   refine AllT.cons (o := _) rfl (fun K hK => ?_) AllT.nil
   go_simp
   go_at_call 51; refine (metS_any w0.heap.size I.ma _ s1.atoms x w2 HK2.out.r.ma HK2.out.r.ra HX.out (by omega) HK2.out.r.below.size).mono ?_; rintro e3 w3 h3; obtain ⟨v6, rfl, hmn⟩ := MetW.of_no HIN.out h3; clear h3; obtain ⟨A6, c6, hv6, _⟩ := own_form hmn.own; rw [show (s1.atoms ++ [x]).length = s1.atoms.length + 1 by simp] at hv6; subst hv6; obtain ⟨hk4, hf4, z0, z0f⟩ := HK2.out.puta hmn; have z4 := (HK2.out.box.fr (S := fun b => b = I.ma ∨ (Value.slice A0 s1.atoms.length c0).ownBlock = some b) hmn.fr (by rintro (e | e); exact HK2.out.r.ma.ne_box HK2.out.box e.symm; exact own_ne_box HK2.out.r.ra HK2.out.box (by decide) _ e rfl)).cell 4; have HK4 := Lib.hid hk4; have HF4 := Lib.hid (HF2.out.trans hf4); clear hk4 hf4 hmn
   refine hK.out _ _ (fun _ => ?_) (fun hHeld2 => ?_)
   ·exact ⟨z4, z0⟩
   replace hHeld := hHeld2 (by decide)
   clear hHeld2 hK K
   try simp only [qA, qB, qC, Act.put, qD, qE, qF]
   refine tP (i := 12) (v := ?_) rfl ?_ ?_
   rotate_left
   ·(intro w hSw; (try dsimp only at hSw); go_simp; try with_reducible rfl)
   try simp only [qA, qB, qC, Act.put, qD, qE, qF]
   refine tP (i := 13) (v := ?_) rfl ?_ ?_
   rotate_left
   ·(intro w hSw; (try dsimp only at hSw); go_simp; try with_reducible rfl)
   try simp only [qA, qB, qC, Act.put, qD, qE, qF]
   refine wpAnyT_ready (rs := [14]) (by kernel_rfl) (by simp) ?_
   refine AllT.cons (o := _) rfl (fun K hK => ?_) AllT.nil
   go_simp
   refine hK.out _ _ (fun h => absurd h (by decide)) (fun _ => ?_)
   clear hK K
   try simp only [qA, qB, qC, Act.put, qD, qE, qF]
   refine wpAnyT_done (by kernel_rfl) (NoPanic.normal ?_) _
   go_wp2
   go_roundw
   case rel => exact ⟨k + 1, _, by omega, by go_num, Lib.hid (by rw [HS2.out]; exact HK4.out), HF4⟩
   case measure => simp [intOf]; omega
 case neg =>
 obtain rfl : k = o.atoms.length := by omega
 obtain ⟨sa, hsa⟩ : ∃ sa : Lk, ({ s with atoms := o.atoms.foldl addTo s.atoms } : Lk) = sa := ⟨_, rfl⟩
 have HKa : Hid (Wh w0 wr I K1 sa cd) := Lib.hid (by rw [← hsa]; have h := HK.out; rw [List.take_length] at h; exact h)
 have HSA : Hid (sa.atoms = o.atoms.foldl addTo s.atoms ∧ sa.funs = s.funs ∧ sa.preds = s.preds ∧ sa.n = s.n ∧ sa.homes = s.homes ∧ sa.begun = s.begun) := Lib.hid (by rw [← hsa]; exact ⟨rfl, rfl, rfl, rfl, rfl, rfl⟩)
 have HR2 : Hid (r = predsK n { sa with funs := o.funs.foldl addTo sa.funs, n := sa.n + o.code.length } o.preds) := Lib.hid (by rw [HR.out, ← hsa])
 have HFa := HF
 have Xa := Lib.hid (HFa.out.keep X0.out AX.out).1
 have APa := Lib.hid (HFa.out.keep X0.out AX.out).2
 have hl2 : sa.funs.length ≤ 500000 ∧ sa.preds.length ≤ 500000 ∧ 0 ≤ sa.n ∧ sa.n ≤ 1000000000 := by
  obtain ⟨_, e2, e3, e4, _⟩ := HSA.out
  rw [e2, e3, e4]
  exact hl.2
 have HEV2 : Hid (Even3 sa) := Lib.hid (by
  obtain ⟨_, _, e3, _, e5, e6⟩ := HSA.out
  unfold Even3
  rw [e3, e5, e6]
  exact HEV.out)
 obtain ⟨wa, hwa⟩ : ∃ wa, wr = wa := ⟨_, rfl⟩
 obtain ⟨Ka, hKa⟩ : ∃ Ka, K1 = Ka := ⟨_, rfl⟩
 rw [hwa, hKa] at HKa
 rw [hwa] at Xa
 rw [hKa] at APa
 rw [hwa, hKa] at HFa
 rw [hwa]
 clear HK HF hsa hwa hKa HR HEV
 have x1 := Xa.out.cell 1
 -- the Funs
 go_wp2
 clear x1
 have R0 : Hid (Wh w0 wa I Ka { sa with funs := (o.funs.take 0).foldl addTo sa.funs } cd) := Lib.hid HKa.out
 have F0 : Hid (WhF wa wa I Ka Ka) := Lib.hid (WhF.refl wa I Ka)
 go_loopw [11, 45] (fun _ i wr => ∃ (k : Nat) (K1 : WV), k ≤ o.funs.length ∧ i = .int .i64 k ∧ Hid (Wh w0 wr I K1 { sa with funs := (o.funs.take k).foldl addTo sa.funs } cd) ∧ Hid (WhF wa wr I Ka K1)) (fun _ i _ => o.funs.length - (intOf i).toNat)
 case atStart => exact ⟨0, Ka, by omega, rfl, R0, F0⟩
 obtain ⟨k, K1, hkl, rfl, HK, HF⟩ := hrel
 clear R0 F0
 by_cases hlt : k < o.funs.length
 case pos =>
  obtain ⟨b, off, rfl, hb, hc0, hc1⟩ := funCell HV.out.funs k hlt
  have d0 := (HK.out.r.below.cell (p := ⟨b, off + k * 2, none⟩) hb).trans hc0
  have d1 := (HK.out.r.below.cell (p := ⟨b, off + k * 2 + 1, none⟩) hb).trans hc1
  have HX := Lib.hid (HO.out.funs _ (List.getElem_mem hlt))
  have HT := Lib.hid (addAll_take o.funs sa.funs k hlt)
  have hlen : ((o.funs.take k).foldl addTo sa.funs).length ≤ 900000 := by have := addAll_len (o.funs.take k) sa.funs; rw [List.length_take] at this; omega
  obtain ⟨s1, hs1⟩ : ∃ s1 : Lk, ({ sa with funs := (o.funs.take k).foldl addTo sa.funs } : Lk) = s1 := ⟨_, rfl⟩
  have hs1a : (o.funs.take k).foldl addTo sa.funs = s1.funs := by rw [← hs1]
  rw [hs1a] at hlen HT
  have HS2 : Hid (({ sa with funs := (o.funs.take (k + 1)).foldl addTo sa.funs } : Lk) = { s1 with funs := addTo s1.funs (o.funs[k].1, o.funs[k].2) }) := Lib.hid (by rw [HT.out, ← hs1])
  have HX : Hid (okF (o.funs[k].1, o.funs[k].2)) := Lib.hid HX.out
  rw [hs1] at HK
  clear hs1 hs1a hc0 hc1 HT hb
  generalize o.funs[k].1 = x at d0 HX HS2
  generalize o.funs[k].2 = m at d1 HX HS2
  have HK5 := Lib.hid (HK.out.alloc (.cells #[.string x, .int .i64 m] 82))
  have HF5 := Lib.hid (HF.out.trans (WhF.below (alloc_below wr (.cells #[.string x, .int .i64 m] 82))))
  have X5 := Lib.hid (Box.new wr 82 #[.string x, .int .i64 m])
  have AP := Lib.hid (HK.out.apart (b := wr.heap.size) (Nat.le_refl _))
  go_upto_region 10 with (fail)
  obtain ⟨w5, hw5⟩ : ∃ w5, wr.alloc (.cells #[.string x, .int .i64 m] 82) = w5 := ⟨_, rfl⟩
  obtain ⟨gf, hgf⟩ : ∃ gf, wr.heap.size = gf := ⟨_, rfl⟩
  rw [hw5] at HK5 HF5 X5 ⊢
  rw [hgf] at X5 AP ⊢
  clear hw5 hgf d0 d1
  obtain ⟨va, vf, vp, vc, vh, vb⟩ := K1
  obtain ⟨A0, c0, hva, _⟩ := own_form HK5.out.r.rf
  simp only at hva
  subst hva
  have q0 := HK5.out.box.cell 1
  have q4 := HK5.out.box.cell 5
  have x0 := X5.out.cell 0
  have x1 := X5.out.cell 1
  by_cases hin : (x, m) ∈ s1.funs
  ·have HIN := Lib.hid hin
   have HS2 : Hid (({ sa with funs := (o.funs.take (k + 1)).foldl addTo sa.funs } : Lk) = s1) := Lib.hid (by rw [HS2.out, addTo_yes hin])
   clear hin
   refine wp_region_noPanic ?_
   refine wp_region_T 16 (fun w' => w'.cell? ⟨I.g, 5, none⟩ = some (.map (some I.mf)) ∧ w'.cell? ⟨I.g, 1, none⟩ = some (.slice A0 s1.funs.length c0) ∧ w'.cell? ⟨gf, 0, none⟩ = some (.string x) ∧ w'.cell? ⟨gf, 1, none⟩ = some (.int .i64 m)) (by kernel_rfl) ?_ (fun hHeld => ?_)
   ·exact ⟨q4, q0, x0, x1⟩
   have HK2 := Lib.hid (HK5.out.drewN 1)
   have X2 := Lib.hid (X5.out.drewN 1)
   change wpAnyT _ _ _ _ _ _ _ _ _ (w5.drewN 1)
   replace hHeld : (w5.drewN 1).cell? ⟨I.g, 5, none⟩ = some (.map (some I.mf)) ∧ (w5.drewN 1).cell? ⟨I.g, 1, none⟩ = some (.slice A0 s1.funs.length c0) ∧ (w5.drewN 1).cell? ⟨gf, 0, none⟩ = some (.string x) ∧ (w5.drewN 1).cell? ⟨gf, 1, none⟩ = some (.int .i64 m) := hHeld
   have HF2 := Lib.hid (HF5.out.drewN 1)
   generalize w5.drewN 1 = w2 at HK2 X2 HF2 hHeld ⊢
   refine tP (i := 0) (v := ?_) rfl ?_ ?_
   rotate_left
   ·(intro w hSw; (try dsimp only at hSw); go_simp; try with_reducible rfl)
   try simp only [qA, qB, qC, Act.put, qD, qE, qF]
   refine tP (i := 1) (v := ?_) rfl ?_ ?_
   rotate_left
   ·(intro w hSw; (try dsimp only at hSw); go_simp; try with_reducible rfl)
   try simp only [qA, qB, qC, Act.put, qD, qE, qF]
   refine tP (i := 2) (v := ?_) rfl ?_ ?_
   rotate_left
   ·(intro w hSw; (try dsimp only at hSw); go_simp; try with_reducible rfl)
   try simp only [qA, qB, qC, Act.put, qD, qE, qF]
   refine tP (i := 3) (v := ?_) rfl ?_ ?_
   rotate_left
   ·(intro w hSw; (try dsimp only at hSw); go_simp; try with_reducible rfl)
   try simp only [qA, qB, qC, Act.put, qD, qE, qF]
   refine tS (i := 4) (v := ?_) rfl ?_ hHeld ?_
   rotate_left
   ·(intro w hSw; (try dsimp only at hSw); go_simp; try with_reducible rfl)
   try simp only [qA, qB, qC, Act.put, qD, qE, qF]
   refine tP (i := 5) (v := ?_) rfl ?_ ?_
   rotate_left
   ·(intro w hSw; (try dsimp only at hSw); go_simp; try with_reducible rfl)
   try simp only [qA, qB, qC, Act.put, qD, qE, qF]
   refine tS (i := 6) (v := ?_) rfl ?_ hHeld ?_
   rotate_left
   ·(intro w hSw; (try dsimp only at hSw); go_simp; try with_reducible rfl)
   try simp only [qA, qB, qC, Act.put, qD, qE, qF]
   refine tP (i := 7) (v := ?_) rfl ?_ ?_
   rotate_left
   ·(intro w hSw; (try dsimp only at hSw); go_simp; try with_reducible rfl)
   try simp only [qA, qB, qC, Act.put, qD, qE, qF]
   refine tS (i := 8) (v := ?_) rfl ?_ hHeld ?_
   rotate_left
   ·(intro w hSw; (try dsimp only at hSw); go_simp; try with_reducible rfl)
   try simp only [qA, qB, qC, Act.put, qD, qE, qF]
   refine tP (i := 9) (v := ?_) rfl ?_ ?_
   rotate_left
   ·(intro w hSw; (try dsimp only at hSw); go_simp; try with_reducible rfl)
   try simp only [qA, qB, qC, Act.put, qD, qE, qF]
   refine tP (i := 10) (v := ?_) rfl ?_ ?_
   rotate_left
   ·(intro w hSw; (try dsimp only at hSw); go_simp; try with_reducible rfl)
   try simp only [qA, qB, qC, Act.put, qD, qE, qF]
   refine tP (i := 11) (v := ?_) rfl ?_ ?_
   rotate_left
   ·(intro w hSw; (try dsimp only at hSw); go_simp; try with_reducible rfl)
   try simp only [qA, qB, qC, Act.put, qD, qE, qF]
   refine tP (i := 12) (v := ?_) rfl ?_ ?_
   rotate_left
   ·(intro w hSw; (try dsimp only at hSw); go_simp; try with_reducible rfl)
   try simp only [qA, qB, qC, Act.put, qD, qE, qF]
   refine tS (i := 13) (v := ?_) rfl ?_ hHeld ?_
   rotate_left
   ·(intro w hSw; (try dsimp only at hSw); go_simp; try with_reducible rfl)
   try simp only [qA, qB, qC, Act.put, qD, qE, qF]
   refine tS (i := 14) (v := ?_) rfl ?_ hHeld ?_
   rotate_left
   ·(intro w hSw; (try dsimp only at hSw); go_simp; try with_reducible rfl)
   try simp only [qA, qB, qC, Act.put, qD, qE, qF]
   refine wpAnyT_ready (rs := [15]) (by kernel_rfl) (by simp) ?_
   refine AllT.cons (o := _) rfl (fun K hK => ?_) AllT.nil
   go_simp
   go_at_call 52; refine (metF_any w0.heap.size I.mf _ s1.funs x m w2 HK2.out.r.mf HK2.out.r.rf HX.out (by omega) HK2.out.r.below.size).mono ?_; rintro e3 w3 h3; obtain ⟨rfl, hb3⟩ := MetW.of_yes HIN.out h3; clear h3; have HK3 := Lib.hid (HK2.out.up hb3); have X3 := Lib.hid (X2.out.below hb3 X2.out.lt); have z0 := HK3.out.box.cell 1; have z0f := HK3.out.box.frozen 1; have z4 := HK3.out.box.cell 5; obtain ⟨hk4, hf4, _⟩ := HK3.out.again 1 (.slice A0 s1.funs.length c0) z0; have HK4 := Lib.hid hk4; have HF4 := Lib.hid ((HF2.out.trans (WhF.below hb3)).trans hf4); clear hk4 hf4 hb3
   refine hK.out _ _ (fun _ => ?_) (fun hHeld2 => ?_)
   ·exact ⟨z4, z0, X3.out.cell 0, X3.out.cell 1⟩
   replace hHeld := hHeld2 (by decide)
   clear hHeld2 hK K
   try simp only [qA, qB, qC, Act.put, qD, qE, qF]
   refine tP (i := 16) (v := ?_) rfl ?_ ?_
   rotate_left
   ·(intro w hSw; (try dsimp only at hSw); go_simp; try with_reducible rfl)
   try simp only [qA, qB, qC, Act.put, qD, qE, qF]
   refine tP (i := 17) (v := ?_) rfl ?_ ?_
   rotate_left
   ·(intro w hSw; (try dsimp only at hSw); go_simp; try with_reducible rfl)
   try simp only [qA, qB, qC, Act.put, qD, qE, qF]
   refine wpAnyT_ready (rs := [18]) (by kernel_rfl) (by simp) ?_
   refine AllT.cons (o := _) rfl (fun K hK => ?_) AllT.nil
   go_simp
   refine hK.out _ _ (fun h => absurd h (by decide)) (fun _ => ?_)
   clear hK K
   try simp only [qA, qB, qC, Act.put, qD, qE, qF]
   refine wpAnyT_done (by kernel_rfl) (NoPanic.normal ?_) _
   go_wp2
   go_roundw
   case rel => exact ⟨k + 1, _, by omega, by go_num, Lib.hid (by rw [HS2.out]; exact HK4.out), HF4⟩
   case measure => simp [intOf]; omega
  ·have HIN := Lib.hid hin
   have HS2 : Hid (({ sa with funs := (o.funs.take (k + 1)).foldl addTo sa.funs } : Lk) = { s1 with funs := s1.funs ++ [(x, m)] }) := Lib.hid (by rw [HS2.out, addTo_no hin])
   clear hin
   refine wp_region_noPanic ?_
   refine wp_region_T 16 (fun w' => w'.cell? ⟨I.g, 5, none⟩ = some (.map (some I.mf)) ∧ w'.cell? ⟨I.g, 1, none⟩ = some (.slice A0 s1.funs.length c0) ∧ w'.cell? ⟨gf, 0, none⟩ = some (.string x) ∧ w'.cell? ⟨gf, 1, none⟩ = some (.int .i64 m)) (by kernel_rfl) ?_ (fun hHeld => ?_)
   ·exact ⟨q4, q0, x0, x1⟩
   have HK2 := Lib.hid (HK5.out.drewN 1)
   have X2 := Lib.hid (X5.out.drewN 1)
   change wpAnyT _ _ _ _ _ _ _ _ _ (w5.drewN 1)
   replace hHeld : (w5.drewN 1).cell? ⟨I.g, 5, none⟩ = some (.map (some I.mf)) ∧ (w5.drewN 1).cell? ⟨I.g, 1, none⟩ = some (.slice A0 s1.funs.length c0) ∧ (w5.drewN 1).cell? ⟨gf, 0, none⟩ = some (.string x) ∧ (w5.drewN 1).cell? ⟨gf, 1, none⟩ = some (.int .i64 m) := hHeld
   have HF2 := Lib.hid (HF5.out.drewN 1)
   generalize w5.drewN 1 = w2 at HK2 X2 HF2 hHeld ⊢
   refine tP (i := 0) (v := ?_) rfl ?_ ?_
   rotate_left
   ·(intro w hSw; (try dsimp only at hSw); go_simp; try with_reducible rfl)
   try simp only [qA, qB, qC, Act.put, qD, qE, qF]
   refine tP (i := 1) (v := ?_) rfl ?_ ?_
   rotate_left
   ·(intro w hSw; (try dsimp only at hSw); go_simp; try with_reducible rfl)
   try simp only [qA, qB, qC, Act.put, qD, qE, qF]
   refine tP (i := 2) (v := ?_) rfl ?_ ?_
   rotate_left
   ·(intro w hSw; (try dsimp only at hSw); go_simp; try with_reducible rfl)
   try simp only [qA, qB, qC, Act.put, qD, qE, qF]
   refine tP (i := 3) (v := ?_) rfl ?_ ?_
   rotate_left
   ·(intro w hSw; (try dsimp only at hSw); go_simp; try with_reducible rfl)
   try simp only [qA, qB, qC, Act.put, qD, qE, qF]
   refine tS (i := 4) (v := ?_) rfl ?_ hHeld ?_
   rotate_left
   ·(intro w hSw; (try dsimp only at hSw); go_simp; try with_reducible rfl)
   try simp only [qA, qB, qC, Act.put, qD, qE, qF]
   refine tP (i := 5) (v := ?_) rfl ?_ ?_
   rotate_left
   ·(intro w hSw; (try dsimp only at hSw); go_simp; try with_reducible rfl)
   try simp only [qA, qB, qC, Act.put, qD, qE, qF]
   refine tS (i := 6) (v := ?_) rfl ?_ hHeld ?_
   rotate_left
   ·(intro w hSw; (try dsimp only at hSw); go_simp; try with_reducible rfl)
   try simp only [qA, qB, qC, Act.put, qD, qE, qF]
   refine tP (i := 7) (v := ?_) rfl ?_ ?_
   rotate_left
   ·(intro w hSw; (try dsimp only at hSw); go_simp; try with_reducible rfl)
   try simp only [qA, qB, qC, Act.put, qD, qE, qF]
   refine tS (i := 8) (v := ?_) rfl ?_ hHeld ?_
   rotate_left
   ·(intro w hSw; (try dsimp only at hSw); go_simp; try with_reducible rfl)
   try simp only [qA, qB, qC, Act.put, qD, qE, qF]
   refine tP (i := 9) (v := ?_) rfl ?_ ?_
   rotate_left
   ·(intro w hSw; (try dsimp only at hSw); go_simp; try with_reducible rfl)
   try simp only [qA, qB, qC, Act.put, qD, qE, qF]
   refine tP (i := 10) (v := ?_) rfl ?_ ?_
   rotate_left
   ·(intro w hSw; (try dsimp only at hSw); go_simp; try with_reducible rfl)
   try simp only [qA, qB, qC, Act.put, qD, qE, qF]
   refine tP (i := 11) (v := ?_) rfl ?_ ?_
   rotate_left
   ·(intro w hSw; (try dsimp only at hSw); go_simp; try with_reducible rfl)
   try simp only [qA, qB, qC, Act.put, qD, qE, qF]
   refine tP (i := 12) (v := ?_) rfl ?_ ?_
   rotate_left
   ·(intro w hSw; (try dsimp only at hSw); go_simp; try with_reducible rfl)
   try simp only [qA, qB, qC, Act.put, qD, qE, qF]
   refine tS (i := 13) (v := ?_) rfl ?_ hHeld ?_
   rotate_left
   ·(intro w hSw; (try dsimp only at hSw); go_simp; try with_reducible rfl)
   try simp only [qA, qB, qC, Act.put, qD, qE, qF]
   refine tS (i := 14) (v := ?_) rfl ?_ hHeld ?_
   rotate_left
   ·(intro w hSw; (try dsimp only at hSw); go_simp; try with_reducible rfl)
   try simp only [qA, qB, qC, Act.put, qD, qE, qF]
   refine wpAnyT_ready (rs := [15]) (by kernel_rfl) (by simp) ?_
   refine AllT.cons (o := _) rfl (fun K hK => ?_) AllT.nil
   go_simp
   go_at_call 52; refine (metF_any w0.heap.size I.mf _ s1.funs x m w2 HK2.out.r.mf HK2.out.r.rf HX.out (by omega) HK2.out.r.below.size).mono ?_; rintro e3 w3 h3; obtain ⟨v6, rfl, hmn⟩ := MetW.of_no HIN.out h3; clear h3; obtain ⟨A6, c6, hv6, _⟩ := own_form hmn.own; rw [show (s1.funs ++ [(x, m)]).length = s1.funs.length + 1 by simp] at hv6; subst hv6; obtain ⟨hk4, hf4, z0, z0f⟩ := HK2.out.putf hmn; have z4 := (HK2.out.box.fr (S := fun b => b = I.mf ∨ (Value.slice A0 s1.funs.length c0).ownBlock = some b) hmn.fr (by rintro (e | e); exact HK2.out.r.mf.ne_box HK2.out.box e.symm; exact own_ne_box HK2.out.r.rf HK2.out.box (by decide) _ e rfl)).cell 5; have X3 := Lib.hid ((WhF.appf (I := I) (K := ⟨va, .slice A0 s1.funs.length c0, vp, vc, vh, vb⟩) hmn).keep X2.out AP.out).1; have HK4 := Lib.hid hk4; have HF4 := Lib.hid (HF2.out.trans hf4); clear hk4 hf4 hmn
   refine hK.out _ _ (fun _ => ?_) (fun hHeld2 => ?_)
   ·exact ⟨z4, z0, X3.out.cell 0, X3.out.cell 1⟩
   replace hHeld := hHeld2 (by decide)
   clear hHeld2 hK K
   try simp only [qA, qB, qC, Act.put, qD, qE, qF]
   refine tP (i := 16) (v := ?_) rfl ?_ ?_
   rotate_left
   ·(intro w hSw; (try dsimp only at hSw); go_simp; try with_reducible rfl)
   try simp only [qA, qB, qC, Act.put, qD, qE, qF]
   refine tP (i := 17) (v := ?_) rfl ?_ ?_
   rotate_left
   ·(intro w hSw; (try dsimp only at hSw); go_simp; try with_reducible rfl)
   try simp only [qA, qB, qC, Act.put, qD, qE, qF]
   refine wpAnyT_ready (rs := [18]) (by kernel_rfl) (by simp) ?_
   refine AllT.cons (o := _) rfl (fun K hK => ?_) AllT.nil
   go_simp
   refine hK.out _ _ (fun h => absurd h (by decide)) (fun _ => ?_)
   clear hK K
   try simp only [qA, qB, qC, Act.put, qD, qE, qF]
   refine wpAnyT_done (by kernel_rfl) (NoPanic.normal ?_) _
   go_wp2
   go_roundw
   case rel => exact ⟨k + 1, _, by omega, by go_num, Lib.hid (by rw [HS2.out]; exact HK4.out), HF4⟩
   case measure => simp [intOf]; omega
 case neg =>
 obtain rfl : k = o.funs.length := by omega
 obtain ⟨sb, hsb⟩ : ∃ sb : Lk, ({ sa with funs := o.funs.foldl addTo sa.funs } : Lk) = sb := ⟨_, rfl⟩
 have HKb : Hid (Wh w0 wr I K1 sb cd) := Lib.hid (by rw [← hsb]; have h := HK.out; rw [List.take_length] at h; exact h)
 have HR3 : Hid (r = predsK n { sb with n := sb.n + o.code.length } o.preds) := Lib.hid (by rw [HR2.out, ← hsb])
 have HFb := HF
 have Xb := Lib.hid (HFb.out.keep Xa.out APa.out).1
 have APb := Lib.hid (HFb.out.keep Xa.out APa.out).2
 have hl3 : sb.preds.length ≤ 500000 ∧ 0 ≤ sb.n ∧ sb.n ≤ 1000000000 := by rw [← hsb]; exact hl2.2
 have HEV3 : Hid (Even3 sb) := Lib.hid (by rw [← hsb]; exact HEV2.out)
 have HFc := Lib.hid (HFa.out.trans HFb.out)
 obtain ⟨wb, hwb⟩ : ∃ wb, wr = wb := ⟨_, rfl⟩
 obtain ⟨Kb, hKb⟩ : ∃ Kb, K1 = Kb := ⟨_, rfl⟩
 rw [hwb, hKb] at HKb HFc
 rw [hwb] at Xb
 rw [hKb] at APb
 rw [hwb]
 clear HK HF HFa HFb hsb hwb hKb HR2 HEV2 Xa APa HKa
 -- the number of instructions
 have q9 := HKb.out.box.cell 9
 have q9f := HKb.out.box.frozen 9
 have x2 := Xb.out.cell 3
 have hwrap : IntKind.i64.wrap (sb.n + (o.code.length : Int)) = sb.n + (o.code.length : Int) := IntWalk.i64_in _ (by omega)
 go_upto_region 12 with (fail)
 refine wp_region_T 8 (fun w' => w'.cell? ⟨I.g, 9, none⟩ = some (.int .i64 sb.n) ∧ w'.cell? ⟨go, 3, none⟩ = some (.slice A4 o.code.length c4)) (by kernel_rfl) ?_ (fun hHeld => ?_)
 ·exact ⟨q9, x2⟩
 obtain ⟨w4, hw4⟩ : ∃ w4, wb.drewN 1 = w4 := ⟨_, rfl⟩
 change wpAnyT _ _ _ _ _ _ _ _ _ (wb.drewN 1)
 replace hHeld : (wb.drewN 1).cell? ⟨I.g, 9, none⟩ = some (.int .i64 sb.n) ∧ (wb.drewN 1).cell? ⟨go, 3, none⟩ = some (.slice A4 o.code.length c4) := hHeld
 have HK2 := Lib.hid (HKb.out.drewN 1)
 have HF2 : Hid (WhF wb (wb.drewN 1) I Kb Kb) := Lib.hid ((WhF.refl wb I Kb).drewN 1)
 rw [hw4] at HK2 HF2 hHeld ⊢
 have z9 := HK2.out.box.cell 9
 have z9f := HK2.out.box.frozen 9
 have HK4 := Lib.hid (HK2.out.putn (sb.n + o.code.length))
 have HF4 := Lib.hid (HF2.out.set 9 (.int .i64 (sb.n + o.code.length)))
 clear hw4
 refine tP (i := 0) (v := ?_) rfl ?_ ?_
 rotate_left
 ·(intro w hSw; (try dsimp only at hSw); go_simp; try with_reducible rfl)
 try simp only [qA, qB, qC, Act.put, qD, qE, qF]
 refine tP (i := 1) (v := ?_) rfl ?_ ?_
 rotate_left
 ·(intro w hSw; (try dsimp only at hSw); go_simp; try with_reducible rfl)
 try simp only [qA, qB, qC, Act.put, qD, qE, qF]
 refine tP (i := 2) (v := ?_) rfl ?_ ?_
 rotate_left
 ·(intro w hSw; (try dsimp only at hSw); go_simp; try with_reducible rfl)
 try simp only [qA, qB, qC, Act.put, qD, qE, qF]
 refine tS (i := 3) (v := ?_) rfl ?_ hHeld ?_
 rotate_left
 ·(intro w hSw; (try dsimp only at hSw); go_simp; try with_reducible rfl)
 try simp only [qA, qB, qC, Act.put, qD, qE, qF]
 refine tP (i := 4) (v := ?_) rfl ?_ ?_
 rotate_left
 ·(intro w hSw; (try dsimp only at hSw); go_simp; try with_reducible rfl)
 try simp only [qA, qB, qC, Act.put, qD, qE, qF]
 refine tS (i := 5) (v := ?_) rfl ?_ hHeld ?_
 rotate_left
 ·(intro w hSw; (try dsimp only at hSw); go_simp; try with_reducible rfl)
 try simp only [qA, qB, qC, Act.put, qD, qE, qF]
 refine tP (i := 6) (v := ?_) rfl ?_ ?_
 rotate_left
 ·(intro w hSw; (try dsimp only at hSw); go_simp; try with_reducible rfl)
 try simp only [qA, qB, qC, Act.put, qD, qE, qF]
 refine tP (i := 7) (v := ?_) rfl ?_ ?_
 rotate_left
 ·(intro w hSw; (try dsimp only at hSw); go_simp; try with_reducible rfl)
 try simp only [qA, qB, qC, Act.put, qD, qE, qF]
 refine tP (i := 8) (v := ?_) rfl ?_ ?_
 rotate_left
 ·(intro w hSw; (try dsimp only at hSw); go_simp; try with_reducible rfl)
 try simp only [qA, qB, qC, Act.put, qD, qE, qF]
 refine tP (i := 9) (v := ?_) rfl ?_ ?_
 rotate_left
 ·(intro w hSw; (try dsimp only at hSw); go_simp; try with_reducible rfl)
 try simp only [qA, qB, qC, Act.put, qD, qE, qF]
 refine wpAnyT_ready (rs := [10]) (by kernel_rfl) (by simp) ?_
 refine AllT.cons (o := _) rfl (fun K hK => ?_) AllT.nil
 go_simp
 refine hK.out _ _ (fun h => absurd h (by decide)) (fun _ => ?_)
 clear hK K
 try simp only [qA, qB, qC, Act.put, qD, qE, qF]
 refine wpAnyT_done (by kernel_rfl) ?_ _
 have HF5 := Lib.hid (HFc.out.trans HF4.out)
 obtain ⟨X5, AP5⟩ := HF4.out.keep Xb.out APb.out
 have X5 := Lib.hid X5
 have AP5 := Lib.hid AP5
 obtain ⟨w5, hw5⟩ : ∃ w5, w4.setCell ⟨I.g, 9, none⟩ (.int .i64 (sb.n + (o.code.length : Int))) = w5 := ⟨_, rfl⟩
 rw [hw5] at HK4 HF5 X5 ⊢
 obtain ⟨sc, hsc⟩ : ∃ sc : Lk, ({ sb with n := sb.n + o.code.length } : Lk) = sc := ⟨_, rfl⟩
 rw [hsc] at HR3 HK4
 have hl4 : sc.preds.length ≤ 500000 := by rw [← hsc]; exact hl3.1
 have HEV4 : Hid (Even3 sc) := Lib.hid (by rw [← hsc]; exact HEV3.out)
 clear hw5 hsc HF4 HKb Xb APb HEV3 q9 q9f x2
 have x1 := X5.out.cell 2
 -- the predicates
 go_wp2
 clear x1
 have R0 : Hid (r = predsK n sc (o.preds.drop 0)) := Lib.hid HR3.out
 have F0 : Hid (WhF w5 w5 I Kb Kb) := Lib.hid (WhF.refl w5 I Kb)
 go_loopw [13, 81] (fun _ i wr => ∃ (k : Nat) (K1 : WV) (s1 : Lk), k ≤ o.preds.length ∧ i = .int .i64 k ∧ Hid (r = predsK n s1 (o.preds.drop k)) ∧ Hid (Wh w0 wr I K1 s1 cd) ∧ Hid (WhF w5 wr I Kb K1) ∧ Hid (Even3 s1) ∧ s1.preds.length ≤ 500000 + k) (fun _ i _ => o.preds.length - (intOf i).toNat)
 case atStart => exact ⟨0, Kb, sc, by omega, rfl, R0, HK4, F0, HEV4, by omega⟩
 obtain ⟨k, K1, s1, hkl, rfl, HRk, HK, HF, HE1, hs1l⟩ := hrel
 clear R0 F0 HR3 HEV4
 by_cases hlt : k < o.preds.length
 case pos =>
  obtain ⟨b, off, rfl, hb, hc0, hc1, hc2⟩ := predCell HV.out.preds k hlt
  have d0 := (HK.out.r.below.cell (p := ⟨b, off + k * 3, none⟩) hb).trans hc0
  have d1 := (HK.out.r.below.cell (p := ⟨b, off + k * 3 + 1, none⟩) hb).trans hc1
  have d2 := (HK.out.r.below.cell (p := ⟨b, off + k * 3 + 2, none⟩) hb).trans hc2
  have HX := Lib.hid (HO.out.preds _ (List.getElem_mem hlt))
  have HRs : Hid (r = match predK n s1 (o.preds[k].1, o.preds[k].2.1, o.preds[k].2.2) with
   | none => none
   | some s' => predsK n s' (o.preds.drop (k + 1))) := Lib.hid (by rw [HRk.out, List.drop_eq_getElem_cons hlt]; rfl)
  have HX : Hid (okF (o.preds[k].1, o.preds[k].2.1)) := Lib.hid HX.out
  clear hc0 hc1 hc2 HRk
  generalize o.preds[k].1 = x at d0 HX HRs
  generalize o.preds[k].2.1 = m at d1 HX HRs
  generalize o.preds[k].2.2 = e at d2 HRs
  have HK5 := Lib.hid (HK.out.alloc (.cells #[.string x, .int .i64 m, .int .i64 e] 64))
  have HF6 := Lib.hid (HF.out.trans (WhF.below (alloc_below wr (.cells #[.string x, .int .i64 m, .int .i64 e] 64))))
  have HC := Lib.hid (fun W h => enterPred_any w0 I K1 s1 cd n x m e HX.out (by omega) HE1.out W h)
  cases hp : predK n s1 (x, m, e) with
  | none =>
   rw [hp] at HC HRs
   have HXr : Hid (r = none) := Lib.hid HRs.out
   clear hp
   unfold EnW at HC
   simp only at HC
   go_wp2_with (go_at_call 53; refine (HC.out _ HK5.out).mono ?_; rintro e6 w6 ⟨rfl, hb6⟩; have HB6 := Lib.hid hb6; clear hb6)
   go_ret
   exact enW_none HXr.out HB6.out
  | some s2 =>
   rw [hp] at HC HRs
   obtain ⟨he2, hl5, _⟩ := predK_even HE1.out hp
   have HRn : Hid (r = predsK n s2 (o.preds.drop (k + 1))) := Lib.hid HRs.out
   have HE2 := Lib.hid he2
   clear hp he2
   unfold EnW at HC
   simp only at HC
   go_wp2_with (go_at_call 53; refine (HC.out _ HK5.out).mono ?_; rintro e6 w6 ⟨K2, rfl, hk6, hf6⟩; have HK6 := Lib.hid hk6; have HF7 := Lib.hid (HF6.out.trans hf6); clear hk6 hf6)
   go_roundw
   case rel => exact ⟨k + 1, K2, s2, by omega, by go_num, HRn, HK6, HF7, HE2, by omega⟩
   case measure => simp [intOf]; omega
 case neg =>
 obtain rfl : k = o.preds.length := by omega
 have HX : Hid (r = some s1) := Lib.hid (by rw [HRk.out, List.drop_length]; rfl)
 go_wp2
 go_ret
 exact enW_some HX.out HK.out ((HF0.out.trans HF5.out).trans HF.out)
end Go.Proofs.YtclkdlegogjnbaaGreatDoor
