/-
 LinkObjects (walk). Conditions: the tables are as they are laid; lengths as Go's values have them.
-/
import Derived.Test.YtclkdlegogjnbaaGreatDoorR48
import Derived.Test.YtclkdlegogjnbaaGreatDoorR44
import Derived.Test.YtclkdlegogjnbaaGreatDoorR49
namespace Go.Proofs.YtclkdlegogjnbaaGreatDoor
open Go Go.RowKit Go.WideShapes Go.ChangeShapes
set_option linter.unusedVariables false
set_option linter.unusedSimpArgs false
theorem ObsAt.take {w : World} {A : Option Addr} {n c : Nat} {qs : List (Value × Value × Value × Value)} {l : List Ob} (h : ObsAt w (.slice A n c) qs l) (m : Nat) (hm : m ≤ l.length) : ObsAt w (.slice A m c) (qs.take m) (l.take m) := by
 have hl := h.len
 have hlt : (l.take m).length = m := by rw [List.length_take]; omega
 refine ⟨by rw [List.length_take, List.length_take, hl], ?_, fun k hk => ?_⟩
 ·rw [hlt]
  have hq : (qs.take m).flatMap obC = (qs.flatMap obC).take (m * 4) := by
   have h2 : qs.flatMap obC = (qs.take m).flatMap obC ++ (qs.drop m).flatMap obC := by rw [← List.flatMap_append, List.take_append_drop]
   have hqm : (qs.take m).length = m := by rw [List.length_take, hl]; omega
   have h3 : ((qs.take m).flatMap obC).length = m * 4 := by rw [cells_len obC 4 (fun _ => rfl), hqm]
   rw [h2, List.take_append_of_le_length (by omega)]
   exact (List.take_of_length_le (by omega)).symm
  rw [hq]
  rcases h.cells with ⟨h0, h1, A', c', h2⟩ | ⟨b, off, c', h1, h2, h3⟩
  ·injection h2 with e1 e2 e3
   obtain rfl : m = 0 := by omega
   exact .inl ⟨rfl, by simp, A, c, rfl⟩
  ·injection h1 with e1 e2 e3
   subst e1 e3
   refine .inr ⟨b, off, c, rfl, h2, fun k u hk => h3 k u ?_⟩
   rw [List.getElem?_take] at hk
   split at hk
   ·exact hk
   ·cases hk
 ·have hk2 : k < l.length := by rw [List.length_take] at hk; omega
  have := h.obs k hk2
  simpa using this
def SmallO (x : Ob) : Prop := x.code.length ≤ 1100 ∧ x.preds.length ≤ 100 ∧ x.atoms.length ≤ 300 ∧ x.funs.length ≤ 300
theorem exec_indexF {P : Program} {o : Oper} {a : Act} {w : World} {x y : Operand} {t : TypeId} {p i v : Value} (ho : o.op = .indexAddr t x y) (hx : a.eval x = p) (hy : a.eval y = i) (h : (Instr.indexAt t p i).run P w = .ok v w) : (execOp a.eval o).run P w = .ok (.value v) w := by
 unfold execOp
 simp [ho, hx, hy, h]
theorem exec_loadF {P : Program} {o : Oper} {a : Act} {w : World} {x : Operand} {t : TypeId} {p v : Value} (ho : o.op = .load t x) (hx : a.eval x = p) (h : (Instr.loadAt t p).run P w = .ok v w) : (execOp a.eval o).run P w = .ok (.value v) w := by
 unfold execOp
 simp [ho, hx, h]
def OwnCut (w wc : World) (t : Value) : Prop :=
 ∃ qs l A c, t = .slice A l.length c ∧ ObsAt wc (.slice A l.length c) qs l ∧ NilOk qs ∧ l.length ≤ 5 ∧ (∀ x ∈ l, ObWf x) ∧ Below w.heap.size w wc
set_option maxRecDepth 100000 in
set_option maxHeartbeats 32000000 in
theorem linkObjects_any (l : List Ob) (which : Int) (raw : Bool) (hsz : ∀ x ∈ l, (∀ s ∈ x.atoms, s.size ≤ maxLen) ∧ (∀ f ∈ x.funs, f.1.size ≤ maxLen) ∧ ∀ p ∈ x.preds, p.1.size ≤ maxLen) (qs : List (Value × Value × Value × Value)) (v : Value) (hcap : ∀ A n c, v = .slice A n c → n ≤ c) (w : World) {B : Nat} (hp : LaidC B w) (hv : ObsAt w v qs l) (hnil : NilAll qs) :
  Calls Tryz.prog 3 #[v, .int .i64 which, .bool raw] w fun e w' => e = .returned (.bool true) ∧ Below w.heap.size w w' := by
 have HL := Lib.hid (list_any l which qs v w hv hnil)
 have HP := Lib.hid hp
 have HTD := Lib.hid (fun W (h : LaidC B W) => told10_any W h)
 have HV := Lib.hid hv
 have HNL : Hid (NilOk qs) := Lib.hid (fun q hq => (hnil q hq).1)
 have HSZ := Lib.hid hsz
 obtain ⟨A, c, rfl⟩ := hv.cells.form
 have hcc : l.length ≤ c := hcap _ _ _ rfl
 clear hv hnil hp hsz hcap
 go_enter Tryz.func3, Tryz.ntmps3
 go_upto_if 20 with (go_at_call 6; refine HL.out.mono ?_; rintro e w1 ⟨v1, qs1, l1, rfl, h1, hn1, hlen1, hwf1, hb1⟩; obtain ⟨B1, b1, hv1⟩ := h1.cells.form; subst hv1; have H1 := Lib.hid h1; have HN1 := Lib.hid hn1; have HWF := Lib.hid hwf1; have HB1 := Lib.hid hb1; have HLEN := Lib.hid hlen1; clear h1 hn1 hwf1 hb1 hlen1)
 go_cut [7] (fun t7 wc => OwnCut w wc t7)
 case first =>
  cases raw with
  | false =>
   go_wp2
   go_meet
   exact ⟨qs1, l1, B1, b1, rfl, H1.out, HN1.out, by have := HLEN.out; omega, HWF.out, HB1.out⟩
  | true =>
   obtain ⟨m, hm⟩ : ∃ m, min l.length 5 = m := ⟨_, rfl⟩
   have hm5 : m ≤ 5 := by omega
   have hml : m ≤ l.length := by omega
   have HM := Lib.hid hm
   have hmin : min (l.length : Int) 5 = (m : Int) := by omega
   have hmc : (m : Int) ≤ (c : Int) := by omega
   have HV5 := Lib.hid ((HV.out.take m hml).below HB1.out)
   have HN5 : Hid (NilOk (qs.take m)) := Lib.hid (fun q hq => HNL.out q (List.mem_of_mem_take hq))
   have HZ5 := Lib.hid (fun x (hx : x ∈ l.take m) => HSZ.out x (List.mem_of_mem_take hx))
   have hl5 : (l.take m).length = m := by rw [List.length_take]; omega
   go_upto_region 4 with (fail)
   obtain ⟨ls, hls⟩ : ∃ ls, l.take m = ls := ⟨_, rfl⟩
   obtain ⟨qs5, hq5⟩ : ∃ q, qs.take m = q := ⟨_, rfl⟩
   rw [hls, hq5] at HV5
   rw [hq5] at HN5
   rw [hls] at HZ5 hl5
   clear hls hq5 H1 HN1 HWF HLEN HV HSZ HNL hcc hmc hmin HM hm hml
   go_wp2
   go_loop [8] (fun t => ∃ k : Nat, k ≤ m ∧ t = .int .i64 k ∧ Hid (∀ j (hj : j < ls.length), j < k → SmallO ls[j])) (fun t => m - (intOf t).toNat)
   case atStart => exact ⟨0, by omega, rfl, Lib.hid (fun j hj h => absurd h (by omega))⟩
   case round =>
    obtain ⟨k, hk, rfl, HSM⟩ := hrel
    by_cases hlt : k < m
    case neg =>
     obtain rfl : k = m := by omega
     have HL5 := Lib.hid hl5
     clear hl5
     go_wp2
     go_meet
     exact ⟨qs5, ls, A, c, by rw [HL5.out], by rw [HL5.out]; exact HV5.out, HN5.out, by rw [HL5.out]; exact hm5, fun x hx => by
      obtain ⟨j, hj, rfl⟩ := List.getElem_of_mem hx
      have h1 := HSM.out j hj (by have := HL5.out; omega)
      have h2 := HZ5.out _ (List.getElem_mem hj)
      obtain ⟨a1, a2, a3, a4⟩ := h1
      exact ⟨h2.1, h2.2.1, h2.2.2, by omega, by omega, by omega, by omega⟩, HB1.out⟩
    have hkl : k < ls.length := by omega
    obtain ⟨b, off, E0, ec0, E1, ec1, E2, ec2, E3, ec3, rfl, d0, d1, d2, d3, hx1, hx2⟩ := HV5.out.cell HN5.out k hkl w1 (Below.refl _ _)
    have HSM2 : Hid (SmallO ls[k] → ∀ j (hj : j < ls.length), j < k + 1 → SmallO ls[j]) := Lib.hid (fun h j hj hjk => by
     by_cases e : j = k
     ·subst e; exact h
     ·exact HSM.out j hj (by omega))
    unfold SmallO at HSM2
    have i1 : (k : Int) < (m : Int) := by omega
    have i2 : (0 : Int) ≤ (k : Int) := by omega
    have HL5 := Lib.hid hl5
    generalize ls[k].atoms.length = na at d0 HSM2
    generalize ls[k].funs.length = nf at d1 HSM2
    generalize ls[k].preds.length = np at d2 HSM2
    generalize ls[k].code.length = nc at d3 HSM2
    clear hx1 hx2 hl5 hkl
    by_cases h1 : 1100 < nc
    ·have e1 : (1100 : Int) < (nc : Int) := by omega
     have HT1 := Lib.hid (HTD.out w1 (HP.out.up HB1.out))
     go_wp2_with (go_at_call 7; refine HT1.out.mono ?_; rintro e w5 ⟨rfl, hb5⟩; have HB5 := Lib.hid (HB1.out.trans (hb5.mono HB1.out.size)); clear hb5)
     go_ret
     exact ⟨rfl, HB5.out⟩
    have e1 : ¬ (1100 : Int) < (nc : Int) := by omega
    by_cases h2 : 100 < np
    ·have e2 : (100 : Int) < (np : Int) := by omega
     have HT1 := Lib.hid (HTD.out w1 (HP.out.up HB1.out))
     go_wp2_with (go_at_call 7; refine HT1.out.mono ?_; rintro e w5 ⟨rfl, hb5⟩; have HB5 := Lib.hid (HB1.out.trans (hb5.mono HB1.out.size)); clear hb5)
     go_ret
     exact ⟨rfl, HB5.out⟩
    have e2 : ¬ (100 : Int) < (np : Int) := by omega
    by_cases h3 : 300 < na
    ·have e3 : (300 : Int) < (na : Int) := by omega
     have HT1 := Lib.hid (HTD.out w1 (HP.out.up HB1.out))
     go_wp2_with (go_at_call 7; refine HT1.out.mono ?_; rintro e w5 ⟨rfl, hb5⟩; have HB5 := Lib.hid (HB1.out.trans (hb5.mono HB1.out.size)); clear hb5)
     go_ret
     exact ⟨rfl, HB5.out⟩
    have e3 : ¬ (300 : Int) < (na : Int) := by omega
    by_cases h4 : 300 < nf
    ·have e4 : (300 : Int) < (nf : Int) := by omega
     have HT1 := Lib.hid (HTD.out w1 (HP.out.up HB1.out))
     go_wp2_with (go_at_call 7; refine HT1.out.mono ?_; rintro e w5 ⟨rfl, hb5⟩; have HB5 := Lib.hid (HB1.out.trans (hb5.mono HB1.out.size)); clear hb5)
     go_ret
     exact ⟨rfl, HB5.out⟩
    have e4 : ¬ (300 : Int) < (nf : Int) := by omega
    have HSM3 : Hid (∀ j (hj : j < ls.length), j < k + 1 → SmallO ls[j]) := Lib.hid (HSM2.out ⟨by omega, by omega, by omega, by omega⟩)
    clear HSM2
    go_wp2
    go_round
    case rel => exact ⟨k + 1, by omega, by go_num, HSM3⟩
    case measure => simp [intOf]; omega
 case rest =>
 obtain ⟨qs2, l2, A2, c2, rfl, hob, hn2, hlen2, hwf2, hb2⟩ := hcut
 have HO2 := Lib.hid hob
 have HN2 := Lib.hid hn2
 have HW2 := Lib.hid hwf2
 have HB2 := Lib.hid hb2
 have HLO := Lib.hid (lobjs_any l2 hwf2 (by omega) qs2 _ wc hob hn2)
 unfold ObsW at HLO
 have HOB := Lib.hid (fun (W : World) qs v (hb : Below wc.heap.size wc W) (hv : ObsAt W v qs l2) => objects_any l2 HW2.out (by omega) qs v W ((HP.out.up HB2.out).up hb).names (fun W' hb' => (((HP.out.up HB2.out).up hb).up hb').names) hv)
 have HRB := Lib.hid (fun (W : World) (hb : Below wc.heap.size wc W) => robjects_any l2 HW2.out (by omega) qs2 _ W HN2.out (HO2.out.below hb))
 obtain ⟨⟨oo, ef, nf⟩, hr⟩ : ∃ r, linkP l2 = r := ⟨_, rfl⟩
 obtain ⟨⟨o2, eg, ng⟩, hr2⟩ : ∃ r, linkOf l2 = r := ⟨_, rfl⟩
 have HEQ : Hid (oo = o2 ∧ ef = eg ∧ nf = ng) := Lib.hid (by
  have h := link_eq l2 (by omega)
  rw [hr, hr2] at h
  injection h with h1 h
  injection h with h2 h3
  exact ⟨h1, h2, h3⟩)
 have hck : checkOf oo = 0 := by
  have h := link_check l2 (by omega)
  rw [hr2] at h
  rw [HEQ.out.1]
  exact h
 rw [hr] at HOB
 rw [hr2] at HRB
 unfold AsmW at HOB
 unfold RObjsW at HRB
 simp only at HOB HRB
 obtain rfl := HEQ.out.1
 have HCK := Lib.hid hck
 have HWO := Lib.hid (wf_of_ok10 hck).1
 clear hr hr2 hob hn2 hwf2 hb2 hck HL HV HNL HSZ H1 HN1 HWF HB1 HLEN
 go_upto_region 11 with (first
  | (go_at_call 8; refine HLO.out.mono ?_; rintro e w2 ⟨v2, qs3, rfl, h2, hn3, hb3⟩; obtain ⟨A3, c3, hv2⟩ := h2.cells.form; subst hv2; have H3 := Lib.hid h2; have HN3 := Lib.hid hn3; have HB3 := Lib.hid hb3; clear h2 hn3 hb3)
  | (go_at_call 9; refine (HOB.out _ _ _ HB3.out H3.out).mono ?_; rintro e w3 ⟨va, vf, vp, vc, rfl, ho3, hb4⟩; obtain ⟨O1, o1, hva⟩ := ho3.at_.atoms.form; obtain ⟨O2, o2, hvf⟩ := ho3.at_.funs.form; obtain ⟨O3, o3, hvp⟩ := ho3.at_.preds.form; obtain ⟨O4, o4, hvc⟩ := ho3.at_.code.form; subst hva hvf hvp hvc; have HO3 := Lib.hid ho3.at_; have HNA := Lib.hid (own_nil ho3.ra); have HB43 := Lib.hid hb4; have HB4 := Lib.hid (HB3.out.trans (hb4.mono HB3.out.size)); clear ho3 hb4))
 have HBX := Lib.hid (HB4.out.alloc HB4.out.size (.cells #[.slice O1 oo.atoms.length o1, .slice O2 oo.funs.length o2, .slice O3 oo.preds.length o3, .slice O4 oo.code.length o4] 39))
 have HBY := Lib.hid (HB43.out.alloc HB43.out.size (.cells #[.slice O1 oo.atoms.length o1, .slice O2 oo.funs.length o2, .slice O3 oo.preds.length o3, .slice O4 oo.code.length o4] 39))
 have X4 := Lib.hid (Box.new w3 39 #[.slice O1 oo.atoms.length o1, .slice O2 oo.funs.length o2, .slice O3 oo.preds.length o3, .slice O4 oo.code.length o4])
 have HO4 := Lib.hid (HO3.out.below (alloc_below w3 (.cells #[.slice O1 oo.atoms.length o1, .slice O2 oo.funs.length o2, .slice O3 oo.preds.length o3, .slice O4 oo.code.length o4] 39)))
 obtain ⟨w4, hw4⟩ : ∃ w4, w3.alloc (.cells #[.slice O1 oo.atoms.length o1, .slice O2 oo.funs.length o2, .slice O3 oo.preds.length o3, .slice O4 oo.code.length o4] 39) = w4 := ⟨_, rfl⟩
 obtain ⟨g1, hg1⟩ : ∃ g1, w3.heap.size = g1 := ⟨_, rfl⟩
 rw [hw4] at HBX HBY X4 HO4 ⊢
 rw [hg1] at X4 ⊢
 clear hw4 hg1 HO3 HB4 HB43 HLO HOB
 go_upto_region 12 with (go_at_call 10; refine (HRB.out _ HBX.out).mono ?_; rintro e w6 ⟨va, vf, vp, vc, rfl, ho6, hb6⟩; obtain ⟨R1, r1, hva⟩ := ho6.atoms.form; obtain ⟨R2, r2, hvf⟩ := ho6.funs.form; obtain ⟨R3, r3, hvp⟩ := ho6.preds.form; obtain ⟨R4, r4, hvc⟩ := ho6.code.form; subst hva hvf hvp hvc; have HO6 := Lib.hid ho6; have HB6 := Lib.hid hb6; clear ho6 hb6)
 have HB7 := Lib.hid (HB6.out.alloc HB6.out.size (.cells #[.slice R1 oo.atoms.length r1, .slice R2 oo.funs.length r2, .slice R3 oo.preds.length r3, .slice R4 oo.code.length r4] 29))
 have X7 := Lib.hid (Box.new w6 29 #[.slice R1 oo.atoms.length r1, .slice R2 oo.funs.length r2, .slice R3 oo.preds.length r3, .slice R4 oo.code.length r4])
 have HO7 := Lib.hid (HO6.out.below (alloc_below w6 (.cells #[.slice R1 oo.atoms.length r1, .slice R2 oo.funs.length r2, .slice R3 oo.preds.length r3, .slice R4 oo.code.length r4] 29)))
 obtain ⟨wz, hwz⟩ : ∃ wz, w6.alloc (.cells #[.slice R1 oo.atoms.length r1, .slice R2 oo.funs.length r2, .slice R3 oo.preds.length r3, .slice R4 oo.code.length r4] 29) = wz := ⟨_, rfl⟩
 obtain ⟨g2, hg2⟩ : ∃ g2, w6.heap.size = g2 := ⟨_, rfl⟩
 rw [hwz] at HB7 X7 HO7 ⊢
 rw [hg2] at X7 ⊢
 clear hwz hg2 HO6 HB6 HRB
 have XA := Lib.hid (X4.out.below HB7.out X4.out.lt)
 have HOA := Lib.hid (HO4.out.below HB7.out)
 have HBZ := Lib.hid (HBX.out.trans (HB7.out.mono HBX.out.size))
 have HBW := Lib.hid (HB2.out.trans (HBZ.out.mono HB2.out.size))
 have HBV := Lib.hid (HBY.out.trans (HB7.out.mono HBY.out.size))
 clear X4 HO4 HBX HBY HB7
 have HS : Hid (∀ W : World, Below wz.heap.size wz W → (fun w' => w'.cell? ⟨g1, 0, none⟩ = some (.slice O1 oo.atoms.length o1) ∧ w'.cell? ⟨g1, 1, none⟩ = some (.slice O2 oo.funs.length o2) ∧ w'.cell? ⟨g1, 2, none⟩ = some (.slice O3 oo.preds.length o3) ∧ w'.cell? ⟨g1, 3, none⟩ = some (.slice O4 oo.code.length o4) ∧ w'.cell? ⟨g2, 0, none⟩ = some (.slice R1 oo.atoms.length r1) ∧ w'.cell? ⟨g2, 1, none⟩ = some (.slice R2 oo.funs.length r2) ∧ w'.cell? ⟨g2, 2, none⟩ = some (.slice R3 oo.preds.length r3) ∧ w'.cell? ⟨g2, 3, none⟩ = some (.slice R4 oo.code.length r4)) W) := Lib.hid (fun W hb => ⟨bel_cell (XA.out.cell 0) hb, bel_cell (XA.out.cell 1) hb, bel_cell (XA.out.cell 2) hb, bel_cell (XA.out.cell 3) hb, bel_cell (X7.out.cell 0) hb, bel_cell (X7.out.cell 1) hb, bel_cell (X7.out.cell 2) hb, bel_cell (X7.out.cell 3) hb⟩)
 have HTO := Lib.hid (fun (W : World) (hb : Below wz.heap.size wz W) => HTD.out W ((HP.out.up HBW.out).up hb))
 have HFR := Lib.hid (fun (W : World) (hb : Below wz.heap.size wz W) => fromOb_any oo HWO.out _ _ _ _ W (HOA.out.below hb) HNA.out)
 have HSM := Lib.hid (fun (W : World) (ua uf up uc : Value) (hb : Below wz.heap.size wz W) (hu : ObAt W ua uf up uc oo) => by
  have h := rsame_any oo oo HWO.out ua uf up uc (.slice R1 oo.atoms.length r1) (.slice R2 oo.funs.length r2) (.slice R3 oo.preds.length r3) (.slice R4 oo.code.length r4) W hu (HO7.out.below hb)
  rw [decide_eq_true (rfl : oo = oo)] at h
  exact h)
 have eb1 : (ef != eg) = false := by rw [bne_eq_false_iff_eq]; exact HEQ.out.2.1
 have eb2 : (nf != ng) = false := by rw [bne_eq_false_iff_eq]; exact HEQ.out.2.2
 go_upto_region 12 with (fail)
 refine wp_region_noPanic ?_
 refine wp_region_T 99 (fun w' => w'.cell? ⟨g1, 0, none⟩ = some (.slice O1 oo.atoms.length o1) ∧ w'.cell? ⟨g1, 1, none⟩ = some (.slice O2 oo.funs.length o2) ∧ w'.cell? ⟨g1, 2, none⟩ = some (.slice O3 oo.preds.length o3) ∧ w'.cell? ⟨g1, 3, none⟩ = some (.slice O4 oo.code.length o4) ∧ w'.cell? ⟨g2, 0, none⟩ = some (.slice R1 oo.atoms.length r1) ∧ w'.cell? ⟨g2, 1, none⟩ = some (.slice R2 oo.funs.length r2) ∧ w'.cell? ⟨g2, 2, none⟩ = some (.slice R3 oo.preds.length r3) ∧ w'.cell? ⟨g2, 3, none⟩ = some (.slice R4 oo.code.length r4)) (by kernel_rfl) ?_ (fun hHeld => ?_)
 ·exact HS.out _ ⟨rfl, rfl, rfl, Nat.le_refl _, fun _ _ => rfl⟩
 change wpAnyT _ _ _ _ _ _ _ _ _ (wz.drewN 1)
 replace hHeld : (wz.drewN 1).cell? ⟨g1, 0, none⟩ = some (.slice O1 oo.atoms.length o1) ∧ (wz.drewN 1).cell? ⟨g1, 1, none⟩ = some (.slice O2 oo.funs.length o2) ∧ (wz.drewN 1).cell? ⟨g1, 2, none⟩ = some (.slice O3 oo.preds.length o3) ∧ (wz.drewN 1).cell? ⟨g1, 3, none⟩ = some (.slice O4 oo.code.length o4) ∧ (wz.drewN 1).cell? ⟨g2, 0, none⟩ = some (.slice R1 oo.atoms.length r1) ∧ (wz.drewN 1).cell? ⟨g2, 1, none⟩ = some (.slice R2 oo.funs.length r2) ∧ (wz.drewN 1).cell? ⟨g2, 2, none⟩ = some (.slice R3 oo.preds.length r3) ∧ (wz.drewN 1).cell? ⟨g2, 3, none⟩ = some (.slice R4 oo.code.length r4) := hHeld
 have HBd : Hid (Below wz.heap.size wz (wz.drewN 1)) := Lib.hid ⟨rfl, rfl, rfl, Nat.le_refl _, fun _ _ => rfl⟩
 generalize wz.drewN 1 = w2 at HBd hHeld ⊢
 refine wpAnyT_ready (rs := [0]) (by kernel_rfl) (by simp) ?_
 refine AllT.cons (o := _) rfl (fun K hK => ?_) AllT.nil
 go_simp
 go_at_call 7; refine (HTO.out _ HBd.out).mono ?_; rintro e3 w3 ⟨rfl, hb3⟩; have HBe := Lib.hid (HBd.out.trans (hb3.mono HBd.out.size)); clear hb3
 refine hK.out _ _ (fun _ => ?_) (fun hHeld2 => ?_)
 ·exact HS.out _ HBe.out
 replace hHeld := hHeld2 (by decide)
 clear hHeld2 hK K
 try simp only [qA, qB, qC, Act.put, qD, qE, qF]
 refine tP (i := 1) (v := ?_) rfl ?_ ?_
 rotate_left
 ·(intro w hSw; (try dsimp only at hSw); go_simp; try with_reducible rfl)
 try simp only [qA, qB, qC, Act.put, qD, qE, qF]
 refine tP (i := 2) (v := ?_) rfl ?_ ?_
 rotate_left
 ·(intro w hSw; (try dsimp only at hSw); go_simp; try with_reducible rfl)
 try simp only [qA, qB, qC, Act.put, qD, qE, qF]
 refine tP (i := 3) (v := ?_) rfl ?_ ?_
 rotate_left
 ·(intro w hSw; (try dsimp only at hSw); go_simp; try with_reducible rfl)
 try simp only [qA, qB, qC, Act.put, qD, qE, qF]
 refine tP (i := 4) (v := ?_) rfl ?_ ?_
 rotate_left
 ·(intro w hSw; (try dsimp only at hSw); go_simp; try with_reducible rfl)
 try simp only [qA, qB, qC, Act.put, qD, qE, qF]
 refine tP (i := 5) (v := ?_) rfl ?_ ?_
 rotate_left
 ·(intro w hSw; (try dsimp only at hSw); go_simp; try with_reducible rfl)
 try simp only [qA, qB, qC, Act.put, qD, qE, qF]
 refine tP (i := 6) (v := ?_) rfl ?_ ?_
 rotate_left
 ·(intro w hSw; (try dsimp only at hSw); go_simp; try with_reducible rfl)
 try simp only [qA, qB, qC, Act.put, qD, qE, qF]
 refine tP (i := 7) (v := ?_) rfl ?_ ?_
 rotate_left
 ·(intro w hSw; (try dsimp only at hSw); go_simp; try with_reducible rfl)
 try simp only [qA, qB, qC, Act.put, qD, qE, qF]
 refine tP (i := 8) (v := ?_) rfl ?_ ?_
 rotate_left
 ·(intro w hSw; (try dsimp only at hSw); go_simp; try with_reducible rfl)
 try simp only [qA, qB, qC, Act.put, qD, qE, qF]
 refine tP (i := 9) (v := ?_) rfl ?_ ?_
 rotate_left
 ·(intro w hSw; (try dsimp only at hSw); go_simp; try with_reducible rfl)
 try simp only [qA, qB, qC, Act.put, qD, qE, qF]
 refine tP (i := 10) (v := ?_) rfl ?_ ?_
 rotate_left
 ·(intro w hSw; (try dsimp only at hSw); go_simp; try with_reducible rfl)
 try simp only [qA, qB, qC, Act.put, qD, qE, qF]
 refine tP (i := 11) (v := ?_) rfl ?_ ?_
 rotate_left
 ·(intro w hSw; (try dsimp only at hSw); go_simp; try with_reducible rfl)
 try simp only [qA, qB, qC, Act.put, qD, qE, qF]
 refine tP (i := 12) (v := ?_) rfl ?_ ?_
 rotate_left
 ·(intro w hSw; (try dsimp only at hSw); go_simp; try with_reducible rfl)
 try simp only [qA, qB, qC, Act.put, qD, qE, qF]
 refine tS (i := 13) (v := ?_) rfl ?_ hHeld ?_
 rotate_left
 ·(intro w hSw; (try dsimp only at hSw); go_simp; try with_reducible rfl)
 try simp only [qA, qB, qC, Act.put, qD, qE, qF]
 refine tS (i := 15) (v := ?_) rfl ?_ hHeld ?_
 rotate_left
 ·(intro w hSw; (try dsimp only at hSw); go_simp; try with_reducible rfl)
 try simp only [qA, qB, qC, Act.put, qD, qE, qF]
 refine wpAnyT_ready (rs := [14]) (by kernel_rfl) (by simp) ?_
 refine AllT.cons (o := _) rfl (fun K hK => ?_) AllT.nil
 refine step_of_callL (vs := #[.agg #[.slice O1 oo.atoms.length o1, .slice O2 oo.funs.length o2, .slice O3 oo.preds.length o3, .slice O4 oo.code.length o4]]) (by kernel_rfl) (enters_of Tryz.func12 (by kernel_rfl) rfl) _ rfl (by kernel_rfl) ?_
 refine (HFR.out _ HBe.out).mono ?_; rintro e4 w4 ⟨ua, uf, up, uc, rfl, hu4, hb3, _⟩; refine ⟨_, rfl, ?_⟩; have HU4 := Lib.hid hu4; clear hu4; have HBf := Lib.hid (HBe.out.trans (hb3.mono HBe.out.size)); clear hb3
 refine hK.out _ _ (fun _ => ?_) (fun hHeld2 => ?_)
 ·exact HS.out _ HBf.out
 replace hHeld := hHeld2 (by decide)
 clear hHeld2 hK K
 try simp only [qA, qB, qC, Act.put, qD, qE, qF]
 refine wpAnyT_ready (rs := [16]) (by kernel_rfl) (by simp) ?_
 refine AllT.cons (o := _) rfl (fun K hK => ?_) AllT.nil
 refine step_of_callL (vs := #[.agg #[ua, uf, up, uc], .agg #[.slice R1 oo.atoms.length r1, .slice R2 oo.funs.length r2, .slice R3 oo.preds.length r3, .slice R4 oo.code.length r4]]) (by kernel_rfl) (enters_of Tryz.func11 (by kernel_rfl) rfl) _ rfl (by kernel_rfl) ?_
 refine (HSM.out _ _ _ _ _ HBf.out HU4.out).mono ?_; rintro e5 w5 ⟨rfl, hb3⟩; refine ⟨_, rfl, ?_⟩; have HBg := Lib.hid (HBf.out.trans (hb3.mono HBf.out.size)); clear hb3
 refine hK.out _ _ (fun _ => ?_) (fun hHeld2 => ?_)
 ·exact HS.out _ HBg.out
 replace hHeld := hHeld2 (by decide)
 clear hHeld2 hK K
 try simp only [qA, qB, qC, Act.put, qD, qE, qF]
 refine tP (i := 17) (v := ?_) rfl ?_ ?_
 rotate_left
 ·(intro w hSw; (try dsimp only at hSw); go_simp; try with_reducible rfl)
 try simp only [qA, qB, qC, Act.put, qD, qE, qF]
 refine tP (i := 18) (v := ?_) rfl ?_ ?_
 rotate_left
 ·(intro w hSw; (try dsimp only at hSw); go_simp; try with_reducible rfl)
 try simp only [qA, qB, qC, Act.put, qD, qE, qF]
 refine wpAnyT_done (by kernel_rfl) (NoPanic.normal ?_) _
 skip
 clear hHeld HS HTO HFR HSM HU4 HBd HBe HBf eb1 eb2
 obtain ⟨wy, hwy⟩ : ∃ wy, w5 = wy := ⟨_, rfl⟩
 rw [hwy] at HBg ⊢
 clear hwy
 have K0 : Hid (Below wy.heap.size wy wy) := Lib.hid (Below.refl _ _)
 go_wp2
 go_loopw [16] (fun t wr => ∃ k : Nat, k ≤ l2.length ∧ t = .int .i64 k ∧ Hid (Below wy.heap.size wy wr)) (fun t _ => l2.length - (intOf t).toNat)
 case atStart => exact ⟨0, by omega, rfl, K0⟩
 obtain ⟨k, hkl, rfl, HBk⟩ := hrel
 clear K0
 have HBm := Lib.hid (HBg.out.trans (HBk.out.mono HBg.out.size))
 by_cases hlt : k < l2.length
 case pos =>
  obtain ⟨bx, ox, B1, x1, B2, x2, B3, x3, B4, x4, rfl, d0, d1, d2, d3, hat, hna⟩ := H3.out.cell HN3.out k hlt wr (HBV.out.trans (HBm.out.mono HBV.out.size))
  obtain ⟨by_, oy, D1, y1, D2, y2, D3, y3, D4, y4, rfl, f0, f1, f2, f3, hay, _⟩ := HO2.out.cell HN2.out k hlt wr (HBZ.out.trans (HBm.out.mono HBZ.out.size))
  have HWX := Lib.hid (HW2.out _ (List.getElem_mem hlt))
  have i1 : (k : Int) < (l2.length : Int) := by omega
  have i2 : (0 : Int) ≤ (k : Int) := by omega
  have HFX := Lib.hid (fun (W : World) (hb : Below wr.heap.size wr W) => fromOb_any l2[k] HWX.out _ _ _ _ W (hat.below (HBV.out.trans ((HBm.out.trans (hb.mono HBm.out.size)).mono HBV.out.size))) hna)
  have HSX := Lib.hid (fun (W : World) (ua uf up uc : Value) (hb : Below wr.heap.size wr W) (hu : ObAt W ua uf up uc l2[k]) => by
   have h := rsame_any l2[k] l2[k] HWX.out ua uf up uc _ _ _ _ W hu (hay.below (HBZ.out.trans ((HBm.out.trans (hb.mono HBm.out.size)).mono HBZ.out.size)))
   rw [decide_eq_true (rfl : l2[k] = l2[k])] at h
   exact h)
  clear hat hay hna HWX
  generalize l2[k] = xk at d0 d1 d2 d3 f0 f1 f2 f3 HFX HSX
  generalize xk.atoms.length = n1 at d0 f0 HFX HSX
  generalize xk.funs.length = n2 at d1 f1 HFX HSX
  generalize xk.preds.length = n3 at d2 f2 HFX HSX
  generalize xk.code.length = n4 at d3 f3 HFX HSX
  have HS : Hid (∀ W : World, Below wr.heap.size wr W → (fun w' => w'.cell? ⟨bx, ox + k * 4, none⟩ = some (.slice B1 n1 x1) ∧ w'.cell? ⟨bx, ox + k * 4 + 1, none⟩ = some (.slice B2 n2 x2) ∧ w'.cell? ⟨bx, ox + k * 4 + 2, none⟩ = some (.slice B3 n3 x3) ∧ w'.cell? ⟨bx, ox + k * 4 + 3, none⟩ = some (.slice B4 n4 x4) ∧ w'.cell? ⟨by_, oy + k * 4, none⟩ = some (.slice D1 n1 y1) ∧ w'.cell? ⟨by_, oy + k * 4 + 1, none⟩ = some (.slice D2 n2 y2) ∧ w'.cell? ⟨by_, oy + k * 4 + 2, none⟩ = some (.slice D3 n3 y3) ∧ w'.cell? ⟨by_, oy + k * 4 + 3, none⟩ = some (.slice D4 n4 y4)) W) := Lib.hid (fun W hb => ⟨bel_cell d0 hb, bel_cell d1 hb, bel_cell d2 hb, bel_cell d3 hb, bel_cell f0 hb, bel_cell f1 hb, bel_cell f2 hb, bel_cell f3 hb⟩)
  go_upto_region 17 with (fail)
  clear d0 d1 d2 d3 f0 f1 f2 f3
  refine wp_region_noPanic ?_
  refine wp_region_T 99 (fun w' => w'.cell? ⟨bx, ox + k * 4, none⟩ = some (.slice B1 n1 x1) ∧ w'.cell? ⟨bx, ox + k * 4 + 1, none⟩ = some (.slice B2 n2 x2) ∧ w'.cell? ⟨bx, ox + k * 4 + 2, none⟩ = some (.slice B3 n3 x3) ∧ w'.cell? ⟨bx, ox + k * 4 + 3, none⟩ = some (.slice B4 n4 x4) ∧ w'.cell? ⟨by_, oy + k * 4, none⟩ = some (.slice D1 n1 y1) ∧ w'.cell? ⟨by_, oy + k * 4 + 1, none⟩ = some (.slice D2 n2 y2) ∧ w'.cell? ⟨by_, oy + k * 4 + 2, none⟩ = some (.slice D3 n3 y3) ∧ w'.cell? ⟨by_, oy + k * 4 + 3, none⟩ = some (.slice D4 n4 y4)) (by kernel_rfl) ?_ (fun hHeld => ?_)
  ·exact HS.out _ ⟨rfl, rfl, rfl, Nat.le_refl _, fun _ _ => rfl⟩
  change wpAnyT _ _ _ _ _ _ _ _ _ (wr.drewN 1)
  replace hHeld : (wr.drewN 1).cell? ⟨bx, ox + k * 4, none⟩ = some (.slice B1 n1 x1) ∧ (wr.drewN 1).cell? ⟨bx, ox + k * 4 + 1, none⟩ = some (.slice B2 n2 x2) ∧ (wr.drewN 1).cell? ⟨bx, ox + k * 4 + 2, none⟩ = some (.slice B3 n3 x3) ∧ (wr.drewN 1).cell? ⟨bx, ox + k * 4 + 3, none⟩ = some (.slice B4 n4 x4) ∧ (wr.drewN 1).cell? ⟨by_, oy + k * 4, none⟩ = some (.slice D1 n1 y1) ∧ (wr.drewN 1).cell? ⟨by_, oy + k * 4 + 1, none⟩ = some (.slice D2 n2 y2) ∧ (wr.drewN 1).cell? ⟨by_, oy + k * 4 + 2, none⟩ = some (.slice D3 n3 y3) ∧ (wr.drewN 1).cell? ⟨by_, oy + k * 4 + 3, none⟩ = some (.slice D4 n4 y4) := hHeld
  have HBd : Hid (Below wr.heap.size wr (wr.drewN 1)) := Lib.hid ⟨rfl, rfl, rfl, Nat.le_refl _, fun _ _ => rfl⟩
  generalize wr.drewN 1 = w2 at HBd hHeld ⊢
  refine tkP (i := 0) (v := .slice (some ⟨bx, ox, none⟩) l2.length c3) rfl (fun _ _ _ h => h) (Or.inl ⟨by kernel_rfl, fun w _ => by kernel_rfl⟩) ?_
  try simp only [qA, qB, qC, Act.put, qD, qE, qF]
  refine tkP (i := 1) (v := .int .i64 (k : Nat)) rfl (fun _ _ _ h => h) (Or.inl ⟨by kernel_rfl, fun w _ => by kernel_rfl⟩) ?_
  try simp only [qA, qB, qC, Act.put, qD, qE, qF]
  refine tkP (i := 2) (v := .pointer (some ⟨bx, ox + k * 4, none⟩)) rfl (fun _ _ _ h => h) (Or.inl ⟨by kernel_rfl, fun w _ => exec_indexF (p := .slice (some ⟨bx, ox, none⟩) l2.length c3) (i := .int .i64 (k : Nat)) rfl (by kernel_rfl) (by kernel_rfl) (by go_simp)⟩) ?_
  try simp only [qA, qB, qC, Act.put, qD, qE, qF]
  refine tkS (i := 3) (v := .agg #[.slice B1 n1 x1, .slice B2 n2 x2, .slice B3 n3 x3, .slice B4 n4 x4]) rfl (fun _ _ _ h => h) (Or.inl ⟨by kernel_rfl, fun w hSw => exec_loadF (p := .pointer (some ⟨bx, ox + k * 4, none⟩)) rfl (by kernel_rfl) (by (try dsimp only at hSw); go_simp)⟩) hHeld ?_
  try simp only [qA, qB, qC, Act.put, qD, qE, qF]
  refine tkP (i := 5) (v := .slice (some ⟨by_, oy, none⟩) l2.length c2) rfl (fun _ _ _ h => h) (Or.inl ⟨by kernel_rfl, fun w _ => by kernel_rfl⟩) ?_
  try simp only [qA, qB, qC, Act.put, qD, qE, qF]
  refine tkP (i := 6) (v := .int .i64 (k : Nat)) rfl (fun _ _ _ h => h) (Or.inl ⟨by kernel_rfl, fun w _ => by kernel_rfl⟩) ?_
  try simp only [qA, qB, qC, Act.put, qD, qE, qF]
  refine tkP (i := 7) (v := .pointer (some ⟨by_, oy + k * 4, none⟩)) rfl (fun _ _ _ h => h) (Or.inl ⟨by kernel_rfl, fun w _ => exec_indexF (p := .slice (some ⟨by_, oy, none⟩) l2.length c2) (i := .int .i64 (k : Nat)) rfl (by kernel_rfl) (by kernel_rfl) (by go_simp)⟩) ?_
  try simp only [qA, qB, qC, Act.put, qD, qE, qF]
  refine tkS (i := 8) (v := .agg #[.slice D1 n1 y1, .slice D2 n2 y2, .slice D3 n3 y3, .slice D4 n4 y4]) rfl (fun _ _ _ h => h) (Or.inl ⟨by kernel_rfl, fun w hSw => exec_loadF (p := .pointer (some ⟨by_, oy + k * 4, none⟩)) rfl (by kernel_rfl) (by (try dsimp only at hSw); go_simp)⟩) hHeld ?_
  try simp only [qA, qB, qC, Act.put, qD, qE, qF]
  refine wpAnyT_ready (rs := [4]) (by kernel_rfl) (by simp) ?_
  refine AllT.cons (o := _) rfl (fun K hK => ?_) AllT.nil
  refine step_of_callL (vs := #[.agg #[.slice B1 n1 x1, .slice B2 n2 x2, .slice B3 n3 x3, .slice B4 n4 x4]]) (by kernel_rfl) (enters_of Tryz.func12 (by kernel_rfl) rfl) _ rfl (by kernel_rfl) ?_
  refine (HFX.out _ HBd.out).mono ?_; rintro e4 w4 ⟨ua, uf, up, uc, rfl, hu4, hb3, _⟩; refine ⟨_, rfl, ?_⟩; have HU4 := Lib.hid hu4; clear hu4; have HBe := Lib.hid (HBd.out.trans (hb3.mono HBd.out.size)); clear hb3
  refine hK.out _ _ (fun _ => ?_) (fun hHeld2 => ?_)
  ·exact HS.out _ HBe.out
  replace hHeld := hHeld2 (by decide)
  clear hHeld2 hK K
  try simp only [qA, qB, qC, Act.put, qD, qE, qF]
  refine wpAnyT_ready (rs := [9]) (by kernel_rfl) (by simp) ?_
  refine AllT.cons (o := _) rfl (fun K hK => ?_) AllT.nil
  refine step_of_callL (vs := #[.agg #[ua, uf, up, uc], .agg #[.slice D1 n1 y1, .slice D2 n2 y2, .slice D3 n3 y3, .slice D4 n4 y4]]) (by kernel_rfl) (enters_of Tryz.func11 (by kernel_rfl) rfl) _ rfl (by kernel_rfl) ?_
  refine (HSX.out _ _ _ _ _ HBe.out HU4.out).mono ?_; rintro e5 w5 ⟨rfl, hb3⟩; refine ⟨_, rfl, ?_⟩; have HBf := Lib.hid (HBe.out.trans (hb3.mono HBe.out.size)); clear hb3
  refine hK.out _ _ (fun _ => ?_) (fun hHeld2 => ?_)
  ·exact HS.out _ HBf.out
  replace hHeld := hHeld2 (by decide)
  clear hHeld2 hK K
  try simp only [qA, qB, qC, Act.put, qD, qE, qF]
  refine tkP (i := 10) (v := .bool false) rfl (fun _ _ _ h => h) (Or.inl ⟨by kernel_rfl, fun w _ => by kernel_rfl⟩) ?_
  try simp only [qA, qB, qC, Act.put, qD, qE, qF]
  refine wpAnyT_done (by kernel_rfl) (NoPanic.normal ?_) _
  go_wp2
  go_roundw
  case rel => first | exact ⟨k + 1, by omega, by go_num, Lib.hid (HBk.out.trans (HBf.out.mono HBk.out.size))⟩ | ((repeat apply Exists.intro); exact ⟨⟨k + 1, by omega, by go_num, Lib.hid (HBk.out.trans (HBf.out.mono HBk.out.size))⟩, rfl⟩)
  case measure => simp [intOf]; omega
 case neg =>
 obtain rfl : k = l2.length := by omega
 have HBQ := Lib.hid (HBW.out.trans (HBm.out.mono HBW.out.size))
 have p0 := bel_cell (XA.out.cell 0) HBm.out
 have p1 := bel_cell (XA.out.cell 1) HBm.out
 have p2 := bel_cell (XA.out.cell 2) HBm.out
 have p3 := bel_cell (XA.out.cell 3) HBm.out
 by_cases he : ef = 0
 ·subst he
  have HCC := Lib.hid (check_any oo HWO.out _ _ _ _ wr ((HP.out.up HBQ.out).names) (HOA.out.below HBm.out))
  rw [HCK.out] at HCC
  go_wp2_with (go_at_call 13; refine HCC.out.mono ?_; rintro e w8 ⟨rfl, hb8⟩; have HB8 := Lib.hid (HBQ.out.trans (hb8.mono HBQ.out.size)); clear hb8)
  go_ret
  exact ⟨rfl, HB8.out⟩
 ·have e1 : (ef != 0) = true := by rw [bne_iff_ne]; exact he
  go_wp2
  go_ret
  exact ⟨rfl, HBQ.out⟩
end Go.Proofs.YtclkdlegogjnbaaGreatDoor
