/-
  The law VerifyCuts (layer 11). Conditions: lines of no more than 1048576 bytes, told's word.
-/
import Derived.Test.YtlmbiafloiompaaGreatDoorJV51
import Derived.Test.YtlmbiafloiompaaGreatDoorJV35
import Derived.Test.YtlmbiafloiompaaGreatDoorJV36
import Derived.Test.YtlmbiafloiompaaGreatDoorJV49
import Derived.Test.YtlmbiafloiompaaGreatDoorJV48
import Derived.Test.YtlmbiafloiompaaGreatDoorJV50
import Derived.Test.YtlmbiafloiompaaGreatDoorJV52
import Derived.Test.YtlmbiafloiompaaGreatDoorJV12
namespace Go.Proofs.YtlmbiafloiompaaGreatDoor
open Go Go.RowKit
set_option linter.unusedVariables false
set_option linter.unusedSimpArgs false
set_option maxRecDepth 100000

def Told11 : Prop := ∀ {B : Nat} (w : World), LaidC B w → Calls Tryz.prog 6 #[] w fun e w' => e = .returned (.bool true) ∧ Below w.heap.size w w'
theorem own_nilV {w : World} {base : Nat} {e : TypeId} {size n : Nat} {v : Value} {xs : List Value} (h : w.ownsRow base e size v n xs) : ∀ k c, v = .slice none k c → c = 0 := by
  intro k c hv
  rcases h.2 with ⟨rfl, _⟩ | ⟨g, cap, cur, rfl, _⟩
  · injection hv with _ _ h3
    exact h3.symm
  · injection hv with h1
    cases h1
theorem wf_okC {o : Ob} (h : checkOf o = 0) : ObWf o := by
  have hk := ok_of h
  have b : ∀ s : ByteArray, nameOk s = true → s.size ≤ maxLen := fun s hs => by
    have := (name_size hs).2
    unfold maxLen
    omega
  exact ⟨fun s hs => b s (hk.atoms s hs), fun f hf => b f.1 (hk.funs f hf).1, fun p hp => b p.1 (hk.preds p hp).1, by have := hk.la; omega, by have := hk.lf; omega, by have := hk.lp; omega, by have := hk.lc; omega⟩
/-- The first of some texts. -/
theorem atoms_head {w : World} {A : Option Addr} {cap : Nat} {l : List ByteArray} (k : Nat) (h : AtomsAt w (.slice A l.length cap) l) : AtomsAt w (.slice A (min l.length k) cap) (l.take k) := by
  have hl : (l.take k).length = min l.length k := by rw [List.length_take]; omega
  unfold AtomsAt CellsAt at h ⊢
  rw [hl]
  rcases h with ⟨h1, h2, h3⟩ | ⟨b, off, c, he, hb, hc⟩
  · have hn : l = [] := List.eq_nil_of_length_eq_zero h1
    subst hn
    exact .inl ⟨by simp, by simp, A, cap, by simp⟩
  · cases he
    refine .inr ⟨b, off, cap, rfl, hb, fun j u hj => hc j u ?_⟩
    rw [List.getElem?_map, List.getElem?_take] at hj
    rw [List.getElem?_map]
    split at hj
    · exact hj
    · simp at hj

set_option maxHeartbeats 32000000 in
theorem verifyCuts_any (HT : Told11) (l0 : List ByteArray) (hs0 : ∀ s ∈ l0, s.size ≤ 1048576) (A : Option Addr) (cap : Nat) (hcap : l0.length ≤ cap) (hcap2 : cap ≤ 9223372036854775807) (w : World) {B : Nat} (hp : LaidC B w) (hv : AtomsAt w (.slice A l0.length cap) l0) :
    Calls Tryz.prog 5 #[.slice A l0.length cap] w fun e w' => e = .returned (.bool true) ∧ Below w.heap.size w w' := by
  have hv2 := atoms_head 100 hv
  obtain ⟨l, hl⟩ : ∃ l, l0.take 100 = l := ⟨_, rfl⟩
  obtain ⟨m, hm⟩ : ∃ m, min l0.length 100 = m := ⟨_, rfl⟩
  obtain ⟨n, hn⟩ : ∃ n, l0.length = n := ⟨_, rfl⟩
  have hs : ∀ s ∈ l, s.size ≤ 1048576 := fun s h => hs0 s (List.mem_of_mem_take (by rw [hl]; exact h))
  have hlm : l.length = m := by rw [← hl, ← hm, List.length_take]; omega
  have HM := Lib.hid hm
  have hm2 : m ≤ 100 := by omega
  rw [hm, hl] at hv2
  have HV := Lib.hid hv2
  have HP := Lib.hid hp
  have HTO := Lib.hid (fun w hp => HT (B := B) w hp)
  rw [hn] at HM hcap ⊢
  have HPR := Lib.hid (fun w hp hv => program_any pred_keeps l hs (by omega) (.slice A m cap) (B := B) w hp hv)
  have HCK := Lib.hid (asm_check (l.map (·.data.toList)))
  have HWF := Lib.hid (wf_okC (asm_check (l.map (·.data.toList))))
  unfold AsmW at HPR
  generalize asmOf (l.map (·.data.toList)) = res at HPR HCK HWF
  obtain ⟨o, c, ln⟩ := res
  simp only at HPR HCK HWF
  have HKO := Lib.hid (fun va vf vp vc w hnm hv => check11_any sort_ok sort_nil o HWF.out (va := va) (vf := vf) (vp := vp) (vc := vc) w hnm hv)
  unfold CheckW at HKO
  have HVF := Lib.hid (fun h => cut_bad (o := o) h)
  have HVM := Lib.hid (fun x h => add_bad (o := o) (x := x) h)
  obtain ⟨⟨vsts, vnds, f, at0⟩, hvo⟩ : ∃ r, verifyOf o = r := ⟨_, rfl⟩
  rw [hvo] at HKO HVF HVM
  simp only at HKO HVF HVM
  clear hvo hv hv2 hp hl hm hn hlm hs0 hs HT
  have hmc : m ≤ cap := by have := HM.out; omega
  have hmc2 : (m : Int) ≤ (cap : Int) := by omega
  go_enter Tryz.func5, Tryz.ntmps5
  go_upto_region 1 with (fail)
  go_cut [0] (fun s wc => s = .slice A m cap ∧ wc = w)
  case first =>
    by_cases hle : n ≤ 100
    · have hx1 : (n : Int) ≤ 100 := by omega
      have hx2 : ¬ 100 < (n : Int) := by omega
      obtain rfl : m = n := by have := HM.out; omega
      go_wp2
      go_meet
      exact ⟨by rw [show (min (m : Int) 100).toNat = m by omega], rfl⟩
    · have hx1 : ¬ (n : Int) ≤ 100 := by omega
      have hx2 : 100 < (n : Int) := by omega
      obtain rfl : m = 100 := by have := HM.out; omega
      go_wp2
      go_meet
      exact ⟨by rw [show (min (n : Int) 100).toNat = 100 by omega], rfl⟩
  case rest =>
  obtain ⟨rfl, rfl⟩ := hcut
  obtain ⟨w, hw0⟩ : ∃ w, w = wc := ⟨_, rfl⟩
  subst hw0
  go_upto_region 3 with (go_at_call 12; refine (HPR.out _ HP.out HV.out).mono ?_; rintro e w2 ⟨va, vf, vp, vc, rfl, ho2, hb2⟩; have HN := Lib.hid (own_nilV ho2.ra); obtain ⟨A1, c1, hva⟩ := ho2.at_.atoms.form; obtain ⟨A2, c2, hvf⟩ := ho2.at_.funs.form; obtain ⟨A3, c3, hvp⟩ := ho2.at_.preds.form; obtain ⟨A4, c4, hvc⟩ := ho2.at_.code.form; subst hva hvf hvp hvc; have HO2 := Lib.hid ho2.at_; have HB2 := Lib.hid hb2; clear ho2 hb2)
  have HX2 := Lib.hid (Box.new w2 35 #[.slice A1 o.atoms.length c1, .slice A2 o.funs.length c2, .slice A3 o.preds.length c3, .slice A4 o.code.length c4])
  have HB3 := Lib.hid (HB2.out.alloc HB2.out.size (.cells #[.slice A1 o.atoms.length c1, .slice A2 o.funs.length c2, .slice A3 o.preds.length c3, .slice A4 o.code.length c4] 35))
  have HO3 := Lib.hid (HO2.out.below (alloc_below w2 (.cells #[.slice A1 o.atoms.length c1, .slice A2 o.funs.length c2, .slice A3 o.preds.length c3, .slice A4 o.code.length c4] 35)))
  obtain ⟨w3, hw3⟩ : ∃ w3, w2.alloc (.cells #[.slice A1 o.atoms.length c1, .slice A2 o.funs.length c2, .slice A3 o.preds.length c3, .slice A4 o.code.length c4] 35) = w3 := ⟨_, rfl⟩
  obtain ⟨g, hg⟩ : ∃ g, w2.heap.size = g := ⟨_, rfl⟩
  rw [hw3] at HX2 HB3 HO3 ⊢
  rw [hg] at HX2 ⊢
  clear hw3 hg HO2 HB2 HPR HV
  have HP3 := Lib.hid (HP.out.up HB3.out)
  have HK3 := Lib.hid (HKO.out _ _ _ _ w3 HP3.out.names HO3.out)
  have q0 := HX2.out.cell 0
  have q1 := HX2.out.cell 1
  have q2 := HX2.out.cell 2
  have q3 := HX2.out.cell 3
  go_upto_region 4 with (go_at_call 13; refine HK3.out.mono ?_; rintro e w4 ⟨us, un, rfl, hus, hun, hb4⟩; obtain ⟨U1, k1, husf⟩ := CellsAt.form hus; obtain ⟨U2, k2, hunf⟩ := CellsAt.form hun; subst husf hunf; have HB4 := Lib.hid hb4; clear hus hun hb4)
  obtain ⟨nb, hnb⟩ : ∃ nb, vsts.length = nb := ⟨_, rfl⟩
  obtain ⟨mb, hmb⟩ : ∃ mb, vnds.length = mb := ⟨_, rfl⟩
  rw [hnb, hmb]
  clear hnb hmb q0 q1 q2 q3 HK3
  have HB5x := Lib.hid (HB4.out.alloc HB4.out.size (.cells #[.slice U1 nb k1, .slice U2 mb k2] 49))
  obtain ⟨w5, hw5⟩ : ∃ w5, w4.alloc (.cells #[.slice U1 nb k1, .slice U2 mb k2] 49) = w5 := ⟨_, rfl⟩
  rw [hw5] at HB5x ⊢
  clear hw5
  have HX5 := Lib.hid (HX2.out.below HB5x.out HX2.out.lt)
  have HO5 := Lib.hid (HO3.out.below HB5x.out)
  have HB5 := Lib.hid (HB3.out.trans (HB5x.out.mono HB3.out.size))
  clear HB3 HB5x HX2 HO3 HB4 HP3
  have q0 := HX5.out.cell 0
  have q1 := HX5.out.cell 1
  have q2 := HX5.out.cell 2
  have q3 := HX5.out.cell 3
  have HP5 := Lib.hid (HP.out.up HB5.out)
  obtain ⟨N, hN⟩ : ∃ N, o.code.length = N := ⟨_, rfl⟩
  rw [hN] at q3
  have HN5 := Lib.hid hN
  clear hN
  go_upto_region 5 with (fail)
  clear q0 q1 q2 q3
  by_cases hc : c = 0
  case neg =>
    go_wp2_with (first
      | (go_at_call 6; refine (HTO.out _ HP5.out).mono ?_; rintro e wt ⟨rfl, hbt⟩; have HBt := Lib.hid hbt; have HPt := Lib.hid (HP5.out.up hbt); clear hbt)
      | (go_at_call 6; refine (HTO.out _ HPt.out).mono ?_; rintro e wu ⟨rfl, hbu⟩; have HBu := Lib.hid hbu; clear hbu))
    go_ret
    exact ⟨rfl, HB5.out.trans ((HBt.out.trans (HBu.out.mono HBt.out.size)).mono HB5.out.size)⟩
  subst hc
  by_cases hf : f = 0
  case neg =>
    go_wp2_with (first
      | (go_at_call 6; refine (HTO.out _ HP5.out).mono ?_; rintro e wt ⟨rfl, hbt⟩; have HBt := Lib.hid hbt; have HPt := Lib.hid (HP5.out.up hbt); clear hbt)
      | (go_at_call 6; refine (HTO.out _ HPt.out).mono ?_; rintro e wu ⟨rfl, hbu⟩; have HBu := Lib.hid hbu; clear hbu))
    go_ret
    exact ⟨rfl, HB5.out.trans ((HBt.out.trans (HBu.out.mono HBt.out.size)).mono HB5.out.size)⟩
  subst hf
  by_cases h0 : N = 0
  case pos =>
    subst h0
    go_wp2_with (first
      | (go_at_call 6; refine (HTO.out _ HP5.out).mono ?_; rintro e wt ⟨rfl, hbt⟩; have HBt := Lib.hid hbt; have HPt := Lib.hid (HP5.out.up hbt); clear hbt)
      | (go_at_call 6; refine (HTO.out _ HPt.out).mono ?_; rintro e wu ⟨rfl, hbu⟩; have HBu := Lib.hid hbu; clear hbu))
    go_ret
    exact ⟨rfl, HB5.out.trans ((HBt.out.trans (HBu.out.mono HBt.out.size)).mono HB5.out.size)⟩
  by_cases h1 : N = 1024
  case pos =>
    subst h1
    go_wp2_with (first
      | (go_at_call 6; refine (HTO.out _ HP5.out).mono ?_; rintro e wt ⟨rfl, hbt⟩; have HBt := Lib.hid hbt; have HPt := Lib.hid (HP5.out.up hbt); clear hbt)
      | (go_at_call 6; refine (HTO.out _ HPt.out).mono ?_; rintro e wu ⟨rfl, hbu⟩; have HBu := Lib.hid hbu; clear hbu))
    go_ret
    exact ⟨rfl, HB5.out.trans ((HBt.out.trans (HBu.out.mono HBt.out.size)).mono HB5.out.size)⟩
  have h0' : ((N : Int) == 0) = false := beq_eq_false_iff_ne.2 (by omega)
  have h1' : ((N : Int) == 1024) = false := beq_eq_false_iff_ne.2 (by omega)
  have HVL := Lib.hid (HVF.out rfl (by rw [HN5.out]; omega))
  have HN7 : Hid (1 ≤ N ∧ N ≤ 1023) := Lib.hid ⟨by omega, by have := (ok_of HCK.out).lc; rw [HN5.out] at this; omega⟩
  clear h0 h1 HVF
  go_upto_region 7 with (go_at_call 6; refine (HTO.out _ HP5.out).mono ?_; rintro e w6 ⟨rfl, hb6⟩; have HB6x := Lib.hid hb6; clear hb6)
  have HB6 := Lib.hid (HB5.out.trans (HB6x.out.mono HB5.out.size))
  have HX6 := Lib.hid (HX5.out.below HB6x.out HX5.out.lt)
  have HO6 := Lib.hid (HO5.out.below HB6x.out)
  have HP6 := Lib.hid (HP.out.up HB6.out)
  clear h0' h1' HB6x HB5 HX5 HO5 HP5
  go_cut [10, 11] (fun s10 s11 wc => ∃ g10 g11, s10 = .pointer (some ⟨g10, 0, none⟩) ∧ s11 = .pointer (some ⟨g11, 0, none⟩) ∧ CutC7 w wc g10 g11 o)
  case first =>
    refine wp_region_noPanic ?_
    refine wp_region_T 99 (fun w' => w'.cell? ⟨g, 0, none⟩ = some (.slice A1 o.atoms.length c1) ∧ w'.cell? ⟨g, 1, none⟩ = some (.slice A2 o.funs.length c2) ∧ w'.cell? ⟨g, 2, none⟩ = some (.slice A3 o.preds.length c3) ∧ w'.cell? ⟨g, 3, none⟩ = some (.slice A4 o.code.length c4)) (by kernel_rfl) ?_ (fun hHeld => ?_)
    · exact ⟨HX6.out.cell 0, HX6.out.cell 1, HX6.out.cell 2, HX6.out.cell 3⟩
    change wpAnyT _ _ _ _ _ _ _ _ _ w6.drew
    replace hHeld : w6.drew.cell? ⟨g, 0, none⟩ = some (.slice A1 o.atoms.length c1) ∧ w6.drew.cell? ⟨g, 1, none⟩ = some (.slice A2 o.funs.length c2) ∧ w6.drew.cell? ⟨g, 2, none⟩ = some (.slice A3 o.preds.length c3) ∧ w6.drew.cell? ⟨g, 3, none⟩ = some (.slice A4 o.code.length c4) := hHeld
    have HX7 := Lib.hid HX6.out.drew
    have HBx := Lib.hid (bel_dn (Below.refl w6.heap.size w6) 1)
    change Hid (Below w6.heap.size w6 w6.drew) at HBx
    have HO7 := Lib.hid (HO6.out.below HBx.out)
    have HB7 := Lib.hid (bel_dn HB6.out 1)
    change Hid (Below w.heap.size w w6.drew) at HB7
    have HHd : Hid (∀ W, Below w6.drew.heap.size w6.drew W → W.cell? ⟨g, 0, none⟩ = some (.slice A1 o.atoms.length c1) ∧ W.cell? ⟨g, 1, none⟩ = some (.slice A2 o.funs.length c2) ∧ W.cell? ⟨g, 2, none⟩ = some (.slice A3 o.preds.length c3) ∧ W.cell? ⟨g, 3, none⟩ = some (.slice A4 o.code.length c4)) := Lib.hid (fun W hW => ⟨(HX7.out.below hW HX7.out.lt).cell 0, (HX7.out.below hW HX7.out.lt).cell 1, (HX7.out.below hW HX7.out.lt).cell 2, (HX7.out.below hW HX7.out.lt).cell 3⟩)
    clear HBx HX7
    generalize w6.drew = w7 at hHeld HHd HO7 HB7 ⊢
    have HFR := Lib.hid (fun W (hb : Below w7.heap.size w7 W) => fromOwn_any o HWF.out _ _ _ _ W (HO7.out.below hb) HN.out)
    have HC0 := Lib.hid (Below.refl w7.heap.size w7)
    refine tkS (i := 0) (v := ?_) rfl (fun _ _ _ h => h) (Or.inl ⟨by kernel_rfl, ?_⟩) hHeld ?_
    rotate_left
    · intro w hSw
      try dsimp only at hSw
      obtain ⟨h1, h2, h3, h4⟩ := hSw
      go_simp
      try with_reducible rfl
    try simp only [List.getElem_toArray, List.getElem_cons_zero, List.getElem_cons_succ, Act.put, List.setIfInBounds_toArray, List.set_cons_zero, List.set_cons_succ]
    refine tkS (i := 2) (v := ?_) rfl (fun _ _ _ h => h) (Or.inl ⟨by kernel_rfl, ?_⟩) hHeld ?_
    rotate_left
    · intro w hSw
      try dsimp only at hSw
      obtain ⟨h1, h2, h3, h4⟩ := hSw
      go_simp
      try with_reducible rfl
    try simp only [List.getElem_toArray, List.getElem_cons_zero, List.getElem_cons_succ, Act.put, List.setIfInBounds_toArray, List.set_cons_zero, List.set_cons_succ]
    refine wpAnyT_ready (rs := [1, 4, 5]) (by kernel_rfl) (by simp) ?_
    refine AllT.cons (o := _) rfl (fun K hK => ?_) ?_
    · refine step_of_callV (vs := #[.agg #[.slice A1 o.atoms.length c1, .slice A2 o.funs.length c2, .slice A3 o.preds.length c3, .slice A4 o.code.length c4]]) (by kernel_rfl) (enters_of Tryz.func11 (by kernel_rfl) rfl) _ rfl (by kernel_rfl) ?_
      refine (HFR.out w7 HC0.out).mono ?_
      rintro e w8 ⟨la, lf, lp, lc, rfl, _, hb, _, ra, rf, rp, rc⟩
      have HL := Lib.hid (FromR.new ra rf rp rc)
      have HLB := Lib.hid HC0.out.size
      have HC1 := Lib.hid (HC0.out.trans (hb.mono HC0.out.size))
      clear ra rf rp rc hb
      refine ⟨_, rfl, ?_⟩
      refine hK.out _ _ (fun _ => ?_) (fun hHeld2 => ?_)
      · exact HHd.out _ HC1.out
      replace hHeld := hHeld2 (by decide)
      clear hHeld2 hK K
      try simp only [List.getElem_toArray, List.getElem_cons_zero, List.getElem_cons_succ, Act.put, List.setIfInBounds_toArray, List.set_cons_zero, List.set_cons_succ]
      refine wpAnyT_ready (rs := [3, 4, 5]) (by kernel_rfl) (by simp) ?_
      refine AllT.cons (o := _) rfl (fun K hK => ?_) ?_
      · refine step_of_callV (vs := #[.agg #[.slice A1 o.atoms.length c1, .slice A2 o.funs.length c2, .slice A3 o.preds.length c3, .slice A4 o.code.length c4]]) (by kernel_rfl) (enters_of Tryz.func11 (by kernel_rfl) rfl) _ rfl (by kernel_rfl) ?_
        refine (HFR.out w8 HC1.out).mono ?_
        rintro e w9 ⟨ma, mf, mp, mc, rfl, _, hb, _, ra, rf, rp, rc⟩
        have HM := Lib.hid (FromR.new ra rf rp rc)
        have HMB := Lib.hid HC1.out.size
        have HML := Lib.hid HL.out.le
        replace HL := Lib.hid (HL.out.below hb)
        have HC2 := Lib.hid (HC1.out.trans (hb.mono HC1.out.size))
        clear ra rf rp rc hb
        refine ⟨_, rfl, ?_⟩
        refine hK.out _ _ (fun _ => ?_) (fun hHeld2 => ?_)
        · exact HHd.out _ HC2.out
        replace hHeld := hHeld2 (by decide)
        clear hHeld2 hK K
        try simp only [List.getElem_toArray, List.getElem_cons_zero, List.getElem_cons_succ, Act.put, List.setIfInBounds_toArray, List.set_cons_zero, List.set_cons_succ]
        refine wpAnyT_ready (rs := [4, 5]) (by kernel_rfl) (by simp) ?_
        refine AllT.cons (o := _) rfl (fun K hK => ?_) ?_
        · go_simp
          refine hK.out _ _ (fun _ => ?_) (fun hHeld2 => ?_)
          · exact HHd.out _ (HC2.out.alloc HC2.out.size _)
          replace hHeld := hHeld2 (by decide)
          clear hHeld2 hK K
          try simp only [List.getElem_toArray, List.getElem_cons_zero, List.getElem_cons_succ, Act.put, List.setIfInBounds_toArray, List.set_cons_zero, List.set_cons_succ]
          have hb := alloc_below w9 (.cells #[.slice none 0 0, .slice none 0 0, .slice none 0 0, .slice none 0 0] 27)
          have x4 := Box.new w9 27 #[.slice none 0 0, .slice none 0 0, .slice none 0 0, .slice none 0 0]
          have l4 := HC2.out.size
          have HC3 := Lib.hid (HC2.out.alloc HC2.out.size (.cells #[.slice none 0 0, .slice none 0 0, .slice none 0 0, .slice none 0 0] 27))
          replace HL := Lib.hid (HL.out.below hb)
          replace HM := Lib.hid (HM.out.below hb)
          clear hb
          obtain ⟨w10, hw⟩ : ∃ W, w9.alloc (.cells #[.slice none 0 0, .slice none 0 0, .slice none 0 0, .slice none 0 0] 27) = W := ⟨_, rfl⟩
          rw [hw] at x4 HC3 hHeld HL HM ⊢
          clear hw
          refine wpAnyT_ready (rs := [5]) (by kernel_rfl) (by simp) ?_
          refine AllT.cons (o := _) rfl (fun K hK => ?_) AllT.nil
          go_simp
          refine hK.out _ _ (fun _ => ?_) (fun hHeld2 => ?_)
          · exact HHd.out _ (HC3.out.alloc HC3.out.size _)
          replace hHeld := hHeld2 (by decide)
          clear hHeld2 hK K
          try simp only [List.getElem_toArray, List.getElem_cons_zero, List.getElem_cons_succ, Act.put, List.setIfInBounds_toArray, List.set_cons_zero, List.set_cons_succ]
          have hb := alloc_below w10 (.cells #[.slice none 0 0, .slice none 0 0, .slice none 0 0, .slice none 0 0] 27)
          have x5 := Box.new w10 27 #[.slice none 0 0, .slice none 0 0, .slice none 0 0, .slice none 0 0]
          have l5 := HC3.out.size
          have HC4 := Lib.hid (HC3.out.alloc HC3.out.size (.cells #[.slice none 0 0, .slice none 0 0, .slice none 0 0, .slice none 0 0] 27))
          have hlt := x4.lt
          replace x4 := x4.below hb x4.lt
          replace HL := Lib.hid (HL.out.below hb)
          replace HM := Lib.hid (HM.out.below hb)
          clear hb
          obtain ⟨w11, hw⟩ : ∃ W, w10.alloc (.cells #[.slice none 0 0, .slice none 0 0, .slice none 0 0, .slice none 0 0] 27) = W := ⟨_, rfl⟩
          rw [hw] at x5 HC4 hHeld x4 HL HM ⊢
          clear hw
          have hq11 := Box.setCells_far (k := w9.heap.size) (Ne.symm (Nat.ne_of_lt hlt)) [la, lf, lp, lc] w11 _ 0 x5
          refine wpAnyT_ready (rs := [6]) (by kernel_rfl) (by simp) ?_
          refine AllT.cons (o := _) rfl (fun K hK => ?_) AllT.nil
          rw [if_pos (by kernel_rfl)]
          refine wp_store_mid 27 (.tmp 10) (.tmp 58) rfl w9.heap.size 0 #[la, lf, lp, lc] rfl rfl (there_box (A := #[.slice none 0 0, .slice none 0 0, .slice none 0 0, .slice none 0 0]) (by assumption) (Nat.le_refl _)) (by kernel_rfl) HL.out.one ?_
          refine hK.out _ _ (fun _ => ?_) (fun hHeld2 => ?_)
          · exact HHd.out _ (below_cells _ _ _ 0 HC4.out l4)
          clear hK K
          try simp only [List.getElem_toArray, List.getElem_cons_zero, List.getElem_cons_succ, Act.put, List.setIfInBounds_toArray, List.set_cons_zero, List.set_cons_succ]
          refine wpAnyT_ready (rs := [7]) (by kernel_rfl) (by simp) ?_
          refine AllT.cons (o := _) rfl (fun K hK => ?_) AllT.nil
          rw [if_pos (by kernel_rfl)]
          refine wp_store_mid 27 (.tmp 11) (.tmp 60) rfl w10.heap.size 0 #[ma, mf, mp, mc] rfl rfl (there_box (A := #[.slice none 0 0, .slice none 0 0, .slice none 0 0, .slice none 0 0]) (by assumption) (Nat.le_refl _)) (by kernel_rfl) HM.out.one ?_
          refine hK.out _ _ (fun _ => ?_) (fun hHeld2 => ?_)
          · exact HHd.out _ (below_cells _ _ _ 0 (below_cells _ _ _ 0 HC4.out l4) l5)
          clear hK K
          try simp only [List.getElem_toArray, List.getElem_cons_zero, List.getElem_cons_succ, Act.put, List.setIfInBounds_toArray, List.set_cons_zero, List.set_cons_succ]
          refine wpAnyT_done (by kernel_rfl) (NoPanic.normal ?_) _
          go_wp2
          go_meet
          exact ⟨w9.heap.size, w10.heap.size, rfl, rfl, cutC7_of rfl rfl HL.out HM.out x4 x5 (Nat.ne_of_lt hlt) HB7.out HC4.out l4 l5 HLB.out HML.out HMB.out⟩
        refine AllT.cons (o := _) rfl (fun K hK => ?_) ?_
        · go_simp
          refine hK.out _ _ (fun _ => ?_) (fun hHeld2 => ?_)
          · exact HHd.out _ (HC2.out.alloc HC2.out.size _)
          replace hHeld := hHeld2 (by decide)
          clear hHeld2 hK K
          try simp only [List.getElem_toArray, List.getElem_cons_zero, List.getElem_cons_succ, Act.put, List.setIfInBounds_toArray, List.set_cons_zero, List.set_cons_succ]
          have hb := alloc_below w9 (.cells #[.slice none 0 0, .slice none 0 0, .slice none 0 0, .slice none 0 0] 27)
          have x5 := Box.new w9 27 #[.slice none 0 0, .slice none 0 0, .slice none 0 0, .slice none 0 0]
          have l5 := HC2.out.size
          have HC3 := Lib.hid (HC2.out.alloc HC2.out.size (.cells #[.slice none 0 0, .slice none 0 0, .slice none 0 0, .slice none 0 0] 27))
          replace HL := Lib.hid (HL.out.below hb)
          replace HM := Lib.hid (HM.out.below hb)
          clear hb
          obtain ⟨w10, hw⟩ : ∃ W, w9.alloc (.cells #[.slice none 0 0, .slice none 0 0, .slice none 0 0, .slice none 0 0] 27) = W := ⟨_, rfl⟩
          rw [hw] at x5 HC3 hHeld HL HM ⊢
          clear hw
          refine wpAnyT_ready (rs := [4]) (by kernel_rfl) (by simp) ?_
          refine AllT.cons (o := _) rfl (fun K hK => ?_) AllT.nil
          go_simp
          refine hK.out _ _ (fun _ => ?_) (fun hHeld2 => ?_)
          · exact HHd.out _ (HC3.out.alloc HC3.out.size _)
          replace hHeld := hHeld2 (by decide)
          clear hHeld2 hK K
          try simp only [List.getElem_toArray, List.getElem_cons_zero, List.getElem_cons_succ, Act.put, List.setIfInBounds_toArray, List.set_cons_zero, List.set_cons_succ]
          have hb := alloc_below w10 (.cells #[.slice none 0 0, .slice none 0 0, .slice none 0 0, .slice none 0 0] 27)
          have x4 := Box.new w10 27 #[.slice none 0 0, .slice none 0 0, .slice none 0 0, .slice none 0 0]
          have l4 := HC3.out.size
          have HC4 := Lib.hid (HC3.out.alloc HC3.out.size (.cells #[.slice none 0 0, .slice none 0 0, .slice none 0 0, .slice none 0 0] 27))
          have hlt := x5.lt
          replace x5 := x5.below hb x5.lt
          replace HL := Lib.hid (HL.out.below hb)
          replace HM := Lib.hid (HM.out.below hb)
          clear hb
          obtain ⟨w11, hw⟩ : ∃ W, w10.alloc (.cells #[.slice none 0 0, .slice none 0 0, .slice none 0 0, .slice none 0 0] 27) = W := ⟨_, rfl⟩
          rw [hw] at x4 HC4 hHeld x5 HL HM ⊢
          clear hw
          have hq11 := Box.setCells_far (k := w10.heap.size) (Ne.symm (Nat.ne_of_gt hlt)) [la, lf, lp, lc] w11 _ 0 x5
          refine wpAnyT_ready (rs := [6]) (by kernel_rfl) (by simp) ?_
          refine AllT.cons (o := _) rfl (fun K hK => ?_) AllT.nil
          rw [if_pos (by kernel_rfl)]
          refine wp_store_mid 27 (.tmp 10) (.tmp 58) rfl w10.heap.size 0 #[la, lf, lp, lc] rfl rfl (there_box (A := #[.slice none 0 0, .slice none 0 0, .slice none 0 0, .slice none 0 0]) (by assumption) (Nat.le_refl _)) (by kernel_rfl) HL.out.one ?_
          refine hK.out _ _ (fun _ => ?_) (fun hHeld2 => ?_)
          · exact HHd.out _ (below_cells _ _ _ 0 HC4.out l4)
          clear hK K
          try simp only [List.getElem_toArray, List.getElem_cons_zero, List.getElem_cons_succ, Act.put, List.setIfInBounds_toArray, List.set_cons_zero, List.set_cons_succ]
          refine wpAnyT_ready (rs := [7]) (by kernel_rfl) (by simp) ?_
          refine AllT.cons (o := _) rfl (fun K hK => ?_) AllT.nil
          rw [if_pos (by kernel_rfl)]
          refine wp_store_mid 27 (.tmp 11) (.tmp 60) rfl w9.heap.size 0 #[ma, mf, mp, mc] rfl rfl (there_box (A := #[.slice none 0 0, .slice none 0 0, .slice none 0 0, .slice none 0 0]) (by assumption) (Nat.le_refl _)) (by kernel_rfl) HM.out.one ?_
          refine hK.out _ _ (fun _ => ?_) (fun hHeld2 => ?_)
          · exact HHd.out _ (below_cells _ _ _ 0 (below_cells _ _ _ 0 HC4.out l4) l5)
          clear hK K
          try simp only [List.getElem_toArray, List.getElem_cons_zero, List.getElem_cons_succ, Act.put, List.setIfInBounds_toArray, List.set_cons_zero, List.set_cons_succ]
          refine wpAnyT_done (by kernel_rfl) (NoPanic.normal ?_) _
          go_wp2
          go_meet
          exact ⟨w10.heap.size, w9.heap.size, rfl, rfl, cutC7_of rfl rfl HL.out HM.out x4 x5 (Nat.ne_of_gt hlt) HB7.out HC4.out l4 l5 HLB.out HML.out HMB.out⟩
        exact AllT.nil
      refine AllT.cons (o := _) rfl (fun K hK => ?_) ?_
      · go_simp
        refine hK.out _ _ (fun _ => ?_) (fun hHeld2 => ?_)
        · exact HHd.out _ (HC1.out.alloc HC1.out.size _)
        replace hHeld := hHeld2 (by decide)
        clear hHeld2 hK K
        try simp only [List.getElem_toArray, List.getElem_cons_zero, List.getElem_cons_succ, Act.put, List.setIfInBounds_toArray, List.set_cons_zero, List.set_cons_succ]
        have hb := alloc_below w8 (.cells #[.slice none 0 0, .slice none 0 0, .slice none 0 0, .slice none 0 0] 27)
        have x4 := Box.new w8 27 #[.slice none 0 0, .slice none 0 0, .slice none 0 0, .slice none 0 0]
        have l4 := HC1.out.size
        have HC2 := Lib.hid (HC1.out.alloc HC1.out.size (.cells #[.slice none 0 0, .slice none 0 0, .slice none 0 0, .slice none 0 0] 27))
        replace HL := Lib.hid (HL.out.below hb)
        clear hb
        obtain ⟨w9, hw⟩ : ∃ W, w8.alloc (.cells #[.slice none 0 0, .slice none 0 0, .slice none 0 0, .slice none 0 0] 27) = W := ⟨_, rfl⟩
        rw [hw] at x4 HC2 hHeld HL ⊢
        clear hw
        refine wpAnyT_ready (rs := [3, 5]) (by kernel_rfl) (by simp) ?_
        refine AllT.cons (o := _) rfl (fun K hK => ?_) ?_
        · refine step_of_callV (vs := #[.agg #[.slice A1 o.atoms.length c1, .slice A2 o.funs.length c2, .slice A3 o.preds.length c3, .slice A4 o.code.length c4]]) (by kernel_rfl) (enters_of Tryz.func11 (by kernel_rfl) rfl) _ rfl (by kernel_rfl) ?_
          refine (HFR.out w9 HC2.out).mono ?_
          rintro e w10 ⟨ma, mf, mp, mc, rfl, _, hb, _, ra, rf, rp, rc⟩
          have HM := Lib.hid (FromR.new ra rf rp rc)
          have HMB := Lib.hid HC2.out.size
          have HML := Lib.hid HL.out.le
          replace HL := Lib.hid (HL.out.below hb)
          have HC3 := Lib.hid (HC2.out.trans (hb.mono HC2.out.size))
          replace x4 := x4.below hb x4.lt
          clear ra rf rp rc hb
          refine ⟨_, rfl, ?_⟩
          refine hK.out _ _ (fun _ => ?_) (fun hHeld2 => ?_)
          · exact HHd.out _ HC3.out
          replace hHeld := hHeld2 (by decide)
          clear hHeld2 hK K
          try simp only [List.getElem_toArray, List.getElem_cons_zero, List.getElem_cons_succ, Act.put, List.setIfInBounds_toArray, List.set_cons_zero, List.set_cons_succ]
          refine wpAnyT_ready (rs := [5]) (by kernel_rfl) (by simp) ?_
          refine AllT.cons (o := _) rfl (fun K hK => ?_) AllT.nil
          go_simp
          refine hK.out _ _ (fun _ => ?_) (fun hHeld2 => ?_)
          · exact HHd.out _ (HC3.out.alloc HC3.out.size _)
          replace hHeld := hHeld2 (by decide)
          clear hHeld2 hK K
          try simp only [List.getElem_toArray, List.getElem_cons_zero, List.getElem_cons_succ, Act.put, List.setIfInBounds_toArray, List.set_cons_zero, List.set_cons_succ]
          have hb := alloc_below w10 (.cells #[.slice none 0 0, .slice none 0 0, .slice none 0 0, .slice none 0 0] 27)
          have x5 := Box.new w10 27 #[.slice none 0 0, .slice none 0 0, .slice none 0 0, .slice none 0 0]
          have l5 := HC3.out.size
          have HC4 := Lib.hid (HC3.out.alloc HC3.out.size (.cells #[.slice none 0 0, .slice none 0 0, .slice none 0 0, .slice none 0 0] 27))
          have hlt := x4.lt
          replace x4 := x4.below hb x4.lt
          replace HL := Lib.hid (HL.out.below hb)
          replace HM := Lib.hid (HM.out.below hb)
          clear hb
          obtain ⟨w11, hw⟩ : ∃ W, w10.alloc (.cells #[.slice none 0 0, .slice none 0 0, .slice none 0 0, .slice none 0 0] 27) = W := ⟨_, rfl⟩
          rw [hw] at x5 HC4 hHeld x4 HL HM ⊢
          clear hw
          have hq11 := Box.setCells_far (k := w8.heap.size) (Ne.symm (Nat.ne_of_lt hlt)) [la, lf, lp, lc] w11 _ 0 x5
          refine wpAnyT_ready (rs := [6]) (by kernel_rfl) (by simp) ?_
          refine AllT.cons (o := _) rfl (fun K hK => ?_) AllT.nil
          rw [if_pos (by kernel_rfl)]
          refine wp_store_mid 27 (.tmp 10) (.tmp 58) rfl w8.heap.size 0 #[la, lf, lp, lc] rfl rfl (there_box (A := #[.slice none 0 0, .slice none 0 0, .slice none 0 0, .slice none 0 0]) (by assumption) (Nat.le_refl _)) (by kernel_rfl) HL.out.one ?_
          refine hK.out _ _ (fun _ => ?_) (fun hHeld2 => ?_)
          · exact HHd.out _ (below_cells _ _ _ 0 HC4.out l4)
          clear hK K
          try simp only [List.getElem_toArray, List.getElem_cons_zero, List.getElem_cons_succ, Act.put, List.setIfInBounds_toArray, List.set_cons_zero, List.set_cons_succ]
          refine wpAnyT_ready (rs := [7]) (by kernel_rfl) (by simp) ?_
          refine AllT.cons (o := _) rfl (fun K hK => ?_) AllT.nil
          rw [if_pos (by kernel_rfl)]
          refine wp_store_mid 27 (.tmp 11) (.tmp 60) rfl w10.heap.size 0 #[ma, mf, mp, mc] rfl rfl (there_box (A := #[.slice none 0 0, .slice none 0 0, .slice none 0 0, .slice none 0 0]) (by assumption) (Nat.le_refl _)) (by kernel_rfl) HM.out.one ?_
          refine hK.out _ _ (fun _ => ?_) (fun hHeld2 => ?_)
          · exact HHd.out _ (below_cells _ _ _ 0 (below_cells _ _ _ 0 HC4.out l4) l5)
          clear hK K
          try simp only [List.getElem_toArray, List.getElem_cons_zero, List.getElem_cons_succ, Act.put, List.setIfInBounds_toArray, List.set_cons_zero, List.set_cons_succ]
          refine wpAnyT_done (by kernel_rfl) (NoPanic.normal ?_) _
          go_wp2
          go_meet
          exact ⟨w8.heap.size, w10.heap.size, rfl, rfl, cutC7_of rfl rfl HL.out HM.out x4 x5 (Nat.ne_of_lt hlt) HB7.out HC4.out l4 l5 HLB.out HML.out HMB.out⟩
        refine AllT.cons (o := _) rfl (fun K hK => ?_) ?_
        · go_simp
          refine hK.out _ _ (fun _ => ?_) (fun hHeld2 => ?_)
          · exact HHd.out _ (HC2.out.alloc HC2.out.size _)
          replace hHeld := hHeld2 (by decide)
          clear hHeld2 hK K
          try simp only [List.getElem_toArray, List.getElem_cons_zero, List.getElem_cons_succ, Act.put, List.setIfInBounds_toArray, List.set_cons_zero, List.set_cons_succ]
          have hb := alloc_below w9 (.cells #[.slice none 0 0, .slice none 0 0, .slice none 0 0, .slice none 0 0] 27)
          have x5 := Box.new w9 27 #[.slice none 0 0, .slice none 0 0, .slice none 0 0, .slice none 0 0]
          have l5 := HC2.out.size
          have HC3 := Lib.hid (HC2.out.alloc HC2.out.size (.cells #[.slice none 0 0, .slice none 0 0, .slice none 0 0, .slice none 0 0] 27))
          have hlt := x4.lt
          replace x4 := x4.below hb x4.lt
          replace HL := Lib.hid (HL.out.below hb)
          clear hb
          obtain ⟨w10, hw⟩ : ∃ W, w9.alloc (.cells #[.slice none 0 0, .slice none 0 0, .slice none 0 0, .slice none 0 0] 27) = W := ⟨_, rfl⟩
          rw [hw] at x5 HC3 hHeld x4 HL ⊢
          clear hw
          refine wpAnyT_ready (rs := [3]) (by kernel_rfl) (by simp) ?_
          refine AllT.cons (o := _) rfl (fun K hK => ?_) AllT.nil
          refine step_of_callV (vs := #[.agg #[.slice A1 o.atoms.length c1, .slice A2 o.funs.length c2, .slice A3 o.preds.length c3, .slice A4 o.code.length c4]]) (by kernel_rfl) (enters_of Tryz.func11 (by kernel_rfl) rfl) _ rfl (by kernel_rfl) ?_
          refine (HFR.out w10 HC3.out).mono ?_
          rintro e w11 ⟨ma, mf, mp, mc, rfl, _, hb, _, ra, rf, rp, rc⟩
          have HM := Lib.hid (FromR.new ra rf rp rc)
          have HMB := Lib.hid HC3.out.size
          have HML := Lib.hid HL.out.le
          replace HL := Lib.hid (HL.out.below hb)
          have HC4 := Lib.hid (HC3.out.trans (hb.mono HC3.out.size))
          replace x4 := x4.below hb x4.lt
          replace x5 := x5.below hb x5.lt
          clear ra rf rp rc hb
          refine ⟨_, rfl, ?_⟩
          refine hK.out _ _ (fun _ => ?_) (fun hHeld2 => ?_)
          · exact HHd.out _ HC4.out
          replace hHeld := hHeld2 (by decide)
          clear hHeld2 hK K
          try simp only [List.getElem_toArray, List.getElem_cons_zero, List.getElem_cons_succ, Act.put, List.setIfInBounds_toArray, List.set_cons_zero, List.set_cons_succ]
          have hq11 := Box.setCells_far (k := w8.heap.size) (Ne.symm (Nat.ne_of_lt hlt)) [la, lf, lp, lc] w11 _ 0 x5
          refine wpAnyT_ready (rs := [6]) (by kernel_rfl) (by simp) ?_
          refine AllT.cons (o := _) rfl (fun K hK => ?_) AllT.nil
          rw [if_pos (by kernel_rfl)]
          refine wp_store_mid 27 (.tmp 10) (.tmp 58) rfl w8.heap.size 0 #[la, lf, lp, lc] rfl rfl (there_box (A := #[.slice none 0 0, .slice none 0 0, .slice none 0 0, .slice none 0 0]) (by assumption) (Nat.le_refl _)) (by kernel_rfl) HL.out.one ?_
          refine hK.out _ _ (fun _ => ?_) (fun hHeld2 => ?_)
          · exact HHd.out _ (below_cells _ _ _ 0 HC4.out l4)
          clear hK K
          try simp only [List.getElem_toArray, List.getElem_cons_zero, List.getElem_cons_succ, Act.put, List.setIfInBounds_toArray, List.set_cons_zero, List.set_cons_succ]
          refine wpAnyT_ready (rs := [7]) (by kernel_rfl) (by simp) ?_
          refine AllT.cons (o := _) rfl (fun K hK => ?_) AllT.nil
          rw [if_pos (by kernel_rfl)]
          refine wp_store_mid 27 (.tmp 11) (.tmp 60) rfl w9.heap.size 0 #[ma, mf, mp, mc] rfl rfl (there_box (A := #[.slice none 0 0, .slice none 0 0, .slice none 0 0, .slice none 0 0]) (by assumption) (Nat.le_refl _)) (by kernel_rfl) HM.out.one ?_
          refine hK.out _ _ (fun _ => ?_) (fun hHeld2 => ?_)
          · exact HHd.out _ (below_cells _ _ _ 0 (below_cells _ _ _ 0 HC4.out l4) l5)
          clear hK K
          try simp only [List.getElem_toArray, List.getElem_cons_zero, List.getElem_cons_succ, Act.put, List.setIfInBounds_toArray, List.set_cons_zero, List.set_cons_succ]
          refine wpAnyT_done (by kernel_rfl) (NoPanic.normal ?_) _
          go_wp2
          go_meet
          exact ⟨w8.heap.size, w9.heap.size, rfl, rfl, cutC7_of rfl rfl HL.out HM.out x4 x5 (Nat.ne_of_lt hlt) HB7.out HC4.out l4 l5 HLB.out HML.out HMB.out⟩
        exact AllT.nil
      refine AllT.cons (o := _) rfl (fun K hK => ?_) ?_
      · go_simp
        refine hK.out _ _ (fun _ => ?_) (fun hHeld2 => ?_)
        · exact HHd.out _ (HC1.out.alloc HC1.out.size _)
        replace hHeld := hHeld2 (by decide)
        clear hHeld2 hK K
        try simp only [List.getElem_toArray, List.getElem_cons_zero, List.getElem_cons_succ, Act.put, List.setIfInBounds_toArray, List.set_cons_zero, List.set_cons_succ]
        have hb := alloc_below w8 (.cells #[.slice none 0 0, .slice none 0 0, .slice none 0 0, .slice none 0 0] 27)
        have x5 := Box.new w8 27 #[.slice none 0 0, .slice none 0 0, .slice none 0 0, .slice none 0 0]
        have l5 := HC1.out.size
        have HC2 := Lib.hid (HC1.out.alloc HC1.out.size (.cells #[.slice none 0 0, .slice none 0 0, .slice none 0 0, .slice none 0 0] 27))
        replace HL := Lib.hid (HL.out.below hb)
        clear hb
        obtain ⟨w9, hw⟩ : ∃ W, w8.alloc (.cells #[.slice none 0 0, .slice none 0 0, .slice none 0 0, .slice none 0 0] 27) = W := ⟨_, rfl⟩
        rw [hw] at x5 HC2 hHeld HL ⊢
        clear hw
        refine wpAnyT_ready (rs := [3, 4]) (by kernel_rfl) (by simp) ?_
        refine AllT.cons (o := _) rfl (fun K hK => ?_) ?_
        · refine step_of_callV (vs := #[.agg #[.slice A1 o.atoms.length c1, .slice A2 o.funs.length c2, .slice A3 o.preds.length c3, .slice A4 o.code.length c4]]) (by kernel_rfl) (enters_of Tryz.func11 (by kernel_rfl) rfl) _ rfl (by kernel_rfl) ?_
          refine (HFR.out w9 HC2.out).mono ?_
          rintro e w10 ⟨ma, mf, mp, mc, rfl, _, hb, _, ra, rf, rp, rc⟩
          have HM := Lib.hid (FromR.new ra rf rp rc)
          have HMB := Lib.hid HC2.out.size
          have HML := Lib.hid HL.out.le
          replace HL := Lib.hid (HL.out.below hb)
          have HC3 := Lib.hid (HC2.out.trans (hb.mono HC2.out.size))
          replace x5 := x5.below hb x5.lt
          clear ra rf rp rc hb
          refine ⟨_, rfl, ?_⟩
          refine hK.out _ _ (fun _ => ?_) (fun hHeld2 => ?_)
          · exact HHd.out _ HC3.out
          replace hHeld := hHeld2 (by decide)
          clear hHeld2 hK K
          try simp only [List.getElem_toArray, List.getElem_cons_zero, List.getElem_cons_succ, Act.put, List.setIfInBounds_toArray, List.set_cons_zero, List.set_cons_succ]
          refine wpAnyT_ready (rs := [4]) (by kernel_rfl) (by simp) ?_
          refine AllT.cons (o := _) rfl (fun K hK => ?_) AllT.nil
          go_simp
          refine hK.out _ _ (fun _ => ?_) (fun hHeld2 => ?_)
          · exact HHd.out _ (HC3.out.alloc HC3.out.size _)
          replace hHeld := hHeld2 (by decide)
          clear hHeld2 hK K
          try simp only [List.getElem_toArray, List.getElem_cons_zero, List.getElem_cons_succ, Act.put, List.setIfInBounds_toArray, List.set_cons_zero, List.set_cons_succ]
          have hb := alloc_below w10 (.cells #[.slice none 0 0, .slice none 0 0, .slice none 0 0, .slice none 0 0] 27)
          have x4 := Box.new w10 27 #[.slice none 0 0, .slice none 0 0, .slice none 0 0, .slice none 0 0]
          have l4 := HC3.out.size
          have HC4 := Lib.hid (HC3.out.alloc HC3.out.size (.cells #[.slice none 0 0, .slice none 0 0, .slice none 0 0, .slice none 0 0] 27))
          have hlt := x5.lt
          replace x5 := x5.below hb x5.lt
          replace HL := Lib.hid (HL.out.below hb)
          replace HM := Lib.hid (HM.out.below hb)
          clear hb
          obtain ⟨w11, hw⟩ : ∃ W, w10.alloc (.cells #[.slice none 0 0, .slice none 0 0, .slice none 0 0, .slice none 0 0] 27) = W := ⟨_, rfl⟩
          rw [hw] at x4 HC4 hHeld x5 HL HM ⊢
          clear hw
          have hq11 := Box.setCells_far (k := w10.heap.size) (Ne.symm (Nat.ne_of_gt hlt)) [la, lf, lp, lc] w11 _ 0 x5
          refine wpAnyT_ready (rs := [6]) (by kernel_rfl) (by simp) ?_
          refine AllT.cons (o := _) rfl (fun K hK => ?_) AllT.nil
          rw [if_pos (by kernel_rfl)]
          refine wp_store_mid 27 (.tmp 10) (.tmp 58) rfl w10.heap.size 0 #[la, lf, lp, lc] rfl rfl (there_box (A := #[.slice none 0 0, .slice none 0 0, .slice none 0 0, .slice none 0 0]) (by assumption) (Nat.le_refl _)) (by kernel_rfl) HL.out.one ?_
          refine hK.out _ _ (fun _ => ?_) (fun hHeld2 => ?_)
          · exact HHd.out _ (below_cells _ _ _ 0 HC4.out l4)
          clear hK K
          try simp only [List.getElem_toArray, List.getElem_cons_zero, List.getElem_cons_succ, Act.put, List.setIfInBounds_toArray, List.set_cons_zero, List.set_cons_succ]
          refine wpAnyT_ready (rs := [7]) (by kernel_rfl) (by simp) ?_
          refine AllT.cons (o := _) rfl (fun K hK => ?_) AllT.nil
          rw [if_pos (by kernel_rfl)]
          refine wp_store_mid 27 (.tmp 11) (.tmp 60) rfl w8.heap.size 0 #[ma, mf, mp, mc] rfl rfl (there_box (A := #[.slice none 0 0, .slice none 0 0, .slice none 0 0, .slice none 0 0]) (by assumption) (Nat.le_refl _)) (by kernel_rfl) HM.out.one ?_
          refine hK.out _ _ (fun _ => ?_) (fun hHeld2 => ?_)
          · exact HHd.out _ (below_cells _ _ _ 0 (below_cells _ _ _ 0 HC4.out l4) l5)
          clear hK K
          try simp only [List.getElem_toArray, List.getElem_cons_zero, List.getElem_cons_succ, Act.put, List.setIfInBounds_toArray, List.set_cons_zero, List.set_cons_succ]
          refine wpAnyT_done (by kernel_rfl) (NoPanic.normal ?_) _
          go_wp2
          go_meet
          exact ⟨w10.heap.size, w8.heap.size, rfl, rfl, cutC7_of rfl rfl HL.out HM.out x4 x5 (Nat.ne_of_gt hlt) HB7.out HC4.out l4 l5 HLB.out HML.out HMB.out⟩
        refine AllT.cons (o := _) rfl (fun K hK => ?_) ?_
        · go_simp
          refine hK.out _ _ (fun _ => ?_) (fun hHeld2 => ?_)
          · exact HHd.out _ (HC2.out.alloc HC2.out.size _)
          replace hHeld := hHeld2 (by decide)
          clear hHeld2 hK K
          try simp only [List.getElem_toArray, List.getElem_cons_zero, List.getElem_cons_succ, Act.put, List.setIfInBounds_toArray, List.set_cons_zero, List.set_cons_succ]
          have hb := alloc_below w9 (.cells #[.slice none 0 0, .slice none 0 0, .slice none 0 0, .slice none 0 0] 27)
          have x4 := Box.new w9 27 #[.slice none 0 0, .slice none 0 0, .slice none 0 0, .slice none 0 0]
          have l4 := HC2.out.size
          have HC3 := Lib.hid (HC2.out.alloc HC2.out.size (.cells #[.slice none 0 0, .slice none 0 0, .slice none 0 0, .slice none 0 0] 27))
          have hlt := x5.lt
          replace x5 := x5.below hb x5.lt
          replace HL := Lib.hid (HL.out.below hb)
          clear hb
          obtain ⟨w10, hw⟩ : ∃ W, w9.alloc (.cells #[.slice none 0 0, .slice none 0 0, .slice none 0 0, .slice none 0 0] 27) = W := ⟨_, rfl⟩
          rw [hw] at x4 HC3 hHeld x5 HL ⊢
          clear hw
          refine wpAnyT_ready (rs := [3]) (by kernel_rfl) (by simp) ?_
          refine AllT.cons (o := _) rfl (fun K hK => ?_) AllT.nil
          refine step_of_callV (vs := #[.agg #[.slice A1 o.atoms.length c1, .slice A2 o.funs.length c2, .slice A3 o.preds.length c3, .slice A4 o.code.length c4]]) (by kernel_rfl) (enters_of Tryz.func11 (by kernel_rfl) rfl) _ rfl (by kernel_rfl) ?_
          refine (HFR.out w10 HC3.out).mono ?_
          rintro e w11 ⟨ma, mf, mp, mc, rfl, _, hb, _, ra, rf, rp, rc⟩
          have HM := Lib.hid (FromR.new ra rf rp rc)
          have HMB := Lib.hid HC3.out.size
          have HML := Lib.hid HL.out.le
          replace HL := Lib.hid (HL.out.below hb)
          have HC4 := Lib.hid (HC3.out.trans (hb.mono HC3.out.size))
          replace x4 := x4.below hb x4.lt
          replace x5 := x5.below hb x5.lt
          clear ra rf rp rc hb
          refine ⟨_, rfl, ?_⟩
          refine hK.out _ _ (fun _ => ?_) (fun hHeld2 => ?_)
          · exact HHd.out _ HC4.out
          replace hHeld := hHeld2 (by decide)
          clear hHeld2 hK K
          try simp only [List.getElem_toArray, List.getElem_cons_zero, List.getElem_cons_succ, Act.put, List.setIfInBounds_toArray, List.set_cons_zero, List.set_cons_succ]
          have hq11 := Box.setCells_far (k := w9.heap.size) (Ne.symm (Nat.ne_of_gt hlt)) [la, lf, lp, lc] w11 _ 0 x5
          refine wpAnyT_ready (rs := [6]) (by kernel_rfl) (by simp) ?_
          refine AllT.cons (o := _) rfl (fun K hK => ?_) AllT.nil
          rw [if_pos (by kernel_rfl)]
          refine wp_store_mid 27 (.tmp 10) (.tmp 58) rfl w9.heap.size 0 #[la, lf, lp, lc] rfl rfl (there_box (A := #[.slice none 0 0, .slice none 0 0, .slice none 0 0, .slice none 0 0]) (by assumption) (Nat.le_refl _)) (by kernel_rfl) HL.out.one ?_
          refine hK.out _ _ (fun _ => ?_) (fun hHeld2 => ?_)
          · exact HHd.out _ (below_cells _ _ _ 0 HC4.out l4)
          clear hK K
          try simp only [List.getElem_toArray, List.getElem_cons_zero, List.getElem_cons_succ, Act.put, List.setIfInBounds_toArray, List.set_cons_zero, List.set_cons_succ]
          refine wpAnyT_ready (rs := [7]) (by kernel_rfl) (by simp) ?_
          refine AllT.cons (o := _) rfl (fun K hK => ?_) AllT.nil
          rw [if_pos (by kernel_rfl)]
          refine wp_store_mid 27 (.tmp 11) (.tmp 60) rfl w8.heap.size 0 #[ma, mf, mp, mc] rfl rfl (there_box (A := #[.slice none 0 0, .slice none 0 0, .slice none 0 0, .slice none 0 0]) (by assumption) (Nat.le_refl _)) (by kernel_rfl) HM.out.one ?_
          refine hK.out _ _ (fun _ => ?_) (fun hHeld2 => ?_)
          · exact HHd.out _ (below_cells _ _ _ 0 (below_cells _ _ _ 0 HC4.out l4) l5)
          clear hK K
          try simp only [List.getElem_toArray, List.getElem_cons_zero, List.getElem_cons_succ, Act.put, List.setIfInBounds_toArray, List.set_cons_zero, List.set_cons_succ]
          refine wpAnyT_done (by kernel_rfl) (NoPanic.normal ?_) _
          go_wp2
          go_meet
          exact ⟨w9.heap.size, w8.heap.size, rfl, rfl, cutC7_of rfl rfl HL.out HM.out x4 x5 (Nat.ne_of_gt hlt) HB7.out HC4.out l4 l5 HLB.out HML.out HMB.out⟩
        exact AllT.nil
      exact AllT.nil
    refine AllT.cons (o := _) rfl (fun K hK => ?_) ?_
    · go_simp
      refine hK.out _ _ (fun _ => ?_) (fun hHeld2 => ?_)
      · exact HHd.out _ (HC0.out.alloc HC0.out.size _)
      replace hHeld := hHeld2 (by decide)
      clear hHeld2 hK K
      try simp only [List.getElem_toArray, List.getElem_cons_zero, List.getElem_cons_succ, Act.put, List.setIfInBounds_toArray, List.set_cons_zero, List.set_cons_succ]
      have hb := alloc_below w7 (.cells #[.slice none 0 0, .slice none 0 0, .slice none 0 0, .slice none 0 0] 27)
      have x4 := Box.new w7 27 #[.slice none 0 0, .slice none 0 0, .slice none 0 0, .slice none 0 0]
      have l4 := HC0.out.size
      have HC1 := Lib.hid (HC0.out.alloc HC0.out.size (.cells #[.slice none 0 0, .slice none 0 0, .slice none 0 0, .slice none 0 0] 27))
      clear hb
      obtain ⟨w8, hw⟩ : ∃ W, w7.alloc (.cells #[.slice none 0 0, .slice none 0 0, .slice none 0 0, .slice none 0 0] 27) = W := ⟨_, rfl⟩
      rw [hw] at x4 HC1 hHeld ⊢
      clear hw
      refine wpAnyT_ready (rs := [1, 5]) (by kernel_rfl) (by simp) ?_
      refine AllT.cons (o := _) rfl (fun K hK => ?_) ?_
      · refine step_of_callV (vs := #[.agg #[.slice A1 o.atoms.length c1, .slice A2 o.funs.length c2, .slice A3 o.preds.length c3, .slice A4 o.code.length c4]]) (by kernel_rfl) (enters_of Tryz.func11 (by kernel_rfl) rfl) _ rfl (by kernel_rfl) ?_
        refine (HFR.out w8 HC1.out).mono ?_
        rintro e w9 ⟨la, lf, lp, lc, rfl, _, hb, _, ra, rf, rp, rc⟩
        have HL := Lib.hid (FromR.new ra rf rp rc)
        have HLB := Lib.hid HC1.out.size
        have HC2 := Lib.hid (HC1.out.trans (hb.mono HC1.out.size))
        replace x4 := x4.below hb x4.lt
        clear ra rf rp rc hb
        refine ⟨_, rfl, ?_⟩
        refine hK.out _ _ (fun _ => ?_) (fun hHeld2 => ?_)
        · exact HHd.out _ HC2.out
        replace hHeld := hHeld2 (by decide)
        clear hHeld2 hK K
        try simp only [List.getElem_toArray, List.getElem_cons_zero, List.getElem_cons_succ, Act.put, List.setIfInBounds_toArray, List.set_cons_zero, List.set_cons_succ]
        refine wpAnyT_ready (rs := [3, 5]) (by kernel_rfl) (by simp) ?_
        refine AllT.cons (o := _) rfl (fun K hK => ?_) ?_
        · refine step_of_callV (vs := #[.agg #[.slice A1 o.atoms.length c1, .slice A2 o.funs.length c2, .slice A3 o.preds.length c3, .slice A4 o.code.length c4]]) (by kernel_rfl) (enters_of Tryz.func11 (by kernel_rfl) rfl) _ rfl (by kernel_rfl) ?_
          refine (HFR.out w9 HC2.out).mono ?_
          rintro e w10 ⟨ma, mf, mp, mc, rfl, _, hb, _, ra, rf, rp, rc⟩
          have HM := Lib.hid (FromR.new ra rf rp rc)
          have HMB := Lib.hid HC2.out.size
          have HML := Lib.hid HL.out.le
          replace HL := Lib.hid (HL.out.below hb)
          have HC3 := Lib.hid (HC2.out.trans (hb.mono HC2.out.size))
          replace x4 := x4.below hb x4.lt
          clear ra rf rp rc hb
          refine ⟨_, rfl, ?_⟩
          refine hK.out _ _ (fun _ => ?_) (fun hHeld2 => ?_)
          · exact HHd.out _ HC3.out
          replace hHeld := hHeld2 (by decide)
          clear hHeld2 hK K
          try simp only [List.getElem_toArray, List.getElem_cons_zero, List.getElem_cons_succ, Act.put, List.setIfInBounds_toArray, List.set_cons_zero, List.set_cons_succ]
          refine wpAnyT_ready (rs := [5]) (by kernel_rfl) (by simp) ?_
          refine AllT.cons (o := _) rfl (fun K hK => ?_) AllT.nil
          go_simp
          refine hK.out _ _ (fun _ => ?_) (fun hHeld2 => ?_)
          · exact HHd.out _ (HC3.out.alloc HC3.out.size _)
          replace hHeld := hHeld2 (by decide)
          clear hHeld2 hK K
          try simp only [List.getElem_toArray, List.getElem_cons_zero, List.getElem_cons_succ, Act.put, List.setIfInBounds_toArray, List.set_cons_zero, List.set_cons_succ]
          have hb := alloc_below w10 (.cells #[.slice none 0 0, .slice none 0 0, .slice none 0 0, .slice none 0 0] 27)
          have x5 := Box.new w10 27 #[.slice none 0 0, .slice none 0 0, .slice none 0 0, .slice none 0 0]
          have l5 := HC3.out.size
          have HC4 := Lib.hid (HC3.out.alloc HC3.out.size (.cells #[.slice none 0 0, .slice none 0 0, .slice none 0 0, .slice none 0 0] 27))
          have hlt := x4.lt
          replace x4 := x4.below hb x4.lt
          replace HL := Lib.hid (HL.out.below hb)
          replace HM := Lib.hid (HM.out.below hb)
          clear hb
          obtain ⟨w11, hw⟩ : ∃ W, w10.alloc (.cells #[.slice none 0 0, .slice none 0 0, .slice none 0 0, .slice none 0 0] 27) = W := ⟨_, rfl⟩
          rw [hw] at x5 HC4 hHeld x4 HL HM ⊢
          clear hw
          have hq11 := Box.setCells_far (k := w7.heap.size) (Ne.symm (Nat.ne_of_lt hlt)) [la, lf, lp, lc] w11 _ 0 x5
          refine wpAnyT_ready (rs := [6]) (by kernel_rfl) (by simp) ?_
          refine AllT.cons (o := _) rfl (fun K hK => ?_) AllT.nil
          rw [if_pos (by kernel_rfl)]
          refine wp_store_mid 27 (.tmp 10) (.tmp 58) rfl w7.heap.size 0 #[la, lf, lp, lc] rfl rfl (there_box (A := #[.slice none 0 0, .slice none 0 0, .slice none 0 0, .slice none 0 0]) (by assumption) (Nat.le_refl _)) (by kernel_rfl) HL.out.one ?_
          refine hK.out _ _ (fun _ => ?_) (fun hHeld2 => ?_)
          · exact HHd.out _ (below_cells _ _ _ 0 HC4.out l4)
          clear hK K
          try simp only [List.getElem_toArray, List.getElem_cons_zero, List.getElem_cons_succ, Act.put, List.setIfInBounds_toArray, List.set_cons_zero, List.set_cons_succ]
          refine wpAnyT_ready (rs := [7]) (by kernel_rfl) (by simp) ?_
          refine AllT.cons (o := _) rfl (fun K hK => ?_) AllT.nil
          rw [if_pos (by kernel_rfl)]
          refine wp_store_mid 27 (.tmp 11) (.tmp 60) rfl w10.heap.size 0 #[ma, mf, mp, mc] rfl rfl (there_box (A := #[.slice none 0 0, .slice none 0 0, .slice none 0 0, .slice none 0 0]) (by assumption) (Nat.le_refl _)) (by kernel_rfl) HM.out.one ?_
          refine hK.out _ _ (fun _ => ?_) (fun hHeld2 => ?_)
          · exact HHd.out _ (below_cells _ _ _ 0 (below_cells _ _ _ 0 HC4.out l4) l5)
          clear hK K
          try simp only [List.getElem_toArray, List.getElem_cons_zero, List.getElem_cons_succ, Act.put, List.setIfInBounds_toArray, List.set_cons_zero, List.set_cons_succ]
          refine wpAnyT_done (by kernel_rfl) (NoPanic.normal ?_) _
          go_wp2
          go_meet
          exact ⟨w7.heap.size, w10.heap.size, rfl, rfl, cutC7_of rfl rfl HL.out HM.out x4 x5 (Nat.ne_of_lt hlt) HB7.out HC4.out l4 l5 HLB.out HML.out HMB.out⟩
        refine AllT.cons (o := _) rfl (fun K hK => ?_) ?_
        · go_simp
          refine hK.out _ _ (fun _ => ?_) (fun hHeld2 => ?_)
          · exact HHd.out _ (HC2.out.alloc HC2.out.size _)
          replace hHeld := hHeld2 (by decide)
          clear hHeld2 hK K
          try simp only [List.getElem_toArray, List.getElem_cons_zero, List.getElem_cons_succ, Act.put, List.setIfInBounds_toArray, List.set_cons_zero, List.set_cons_succ]
          have hb := alloc_below w9 (.cells #[.slice none 0 0, .slice none 0 0, .slice none 0 0, .slice none 0 0] 27)
          have x5 := Box.new w9 27 #[.slice none 0 0, .slice none 0 0, .slice none 0 0, .slice none 0 0]
          have l5 := HC2.out.size
          have HC3 := Lib.hid (HC2.out.alloc HC2.out.size (.cells #[.slice none 0 0, .slice none 0 0, .slice none 0 0, .slice none 0 0] 27))
          have hlt := x4.lt
          replace x4 := x4.below hb x4.lt
          replace HL := Lib.hid (HL.out.below hb)
          clear hb
          obtain ⟨w10, hw⟩ : ∃ W, w9.alloc (.cells #[.slice none 0 0, .slice none 0 0, .slice none 0 0, .slice none 0 0] 27) = W := ⟨_, rfl⟩
          rw [hw] at x5 HC3 hHeld x4 HL ⊢
          clear hw
          refine wpAnyT_ready (rs := [3]) (by kernel_rfl) (by simp) ?_
          refine AllT.cons (o := _) rfl (fun K hK => ?_) AllT.nil
          refine step_of_callV (vs := #[.agg #[.slice A1 o.atoms.length c1, .slice A2 o.funs.length c2, .slice A3 o.preds.length c3, .slice A4 o.code.length c4]]) (by kernel_rfl) (enters_of Tryz.func11 (by kernel_rfl) rfl) _ rfl (by kernel_rfl) ?_
          refine (HFR.out w10 HC3.out).mono ?_
          rintro e w11 ⟨ma, mf, mp, mc, rfl, _, hb, _, ra, rf, rp, rc⟩
          have HM := Lib.hid (FromR.new ra rf rp rc)
          have HMB := Lib.hid HC3.out.size
          have HML := Lib.hid HL.out.le
          replace HL := Lib.hid (HL.out.below hb)
          have HC4 := Lib.hid (HC3.out.trans (hb.mono HC3.out.size))
          replace x4 := x4.below hb x4.lt
          replace x5 := x5.below hb x5.lt
          clear ra rf rp rc hb
          refine ⟨_, rfl, ?_⟩
          refine hK.out _ _ (fun _ => ?_) (fun hHeld2 => ?_)
          · exact HHd.out _ HC4.out
          replace hHeld := hHeld2 (by decide)
          clear hHeld2 hK K
          try simp only [List.getElem_toArray, List.getElem_cons_zero, List.getElem_cons_succ, Act.put, List.setIfInBounds_toArray, List.set_cons_zero, List.set_cons_succ]
          have hq11 := Box.setCells_far (k := w7.heap.size) (Ne.symm (Nat.ne_of_lt hlt)) [la, lf, lp, lc] w11 _ 0 x5
          refine wpAnyT_ready (rs := [6]) (by kernel_rfl) (by simp) ?_
          refine AllT.cons (o := _) rfl (fun K hK => ?_) AllT.nil
          rw [if_pos (by kernel_rfl)]
          refine wp_store_mid 27 (.tmp 10) (.tmp 58) rfl w7.heap.size 0 #[la, lf, lp, lc] rfl rfl (there_box (A := #[.slice none 0 0, .slice none 0 0, .slice none 0 0, .slice none 0 0]) (by assumption) (Nat.le_refl _)) (by kernel_rfl) HL.out.one ?_
          refine hK.out _ _ (fun _ => ?_) (fun hHeld2 => ?_)
          · exact HHd.out _ (below_cells _ _ _ 0 HC4.out l4)
          clear hK K
          try simp only [List.getElem_toArray, List.getElem_cons_zero, List.getElem_cons_succ, Act.put, List.setIfInBounds_toArray, List.set_cons_zero, List.set_cons_succ]
          refine wpAnyT_ready (rs := [7]) (by kernel_rfl) (by simp) ?_
          refine AllT.cons (o := _) rfl (fun K hK => ?_) AllT.nil
          rw [if_pos (by kernel_rfl)]
          refine wp_store_mid 27 (.tmp 11) (.tmp 60) rfl w9.heap.size 0 #[ma, mf, mp, mc] rfl rfl (there_box (A := #[.slice none 0 0, .slice none 0 0, .slice none 0 0, .slice none 0 0]) (by assumption) (Nat.le_refl _)) (by kernel_rfl) HM.out.one ?_
          refine hK.out _ _ (fun _ => ?_) (fun hHeld2 => ?_)
          · exact HHd.out _ (below_cells _ _ _ 0 (below_cells _ _ _ 0 HC4.out l4) l5)
          clear hK K
          try simp only [List.getElem_toArray, List.getElem_cons_zero, List.getElem_cons_succ, Act.put, List.setIfInBounds_toArray, List.set_cons_zero, List.set_cons_succ]
          refine wpAnyT_done (by kernel_rfl) (NoPanic.normal ?_) _
          go_wp2
          go_meet
          exact ⟨w7.heap.size, w9.heap.size, rfl, rfl, cutC7_of rfl rfl HL.out HM.out x4 x5 (Nat.ne_of_lt hlt) HB7.out HC4.out l4 l5 HLB.out HML.out HMB.out⟩
        exact AllT.nil
      refine AllT.cons (o := _) rfl (fun K hK => ?_) ?_
      · go_simp
        refine hK.out _ _ (fun _ => ?_) (fun hHeld2 => ?_)
        · exact HHd.out _ (HC1.out.alloc HC1.out.size _)
        replace hHeld := hHeld2 (by decide)
        clear hHeld2 hK K
        try simp only [List.getElem_toArray, List.getElem_cons_zero, List.getElem_cons_succ, Act.put, List.setIfInBounds_toArray, List.set_cons_zero, List.set_cons_succ]
        have hb := alloc_below w8 (.cells #[.slice none 0 0, .slice none 0 0, .slice none 0 0, .slice none 0 0] 27)
        have x5 := Box.new w8 27 #[.slice none 0 0, .slice none 0 0, .slice none 0 0, .slice none 0 0]
        have l5 := HC1.out.size
        have HC2 := Lib.hid (HC1.out.alloc HC1.out.size (.cells #[.slice none 0 0, .slice none 0 0, .slice none 0 0, .slice none 0 0] 27))
        have hlt := x4.lt
        replace x4 := x4.below hb x4.lt
        clear hb
        obtain ⟨w9, hw⟩ : ∃ W, w8.alloc (.cells #[.slice none 0 0, .slice none 0 0, .slice none 0 0, .slice none 0 0] 27) = W := ⟨_, rfl⟩
        rw [hw] at x5 HC2 hHeld x4 ⊢
        clear hw
        refine wpAnyT_ready (rs := [1]) (by kernel_rfl) (by simp) ?_
        refine AllT.cons (o := _) rfl (fun K hK => ?_) AllT.nil
        refine step_of_callV (vs := #[.agg #[.slice A1 o.atoms.length c1, .slice A2 o.funs.length c2, .slice A3 o.preds.length c3, .slice A4 o.code.length c4]]) (by kernel_rfl) (enters_of Tryz.func11 (by kernel_rfl) rfl) _ rfl (by kernel_rfl) ?_
        refine (HFR.out w9 HC2.out).mono ?_
        rintro e w10 ⟨la, lf, lp, lc, rfl, _, hb, _, ra, rf, rp, rc⟩
        have HL := Lib.hid (FromR.new ra rf rp rc)
        have HLB := Lib.hid HC2.out.size
        have HC3 := Lib.hid (HC2.out.trans (hb.mono HC2.out.size))
        replace x4 := x4.below hb x4.lt
        replace x5 := x5.below hb x5.lt
        clear ra rf rp rc hb
        refine ⟨_, rfl, ?_⟩
        refine hK.out _ _ (fun _ => ?_) (fun hHeld2 => ?_)
        · exact HHd.out _ HC3.out
        replace hHeld := hHeld2 (by decide)
        clear hHeld2 hK K
        try simp only [List.getElem_toArray, List.getElem_cons_zero, List.getElem_cons_succ, Act.put, List.setIfInBounds_toArray, List.set_cons_zero, List.set_cons_succ]
        refine wpAnyT_ready (rs := [3]) (by kernel_rfl) (by simp) ?_
        refine AllT.cons (o := _) rfl (fun K hK => ?_) AllT.nil
        refine step_of_callV (vs := #[.agg #[.slice A1 o.atoms.length c1, .slice A2 o.funs.length c2, .slice A3 o.preds.length c3, .slice A4 o.code.length c4]]) (by kernel_rfl) (enters_of Tryz.func11 (by kernel_rfl) rfl) _ rfl (by kernel_rfl) ?_
        refine (HFR.out w10 HC3.out).mono ?_
        rintro e w11 ⟨ma, mf, mp, mc, rfl, _, hb, _, ra, rf, rp, rc⟩
        have HM := Lib.hid (FromR.new ra rf rp rc)
        have HMB := Lib.hid HC3.out.size
        have HML := Lib.hid HL.out.le
        replace HL := Lib.hid (HL.out.below hb)
        have HC4 := Lib.hid (HC3.out.trans (hb.mono HC3.out.size))
        replace x4 := x4.below hb x4.lt
        replace x5 := x5.below hb x5.lt
        clear ra rf rp rc hb
        refine ⟨_, rfl, ?_⟩
        refine hK.out _ _ (fun _ => ?_) (fun hHeld2 => ?_)
        · exact HHd.out _ HC4.out
        replace hHeld := hHeld2 (by decide)
        clear hHeld2 hK K
        try simp only [List.getElem_toArray, List.getElem_cons_zero, List.getElem_cons_succ, Act.put, List.setIfInBounds_toArray, List.set_cons_zero, List.set_cons_succ]
        have hq11 := Box.setCells_far (k := w7.heap.size) (Ne.symm (Nat.ne_of_lt hlt)) [la, lf, lp, lc] w11 _ 0 x5
        refine wpAnyT_ready (rs := [6]) (by kernel_rfl) (by simp) ?_
        refine AllT.cons (o := _) rfl (fun K hK => ?_) AllT.nil
        rw [if_pos (by kernel_rfl)]
        refine wp_store_mid 27 (.tmp 10) (.tmp 58) rfl w7.heap.size 0 #[la, lf, lp, lc] rfl rfl (there_box (A := #[.slice none 0 0, .slice none 0 0, .slice none 0 0, .slice none 0 0]) (by assumption) (Nat.le_refl _)) (by kernel_rfl) HL.out.one ?_
        refine hK.out _ _ (fun _ => ?_) (fun hHeld2 => ?_)
        · exact HHd.out _ (below_cells _ _ _ 0 HC4.out l4)
        clear hK K
        try simp only [List.getElem_toArray, List.getElem_cons_zero, List.getElem_cons_succ, Act.put, List.setIfInBounds_toArray, List.set_cons_zero, List.set_cons_succ]
        refine wpAnyT_ready (rs := [7]) (by kernel_rfl) (by simp) ?_
        refine AllT.cons (o := _) rfl (fun K hK => ?_) AllT.nil
        rw [if_pos (by kernel_rfl)]
        refine wp_store_mid 27 (.tmp 11) (.tmp 60) rfl w8.heap.size 0 #[ma, mf, mp, mc] rfl rfl (there_box (A := #[.slice none 0 0, .slice none 0 0, .slice none 0 0, .slice none 0 0]) (by assumption) (Nat.le_refl _)) (by kernel_rfl) HM.out.one ?_
        refine hK.out _ _ (fun _ => ?_) (fun hHeld2 => ?_)
        · exact HHd.out _ (below_cells _ _ _ 0 (below_cells _ _ _ 0 HC4.out l4) l5)
        clear hK K
        try simp only [List.getElem_toArray, List.getElem_cons_zero, List.getElem_cons_succ, Act.put, List.setIfInBounds_toArray, List.set_cons_zero, List.set_cons_succ]
        refine wpAnyT_done (by kernel_rfl) (NoPanic.normal ?_) _
        go_wp2
        go_meet
        exact ⟨w7.heap.size, w8.heap.size, rfl, rfl, cutC7_of rfl rfl HL.out HM.out x4 x5 (Nat.ne_of_lt hlt) HB7.out HC4.out l4 l5 HLB.out HML.out HMB.out⟩
      exact AllT.nil
    refine AllT.cons (o := _) rfl (fun K hK => ?_) ?_
    · go_simp
      refine hK.out _ _ (fun _ => ?_) (fun hHeld2 => ?_)
      · exact HHd.out _ (HC0.out.alloc HC0.out.size _)
      replace hHeld := hHeld2 (by decide)
      clear hHeld2 hK K
      try simp only [List.getElem_toArray, List.getElem_cons_zero, List.getElem_cons_succ, Act.put, List.setIfInBounds_toArray, List.set_cons_zero, List.set_cons_succ]
      have hb := alloc_below w7 (.cells #[.slice none 0 0, .slice none 0 0, .slice none 0 0, .slice none 0 0] 27)
      have x5 := Box.new w7 27 #[.slice none 0 0, .slice none 0 0, .slice none 0 0, .slice none 0 0]
      have l5 := HC0.out.size
      have HC1 := Lib.hid (HC0.out.alloc HC0.out.size (.cells #[.slice none 0 0, .slice none 0 0, .slice none 0 0, .slice none 0 0] 27))
      clear hb
      obtain ⟨w8, hw⟩ : ∃ W, w7.alloc (.cells #[.slice none 0 0, .slice none 0 0, .slice none 0 0, .slice none 0 0] 27) = W := ⟨_, rfl⟩
      rw [hw] at x5 HC1 hHeld ⊢
      clear hw
      refine wpAnyT_ready (rs := [1, 4]) (by kernel_rfl) (by simp) ?_
      refine AllT.cons (o := _) rfl (fun K hK => ?_) ?_
      · refine step_of_callV (vs := #[.agg #[.slice A1 o.atoms.length c1, .slice A2 o.funs.length c2, .slice A3 o.preds.length c3, .slice A4 o.code.length c4]]) (by kernel_rfl) (enters_of Tryz.func11 (by kernel_rfl) rfl) _ rfl (by kernel_rfl) ?_
        refine (HFR.out w8 HC1.out).mono ?_
        rintro e w9 ⟨la, lf, lp, lc, rfl, _, hb, _, ra, rf, rp, rc⟩
        have HL := Lib.hid (FromR.new ra rf rp rc)
        have HLB := Lib.hid HC1.out.size
        have HC2 := Lib.hid (HC1.out.trans (hb.mono HC1.out.size))
        replace x5 := x5.below hb x5.lt
        clear ra rf rp rc hb
        refine ⟨_, rfl, ?_⟩
        refine hK.out _ _ (fun _ => ?_) (fun hHeld2 => ?_)
        · exact HHd.out _ HC2.out
        replace hHeld := hHeld2 (by decide)
        clear hHeld2 hK K
        try simp only [List.getElem_toArray, List.getElem_cons_zero, List.getElem_cons_succ, Act.put, List.setIfInBounds_toArray, List.set_cons_zero, List.set_cons_succ]
        refine wpAnyT_ready (rs := [3, 4]) (by kernel_rfl) (by simp) ?_
        refine AllT.cons (o := _) rfl (fun K hK => ?_) ?_
        · refine step_of_callV (vs := #[.agg #[.slice A1 o.atoms.length c1, .slice A2 o.funs.length c2, .slice A3 o.preds.length c3, .slice A4 o.code.length c4]]) (by kernel_rfl) (enters_of Tryz.func11 (by kernel_rfl) rfl) _ rfl (by kernel_rfl) ?_
          refine (HFR.out w9 HC2.out).mono ?_
          rintro e w10 ⟨ma, mf, mp, mc, rfl, _, hb, _, ra, rf, rp, rc⟩
          have HM := Lib.hid (FromR.new ra rf rp rc)
          have HMB := Lib.hid HC2.out.size
          have HML := Lib.hid HL.out.le
          replace HL := Lib.hid (HL.out.below hb)
          have HC3 := Lib.hid (HC2.out.trans (hb.mono HC2.out.size))
          replace x5 := x5.below hb x5.lt
          clear ra rf rp rc hb
          refine ⟨_, rfl, ?_⟩
          refine hK.out _ _ (fun _ => ?_) (fun hHeld2 => ?_)
          · exact HHd.out _ HC3.out
          replace hHeld := hHeld2 (by decide)
          clear hHeld2 hK K
          try simp only [List.getElem_toArray, List.getElem_cons_zero, List.getElem_cons_succ, Act.put, List.setIfInBounds_toArray, List.set_cons_zero, List.set_cons_succ]
          refine wpAnyT_ready (rs := [4]) (by kernel_rfl) (by simp) ?_
          refine AllT.cons (o := _) rfl (fun K hK => ?_) AllT.nil
          go_simp
          refine hK.out _ _ (fun _ => ?_) (fun hHeld2 => ?_)
          · exact HHd.out _ (HC3.out.alloc HC3.out.size _)
          replace hHeld := hHeld2 (by decide)
          clear hHeld2 hK K
          try simp only [List.getElem_toArray, List.getElem_cons_zero, List.getElem_cons_succ, Act.put, List.setIfInBounds_toArray, List.set_cons_zero, List.set_cons_succ]
          have hb := alloc_below w10 (.cells #[.slice none 0 0, .slice none 0 0, .slice none 0 0, .slice none 0 0] 27)
          have x4 := Box.new w10 27 #[.slice none 0 0, .slice none 0 0, .slice none 0 0, .slice none 0 0]
          have l4 := HC3.out.size
          have HC4 := Lib.hid (HC3.out.alloc HC3.out.size (.cells #[.slice none 0 0, .slice none 0 0, .slice none 0 0, .slice none 0 0] 27))
          have hlt := x5.lt
          replace x5 := x5.below hb x5.lt
          replace HL := Lib.hid (HL.out.below hb)
          replace HM := Lib.hid (HM.out.below hb)
          clear hb
          obtain ⟨w11, hw⟩ : ∃ W, w10.alloc (.cells #[.slice none 0 0, .slice none 0 0, .slice none 0 0, .slice none 0 0] 27) = W := ⟨_, rfl⟩
          rw [hw] at x4 HC4 hHeld x5 HL HM ⊢
          clear hw
          have hq11 := Box.setCells_far (k := w10.heap.size) (Ne.symm (Nat.ne_of_gt hlt)) [la, lf, lp, lc] w11 _ 0 x5
          refine wpAnyT_ready (rs := [6]) (by kernel_rfl) (by simp) ?_
          refine AllT.cons (o := _) rfl (fun K hK => ?_) AllT.nil
          rw [if_pos (by kernel_rfl)]
          refine wp_store_mid 27 (.tmp 10) (.tmp 58) rfl w10.heap.size 0 #[la, lf, lp, lc] rfl rfl (there_box (A := #[.slice none 0 0, .slice none 0 0, .slice none 0 0, .slice none 0 0]) (by assumption) (Nat.le_refl _)) (by kernel_rfl) HL.out.one ?_
          refine hK.out _ _ (fun _ => ?_) (fun hHeld2 => ?_)
          · exact HHd.out _ (below_cells _ _ _ 0 HC4.out l4)
          clear hK K
          try simp only [List.getElem_toArray, List.getElem_cons_zero, List.getElem_cons_succ, Act.put, List.setIfInBounds_toArray, List.set_cons_zero, List.set_cons_succ]
          refine wpAnyT_ready (rs := [7]) (by kernel_rfl) (by simp) ?_
          refine AllT.cons (o := _) rfl (fun K hK => ?_) AllT.nil
          rw [if_pos (by kernel_rfl)]
          refine wp_store_mid 27 (.tmp 11) (.tmp 60) rfl w7.heap.size 0 #[ma, mf, mp, mc] rfl rfl (there_box (A := #[.slice none 0 0, .slice none 0 0, .slice none 0 0, .slice none 0 0]) (by assumption) (Nat.le_refl _)) (by kernel_rfl) HM.out.one ?_
          refine hK.out _ _ (fun _ => ?_) (fun hHeld2 => ?_)
          · exact HHd.out _ (below_cells _ _ _ 0 (below_cells _ _ _ 0 HC4.out l4) l5)
          clear hK K
          try simp only [List.getElem_toArray, List.getElem_cons_zero, List.getElem_cons_succ, Act.put, List.setIfInBounds_toArray, List.set_cons_zero, List.set_cons_succ]
          refine wpAnyT_done (by kernel_rfl) (NoPanic.normal ?_) _
          go_wp2
          go_meet
          exact ⟨w10.heap.size, w7.heap.size, rfl, rfl, cutC7_of rfl rfl HL.out HM.out x4 x5 (Nat.ne_of_gt hlt) HB7.out HC4.out l4 l5 HLB.out HML.out HMB.out⟩
        refine AllT.cons (o := _) rfl (fun K hK => ?_) ?_
        · go_simp
          refine hK.out _ _ (fun _ => ?_) (fun hHeld2 => ?_)
          · exact HHd.out _ (HC2.out.alloc HC2.out.size _)
          replace hHeld := hHeld2 (by decide)
          clear hHeld2 hK K
          try simp only [List.getElem_toArray, List.getElem_cons_zero, List.getElem_cons_succ, Act.put, List.setIfInBounds_toArray, List.set_cons_zero, List.set_cons_succ]
          have hb := alloc_below w9 (.cells #[.slice none 0 0, .slice none 0 0, .slice none 0 0, .slice none 0 0] 27)
          have x4 := Box.new w9 27 #[.slice none 0 0, .slice none 0 0, .slice none 0 0, .slice none 0 0]
          have l4 := HC2.out.size
          have HC3 := Lib.hid (HC2.out.alloc HC2.out.size (.cells #[.slice none 0 0, .slice none 0 0, .slice none 0 0, .slice none 0 0] 27))
          have hlt := x5.lt
          replace x5 := x5.below hb x5.lt
          replace HL := Lib.hid (HL.out.below hb)
          clear hb
          obtain ⟨w10, hw⟩ : ∃ W, w9.alloc (.cells #[.slice none 0 0, .slice none 0 0, .slice none 0 0, .slice none 0 0] 27) = W := ⟨_, rfl⟩
          rw [hw] at x4 HC3 hHeld x5 HL ⊢
          clear hw
          refine wpAnyT_ready (rs := [3]) (by kernel_rfl) (by simp) ?_
          refine AllT.cons (o := _) rfl (fun K hK => ?_) AllT.nil
          refine step_of_callV (vs := #[.agg #[.slice A1 o.atoms.length c1, .slice A2 o.funs.length c2, .slice A3 o.preds.length c3, .slice A4 o.code.length c4]]) (by kernel_rfl) (enters_of Tryz.func11 (by kernel_rfl) rfl) _ rfl (by kernel_rfl) ?_
          refine (HFR.out w10 HC3.out).mono ?_
          rintro e w11 ⟨ma, mf, mp, mc, rfl, _, hb, _, ra, rf, rp, rc⟩
          have HM := Lib.hid (FromR.new ra rf rp rc)
          have HMB := Lib.hid HC3.out.size
          have HML := Lib.hid HL.out.le
          replace HL := Lib.hid (HL.out.below hb)
          have HC4 := Lib.hid (HC3.out.trans (hb.mono HC3.out.size))
          replace x4 := x4.below hb x4.lt
          replace x5 := x5.below hb x5.lt
          clear ra rf rp rc hb
          refine ⟨_, rfl, ?_⟩
          refine hK.out _ _ (fun _ => ?_) (fun hHeld2 => ?_)
          · exact HHd.out _ HC4.out
          replace hHeld := hHeld2 (by decide)
          clear hHeld2 hK K
          try simp only [List.getElem_toArray, List.getElem_cons_zero, List.getElem_cons_succ, Act.put, List.setIfInBounds_toArray, List.set_cons_zero, List.set_cons_succ]
          have hq11 := Box.setCells_far (k := w9.heap.size) (Ne.symm (Nat.ne_of_gt hlt)) [la, lf, lp, lc] w11 _ 0 x5
          refine wpAnyT_ready (rs := [6]) (by kernel_rfl) (by simp) ?_
          refine AllT.cons (o := _) rfl (fun K hK => ?_) AllT.nil
          rw [if_pos (by kernel_rfl)]
          refine wp_store_mid 27 (.tmp 10) (.tmp 58) rfl w9.heap.size 0 #[la, lf, lp, lc] rfl rfl (there_box (A := #[.slice none 0 0, .slice none 0 0, .slice none 0 0, .slice none 0 0]) (by assumption) (Nat.le_refl _)) (by kernel_rfl) HL.out.one ?_
          refine hK.out _ _ (fun _ => ?_) (fun hHeld2 => ?_)
          · exact HHd.out _ (below_cells _ _ _ 0 HC4.out l4)
          clear hK K
          try simp only [List.getElem_toArray, List.getElem_cons_zero, List.getElem_cons_succ, Act.put, List.setIfInBounds_toArray, List.set_cons_zero, List.set_cons_succ]
          refine wpAnyT_ready (rs := [7]) (by kernel_rfl) (by simp) ?_
          refine AllT.cons (o := _) rfl (fun K hK => ?_) AllT.nil
          rw [if_pos (by kernel_rfl)]
          refine wp_store_mid 27 (.tmp 11) (.tmp 60) rfl w7.heap.size 0 #[ma, mf, mp, mc] rfl rfl (there_box (A := #[.slice none 0 0, .slice none 0 0, .slice none 0 0, .slice none 0 0]) (by assumption) (Nat.le_refl _)) (by kernel_rfl) HM.out.one ?_
          refine hK.out _ _ (fun _ => ?_) (fun hHeld2 => ?_)
          · exact HHd.out _ (below_cells _ _ _ 0 (below_cells _ _ _ 0 HC4.out l4) l5)
          clear hK K
          try simp only [List.getElem_toArray, List.getElem_cons_zero, List.getElem_cons_succ, Act.put, List.setIfInBounds_toArray, List.set_cons_zero, List.set_cons_succ]
          refine wpAnyT_done (by kernel_rfl) (NoPanic.normal ?_) _
          go_wp2
          go_meet
          exact ⟨w9.heap.size, w7.heap.size, rfl, rfl, cutC7_of rfl rfl HL.out HM.out x4 x5 (Nat.ne_of_gt hlt) HB7.out HC4.out l4 l5 HLB.out HML.out HMB.out⟩
        exact AllT.nil
      refine AllT.cons (o := _) rfl (fun K hK => ?_) ?_
      · go_simp
        refine hK.out _ _ (fun _ => ?_) (fun hHeld2 => ?_)
        · exact HHd.out _ (HC1.out.alloc HC1.out.size _)
        replace hHeld := hHeld2 (by decide)
        clear hHeld2 hK K
        try simp only [List.getElem_toArray, List.getElem_cons_zero, List.getElem_cons_succ, Act.put, List.setIfInBounds_toArray, List.set_cons_zero, List.set_cons_succ]
        have hb := alloc_below w8 (.cells #[.slice none 0 0, .slice none 0 0, .slice none 0 0, .slice none 0 0] 27)
        have x4 := Box.new w8 27 #[.slice none 0 0, .slice none 0 0, .slice none 0 0, .slice none 0 0]
        have l4 := HC1.out.size
        have HC2 := Lib.hid (HC1.out.alloc HC1.out.size (.cells #[.slice none 0 0, .slice none 0 0, .slice none 0 0, .slice none 0 0] 27))
        have hlt := x5.lt
        replace x5 := x5.below hb x5.lt
        clear hb
        obtain ⟨w9, hw⟩ : ∃ W, w8.alloc (.cells #[.slice none 0 0, .slice none 0 0, .slice none 0 0, .slice none 0 0] 27) = W := ⟨_, rfl⟩
        rw [hw] at x4 HC2 hHeld x5 ⊢
        clear hw
        refine wpAnyT_ready (rs := [1]) (by kernel_rfl) (by simp) ?_
        refine AllT.cons (o := _) rfl (fun K hK => ?_) AllT.nil
        refine step_of_callV (vs := #[.agg #[.slice A1 o.atoms.length c1, .slice A2 o.funs.length c2, .slice A3 o.preds.length c3, .slice A4 o.code.length c4]]) (by kernel_rfl) (enters_of Tryz.func11 (by kernel_rfl) rfl) _ rfl (by kernel_rfl) ?_
        refine (HFR.out w9 HC2.out).mono ?_
        rintro e w10 ⟨la, lf, lp, lc, rfl, _, hb, _, ra, rf, rp, rc⟩
        have HL := Lib.hid (FromR.new ra rf rp rc)
        have HLB := Lib.hid HC2.out.size
        have HC3 := Lib.hid (HC2.out.trans (hb.mono HC2.out.size))
        replace x4 := x4.below hb x4.lt
        replace x5 := x5.below hb x5.lt
        clear ra rf rp rc hb
        refine ⟨_, rfl, ?_⟩
        refine hK.out _ _ (fun _ => ?_) (fun hHeld2 => ?_)
        · exact HHd.out _ HC3.out
        replace hHeld := hHeld2 (by decide)
        clear hHeld2 hK K
        try simp only [List.getElem_toArray, List.getElem_cons_zero, List.getElem_cons_succ, Act.put, List.setIfInBounds_toArray, List.set_cons_zero, List.set_cons_succ]
        refine wpAnyT_ready (rs := [3]) (by kernel_rfl) (by simp) ?_
        refine AllT.cons (o := _) rfl (fun K hK => ?_) AllT.nil
        refine step_of_callV (vs := #[.agg #[.slice A1 o.atoms.length c1, .slice A2 o.funs.length c2, .slice A3 o.preds.length c3, .slice A4 o.code.length c4]]) (by kernel_rfl) (enters_of Tryz.func11 (by kernel_rfl) rfl) _ rfl (by kernel_rfl) ?_
        refine (HFR.out w10 HC3.out).mono ?_
        rintro e w11 ⟨ma, mf, mp, mc, rfl, _, hb, _, ra, rf, rp, rc⟩
        have HM := Lib.hid (FromR.new ra rf rp rc)
        have HMB := Lib.hid HC3.out.size
        have HML := Lib.hid HL.out.le
        replace HL := Lib.hid (HL.out.below hb)
        have HC4 := Lib.hid (HC3.out.trans (hb.mono HC3.out.size))
        replace x4 := x4.below hb x4.lt
        replace x5 := x5.below hb x5.lt
        clear ra rf rp rc hb
        refine ⟨_, rfl, ?_⟩
        refine hK.out _ _ (fun _ => ?_) (fun hHeld2 => ?_)
        · exact HHd.out _ HC4.out
        replace hHeld := hHeld2 (by decide)
        clear hHeld2 hK K
        try simp only [List.getElem_toArray, List.getElem_cons_zero, List.getElem_cons_succ, Act.put, List.setIfInBounds_toArray, List.set_cons_zero, List.set_cons_succ]
        have hq11 := Box.setCells_far (k := w8.heap.size) (Ne.symm (Nat.ne_of_gt hlt)) [la, lf, lp, lc] w11 _ 0 x5
        refine wpAnyT_ready (rs := [6]) (by kernel_rfl) (by simp) ?_
        refine AllT.cons (o := _) rfl (fun K hK => ?_) AllT.nil
        rw [if_pos (by kernel_rfl)]
        refine wp_store_mid 27 (.tmp 10) (.tmp 58) rfl w8.heap.size 0 #[la, lf, lp, lc] rfl rfl (there_box (A := #[.slice none 0 0, .slice none 0 0, .slice none 0 0, .slice none 0 0]) (by assumption) (Nat.le_refl _)) (by kernel_rfl) HL.out.one ?_
        refine hK.out _ _ (fun _ => ?_) (fun hHeld2 => ?_)
        · exact HHd.out _ (below_cells _ _ _ 0 HC4.out l4)
        clear hK K
        try simp only [List.getElem_toArray, List.getElem_cons_zero, List.getElem_cons_succ, Act.put, List.setIfInBounds_toArray, List.set_cons_zero, List.set_cons_succ]
        refine wpAnyT_ready (rs := [7]) (by kernel_rfl) (by simp) ?_
        refine AllT.cons (o := _) rfl (fun K hK => ?_) AllT.nil
        rw [if_pos (by kernel_rfl)]
        refine wp_store_mid 27 (.tmp 11) (.tmp 60) rfl w7.heap.size 0 #[ma, mf, mp, mc] rfl rfl (there_box (A := #[.slice none 0 0, .slice none 0 0, .slice none 0 0, .slice none 0 0]) (by assumption) (Nat.le_refl _)) (by kernel_rfl) HM.out.one ?_
        refine hK.out _ _ (fun _ => ?_) (fun hHeld2 => ?_)
        · exact HHd.out _ (below_cells _ _ _ 0 (below_cells _ _ _ 0 HC4.out l4) l5)
        clear hK K
        try simp only [List.getElem_toArray, List.getElem_cons_zero, List.getElem_cons_succ, Act.put, List.setIfInBounds_toArray, List.set_cons_zero, List.set_cons_succ]
        refine wpAnyT_done (by kernel_rfl) (NoPanic.normal ?_) _
        go_wp2
        go_meet
        exact ⟨w8.heap.size, w7.heap.size, rfl, rfl, cutC7_of rfl rfl HL.out HM.out x4 x5 (Nat.ne_of_gt hlt) HB7.out HC4.out l4 l5 HLB.out HML.out HMB.out⟩
      exact AllT.nil
    exact AllT.nil
  case rest =>
  obtain ⟨g10, g11, rfl, rfl, la, lf, lp, lc, ma, mf, mp, mc, b1, t1, b2, t2, hb1, h12, hl7, hm7, x10, x11, hne, hb7, l10, l11, hb2⟩ := hcut
  obtain ⟨w7, hw0⟩ : ∃ w, w = wc := ⟨_, rfl⟩
  subst hw0
  obtain ⟨L1, e1, hla, _⟩ := own_form hl7.ra
  obtain ⟨L2, e2, hlf, _⟩ := own_form hl7.rf
  obtain ⟨L3, e3, hlp, _⟩ := own_form hl7.rp
  obtain ⟨L4, e4, hlc, hle4⟩ := own_form hl7.rc
  subst hla hlf hlp hlc
  obtain ⟨M1, d1, hma, _⟩ := own_form hm7.ra
  obtain ⟨M2, d2, hmf, _⟩ := own_form hm7.rf
  obtain ⟨M3, d3, hmp, _⟩ := own_form hm7.rp
  obtain ⟨M4, d4, hmc', hmd4⟩ := own_form hm7.rc
  subst hma hmf hmp hmc'
  have HL7 := Lib.hid hl7
  have HM7 := Lib.hid hm7
  have HB7 := Lib.hid hb7
  have HX10 := Lib.hid x10
  have HX11 := Lib.hid x11
  have HNE := Lib.hid hne
  have HLE := Lib.hid (And.intro hb1 (And.intro h12 (And.intro l10 (And.intro l11 hb2))))
  obtain ⟨K, hK⟩ : ∃ K : Nat, N = K + 1 := ⟨N - 1, by have := HN7.out; omega⟩
  subst hK
  have hk1 : K + 1 ≤ 1023 := HN7.out.2
  have hke : K ≤ e4 := by have := HN5.out; omega
  have hke2 : (K : Int) ≤ (e4 : Int) := by omega
  have hkd : K + 1 ≤ d4 := by have := HN5.out; omega
  have q0 := HX10.out.cell 3
  have q1 := HX10.out.frozen 3
  rw [HN5.out] at q0
  clear hl7 hm7 hb7 x10 x11 hne hb1 h12 l10 l11 hb2 hle4 hmd4 HX6 HO6 HB6 HN
  go_upto_region 9 with (fail)
  have HX10b : Hid (Box (w7.setCell ⟨g10, 3, none⟩ (.slice L4 K e4)) g10 27 #[.slice L1 o.atoms.length e1, .slice L2 o.funs.length e2, .slice L3 o.preds.length e3, .slice L4 K e4]) := Lib.hid (HX10.out.set_ 3 (.slice L4 K e4))
  have HX11b := Lib.hid (HX11.out.far (p := ⟨g10, 3, none⟩) (Ne.symm HNE.out) (.slice L4 K e4))
  have f8 : Fr (fun k => k = g10) w7 (w7.setCell ⟨g10, 3, none⟩ (.slice L4 K e4)) := Fr.setCells [.slice L4 K e4] w7 w7 3 (Fr.refl _ _) (.inl rfl)
  have HL8 := Lib.hid (HL7.out.fr f8 f8.size (HL7.out.far HX10.out))
  have HM8 := Lib.hid (HM7.out.fr f8 f8.size (HM7.out.far HX10.out))
  have HB8 : Hid (Below w.heap.size w (w7.setCell ⟨g10, 3, none⟩ (.slice L4 K e4))) := Lib.hid (below_cells [.slice L4 K e4] w w7 3 HB7.out HLE.out.2.2.1)
  obtain ⟨w8, hw8⟩ : ∃ w8, w7.setCell ⟨g10, 3, none⟩ (.slice L4 K e4) = w8 := ⟨_, rfl⟩
  rw [hw8] at HX10b HX11b HL8 HM8 HB8 ⊢
  clear hw8 f8 HL7 HM7 HB7 HX10 HX11 q0 q1
  have HX10c := Lib.hid HX10b.out.drew
  have HX11c := Lib.hid HX11b.out.drew
  have HBx := Lib.hid (bel_dn (Below.refl w8.heap.size w8) 1)
  change Hid (Below w8.heap.size w8 w8.drew) at HBx
  have HL9 := Lib.hid (HL8.out.below HBx.out)
  have HM9 := Lib.hid (HM8.out.below HBx.out)
  have HB9 := Lib.hid (bel_dn HB8.out 1)
  change Hid (Below w.heap.size w w8.drew) at HB9
  have hcd := HM9.out.at_.code
  obtain ⟨bm, om, hM4, hbm, i0, i1, i2, i3, i4⟩ := insCell hcd K (by rw [HN5.out]; omega)
  subst hM4
  obtain ⟨⟨op, ia, ib, ic, id⟩, hx⟩ : ∃ x, o.code[K]'(by rw [HN5.out]; omega) = x := ⟨_, rfl⟩
  rw [hx] at i0 i1 i2 i3 i4
  have HXM : Hid ((op, ia, ib, ic, id) ∈ o.code) := Lib.hid (by rw [← hx]; exact List.getElem_mem _)
  simp only at i0 i1 i2 i3 i4
  have q3 := HX11c.out.cell 3
  rw [HN5.out] at q3
  have hi0 : (0 : Int) ≤ (K : Int) := by omega
  have hi1 : (K : Int) < (K : Int) + 1 := by omega
  have hwr : IntKind.i64.wrap (K : Int) = (K : Int) := IntWalk.i64_in _ (by omega)
  clear hx hcd HBx
  obtain ⟨v10, w10, hr10, HA10⟩ := app_one slRIns HM9.out.rc [.int .i64 op, .int .i64 ia, .int .i64 ib, .int .i64 ic, .int .i64 id] rfl (by intro u hu; simp only [List.mem_cons, List.not_mem_nil, or_false] at hu; rcases hu with rfl | rfl | rfl | rfl | rfl <;> rfl) (by rw [HN5.out]; omega) (by have h := own_ge HM9.out.rc (b := bm) rfl; exact Nat.le_of_lt (Nat.lt_of_le_of_lt h.1 h.2)) 25
  obtain ⟨A10, c10, hv10⟩ := HA10.out.form
  subst hv10
  have HR10 := Lib.hid hr10
  rw [HN5.out] at HR10
  clear hr10
  refine wp_region_noPanic ?_
  refine wp_region_T 9 (fun w' => w'.cell? ⟨g11, 3, none⟩ = some (.slice (some ⟨bm, om, none⟩) (K + 1) d4) ∧ w'.cell? ⟨bm, om + K * 5, none⟩ = some (.int .i64 op) ∧ w'.cell? ⟨bm, om + K * 5 + 1, none⟩ = some (.int .i64 ia) ∧ w'.cell? ⟨bm, om + K * 5 + 2, none⟩ = some (.int .i64 ib) ∧ w'.cell? ⟨bm, om + K * 5 + 3, none⟩ = some (.int .i64 ic) ∧ w'.cell? ⟨bm, om + K * 5 + 4, none⟩ = some (.int .i64 id)) (by kernel_rfl) ?_ (fun hHeld => ?_)
  · exact ⟨q3, i0, i1, i2, i3, i4⟩
  change wpAnyT _ _ _ _ _ _ _ _ _ w8.drew
  replace hHeld : w8.drew.cell? ⟨g11, 3, none⟩ = some (.slice (some ⟨bm, om, none⟩) (K + 1) d4) ∧ w8.drew.cell? ⟨bm, om + K * 5, none⟩ = some (.int .i64 op) ∧ w8.drew.cell? ⟨bm, om + K * 5 + 1, none⟩ = some (.int .i64 ia) ∧ w8.drew.cell? ⟨bm, om + K * 5 + 2, none⟩ = some (.int .i64 ib) ∧ w8.drew.cell? ⟨bm, om + K * 5 + 3, none⟩ = some (.int .i64 ic) ∧ w8.drew.cell? ⟨bm, om + K * 5 + 4, none⟩ = some (.int .i64 id) := hHeld
  generalize w8.drew = w9 at hHeld HX10c HX11c HL9 HM9 HB9 HR10 HA10 hbm q3 i0 i1 i2 i3 i4 ⊢
  refine tkP (i := 0) (v := ?_) rfl (fun _ _ _ h => h) (Or.inl ⟨by kernel_rfl, ?_⟩) ?_
  rotate_left
  · intro w hSw
    try dsimp only at hSw
    go_simp
    try with_reducible rfl
  try simp only [List.getElem_toArray, List.getElem_cons_zero, List.getElem_cons_succ, Act.put, List.setIfInBounds_toArray, List.set_cons_zero, List.set_cons_succ]
  refine tkP (i := 2) (v := ?_) rfl (fun _ _ _ h => h) (Or.inl ⟨by kernel_rfl, ?_⟩) ?_
  rotate_left
  · intro w hSw
    try dsimp only at hSw
    go_simp
    try with_reducible rfl
  try simp only [List.getElem_toArray, List.getElem_cons_zero, List.getElem_cons_succ, Act.put, List.setIfInBounds_toArray, List.set_cons_zero, List.set_cons_succ]
  refine tkP (i := 4) (v := ?_) rfl (fun _ _ _ h => h) (Or.inl ⟨by kernel_rfl, ?_⟩) ?_
  rotate_left
  · intro w hSw
    try dsimp only at hSw
    go_simp
    try with_reducible rfl
  try simp only [List.getElem_toArray, List.getElem_cons_zero, List.getElem_cons_succ, Act.put, List.setIfInBounds_toArray, List.set_cons_zero, List.set_cons_succ]
  refine tkP (i := 5) (v := ?_) rfl (fun _ _ _ h => h) (Or.inl ⟨by kernel_rfl, ?_⟩) ?_
  rotate_left
  · intro w hSw
    try dsimp only at hSw
    go_simp
    try with_reducible rfl
  try simp only [List.getElem_toArray, List.getElem_cons_zero, List.getElem_cons_succ, Act.put, List.setIfInBounds_toArray, List.set_cons_zero, List.set_cons_succ]
  refine tkS (i := 1) (v := ?_) rfl (fun _ _ _ h => h) (Or.inl ⟨by kernel_rfl, ?_⟩) hHeld ?_
  rotate_left
  · intro w hSw
    try dsimp only at hSw
    obtain ⟨h1, h2, h3, h4, h5, h6⟩ := hSw
    go_simp
    try with_reducible rfl
  try simp only [List.getElem_toArray, List.getElem_cons_zero, List.getElem_cons_succ, Act.put, List.setIfInBounds_toArray, List.set_cons_zero, List.set_cons_succ]
  refine wpAnyT_ready (rs := [3]) (by kernel_rfl) (by simp) ?_
  refine AllT.cons (o := _) rfl (fun K' hK => ?_) AllT.nil
  go_simp
  refine hK.out _ _ (fun _ => ?_) (fun hHeld2 => ?_)
  · exact hHeld
  clear hHeld2 hK K'
  try simp only [List.getElem_toArray, List.getElem_cons_zero, List.getElem_cons_succ, Act.put, List.setIfInBounds_toArray, List.set_cons_zero, List.set_cons_succ]
  refine tkP (i := 6) (v := ?_) rfl (fun _ _ _ h => h) (Or.inl ⟨by kernel_rfl, ?_⟩) ?_
  rotate_left
  · intro w hSw
    try dsimp only at hSw
    go_simp
    try with_reducible rfl
  try simp only [List.getElem_toArray, List.getElem_cons_zero, List.getElem_cons_succ, Act.put, List.setIfInBounds_toArray, List.set_cons_zero, List.set_cons_succ]
  refine wpAnyT_ready (rs := [7]) (by kernel_rfl) (by simp) ?_
  refine AllT.cons (o := _) rfl (fun K' hK => ?_) AllT.nil
  go_simp
  refine hK.out _ _ (fun _ => ?_) (fun hHeld2 => ?_)
  · exact hHeld
  clear hHeld2 hK K'
  try simp only [List.getElem_toArray, List.getElem_cons_zero, List.getElem_cons_succ, Act.put, List.setIfInBounds_toArray, List.set_cons_zero, List.set_cons_succ]
  refine wpAnyT_ready (rs := [8]) (by kernel_rfl) (by simp) ?_
  refine AllT.cons (o := _) rfl (fun K' hK => ?_) AllT.nil
  go_simp
  refine hK.out _ _ (fun _ => ?_) (fun hHeld2 => ?_)
  · exact ⟨((alloc_below w9 (.cells #[.int .i64 op, .int .i64 ia, .int .i64 ib, .int .i64 ic, .int .i64 id] 54)).cell (p := ⟨g11, 3, none⟩) HX11c.out.lt).trans q3, ((alloc_below w9 (.cells #[.int .i64 op, .int .i64 ia, .int .i64 ib, .int .i64 ic, .int .i64 id] 54)).cell (p := ⟨bm, om + K * 5, none⟩) hbm).trans i0, ((alloc_below w9 (.cells #[.int .i64 op, .int .i64 ia, .int .i64 ib, .int .i64 ic, .int .i64 id] 54)).cell (p := ⟨bm, om + K * 5 + 1, none⟩) hbm).trans i1, ((alloc_below w9 (.cells #[.int .i64 op, .int .i64 ia, .int .i64 ib, .int .i64 ic, .int .i64 id] 54)).cell (p := ⟨bm, om + K * 5 + 2, none⟩) hbm).trans i2, ((alloc_below w9 (.cells #[.int .i64 op, .int .i64 ia, .int .i64 ib, .int .i64 ic, .int .i64 id] 54)).cell (p := ⟨bm, om + K * 5 + 3, none⟩) hbm).trans i3, ((alloc_below w9 (.cells #[.int .i64 op, .int .i64 ia, .int .i64 ib, .int .i64 ic, .int .i64 id] 54)).cell (p := ⟨bm, om + K * 5 + 4, none⟩) hbm).trans i4⟩
  clear hHeld2 hK K' hHeld
  try simp only [List.getElem_toArray, List.getElem_cons_zero, List.getElem_cons_succ, Act.put, List.setIfInBounds_toArray, List.set_cons_zero, List.set_cons_succ]
  refine wpAnyT_ready (rs := [9]) (by kernel_rfl) (by simp) ?_
  refine AllT.cons (o := _) rfl (fun K' hK => ?_) AllT.nil
  refine step_of_append HR10.out rfl _ _ rfl rfl rfl ?_
  refine hK.out _ _ (fun h => absurd h (by decide)) (fun _ => ?_)
  clear hK K'
  try simp only [List.getElem_toArray, List.getElem_cons_zero, List.getElem_cons_succ, Act.put, List.setIfInBounds_toArray, List.set_cons_zero, List.set_cons_succ]
  refine tkP (i := 10) (v := ?_) rfl (fun _ _ _ h => h) (Or.inl ⟨by kernel_rfl, ?_⟩) ?_
  rotate_left
  · intro w hSw
    try dsimp only at hSw
    go_simp
    try with_reducible rfl
  try simp only [List.getElem_toArray, List.getElem_cons_zero, List.getElem_cons_succ, Act.put, List.setIfInBounds_toArray, List.set_cons_zero, List.set_cons_succ]
  have hx11 : Box w10 g11 27 _ := HX11c.out.fr HA10.out.fr (fun e => own_ne_box HM9.out.rc HX11c.out (by decide) g11 e rfl)
  have HX11d := Lib.hid hx11
  have z3 := hx11.cell 3
  have z4 := hx11.frozen 3
  clear hx11
  refine wpAnyT_ready (rs := [11]) (by kernel_rfl) (by simp) ?_
  refine AllT.cons (o := _) rfl (fun K' hK => ?_) AllT.nil
  go_simp
  refine hK.out _ _ (fun h => absurd h (by decide)) (fun _ => ?_)
  clear hK K' z3 z4
  try simp only [List.getElem_toArray, List.getElem_cons_zero, List.getElem_cons_succ, Act.put, List.setIfInBounds_toArray, List.set_cons_zero, List.set_cons_succ]
  refine wpAnyT_done (by kernel_rfl) (NoPanic.normal ?_) _
  have HBA : Hid (Below w.heap.size w w10) := Lib.hid (HB9.out.trans (HA10.out.fr.below HB9.out.size (fun k hk => Nat.le_trans HLE.out.2.2.2.2 (own_ge HM9.out.rc hk).1)))
  have HLA := Lib.hid (HL9.out.fr HA10.out.fr HA10.out.fr.size (fun v hv k hk e => by
    have h1 := HL9.out.lts v hv k hk
    have h2 := (own_ge HM9.out.rc e).1
    have h3 := HLE.out.2.1
    omega))
  have HMA := Lib.hid (HM9.out.more (x := (op, ia, ib, ic, id)) HA10.out)
  have HX10d : Hid (Box w10 g10 27 #[.slice L1 o.atoms.length e1, .slice L2 o.funs.length e2, .slice L3 o.preds.length e3, .slice L4 K e4]) := Lib.hid (HX10c.out.fr HA10.out.fr (fun e => own_ne_box HM9.out.rc HX10c.out (by decide) g10 e rfl))
  rw [HN5.out] at HX11d
  have HX11e : Hid (Box (w10.setCell ⟨g11, 3, none⟩ (.slice A10 (K + 1 + 1) c10)) g11 27 #[.slice M1 o.atoms.length d1, .slice M2 o.funs.length d2, .slice M3 o.preds.length d3, .slice A10 (K + 1 + 1) c10]) := Lib.hid (HX11d.out.set_ 3 (.slice A10 (K + 1 + 1) c10))
  have HX10e := Lib.hid (HX10d.out.far (p := ⟨g11, 3, none⟩) HNE.out (.slice A10 (K + 1 + 1) c10))
  have f11 : Fr (fun k => k = g11) w10 (w10.setCell ⟨g11, 3, none⟩ (.slice A10 (K + 1 + 1) c10)) := Fr.setCells [.slice A10 (K + 1 + 1) c10] w10 w10 3 (Fr.refl _ _) (.inl rfl)
  have HLB := Lib.hid (HLA.out.fr f11 f11.size (HLA.out.far HX11d.out))
  have HMB := Lib.hid (HMA.out.fr f11 f11.size (HMA.out.far HX11d.out))
  have HB11 : Hid (Below w.heap.size w (w10.setCell ⟨g11, 3, none⟩ (.slice A10 (K + 1 + 1) c10))) := Lib.hid (below_cells [.slice A10 (K + 1 + 1) c10] w w10 3 HBA.out HLE.out.2.2.2.1)
  obtain ⟨w11, hw11⟩ : ∃ w11, w10.setCell ⟨g11, 3, none⟩ (.slice A10 (K + 1 + 1) c10) = w11 := ⟨_, rfl⟩
  rw [hw11] at HX10e HX11e HLB HMB HB11 ⊢
  have HLO := Lib.hid (HLB.out.less K (by rw [HN5.out]; omega))
  have HMO := Lib.hid HMB.out.at_
  have HNL := Lib.hid (own_nil HLB.out.ra)
  have HNM := Lib.hid (own_nil HMB.out.ra)
  have HV1 : Hid ((verifyOf { o with code := o.code.take K }).2.2.1 ≠ 0) := Lib.hid (by have h := HVL.out; rw [HN5.out] at h; exact h)
  have HV2 : Hid ((verifyOf { o with code := o.code ++ [(op, ia, ib, ic, id)] }).2.2 = (14, ((K + 1 : Nat) : Int))) := Lib.hid (by have h := HVM.out _ trivial HXM.out (by rw [HN5.out]; omega); rw [HN5.out] at h; exact h)
  have HW1 : Hid (ObWf { o with code := o.code.take K }) := Lib.hid ⟨HWF.out.atoms, HWF.out.funs, HWF.out.preds, HWF.out.la, HWF.out.lf, HWF.out.lp, by simp only [List.length_take]; rw [HN5.out]; omega⟩
  have HW2 : Hid (ObWf { o with code := o.code ++ [(op, ia, ib, ic, id)] }) := Lib.hid ⟨HWF.out.atoms, HWF.out.funs, HWF.out.preds, HWF.out.la, HWF.out.lf, HWF.out.lp, by simp only [List.length_append, List.length_cons, List.length_nil]; rw [HN5.out]; omega⟩
  have HT1 := Lib.hid (toOb_any _ HW1.out _ _ _ _ w11 HLO.out HNL.out)
  have HT2 := Lib.hid (fun W (hb : Below w11.heap.size w11 W) => toOb_any _ HW2.out _ _ _ _ W (HMO.out.below hb) HNM.out)
  have HC1 := Lib.hid (fun va vf vp vc w hnm hv => check11_any sort_ok sort_nil _ HW1.out (va := va) (vf := vf) (vp := vp) (vc := vc) w hnm hv)
  have HC2 := Lib.hid (fun va vf vp vc w hnm hv => check11_any sort_ok sort_nil _ HW2.out (va := va) (vf := vf) (vp := vp) (vc := vc) w hnm hv)
  unfold CheckW at HC1 HC2
  rw [HV2.out] at HC2
  simp only at HC2
  clear hw11 f11 HL8 HM8 HL9 HM9 HLA HMA HLB HMB HX10b HX10c HX10d HX11b HX11c HX11d HA10 HR10 HB8 HB9 HBA hbm q3 i0 i1 i2 i3 i4 hwr HVL HVM HV2 HLO HMO HNL HNM HW1 HW2 HLE HNE
  generalize verifyOf { o with code := o.code.take K } = r1 at HC1 HV1
  obtain ⟨y1, y2, y3, y4⟩ := r1
  simp only at HC1 HV1
  obtain ⟨o1, ho1⟩ : ∃ o1, ({ o with code := o.code.take K } : Ob) = o1 := ⟨_, rfl⟩
  rw [ho1] at HT1 HC1
  obtain ⟨o2, ho2⟩ : ∃ o2, ({ o with code := o.code ++ [(op, ia, ib, ic, id)] } : Ob) = o2 := ⟨_, rfl⟩
  rw [ho2] at HT2 HC2
  rw [HN5.out] at HT2
  clear ho1 ho2
  have HP11 := Lib.hid (fun W (hb : Below w11.heap.size w11 W) => (HP.out.up HB11.out).up hb)
  have q0 := HX10e.out.cell 0
  have q1 := HX10e.out.cell 1
  have q2 := HX10e.out.cell 2
  have q3 := HX10e.out.cell 3
  go_upto_region 11 with (first
    | (go_at_call 7; refine HT1.out.mono ?_; rintro e w12 ⟨ua, uf, up, uc, rfl, ho12, hb12, _⟩; have HO12 := Lib.hid ho12; have HB12 := Lib.hid hb12; clear ho12 hb12)
    | (go_at_call 13; refine (HC1.out _ _ _ _ w12 (HP11.out _ HB12.out).names HO12.out).mono ?_; rintro e w13 ⟨us, un, rfl, hus, hun, hb13⟩; obtain ⟨U5, k5, husf⟩ := CellsAt.form hus; obtain ⟨U6, k6, hunf⟩ := CellsAt.form hun; subst husf hunf; have HB13 := Lib.hid (HB12.out.trans (hb13.mono HB12.out.size)); clear hus hun hb13))
  obtain ⟨n1, hn1⟩ : ∃ n1, y1.length = n1 := ⟨_, rfl⟩
  obtain ⟨n2, hn2⟩ : ∃ n2, y2.length = n2 := ⟨_, rfl⟩
  rw [hn1, hn2]
  clear hn1 hn2 q0 q1 q2 q3 HT1 HC1 HO12 HB12
  have HB14 := Lib.hid (HB13.out.alloc HB13.out.size (.cells #[.slice U5 n1 k5, .slice U6 n2 k6] 49))
  obtain ⟨w14, hw14⟩ : ∃ w14, w13.alloc (.cells #[.slice U5 n1 k5, .slice U6 n2 k6] 49) = w14 := ⟨_, rfl⟩
  rw [hw14] at HB14 ⊢
  clear hw14 HB13
  have HX14 := Lib.hid (HX11e.out.below HB14.out HX11e.out.lt)
  have HT3 := Lib.hid (HT2.out w14 HB14.out)
  have r0 := HX14.out.cell 0
  have r1 := HX14.out.cell 1
  have r2 := HX14.out.cell 2
  have r3 := HX14.out.cell 3
  clear HT2 HX10e HX11e
  go_upto_region 12 with (first
    | (go_at_call 7; refine HT3.out.mono ?_; rintro e w15 ⟨xa, xf, xp, xc, rfl, ho15, hb15, _⟩; have HO15 := Lib.hid ho15; have HB15 := Lib.hid (HB14.out.trans (hb15.mono HB14.out.size)); clear ho15 hb15)
    | (go_at_call 13; refine (HC2.out _ _ _ _ w15 (HP11.out _ HB15.out).names HO15.out).mono ?_; rintro e w16 ⟨us, un, rfl, hus, hun, hb16⟩; obtain ⟨U7, k7, husf⟩ := CellsAt.form hus; obtain ⟨U8, k8, hunf⟩ := CellsAt.form hun; subst husf hunf; have HB16 := Lib.hid (HB15.out.trans (hb16.mono HB15.out.size)); clear hus hun hb16))
  obtain ⟨n3, hn3⟩ : ∃ n3, (verifyOf o2).1.length = n3 := ⟨_, rfl⟩
  obtain ⟨n4, hn4⟩ : ∃ n4, (verifyOf o2).2.1.length = n4 := ⟨_, rfl⟩
  rw [hn3, hn4]
  clear hn3 hn4 r0 r1 r2 r3 HT3 HC2 HO15
  have HB17 := Lib.hid (HB16.out.alloc HB16.out.size (.cells #[.slice U7 n3 k7, .slice U8 n4 k8] 49))
  have HEND := Lib.hid (HB11.out.trans (HB17.out.mono HB11.out.size))
  have hy : (y3 == 0) = false := beq_eq_false_iff_ne.2 HV1.out
  have hy3 : (y3 != 0) = true := bne_iff_ne.2 HV1.out
  go_wp2
  go_ret
  exact ⟨rfl, HEND.out⟩

end Go.Proofs.YtlmbiafloiompaaGreatDoor
