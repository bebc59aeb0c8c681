/-
  5 texts in one (AsmT AsmU AsmRA ObjV AsmRB). Conditions: those of each theorem.
-/
import Derived.Test.YtfgnapfodnhppaaGreatDoorJ31
import Derived.Test.YtfgnapfodnhppaaGreatDoorJ15
namespace Go.Proofs.YtfgnapfodnhppaaGreatDoor
open Go Go.RowKit Go.WideShapes Go.ChangeShapes
set_option linter.unusedVariables false
set_option linter.unusedSimpArgs false

def toldA : List ByteArray := [⟨#[112, 114, 101, 100, 32, 112, 47, 49]⟩, ⟨#[103, 101, 116, 99, 111, 110, 32, 97, 32, 88, 48]⟩, ⟨#[112, 114, 111, 99, 101, 101, 100]⟩]
def toldB : List ByteArray := [⟨#[112, 114, 101, 100, 32, 112, 47, 49]⟩, ⟨#[116, 114, 121, 32, 64, 53]⟩]
theorem toldA_is : (asmOf (toldA.map (·.data.toList))).2 = (0, -1) ∧ (asmOf (toldA.map (·.data.toList))).1.code.length = 2 ∧ (asmOf (toldA.map (·.data.toList))).1.preds.map (·.2.2) = [0] ∧ (asmOf (toldA.map (·.data.toList))).1.atoms.length = 1 := by decide +kernel
theorem toldB_is : (asmOf (toldB.map (·.data.toList))).2 = (10, 1) := by decide +kernel

set_option maxRecDepth 100000 in
set_option maxHeartbeats 16000000 in
theorem told9_any (HPK : PredKeeps) {B : Nat} (w : World) (hp : LaidC B w) :
    Calls Tryz.prog 7 #[] w fun e w' => e = .returned (.bool true) ∧ Below w.heap.size w w' := by
  have HC := Lib.hid (fun ls hs hm v w hp hv => program_any HPK ls hs hm v (B := B) w hp hv)
  have hbA := alloc_below w (.cells #[.string ⟨#[112, 114, 101, 100, 32, 112, 47, 49]⟩, .string ⟨#[103, 101, 116, 99, 111, 110, 32, 97, 32, 88, 48]⟩, .string ⟨#[112, 114, 111, 99, 101, 101, 100]⟩] 9)
  have HBA := Lib.hid hbA
  have hxA := Box.new w 9 #[.string ⟨#[112, 114, 101, 100, 32, 112, 47, 49]⟩, .string ⟨#[103, 101, 116, 99, 111, 110, 32, 97, 32, 88, 48]⟩, .string ⟨#[112, 114, 111, 99, 101, 101, 100]⟩]
  have HAA : Hid (AtomsAt (w.alloc (.cells #[.string ⟨#[112, 114, 101, 100, 32, 112, 47, 49]⟩, .string ⟨#[103, 101, 116, 99, 111, 110, 32, 97, 32, 88, 48]⟩, .string ⟨#[112, 114, 111, 99, 101, 101, 100]⟩] 9)) (.slice (some ⟨w.heap.size, 0, none⟩) 3 3) toldA) := Lib.hid (.inr ⟨_, 0, 3, rfl, hxA.lt, fun k u hk => by rw [Nat.zero_add, hxA.cell k]; simpa [toldA] using hk⟩)
  have HPA := Lib.hid (hp.up hbA)
  have HP := Lib.hid hp
  have HA := Lib.hid toldA_is
  have HB := Lib.hid toldB_is
  clear hbA hxA hp
  go_enter Tryz.func7, Tryz.ntmps7
  go_upto_region 2 with (go_at_call 8; refine (HC.out toldA (by decide) (by decide) _ _ HPA.out HAA.out).mono ?_; rintro e w2 ⟨va, vf, vp, vc, rfl, ho2, hb2⟩; have HO2 := Lib.hid ho2.at_; have HB2 := Lib.hid (HBA.out.trans (hb2.mono HBA.out.size)); obtain ⟨A1, c1, hva⟩ := ho2.at_.atoms.form; obtain ⟨A2, c2, hvf⟩ := ho2.at_.funs.form; obtain ⟨A3, c3, hvp⟩ := ho2.at_.preds.form; obtain ⟨A4, c4, hvc⟩ := ho2.at_.code.form; subst hva hvf hvp hvc; clear ho2 hb2; rw [HA.out.1, HA.out.2.1, HA.out.2.2.2])
  have HX2 := Lib.hid (Box.new w2 31 #[.slice A1 (asmOf (toldA.map (·.data.toList))).1.atoms.length c1, .slice A2 (asmOf (toldA.map (·.data.toList))).1.funs.length c2, .slice A3 (asmOf (toldA.map (·.data.toList))).1.preds.length c3, .slice A4 (asmOf (toldA.map (·.data.toList))).1.code.length c4])
  rw [HA.out.2.1, HA.out.2.2.2] at HX2
  have hpr := HO2.out.preds
  obtain ⟨f, n, hpl⟩ : ∃ f n, (asmOf (toldA.map (·.data.toList))).1.preds = [(f, n, 0)] := by
    have h := HA.out.2.2.1
    generalize (asmOf (toldA.map (·.data.toList))).1.preds = l at h
    match l, h with
    | [(f, n, z)], h =>
      simp at h
      subst h
      exact ⟨f, n, rfl⟩
  rw [hpl] at hpr HX2 ⊢
  obtain ⟨b, off, rfl, hb, _, _, hc2⟩ := predCell (l := [(f, n, 0)]) hpr 0 (by simp)
  simp only [Nat.zero_mul, Nat.add_zero, List.getElem_cons_zero, List.length_cons, List.length_nil, Nat.zero_add] at hc2 HX2 ⊢
  clear hpr hpl HO2
  generalize (asmOf (toldA.map (·.data.toList))).1.funs.length = nf at HX2 ⊢
  have HB3 := Lib.hid (HB2.out.alloc HB2.out.size (.cells #[.slice A1 1 c1, .slice A2 nf c2, .slice (some ⟨b, off, none⟩) 1 c3, .slice A4 2 c4] 31))
  have hc3 := (alloc_below w2 (.cells #[.slice A1 1 c1, .slice A2 nf c2, .slice (some ⟨b, off, none⟩) 1 c3, .slice A4 2 c4] 31)).cell (p := ⟨b, off + 2, none⟩) hb |>.trans hc2
  have hb3 : b < (w2.alloc (.cells #[.slice A1 1 c1, .slice A2 nf c2, .slice (some ⟨b, off, none⟩) 1 c3, .slice A4 2 c4] 31)).heap.size := by simp; omega
  obtain ⟨w3, hw3⟩ : ∃ w3, w2.alloc (.cells #[.slice A1 1 c1, .slice A2 nf c2, .slice (some ⟨b, off, none⟩) 1 c3, .slice A4 2 c4] 31) = w3 := ⟨_, rfl⟩
  rw [hw3] at HX2 HB3 hc3 hb3 ⊢
  generalize w2.heap.size = G at HX2 ⊢
  clear hw3 hb hc2 HB2 HPA HAA HBA
  have hbB := alloc_below w3 (.cells #[.string ⟨#[112, 114, 101, 100, 32, 112, 47, 49]⟩, .string ⟨#[116, 114, 121, 32, 64, 53]⟩] 9)
  have hxB := Box.new w3 9 #[.string ⟨#[112, 114, 101, 100, 32, 112, 47, 49]⟩, .string ⟨#[116, 114, 121, 32, 64, 53]⟩]
  have HAB : Hid (AtomsAt (w3.alloc (.cells #[.string ⟨#[112, 114, 101, 100, 32, 112, 47, 49]⟩, .string ⟨#[116, 114, 121, 32, 64, 53]⟩] 9)) (.slice (some ⟨w3.heap.size, 0, none⟩) 2 2) toldB) := Lib.hid (.inr ⟨_, 0, 2, rfl, hxB.lt, fun k u hk => by rw [Nat.zero_add, hxB.cell k]; simpa [toldB] using hk⟩)
  have HBB := Lib.hid hbB
  have HC3 := Lib.hid hc3
  have HPB := Lib.hid ((HP.out.up HB3.out).up hbB)
  have HL3 := Lib.hid hb3
  clear hbB hxB hc3 hb3
  go_upto_region 3 with (go_at_call 8; refine (HC.out toldB (by decide) (by decide) _ _ HPB.out HAB.out).mono ?_; rintro e w4 ⟨va, vf, vp, vc, rfl, ho4, hb4⟩; have HB4 := Lib.hid (HBB.out.trans (hb4.mono HBB.out.size)); obtain ⟨B1, d1, hva⟩ := ho4.at_.atoms.form; obtain ⟨B2, d2, hvf⟩ := ho4.at_.funs.form; obtain ⟨B3, d3, hvp⟩ := ho4.at_.preds.form; obtain ⟨B4, d4, hvc⟩ := ho4.at_.code.form; subst hva hvf hvp hvc; clear ho4 hb4; rw [HB.out])
  generalize (asmOf (toldB.map (·.data.toList))).1 = oB
  have HB5 := Lib.hid (HB4.out.alloc HB4.out.size (.cells #[.slice B1 oB.atoms.length d1, .slice B2 oB.funs.length d2, .slice B3 oB.preds.length d3, .slice B4 oB.code.length d4] 31))
  have HX5 := Lib.hid (HX2.out.below HB5.out HX2.out.lt)
  have q0 := HX5.out.cell 0
  have q1 := HX5.out.cell 1
  have q2 := HX5.out.cell 2
  have q3 := HX5.out.cell 3
  have q4 := (HB5.out.cell (p := ⟨b, off + 2, none⟩) HL3.out).trans HC3.out
  have HEND := Lib.hid (HB3.out.trans (HB5.out.mono HB3.out.size))
  go_wp2
  go_ret
  exact ⟨rfl, HEND.out⟩

end Go.Proofs.YtfgnapfodnhppaaGreatDoor

namespace Go.Proofs.YtfgnapfodnhppaaGreatDoor
open Go Go.RowKit Go.WideShapes Go.ChangeShapes
set_option linter.unusedVariables false
set_option linter.unusedSimpArgs false

theorem slash_hit : ∀ (l : List UInt8) (k : Nat) (hk : k < l.length), (∀ c ∈ l.take k, c ≠ 47) → l[k] = 47 → slashAt l = some (l.take k, l.drop (k + 1))
  | [], k, hk, _, _ => by simp at hk
  | c :: l, 0, hk, _, h => by
    have h : c = 47 := h
    rw [slashAt, if_pos h]
    simp
  | c :: l, k + 1, hk, h, he => by
    have hc : c ≠ 47 := h c (by simp)
    have ih := slash_hit l k (by simpa using hk) (fun d hd => h d (by simp [hd])) (by simpa using he)
    rw [slashAt, if_neg hc, ih]
    rfl
theorem slash_miss : ∀ (l : List UInt8), (∀ c ∈ l, c ≠ 47) → slashAt l = none
  | [], _ => rfl
  | c :: l, h => by
    rw [slashAt, if_neg (h c (by simp)), slash_miss l (fun d hd => h d (by simp [hd]))]
    rfl
/-- What slash hands back. -/
def slashRes (r : Option (ByteArray × Int)) : ByteArray × Int := match r with
  | none => (⟨#[]⟩, -1)
  | some f => f
theorem slash_res {l a d : List UInt8} (least : Int) (h0 : 0 ≤ least) (h : slashAt l = some (a, d)) : slashRes (funOf l least) = if nameOk (bs a) = true ∧ least ≤ rnumOf d ∧ rnumOf d ≤ 8 then (bs a, rnumOf d) else (⟨#[]⟩, -1) := by
  unfold funOf
  rw [h]
  simp only
  unfold numUpto
  by_cases h1 : 0 ≤ rnumOf d ∧ rnumOf d ≤ 8
  · rw [if_pos h1]
    simp only
    by_cases h2 : least ≤ rnumOf d ∧ nameOk (bs a) = true
    · rw [if_pos h2, if_pos ⟨h2.2, h2.1, h1.2⟩]
      rfl
    · rw [if_neg h2, if_neg (fun h => h2 ⟨h.2.1, h.1⟩)]
      rfl
  · rw [if_neg h1, if_neg (fun h => h1 ⟨by omega, h.2.2⟩)]
    rfl
theorem slash_res_none {l : List UInt8} (least : Int) (h : slashAt l = none) : slashRes (funOf l least) = (⟨#[]⟩, -1) := by
  unfold funOf
  rw [h]
  rfl

set_option maxRecDepth 100000 in
set_option maxHeartbeats 4000000 in
theorem rslash_any (s : ByteArray) (hs : s.size ≤ 1000000) (least : Int) (h0 : 0 ≤ least) (w : World) :
    Calls Tryz.prog 53 #[.string s, .int .i64 least] w fun e w' => e = .returned (.tuple #[.string (slashRes (funOf s.data.toList least)).1, .int .i64 (slashRes (funOf s.data.toList least)).2]) ∧ Below w.heap.size w w' := by
  have hl : s.data.toList.length = s.size := by rw [Array.length_toList]; rfl
  have HL := Lib.hid hl
  have HN := Lib.hid (fun (h : slashAt s.data.toList = none) => slash_res_none least h)
  have HY := Lib.hid (fun a d (h : slashAt s.data.toList = some (a, d)) => slash_res least h0 h)
  generalize slashRes (funOf s.data.toList least) = r at HN HY ⊢
  clear hl
  go_enter Tryz.func53, Tryz.ntmps53
  go_wp2
  go_loop [4, 5, 6, 7] (fun _ _ i _ => ∃ k : Nat, k ≤ s.size ∧ i = .int .i64 k ∧ Hid (∀ c ∈ s.data.toList.take k, c ≠ 47)) (fun _ _ i _ => s.size - (intOf i).toNat)
  case atStart => exact ⟨0, by omega, rfl, Lib.hid (by simp)⟩
  case round =>
    obtain ⟨k, hk, rfl, HA⟩ := hrel
    by_cases hlt : k < s.size
    · have hkl : k < s.data.toList.length := by have := HL.out; omega
      have hts := take_byte s k hlt
      have hek : s.data.toList[k] = s[k] := rfl
      by_cases h47 : s[k] = 47
      · have e1 : ((s[k].toNat : Int) == 47) = true := by rw [h47]; rfl
        have HS := Lib.hid (HY.out _ _ (slash_hit _ k hkl HA.out (hek.trans h47)))
        have HE1 : Hid (s.extract (k + 1) s.size = bs (s.data.toList.drop (k + 1))) := Lib.hid (by
          rw [ext_bs, List.take_of_length_le (by rw [List.length_drop, HL.out]; omega)])
        have HE2 : Hid (s.extract 0 k = bs (s.data.toList.take k)) := Lib.hid (by
          rw [ext_bs]; rfl)
        have hsz : (bs (s.data.toList.take k)).size ≤ maxLen := by
          rw [bs_size, List.length_take]
          unfold maxLen
          omega
        have HNM := Lib.hid (fun w => refName_any (bs (s.data.toList.take k)) w hsz)
        have HNU := Lib.hid (fun w => rnum_any (bs (s.data.toList.drop (k + 1))) w)
        rw [bs_data] at HNU
        clear hts hek hsz
        generalize s.data.toList.drop (k + 1) = d at HS HE1 HNU
        generalize bs (s.data.toList.take k) = x at HS HE2 HNM
        generalize rnumOf d = n at HS HNU
        by_cases hc : nameOk x = true ∧ least ≤ n ∧ n ≤ 8
        · have HX : Hid (r = (x, n)) := Lib.hid (HS.out.trans (if_pos hc))
          rw [hc.1] at HNM
          obtain ⟨_, hc1, hc2⟩ := hc
          go_wp2_with (first
            | (go_at_call 55; rw [HE1.out]; refine (HNU.out _).mono ?_; rintro e w2 ⟨rfl, hb2⟩; have HB2 := Lib.hid hb2; clear hb2)
            | (go_at_call 85; rw [HE2.out]; refine (HNM.out _).mono ?_; rintro e w3 ⟨rfl, rfl⟩))
          rw [HE2.out]
          go_ret2
          exact ⟨by rw [HX.out] <;> rfl, HB2.out⟩
        · have HX : Hid (r = (⟨#[]⟩, -1)) := Lib.hid (HS.out.trans (if_neg hc))
          cases hnm : nameOk x with
          | false =>
            rw [hnm] at HNM
            clear hc hnm
            go_wp2_with (first
              | (go_at_call 55; rw [HE1.out]; refine (HNU.out _).mono ?_; rintro e w2 ⟨rfl, hb2⟩; have HB2 := Lib.hid hb2; clear hb2)
              | (go_at_call 85; rw [HE2.out]; refine (HNM.out _).mono ?_; rintro e w3 ⟨rfl, rfl⟩))
            go_ret2
            exact ⟨by rw [HX.out] <;> rfl, HB2.out⟩
          | true =>
            rw [hnm] at HNM
            by_cases hc1 : least ≤ n
            · have hc2 : ¬ n ≤ 8 := fun h => hc ⟨hnm, hc1, h⟩
              clear hc hnm
              go_wp2_with (first
                | (go_at_call 55; rw [HE1.out]; refine (HNU.out _).mono ?_; rintro e w2 ⟨rfl, hb2⟩; have HB2 := Lib.hid hb2; clear hb2)
                | (go_at_call 85; rw [HE2.out]; refine (HNM.out _).mono ?_; rintro e w3 ⟨rfl, rfl⟩))
              go_ret2
              exact ⟨by rw [HX.out] <;> rfl, HB2.out⟩
            · clear hc hnm
              go_wp2_with (first
                | (go_at_call 55; rw [HE1.out]; refine (HNU.out _).mono ?_; rintro e w2 ⟨rfl, hb2⟩; have HB2 := Lib.hid hb2; clear hb2)
                | (go_at_call 85; rw [HE2.out]; refine (HNM.out _).mono ?_; rintro e w3 ⟨rfl, rfl⟩))
              go_ret2
              exact ⟨by rw [HX.out] <;> rfl, HB2.out⟩
      · have e1 : ((s[k].toNat : Int) == 47) = false := by
          rw [beq_eq_false_iff_ne]
          intro e
          have e47 : (47 : UInt8).toNat = 47 := rfl
          exact h47 (UInt8.toNat_inj.1 (by omega))
        have HA2 : Hid (∀ c ∈ s.data.toList.take (k + 1), c ≠ 47) := Lib.hid (fun c hc => by
          rw [hts] at hc
          rcases List.mem_append.1 hc with hc | hc
          · exact HA.out c hc
          · rw [List.mem_singleton.1 hc]; exact h47)
        clear hts hek h47
        go_wp2
        go_round
        case rel => exact ⟨k + 1, by omega, by go_num, HA2⟩
        case measure => simp [intOf]; omega
    · obtain rfl : k = s.size := by omega
      have HX : Hid (r = (⟨#[]⟩, -1)) := Lib.hid (HN.out (slash_miss _ (by
        have := HA.out
        rw [← HL.out, List.take_length] at this
        exact this)))
      go_wp2
      go_ret2
      exact ⟨by rw [HX.out] <;> rfl, Below.refl _ _⟩

end Go.Proofs.YtfgnapfodnhppaaGreatDoor

namespace Go.Proofs.YtfgnapfodnhppaaGreatDoor
open Go Go.RowKit Go.WideShapes Go.ChangeShapes
set_option linter.unusedVariables false
set_option linter.unusedSimpArgs false

theorem app_keep {t e : TypeId} {size bytes : Nat} (T : SlT t e size bytes) {wr : World} {base n : Nat} {v : Value} {xs : List Value} (hown : wr.ownsRow base e size v n xs) (news : List Value) (hl : news.length = size)
    (h1 : ∀ u ∈ news, u.oneCell' = true) (hn : n ≤ 1000000) (ty : TypeId) {v' : Value} {w' : World}
    (hr : (Builtin.append_ #[t, t] ty #[v, .slice (some ⟨wr.heap.size, 0, none⟩) 1 1]).run Tryz.prog (wr.alloc (.cells news.toArray e)) = .ok v' w')
    {base' n' : Nat} {u : Value} {xs' : List Value} (hu : wr.ownsRow base' e size u n' xs') (hle : u.ownBlock = v.ownBlock → n' ≤ n) : w'.ownsRow base' e size u n' xs' := by
  obtain ⟨z, hi, hzs⟩ := T.info
  obtain ⟨i, hi1, hz0, hz1, hz2⟩ := info_parts hi
  have hT := T.pos
  have hsm := T.small
  have hown2 := own_fr (S := fun _ => False) hown ((Fr.refl _ wr).alloc (.cells news.toArray e)) (fun _ _ x => x)
  have hu2 := own_fr (S := fun _ => False) hu ((Fr.refl _ wr).alloc (.cells news.toArray e)) (fun _ _ x => x)
  have hnews : ∀ j u, news[j]? = some u → (wr.alloc (.cells news.toArray e)).cell? ((⟨wr.heap.size, 0, none⟩ : Addr).add j) = some u := fun j u hu => by
    rw [add_plain, Nat.zero_add, (Box.new wr e news.toArray).cell j]
    simpa using hu
  generalize wr.alloc (.cells news.toArray e) = W at hown2 hu2 hnews hr
  subst hz1 hz2
  have hgrow : ∀ o : Obj, (W.drew.alloc o).ownsRow base' e i.size u n' xs' := fun o => own_fr (S := fun _ => False) hu2 ((Fr.refl _ W).drew.alloc o) (fun _ _ x => x)
  have hb : (n + 1) * i.bytes ≤ 140737488355328 := Nat.le_trans (Nat.mul_le_mul (show n + 1 ≤ 1000001 by omega) hsm) (by decide)
  rcases hown2.2 with ⟨rfl, rfl⟩ | ⟨g, cap, cur, rfl, hbg, hg, hnc, hcm, hcs, htake⟩
  · have hr2 := run_append_nil (P := Tryz.prog) W t ty e i z T.und hi1 hz0 ⟨wr.heap.size, 0, none⟩ 1 1 news (by omega) hnews (by omega) (by omega) (by omega)
    rw [hr] at hr2
    injection hr2 with _ hw
    rw [hw]
    exact hgrow _
  · by_cases hroom : n + 1 ≤ cap
    · have hfit : n * i.size + news.length ≤ cur.size := by
        have := Nat.mul_le_mul_right i.size hroom
        rw [Nat.succ_mul] at this
        omega
      have hr2 := run_append_room (P := Tryz.prog) W t ty e i T.und hi1 g n cap cur hg ⟨wr.heap.size, 0, none⟩ 1 1 news (by omega) hnews h1 hroom hfit
      rw [hr] at hr2
      injection hr2 with _ hw
      rw [hw]
      refine ⟨hu2.1, ?_⟩
      rcases hu2.2 with h | ⟨g2, cap2, cur2, rfl, hb2, hg2, hnc2, hcm2, hcs2, ht2⟩
      · exact .inl h
      · by_cases hgg : g2 = g
        · subst hgg
          rw [hg] at hg2
          injection hg2 with hg2
          injection hg2 with hg2 _ _
          subst hg2
          have hle2 := hle rfl
          refine .inr ⟨g2, cap2, _, rfl, hb2, setRow_heap W g2 cur _ e _ hg, hnc2, hcm2, ?_, ?_⟩
          · simp only [List.size_toArray, List.length_append, List.length_take, List.length_drop, Array.length_toList]
            omega
          · have hle3 : n' * i.size ≤ n * i.size := Nat.mul_le_mul_right _ hle2
            rw [← ht2, List.append_assoc, List.take_append_of_le_length (by rw [List.length_take, Array.length_toList]; omega), List.take_take, Nat.min_eq_left hle3]
        · exact .inr ⟨g2, cap2, cur2, rfl, hb2, (setRow_other W g g2 _ hgg).trans hg2, hnc2, hcm2, hcs2, ht2⟩
    · have holds : ∀ j u, xs[j]? = some u → W.cell? ((⟨g, 0, none⟩ : Addr).add j) = some u := hown2.cells (g := g) rfl
      have hr2 := run_append_grow (P := Tryz.prog) W t ty e i z T.und hi1 hz0 ⟨g, 0, none⟩ n cap xs hown2.1 holds ⟨wr.heap.size, 0, none⟩ 1 1 news (by omega) hnews (by omega) (by omega) (growslice_fits (by omega) hb)
      rw [hr] at hr2
      injection hr2 with _ hw
      rw [hw]
      exact hgrow _

end Go.Proofs.YtfgnapfodnhppaaGreatDoor

namespace Go.Proofs.YtfgnapfodnhppaaGreatDoor
open Go Go.RowKit Go.WideShapes Go.ChangeShapes
set_option linter.unusedVariables false
set_option linter.unusedSimpArgs false

theorem big_any (a f p c : Nat) (w : World) :
    Calls Tryz.prog 70 #[.int .i64 a, .int .i64 f, .int .i64 p, .int .i64 c] w fun e w' => e = .returned (.bool (bigB a f p c)) ∧ w = w' := by
  have hb : bigB a f p c = (decide ((256 : Int) < a) || decide ((256 : Int) < f) || decide ((64 : Int) < p) || decide ((1024 : Int) < c)) := by
    unfold bigB
    rw [Bool.eq_iff_iff]
    simp
    omega
  rw [hb]
  clear hb
  by_cases h1 : (256 : Int) < (a : Int)
  · go_enter Tryz.func70, Tryz.ntmps70
    go_wp2
    go_ret
    exact ⟨ret_b (by simp [h1]), rfl⟩
  · by_cases h2 : (256 : Int) < (f : Int)
    · go_enter Tryz.func70, Tryz.ntmps70
      go_wp2
      go_ret
      exact ⟨ret_b (by simp [h2]), rfl⟩
    · by_cases h3 : (64 : Int) < (p : Int)
      · go_enter Tryz.func70, Tryz.ntmps70
        go_wp2
        go_ret
        exact ⟨ret_b (by simp [h3]), rfl⟩
      · go_enter Tryz.func70, Tryz.ntmps70
        go_wp2
        go_ret
        exact ⟨ret_b (by simp; omega), rfl⟩

/-- Is there what an operand names? Where numbers aren't below nought. -/
theorem roper_any (A1 A2 A3 A4 : Option Addr) (a c1 f c2 p c3 c c4 : Nat) (kind n : Int) (hn : kind = 3 ∨ kind = 4 ∨ kind = 7 ∨ kind = 8 → 0 ≤ n) (w : World) :
    Calls Tryz.prog 73 #[.agg #[.slice A1 a c1, .slice A2 f c2, .slice A3 p c3, .slice A4 c c4], .int .i64 kind, .int .i64 n] w fun e w' => e = .returned (.bool (thereB a f p c kind n)) ∧ Below w.heap.size w w' := by
  have HB := Lib.hid (alloc_below w (.cells #[.slice A1 a c1, .slice A2 f c2, .slice A3 p c3, .slice A4 c c4] 39))
  by_cases h3 : kind = 3
  · subst h3
    have h0 := hn (.inl rfl)
    go_enter Tryz.func73, Tryz.ntmps73
    go_wp2
    go_ret
    exact ⟨ret_b (by simp [thereB, h0]), HB.out⟩
  have h3' : (kind == 3) = false := by simpa using h3
  by_cases h4 : kind = 4
  · subst h4
    have h0 := hn (.inr (.inl rfl))
    go_enter Tryz.func73, Tryz.ntmps73
    go_wp2
    go_ret
    exact ⟨ret_b (by simp [thereB, h0]), HB.out⟩
  have h4' : (kind == 4) = false := by simpa using h4
  by_cases h7 : kind = 7
  · subst h7
    have h0 := hn (.inr (.inr (.inl rfl)))
    go_enter Tryz.func73, Tryz.ntmps73
    go_wp2
    go_ret
    exact ⟨ret_b (by simp [thereB, h0]), HB.out⟩
  have h7' : (kind == 7) = false := by simpa using h7
  by_cases h8 : kind = 8
  · subst h8
    have h0 := hn (.inr (.inr (.inr rfl)))
    by_cases hc : n < (c : Int)
    · go_enter Tryz.func73, Tryz.ntmps73
      go_wp2
      go_ret
      exact ⟨ret_b (by rw [Bool.eq_iff_iff]; simp [thereB]; omega), HB.out⟩
    · go_enter Tryz.func73, Tryz.ntmps73
      go_wp2
      go_ret
      exact ⟨ret_b (by rw [Bool.eq_iff_iff]; simp [thereB]; omega), HB.out⟩
  have h8' : (kind == 8) = false := by simpa using h8
  have he : thereB a f p c kind n = true := by
    unfold thereB
    rw [if_neg h3, if_neg h4, if_neg h7, if_neg h8]
  rw [he]
  clear he
  go_enter Tryz.func73, Tryz.ntmps73
  go_wp2
  go_ret
  exact ⟨rfl, HB.out⟩

end Go.Proofs.YtfgnapfodnhppaaGreatDoor

namespace Go.Proofs.YtfgnapfodnhppaaGreatDoor
open Go Go.RowKit Go.WideShapes Go.ChangeShapes
set_option linter.unusedVariables false
set_option linter.unusedSimpArgs false

/-- The record's cells: four tables, the labels, what is used, the pred lines. -/
def rcs (va vf vp vc : Value) (L : List Int) (vu vl : Value) : Array Value := ([va, vf, vp, vc] ++ (L.map (Value.int .i64) ++ [vu, vl])).toArray
section
variable {va vf vp vc vu vl x : Value} {L : List Int}
theorem rcs_0 : (rcs va vf vp vc L vu vl)[0]? = some va := by simp [rcs]
theorem rcs_1 : (rcs va vf vp vc L vu vl)[1]? = some vf := by simp [rcs]
theorem rcs_2 : (rcs va vf vp vc L vu vl)[2]? = some vp := by simp [rcs]
theorem rcs_3 : (rcs va vf vp vc L vu vl)[3]? = some vc := by simp [rcs]
theorem rcs_lab (k : Nat) (hk : k < L.length) : (rcs va vf vp vc L vu vl)[4 + k]? = some (.int .i64 (L.getD k 0)) := by
  unfold rcs
  rw [List.getElem?_toArray, List.getElem?_append_right (by simp), show 4 + k - [va, vf, vp, vc].length = k by simp, List.getElem?_append_left (by simpa using hk), List.getElem?_map, List.getElem?_eq_getElem hk, List.getD_eq_getElem?_getD, List.getElem?_eq_getElem hk]
  rfl
theorem rcs_u (h : L.length = 1024) : (rcs va vf vp vc L vu vl)[1028]? = some vu := by
  unfold rcs
  rw [List.getElem?_toArray, List.getElem?_append_right (by simp), List.getElem?_append_right (by simp [h])]
  simp [h]
theorem rcs_l (h : L.length = 1024) : (rcs va vf vp vc L vu vl)[1029]? = some vl := by
  unfold rcs
  rw [List.getElem?_toArray, List.getElem?_append_right (by simp), List.getElem?_append_right (by simp [h])]
  simp [h]
theorem rcs_set0 : (rcs va vf vp vc L vu vl).setIfInBounds 0 x = rcs x vf vp vc L vu vl := by simp [rcs]
theorem rcs_set1 : (rcs va vf vp vc L vu vl).setIfInBounds 1 x = rcs va x vp vc L vu vl := by simp [rcs]
theorem rcs_set2 : (rcs va vf vp vc L vu vl).setIfInBounds 2 x = rcs va vf x vc L vu vl := by simp [rcs]
theorem rcs_set3 : (rcs va vf vp vc L vu vl).setIfInBounds 3 x = rcs va vf vp x L vu vl := by simp [rcs]
theorem rcs_setlab (k : Nat) (n : Int) (hk : k < L.length) : (rcs va vf vp vc L vu vl).setIfInBounds (4 + k) (.int .i64 n) = rcs va vf vp vc (L.set k n) vu vl := by
  unfold rcs
  apply Array.ext'
  rw [Array.toList_setIfInBounds]
  simp only
  rw [List.set_append_right _ _ (by simp), show 4 + k - [va, vf, vp, vc].length = k by simp, List.set_append_left _ _ (by simpa using hk), List.map_set]
theorem rcs_setu (h : L.length = 1024) : (rcs va vf vp vc L vu vl).setIfInBounds 1028 x = rcs va vf vp vc L x vl := by
  unfold rcs
  apply Array.ext'
  rw [Array.toList_setIfInBounds]
  simp only
  rw [List.set_append_right _ _ (by simp), List.set_append_right _ _ (by simp [h])]
  simp [h]
theorem rcs_setl (h : L.length = 1024) : (rcs va vf vp vc L vu vl).setIfInBounds 1029 x = rcs va vf vp vc L vu x := by
  unfold rcs
  apply Array.ext'
  rw [Array.toList_setIfInBounds]
  simp only
  rw [List.set_append_right _ _ (by simp), List.set_append_right _ _ (by simp [h])]
  simp [h]
end
theorem slFunR : SlT 35 75 2 24 := ⟨Tryz.underlying35, ⟨.agg #[.string ⟨#[]⟩, .int .i64 0], by kernel_rfl, rfl⟩, by decide, by decide⟩
theorem slPredR : SlT 36 73 3 32 := ⟨Tryz.underlying36, ⟨.agg #[.string ⟨#[]⟩, .int .i64 0, .int .i64 0], by kernel_rfl, rfl⟩, by decide, by decide⟩
theorem slInsR : SlT 37 71 5 40 := ⟨Tryz.underlying37, ⟨.agg #[.int .i64 0, .int .i64 0, .int .i64 0, .int .i64 0, .int .i64 0], by kernel_rfl, rfl⟩, by decide, by decide⟩

/-- The record in memory (g), its tables. -/
structure Rt (base : Nat) (w : World) (g : Nat) (va vf vp vc vu vl : Value) (L : List Int) (o : Ob) : Prop where
  box : Box w g 66 (rcs va vf vp vc L vu vl)
  len : L.length = 1024
  ra : w.ownsRow base 9 1 va o.atoms.length (o.atoms.map Value.string)
  rf : w.ownsRow base 75 2 vf o.funs.length (o.funs.flatMap funC)
  rp : w.ownsRow base 73 3 vp o.preds.length (o.preds.flatMap predC)
  rc : w.ownsRow base 71 5 vc o.code.length (o.code.flatMap insC)
  ge : base ≤ g
/-- What a call that goes on with the tables leaves alone. -/
structure RtF (w w' : World) (g : Nat) (va vf vp va' vf' vp' : Value) (o o' : Ob) : Prop where
  fr : Fr (fun k => k = g ∨ va.ownBlock = some k ∨ vf.ownBlock = some k ∨ vp.ownBlock = some k) w w'
  ownA : va'.ownBlock = va.ownBlock ∨ ∃ b, va'.ownBlock = some b ∧ w.heap.size ≤ b
  ownF : vf'.ownBlock = vf.ownBlock ∨ ∃ b, vf'.ownBlock = some b ∧ w.heap.size ≤ b
  ownP : vp'.ownBlock = vp.ownBlock ∨ ∃ b, vp'.ownBlock = some b ∧ w.heap.size ≤ b
  keepA : ∀ (base' n' : Nat) (u : Value) (xs : List Value), w.ownsRow base' 9 1 u n' xs → (u.ownBlock = va.ownBlock → n' ≤ o.atoms.length) → w'.ownsRow base' 9 1 u n' xs
  keepF : ∀ (base' n' : Nat) (u : Value) (xs : List Value), w.ownsRow base' 75 2 u n' xs → (u.ownBlock = vf.ownBlock → n' ≤ o.funs.length) → w'.ownsRow base' 75 2 u n' xs
  keepP : ∀ (base' n' : Nat) (u : Value) (xs : List Value), w.ownsRow base' 73 3 u n' xs → (u.ownBlock = vp.ownBlock → n' ≤ o.preds.length) → w'.ownsRow base' 73 3 u n' xs
  len : o.atoms.length ≤ o'.atoms.length ∧ o.funs.length ≤ o'.funs.length ∧ o.preds.length ≤ o'.preds.length
section
variable {base : Nat} {w w' w6 : World} {g : Nat} {va vf vp vc vu vl v6 : Value} {L : List Int} {o : Ob}
theorem Rt.at_ (h : Rt base w g va vf vp vc vu vl L o) : ObAt w va vf vp vc o :=
  ⟨CellsAt.of_own h.ra (by decide), CellsAt.of_own h.rf (by decide), CellsAt.of_own h.rp (by decide), CellsAt.of_own h.rc (by decide)⟩
theorem Rt.cells (h : Rt base w g va vf vp vc vu vl L o) : w.cell? ⟨g, 0, none⟩ = some va ∧ w.cell? ⟨g, 1, none⟩ = some vf ∧ w.cell? ⟨g, 2, none⟩ = some vp ∧ w.cell? ⟨g, 3, none⟩ = some vc :=
  ⟨(h.box.cell 0).trans rcs_0, (h.box.cell 1).trans rcs_1, (h.box.cell 2).trans rcs_2, (h.box.cell 3).trans rcs_3⟩
theorem Rt.goes (h : Rt base w g va vf vp vc vu vl L o) (hb : Below w.heap.size w w') : Rt base w' g va vf vp vc vu vl L o :=
  ⟨h.box.below hb h.box.lt, h.len, own_fr h.ra (Fr.of_below (S := fun _ => False) hb) (fun _ _ x => x), own_fr h.rf (Fr.of_below (S := fun _ => False) hb) (fun _ _ x => x), own_fr h.rp (Fr.of_below (S := fun _ => False) hb) (fun _ _ x => x), own_fr h.rc (Fr.of_below (S := fun _ => False) hb) (fun _ _ x => x), h.ge⟩
theorem RtF.below (hb : Below w.heap.size w w') (o : Ob) : RtF w w' g va vf vp va vf vp o o :=
  ⟨(Fr.of_below (S := fun _ => False) hb).mono (fun _ _ x => False.elim x), .inl rfl, .inl rfl, .inl rfl, fun _ _ _ _ h _ => own_fr h (Fr.of_below (S := fun _ => False) hb) (fun _ _ x => x), fun _ _ _ _ h _ => own_fr h (Fr.of_below (S := fun _ => False) hb) (fun _ _ x => x), fun _ _ _ _ h _ => own_fr h (Fr.of_below (S := fun _ => False) hb) (fun _ _ x => x), ⟨Nat.le_refl _, Nat.le_refl _, Nat.le_refl _⟩⟩
end
theorem RtF.trans {w w' w'' : World} {g : Nat} {va vf vp va' vf' vp' va'' vf'' vp'' : Value} {o o' o'' : Ob} (h : RtF w w' g va vf vp va' vf' vp' o o') (k : RtF w' w'' g va' vf' vp' va'' vf'' vp'' o' o'') : RtF w w'' g va vf vp va'' vf'' vp'' o o'' := by
  have own3 : ∀ {v v' v'' : Value}, (v'.ownBlock = v.ownBlock ∨ ∃ b, v'.ownBlock = some b ∧ w.heap.size ≤ b) → (v''.ownBlock = v'.ownBlock ∨ ∃ b, v''.ownBlock = some b ∧ w'.heap.size ≤ b) → v''.ownBlock = v.ownBlock ∨ ∃ b, v''.ownBlock = some b ∧ w.heap.size ≤ b := fun h1 h2 => by
    rcases h2 with h2 | ⟨b, h2, hb⟩
    · rcases h1 with h1 | ⟨b, h1, hb⟩
      · exact .inl (h2.trans h1)
      · exact .inr ⟨b, h2.trans h1, hb⟩
    · exact .inr ⟨b, h2, Nat.le_trans h.fr.size hb⟩
  have side : ∀ {v v' : Value} {n n' m : Nat} {base' : Nat} {e : TypeId} {size : Nat} {u : Value} {xs : List Value}, (v'.ownBlock = v.ownBlock ∨ ∃ b, v'.ownBlock = some b ∧ w.heap.size ≤ b) → w.ownsRow base' e size u m xs → (u.ownBlock = v.ownBlock → m ≤ n) → n ≤ n' → u.ownBlock = v'.ownBlock → m ≤ n' := fun h1 hu hc hn he => by
    rcases h1 with h1 | ⟨b, h1, hb⟩
    · exact Nat.le_trans (hc (he.trans h1)) hn
    · have := (own_ge hu (he.trans h1)).2
      omega
  refine ⟨⟨k.fr.os.trans h.fr.os, k.fr.tape.trans h.fr.tape, k.fr.output.trans h.fr.output, Nat.le_trans h.fr.size k.fr.size, fun j hj hs => (k.fr.block j (Nat.lt_of_lt_of_le hj h.fr.size) (fun e => ?_)).trans (h.fr.block j hj hs)⟩, own3 h.ownA k.ownA, own3 h.ownF k.ownF, own3 h.ownP k.ownP, fun _ _ _ _ hu hc => k.keepA _ _ _ _ (h.keepA _ _ _ _ hu hc) (side h.ownA hu hc h.len.1), fun _ _ _ _ hu hc => k.keepF _ _ _ _ (h.keepF _ _ _ _ hu hc) (side h.ownF hu hc h.len.2.1), fun _ _ _ _ hu hc => k.keepP _ _ _ _ (h.keepP _ _ _ _ hu hc) (side h.ownP hu hc h.len.2.2), ⟨Nat.le_trans h.len.1 k.len.1, Nat.le_trans h.len.2.1 k.len.2.1, Nat.le_trans h.len.2.2 k.len.2.2⟩⟩
  rcases e with e | e | e | e
  · exact hs (.inl e)
  · rcases h.ownA with h1 | ⟨b, h1, hb⟩
    · exact hs (.inr (.inl (h1.symm.trans e)))
    · rw [h1] at e; injection e with e; omega
  · rcases h.ownF with h1 | ⟨b, h1, hb⟩
    · exact hs (.inr (.inr (.inl (h1.symm.trans e))))
    · rw [h1] at e; injection e with e; omega
  · rcases h.ownP with h1 | ⟨b, h1, hb⟩
    · exact hs (.inr (.inr (.inr (h1.symm.trans e))))
    · rw [h1] at e; injection e with e; omega

end Go.Proofs.YtfgnapfodnhppaaGreatDoor
