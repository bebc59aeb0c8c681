/-
  3 texts in one (AsmT AsmU AsmV). Conditions: those of each theorem.
-/
import Derived.Test.YtfgnapfodnhppaaGreatDoorJ35
namespace Go.Proofs.YtfgnapfodnhppaaGreatDoor
open Go Go.RowKit Go.WideShapes Go.ChangeShapes
set_option linter.unusedVariables false
set_option linter.unusedSimpArgs false

def toldA : List ByteArray := [⟨#[112, 114, 101, 100, 32, 112, 47, 49]⟩, ⟨#[103, 101, 116, 99, 111, 110, 32, 97, 32, 88, 48]⟩, ⟨#[112, 114, 111, 99, 101, 101, 100]⟩]
def toldB : List ByteArray := [⟨#[112, 114, 101, 100, 32, 112, 47, 49]⟩, ⟨#[116, 114, 121, 32, 64, 53]⟩]
theorem toldA_is : (asmOf (toldA.map (·.data.toList))).2 = (0, -1) ∧ (asmOf (toldA.map (·.data.toList))).1.code.length = 2 ∧ (asmOf (toldA.map (·.data.toList))).1.preds.map (·.2.2) = [0] ∧ (asmOf (toldA.map (·.data.toList))).1.atoms.length = 1 := by decide +kernel
theorem toldB_is : (asmOf (toldB.map (·.data.toList))).2 = (10, 1) := by decide +kernel

set_option maxRecDepth 100000 in
set_option maxHeartbeats 16000000 in
theorem told9_any (HPK : PredKeeps) {B : Nat} (w : World) (hp : LaidC B w) :
    Calls Tryz.prog 7 #[] w fun e w' => e = .returned (.bool true) ∧ Below w.heap.size w w' := by
  have HC := Lib.hid (fun ls hs hm v w hp hv => program_any HPK ls hs hm v (B := B) w hp hv)
  have hbA := alloc_below w (.cells #[.string ⟨#[112, 114, 101, 100, 32, 112, 47, 49]⟩, .string ⟨#[103, 101, 116, 99, 111, 110, 32, 97, 32, 88, 48]⟩, .string ⟨#[112, 114, 111, 99, 101, 101, 100]⟩] 9)
  have HBA := Lib.hid hbA
  have hxA := Box.new w 9 #[.string ⟨#[112, 114, 101, 100, 32, 112, 47, 49]⟩, .string ⟨#[103, 101, 116, 99, 111, 110, 32, 97, 32, 88, 48]⟩, .string ⟨#[112, 114, 111, 99, 101, 101, 100]⟩]
  have HAA : Hid (AtomsAt (w.alloc (.cells #[.string ⟨#[112, 114, 101, 100, 32, 112, 47, 49]⟩, .string ⟨#[103, 101, 116, 99, 111, 110, 32, 97, 32, 88, 48]⟩, .string ⟨#[112, 114, 111, 99, 101, 101, 100]⟩] 9)) (.slice (some ⟨w.heap.size, 0, none⟩) 3 3) toldA) := Lib.hid (.inr ⟨_, 0, 3, rfl, hxA.lt, fun k u hk => by rw [Nat.zero_add, hxA.cell k]; simpa [toldA] using hk⟩)
  have HPA := Lib.hid (hp.up hbA)
  have HP := Lib.hid hp
  have HA := Lib.hid toldA_is
  have HB := Lib.hid toldB_is
  clear hbA hxA hp
  go_enter Tryz.func7, Tryz.ntmps7
  go_upto_region 2 with (go_at_call 8; refine (HC.out toldA (by decide) (by decide) _ _ HPA.out HAA.out).mono ?_; rintro e w2 ⟨va, vf, vp, vc, rfl, ho2, hb2⟩; have HO2 := Lib.hid ho2.at_; have HB2 := Lib.hid (HBA.out.trans (hb2.mono HBA.out.size)); obtain ⟨A1, c1, hva⟩ := ho2.at_.atoms.form; obtain ⟨A2, c2, hvf⟩ := ho2.at_.funs.form; obtain ⟨A3, c3, hvp⟩ := ho2.at_.preds.form; obtain ⟨A4, c4, hvc⟩ := ho2.at_.code.form; subst hva hvf hvp hvc; clear ho2 hb2; rw [HA.out.1, HA.out.2.1, HA.out.2.2.2])
  have HX2 := Lib.hid (Box.new w2 31 #[.slice A1 (asmOf (toldA.map (·.data.toList))).1.atoms.length c1, .slice A2 (asmOf (toldA.map (·.data.toList))).1.funs.length c2, .slice A3 (asmOf (toldA.map (·.data.toList))).1.preds.length c3, .slice A4 (asmOf (toldA.map (·.data.toList))).1.code.length c4])
  rw [HA.out.2.1, HA.out.2.2.2] at HX2
  have hpr := HO2.out.preds
  obtain ⟨f, n, hpl⟩ : ∃ f n, (asmOf (toldA.map (·.data.toList))).1.preds = [(f, n, 0)] := by
    have h := HA.out.2.2.1
    generalize (asmOf (toldA.map (·.data.toList))).1.preds = l at h
    match l, h with
    | [(f, n, z)], h =>
      simp at h
      subst h
      exact ⟨f, n, rfl⟩
  rw [hpl] at hpr HX2 ⊢
  obtain ⟨b, off, rfl, hb, _, _, hc2⟩ := predCell (l := [(f, n, 0)]) hpr 0 (by simp)
  simp only [Nat.zero_mul, Nat.add_zero, List.getElem_cons_zero, List.length_cons, List.length_nil, Nat.zero_add] at hc2 HX2 ⊢
  clear hpr hpl HO2
  generalize (asmOf (toldA.map (·.data.toList))).1.funs.length = nf at HX2 ⊢
  have HB3 := Lib.hid (HB2.out.alloc HB2.out.size (.cells #[.slice A1 1 c1, .slice A2 nf c2, .slice (some ⟨b, off, none⟩) 1 c3, .slice A4 2 c4] 31))
  have hc3 := (alloc_below w2 (.cells #[.slice A1 1 c1, .slice A2 nf c2, .slice (some ⟨b, off, none⟩) 1 c3, .slice A4 2 c4] 31)).cell (p := ⟨b, off + 2, none⟩) hb |>.trans hc2
  have hb3 : b < (w2.alloc (.cells #[.slice A1 1 c1, .slice A2 nf c2, .slice (some ⟨b, off, none⟩) 1 c3, .slice A4 2 c4] 31)).heap.size := by simp; omega
  obtain ⟨w3, hw3⟩ : ∃ w3, w2.alloc (.cells #[.slice A1 1 c1, .slice A2 nf c2, .slice (some ⟨b, off, none⟩) 1 c3, .slice A4 2 c4] 31) = w3 := ⟨_, rfl⟩
  rw [hw3] at HX2 HB3 hc3 hb3 ⊢
  generalize w2.heap.size = G at HX2 ⊢
  clear hw3 hb hc2 HB2 HPA HAA HBA
  have hbB := alloc_below w3 (.cells #[.string ⟨#[112, 114, 101, 100, 32, 112, 47, 49]⟩, .string ⟨#[116, 114, 121, 32, 64, 53]⟩] 9)
  have hxB := Box.new w3 9 #[.string ⟨#[112, 114, 101, 100, 32, 112, 47, 49]⟩, .string ⟨#[116, 114, 121, 32, 64, 53]⟩]
  have HAB : Hid (AtomsAt (w3.alloc (.cells #[.string ⟨#[112, 114, 101, 100, 32, 112, 47, 49]⟩, .string ⟨#[116, 114, 121, 32, 64, 53]⟩] 9)) (.slice (some ⟨w3.heap.size, 0, none⟩) 2 2) toldB) := Lib.hid (.inr ⟨_, 0, 2, rfl, hxB.lt, fun k u hk => by rw [Nat.zero_add, hxB.cell k]; simpa [toldB] using hk⟩)
  have HBB := Lib.hid hbB
  have HC3 := Lib.hid hc3
  have HPB := Lib.hid ((HP.out.up HB3.out).up hbB)
  have HL3 := Lib.hid hb3
  clear hbB hxB hc3 hb3
  go_upto_region 3 with (go_at_call 8; refine (HC.out toldB (by decide) (by decide) _ _ HPB.out HAB.out).mono ?_; rintro e w4 ⟨va, vf, vp, vc, rfl, ho4, hb4⟩; have HB4 := Lib.hid (HBB.out.trans (hb4.mono HBB.out.size)); obtain ⟨B1, d1, hva⟩ := ho4.at_.atoms.form; obtain ⟨B2, d2, hvf⟩ := ho4.at_.funs.form; obtain ⟨B3, d3, hvp⟩ := ho4.at_.preds.form; obtain ⟨B4, d4, hvc⟩ := ho4.at_.code.form; subst hva hvf hvp hvc; clear ho4 hb4; rw [HB.out])
  generalize (asmOf (toldB.map (·.data.toList))).1 = oB
  have HB5 := Lib.hid (HB4.out.alloc HB4.out.size (.cells #[.slice B1 oB.atoms.length d1, .slice B2 oB.funs.length d2, .slice B3 oB.preds.length d3, .slice B4 oB.code.length d4] 31))
  have HX5 := Lib.hid (HX2.out.below HB5.out HX2.out.lt)
  have q0 := HX5.out.cell 0
  have q1 := HX5.out.cell 1
  have q2 := HX5.out.cell 2
  have q3 := HX5.out.cell 3
  have q4 := (HB5.out.cell (p := ⟨b, off + 2, none⟩) HL3.out).trans HC3.out
  have HEND := Lib.hid (HB3.out.trans (HB5.out.mono HB3.out.size))
  go_wp2
  go_ret
  exact ⟨rfl, HEND.out⟩

end Go.Proofs.YtfgnapfodnhppaaGreatDoor

namespace Go.Proofs.YtfgnapfodnhppaaGreatDoor
open Go Go.RowKit Go.WideShapes Go.ChangeShapes
set_option linter.unusedVariables false
set_option linter.unusedSimpArgs false

theorem slash_hit : ∀ (l : List UInt8) (k : Nat) (hk : k < l.length), (∀ c ∈ l.take k, c ≠ 47) → l[k] = 47 → slashAt l = some (l.take k, l.drop (k + 1))
  | [], k, hk, _, _ => by simp at hk
  | c :: l, 0, hk, _, h => by
    have h : c = 47 := h
    rw [slashAt, if_pos h]
    simp
  | c :: l, k + 1, hk, h, he => by
    have hc : c ≠ 47 := h c (by simp)
    have ih := slash_hit l k (by simpa using hk) (fun d hd => h d (by simp [hd])) (by simpa using he)
    rw [slashAt, if_neg hc, ih]
    rfl
theorem slash_miss : ∀ (l : List UInt8), (∀ c ∈ l, c ≠ 47) → slashAt l = none
  | [], _ => rfl
  | c :: l, h => by
    rw [slashAt, if_neg (h c (by simp)), slash_miss l (fun d hd => h d (by simp [hd]))]
    rfl
/-- What slash hands back. -/
def slashRes (r : Option (ByteArray × Int)) : ByteArray × Int := match r with
  | none => (⟨#[]⟩, -1)
  | some f => f
theorem slash_res {l a d : List UInt8} (least : Int) (h0 : 0 ≤ least) (h : slashAt l = some (a, d)) : slashRes (funOf l least) = if nameOk (bs a) = true ∧ least ≤ rnumOf d ∧ rnumOf d ≤ 8 then (bs a, rnumOf d) else (⟨#[]⟩, -1) := by
  unfold funOf
  rw [h]
  simp only
  unfold numUpto
  by_cases h1 : 0 ≤ rnumOf d ∧ rnumOf d ≤ 8
  · rw [if_pos h1]
    simp only
    by_cases h2 : least ≤ rnumOf d ∧ nameOk (bs a) = true
    · rw [if_pos h2, if_pos ⟨h2.2, h2.1, h1.2⟩]
      rfl
    · rw [if_neg h2, if_neg (fun h => h2 ⟨h.2.1, h.1⟩)]
      rfl
  · rw [if_neg h1, if_neg (fun h => h1 ⟨by omega, h.2.2⟩)]
    rfl
theorem slash_res_none {l : List UInt8} (least : Int) (h : slashAt l = none) : slashRes (funOf l least) = (⟨#[]⟩, -1) := by
  unfold funOf
  rw [h]
  rfl

set_option maxRecDepth 100000 in
set_option maxHeartbeats 4000000 in
theorem rslash_any (s : ByteArray) (hs : s.size ≤ 1000000) (least : Int) (h0 : 0 ≤ least) (w : World) :
    Calls Tryz.prog 53 #[.string s, .int .i64 least] w fun e w' => e = .returned (.tuple #[.string (slashRes (funOf s.data.toList least)).1, .int .i64 (slashRes (funOf s.data.toList least)).2]) ∧ Below w.heap.size w w' := by
  have hl : s.data.toList.length = s.size := by rw [Array.length_toList]; rfl
  have HL := Lib.hid hl
  have HN := Lib.hid (fun (h : slashAt s.data.toList = none) => slash_res_none least h)
  have HY := Lib.hid (fun a d (h : slashAt s.data.toList = some (a, d)) => slash_res least h0 h)
  generalize slashRes (funOf s.data.toList least) = r at HN HY ⊢
  clear hl
  go_enter Tryz.func53, Tryz.ntmps53
  go_wp2
  go_loop [4, 5, 6, 7] (fun _ _ i _ => ∃ k : Nat, k ≤ s.size ∧ i = .int .i64 k ∧ Hid (∀ c ∈ s.data.toList.take k, c ≠ 47)) (fun _ _ i _ => s.size - (intOf i).toNat)
  case atStart => exact ⟨0, by omega, rfl, Lib.hid (by simp)⟩
  case round =>
    obtain ⟨k, hk, rfl, HA⟩ := hrel
    by_cases hlt : k < s.size
    · have hkl : k < s.data.toList.length := by have := HL.out; omega
      have hts := take_byte s k hlt
      have hek : s.data.toList[k] = s[k] := rfl
      by_cases h47 : s[k] = 47
      · have e1 : ((s[k].toNat : Int) == 47) = true := by rw [h47]; rfl
        have HS := Lib.hid (HY.out _ _ (slash_hit _ k hkl HA.out (hek.trans h47)))
        have HE1 : Hid (s.extract (k + 1) s.size = bs (s.data.toList.drop (k + 1))) := Lib.hid (by
          rw [ext_bs, List.take_of_length_le (by rw [List.length_drop, HL.out]; omega)])
        have HE2 : Hid (s.extract 0 k = bs (s.data.toList.take k)) := Lib.hid (by
          rw [ext_bs]; rfl)
        have hsz : (bs (s.data.toList.take k)).size ≤ maxLen := by
          rw [bs_size, List.length_take]
          unfold maxLen
          omega
        have HNM := Lib.hid (fun w => refName_any (bs (s.data.toList.take k)) w hsz)
        have HNU := Lib.hid (fun w => rnum_any (bs (s.data.toList.drop (k + 1))) w)
        rw [bs_data] at HNU
        clear hts hek hsz
        generalize s.data.toList.drop (k + 1) = d at HS HE1 HNU
        generalize bs (s.data.toList.take k) = x at HS HE2 HNM
        generalize rnumOf d = n at HS HNU
        by_cases hc : nameOk x = true ∧ least ≤ n ∧ n ≤ 8
        · have HX : Hid (r = (x, n)) := Lib.hid (HS.out.trans (if_pos hc))
          rw [hc.1] at HNM
          obtain ⟨_, hc1, hc2⟩ := hc
          go_wp2_with (first
            | (go_at_call 55; rw [HE1.out]; refine (HNU.out _).mono ?_; rintro e w2 ⟨rfl, hb2⟩; have HB2 := Lib.hid hb2; clear hb2)
            | (go_at_call 85; rw [HE2.out]; refine (HNM.out _).mono ?_; rintro e w3 ⟨rfl, rfl⟩))
          rw [HE2.out]
          go_ret2
          exact ⟨by rw [HX.out] <;> rfl, HB2.out⟩
        · have HX : Hid (r = (⟨#[]⟩, -1)) := Lib.hid (HS.out.trans (if_neg hc))
          cases hnm : nameOk x with
          | false =>
            rw [hnm] at HNM
            clear hc hnm
            go_wp2_with (first
              | (go_at_call 55; rw [HE1.out]; refine (HNU.out _).mono ?_; rintro e w2 ⟨rfl, hb2⟩; have HB2 := Lib.hid hb2; clear hb2)
              | (go_at_call 85; rw [HE2.out]; refine (HNM.out _).mono ?_; rintro e w3 ⟨rfl, rfl⟩))
            go_ret2
            exact ⟨by rw [HX.out] <;> rfl, HB2.out⟩
          | true =>
            rw [hnm] at HNM
            by_cases hc1 : least ≤ n
            · have hc2 : ¬ n ≤ 8 := fun h => hc ⟨hnm, hc1, h⟩
              clear hc hnm
              go_wp2_with (first
                | (go_at_call 55; rw [HE1.out]; refine (HNU.out _).mono ?_; rintro e w2 ⟨rfl, hb2⟩; have HB2 := Lib.hid hb2; clear hb2)
                | (go_at_call 85; rw [HE2.out]; refine (HNM.out _).mono ?_; rintro e w3 ⟨rfl, rfl⟩))
              go_ret2
              exact ⟨by rw [HX.out] <;> rfl, HB2.out⟩
            · clear hc hnm
              go_wp2_with (first
                | (go_at_call 55; rw [HE1.out]; refine (HNU.out _).mono ?_; rintro e w2 ⟨rfl, hb2⟩; have HB2 := Lib.hid hb2; clear hb2)
                | (go_at_call 85; rw [HE2.out]; refine (HNM.out _).mono ?_; rintro e w3 ⟨rfl, rfl⟩))
              go_ret2
              exact ⟨by rw [HX.out] <;> rfl, HB2.out⟩
      · have e1 : ((s[k].toNat : Int) == 47) = false := by
          rw [beq_eq_false_iff_ne]
          intro e
          have e47 : (47 : UInt8).toNat = 47 := rfl
          exact h47 (UInt8.toNat_inj.1 (by omega))
        have HA2 : Hid (∀ c ∈ s.data.toList.take (k + 1), c ≠ 47) := Lib.hid (fun c hc => by
          rw [hts] at hc
          rcases List.mem_append.1 hc with hc | hc
          · exact HA.out c hc
          · rw [List.mem_singleton.1 hc]; exact h47)
        clear hts hek h47
        go_wp2
        go_round
        case rel => exact ⟨k + 1, by omega, by go_num, HA2⟩
        case measure => simp [intOf]; omega
    · obtain rfl : k = s.size := by omega
      have HX : Hid (r = (⟨#[]⟩, -1)) := Lib.hid (HN.out (slash_miss _ (by
        have := HA.out
        rw [← HL.out, List.take_length] at this
        exact this)))
      go_wp2
      go_ret2
      exact ⟨by rw [HX.out] <;> rfl, Below.refl _ _⟩

end Go.Proofs.YtfgnapfodnhppaaGreatDoor

namespace Go.Proofs.YtfgnapfodnhppaaGreatDoor
open Go Go.RowKit Go.WideShapes Go.ChangeShapes
set_option linter.unusedVariables false
set_option linter.unusedSimpArgs false

def funW (f : ByteArray × Int) : List UInt8 := f.1.data.toList ++ 47 :: Lib.itoa f.2
/-- The word of what an operand names. -/
def namedW (o : Ob) (kind n : Int) : List UInt8 :=
  if kind = 3 then (o.atoms.getD n.toNat ⟨#[]⟩).data.toList
  else if kind = 4 then funW (o.funs.getD n.toNat (⟨#[]⟩, 0))
  else if kind = 7 then funW ((o.preds.getD n.toNat (⟨#[]⟩, 0, 0)).1, (o.preds.getD n.toNat (⟨#[]⟩, 0, 0)).2.1)
  else 64 :: Lib.itoa n
/-- What is asked of an operand that names. -/
def inTab (o : Ob) (kind n : Int) : Prop :=
  0 ≤ n ∧ n ≤ 4000000 ∧ (kind = 3 → n.toNat < o.atoms.length) ∧ (kind = 4 → n.toNat < o.funs.length) ∧ (kind = 7 → n.toNat < o.preds.length)
/-- Names are no longer than can be written. -/
structure NamesWf (o : Ob) : Prop where
  atoms : ∀ s ∈ o.atoms, s.size ≤ 1000000
  funs : ∀ f ∈ o.funs, f.1.size ≤ 1000000 ∧ -9223372036854775808 ≤ f.2 ∧ f.2 ≤ 9223372036854775807
  preds : ∀ p ∈ o.preds, p.1.size ≤ 1000000 ∧ -9223372036854775808 ≤ p.2.1 ∧ p.2.1 ≤ 9223372036854775807

theorem app_bs (s : ByteArray) (l : List UInt8) : s ++ bs l = bs (s.data.toList ++ l) := by
  apply ByteArray.ext
  simp [bs]

set_option maxHeartbeats 1000000 in
theorem funWord_any (f : ByteArray) (n : Int) (hf : f.size ≤ 1000000) (h0 : -9223372036854775808 ≤ n) (h1 : n ≤ 9223372036854775807) (w : World) {B : Nat} (hp : LaidC B w) :
    Calls Tryz.prog 33 #[.string f, .int .i64 n] w fun e w' => e = .returned (.string (bs (funW (f, n)))) ∧ Below w.heap.size w w' := by
  have hw : bs (funW (f, n)) = f ++ ⟨#[47]⟩ ++ bs (Lib.itoa n) := by
    apply ByteArray.ext
    simp [bs, funW]
  obtain ⟨s, hs, hsz⟩ : ∃ s, bs (Lib.itoa n) = s ∧ s.size ≤ 21 := ⟨_, rfl, by rw [bs_size]; have := Lib.itoa_length_le n h0 h1; omega⟩
  have hi := fun w (hp : LaidC B w) => itoa_any n h0 h1 w hp
  rw [hs] at hw hi
  rw [hw]
  have HI := Lib.hid hi
  have HP := Lib.hid hp
  clear hw hi hp hs
  have z1 : (f ++ ⟨#[47]⟩ : ByteArray).size = f.size + 1 := by rw [ByteArray.size_append]; rfl
  go_enter Tryz.func33, Tryz.ntmps33
  go_wp2_with (refine (HI.out _ HP.out).mono ?_; rintro e w' ⟨rfl, hb⟩)
  go_ret
  exact ⟨rfl, hb⟩

set_option maxRecDepth 100000 in
set_option maxHeartbeats 4000000 in
theorem named_anyL (o : Ob) (hn : NamesWf o) (kind n : Int) (hk : kind = 3 ∨ kind = 4 ∨ kind = 7 ∨ kind = 8) (ht : inTab o kind n) (va vf vp vc : Value) (w : World) {B : Nat} (hp : LaidC B w) (hv : ObAt w va vf vp vc o) :
    Calls Tryz.prog 68 #[.agg #[va, vf, vp, vc], .int .i64 kind, .int .i64 n] w fun e w' => e = .returned (.string (bs (namedW o kind n))) ∧ Below w.heap.size w w' := by
  obtain ⟨A1, c1, rfl⟩ := hv.atoms.form
  obtain ⟨A2, c2, rfl⟩ := hv.funs.form
  obtain ⟨A3, c3, rfl⟩ := hv.preds.form
  obtain ⟨A4, c4, rfl⟩ := hv.code.form
  obtain ⟨t0, t1, t3, t4, t7⟩ := ht
  obtain ⟨k, rfl⟩ := Int.eq_ofNat_of_zero_le t0
  simp only [Int.toNat_natCast] at t3 t4 t7
  have HB := Lib.hid (alloc_below w (.cells #[.slice A1 o.atoms.length c1, .slice A2 o.funs.length c2, .slice A3 o.preds.length c3, .slice A4 o.code.length c4] 31))
  have HX := Lib.hid (Box.new w 31 #[.slice A1 o.atoms.length c1, .slice A2 o.funs.length c2, .slice A3 o.preds.length c3, .slice A4 o.code.length c4])
  rcases hk with rfl | rfl | rfl | rfl
  · have hlt := t3 rfl
    have HR : Hid (bs (namedW o 3 (k : Int)) = o.atoms[k]) := Lib.hid (by
      rw [namedW, if_pos rfl, str_bs, Int.toNat_natCast, List.getD_eq_getElem?_getD, List.getElem?_eq_getElem hlt]
      rfl)
    generalize bs (namedW o 3 (k : Int)) = r at HR ⊢
    obtain ⟨b, off, rfl, hb, hc⟩ := atomCell hv.atoms k hlt
    have d0 := (HB.out.cell (p := ⟨b, off + k, none⟩) hb).trans hc
    have q0 := HX.out.cell 0
    clear hv hc t3 t4 t7
    generalize o.atoms[k] = x at d0 HR
    go_enter Tryz.func68, Tryz.ntmps68
    go_wp2
    go_ret
    exact ⟨by rw [HR.out] <;> rfl, HB.out⟩
  · have hlt := t4 rfl
    have HR : Hid (bs (namedW o 4 (k : Int)) = bs (funW (o.funs[k].1, o.funs[k].2))) := Lib.hid (by
      rw [namedW, if_neg (by decide), if_pos rfl, Int.toNat_natCast, List.getD_eq_getElem?_getD, List.getElem?_eq_getElem hlt]
      rfl)
    generalize bs (namedW o 4 (k : Int)) = r at HR ⊢
    obtain ⟨b, off, rfl, hb, hc0, hc1⟩ := funCell hv.funs k hlt
    have d0 := (HB.out.cell (p := ⟨b, off + k * 2, none⟩) hb).trans hc0
    have d1 := (HB.out.cell (p := ⟨b, off + k * 2 + 1, none⟩) hb).trans hc1
    have q1 := HX.out.cell 1
    have hsz := hn.funs _ (List.getElem_mem hlt)
    have HF := Lib.hid (fun w h => funWord_any o.funs[k].1 o.funs[k].2 hsz.1 hsz.2.1 hsz.2.2 w (B := B) h)
    clear hv hc0 hc1 t3 t4 t7
    generalize o.funs[k].1 = x at d0 HR HF
    generalize o.funs[k].2 = y at d1 HR HF
    have HP := Lib.hid ((hp.up HB.out).up (alloc_below _ (.cells #[.string x, .int .i64 y] 76)))
    have HB2 := Lib.hid (HB.out.alloc HB.out.size (.cells #[.string x, .int .i64 y] 76))
    go_enter Tryz.func68, Tryz.ntmps68
    go_wp2_with (go_at_call 33; refine (HF.out _ HP.out).mono ?_; rintro e w2 ⟨rfl, hb2⟩; have HB3 := Lib.hid (HB2.out.trans (hb2.mono HB2.out.size)); clear hb2)
    go_ret
    exact ⟨by rw [HR.out] <;> rfl, HB3.out⟩
  · have hlt := t7 rfl
    have HR : Hid (bs (namedW o 7 (k : Int)) = bs (funW (o.preds[k].1, o.preds[k].2.1))) := Lib.hid (by
      rw [namedW, if_neg (by decide), if_neg (by decide), if_pos rfl, Int.toNat_natCast, List.getD_eq_getElem?_getD, List.getElem?_eq_getElem hlt]
      rfl)
    generalize bs (namedW o 7 (k : Int)) = r at HR ⊢
    obtain ⟨b, off, rfl, hb, hc0, hc1, hc2⟩ := predCell hv.preds k hlt
    have d0 := (HB.out.cell (p := ⟨b, off + k * 3, none⟩) hb).trans hc0
    have d1 := (HB.out.cell (p := ⟨b, off + k * 3 + 1, none⟩) hb).trans hc1
    have d2 := (HB.out.cell (p := ⟨b, off + k * 3 + 2, none⟩) hb).trans hc2
    have q2 := HX.out.cell 2
    have hsz := hn.preds _ (List.getElem_mem hlt)
    have HF := Lib.hid (fun w h => funWord_any o.preds[k].1 o.preds[k].2.1 hsz.1 hsz.2.1 hsz.2.2 w (B := B) h)
    clear hv hc0 hc1 hc2 t3 t4 t7
    generalize o.preds[k].1 = x at d0 HR HF
    generalize o.preds[k].2.1 = y at d1 HR HF
    generalize o.preds[k].2.2 = z at d2
    have HP := Lib.hid ((hp.up HB.out).up (alloc_below _ (.cells #[.string x, .int .i64 y, .int .i64 z] 52)))
    have HB2 := Lib.hid (HB.out.alloc HB.out.size (.cells #[.string x, .int .i64 y, .int .i64 z] 52))
    go_enter Tryz.func68, Tryz.ntmps68
    go_wp2_with (go_at_call 33; refine (HF.out _ HP.out).mono ?_; rintro e w2 ⟨rfl, hb2⟩; have HB3 := Lib.hid (HB2.out.trans (hb2.mono HB2.out.size)); clear hb2)
    go_ret
    exact ⟨by rw [HR.out] <;> rfl, HB3.out⟩
  · have HR : Hid (bs (namedW o 8 (k : Int)) = ⟨#[64]⟩ ++ bs (Lib.itoa (k : Int))) := Lib.hid (by
      rw [namedW, if_neg (by decide), if_neg (by decide), if_neg (by decide), cons_bs])
    generalize bs (namedW o 8 (k : Int)) = r at HR ⊢
    have HI := Lib.hid (fun w (hp : LaidC B w) => itoa_any (k : Int) (by omega) (by omega) w hp)
    obtain ⟨s, hs, hsz⟩ : ∃ s, bs (Lib.itoa (k : Int)) = s ∧ s.size ≤ 21 := ⟨_, rfl, by rw [bs_size]; have := Lib.itoa_length_le (k : Int) (by omega) (by omega); omega⟩
    rw [hs] at HI HR
    have HP := Lib.hid (hp.up HB.out)
    clear hs hv t3 t4 t7
    go_enter Tryz.func68, Tryz.ntmps68
    go_wp2_with (go_at_call 34; refine (HI.out _ HP.out).mono ?_; rintro e w2 ⟨rfl, hb2⟩; have HB3 := Lib.hid (HB.out.trans (hb2.mono HB.out.size)); clear hb2)
    go_ret
    exact ⟨by rw [HR.out] <;> rfl, HB3.out⟩

end Go.Proofs.YtfgnapfodnhppaaGreatDoor
