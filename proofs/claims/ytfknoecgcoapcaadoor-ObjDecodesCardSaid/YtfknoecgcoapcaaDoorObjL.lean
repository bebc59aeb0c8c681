/-
  The program's reader: name and magic, each by its plain words.
-/
import Derived.Test.YtfknoecgcoapcaaDoorObjK
import Derived.Laws.IdiomStrings
import Derived.Deep.QuietTactic
import Derived.BigQuiet
namespace Go.Proofs.YtfknoecgcoapcaaDoor
open Go Go.RowKit Go.WideShapes Go.ChangeShapes
set_option linter.unusedVariables false
set_option linter.unusedSimpArgs false

theorem conv_str {w : World} {v : Value} {l : List Nat} (h : BysIn w v l) (hl : ∀ c ∈ l, c < 256) : (convert 38 9 v).run Tryd.prog w = .ok (.string (strOf l)) w := by
  rcases h with ⟨rfl, rfl⟩ | ⟨b, off, c, rfl, h1, h2, h3, hc⟩
  · kernel_rfl
  · have hlen : l.length = (l.map UInt8.ofNat).length := by simp
    have h := run_convert_bytes_back (P := Tryd.prog) w 38 9 5 ⟨b, off, none⟩ c (l.map UInt8.ofNat) Tryd.underlying38 uU8 uStr (fun j hj => by
      rw [List.length_map] at hj
      rw [add_plain, hc j hj, List.getElem_map, List.getD_eq_getElem?_getD, List.getElem?_eq_getElem hj]
      have h1 := hl _ (List.getElem_mem hj)
      have h2 : (UInt8.ofNat l[j]).toNat = l[j] := by
        rw [UInt8.toNat_ofNat']
        omega
      rw [h2]
      rfl)
    rw [← hlen] at h
    exact h

theorem num_lt {n : Nat} {r : Rd} (h : ∀ c ∈ r.rest, c < 256) : (numR n r).1 < 256 ^ n ∧ ∀ c ∈ (numR n r).2.rest, c < 256 := by
  refine ⟨?_, (took_lt h).2⟩
  rcases took_len (n := n) (r := r) with h1 | h1
  · exact valL_lt n _ h1 (took_lt h).1
  · show valL (takeR n r).1 < _
    rw [h1]
    exact Nat.pow_pos (by decide)

/-- What reading a name comes to. -/
def Named (w0 w : World) (R : Nat) (r : Rd) (e : Ending) (w' : World) : Prop :=
  e = .returned (.string (nameR r).1) ∧ RdAt w0 w' R (nameR r).2 ∧ Fr (fun b => b = R) w w'

set_option maxHeartbeats 1000000 in
theorem nameP_any (r : Rd) (hr : ∀ c ∈ r.rest, c < 256) (R : Nat) (w0 w : World) (h : RdAt w0 w R r) :
    Calls Tryd.prog 74 #[.pointer (some ⟨R, 0, none⟩)] w (Named w0 w R r) := by
  have HN := Lib.hid (number_any 1 (by omega) r hr R w0 w h)
  have hnl := num_lt (n := 1) hr
  have HT := Lib.hid (fun (w' : World) h => takeP_any (numR 1 r).1 (by have := hnl.1; omega) (numR 1 r).2 R w0 w' h)
  have HLT := Lib.hid (took_lt (n := (numR 1 r).1) hnl.2).1
  have HV : Hid (nameR r = (strOf (takeR (numR 1 r).1 (numR 1 r).2).1, (takeR (numR 1 r).1 (numR 1 r).2).2)) := Lib.hid rfl
  unfold Read at HN
  unfold Took at HT
  unfold Named
  rw [HV.out]
  generalize takeR (numR 1 r).1 (numR 1 r).2 = tk at HT HLT
  generalize (numR 1 r).2 = r1 at HN HT
  generalize (numR 1 r).1 = n1 at HN HT
  clear h hr hnl HV
  go_enter Tryd.func74, Tryd.ntmps74
  go_wp2_with (first
    | (go_at_call 66; refine HN.out.mono ?_; rintro e w5 ⟨rfl, hr5, hf5⟩; have HR5 := Lib.hid hr5; have HF5 := Lib.hid hf5; clear hr5 hf5)
    | (go_at_call 73; refine (HT.out _ HR5.out).mono ?_; rintro e w6 ⟨v6, rfl, hv6, hr6, hf6⟩; have hcv := conv_str (hv6.below hr6.below) HLT.out; have HR6 := Lib.hid hr6; have HF6 := Lib.hid hf6; clear hv6 hr6 hf6))
  go_ret
  exact ⟨rfl, HR6.out, HF5.out.trans HF6.out⟩

theorem magic_step (m : Nat) (ms : List Nat) (r : Rd) : magicR (m :: ms) r = if (takeR 1 r).1 = [m] ∨ (takeR 1 r).1 = [] then magicR ms (takeR 1 r).2 else none := rfl

theorem one_of {l : List Nat} (h : l.length = 1 ∨ l = []) : l = [] ∨ ∃ x, l = [x] := by
  rcases h with h | h
  · match l, h with
    | [x], _ => exact .inr ⟨x, rfl⟩
  · exact .inl h

theorem one_cell {w : World} {v : Value} {x : Nat} (h : BysIn w v [x]) : ∃ b off c, v = .slice (some ⟨b, off, none⟩) 1 c ∧ w.cell? ⟨b, off, none⟩ = some (.int .u8 (x : Int)) := by
  rcases h with ⟨h, _⟩ | ⟨b, off, c, rfl, _, _, _, hc⟩
  · cases h
  · exact ⟨b, off, c, rfl, hc 0 (by simp)⟩

/-- What looking at the first bytes comes to. -/
def Magic (w0 w : World) (R : Nat) (r : Rd) (e : Ending) (w' : World) : Prop :=
  (∃ r', magicR magicL r = some r' ∧ e = .returned (.bool true) ∧ RdAt w0 w' R r' ∧ Fr (fun b => b = R) w w' ∧ (∀ c ∈ r'.rest, c < 256)) ∨
    (magicR magicL r = none ∧ e = .returned (.bool false) ∧ Fr (fun b => b = R) w w')

set_option maxRecDepth 100000 in
set_option maxHeartbeats 4000000 in
theorem magic_any (r : Rd) (hr : ∀ c ∈ r.rest, c < 256) (R : Nat) (w0 w : World) (h : RdAt w0 w R r) :
    Calls Tryd.prog 65 #[.pointer (some ⟨R, 0, none⟩)] w (Magic w0 w R r) := by
  have H0 := Lib.hid h
  have HB0 := Lib.hid hr
  clear h hr
  go_enter Tryd.func65, Tryd.ntmps65
  go_wp2
  go_loopw [5] (fun i wr => ∃ (k : Nat) (r' : Rd), k ≤ 5 ∧ i = .int .i64 k ∧ Hid (magicR (magicL.drop k) r' = magicR magicL r) ∧ Hid (RdAt w0 wr R r') ∧ Hid (Fr (fun b => b = R) w wr) ∧ Hid (∀ c ∈ r'.rest, c < 256)) (fun i _ => 5 - (intOf i).toNat)
  case atStart => exact ⟨0, r, by omega, rfl, Lib.hid rfl, H0, Lib.hid (Fr.refl _ w), HB0⟩
  case round =>
    obtain ⟨k, r', hk, rfl, HM, HR, HF, HB⟩ := hrel
    clear H0 HB0
    by_cases hlt : k < 5
    · have HTK := Lib.hid (takeP_any 1 (by omega) r' R w0 wr HR.out)
      have hstep : ∀ m ms, magicL.drop k = m :: ms → magicR (magicL.drop k) r' = if (takeR 1 r').1 = [m] ∨ (takeR 1 r').1 = [] then magicR ms (takeR 1 r').2 else none := fun m ms e => by rw [e]; rfl
      have hone := one_of (took_len (n := 1) (r := r'))
      have HB2 := Lib.hid (took_lt (n := 1) HB.out).2
      unfold Took at HTK
      generalize (takeR 1 r').2 = r2 at HTK hstep HB2
      generalize (takeR 1 r').1 = l1 at HTK hstep hone
      have HST := Lib.hid hstep
      clear hstep
      have hk5 : k = 0 ∨ k = 1 ∨ k = 2 ∨ k = 3 ∨ k = 4 := by omega
      rcases hone with rfl | ⟨x, rfl⟩
      · have HNX : Hid (magicR (magicL.drop (k + 1)) r2 = magicR magicL r) := Lib.hid (by
          rw [← HM.out]
          rcases hk5 with rfl | rfl | rfl | rfl | rfl <;> rw [HST.out _ _ rfl, if_pos (Or.inr rfl)] <;> rfl)
        clear hk5
        go_upto_region 5 with (go_at_call 73; refine HTK.out.mono ?_; rintro e w5 ⟨v5, rfl, hv5, hr5, hf5⟩; have HR5 := Lib.hid hr5; have HF5 := Lib.hid hf5; obtain ⟨A5, c5, hA5⟩ := hv5.form; subst hA5; clear hv5 hr5 hf5)
        go_quiet (fail)
        go_wp2
        go_roundw
        case rel => exact ⟨k + 1, r2, by omega, by go_num, HNX, Lib.hid (HR5.out.up (bdrew0 _ _)), Lib.hid ((HF.out.trans HF5.out).drewN _), HB2⟩
        case measure => simp [intOf]; omega
      · rcases hk5 with rfl | rfl | rfl | rfl | rfl
        · by_cases hx : x = 82
          · subst hx
            have HNX : Hid (magicR (magicL.drop (0 + 1)) r2 = magicR magicL r) := Lib.hid (by rw [← HM.out, HST.out _ _ rfl, if_pos (Or.inl rfl)]; rfl)
            go_upto_region 5 with (go_at_call 73; refine HTK.out.mono ?_; rintro e w5 ⟨v5, rfl, hv5, hr5, hf5⟩; have HR5 := Lib.hid hr5; have HF5 := Lib.hid hf5; obtain ⟨b, off, c, rfl, hcell⟩ := one_cell (hv5.below hr5.below); clear hv5 hr5 hf5)
            go_quiet (fail)
            go_wp2
            go_roundw
            case rel => exact ⟨0 + 1, r2, by omega, by go_num, HNX, Lib.hid (HR5.out.up (bdrew0 _ _)), Lib.hid ((HF.out.trans HF5.out).drewN _), HB2⟩
            case measure => simp [intOf]
          · have HNX : Hid (magicR magicL r = none) := Lib.hid (by rw [← HM.out, HST.out _ _ rfl, if_neg (by simp [hx])])
            have hxn : ((x : Int) != (((⟨#[82, 83, 76, 86, 1]⟩ : ByteArray)[0]'(by decide)).toNat : Nat)) = true := by
              rw [bne_iff_ne]
              show (x : Int) ≠ ((82 : Nat) : Int)
              omega
            have hxe : ((x : Int) == 82) = false := by rw [beq_eq_false_iff_ne]; omega
            clear hx
            go_upto_region 5 with (go_at_call 73; refine HTK.out.mono ?_; rintro e w5 ⟨v5, rfl, hv5, hr5, hf5⟩; have HR5 := Lib.hid hr5; have HF5 := Lib.hid hf5; obtain ⟨b, off, c, rfl, hcell⟩ := one_cell (hv5.below hr5.below); clear hv5 hr5 hf5)
            go_quiet (fail)
            go_wp2
            go_ret
            exact .inr ⟨HNX.out, rfl, (HF.out.trans HF5.out).drewN _⟩
        · by_cases hx : x = 83
          · subst hx
            have HNX : Hid (magicR (magicL.drop (1 + 1)) r2 = magicR magicL r) := Lib.hid (by rw [← HM.out, HST.out _ _ rfl, if_pos (Or.inl rfl)]; rfl)
            go_upto_region 5 with (go_at_call 73; refine HTK.out.mono ?_; rintro e w5 ⟨v5, rfl, hv5, hr5, hf5⟩; have HR5 := Lib.hid hr5; have HF5 := Lib.hid hf5; obtain ⟨b, off, c, rfl, hcell⟩ := one_cell (hv5.below hr5.below); clear hv5 hr5 hf5)
            go_quiet (fail)
            go_wp2
            go_roundw
            case rel => exact ⟨1 + 1, r2, by omega, by go_num, HNX, Lib.hid (HR5.out.up (bdrew0 _ _)), Lib.hid ((HF.out.trans HF5.out).drewN _), HB2⟩
            case measure => simp [intOf]
          · have HNX : Hid (magicR magicL r = none) := Lib.hid (by rw [← HM.out, HST.out _ _ rfl, if_neg (by simp [hx])])
            have hxn : ((x : Int) != (((⟨#[82, 83, 76, 86, 1]⟩ : ByteArray)[1]'(by decide)).toNat : Nat)) = true := by
              rw [bne_iff_ne]
              show (x : Int) ≠ ((83 : Nat) : Int)
              omega
            have hxe : ((x : Int) == 83) = false := by rw [beq_eq_false_iff_ne]; omega
            clear hx
            go_upto_region 5 with (go_at_call 73; refine HTK.out.mono ?_; rintro e w5 ⟨v5, rfl, hv5, hr5, hf5⟩; have HR5 := Lib.hid hr5; have HF5 := Lib.hid hf5; obtain ⟨b, off, c, rfl, hcell⟩ := one_cell (hv5.below hr5.below); clear hv5 hr5 hf5)
            go_quiet (fail)
            go_wp2
            go_ret
            exact .inr ⟨HNX.out, rfl, (HF.out.trans HF5.out).drewN _⟩
        · by_cases hx : x = 76
          · subst hx
            have HNX : Hid (magicR (magicL.drop (2 + 1)) r2 = magicR magicL r) := Lib.hid (by rw [← HM.out, HST.out _ _ rfl, if_pos (Or.inl rfl)]; rfl)
            go_upto_region 5 with (go_at_call 73; refine HTK.out.mono ?_; rintro e w5 ⟨v5, rfl, hv5, hr5, hf5⟩; have HR5 := Lib.hid hr5; have HF5 := Lib.hid hf5; obtain ⟨b, off, c, rfl, hcell⟩ := one_cell (hv5.below hr5.below); clear hv5 hr5 hf5)
            go_quiet (fail)
            go_wp2
            go_roundw
            case rel => exact ⟨2 + 1, r2, by omega, by go_num, HNX, Lib.hid (HR5.out.up (bdrew0 _ _)), Lib.hid ((HF.out.trans HF5.out).drewN _), HB2⟩
            case measure => simp [intOf]
          · have HNX : Hid (magicR magicL r = none) := Lib.hid (by rw [← HM.out, HST.out _ _ rfl, if_neg (by simp [hx])])
            have hxn : ((x : Int) != (((⟨#[82, 83, 76, 86, 1]⟩ : ByteArray)[2]'(by decide)).toNat : Nat)) = true := by
              rw [bne_iff_ne]
              show (x : Int) ≠ ((76 : Nat) : Int)
              omega
            have hxe : ((x : Int) == 76) = false := by rw [beq_eq_false_iff_ne]; omega
            clear hx
            go_upto_region 5 with (go_at_call 73; refine HTK.out.mono ?_; rintro e w5 ⟨v5, rfl, hv5, hr5, hf5⟩; have HR5 := Lib.hid hr5; have HF5 := Lib.hid hf5; obtain ⟨b, off, c, rfl, hcell⟩ := one_cell (hv5.below hr5.below); clear hv5 hr5 hf5)
            go_quiet (fail)
            go_wp2
            go_ret
            exact .inr ⟨HNX.out, rfl, (HF.out.trans HF5.out).drewN _⟩
        · by_cases hx : x = 86
          · subst hx
            have HNX : Hid (magicR (magicL.drop (3 + 1)) r2 = magicR magicL r) := Lib.hid (by rw [← HM.out, HST.out _ _ rfl, if_pos (Or.inl rfl)]; rfl)
            go_upto_region 5 with (go_at_call 73; refine HTK.out.mono ?_; rintro e w5 ⟨v5, rfl, hv5, hr5, hf5⟩; have HR5 := Lib.hid hr5; have HF5 := Lib.hid hf5; obtain ⟨b, off, c, rfl, hcell⟩ := one_cell (hv5.below hr5.below); clear hv5 hr5 hf5)
            go_quiet (fail)
            go_wp2
            go_roundw
            case rel => exact ⟨3 + 1, r2, by omega, by go_num, HNX, Lib.hid (HR5.out.up (bdrew0 _ _)), Lib.hid ((HF.out.trans HF5.out).drewN _), HB2⟩
            case measure => simp [intOf]
          · have HNX : Hid (magicR magicL r = none) := Lib.hid (by rw [← HM.out, HST.out _ _ rfl, if_neg (by simp [hx])])
            have hxn : ((x : Int) != (((⟨#[82, 83, 76, 86, 1]⟩ : ByteArray)[3]'(by decide)).toNat : Nat)) = true := by
              rw [bne_iff_ne]
              show (x : Int) ≠ ((86 : Nat) : Int)
              omega
            have hxe : ((x : Int) == 86) = false := by rw [beq_eq_false_iff_ne]; omega
            clear hx
            go_upto_region 5 with (go_at_call 73; refine HTK.out.mono ?_; rintro e w5 ⟨v5, rfl, hv5, hr5, hf5⟩; have HR5 := Lib.hid hr5; have HF5 := Lib.hid hf5; obtain ⟨b, off, c, rfl, hcell⟩ := one_cell (hv5.below hr5.below); clear hv5 hr5 hf5)
            go_quiet (fail)
            go_wp2
            go_ret
            exact .inr ⟨HNX.out, rfl, (HF.out.trans HF5.out).drewN _⟩
        · by_cases hx : x = 1
          · subst hx
            have HNX : Hid (magicR (magicL.drop (4 + 1)) r2 = magicR magicL r) := Lib.hid (by rw [← HM.out, HST.out _ _ rfl, if_pos (Or.inl rfl)]; rfl)
            go_upto_region 5 with (go_at_call 73; refine HTK.out.mono ?_; rintro e w5 ⟨v5, rfl, hv5, hr5, hf5⟩; have HR5 := Lib.hid hr5; have HF5 := Lib.hid hf5; obtain ⟨b, off, c, rfl, hcell⟩ := one_cell (hv5.below hr5.below); clear hv5 hr5 hf5)
            go_quiet (fail)
            go_wp2
            go_roundw
            case rel => exact ⟨4 + 1, r2, by omega, by go_num, HNX, Lib.hid (HR5.out.up (bdrew0 _ _)), Lib.hid ((HF.out.trans HF5.out).drewN _), HB2⟩
            case measure => simp [intOf]
          · have HNX : Hid (magicR magicL r = none) := Lib.hid (by rw [← HM.out, HST.out _ _ rfl, if_neg (by simp [hx])])
            have hxn : ((x : Int) != (((⟨#[82, 83, 76, 86, 1]⟩ : ByteArray)[4]'(by decide)).toNat : Nat)) = true := by
              rw [bne_iff_ne]
              show (x : Int) ≠ ((1 : Nat) : Int)
              omega
            have hxe : ((x : Int) == 1) = false := by rw [beq_eq_false_iff_ne]; omega
            clear hx
            go_upto_region 5 with (go_at_call 73; refine HTK.out.mono ?_; rintro e w5 ⟨v5, rfl, hv5, hr5, hf5⟩; have HR5 := Lib.hid hr5; have HF5 := Lib.hid hf5; obtain ⟨b, off, c, rfl, hcell⟩ := one_cell (hv5.below hr5.below); clear hv5 hr5 hf5)
            go_quiet (fail)
            go_wp2
            go_ret
            exact .inr ⟨HNX.out, rfl, (HF.out.trans HF5.out).drewN _⟩
    · obtain rfl : k = 5 := by omega
      go_wp2
      go_ret
      exact .inl ⟨r', HM.out.symm, rfl, HR.out, HF.out, HB.out⟩

end Go.Proofs.YtfknoecgcoapcaaDoor
