/-
  The statement's told: the empty object is told by its bytes; a byte less or more is told as wrong. Condition: the world holds the names of the instructions.
-/
import Derived.Test.YtfknoecgcoapcaaDoorObjR
namespace Go.Proofs.YtfknoecgcoapcaaDoor
open Go Go.RowKit Go.WideShapes Go.ChangeShapes
set_option linter.unusedVariables false
set_option linter.unusedSimpArgs false

def l17 : List Nat := [82, 83, 76, 86, 1, 0, 0, 0, 0, 0, 0, 0, 0, 82, 100, 37, 32]
theorem enc_empty : checkOf emptyOb = 0 ∧ encodeOf emptyOb = l17 := by decide +kernel
theorem dec_empty : (decodeOf l17).2 = 0 ∧ (decodeOf l17).1.code.length = 0 ∧ (decodeOf (l17.take 16)).2 = 3 ∧ (decodeOf (l17 ++ [0])).2 = 4 := by decide +kernel
theorem l17_lt : ∀ c ∈ l17, c < 256 := by decide

theorem Strict.in_ {w : World} {base : Nat} {v : Value} {l : List Nat} (h : Strict w base v l) (hl : 0 < l.length) :
    ∃ g c, v = .slice (some ⟨g, 0, none⟩) l.length c ∧ l.length ≤ c ∧ c ≤ 9223372036854775807 ∧ base ≤ g ∧ g < w.heap.size ∧ ∀ k, k < l.length → w.cell? ⟨g, 0 + k, none⟩ = some (.int .u8 ((l.getD k 0 : Nat) : Int)) := by
  have hb := Row.bys (.inl h)
  rcases h.2 with ⟨_, h0⟩ | ⟨g, cap, cur, rfl, hb2, hg, h2, h3, _⟩
  · omega
  · refine ⟨g, cap, rfl, h2, by unfold maxLen at h3; omega, hb2, (Array.getElem?_eq_some_iff.1 hg).1, fun k hk => ?_⟩
    rw [Nat.zero_add, World.ownsRow.cellAt (g := g) h k (by omega)]
    simp [bysV, List.getD_eq_getElem?_getD, hk]
theorem in_take {w : World} {g c : Nat} {l : List Nat} (n : Nat) (hn : n ≤ l.length) (hc : l.length ≤ c) (hm : c ≤ 9223372036854775807) (hg : g < w.heap.size) (h : ∀ k, k < l.length → w.cell? ⟨g, 0 + k, none⟩ = some (.int .u8 ((l.getD k 0 : Nat) : Int))) :
    BysIn w (.slice (some ⟨g, 0, none⟩) n c) (l.take n) := by
  have hl : (l.take n).length = n := by rw [List.length_take]; omega
  refine .inr ⟨g, 0, c, by rw [hl], by omega, hm, hg, fun k hk => ?_⟩
  rw [hl] at hk
  rw [h k (by omega)]
  congr 3
  rw [List.getD_eq_getElem?_getD, List.getD_eq_getElem?_getD, List.getElem?_take, if_pos (by omega)]

theorem wf_empty : ObWf emptyOb := ⟨by simp [emptyOb], by simp [emptyOb], by simp [emptyOb], by simp [emptyOb], by simp [emptyOb], by simp [emptyOb], by simp [emptyOb]⟩

set_option maxRecDepth 100000 in
set_option maxHeartbeats 8000000 in
theorem told_any (w : World) (hw : NamesAt w) :
    Calls Tryd.prog 8 #[] w fun e w' => e = .returned (.bool true) ∧ Below w.heap.size w w' := by
  have HE := encode_any emptyOb wf_empty _ _ _ _ w hw (empty_at w)
  rw [enc_empty.1, enc_empty.2] at HE
  have HEN := Lib.hid HE
  have HW := Lib.hid hw
  have HDC := Lib.hid (fun (l : List Nat) hl hm v (w' : World) hw hv => decode_any l hl hm v w' hw hv)
  have h17 : l17.length = 17 := rfl
  have HL := Lib.hid h17
  clear HE hw h17
  go_enter Tryd.func8, Tryd.ntmps8
  go_upto_region 2 with (go_at_call 10; refine HEN.out.mono ?_; rintro e w5 ⟨v5, rfl, hs5, hb5⟩; obtain ⟨g, c, hv5, hc1, hc2, hg1, hg2, hcell⟩ := hs5.in_ (by rw [HL.out]; omega); rw [HL.out] at hv5 hc1; subst hv5; have HS5 := Lib.hid hs5; have HB5 := Lib.hid hb5; have HC5 := Lib.hid hcell; clear hs5 hb5 hcell)
  have hcv : (convert 38 9 (.slice (some ⟨g, 0, none⟩) 5 c)).run Tryd.prog w5 = .ok (.string ⟨#[82, 83, 76, 86, 1]⟩) w5 := conv_str (in_take (l := l17) 5 (by rw [HL.out]; omega) (by rw [HL.out]; exact hc1) hc2 hg2 HC5.out) (fun c hc => l17_lt c (List.mem_of_mem_take hc))
  have k1 : (5 : Int) ≤ (c : Int) := by omega
  have k2 : (16 : Int) ≤ (c : Int) := by omega
  have k3 : 5 ≤ c := by omega
  have k4 : 16 ≤ c := by omega
  have HIN := Lib.hid (in_take (l := l17) 17 (by rw [HL.out]; omega) (by rw [HL.out]; exact hc1) hc2 hg2 HC5.out)
  have HI16 := Lib.hid (in_take (l := l17) 16 (by rw [HL.out]; omega) (by rw [HL.out]; exact hc1) hc2 hg2 HC5.out)
  go_upto_region 4 with (fail)
  clear hcv
  have HD1 := Lib.hid (HDC.out l17 l17_lt (by rw [HL.out]; omega) (.slice (some ⟨g, 0, none⟩) 17 c) w5 (HW.out.below HB5.out HW.out.lt) HIN.out)
  unfold Decoded at HD1
  go_upto_region 5 with (go_at_call 18; refine HD1.out.mono ?_; rintro e w6 ⟨va, vf, vp, vc, rfl, ho6, hb6⟩; rw [dec_empty.1]; obtain ⟨Aa, ca, rfl⟩ := CellsAt.form ho6.atoms; obtain ⟨Af, cf, rfl⟩ := CellsAt.form ho6.funs; obtain ⟨Ap, cp, rfl⟩ := CellsAt.form ho6.preds; obtain ⟨Ac, cc, rfl⟩ := CellsAt.form ho6.code; rw [dec_empty.2.1]; have HB6 := Lib.hid hb6; clear ho6 hb6)
  generalize (decodeOf l17).1.atoms.length = na
  generalize (decodeOf l17).1.funs.length = nf
  generalize (decodeOf l17).1.preds.length = np
  have HBX : Hid (Box (w6.alloc (.cells #[.slice Aa na ca, .slice Af nf cf, .slice Ap np cp, .slice Ac 0 cc] 36)) w6.heap.size 36 #[.slice Aa na ca, .slice Af nf cf, .slice Ap np cp, .slice Ac 0 cc]) := Lib.hid (Box.new _ _ _)
  have HB7 := Lib.hid (HB6.out.alloc HB6.out.size (.cells #[.slice Aa na ca, .slice Af nf cf, .slice Ap np cp, .slice Ac 0 cc] 36))
  obtain ⟨w7, hw7⟩ : ∃ w7, w6.alloc (.cells #[.slice Aa na ca, .slice Af nf cf, .slice Ap np cp, .slice Ac 0 cc] 36) = w7 := ⟨_, rfl⟩
  rw [hw7] at HBX HB7 ⊢
  obtain ⟨g6, hg6⟩ : ∃ g6, w6.heap.size = g6 := ⟨_, rfl⟩
  rw [hg6] at HBX ⊢
  clear hw7 hg6 HB6 HD1
  have HBE7 := Lib.hid (HB5.out.trans (HB7.out.mono HB5.out.size))
  have HD2 := Lib.hid (HDC.out (l17.take 16) (fun c hc => l17_lt c (List.mem_of_mem_take hc)) (by rw [List.length_take, HL.out]; omega) (.slice (some ⟨g, 0, none⟩) 16 c) w7 (HW.out.below HBE7.out HW.out.lt) (HI16.out.below HB7.out))
  unfold Decoded at HD2
  go_upto_region 6 with (go_at_call 18; refine HD2.out.mono ?_; rintro e w8 ⟨va, vf, vp, vc, rfl, ho8, hb8⟩; rw [dec_empty.2.2.1]; obtain ⟨Aa2, ca2, rfl⟩ := CellsAt.form ho8.atoms; obtain ⟨Af2, cf2, rfl⟩ := CellsAt.form ho8.funs; obtain ⟨Ap2, cp2, rfl⟩ := CellsAt.form ho8.preds; obtain ⟨Ac2, cc2, rfl⟩ := CellsAt.form ho8.code; have HB8 := Lib.hid hb8; clear ho8 hb8)
  generalize (decodeOf (l17.take 16)).1.atoms.length = na2
  generalize (decodeOf (l17.take 16)).1.funs.length = nf2
  generalize (decodeOf (l17.take 16)).1.preds.length = np2
  generalize (decodeOf (l17.take 16)).1.code.length = nc2
  have HB9 := Lib.hid (HB8.out.alloc HB8.out.size (.cells #[.slice Aa2 na2 ca2, .slice Af2 nf2 cf2, .slice Ap2 np2 cp2, .slice Ac2 nc2 cc2] 36))
  obtain ⟨w9, hw9⟩ : ∃ w9, w8.alloc (.cells #[.slice Aa2 na2 ca2, .slice Af2 nf2 cf2, .slice Ap2 np2 cp2, .slice Ac2 nc2 cc2] 36) = w9 := ⟨_, rfl⟩
  rw [hw9] at HB9 ⊢
  clear hw9 HB8 HD2
  have HBX9 := Lib.hid (HBX.out.below HB9.out HBX.out.lt)
  have HBE9 := Lib.hid (HBE7.out.trans (HB9.out.mono HBE7.out.size))
  have HS9 : Hid (Strict w9 w.heap.size (.slice (some ⟨g, 0, none⟩) 17 c) l17) := Lib.hid (own_fr (S := fun _ => False) (own_fr (S := fun _ => False) HS5.out (Fr.of_below HB7.out) (fun _ _ x => x)) (Fr.of_below HB9.out) (fun _ _ x => x))
  obtain ⟨v10, w10, hr10, HA10⟩ := app_byte (.inl HS9.out) 0 (by rw [HL.out]; omega) HBE9.out.size 38
  have hlen18 : (l17 ++ [0]).length = 18 := rfl
  obtain ⟨g2, c2, hv10, hc10, hc11, hg10, hg11, hcell10⟩ := HA10.out.2.in_ (by rw [hlen18]; omega)
  rw [hlen18] at hv10 hc10
  subst hv10
  have hne : (Value.slice (some ⟨g, 0, none⟩) 17 c).ownBlock ≠ some g6 := fun e => by
    have e2 : g = g6 := by simpa [Value.ownBlock] using e
    subst e2
    exact absurd (own_ne_box_of HS9.out HBX9.out rfl) (by decide)
  have HBX10 := Lib.hid (HBX9.out.fr HA10.out.1.fr hne)
  have HBE10 := Lib.hid (HBE9.out.trans (HA10.out.1.below (.inl HS9.out) HBE9.out.size))
  have hi10 := in_take (l := l17 ++ [0]) 18 (by rw [hlen18]; omega) (by rw [hlen18]; exact hc10) hc11 hg11 hcell10
  rw [List.take_of_length_le (by rw [hlen18]; omega)] at hi10
  have HD3 := Lib.hid (HDC.out (l17 ++ [0]) (by decide) (by rw [hlen18]; omega) (.slice (some ⟨g2, 0, none⟩) 18 c2) w10 (HW.out.below HBE10.out HW.out.lt) hi10)
  unfold Decoded at HD3
  have HR10 := Lib.hid hr10
  clear hr10 hi10 hcell10
  go_upto_region 7 with (first
    | (at_builtin; refine wpList_of_append HR10.out rfl _ _ rfl rfl rfl ?_)
    | (go_at_call 18; refine HD3.out.mono ?_; rintro e w11 ⟨va, vf, vp, vc, rfl, ho11, hb11⟩; rw [dec_empty.2.2.2]; obtain ⟨Aa3, ca3, rfl⟩ := CellsAt.form ho11.atoms; obtain ⟨Af3, cf3, rfl⟩ := CellsAt.form ho11.funs; obtain ⟨Ap3, cp3, rfl⟩ := CellsAt.form ho11.preds; obtain ⟨Ac3, cc3, rfl⟩ := CellsAt.form ho11.code; have HB11 := Lib.hid hb11; clear ho11 hb11))
  have x3 := ((HBX10.out.below HB11.out HBX10.out.lt).alloc (.cells #[.slice Aa3 (decodeOf (l17 ++ [0])).1.atoms.length ca3, .slice Af3 (decodeOf (l17 ++ [0])).1.funs.length cf3, .slice Ap3 (decodeOf (l17 ++ [0])).1.preds.length cp3, .slice Ac3 (decodeOf (l17 ++ [0])).1.code.length cc3] 36)).cell 3
  go_wp2
  go_ret
  exact ⟨rfl, (HBE10.out.trans (HB11.out.mono HBE10.out.size)).alloc (Nat.le_trans HBE10.out.size HB11.out.size) _⟩

end Go.Proofs.YtfknoecgcoapcaaDoor
