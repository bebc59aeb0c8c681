/-
  The program's checkEnd: what is left behind the last instruction.
-/
import Derived.Test.YtfknoecgcoapcaaDoorObjP
namespace Go.Proofs.YtfknoecgcoapcaaDoor
open Go Go.RowKit Go.WideShapes Go.ChangeShapes
set_option linter.unusedVariables false
set_option linter.unusedSimpArgs false

theorem BysIn.lens {w : World} {A : Option Addr} {n c : Nat} {l : List Nat} (h : BysIn w (.slice A n c) l) (hl : 0 < l.length) :
    n = l.length ∧ l.length ≤ c ∧ ∃ b off, A = some ⟨b, off, none⟩ ∧ c ≤ 9223372036854775807 ∧ b < w.heap.size ∧ ∀ k, k < l.length → w.cell? ⟨b, off + k, none⟩ = some (.int .u8 ((l.getD k 0 : Nat) : Int)) := by
  rcases h with ⟨rfl, _⟩ | ⟨b, off, c', he, h1, h2, h3, hc⟩
  · simp at hl
  · injection he with e1 e2 e3
    subst e1 e2 e3
    exact ⟨rfl, h1, b, off, rfl, h2, h3, hc⟩

theorem bdrew1 (W : World) : Below W.heap.size W W.drew := ⟨rfl, rfl, rfl, Nat.le_refl _, fun _ _ => rfl⟩

theorem parts_one {w : World} {g : Nat} {v : Value} {l : List Nat} (hb : Box w g 38 #[v]) (hv : BysAt w v l) : PartsAt w (.slice (some ⟨g, 0, none⟩) 1 1) [l] :=
  .inr ⟨g, 0, 1, rfl, fun j hj => by
    obtain rfl : j = 0 := by simpa using hj
    exact ⟨v, hb.cell 0, hv⟩⟩

theorem sumOne_any (l : List Nat) (hl : ∀ c ∈ l, c < 256) (hm : l.length ≤ 1000000) (g : Nat) (v : Value) (w : World) (hb : Box w g 38 #[v]) (hv : BysAt w v l) :
    Calls Tryd.prog 26 #[.slice (some ⟨g, 0, none⟩) 1 1] w fun e w' => e = .returned (.int .u32 (crcOf 0 l)) ∧ w = w' := by
  have h := sum_any [l] (fun x hx => by obtain rfl := List.mem_singleton.1 hx; exact ⟨hl, by omega⟩) (by simp) _ w (parts_one hb hv)
  rw [show [l].flatten = l by simp] at h
  exact h

set_option maxRecDepth 100000 in
set_option maxHeartbeats 8000000 in
theorem checkEnd_any (l : List Nat) (hl : ∀ c ∈ l, c < 256) (hm : l.length ≤ 1000000) (left : Nat) (hle : left ≤ l.length) (v : Value) (w : World) (hv : BysIn w v l) :
    Calls Tryd.prog 47 #[v, .int .i64 left] w fun e w' => e = .returned (.int .i64 (endErr l left)) ∧ Below w.heap.size w w' := by
  have HE : Hid (endErr l left = if left < 4 then 3 else if 4 < left then 4 else if valL (l.drop (l.length - 4)) = crcOf 0 (l.take (l.length - 4)) then 0 else 6) := Lib.hid rfl
  generalize endErr l left = ee at HE
  obtain ⟨A, c, rfl⟩ := hv.form
  by_cases h1 : left < 4
  · have h1' : (left : Int) < 4 := by omega
    have HX : Hid (ee = 3) := Lib.hid (by rw [HE.out, if_pos h1])
    go_enter Tryd.func47, Tryd.ntmps47
    go_wp2
    go_ret
    exact ⟨by rw [HX.out]; rfl, Below.refl _ _⟩
  · by_cases h2 : 4 < left
    · have h2' : 4 < (left : Int) := by omega
      have HX : Hid (ee = 4) := Lib.hid (by rw [HE.out, if_neg h1, if_pos h2])
      clear h1 h2
      go_enter Tryd.func47, Tryd.ntmps47
      go_wp2
      go_ret
      exact ⟨by rw [HX.out]; rfl, Below.refl _ _⟩
    · obtain rfl : left = 4 := by omega
      have HX : Hid (ee = if valL (l.drop (l.length - 4)) = crcOf 0 (l.take (l.length - 4)) then 0 else 6) := Lib.hid (by rw [HE.out, if_neg h1, if_neg h2])
      obtain ⟨_, hlc, b, off, rfl, hc9, hbw, hcell⟩ := hv.lens (by omega)
      obtain ⟨en, hen⟩ : ∃ en, l.length - 4 = en := ⟨_, rfl⟩
      have hln : l.length = en + 4 := by omega
      rw [hen] at HX
      have k1 : (l.length : Int) - 4 = (en : Int) := by omega
      have k2 : (en : Int) ≤ (l.length : Int) := by omega
      have k3 : (en : Int) ≤ (c : Int) := by omega
      have k4 : (c == en) = false := by rw [beq_eq_false_iff_ne]; omega
      have k5 : ¬ c = en := by omega
      have k6 : l.length - en = 4 := by omega
      have hdl : (l.drop en).length = 4 := by rw [List.length_drop]; omega
      have HR : Hid (RdAt w (w.alloc (.cells #[.slice (some ⟨b, off + en, none⟩) 4 (c - en), .bool false] 92)) w.heap.size ⟨l.drop en, false⟩) := Lib.hid
        ⟨⟨_, Box.new w _ _, .inr ⟨b, off + en, c - en, by rw [hdl], by rw [hdl]; omega, by omega, hbw, fun k hk => by
          rw [hdl] at hk
          rw [show off + en + k = off + (en + k) by omega, hcell (en + k) (by omega)]
          congr 3
          rw [List.getD_eq_getElem?_getD, List.getD_eq_getElem?_getD, List.getElem?_drop]⟩⟩, Nat.le_refl _, alloc_below w _⟩
      have HTK : Hid (BysIn w (.slice (some ⟨b, off, none⟩) en c) (l.take en)) := Lib.hid (.inr ⟨b, off, c, by rw [List.length_take, Nat.min_eq_left (by omega)], by rw [List.length_take]; omega, hc9, hbw, fun k hk => by
        rw [List.length_take] at hk
        rw [hcell k (by omega)]
        congr 3
        rw [List.getD_eq_getElem?_getD, List.getD_eq_getElem?_getD, List.getElem?_take, if_pos (by omega)]⟩)
      have hbd : ∀ c ∈ (⟨l.drop en, false⟩ : Rd).rest, c < 256 := fun c hc => hl c (List.mem_of_mem_drop hc)
      have hnum : numR 4 ⟨l.drop en, false⟩ = (valL (l.drop en), ⟨[], false⟩) := by
        unfold numR
        rw [take_full rfl (by show 4 ≤ (l.drop en).length; omega)]
        show (valL ((l.drop en).take 4), _) = _
        rw [List.take_of_length_le (by omega)]
        rw [show (⟨l.drop en, false⟩ : Rd).rest = l.drop en from rfl, List.drop_of_length_le (show (l.drop en).length ≤ 4 by omega)]
      have HNM := Lib.hid (fun (w' : World) h => number_any 4 (by omega) ⟨l.drop en, false⟩ hbd w.heap.size w w' h)
      unfold Read at HNM
      rw [hnum] at HNM
      have HNM : Hid (∀ w' : World, RdAt w w' w.heap.size ⟨l.drop en, false⟩ → Calls Tryd.prog 66 #[.pointer (some ⟨w.heap.size, 0, none⟩), .int .i64 4] w' fun e w6 => e = .returned (.int .i64 (valL (l.drop en) : Nat)) ∧ RdAt w w6 w.heap.size ⟨[], false⟩ ∧ Fr (fun b => b = w.heap.size) w' w6) := Lib.hid (fun w' h => HNM.out w' h)
      have htl : ∀ c ∈ l.take en, c < 256 := fun c hc => hl c (List.mem_of_mem_take hc)
      have htn : (l.take en).length ≤ 1000000 := by rw [List.length_take]; omega
      have HSM := Lib.hid (fun (g : Nat) (w' : World) hb hv => sumOne_any (l.take en) htl htn g (.slice (some ⟨b, off, none⟩) en c) w' hb hv)
      have hy32 := crcOf_lt (s := 0) (by omega) htl
      generalize valL (l.drop en) = x at HNM HX
      generalize crcOf 0 (l.take en) = y at HSM HX hy32
      have hw2 : IntKind.i64.wrap (y : Int) = (y : Int) := by rw [IntKind.wrap_i64]; omega
      have hw3 : wrap64 (y : Int) = (y : Int) := by unfold wrap64; omega
      clear hv hcell hnum htl htn hbd hen HE h1 h2 hm hl
      go_enter Tryd.func47, Tryd.ntmps47
      go_upto_region 7 with (fail)
      obtain ⟨w1, hw1⟩ : ∃ w1, w.alloc (.cells #[.slice (some ⟨b, off + en, none⟩) 4 (c - en), .bool false] 92) = w1 := ⟨_, rfl⟩
      rw [hw1] at HR ⊢
      obtain ⟨g, hg⟩ : ∃ g, w.heap.size = g := ⟨_, rfl⟩
      rw [hg] at HR HNM ⊢
      have HG := Lib.hid hg
      have HNG : Hid (¬ w1.heap.size = g) := Lib.hid (fun e => by obtain ⟨v, hb, _⟩ := HR.out.box; have := hb.lt; omega)
      clear hw1 hg
      by_cases hxy : x = y
      · have HX2 : Hid (ee = 0) := Lib.hid (by rw [HX.out, if_pos hxy])
        have hne : ((x : Int) != (y : Int)) = false := by rw [hxy]; simp
        have hne4 : ((x : Int) != IntKind.i64.wrap (y : Int)) = false := by rw [hw2]; exact hne
        have hne2 : ((x : Int) == (y : Int)) = true := by rw [hxy]; simp
        clear hxy
        go_region_law
          (first
            | (go_simp; go_at_call 66; (with_reducible refine (HNM.out w1.drew (HR.out.up (bdrew1 w1))).mono ?_); rintro e w5 ⟨rfl, hr5, hf5⟩; have HB5 := Lib.hid hr5.below; have HS := Lib.hid (HSM.out w5.heap.size (w5.alloc (.cells #[.slice (some ⟨b, off, none⟩) en c] 38)) (Box.new w5 _ _) (HTK.out.below (HB5.out.alloc HB5.out.size _)).bys); clear hr5 hf5)
            | (go_simp; go_at_call 66; (with_reducible refine (HNM.out (w1.alloc (.cells #[.slice (some ⟨b, off, none⟩) en c] 38)).drew ((HR.out.up (alloc_below w1 _)).up (bdrew1 _))).mono ?_); rintro e w5 ⟨rfl, hr5, hf5⟩; have HB5 := Lib.hid hr5.below; have HS := Lib.hid (HSM.out w1.heap.size w5 (Box.fr (Box.new w1 38 #[.slice (some ⟨b, off, none⟩) en c]).drew hf5 HNG.out) (HTK.out.below HB5.out).bys); clear hr5 hf5)
            | (go_simp; go_at_call 26; refine HS.out.mono ?_; rintro e w6 ⟨rfl, rfl⟩))
        all_goals
          go_wp2
          go_ret
          exact ⟨by rw [HX2.out]; rfl, by first | exact HB5.out | exact HB5.out.alloc HB5.out.size _⟩
      · have HX2 : Hid (ee = 6) := Lib.hid (by rw [HX.out, if_neg hxy])
        have hne : ((x : Int) != (y : Int)) = true := by rw [bne_iff_ne]; omega
        have hne4 : ((x : Int) != IntKind.i64.wrap (y : Int)) = true := by rw [hw2]; exact hne
        have hne2 : ((x : Int) == (y : Int)) = false := by rw [beq_eq_false_iff_ne]; omega
        clear hxy
        go_region_law
          (first
            | (go_simp; go_at_call 66; (with_reducible refine (HNM.out w1.drew (HR.out.up (bdrew1 w1))).mono ?_); rintro e w5 ⟨rfl, hr5, hf5⟩; have HB5 := Lib.hid hr5.below; have HS := Lib.hid (HSM.out w5.heap.size (w5.alloc (.cells #[.slice (some ⟨b, off, none⟩) en c] 38)) (Box.new w5 _ _) (HTK.out.below (HB5.out.alloc HB5.out.size _)).bys); clear hr5 hf5)
            | (go_simp; go_at_call 66; (with_reducible refine (HNM.out (w1.alloc (.cells #[.slice (some ⟨b, off, none⟩) en c] 38)).drew ((HR.out.up (alloc_below w1 _)).up (bdrew1 _))).mono ?_); rintro e w5 ⟨rfl, hr5, hf5⟩; have HB5 := Lib.hid hr5.below; have HS := Lib.hid (HSM.out w1.heap.size w5 (Box.fr (Box.new w1 38 #[.slice (some ⟨b, off, none⟩) en c]).drew hf5 HNG.out) (HTK.out.below HB5.out).bys); clear hr5 hf5)
            | (go_simp; go_at_call 26; refine HS.out.mono ?_; rintro e w6 ⟨rfl, rfl⟩))
        all_goals
          go_wp2
          go_ret
          exact ⟨by rw [HX2.out]; rfl, by first | exact HB5.out | exact HB5.out.alloc HB5.out.size _⟩

end Go.Proofs.YtfknoecgcoapcaaDoor
