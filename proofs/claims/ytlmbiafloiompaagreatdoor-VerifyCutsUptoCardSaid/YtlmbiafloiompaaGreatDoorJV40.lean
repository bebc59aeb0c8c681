/-
  The program's Index of Funs, place (of names and Funs), pred, full: what comes into the maker's tables. Condition: at most a million rows.
-/
import Derived.Test.YtlmbiafloiompaaGreatDoorJV39
import Derived.Deep.RegionLaw
import Derived.Deep.RegionHeld3
namespace Go.Proofs.YtlmbiafloiompaaGreatDoor
open Go Go.RowKit Go.WideShapes Go.ChangeShapes
set_option linter.unusedVariables false
set_option linter.unusedSimpArgs false

set_option maxHeartbeats 2000000 in
theorem indexFun_any (l : List (ByteArray × Int)) (hm : l.length ≤ 1000000) (v : Value) (x : ByteArray) (n : Int) (w : World) (hv : FunsAt w v l) :
    Calls Tryz.prog 140 #[v, .agg #[.string x, .int .i64 n]] w fun e w' => e = .returned (.int .i64 (idxI l (x, n))) ∧ Below w.heap.size w w' := by
  obtain ⟨A, c, rfl⟩ := CellsAt.form hv
  have HV := Lib.hid hv
  have HY := Lib.hid (fun k hk h hx => idxI_hit (l := l) (x := (x, n)) (k := k) hk h hx)
  have HM := Lib.hid (fun h => idxI_miss (l := l) (x := (x, n)) h)
  have B0 := Lib.hid (alloc_below w (.cells #[.string x, .int .i64 n] 61))
  have X0 := Lib.hid (Box.new w 61 #[.string x, .int .i64 n])
  generalize idxI l (x, n) = r at HY HM
  clear hv
  go_enter Tryz.func140, Tryz.ntmps140
  go_wp2
  go_loopw [5, 8] (fun _ i wr => ∃ k : Nat, k ≤ l.length ∧ i = .int .i64 k ∧ Hid (∀ j (hj : j < l.length), j < k → l[j] ≠ (x, n)) ∧ Hid (Below w.heap.size w wr) ∧ Hid (Box wr w.heap.size 61 #[.string x, .int .i64 n])) (fun _ i _ => l.length - (intOf i).toNat)
  case atStart => exact ⟨0, by omega, rfl, Lib.hid (fun j hj h => absurd h (by omega)), B0, X0⟩
  case round =>
    obtain ⟨k, hk, rfl, HN, HB, HX⟩ := hrel
    clear B0 X0
    have c0 := HX.out.cell 0
    have c1 := HX.out.cell 1
    by_cases hlt : k < l.length
    · obtain ⟨b, off, rfl, hb, hc0, hc1⟩ := funCell HV.out k hlt
      have d0 := (HB.out.cell (p := ⟨b, off + k * 2, none⟩) hb).trans hc0
      have d1 := (HB.out.cell (p := ⟨b, off + k * 2 + 1, none⟩) hb).trans hc1
      have i1 : (k : Int) < (l.length : Int) := by omega
      have i2 : (0 : Int) ≤ (k : Int) := by omega
      clear hc0 hc1
      by_cases he : l[k] = (x, n)
      · have HZ := Lib.hid (HY.out k hlt HN.out he)
        have e1 : (x.toList = l[k].1.toList) = True := by rw [he]; simp
        have e2 : (n = l[k].2) = True := by rw [he]; simp
        generalize l[k].1 = y at d0 e1
        generalize l[k].2 = m at d1 e2
        clear he
        go_upto_region 4 with (fail)
        go_quiet (fail)
        go_wp2
        go_ret
        exact ⟨by rw [HZ.out]; rfl, bel_drewN HB.out _⟩
      · have HN2 : Hid (∀ j (hj : j < l.length), j < k + 1 → l[j] ≠ (x, n)) := Lib.hid (fun j hj h => by
          by_cases hjk : j < k
          · exact HN.out j hj hjk
          · obtain rfl : j = k := by omega
            exact he)
        have hne : ¬ (x = l[k].1 ∧ n = l[k].2) := fun e => he (Prod.ext e.1.symm e.2.symm)
        by_cases h1 : x = l[k].1
        · have e1 : (x.toList = l[k].1.toList) = True := by rw [h1]; simp
          have e2 : (n = l[k].2) = False := by simpa using fun e => hne ⟨h1, e⟩
          generalize l[k].1 = y at d0 e1
          generalize l[k].2 = m at d1 e2
          clear he hne h1
          go_upto_region 4 with (fail)
          go_quiet (fail)
          go_wp2
          go_roundw
          case rel => exact ⟨k + 1, by omega, by go_num, HN2, Lib.hid (bel_drewN HB.out _), Lib.hid (HX.out.drewN _)⟩
          case measure => simp [intOf]; omega
        · have e1 : (x.toList = l[k].1.toList) = False := by
            have := ne_strs h1
            simpa using this
          generalize l[k].1 = y at d0 e1
          generalize l[k].2 = m at d1
          clear he hne h1
          go_upto_region 4 with (fail)
          go_quiet (fail)
          go_wp2
          go_roundw
          case rel => exact ⟨k + 1, by omega, by go_num, HN2, Lib.hid (bel_drewN HB.out _), Lib.hid (HX.out.drewN _)⟩
          case measure => simp [intOf]; omega
    · obtain rfl : k = l.length := by omega
      have HZ := Lib.hid (HM.out (fun j hj => HN.out j hj (by omega)))
      go_wp2
      go_ret
      exact ⟨by rw [HZ.out]; rfl, HB.out⟩

/-- A name comes into the table of names. -/
theorem placeStr_any (w0 : World) (g M : Nat) (va vf vp vc vq : Value) (s : St) (x : ByteArray) (hl : s.ob.atoms.length ≤ 1000000) (w : World) (hk : Mk w0 w g M va vf vp vc vq s) :
    Calls Tryz.prog 108 #[.pointer (some ⟨g, 0, none⟩), .string x] w fun e w' => ∃ va', e = .returned (.int .i64 (placeOf s.ob.atoms x : Nat)) ∧ Mk w0 w' g M va' vf vp vc vq { s with ob := { s.ob with atoms := addTo s.ob.atoms x } } ∧ MkF w w' g M va vf vp vc vq va' vf vp vc vq := by
  have HK := Lib.hid hk
  have c0 := hk.box.cell 0
  have HI := Lib.hid (indexStr_any s.ob.atoms hl va x w hk.at_.atoms)
  by_cases hx : x ∈ s.ob.atoms
  · have hi : idxI s.ob.atoms x = (placeOf s.ob.atoms x : Nat) := if_pos hx
    rw [hi] at HI
    have HE : Hid (({ s with ob := { s.ob with atoms := addTo s.ob.atoms x } } : St) = s) := Lib.hid (by rw [addTo_yes hx])
    generalize placeOf s.ob.atoms x = n at HI
    clear hx hi hk
    go_enter Tryz.func108, Tryz.ntmps108
    go_wp2_with (go_at_call 139; refine HI.out.mono ?_; rintro e w2 ⟨rfl, rfl⟩)
    go_ret
    exact ⟨va, rfl, by rw [HE.out]; exact HK.out, MkF.below (Below.refl _ _)⟩
  · have hi : idxI s.ob.atoms x = -1 := if_neg hx
    rw [hi] at HI
    have HE : Hid (({ s with ob := { s.ob with atoms := addTo s.ob.atoms x } } : St) = { s with ob := { s.ob with atoms := s.ob.atoms ++ [x] } }) := Lib.hid (by rw [addTo_no hx])
    have HP := Lib.hid (place_miss _ _ hx)
    obtain ⟨A, c, hva, _⟩ := own_form hk.ra
    subst hva
    have c0a := fun oo => (hk.box.alloc oo).cell 0
    obtain ⟨v6, w6, hr6, HA6⟩ := app_one slStr hk.ra [.string x] rfl (by intro u hu; simp only [List.mem_cons, List.not_mem_nil, or_false] at hu; rcases hu with rfl; rfl) hl hk.below.size 22
    obtain ⟨A6, c6, hv6⟩ := HA6.out.form
    subst hv6
    obtain ⟨hT6, z0, z1⟩ := hk.puta HA6.out
    have HT6 := Lib.hid hT6
    have HF6 := Lib.hid (MkF.puta (g := g) (M := M) (vf := vf) (vp := vp) (vc := vc) (vq := vq) HA6.out)
    have HR6 := Lib.hid hr6
    clear hx hi hk hr6 hT6 HA6
    go_enter Tryz.func108, Tryz.ntmps108
    go_wp2_with (first
      | (go_at_call 139; refine HI.out.mono ?_; rintro e w2 ⟨rfl, rfl⟩)
      | (at_builtin; refine wpList_of_append HR6.out rfl _ _ rfl rfl rfl ?_))
    go_ret
    exact ⟨_, by rw [HP.out]; rfl, by rw [HE.out]; exact HT6.out, HF6.out⟩

end Go.Proofs.YtlmbiafloiompaaGreatDoor
