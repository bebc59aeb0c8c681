/-
  Proved: 'Rows.AreaNewsSaid': for every number the statement AreaNews of the landed package area returns true. No condition beyond the row's own.
-/
import Derived.Test.YtakbahnmlkphcaaRows
import Derived.Test.YtakbahnmlkphcaaAreaThree
import Derived.OpenShut
namespace Go.Proofs.Ytakbahnmlkphcaa
open Go.ChangeShapes Go.WideShapes Go.ChangeAt Go.RowKit
set_option linter.unusedVariables false

theorem ownTry : ownKnob Try.prog.godebug = none := by kernel_rfl

/-- Two words pushed where there is room for one. -/
theorem told_yes (w : World) : Calls Try.prog 6 #[] w fun e w' => e = .returned (.bool true) ∧ Below w.heap.size w w' := by
  have hAr := Ar.new w (Nat.le_refl w.heap.size) 1
  go_enter Try.func6, Try.ntmps6
  go_wp2_with fail
  refine (new_ok 1 _ (by omega) (by omega)).mono ?_
  rintro e w' ⟨rfl, rfl⟩
  go_wp2_with fail
  refine (push_yes (c := 8) hAr (by simp) (by omega) (by decide) (by decide)).mono ?_
  rintro e w1 ⟨rfl, v1, h1, f1⟩
  replace h1 : Ar w1 w.heap.size w.heap.size v1 [8] 1 := h1
  have b1 : Below w.heap.size w w1 := ((Below.refl _ w).alloc (Nat.le_refl _) _).trans (f1.below (B := w.heap.size) (by simp) (fun k hk => by
    rcases hk with rfl | hk
    · exact Nat.le_refl _
    · simp [Value.ownBlock] at hk))
  go_wp2_with fail
  refine (push_no (c := 16) h1 (by simp) (by omega) (by decide) (.inl (by simp))).mono ?_
  rintro e w2 ⟨rfl, n2, rfl⟩
  go_wp2_with fail
  refine (top_ar (h1.drewN n2)).mono ?_
  rintro e w2 ⟨rfl, rfl⟩
  go_wp2_with fail
  refine (cut_yes (k := 0) (h1.drewN n2) (by simp) (by simp)).mono ?_
  rintro e w3 ⟨rfl, v3, h3, f3⟩
  replace h3 : Ar w3 w.heap.size w.heap.size v3 [] 1 := h3
  have b3 : Below w.heap.size w w3 := (below_drewN b1 n2).trans (f3.below (B := w.heap.size) b1.size (fun k hk => by
    rcases hk with rfl | hk
    · exact Nat.le_refl _
    · exact (h1.2.2.lt k hk).1))
  go_wp2_with fail
  refine (free_ar h3 (by simp) (by omega)).mono ?_
  rintro e w4 ⟨rfl, n4, rfl⟩
  go_wp2_with fail
  go_ret
  exact ⟨by simp, below_drewN b3 n4⟩

set_option maxHeartbeats 1000000 in
theorem news_yes (r : Int) (h0 : 0 ≤ r) (h1 : r ≤ 65536) (w : World) :
    Calls Try.prog 4 #[.int .i64 r] w fun e w' => e = .returned (.bool true) ∧ Below w.heap.size w w' := by
  have hAr := Ar.new w (Nat.le_refl w.heap.size) r
  go_enter Try.func4, Try.ntmps4
  go_wp2_with fail
  refine (new_ok r _ h0 h1).mono ?_
  rintro e w' ⟨rfl, rfl⟩
  go_wp2_with fail
  refine (get_nil _).mono ?_
  rintro e w' ⟨rfl, rfl⟩
  go_wp2_with fail
  refine (told_yes _).mono ?_
  rintro e w1 ⟨rfl, hb1⟩
  have hA1 := hAr.below hb1
  have hB1 : Below w.heap.size w w1 := ((Below.refl _ w).alloc (Nat.le_refl _) _).trans (hb1.mono (by simp))
  clear hb1 hAr
  go_wp2_with fail
  refine (free_ar hA1 (by simpa using h0) h1).mono ?_
  rintro e w2 ⟨rfl, n2, rfl⟩
  go_wp2_with (first
    | (go_at_call 20; refine (top_nil _).mono ?_; rintro e w' ⟨rfl, rfl⟩)
    | (go_at_call 21; refine (free_nil _).mono ?_; rintro e w' ⟨rfl, rfl⟩)
    | (go_at_call 10; refine (push_nil 8 _).mono ?_; rintro e w' ⟨rfl, rfl⟩)
    | (go_at_call 16; refine (set_nil 8 _).mono ?_; rintro e w' ⟨rfl, rfl⟩)
    | (go_at_call 17; refine (cut_nil 0 _).mono ?_; rintro e w' ⟨rfl, rfl⟩)
    | (go_at_call 19; refine (cells_nil _).mono ?_; rintro e w' ⟨rfl, rfl⟩))
  go_ret
  exact ⟨by simp, below_drewN hB1 n2⟩

set_option maxHeartbeats 1000000 in
theorem news_low (r : Int) (c1 : r < 0) (w : World) :
    Calls Try.prog 4 #[.int .i64 r] w fun e w' => e = .returned (.bool true) ∧ Below w.heap.size w w' := by
  have H : Hid (r < 0 ∨ 65536 < r) := by unfold Hid; omega
  go_enter Try.func4, Try.ntmps4
  go_wp2_with fail
  refine (new_no r _ H.out).mono ?_
  rintro e w' ⟨rfl, rfl⟩
  go_wp2_with fail
  refine (get_nil _).mono ?_
  rintro e w' ⟨rfl, rfl⟩
  go_wp2_with fail
  refine (told_yes _).mono ?_
  rintro e w1 ⟨rfl, hb1⟩
  go_wp2_with (first
    | (go_at_call 20; refine (top_nil _).mono ?_; rintro e w' ⟨rfl, rfl⟩)
    | (go_at_call 21; refine (free_nil _).mono ?_; rintro e w' ⟨rfl, rfl⟩)
    | (go_at_call 10; refine (push_nil 8 _).mono ?_; rintro e w' ⟨rfl, rfl⟩)
    | (go_at_call 16; refine (set_nil 8 _).mono ?_; rintro e w' ⟨rfl, rfl⟩)
    | (go_at_call 17; refine (cut_nil 0 _).mono ?_; rintro e w' ⟨rfl, rfl⟩)
    | (go_at_call 19; refine (cells_nil _).mono ?_; rintro e w' ⟨rfl, rfl⟩))
  go_ret
  exact ⟨by simp, hb1⟩

set_option maxHeartbeats 1000000 in
theorem news_high (r : Int) (c1 : 65536 < r) (w : World) :
    Calls Try.prog 4 #[.int .i64 r] w fun e w' => e = .returned (.bool true) ∧ Below w.heap.size w w' := by
  have H : Hid (r < 0 ∨ 65536 < r) := by unfold Hid; omega
  go_enter Try.func4, Try.ntmps4
  go_wp2_with fail
  refine (new_no r _ H.out).mono ?_
  rintro e w' ⟨rfl, rfl⟩
  go_wp2_with fail
  refine (get_nil _).mono ?_
  rintro e w' ⟨rfl, rfl⟩
  go_wp2_with fail
  refine (told_yes _).mono ?_
  rintro e w1 ⟨rfl, hb1⟩
  go_wp2_with (first
    | (go_at_call 20; refine (top_nil _).mono ?_; rintro e w' ⟨rfl, rfl⟩)
    | (go_at_call 21; refine (free_nil _).mono ?_; rintro e w' ⟨rfl, rfl⟩)
    | (go_at_call 10; refine (push_nil 8 _).mono ?_; rintro e w' ⟨rfl, rfl⟩)
    | (go_at_call 16; refine (set_nil 8 _).mono ?_; rintro e w' ⟨rfl, rfl⟩)
    | (go_at_call 17; refine (cut_nil 0 _).mono ?_; rintro e w' ⟨rfl, rfl⟩)
    | (go_at_call 19; refine (cells_nil _).mono ?_; rintro e w' ⟨rfl, rfl⟩))
  go_ret
  exact ⟨by simp, hb1⟩

theorem news_any (r : Int) (w : World) :
    Calls Try.prog 4 #[.int .i64 r] w fun e w' => e = .returned (.bool true) ∧ Below w.heap.size w w' := by
  by_cases h : 0 ≤ r ∧ r ≤ 65536
  · exact news_yes r h.1 h.2 w
  · by_cases c : r < 0
    · exact news_low r c w
    · exact news_high r (by omega) w

set_option maxRecDepth 100000 in
theorem newsLifted (os : Os) (started : os.Started) (H : Type) (enc : TypeId × Value → H) :
    ReturnsInHanded {} Try.checked os 4 .any (Rows.areaNewsSpec.pre6 enc Try.prog Try.f4 Rows.areaNewsRow.domain false) (Rows.areaNewsSpec.post enc Try.prog Try.f4 false true false false) := by
  refine returnsInHanded_of_change (C := Try.checked) ownTry started (by kernel_rfl) Try.func4
    (ChangeSpec.witness6 (enc := enc) (C := Try.checked) false ⟨#[], #[.int .i64 0], []⟩ 8 (by kernel_rfl) (by kernel_rfl) (by kernel_rfl) (by kernel_rfl)) ?_
  intro W base args ds gs before hval0 hW hcnd _
  have hval : ∀ (j : Nat) t v, Try.f4.params[j]? = some t → args[j]? = some v → Value.okWide Try.prog W .any base t v := hval0
  have hW' := hW
  obtain ⟨p, q, hA0, hV, rfl, hfz, hnd⟩ := hW
  have hA : DataW.TrodAll enc Try.prog W 0 (fun _ => true) true Try.f4.params.toList args.toList ds p := hA0
  rw [Try.params4] at hA hval
  obtain ⟨v0, vs0, d0, ds0, p0, q0, hargs, rfl, rfl, h0, r0⟩ := trodAll_cons hA
  obtain ⟨rfl, rfl, rfl⟩ := trodAll_nil r0
  obtain rfl : args = #[v0] := by cases args; simp_all
  obtain ⟨rfl, rfl⟩ := trodVars_none hV
  obtain ⟨a0, rfl, rfl, rfl, w0⟩ := open_int Try.underlying3 (hval 0 3 v0 rfl rfl) h0
  clear hA0 hval0
  simp only [List.append_nil] at hW'
  refine (news_any a0 W).mono fun e W' ⟨he, hg⟩ => ?_
  subst he
  exact ⟨_, rfl, post_below (pa := []) (pv := []) hW' (fun _ _ _ => (trodAll_cons_mk (shut_bool Try.underlying4 _) trodAll_mk0)) (fun sp _ => (trodAll_cons_mk (shut_int Try.underlying3 w0) trodAll_mk0)) (fun _ _ => rfl) rfl
    hg (ok_one (by kernel_rfl) rfl (okWide_bool_mk Try.underlying4 _))⟩

theorem newsOver : Rows.areaNewsRow.holds Try.pinned (OpenSpec.ofChange Rows.areaNewsSpec) :=
  OpenClaim.holds_of_wide 4 Try.f4 rfl rfl rfl rfl rfl rfl rfl ⟨rfl, rfl, rfl, rfl, rfl⟩ rfl rfl rfl rfl rfl (by kernel_rfl) Try.func4 (by kernel_rfl)
    (of_decide_eq_true (by kernel_rfl)) (by unfold Func.isWrapper; first | (rw [if_pos (by decide +kernel)]; kernel_rfl) | (rw [if_neg (by decide +kernel)]; exact ⟨rfl, rfl⟩))
    (fun os started H enc _ => newsLifted os started H enc)

/-- The statement. -/
theorem areaNews_holds : Rows.AreaNewsSaid :=
  newsOver
end Go.Proofs.Ytakbahnmlkphcaa
