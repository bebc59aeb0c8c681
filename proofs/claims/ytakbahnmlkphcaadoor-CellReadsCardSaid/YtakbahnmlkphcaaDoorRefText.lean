/-
  The document's own words of a cell (resolventref01.Text), by a contract. No condition beyond the argument's own range.
-/
import Derived.Test.YtakbahnmlkphcaaDoorNum
import Derived.Deep.RegionWith
namespace Go.Proofs.YtakbahnmlkphcaaDoor
open Go Go.RowKit
set_option linter.unusedVariables false

theorem refKind_is {k : Int} (c : Int) (hw : (Lit.int .u64 c).wf = true) (hk : cellKind c = k) (w : World) :
    Calls Tryd.prog 12 #[.int .u64 c] w fun e w' => e = .returned (.int .i64 k) ∧ w = w' := by
  subst hk
  exact refKind_any c hw w
theorem refNumber_is {k : Int} (c : Int) (hw : (Lit.int .u64 c).wf = true) (hk : cellNum c = k) (w : World) :
    Calls Tryd.prog 13 #[.int .u64 c] w fun e w' => e = .returned (.int .i64 k) ∧ w = w' := by
  subst hk
  exact refNumber_any c hw w

theorem rtext_no (c : Int) (hw : (Lit.int .u64 c).wf = true) (hc : cellOk c = false) (w : World) :
    Calls Tryd.prog 15 #[.int .u64 c] w fun e w' => e = .returned (.string ⟨#[110, 111, 110, 101]⟩) ∧ w = w' := by
  have HW := Lib.hid hw
  have HC := Lib.hid hc
  clear hw hc
  go_enter Tryd.func15, Tryd.ntmps15
  go_wp2_with (go_at_call 11; refine (refRight_is _ HW.out HC.out _).mono ?_; rintro e w' ⟨rfl, rfl⟩)
  go_ret
  exact ⟨rfl, rfl⟩

set_option maxHeartbeats 2000000 in
theorem rtext_ref (c n : Int) (hw : (Lit.int .u64 c).wf = true) (hc : cellOk c = true) (hk : cellKind c = 0) (hn : cellNum c = n) (n0 : 0 ≤ n) (n1 : n < 1099511627776) (w : World) :
    Calls Tryd.prog 15 #[.int .u64 c] w fun e w' => e = .returned (.string (cellText 0 n)) ∧ Below w.heap.size w w' := by
  have HW := Lib.hid hw
  have HC := Lib.hid hc
  have HN := Lib.hid hn
  have HK := Lib.hid hk
  obtain ⟨s, hs, hsz⟩ := itoa_size n n0 n1
  have HS := Lib.hid hs
  have HI : ∀ W', Calls Tryd.prog 17 #[.int .i64 n] W' fun e w' => e = .returned (.string s) ∧ ∃ m, w' = W'.drewN m := fun W' => by
    have := num_itoa n n0 n1 W'
    rw [hs] at this
    exact this
  have HII := Lib.hid HI
  have hcell : ∀ m, ((w.drewN m).alloc (.cells #[.string ⟨#[114, 101, 102]⟩, .string ⟨#[115, 116, 114]⟩, .string ⟨#[99, 111, 110]⟩, .string ⟨#[108, 105, 115]⟩, .string ⟨#[102, 117, 110]⟩] 9)).cell? ⟨w.heap.size, 0, none⟩ = some (.string ⟨#[114, 101, 102]⟩) := fun m => (Box.new (w.drewN m) 9 #[.string ⟨#[114, 101, 102]⟩, .string ⟨#[115, 116, 114]⟩, .string ⟨#[99, 111, 110]⟩, .string ⟨#[108, 105, 115]⟩, .string ⟨#[102, 117, 110]⟩]).cell 0
  clear hw hc hn hk hs HI
  go_enter Tryd.func15, Tryd.ntmps15
  go_wp2_with (go_at_call 11; refine (refRight_is _ HW.out HC.out _).mono ?_; rintro e w' ⟨rfl, rfl⟩)
  go_region_with (first
    | (go_at_call 12; refine (refKind_is _ HW.out HK.out _).mono ?_; rintro e w' ⟨rfl, rfl⟩)
    | (go_at_call 13; refine (refNumber_is _ HW.out HN.out _).mono ?_; rintro e w' ⟨rfl, rfl⟩)
    | (go_at_call 17; refine (HII.out _).mono ?_; rintro e w5 ⟨rfl, m5, rfl⟩))
  all_goals
    go_wp2_with fail
    go_ret
    refine ⟨by rw [cellText, HS.out]; rfl, ?_⟩
    repeat (first | exact Below.refl _ _ | (refine below_drewN ?_ _) | (refine Below.drew ?_) | (refine Below.alloc ?_ (by simp) _))

set_option maxHeartbeats 2000000 in
theorem rtext_str (c n : Int) (hw : (Lit.int .u64 c).wf = true) (hc : cellOk c = true) (hk : cellKind c = 1) (hn : cellNum c = n) (n0 : 0 ≤ n) (n1 : n < 1099511627776) (w : World) :
    Calls Tryd.prog 15 #[.int .u64 c] w fun e w' => e = .returned (.string (cellText 1 n)) ∧ Below w.heap.size w w' := by
  have HW := Lib.hid hw
  have HC := Lib.hid hc
  have HN := Lib.hid hn
  have HK := Lib.hid hk
  obtain ⟨s, hs, hsz⟩ := itoa_size n n0 n1
  have HS := Lib.hid hs
  have HI : ∀ W', Calls Tryd.prog 17 #[.int .i64 n] W' fun e w' => e = .returned (.string s) ∧ ∃ m, w' = W'.drewN m := fun W' => by
    have := num_itoa n n0 n1 W'
    rw [hs] at this
    exact this
  have HII := Lib.hid HI
  have hcell : ∀ m, ((w.drewN m).alloc (.cells #[.string ⟨#[114, 101, 102]⟩, .string ⟨#[115, 116, 114]⟩, .string ⟨#[99, 111, 110]⟩, .string ⟨#[108, 105, 115]⟩, .string ⟨#[102, 117, 110]⟩] 9)).cell? ⟨w.heap.size, 1, none⟩ = some (.string ⟨#[115, 116, 114]⟩) := fun m => (Box.new (w.drewN m) 9 #[.string ⟨#[114, 101, 102]⟩, .string ⟨#[115, 116, 114]⟩, .string ⟨#[99, 111, 110]⟩, .string ⟨#[108, 105, 115]⟩, .string ⟨#[102, 117, 110]⟩]).cell 1
  clear hw hc hn hk hs HI
  go_enter Tryd.func15, Tryd.ntmps15
  go_wp2_with (go_at_call 11; refine (refRight_is _ HW.out HC.out _).mono ?_; rintro e w' ⟨rfl, rfl⟩)
  go_region_with (first
    | (go_at_call 12; refine (refKind_is _ HW.out HK.out _).mono ?_; rintro e w' ⟨rfl, rfl⟩)
    | (go_at_call 13; refine (refNumber_is _ HW.out HN.out _).mono ?_; rintro e w' ⟨rfl, rfl⟩)
    | (go_at_call 17; refine (HII.out _).mono ?_; rintro e w5 ⟨rfl, m5, rfl⟩))
  all_goals
    go_wp2_with fail
    go_ret
    refine ⟨by rw [cellText, HS.out]; rfl, ?_⟩
    repeat (first | exact Below.refl _ _ | (refine below_drewN ?_ _) | (refine Below.drew ?_) | (refine Below.alloc ?_ (by simp) _))

set_option maxHeartbeats 2000000 in
theorem rtext_con (c n : Int) (hw : (Lit.int .u64 c).wf = true) (hc : cellOk c = true) (hk : cellKind c = 2) (hn : cellNum c = n) (n0 : 0 ≤ n) (n1 : n < 1099511627776) (w : World) :
    Calls Tryd.prog 15 #[.int .u64 c] w fun e w' => e = .returned (.string (cellText 2 n)) ∧ Below w.heap.size w w' := by
  have HW := Lib.hid hw
  have HC := Lib.hid hc
  have HN := Lib.hid hn
  have HK := Lib.hid hk
  obtain ⟨s, hs, hsz⟩ := itoa_size n n0 n1
  have HS := Lib.hid hs
  have HI : ∀ W', Calls Tryd.prog 17 #[.int .i64 n] W' fun e w' => e = .returned (.string s) ∧ ∃ m, w' = W'.drewN m := fun W' => by
    have := num_itoa n n0 n1 W'
    rw [hs] at this
    exact this
  have HII := Lib.hid HI
  have hcell : ∀ m, ((w.drewN m).alloc (.cells #[.string ⟨#[114, 101, 102]⟩, .string ⟨#[115, 116, 114]⟩, .string ⟨#[99, 111, 110]⟩, .string ⟨#[108, 105, 115]⟩, .string ⟨#[102, 117, 110]⟩] 9)).cell? ⟨w.heap.size, 2, none⟩ = some (.string ⟨#[99, 111, 110]⟩) := fun m => (Box.new (w.drewN m) 9 #[.string ⟨#[114, 101, 102]⟩, .string ⟨#[115, 116, 114]⟩, .string ⟨#[99, 111, 110]⟩, .string ⟨#[108, 105, 115]⟩, .string ⟨#[102, 117, 110]⟩]).cell 2
  clear hw hc hn hk hs HI
  go_enter Tryd.func15, Tryd.ntmps15
  go_wp2_with (go_at_call 11; refine (refRight_is _ HW.out HC.out _).mono ?_; rintro e w' ⟨rfl, rfl⟩)
  go_region_with (first
    | (go_at_call 12; refine (refKind_is _ HW.out HK.out _).mono ?_; rintro e w' ⟨rfl, rfl⟩)
    | (go_at_call 13; refine (refNumber_is _ HW.out HN.out _).mono ?_; rintro e w' ⟨rfl, rfl⟩)
    | (go_at_call 17; refine (HII.out _).mono ?_; rintro e w5 ⟨rfl, m5, rfl⟩))
  all_goals
    go_wp2_with fail
    go_ret
    refine ⟨by rw [cellText, HS.out]; rfl, ?_⟩
    repeat (first | exact Below.refl _ _ | (refine below_drewN ?_ _) | (refine Below.drew ?_) | (refine Below.alloc ?_ (by simp) _))

set_option maxHeartbeats 2000000 in
theorem rtext_lis (c n : Int) (hw : (Lit.int .u64 c).wf = true) (hc : cellOk c = true) (hk : cellKind c = 3) (hn : cellNum c = n) (n0 : 0 ≤ n) (n1 : n < 1099511627776) (w : World) :
    Calls Tryd.prog 15 #[.int .u64 c] w fun e w' => e = .returned (.string (cellText 3 n)) ∧ Below w.heap.size w w' := by
  have HW := Lib.hid hw
  have HC := Lib.hid hc
  have HN := Lib.hid hn
  have HK := Lib.hid hk
  obtain ⟨s, hs, hsz⟩ := itoa_size n n0 n1
  have HS := Lib.hid hs
  have HI : ∀ W', Calls Tryd.prog 17 #[.int .i64 n] W' fun e w' => e = .returned (.string s) ∧ ∃ m, w' = W'.drewN m := fun W' => by
    have := num_itoa n n0 n1 W'
    rw [hs] at this
    exact this
  have HII := Lib.hid HI
  have hcell : ∀ m, ((w.drewN m).alloc (.cells #[.string ⟨#[114, 101, 102]⟩, .string ⟨#[115, 116, 114]⟩, .string ⟨#[99, 111, 110]⟩, .string ⟨#[108, 105, 115]⟩, .string ⟨#[102, 117, 110]⟩] 9)).cell? ⟨w.heap.size, 3, none⟩ = some (.string ⟨#[108, 105, 115]⟩) := fun m => (Box.new (w.drewN m) 9 #[.string ⟨#[114, 101, 102]⟩, .string ⟨#[115, 116, 114]⟩, .string ⟨#[99, 111, 110]⟩, .string ⟨#[108, 105, 115]⟩, .string ⟨#[102, 117, 110]⟩]).cell 3
  clear hw hc hn hk hs HI
  go_enter Tryd.func15, Tryd.ntmps15
  go_wp2_with (go_at_call 11; refine (refRight_is _ HW.out HC.out _).mono ?_; rintro e w' ⟨rfl, rfl⟩)
  go_region_with (first
    | (go_at_call 12; refine (refKind_is _ HW.out HK.out _).mono ?_; rintro e w' ⟨rfl, rfl⟩)
    | (go_at_call 13; refine (refNumber_is _ HW.out HN.out _).mono ?_; rintro e w' ⟨rfl, rfl⟩)
    | (go_at_call 17; refine (HII.out _).mono ?_; rintro e w5 ⟨rfl, m5, rfl⟩))
  all_goals
    go_wp2_with fail
    go_ret
    refine ⟨by rw [cellText, HS.out]; rfl, ?_⟩
    repeat (first | exact Below.refl _ _ | (refine below_drewN ?_ _) | (refine Below.drew ?_) | (refine Below.alloc ?_ (by simp) _))

set_option maxHeartbeats 2000000 in
theorem rtext_fun (c n : Int) (hw : (Lit.int .u64 c).wf = true) (hc : cellOk c = true) (hk : cellKind c = 4) (hn : cellNum c = n) (n0 : 0 ≤ n) (n1 : n < 1099511627776) (w : World) :
    Calls Tryd.prog 15 #[.int .u64 c] w fun e w' => e = .returned (.string (cellText 4 n)) ∧ Below w.heap.size w w' := by
  have HW := Lib.hid hw
  have HC := Lib.hid hc
  have HN := Lib.hid hn
  have HK := Lib.hid hk
  obtain ⟨s, hs, hsz⟩ := itoa_size n n0 n1
  have HS := Lib.hid hs
  have HI : ∀ W', Calls Tryd.prog 17 #[.int .i64 n] W' fun e w' => e = .returned (.string s) ∧ ∃ m, w' = W'.drewN m := fun W' => by
    have := num_itoa n n0 n1 W'
    rw [hs] at this
    exact this
  have HII := Lib.hid HI
  have hcell : ∀ m, ((w.drewN m).alloc (.cells #[.string ⟨#[114, 101, 102]⟩, .string ⟨#[115, 116, 114]⟩, .string ⟨#[99, 111, 110]⟩, .string ⟨#[108, 105, 115]⟩, .string ⟨#[102, 117, 110]⟩] 9)).cell? ⟨w.heap.size, 4, none⟩ = some (.string ⟨#[102, 117, 110]⟩) := fun m => (Box.new (w.drewN m) 9 #[.string ⟨#[114, 101, 102]⟩, .string ⟨#[115, 116, 114]⟩, .string ⟨#[99, 111, 110]⟩, .string ⟨#[108, 105, 115]⟩, .string ⟨#[102, 117, 110]⟩]).cell 4
  clear hw hc hn hk hs HI
  go_enter Tryd.func15, Tryd.ntmps15
  go_wp2_with (go_at_call 11; refine (refRight_is _ HW.out HC.out _).mono ?_; rintro e w' ⟨rfl, rfl⟩)
  go_region_with (first
    | (go_at_call 12; refine (refKind_is _ HW.out HK.out _).mono ?_; rintro e w' ⟨rfl, rfl⟩)
    | (go_at_call 13; refine (refNumber_is _ HW.out HN.out _).mono ?_; rintro e w' ⟨rfl, rfl⟩)
    | (go_at_call 17; refine (HII.out _).mono ?_; rintro e w5 ⟨rfl, m5, rfl⟩))
  all_goals
    go_wp2_with fail
    go_ret
    refine ⟨by rw [cellText, HS.out]; rfl, ?_⟩
    repeat (first | exact Below.refl _ _ | (refine below_drewN ?_ _) | (refine Below.drew ?_) | (refine Below.alloc ?_ (by simp) _))

theorem rtext_any (c : Int) (hw : (Lit.int .u64 c).wf = true) (w : World) :
    Calls Tryd.prog 15 #[.int .u64 c] w fun e w' => e = .returned (.string (cellWords c)) ∧ Below w.heap.size w w' := by
  by_cases hc : cellOk c = true
  · obtain ⟨n0, n1⟩ := num_range hw hc
    rw [cellWords, if_pos hc]
    rcases kind_range hw hc with hk | hk | hk | hk | hk
    · rw [hk]; exact rtext_ref c _ hw hc hk rfl n0 n1 w
    · rw [hk]; exact rtext_str c _ hw hc hk rfl n0 n1 w
    · rw [hk]; exact rtext_con c _ hw hc hk rfl n0 n1 w
    · rw [hk]; exact rtext_lis c _ hw hc hk rfl n0 n1 w
    · rw [hk]; exact rtext_fun c _ hw hc hk rfl n0 n1 w
  · rw [cellWords, if_neg hc]
    refine (rtext_no c hw (by simpa using hc) w).mono ?_
    rintro e w' ⟨rfl, rfl⟩
    exact ⟨rfl, Below.refl _ _⟩
end Go.Proofs.YtakbahnmlkphcaaDoor
