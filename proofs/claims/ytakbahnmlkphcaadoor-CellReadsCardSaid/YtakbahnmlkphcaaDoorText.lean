/-
  The words of a cell, by the program and by the document, each by a contract. Condition: the decimal powers' table reads as its initialiser lays it.
-/
import Derived.Test.YtakbahnmlkphcaaDoorMake
import Derived.Test.YtakbahnmlkphcaaDoorShelf
import Derived.Deep.RegionHeld3
import Derived.Lib.SmallJoins
import Derived.Sort.Grow
import Derived.Lib.ItoaLen
import Derived.Laws.Concat
namespace Go.Proofs.YtakbahnmlkphcaaDoor
open Go Go.RowKit
set_option linter.unusedVariables false

theorem below_grow (w : World) (k : Nat) (os : Array Obj) : Below w.heap.size w (Sort.grow (w.drewN k) os) :=
  ⟨rfl, rfl, rfl, by simp [Sort.grow], fun j hj => Sort.heap_grow_old (w.drewN k) os hj⟩

def Pow (w : World) : Prop := Lib.TabIs Tryd.prog w "internal/strconv.uint64pow10" .u64 Lib.pow10Tab
theorem gPow : Tryd.prog.globalNamed "internal/strconv.uint64pow10" = some 0 := by kernel_rfl
theorem Pow.below {w w' : World} (h : Pow w) (hb : Below w.heap.size w w') : Pow w' := Joins.tab_stays gPow h hb (Nat.le_refl _)
theorem Pow.drewN {w : World} (h : Pow w) (n : Nat) : Pow (w.drewN n) := h

theorem itoa_any (n : Int) (h0 : -9223372036854775808 ≤ n) (h1 : n ≤ 9223372036854775807) (w : World) (hp : Pow w) :
    Calls Tryd.prog 16 #[.int .i64 n] w fun e w' => e = .returned (.string ⟨(Lib.itoa n).toArray⟩) ∧ Below w.heap.size w w' := by
  refine (Tryd.strconv_Itoa n h0 h1 w hp).mono ?_
  rintro e w' ⟨rfl, k, os, rfl⟩
  exact ⟨rfl, below_grow w k os⟩

theorem kind_is {k : Int} (c : Int) (hw : (Lit.int .u64 c).wf = true) (hk : cellKind c = k) (w : World) :
    Calls Tryd.prog 9 #[.int .u64 c] w fun e w' => e = .returned (.int .i64 k) ∧ w = w' := by
  subst hk
  exact kind_any c hw w
theorem number_is {k : Int} (c : Int) (hw : (Lit.int .u64 c).wf = true) (hk : cellNum c = k) (w : World) :
    Calls Tryd.prog 10 #[.int .u64 c] w fun e w' => e = .returned (.int .i64 k) ∧ w = w' := by
  subst hk
  exact number_any c hw w

theorem text_no (c : Int) (hw : (Lit.int .u64 c).wf = true) (hc : cellOk c = false) (w : World) :
    Calls Tryd.prog 14 #[.int .u64 c] w fun e w' => e = .returned (.string ⟨#[110, 111, 110, 101]⟩) ∧ w = w' := by
  have HW := Lib.hid hw
  have HC := Lib.hid hc
  clear hw hc
  go_enter Tryd.func14, Tryd.ntmps14
  go_wp2_with (go_at_call 8; refine (right_is _ HW.out HC.out _).mono ?_; rintro e w' ⟨rfl, rfl⟩)
  go_ret
  exact ⟨rfl, rfl⟩

/-- The word of a kind, a blank, and a number. -/
def kindWord (k : Int) : ByteArray := if k = 0 then ⟨#[114, 101, 102]⟩ else if k = 1 then ⟨#[115, 116, 114]⟩ else if k = 2 then ⟨#[99, 111, 110]⟩ else if k = 3 then ⟨#[108, 105, 115]⟩ else ⟨#[102, 117, 110]⟩
def cellText (k n : Int) : ByteArray := kindWord k ++ ⟨#[32]⟩ ++ ⟨(Lib.itoa n).toArray⟩

theorem itoa_size (n : Int) (n0 : 0 ≤ n) (n1 : n < 1099511627776) : ∃ s : ByteArray, (⟨(Lib.itoa n).toArray⟩ : ByteArray) = s ∧ (9223372036854775807 < 4 + s.size) = False := by
  refine ⟨_, rfl, ?_⟩
  have h := Lib.itoa_length_le n (by omega) (by omega)
  have h2 : (⟨(Lib.itoa n).toArray⟩ : ByteArray).size = (Lib.itoa n).length := by simp [ByteArray.size]
  rw [h2]
  simp
  omega

set_option maxHeartbeats 1000000 in
theorem text_ref (c n : Int) (hw : (Lit.int .u64 c).wf = true) (hc : cellOk c = true) (hk : cellKind c = 0) (hn : cellNum c = n) (n0 : 0 ≤ n) (n1 : n < 1099511627776) (w : World) (hp : Pow w) :
    Calls Tryd.prog 14 #[.int .u64 c] w fun e w' => e = .returned (.string (cellText 0 n)) ∧ Below w.heap.size w w' := by
  have HW := Lib.hid hw
  have HC := Lib.hid hc
  have HN := Lib.hid hn
  have HK := Lib.hid hk
  obtain ⟨s, hs, hsz⟩ := itoa_size n n0 n1
  have HS := Lib.hid hs
  have HB : Box (w.alloc (.cells #[.string ⟨#[114, 101, 102]⟩, .string ⟨#[115, 116, 114]⟩, .string ⟨#[99, 111, 110]⟩, .string ⟨#[108, 105, 115]⟩, .string ⟨#[102, 117, 110]⟩] 34)) w.heap.size 34 #[.string ⟨#[114, 101, 102]⟩, .string ⟨#[115, 116, 114]⟩, .string ⟨#[99, 111, 110]⟩, .string ⟨#[108, 105, 115]⟩, .string ⟨#[102, 117, 110]⟩] := Box.new w _ _
  have hB : Below w.heap.size w (w.alloc (.cells #[.string ⟨#[114, 101, 102]⟩, .string ⟨#[115, 116, 114]⟩, .string ⟨#[99, 111, 110]⟩, .string ⟨#[108, 105, 115]⟩, .string ⟨#[102, 117, 110]⟩] 34)) := (Below.refl _ w).alloc (Nat.le_refl _) _
  have HP : Pow (w.alloc (.cells #[.string ⟨#[114, 101, 102]⟩, .string ⟨#[115, 116, 114]⟩, .string ⟨#[99, 111, 110]⟩, .string ⟨#[108, 105, 115]⟩, .string ⟨#[102, 117, 110]⟩] 34)) := hp.below hB
  have hlt : w.heap.size < (w.alloc (.cells #[.string ⟨#[114, 101, 102]⟩, .string ⟨#[115, 116, 114]⟩, .string ⟨#[99, 111, 110]⟩, .string ⟨#[108, 105, 115]⟩, .string ⟨#[102, 117, 110]⟩] 34)).heap.size := by simp
  clear hw hc hn hk hp hs
  go_enter Tryd.func14, Tryd.ntmps14
  go_wp2_with (go_at_call 8; refine (right_is _ HW.out HC.out _).mono ?_; rintro e w' ⟨rfl, rfl⟩)
  obtain ⟨W, hWe⟩ : ∃ W, w.alloc (.cells #[.string ⟨#[114, 101, 102]⟩, .string ⟨#[115, 116, 114]⟩, .string ⟨#[99, 111, 110]⟩, .string ⟨#[108, 105, 115]⟩, .string ⟨#[102, 117, 110]⟩] 34) = W := ⟨_, rfl⟩
  obtain ⟨g, hge⟩ : ∃ g, w.heap.size = g := ⟨_, rfl⟩
  rw [hWe, hge] at HB
  rw [hWe] at hB HP hlt
  rw [hWe, hge]
  rw [hge] at hlt
  have k0 : W.cell? ⟨g, 0, none⟩ = some (.string ⟨#[114, 101, 102]⟩) := HB.cell 0
  have HBe := Lib.hid hB
  clear hWe hge hB HB
  have HI : ∀ W', Pow W' → Calls Tryd.prog 16 #[.int .i64 n] W' fun e w' => e = .returned (.string s) ∧ Below W'.heap.size W' w' := fun W' h => by
    have := itoa_any n (by omega) (by omega) W' h
    rw [HS.out] at this
    exact this
  have HII := Lib.hid HI
  clear HI
  go_region_held3 (fun w' => w'.cell? ⟨g, 0, none⟩ = some (.string ⟨#[114, 101, 102]⟩)) (first | exact hx5 | exact k0)
    (first
      | (go_at_call 9; refine (kind_is _ HW.out HK.out _).mono ?_; rintro e w' ⟨rfl, rfl⟩)
      | (go_at_call 10; refine (number_is _ HW.out HN.out _).mono ?_; rintro e w' ⟨rfl, rfl⟩)
      | (go_at_call 16; refine (HII.out _ (HP.drewN 1)).mono ?_; rintro e w5 ⟨rfl, hb5⟩; have hx5 : w5.cell? ⟨g, 0, none⟩ = some (.string ⟨#[114, 101, 102]⟩) := (hb5.cell (p := ⟨g, 0, none⟩) hlt).trans k0))
  have HE : Hid (Below w.heap.size w w5) := HBe.out.trans ((below_from_drewN (m := 1) hb5).mono HBe.out.size)
  clear hb5 hx5 k0 hsz
  go_wp2_with fail
  go_ret
  exact ⟨by rw [cellText, HS.out]; rfl, HE.out⟩

set_option maxHeartbeats 1000000 in
theorem text_str (c n : Int) (hw : (Lit.int .u64 c).wf = true) (hc : cellOk c = true) (hk : cellKind c = 1) (hn : cellNum c = n) (n0 : 0 ≤ n) (n1 : n < 1099511627776) (w : World) (hp : Pow w) :
    Calls Tryd.prog 14 #[.int .u64 c] w fun e w' => e = .returned (.string (cellText 1 n)) ∧ Below w.heap.size w w' := by
  have HW := Lib.hid hw
  have HC := Lib.hid hc
  have HN := Lib.hid hn
  have HK := Lib.hid hk
  obtain ⟨s, hs, hsz⟩ := itoa_size n n0 n1
  have HS := Lib.hid hs
  have HB : Box (w.alloc (.cells #[.string ⟨#[114, 101, 102]⟩, .string ⟨#[115, 116, 114]⟩, .string ⟨#[99, 111, 110]⟩, .string ⟨#[108, 105, 115]⟩, .string ⟨#[102, 117, 110]⟩] 34)) w.heap.size 34 #[.string ⟨#[114, 101, 102]⟩, .string ⟨#[115, 116, 114]⟩, .string ⟨#[99, 111, 110]⟩, .string ⟨#[108, 105, 115]⟩, .string ⟨#[102, 117, 110]⟩] := Box.new w _ _
  have hB : Below w.heap.size w (w.alloc (.cells #[.string ⟨#[114, 101, 102]⟩, .string ⟨#[115, 116, 114]⟩, .string ⟨#[99, 111, 110]⟩, .string ⟨#[108, 105, 115]⟩, .string ⟨#[102, 117, 110]⟩] 34)) := (Below.refl _ w).alloc (Nat.le_refl _) _
  have HP : Pow (w.alloc (.cells #[.string ⟨#[114, 101, 102]⟩, .string ⟨#[115, 116, 114]⟩, .string ⟨#[99, 111, 110]⟩, .string ⟨#[108, 105, 115]⟩, .string ⟨#[102, 117, 110]⟩] 34)) := hp.below hB
  have hlt : w.heap.size < (w.alloc (.cells #[.string ⟨#[114, 101, 102]⟩, .string ⟨#[115, 116, 114]⟩, .string ⟨#[99, 111, 110]⟩, .string ⟨#[108, 105, 115]⟩, .string ⟨#[102, 117, 110]⟩] 34)).heap.size := by simp
  clear hw hc hn hk hp hs
  go_enter Tryd.func14, Tryd.ntmps14
  go_wp2_with (go_at_call 8; refine (right_is _ HW.out HC.out _).mono ?_; rintro e w' ⟨rfl, rfl⟩)
  obtain ⟨W, hWe⟩ : ∃ W, w.alloc (.cells #[.string ⟨#[114, 101, 102]⟩, .string ⟨#[115, 116, 114]⟩, .string ⟨#[99, 111, 110]⟩, .string ⟨#[108, 105, 115]⟩, .string ⟨#[102, 117, 110]⟩] 34) = W := ⟨_, rfl⟩
  obtain ⟨g, hge⟩ : ∃ g, w.heap.size = g := ⟨_, rfl⟩
  rw [hWe, hge] at HB
  rw [hWe] at hB HP hlt
  rw [hWe, hge]
  rw [hge] at hlt
  have k0 : W.cell? ⟨g, 1, none⟩ = some (.string ⟨#[115, 116, 114]⟩) := HB.cell 1
  have HBe := Lib.hid hB
  clear hWe hge hB HB
  have HI : ∀ W', Pow W' → Calls Tryd.prog 16 #[.int .i64 n] W' fun e w' => e = .returned (.string s) ∧ Below W'.heap.size W' w' := fun W' h => by
    have := itoa_any n (by omega) (by omega) W' h
    rw [HS.out] at this
    exact this
  have HII := Lib.hid HI
  clear HI
  go_region_held3 (fun w' => w'.cell? ⟨g, 1, none⟩ = some (.string ⟨#[115, 116, 114]⟩)) (first | exact hx5 | exact k0)
    (first
      | (go_at_call 9; refine (kind_is _ HW.out HK.out _).mono ?_; rintro e w' ⟨rfl, rfl⟩)
      | (go_at_call 10; refine (number_is _ HW.out HN.out _).mono ?_; rintro e w' ⟨rfl, rfl⟩)
      | (go_at_call 16; refine (HII.out _ (HP.drewN 1)).mono ?_; rintro e w5 ⟨rfl, hb5⟩; have hx5 : w5.cell? ⟨g, 1, none⟩ = some (.string ⟨#[115, 116, 114]⟩) := (hb5.cell (p := ⟨g, 1, none⟩) hlt).trans k0))
  have HE : Hid (Below w.heap.size w w5) := HBe.out.trans ((below_from_drewN (m := 1) hb5).mono HBe.out.size)
  clear hb5 hx5 k0 hsz
  go_wp2_with fail
  go_ret
  exact ⟨by rw [cellText, HS.out]; rfl, HE.out⟩

set_option maxHeartbeats 1000000 in
theorem text_con (c n : Int) (hw : (Lit.int .u64 c).wf = true) (hc : cellOk c = true) (hk : cellKind c = 2) (hn : cellNum c = n) (n0 : 0 ≤ n) (n1 : n < 1099511627776) (w : World) (hp : Pow w) :
    Calls Tryd.prog 14 #[.int .u64 c] w fun e w' => e = .returned (.string (cellText 2 n)) ∧ Below w.heap.size w w' := by
  have HW := Lib.hid hw
  have HC := Lib.hid hc
  have HN := Lib.hid hn
  have HK := Lib.hid hk
  obtain ⟨s, hs, hsz⟩ := itoa_size n n0 n1
  have HS := Lib.hid hs
  have HB : Box (w.alloc (.cells #[.string ⟨#[114, 101, 102]⟩, .string ⟨#[115, 116, 114]⟩, .string ⟨#[99, 111, 110]⟩, .string ⟨#[108, 105, 115]⟩, .string ⟨#[102, 117, 110]⟩] 34)) w.heap.size 34 #[.string ⟨#[114, 101, 102]⟩, .string ⟨#[115, 116, 114]⟩, .string ⟨#[99, 111, 110]⟩, .string ⟨#[108, 105, 115]⟩, .string ⟨#[102, 117, 110]⟩] := Box.new w _ _
  have hB : Below w.heap.size w (w.alloc (.cells #[.string ⟨#[114, 101, 102]⟩, .string ⟨#[115, 116, 114]⟩, .string ⟨#[99, 111, 110]⟩, .string ⟨#[108, 105, 115]⟩, .string ⟨#[102, 117, 110]⟩] 34)) := (Below.refl _ w).alloc (Nat.le_refl _) _
  have HP : Pow (w.alloc (.cells #[.string ⟨#[114, 101, 102]⟩, .string ⟨#[115, 116, 114]⟩, .string ⟨#[99, 111, 110]⟩, .string ⟨#[108, 105, 115]⟩, .string ⟨#[102, 117, 110]⟩] 34)) := hp.below hB
  have hlt : w.heap.size < (w.alloc (.cells #[.string ⟨#[114, 101, 102]⟩, .string ⟨#[115, 116, 114]⟩, .string ⟨#[99, 111, 110]⟩, .string ⟨#[108, 105, 115]⟩, .string ⟨#[102, 117, 110]⟩] 34)).heap.size := by simp
  clear hw hc hn hk hp hs
  go_enter Tryd.func14, Tryd.ntmps14
  go_wp2_with (go_at_call 8; refine (right_is _ HW.out HC.out _).mono ?_; rintro e w' ⟨rfl, rfl⟩)
  obtain ⟨W, hWe⟩ : ∃ W, w.alloc (.cells #[.string ⟨#[114, 101, 102]⟩, .string ⟨#[115, 116, 114]⟩, .string ⟨#[99, 111, 110]⟩, .string ⟨#[108, 105, 115]⟩, .string ⟨#[102, 117, 110]⟩] 34) = W := ⟨_, rfl⟩
  obtain ⟨g, hge⟩ : ∃ g, w.heap.size = g := ⟨_, rfl⟩
  rw [hWe, hge] at HB
  rw [hWe] at hB HP hlt
  rw [hWe, hge]
  rw [hge] at hlt
  have k0 : W.cell? ⟨g, 2, none⟩ = some (.string ⟨#[99, 111, 110]⟩) := HB.cell 2
  have HBe := Lib.hid hB
  clear hWe hge hB HB
  have HI : ∀ W', Pow W' → Calls Tryd.prog 16 #[.int .i64 n] W' fun e w' => e = .returned (.string s) ∧ Below W'.heap.size W' w' := fun W' h => by
    have := itoa_any n (by omega) (by omega) W' h
    rw [HS.out] at this
    exact this
  have HII := Lib.hid HI
  clear HI
  go_region_held3 (fun w' => w'.cell? ⟨g, 2, none⟩ = some (.string ⟨#[99, 111, 110]⟩)) (first | exact hx5 | exact k0)
    (first
      | (go_at_call 9; refine (kind_is _ HW.out HK.out _).mono ?_; rintro e w' ⟨rfl, rfl⟩)
      | (go_at_call 10; refine (number_is _ HW.out HN.out _).mono ?_; rintro e w' ⟨rfl, rfl⟩)
      | (go_at_call 16; refine (HII.out _ (HP.drewN 1)).mono ?_; rintro e w5 ⟨rfl, hb5⟩; have hx5 : w5.cell? ⟨g, 2, none⟩ = some (.string ⟨#[99, 111, 110]⟩) := (hb5.cell (p := ⟨g, 2, none⟩) hlt).trans k0))
  have HE : Hid (Below w.heap.size w w5) := HBe.out.trans ((below_from_drewN (m := 1) hb5).mono HBe.out.size)
  clear hb5 hx5 k0 hsz
  go_wp2_with fail
  go_ret
  exact ⟨by rw [cellText, HS.out]; rfl, HE.out⟩

set_option maxHeartbeats 1000000 in
theorem text_lis (c n : Int) (hw : (Lit.int .u64 c).wf = true) (hc : cellOk c = true) (hk : cellKind c = 3) (hn : cellNum c = n) (n0 : 0 ≤ n) (n1 : n < 1099511627776) (w : World) (hp : Pow w) :
    Calls Tryd.prog 14 #[.int .u64 c] w fun e w' => e = .returned (.string (cellText 3 n)) ∧ Below w.heap.size w w' := by
  have HW := Lib.hid hw
  have HC := Lib.hid hc
  have HN := Lib.hid hn
  have HK := Lib.hid hk
  obtain ⟨s, hs, hsz⟩ := itoa_size n n0 n1
  have HS := Lib.hid hs
  have HB : Box (w.alloc (.cells #[.string ⟨#[114, 101, 102]⟩, .string ⟨#[115, 116, 114]⟩, .string ⟨#[99, 111, 110]⟩, .string ⟨#[108, 105, 115]⟩, .string ⟨#[102, 117, 110]⟩] 34)) w.heap.size 34 #[.string ⟨#[114, 101, 102]⟩, .string ⟨#[115, 116, 114]⟩, .string ⟨#[99, 111, 110]⟩, .string ⟨#[108, 105, 115]⟩, .string ⟨#[102, 117, 110]⟩] := Box.new w _ _
  have hB : Below w.heap.size w (w.alloc (.cells #[.string ⟨#[114, 101, 102]⟩, .string ⟨#[115, 116, 114]⟩, .string ⟨#[99, 111, 110]⟩, .string ⟨#[108, 105, 115]⟩, .string ⟨#[102, 117, 110]⟩] 34)) := (Below.refl _ w).alloc (Nat.le_refl _) _
  have HP : Pow (w.alloc (.cells #[.string ⟨#[114, 101, 102]⟩, .string ⟨#[115, 116, 114]⟩, .string ⟨#[99, 111, 110]⟩, .string ⟨#[108, 105, 115]⟩, .string ⟨#[102, 117, 110]⟩] 34)) := hp.below hB
  have hlt : w.heap.size < (w.alloc (.cells #[.string ⟨#[114, 101, 102]⟩, .string ⟨#[115, 116, 114]⟩, .string ⟨#[99, 111, 110]⟩, .string ⟨#[108, 105, 115]⟩, .string ⟨#[102, 117, 110]⟩] 34)).heap.size := by simp
  clear hw hc hn hk hp hs
  go_enter Tryd.func14, Tryd.ntmps14
  go_wp2_with (go_at_call 8; refine (right_is _ HW.out HC.out _).mono ?_; rintro e w' ⟨rfl, rfl⟩)
  obtain ⟨W, hWe⟩ : ∃ W, w.alloc (.cells #[.string ⟨#[114, 101, 102]⟩, .string ⟨#[115, 116, 114]⟩, .string ⟨#[99, 111, 110]⟩, .string ⟨#[108, 105, 115]⟩, .string ⟨#[102, 117, 110]⟩] 34) = W := ⟨_, rfl⟩
  obtain ⟨g, hge⟩ : ∃ g, w.heap.size = g := ⟨_, rfl⟩
  rw [hWe, hge] at HB
  rw [hWe] at hB HP hlt
  rw [hWe, hge]
  rw [hge] at hlt
  have k0 : W.cell? ⟨g, 3, none⟩ = some (.string ⟨#[108, 105, 115]⟩) := HB.cell 3
  have HBe := Lib.hid hB
  clear hWe hge hB HB
  have HI : ∀ W', Pow W' → Calls Tryd.prog 16 #[.int .i64 n] W' fun e w' => e = .returned (.string s) ∧ Below W'.heap.size W' w' := fun W' h => by
    have := itoa_any n (by omega) (by omega) W' h
    rw [HS.out] at this
    exact this
  have HII := Lib.hid HI
  clear HI
  go_region_held3 (fun w' => w'.cell? ⟨g, 3, none⟩ = some (.string ⟨#[108, 105, 115]⟩)) (first | exact hx5 | exact k0)
    (first
      | (go_at_call 9; refine (kind_is _ HW.out HK.out _).mono ?_; rintro e w' ⟨rfl, rfl⟩)
      | (go_at_call 10; refine (number_is _ HW.out HN.out _).mono ?_; rintro e w' ⟨rfl, rfl⟩)
      | (go_at_call 16; refine (HII.out _ (HP.drewN 1)).mono ?_; rintro e w5 ⟨rfl, hb5⟩; have hx5 : w5.cell? ⟨g, 3, none⟩ = some (.string ⟨#[108, 105, 115]⟩) := (hb5.cell (p := ⟨g, 3, none⟩) hlt).trans k0))
  have HE : Hid (Below w.heap.size w w5) := HBe.out.trans ((below_from_drewN (m := 1) hb5).mono HBe.out.size)
  clear hb5 hx5 k0 hsz
  go_wp2_with fail
  go_ret
  exact ⟨by rw [cellText, HS.out]; rfl, HE.out⟩

set_option maxHeartbeats 1000000 in
theorem text_fun (c n : Int) (hw : (Lit.int .u64 c).wf = true) (hc : cellOk c = true) (hk : cellKind c = 4) (hn : cellNum c = n) (n0 : 0 ≤ n) (n1 : n < 1099511627776) (w : World) (hp : Pow w) :
    Calls Tryd.prog 14 #[.int .u64 c] w fun e w' => e = .returned (.string (cellText 4 n)) ∧ Below w.heap.size w w' := by
  have HW := Lib.hid hw
  have HC := Lib.hid hc
  have HN := Lib.hid hn
  have HK := Lib.hid hk
  obtain ⟨s, hs, hsz⟩ := itoa_size n n0 n1
  have HS := Lib.hid hs
  have HB : Box (w.alloc (.cells #[.string ⟨#[114, 101, 102]⟩, .string ⟨#[115, 116, 114]⟩, .string ⟨#[99, 111, 110]⟩, .string ⟨#[108, 105, 115]⟩, .string ⟨#[102, 117, 110]⟩] 34)) w.heap.size 34 #[.string ⟨#[114, 101, 102]⟩, .string ⟨#[115, 116, 114]⟩, .string ⟨#[99, 111, 110]⟩, .string ⟨#[108, 105, 115]⟩, .string ⟨#[102, 117, 110]⟩] := Box.new w _ _
  have hB : Below w.heap.size w (w.alloc (.cells #[.string ⟨#[114, 101, 102]⟩, .string ⟨#[115, 116, 114]⟩, .string ⟨#[99, 111, 110]⟩, .string ⟨#[108, 105, 115]⟩, .string ⟨#[102, 117, 110]⟩] 34)) := (Below.refl _ w).alloc (Nat.le_refl _) _
  have HP : Pow (w.alloc (.cells #[.string ⟨#[114, 101, 102]⟩, .string ⟨#[115, 116, 114]⟩, .string ⟨#[99, 111, 110]⟩, .string ⟨#[108, 105, 115]⟩, .string ⟨#[102, 117, 110]⟩] 34)) := hp.below hB
  have hlt : w.heap.size < (w.alloc (.cells #[.string ⟨#[114, 101, 102]⟩, .string ⟨#[115, 116, 114]⟩, .string ⟨#[99, 111, 110]⟩, .string ⟨#[108, 105, 115]⟩, .string ⟨#[102, 117, 110]⟩] 34)).heap.size := by simp
  clear hw hc hn hk hp hs
  go_enter Tryd.func14, Tryd.ntmps14
  go_wp2_with (go_at_call 8; refine (right_is _ HW.out HC.out _).mono ?_; rintro e w' ⟨rfl, rfl⟩)
  obtain ⟨W, hWe⟩ : ∃ W, w.alloc (.cells #[.string ⟨#[114, 101, 102]⟩, .string ⟨#[115, 116, 114]⟩, .string ⟨#[99, 111, 110]⟩, .string ⟨#[108, 105, 115]⟩, .string ⟨#[102, 117, 110]⟩] 34) = W := ⟨_, rfl⟩
  obtain ⟨g, hge⟩ : ∃ g, w.heap.size = g := ⟨_, rfl⟩
  rw [hWe, hge] at HB
  rw [hWe] at hB HP hlt
  rw [hWe, hge]
  rw [hge] at hlt
  have k0 : W.cell? ⟨g, 4, none⟩ = some (.string ⟨#[102, 117, 110]⟩) := HB.cell 4
  have HBe := Lib.hid hB
  clear hWe hge hB HB
  have HI : ∀ W', Pow W' → Calls Tryd.prog 16 #[.int .i64 n] W' fun e w' => e = .returned (.string s) ∧ Below W'.heap.size W' w' := fun W' h => by
    have := itoa_any n (by omega) (by omega) W' h
    rw [HS.out] at this
    exact this
  have HII := Lib.hid HI
  clear HI
  go_region_held3 (fun w' => w'.cell? ⟨g, 4, none⟩ = some (.string ⟨#[102, 117, 110]⟩)) (first | exact hx5 | exact k0)
    (first
      | (go_at_call 9; refine (kind_is _ HW.out HK.out _).mono ?_; rintro e w' ⟨rfl, rfl⟩)
      | (go_at_call 10; refine (number_is _ HW.out HN.out _).mono ?_; rintro e w' ⟨rfl, rfl⟩)
      | (go_at_call 16; refine (HII.out _ (HP.drewN 1)).mono ?_; rintro e w5 ⟨rfl, hb5⟩; have hx5 : w5.cell? ⟨g, 4, none⟩ = some (.string ⟨#[102, 117, 110]⟩) := (hb5.cell (p := ⟨g, 4, none⟩) hlt).trans k0))
  have HE : Hid (Below w.heap.size w w5) := HBe.out.trans ((below_from_drewN (m := 1) hb5).mono HBe.out.size)
  clear hb5 hx5 k0 hsz
  go_wp2_with fail
  go_ret
  exact ⟨by rw [cellText, HS.out]; rfl, HE.out⟩

/-- What Text says. -/
def cellWords (c : Int) : ByteArray := if cellOk c = true then cellText (cellKind c) (cellNum c) else ⟨#[110, 111, 110, 101]⟩

theorem num_range {c : Int} (hw : (Lit.int .u64 c).wf = true) (hc : cellOk c = true) : 0 ≤ cellNum c ∧ cellNum c < 1099511627776 := by
  have := ok_parts hc
  have hb := u64_bd hw
  rw [cellNum, if_pos hc]
  omega
theorem kind_range {c : Int} (hw : (Lit.int .u64 c).wf = true) (hc : cellOk c = true) : cellKind c = 0 ∨ cellKind c = 1 ∨ cellKind c = 2 ∨ cellKind c = 3 ∨ cellKind c = 4 := by
  have := ok_parts hc
  have hb := u64_bd hw
  rw [cellKind, if_pos hc]
  omega

theorem text_any (c : Int) (hw : (Lit.int .u64 c).wf = true) (w : World) (hp : Pow w) :
    Calls Tryd.prog 14 #[.int .u64 c] w fun e w' => e = .returned (.string (cellWords c)) ∧ Below w.heap.size w w' := by
  by_cases hc : cellOk c = true
  · obtain ⟨n0, n1⟩ := num_range hw hc
    rw [cellWords, if_pos hc]
    rcases kind_range hw hc with hk | hk | hk | hk | hk
    · rw [hk]; exact text_ref c _ hw hc hk rfl n0 n1 w hp
    · rw [hk]; exact text_str c _ hw hc hk rfl n0 n1 w hp
    · rw [hk]; exact text_con c _ hw hc hk rfl n0 n1 w hp
    · rw [hk]; exact text_lis c _ hw hc hk rfl n0 n1 w hp
    · rw [hk]; exact text_fun c _ hw hc hk rfl n0 n1 w hp
  · rw [cellWords, if_neg hc]
    refine (text_no c hw (by simpa using hc) w).mono ?_
    rintro e w' ⟨rfl, rfl⟩
    exact ⟨rfl, Below.refl _ _⟩
end Go.Proofs.YtakbahnmlkphcaaDoor
