/-
  The law TermRights, by a contract over a value that reads as a tree. Conditions: the library's variables as laid.
-/
import Derived.Test.YtbahpmmcmbfjgaaDoorTold
import Derived.Test.YtbahpmmcmbfjgaaDoorTermC
import Derived.Test.YtbahpmmcmbfjgaaDoorRightB
import Derived.Test.YtbahpmmcmbfjgaaDoorOpen
namespace Go.Proofs.YtbahpmmcmbfjgaaDoor
open Go Go.RowKit
set_option linter.unusedVariables false
set_option linter.unusedSimpArgs false

mutual
theorem same_refl : ∀ t : Tm, t.same t = true
  | .node k n s l => by simp [Tm.same, sames_refl l]
theorem sames_refl : ∀ l : List Tm, sames l l = true
  | [] => by simp [sames]
  | t :: r => by simp [sames, same_refl t, sames_refl r]
end
mutual
theorem few_size : ∀ (t : Tm) (d m : Int), 0 ≤ t.few d m → (t.size : Int) ≤ m - t.few d m
  | .node k n s l, d, m => by
    rw [Tm.few, size_node]
    split
    · intro h; omega
    · intro h
      have := fews_size l (d - 1) (m - 1 - (s.size : Int) / 40) h
      omega
theorem fews_size : ∀ (l : List Tm) (d m : Int), 0 ≤ fews l d m → (sizes l : Int) ≤ m - fews l d m
  | [], d, m => by rw [fews]; intro h; simp [sizes]
  | t :: r, d, m => by
    rw [fews]
    split
    · intro h; omega
    · intro h
      have h1 := few_size t d m (by omega)
      have h2 := fews_size r d (t.few d m) h
      simp only [sizes]
      omega
end

/-- A term in two boxes, as the law's last statement finds them. -/
structure RK (w0 W : World) (m gt gx F : Nat) (t : Tm) (vt vx : Array Value) : Prop where
  bt : Box W gt 24 vt
  bx : Box W gx 29 vx
  rt : Reads W (fun b => b < m) F t (.agg vt)
  rx : Reads W (fun b => b < m) F t (.agg vx)
  le : m ≤ W.heap.size
  bl : Below w0.heap.size w0 W
theorem RK.below {w0 W W' : World} {m gt gx F : Nat} {t : Tm} {vt vx : Array Value} (h : RK w0 W m gt gx F t vt vx) (hb : Below W.heap.size W W') : RK w0 W' m gt gx F t vt vx :=
  ⟨h.bt.below hb h.bt.lt, h.bx.below hb h.bx.lt, h.rt.below hb (fun b hb => Nat.lt_of_lt_of_le hb h.le), h.rx.below hb (fun b hb => Nat.lt_of_lt_of_le hb h.le), Nat.le_trans h.le hb.size, h.bl.trans (hb.mono h.bl.size)⟩
theorem RK.cells {w0 w' : World} {m gt gx F : Nat} {t : Tm} {k n : Int} {s : ByteArray} {A : Option Addr} {l c : Nat} {k5 n5 : Int} {s5 : ByteArray} {A5 : Option Addr} {l5 c5 : Nat} (h : RK w0 w' m gt gx F t #[.int .i64 k, .int .i64 n, .string s, .slice A l c] #[.int .i64 k5, .int .i64 n5, .string s5, .slice A5 l5 c5]) : (w'.cell? ⟨gt, 0, none⟩ = some (.int .i64 k) ∧ w'.cell? ⟨gt, 1, none⟩ = some (.int .i64 n) ∧ w'.cell? ⟨gt, 2, none⟩ = some (.string s) ∧ w'.cell? ⟨gt, 3, none⟩ = some (.slice A l c)) ∧ w'.cell? ⟨gx, 0, none⟩ = some (.int .i64 k5) ∧ w'.cell? ⟨gx, 1, none⟩ = some (.int .i64 n5) ∧ w'.cell? ⟨gx, 2, none⟩ = some (.string s5) ∧ w'.cell? ⟨gx, 3, none⟩ = some (.slice A5 l5 c5) :=
  ⟨⟨h.bt.cell 0, h.bt.cell 1, h.bt.cell 2, h.bt.cell 3⟩, h.bx.cell 0, h.bx.cell 1, h.bx.cell 2, h.bx.cell 3⟩

set_option maxHeartbeats 4000000 in
set_option maxRecDepth 100000 in
theorem rights_any {F : Nat} {t : Tm} {v : Value} {w : World} {B : Nat} (hr : Reads w (fun b => b < w.heap.size) F t v) (hL : Laid B w) :
    Calls Tryd.prog 3 #[v] w fun e w' => e = .returned (.bool true) ∧ Below w.heap.size w w' := by
  obtain ⟨k, n, s, A, l, c, rfl⟩ := hr.form
  have HRt := Lib.hid (hr.alloc (fun b hb => hb) (.cells #[.int .i64 k, .int .i64 n, .string s, .slice A l c] 24))
  have HBX := Lib.hid (Box.new w 24 #[.int .i64 k, .int .i64 n, .string s, .slice A l c])
  have HB0 := Lib.hid ((Below.refl w.heap.size w).alloc (Nat.le_refl _) (.cells #[.int .i64 k, .int .i64 n, .string s, .slice A l c] 24))
  have HL0 := Lib.hid (hL.below HB0.out hL.size)
  have hfb := few_le t 30 200 (by omega)
  have hfs := few_size t 30 200
  have HFS := Lib.hid hfs
  have HFW := Lib.hid (few_any F t (.agg #[.int .i64 k, .int .i64 n, .string s, .slice A l c]) (w.alloc (.cells #[.int .i64 k, .int .i64 n, .string s, .slice A l c] 24)) _ 30 200 HRt.out (fun b hb => by have := HB0.out.size; omega) (by omega) (by omega) (by omega) (by omega))
  obtain ⟨gt, hgt⟩ : ∃ gt, w.heap.size = gt := ⟨_, rfl⟩
  have HSZ : Hid ((w.alloc (.cells #[.int .i64 k, .int .i64 n, .string s, .slice A l c] 24)).heap.size = gt + 1) := by show _ = _; rw [← hgt]; simp
  obtain ⟨wa, hwa⟩ : ∃ wa, w.alloc (.cells #[.int .i64 k, .int .i64 n, .string s, .slice A l c] 24) = wa := ⟨_, rfl⟩
  have HGT := Lib.hid hgt
  have HWA := Lib.hid hwa
  obtain ⟨z, hz⟩ : ∃ z, t.few 30 200 = z := ⟨_, rfl⟩
  rw [hwa] at HRt HBX HB0 HL0 HSZ HFW
  rw [hgt] at HBX
  rw [hz] at HFW HFS hfb
  clear hwa hgt hz hr hL hfs
  by_cases hneg : z < 0
  · go_enter Tryd.func3, Tryd.ntmps3
    go_upto_region 1 with (fail)
    rw [HWA.out, HGT.out]
    have x0 : wa.cell? ⟨gt, 0, none⟩ = some (.int .i64 k) := HBX.out.cell 0
    have x1 : wa.cell? ⟨gt, 1, none⟩ = some (.int .i64 n) := HBX.out.cell 1
    have x2 : wa.cell? ⟨gt, 2, none⟩ = some (.string s) := HBX.out.cell 2
    have x3 : wa.cell? ⟨gt, 3, none⟩ = some (.slice A l c) := HBX.out.cell 3
    go_wp2_with (first
      | (go_at_call 6; refine HFW.out.mono ?_; rintro e w1 ⟨rfl, hb1⟩; have HB1 := Lib.hid (HB0.out.trans (hb1.mono HB0.out.size)); have HL1 := Lib.hid (HL0.out.below hb1 HL0.out.size); clear hb1 x0 x1 x2 x3)
      | (go_at_call 7; refine (told_any HL1.out).mono ?_; rintro e w2 ⟨rfl, hb2⟩; have HB2 := Lib.hid (HB1.out.trans (hb2.mono HB1.out.size))))
    go_ret
    exact ⟨rfl, HB2.out⟩
  · have hsize : t.size ≤ 200 := by
      have := HFS.out (by omega)
      omega
    have HSI := Lib.hid hsize
    clear hsize hfb
    obtain ⟨zr, hzr⟩ : ∃ zr, t.right = zr := ⟨_, rfl⟩
    have HZR := Lib.hid hzr
    clear hzr
    go_enter Tryd.func3, Tryd.ntmps3
    go_upto_region 1 with (fail)
    rw [HWA.out, HGT.out]
    have x0 : wa.cell? ⟨gt, 0, none⟩ = some (.int .i64 k) := HBX.out.cell 0
    have x1 : wa.cell? ⟨gt, 1, none⟩ = some (.int .i64 n) := HBX.out.cell 1
    have x2 : wa.cell? ⟨gt, 2, none⟩ = some (.string s) := HBX.out.cell 2
    have x3 : wa.cell? ⟨gt, 3, none⟩ = some (.slice A l c) := HBX.out.cell 3
    go_wp2_with (first
      | (go_at_call 6; refine HFW.out.mono ?_; rintro e w1 ⟨rfl, hb1⟩; have HB1 := Lib.hid (HB0.out.trans (hb1.mono HB0.out.size)); have HL1 := Lib.hid (HL0.out.below hb1 HL0.out.size); have HR1 := Lib.hid (HRt.out.below hb1 (fun b hb => by have := HB0.out.size; omega)); have HX1 := Lib.hid (HBX.out.below hb1 HBX.out.lt); clear hb1 x0 x1 x2 x3; have x0 : w1.cell? ⟨gt, 0, none⟩ = some (.int .i64 k) := HX1.out.cell 0; have x1 : w1.cell? ⟨gt, 1, none⟩ = some (.int .i64 n) := HX1.out.cell 1; have x2 : w1.cell? ⟨gt, 2, none⟩ = some (.string s) := HX1.out.cell 2; have x3 : w1.cell? ⟨gt, 3, none⟩ = some (.slice A l c) := HX1.out.cell 3)
      | (go_at_call 8; refine (to_any F t _ _ _ HR1.out (fun b hb => by have := HB1.out.size; omega) (by have := HSI.out; omega)).mono ?_; intro e w2 hc2; obtain ⟨v2, rfl, hr2, hb2⟩ := hc2; obtain ⟨k5, n5, s5, A5, l5, c5, hv2⟩ := hr2.form; rw [hv2] at hr2; rw [hv2]; clear hv2; have HR2 := Lib.hid hr2; have HB2 := Lib.hid hb2; clear hr2 hb2))
    have hk0 : RK w (w2.alloc (.cells #[.int .i64 k5, .int .i64 n5, .string s5, .slice A5 l5 c5] 29)) (w2.alloc (.cells #[.int .i64 k5, .int .i64 n5, .string s5, .slice A5 l5 c5] 29)).heap.size gt w2.heap.size F t #[.int .i64 k, .int .i64 n, .string s, .slice A l c] #[.int .i64 k5, .int .i64 n5, .string s5, .slice A5 l5 c5] := by
      have hb3 : Below w1.heap.size w1 (w2.alloc (.cells #[.int .i64 k5, .int .i64 n5, .string s5, .slice A5 l5 c5] 29)) := HB2.out.alloc HB2.out.size _
      have hs3 := hb3.size
      have hs1 := HB1.out.size
      refine ⟨HX1.out.below hb3 HX1.out.lt, Box.new w2 29 #[.int .i64 k5, .int .i64 n5, .string s5, .slice A5 l5 c5], (HR1.out.below hb3 (fun b hb => by omega)).more (fun b hb => by omega), (HR2.out.alloc (fun b hb => hb.2) _).more (fun b hb => by simp; omega), Nat.le_refl _, HB1.out.trans (hb3.mono hs1)⟩
    have HK0 := Lib.hid hk0
    have HL2 := Lib.hid (HL1.out.below (HB2.out.alloc HB2.out.size (.cells #[.int .i64 k5, .int .i64 n5, .string s5, .slice A5 l5 c5] 29)) HL1.out.size)
    obtain ⟨gx, hgx⟩ : ∃ gx, w2.heap.size = gx := ⟨_, rfl⟩
    obtain ⟨m, hm⟩ : ∃ m, (w2.alloc (.cells #[.int .i64 k5, .int .i64 n5, .string s5, .slice A5 l5 c5] 29)).heap.size = m := ⟨_, rfl⟩
    obtain ⟨w3, hw3⟩ : ∃ w3, w2.alloc (.cells #[.int .i64 k5, .int .i64 n5, .string s5, .slice A5 l5 c5] 29) = w3 := ⟨_, rfl⟩
    rw [hm, hw3, hgx] at HK0
    rw [hw3] at HL2
    rw [hw3, hgx]
    clear hk0 hgx hm hw3 HR1 HR2 HX1 HB1 HB2 HB0 HBX HRt HL0 HL1 HFW HFS x0 x1 x2 x3 hneg
    have hS0 := HK0.out.cells
    have HKD := Lib.hid (HK0.out.below (⟨rfl, rfl, rfl, Nat.le_refl _, fun _ _ => rfl⟩ : Below w3.heap.size w3 (w3.drewN 1)))
    have HLD := Lib.hid (HL2.out.below (⟨rfl, rfl, rfl, Nat.le_refl _, fun _ _ => rfl⟩ : Below w3.heap.size w3 (w3.drewN 1)) HL2.out.size)
    cases zr
    all_goals
      go_region_held3 (fun w' => (w'.cell? ⟨gt, 0, none⟩ = some (.int .i64 k) ∧ w'.cell? ⟨gt, 1, none⟩ = some (.int .i64 n) ∧ w'.cell? ⟨gt, 2, none⟩ = some (.string s) ∧ w'.cell? ⟨gt, 3, none⟩ = some (.slice A l c)) ∧ w'.cell? ⟨gx, 0, none⟩ = some (.int .i64 k5) ∧ w'.cell? ⟨gx, 1, none⟩ = some (.int .i64 n5) ∧ w'.cell? ⟨gx, 2, none⟩ = some (.string s5) ∧ w'.cell? ⟨gx, 3, none⟩ = some (.slice A5 l5 c5))
        (first | exact hSF | exact hSR2 | exact hSR1 | exact hST | exact hS0)
        (first
          | (go_at_call 7; refine (told_any HLD.out).mono ?_; rintro e w4 ⟨rfl, hb4⟩; have HK4 := Lib.hid (HKD.out.below hb4); have hST := HK4.out.cells; clear hb4)
          | (go_at_call 9; first
              | (refine (tRight_tree F t _ _ _ HK4.out.rx (fun b hb => Nat.lt_of_lt_of_le hb HK4.out.le)).mono ?_; rw [HZR.out]; rintro e w5 ⟨rfl, hb5⟩; have HK5 := Lib.hid (HK4.out.below hb5); have hSR1 := HK5.out.cells; clear hb5)
              | (refine (tRight_tree F t _ _ _ HK5.out.rx (fun b hb => Nat.lt_of_lt_of_le hb HK5.out.le)).mono ?_; rw [HZR.out]; rintro e w6 ⟨rfl, hb6⟩; have HK6 := Lib.hid (HK5.out.below hb6); have hSR2 := HK6.out.cells; clear hb6))
          | (go_at_call 10; first
              | (refine (refRight_tree F t _ _ _ HK4.out.rt (fun b hb => Nat.lt_of_lt_of_le hb HK4.out.le)).mono ?_; rw [HZR.out]; rintro e w5 ⟨rfl, hb5⟩; have HK5 := Lib.hid (HK4.out.below hb5); have hSR1 := HK5.out.cells; clear hb5)
              | (refine (refRight_tree F t _ _ _ HK5.out.rt (fun b hb => Nat.lt_of_lt_of_le hb HK5.out.le)).mono ?_; rw [HZR.out]; rintro e w6 ⟨rfl, hb6⟩; have HK6 := Lib.hid (HK5.out.below hb6); have hSR2 := HK6.out.cells; clear hb6))
          | (go_at_call 12; refine (from_any F t _ _ _ HK6.out.rx (fun b hb => Nat.lt_of_lt_of_le hb HK6.out.le) (by have := HSI.out; omega)).mono ?_; intro e w7 hc7; obtain ⟨v7, rfl, hr7, hb7⟩ := hc7; obtain ⟨k7, n7, s7, A7, l7, c7, hv7⟩ := hr7.form; rw [hv7] at hr7; rw [hv7]; clear hv7; have HR7 := Lib.hid (hr7.more (S' := fun b => b < w7.heap.size) (fun b hb => hb.2)); have HK7 := Lib.hid (HK6.out.below hb7); have hSF := HK7.out.cells; clear hr7 hb7)
          | (go_at_call 11; refine (refSame_any F t t _ _ _ (fun b => b < w7.heap.size) HR7.out (HK7.out.rt.more (fun b hb => Nat.lt_of_lt_of_le hb HK7.out.le)) (fun b hb => hb)).mono ?_; rw [same_refl]; rintro e w8 ⟨rfl, hb8⟩; have HK8 := Lib.hid (HK7.out.below hb8); have hSF := HK8.out.cells; clear hb8))
      all_goals
        go_wp2_with (fail)
        go_ret
        exact ⟨rfl, HK8.out.bl⟩
end Go.Proofs.YtbahpmmcmbfjgaaDoor
