/-
  told answers true, in whatever world that holds what it reads; the document's Make, by its plain words.
-/
import Derived.Test.YtgkldglknkeedaaDoorCodeI
namespace Go.Proofs.YtgkldglknkeedaaDoor
open Go Go.RowKit Go.WideShapes Go.ChangeShapes
set_option linter.unusedVariables false

theorem told_text : textOf 1 [17, 2, 0, 0] = [103, 101, 116, 118, 97, 114, 32, 89, 49, 32, 88, 50] := by decide +kernel
theorem told_right : rightB 1 [17, 2, 0, 0] = true := by decide +kernel
theorem told_parse : parseP [115, 119, 105, 116, 99, 104, 32, 51, 32, 45, 32, 52, 32, 53] = some (26, [3, 65535, 4, 5]) := by decide +kernel
theorem told_named : namedOf ⟨#[116, 114, 117, 115, 116]⟩ = 22 := by decide +kernel

theorem made_two (w : World) : IntsAt (w.alloc (.cells #[.int .i64 17, .int .i64 2] 3)) (.slice (some ⟨w.heap.size, 0, none⟩) 2 2) [17, 2] :=
  .inr ⟨w.heap.size, 0, 2, rfl, fun k hk => by
    rw [Nat.zero_add, (Box.new w 3 #[.int .i64 17, .int .i64 2]).cell k]
    match k, hk with
    | 0, _ => rfl
    | 1, _ => rfl⟩

set_option maxRecDepth 100000 in
set_option maxHeartbeats 2000000 in
theorem told_any (w : World) {B : Nat} (hp : LaidC B w) :
    Calls Tryd.prog 6 #[] w fun e w' => e = .returned (.bool true) ∧ Below w.heap.size w w' := by
  have hmake := make_any 1 [17, 2] _ _ (made_two w)
  have hpar := fun (w : World) (hp : LaidC B w) => parse_any ⟨#[115, 119, 105, 116, 99, 104, 32, 51, 32, 45, 32, 52, 32, 53]⟩ (by decide) w hp
  have htxt := fun (w : World) (hp : LaidC B w) => text_any 1 17 2 0 0 w hp
  rw [told_text] at htxt
  have hright := fun (w : World) (hp : NamesAt w) => right_any 1 17 2 0 0 w hp
  rw [told_right] at hright
  have hnamed := fun (w : World) (hp : NamesAt w) => named_any ⟨#[116, 114, 117, 115, 116]⟩ w hp
  rw [told_named] at hnamed
  have hops := fun (w : World) => operands_some 26 4 rfl (by decide) w
  have hpar2 : ∀ (w : World), LaidC B w → Calls Tryd.prog 20 #[.string ⟨#[115, 119, 105, 116, 99, 104, 32, 51, 32, 45, 32, 52, 32, 53]⟩] w fun e w' => e = .returned (.tuple #[insV 26 3 65535 4 5, .int .i64 0]) ∧ Below w.heap.size w w' := fun w hp => (hpar w hp).mono fun e w' h => by
    obtain ⟨h1, h2⟩ := h
    have h3 : parseP (⟨#[115, 119, 105, 116, 99, 104, 32, 51, 32, 45, 32, 52, 32, 53]⟩ : ByteArray).data.toList = some (26, [3, 65535, 4, 5]) := told_parse
    rw [h3] at h1
    exact ⟨h1, h2⟩
  have hmake2 : Calls Tryd.prog 17 #[.int .i64 1, .slice (some ⟨w.heap.size, 0, none⟩) 2 2] (w.alloc (.cells #[.int .i64 17, .int .i64 2] 3)) fun e w' => e = .returned (insV 1 17 2 0 0) ∧ Below (w.alloc (.cells #[.int .i64 17, .int .i64 2] 3)).heap.size (w.alloc (.cells #[.int .i64 17, .int .i64 2] 3)) w' := hmake
  unfold insV at htxt hright hpar2 hmake2
  unfold bs at htxt
  have HMAKE := Lib.hid hmake2
  have HPAR := Lib.hid hpar2
  have HTXT := Lib.hid htxt
  have HRIGHT := Lib.hid hright
  have HNAMED := Lib.hid hnamed
  have HOPS := Lib.hid hops
  have HP := Lib.hid hp
  clear hmake hmake2 hpar hpar2 htxt hright hnamed hops hp
  go_enter Tryd.func6, Tryd.ntmps6
  go_wp2_with fail
  refine HMAKE.out.mono ?_
  rintro e w1 ⟨rfl, hb1⟩
  have hB1 : Below w.heap.size w w1 := (alloc_below w _).trans (hb1.mono (by simp))
  have hB2 := hB1.trans (Below.mono (alloc_below w1 (.cells #[.int .i64 1, .int .i64 17, .int .i64 2, .int .i64 0, .int .i64 0] 27)) hB1.size)
  have hbx := Box.new w1 27 #[.int .i64 1, .int .i64 17, .int .i64 2, .int .i64 0, .int .i64 0]
  have HB2 := Lib.hid hB2
  have HP2 := Lib.hid (HP.out.up hB2)
  have HBX := Lib.hid hbx
  clear hb1 hB1 hB2 hbx
  go_wp2_with fail
  refine (HPAR.out _ HP2.out).mono ?_
  rintro e w2 ⟨rfl, hb2⟩
  have hbx2 := HBX.out.below hb2 HBX.out.lt
  have hB3 := HB2.out.trans (hb2.mono HB2.out.size)
  have hB4 := hB3.trans (Below.mono (alloc_below w2 (.cells #[.int .i64 26, .int .i64 3, .int .i64 65535, .int .i64 4, .int .i64 5] 27)) hB3.size)
  have hbx4 := hbx2.alloc (.cells #[.int .i64 26, .int .i64 3, .int .i64 65535, .int .i64 4, .int .i64 5] 27)
  have hby4 := Box.new w2 27 #[.int .i64 26, .int .i64 3, .int .i64 65535, .int .i64 4, .int .i64 5]
  have c0 := hbx2.cell 0
  have c1 := hbx2.cell 1
  have c2 := hbx2.cell 2
  have c3 := hbx2.cell 3
  have c4 := hbx2.cell 4
  have hlt : w1.heap.size < w2.heap.size := hbx2.lt
  have HB4 := Lib.hid hB4
  have HP4 := Lib.hid (HP.out.up hB4)
  have HBX4 := Lib.hid hbx4
  have HBY4 := Lib.hid hby4
  clear hb2 hbx2 hB3 hB4 hbx4 hby4
  go_wp2_with fail
  refine (HTXT.out _ HP4.out).mono ?_
  rintro e w5 ⟨rfl, hb5⟩
  have hbx5 := HBX4.out.below hb5 HBX4.out.lt
  have hby5 := HBY4.out.below hb5 HBY4.out.lt
  have hB5 := HB4.out.trans (hb5.mono HB4.out.size)
  have d0 := hbx5.cell 0
  have d1 := hbx5.cell 1
  have d2 := hbx5.cell 2
  have d3 := hbx5.cell 3
  have d4 := hbx5.cell 4
  have HBX5 := Lib.hid hbx5
  have HBY5 := Lib.hid hby5
  have HB5 := Lib.hid hB5
  have HP5 := Lib.hid (HP.out.up hB5)
  clear hb5 hbx5 hby5 hB5 c0 c1 c2 c3 c4
  go_wp2_with fail
  refine (HRIGHT.out _ HP5.out.names).mono ?_
  rintro e w6 ⟨rfl, hb6⟩
  have hby6 := HBY5.out.below hb6 HBY5.out.lt
  have hB6 := HB5.out.trans (hb6.mono HB5.out.size)
  have f0 := hby6.cell 0
  have f2 := hby6.cell 2
  have HB6 := Lib.hid hB6
  have HP6 := Lib.hid (HP.out.up hB6)
  clear hb6 hby6 hB6 d0 d1 d2 d3 d4
  go_wp2_with fail
  refine (HNAMED.out _ HP6.out.names).mono ?_
  rintro e w' ⟨rfl, rfl⟩
  go_wp2_with fail
  refine (HOPS.out _).mono ?_
  rintro e w7 ⟨rfl, hw7⟩
  have hB7 : Below w.heap.size w w7 := by rw [← hw7]; exact HB6.out.alloc HB6.out.size _
  have HB7 := Lib.hid hB7
  clear hw7 hB7
  go_wp2_with fail
  go_ret
  exact ⟨by simp, HB7.out⟩

end Go.Proofs.YtgkldglknkeedaaDoor
