/-
  The statement CodeRights: in whatever world that holds what the calls read, of whatever instruction: true; new memory alone.
-/
import Derived.Test.YtgkldglknkeedaaDoorCodeP
import Derived.Test.YtgkldglknkeedaaDoorCodeJ
import Derived.Deep.RegionHeld3
namespace Go.Proofs.YtgkldglknkeedaaDoor
open Go Go.RowKit Go.WideShapes Go.ChangeShapes
set_option linter.unusedVariables false

/-- The statement's own box, what the calls read, and what was there. -/
structure RK (B B0 : Nat) (op a b c d : Int) (w0 w : World) : Prop where
  rb : RBox B op a b c d w0 w
  laid : LaidC B0 w
theorem RK.up {B B0 : Nat} {op a b c d : Int} {w0 w w' : World} (h : RK B B0 op a b c d w0 w) (hb : Below w.heap.size w w') : RK B B0 op a b c d w0 w' := ⟨h.rb.up hb, h.laid.up hb⟩
theorem bdrew (W : World) (n : Nat) : Below W.heap.size W (W.drewN n) := ⟨rfl, rfl, rfl, Nat.le_refl _, fun _ _ => rfl⟩
theorem RK.cells {B B0 : Nat} {op a b c d : Int} {w0 w : World} (h : RK B B0 op a b c d w0 w) : w.cell? ⟨B, 0, none⟩ = some (.int .i64 op) ∧ w.cell? ⟨B, 1, none⟩ = some (.int .i64 a) ∧ w.cell? ⟨B, 2, none⟩ = some (.int .i64 b) ∧ w.cell? ⟨B, 3, none⟩ = some (.int .i64 c) ∧ w.cell? ⟨B, 4, none⟩ = some (.int .i64 d) :=
  ⟨h.rb.ins.cell 0, h.rb.ins.cell 1, h.rb.ins.cell 2, h.rb.ins.cell 3, h.rb.ins.cell 4⟩
theorem ints_none (w : World) : IntsAt w (.slice none 0 0) [] := .inl ⟨rfl, _, _, rfl⟩
theorem ints_true {w : World} {u v : Value} {xs : List Int} (hx : xs.length ≤ 1000000) (hu : IntsAt w u xs) (hv : IntsAt w v xs) :
    Calls Tryd.prog 10 #[u, v] w fun e w' => e = .returned (.bool true) ∧ Below w.heap.size w w' :=
  (ints_same hx hu hv).mono fun e w' h => ⟨h.1, by obtain ⟨_, m, rfl⟩ := h; exact bdrew w m⟩
theorem ints_new (w : World) (l : List Int) (n : Nat) (hn : l.length = n) : IntsAt (w.alloc (.cells (l.map (Value.int .i64)).toArray 3)) (.slice (some ⟨w.heap.size, 0, none⟩) n n) l := by
  subst hn
  refine .inr ⟨w.heap.size, 0, _, rfl, fun k hk => ?_⟩
  rw [Nat.zero_add, (Box.new w 3 (l.map (Value.int .i64)).toArray).cell k]
  simp [List.getD_eq_getElem?_getD, hk]

set_option maxRecDepth 100000 in
set_option maxHeartbeats 8000000 in
theorem rights_none (op a b c d : Int) (ho : opsOf op = []) (w : World) {B : Nat} (hp : LaidC B w) :
    Calls Tryd.prog 3 #[insV op a b c d] w fun e w' => e = .returned (.bool true) ∧ Below w.heap.size w w' := by
  have hk0 : RK w.heap.size B op a b c d w (w.alloc (.cells #[.int .i64 op, .int .i64 a, .int .i64 b, .int .i64 c, .int .i64 d] 24)) := ⟨⟨Box.new w _ _, alloc_below w _⟩, hp.up (alloc_below w _)⟩
  have hTO := fun w => to_any op a b c d w
  have hRI := fun w (hw : NamesAt w) => right_any op a b c d w hw
  have hRR := fun w => rright_any op a b c d w
  have hTX := fun w (hp : LaidC B w) => text_any op a b c d w hp
  have hRT := fun w => rtext_any op a b c d w
  have hNA := fun w (hw : NamesAt w) => name_any op w hw
  have hRN := fun w => rname_any op w
  have hfew := ops_few op
  generalize rightB op [a, b, c, d] = r at hRI hRR
  generalize bs (textOf op [a, b, c, d]) = tx at hTX hRT
  generalize nameOf op = nm at hNA hRN
  have HOP := Lib.hid (fun w => operands_none op ho w)
  have HRO := Lib.hid (fun w => roperands_none op ho w)
  clear ho
  unfold insV at hTO hRI hRR hTX hRT ⊢
  have HTO := Lib.hid hTO
  have HRI := Lib.hid hRI
  have HRR := Lib.hid hRR
  have HTX := Lib.hid hTX
  have HRT := Lib.hid hRT
  have HNA := Lib.hid hNA
  have HRN := Lib.hid hRN
  have HK0 := Lib.hid hk0
  have HFEW := Lib.hid hfew
  clear hk0 hTO hRI hRR hTX hRT hNA hRN hp hfew
  go_enter Tryd.func3, Tryd.ntmps3
  go_upto_region 1 with (fail)
  obtain ⟨w1, hw1⟩ : ∃ w1, w.alloc (.cells #[.int .i64 op, .int .i64 a, .int .i64 b, .int .i64 c, .int .i64 d] 24) = w1 := ⟨_, rfl⟩
  rw [hw1] at HK0 ⊢
  obtain ⟨g, hg⟩ : ∃ g, w.heap.size = g := ⟨_, rfl⟩
  rw [hg] at HK0
  have HG := Lib.hid hg
  rw [hg]
  have HK := Lib.hid (HK0.out.up (bdrew w1 1))
  have hS := HK0.out.cells
  clear hw1 HK0 hg
  go_region_held3 (fun w' => w'.cell? ⟨g, 0, none⟩ = some (.int .i64 op) ∧ w'.cell? ⟨g, 1, none⟩ = some (.int .i64 a) ∧ w'.cell? ⟨g, 2, none⟩ = some (.int .i64 b) ∧ w'.cell? ⟨g, 3, none⟩ = some (.int .i64 c) ∧ w'.cell? ⟨g, 4, none⟩ = some (.int .i64 d))
    (exact hS)
    (first
      | (go_at_call 6; refine (told_any _ HK.out.laid).mono ?_; rintro e w2 ⟨rfl, hb⟩; replace HK := Lib.hid (HK.out.up hb); replace hS := HK.out.cells; clear hb)
      | (go_at_call 8; refine (HTO.out _).mono ?_; rintro e w2 ⟨rfl, hb⟩; replace HK := Lib.hid (HK.out.up hb); replace hS := HK.out.cells; clear hb)
      | (go_at_call 7; refine (HRI.out _ HK.out.laid.names).mono ?_; rintro e w2 ⟨rfl, hb⟩; replace HK := Lib.hid (HK.out.up hb); replace hS := HK.out.cells; clear hb)
      | (go_at_call 9; refine (HRR.out _).mono ?_; rintro e w2 ⟨rfl, hb⟩; replace HK := Lib.hid (HK.out.up hb); replace hS := HK.out.cells; clear hb)
      | (go_at_call 13; refine (HNA.out _ HK.out.laid.names).mono ?_; rintro e w2 ⟨rfl, rfl⟩)
      | (go_at_call 14; refine (HRN.out _).mono ?_; rintro e w2 ⟨rfl, hb⟩; replace HK := Lib.hid (HK.out.up hb); replace hS := HK.out.cells; clear hb)
      | (go_at_call 15; refine (HTX.out _ HK.out.laid).mono ?_; rintro e w2 ⟨rfl, hb⟩; replace HK := Lib.hid (HK.out.up hb); replace hS := HK.out.cells; clear hb)
      | (go_at_call 16; refine (HRT.out _).mono ?_; rintro e w2 ⟨rfl, hb⟩; replace HK := Lib.hid (HK.out.up hb); replace hS := HK.out.cells; clear hb)
      | (go_at_call 11; refine (HOP.out _).mono ?_; rintro e w2 ⟨rfl, rfl⟩)
      | (go_at_call 12; refine (HRO.out _).mono ?_; rintro e w2 ⟨rfl, rfl⟩)
      | (go_at_call 10; refine (ints_true (xs := []) (by decide) (ints_none _) (ints_none _)).mono ?_; rintro e w2 ⟨rfl, hb⟩; replace HK := Lib.hid (HK.out.up hb); replace hS := HK.out.cells; clear hb))
  go_wp2
  go_ret
  exact ⟨by simp, by rw [HG.out]; exact HK.out.rb.below⟩

set_option maxRecDepth 100000 in
set_option maxHeartbeats 8000000 in
theorem rights_some (op a b c d : Int) (n : Nat) (hn : (opsOf op).length = n) (hn0 : 0 < n) (w : World) {B : Nat} (hp : LaidC B w) :
    Calls Tryd.prog 3 #[insV op a b c d] w fun e w' => e = .returned (.bool true) ∧ Below w.heap.size w w' := by
  have hk0 : RK w.heap.size B op a b c d w (w.alloc (.cells #[.int .i64 op, .int .i64 a, .int .i64 b, .int .i64 c, .int .i64 d] 24)) := ⟨⟨Box.new w _ _, alloc_below w _⟩, hp.up (alloc_below w _)⟩
  have hTO := fun w => to_any op a b c d w
  have hRI := fun w (hw : NamesAt w) => right_any op a b c d w hw
  have hRR := fun w => rright_any op a b c d w
  have hTX := fun w (hp : LaidC B w) => text_any op a b c d w hp
  have hRT := fun w => rtext_any op a b c d w
  have hNA := fun w (hw : NamesAt w) => name_any op w hw
  have hRN := fun w => rname_any op w
  have hfew := ops_few op
  generalize rightB op [a, b, c, d] = r at hRI hRR
  generalize bs (textOf op [a, b, c, d]) = tx at hTX hRT
  generalize nameOf op = nm at hNA hRN
  have hop := fun w => (operands_some op n hn hn0 w).mono (R' := fun e w' => e = .returned (.slice (some ⟨w.heap.size, 0, none⟩) n n) ∧ IntsAt w' (.slice (some ⟨w.heap.size, 0, none⟩) n n) (opsOf op) ∧ Below w.heap.size w w') (fun e w' h => ⟨h.1, by rw [← h.2]; exact ints_new w (opsOf op) n hn, by rw [← h.2]; exact alloc_below w _⟩)
  have hro := fun w => (roperands_some op n hn hn0 w).mono (R' := fun e w' => e = .returned (.slice (some ⟨w.heap.size, 0, none⟩) n n) ∧ IntsAt w' (.slice (some ⟨w.heap.size, 0, none⟩) n n) (opsOf op) ∧ Below w.heap.size w w') (fun e w' h => ⟨h.1, by rw [← h.2]; exact ints_new w (opsOf op) n hn, by rw [← h.2]; exact alloc_below w _⟩)
  have hfew2 : (opsOf op).length ≤ 1000000 := by omega
  have HOP := Lib.hid hop
  have HRO := Lib.hid hro
  have HFEW2 := Lib.hid hfew2
  clear hn hn0 hop hro hfew2
  unfold insV at hTO hRI hRR hTX hRT ⊢
  have HTO := Lib.hid hTO
  have HRI := Lib.hid hRI
  have HRR := Lib.hid hRR
  have HTX := Lib.hid hTX
  have HRT := Lib.hid hRT
  have HNA := Lib.hid hNA
  have HRN := Lib.hid hRN
  have HK0 := Lib.hid hk0
  have HFEW := Lib.hid hfew
  clear hk0 hTO hRI hRR hTX hRT hNA hRN hp hfew
  go_enter Tryd.func3, Tryd.ntmps3
  go_upto_region 1 with (fail)
  obtain ⟨w1, hw1⟩ : ∃ w1, w.alloc (.cells #[.int .i64 op, .int .i64 a, .int .i64 b, .int .i64 c, .int .i64 d] 24) = w1 := ⟨_, rfl⟩
  rw [hw1] at HK0 ⊢
  obtain ⟨g, hg⟩ : ∃ g, w.heap.size = g := ⟨_, rfl⟩
  rw [hg] at HK0
  have HG := Lib.hid hg
  rw [hg]
  have HK := Lib.hid (HK0.out.up (bdrew w1 1))
  have hS := HK0.out.cells
  clear hw1 HK0 hg
  go_region_held3 (fun w' => w'.cell? ⟨g, 0, none⟩ = some (.int .i64 op) ∧ w'.cell? ⟨g, 1, none⟩ = some (.int .i64 a) ∧ w'.cell? ⟨g, 2, none⟩ = some (.int .i64 b) ∧ w'.cell? ⟨g, 3, none⟩ = some (.int .i64 c) ∧ w'.cell? ⟨g, 4, none⟩ = some (.int .i64 d))
    (exact hS)
    (first
      | (go_at_call 6; refine (told_any _ HK.out.laid).mono ?_; rintro e w2 ⟨rfl, hb⟩; replace HK := Lib.hid (HK.out.up hb); replace hS := HK.out.cells; clear hb)
      | (go_at_call 8; refine (HTO.out _).mono ?_; rintro e w2 ⟨rfl, hb⟩; replace HK := Lib.hid (HK.out.up hb); replace hS := HK.out.cells; clear hb)
      | (go_at_call 7; refine (HRI.out _ HK.out.laid.names).mono ?_; rintro e w2 ⟨rfl, hb⟩; replace HK := Lib.hid (HK.out.up hb); replace hS := HK.out.cells; clear hb)
      | (go_at_call 9; refine (HRR.out _).mono ?_; rintro e w2 ⟨rfl, hb⟩; replace HK := Lib.hid (HK.out.up hb); replace hS := HK.out.cells; clear hb)
      | (go_at_call 13; refine (HNA.out _ HK.out.laid.names).mono ?_; rintro e w2 ⟨rfl, rfl⟩)
      | (go_at_call 14; refine (HRN.out _).mono ?_; rintro e w2 ⟨rfl, hb⟩; replace HK := Lib.hid (HK.out.up hb); replace hS := HK.out.cells; clear hb)
      | (go_at_call 15; refine (HTX.out _ HK.out.laid).mono ?_; rintro e w2 ⟨rfl, hb⟩; replace HK := Lib.hid (HK.out.up hb); replace hS := HK.out.cells; clear hb)
      | (go_at_call 16; refine (HRT.out _).mono ?_; rintro e w2 ⟨rfl, hb⟩; replace HK := Lib.hid (HK.out.up hb); replace hS := HK.out.cells; clear hb)
      | (go_at_call 11; refine (HOP.out _).mono ?_; rintro e w2 ⟨rfl, hu, hb⟩; have HU := Lib.hid hu; clear hu; replace HK := Lib.hid (HK.out.up hb); replace hS := HK.out.cells; clear hb)
      | (go_at_call 12; refine (HRO.out _).mono ?_; rintro e w2 ⟨rfl, hv, hb⟩; have HV := Lib.hid hv; replace HU := Lib.hid (HU.out.below hb); clear hv; replace HK := Lib.hid (HK.out.up hb); replace hS := HK.out.cells; clear hb)
      | (go_at_call 10; refine (ints_true HFEW2.out HU.out HV.out).mono ?_; rintro e w2 ⟨rfl, hb⟩; replace HK := Lib.hid (HK.out.up hb); replace hS := HK.out.cells; clear hb))
  go_wp2
  go_ret
  exact ⟨by simp, by rw [HG.out]; exact HK.out.rb.below⟩

theorem rights_any (op a b c d : Int) (w : World) {B : Nat} (hp : LaidC B w) :
    Calls Tryd.prog 3 #[insV op a b c d] w fun e w' => e = .returned (.bool true) ∧ Below w.heap.size w w' := by
  by_cases ho : opsOf op = []
  · exact rights_none op a b c d ho w hp
  · exact rights_some op a b c d _ rfl (List.length_pos_iff.2 ho) w hp

end Go.Proofs.YtgkldglknkeedaaDoor
