/-
  One that may be, out of any (resolventlaw03.Fix), by a contract. Condition: the value reads as a tree.
-/
import Derived.Test.YtkfmagbaklikmaaDoorFixC
namespace Go.Proofs.YtkfmagbaklikmaaDoor
open Go Go.RowKit
set_option linter.unusedVariables false
set_option linter.unusedSimpArgs false

theorem ret_one4 {P : Program} {fn : Func} {R : Ending → World → Prop} {T : Array Value} {w2 : World} {G : Nat} {t : TypeId} {z0 z1 z2 z3 a b c d : Value} (hb : Box w2 G t #[z0, z1, z2, z3])
    (hres : ∀ W : World, W.cell? ⟨G, 0, none⟩ = some a → W.cell? ⟨G, 1, none⟩ = some b → W.cell? ⟨G, 2, none⟩ = some c → W.cell? ⟨G, 3, none⟩ = some d → (results fn T).run P W = .ok (.agg #[a, b, c, d]) W)
    (hQ : ∀ W : World, Box W G t #[a, b, c, d] → Fr (fun k => k = G) w2 W → R (.returned (.agg #[a, b, c, d])) W) :
    bodyPost P fn R .ret { tmps := T, defers := [] } ((((w2.setCell ⟨G, 0, none⟩ a).setCell ⟨G, 1, none⟩ b).setCell ⟨G, 2, none⟩ c).setCell ⟨G, 3, none⟩ d) := by
  have h4 : Box ((((w2.setCell ⟨G, 0, none⟩ a).setCell ⟨G, 1, none⟩ b).setCell ⟨G, 2, none⟩ c).setCell ⟨G, 3, none⟩ d) G t #[a, b, c, d] := by
    have := (((hb.set_ 0 a).set_ 1 b).set_ 2 c).set_ 3 d
    simpa using this
  have hf : Fr (fun k => k = G) w2 ((((w2.setCell ⟨G, 0, none⟩ a).setCell ⟨G, 1, none⟩ b).setCell ⟨G, 2, none⟩ c).setCell ⟨G, 3, none⟩ d) :=
    ((((Fr.refl (fun b => b = G) w2).setCell (p := ⟨G, 0, none⟩) (.inl rfl) _).setCell (p := ⟨G, 1, none⟩) (.inl rfl) _).setCell (p := ⟨G, 2, none⟩) (.inl rfl) _).setCell (p := ⟨G, 3, none⟩) (.inl rfl) _
  exact bodyPost_ret (hres _ (h4.cell 0) (h4.cell 1) (h4.cell 2) (h4.cell 3)) rfl (hQ _ h4 hf)

set_option maxHeartbeats 4000000 in
set_option maxRecDepth 100000 in
theorem lfix_any {F : Nat} {t : Tm} {v : Value} {w : World} {S : Nat → Prop} (hr : Reads w S F t v) (hS : ∀ b, S b → b < w.heap.size) :
    Calls Tryd.prog 5 #[v] w fun e w' => ∃ v', e = .returned v' ∧ Reads w' (fun b => w.heap.size ≤ b ∧ b < w'.heap.size) 5 (fixT 4 t 30).1 v' ∧ Below w.heap.size w w' := by
  obtain ⟨k, n, s, A, l, c, rfl⟩ := hr.form
  have hb0 := ((Below.refl w.heap.size w).alloc (Nat.le_refl _) (.cells #[.int .i64 k, .int .i64 n, .string s, .slice A l c] 24)).alloc (by simp) (.cells #[.int .i64 0, .int .i64 0, .string ⟨#[]⟩, .slice none 0 0] 24)
  have HX := Lib.hid ((Box.new w 24 #[.int .i64 k, .int .i64 n, .string s, .slice A l c]).alloc (.cells #[.int .i64 0, .int .i64 0, .string ⟨#[]⟩, .slice none 0 0] 24))
  have HR2 := Lib.hid (Box.new (w.alloc (.cells #[.int .i64 k, .int .i64 n, .string s, .slice A l c] 24)) 24 #[.int .i64 0, .int .i64 0, .string ⟨#[]⟩, .slice none 0 0])
  have HR := Lib.hid (hr.below hb0 hS)
  have HSZ : Hid (((w.alloc (.cells #[.int .i64 k, .int .i64 n, .string s, .slice A l c] 24)).alloc (.cells #[.int .i64 0, .int .i64 0, .string ⟨#[]⟩, .slice none 0 0] 24)).heap.size = w.heap.size + 2) := by show _ = _; simp
  have HB0 := Lib.hid hb0
  have HS := Lib.hid hS
  clear hb0 hr hS
  go_enter Tryd.func5, Tryd.ntmps5
  go_upto_region 1 with (fail)
  obtain ⟨W0, hW0⟩ : ∃ W0, ((w.alloc (.cells #[.int .i64 k, .int .i64 n, .string s, .slice A l c] 24)).alloc (.cells #[.int .i64 0, .int .i64 0, .string ⟨#[]⟩, .slice none 0 0] 24)) = W0 := ⟨_, rfl⟩
  rw [hW0] at HX HR2 HR HB0 HSZ ⊢
  rw [World.size_alloc] at HR2
  clear hW0
  have x0 : W0.cell? ⟨w.heap.size, 0, none⟩ = some (.int .i64 k) := HX.out.cell 0
  have x1 : W0.cell? ⟨w.heap.size, 1, none⟩ = some (.int .i64 n) := HX.out.cell 1
  have x2 : W0.cell? ⟨w.heap.size, 2, none⟩ = some (.string s) := HX.out.cell 2
  have x3 : W0.cell? ⟨w.heap.size, 3, none⟩ = some (.slice A l c) := HX.out.cell 3
  go_wp2_with (go_at_call 22; refine (fix_any 4 (by omega) t _ W0 _ _ 30 HR.out (fun b hb => by have := HS.out b hb; have := HSZ.out; omega) (by omega) (by omega)).mono ?_; rintro e w5 ⟨v5, rfl, hr5, hb5⟩; obtain ⟨k5, n5, s5, A5, m5, c5, hv5⟩ := hr5.form; rw [hv5] at hr5; rw [hv5]; clear hv5; have HR5 := Lib.hid (hr5.alloc (fun b hb => hb.2) (.cells #[.int .i64 k5, .int .i64 n5, .string s5, .slice A5 m5 c5] 24)); have HB5 := Lib.hid (hb5.alloc hb5.size (.cells #[.int .i64 k5, .int .i64 n5, .string s5, .slice A5 m5 c5] 24)); have HT5 := Lib.hid (Box.new w5 24 #[.int .i64 k5, .int .i64 n5, .string s5, .slice A5 m5 c5]); have HG5 := Lib.hid (HR2.out.below HB5.out HR2.out.lt); clear hr5 hb5 x0 x1 x2 x3; have r0 := HG5.out.cell 0; have r1 := HG5.out.cell 1; have r2 := HG5.out.cell 2; have r3 := HG5.out.cell 3; have z0 := HG5.out.frozen 0; have z1 := HG5.out.frozen 1; have z2 := HG5.out.frozen 2; have z3 := HG5.out.frozen 3)
  refine ret_one4 HG5.out (by intro W c0 c1 c2 c3; simp [results, Tryd.results5, go_sem, c0, c1, c2, c3]) ?_
  intro W hW hF
  have h0 := HSZ.out
  have h1 := HB5.out.size
  have h2 := HT5.out.lt
  have h3 := hF.size
  exact ⟨_, rfl, (HR5.out.fr hF (fun b hb => ⟨by simp; omega, by omega⟩)).more (fun b hb => ⟨by omega, by simp at h3; omega⟩), HB0.out.trans ((HB5.out.mono (by omega)).trans (hF.below (by omega) (fun b e => by omega)))⟩
end Go.Proofs.YtkfmagbaklikmaaDoor
