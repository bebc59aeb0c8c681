/-
  3 texts in one (LinkLQ LinkPA ObjAF). Conditions: those of each theorem.
-/
import Derived.Test.YtclkdlegogjnbaaGreatDoorQ45
import Derived.Test.YtclkdlegogjnbaaGreatDoorQ44
import Derived.Test.YtclkdlegogjnbaaGreatDoorQ41
import Derived.Test.YtclkdlegogjnbaaGreatDoorQ42
import Derived.Test.YtclkdlegogjnbaaGreatDoorQ11
namespace Go.Proofs.YtclkdlegogjnbaaGreatDoor
open Go Go.RowKit Go.WideShapes Go.ChangeShapes
set_option linter.unusedVariables false
set_option linter.unusedSimpArgs false

/-- Behind the two instructions' boxes. -/
def Cut12 (wr wc : World) (t12 t13 : Value) (x0 x1 x2 x3 x4 y0 y1 y2 y3 y4 : Int) : Prop :=
  ∃ gx gy, t12 = .pointer (some ⟨gx, 0, none⟩) ∧ t13 = .pointer (some ⟨gy, 0, none⟩) ∧ Box wc gx 51 #[.int .i64 x0, .int .i64 x1, .int .i64 x2, .int .i64 x3, .int .i64 x4] ∧ Box wc gy 52 #[.int .i64 y0, .int .i64 y1, .int .i64 y2, .int .i64 y3, .int .i64 y4] ∧ Below wr.heap.size wr wc
theorem cell_block_lt10 {w : World} {a : Addr} {v : Value} (h : w.cell? a = some v) : a.block < w.heap.size := by
  unfold World.cell? at h
  split at h
  · rename_i hb; exact (Array.getElem?_eq_some_iff.1 hb).1
  · cases h
theorem bel_cell {w W : World} {p : Addr} {v : Value} (h : w.cell? p = some v) (hb : Below w.heap.size w W) : W.cell? p = some v := (hb.cell (cell_block_lt10 h)).trans h
end Go.Proofs.YtclkdlegogjnbaaGreatDoor

namespace Go.Proofs.YtclkdlegogjnbaaGreatDoor
open Go Go.RowKit Go.WideShapes Go.ChangeShapes
set_option linter.unusedVariables false
set_option linter.unusedSimpArgs false

/-- Objects in a new row. -/
theorem obs_of_box {w : World} {g : Nat} {t : TypeId} {qs : List (Value × Value × Value × Value)} {l : List Ob} (hb : Box w g t (qs.flatMap obC).toArray) (hl : qs.length = l.length) (h0 : 0 < l.length)
    (ho : ∀ k (h : k < l.length), ObAt w (qs[k]'(by omega)).1 (qs[k]'(by omega)).2.1 (qs[k]'(by omega)).2.2.1 (qs[k]'(by omega)).2.2.2 l[k]) (n : Nat) (hn : l.length = n) : ObsAt w (.slice (some ⟨g, 0, none⟩) n n) qs l := by
  subst hn
  refine ⟨hl, .inr ⟨g, 0, l.length, rfl, hb.lt, fun k u hk => ?_⟩, ho⟩
  rw [Nat.zero_add, hb.cell k]
  simpa using hk
theorem box_next (w : World) (o : Obj) (t : TypeId) (cs : Array Value) : Box ((w.alloc o).alloc (.cells cs t)) (w.heap.size + 1) t cs := by
  have h := Box.new (w.alloc o) t cs
  rw [World.size_alloc] at h
  exact h
theorem ObOwn.fr {w w' : World} {base : Nat} {S : Nat → Prop} {va vf vp vc : Value} {o : Ob} (h : ObOwn w base va vf vp vc o) (hf : Fr S w w') (hs : ∀ k, S k → k < base) : ObOwn w' base va vf vp vc o :=
  ⟨own_fr h.ra hf (fun k hk e => by have := (own_ge h.ra hk).1; have := hs k e; omega), own_fr h.rf hf (fun k hk e => by have := (own_ge h.rf hk).1; have := hs k e; omega), own_fr h.rp hf (fun k hk e => by have := (own_ge h.rp hk).1; have := hs k e; omega), own_fr h.rc hf (fun k hk e => by have := (own_ge h.rc hk).1; have := hs k e; omega)⟩
/-- What a call of Objects leaves: a box that holds the object, and the two numbers. -/
def LinkCut (w wc : World) (r : Ob × Int × Int) (t7 t8 t9 : Value) : Prop :=
  ∃ g va vf vp vc, t7 = .pointer (some ⟨g, 0, none⟩) ∧ t8 = .int .i64 r.2.1 ∧ t9 = .int .i64 r.2.2 ∧ Box wc g 39 #[va, vf, vp, vc] ∧ ObAt wc va vf vp vc r.1 ∧ (∀ k c, va = .slice none k c → c = 0) ∧ Below w.heap.size w wc
/-- The box is made behind the call. -/
theorem linkCut_late {w w3 : World} {B : Nat} {r : Ob × Int × Int} {va vf vp vc : Value} (hb : Below w.heap.size w w3) (ho : ObOwn w3 B va vf vp vc r.1) :
    LinkCut w (w3.alloc (.cells #[va, vf, vp, vc] 39)) r (.pointer (some ⟨w3.heap.size, 0, none⟩)) (.int .i64 r.2.1) (.int .i64 r.2.2) :=
  ⟨_, va, vf, vp, vc, rfl, rfl, rfl, Box.new _ _ _, ho.at_.below (alloc_below w3 _), own_nil ho.ra, hb.alloc hb.size _⟩
/-- The box is made ahead of the call. -/
theorem linkCut_early {w w3 : World} {g B : Nat} {r : Ob × Int × Int} {va vf vp vc z0 z1 z2 z3 : Value} (hx : Box w3 g 39 #[z0, z1, z2, z3]) (hg : w.heap.size ≤ g) (hgB : g < B) (hb : Below w.heap.size w w3) (ho : ObOwn w3 B va vf vp vc r.1) :
    LinkCut w ((((w3.setCell ⟨g, 0, none⟩ va).setCell ⟨g, 1, none⟩ vf).setCell ⟨g, 2, none⟩ vp).setCell ⟨g, 3, none⟩ vc) r (.pointer (some ⟨g, 0, none⟩)) (.int .i64 r.2.1) (.int .i64 r.2.2) := by
  have h4 := (((hx.set_ 0 va).set_ 1 vf).set_ 2 vp).set_ 3 vc
  have hf : Fr (fun k => k = g) w3 ((((w3.setCell ⟨g, 0, none⟩ va).setCell ⟨g, 1, none⟩ vf).setCell ⟨g, 2, none⟩ vp).setCell ⟨g, 3, none⟩ vc) :=
    ((((Fr.refl (fun k => k = g) w3).setCell (p := ⟨g, 0, none⟩) (.inl rfl) va).setCell (p := ⟨g, 1, none⟩) (.inl rfl) vf).setCell (p := ⟨g, 2, none⟩) (.inl rfl) vp).setCell (p := ⟨g, 3, none⟩) (.inl rfl) vc
  exact ⟨g, va, vf, vp, vc, rfl, rfl, rfl, by simpa using h4, (ho.fr hf (fun k e => by omega)).at_, own_nil ho.ra,
    (((hb.setCell (p := ⟨g, 0, none⟩) hg va).setCell (p := ⟨g, 1, none⟩) hg vf).setCell (p := ⟨g, 2, none⟩) hg vp).setCell (p := ⟨g, 3, none⟩) hg vc⟩

end Go.Proofs.YtclkdlegogjnbaaGreatDoor

namespace Go.Proofs.YtclkdlegogjnbaaGreatDoor
open Go Go.RowKit Go.WideShapes Go.ChangeShapes
set_option linter.unusedVariables false
set_option linter.unusedSimpArgs false

theorem eq_four8 (a b c d a' b' c' d' : Int) (w : World) : (Op.equalIn 9999 49 (.agg #[.int .i64 a, .int .i64 b, .int .i64 c, .int .i64 d]) (.agg #[.int .i64 a', .int .i64 b', .int .i64 c', .int .i64 d'])).run Tryz.prog w = .ok (a == a' && b == b' && c == c' && d == d') w := by
  have u3 := Tryz.underlying3
  have a3 : ∀ w, (isAgg 3).run Tryz.prog w = .ok false w := fun _ => by kernel_rfl
  have z3 : ∀ w, (sizeOf 3).run Tryz.prog w = .ok 1 w := fun _ => by kernel_rfl
  rw [show (9999 : Nat) = 9998 + 1 from rfl, Op.equalIn]
  simp only [Sem.run_bind, run_underlying Tryz.underlying49, Result.andThen_ok]
  simp only [Std.Legacy.Range.forIn_eq_forIn_range', Std.Legacy.Range.size, Nat.sub_zero, Nat.add_sub_cancel, Nat.div_one, List.range'_succ, List.range'_zero, List.forIn_cons, List.forIn_nil]
  go_simp
  by_cases h1 : a = a' <;> by_cases h2 : b = b' <;> by_cases h3 : c = c' <;> by_cases h4 : d = d' <;> simp [h1, h2, h3, h4]

/-- What Same keeps: the boxes of both. -/
structure Sm (w wr : World) (g g2 : Nat) (us us2 : Array Value) : Prop where
  ob : Box wr g 29 us
  ob2 : Box wr g2 29 us2
  below : Below w.heap.size w wr
theorem Sm.up {w wr w' : World} {g g2 : Nat} {us us2 : Array Value} (h : Sm w wr g g2 us us2) (hb : Below wr.heap.size wr w') : Sm w w' g g2 us us2 := ⟨h.ob.below hb h.ob.lt, h.ob2.below hb h.ob2.lt, h.below.trans (hb.mono h.below.size)⟩
theorem Sm.drewN {w wr : World} {g g2 : Nat} {us us2 : Array Value} (h : Sm w wr g g2 us us2) (n : Nat) : Sm w (wr.drewN n) g g2 us us2 := ⟨h.ob.drewN n, h.ob2.drewN n, h.below.trans ⟨rfl, rfl, rfl, Nat.le_refl _, fun _ _ => rfl⟩⟩
theorem Sm.new (w : World) (us us2 : Array Value) : Sm w ((w.alloc (.cells us 29)).alloc (.cells us2 29)) w.heap.size (w.heap.size + 1) us us2 :=
  ⟨(Box.new w _ _).alloc _, by have := Box.new (w.alloc (.cells us 29)) 29 us2; rwa [World.size_alloc] at this, (alloc_below w _).trans ((alloc_below _ _).mono (by rw [World.size_alloc]; omega))⟩
theorem take_eq_step {α : Type} {l m : List α} {k : Nat} (h : k < l.length) (h2 : k < m.length) (ht : l.take k = m.take k) (he : l[k] = m[k]) : l.take (k + 1) = m.take (k + 1) := by
  rw [List.take_succ_eq_append_getElem h, List.take_succ_eq_append_getElem h2, ht, he]
theorem take_eq_end {α : Type} {l m : List α} (h : l.length = m.length) (ht : l.take l.length = m.take l.length) : l = m := by
  rwa [List.take_length, h, List.take_length] at ht
theorem ne_at {α : Type} {l m : List α} {k : Nat} (h : k < l.length) (h2 : k < m.length) (he : ¬ l[k] = m[k]) : l ≠ m := by
  rintro rfl
  exact he rfl

end Go.Proofs.YtclkdlegogjnbaaGreatDoor
