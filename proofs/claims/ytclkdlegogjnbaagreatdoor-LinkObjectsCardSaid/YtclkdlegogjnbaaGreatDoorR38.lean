/-
 The law's objects: as the program has them. Conditions: at most 50 objects, lengths as Go's values have them.
-/
import Derived.Test.YtclkdlegogjnbaaGreatDoorR36
import Derived.Test.YtclkdlegogjnbaaGreatDoorR37
namespace Go.Proofs.YtclkdlegogjnbaaGreatDoor
open Go Go.RowKit Go.WideShapes Go.ChangeShapes
set_option linter.unusedVariables false
set_option linter.unusedSimpArgs false
theorem slObjL : SlT 31 39 4 96 := ⟨Tryz.underlying31, ⟨.agg #[.slice none 0 0, .slice none 0 0, .slice none 0 0, .slice none 0 0], by kernel_rfl, rfl⟩, by decide, by decide⟩
def NilOk (qs : List (Value × Value × Value × Value)) : Prop := ∀ q ∈ qs, ∀ k c, q.1 = .slice none k c → c = 0
def ObsW (w : World) (l : List Ob) (e : Ending) (w' : World) : Prop := ∃ v qs, e = .returned v ∧ ObsAt w' v qs l ∧ NilOk qs ∧ Below w.heap.size w w'
theorem one4 {a b c d : Value} (ha : a.oneCell' = true) (hb : b.oneCell' = true) (hc : c.oneCell' = true) (hd : d.oneCell' = true) : ∀ u ∈ [a, b, c, d], u.oneCell' = true := by
 intro u hu
 simp only [List.mem_cons, List.not_mem_nil, or_false] at hu
 rcases hu with rfl | rfl | rfl | rfl <;> assumption
structure ObK (w wr : World) (v : Value) (qs : List (Value × Value × Value × Value)) (l : List Ob) (k : Nat) : Prop where
 len : qs.length = k
 row : wr.ownsRow w.heap.size 39 4 v k (qs.flatMap obC)
 obs : ∀ j (h : j < l.length) (hk : j < k), ObAt wr (qs[j]'(by omega)).1 (qs[j]'(by omega)).2.1 (qs[j]'(by omega)).2.2.1 (qs[j]'(by omega)).2.2.2 l[j]
 nil : NilOk qs
 below : Below w.heap.size w wr
theorem ObAt.fr {w w' : World} {va vf vp vc : Value} {o : Ob} (h : ObAt w va vf vp vc o) {S : Nat → Prop} (hf : Fr S w w') (ha : ∀ b off n c, va = .slice (some ⟨b, off, none⟩) n c → ¬ S b) (hff : ∀ b off n c, vf = .slice (some ⟨b, off, none⟩) n c → ¬ S b) (hp : ∀ b off n c, vp = .slice (some ⟨b, off, none⟩) n c → ¬ S b) (hc : ∀ b off n c, vc = .slice (some ⟨b, off, none⟩) n c → ¬ S b) : ObAt w' va vf vp vc o := by
 have g : ∀ (v : Value) (n : Nat) (cs : List Value), CellsAt w v n cs → (∀ b off n c, v = .slice (some ⟨b, off, none⟩) n c → ¬ S b) → CellsAt w' v n cs := by
  intro v n cs hv hs
  rcases hv with hv | ⟨b, off, c, rfl, hl, hcs⟩
  ·exact .inl hv
  ·refine .inr ⟨b, off, c, rfl, Nat.lt_of_lt_of_le hl hf.size, fun k u hk => ?_⟩
   rw [World.cell?_of_block (w := w) (hf.block b hl (hs b off n c rfl))]
   exact hcs k u hk
 exact ⟨g _ _ _ h.atoms ha, g _ _ _ h.funs hff, g _ _ _ h.preds hp, g _ _ _ h.code hc⟩
end Go.Proofs.YtclkdlegogjnbaaGreatDoor
