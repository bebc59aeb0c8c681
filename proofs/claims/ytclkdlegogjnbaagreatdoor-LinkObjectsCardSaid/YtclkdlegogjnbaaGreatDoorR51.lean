/-
 How a list of objects reads, as an argument, with its texts' lengths and its capacity.
-/
import Derived.Test.YtclkdlegogjnbaaGreatDoorR44
namespace Go.Proofs.YtclkdlegogjnbaaGreatDoor
open Go.ChangeShapes Go.WideShapes Go.ChangeAt Go.RowKit Go.Deep
set_option linter.unusedVariables false
set_option linter.unusedSimpArgs false
section
variable {H : Type} {enc : TypeId × Value → H} {W : World}
def TextsOk (x : Ob) : Prop := (∀ s ∈ x.atoms, s.size ≤ maxLen) ∧ (∀ f ∈ x.funs, f.1.size ≤ maxLen) ∧ ∀ p ∈ x.preds, p.1.size ≤ maxLen
theorem obs_in2 {fuel : Nat} {v : Value} {x : DataW H × List MemPlace} (h : DataW.trod enc Tryz.prog W 0 (fun _ => true) true fuel 22 [v] = some x) :
  ∃ (qs : List (Value × Value × Value × Value)) (l : List Ob), ObsAt W v qs l ∧ NilAll qs ∧ (∀ x ∈ l, TextsOk x) ∧ ∀ A n c, v = .slice A n c → n ≤ c := by
 letI : Inhabited ((Value × Value × Value × Value) × Ob) := ⟨((.slice none 0 0, .slice none 0 0, .slice none 0 0, .slice none 0 0), ⟨[], [], [], []⟩)⟩
 have hcap : ∀ A n c, v = .slice A n c → n ≤ c := by
  intro A n c hv
  rcases open_slice Tryz.underlying22 h with ⟨h1, _⟩ | ⟨a, len, cap, m', n', D, Pl, h1, _, hl, _⟩
  ·simp only [List.cons.injEq, and_true] at h1
   rw [hv] at h1
   injection h1 with _ h2 h3
   omega
  ·simp only [List.cons.injEq, and_true] at h1
   rw [hv] at h1
   injection h1 with _ h2 h3
   omega
 obtain ⟨z, hc, hq, _, hl⟩ := rows_in (fun a : (Value × Value × Value × Value) × Ob => obC a.1) 4 (fun _ => rfl) (by omega) (fun a => ObIn W a.1 a.2 ∧ TextsOk a.2) Tryz.underlying22 cellsOb
  (fun n cs' y hd => by
   obtain ⟨o, va, vf, vp, vc, rfl, hat, s1, s2, s3, hn, hm, _⟩ := ob_in hd
   exact ⟨((va, vf, vp, vc), o), rfl, ⟨hat, hn, hm⟩, s1, s2, s3⟩) h
 have e : z.flatMap (fun a => obC a.1) = (z.map (·.1)).flatMap obC := by rw [List.flatMap_map]
 rw [e] at hc
 refine ⟨z.map (·.1), z.map (·.2), ⟨by simp, by simpa using hc, fun k hk => ?_⟩, fun q hq' => ?_, fun y hy => ?_, hcap⟩
 ·have hk' : k < z.length := by simpa using hk
  have := (hq _ (List.getElem_mem hk')).1.1
  simpa using this
 ·obtain ⟨a, ha, rfl⟩ := List.mem_map.1 hq'
  exact (hq a ha).1.2
 ·obtain ⟨a, ha, rfl⟩ := List.mem_map.1 hy
  exact (hq a ha).2
end
end Go.Proofs.YtclkdlegogjnbaaGreatDoor
