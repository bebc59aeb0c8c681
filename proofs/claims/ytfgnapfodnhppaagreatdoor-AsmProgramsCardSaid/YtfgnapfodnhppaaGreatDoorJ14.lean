/-
  The program's Decode: the object whose bytes they are, or what is wrong first; new memory alone. Conditions: at most a million bytes; the world holds the names of the instructions.
-/
import Derived.Test.YtfgnapfodnhppaaGreatDoorJ13
namespace Go.Proofs.YtfgnapfodnhppaaGreatDoor
open Go Go.RowKit Go.WideShapes Go.ChangeShapes
set_option linter.unusedVariables false
set_option linter.unusedSimpArgs false

theorem take_le (n : Nat) (r : Rd) : (takeR n r).2.rest.length ≤ r.rest.length := by
  unfold takeR
  split
  · exact Nat.le_refl _
  · simp
theorem nameR_le (r : Rd) : (nameR r).2.rest.length ≤ r.rest.length := Nat.le_trans (take_le _ _) (take_le _ _)
theorem funR_le (r : Rd) : (funR r).2.rest.length ≤ r.rest.length := Nat.le_trans (take_le _ _) (nameR_le _)
theorem predR_le (r : Rd) : (predR r).2.rest.length ≤ r.rest.length := Nat.le_trans (take_le _ _) (Nat.le_trans (take_le _ _) (nameR_le _))
theorem many_le {α : Type} {f : Rd → α × Rd} (hf : ∀ r, (f r).2.rest.length ≤ r.rest.length) : ∀ (n : Nat) (r : Rd), (manyR f n r).2.rest.length ≤ r.rest.length
  | 0, _ => Nat.le_refl _
  | n + 1, r => Nat.le_trans (many_le hf n (f r).2) (hf r)
theorem argsR_le : ∀ (ks : List Int) (r : Rd), (argsR ks r).2.rest.length ≤ r.rest.length
  | [], _ => Nat.le_refl _
  | k :: ks, r => Nat.le_trans (argsR_le ks _) (take_le _ _)
theorem insR_le {r r' : Rd} {i : Ins} (h : insR r = some (i, r')) : r'.rest.length ≤ r.rest.length := by
  unfold insR at h
  split at h
  · cases h
  · injection h with h
    injection h with _ h
    rw [← h]
    exact Nat.le_trans (argsR_le _ _) (take_le _ _)
theorem codeR_le : ∀ (n : Nat) (r r' : Rd) (l : List Ins), codeR n r = some (l, r') → r'.rest.length ≤ r.rest.length
  | 0, r, r', l, h => by
    injection h with h
    injection h with _ h
    rw [← h]
    exact Nat.le_refl _
  | n + 1, r, r', l, h => by
    unfold codeR at h
    split at h
    · cases h
    · rename_i i r2 hi
      split at h
      · cases h
      · rename_i m r3 hc
        injection h with h
        injection h with _ h
        rw [← h]
        exact Nat.le_trans (codeR_le n r2 r3 m hc) (insR_le hi)
theorem magicR_le : ∀ (ms : List Nat) (r r' : Rd), magicR ms r = some r' → r'.rest.length ≤ r.rest.length
  | [], r, r', h => by
    injection h with h
    rw [← h]
    exact Nat.le_refl _
  | m :: ms, r, r', h => by
    unfold magicR at h
    split at h
    · exact Nat.le_trans (magicR_le ms _ _ h) (take_le _ _)
    · cases h
theorem object_cases (r : Rd) : objectR r = .error 5 ∨ ∃ r0 a f p c r4, magicR magicL r = some r0 ∧ manyR (numR 2) 4 r0 = ([a, f, p, c], r4) ∧ objectR r = restR a f p c r4 := by
  cases h : magicR magicL r with
  | none => exact .inl (object_bad h)
  | some r0 => exact .inr ⟨r0, _, _, _, _, _, rfl, rfl, object_ok h rfl⟩
theorem object_err {r : Rd} {c : Int} (h : objectR r = .error c) : c ≠ 0 := by
  rcases object_cases r with h1 | ⟨r0, a, f, p, d, r4, _, _, h1⟩
  · rw [h1] at h
    injection h with h
    omega
  · rw [h1] at h
    unfold restR at h
    split at h
    · injection h with h; omega
    · split at h
      · injection h with h; omega
      · split at h
        · injection h with h; omega
        · split at h
          · injection h with h; omega
          · cases h
theorem object_le {r r' : Rd} {o : Ob} (h : objectR r = .ok (o, r')) : r'.rest.length ≤ r.rest.length := by
  rcases object_cases r with h1 | ⟨r0, a, f, p, d, r4, hm, h4, h1⟩
  · rw [h1] at h; cases h
  · rw [h1] at h
    unfold restR at h
    split at h
    · cases h
    · split at h
      · cases h
      · split at h
        · cases h
        · rename_i l4 r5 hc
          split at h
          · cases h
          · injection h with h
            injection h with _ h
            rw [← h]
            have e1 := magicR_le _ _ _ hm
            have e2 := many_le (fun r => take_le 2 r) 4 r0
            have e3 := many_le nameR_le a r4
            have e4 := many_le funR_le f (manyR nameR a r4).2
            have e5 := many_le predR_le p (manyR funR f (manyR nameR a r4).2).2
            have e6 := codeR_le _ _ _ _ hc
            have e7 : (manyR (numR 2) 4 r0).2 = r4 := by rw [h4]
            have e8 : (manyR (numR 2) 4 r0).2.rest.length ≤ r0.rest.length := e2
            rw [e7] at e8
            omega

/-- What decoding comes to. -/
def Decoded (w : World) (l : List Nat) (e : Ending) (w' : World) : Prop :=
  ∃ va vf vp vc, e = .returned (.tuple #[.agg #[va, vf, vp, vc], .int .i64 (decodeOf l).2]) ∧ ObAt w' va vf vp vc (decodeOf l).1 ∧ Below w.heap.size w w'
theorem empty_at (w : World) : ObAt w (.slice none 0 0) (.slice none 0 0) (.slice none 0 0) (.slice none 0 0) emptyOb :=
  ⟨.inl ⟨rfl, rfl, _, _, rfl⟩, .inl ⟨rfl, rfl, _, _, rfl⟩, .inl ⟨rfl, rfl, _, _, rfl⟩, .inl ⟨rfl, rfl, _, _, rfl⟩⟩
theorem decoded_bad {w w' : World} {l : List Nat} {c : Int} (h : decodeOf l = (emptyOb, c)) (hb : Below w.heap.size w w') :
    Decoded w l (.returned (.tuple #[.agg #[.slice none 0 0, .slice none 0 0, .slice none 0 0, .slice none 0 0], .int .i64 c])) w' := by
  refine ⟨.slice none 0 0, .slice none 0 0, .slice none 0 0, .slice none 0 0, by rw [h], ?_, hb⟩
  rw [h]
  exact empty_at w'

end Go.Proofs.YtfgnapfodnhppaaGreatDoor
