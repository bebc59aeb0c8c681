/-
  2 texts in one (IntMap CodeQ). Conditions: those of each theorem.
-/
import Derived.Test.YtclkdlegogjnbaaGreatDoorR01
import Derived.Test.YtclkdlegogjnbaaGreatDoorProg
import Derived.Maps.OwnSet
import Derived.Maps.OwnOps
import Derived.Lib.Hide
import Derived.Test.YtclkdlegogjnbaaGreatDoorR07
import Derived.Test.YtclkdlegogjnbaaGreatDoorR02
import Derived.IntWalk
import Derived.Deep.QuietTactic
import Derived.BigQuiet
import Derived.Lib.ItoaLen
import Derived.Laws.Concat
import Derived.Test.YtclkdlegogjnbaaGreatDoorR06
namespace Go.Proofs.YtclkdlegogjnbaaGreatDoor
open Go Go.RowKit Go.WideShapes Go.ChangeShapes Go.Maps
set_option linter.unusedVariables false
set_option linter.unusedSimpArgs false
theorem imInt : Tryz.prog.underlying 3 = some (.int .i64) := by kernel_rfl
theorem imMap : Tryz.prog.underlying 99 = some (.map 3 3) := by kernel_rfl
theorem imZero (w : World) : (zeroValue 3).run Tryz.prog w = .ok (.int .i64 0) w := by kernel_rfl
def IMap (w : World) (M n : Nat) (f : Int → Option Int) : Prop :=
 ∃ D : DataW Unit, w.ownsMap Tryz.prog 3 (plainElem Tryz.prog 3) M n D ∧ IsMap D ∧ ∀ k z, D.atKey (.int .i64 k) z = match f k with | none => z | some v => .lit (.int .i64 v)
theorem IMap.lt {w : World} {M n : Nat} {f : Int → Option Int} (h : IMap w M n f) : M < w.heap.size := by
 obtain ⟨D, h1, _⟩ := h
 exact h1.lt
theorem IMap.new (w : World) : IMap (w.alloc (.map #[] 0)) w.heap.size 0 (fun _ => none) :=
 ⟨_, World.ownsMap_made w _ _ _, isMap_empty, fun k z => rfl⟩
theorem IMap.fr {S : Nat → Prop} {w w' : World} {M n : Nat} {f : Int → Option Int} (h : IMap w M n f) (hf : Fr S w w') (hM : ¬ S M) : IMap w' M n f := by
 obtain ⟨D, ⟨es, cl, hm, F1, F2, F3⟩, h2, h3⟩ := h
 exact ⟨D, ⟨es, cl, (hf.block M (Array.getElem?_eq_some_iff.1 hm).1 hM).trans hm, F1, F2, F3⟩, h2, h3⟩
theorem IMap.below {w w' : World} {M n : Nat} {f : Int → Option Int} (h : IMap w M n f) (hb : Below w.heap.size w w') : IMap w' M n f := h.fr (S := fun _ => False) (Fr.of_below hb) (fun x => x)
theorem IMap.ne_box {w : World} {M n : Nat} {f : Int → Option Int} (h : IMap w M n f) {g : Nat} {t : TypeId} {cs : Array Value} (hb : Box w g t cs) : M ≠ g := by
 rintro rfl
 obtain ⟨D, ⟨es, cl, hm, _⟩, _⟩ := h
 unfold Box at hb
 rw [hb] at hm
 simp at hm
theorem IMap.ne_own {w : World} {M n : Nat} {f : Int → Option Int} (h : IMap w M n f) {base : Nat} {e : TypeId} {size m : Nat} {v : Value} {xs : List Value} (ho : w.ownsRow base e size v m xs) : ∀ k, v.ownBlock = some k → k ≠ M := by
 rintro k hk rfl
 obtain ⟨D, ⟨es, cl, hm, _⟩, _⟩ := h
 rcases ho.2 with ⟨rfl, _⟩ | ⟨g, cap, cur, rfl, _, hh, _⟩
 ·simp [Value.ownBlock] at hk
 ·have : g = k := by simpa [Value.ownBlock] using hk
  subst this
  rw [hh] at hm
  simp at hm
theorem IMap.look2 {w : World} {M n : Nat} {f : Int → Option Int} (h : IMap w M n f) (k : Int) (hk : (Lit.int .i64 k).wf = true) :
  (Instr.lookup 99 (.map (some M)) (.int .i64 k) true).run Tryz.prog w = .ok (.tuple #[.int .i64 ((f k).getD 0), .bool (f k).isSome]) w := by
 obtain ⟨D, ⟨es, cl, hm, F, _, rfl⟩, _, h3⟩ := h
 rcases Maps.fit_look true (int_keyed imInt) imMap (imZero w) hm F (keyOf_int_mk imInt hk) with ⟨hrun, _, hat⟩ | ⟨e0, y, _, _, hrun, hR, hat, _⟩
 ·have hf : f k = none := by
   cases hf : f k with
   | none => rfl
   | some v =>
    have := (hat .nil).symm.trans (h3 k .nil)
    rw [hf] at this
    cases this
  rw [hrun, hf]
  rfl
 ·have hy := plainElem_int_inv imInt hR
  obtain ⟨a, ha, rfl, _⟩ := hy
  have hf : f k = some a := by
   have h1 := (hat .nil).symm.trans (h3 k .nil)
   cases hf : f k with
   | none => rw [hf] at h1; cases h1
   | some v =>
    rw [hf] at h1
    have h2 : a = v := by simpa using h1
    rw [h2]
  rw [hrun, ha, hf]
  rfl
theorem IMap.look {w : World} {M n : Nat} {f : Int → Option Int} (h : IMap w M n f) (k : Int) (hk : (Lit.int .i64 k).wf = true) :
  (Instr.lookup 99 (.map (some M)) (.int .i64 k) false).run Tryz.prog w = .ok (.int .i64 ((f k).getD 0)) w := by
 obtain ⟨D, ⟨es, cl, hm, F, _, rfl⟩, _, h3⟩ := h
 rcases Maps.fit_look false (int_keyed imInt) imMap (imZero w) hm F (keyOf_int_mk imInt hk) with ⟨hrun, _, hat⟩ | ⟨e0, y, _, _, hrun, hR, hat, _⟩
 ·have hf : f k = none := by
   cases hf : f k with
   | none => rfl
   | some v =>
    have := (hat .nil).symm.trans (h3 k .nil)
    rw [hf] at this
    cases this
  rw [hrun, hf]
  rfl
 ·have hy := plainElem_int_inv imInt hR
  obtain ⟨a, ha, rfl, _⟩ := hy
  have hf : f k = some a := by
   have h1 := (hat .nil).symm.trans (h3 k .nil)
   cases hf : f k with
   | none => rw [hf] at h1; cases h1
   | some v =>
    rw [hf] at h1
    have h2 : a = v := by simpa using h1
    rw [h2]
  rw [hrun, ha, hf]
  rfl
theorem IMap.store {w : World} {M n : Nat} {f : Int → Option Int} (h : IMap w M n f) (k v : Int) (hk : (Lit.int .i64 k).wf = true) (hv : (Lit.int .i64 v).wf = true) (hn : n < maxLen) :
  ∃ w', (Instr.mapUpdate 99 (.map (some M)) (.int .i64 k) (.int .i64 v)).run Tryz.prog w = .ok () w' ∧ IMap w' M (n + 1) (fun j => if j = k then some v else f j) ∧ Fr (fun b => b = M) w w' := by
 obtain ⟨D, h1, h2, h3⟩ := h
 obtain ⟨w', hrun, r1, r2⟩ := h1.update (int_keyed imInt) imMap hn (keyOf_int_mk imInt hk) (plainElem_int imInt hv)
 refine ⟨w', hrun, ⟨_, r1, h2.put _ _, fun j z => ?_⟩, Fr.of_grown r2 (fun _ _ e => (Option.some.inj e).symm)⟩
 by_cases hj : j = k
 ·subst hj
  rw [atKey_put_same h2 (show WideAt.IsKeyLit (Lit.int .i64 j) from trivial)]
  simp
 ·rw [atKey_put_other (by intro e; injection e with _ e; exact hj e), h3 j z]
  simp [hj]
theorem wfI {k : Int} (h0 : -9223372036854775808 ≤ k) (h1 : k ≤ 9223372036854775807) : (Lit.int .i64 k).wf = true := by
 simp [Lit.wf, IntKind.min, IntKind.max, IntKind.signed, IntKind.bits]
 omega
end Go.Proofs.YtclkdlegogjnbaaGreatDoor

namespace Go.Proofs.YtclkdlegogjnbaaGreatDoor
open Go Go.RowKit Go.WideShapes Go.ChangeShapes
set_option linter.unusedVariables false
def splitW : List UInt8 → List (List UInt8)
 | [] => [[]]
 | c :: r => if c = 32 then [] :: splitW r else match splitW r with
  | [] => [[c]]
  | w :: ws => (c :: w) :: ws
theorem splitW_ne (l : List UInt8) : splitW l ≠ [] := by
 cases l with
 | nil => simp [splitW]
 | cons c r =>
  rw [splitW]
  split
  ·simp
  ·split <;> simp
theorem splitW_miss : ∀ {w : List UInt8}, noBlank w → splitW w = [w] := by
 intro w
 induction w with
 | nil => intro _; rfl
 | cons c r ih =>
  intro h
  rw [splitW, if_neg (h c (by simp)), ih (fun x hx => h x (by simp [hx]))]
theorem splitW_hit : ∀ {w : List UInt8} (r : List UInt8), noBlank w → splitW (w ++ 32 :: r) = w :: splitW r := by
 intro w r
 induction w with
 | nil => intro _; simp [splitW]
 | cons c w ih =>
  intro h
  rw [List.cons_append, splitW, if_neg (h c (by simp)), ih (fun x hx => h x (by simp [hx]))]
theorem splitW_join : ∀ (ws : List (List UInt8)) (w0 : List UInt8), noBlank w0 → (∀ w ∈ ws, noBlank w) → splitW (w0 ++ ws.flatMap (32 :: ·)) = w0 :: ws := by
 intro ws
 induction ws with
 | nil => intro w0 h0 _; simp [splitW_miss h0]
 | cons w ws ih =>
  intro w0 h0 hws
  rw [List.flatMap_cons, List.cons_append, splitW_hit _ h0, ih w (hws w (by simp)) (fun x hx => hws x (by simp [hx]))]
def digOk (c : UInt8) : Bool := decide (48 ≤ c.toNat ∧ c.toNat ≤ 57)
def valOf (l : List UInt8) : Nat := l.foldl (fun n c => 10 * n + (c.toNat - 48)) 0
def rnumOf (w : List UInt8) : Int :=
 if w.length < 1 ∨ 7 < w.length then -1
 else if w.all digOk = true then (if Lib.itoa (valOf w : Int) = w then (valOf w : Int) else -1)
 else -1
end Go.Proofs.YtclkdlegogjnbaaGreatDoor
