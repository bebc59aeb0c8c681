/-
 Maps from names, or from names with arities, to numbers, that a call made; where keys stand in a list, as a function. No condition.
-/
import Derived.Test.YtclkdlegogjnbaaGreatDoorR12
import Derived.Test.YtclkdlegogjnbaaGreatDoorR04
import Derived.Test.YtclkdlegogjnbaaGreatDoorR16
import Derived.Test.YtclkdlegogjnbaaGreatDoorR24
namespace Go.Proofs.YtclkdlegogjnbaaGreatDoor
open Go Go.RowKit Go.WideShapes Go.ChangeShapes Go.Maps
set_option linter.unusedVariables false
set_option linter.unusedSimpArgs false
structure KeyT {α : Type} (kt : TypeId) (ok : α → Prop) (val : α → Value) (lit : α → List UInt8) : Prop where
 keyed : Keyed Tryz.prog kt
 of : ∀ a, ok a → keyOf Tryz.prog kt (val a) = some (.string (lit a))
 inj : ∀ a b, val a = val b → a = b
theorem KeyT.lit_inj {α : Type} {kt : TypeId} {ok : α → Prop} {val : α → Value} {lit : α → List UInt8} (K : KeyT kt ok val lit) {a b : α} (ha : ok a) (hb : ok b) (h : lit a = lit b) : a = b :=
 K.inj a b (K.keyed.inj (K.of a ha) (by rw [h]; exact K.of b hb))
def KMap {α : Type} (kt : TypeId) (ok : α → Prop) (lit : α → List UInt8) (w : World) (M n : Nat) (f : α → Option Int) : Prop :=
 ∃ D : DataW Unit, w.ownsMap Tryz.prog kt (plainElem Tryz.prog 3) M n D ∧ IsMap D ∧ ∀ k z, ok k → D.atKey (.string (lit k)) z = match f k with | none => z | some v => .lit (.int .i64 v)
section
variable {α : Type} {kt : TypeId} {ok : α → Prop} {val : α → Value} {lit : α → List UInt8} {w w' : World} {M n : Nat} {f : α → Option Int} {S : Nat → Prop}
theorem KMap.lt (h : KMap kt ok lit w M n f) : M < w.heap.size := by
 obtain ⟨D, h1, _⟩ := h
 exact h1.lt
theorem KMap.new (w : World) : KMap kt ok lit (w.alloc (.map #[] 0)) w.heap.size 0 (fun _ => none) :=
 ⟨_, World.ownsMap_made w _ _ _, isMap_empty, fun k z _ => rfl⟩
theorem KMap.fr (h : KMap kt ok lit w M n f) (hf : Fr S w w') (hM : ¬ S M) : KMap kt ok lit w' M n f := by
 obtain ⟨D, ⟨es, cl, hm, F1, F2, F3⟩, h2, h3⟩ := h
 exact ⟨D, ⟨es, cl, (hf.block M (Array.getElem?_eq_some_iff.1 hm).1 hM).trans hm, F1, F2, F3⟩, h2, h3⟩
theorem KMap.below (h : KMap kt ok lit w M n f) (hb : Below w.heap.size w w') : KMap kt ok lit w' M n f := h.fr (S := fun _ => False) (Fr.of_below hb) (fun x => x)
theorem KMap.ne_box (h : KMap kt ok lit w M n f) {g : Nat} {t : TypeId} {cs : Array Value} (hb : Box w g t cs) : M ≠ g := by
 rintro rfl
 obtain ⟨D, ⟨es, cl, hm, _⟩, _⟩ := h
 unfold Box at hb
 rw [hb] at hm
 simp at hm
theorem KMap.ne_own (h : KMap kt ok lit w M n f) {base : Nat} {e : TypeId} {size m : Nat} {v : Value} {xs : List Value} (ho : w.ownsRow base e size v m xs) : ∀ k, v.ownBlock = some k → k ≠ M := by
 rintro k hk rfl
 obtain ⟨D, ⟨es, cl, hm, _⟩, _⟩ := h
 rcases ho.2 with ⟨rfl, _⟩ | ⟨g, cap, cur, rfl, _, hh, _⟩
 ·simp [Value.ownBlock] at hk
 ·have : g = k := by simpa [Value.ownBlock] using hk
  subst this
  rw [hh] at hm
  simp at hm
theorem KMap.look (h : KMap kt ok lit w M n f) (K : KeyT kt ok val lit) {t : TypeId} (ht : Tryz.prog.underlying t = some (.map kt 3)) (k : α) (hk : ok k) :
  (Instr.lookup t (.map (some M)) (val k) true).run Tryz.prog w = .ok (.tuple #[.int .i64 ((f k).getD 0), .bool (f k).isSome]) w ∧ (Instr.lookup t (.map (some M)) (val k) false).run Tryz.prog w = .ok (.int .i64 ((f k).getD 0)) w := by
 obtain ⟨D, ⟨es, cl, hm, F, _, rfl⟩, _, h3⟩ := h
 constructor
 ·rcases Maps.fit_look true K.keyed ht (imZero w) hm F (K.of k hk) with ⟨hrun, _, hat⟩ | ⟨e0, y, _, _, hrun, hR, hat, _⟩
  ·have hf : f k = none := by
    cases hf : f k with
    | none => rfl
    | some v =>
     have := (hat .nil).symm.trans (h3 k .nil hk)
     rw [hf] at this
     cases this
   rw [hrun, hf]
   rfl
  ·have hy := plainElem_int_inv imInt hR
   obtain ⟨a, ha, rfl, _⟩ := hy
   have hf : f k = some a := by
    have h1 := (hat .nil).symm.trans (h3 k .nil hk)
    cases hf : f k with
    | none => rw [hf] at h1; cases h1
    | some v =>
     rw [hf] at h1
     have h2 : a = v := by simpa using h1
     rw [h2]
   rw [hrun, ha, hf]
   rfl
 ·rcases Maps.fit_look false K.keyed ht (imZero w) hm F (K.of k hk) with ⟨hrun, _, hat⟩ | ⟨e0, y, _, _, hrun, hR, hat, _⟩
  ·have hf : f k = none := by
    cases hf : f k with
    | none => rfl
    | some v =>
     have := (hat .nil).symm.trans (h3 k .nil hk)
     rw [hf] at this
     cases this
   rw [hrun, hf]
   rfl
  ·have hy := plainElem_int_inv imInt hR
   obtain ⟨a, ha, rfl, _⟩ := hy
   have hf : f k = some a := by
    have h1 := (hat .nil).symm.trans (h3 k .nil hk)
    cases hf : f k with
    | none => rw [hf] at h1; cases h1
    | some v =>
     rw [hf] at h1
     have h2 : a = v := by simpa using h1
     rw [h2]
   rw [hrun, ha, hf]
   rfl
theorem KMap.store [DecidableEq α] (h : KMap kt ok lit w M n f) (K : KeyT kt ok val lit) {t : TypeId} (ht : Tryz.prog.underlying t = some (.map kt 3)) (k : α) (v : Int) (hk : ok k) (hv : (Lit.int .i64 v).wf = true) (hn : n < maxLen) :
  ∃ w', (Instr.mapUpdate t (.map (some M)) (val k) (.int .i64 v)).run Tryz.prog w = .ok () w' ∧ KMap kt ok lit w' M (n + 1) (fun j => if j = k then some v else f j) ∧ Fr (fun b => b = M) w w' := by
 obtain ⟨D, h1, h2, h3⟩ := h
 obtain ⟨w', hrun, r1, r2⟩ := h1.update K.keyed ht hn (K.of k hk) (plainElem_int imInt hv)
 refine ⟨w', hrun, ⟨_, r1, h2.put _ _, fun j z hj => ?_⟩, Fr.of_grown r2 (fun _ _ e => (Option.some.inj e).symm)⟩
 by_cases hjk : j = k
 ·subst hjk
  rw [atKey_put_same h2 (show WideAt.IsKeyLit (Lit.string (lit j)) from trivial)]
  simp
 ·rw [atKey_put_other (by intro e; injection e with e; exact hjk (K.lit_inj hj hk e)), h3 j z hj]
  simp [hjk]
end
def plT {α : Type} [DecidableEq α] (l : List α) (x : α) : Option Int := if x ∈ l then some (placeOf l x : Int) else none
theorem plT_nil {α : Type} [DecidableEq α] : (plT ([] : List α)) = fun _ => none := by
 funext x
 simp [plT]
theorem plT_snoc {α : Type} [DecidableEq α] {l : List α} {x : α} (h : x ∉ l) : plT (l ++ [x]) = fun j => if j = x then some (l.length : Int) else plT l j := by
 funext j
 unfold plT
 by_cases hj : j = x
 ·subst hj
  rw [if_pos (by simp), if_pos rfl]
  unfold placeOf
  have h1 : ∀ y ∈ l, decide (y = j) = false := fun y hy => by
   rw [decide_eq_false_iff_not]
   rintro rfl
   exact h hy
  rw [List.findIdx_append, if_neg (by rw [List.findIdx_eq_length.2 h1]; omega)]
  simp [List.findIdx_cons]
 ·rw [if_neg hj]
  by_cases hl : j ∈ l
  ·rw [if_pos hl, if_pos (List.mem_append_left _ hl), place_app _ hl]
  ·rw [if_neg hl, if_neg (by simp [hl, hj])]
theorem plT_yes {α : Type} [DecidableEq α] {l : List α} {x : α} (h : x ∈ l) : plT l x = some (placeOf l x : Int) := if_pos h
theorem plT_no {α : Type} [DecidableEq α] {l : List α} {x : α} (h : x ∉ l) : plT l x = none := if_neg h
theorem findFrom_pl (x : ByteArray) (n : Int) : ∀ (P : List Pr) (k : Nat), (x, n) ∈ P.map called → findFrom x n k P = (k : Int) + (placeOf (P.map called) (x, n) : Int)
 | [], k, h => by simp at h
 | p :: P, k, h => by
  unfold findFrom placeOf
  rw [List.map_cons, List.findIdx_cons]
  by_cases hc : p.1 = x ∧ p.2.1 = n
  ·rw [if_pos hc]
   have : called p = (x, n) := by unfold called; rw [hc.1, hc.2]
   simp [this]
  ·rw [if_neg hc]
   have hne : called p ≠ (x, n) := by
    unfold called
    intro e
    injection e with e1 e2
    exact hc ⟨e1, e2⟩
   rw [List.map_cons, List.mem_cons] at h
   rcases h with h | h
   ·exact absurd h.symm hne
   ·have ih := findFrom_pl x n P (k + 1) h
    unfold placeOf at ih
    rw [ih]
    simp [hne]
    omega
/-! The three types of keys. -/
theorem uMapSI : Tryz.prog.underlying 71 = some (.map 9 3) := by kernel_rfl
theorem uMapCI : Tryz.prog.underlying 72 = some (.map 112 3) := by kernel_rfl
theorem keyedCalled : Keyed Tryz.prog 112 := Keyed.of_law (deep_law_laid laidOutAll (m := 3) (by omega) (of_decide_eq_true (by kernel_rfl)) (by kernel_rfl) (by kernel_rfl))
theorem keyTypeC : Tryz.prog.keyType 112 = true := by kernel_rfl
theorem cellsC : Tryz.prog.cellsOf 112 = 2 := by kernel_rfl
def okS (s : ByteArray) : Prop := s.size ≤ maxLen
def okF (f : ByteArray × Int) : Prop := f.1.size ≤ maxLen ∧ (Lit.int .i64 f.2).wf = true
def valF (f : ByteArray × Int) : Value := .agg #[.string f.1, .int .i64 f.2]
theorem keyC {f : ByteArray × Int} (h : f.1.size ≤ maxLen) (hn : (Lit.int .i64 f.2).wf = true) : keyOf Tryz.prog 112 (.agg #[.string f.1, .int .i64 f.2]) = some (.string (litF f)) := by
 obtain ⟨m, hm⟩ := typesSize
 unfold keyOf
 simp only [Tryz.underlying112]
 rw [if_pos (by simp [keyTypeC, Value.formed, Tryz.underlying112, cellsC]), hm]
 unfold Program.keyLits
 simp only [Tryz.underlying112, Value.cells]
 rw [if_pos (by rw [cellsC]; exact ⟨rfl, by simp⟩)]
 simp [cellsStr1, cellsInt1, Program.keyLits, uStr, uInt, h, hn, litF]
theorem keyTS : KeyT 9 okS Value.string litS := ⟨keyedStr, fun a h => keyS h, fun a b h => by injection h⟩
theorem keyTC : KeyT 112 okF valF litF := ⟨keyedCalled, fun a h => keyC h.1 h.2, fun a b h => by
 obtain ⟨a1, a2⟩ := a
 obtain ⟨b1, b2⟩ := b
 unfold valF at h
 simp at h
 rw [h.1, h.2]⟩
end Go.Proofs.YtclkdlegogjnbaaGreatDoor
