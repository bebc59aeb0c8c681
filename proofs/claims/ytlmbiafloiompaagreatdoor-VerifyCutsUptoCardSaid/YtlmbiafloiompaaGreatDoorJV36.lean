/-
  5 texts in one (SortL VerSO CodeQ CodeR AsmM). Conditions: those of each theorem.
-/
import Derived.Shelf.SlSortCmp.WholeK
import Derived.Shelf.SlSortCmp.NoneTotal
import Derived.Shelf.SlGeneric
import Derived.Ground.SlsfProg
import Derived.Test.YtlmbiafloiompaaGreatDoorProg
import Derived.Test.YtlmbiafloiompaaGreatDoorJV31
import Derived.Test.YtlmbiafloiompaaGreatDoorJV06
import Derived.Sort.Grow
import Derived.Sort.OwnSorted
import Derived.Test.YtlmbiafloiompaaGreatDoorJV08
import Derived.Test.YtlmbiafloiompaaGreatDoorJV02
import Derived.IntWalk
import Derived.Deep.QuietTactic
import Derived.BigQuiet
import Derived.Lib.ItoaLen
import Derived.Laws.Concat
import Derived.Test.YtlmbiafloiompaaGreatDoorJV07
import Derived.Test.YtlmbiafloiompaaGreatDoorJV14
import Derived.Laws.AppendOwn
import Derived.Laws.OwnMore
import Derived.WalkSpells
import Derived.Test.YtlmbiafloiompaaGreatDoorJV01
namespace Go.Proofs
open Go.Shelf
def Tryz.sortSpan_ren : Go.Shelf.Ren := ⟨fun | 6 => 90 | 15 => 120 | 14 => 119 | 28 => 154 | 29 => 155 | 20 => 146 | 21 => 147 | 22 => 148 | 23 => 149 | 24 => 150 | 25 => 151 | 26 => 152 | 27 => 153 | 46 => 169 | 47 => 170 | 48 => 171 | 49 => 172 | 50 => 173 | 57 => 187 | n => n, fun | 22 => 125 | 24 => 128 | 25 => 170 | 3 => 3 | 39 => 204 | 0 => 0 | 53 => 55 | 55 => 72 | 4 => 4 | 46 => 218 | 45 => 217 | 50 => 151 | 5 => 5 | 9 => 9 | 66 => 240 | 70 => 244 | 76 => 254 | 77 => 214 | n => n, fun | n => n⟩
theorem Tryz.sortSpan : Go.Proofs.SlLaysF0.n6 Tryz.prog Tryz.sortSpan_ren := {
  mixed := by kernel_rfl
  f6 := ⟨Tryz.f90.name, by decide, Tryz.func90.trans (congrArg some (by kernel_rfl))⟩
  f14 := ⟨Tryz.f119.name, by decide, Tryz.func119.trans (congrArg some (by kernel_rfl))⟩
  f15 := Tryz.func120.trans (congrArg some (by kernel_rfl))
  f20 := ⟨Tryz.f146.name, by decide, Tryz.func146.trans (congrArg some (by kernel_rfl))⟩
  f21 := ⟨Tryz.f147.name, by decide, Tryz.func147.trans (congrArg some (by kernel_rfl))⟩
  f22 := ⟨Tryz.f148.name, by decide, Tryz.func148.trans (congrArg some (by kernel_rfl))⟩
  f23 := ⟨Tryz.f149.name, by decide, Tryz.func149.trans (congrArg some (by kernel_rfl))⟩
  f24 := ⟨Tryz.f150.name, by decide, Tryz.func150.trans (congrArg some (by kernel_rfl))⟩
  f25 := ⟨Tryz.f151.name, by decide, Tryz.func151.trans (congrArg some (by kernel_rfl))⟩
  f26 := ⟨Tryz.f152.name, by decide, Tryz.func152.trans (congrArg some (by kernel_rfl))⟩
  f27 := ⟨Tryz.f153.name, by decide, Tryz.func153.trans (congrArg some (by kernel_rfl))⟩
  f28 := Tryz.func154.trans (congrArg some (by kernel_rfl))
  f29 := Tryz.func155.trans (congrArg some (by kernel_rfl))
  f46 := ⟨Tryz.f169.name, by decide, Tryz.func169.trans (congrArg some (by kernel_rfl))⟩
  f47 := Tryz.func170.trans (congrArg some (by kernel_rfl))
  f48 := Tryz.func171.trans (congrArg some (by kernel_rfl))
  f49 := ⟨Tryz.f172.name, by decide, Tryz.func172.trans (congrArg some (by kernel_rfl))⟩
  f50 := ⟨Tryz.f173.name, by decide, Tryz.func173.trans (congrArg some (by kernel_rfl))⟩
  f57 := ⟨Tryz.f187.name, by decide, Tryz.func187.trans (congrArg some (by kernel_rfl))⟩
  t0 := Tryz.underlying0
  a0 := Tryz.isAgg0
  z0 := Tryz.sizeOf0
  v0 := Tryz.zeroValue0
  t3 := Tryz.underlying3
  a3 := Tryz.isAgg3
  z3 := Tryz.sizeOf3
  v3 := Tryz.zeroValue3
  t4 := Tryz.underlying4
  a4 := Tryz.isAgg4
  z4 := Tryz.sizeOf4
  v4 := Tryz.zeroValue4
  t5 := Tryz.underlying5
  a5 := Tryz.isAgg5
  z5 := Tryz.sizeOf5
  v5 := Tryz.zeroValue5
  t9 := Tryz.underlying9
  a9 := Tryz.isAgg9
  z9 := Tryz.sizeOf9
  v9 := Tryz.zeroValue9
  t22 := Tryz.underlying125
  a22 := Tryz.isAgg125
  z22 := Tryz.sizeOf125
  v22 := Tryz.zeroValue125
  t25 := Tryz.underlying170
  a25 := Tryz.isAgg170
  z25 := Tryz.sizeOf170
  v25 := Tryz.zeroValue170
  t39 := Tryz.underlying204
  a39 := Tryz.isAgg204
  z39 := Tryz.sizeOf204
  v39 := Tryz.zeroValue204
  t45 := Tryz.underlying217
  a45 := Tryz.isAgg217
  z45 := Tryz.sizeOf217
  v45 := Tryz.zeroValue217
  t46 := Tryz.underlying218
  a46 := Tryz.isAgg218
  z46 := Tryz.sizeOf218
  v46 := Tryz.zeroValue218
  t50 := Tryz.underlying151
  a50 := Tryz.isAgg151
  z50 := Tryz.sizeOf151
  v50 := Tryz.zeroValue151
  t53 := Tryz.underlying55
  a53 := Tryz.isAgg55
  z53 := Tryz.sizeOf55
  v53 := Tryz.zeroValue55
  t55 := Tryz.underlying72
  a55 := Tryz.isAgg72
  z55 := Tryz.sizeOf72
  v55 := Tryz.zeroValue72
  t66 := Tryz.underlying240
  a66 := Tryz.isAgg240
  z66 := Tryz.sizeOf240
  v66 := Tryz.zeroValue240
  t70 := Tryz.underlying244
  a70 := Tryz.isAgg244
  z70 := Tryz.sizeOf244
  v70 := Tryz.zeroValue244
  t76 := Tryz.underlying254
  a76 := Tryz.isAgg254
  z76 := Tryz.sizeOf254
  v76 := Tryz.zeroValue254
  t77 := Tryz.underlying214
  a77 := Tryz.isAgg214
  z77 := Tryz.sizeOf214
  v77 := Tryz.zeroValue214 }
end Go.Proofs

namespace Go.Proofs.YtlmbiafloiompaaGreatDoor
open Go Go.RowKit Go.Sort
set_option linter.unusedVariables false
set_option linter.unusedSimpArgs false
set_option maxRecDepth 100000

theorem spClosure (x y : Int × Int × Int) (W : World) : Calls Tryz.prog 91 #[.agg #[.int .i64 x.1, .int .i64 x.2.1, .int .i64 x.2.2], .agg #[.int .i64 y.1, .int .i64 y.2.1, .int .i64 y.2.2]] W fun e w' => e = .returned (.int .i64 (Lib.compareInt x.2.1 y.2.1)) ∧ ∃ q os', w' = grow (W.drewN q) os' := by
  have hcon := fun W' => Tryz.cmp_Compare_int x.2.1 y.2.1 W'
  generalize Lib.compareInt x.2.1 y.2.1 = r at hcon ⊢
  go_enter Tryz.func91, Tryz.ntmps91
  go_wp2_with (go_at_call 92; refine (hcon _).mono ?_; rintro e w' ⟨rfl, rfl⟩)
  go_ret
  exact ⟨rfl, 0, _, by rw [alloc_eq_grow, alloc_eq_grow, grow_grow]; rfl⟩
theorem spLt (x y : Int × Int × Int) : ltOf (fun x y : Int × Int × Int => Lib.compareInt x.2.1 y.2.1) x y = decide (x.2.1 < y.2.1) := by
  unfold ltOf Lib.compareInt
  by_cases h1 : x.2.1 < y.2.1
  · simp [h1]
  · by_cases h2 : y.2.1 < x.2.1 <;> simp [h1, h2]
theorem spSwo : SWO (ltOf fun x y : Int × Int × Int => Lib.compareInt x.2.1 y.2.1) where
  irrefl x := by rw [spLt]; simp
  trans x y z h1 h2 := by rw [spLt] at *; simp at *; omega
  ntrans x y z h1 h2 := by rw [spLt] at *; simp at *; omega
theorem flatK_is (l : List (Int × Int × Int)) : flatK spC 3 l.toArray = (l.flatMap spC).toArray := by
  apply Array.ext
  · rw [size_flatK, List.size_toArray, List.size_toArray, flat_lenV spC 3 l (fun _ _ => rfl)]
  · intro j h1 h2
    rw [size_flatK, List.size_toArray] at h1
    have hk : j / 3 < l.length := by omega
    have e := flat_someV spC 3 l (fun _ _ => rfl) (j / 3) l[j / 3] (List.getElem?_eq_getElem hk) (j % 3) (Nat.mod_lt _ (by decide))
    rw [show j / 3 * 3 + j % 3 = j by omega] at e
    have h3 := get_flatK spC 3 l.toArray j (by rw [List.size_toArray]; exact h1)
    rw [getElem!_pos _ j (by rw [size_flatK, List.size_toArray]; exact h1)] at h3
    rw [h3, List.getElem_toArray]
    have h2' : j < (l.flatMap spC).length := by simpa using h2
    have h4 : (l.flatMap spC)[j]? = some ((l.flatMap spC)[j]'h2') := List.getElem?_eq_getElem h2'
    rw [e] at h4
    have h5 : l.toArray[j / 3]! = l[j / 3] := by rw [getElem!_pos _ (j / 3) (by simpa using hk)]; simp
    rw [h5]
    have h6 : j % 3 < (spC l[j / 3]).length := Nat.mod_lt _ (by decide)
    rw [List.getElem?_eq_getElem h6] at h4
    rw [getElem!_pos (spC l[j / 3]) (j % 3) h6]
    exact Option.some.inj h4
theorem heap_sortedV {w : World} {g n : Nat} {os : Array Obj} {cur : Array Value} {e : TypeId} {fr : Nat × Nat} (d : Array Value) (hb : w.heap[g]? = some (.cells cur e fr)) :
    (grow (putRow id (Sort.ahead w n) g 0 d) os).heap[g]? = some (.cells (putCells id 0 d cur) e fr) := by
  have hg : g < w.heap.size := (Array.getElem?_eq_some_iff.1 hb).1
  rw [heap_grow_old _ _ (by simpa using hg)]
  simp [putRow, mapBlock, Sort.ahead, Array.getElem?_modify, hb, onCells]
theorem fr_sortedV {w : World} {g n : Nat} {os : Array Obj} (d : Array Value) : Fr (fun k => k = g) w (grow (putRow id (Sort.ahead w n) g 0 d) os) := by
  refine ⟨rfl, rfl, rfl, by simp, fun k hk hne => ?_⟩
  rw [heap_grow_old _ _ (by simpa using hk)]
  have : g ≠ k := fun e => hne e.symm
  simp [putRow, mapBlock, Sort.ahead, Array.getElem?_modify, this]
theorem take_putCellsV (cur : Array Value) (ts : List Value) (h : ts.length ≤ cur.size) : (putCells id 0 ts.toArray cur).toList.take ts.length = ts := by
  apply List.ext_getElem?
  intro j
  by_cases hj : j < ts.length
  · rw [List.getElem?_take_of_lt hj, Array.getElem?_toList]
    simp [putCells, hj, show j < cur.size by omega]
  · rw [List.getElem?_take_eq_none (by omega), List.getElem?_eq_none (by omega)]
theorem sort_nil : SortNil := fun w => AnyF.slices_SortFunc_none Tryz.sortSpan none 0 _ w
theorem sort_ok : SortOk := by
  intro base g cap l w hown hl
  have eg : ∀ args w, (callFunc 91 args).run Tryz.prog w = .ok (.enter 91 args) w := enters_of Tryz.func91 (by kernel_rfl) rfl
  rcases hown.2 with ⟨h0, _⟩ | ⟨g', cap', cur, hv, hbg, hb, h1, h2, h3, h4⟩
  · cases h0
  injection hv with hv1 hv2 hv3
  injection hv1 with hv1
  injection hv1 with hv1
  subst hv1 hv3
  have hlen : (l.flatMap spC).length = l.length * 3 := flat_lenV spC 3 l (fun _ _ => rfl)
  have hH : HoldsK spC 3 w g 0 l.toArray := by
    unfold HoldsK
    rw [flatK_is]
    intro j hj
    rw [List.size_toArray] at hj
    refine ⟨?_, hown.frozenAt (0 + j)⟩
    rw [hown.cellAt (0 + j) (by omega), Nat.zero_add, List.getElem?_eq_getElem hj]
    rw [getElem!_pos _ j (by simpa using hj), List.getElem_toArray]
    rfl
  have hblk : g < w.heap.size := (Array.getElem?_eq_some_iff.1 hb).1
  have hcon := AnyQ.slices_SortFunc Tryz.sortSpan 3 Tryz.isAgg128 Tryz.sizeOf128 spC (fun _ => rfl) (fun x v hv => by simp [spC] at hv; rcases hv with rfl | rfl | rfl <;> rfl) (fun x y => Lib.compareInt x.2.1 y.2.1) spSwo 91 #[] g 0 cap l.toArray w eg (fun _ _ _ _ x y => spClosure x y _) hH hblk (by rw [List.size_toArray]; omega)
  rw [List.size_toArray] at hcon
  refine hcon.mono ?_
  rintro e w' ⟨rfl, d', n, os, hp, hs, rfl⟩
  obtain ⟨hp1, _, hp3⟩ := hp
  have hp1 : d'.size = l.length := by simpa using hp1
  have e1 : d'.extract 0 l.length = d' := by rw [← hp1]; exact Array.extract_size
  have e2 : l.toArray.extract 0 l.length = l.toArray := by
    have := Array.extract_size (xs := l.toArray)
    rw [List.size_toArray] at this
    exact this
  rw [e1, e2] at hp3
  have hdl : d'.toList.length = l.length := by rw [Array.length_toList, hp1]
  refine ⟨rfl, d'.toList, by simpa using hp3, ?_, ?_, ?_⟩
  · rw [List.pairwise_iff_getElem]
    intro i j hi hj hij
    have h := hs i j (Nat.zero_le _) hij (by omega)
    rw [spLt, decide_eq_false_iff_not] at h
    rw [getElem!_pos d' i (by rw [hp1]; omega), getElem!_pos d' j (by rw [hp1]; omega)] at h
    rw [Array.getElem_toList, Array.getElem_toList]
    omega
  · have ef : flatK spC 3 d' = (d'.toList.flatMap spC).toArray := by
      have := flatK_is d'.toList
      rwa [Array.toArray_toList] at this
    have hfl : (d'.toList.flatMap spC).length = l.length * 3 := by rw [flat_lenV spC 3 _ (fun _ _ => rfl), hdl]
    refine ⟨hfl, .inr ⟨g, cap, putCells id 0 (d'.toList.flatMap spC).toArray cur, rfl, hbg, ?_, h1, h2, ?_, ?_⟩⟩
    · unfold sortWorldK putRowK
      rw [ef]
      exact heap_sortedV _ hb
    · simp [putCells, h3]
    · rw [← hfl]
      exact take_putCellsV cur _ (by rw [hfl, h3]; exact Nat.mul_le_mul_right 3 h1)
  · unfold sortWorldK putRowK
    exact fr_sortedV _

end Go.Proofs.YtlmbiafloiompaaGreatDoor

namespace Go.Proofs.YtlmbiafloiompaaGreatDoor
open Go Go.RowKit Go.WideShapes Go.ChangeShapes
set_option linter.unusedVariables false

/-- All words. -/
def splitW : List UInt8 → List (List UInt8)
  | [] => [[]]
  | c :: r => if c = 32 then [] :: splitW r else match splitW r with
    | [] => [[c]]
    | w :: ws => (c :: w) :: ws

theorem splitW_ne (l : List UInt8) : splitW l ≠ [] := by
  cases l with
  | nil => simp [splitW]
  | cons c r =>
    rw [splitW]
    split
    · simp
    · split <;> simp
theorem splitW_miss : ∀ {w : List UInt8}, noBlank w → splitW w = [w] := by
  intro w
  induction w with
  | nil => intro _; rfl
  | cons c r ih =>
    intro h
    rw [splitW, if_neg (h c (by simp)), ih (fun x hx => h x (by simp [hx]))]
theorem splitW_hit : ∀ {w : List UInt8} (r : List UInt8), noBlank w → splitW (w ++ 32 :: r) = w :: splitW r := by
  intro w r
  induction w with
  | nil => intro _; simp [splitW]
  | cons c w ih =>
    intro h
    rw [List.cons_append, splitW, if_neg (h c (by simp)), ih (fun x hx => h x (by simp [hx]))]
theorem splitW_join : ∀ (ws : List (List UInt8)) (w0 : List UInt8), noBlank w0 → (∀ w ∈ ws, noBlank w) → splitW (w0 ++ ws.flatMap (32 :: ·)) = w0 :: ws := by
  intro ws
  induction ws with
  | nil => intro w0 h0 _; simp [splitW_miss h0]
  | cons w ws ih =>
    intro w0 h0 hws
    rw [List.flatMap_cons, List.cons_append, splitW_hit _ h0, ih w (hws w (by simp)) (fun x hx => hws x (by simp [hx]))]

/-- The digits' number, as far as they are digits. -/
def digOk (c : UInt8) : Bool := decide (48 ≤ c.toNat ∧ c.toNat ≤ 57)
def valOf (l : List UInt8) : Nat := l.foldl (fun n c => 10 * n + (c.toNat - 48)) 0
/-- A word's number; -1: it is none of few digits. -/
def rnumOf (w : List UInt8) : Int :=
  if w.length < 1 ∨ 7 < w.length then -1
  else if w.all digOk = true then (if Lib.itoa (valOf w : Int) = w then (valOf w : Int) else -1)
  else -1

end Go.Proofs.YtlmbiafloiompaaGreatDoor

namespace Go.Proofs.YtlmbiafloiompaaGreatDoor
open Go Go.RowKit Go.WideShapes Go.ChangeShapes
set_option linter.unusedVariables false

def strs (l : List (List UInt8)) : List Value := l.map fun w => Value.string (bs w)

/-- Of the text s, up to byte i, the words that are done; the next one begins at f. -/
def WordsAt (s : List UInt8) (f i : Nat) (done : List (List UInt8)) : Prop :=
  (f ≤ i ∧ i ≤ s.length ∧ done.length ≤ f ∧ splitW s = done ++ splitW (s.drop f) ∧ noBlank ((s.drop f).take (i - f))) ∨ (i = s.length + 1 ∧ splitW s = done ∧ done.length ≤ s.length + 1)

theorem WordsAt.zero (s : List UInt8) : WordsAt s 0 0 [] := .inl ⟨Nat.le_refl _, Nat.zero_le _, Nat.le_refl _, rfl, fun c hc => by simp at hc⟩

theorem drop_take_cons (s : List UInt8) (f i : Nat) (c : UInt8) (hf : f ≤ i) (hc : s[i]? = some c) : s.drop f = (s.drop f).take (i - f) ++ c :: s.drop (i + 1) := by
  have hi : i < s.length := (List.getElem?_eq_some_iff.1 hc).1
  have h1 : (s.drop f).drop (i - f) = c :: s.drop (i + 1) := by
    rw [List.drop_drop, show f + (i - f) = i by omega, List.drop_eq_getElem_cons hi]
    have : s[i] = c := (List.getElem?_eq_some_iff.1 hc).2
    rw [this]
  rw [← h1, List.take_append_drop]

theorem WordsAt.blank {s : List UInt8} {f i : Nat} {done : List (List UInt8)} (h : WordsAt s f i done) (hc : s[i]? = some 32) : WordsAt s (i + 1) (i + 1) (done ++ [(s.drop f).take (i - f)]) := by
  have hi : i < s.length := (List.getElem?_eq_some_iff.1 hc).1
  rcases h with ⟨h1, h2, h3, h4, h5⟩ | ⟨h1, _, _⟩
  · refine .inl ⟨Nat.le_refl _, by omega, by simp; omega, ?_, fun c hc => by simp at hc⟩
    have h6 := splitW_hit (s.drop (i + 1)) h5
    rw [← drop_take_cons s f i 32 h1 hc] at h6
    rw [h4, h6]
    simp
  · omega
theorem WordsAt.more {s : List UInt8} {f i : Nat} {done : List (List UInt8)} {c : UInt8} (h : WordsAt s f i done) (hc : s[i]? = some c) (hn : c ≠ 32) : WordsAt s f (i + 1) done := by
  have hi : i < s.length := (List.getElem?_eq_some_iff.1 hc).1
  rcases h with ⟨h1, h2, h3, h4, h5⟩ | ⟨h1, _, _⟩
  · refine .inl ⟨by omega, by omega, h3, h4, fun x hx => ?_⟩
    have e : (s.drop f).take (i + 1 - f) = (s.drop f).take (i - f) ++ [c] := by
      have hl : i - f < (s.drop f).length := by simp; omega
      rw [show i + 1 - f = (i - f) + 1 by omega, List.take_succ_eq_append_getElem hl]
      congr 2
      rw [List.getElem_drop]
      have : s[i]? = some s[i] := List.getElem?_eq_getElem hi
      rw [this] at hc
      injection hc with hc
      rw [← hc]
      congr 1
      omega
    rw [e] at hx
    rcases List.mem_append.1 hx with hx | hx
    · exact h5 x hx
    · have : x = c := by simpa using hx
      rw [this]
      exact hn
  · omega
theorem WordsAt.last {s : List UInt8} {f : Nat} {done : List (List UInt8)} (h : WordsAt s f s.length done) : WordsAt s (s.length + 1) (s.length + 1) (done ++ [(s.drop f).take (s.length - f)]) := by
  rcases h with ⟨h1, h2, h3, h4, h5⟩ | ⟨h1, _, _⟩
  · have e : (s.drop f).take (s.length - f) = s.drop f := List.take_of_length_le (by simp)
    rw [e] at h5 ⊢
    refine .inr ⟨rfl, by rw [h4, splitW_miss h5], by simp; omega⟩
  · omega

def WordsRes (w : World) (s : List UInt8) (e : Ending) (w' : World) : Prop :=
  ∃ v, e = .returned v ∧ w'.ownsRow w.heap.size 9 1 v (splitW s).length (strs (splitW s)) ∧ Below w.heap.size w w'

end Go.Proofs.YtlmbiafloiompaaGreatDoor

namespace Go.Proofs.YtlmbiafloiompaaGreatDoor
open Go
set_option linter.unusedVariables false
set_option linter.unusedSimpArgs false

/-- A number that is not above the greatest. -/
def numUpto (w : List UInt8) (g : Int) : Option Int := if 0 ≤ rnumOf w ∧ rnumOf w ≤ g then some (rnumOf w) else none
/-- What stands ahead of the first slash, and behind it. -/
def slashAt : List UInt8 → Option (List UInt8 × List UInt8)
  | [] => none
  | c :: r => if c = 47 then some ([], r) else (slashAt r).map fun p => (c :: p.1, p.2)
/-- A name, a slash, a number from the least one on. -/
def funOf (w : List UInt8) (least : Int) : Option (ByteArray × Int) :=
  match slashAt w with
  | none => none
  | some (a, d) => match numUpto d 8 with
    | none => none
    | some n => if least ≤ n ∧ nameOk (bs a) = true then some (bs a, n) else none
/-- What a label's word says. -/
def labelOf (w : List UInt8) : Option Int := match w with
  | 64 :: d => numUpto d 1023
  | _ => none
/-- Where a thing is in a row; behind all, if it isn't. -/
def placeOf {α : Type} [DecidableEq α] (l : List α) (x : α) : Nat := l.findIdx fun y => decide (y = x)
def addTo {α : Type} [DecidableEq α] (l : List α) (x : α) : List α := if x ∈ l then l else l ++ [x]
/-- A predicate's number, to which it comes. -/
def predStep (o : Ob) (f : ByteArray × Int) : Int × Ob :=
  if findFrom f.1 f.2 0 o.preds < 0 then ((o.preds.length : Int), { o with preds := o.preds ++ [(f.1, f.2, 65535)] }) else (findFrom f.1 f.2 0 o.preds, o)
/-- An operand that is as in an instruction's text. -/
def opdOf (kind : Int) (w : List UInt8) : Option Int :=
  match numOf kind w with
  | none => none
  | some n => if lowOf kind ≤ n ∧ n ≤ highOf kind ∧ wordOf kind n = w then some n else none
/-- What a word says as an operand; what comes into the tables. -/
def opStep (op kind : Int) (w : List UInt8) (o : Ob) : Option (Int × Ob) :=
  if kind = 3 then (if nameOk (bs w) = true then some ((placeOf o.atoms (bs w) : Int), { o with atoms := addTo o.atoms (bs w) }) else none)
  else if kind = 4 then (funOf w 1).map fun f => ((placeOf o.funs f : Int), { o with funs := addTo o.funs f })
  else if kind = 7 then (funOf w 0).map fun f => predStep o f
  else if kind = 8 then
    (if w = [45] then (if op = 26 then some (65535, o) else none) else (labelOf w).map fun n => (n, o))
  else (opdOf kind w).map fun n => (n, o)
def opsStep (op : Int) : List Int → List (List UInt8) → Ob → Option (List Int × Ob)
  | [], _, o => some ([], o)
  | k :: ks, ws, o => match opStep op k (ws.headD []) o with
    | none => none
    | some (x, o') => (opsStep op ks ws.tail o').map fun r => (x :: r.1, r.2)

/-- What comes to be, line by line: the object, labels (number, place), what is to be looked at again (line, place, is it a pred?). -/
structure St where
  ob : Ob
  labs : List (Int × Int)
  pts : List (Int × Int × Bool)
def startSt : St := ⟨emptyOb, [], []⟩
def labOf (labs : List (Int × Int)) (k : Int) : Option Int := (labs.find? fun p => p.1 == k).map (·.2)
def predLine (n : Int) (w : List UInt8) (s : St) : Except Int St :=
  match funOf w 0 with
  | none => .error 17
  | some f =>
    if ((predStep s.ob f).2.preds.getD (predStep s.ob f).1.toNat (⟨#[]⟩, 0, 0)).2.2 ≠ 65535 then .error 11
    else .ok { s with ob := { (predStep s.ob f).2 with preds := (predStep s.ob f).2.preds.set (predStep s.ob f).1.toNat (f.1, f.2, (s.ob.code.length : Int)) }, pts := s.pts ++ [(n, (s.ob.code.length : Int), true)] }
def labelLine (w : List UInt8) (s : St) : Except Int St :=
  match numUpto w 1023 with
  | none => .error 17
  | some k => if (labOf s.labs k).isSome = true then .error 11 else .ok { s with labs := s.labs ++ [(k, (s.ob.code.length : Int))] }
def instrLine (n : Int) (l : List UInt8) (s : St) : Except Int St :=
  if namedOf (bs ((splitW l).getD 0 [])) < 0 ∨ (splitW l).length - 1 ≠ (opsOf (namedOf (bs ((splitW l).getD 0 [])))).length then .error 17
  else match opsStep (namedOf (bs ((splitW l).getD 0 []))) (opsOf (namedOf (bs ((splitW l).getD 0 [])))) (splitW l).tail s.ob with
    | none => .error 17
    | some (x, o') => .ok { s with ob := { o' with code := o'.code ++ [insOf (namedOf (bs ((splitW l).getD 0 []))) x] }, pts := s.pts ++ [(n, (s.ob.code.length : Int), false)] }
def predWord : List UInt8 := [112, 114, 101, 100, 32]
def lineStep (n : Int) (l : List UInt8) (s : St) : Except Int St :=
  if predWord.isPrefixOf l = true then predLine n (l.drop 5) s
  else match l with
    | 64 :: d => labelLine d s
    | _ => instrLine n l s
def bigO (o : Ob) : Bool := bigB o.atoms.length o.funs.length o.preds.length o.code.length
def linesStep : Nat → List (List UInt8) → St → Except (Int × Int) St
  | _, [], s => .ok s
  | n, l :: ls, s => match lineStep n l s with
    | .error e => .error (e, n)
    | .ok s' => if bigO s'.ob = true then .error (2, n) else linesStep (n + 1) ls s'
/-- Labels become places. -/
def placeArgs (labs : List (Int × Int)) (m : Nat) : List Int → List Int → Option (List Int)
  | [], xs => some xs
  | k :: ks, xs =>
    if k = 8 ∧ xs.headD 0 ≠ 65535 then match labOf labs (xs.headD 0) with
      | none => none
      | some x => if (m : Int) ≤ x then none else (placeArgs labs m ks xs.tail).map (x :: ·)
    else (placeArgs labs m ks xs.tail).map (xs.headD 0 :: ·)
def placeIns (labs : List (Int × Int)) (m : Nat) (i : Ins) : Option Ins := (placeArgs labs m (opsOf i.1) (argOf i)).map fun l => insOf i.1 l
def ptStep (labs : List (Int × Int)) (o : Ob) (p : Int × Int × Bool) : Except (Int × Int) Ob :=
  if p.2.2 = true then
    (if (o.code.length : Int) ≤ p.2.1 ∨ 1 < (o.preds.filter fun q => q.2.2 == p.2.1).length then .error (7, p.1) else .ok o)
  else match placeIns labs o.code.length (o.code.getD p.2.1.toNat (0, 0, 0, 0, 0)) with
    | none => .error (10, p.1)
    | some i => .ok { o with code := o.code.set p.2.1.toNat i }
def ptsStep (labs : List (Int × Int)) : List (Int × Int × Bool) → Ob → Except (Int × Int) Ob
  | [], o => .ok o
  | p :: ps, o => match ptStep labs o p with
    | .error e => .error e
    | .ok o' => ptsStep labs ps o'
/-- The object of lines; what is wrong, and in which line. -/
def asmOf (ls : List (List UInt8)) : Ob × Int × Int :=
  match linesStep 0 ls startSt with
  | .error (e, n) => (emptyOb, e, n)
  | .ok s => match ptsStep s.labs s.pts s.ob with
    | .error (e, n) => (emptyOb, e, n)
    | .ok o => (o, 0, -1)

end Go.Proofs.YtlmbiafloiompaaGreatDoor
