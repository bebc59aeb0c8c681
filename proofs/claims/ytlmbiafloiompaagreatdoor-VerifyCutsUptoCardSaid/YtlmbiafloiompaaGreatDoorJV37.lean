/-
  An instruction's words, read one by one or all together (plain): the same. No condition.
-/
import Derived.Test.YtlmbiafloiompaaGreatDoorJV36
namespace Go.Proofs.YtlmbiafloiompaaGreatDoor
open Go
set_option linter.unusedVariables false
set_option linter.unusedSimpArgs false

/-- What a word is as an operand by itself. -/
def argW (op kind : Int) (w : List UInt8) : Option Int :=
  match numOf kind w with
  | none => none
  | some n => if mayB op kind n = true ∧ wordOf kind n = w then some n else none
def argsW (op : Int) : List Int → List (List UInt8) → Option (List Int)
  | [], _ => some []
  | k :: ks, ws => match argW op k (ws.headD []) with
    | none => none
    | some x => (argsW op ks ws.tail).map (x :: ·)
theorem argW_some {op kind n : Int} {w : List UInt8} (h : argW op kind w = some n) : mayB op kind n = true ∧ wordOf kind n = w := by
  unfold argW at h
  split at h
  · cases h
  · rename_i m hm
    split at h
    · rename_i hc
      injection h with h
      subst h
      exact hc
    · cases h
theorem argW_of {op : Int} {k : Nat} {n : Int} {w : List UInt8} (hk : k < (opsOf op).length) (hm : mayB op ((opsOf op).getD k 0) n = true) (hw : wordOf ((opsOf op).getD k 0) n = w) : argW op ((opsOf op).getD k 0) w = some n := by
  have hkd := ops_kind op k
  have hb := (back_at hkd.1 hkd.2 (may_valid hk hm)).1
  rw [hw] at hb
  unfold argW
  rw [hb]
  simp only
  rw [if_pos ⟨hm, hw⟩]
theorem argsW_len {op : Int} : ∀ {ks : List Int} {ws : List (List UInt8)} {L : List Int}, argsW op ks ws = some L → L.length = ks.length
  | [], _, L, h => by
    injection h with h
    subst h
    rfl
  | k :: ks, ws, L, h => by
    rw [argsW] at h
    split at h
    · cases h
    · rename_i x hx
      cases h1 : argsW op ks ws.tail with
      | none => rw [h1] at h; cases h
      | some M =>
        rw [h1] at h
        injection h with h
        subst h
        simp [argsW_len h1]
/-- All operands are there just where each is. -/
theorem argsW_at {op : Int} : ∀ (ks : List Int) (ws : List (List UInt8)) (L : List Int), argsW op ks ws = some L ↔ L.length = ks.length ∧ ∀ k, k < ks.length → argW op (ks.getD k 0) (ws.getD k []) = some (L.getD k 0)
  | [], ws, L => by
    rw [argsW]
    constructor
    · intro h
      injection h with h
      subst h
      exact ⟨rfl, fun k hk => absurd hk (by simp)⟩
    · rintro ⟨h, _⟩
      rw [List.length_eq_zero_iff.1 h]
  | k :: ks, ws, L => by
    have ih := argsW_at (op := op) ks ws.tail
    have hd : ws.headD [] = ws.getD 0 [] := by cases ws <;> rfl
    have ht : ∀ j, ws.tail.getD j [] = ws.getD (j + 1) [] := fun j => by cases ws <;> simp
    rw [argsW, hd]
    constructor
    · intro h
      split at h
      · cases h
      · rename_i x hx
        cases h1 : argsW op ks ws.tail with
        | none => rw [h1] at h; cases h
        | some M =>
          rw [h1] at h
          injection h with h
          subst h
          obtain ⟨g1, g2⟩ := (ih M).1 h1
          refine ⟨by simp [g1], fun j hj => ?_⟩
          cases j with
          | zero => simpa using hx
          | succ j =>
            have := g2 j (by simpa using hj)
            rw [ht] at this
            simpa using this
    · rintro ⟨h1, h2⟩
      cases L with
      | nil => simp at h1
      | cons x M =>
        have h0 := h2 0 (by simp)
        simp only [List.getD_cons_zero] at h0
        rw [h0]
        simp only
        have h3 := (ih M).2 ⟨by simpa using h1, fun j hj => by
          have := h2 (j + 1) (by simpa using hj)
          simp only [List.getD_cons_succ] at this
          rw [ht]
          exact this⟩
        rw [h3]
        rfl

/-- A text of words is parsed word by word. -/
theorem parse_words (K : Nat) (hK : K < 27) (ws : List (List UInt8)) (hn : ws.length = (opsOf (K : Int)).length) (hnb : ∀ w ∈ ws, noBlank w) :
    parseP ((nameAt K).data.toList ++ ws.flatMap (32 :: ·)) = (argsW (K : Int) (opsOf (K : Int)) ws).map fun L => ((K : Int), padded L) := by
  have hfew := ops_few (K : Int)
  have hnm : ∀ k, k < 27 → noBlank (nameAt k).data.toList := fun k hk c hc e => by
    subst e
    have := name_noBlank k hk
    simp [hc] at this
  have hname : nameOf (K : Int) = nameAt K := by rw [nameOf, if_pos (by omega)]; rfl
  cases h : argsW (K : Int) (opsOf (K : Int)) ws with
  | some L =>
    obtain ⟨g1, g2⟩ := (argsW_at _ _ _).1 h
    have hat : ∀ k, k < (opsOf (K : Int)).length → mayB (K : Int) ((opsOf (K : Int)).getD k 0) (L.getD k 0) = true ∧ wordOf ((opsOf (K : Int)).getD k 0) (L.getD k 0) = ws.getD k [] := fun k hk => argW_some (g2 k hk)
    have hpad : ∀ k, k < 4 → (padded L).getD k 0 = L.getD k 0 := fun k hk => by
      match k, hk with
      | 0, _ => rfl
      | 1, _ => rfl
      | 2, _ => rfl
      | 3, _ => rfl
    have hr : rightB (K : Int) (padded L) = true := by
      rw [rightB, Bool.and_eq_true, List.all_eq_true]
      refine ⟨decide_eq_true (by omega), fun k hk => ?_⟩
      have hk4 : k < 4 := List.mem_range.1 hk
      rw [hpad k hk4]
      by_cases hkn : k < (opsOf (K : Int)).length
      · exact (hat k hkn).1
      · have e1 : (opsOf (K : Int)).getD k 0 = 0 := by rw [List.getD_eq_getElem?_getD, List.getElem?_eq_none (by omega)]; rfl
        have e2 : L.getD k 0 = 0 := by rw [List.getD_eq_getElem?_getD, List.getElem?_eq_none (by omega)]; rfl
        rw [e1, e2]
        refine decide_eq_true (.inr ?_)
        have a : lowOf 0 = 0 := rfl
        have b : highOf 0 = 0 := rfl
        omega
    have ht : textOf (K : Int) (padded L) = (nameAt K).data.toList ++ ws.flatMap (32 :: ·) := by
      rw [textOf, if_pos hr, hname, tail_flat]
      congr 2
      refine List.ext_getElem (by simp [hn]) fun k h1 h2 => ?_
      have hk : k < (opsOf (K : Int)).length := by simpa using h1
      rw [List.getElem_map, List.getElem_range, hpad k (by omega), (hat k hk).2, List.getD_eq_getElem?_getD, List.getElem?_eq_getElem h2]
      rfl
    have hb := parse_back (op := (K : Int)) (a := L.getD 0 0) (b := L.getD 1 0) (c := L.getD 2 0) (d := L.getD 3 0) hr
    have hb2 : parseP (textOf (K : Int) (padded L)) = some ((K : Int), padded L) := hb
    rw [ht] at hb2
    rw [hb2]
    rfl
  | none =>
    cases hp : parseP ((nameAt K).data.toList ++ ws.flatMap (32 :: ·)) with
    | none => rfl
    | some x =>
      exfalso
      obtain ⟨op, l⟩ := x
      obtain ⟨ht, hr, L, hL⟩ := parse_sound hp
      have hrg := right_range hr
      obtain ⟨K2, rfl⟩ := Int.eq_ofNat_of_zero_le hrg.1
      have hK2 : K2 < 27 := by omega
      have hname2 : nameOf (K2 : Int) = nameAt K2 := by rw [nameOf, if_pos hrg]; rfl
      have hval : ∀ k, k < (opsOf (K2 : Int)).length → noBlank (wordOf ((opsOf (K2 : Int)).getD k 0) (l.getD k 0)) := fun k hk => by
        have hkd := ops_kind (K2 : Int) k
        have hf := ops_few (K2 : Int)
        exact (back_at hkd.1 hkd.2 (may_valid hk (right_at hr k (by omega)))).2
      have hs := congrArg splitW ht
      rw [splitW_join _ _ (hnm K hK) hnb, textOf, if_pos hr, hname2, tail_flat, splitW_join _ _ (hnm K2 hK2) (fun w hw => by
        obtain ⟨j, hj, rfl⟩ := List.mem_map.1 hw
        exact hval j (List.mem_range.1 hj))] at hs
      injection hs with h1 h2
      have hKK : K2 = K := by
        have e : nameAt K2 = nameAt K := ByteArray.ext (Array.ext' h1)
        have a := named_back K2 hK2
        have b := named_back K hK
        rw [e, b] at a
        omega
      subst hKK
      have hsome : argsW (K2 : Int) (opsOf (K2 : Int)) ws = some ((List.range (opsOf (K2 : Int)).length).map fun k => l.getD k 0) := by
        refine (argsW_at _ _ _).2 ⟨by simp, fun k hk => ?_⟩
        have hf := ops_few (K2 : Int)
        have e1 : ((List.range (opsOf (K2 : Int)).length).map fun k => l.getD k 0).getD k 0 = l.getD k 0 := by
          rw [List.getD_eq_getElem?_getD, List.getElem?_map, List.getElem?_range hk]
          rfl
        rw [e1]
        refine argW_of hk (right_at hr k (by omega)) ?_
        have e2 : ∀ f : Nat → List UInt8, ((List.range (opsOf (K2 : Int)).length).map f).getD k [] = f k := fun f => by
          rw [List.getD_eq_getElem?_getD, List.getElem?_map, List.getElem?_range hk]
          rfl
        rw [← h2, e2]
      rw [h] at hsome
      cases hsome

/-- Does a word name what a table has, or a label? -/
def isNamedB (kind : Int) (w : List UInt8) : Bool := decide (kind = 3 ∨ kind = 4 ∨ kind = 7 ∨ (kind = 8 ∧ w ≠ [45]))
/-- The number of what a word names. -/
def numStep (kind : Int) (w : List UInt8) (o : Ob) : Option (Int × Ob) :=
  if kind = 3 then (if nameOk (bs w) = true then some ((placeOf o.atoms (bs w) : Int), { o with atoms := addTo o.atoms (bs w) }) else none)
  else if kind = 4 then (funOf w 1).map fun f => ((placeOf o.funs f : Int), { o with funs := addTo o.funs f })
  else if kind = 7 then (funOf w 0).map fun f => predStep o f
  else (labelOf w).map fun n => (n, o)
/-- What the words name themselves: their numbers, the words that are left, the tables. -/
def namesStep : List Int → List (List UInt8) → Ob → Option (List Int × List (List UInt8) × Ob)
  | [], _, o => some ([], [], o)
  | k :: ks, ws, o =>
    if isNamedB k (ws.headD []) = true then match numStep k (ws.headD []) o with
      | none => none
      | some (x, o') => (namesStep ks ws.tail o').map fun r => (x :: r.1, [48] :: r.2.1, r.2.2)
    else (namesStep ks ws.tail o).map fun r => (0 :: r.1, ws.headD [] :: r.2.1, r.2.2)
def addL : List Int → List Int → List Int
  | [], _ => []
  | x :: xs, ys => (x + ys.headD 0) :: addL xs ys.tail

theorem zero_word (op kind : Int) (h : kind = 3 ∨ kind = 4 ∨ kind = 7 ∨ kind = 8) : argW op kind [48] = some 0 := by
  have h1 : numOf kind [48] = some 0 := by
    rcases h with rfl | rfl | rfl | rfl <;> decide +kernel
  have h2 : wordOf kind 0 = [48] := by
    rcases h with rfl | rfl | rfl | rfl <;> decide +kernel
  have h3 : mayB op kind 0 = true := by
    refine decide_eq_true (.inr ?_)
    rcases h with rfl | rfl | rfl | rfl <;> decide
  unfold argW
  rw [h1]
  simp only
  rw [if_pos ⟨h3, h2⟩]
/-- One word: what the document's reading says is what the program's says. -/
theorem step_named {op kind : Int} {w : List UInt8} {o : Ob} (h : isNamedB kind w = true) : opStep op kind w o = numStep kind w o := by
  have h0 := of_decide_eq_true h
  unfold opStep numStep
  rcases h0 with rfl | rfl | rfl | ⟨rfl, h1⟩
  · rfl
  · rfl
  · rfl
  · rw [if_neg (by decide), if_neg (by decide), if_neg (by decide), if_pos rfl, if_neg h1, if_neg (by decide), if_neg (by decide), if_neg (by decide)]
theorem dash_num : numOf 8 [45] = some 65535 := by decide +kernel
theorem dash_word : wordOf 8 65535 = [45] := by decide +kernel
theorem step_plain {op kind : Int} {w : List UInt8} {o : Ob} (h : isNamedB kind w = false) (hop : op = 26 → kind = 8) : opStep op kind w o = (argW op kind w).map fun n => (n, o) := by
  have h := of_decide_eq_false h
  unfold opStep
  rw [if_neg (fun e => h (.inl e)), if_neg (fun e => h (.inr (.inl e))), if_neg (fun e => h (.inr (.inr (.inl e))))]
  by_cases h8 : kind = 8
  · subst h8
    have hw : w = [45] := Classical.byContradiction fun e => h (.inr (.inr (.inr ⟨rfl, e⟩)))
    subst hw
    rw [if_pos rfl, if_pos rfl]
    unfold argW
    rw [dash_num]
    simp only
    by_cases ho : op = 26
    · rw [if_pos ho, if_pos ⟨decide_eq_true (.inl ⟨ho, rfl⟩), dash_word⟩]
      rfl
    · rw [if_neg ho, if_neg (fun e => by
        rcases of_decide_eq_true e.1 with ⟨h1, _⟩ | ⟨_, h2⟩
        · exact ho h1
        · exact absurd h2 (by decide))]
      rfl
  · rw [if_neg h8]
    have hm : ∀ n, mayB op kind n = true ↔ lowOf kind ≤ n ∧ n ≤ highOf kind := fun n => by
      constructor
      · intro e
        rcases of_decide_eq_true e with ⟨h1, _⟩ | e
        · exact absurd (hop h1) h8
        · exact e
      · exact fun e => decide_eq_true (.inr e)
    unfold opdOf argW
    cases numOf kind w with
    | none => rfl
    | some n =>
      simp only
      by_cases hc : mayB op kind n = true ∧ wordOf kind n = w
      · rw [if_pos hc, if_pos ⟨((hm n).1 hc.1).1, ((hm n).1 hc.1).2, hc.2⟩]
      · rw [if_neg hc, if_neg (fun e => hc ⟨(hm n).2 ⟨e.1, e.2.1⟩, e.2.2⟩)]
/-- All words: what is read one by one is what is named, and what is left to be read together. -/
theorem steps_same (op : Int) : ∀ (ks : List Int) (ws : List (List UInt8)) (o : Ob), (op = 26 → ∀ k ∈ ks, k = 8) →
    opsStep op ks ws o = match namesStep ks ws o with
      | none => none
      | some (ns, ws', o') => (argsW op ks ws').map fun L => (addL L ns, o')
  | [], ws, o, _ => rfl
  | k :: ks, ws, o, hop => by
    have ih := fun ws o => steps_same op ks ws o (fun h j hj => hop h j (by simp [hj]))
    rw [opsStep, namesStep]
    cases hn : isNamedB k (ws.headD []) with
    | true =>
      rw [step_named hn]
      simp only [if_pos]
      cases hs : numStep k (ws.headD []) o with
      | none => rfl
      | some r =>
        obtain ⟨x, o1⟩ := r
        simp only
        rw [ih]
        have hz : argW op k [48] = some 0 := zero_word op k (by
          rcases of_decide_eq_true hn with h | h | h | h
          · exact .inl h
          · exact .inr (.inl h)
          · exact .inr (.inr (.inl h))
          · exact .inr (.inr (.inr h.1)))
        cases hs2 : namesStep ks ws.tail o1 with
        | none => rfl
        | some r =>
          obtain ⟨ns, ws', o'⟩ := r
          simp only [Option.map_some, argsW, List.headD_cons, List.tail_cons, hz]
          cases argsW op ks ws' with
          | none => rfl
          | some L => simp [addL]
    | false =>
      rw [step_plain hn (fun h => hop h k (by simp))]
      simp only [Bool.false_eq_true, if_false]
      cases ha : argW op k (ws.headD []) with
      | none =>
        simp only [Option.map_none]
        cases hs2 : namesStep ks ws.tail o with
        | none => rfl
        | some r =>
          obtain ⟨ns, ws', o'⟩ := r
          simp only [Option.map_some, argsW, List.headD_cons, ha, Option.map_none]
      | some x =>
        simp only [Option.map_some]
        rw [ih]
        cases hs2 : namesStep ks ws.tail o with
        | none => rfl
        | some r =>
          obtain ⟨ns, ws', o'⟩ := r
          simp only [Option.map_some, argsW, List.headD_cons, List.tail_cons, ha]
          cases argsW op ks ws' with
          | none => rfl
          | some L => simp [addL]

end Go.Proofs.YtlmbiafloiompaaGreatDoor
