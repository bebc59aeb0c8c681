/-
  What is looked at when all lines are known, by the document and by the program (plain): the same first thing is wrong. No condition.
-/
import Derived.Test.YtfgnapfodnhppaaGreatDoorJ39
import Derived.Test.YtfgnapfodnhppaaGreatDoorJ38
namespace Go.Proofs.YtfgnapfodnhppaaGreatDoor
open Go
set_option linter.unusedVariables false
set_option linter.unusedSimpArgs false

def argAt (o : Ob) (c k : Int) : Int := (argOf (o.code.getD c.toNat (0, 0, 0, 0, 0))).getD k.toNat 0
def labAt (r : Rs) (u : Int × Int × Int) : Int := r.labs.getD (argAt r.ob u.1 u.2.1).toNat 0
def usedBad (r : Rs) (u : Int × Int × Int) : Bool := decide (labAt r u = 0 ∨ (r.ob.code.length : Int) < labAt r u)
def lineBad (r : Rs) (k : Nat) : Bool := decide ((r.ob.code.length : Int) ≤ entK r.ob (r.lines.getD k (0, 0)).1 ∨ (k + 1 < r.lines.length ∧ entK r.ob (r.lines.getD (k + 1) (0, 0)).1 = entK r.ob (r.lines.getD k (0, 0)).1))
def badU (r : Rs) (i : Int) : Bool := r.used.any fun u => u.2.2 == i && usedBad r u
def badL (r : Rs) (i : Int) : Bool := (List.range r.lines.length).any fun k => (r.lines.getD k (0, 0)).2 == i && lineBad r k
def rSettle (r : Rs) : Nat → Nat → Option (Int × Int)
  | _, 0 => none
  | i, m + 1 => if badU r (i : Int) = true then some (10, (i : Int)) else if badL r (i : Int) = true then some (7, (i : Int)) else rSettle r (i + 1) m
def ptBad (s : St) (p : Int × Int × Bool) : Option Int :=
  if p.2.2 = true then (if (s.ob.code.length : Int) ≤ p.2.1 ∨ 1 < (s.ob.preds.filter fun q => q.2.2 == p.2.1).length then some 7 else none)
  else match placeIns s.labs s.ob.code.length (s.ob.code.getD p.2.1.toNat (0, 0, 0, 0, 0)) with
    | none => some 10
    | some _ => none
def firstBad (s : St) : List (Int × Int × Bool) → Option (Int × Int)
  | [] => none
  | p :: ps => match ptBad s p with
    | some e => some (e, p.1)
    | none => firstBad s ps
/-- What the program looks at, one behind the other: the first that is wrong. -/
theorem pts_first {s : St} : ∀ (ps : List (Int × Int × Bool)) (k : Nat) (o : Ob), o.preds = s.ob.preds → o.code.length = s.ob.code.length → (∀ j, k ≤ j → o.code.getD j (0, 0, 0, 0, 0) = s.ob.code.getD j (0, 0, 0, 0, 0)) → (ps.filter (fun p => !p.2.2)).map (fun p => p.2.1) = (List.range' k (s.ob.code.length - k)).map (fun k : Nat => (k : Int)) →
    (∃ e, firstBad s ps = some e ∧ ptsStep s.labs ps o = .error e) ∨ (firstBad s ps = none ∧ ∃ o', ptsStep s.labs ps o = .ok o')
  | [], k, o, _, _, _, _ => .inr ⟨rfl, o, rfl⟩
  | p :: ps, k, o, hp, hl, hr, hf => by
    cases hb : p.2.2 with
    | true =>
      rw [List.filter_cons_of_neg (by simp [hb])] at hf
      have h1 : ptStep s.labs o p = if (s.ob.code.length : Int) ≤ p.2.1 ∨ 1 < (s.ob.preds.filter fun q => q.2.2 == p.2.1).length then .error (7, p.1) else .ok o := by
        unfold ptStep
        rw [if_pos hb, hp, hl]
      have h2 : ptBad s p = if (s.ob.code.length : Int) ≤ p.2.1 ∨ 1 < (s.ob.preds.filter fun q => q.2.2 == p.2.1).length then some 7 else none := by
        unfold ptBad
        rw [if_pos hb]
      by_cases hx : (s.ob.code.length : Int) ≤ p.2.1 ∨ 1 < (s.ob.preds.filter fun q => q.2.2 == p.2.1).length
      · rw [if_pos hx] at h1 h2
        exact .inl ⟨(7, p.1), by rw [firstBad, h2], by rw [ptsStep, h1]⟩
      · rw [if_neg hx] at h1 h2
        rw [firstBad, h2, ptsStep, h1]
        exact pts_first ps k o hp hl hr hf
    | false =>
      rw [List.filter_cons_of_pos (by simp [hb]), List.map_cons] at hf
      have hkn : k < s.ob.code.length := by
        have := congrArg List.length hf
        simp at this
        omega
      obtain ⟨m, hm⟩ : ∃ m, s.ob.code.length - k = m + 1 := ⟨s.ob.code.length - k - 1, by omega⟩
      rw [hm, List.range'_succ, List.map_cons] at hf
      injection hf with hf1 hf2
      have hm' : m = s.ob.code.length - (k + 1) := by omega
      rw [hm'] at hf2
      have hkk : p.2.1.toNat = k := by omega
      have h1 : ptStep s.labs o p = match placeIns s.labs s.ob.code.length (s.ob.code.getD p.2.1.toNat (0, 0, 0, 0, 0)) with
          | none => .error (10, p.1)
          | some i => .ok { o with code := o.code.set p.2.1.toNat i } := by
        unfold ptStep
        rw [if_neg (by rw [hb]; decide), hl, hkk, hr k (Nat.le_refl _)]
        cases placeIns s.labs s.ob.code.length (s.ob.code.getD k (0, 0, 0, 0, 0)) <;> rfl
      have h2 : ptBad s p = match placeIns s.labs s.ob.code.length (s.ob.code.getD p.2.1.toNat (0, 0, 0, 0, 0)) with
          | none => some 10
          | some _ => none := by
        unfold ptBad
        rw [if_neg (by rw [hb]; decide)]
      cases hpi : placeIns s.labs s.ob.code.length (s.ob.code.getD p.2.1.toNat (0, 0, 0, 0, 0)) with
      | none =>
        rw [hpi] at h1 h2
        exact .inl ⟨(10, p.1), by rw [firstBad, h2], by rw [ptsStep, h1]⟩
      | some i =>
        rw [hpi] at h1 h2
        rw [firstBad, h2, ptsStep, h1]
        refine pts_first ps (k + 1) _ hp (by simp [hl]) (fun j hj => ?_) hf2
        rw [List.getD_eq_getElem?_getD]
        show (o.code.set p.2.1.toNat i)[j]?.getD _ = _
        rw [List.getElem?_set_ne (by omega), ← List.getD_eq_getElem?_getD]
        exact hr j (by omega)
theorem tail_atG (l : List Int) (j : Nat) : l.tail.getD j 0 = l.getD (j + 1) 0 := by cases l <;> simp
theorem head_atG (l : List Int) : l.headD 0 = l.getD 0 0 := by cases l <;> rfl
/-- When a label has no place. -/
theorem placeArgs_none (labs : List (Int × Int)) (m : Nat) : ∀ ks xs : List Int, placeArgs labs m ks xs = none ↔ ∃ j, j < ks.length ∧ ks.getD j 0 = 8 ∧ xs.getD j 0 ≠ 65535 ∧ (labOf labs (xs.getD j 0) = none ∨ ∃ x, labOf labs (xs.getD j 0) = some x ∧ (m : Int) ≤ x)
  | [], xs => by
    rw [placeArgs]
    exact ⟨fun h => (by cases h), fun ⟨j, hj, _⟩ => absurd hj (by simp)⟩
  | k :: ks, xs => by
    have ih := placeArgs_none labs m ks xs.tail
    rw [placeArgs]
    have step : (∃ j, j < (k :: ks).length ∧ (k :: ks).getD j 0 = 8 ∧ xs.getD j 0 ≠ 65535 ∧ (labOf labs (xs.getD j 0) = none ∨ ∃ x, labOf labs (xs.getD j 0) = some x ∧ (m : Int) ≤ x)) ↔ (k = 8 ∧ xs.headD 0 ≠ 65535 ∧ (labOf labs (xs.headD 0) = none ∨ ∃ x, labOf labs (xs.headD 0) = some x ∧ (m : Int) ≤ x)) ∨ placeArgs labs m ks xs.tail = none := by
      rw [ih, head_atG]
      constructor
      · rintro ⟨j, hj, h1, h2, h3⟩
        cases j with
        | zero => exact .inl ⟨by simpa using h1, h2, h3⟩
        | succ j => exact .inr ⟨j, by simpa using hj, by simpa using h1, by rw [tail_atG]; exact h2, by rw [tail_atG]; exact h3⟩
      · rintro (⟨h1, h2, h3⟩ | ⟨j, hj, h1, h2, h3⟩)
        · exact ⟨0, by simp, by simpa using h1, h2, h3⟩
        · exact ⟨j + 1, by simpa using hj, by simpa using h1, by rw [← tail_atG]; exact h2, by rw [← tail_atG]; exact h3⟩
    rw [step]
    by_cases hc : k = 8 ∧ xs.headD 0 ≠ 65535
    · rw [if_pos hc]
      cases hv : labOf labs (xs.headD 0) with
      | none => exact ⟨fun _ => .inl ⟨hc.1, hc.2, .inl rfl⟩, fun _ => rfl⟩
      | some x =>
        simp only
        by_cases hm : (m : Int) ≤ x
        · rw [if_pos hm]
          exact ⟨fun _ => .inl ⟨hc.1, hc.2, .inr ⟨x, rfl, hm⟩⟩, fun _ => rfl⟩
        · rw [if_neg hm, Option.map_eq_none_iff]
          refine ⟨fun h => .inr h, fun h => ?_⟩
          rcases h with ⟨_, _, h | ⟨y, hy, hle⟩⟩ | h
          · cases h
          · injection hy with hy
            subst hy
            exact absurd hle hm
          · exact h
    · rw [if_neg hc, Option.map_eq_none_iff]
      refine ⟨fun h => .inr h, fun h => ?_⟩
      rcases h with ⟨h1, h2, _⟩ | h
      · exact absurd ⟨h1, h2⟩ hc
      · exact h
theorem mem_used (c n : Int) : ∀ (ks xs : List Int) (k : Nat) (u : Int × Int × Int), u ∈ usedOf c n k ks xs ↔ ∃ j, j < ks.length ∧ ks.getD j 0 = 8 ∧ xs.getD j 0 ≠ 65535 ∧ u = (c, ((k + j : Nat) : Int), n)
  | [], xs, k, u => ⟨fun h => absurd h (by simp [usedOf]), fun ⟨j, hj, _⟩ => absurd hj (by simp)⟩
  | kd :: ks, xs, k, u => by
    have ih := mem_used c n ks xs.tail (k + 1) u
    rw [usedOf, List.mem_append, ih]
    constructor
    · rintro (h | ⟨j, hj, h1, h2, h3⟩)
      · split at h
        · rename_i hc
          exact ⟨0, by simp, by simpa using hc.1, by rw [← head_atG]; exact hc.2, by rw [List.mem_singleton.1 h]; rfl⟩
        · cases h
      · exact ⟨j + 1, by simpa using hj, by simpa using h1, by rw [← tail_atG]; exact h2, by rw [h3, show k + 1 + j = k + (j + 1) by omega]⟩
    · rintro ⟨j, hj, h1, h2, h3⟩
      cases j with
      | zero => exact .inl (by rw [if_pos ⟨by simpa using h1, by rw [head_atG]; exact h2⟩]; exact List.mem_singleton.2 h3)
      | succ j => exact .inr ⟨j, by simpa using hj, by simpa using h1, by rw [tail_atG]; exact h2, by rw [h3, show k + 1 + j = k + (j + 1) by omega]⟩
/-- An instruction's line is wrong, by both. -/
theorem badU_iff {n : Int} {s : St} {r : Rs} (h : Sim n s r) (hg : GoodS s) (hb : StB s) (i : Int) : badU r i = true ↔ ∃ p ∈ s.pts, p.1 = i ∧ p.2.2 = false ∧ ptBad s p = some 10 := by
  have key : ∀ p ∈ s.pts, p.2.2 = false → (ptBad s p = some 10 ↔ ∃ u ∈ ptUsed s.ob p, usedBad r u = true) := by
    intro p hp hpf
    have h2 := (hb.pts p hp).2.2 hpf
    have h1 := (hb.pts p hp).1
    have hlt : p.2.1.toNat < s.ob.code.length := by omega
    have hgi : GoodI s.ob (s.ob.code.getD p.2.1.toNat (0, 0, 0, 0, 0)) := hg.code _ (by
      rw [List.getD_eq_getElem?_getD, List.getElem?_eq_getElem hlt]
      exact List.getElem_mem hlt)
    have e1 : ptBad s p = some 10 ↔ placeArgs s.labs s.ob.code.length (opsOf (s.ob.code.getD p.2.1.toNat (0, 0, 0, 0, 0)).1) (argOf (s.ob.code.getD p.2.1.toNat (0, 0, 0, 0, 0))) = none := by
      unfold ptBad placeIns
      rw [if_neg (by rw [hpf]; decide)]
      cases placeArgs s.labs s.ob.code.length (opsOf (s.ob.code.getD p.2.1.toNat (0, 0, 0, 0, 0)).1) (argOf (s.ob.code.getD p.2.1.toNat (0, 0, 0, 0, 0))) with
      | none => exact ⟨fun _ => rfl, fun _ => rfl⟩
      | some l => exact ⟨fun h => (by cases h), fun h => (by cases h)⟩
    have e2 : ptUsed s.ob p = usedOf p.2.1 p.1 0 (opsOf (s.ob.code.getD p.2.1.toNat (0, 0, 0, 0, 0)).1) (argOf (s.ob.code.getD p.2.1.toNat (0, 0, 0, 0, 0))) := by
      unfold ptUsed
      rw [if_neg (by rw [hpf]; decide)]
    rw [e1, e2, placeArgs_none]
    have hub : ∀ j : Nat, j < (opsOf (s.ob.code.getD p.2.1.toNat (0, 0, 0, 0, 0)).1).length → (opsOf (s.ob.code.getD p.2.1.toNat (0, 0, 0, 0, 0)).1).getD j 0 = 8 → (argOf (s.ob.code.getD p.2.1.toNat (0, 0, 0, 0, 0))).getD j 0 ≠ 65535 →
        (usedBad r (p.2.1, ((0 + j : Nat) : Int), p.1) = true ↔ (labOf s.labs ((argOf (s.ob.code.getD p.2.1.toNat (0, 0, 0, 0, 0))).getD j 0) = none ∨ ∃ x, labOf s.labs ((argOf (s.ob.code.getD p.2.1.toNat (0, 0, 0, 0, 0))).getD j 0) = some x ∧ (s.ob.code.length : Int) ≤ x)) := by
      intro j hj h8 hne
      have hga := (hgi.2.2.1 j hj).2.2.2.1 h8
      have hr : 0 ≤ (argOf (s.ob.code.getD p.2.1.toNat (0, 0, 0, 0, 0))).getD j 0 ∧ (argOf (s.ob.code.getD p.2.1.toNat (0, 0, 0, 0, 0))).getD j 0 ≤ 1023 := by
        rcases hga with h | h
        · exact h
        · exact absurd h.2 hne
      have ha : argAt r.ob p.2.1 ((0 + j : Nat) : Int) = (argOf (s.ob.code.getD p.2.1.toNat (0, 0, 0, 0, 0))).getD j 0 := by
        unfold argAt
        rw [h.ob, Int.toNat_natCast, Nat.zero_add]
      obtain ⟨q, hq⟩ := Int.eq_ofNat_of_zero_le hr.1
      have hl := h.labs q (by omega)
      unfold usedBad labAt
      simp only
      rw [ha, hq, Int.toNat_natCast, hl, h.ob]
      cases hv : labOf s.labs (q : Int) with
      | none => simp
      | some x =>
        obtain ⟨z, hz, hz2⟩ := labOf_mem hv
        have := hb.labs z hz
        simp only [decide_eq_true_eq, Option.some.injEq, exists_eq_left', reduceCtorEq, false_or]
        omega
    constructor
    · rintro ⟨j, hj, h8, hne, hx⟩
      exact ⟨_, (mem_used _ _ _ _ _ _).2 ⟨j, hj, h8, hne, rfl⟩, (hub j hj h8 hne).2 hx⟩
    · rintro ⟨u, hu, hx⟩
      obtain ⟨j, hj, h8, hne, rfl⟩ := (mem_used _ _ _ _ _ _).1 hu
      exact ⟨j, hj, h8, hne, (hub j hj h8 hne).1 hx⟩
  have hline : ∀ p ∈ s.pts, ∀ u ∈ ptUsed s.ob p, u.2.2 = p.1 ∧ p.2.2 = false := by
    intro p hp u hu
    unfold ptUsed at hu
    split at hu
    · cases hu
    · rename_i hpf
      obtain ⟨j, _, _, _, rfl⟩ := (mem_used _ _ _ _ _ _).1 hu
      exact ⟨rfl, by simpa using hpf⟩
  unfold badU
  rw [List.any_eq_true, h.used]
  constructor
  · rintro ⟨u, hu, hx⟩
    obtain ⟨p, hp, hu⟩ := List.mem_flatMap.1 hu
    rw [Bool.and_eq_true, beq_iff_eq] at hx
    obtain ⟨e1, e2⟩ := hline p hp u hu
    exact ⟨p, hp, by rw [← e1]; exact hx.1, e2, (key p hp e2).2 ⟨u, hu, hx.2⟩⟩
  · rintro ⟨p, hp, e1, e2, hx⟩
    obtain ⟨u, hu, hub⟩ := (key p hp e2).1 hx
    refine ⟨u, List.mem_flatMap.2 ⟨p, hp, hu⟩, ?_⟩
    rw [Bool.and_eq_true, beq_iff_eq]
    exact ⟨by rw [(hline p hp u hu).1, e1], hub⟩

theorem lines_at {n : Int} {s : St} {r : Rs} (h : Sim n s r) (k : Nat) : (entK r.ob (r.lines.getD k (0, 0)).1, (r.lines.getD k (0, 0)).2) = ((s.pts.filter (fun p => p.2.2)).map (fun p => (p.2.1, p.1))).getD k (entK r.ob 0, 0) := by
  rw [← h.lines, h.ob]
  simp only [List.getD_eq_getElem?_getD, List.getElem?_map]
  cases r.lines[k]? <;> rfl
theorem lines_lenG {n : Int} {s : St} {r : Rs} (h : Sim n s r) : r.lines.length = (s.pts.filter (fun p => p.2.2)).length := by
  have := congrArg List.length h.lines
  simpa using this
/-- A pred line is wrong, by both, when nothing ahead is. -/
theorem badL_at {n : Int} {s : St} {r : Rs} (h : Sim n s r) (hb : StB s) (hc : s.ob.code.length ≤ 1024) {a b : List (Int × Int × Bool)} {p : Int × Int × Bool} (hs : s.pts = a ++ p :: b) (hp : p.2.2 = true) (ha : ∀ q ∈ a, ptBad s q = none) : badL r p.1 = true ↔ ptBad s p = some 7 := by
  have hlen := lines_lenG h
  have hat := lines_at h
  have hf : s.pts.filter (fun p => p.2.2) = a.filter (fun p => p.2.2) ++ p :: b.filter (fun p => p.2.2) := by
    rw [hs, List.filter_append, List.filter_cons_of_pos (by simpa using hp)]
  have hsrt := h.srt
  rw [hs] at hsrt
  obtain ⟨_, hpb, hab⟩ := List.pairwise_append.1 hsrt
  obtain ⟨hpb, hbb⟩ := List.pairwise_cons.1 hpb
  have hplc := hb.pts p (by rw [hs]; simp)
  -- the place of the line
  have hk : ∀ k, k < r.lines.length → (r.lines.getD k (0, 0)).2 = p.1 → k = (a.filter (fun p => p.2.2)).length := by
    intro k hk hkp
    have h1 := congrArg Prod.snd (hat k)
    simp only at h1
    rw [hkp, List.getD_eq_getElem?_getD, List.getElem?_map, hf] at h1
    rw [hlen, hf] at hk
    rcases Nat.lt_trichotomy k (a.filter (fun p => p.2.2)).length with hlt | heq | hgt
    · rw [List.getElem?_append_left hlt, List.getElem?_eq_getElem hlt] at h1
      have hm := (List.mem_filter.1 (List.getElem_mem hlt)).1
      have := (hab _ hm p (by simp)).1
      have h1 : p.1 = ((a.filter (fun p => p.2.2))[k]).1 := h1
      omega
    · exact heq
    · rw [List.getElem?_append_right (by omega)] at h1
      obtain ⟨m, hm⟩ : ∃ m, k - (a.filter (fun p => p.2.2)).length = m + 1 := ⟨k - (a.filter (fun p => p.2.2)).length - 1, by omega⟩
      rw [hm, List.getElem?_cons_succ] at h1
      have hml : m < (b.filter (fun p => p.2.2)).length := by
        rw [List.length_append, List.length_cons] at hk
        omega
      rw [List.getElem?_eq_getElem hml] at h1
      have hmm := (List.mem_filter.1 (List.getElem_mem hml)).1
      have := (hpb _ hmm).1
      have h1 : p.1 = ((b.filter (fun p => p.2.2))[m]).1 := h1
      omega
  have hka := hat (a.filter (fun p => p.2.2)).length
  have hkb := hat ((a.filter (fun p => p.2.2)).length + 1)
  rw [hf, List.map_append, List.map_cons] at hka hkb
  have ml : ∀ l : List (Int × Int × Bool), (l.map (fun p => (p.2.1, p.1))).length = l.length := fun l => by simp
  have ea : ∀ d : Int × Int, (List.map (fun p : Int × Int × Bool => (p.2.1, p.1)) (a.filter (fun p => p.2.2)) ++ (p.2.1, p.1) :: List.map (fun p => (p.2.1, p.1)) (b.filter (fun p => p.2.2))).getD (a.filter (fun p => p.2.2)).length d = (p.2.1, p.1) := fun d => by
    rw [List.getD_eq_getElem?_getD, List.getElem?_append_right (by rw [ml]; omega), ml, Nat.sub_self, List.getElem?_cons_zero]
    rfl
  have eb : ∀ d : Int × Int, (List.map (fun p : Int × Int × Bool => (p.2.1, p.1)) (a.filter (fun p => p.2.2)) ++ (p.2.1, p.1) :: List.map (fun p => (p.2.1, p.1)) (b.filter (fun p => p.2.2))).getD ((a.filter (fun p => p.2.2)).length + 1) d = (List.map (fun p : Int × Int × Bool => (p.2.1, p.1)) (b.filter (fun p => p.2.2)))[0]?.getD d := fun d => by
    rw [List.getD_eq_getElem?_getD, List.getElem?_append_right (by rw [ml]; omega), ml, Nat.add_sub_cancel_left, List.getElem?_cons_succ]
  rw [ea] at hka
  rw [eb] at hkb
  have hka1 : entK r.ob (r.lines.getD (a.filter (fun p => p.2.2)).length (0, 0)).1 = p.2.1 := congrArg Prod.fst hka
  have hka2 : (r.lines.getD (a.filter (fun p => p.2.2)).length (0, 0)).2 = p.1 := congrArg Prod.snd hka
  have hlt : (a.filter (fun p => p.2.2)).length < r.lines.length := by
    rw [hlen, hf, List.length_append, List.length_cons]
    omega
  have hL : badL r p.1 = true ↔ lineBad r (a.filter (fun p => p.2.2)).length = true := by
    unfold badL
    rw [List.any_eq_true]
    constructor
    · rintro ⟨k, hkr, hx⟩
      rw [Bool.and_eq_true, beq_iff_eq] at hx
      rw [← hk k (List.mem_range.1 hkr) hx.1]
      exact hx.2
    · intro hx
      refine ⟨_, List.mem_range.2 hlt, ?_⟩
      rw [Bool.and_eq_true, beq_iff_eq]
      exact ⟨hka2, hx⟩
  rw [hL]
  have hP : ptBad s p = some 7 ↔ (s.ob.code.length : Int) ≤ p.2.1 ∨ 1 < (s.ob.preds.filter fun q => q.2.2 == p.2.1).length := by
    unfold ptBad
    rw [if_pos hp]
    by_cases hx : (s.ob.code.length : Int) ≤ p.2.1 ∨ 1 < (s.ob.preds.filter fun q => q.2.2 == p.2.1).length
    · rw [if_pos hx]; exact ⟨fun _ => hx, fun _ => rfl⟩
    · rw [if_neg hx]; exact ⟨fun h => (by cases h), fun h => absurd h hx⟩
  rw [hP]
  have hcnt := h.cnt p.2.1 (by omega)
  rw [hs, List.filter_append, List.filter_cons_of_pos (by simp [hp]), List.length_append, List.length_cons] at hcnt
  unfold lineBad
  rw [decide_eq_true_eq, hka1, h.ob]
  rw [h.ob] at hkb
  -- none ahead has the same place, unless it is wrong
  have hahead : 1 < (s.ob.preds.filter fun q => q.2.2 == p.2.1).length → (a.filter (fun q => q.2.2 && q.2.1 == p.2.1)).length = 0 := by
    intro hx
    rw [List.length_eq_zero_iff, List.filter_eq_nil_iff]
    intro q hq hqp
    rw [Bool.and_eq_true, beq_iff_eq] at hqp
    have h1 := ha q hq
    unfold ptBad at h1
    rw [if_pos hqp.1, hqp.2, if_pos (.inr hx)] at h1
    cases h1
  have hnext : ((a.filter (fun p => p.2.2)).length + 1 < r.lines.length ∧ entK s.ob (r.lines.getD ((a.filter (fun p => p.2.2)).length + 1) (0, 0)).1 = p.2.1) ↔ 0 < (b.filter (fun q => q.2.2 && q.2.1 == p.2.1)).length := by
    rw [hlen, hf, List.length_append, List.length_cons]
    cases hbf : b.filter (fun p => p.2.2) with
    | nil =>
      have : b.filter (fun q => q.2.2 && q.2.1 == p.2.1) = [] := by
        rw [List.filter_eq_nil_iff] at hbf ⊢
        intro q hq hx
        rw [Bool.and_eq_true] at hx
        exact hbf q hq hx.1
      rw [this]
      simp
    | cons q0 qs =>
      rw [hbf] at hkb
      have hk1 : entK s.ob (r.lines.getD ((a.filter (fun p => p.2.2)).length + 1) (0, 0)).1 = q0.2.1 := congrArg Prod.fst hkb
      rw [hk1]
      have hq0 : q0 ∈ b.filter (fun p => p.2.2) := by rw [hbf]; simp
      obtain ⟨hq0b, hq0p⟩ := List.mem_filter.1 hq0
      constructor
      · rintro ⟨_, he⟩
        exact List.length_pos_of_mem (List.mem_filter.2 ⟨hq0b, by rw [Bool.and_eq_true, beq_iff_eq]; exact ⟨hq0p, he⟩⟩)
      · intro hx
        refine ⟨by simp, ?_⟩
        obtain ⟨q, hq⟩ := List.exists_mem_of_length_pos hx
        obtain ⟨hqb, hqp⟩ := List.mem_filter.1 hq
        rw [Bool.and_eq_true, beq_iff_eq] at hqp
        have hqf : q ∈ q0 :: qs := by rw [← hbf]; exact List.mem_filter.2 ⟨hqb, hqp.1⟩
        have hple := (hpb q0 hq0b).2
        have hsf : (b.filter (fun p => p.2.2)).Pairwise (fun p q => p.1 < q.1 ∧ p.2.1 ≤ q.2.1) := hbb.filter _
        rw [hbf] at hsf
        rcases List.mem_cons.1 hqf with e | hqs
        · rw [← e]; exact hqp.2
        · have := ((List.pairwise_cons.1 hsf).1 q hqs).2
          omega
  rw [hnext]
  constructor
  · rintro (hx | hx)
    · exact .inl hx
    · exact .inr (by omega)
  · rintro (hx | hx)
    · exact .inl hx
    · have := hahead hx
      exact .inr (by omega)
theorem ptBad_vals (s : St) (p : Int × Int × Bool) : ptBad s p = none ∨ (p.2.2 = true ∧ ptBad s p = some 7) ∨ (p.2.2 = false ∧ ptBad s p = some 10) := by
  unfold ptBad
  cases hb : p.2.2 with
  | true =>
    rw [if_pos rfl]
    split
    · exact .inr (.inl ⟨rfl, rfl⟩)
    · exact .inl rfl
  | false =>
    rw [if_neg (by decide)]
    split
    · exact .inr (.inr ⟨rfl, rfl⟩)
    · exact .inl rfl
/-- A pred line that is wrong is a line of the record's. -/
theorem badL_pt {n : Int} {s : St} {r : Rs} (h : Sim n s r) {i : Int} (hb : badL r i = true) : ∃ p ∈ s.pts, p.2.2 = true ∧ p.1 = i := by
  unfold badL at hb
  obtain ⟨k, hk, hx⟩ := List.any_eq_true.1 hb
  rw [Bool.and_eq_true, beq_iff_eq] at hx
  have hk := List.mem_range.1 hk
  rw [lines_lenG h] at hk
  have h1 := congrArg Prod.snd (lines_at h k)
  simp only at h1
  rw [hx.1, List.getD_eq_getElem?_getD, List.getElem?_map, List.getElem?_eq_getElem hk] at h1
  obtain ⟨h2, h3⟩ := List.mem_filter.1 (List.getElem_mem hk)
  exact ⟨_, h2, h3, h1.symm⟩
/-- The first thing that is wrong is the same. -/
theorem settle_eq {n : Int} {s : St} {r : Rs} (h : Sim n s r) (hg : GoodS s) (hb : StB s) (hc : s.ob.code.length ≤ 1024) : ∀ (m i : Nat) (a ps : List (Int × Int × Bool)), s.pts = a ++ ps → (∀ p ∈ a, p.1 < (i : Int)) → (∀ p ∈ ps, (i : Int) ≤ p.1 ∧ p.1 < ((i + m : Nat) : Int)) → (∀ q ∈ a, ptBad s q = none) → rSettle r i m = firstBad s ps
  | 0, i, a, ps, hs, h1, h2, h3 => by
    cases ps with
    | nil => rfl
    | cons p ps => have := h2 p (by simp); omega
  | m + 1, i, a, ps, hs, h1, h2, h3 => by
    rw [rSettle]
    have skip : (∀ p ∈ s.pts, p.1 ≠ (i : Int)) → badU r (i : Int) = false ∧ badL r (i : Int) = false := by
      intro hno
      constructor
      · rw [← Bool.not_eq_true, badU_iff h hg hb]
        rintro ⟨p, hp, e, _⟩
        exact hno p hp e
      · rw [← Bool.not_eq_true]
        intro hx
        obtain ⟨p, hp, _, e⟩ := badL_pt h hx
        exact hno p hp e
    cases ps with
    | nil =>
      obtain ⟨e1, e2⟩ := skip fun p hp e => by
        rw [hs, List.append_nil] at hp
        have := h1 p hp
        omega
      rw [e1, e2, if_neg (by decide), if_neg (by decide)]
      exact settle_eq h hg hb hc m (i + 1) a [] hs (fun p hp => by have := h1 p hp; omega) (fun p hp => by cases hp) h3
    | cons p ps =>
      have hsrt := h.srt
      rw [hs] at hsrt
      obtain ⟨_, hpb, hab⟩ := List.pairwise_append.1 hsrt
      obtain ⟨hpb, _⟩ := List.pairwise_cons.1 hpb
      have hpi := h2 p (by simp)
      by_cases hpe : p.1 = (i : Int)
      · have huniq : ∀ q ∈ s.pts, q.1 = (i : Int) → q = p := by
          intro q hq e
          rw [hs] at hq
          rcases List.mem_append.1 hq with hq | hq
          · have := h1 q hq; omega
          · rcases List.mem_cons.1 hq with hq | hq
            · exact hq
            · have := (hpb q hq).1; omega
        have hpm : p ∈ s.pts := by rw [hs]; simp
        rw [firstBad]
        rcases ptBad_vals s p with hv | ⟨hp2, hv⟩ | ⟨hp2, hv⟩
        · have e1 : badU r (i : Int) = false := by
            rw [← Bool.not_eq_true, badU_iff h hg hb]
            rintro ⟨q, hq, e, _, hx⟩
            rw [huniq q hq e, hv] at hx
            cases hx
          have e2 : badL r (i : Int) = false := by
            rw [← Bool.not_eq_true]
            intro hx
            obtain ⟨q, hq, hq2, e⟩ := badL_pt h hx
            have := huniq q hq e
            subst this
            rw [← e] at hx
            rw [(badL_at h hb hc hs hq2 h3).1 hx] at hv
            cases hv
          rw [hv, e1, e2, if_neg (by decide), if_neg (by decide)]
          refine settle_eq h hg hb hc m (i + 1) (a ++ [p]) ps (by rw [hs, List.append_assoc]; rfl) (fun q hq => ?_) (fun q hq => ?_) (fun q hq => ?_)
          · rcases List.mem_append.1 hq with hq | hq
            · have := h1 q hq; omega
            · rw [List.mem_singleton.1 hq]; omega
          · have h4 := (hpb q hq).1
            have h5 := h2 q (by simp [hq])
            omega
          · rcases List.mem_append.1 hq with hq | hq
            · exact h3 q hq
            · rw [List.mem_singleton.1 hq]; exact hv
        · have e1 : badU r (i : Int) = false := by
            rw [← Bool.not_eq_true, badU_iff h hg hb]
            rintro ⟨q, hq, e, hq2, _⟩
            rw [huniq q hq e, hp2] at hq2
            cases hq2
          have e2 : badL r (i : Int) = true := by
            rw [← hpe]
            exact (badL_at h hb hc hs hp2 h3).2 hv
          rw [hv, e1, e2, if_neg (by decide), if_pos rfl]
          simp only
          rw [hpe]
        · have e1 : badU r (i : Int) = true := (badU_iff h hg hb _).2 ⟨p, hpm, hpe, hp2, hv⟩
          rw [hv, e1, if_pos rfl]
          simp only
          rw [hpe]
      · obtain ⟨e1, e2⟩ := skip fun q hq e => by
          rw [hs] at hq
          rcases List.mem_append.1 hq with hq | hq
          · have := h1 q hq; omega
          · rcases List.mem_cons.1 hq with hq | hq
            · rw [hq] at e; exact hpe e
            · have := (hpb q hq).1; omega
        rw [e1, e2, if_neg (by decide), if_neg (by decide)]
        exact settle_eq h hg hb hc m (i + 1) a (p :: ps) hs (fun q hq => by have := h1 q hq; omega) (fun q hq => by
          have h5 := h2 q hq
          rcases List.mem_cons.1 hq with hq | hq
          · rw [hq] at h5 ⊢; omega
          · have := (hpb q hq).1; omega) h3

end Go.Proofs.YtfgnapfodnhppaaGreatDoor
