/-
  Labels made places, by the document and by the program (plain): the same; so what lines make is the same. No condition.
-/
import Derived.Test.YtfgnapfodnhppaaGreatDoorJ40
import Derived.Test.YtfgnapfodnhppaaGreatDoorJ38
namespace Go.Proofs.YtfgnapfodnhppaaGreatDoor
open Go
set_option linter.unusedVariables false
set_option linter.unusedSimpArgs false

def setArg (i : Ins) (k : Nat) (x : Int) : Ins := insOf i.1 ((argOf i).set k x)
def rPlace (labs : List Int) : List (Int × Int × Int) → List Ins → List Ins
  | [], c => c
  | u :: us, c => rPlace labs us (c.set u.1.toNat (setArg (c.getD u.1.toNat (0, 0, 0, 0, 0)) u.2.1.toNat (labs.getD ((argOf (c.getD u.1.toNat (0, 0, 0, 0, 0))).getD u.2.1.toNat 0).toNat 0 - 1)))
theorem rPlace_app (labs : List Int) : ∀ (a b : List (Int × Int × Int)) (c : List Ins), rPlace labs (a ++ b) c = rPlace labs b (rPlace labs a c)
  | [], b, c => rfl
  | u :: a, b, c => by
    rw [List.cons_append, rPlace, rPlace]
    exact rPlace_app labs a b _
theorem argOf_setArg (i : Ins) (k : Nat) (x : Int) (j : Nat) (hj : j < 4) : (argOf (setArg i k x)).getD j 0 = if j = k then x else (argOf i).getD j 0 := by
  unfold setArg
  rw [argOf_ins _ _ j hj]
  by_cases e : j = k
  · subst e
    rw [if_pos rfl, List.getD_eq_getElem?_getD, List.getElem?_set_self (by rw [argOf_len]; exact hj)]
    rfl
  · rw [if_neg e, List.getD_eq_getElem?_getD, List.getElem?_set_ne (by omega), ← List.getD_eq_getElem?_getD]
theorem ins_ext {i j : Ins} (h : i.1 = j.1) (ha : ∀ q, q < 4 → (argOf i).getD q 0 = (argOf j).getD q 0) : i = j := by
  obtain ⟨a, b, c, d, e⟩ := i
  obtain ⟨a', b', c', d', e'⟩ := j
  have h0 := ha 0 (by omega)
  have h1 := ha 1 (by omega)
  have h2 := ha 2 (by omega)
  have h3 := ha 3 (by omega)
  simp [argOf] at h h0 h1 h2 h3
  simp [h, h0, h1, h2, h3]
theorem getD_setIns (C : List Ins) (c : Nat) (x : Ins) (hc : c < C.length) : (C.set c x).getD c (0, 0, 0, 0, 0) = x := by
  rw [List.getD_eq_getElem?_getD, List.getElem?_set_self hc]
  rfl
theorem getD_setIns_ne (C : List Ins) (c j : Nat) (x : Ins) (h : j ≠ c) : (C.set c x).getD j (0, 0, 0, 0, 0) = C.getD j (0, 0, 0, 0, 0) := by
  rw [List.getD_eq_getElem?_getD, List.getElem?_set_ne (by omega), ← List.getD_eq_getElem?_getD]

/-- One instruction's labels. -/
theorem place_one (labs : List Int) (c : Nat) (n : Int) : ∀ (ks xs : List Int) (k : Nat) (C : List Ins), k + ks.length ≤ 4 → c < C.length → (∀ j, j < ks.length → xs.getD j 0 = (argOf (C.getD c (0, 0, 0, 0, 0))).getD (k + j) 0) →
    ∃ C', rPlace labs (usedOf (c : Int) n k ks xs) C = C' ∧ C'.length = C.length ∧ (∀ j, j ≠ c → C'.getD j (0, 0, 0, 0, 0) = C.getD j (0, 0, 0, 0, 0)) ∧ (C'.getD c (0, 0, 0, 0, 0)).1 = (C.getD c (0, 0, 0, 0, 0)).1 ∧
      ∀ j, j < 4 → (argOf (C'.getD c (0, 0, 0, 0, 0))).getD j 0 = if k ≤ j ∧ j - k < ks.length ∧ ks.getD (j - k) 0 = 8 ∧ (argOf (C.getD c (0, 0, 0, 0, 0))).getD j 0 ≠ 65535 then labs.getD ((argOf (C.getD c (0, 0, 0, 0, 0))).getD j 0).toNat 0 - 1 else (argOf (C.getD c (0, 0, 0, 0, 0))).getD j 0
  | [], xs, k, C, hk, hc, hx => ⟨C, rfl, rfl, fun _ _ => rfl, rfl, fun j hj => by rw [if_neg]; rintro ⟨_, h, _⟩; simp at h⟩
  | kd :: ks, xs, k, C, hk, hc, hx => by
    rw [List.length_cons] at hk
    have hx0 : xs.headD 0 = (argOf (C.getD c (0, 0, 0, 0, 0))).getD k 0 := by
      rw [head_atG]
      exact hx 0 (by simp)
    rw [usedOf]
    by_cases hcc : kd = 8 ∧ xs.headD 0 ≠ 65535
    · rw [if_pos hcc, rPlace_app]
      have e1 : rPlace labs [((c : Int), (k : Int), n)] C = C.set c (setArg (C.getD c (0, 0, 0, 0, 0)) k (labs.getD ((argOf (C.getD c (0, 0, 0, 0, 0))).getD k 0).toNat 0 - 1)) := by
        rw [rPlace, rPlace]
        simp only [Int.toNat_natCast]
      rw [e1]
      obtain ⟨C1, hC1⟩ : ∃ C1, C.set c (setArg (C.getD c (0, 0, 0, 0, 0)) k (labs.getD ((argOf (C.getD c (0, 0, 0, 0, 0))).getD k 0).toNat 0 - 1)) = C1 := ⟨_, rfl⟩
      have hg : C1.getD c (0, 0, 0, 0, 0) = setArg (C.getD c (0, 0, 0, 0, 0)) k (labs.getD ((argOf (C.getD c (0, 0, 0, 0, 0))).getD k 0).toNat 0 - 1) := by
        rw [← hC1]
        exact getD_setIns _ _ _ hc
      have hl1 : C1.length = C.length := by rw [← hC1, List.length_set]
      have hne : ∀ j, j ≠ c → C1.getD j (0, 0, 0, 0, 0) = C.getD j (0, 0, 0, 0, 0) := fun j hj => by
        rw [← hC1]
        exact getD_setIns_ne _ _ _ _ hj
      rw [hC1]
      obtain ⟨C', h1, h2, h3, h4, h5⟩ := place_one labs c n ks xs.tail (k + 1) C1 (by omega) (by rw [hl1]; exact hc) (fun j hj => by
        rw [hg, argOf_setArg _ _ _ _ (by omega), if_neg (by omega), tail_atG, hx (j + 1) (by simpa using hj), show k + (j + 1) = k + 1 + j by omega])
      refine ⟨C', h1, by rw [h2, hl1], fun j hj => by rw [h3 j hj, hne j hj], by rw [h4, hg]; rfl, fun j hj => ?_⟩
      rw [h5 j hj, hg, argOf_setArg _ _ _ _ hj]
      by_cases e : j = k
      · subst e
        rw [if_neg (by omega), if_pos rfl, if_pos]
        refine ⟨Nat.le_refl _, by simp, by rw [Nat.sub_self]; exact hcc.1, ?_⟩
        rw [← hx0]
        exact hcc.2
      · rw [if_neg e]
        by_cases hlt : j < k
        · rw [if_neg (by omega), if_neg (by omega)]
        · have e2 : j - k = (j - (k + 1)) + 1 := by omega
          rw [e2, List.getD_cons_succ, List.length_cons]
          by_cases hcond : ks.getD (j - (k + 1)) 0 = 8 ∧ (argOf (C.getD c (0, 0, 0, 0, 0))).getD j 0 ≠ 65535 ∧ j - (k + 1) < ks.length
          · rw [if_pos ⟨by omega, hcond.2.2, hcond.1, hcond.2.1⟩, if_pos ⟨by omega, by omega, hcond.1, hcond.2.1⟩]
          · rw [if_neg (fun h => hcond ⟨h.2.2.1, h.2.2.2, h.2.1⟩), if_neg (fun h => hcond ⟨h.2.2.1, h.2.2.2, by omega⟩)]
    · rw [if_neg hcc, List.nil_append]
      obtain ⟨C', h1, h2, h3, h4, h5⟩ := place_one labs c n ks xs.tail (k + 1) C (by omega) hc (fun j hj => by
        rw [tail_atG, hx (j + 1) (by simpa using hj), show k + (j + 1) = k + 1 + j by omega])
      refine ⟨C', h1, h2, h3, h4, fun j hj => ?_⟩
      rw [h5 j hj]
      by_cases e : j = k
      · subst e
        rw [if_neg (by omega), if_neg]
        rintro ⟨_, _, h8, hn⟩
        rw [Nat.sub_self] at h8
        exact hcc ⟨h8, by rw [hx0]; exact hn⟩
      · by_cases hlt : j < k
        · rw [if_neg (by omega), if_neg (by omega)]
        · have e2 : j - k = (j - (k + 1)) + 1 := by omega
          rw [e2, List.getD_cons_succ, List.length_cons]
          by_cases hcond : ks.getD (j - (k + 1)) 0 = 8 ∧ (argOf (C.getD c (0, 0, 0, 0, 0))).getD j 0 ≠ 65535 ∧ j - (k + 1) < ks.length
          · rw [if_pos ⟨by omega, hcond.2.2, hcond.1, hcond.2.1⟩, if_pos ⟨by omega, by omega, hcond.1, hcond.2.1⟩]
          · rw [if_neg (fun h => hcond ⟨h.2.2.1, h.2.2.2, h.2.1⟩), if_neg (fun h => hcond ⟨h.2.2.1, h.2.2.2, by omega⟩)]

/-- All instructions' labels. -/
theorem place_pts {n : Int} {s : St} {r : Rs} (h : Sim n s r) (hg : GoodS s) {D : List Ins} (hD : ∀ j, j < s.ob.code.length → placeIns s.labs s.ob.code.length (s.ob.code.getD j (0, 0, 0, 0, 0)) = some (D.getD j (0, 0, 0, 0, 0))) :
    ∀ (ps : List (Int × Int × Bool)) (k : Nat) (C : List Ins), k ≤ s.ob.code.length → (ps.filter (fun p => !p.2.2)).map (fun p => p.2.1) = (List.range' k (s.ob.code.length - k)).map (fun k : Nat => (k : Int)) → C.length = s.ob.code.length → (∀ j, k ≤ j → C.getD j (0, 0, 0, 0, 0) = s.ob.code.getD j (0, 0, 0, 0, 0)) → (∀ j, j < k → C.getD j (0, 0, 0, 0, 0) = D.getD j (0, 0, 0, 0, 0)) →
    (rPlace r.labs (ps.flatMap (ptUsed s.ob)) C).length = s.ob.code.length ∧ ∀ j, j < s.ob.code.length → (rPlace r.labs (ps.flatMap (ptUsed s.ob)) C).getD j (0, 0, 0, 0, 0) = D.getD j (0, 0, 0, 0, 0)
  | [], k, C, hk, hf, hl, h1, h2 => by
    have hn : s.ob.code.length - k = 0 := by
      have := congrArg List.length hf
      simpa using this.symm
    exact ⟨hl, fun j hj => h2 j (by omega)⟩
  | p :: ps, k, C, hk, hf, hl, h1, h2 => by
    rw [List.flatMap_cons, rPlace_app]
    cases hb : p.2.2 with
    | true =>
      rw [List.filter_cons_of_neg (by simp [hb])] at hf
      have e : ptUsed s.ob p = [] := by
        unfold ptUsed
        rw [if_pos hb]
      rw [e]
      exact place_pts h hg hD ps k C hk hf hl h1 h2
    | false =>
      rw [List.filter_cons_of_pos (by simp [hb]), List.map_cons] at hf
      have hkn : k < s.ob.code.length := by
        have := congrArg List.length hf
        simp at this
        omega
      obtain ⟨m, hm⟩ : ∃ m, s.ob.code.length - k = m + 1 := ⟨s.ob.code.length - k - 1, by omega⟩
      rw [hm, List.range'_succ, List.map_cons] at hf
      injection hf with hf1 hf2
      have hm' : m = s.ob.code.length - (k + 1) := by omega
      rw [hm'] at hf2
      have e : ptUsed s.ob p = usedOf (k : Int) p.1 0 (opsOf (s.ob.code.getD k (0, 0, 0, 0, 0)).1) (argOf (s.ob.code.getD k (0, 0, 0, 0, 0))) := by
        unfold ptUsed
        rw [if_neg (by rw [hb]; decide), hf1, Int.toNat_natCast]
      have hgi : GoodI s.ob (s.ob.code.getD k (0, 0, 0, 0, 0)) := hg.code _ (by
        rw [List.getD_eq_getElem?_getD, List.getElem?_eq_getElem hkn]
        exact List.getElem_mem hkn)
      have hfew := ops_few (s.ob.code.getD k (0, 0, 0, 0, 0)).1
      have hCk := h1 k (Nat.le_refl _)
      have hDk := hD k hkn
      rw [e]
      generalize hi : s.ob.code.getD k (0, 0, 0, 0, 0) = i at *
      obtain ⟨C', a1, a2, a3, a4, a5⟩ := place_one r.labs k p.1 (opsOf i.1) (argOf i) 0 C (by omega) (by omega) (fun j hj => by rw [hCk, Nat.zero_add])
      rw [a1]
      refine place_pts h hg hD ps (k + 1) C' (by omega) hf2 (by rw [a2, hl]) (fun j hj => by rw [a3 j (by omega), h1 j (by omega)]) (fun j hj => ?_)
      by_cases ej : j = k
      · subst ej
        unfold placeIns at hDk
        cases hpa : placeArgs s.labs s.ob.code.length (opsOf i.1) (argOf i) with
        | none => rw [hpa] at hDk; cases hDk
        | some l =>
          rw [hpa] at hDk
          injection hDk with hDk
          rw [← hDk]
          obtain ⟨g1, g2⟩ := placeArgs_get hpa (by rw [argOf_len]; omega)
          refine ins_ext (by rw [a4, hCk]; rfl) fun q hq => ?_
          rw [a5 q hq, argOf_ins _ _ q hq, hCk]
          by_cases hc : q < (opsOf i.1).length ∧ (opsOf i.1).getD q 0 = 8 ∧ (argOf i).getD q 0 ≠ 65535
          · rw [if_pos ⟨Nat.zero_le _, by simpa using hc.1, by simpa using hc.2.1, hc.2.2⟩]
            obtain ⟨x, hx1, hx2, hx3⟩ := (g2 q).1 hc
            have hga := (hgi.2.2.1 q hc.1).2.2.2.1 hc.2.1
            have hr : 0 ≤ (argOf i).getD q 0 ∧ (argOf i).getD q 0 ≤ 1023 := by
              rcases hga with h | h
              · exact h
              · exact absurd h.2 hc.2.2
            obtain ⟨z, hz⟩ := Int.eq_ofNat_of_zero_le hr.1
            have hlab := h.labs z (by omega)
            rw [hx3, hz, Int.toNat_natCast, hlab]
            rw [hz] at hx1
            rw [hx1]
            simp only
            omega
          · rw [if_neg (fun hh => hc ⟨by simpa using hh.2.1, by simpa using hh.2.2.1, hh.2.2.2⟩)]
            exact ((g2 q).2 hc).symm
      · rw [a3 j ej]
        exact h2 j (by omega)

/-- The object of lines, as the document has it. -/
def rAsm (ls : List (List UInt8)) : Ob × Int × Int :=
  match rLines 0 ls startRs with
  | .error (e, n) => (emptyOb, e, n)
  | .ok r => match rSettle r 0 ls.length with
    | some (e, n) => (emptyOb, e, n)
    | none => ({ r.ob with code := rPlace r.labs r.used r.ob.code }, 0, -1)
theorem rAsm_eq (ls : List (List UInt8)) : rAsm ls = asmOf ls := by
  unfold rAsm asmOf
  rcases lines_sim ls 0 startSt startRs Sim.start StB.start (by simp [startSt, emptyOb]) with ⟨e, h1, h2⟩ | ⟨s, r, h1, h2, h⟩
  · rw [h1, h2]
  · rw [h1, h2]
    simp only
    obtain ⟨hg, hb, hl⟩ := lines_good ls 0 startSt s h1 GoodS.start StB.start (by simp [startSt, emptyOb])
    have hr : (s.pts.filter (fun p => !p.2.2)).map (fun p => p.2.1) = (List.range' 0 (s.ob.code.length - 0)).map (fun k : Nat => (k : Int)) := by rw [hg.pts, List.range_eq_range', Nat.sub_zero]
    have hse := settle_eq h hg hb hl.2.2.2 ls.length 0 [] s.pts rfl (fun p hp => by cases hp) (fun p hp => h.lt p hp) (fun p hp => by cases hp)
    rw [hse]
    rcases pts_first s.pts 0 s.ob rfl rfl (fun _ _ => rfl) hr with ⟨e, h3, h4⟩ | ⟨h3, o, h4⟩
    · rw [h3, h4]
    · rw [h3, h4]
      simp only
      obtain ⟨g1, _⟩ := pts_set hg.code hl hb.labs s.pts 0 s.ob o h4 (by omega) hr ⟨rfl, rfl, rfl, rfl, fun j hj => absurd hj (by omega), fun j _ => rfl⟩
      have g3 := pts_placed s.pts 0 s.ob o h4 (by omega) hr ⟨rfl, fun j hj => absurd hj (by omega), fun j _ => rfl⟩
      obtain ⟨p1, p2⟩ := place_pts h hg (D := o.code) g3.ok s.pts 0 s.ob.code (by omega) hr rfl (fun _ _ => rfl) (fun j hj => absurd hj (by omega))
      have hcode : rPlace r.labs r.used r.ob.code = o.code := by
        rw [h.used, h.ob]
        apply List.ext_getElem?
        intro j
        by_cases hj : j < s.ob.code.length
        · have := p2 j hj
          rw [List.getD_eq_getElem?_getD, List.getD_eq_getElem?_getD, List.getElem?_eq_getElem (by omega), List.getElem?_eq_getElem (by rw [g1.len]; exact hj)] at this
          rw [List.getElem?_eq_getElem (by omega), List.getElem?_eq_getElem (by rw [g1.len]; exact hj)]
          exact congrArg some this
        · rw [List.getElem?_eq_none (by omega), List.getElem?_eq_none (by rw [g1.len]; omega)]
      rw [hcode, h.ob, ← g1.atoms, ← g1.funs, ← g1.preds]

end Go.Proofs.YtfgnapfodnhppaaGreatDoor
