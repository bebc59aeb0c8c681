/-
  The document's Program (resolventref09): plain facts of its loops, and its memory. No condition.
-/
import Derived.Test.YtfgnapfodnhppaaGreatDoorJ41
import Derived.Test.YtfgnapfodnhppaaGreatDoorJ42
namespace Go.Proofs.YtfgnapfodnhppaaGreatDoor
open Go Go.RowKit Go.WideShapes Go.ChangeShapes
set_option linter.unusedVariables false
set_option linter.unusedSimpArgs false

theorem usedOf_len (c n : Int) : ∀ (ks xs : List Int) (k : Nat), (usedOf c n k ks xs).length ≤ ks.length
  | [], _, _ => by simp [usedOf]
  | kd :: ks, xs, k => by
    have ih := usedOf_len c n ks xs.tail (k + 1)
    rw [usedOf, List.length_append, List.length_cons]
    split
    · rw [List.length_singleton]; omega
    · rw [List.length_nil]; omega
theorem rLine_bd {n : Int} {l : List UInt8} {s s' : Rs} (h : rLine n l s = .ok s') : s'.used.length ≤ s.used.length + 4 ∧ s'.lines.length ≤ s.lines.length + 1 := by
  unfold rLine at h
  split at h
  · unfold rPredLine at h
    split at h
    · cases h
    · split at h
      · cases h
      · injection h with h
        subst h
        exact ⟨by simp, by simp⟩
  · split at h
    · unfold rLabelLine at h
      split at h
      · cases h
      · split at h
        · cases h
        · injection h with h
          subst h
          exact ⟨by simp, by simp⟩
    · unfold rInstrLine at h
      split at h
      · cases h
      · split at h
        · cases h
        · rename_i x o' _
          injection h with h
          subst h
          have h1 := usedOf_len (s.ob.code.length : Int) n (opsOf (namedOf (bs ((splitW l).getD 0 [])))) x 0
          have h2 := ops_few (namedOf (bs ((splitW l).getD 0 [])))
          exact ⟨by simp only [List.length_append]; omega, by simp⟩
/-- An error's number is one of these. -/
theorem rLine_err {n : Int} {l : List UInt8} {s : Rs} {c : Int} (h : rLine n l s = .error c) : c = 17 ∨ c = 11 := by
  unfold rLine at h
  split at h
  · unfold rPredLine at h
    split at h
    · injection h with h; exact .inl h.symm
    · split at h
      · injection h with h; exact .inr h.symm
      · cases h
  · split at h
    · unfold rLabelLine at h
      split at h
      · injection h with h; exact .inl h.symm
      · split at h
        · injection h with h; exact .inr h.symm
        · cases h
    · unfold rInstrLine at h
      split at h
      · injection h with h; exact .inl h.symm
      · split at h
        · injection h with h; exact .inl h.symm
        · cases h

/-- How far the loop over the lines is. -/
structure RnP (L : List (List UInt8)) (k : Nat) (s : Rs) : Prop where
  eq : rLines 0 L startRs = rLines k (L.drop k) s
  used : s.used.length ≤ 4 * k
  lines : s.lines.length ≤ k
  ob : s.ob.atoms.length ≤ 256 ∧ s.ob.funs.length ≤ 256 ∧ s.ob.preds.length ≤ 64 ∧ s.ob.code.length ≤ 1024
theorem RnP.start (L : List (List UInt8)) : RnP L 0 startRs := ⟨rfl, Nat.zero_le _, Nat.zero_le _, ⟨Nat.zero_le _, Nat.zero_le _, Nat.zero_le _, Nat.zero_le _⟩⟩
section
variable {L : List (List UInt8)} {k : Nat} {s s' : Rs} {c : Int}
theorem RnP.err (h : RnP L k s) (hk : k < L.length) (he : rLine (k : Int) L[k] s = .error c) : rAsm L = (emptyOb, c, (k : Int)) := by
  unfold rAsm
  rw [h.eq, List.drop_eq_getElem_cons hk, rLines, he]
theorem RnP.big (h : RnP L k s) (hk : k < L.length) (he : rLine (k : Int) L[k] s = .ok s') (hb : bigO s'.ob = true) : rAsm L = (emptyOb, 2, (k : Int)) := by
  unfold rAsm
  rw [h.eq, List.drop_eq_getElem_cons hk, rLines, he]
  simp only
  rw [if_pos hb]
theorem RnP.ok (h : RnP L k s) (hk : k < L.length) (he : rLine (k : Int) L[k] s = .ok s') (hb : bigO s'.ob = false) : RnP L (k + 1) s' := by
  have h1 := rLine_bd he
  have h2 := h.used
  have h3 := h.lines
  refine ⟨?_, by omega, by omega, big_bd hb⟩
  rw [h.eq, List.drop_eq_getElem_cons hk, rLines, he]
  simp only
  rw [if_neg (by rw [hb]; decide)]
theorem RnP.done (h : RnP L L.length s) : rLines 0 L startRs = .ok s := by
  rw [h.eq, List.drop_length, rLines]
end
/-- What holds of the record behind all lines. -/
structure RsOk (s : Rs) : Prop where
  used : ∀ u ∈ s.used, 0 ≤ u.1 ∧ u.1 < (s.ob.code.length : Int) ∧ 0 ≤ u.2.1 ∧ u.2.1 < 4 ∧ 0 ≤ argAt s.ob u.1 u.2.1 ∧ argAt s.ob u.1 u.2.1 ≤ 1023
  lines : ∀ q ∈ s.lines, 0 ≤ q.1 ∧ q.1 < (s.ob.preds.length : Int)
  nd : s.used.Pairwise (fun u v => u.1 < v.1 ∨ (u.1 = v.1 ∧ u.2.1 < v.2.1))
theorem usedOf_pair (c n : Int) : ∀ (ks xs : List Int) (k : Nat), (usedOf c n k ks xs).Pairwise (fun u v => u.1 < v.1 ∨ (u.1 = v.1 ∧ u.2.1 < v.2.1))
  | [], xs, k => by rw [usedOf]; exact List.Pairwise.nil
  | kd :: ks, xs, k => by
    rw [usedOf]
    refine List.pairwise_append.2 ⟨?_, usedOf_pair c n ks xs.tail (k + 1), fun u hu v hv => ?_⟩
    · split
      · exact List.pairwise_singleton _ _
      · exact List.Pairwise.nil
    · obtain ⟨j, _, _, _, rfl⟩ := (mem_used _ _ _ _ _ _).1 hv
      split at hu
      · rw [List.mem_singleton.1 hu]
        refine .inr ⟨rfl, ?_⟩
        show (k : Int) < ((k + 1 + j : Nat) : Int)
        omega
      · cases hu
theorem mem_ptUsed {o : Ob} {p : Int × Int × Bool} {u : Int × Int × Int} (h : u ∈ ptUsed o p) : p.2.2 = false ∧ u.1 = p.2.1 ∧ ∃ j : Nat, j < (opsOf (o.code.getD p.2.1.toNat (0, 0, 0, 0, 0)).1).length ∧ (opsOf (o.code.getD p.2.1.toNat (0, 0, 0, 0, 0)).1).getD j 0 = 8 ∧ (argOf (o.code.getD p.2.1.toNat (0, 0, 0, 0, 0))).getD j 0 ≠ 65535 ∧ u.2.1 = (j : Int) := by
  unfold ptUsed at h
  split at h
  · cases h
  · rename_i hp
    obtain ⟨j, h1, h2, h3, rfl⟩ := (mem_used _ _ _ _ _ _).1 h
    exact ⟨by simpa using hp, rfl, j, h1, h2, h3, by simp⟩
theorem used_pair {o : Ob} : ∀ (ps : List (Int × Int × Bool)) (k n : Nat), (ps.filter (fun p => !p.2.2)).map (fun p => p.2.1) = (List.range' k n).map (fun k : Nat => (k : Int)) → (ps.flatMap (ptUsed o)).Pairwise (fun u v => u.1 < v.1 ∨ (u.1 = v.1 ∧ u.2.1 < v.2.1)) ∧ ∀ u ∈ ps.flatMap (ptUsed o), (k : Int) ≤ u.1
  | [], k, n, _ => ⟨List.Pairwise.nil, fun u hu => by cases hu⟩
  | p :: ps, k, n, h => by
    rw [List.flatMap_cons]
    cases hb : p.2.2 with
    | true =>
      rw [List.filter_cons_of_neg (by simp [hb])] at h
      have e : ptUsed o p = [] := by
        unfold ptUsed
        rw [if_pos hb]
      rw [e]
      exact used_pair ps k n h
    | false =>
      rw [List.filter_cons_of_pos (by simp [hb]), List.map_cons] at h
      cases n with
      | zero => simp at h
      | succ n =>
        rw [List.range'_succ, List.map_cons] at h
        injection h with h1 h2
        obtain ⟨a1, a2⟩ := used_pair (o := o) ps (k + 1) n h2
        have e : ptUsed o p = usedOf p.2.1 p.1 0 (opsOf (o.code.getD p.2.1.toNat (0, 0, 0, 0, 0)).1) (argOf (o.code.getD p.2.1.toNat (0, 0, 0, 0, 0))) := by
          unfold ptUsed
          rw [if_neg (by rw [hb]; decide)]
        refine ⟨List.pairwise_append.2 ⟨by rw [e]; exact usedOf_pair _ _ _ _ _, a1, fun u hu v hv => ?_⟩, fun u hu => ?_⟩
        · have h3 := (mem_ptUsed hu).2.1
          have h4 := a2 v hv
          exact .inl (by omega)
        · rcases List.mem_append.1 hu with hu | hu
          · have h3 := (mem_ptUsed hu).2.1
            omega
          · have h4 := a2 u hu
            omega
theorem rs_ok {L : List (List UInt8)} {s : Rs} (h : rLines 0 L startRs = .ok s) : RsOk s := by
  rcases lines_sim L 0 startSt startRs Sim.start StB.start (by simp [startSt, emptyOb]) with ⟨e, _, h2⟩ | ⟨s0, r, h1, h2, hs⟩
  · rw [h] at h2; cases h2
  · rw [h] at h2
    injection h2 with h2
    subst h2
    obtain ⟨hg, hb, hl⟩ := lines_good L 0 startSt s0 h1 GoodS.start StB.start (by simp [startSt, emptyOb])
    refine ⟨fun u hu => ?_, by rw [hs.ob]; exact hs.lnv, ?_⟩
    · rw [hs.used] at hu
      obtain ⟨p, hp, hu⟩ := List.mem_flatMap.1 hu
      obtain ⟨h3, h4, j, h5, h6, h7, h8⟩ := mem_ptUsed hu
      have hpt := hb.pts p hp
      have hlt := hpt.2.2 h3
      have hgi : GoodI s0.ob (s0.ob.code.getD p.2.1.toNat (0, 0, 0, 0, 0)) := hg.code _ (by
        rw [List.getD_eq_getElem?_getD, List.getElem?_eq_getElem (by omega)]
        exact List.getElem_mem _)
      have hfew := ops_few (s0.ob.code.getD p.2.1.toNat (0, 0, 0, 0, 0)).1
      have hga := (hgi.2.2.1 j h5).2.2.2.1 h6
      have hr : 0 ≤ (argOf (s0.ob.code.getD p.2.1.toNat (0, 0, 0, 0, 0))).getD j 0 ∧ (argOf (s0.ob.code.getD p.2.1.toNat (0, 0, 0, 0, 0))).getD j 0 ≤ 1023 := by
        rcases hga with h | h
        · exact h
        · exact absurd h.2 h7
      have ha : argAt s.ob u.1 u.2.1 = (argOf (s0.ob.code.getD p.2.1.toNat (0, 0, 0, 0, 0))).getD j 0 := by
        unfold argAt
        rw [hs.ob, h4, h8, Int.toNat_natCast]
      rw [ha, hs.ob, h4, h8]
      exact ⟨hpt.1, hlt, by omega, by omega, hr⟩
    · rw [hs.used]
      exact (used_pair s0.pts 0 s0.ob.code.length (by rw [hg.pts, List.range_eq_range'])).1

/-- Labels that become places leave others alone. -/
theorem rPlace_len (labs : List Int) : ∀ (us : List (Int × Int × Int)) (C : List Ins), (rPlace labs us C).length = C.length
  | [], C => rfl
  | u :: us, C => by rw [rPlace, rPlace_len labs us, List.length_set]
theorem rPlace_other (labs : List Int) : ∀ (us : List (Int × Int × Int)) (C : List Ins) (c j : Nat), j < 4 → c < C.length → (∀ u ∈ us, 0 ≤ u.1 ∧ 0 ≤ u.2.1 ∧ ¬ (u.1 = (c : Int) ∧ u.2.1 = (j : Int))) → (argOf ((rPlace labs us C).getD c (0, 0, 0, 0, 0))).getD j 0 = (argOf (C.getD c (0, 0, 0, 0, 0))).getD j 0
  | [], C, c, j, _, _, _ => rfl
  | u :: us, C, c, j, hj, hc, h => by
    rw [rPlace, rPlace_other labs us _ c j hj (by rw [List.length_set]; exact hc) (fun v hv => h v (List.mem_cons_of_mem _ hv))]
    have hu := h u (by simp)
    by_cases e : c = u.1.toNat
    · rw [e, getD_setIns _ _ _ (by omega), argOf_setArg _ _ _ _ hj, if_neg]
      intro e2
      exact hu.2.2 ⟨by omega, by omega⟩
    · rw [getD_setIns_ne _ _ _ _ e]
theorem rPlace_snoc (labs : List Int) (us : List (Int × Int × Int)) (u : Int × Int × Int) (C : List Ins) : rPlace labs (us ++ [u]) C = (rPlace labs us C).set u.1.toNat (setArg ((rPlace labs us C).getD u.1.toNat (0, 0, 0, 0, 0)) u.2.1.toNat (labs.getD ((argOf ((rPlace labs us C).getD u.1.toNat (0, 0, 0, 0, 0))).getD u.2.1.toNat 0).toNat 0 - 1)) := by
  rw [rPlace_app, rPlace, rPlace]
/-- A step of the last loop. -/
theorem place_step {s : Rs} (h : RsOk s) {k : Nat} (hk : k < s.used.length) :
    rPlace s.labs (s.used.take (k + 1)) s.ob.code = (rPlace s.labs (s.used.take k) s.ob.code).set s.used[k].1.toNat (setArg ((rPlace s.labs (s.used.take k) s.ob.code).getD s.used[k].1.toNat (0, 0, 0, 0, 0)) s.used[k].2.1.toNat (labAt s s.used[k] - 1)) ∧
    (argOf ((rPlace s.labs (s.used.take k) s.ob.code).getD s.used[k].1.toNat (0, 0, 0, 0, 0))).getD s.used[k].2.1.toNat 0 = argAt s.ob s.used[k].1 s.used[k].2.1 := by
  have hu := h.used _ (List.getElem_mem hk)
  have e : (argOf ((rPlace s.labs (s.used.take k) s.ob.code).getD s.used[k].1.toNat (0, 0, 0, 0, 0))).getD s.used[k].2.1.toNat 0 = argAt s.ob s.used[k].1 s.used[k].2.1 := by
    rw [rPlace_other s.labs _ s.ob.code s.used[k].1.toNat s.used[k].2.1.toNat (by omega) (by omega) (fun v hv => ?_)]
    · rfl
    · have hvm := h.used v (List.mem_of_mem_take hv)
      refine ⟨hvm.1, hvm.2.2.1, fun hh => ?_⟩
      obtain ⟨i, hi, rfl⟩ := List.mem_iff_getElem.1 hv
      rw [List.length_take] at hi
      rw [List.getElem_take] at hh
      have := List.pairwise_iff_getElem.1 h.nd i k (by omega) hk (by omega)
      omega
  refine ⟨?_, e⟩
  rw [List.take_succ_eq_append_getElem hk, rPlace_snoc, e]
  rfl
theorem used_any {s : Rs} (i : Int) {k : Nat} (hk : k < s.used.length) : ((s.used.take (k + 1)).any fun u => u.2.2 == i && usedBad s u) = (((s.used.take k).any fun u => u.2.2 == i && usedBad s u) || (s.used[k].2.2 == i && usedBad s s.used[k])) := by
  rw [List.take_succ_eq_append_getElem hk, List.any_append]
  simp
theorem used_hit {s : Rs} (i : Int) {k : Nat} (hk : k < s.used.length) (h : (s.used[k].2.2 == i && usedBad s s.used[k]) = true) : badU s i = true := by
  unfold badU
  rw [List.any_eq_true]
  exact ⟨_, List.getElem_mem hk, h⟩
theorem line_hit {s : Rs} (i : Int) {k : Nat} (hk : k < s.lines.length) (h : ((s.lines.getD k (0, 0)).2 == i && lineBad s k) = true) : badL s i = true := by
  unfold badL
  rw [List.any_eq_true]
  exact ⟨k, List.mem_range.2 hk, h⟩
theorem line_any {s : Rs} (i : Int) (k : Nat) : ((List.range (k + 1)).any fun k => (s.lines.getD k (0, 0)).2 == i && lineBad s k) = (((List.range k).any fun k => (s.lines.getD k (0, 0)).2 == i && lineBad s k) || ((s.lines.getD k (0, 0)).2 == i && lineBad s k)) := by
  rw [List.range_succ, List.any_append]
  simp
/-- How far the look at all lines is. -/
def RqP (L : List (List UInt8)) (s : Rs) (i : Nat) : Prop := rAsm L = match rSettle s i (L.length - i) with
  | some (e, n) => (emptyOb, e, n)
  | none => ({ s.ob with code := rPlace s.labs s.used s.ob.code }, 0, -1)
theorem RqP.start {L : List (List UInt8)} {s : Rs} (h : rLines 0 L startRs = .ok s) : RqP L s 0 := by
  unfold RqP rAsm
  rw [h]
  rfl
theorem RqP.hitU {L : List (List UInt8)} {s : Rs} {i : Nat} (h : RqP L s i) (hi : i < L.length) (hb : badU s (i : Int) = true) : rAsm L = (emptyOb, 10, (i : Int)) := by
  unfold RqP at h
  rw [h, show L.length - i = (L.length - i - 1) + 1 by omega, rSettle, if_pos hb]
theorem RqP.hitL {L : List (List UInt8)} {s : Rs} {i : Nat} (h : RqP L s i) (hi : i < L.length) (hu : badU s (i : Int) = false) (hb : badL s (i : Int) = true) : rAsm L = (emptyOb, 7, (i : Int)) := by
  unfold RqP at h
  rw [h, show L.length - i = (L.length - i - 1) + 1 by omega, rSettle, if_neg (by rw [hu]; decide), if_pos hb]
theorem RqP.next {L : List (List UInt8)} {s : Rs} {i : Nat} (h : RqP L s i) (hi : i < L.length) (hu : badU s (i : Int) = false) (hb : badL s (i : Int) = false) : RqP L s (i + 1) := by
  unfold RqP at h ⊢
  rw [h, show L.length - i = (L.length - (i + 1)) + 1 by omega, rSettle, if_neg (by rw [hu]; decide), if_neg (by rw [hb]; decide)]
theorem RqP.done {L : List (List UInt8)} {s : Rs} (h : RqP L s L.length) : rAsm L = ({ s.ob with code := rPlace s.labs s.used s.ob.code }, 0, -1) := by
  unfold RqP at h
  rw [h, Nat.sub_self]
  rfl

/-! The record's rows, cell by cell. -/
section
variable {base : Nat} {w wr w' : World} {g : Nat} {va vf vp vc vu vl : Value} {s : Rs}
theorem Rm.usedAt {A : Option Addr} {c : Nat} (h : Rm base w g va vf vp vc (.slice A s.used.length c) vl s) (k : Nat) (hk : k < s.used.length) :
    ∃ b, A = some ⟨b, 0, none⟩ ∧ b < w.heap.size ∧ w.cell? ⟨b, k * 3, none⟩ = some (.int .i64 s.used[k].1) ∧ w.cell? ⟨b, k * 3 + 1, none⟩ = some (.int .i64 s.used[k].2.1) ∧ w.cell? ⟨b, k * 3 + 2, none⟩ = some (.int .i64 s.used[k].2.2) := by
  obtain ⟨b, cp, hv⟩ := own_some h.ru (by omega)
  injection hv with hA _ _
  subst hA
  have hf := flat_at usC 3 (fun _ => rfl) s.used k s.used[k] (by simp [hk])
  have c0 := h.ru.cells (g := b) rfl _ _ (hf 0 (by omega))
  have c1 := h.ru.cells (g := b) rfl _ _ (hf 1 (by omega))
  have c2 := h.ru.cells (g := b) rfl _ _ (hf 2 (by omega))
  rw [add_plain, Nat.zero_add] at c0 c1 c2
  exact ⟨b, rfl, (own_ge h.ru rfl).2, c0, c1, c2⟩
theorem Rm.lineAt2 {A : Option Addr} {c : Nat} (h : Rm base w g va vf vp vc vu (.slice A s.lines.length c) s) (k : Nat) (hk : k < s.lines.length) :
    ∃ b, A = some ⟨b, 0, none⟩ ∧ b < w.heap.size ∧ w.cell? ⟨b, k * 2, none⟩ = some (.int .i64 s.lines[k].1) ∧ w.cell? ⟨b, k * 2 + 1, none⟩ = some (.int .i64 s.lines[k].2) := by
  obtain ⟨b, cp, hv⟩ := own_some h.rl (by omega)
  injection hv with hA _ _
  subst hA
  have hf := flat_at lnC 2 (fun _ => rfl) s.lines k s.lines[k] (by simp [hk])
  have c0 := h.rl.cells (g := b) rfl _ _ (hf 0 (by omega))
  have c1 := h.rl.cells (g := b) rfl _ _ (hf 1 (by omega))
  rw [add_plain, Nat.zero_add] at c0 c1
  exact ⟨b, rfl, (own_ge h.rl rfl).2, c0, c1⟩
theorem Rm.entAt2 {A : Option Addr} {c : Nat} (h : Rm base w g va vf (.slice A s.ob.preds.length c) vc vu vl s) (k : Nat) (hk : k < s.ob.preds.length) :
    ∃ b, A = some ⟨b, 0, none⟩ ∧ b < w.heap.size ∧ w.cell? ⟨b, k * 3 + 2, none⟩ = some (.int .i64 (entK s.ob (k : Int))) := by
  obtain ⟨b, cp, hv⟩ := own_some h.t.rp (by omega)
  injection hv with hA _ _
  subst hA
  have hc := h.t.rp.cells (g := b) rfl (k * 3 + 2) _ (flat_ent s.ob.preds k hk)
  rw [add_plain, Nat.zero_add] at hc
  have e : entK s.ob (k : Int) = s.ob.preds[k].2.2 := by
    unfold entK
    rw [Int.toNat_natCast, List.getD_eq_getElem?_getD, List.getElem?_eq_getElem hk]
    rfl
  rw [e]
  exact ⟨b, rfl, (own_ge h.t.rp rfl).2, hc⟩
theorem Rm.argAt2 {A : Option Addr} {c : Nat} (h : Rm base w g va vf vp (.slice A s.ob.code.length c) vu vl s) (i j : Nat) (hi : i < s.ob.code.length) (hj : j < 4) :
    ∃ b, A = some ⟨b, 0, none⟩ ∧ base ≤ b ∧ b < w.heap.size ∧ w.cell? ⟨b, i * 5 + 1 + j, none⟩ = some (.int .i64 ((argOf (s.ob.code.getD i (0, 0, 0, 0, 0))).getD j 0)) ∧ w.frozen? ⟨b, i * 5 + 1 + j, none⟩ = false := by
  obtain ⟨b, cp, hv⟩ := own_some h.t.rc (by omega)
  injection hv with hA _ _
  subst hA
  have hc := h.t.rc.cells (g := b) rfl (i * 5 + 1 + j) _ (flat_arg s.ob.code i j hi hj)
  rw [add_plain, Nat.zero_add] at hc
  have e : s.ob.code.getD i (0, 0, 0, 0, 0) = s.ob.code[i] := by
    rw [List.getD_eq_getElem?_getD, List.getElem?_eq_getElem hi]
    rfl
  rw [e]
  refine ⟨b, rfl, (own_ge h.t.rc rfl).1, (own_ge h.t.rc rfl).2, hc, ?_⟩
  rcases h.t.rc.2 with ⟨h0, _⟩ | ⟨g', cap, cur, h1, _, hh, _⟩
  · simp at h0
  · injection h1 with h1 _ _
    injection h1 with h1
    injection h1 with h1
    subst h1
    exact frozen_of_row w b (i * 5 + 1 + j) cur _ hh
theorem Rm.setcode {b c : Nat} (h : Rm base w g va vf vp (.slice (some ⟨b, 0, none⟩) s.ob.code.length c) vu vl s) (i j : Nat) (hi : i < s.ob.code.length) (hj : j < 4) (x : Int) :
    Rm base (w.setCell ⟨b, i * 5 + 1 + j, none⟩ (.int .i64 x)) g va vf vp (.slice (some ⟨b, 0, none⟩) s.ob.code.length c) vu vl { s with ob := { s.ob with code := s.ob.code.set i (setArg (s.ob.code.getD i (0, 0, 0, 0, 0)) j x) } } := by
  have hfar : ∀ {base' n' size' : Nat} {e' : TypeId} {u : Value} {xs : List Value}, w.ownsRow base' e' size' u n' xs → e' ≠ 71 → (w.setCell ⟨b, i * 5 + 1 + j, none⟩ (.int .i64 x)).ownsRow base' e' size' u n' xs := fun hu he =>
    own_set_far hu (p := ⟨b, i * 5 + 1 + j, none⟩) (fun k hk e => own_ne_own hu h.t.rc he k hk (by rw [e]; rfl)) _
  have e : s.ob.code.getD i (0, 0, 0, 0, 0) = s.ob.code[i] := by
    rw [List.getD_eq_getElem?_getD, List.getElem?_eq_getElem hi]
    rfl
  refine ⟨⟨h.t.box.far (p := ⟨b, i * 5 + 1 + j, none⟩) (fun e => own_ne_box h.t.rc h.t.box (by decide) b rfl e.symm) _, h.t.len, hfar h.t.ra (by decide), hfar h.t.rf (by decide), hfar h.t.rp (by decide), ?_, h.t.ge⟩, hfar h.ru (by decide), hfar h.rl (by decide)⟩
  show World.ownsRow _ _ _ _ _ (s.ob.code.set i _).length ((s.ob.code.set i _).flatMap insC)
  unfold setArg
  rw [List.length_set, e, ← flat_set_arg s.ob.code i j x hi hj]
  exact (World.ownsRow.stored h.t.rc _ _).1
/-- The result's box, the record. -/
structure PgM (base : Nat) (w wr : World) (gr g : Nat) (va vf vp vc vu vl : Value) (s : Rs) : Prop where
  rm : Rm base wr g va vf vp vc vu vl s
  rb : Box wr gr 39 #[.slice none 0 0, .slice none 0 0, .slice none 0 0, .slice none 0 0]
  below : Below w.heap.size w wr
  ge : w.heap.size ≤ base
  gr : w.heap.size ≤ gr ∧ gr < base
  bs : base ≤ wr.heap.size
theorem PgM.goes {gr : Nat} (h : PgM base w wr gr g va vf vp vc vu vl s) (hb : Below wr.heap.size wr w') : PgM base w w' gr g va vf vp vc vu vl s :=
  ⟨h.rm.goes hb, h.rb.below hb h.rb.lt, h.below.trans (hb.mono h.below.size), h.ge, h.gr, Nat.le_trans h.bs hb.size⟩
theorem PgM.line {gr : Nat} {va' vf' vp' vc' vu' vl' : Value} {s' : Rs} (h : PgM base w wr gr g va vf vp vc vu vl s) (hm : Rm base w' g va' vf' vp' vc' vu' vl' s') (hb : Below base wr w') : PgM base w w' gr g va' vf' vp' vc' vu' vl' s' :=
  ⟨hm, h.rb.below hb h.gr.2, h.below.trans (hb.mono h.ge), h.ge, h.gr, Nat.le_trans h.bs hb.size⟩
theorem PgM.err {gr : Nat} (h : PgM base w wr gr g va vf vp vc vu vl s) (hb : Below base wr w') : Box w' gr 39 #[.slice none 0 0, .slice none 0 0, .slice none 0 0, .slice none 0 0] ∧ Below w.heap.size w w' :=
  ⟨h.rb.below hb h.gr.2, h.below.trans (hb.mono h.ge)⟩
theorem PgM.set {gr : Nat} {b c i j : Nat} {x : Int} (h : PgM base w wr gr g va vf vp (.slice (some ⟨b, 0, none⟩) s.ob.code.length c) vu vl s) (hi : i < s.ob.code.length) (hj : j < 4) : PgM base w (wr.setCell ⟨b, i * 5 + 1 + j, none⟩ (.int .i64 x)) gr g va vf vp (.slice (some ⟨b, 0, none⟩) s.ob.code.length c) vu vl { s with ob := { s.ob with code := s.ob.code.set i (setArg (s.ob.code.getD i (0, 0, 0, 0, 0)) j x) } } :=
  h.line (h.rm.setcode i j hi hj x) ((Below.refl base wr).setCell (p := ⟨b, i * 5 + 1 + j, none⟩) (own_ge h.rm.t.rc rfl).1 _)
end
/-- The document's line keeps its word. -/
def LineKeeps : Prop := ∀ (base : Nat) (w : World) (g : Nat) (va vf vp vc vu vl : Value) (s : Rs), Rm base w g va vf vp vc vu vl s → base ≤ w.heap.size → (s.ob.atoms.length ≤ 900000 ∧ s.ob.funs.length ≤ 900000 ∧ s.ob.preds.length ≤ 900000 ∧ s.ob.code.length ≤ 900000 ∧ s.used.length ≤ 900000) → s.lines.length ≤ 900000 → ∀ (n : Int) (x : ByteArray), x.size ≤ 9000 →
  Calls Tryz.prog 21 #[.pointer (some ⟨g, 0, none⟩), .string x, .int .i64 n] w (RLineW base w g (rLine n x.data.toList s))
/-- What Program hands back. -/
def AsmRW (w : World) (r : Ob × Int × Int) (e : Ending) (w' : World) : Prop :=
  ∃ va vf vp vc, e = .returned (.tuple #[.agg #[va, vf, vp, vc], .int .i64 r.2.1, .int .i64 r.2.2]) ∧ ObAt w' va vf vp vc r.1 ∧ Below w.heap.size w w'
theorem asmRW_err {w w' : World} {r : Ob × Int × Int} {c n : Int} (h : r = (emptyOb, c, n)) (hb : Below w.heap.size w w') : AsmRW w r (.returned (.tuple #[.agg #[.slice none 0 0, .slice none 0 0, .slice none 0 0, .slice none 0 0], .int .i64 c, .int .i64 n])) w' := by
  subst h
  exact ⟨_, _, _, _, rfl, ⟨.inl ⟨rfl, rfl, _, _, rfl⟩, .inl ⟨rfl, rfl, _, _, rfl⟩, .inl ⟨rfl, rfl, _, _, rfl⟩, .inl ⟨rfl, rfl, _, _, rfl⟩⟩, hb⟩
theorem asmRW_ok {w w' : World} {va vf vp vc : Value} {r : Ob × Int × Int} {o : Ob} (h : r = (o, 0, -1)) (ho : ObAt w' va vf vp vc o) (hb : Below w.heap.size w w') : AsmRW w r (.returned (.tuple #[.agg #[va, vf, vp, vc], .int .i64 0, .int .i64 (-1)])) w' := by
  subst h
  exact ⟨_, _, _, _, rfl, ho, hb⟩

end Go.Proofs.YtfgnapfodnhppaaGreatDoor
