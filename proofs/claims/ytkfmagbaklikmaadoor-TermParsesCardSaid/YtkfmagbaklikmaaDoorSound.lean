/-
  What Parse reads is a term that may be, and its words are what was read: plain words, no program.
-/
import Derived.Test.YtkfmagbaklikmaaDoorBack
namespace Go.Proofs.YtkfmagbaklikmaaDoor
open Go Go.RowKit
set_option linter.unusedVariables false
set_option linter.unusedSimpArgs false

theorem head_take {l : List UInt8} {c : UInt8} (h : headIs l c = true) : 1 ≤ l.length ∧ l.take 1 = [c] := by
  cases l with
  | nil => simp [headIs] at h
  | cons x r =>
    rw [head_cons, beq_iff_eq] at h
    subst h
    simp
theorem head_take_at {l : List UInt8} {c : UInt8} {n : Nat} (h : headIs (l.drop n) c = true) (hn : n ≤ l.length) : n + 1 ≤ l.length ∧ l.take (n + 1) = l.take n ++ [c] := by
  obtain ⟨h1, h2⟩ := head_take h
  rw [List.length_drop] at h1
  refine ⟨by omega, ?_⟩
  rw [List.take_add, h2]
theorem while_take (p : UInt8 → Bool) (l : List UInt8) : l.takeWhile p = l.take (l.takeWhile p).length := List.prefix_iff_eq_take.1 (List.takeWhile_prefix p)
theorem while_le (p : UInt8 → Bool) (l : List UInt8) : (l.takeWhile p).length ≤ l.length := (List.takeWhile_sublist p).length_le
theorem while_all (p : UInt8 → Bool) (l : List UInt8) : (l.takeWhile p).all p = true := List.all_takeWhile

theorem var_sound {d : List UInt8} (hd : d.all digitB = true) {v : Int} (h : varOf d = some v) : 0 ≤ v ∧ v ≤ 999 ∧ Lib.itoa v = d := by
  unfold varOf at h
  split at h
  · split at h
    · cases h
    · split at h
      · rename_i w _ h9 hi
        obtain rfl := Option.some.inj h
        refine ⟨?_, by omega, hi⟩
        by_cases hn : w < 0
        · exfalso
          rw [← hi, Lib.itoa, if_pos hn] at hd
          simp [List.all_cons, digitB] at hd
        · omega
      · cases h
  · cases h

def TSound (p : List UInt8 → Option (Tm × Nat)) : Prop := ∀ l t n, p l = some (t, n) → t.right = true ∧ n ≤ l.length ∧ t.text = l.take n

theorem args_sound {p : List UInt8 → Option (Tm × Nat)} (hp : TSound p) : ∀ (q : Nat) (l : List UInt8) (ts : List Tm) (n : Nat), pArgs p q l = some (ts, n) →
    rights ts = true ∧ 1 ≤ ts.length ∧ ts.length ≤ q ∧ n ≤ l.length ∧ (more 44 ts).drop 1 ++ [41] = l.take n := by
  intro q
  induction q with
  | zero => intro l ts n h; simp [pArgs] at h
  | succ q ih =>
    intro l ts n h
    rw [pArgs] at h
    split at h
    · cases h
    · rename_i t m hm
      obtain ⟨a1, a2, a3⟩ := hp _ _ _ hm
      split at h
      · rename_i h41
        simp only [Option.some.injEq, Prod.mk.injEq] at h
        obtain ⟨rfl, rfl⟩ := h
        obtain ⟨b1, b2⟩ := head_take_at h41 a2
        refine ⟨by simp [rights, a1], by simp, by simp, b1, ?_⟩
        rw [b2, ← a3]
        simp [more]
      · split at h
        · rename_i h44
          split at h
          · cases h
          · rename_i us k hk
            simp only [Option.some.injEq, Prod.mk.injEq] at h
            obtain ⟨rfl, rfl⟩ := h
            obtain ⟨b1, b2⟩ := head_take_at h44 a2
            obtain ⟨c1, c2, c3, c4, c5⟩ := ih _ _ _ hk
            rw [List.length_drop] at c4
            refine ⟨by simp [rights, a1, c1], by simp, by simp; omega, by omega, ?_⟩
            rw [List.take_add, b2, ← c5, ← a3]
            cases us with
            | nil => simp at c2
            | cons x r => simp [more]
        · cases h

theorem term_sound : ∀ f, TSound (pTerm f) := by
  intro f
  induction f with
  | zero => intro l t n h; simp [pTerm] at h
  | succ f ih =>
    intro l t n h
    rw [pTerm] at h
    split at h
    · rename_i h88
      obtain ⟨b1, b2⟩ := head_take h88
      simp only [shN, pVar, Option.map_map, Option.map_eq_some_iff, Function.comp, Prod.mk.injEq] at h
      obtain ⟨v, hv, rfl, rfl⟩ := h
      obtain ⟨c1, c2, c3⟩ := var_sound (while_all _ _) hv
      have hle := while_le digitB (l.drop 1)
      rw [List.length_drop] at hle
      refine ⟨?_, by omega, ?_⟩
      · rw [Tm.right, rights, Bool.true_and, List.length_nil, kind0]
        exact ⟨⟨c1, c2⟩, rfl, rfl⟩
      · rw [Tm.text, if_pos rfl, c3, List.take_add, b2, ← while_take]
        rfl
    · split at h
      · rename_i h91
        obtain ⟨b1, b2⟩ := head_take h91
        simp only [shN, Option.map_eq_some_iff, Prod.mk.injEq] at h
        obtain ⟨⟨t', n'⟩, hv, rfl, rfl⟩ := h
        unfold pList at hv
        split at hv
        · cases hv
        · rename_i a m hm
          obtain ⟨a1, a2, a3⟩ := ih _ _ _ hm
          split at hv
          · rename_i h124
            obtain ⟨d1, d2⟩ := head_take_at h124 a2
            split at hv
            · cases hv
            · rename_i b m2 hm2
              obtain ⟨e1, e2, e3⟩ := ih _ _ _ hm2
              rw [List.length_drop] at e2
              split at hv
              · rename_i h93
                simp only [Option.some.injEq, Prod.mk.injEq] at hv
                obtain ⟨rfl, rfl⟩ := hv
                obtain ⟨g1, g2⟩ := head_take_at h93 (by omega)
                have hld : (l.drop 1).length = l.length - 1 := List.length_drop
                refine ⟨?_, by show 1 + (m + 1 + m2 + 1) ≤ _; omega, ?_⟩
                · simp only [Tm.right, rights, a1, e1, Bool.true_and, Bool.and_true]
                  rw [kind3]
                  exact ⟨rfl, rfl, rfl⟩
                · show (Tm.node 3 0 ⟨#[]⟩ [a, b]).text = l.take (1 + (m + 1 + m2 + 1))
                  rw [Tm.text, if_neg (by decide), if_neg (by decide), if_neg (by decide), if_pos rfl, List.take_add, b2, g2, List.take_add (i := m + 1) (j := m2), d2, ← a3, ← e3]
                  simp [more]
              · cases hv
          · cases hv
      · unfold pNamed at h
        have hle := while_le nameB l
        have htk := while_take nameB l
        split at h
        · rename_i hok
          have hsz : (⟨(l.takeWhile nameB).toArray⟩ : ByteArray).data.toList = l.takeWhile nameB := rfl
          split at h
          · rename_i h40
            obtain ⟨d1, d2⟩ := head_take_at h40 hle
            split at h
            · cases h
            · rename_i ts m hm
              simp only [Option.some.injEq, Prod.mk.injEq] at h
              obtain ⟨rfl, rfl⟩ := h
              obtain ⟨c1, c2, c3, c4, c5⟩ := args_sound ih _ _ _ _ hm
              rw [List.length_drop] at c4
              refine ⟨?_, by omega, ?_⟩
              · rw [Tm.right, c1, Bool.true_and, kind2]
                exact ⟨rfl, hok, c2, c3⟩
              · rw [Tm.text, if_neg (by decide), if_neg (by decide), if_pos rfl, List.take_add, d2, ← c5, ← htk, hsz]
                simp
          · simp only [Option.some.injEq, Prod.mk.injEq] at h
            obtain ⟨rfl, rfl⟩ := h
            refine ⟨?_, hle, ?_⟩
            · rw [Tm.right, rights, Bool.true_and, List.length_nil, kind1]
              exact ⟨rfl, hok, rfl⟩
            · rw [Tm.text, if_neg (by decide), if_pos rfl, hsz]
              exact htk
        · cases h

/-- What is read is a term that may be, with just that text. -/
theorem parse_sound {s : ByteArray} {t : Tm} (h : parseOf s = some t) : t.right = true ∧ t.text = s.data.toList := by
  unfold parseOf at h
  split at h
  · cases h
  · split at h
    · rename_i t' n hm
      split at h
      · rename_i hn
        obtain rfl := Option.some.inj h
        obtain ⟨a1, a2, a3⟩ := term_sound _ _ _ _ hm
        refine ⟨a1, ?_⟩
        rw [a3, hn]
        exact List.take_of_length_le (by simp)
      · cases h
    · cases h
end Go.Proofs.YtkfmagbaklikmaaDoor
