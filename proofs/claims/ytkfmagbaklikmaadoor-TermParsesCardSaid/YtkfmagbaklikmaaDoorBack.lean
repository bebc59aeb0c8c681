/-
  A term's words mean that term again: plain words, no program. Condition: the term may be one.
-/
import Derived.Test.YtkfmagbaklikmaaDoorTxtA
import Derived.Test.YtkfmagbaklikmaaDoorParseG
import Derived.Test.YtkfmagbaklikmaaDoorRightB
import Derived.KernelRfl
namespace Go.Proofs.YtkfmagbaklikmaaDoor
open Go Go.RowKit
set_option linter.unusedVariables false
set_option linter.unusedSimpArgs false

def stopB (l : List UInt8) : Bool := match l with
  | [] => true
  | c :: _ => c == 41 || c == 44 || c == 124 || c == 93
theorem stop_name {l : List UInt8} (h : stopB l = true) : l.takeWhile nameB = [] := by
  cases l with
  | nil => rfl
  | cons c r =>
    simp only [stopB, Bool.or_eq_true, beq_iff_eq] at h
    rcases h with ((rfl | rfl) | rfl) | rfl <;> rfl
theorem stop_digit {l : List UInt8} (h : stopB l = true) : l.takeWhile digitB = [] := by
  cases l with
  | nil => rfl
  | cons c r =>
    simp only [stopB, Bool.or_eq_true, beq_iff_eq] at h
    rcases h with ((rfl | rfl) | rfl) | rfl <;> rfl
theorem stop_40 {l : List UInt8} (h : stopB l = true) : headIs l 40 = false := by
  cases l with
  | nil => rfl
  | cons c r =>
    simp only [stopB, Bool.or_eq_true, beq_iff_eq] at h
    rcases h with ((rfl | rfl) | rfl) | rfl <;> rfl
theorem while_app (p : UInt8 → Bool) (a b : List UInt8) (ha : a.all p = true) (hb : b.takeWhile p = []) : (a ++ b).takeWhile p = a := by
  induction a with
  | nil => simpa using hb
  | cons x r ih =>
    rw [List.all_cons, Bool.and_eq_true] at ha
    rw [List.cons_append, List.takeWhile_cons_of_pos ha.1, ih ha.2]
def numsOk : Bool := (List.range 1000).all fun n => decide (Lib.atoiAll (Lib.itoa (n : Int)) = .ok (n : Int)) && (Lib.itoa (n : Int)).all digitB
theorem nums_ok : numsOk = true := by kernel_rfl
theorem num_back (n : Int) (h0 : 0 ≤ n) (h1 : n ≤ 999) : Lib.atoiAll (Lib.itoa n) = .ok n ∧ (Lib.itoa n).all digitB = true := by
  obtain ⟨k, rfl⟩ := Int.eq_ofNat_of_zero_le h0
  have h := List.all_eq_true.1 nums_ok k (by simp; omega)
  rw [Bool.and_eq_true, decide_eq_true_eq] at h
  exact h
theorem head_cons (c d : UInt8) (l : List UInt8) : headIs (c :: l) d = (c == d) := by simp [headIs]
theorem name_all {s : ByteArray} (h : nameOk s = true) : s.data.toList.all nameB = true ∧ ∃ c r, s.data.toList = c :: r ∧ lowerB c = true := by
  unfold nameOk at h
  simp only [Bool.and_eq_true, decide_eq_true_eq] at h
  obtain ⟨⟨⟨h1, h2⟩, h3⟩, h4⟩ := h
  refine ⟨h4, ?_⟩
  cases hs : s.data.toList with
  | nil => rw [hs] at h3; simp at h3
  | cons c r => rw [hs] at h3; exact ⟨c, r, rfl, by simpa using h3⟩
theorem lower_ne {c : UInt8} (h : lowerB c = true) (d : UInt8) (hd : d.toNat < 97) : (c == d) = false := by
  simp only [lowerB, Bool.and_eq_true, decide_eq_true_eq] at h
  rw [beq_eq_false_iff_ne]
  rintro rfl
  omega

mutual
theorem term_back : ∀ (t : Tm), t.right = true → ∀ (rest : List UInt8) (f : Nat), t.text.length < f → stopB rest = true → pTerm f (t.text ++ rest) = some (t, t.text.length)
  | .node k n s l, h, rest, f, hf, hr => by
    obtain ⟨f, rfl⟩ : ∃ f', f = f' + 1 := ⟨f - 1, by omega⟩
    rw [Tm.right, Bool.and_eq_true] at h
    obtain ⟨hl, hk⟩ := h
    by_cases e0 : k = 0
    · subst e0
      obtain ⟨⟨a, b⟩, c, d⟩ := (kind0 n s l.length).1 hk
      obtain rfl : l = [] := List.eq_nil_of_length_eq_zero d
      have hs : s = ⟨#[]⟩ := by
        apply ByteArray.ext
        exact Array.eq_empty_of_size_eq_zero c
      obtain ⟨q1, q2⟩ := num_back n a b
      have ht : (Tm.node 0 n s []).text = 88 :: Lib.itoa n := by rw [Tm.text, if_pos rfl]
      rw [ht, List.cons_append, pTerm, head_cons, if_pos (by rfl), List.drop_succ_cons, List.drop_zero]
      unfold pVar varOf
      rw [while_app _ _ _ q2 (stop_digit hr), q1]
      simp only [if_neg (show ¬ 999 < n by omega), if_true, Option.map_some, shN, hs]
      simp
      omega
    · by_cases e1 : k = 1
      · subst e1
        obtain ⟨a, b, c⟩ := (kind1 n s l.length).1 hk
        obtain rfl : l = [] := List.eq_nil_of_length_eq_zero c
        subst a
        obtain ⟨q1, ch, r, q2, q3⟩ := name_all b
        have ht : (Tm.node 1 0 s []).text = s.data.toList := by rw [Tm.text, if_neg (by decide), if_pos rfl]
        rw [ht, pTerm]
        have e88 : headIs (s.data.toList ++ rest) 88 = false := by rw [q2, List.cons_append, head_cons]; exact lower_ne q3 _ (by decide)
        have e91 : headIs (s.data.toList ++ rest) 91 = false := by rw [q2, List.cons_append, head_cons]; exact lower_ne q3 _ (by decide)
        rw [e88, e91, if_neg (by decide), if_neg (by decide)]
        unfold pNamed
        rw [while_app _ _ _ q1 (stop_name hr), List.drop_left, stop_40 hr]
        have hb : (⟨s.data.toList.toArray⟩ : ByteArray) = s := by simp
        rw [hb, if_pos b, if_neg (by decide)]
      · by_cases e2 : k = 2
        · subst e2
          obtain ⟨a, b, c, d⟩ := (kind2 n s l.length).1 hk
          subst a
          obtain ⟨q1, ch, r, q2, q3⟩ := name_all b
          have ht : (Tm.node 2 0 s l).text = s.data.toList ++ 40 :: ((more 44 l).drop 1 ++ [41]) := by rw [Tm.text, if_neg (by decide), if_neg (by decide), if_pos rfl]
          have hlen : (Tm.node 2 0 s l).text.length = s.data.toList.length + 1 + (((more 44 l).drop 1).length + 1) := by rw [ht]; simp; omega
          have hpos : 1 ≤ s.data.toList.length := by rw [q2]; simp
          have hm := more_pos 44 l l.length (by omega) (Nat.le_refl _)
          rw [List.take_length] at hm
          have hlm : ((more 44 l).drop 1).length = (more 44 l).length - 1 := by simp
          have IH := args_back l hl rest f 8 (by omega) d c
          have hx : (Tm.node 2 0 s l).text ++ rest = s.data.toList ++ 40 :: ((more 44 l).drop 1 ++ 41 :: rest) := by rw [ht]; simp
          rw [hx, pTerm]
          have e88 : headIs (s.data.toList ++ 40 :: ((more 44 l).drop 1 ++ 41 :: rest)) 88 = false := by rw [q2, List.cons_append, head_cons]; exact lower_ne q3 _ (by decide)
          have e91 : headIs (s.data.toList ++ 40 :: ((more 44 l).drop 1 ++ 41 :: rest)) 91 = false := by rw [q2, List.cons_append, head_cons]; exact lower_ne q3 _ (by decide)
          rw [e88, e91, if_neg (by decide), if_neg (by decide)]
          unfold pNamed
          rw [while_app _ _ _ q1 (by rw [List.takeWhile_cons_of_neg (by decide)]), List.drop_left, head_cons]
          have hb : (⟨s.data.toList.toArray⟩ : ByteArray) = s := by simp
          have hd : (s.data.toList ++ 40 :: ((more 44 l).drop 1 ++ 41 :: rest)).drop (s.data.toList.length + 1) = (more 44 l).drop 1 ++ 41 :: rest := by
            rw [← List.drop_drop, List.drop_left]
            rfl
          rw [hb, if_pos b, if_pos (by decide), hd, IH]
          simp only [hlen]
        · by_cases e3 : k = 3
          · subst e3
            obtain ⟨a, b, c⟩ := (kind3 n s l.length).1 hk
            subst a
            have hs : s = ⟨#[]⟩ := by
              apply ByteArray.ext
              exact Array.eq_empty_of_size_eq_zero b
            subst hs
            have ht : (Tm.node 3 0 ⟨#[]⟩ l).text = 91 :: ((more 124 l).drop 1 ++ [93]) := by rw [Tm.text, if_neg (by decide), if_neg (by decide), if_neg (by decide), if_pos rfl]
            have hlen : (Tm.node 3 0 ⟨#[]⟩ l).text.length = 1 + (((more 124 l).drop 1).length + 1) := by rw [ht]; simp; omega
            have hlm : ((more 124 l).drop 1).length = (more 124 l).length - 1 := by simp
            have IH := list_back l hl c rest f (by omega)
            have hx : (Tm.node 3 0 ⟨#[]⟩ l).text ++ rest = 91 :: ((more 124 l).drop 1 ++ 93 :: rest) := by rw [ht]; simp
            rw [hx, pTerm, head_cons, head_cons, if_neg (by decide), if_pos (by decide), List.drop_succ_cons, List.drop_zero, IH]
            simp only [shN, Option.map_some, hlen]
          · exfalso
            simp [kindOk, e0, e1, e2, e3] at hk
theorem args_back : ∀ (l : List Tm), rights l = true → ∀ (rest : List UInt8) (f q : Nat), (more 44 l).length ≤ f → l.length ≤ q → 1 ≤ l.length → pArgs (pTerm f) q ((more 44 l).drop 1 ++ 41 :: rest) = some (l, ((more 44 l).drop 1).length + 1)
  | [], h, rest, f, q, hf, hq, h1 => by simp at h1
  | t :: r, h, rest, f, q, hf, hq, h1 => by
    rw [rights, Bool.and_eq_true] at h
    obtain ⟨q, rfl⟩ : ∃ q', q = q' + 1 := ⟨q - 1, by simp at hq; omega⟩
    have hm : more 44 (t :: r) = 44 :: (t.text ++ more 44 r) := by rw [more]
    have hml : (more 44 (t :: r)).length = t.text.length + (more 44 r).length + 1 := by rw [hm]; simp
    have hst : stopB (more 44 r ++ 41 :: rest) = true := by
      cases r with
      | nil => rfl
      | cons a b => rw [more]; rfl
    have IH := term_back t h.1 (more 44 r ++ 41 :: rest) f (by omega) hst
    rw [hm, List.drop_succ_cons, List.drop_zero, List.append_assoc, pArgs, IH]
    simp only [List.drop_left]
    cases r with
    | nil =>
      simp only [more, List.nil_append, head_cons, List.append_nil]
      rw [if_pos (by decide)]
    | cons a b =>
      have e : more 44 (a :: b) = 44 :: (a.text ++ more 44 b) := by rw [more]
      have IH2 := args_back (a :: b) h.2 rest f q (by rw [hml] at hf; omega) (by simp at hq ⊢; omega) (by simp)
      have hd : (t.text ++ (more 44 (a :: b) ++ 41 :: rest)).drop (t.text.length + 1) = (more 44 (a :: b)).drop 1 ++ 41 :: rest := by
        rw [← List.drop_drop, List.drop_left, e]
        rfl
      rw [hd, IH2, e, List.cons_append, head_cons, head_cons, if_neg (by decide), if_pos (by decide)]
      simp
      omega
theorem list_back : ∀ (l : List Tm), rights l = true → l.length = 2 → ∀ (rest : List UInt8) (f : Nat), (more 124 l).length ≤ f → pList (pTerm f) ((more 124 l).drop 1 ++ 93 :: rest) = some (.node 3 0 ⟨#[]⟩ l, ((more 124 l).drop 1).length + 1)
  | [], _, h2, _, _, _ => by simp at h2
  | [_], _, h2, _, _, _ => by simp at h2
  | _ :: _ :: _ :: _, _, h2, _, _, _ => by simp at h2
  | [a, b], h, _, rest, f, hf => by
    simp only [rights, Bool.and_eq_true, Bool.and_true] at h
    have hm : more 124 [a, b] = 124 :: (a.text ++ 124 :: b.text) := by simp [more]
    have hml : (more 124 [a, b]).length = a.text.length + b.text.length + 2 := by rw [hm]; simp; omega
    have I1 := term_back a h.1 (124 :: (b.text ++ 93 :: rest)) f (by omega) rfl
    have I2 := term_back b h.2 (93 :: rest) f (by omega) rfl
    have hx : (more 124 [a, b]).drop 1 ++ 93 :: rest = a.text ++ 124 :: (b.text ++ 93 :: rest) := by rw [hm]; simp
    have hd : (a.text ++ 124 :: (b.text ++ 93 :: rest)).drop (a.text.length + 1) = b.text ++ 93 :: rest := by
      rw [← List.drop_drop, List.drop_left]
      rfl
    have hd2 : (a.text ++ 124 :: (b.text ++ 93 :: rest)).drop (a.text.length + 1 + b.text.length) = 93 :: rest := by
      rw [← List.drop_drop, hd, List.drop_left]
    rw [hx, pList, I1]
    simp only [List.drop_left, head_cons]
    rw [if_pos (by decide), hd, I2]
    simp only [hd2, head_cons]
    rw [if_pos (by decide)]
    have e : ((more 124 [a, b]).drop 1).length = a.text.length + 1 + b.text.length := by rw [hm]; simp; omega
    rw [e]
end

/-- Behind Text, Parse gives the term again. -/
theorem parse_back (t : Tm) (h : t.right = true) (hl : t.text.length ≤ 10000) : parseOf ⟨t.text.toArray⟩ = some t := by
  have hs : (⟨t.text.toArray⟩ : ByteArray).size = t.text.length := by simp [ByteArray.size]
  have hb := term_back t h [] (t.text.length + 1) (by omega) rfl
  rw [List.append_nil] at hb
  unfold parseOf
  rw [hs, if_neg (by omega)]
  have e : (⟨t.text.toArray⟩ : ByteArray).data.toList = t.text := rfl
  rw [e, hb]
  simp
end Go.Proofs.YtkfmagbaklikmaaDoor
