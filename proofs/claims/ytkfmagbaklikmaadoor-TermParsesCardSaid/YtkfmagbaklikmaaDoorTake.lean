/-
  The document's own reading of a term (resolventref03.take, Parse), as plain words, no program: it is what the program's Parse reads.
-/
import Derived.Test.YtkfmagbaklikmaaDoorSound
namespace Go.Proofs.YtkfmagbaklikmaaDoor
open Go Go.RowKit
set_option linter.unusedVariables false
set_option linter.unusedSimpArgs false

/-- The value of digits. -/
def numVal (ds : List UInt8) : Int := ds.foldl (fun n c => 10 * n + ((c.toNat : Int) - 48)) 0
theorem numVal_snoc (ds : List UInt8) (c : UInt8) : numVal (ds ++ [c]) = 10 * numVal ds + ((c.toNat : Int) - 48) := by simp [numVal]
/-- Behind X. -/
def rVar (l : List UInt8) : Option (Tm × Nat) :=
  if ((l.takeWhile digitB).take 4) = [] then none
  else if Lib.itoa (numVal ((l.takeWhile digitB).take 4)) = (l.takeWhile digitB).take 4 then some (.node 0 (numVal ((l.takeWhile digitB).take 4)) ⟨#[]⟩ [], 1 + ((l.takeWhile digitB).take 4).length)
  else none
/-- Behind '['. -/
def rList (p : List UInt8 → Option (Tm × Nat)) (l : List UInt8) : Option (Tm × Nat) :=
  match p l with
  | none => none
  | some (a, n) => if headIs (l.drop n) 124 = true then
      match p (l.drop (1 + n)) with
      | none => none
      | some (b, m) => if headIs (l.drop (1 + n + m)) 93 = true then some (.node 3 0 ⟨#[]⟩ [a, b], 3 + n + m) else none
    else none
/-- The terms of a name; first: none has been read yet. -/
def rArgs (p : List UInt8 → Option (Tm × Nat)) : Nat → Bool → List UInt8 → Option (List Tm × Nat)
  | 0, _, _ => none
  | q + 1, first, l =>
    if (headIs l 40 && first || headIs l 44) = true then
      match p (l.drop 1) with
      | none => none
      | some (t, n) => match rArgs p q false (l.drop (1 + n)) with
        | none => none
        | some (ts, m) => some (t :: ts, 1 + n + m)
    else if headIs l 41 = true then some ([], 1) else none
def rNamed (p : List UInt8 → Option (Tm × Nat)) (l : List UInt8) : Option (Tm × Nat) :=
  if (l.takeWhile nameB).length = 0 then none
  else if headIs (l.drop (l.takeWhile nameB).length) 40 = true then
    match rArgs p (l.length + 1) true (l.drop (l.takeWhile nameB).length) with
    | none => none
    | some (ts, m) => some (.node 2 0 ⟨(l.takeWhile nameB).toArray⟩ ts, (l.takeWhile nameB).length + m)
  else some (.node 1 0 ⟨(l.takeWhile nameB).toArray⟩ [], (l.takeWhile nameB).length)
def rTake : Nat → List UInt8 → Option (Tm × Nat)
  | 0, _ => none
  | f + 1, l =>
    if l = [] then none
    else if headIs l 88 = true then rVar (l.drop 1)
    else if headIs l 91 = true then rList (rTake f) (l.drop 1)
    else rNamed (rTake f) l

def RSound (p : List UInt8 → Option (Tm × Nat)) : Prop := ∀ l t n, p l = some (t, n) → 1 ≤ n ∧ n ≤ l.length ∧ t.text = l.take n

theorem rargs_sound {p : List UInt8 → Option (Tm × Nat)} (hp : RSound p) : ∀ (q : Nat) (first : Bool) (l : List UInt8) (ts : List Tm) (m : Nat), rArgs p q first l = some (ts, m) →
    1 ≤ m ∧ m ≤ l.length ∧ (first = false → l.take m = more 44 ts ++ [41]) ∧ (headIs l 40 = true → l.take m = 40 :: ((more 44 ts).drop 1 ++ [41])) := by
  intro q
  induction q with
  | zero => intro first l ts m h; simp [rArgs] at h
  | succ q ih =>
    intro first l ts m h
    rw [rArgs] at h
    split at h
    · rename_i hc
      split at h
      · cases h
      · rename_i t n hn
        obtain ⟨a1, a2, a3⟩ := hp _ _ _ hn
        rw [List.length_drop] at a2
        split at h
        · cases h
        · rename_i us k hk
          simp only [Option.some.injEq, Prod.mk.injEq] at h
          obtain ⟨rfl, rfl⟩ := h
          obtain ⟨b1, b2, b3, b4⟩ := ih _ _ _ _ hk
          rw [List.length_drop] at b2
          have hne : l ≠ [] := by
            rintro rfl
            simp at a2
            omega
          obtain ⟨c, r, rfl⟩ : ∃ c r, l = c :: r := by
            cases l with
            | nil => exact absurd rfl hne
            | cons c r => exact ⟨c, r, rfl⟩
          have e : (c :: r).take (1 + n + k) = c :: (t.text ++ (more 44 us ++ [41])) := by
            rw [← b3 rfl, a3, Nat.add_assoc, Nat.add_comm 1 (n + k), List.take_succ_cons, Nat.add_comm 1 n, List.drop_succ_cons, List.drop_succ_cons, List.drop_zero, List.take_add]
          refine ⟨by omega, by simp at a2 b2 ⊢; omega, ?_, ?_⟩
          · rintro rfl
            rw [Bool.and_false, Bool.false_or, head_cons, beq_iff_eq] at hc
            subst hc
            rw [e, more]
            simp
          · intro h40
            rw [head_cons, beq_iff_eq] at h40
            subst h40
            rw [e, more]
            simp
    · split at h
      · rename_i hc h41
        simp only [Option.some.injEq, Prod.mk.injEq] at h
        obtain ⟨rfl, rfl⟩ := h
        obtain ⟨d1, d2⟩ := head_take h41
        refine ⟨Nat.le_refl _, d1, fun _ => by rw [d2]; rfl, fun h40 => ?_⟩
        exfalso
        cases l with
        | nil => simp [headIs] at h41
        | cons c r =>
          rw [head_cons, beq_iff_eq] at h41 h40
          subst h41
          exact absurd h40 (by decide)
      · cases h

theorem take_sound : ∀ f, RSound (rTake f) := by
  intro f
  induction f with
  | zero => intro l t n h; simp [rTake] at h
  | succ f ih =>
    intro l t n h
    rw [rTake] at h
    split at h
    · cases h
    · split at h
      · rename_i h88
        obtain ⟨b1, b2⟩ := head_take h88
        unfold rVar at h
        split at h
        · cases h
        · rename_i hne
          split at h
          · rename_i he
            simp only [Option.some.injEq, Prod.mk.injEq] at h
            obtain ⟨rfl, rfl⟩ := h
            have h1 : ((l.drop 1).takeWhile digitB).take 4 = (l.drop 1).take (((l.drop 1).takeWhile digitB).take 4).length := by
              have := (List.take_prefix 4 ((l.drop 1).takeWhile digitB)).trans (List.takeWhile_prefix digitB)
              exact List.prefix_iff_eq_take.1 this
            have h2 : (((l.drop 1).takeWhile digitB).take 4).length ≤ (l.drop 1).length := ((List.take_prefix 4 ((l.drop 1).takeWhile digitB)).trans (List.takeWhile_prefix digitB)).length_le
            rw [List.length_drop] at h2
            refine ⟨by omega, by omega, ?_⟩
            rw [Tm.text, if_pos rfl, he, List.take_add, b2, ← h1]
            rfl
          · cases h
      · split at h
        · rename_i h91
          obtain ⟨b1, b2⟩ := head_take h91
          unfold rList at h
          split at h
          · cases h
          · rename_i a m hm
            obtain ⟨a1, a2, a3⟩ := ih _ _ _ hm
            split at h
            · rename_i h124
              obtain ⟨d1, d2⟩ := head_take_at h124 a2
              split at h
              · cases h
              · rename_i b m2 hm2
                obtain ⟨e1, e2, e3⟩ := ih _ _ _ hm2
                rw [List.length_drop] at e2
                split at h
                · rename_i h93
                  simp only [Option.some.injEq, Prod.mk.injEq] at h
                  obtain ⟨rfl, rfl⟩ := h
                  obtain ⟨g1, g2⟩ := head_take_at h93 (by omega)
                  have hld : (l.drop 1).length = l.length - 1 := List.length_drop
                  refine ⟨by omega, by omega, ?_⟩
                  rw [Tm.text, if_neg (by decide), if_neg (by decide), if_neg (by decide), if_pos rfl, show 3 + m + m2 = 1 + (1 + m + m2 + 1) by omega, List.take_add, b2, g2, Nat.add_comm 1 m, List.take_add (i := m + 1) (j := m2), d2, ← a3, Nat.add_comm m 1, ← e3]
                  simp [more]
                · cases h
            · cases h
        · unfold rNamed at h
          have hle := while_le nameB l
          have htk := while_take nameB l
          have hsz : (⟨(l.takeWhile nameB).toArray⟩ : ByteArray).data.toList = l.takeWhile nameB := rfl
          split at h
          · cases h
          · rename_i hpos
            split at h
            · rename_i h40
              split at h
              · cases h
              · rename_i ts m hm
                simp only [Option.some.injEq, Prod.mk.injEq] at h
                obtain ⟨rfl, rfl⟩ := h
                obtain ⟨c1, c2, _, c4⟩ := rargs_sound ih _ _ _ _ _ hm
                rw [List.length_drop] at c2
                refine ⟨by omega, by omega, ?_⟩
                rw [Tm.text, if_neg (by decide), if_neg (by decide), if_pos rfl, List.take_add, c4 h40, ← htk, hsz]
            · simp only [Option.some.injEq, Prod.mk.injEq] at h
              obtain ⟨rfl, rfl⟩ := h
              refine ⟨by omega, hle, ?_⟩
              rw [Tm.text, if_neg (by decide), if_pos rfl, hsz]
              exact htk

def valsOk : Bool := (List.range 1000).all fun n => decide (numVal (Lib.itoa (n : Int)) = (n : Int)) && (decide ((Lib.itoa (n : Int)).length ≤ 4) && decide (1 ≤ (Lib.itoa (n : Int)).length))
theorem vals_ok : valsOk = true := by kernel_rfl
theorem val_back (n : Int) (h0 : 0 ≤ n) (h1 : n ≤ 999) : numVal (Lib.itoa n) = n ∧ (Lib.itoa n).length ≤ 4 ∧ 1 ≤ (Lib.itoa n).length := by
  obtain ⟨k, rfl⟩ := Int.eq_ofNat_of_zero_le h0
  have h := List.all_eq_true.1 vals_ok k (by simp; omega)
  simp only [Bool.and_eq_true, decide_eq_true_eq] at h
  exact h
theorem rvar_back (n : Int) (h0 : 0 ≤ n) (h1 : n ≤ 999) (rest : List UInt8) (hr : stopB rest = true) : rVar (Lib.itoa n ++ rest) = some (.node 0 n ⟨#[]⟩ [], 1 + (Lib.itoa n).length) := by
  obtain ⟨q1, q2⟩ := num_back n h0 h1
  obtain ⟨v1, v2, v3⟩ := val_back n h0 h1
  unfold rVar
  rw [while_app _ _ _ q2 (stop_digit hr), List.take_of_length_le v2, v1, if_neg (by intro e; rw [e] at v3; simp at v3), if_pos rfl]

theorem more_len : ∀ l : List Tm, l.length ≤ (more 44 l).length
  | [] => by simp
  | t :: r => by
    have := more_len r
    simp [more]
    omega
mutual
theorem same_self : ∀ t : Tm, t.same t = true
  | .node k n s l => by simp [Tm.same, sames_self l]
theorem sames_self : ∀ l : List Tm, sames l l = true
  | [] => by simp [sames]
  | t :: r => by simp [sames, same_self t, sames_self r]
end
mutual
theorem take_back : ∀ (t : Tm), t.right = true → ∀ (rest : List UInt8) (f : Nat), t.text.length < f → stopB rest = true → rTake f (t.text ++ rest) = some (t, t.text.length)
  | .node k n s l, h, rest, f, hf, hr => by
    obtain ⟨f, rfl⟩ : ∃ f', f = f' + 1 := ⟨f - 1, by omega⟩
    rw [Tm.right, Bool.and_eq_true] at h
    obtain ⟨hl, hk⟩ := h
    by_cases e0 : k = 0
    · subst e0
      obtain ⟨⟨a, b⟩, c, d⟩ := (kind0 n s l.length).1 hk
      obtain rfl : l = [] := List.eq_nil_of_length_eq_zero d
      have hs : s = ⟨#[]⟩ := by
        apply ByteArray.ext
        exact Array.eq_empty_of_size_eq_zero c
      have ht : (Tm.node 0 n s []).text = 88 :: Lib.itoa n := by rw [Tm.text, if_pos rfl]
      rw [ht, List.cons_append, rTake, if_neg (by simp), head_cons, if_pos (by rfl), List.drop_succ_cons, List.drop_zero, rvar_back n a b rest hr, hs]
      simp [Nat.add_comm]
    · by_cases e1 : k = 1
      · subst e1
        obtain ⟨a, b, c⟩ := (kind1 n s l.length).1 hk
        obtain rfl : l = [] := List.eq_nil_of_length_eq_zero c
        subst a
        obtain ⟨q1, ch, r, q2, q3⟩ := name_all b
        have ht : (Tm.node 1 0 s []).text = s.data.toList := by rw [Tm.text, if_neg (by decide), if_pos rfl]
        have hpos : 1 ≤ s.data.toList.length := by rw [q2]; simp
        rw [ht, rTake, if_neg (by rw [q2]; simp)]
        have e88 : headIs (s.data.toList ++ rest) 88 = false := by rw [q2, List.cons_append, head_cons]; exact lower_ne q3 _ (by decide)
        have e91 : headIs (s.data.toList ++ rest) 91 = false := by rw [q2, List.cons_append, head_cons]; exact lower_ne q3 _ (by decide)
        rw [e88, e91, if_neg (by decide), if_neg (by decide)]
        unfold rNamed
        rw [while_app _ _ _ q1 (stop_name hr), List.drop_left, stop_40 hr, if_neg (by omega), if_neg (by decide)]
      · by_cases e2 : k = 2
        · subst e2
          obtain ⟨a, b, c, d⟩ := (kind2 n s l.length).1 hk
          subst a
          obtain ⟨q1, ch, r, q2, q3⟩ := name_all b
          have ht : (Tm.node 2 0 s l).text = s.data.toList ++ 40 :: ((more 44 l).drop 1 ++ [41]) := by rw [Tm.text, if_neg (by decide), if_neg (by decide), if_pos rfl]
          have hlen : (Tm.node 2 0 s l).text.length = s.data.toList.length + 1 + (((more 44 l).drop 1).length + 1) := by rw [ht]; simp; omega
          have hpos : 1 ≤ s.data.toList.length := by rw [q2]; simp
          have hlm : ((more 44 l).drop 1).length = (more 44 l).length - 1 := by simp
          have hx : (Tm.node 2 0 s l).text ++ rest = s.data.toList ++ 40 :: ((more 44 l).drop 1 ++ 41 :: rest) := by rw [ht]; simp
          rw [hx, rTake, if_neg (by simp)]
          have e88 : headIs (s.data.toList ++ 40 :: ((more 44 l).drop 1 ++ 41 :: rest)) 88 = false := by rw [q2, List.cons_append, head_cons]; exact lower_ne q3 _ (by decide)
          have e91 : headIs (s.data.toList ++ 40 :: ((more 44 l).drop 1 ++ 41 :: rest)) 91 = false := by rw [q2, List.cons_append, head_cons]; exact lower_ne q3 _ (by decide)
          rw [e88, e91, if_neg (by decide), if_neg (by decide)]
          unfold rNamed
          rw [while_app _ _ _ q1 (by rw [List.takeWhile_cons_of_neg (by decide)]), List.drop_left, head_cons]
          have hb : (⟨s.data.toList.toArray⟩ : ByteArray) = s := by simp
          have hml := more_len l
          have IH := takes_back l hl rest f ((s.data.toList ++ 40 :: ((more 44 l).drop 1 ++ 41 :: rest)).length) (by omega) (by simp; omega)
          have h1 : ∃ a r, l = a :: r := by
            cases l with
            | nil => simp at c
            | cons a r => exact ⟨a, r, rfl⟩
          obtain ⟨a, r', rfl⟩ := h1
          have IA := IH.2 a r' rfl
          rw [hb, if_neg (by omega), if_pos (by decide), IA]
          simp only [hlen]
          simp
          omega
        · by_cases e3 : k = 3
          · subst e3
            obtain ⟨a, b, c⟩ := (kind3 n s l.length).1 hk
            subst a
            have hs : s = ⟨#[]⟩ := by
              apply ByteArray.ext
              exact Array.eq_empty_of_size_eq_zero b
            subst hs
            have ht : (Tm.node 3 0 ⟨#[]⟩ l).text = 91 :: ((more 124 l).drop 1 ++ [93]) := by rw [Tm.text, if_neg (by decide), if_neg (by decide), if_neg (by decide), if_pos rfl]
            have hlen : (Tm.node 3 0 ⟨#[]⟩ l).text.length = 1 + (((more 124 l).drop 1).length + 1) := by rw [ht]; simp; omega
            have hlm : ((more 124 l).drop 1).length = (more 124 l).length - 1 := by simp
            have IH := taked_back l hl c rest f (by omega)
            have hx : (Tm.node 3 0 ⟨#[]⟩ l).text ++ rest = 91 :: ((more 124 l).drop 1 ++ 93 :: rest) := by rw [ht]; simp
            rw [hx, rTake, if_neg (by simp), head_cons, head_cons, if_neg (by decide), if_pos (by decide), List.drop_succ_cons, List.drop_zero, IH, hlen]
            simp
            omega
          · exfalso
            simp [kindOk, e0, e1, e2, e3] at hk
theorem takes_back : ∀ (l : List Tm), rights l = true → ∀ (rest : List UInt8) (f q : Nat), (more 44 l).length ≤ f → l.length ≤ q →
    rArgs (rTake f) (q + 1) false (more 44 l ++ 41 :: rest) = some (l, (more 44 l).length + 1) ∧ ∀ a r, l = a :: r → rArgs (rTake f) (q + 1) true (40 :: ((more 44 l).drop 1 ++ 41 :: rest)) = some (l, (more 44 l).length + 1)
  | [], h, rest, f, q, hf, hq => by
    refine ⟨?_, fun a r e => by cases e⟩
    rw [more, List.nil_append, rArgs, head_cons, head_cons, head_cons, if_neg (by decide), if_pos (by decide)]
    rfl
  | t :: r, h, rest, f, q, hf, hq => by
    rw [rights, Bool.and_eq_true] at h
    obtain ⟨q, rfl⟩ : ∃ q', q = q' + 1 := ⟨q - 1, by simp at hq; omega⟩
    have hm : more 44 (t :: r) = 44 :: (t.text ++ more 44 r) := by rw [more]
    have hml : (more 44 (t :: r)).length = t.text.length + (more 44 r).length + 1 := by rw [hm]; simp
    have hst : stopB (more 44 r ++ 41 :: rest) = true := by
      cases r with
      | nil => rfl
      | cons a b => rw [more]; rfl
    have IH := take_back t h.1 (more 44 r ++ 41 :: rest) f (by omega) hst
    have I2 := (takes_back r h.2 rest f q (by omega) (by simp at hq; omega)).1
    have go : ∀ (b : Bool) (c : UInt8), (headIs (c :: (t.text ++ (more 44 r ++ 41 :: rest))) 40 && b || headIs (c :: (t.text ++ (more 44 r ++ 41 :: rest))) 44) = true → rArgs (rTake f) (q + 1 + 1) b (c :: (t.text ++ (more 44 r ++ 41 :: rest))) = some (t :: r, (more 44 (t :: r)).length + 1) := by
      intro b c hc
      rw [rArgs, if_pos hc, List.drop_succ_cons, List.drop_zero, IH]
      simp only []
      have hd : (c :: (t.text ++ (more 44 r ++ 41 :: rest))).drop (1 + t.text.length) = more 44 r ++ 41 :: rest := by
        rw [Nat.add_comm, List.drop_succ_cons, List.drop_left]
      rw [hd, I2, hml]
      simp
      omega
    refine ⟨?_, fun a r' e => ?_⟩
    · rw [hm, List.cons_append, List.append_assoc]
      have := go false 44 (by rw [head_cons, head_cons]; decide)
      rw [hm] at this
      exact this
    · rw [hm, List.drop_succ_cons, List.drop_zero, List.append_assoc]
      have := go true 40 (by rw [head_cons, head_cons]; decide)
      rw [hm] at this
      exact this
theorem taked_back : ∀ (l : List Tm), rights l = true → l.length = 2 → ∀ (rest : List UInt8) (f : Nat), (more 124 l).length ≤ f → rList (rTake f) ((more 124 l).drop 1 ++ 93 :: rest) = some (.node 3 0 ⟨#[]⟩ l, ((more 124 l).drop 1).length + 2)
  | [], _, h2, _, _, _ => by simp at h2
  | [_], _, h2, _, _, _ => by simp at h2
  | _ :: _ :: _ :: _, _, h2, _, _, _ => by simp at h2
  | [a, b], h, _, rest, f, hf => by
    simp only [rights, Bool.and_eq_true, Bool.and_true] at h
    have hm : more 124 [a, b] = 124 :: (a.text ++ 124 :: b.text) := by simp [more]
    have hml : (more 124 [a, b]).length = a.text.length + b.text.length + 2 := by rw [hm]; simp; omega
    have I1 := take_back a h.1 (124 :: (b.text ++ 93 :: rest)) f (by omega) rfl
    have I2 := take_back b h.2 (93 :: rest) f (by omega) rfl
    have hx : (more 124 [a, b]).drop 1 ++ 93 :: rest = a.text ++ 124 :: (b.text ++ 93 :: rest) := by rw [hm]; simp
    have hd : (a.text ++ 124 :: (b.text ++ 93 :: rest)).drop (1 + a.text.length) = b.text ++ 93 :: rest := by
      rw [Nat.add_comm, ← List.drop_drop, List.drop_left]
      rfl
    have hd2 : (a.text ++ 124 :: (b.text ++ 93 :: rest)).drop (1 + a.text.length + b.text.length) = 93 :: rest := by
      rw [← List.drop_drop, hd, List.drop_left]
    rw [hx, rList, I1]
    simp only [List.drop_left, head_cons]
    rw [if_pos (by decide), hd, I2]
    simp only [hd2, head_cons]
    rw [if_pos (by decide)]
    have e : ((more 124 [a, b]).drop 1).length = a.text.length + 1 + b.text.length := by rw [hm]; simp; omega
    rw [e]
    simp
    omega
end

/-- What the document's Parse reads. -/
def rParse (s : ByteArray) : Option Tm :=
  if 10000 < s.size then none else
    match rTake (s.size + 1) s.data.toList with
    | some (t, n) => if n = s.size ∧ t.right = true then some t else none
    | none => none
theorem rparse_eq (s : ByteArray) : rParse s = parseOf s := by
  unfold rParse
  by_cases h10 : 10000 < s.size
  · rw [if_pos h10]
    unfold parseOf
    rw [if_pos h10]
  · rw [if_neg h10]
    have hlen : s.data.toList.length = s.size := by simp
    cases hp : parseOf s with
    | some t =>
      obtain ⟨h1, h2⟩ := parse_sound hp
      have hb := take_back t h1 [] (s.size + 1) (by rw [h2, hlen]; omega) rfl
      rw [List.append_nil, h2, hlen] at hb
      rw [hb]
      simp [h1]
    | none =>
      split
      · rename_i t n hm
        split
        · rename_i hc
          exfalso
          obtain ⟨a1, a2, a3⟩ := take_sound _ _ _ _ hm
          have ht : t.text = s.data.toList := by
            rw [a3, hc.1]
            exact List.take_of_length_le (by simp)
          have := parse_back t hc.2 (by rw [ht, hlen]; omega)
          rw [ht] at this
          have e : (⟨s.data.toList.toArray⟩ : ByteArray) = s := by simp
          rw [e, hp] at this
          cases this
        · rfl
      · rfl

mutual
theorem same_eq : ∀ a b : Tm, a.same b = true → a = b
  | .node k n s l, .node k' n' s' l', h => by
    simp only [Tm.same, Bool.and_eq_true, decide_eq_true_eq] at h
    obtain ⟨⟨⟨rfl, rfl⟩, rfl⟩, h⟩ := h
    rw [sames_eq l l' h]
theorem sames_eq : ∀ a b : List Tm, sames a b = true → a = b
  | [], [], _ => rfl
  | [], _ :: _, h => by simp [sames] at h
  | _ :: _, [], h => by simp [sames] at h
  | a :: r, b :: r', h => by
    simp only [sames, Bool.and_eq_true] at h
    rw [same_eq a b h.1, sames_eq r r' h.2]
end
/-- Texts of terms that may be are the same just if the terms are. -/
theorem text_same (a b : Tm) (ha : a.right = true) (hb : b.right = true) (la : a.text.length ≤ 10000) (lb : b.text.length ≤ 10000) : decide (a.text = b.text) = a.same b := by
  by_cases h : a.same b = true
  · rw [h, same_eq a b h]
    simp
  · rw [Bool.not_eq_true] at h
    rw [h, decide_eq_false_iff_not]
    intro e
    have h1 := parse_back a ha la
    have h2 := parse_back b hb lb
    rw [e, h2] at h1
    obtain rfl := Option.some.inj h1
    have : ∀ t : Tm, t.same t = true := same_self
    rw [this] at h
    cases h
end Go.Proofs.YtkfmagbaklikmaaDoor
