/-
  Plain words for layer 11: code that can be trusted can't be without its last instruction, nor with one more. No condition beyond those named.
-/
import Derived.Test.YtlmbiafloiompaaGreatDoorJV18
namespace Go.Proofs.YtlmbiafloiompaaGreatDoor
open Go
set_option linter.unusedVariables false
set_option linter.unusedSimpArgs false

/-! What comes to a place. -/
theorem bringV_here {P : List VPl} {t : Int} {s : VSt} {j : Nat} {p : VPl} (h : (bringV P t s)[j]? = some p) (hp : p.here = true) : t.toNat = j ∨ ∃ q, P[j]? = some q ∧ q.here = true := by
  rw [bring_at] at h
  by_cases e : t.toNat = j
  · exact .inl e
  · rw [if_neg e] at h
    exact .inr ⟨p, h, hp⟩
theorem brings_here (f : Int → VSt) : ∀ (l : List Int) (P : List VPl) (j : Nat) (p : VPl), (l.foldl (fun R t => bringV R t (f t)) P)[j]? = some p → p.here = true → (∃ t ∈ l, t.toNat = j) ∨ ∃ q, P[j]? = some q ∧ q.here = true
  | [], P, j, p, h, hp => .inr ⟨p, h, hp⟩
  | t :: l, P, j, p, h, hp => by
    rw [List.foldl_cons] at h
    rcases brings_here f l _ j p h hp with ⟨u, hu, e⟩ | ⟨q, hq, hqh⟩
    · exact .inl ⟨u, List.mem_cons_of_mem _ hu, e⟩
    · rcases bringV_here hq hqh with e | h2
      · exact .inl ⟨t, List.mem_cons_self, e⟩
      · exact .inr h2
/-- Where an instruction goes. -/
def GoesV (o : Ob) (m j : Nat) : Prop := (onV (o.code.getD m (0, 0, 0, 0, 0)).1 = true ∧ j = m + 1) ∨ ∃ t ∈ labsV (o.code.getD m (0, 0, 0, 0, 0)), t.toNat = j
theorem pass_here {o : Ob} {ar stop : Int} {n : Nat} {P Q : List VPl} (h : passV o ar stop n P = some Q) : leadsV stop n (o.code.getD n (0, 0, 0, 0, 0)) = true ∧ (P.getD n plZero).here = true ∧ ∀ j p, Q[j]? = some p → p.here = true → GoesV o n j ∨ ∃ q, P[j]? = some q ∧ q.here = true := by
  unfold passV at h
  simp only at h
  split at h
  · cases h
  · rename_i hc
    have h1 : leadsV stop n (o.code.getD n (0, 0, 0, 0, 0)) = true := by
      cases hx : leadsV stop n (o.code.getD n (0, 0, 0, 0, 0)) with
      | true => rfl
      | false => exact absurd (.inr (.inr (.inr hx))) hc
    have h2 : (P.getD n plZero).here = true := by
      cases hx : (P.getD n plZero).here with
      | true => rfl
      | false => exact absurd (.inr (.inl hx)) hc
    injection h with h
    refine ⟨h1, h2, fun j p hj hp => ?_⟩
    rw [← h] at hj
    rcases brings_here _ _ _ j p hj hp with ⟨t, ht, e⟩ | ⟨q, hq, hqh⟩
    · exact .inl (.inr ⟨t, ht, e⟩)
    · split at hq
      · rename_i ho
        rcases bringV_here hq hqh with e | h3
        · exact .inl (.inl ⟨ho, by omega⟩)
        · exact .inr h3
      · exact .inr ⟨q, hq, hqh⟩
theorem walk_ok {o : Ob} : ∀ (f n : Nat) (P : List VPl) (l l' : List VSt), walkV o f n P l = .ok l' → (∀ j p, P[j]? = some p → p.here = true → (∃ q ∈ o.preds, q.2.2.toNat = j) ∨ ∃ m, m < n ∧ GoesV o m j) →
    ∀ m, n ≤ m → m < n + f → leadsV (stopV o m) m (o.code.getD m (0, 0, 0, 0, 0)) = true ∧ ((∃ q ∈ o.preds, q.2.2.toNat = m) ∨ ∃ k, k < m ∧ GoesV o k m)
  | 0, n, P, l, l', _, _, m, h1, h2 => by omega
  | f + 1, n, P, l, l', h, hi, m, h1, h2 => by
    rw [walkV] at h
    cases hp : passV o (arityP o (ownV o n)) (stopV o n) n P with
    | none => rw [hp] at h; cases h
    | some Q =>
      rw [hp] at h
      obtain ⟨g1, g2, g3⟩ := pass_here hp
      by_cases e : m = n
      · subst e
        refine ⟨g1, ?_⟩
        rw [List.getD_eq_getElem?_getD] at g2
        cases hx : P[m]? with
        | none => rw [hx] at g2; simp [plZero] at g2
        | some p =>
          rw [hx] at g2
          exact hi m p hx g2
      · exact walk_ok f (n + 1) Q _ l' h (fun j p hj hjh => by
          rcases g3 j p hj hjh with x | ⟨q, hq, hqh⟩
          · exact .inr ⟨n, by omega, x⟩
          · rcases hi j q hq hqh with y | ⟨k, hk, y⟩
            · exact .inl y
            · exact .inr ⟨k, by omega, y⟩) m (by omega) (by omega)
theorem start_here {o : Ob} {j : Nat} {p : VPl} (h : (startV o)[j]? = some p) (hp : p.here = true) : ∃ q ∈ o.preds, q.2.2.toNat = j := by
  by_cases hx : ∃ q ∈ o.preds, q.2.2.toNat = j
  · exact hx
  · unfold startV at h
    rw [start_far o.preds _ j (fun q hq e => hx ⟨q, hq, e⟩)] at h
    rw [List.getElem?_replicate] at h
    split at h
    · injection h with h
      rw [← h] at hp
      cases hp
    · cases h
theorem stopV_le (o : Ob) (n : Int) : stopV o n ≤ (o.code.length : Int) := (min_spec 0 _ _).2.1

/-- Without its last instruction. -/
theorem less_bad {o : Ob} {l : List VSt} (h0 : 0 < o.code.length) (hw : walkV o o.code.length 0 (startV o) [] = .ok l) (hent : ∀ q ∈ o.preds, 0 ≤ q.2.2 ∧ q.2.2 < (o.code.length : Int)) {l2 : List VSt}
    (hc : ∀ q ∈ o.preds, q.2.2 < ((o.code.length - 1 : Nat) : Int)) (hw2 : walkV { o with code := o.code.take (o.code.length - 1) } (o.code.length - 1) 0 (startV { o with code := o.code.take (o.code.length - 1) }) [] = .ok l2) : False := by
  obtain ⟨_, h2⟩ := walk_ok _ 0 _ _ _ hw (fun j p hj hp => .inl (start_here hj hp)) (o.code.length - 1) (Nat.zero_le _) (by omega)
  have hlen : (o.code.take (o.code.length - 1)).length = o.code.length - 1 := by rw [List.length_take]; omega
  rcases h2 with ⟨q, hq, e⟩ | ⟨k, hk, hg⟩
  · have := hc q hq
    have := (hent q hq).1
    omega
  · obtain ⟨h3, _⟩ := walk_ok (o := { o with code := o.code.take (o.code.length - 1) }) _ 0 _ _ _ hw2 (fun j p hj hp => .inl (start_here hj hp)) k (Nat.zero_le _) (by omega)
    have hs := stopV_le { o with code := o.code.take (o.code.length - 1) } (k : Int)
    simp only [hlen] at hs
    have hi : (o.code.take (o.code.length - 1)).getD k (0, 0, 0, 0, 0) = o.code.getD k (0, 0, 0, 0, 0) := by
      rw [List.getD_eq_getElem?_getD, List.getD_eq_getElem?_getD, List.getElem?_take_of_lt hk]
    simp only at h3
    rw [hi] at h3
    unfold leadsV at h3
    rw [Bool.and_eq_true] at h3
    rcases hg with ⟨ho, e⟩ | ⟨t, ht, e⟩
    · have h4 := h3.1
      rw [ho] at h4
      have h5 : (k : Int) + 1 < stopV { o with code := o.code.take (o.code.length - 1) } (k : Int) := by simpa using h4
      omega
    · have h4 := List.all_eq_true.1 h3.2 t ht
      have h5 : (k : Int) < t ∧ t < stopV { o with code := o.code.take (o.code.length - 1) } (k : Int) := by simpa using h4
      omega

/-! With one more. -/
theorem min_shift : ∀ (l : List (ByteArray × Int × Int)) (a b : Int), a ≤ b → l.foldl (fun m p => min m p.2.2) a ≤ l.foldl (fun m p => min m p.2.2) b
  | [], a, b, h => h
  | p :: l, a, b, h => by
    rw [List.foldl_cons, List.foldl_cons]
    exact min_shift l _ _ (by omega)
theorem pass_more {o o2 : Ob} {ar stop stop2 : Int} {n N : Nat} {P P2 Q : List VPl} (hf : o2.funs = o.funs) (hp : o2.preds = o.preds) (hi : o2.code.getD n (0, 0, 0, 0, 0) = o.code.getD n (0, 0, 0, 0, 0)) (hst : stop ≤ stop2) (hsN : stop ≤ (N : Int)) (hn : n < N)
    (hlow : ∀ j, j < N → P2[j]? = P[j]?) (hend : P2[N]? = some plZero) (h : passV o ar stop n P = some Q) :
    ∃ Q2, passV o2 ar stop2 n P2 = some Q2 ∧ (∀ j, j < N → Q2[j]? = Q[j]?) ∧ Q2[N]? = some plZero := by
  have hg : P2.getD n plZero = P.getD n plZero := by rw [List.getD_eq_getElem?_getD, List.getD_eq_getElem?_getD, hlow n hn]
  have hl := (pass_here h).1
  unfold passV at h ⊢
  simp only at h ⊢
  rw [hg, hi]
  generalize o.code.getD n (0, 0, 0, 0, 0) = i at h hl
  generalize P.getD n plZero = p at h
  have ha : asksV o2 ar i p.s = asksV o ar i p.s := by unfold asksV arityP; rw [hp]
  have hm : makesV o2 i p.s = makesV o i p.s := by unfold makesV arityF; rw [hf]
  have hl2 : leadsV stop2 n i = true := by
    unfold leadsV at hl ⊢
    rw [Bool.and_eq_true] at hl ⊢
    refine ⟨?_, List.all_eq_true.2 fun t ht => ?_⟩
    · have h1 := hl.1
      cases ho : onV i.1 with
      | false => rfl
      | true =>
        rw [ho] at h1
        have h2 : (n : Int) + 1 < stop := by simpa using h1
        simp
        omega
    · have h1 : (n : Int) < t ∧ t < stop := by simpa using List.all_eq_true.1 hl.2 t ht
      simp
      omega
  rw [ha, hm, hl2]
  rw [hl] at h
  by_cases hc : p.bad = true ∨ p.here = false ∨ asksV o ar i p.s = false
  · exfalso
    rw [if_pos (by rcases hc with x | x | x <;> simp [x])] at h
    cases h
  · rw [if_neg (by simpa using hc)] at h
    rw [if_neg (by simpa using hc)]
    injection h with h
    refine ⟨_, rfl, ?_⟩
    have hlab : ∀ t ∈ labsV i, (n : Int) < t ∧ t < stop := fun t ht => by
      unfold leadsV at hl
      rw [Bool.and_eq_true] at hl
      simpa using List.all_eq_true.1 hl.2 t ht
    have hon : onV i.1 = true → (n : Int) + 1 < stop := fun ho => by
      unfold leadsV at hl
      rw [Bool.and_eq_true, ho] at hl
      simpa using hl.1
    have one : ∀ (t : Int) (s : VSt) (R R2 : List VPl), (n : Int) < t → t < stop → ((∀ j, j < N → R2[j]? = R[j]?) ∧ R2[N]? = some plZero) → ((∀ j, j < N → (bringV R2 t s)[j]? = (bringV R t s)[j]?) ∧ (bringV R2 t s)[N]? = some plZero) := by
      intro t s R R2 h1 h2 ⟨h3, h4⟩
      refine ⟨fun j hj => ?_, ?_⟩
      · rw [bring_at, bring_at, h3 j hj]
      · rw [bring_at, if_neg (by omega), h4]
    have all : ∀ (l : List Int) (R R2 : List VPl), (∀ t ∈ l, (n : Int) < t ∧ t < stop) → ((∀ j, j < N → R2[j]? = R[j]?) ∧ R2[N]? = some plZero) → ((∀ j, j < N → (l.foldl (fun Q t => bringV Q t (if i.1 = 26 then makesV o i p.s else stOther ar.toNat)) R2)[j]? = (l.foldl (fun Q t => bringV Q t (if i.1 = 26 then makesV o i p.s else stOther ar.toNat)) R)[j]?) ∧ (l.foldl (fun Q t => bringV Q t (if i.1 = 26 then makesV o i p.s else stOther ar.toNat)) R2)[N]? = some plZero) := by
      intro l
      induction l with
      | nil => intro R R2 _ h1; exact h1
      | cons t l ih =>
        intro R R2 h1 h2
        rw [List.foldl_cons, List.foldl_cons]
        exact ih _ _ (fun u hu => h1 u (List.mem_cons_of_mem _ hu)) (one t _ R R2 (h1 t List.mem_cons_self).1 (h1 t List.mem_cons_self).2 h2)
    rw [← h]
    refine all (labsV i) _ _ hlab ?_
    by_cases ho : onV i.1 = true
    · rw [if_pos ho, if_pos ho]
      exact one _ _ P P2 (by omega) (hon ho) ⟨hlow, hend⟩
    · rw [if_neg ho, if_neg ho]
      exact ⟨hlow, hend⟩
theorem walk_more {o o2 : Ob} (x : Ins) (hf : o2.funs = o.funs) (hp : o2.preds = o.preds) (hc : o2.code = o.code ++ [x]) :
    ∀ (f n : Nat) (P P2 : List VPl) (l l2 l' : List VSt), n + f = o.code.length → walkV o f n P l = .ok l' → (∀ j, j < o.code.length → P2[j]? = P[j]?) → P2[o.code.length]? = some plZero → walkV o2 (f + 1) n P2 l2 = .error o.code.length
  | 0, n, P, P2, l, l2, l', hn, h, hlow, hend => by
    have hnn : n = o.code.length := by omega
    subst hnn
    rw [walkV]
    have hno : ∀ ar stop, passV o2 ar stop o.code.length P2 = none := by
      intro ar stop
      unfold passV
      simp only
      rw [List.getD_eq_getElem?_getD, hend, Option.getD_some, if_pos (.inr (.inl rfl))]
    rw [hno]
  | f + 1, n, P, P2, l, l2, l', hn, h, hlow, hend => by
    rw [walkV] at h ⊢
    have how : ownV o2 n = ownV o n := by unfold ownV ownStep entP; rw [hp]
    have har : arityP o2 (ownV o2 n) = arityP o (ownV o n) := by rw [how]; unfold arityP; rw [hp]
    have hst : stopV o n ≤ stopV o2 n := by
      unfold stopV
      rw [hp]
      exact min_shift _ _ _ (by rw [hc, List.length_append]; simp; omega)
    cases hq : passV o (arityP o (ownV o n)) (stopV o n) n P with
    | none => rw [hq] at h; cases h
    | some Q =>
      rw [hq] at h
      obtain ⟨Q2, h1, h2, h3⟩ := pass_more (N := o.code.length) hf hp (by rw [hc, List.getD_eq_getElem?_getD, List.getD_eq_getElem?_getD, List.getElem?_append_left (by omega)]) hst (stopV_le o n) (by omega) hlow hend hq
      rw [har, h1]
      exact walk_more x hf hp hc f (n + 1) Q Q2 _ _ l' (by omega) h h2 h3
theorem start_same : ∀ (L : List (ByteArray × Int × Int)) (P P2 : List VPl) (j : Nat), j < P.length → j < P2.length → P2[j]? = P[j]? → (L.foldl (fun P p => P.set p.2.2.toNat ⟨true, false, stEntry p.2.1.toNat⟩) P2)[j]? = (L.foldl (fun P p => P.set p.2.2.toNat ⟨true, false, stEntry p.2.1.toNat⟩) P)[j]?
  | [], P, P2, j, _, _, h => h
  | p :: L, P, P2, j, h1, h2, h => by
    rw [List.foldl_cons, List.foldl_cons]
    refine start_same L _ _ j (by simpa using h1) (by simpa using h2) ?_
    by_cases e : p.2.2.toNat = j
    · subst e
      rw [List.getElem?_set_self h2, List.getElem?_set_self h1]
    · rw [List.getElem?_set_ne e, List.getElem?_set_ne e, h]
theorem more_bad {o : Ob} {l : List VSt} (x : Ins) (hent : ∀ q ∈ o.preds, 0 ≤ q.2.2 ∧ q.2.2 < (o.code.length : Int)) (hw : walkV o o.code.length 0 (startV o) [] = .ok l) :
    walkV { o with code := o.code ++ [x] } (o.code.length + 1) 0 (startV { o with code := o.code ++ [x] }) [] = .error o.code.length := by
  refine walk_more (o := o) (o2 := { o with code := o.code ++ [x] }) x rfl rfl rfl o.code.length 0 (startV o) _ [] [] l (by omega) hw (fun j hj => ?_) ?_
  · unfold startV
    refine start_same o.preds _ _ j (by simpa using hj) (by simp; omega) ?_
    rw [List.getElem?_replicate, List.getElem?_replicate, if_pos (by simp; omega), if_pos hj]
  · unfold startV
    rw [start_far o.preds _ _ (fun q hq => by have := hent q hq; omega)]
    simp

end Go.Proofs.YtlmbiafloiompaaGreatDoor
