/-
  Plain words for layer 11: the program's way through code, one predicate behind the other, is the document's. No condition.
-/
import Derived.Test.YtlmbiafloiompaaGreatDoorJV17
namespace Go.Proofs.YtlmbiafloiompaaGreatDoor
open Go
set_option linter.unusedVariables false
set_option linter.unusedSimpArgs false

/-- The program: from place n up to the end of one predicate's code. -/
def runS (o : Ob) (ar stop : Int) : Nat → Nat → List VPl → Except Nat (List VPl)
  | 0, _, P => .ok P
  | f + 1, n, P =>
    match passV o ar stop n P with
    | none => .error n
    | some Q => runS o ar stop f (n + 1) Q
/-- The program: predicates in order; where it stands, and the places. -/
def faultP (o : Ob) : List (ByteArray × Int × Int) → Nat → List VPl → Except Nat (Nat × List VPl)
  | [], n, P => .ok (n, P)
  | p :: L, n, P =>
    if (n : Int) < p.2.2 then .error n
    else match runS o p.2.1 (nextEnt o.code.length L) (nextEnt o.code.length L - n).toNat n (bringV P p.2.2 (stEntry p.2.1.toNat)) with
      | .error m => .error m
      | .ok Q => faultP o L (nextEnt o.code.length L).toNat Q

theorem bring_at (P : List VPl) (t : Int) (s : VSt) (j : Nat) : (bringV P t s)[j]? = if t.toNat = j then (P[j]?).map (fun p => comeV p s) else P[j]? := by
  unfold bringV
  rw [List.getElem?_modify]
  split
  · rfl
  · cases P[j]? <;> rfl
theorem bring_len (P : List VPl) (t : Int) (s : VSt) : (bringV P t s).length = P.length := by unfold bringV; simp
/-- What a step leaves of the places: alike below the end, as they were from the end on, and up to where it was. -/
structure StepV (stop : Int) (n : Nat) (P Q P' Q' : List VPl) : Prop where
  low : ∀ j : Nat, (j : Int) < stop → Q'[j]? = P'[j]?
  highP : ∀ j : Nat, stop ≤ (j : Int) → P'[j]? = P[j]?
  highQ : ∀ j : Nat, stop ≤ (j : Int) → Q'[j]? = Q[j]?
  old : ∀ j : Nat, j ≤ n → P'[j]? = P[j]?
  lenP : P'.length = P.length
  lenQ : Q'.length = Q.length
theorem StepV.bring {stop : Int} {n : Nat} {P Q P' Q' : List VPl} (h : StepV stop n P Q P' Q') {t : Int} (h0 : (n : Int) < t) (h1 : t < stop) (s : VSt) : StepV stop n P Q (bringV P' t s) (bringV Q' t s) := by
  refine ⟨fun j hj => ?_, fun j hj => ?_, fun j hj => ?_, fun j hj => ?_, by rw [bring_len, h.lenP], by rw [bring_len, h.lenQ]⟩
  · rw [bring_at, bring_at, h.low j hj]
  · rw [bring_at, if_neg (by omega), h.highP j hj]
  · rw [bring_at, if_neg (by omega), h.highQ j hj]
  · rw [bring_at, if_neg (by omega), h.old j hj]
theorem StepV.brings {stop : Int} {n : Nat} {P Q : List VPl} (f : Int → VSt) : ∀ (l : List Int) (P' Q' : List VPl), StepV stop n P Q P' Q' → (∀ t ∈ l, (n : Int) < t ∧ t < stop) → StepV stop n P Q (l.foldl (fun R t => bringV R t (f t)) P') (l.foldl (fun R t => bringV R t (f t)) Q')
  | [], _, _, h, _ => h
  | t :: l, P', Q', h, ht => by
    rw [List.foldl_cons, List.foldl_cons]
    have h1 := ht t List.mem_cons_self
    exact StepV.brings f l _ _ (h.bring h1.1 h1.2 (f t)) (fun u hu => ht u (List.mem_cons_of_mem _ hu))
/-- One instruction, in places that are alike below the end. -/
theorem pass_sim {o : Ob} {ar stop : Int} {n : Nat} {P Q : List VPl} (hn : (n : Int) < stop) (h : ∀ j : Nat, (j : Int) < stop → Q[j]? = P[j]?) :
    (passV o ar stop n P = none ∧ passV o ar stop n Q = none) ∨ ∃ P' Q', passV o ar stop n P = some P' ∧ passV o ar stop n Q = some Q' ∧ StepV stop n P Q P' Q' := by
  have hp : Q.getD n plZero = P.getD n plZero := by rw [List.getD_eq_getElem?_getD, List.getD_eq_getElem?_getD, h n hn]
  unfold passV
  simp only
  rw [hp]
  generalize P.getD n plZero = p
  generalize o.code.getD n (0, 0, 0, 0, 0) = i
  by_cases hc : p.bad = true ∨ p.here = false ∨ asksV o ar i p.s = false ∨ leadsV stop n i = false
  · left
    rw [if_pos hc, if_pos hc]
    exact ⟨rfl, rfl⟩
  · right
    rw [if_neg hc, if_neg hc]
    have hl : leadsV stop n i = true := by
      cases hx : leadsV stop n i with
      | true => rfl
      | false => exact absurd (.inr (.inr (.inr hx))) hc
    unfold leadsV at hl
    rw [Bool.and_eq_true] at hl
    have h0 : StepV stop n P Q P Q := ⟨h, fun _ _ => rfl, fun _ _ => rfl, fun _ _ => rfl, rfl, rfl⟩
    have hlab : ∀ t ∈ labsV i, (n : Int) < t ∧ t < stop := fun t ht => by
      have := List.all_eq_true.1 hl.2 t ht
      simpa using this
    refine ⟨_, _, rfl, rfl, ?_⟩
    refine StepV.brings (fun _ => if i.1 = 26 then makesV o i p.s else stOther ar.toNat) (labsV i) _ _ ?_ hlab
    by_cases ho : onV i.1 = true
    · rw [if_pos ho, if_pos ho]
      have h1 := hl.1
      rw [ho] at h1
      have h2 : (n : Int) + 1 < stop := by simpa using h1
      exact h0.bring (by omega) h2 _
    · rw [if_neg ho, if_neg ho]
      exact h0
/-- What is known of the places at n: those of the document are the program's, but for the Entries that come yet; from the end of this predicate's code on the program's are bare. -/
structure RelV (o : Ob) (L : List (ByteArray × Int × Int)) (stop : Int) (n : Nat) (P Q : List VPl) (l : List VSt) : Prop where
  lenP : P.length = o.code.length
  lenQ : Q.length = o.code.length
  low : ∀ j : Nat, (j : Int) < stop → Q[j]? = P[j]?
  bare : ∀ j : Nat, stop ≤ (j : Int) → j < o.code.length → P[j]? = some plZero
  ents : ∀ p ∈ L, Q[p.2.2.toNat]? = some ⟨true, false, stEntry p.2.1.toNat⟩
  rest : ∀ j : Nat, stop ≤ (j : Int) → j < o.code.length → (∀ p ∈ L, p.2.2.toNat ≠ j) → Q[j]? = some plZero
  len : l.length = n
  told : ∀ j : Nat, j < n → l[j]? = (P[j]?).map (·.s)
theorem run_sim {o : Ob} {ar stop : Int} {L : List (ByteArray × Int × Int)} (hL : ∀ p ∈ L, stop ≤ p.2.2) (hst : stop ≤ (o.code.length : Int)) (hown : ∀ n : Nat, (n : Int) < stop → True) :
    ∀ (f n : Nat) (P Q : List VPl) (l : List VSt), (n : Int) + f = stop → (∀ m : Nat, n ≤ m → (m : Int) < stop → arityP o (ownV o m) = ar ∧ stopV o m = stop) → RelV o L stop n P Q l →
      match runS o ar stop f n P with
      | .error m => walkV o (o.code.length - n) n Q l = .error m
      | .ok P' => ∃ Q' l', walkV o (o.code.length - n) n Q l = walkV o (o.code.length - (n + f)) (n + f) Q' l' ∧ RelV o L stop (n + f) P' Q' l'
  | 0, n, P, Q, l, hf, hs, h => ⟨Q, l, rfl, h⟩
  | f + 1, n, P, Q, l, hf, hs, h => by
    have hn : (n : Int) < stop := by omega
    have hnl : n < o.code.length := by omega
    obtain ⟨e1, e2⟩ := hs n (Nat.le_refl _) hn
    have hw : o.code.length - n = (o.code.length - (n + 1)) + 1 := by omega
    rw [runS, hw, walkV, e1, e2]
    rcases pass_sim (o := o) (ar := ar) hn h.low with ⟨h1, h2⟩ | ⟨P', Q', h1, h2, h3⟩
    · rw [h1, h2]
    · rw [h1, h2]
      simp only
      have hrel : RelV o L stop (n + 1) P' Q' (l ++ [(Q.getD n plZero).s]) := by
        refine ⟨h3.lenP.trans h.lenP, h3.lenQ.trans h.lenQ, h3.low, fun j hj hjl => (h3.highP j hj).trans (h.bare j hj hjl), fun p hp => ?_, fun j hj hjl hne => (h3.highQ j hj).trans (h.rest j hj hjl hne), by rw [List.length_append, h.len]; rfl, fun j hj => ?_⟩
        · rw [h3.highQ _ (by have := hL p hp; omega)]
          exact h.ents p hp
        · by_cases e : j = n
          · subst e
            have hQ : Q.getD j plZero = (Q[j]?).getD plZero := by rw [List.getD_eq_getElem?_getD]
            rw [List.getElem?_append_right (by rw [h.len]; exact Nat.le_refl _), h.len, Nat.sub_self, hQ, h.low j hn, h3.old j (Nat.le_refl _)]
            have hjP : j < P.length := by rw [h.lenP]; exact hnl
            rw [List.getElem?_eq_getElem hjP]
            rfl
          · rw [List.getElem?_append_left (by rw [h.len]; omega), h.told j (by omega), h3.old j (by omega)]
      have ih := run_sim hL hst hown f (n + 1) P' Q' _ (by omega) (fun m hm hms => hs m (by omega) hms) hrel
      have hadd : n + 1 + f = n + (f + 1) := by omega
      rw [hadd] at ih
      exact ih

/-- All predicates, in order. -/
theorem fault_sim {o : Ob} (hlt : ∀ q ∈ o.preds, 0 ≤ q.2.2 ∧ q.2.2 < (o.code.length : Int)) :
    ∀ (L A : List (ByteArray × Int × Int)) (n : Nat) (P Q : List VPl) (l : List VSt), (A ++ L).Perm o.preds → (A ++ L).Pairwise (fun p q => p.2.2 < q.2.2) → (∀ q ∈ L, (n : Int) ≤ q.2.2) → n ≤ o.code.length → RelV o L n n P Q l →
      match faultP o L n P with
      | .error m => walkV o (o.code.length - n) n Q l = .error m
      | .ok (m, P') => ∃ Q' l', m ≤ o.code.length ∧ walkV o (o.code.length - n) n Q l = walkV o (o.code.length - m) m Q' l' ∧ RelV o [] m m P' Q' l'
  | [], A, n, P, Q, l, hp, hs, hge, hnl, h => ⟨Q, l, hnl, rfl, h⟩
  | p :: L, A, n, P, Q, l, hp, hs, hge, hnl, h => by
    have hpm : p ∈ o.preds := hp.mem_iff.1 (by simp)
    obtain ⟨hp0, hp1⟩ := hlt p hpm
    have hpn := hge p List.mem_cons_self
    rw [faultP]
    by_cases hc : (n : Int) < p.2.2
    · rw [if_pos hc]
      have hnl2 : n < o.code.length := by omega
      have hs2 := (List.pairwise_append.1 hs).2.1
      rw [List.pairwise_cons] at hs2
      have hz : Q[n]? = some plZero := h.rest n (Int.le_refl _) hnl2 (fun q hq => by
        rcases List.mem_cons.1 hq with rfl | hq
        · omega
        · have := hs2.1 q hq
          omega)
      have hw : o.code.length - n = (o.code.length - n - 1) + 1 := by omega
      simp only
      rw [hw, walkV]
      have hno : ∀ ar stop, passV o ar stop n Q = none := by
        intro ar stop
        unfold passV
        simp only
        rw [List.getD_eq_getElem?_getD, hz, Option.getD_some, if_pos (.inr (.inl rfl))]
      rw [hno]
    · rw [if_neg hc]
      have hpe : p.2.2 = (n : Int) := by omega
      have hs2 := (List.pairwise_append.1 hs).2.1
      rw [List.pairwise_cons] at hs2
      have hLn : ∀ q ∈ L, (n : Int) < q.2.2 := fun q hq => by have := hs2.1 q hq; omega
      have hnl2 : n < o.code.length := by omega
      obtain ⟨stop, hstop⟩ : ∃ stop, nextEnt o.code.length L = stop := ⟨_, rfl⟩
      have hst1 : (n : Int) < stop := by
        rw [← hstop]
        cases L with
        | nil => show (n : Int) < (o.code.length : Int); omega
        | cons q L => exact hLn q List.mem_cons_self
      have hst2 : stop ≤ (o.code.length : Int) := by
        rw [← hstop]
        cases L with
        | nil => exact Int.le_refl _
        | cons q L =>
          have := (hlt q (hp.mem_iff.1 (by simp))).2
          show q.2.2 ≤ _
          omega
      have hLs : ∀ q ∈ L, stop ≤ q.2.2 := by
        rw [← hstop]
        cases L with
        | nil => intro q hq; cases hq
        | cons r L =>
          intro q hq
          rcases List.mem_cons.1 hq with rfl | hq
          · exact Int.le_refl _
          · have h3 := hs2.2
            rw [List.pairwise_cons] at h3
            have := h3.1 q hq
            show r.2.2 ≤ _
            omega
      rw [hstop]
      have hPn : P[n]? = some plZero := h.bare n (Int.le_refl _) hnl2
      have hQn := h.ents p List.mem_cons_self
      rw [hpe, Int.toNat_natCast] at hQn
      have hrel : RelV o L stop n (bringV P p.2.2 (stEntry p.2.1.toNat)) Q l := by
        refine ⟨by rw [bring_len, h.lenP], h.lenQ, fun j hj => ?_, fun j hj hjl => ?_, fun q hq => h.ents q (List.mem_cons_of_mem _ hq), fun j hj hjl hne => h.rest j (by omega) hjl (fun q hq => ?_), h.len, fun j hj => ?_⟩
        · rw [bring_at, hpe, Int.toNat_natCast]
          by_cases e : n = j
          · subst e
            rw [if_pos rfl, hPn, hQn]
            rfl
          · rw [if_neg e]
            by_cases hjn : j < n
            · exact h.low j (by omega)
            · rw [h.bare j (by omega) (by omega), h.rest j (by omega) (by omega) (fun q hq => ?_)]
              rcases List.mem_cons.1 hq with rfl | hq
              · omega
              · have := hLs q hq
                omega
        · rw [bring_at, hpe, Int.toNat_natCast, if_neg (by omega)]
          exact h.bare j (by omega) hjl
        · rcases List.mem_cons.1 hq with rfl | hq
          · omega
          · exact hne q hq
        · rw [bring_at, hpe, Int.toNat_natCast, if_neg (by omega)]
          exact h.told j hj
      have hrun := run_sim (ar := p.2.1) hLs hst2 (fun _ _ => trivial) (stop - n).toNat n _ Q l (by omega) (fun m hm hms => by
        obtain ⟨⟨k, hk1, hk2⟩, hk3⟩ := place_in (n := (m : Int)) hp hs (by omega) (by rw [hstop]; exact hms) (fun q hq => (hlt q hq).2)
        refine ⟨?_, by rw [hk3, hstop]⟩
        rw [hk1, arityP, Int.toNat_natCast, List.getD_eq_getElem?_getD, hk2]
        rfl) hrel
      cases hrs : runS o p.2.1 stop (stop - n).toNat n (bringV P p.2.2 (stEntry p.2.1.toNat)) with
      | error m =>
        rw [hrs] at hrun
        exact hrun
      | ok P' =>
        rw [hrs] at hrun
        obtain ⟨Q', l', hr1, hr2⟩ := hrun
        have hns : n + (stop - n).toNat = stop.toNat := by omega
        have hsn : ((stop.toNat : Nat) : Int) = stop := by omega
        rw [hns] at hr1 hr2
        have ih := fault_sim hlt L (A ++ [p]) stop.toNat P' Q' l' (by rw [List.append_assoc]; exact hp) (by rw [List.append_assoc]; exact hs) (fun q hq => by have := hLs q hq; omega) (by omega) (by rw [hsn]; exact hr2)
        simp only
        cases hfp : faultP o L stop.toNat P' with
        | error m =>
          rw [hfp] at ih
          exact hr1.trans ih
        | ok r =>
          rw [hfp] at ih
          obtain ⟨m, P2⟩ := r
          obtain ⟨Q2, l2, h1, h2, h3⟩ := ih
          exact ⟨Q2, l2, h1, hr1.trans h2, h3⟩

/-- The places at the start. -/
theorem start_len : ∀ (L : List (ByteArray × Int × Int)) (P : List VPl), (L.foldl (fun P p => P.set p.2.2.toNat ⟨true, false, stEntry p.2.1.toNat⟩) P).length = P.length
  | [], P => rfl
  | p :: L, P => by rw [List.foldl_cons, start_len L]; simp
theorem start_far : ∀ (L : List (ByteArray × Int × Int)) (P : List VPl) (j : Nat), (∀ p ∈ L, p.2.2.toNat ≠ j) → (L.foldl (fun P p => P.set p.2.2.toNat ⟨true, false, stEntry p.2.1.toNat⟩) P)[j]? = P[j]?
  | [], P, j, _ => rfl
  | p :: L, P, j, h => by
    rw [List.foldl_cons, start_far L _ j (fun q hq => h q (List.mem_cons_of_mem _ hq)), List.getElem?_set_ne (h p List.mem_cons_self)]
theorem start_ent : ∀ (L : List (ByteArray × Int × Int)) (P : List VPl), (∀ p ∈ L, p.2.2.toNat < P.length) → (L.map (·.2.2.toNat)).Nodup → ∀ p ∈ L, (L.foldl (fun P p => P.set p.2.2.toNat ⟨true, false, stEntry p.2.1.toNat⟩) P)[p.2.2.toNat]? = some ⟨true, false, stEntry p.2.1.toNat⟩
  | [], P, _, _, p, hp => by cases hp
  | q :: L, P, hl, hn, p, hp => by
    rw [List.map_cons, List.nodup_cons] at hn
    rw [List.foldl_cons]
    rcases List.mem_cons.1 hp with rfl | hp
    · rw [start_far L _ _ (fun r hr e => hn.1 (List.mem_map.2 ⟨r, hr, e⟩)), List.getElem?_set_self (hl p List.mem_cons_self)]
    · exact start_ent L _ (fun r hr => by rw [List.length_set]; exact hl r (List.mem_cons_of_mem _ hr)) hn.2 p hp

/-- The program's answer: the first that is wrong, or the States. -/
def progV (o : Ob) (L : List (ByteArray × Int × Int)) : Except Nat (List VSt) :=
  match faultP o L 0 (List.replicate o.code.length plZero) with
  | .error m => .error m
  | .ok (m, P) => if m < o.code.length then .error m else .ok (P.map (·.s))
theorem progV_eq {o : Ob} {L : List (ByteArray × Int × Int)} (hp : L.Perm o.preds) (hs : L.Pairwise (fun p q => p.2.2 < q.2.2)) (hlt : ∀ q ∈ o.preds, 0 ≤ q.2.2 ∧ q.2.2 < (o.code.length : Int)) : progV o L = walkV o o.code.length 0 (startV o) [] := by
  have hn : (o.preds.map (·.2.2.toNat)).Nodup := by
    have h1 : (L.map (·.2.2.toNat)).Nodup := by
      rw [List.nodup_iff_pairwise_ne, List.pairwise_map]
      refine hs.imp_of_mem ?_
      intro p q hpm hqm hpq
      have := hlt p (hp.mem_iff.1 hpm)
      have := hlt q (hp.mem_iff.1 hqm)
      omega
    exact (hp.map _).nodup_iff.1 h1
  have hrel : RelV o L ((0 : Nat) : Int) 0 (List.replicate o.code.length plZero) (startV o) [] := by
    refine ⟨by simp, by unfold startV; rw [start_len]; simp, fun j hj => by omega, fun j _ hjl => by simp [hjl], fun p hpm => ?_, fun j _ hjl hne => ?_, rfl, fun j hj => by omega⟩
    · unfold startV
      exact start_ent o.preds _ (fun q hq => by have := hlt q hq; simp; omega) hn p (hp.mem_iff.1 hpm)
    · unfold startV
      rw [start_far o.preds _ j (fun q hq => hne q (hp.mem_iff.2 hq))]
      simp [hjl]
  have h := fault_sim hlt L [] 0 _ _ _ (by simpa using hp) (by simpa using hs) (fun q hq => by have := hlt q (hp.mem_iff.1 hq); omega) (Nat.zero_le _) hrel
  unfold progV
  cases hf : faultP o L 0 (List.replicate o.code.length plZero) with
  | error m =>
    rw [hf] at h
    exact h.symm
  | ok r =>
    obtain ⟨m, P'⟩ := r
    rw [hf] at h
    obtain ⟨Q', l', h1, h2, h3⟩ := h
    rw [Nat.sub_zero] at h2
    rw [h2]
    simp only
    by_cases hm : m < o.code.length
    · rw [if_pos hm]
      have hz : Q'[m]? = some plZero := h3.rest m (Int.le_refl _) hm (fun q hq => by cases hq)
      have hw : o.code.length - m = (o.code.length - m - 1) + 1 := by omega
      rw [hw, walkV]
      have hno : ∀ ar stop, passV o ar stop m Q' = none := by
        intro ar stop
        unfold passV
        simp only
        rw [List.getD_eq_getElem?_getD, hz, Option.getD_some, if_pos (.inr (.inl rfl))]
      rw [hno]
    · rw [if_neg hm]
      obtain rfl : m = o.code.length := by omega
      rw [Nat.sub_self, walkV]
      congr 1
      apply List.ext_getElem?
      intro j
      rw [List.getElem?_map]
      by_cases hj : j < o.code.length
      · exact (h3.told j hj).symm
      · rw [List.getElem?_eq_none (by rw [h3.lenP]; omega), List.getElem?_eq_none (by rw [h3.len]; omega)]
        rfl

end Go.Proofs.YtlmbiafloiompaaGreatDoor
