/-
  The places of verify's walk (layer 11), as cells in memory, and what is known of them in plain words. No condition beyond those named.
-/
import Derived.Test.YtlmbiafloiompaaGreatDoorJV17
import Derived.Test.YtlmbiafloiompaaGreatDoorJV18
namespace Go.Proofs.YtlmbiafloiompaaGreatDoor
open Go Go.RowKit
set_option linter.unusedVariables false
set_option linter.unusedSimpArgs false
set_option maxRecDepth 4000

/-! Cells of a list of places. -/
def plC (p : VPl) : List Value := (stA p.s).toList ++ [.bool p.here, .bool p.bad]
def plA (P : List VPl) : Array Value := (P.flatMap plC).toArray
def PlOk (P : List VPl) : Prop := ∀ p ∈ P, StOk p.s
theorem plC_len {p : VPl} (h : StOk p.s) : (plC p).length = 23 := by
  have := stA_size h
  simp [plC, this]
theorem flat_someV {α : Type} (f : α → List Value) (m : Nat) : ∀ (l : List α) (hf : ∀ a ∈ l, (f a).length = m) (k : Nat) (a : α), l[k]? = some a → ∀ j, j < m → (l.flatMap f)[k * m + j]? = (f a)[j]?
  | [], _, _, _, h, _, _ => by simp at h
  | x :: l, hf, 0, a, h, j, hj => by
    obtain rfl : x = a := by simpa using h
    rw [List.flatMap_cons, Nat.zero_mul, Nat.zero_add, List.getElem?_append_left (by rw [hf x List.mem_cons_self]; exact hj)]
  | x :: l, hf, k + 1, a, h, j, hj => by
    have h' : l[k]? = some a := by simpa using h
    have hx := hf x List.mem_cons_self
    rw [List.flatMap_cons, List.getElem?_append_right (by rw [hx, Nat.succ_mul]; omega), hx, show (k + 1) * m + j - m = k * m + j by rw [Nat.succ_mul]; omega]
    exact flat_someV f m l (fun b hb => hf b (List.mem_cons_of_mem _ hb)) k a h' j hj
theorem flat_lenV {α : Type} (f : α → List Value) (m : Nat) : ∀ (l : List α) (hf : ∀ a ∈ l, (f a).length = m), (l.flatMap f).length = l.length * m
  | [], _ => by simp
  | x :: l, hf => by
    rw [List.flatMap_cons, List.length_append, hf x List.mem_cons_self, flat_lenV f m l (fun b hb => hf b (List.mem_cons_of_mem _ hb)), List.length_cons, Nat.succ_mul]
    omega
theorem plA_size {P : List VPl} (h : PlOk P) : (plA P).size = P.length * 23 := by
  unfold plA
  rw [List.size_toArray]
  exact flat_lenV plC 23 P (fun p hp => plC_len (h p hp))
theorem plA_at {P : List VPl} (h : PlOk P) {n : Nat} (hn : n < P.length) {j : Nat} (hj : j < 23) : (plA P)[n * 23 + j]? = (plC P[n])[j]? := by
  unfold plA
  rw [List.getElem?_toArray]
  exact flat_someV plC 23 P (fun p hp => plC_len (h p hp)) n P[n] (List.getElem?_eq_getElem hn) j hj
theorem plC_s {p : VPl} (h : StOk p.s) {j : Nat} (hj : j < 21) : (plC p)[j]? = (stA p.s)[j]? := by
  have := stA_size h
  unfold plC
  rw [List.getElem?_append_left (by simp [this, hj]), Array.getElem?_toList]
theorem plC_here {p : VPl} (h : StOk p.s) : (plC p)[21]? = some (.bool p.here) := by
  have := stA_size h
  unfold plC
  rw [List.getElem?_append_right (by simp [this])]
  simp [this]
theorem plC_bad {p : VPl} (h : StOk p.s) : (plC p)[22]? = some (.bool p.bad) := by
  have := stA_size h
  unfold plC
  rw [List.getElem?_append_right (by simp [this])]
  simp [this]
theorem plA_ext {P : List VPl} (h : PlOk P) {A : Array Value} (hs : A.size = P.length * 23) (ha : ∀ k (hk : k < P.length) j, j < 23 → A[k * 23 + j]? = (plC P[k])[j]?) : A = plA P := by
  apply Array.ext_getElem?
  intro m
  by_cases hm : m < P.length * 23
  · have hk : m / 23 < P.length := by omega
    have e : m = m / 23 * 23 + m % 23 := by omega
    rw [e, ha (m / 23) hk (m % 23) (Nat.mod_lt _ (by decide)), plA_at h hk (Nat.mod_lt _ (by decide))]
  · rw [Array.getElem?_eq_none (by omega), Array.getElem?_eq_none (by rw [plA_size h]; omega)]
/-- Cells laid over others. -/
def putL (C : Array Value) : Nat → List Value → Array Value
  | _, [] => C
  | o, v :: r => putL (C.setIfInBounds o v) (o + 1) r
theorem putL_size : ∀ (vs : List Value) (C : Array Value) (o : Nat), (putL C o vs).size = C.size
  | [], C, o => rfl
  | v :: r, C, o => by rw [putL, putL_size r]; simp
theorem putL_at : ∀ (vs : List Value) (C : Array Value) (o j : Nat), o + vs.length ≤ C.size → (putL C o vs)[j]? = if o ≤ j ∧ j < o + vs.length then vs[j - o]? else C[j]?
  | [], C, o, j, _ => by rw [if_neg (by rw [List.length_nil]; omega)]; rfl
  | v :: r, C, o, j, h => by
    rw [List.length_cons] at h
    rw [putL, putL_at r _ (o + 1) j (by simp; omega), List.length_cons]
    by_cases e : j = o
    · subst e
      rw [if_neg (by omega), if_pos (by omega), Nat.sub_self, Array.getElem?_setIfInBounds_self_of_lt (by omega)]
      rfl
    · by_cases h1 : o + 1 ≤ j ∧ j < o + 1 + r.length
      · rw [if_pos h1, if_pos (by omega), show j - o = (j - (o + 1)) + 1 by omega, List.getElem?_cons_succ]
      · rw [if_neg h1, if_neg (by omega), Array.getElem?_setIfInBounds_ne (by omega)]
theorem Box.setCells {t : TypeId} {g : Nat} : ∀ (vs : List Value) (w : World) (C : Array Value) (o : Nat), Box w g t C → Box (w.setCells g o vs) g t (putL C o vs)
  | [], _, _, _, h => h
  | v :: r, w, C, o, h => Box.setCells r _ _ (o + 1) (h.set_ o v)
theorem Fr.setCells {S : Nat → Prop} {g : Nat} : ∀ (vs : List Value) (w w' : World) (o : Nat), Fr S w w' → (S g ∨ w.heap.size ≤ g) → Fr S w (w'.setCells g o vs)
  | [], _, _, _, h, _ => h
  | v :: r, w, w', o, h, hg => Fr.setCells r w _ (o + 1) (h.setCell (p := ⟨g, o, none⟩) hg v) hg
theorem Box.setCells_far {t : TypeId} {g k : Nat} (hk : g ≠ k) : ∀ (vs : List Value) (w : World) (C : Array Value) (o : Nat), Box w g t C → Box (w.setCells k o vs) g t C
  | [], _, _, _, h => h
  | v :: r, w, C, o, h => Box.setCells_far hk r _ C (o + 1) (h.far (p := ⟨k, o, none⟩) hk v)
theorem PlOk.set {P : List VPl} (h : PlOk P) {n : Nat} {q : VPl} (hq : StOk q.s) : PlOk (P.set n q) := fun p hp => by
  rcases List.mem_or_eq_of_mem_set hp with hp | rfl
  · exact h p hp
  · exact hq
theorem plA_state {P : List VPl} (h : PlOk P) {n : Nat} (hn : n < P.length) {s : VSt} (hs : StOk s) : putL (plA P) (n * 23) (stA s).toList = plA (P.set n { P[n] with s := s }) := by
  have h1 := stA_size hs
  have hq : StOk ({ P[n] with s := s } : VPl).s := hs
  have hl : (stA s).toList.length = 21 := by rw [Array.length_toList, h1]
  have hp := h P[n] (List.getElem_mem hn)
  refine plA_ext (h.set hq) (by rw [putL_size, plA_size h, List.length_set]) fun k hk j hj => ?_
  rw [List.length_set] at hk
  rw [putL_at _ _ _ _ (by rw [plA_size h, hl]; omega), hl]
  by_cases e : k = n
  · subst e
    rw [List.getElem_set_self]
    by_cases hj2 : j < 21
    · rw [if_pos (by omega), show k * 23 + j - k * 23 = j by omega, plC_s hq hj2, Array.getElem?_toList]
    · rw [if_neg (by omega), plA_at h hn hj]
      have hj3 : j = 21 ∨ j = 22 := by omega
      rcases hj3 with rfl | rfl
      · rw [plC_here hp, plC_here hq]
      · rw [plC_bad hp, plC_bad hq]
  · rw [if_neg (by omega), plA_at h hk hj, List.getElem_set_ne (fun x => e x.symm)]
theorem plA_here {P : List VPl} (h : PlOk P) {n : Nat} (hn : n < P.length) (b : Bool) : (plA P).setIfInBounds (n * 23 + 21) (.bool b) = plA (P.set n { P[n] with here := b }) := by
  have hp := h P[n] (List.getElem_mem hn)
  have hq : StOk ({ P[n] with here := b } : VPl).s := hp
  refine plA_ext (h.set hq) (by rw [Array.size_setIfInBounds, plA_size h, List.length_set]) fun k hk j hj => ?_
  rw [List.length_set] at hk
  by_cases e : k = n
  · subst e
    rw [List.getElem_set_self]
    by_cases hj2 : j = 21
    · subst hj2
      rw [Array.getElem?_setIfInBounds_self_of_lt (by rw [plA_size h]; omega), plC_here hq]
    · rw [Array.getElem?_setIfInBounds_ne (by omega), plA_at h hn hj]
      by_cases hj3 : j = 22
      · subst hj3
        rw [plC_bad hp, plC_bad hq]
      · rw [plC_s hp (by omega), plC_s hq (by omega)]
  · rw [Array.getElem?_setIfInBounds_ne (by omega), plA_at h hk hj, List.getElem_set_ne (fun x => e x.symm)]
theorem plA_bad {P : List VPl} (h : PlOk P) {n : Nat} (hn : n < P.length) (b : Bool) : (plA P).setIfInBounds (n * 23 + 22) (.bool b) = plA (P.set n { P[n] with bad := b }) := by
  have hp := h P[n] (List.getElem_mem hn)
  have hq : StOk ({ P[n] with bad := b } : VPl).s := hp
  refine plA_ext (h.set hq) (by rw [Array.size_setIfInBounds, plA_size h, List.length_set]) fun k hk j hj => ?_
  rw [List.length_set] at hk
  by_cases e : k = n
  · subst e
    rw [List.getElem_set_self]
    by_cases hj2 : j = 22
    · subst hj2
      rw [Array.getElem?_setIfInBounds_self_of_lt (by rw [plA_size h]; omega), plC_bad hq]
    · rw [Array.getElem?_setIfInBounds_ne (by omega), plA_at h hn hj]
      by_cases hj3 : j = 21
      · subst hj3
        rw [plC_here hp, plC_here hq]
      · rw [plC_s hp (by omega), plC_s hq (by omega)]
  · rw [Array.getElem?_setIfInBounds_ne (by omega), plA_at h hk hj, List.getElem_set_ne (fun x => e x.symm)]
theorem plA_range {w : World} {g : Nat} {t : TypeId} {P : List VPl} (hb : Box w g t (plA P)) (h : PlOk P) {n : Nat} (hn : n < P.length) : w.rangeAt g (n * 23) (stA P[n].s).toList := by
  intro j v hv
  have hp := h P[n] (List.getElem_mem hn)
  have hj : j < 21 := by
    have := (List.getElem?_eq_some_iff.1 hv).1
    rw [Array.length_toList, stA_size hp] at this
    exact this
  rw [hb.cell, plA_at h hn (by omega), plC_s hp hj, ← Array.getElem?_toList]
  exact hv
theorem plA_whole {w : World} {g : Nat} {t : TypeId} {P : List VPl} (hb : Box w g t (plA P)) (h : PlOk P) {n : Nat} (hn : n < P.length) : w.rangeAt g (n * 23) (plC P[n]) := by
  intro j v hv
  have hp := h P[n] (List.getElem_mem hn)
  have hj : j < 23 := by
    have := (List.getElem?_eq_some_iff.1 hv).1
    rw [plC_len hp] at this
    exact this
  rw [hb.cell, plA_at h hn hj]
  exact hv
theorem plA_there {w : World} {g : Nat} {t : TypeId} {P : List VPl} (hb : Box w g t (plA P)) (h : PlOk P) {n : Nat} (hn : n < P.length) : w.there g (n * 23) 21 := by
  intro j hj
  have hp := h P[n] (List.getElem_mem hn)
  refine ⟨?_, hb.frozen _⟩
  rw [hb.cell, plA_at h hn (by omega), plC_s hp hj]
  have := stA_size hp
  rw [Array.getElem?_eq_getElem (by omega)]
  rfl

/-! The walk in memory: its own box, the places' row. -/
structure WkAt (w : World) (gw g : Nat) (va vf vp vc : Value) (P : List VPl) : Prop where
  wk : Box w gw 124 #[va, vf, vp, vc, .slice (some ⟨g, 0, none⟩) P.length P.length]
  pl : Box w g 133 (plA P)
theorem WkAt.ne {w : World} {gw g : Nat} {va vf vp vc : Value} {P : List VPl} (h : WkAt w gw g va vf vp vc P) : gw ≠ g := Box.ne_ h.wk h.pl (by decide)
theorem WkAt.fr {w w' : World} {gw g : Nat} {va vf vp vc : Value} {P : List VPl} (h : WkAt w gw g va vf vp vc P) (hb : Below w.heap.size w w') : WkAt w' gw g va vf vp vc P := ⟨h.wk.below hb h.wk.lt, h.pl.below hb h.pl.lt⟩
theorem WkAt.upd {w w' : World} {gw g : Nat} {va vf vp vc : Value} {P P' : List VPl} (h : WkAt w gw g va vf vp vc P) (hf : Fr (fun k => k = g) w w') (hp : Box w' g 133 (plA P')) (hl : P'.length = P.length) : WkAt w' gw g va vf vp vc P' :=
  ⟨by rw [hl]; exact h.wk.fr hf h.ne, hp⟩

/-! What is known stays in its bounds. -/
structure StW (s : VSt) : Prop where
  ok : StOk s
  l0 : 0 ≤ s.left
  l1 : s.left ≤ 8
def PlW (P : List VPl) : Prop := ∀ p ∈ P, StW p.s
theorem PlW.ok {P : List VPl} (h : PlW P) : PlOk P := fun p hp => (h p hp).ok
theorem StW.entry (n : Nat) (hn : n ≤ 8) : StW (stEntry n) := ⟨StOk.entry n hn, Int.le_refl _, by show (0 : Int) ≤ 8; decide⟩
theorem StW.other (n : Nat) (hn : n ≤ 8) : StW (stOther n) := ⟨StOk.other n hn, Int.le_refl _, by show (0 : Int) ≤ 8; decide⟩
theorem StW.zero : StW stZero := ⟨⟨rfl, by decide⟩, Int.le_refl _, by decide⟩
theorem StOk.join {s t : VSt} (hs : StOk s) (ht : StOk t) : StOk (joinV s t) := ⟨by show (List.zipWith mixY s.y t.y).length = 16; rw [List.length_zipWith, hs.y, ht.y]; rfl, Nat.lt_of_le_of_lt Nat.and_le_left hs.x⟩
theorem StW.join {s t : VSt} (hs : StW s) (ht : StW t) : StW (joinV s t) := ⟨hs.ok.join ht.ok, hs.l0, hs.l1⟩
theorem StW.come {p : VPl} {s : VSt} (hp : StW p.s) (hs : StW s) : StW (comeV p s).s := by
  unfold comeV
  split
  · exact hs
  · split
    · exact hp
    · exact hp.join hs
theorem PlW.bring {P : List VPl} (h : PlW P) (n : Int) {s : VSt} (hs : StW s) : PlW (bringV P n s) := by
  intro p hp
  obtain ⟨j, hj, e⟩ := List.getElem_of_mem hp
  have h1 : (bringV P n s)[j]? = some p := by rw [List.getElem?_eq_getElem hj, e]
  rw [bring_at] at h1
  split at h1
  · cases hq : P[j]? with
    | none => rw [hq] at h1; cases h1
    | some q =>
      rw [hq] at h1
      injection h1 with h1
      rw [← h1]
      exact (h q (List.mem_of_getElem? hq)).come hs
  · exact h p (List.mem_of_getElem? h1)
theorem PlW.brings {P : List VPl} (f : Int → VSt) : ∀ (l : List Int) (P : List VPl), PlW P → (∀ t ∈ l, StW (f t)) → PlW (l.foldl (fun Q t => bringV Q t (f t)) P)
  | [], _, h, _ => h
  | t :: l, P, h, hf => by
    rw [List.foldl_cons]
    exact PlW.brings (P := P) f l _ (h.bring t (hf t List.mem_cons_self)) (fun u hu => hf u (List.mem_cons_of_mem _ hu))
theorem PlW.zeros (n : Nat) : PlW (List.replicate n plZero) := fun p hp => by
  rw [List.eq_of_mem_replicate hp]
  exact StW.zero

/-! An instruction of an object that may be. -/
structure InsK (o : Ob) (i : Ins) : Prop where
  op : 0 ≤ i.1 ∧ i.1 ≤ 26
  rg : i.1 = 1 ∨ i.1 = 2 ∨ i.1 = 10 ∨ i.1 = 11 ∨ i.1 = 6 ∨ i.1 = 7 → 0 ≤ i.2.1 ∧ i.2.1 < 32
  xb : i.1 = 1 ∨ i.1 = 2 ∨ i.1 = 10 ∨ i.1 = 11 ∨ i.1 = 3 ∨ i.1 = 12 ∨ i.1 = 4 ∨ i.1 = 13 → 0 ≤ i.2.2.1 ∧ i.2.2.1 < 16
  xa : i.1 = 5 ∨ i.1 = 14 → 0 ≤ i.2.1 ∧ i.2.1 < 16
  fa : i.1 = 4 ∨ i.1 = 13 → 0 ≤ i.2.1 ∧ i.2.1 < o.funs.length
  va : i.1 = 9 → 1 ≤ i.2.1 ∧ i.2.1 ≤ 8
  ea : i.1 = 15 → 0 ≤ i.2.1 ∧ i.2.1 ≤ 16
  pa : i.1 = 17 ∨ i.1 = 18 → 0 ≤ i.2.1 ∧ i.2.1 < o.preds.length
  ya : i.1 = 24 ∨ i.1 = 25 → 0 ≤ i.2.1 ∧ i.2.1 < 16
  la : ∀ t ∈ labsV i, 0 ≤ t ∧ t < o.code.length
theorem insErr_k {a f p c : Nat} {i : Ins} (h : insErr a f p c i = 0) : (0 ≤ i.1 ∧ i.1 ≤ 26) ∧ rightB i.1 (argOf i) = true ∧ ∀ k, k < (opsOf i.1).length → thereB a f p c ((opsOf i.1).getD k 0) ((argOf i).getD k 0) = true := by
  unfold insErr at h
  split at h
  · exact absurd h (by decide)
  · rename_i h1
    split at h
    · exact absurd h (by decide)
    · rename_i h2
      split at h
      · rename_i h3
        refine ⟨by omega, ?_, fun k hk => ?_⟩
        · cases hx : rightB i.1 (argOf i) with
          | true => rfl
          | false => exact absurd hx h2
        · exact List.all_eq_true.1 h3 k (List.mem_range.2 hk)
      · exact absurd h (by decide)
theorem right_k {op : Int} {a : List Int} (h : rightB op a = true) (k : Nat) (hk : k < 4) : mayB op ((opsOf op).getD k 0) (a.getD k 0) = true := by
  unfold rightB at h
  rw [Bool.and_eq_true] at h
  exact List.all_eq_true.1 h.2 k (List.mem_range.2 hk)
theorem InsK.of {o : Ob} {i : Ins} (h : insErr o.atoms.length o.funs.length o.preds.length o.code.length i = 0) : InsK o i := by
  obtain ⟨op, a, b, c, d⟩ := i
  obtain ⟨h1, h2, h3⟩ := insErr_k h
  simp only [argOf] at h1 h2 h3
  have r0 := right_k h2 0 (by decide)
  have r1 := right_k h2 1 (by decide)
  simp only [List.getD_cons_zero, List.getD_cons_succ] at r0 r1
  refine ⟨h1, ?_, ?_, ?_, ?_, ?_, ?_, ?_, ?_, ?_⟩
  · intro e
    simp only at e ⊢
    rcases e with rfl | rfl | rfl | rfl | rfl | rfl <;> simp [opsOf, mayB, lowOf, highOf] at r0 <;> omega
  · intro e
    simp only at e ⊢
    rcases e with rfl | rfl | rfl | rfl | rfl | rfl | rfl | rfl <;> simp [opsOf, mayB, lowOf, highOf] at r1 <;> omega
  · intro e
    simp only at e ⊢
    rcases e with rfl | rfl <;> simp [opsOf, mayB, lowOf, highOf] at r0 <;> omega
  · intro e
    simp only at e ⊢
    rcases e with rfl | rfl
    · have := h3 0 (by decide)
      simp [opsOf, thereB] at this
      omega
    · have := h3 0 (by decide)
      simp [opsOf, thereB] at this
      omega
  · intro e
    simp only at e ⊢
    subst e
    simp [opsOf, mayB, lowOf, highOf] at r0
    omega
  · intro e
    simp only at e ⊢
    subst e
    simp [opsOf, mayB, lowOf, highOf] at r0
    omega
  · intro e
    simp only at e ⊢
    rcases e with rfl | rfl
    · have := h3 0 (by decide)
      simp [opsOf, thereB] at this
      omega
    · have := h3 0 (by decide)
      simp [opsOf, thereB] at this
      omega
  · intro e
    simp only at e ⊢
    rcases e with rfl | rfl <;> simp [opsOf, mayB, lowOf, highOf] at r0 <;> omega
  · intro t ht
    unfold labsV at ht
    rw [List.mem_map] at ht
    obtain ⟨k, hk, rfl⟩ := ht
    rw [List.mem_filter, List.mem_range] at hk
    obtain ⟨hk1, hk2⟩ := hk
    rw [Bool.and_eq_true, decide_eq_true_eq, decide_eq_true_eq] at hk2
    have h4 := h3 k hk1
    simp only [argOf] at hk2 ⊢
    rw [hk2.1] at h4
    simp only [thereB, show ¬ ((8 : Int) = 3) by decide, show ¬ ((8 : Int) = 4) by decide, show ¬ ((8 : Int) = 7) by decide, if_false, if_true, decide_eq_true_eq] at h4
    rcases h4 with h4 | h4
    · exact absurd h4 hk2.2
    · exact h4
/-- What an object that may be says. -/
structure ObK (o : Ob) : Prop where
  ins : ∀ i ∈ o.code, InsK o i
  fun_ : ∀ f ∈ o.funs, 1 ≤ f.2 ∧ f.2 ≤ 8
  pred : ∀ p ∈ o.preds, 0 ≤ p.2.1 ∧ p.2.1 ≤ 8
  lf : o.funs.length ≤ 256
  lp : o.preds.length ≤ 64
  lc : o.code.length ≤ 1024
theorem code_all {a f p c : Nat} : ∀ {l : List Ins}, codeErr a f p c l = 0 → ∀ i ∈ l, insErr a f p c i = 0
  | [], _, i, hi => by cases hi
  | x :: l, h, i, hi => by
    rw [codeErr] at h
    split at h
    · rename_i h0
      rcases List.mem_cons.1 hi with rfl | hi
      · exact h0
      · exact code_all h i hi
    · rename_i h0
      exact absurd h h0
theorem ObK.of {o : Ob} (h : checkOf o = 0) : ObK o := by
  unfold checkOf at h
  split at h
  · exact absurd h (by decide)
  · rename_i h1
    split at h
    · exact absurd h (by decide)
    · rename_i h2
      split at h
      · exact absurd h (by decide)
      · split at h
        · exact absurd h (by decide)
        · have hb : bigB o.atoms.length o.funs.length o.preds.length o.code.length = false := by
            cases hx : bigB o.atoms.length o.funs.length o.preds.length o.code.length with
            | false => rfl
            | true => exact absurd hx h1
          unfold bigB at hb
          rw [decide_eq_false_iff_not] at hb
          have hn : namesOk o = true := by
            cases hx : namesOk o with
            | true => rfl
            | false => exact absurd hx h2
          unfold namesOk at hn
          rw [Bool.and_eq_true, Bool.and_eq_true] at hn
          refine ⟨fun i hi => InsK.of (code_all h i hi), fun f hf => ?_, fun p hp => ?_, by omega, by omega, by omega⟩
          · have := List.all_eq_true.1 hn.1.2 f hf
            unfold funOk at this
            simp only [Bool.and_eq_true, decide_eq_true_eq] at this
            omega
          · have := List.all_eq_true.1 hn.2 (called p) (List.mem_map.2 ⟨p, hp, rfl⟩)
            unfold funOk called at this
            simp only [Bool.and_eq_true, decide_eq_true_eq] at this
            omega
theorem StOk.reg {s : VSt} (h : StOk s) {r : Int} (h0 : 0 ≤ r) (h1 : r < 16) : StOk (regV s r) := ⟨h.y, or_lt h.x (by omega)⟩
theorem StOk.bec {s : VSt} (h : StOk s) {r : Int} (h0 : 0 ≤ r) (h1 : r < 32) : StOk (becV s r) := by
  unfold becV
  split
  · exact h.reg h0 (by omega)
  · exact ⟨by simpa using h.y, h.x⟩
theorem bec_left (s : VSt) (r : Int) : (becV s r).left = s.left := by unfold becV regV; split <;> rfl
theorem arityF_small {o : Ob} (h : ObK o) (k : Int) : 0 ≤ arityF o k ∧ arityF o k ≤ 8 := by
  unfold arityF
  rw [List.getD_eq_getElem?_getD]
  cases hx : o.funs[k.toNat]? with
  | none => simp
  | some f =>
    have := h.fun_ f (List.mem_of_getElem? hx)
    simp only [Option.getD_some]
    omega
theorem arityP_small {o : Ob} (h : ObK o) (k : Int) : 0 ≤ arityP o k ∧ arityP o k ≤ 8 := by
  unfold arityP
  rw [List.getD_eq_getElem?_getD]
  cases hx : o.preds[k.toNat]? with
  | none => simp
  | some f =>
    have := h.pred f (List.mem_of_getElem? hx)
    simp only [Option.getD_some]
    omega
theorem asks_parts {o : Ob} {ar : Int} {i : Ins} {s : VSt} (h : asksV o ar i s = true) : (i.1 = 6 ∨ i.1 = 7 ∨ i.1 = 8 → s.left ≠ 0) ∧ (i.1 = 9 → i.2.1 ≤ s.left) := by
  unfold asksV at h
  by_cases ha : s.alt ≠ (decide (i.1 = 21) || decide (i.1 = 22))
  · rw [if_pos ha] at h
    cases h
  · rw [if_neg ha] at h
    constructor
    · intro e
      have hp : partV i.1 = true := by unfold partV; rcases e with e | e | e <;> rw [e] <;> rfl
      rw [if_pos hp] at h
      unfold asksPart at h
      rw [if_neg (by omega)] at h
      intro h0
      rw [if_pos h0] at h
      cases h
    · intro e
      have hp : partV i.1 = true := by unfold partV; rw [e]; rfl
      rw [if_pos hp] at h
      unfold asksPart at h
      rw [if_pos e] at h
      simpa using h
theorem StW.makes {o : Ob} {ar : Int} {i : Ins} {s : VSt} (ho : ObK o) (hi : InsK o i) (h : asksV o ar i s = true) (hs : StW s) : StW (makesV o i s) := by
  obtain ⟨h1, h2⟩ := asks_parts h
  have hl0 := hs.l0
  have hl1 := hs.l1
  have ha := arityF_small ho i.2.1
  unfold makesV
  by_cases e1 : i.1 = 1
  · rw [if_pos e1]
    have hr := hi.rg (by omega)
    exact ⟨hs.ok.bec hr.1 hr.2, by rw [bec_left]; exact hl0, by rw [bec_left]; exact hl1⟩
  rw [if_neg e1]
  by_cases e2 : i.1 = 4
  · rw [if_pos e2]
    exact ⟨⟨hs.ok.y, hs.ok.x⟩, ha.1, ha.2⟩
  rw [if_neg e2]
  by_cases e3 : i.1 = 5
  · rw [if_pos e3]
    exact ⟨⟨hs.ok.y, hs.ok.x⟩, by show (0 : Int) ≤ 2; decide, by show (2 : Int) ≤ 8; decide⟩
  rw [if_neg e3]
  by_cases e4 : i.1 = 6
  · rw [if_pos e4]
    have hr := hi.rg (by omega)
    have := h1 (.inl e4)
    have hb := hs.ok.bec hr.1 hr.2
    exact ⟨⟨hb.y, hb.x⟩, by show 0 ≤ s.left - 1; omega, by show s.left - 1 ≤ 8; omega⟩
  rw [if_neg e4]
  by_cases e5 : i.1 = 7 ∨ i.1 = 8
  · rw [if_pos e5]
    have := h1 (.inr e5)
    exact ⟨⟨hs.ok.y, hs.ok.x⟩, by show 0 ≤ s.left - 1; omega, by show s.left - 1 ≤ 8; omega⟩
  rw [if_neg e5]
  by_cases e6 : i.1 = 9
  · rw [if_pos e6]
    have := h2 e6
    have := hi.va e6
    exact ⟨⟨hs.ok.y, hs.ok.x⟩, by show 0 ≤ s.left - i.2.1; omega, by show s.left - i.2.1 ≤ 8; omega⟩
  rw [if_neg e6]
  by_cases e7 : i.1 = 10
  · rw [if_pos e7]
    have hr := hi.rg (by omega)
    have hx := hi.xb (by omega)
    exact ⟨(hs.ok.bec hr.1 hr.2).reg hx.1 hx.2, by show 0 ≤ (becV s i.2.1).left; rw [bec_left]; exact hl0, by show (becV s i.2.1).left ≤ 8; rw [bec_left]; exact hl1⟩
  rw [if_neg e7]
  by_cases e8 : i.1 = 11 ∨ i.1 = 12
  · rw [if_pos e8]
    have hx := hi.xb (by omega)
    exact ⟨hs.ok.reg hx.1 hx.2, hl0, hl1⟩
  rw [if_neg e8]
  by_cases e9 : i.1 = 13
  · rw [if_pos e9]
    have hx := hi.xb (by omega)
    have hb := hs.ok.reg hx.1 hx.2
    exact ⟨⟨hb.y, hb.x⟩, ha.1, ha.2⟩
  rw [if_neg e9]
  by_cases e10 : i.1 = 14
  · rw [if_pos e10]
    have hx := hi.xa (by omega)
    have hb := hs.ok.reg hx.1 hx.2
    exact ⟨⟨hb.y, hb.x⟩, by show (0 : Int) ≤ 2; decide, by show (2 : Int) ≤ 8; decide⟩
  rw [if_neg e10]
  by_cases e11 : i.1 = 15
  · rw [if_pos e11]
    exact ⟨⟨hs.ok.y, hs.ok.x⟩, hl0, hl1⟩
  rw [if_neg e11]
  by_cases e12 : i.1 = 16
  · rw [if_pos e12]
    exact ⟨⟨rfl, hs.ok.x⟩, hl0, hl1⟩
  rw [if_neg e12]
  by_cases e13 : i.1 = 17
  · rw [if_pos e13]
    exact ⟨⟨hs.ok.y, by show (0 : Nat) < 2 ^ 16; decide⟩, hl0, hl1⟩
  rw [if_neg e13]
  by_cases e14 : i.1 = 21 ∨ i.1 = 22
  · rw [if_pos e14]
    exact ⟨⟨hs.ok.y, hs.ok.x⟩, hl0, hl1⟩
  rw [if_neg e14]
  by_cases e15 : i.1 = 24
  · rw [if_pos e15]
    exact ⟨⟨by show (s.y.set _ _).length = 16; rw [List.length_set]; exact hs.ok.y, hs.ok.x⟩, hl0, hl1⟩
  rw [if_neg e15]
  exact hs

end Go.Proofs.YtlmbiafloiompaaGreatDoor
