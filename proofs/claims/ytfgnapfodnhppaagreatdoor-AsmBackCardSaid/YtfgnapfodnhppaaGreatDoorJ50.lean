/-
  4 texts in one (AsmBH AsmBI AsmBJ AsmBK). Conditions: those of each theorem.
-/
import Derived.Test.YtfgnapfodnhppaaGreatDoorJ49
namespace Go.Proofs.YtfgnapfodnhppaaGreatDoor
open Go
set_option linter.unusedVariables false
set_option linter.unusedSimpArgs false

theorem pre_get {α : Type} {l L : List α} (h : l <+: L) {n : Int} (h0 : 0 ≤ n) (h1 : n < (l.length : Int)) (d : α) : L.getD n.toNat d = l.getD n.toNat d := by
  have hx : l[n.toNat]? = some l[n.toNat] := List.getElem?_eq_getElem (by omega)
  rw [pre_getD h hx, List.getD_eq_getElem?_getD, hx]
  rfl
theorem opEv_gr {o o' : Ob} (hp : Tpre o o') {op kd n : Int} (hg : goodArg o op kd n) (t : Ob) : opEv o' kd n t = opEv o kd n t := by
  obtain ⟨a3, a4, a7, a8, ap⟩ := hg
  unfold opEv
  by_cases h3 : kd = 3
  · have := a3 h3
    rw [if_pos h3, if_pos h3, pre_get hp.atoms this.1 this.2]
  · rw [if_neg h3, if_neg h3]
    by_cases h4 : kd = 4
    · have := a4 h4
      rw [if_pos h4, if_pos h4, pre_get hp.funs this.1 this.2]
    · rw [if_neg h4, if_neg h4]
      by_cases h7 : kd = 7
      · have := a7 h7
        rw [if_pos h7, if_pos h7]
        have hx : (o.preds.map called)[n.toNat]? = some (called (o.preds.getD n.toNat (⟨#[]⟩, 0, 0))) := by
          rw [List.getElem?_map, List.getD_eq_getElem?_getD, List.getElem?_eq_getElem (by omega)]
          rfl
        rw [called_getD (pre_at hp.preds hx)]
      · rw [if_neg h7, if_neg h7]
theorem opsEv_gr {o o' : Ob} (hp : Tpre o o') {op : Int} : ∀ (ks xs : List Int) (t : Ob), (∀ j, j < ks.length → goodArg o op (ks.getD j 0) (xs.getD j 0)) → opsEv o' ks xs t = opsEv o ks xs t
  | [], xs, t, _ => rfl
  | k :: ks, xs, t, h => by
    have h0 : goodArg o op k (xs.headD 0) := by
      have := h 0 (by simp)
      cases xs <;> simpa using this
    rw [opsEv, opsEv, opEv_gr hp h0, opsEv_gr hp ks xs.tail _ (fun j hj => by
      have := h (j + 1) (by simpa using hj)
      cases xs <;> simpa using this)]
/-- An object that is greater. -/
structure Gr (o o' : Ob) : Prop where
  pre : Tpre o o'
  code : o.code <+: o'.code
  flt : ∀ k : Nat, k < o.code.length → (o'.preds.filter fun p => p.2.2 == (k : Int)) = o.preds.filter fun p => p.2.2 == (k : Int)
theorem evTo_gr {o o' : Ob} (h : Gr o o') (hi : ∀ i ∈ o.code, GoodI o i) : ∀ j : Nat, j ≤ o.code.length → evTo o' j = evTo o j
  | 0, _ => rfl
  | j + 1, hj => by
    have ih := evTo_gr h hi j (by omega)
    have hlt : j < o.code.length := by omega
    have hx : o.code[j]? = some o.code[j] := List.getElem?_eq_getElem hlt
    have e1 : o'.code.getD j (0, 0, 0, 0, 0) = o.code[j] := pre_getD h.code hx
    have e2 : o.code.getD j (0, 0, 0, 0, 0) = o.code[j] := by rw [List.getD_eq_getElem?_getD, hx]; rfl
    obtain ⟨_, _, i3, _⟩ := hi _ (List.getElem_mem hlt)
    show placeEv o' j (evTo o' j) = placeEv o j (evTo o j)
    unfold placeEv
    rw [ih, e1, e2, h.flt j hlt, opsEv_gr h.pre _ _ _ i3]

theorem predStep_flt (t : Ob) (f : ByteArray × Int) {k : Int} (hk : k ≠ 65535) : ((predStep t f).2.preds.filter fun p => p.2.2 == k) = t.preds.filter fun p => p.2.2 == k := by
  unfold predStep
  split
  · rw [List.filter_append, List.filter_cons_of_neg (by simp; omega)]
    simp
  · rfl
theorem opEv_flt (o t : Ob) (kd n : Int) {k : Int} (hk : k ≠ 65535) : ((opEv o kd n t).preds.filter fun p => p.2.2 == k) = t.preds.filter fun p => p.2.2 == k := by
  unfold opEv
  split
  · rfl
  · split
    · rfl
    · split
      · exact predStep_flt t _ hk
      · rfl
theorem opsEv_flt (o : Ob) {k : Int} (hk : k ≠ 65535) : ∀ (ks xs : List Int) (t : Ob), ((opsEv o ks xs t).preds.filter fun p => p.2.2 == k) = t.preds.filter fun p => p.2.2 == k
  | [], xs, t => rfl
  | kd :: ks, xs, t => by rw [opsEv, opsEv_flt o hk ks, opEv_flt o t kd _ hk]
theorem opStep_code {op kd x : Int} {w : List UInt8} {t t' : Ob} (h : opStep op kd w t = some (x, t')) : t'.code = t.code := by
  rw [← op_own h (Tpre.refl t')]
  unfold opEv
  split
  · rfl
  · split
    · rfl
    · split
      · exact predStep_code t _
      · rfl
/-- A filter of a row in which one thing that isn't wanted gives way to another that isn't. -/
theorem filter_set {α : Type} (q : α → Bool) : ∀ (l : List α) (i : Nat) (x : α) (h : i < l.length), q l[i] = false → q x = false → (l.set i x).filter q = l.filter q
  | [], i, x, h, _, _ => by simp at h
  | a :: l, 0, x, h, h1, h2 => by
    rw [List.set_cons_zero, List.filter_cons_of_neg (by rw [h2]; decide), List.filter_cons_of_neg (by simpa using h1)]
  | a :: l, i + 1, x, h, h1, h2 => by
    rw [List.set_cons_succ, List.filter_cons, List.filter_cons, filter_set q l i x (by simpa using h) (by simpa using h1) h2]
/-- And to one that is, when there was none. -/
theorem filter_set_one {α : Type} (q : α → Bool) : ∀ (l : List α) (i : Nat) (x : α) (h : i < l.length), q x = true → l.filter q = [] → (l.set i x).filter q = [x]
  | [], i, x, h, _, _ => by simp at h
  | a :: l, 0, x, h, h1, h2 => by
    rw [List.filter_eq_nil_iff] at h2
    rw [List.set_cons_zero, List.filter_cons_of_pos h1, List.filter_eq_nil_iff.2 fun b hb => h2 b (List.mem_cons_of_mem _ hb)]
  | a :: l, i + 1, x, h, h1, h2 => by
    rw [List.filter_eq_nil_iff] at h2
    rw [List.set_cons_succ, List.filter_cons_of_neg (h2 a List.mem_cons_self), filter_set_one q l i x (by simpa using h) h1 (List.filter_eq_nil_iff.2 fun b hb => h2 b (List.mem_cons_of_mem _ hb))]
/-- Counts never fall. -/
theorem cnt_set {α : Type} (q : α → Bool) (l : List α) (i : Nat) (x : α) (h : i < l.length) (h1 : q l[i] = false) : (l.filter q).length ≤ ((l.set i x).filter q).length := by
  rw [← List.countP_eq_length_filter, ← List.countP_eq_length_filter, List.countP_set h, h1]
  simp

end Go.Proofs.YtfgnapfodnhppaaGreatDoor

namespace Go.Proofs.YtfgnapfodnhppaaGreatDoor
open Go
set_option linter.unusedVariables false
set_option linter.unusedSimpArgs false
set_option linter.unnecessarySimpa false

theorem opsEv_congr (O : Ob) : ∀ (ks xs ys : List Int) (t : Ob), (∀ j, j < ks.length → xs.getD j 0 = ys.getD j 0) → opsEv O ks xs t = opsEv O ks ys t
  | [], xs, ys, t, _ => rfl
  | k :: ks, xs, ys, t, h => by
    have h0 : xs.headD 0 = ys.headD 0 := by
      have := h 0 (by simp)
      cases xs <;> cases ys <;> simpa using this
    rw [opsEv, opsEv, h0, opsEv_congr O ks xs.tail ys.tail _ (fun j hj => by
      have := h (j + 1) (by simpa using hj)
      cases xs <;> cases ys <;> simpa using this)]
theorem ops_code {op : Int} : ∀ {ks : List Int} {ws : List (List UInt8)} {t t' : Ob} {xs : List Int}, opsStep op ks ws t = some (xs, t') → t'.code = t.code
  | [], ws, t, t', xs, h => by
    rw [opsStep] at h
    injection h with h
    injection h with _ h
    subst h
    rfl
  | k :: ks, ws, t, t', xs, h => by
    rw [opsStep] at h
    cases h1 : opStep op k (ws.headD []) t with
    | none => rw [h1] at h; cases h
    | some r =>
      obtain ⟨x, t1⟩ := r
      rw [h1] at h
      simp only at h
      cases h2 : opsStep op ks ws.tail t1 with
      | none => rw [h2] at h; cases h
      | some r2 =>
        obtain ⟨ys, t2⟩ := r2
        rw [h2] at h
        injection h with h
        injection h with _ h
        subst h
        exact (ops_code h2).trans (opStep_code h1)

/-- The predicates whose Entry is k. -/
def atK (o : Ob) (k : Nat) : List (ByteArray × Int × Int) := o.preds.filter fun p => p.2.2 == (k : Int)
/-- Tables in their own order, so far. -/
structure Ord (o : Ob) : Prop where
  ord : withCode o.code (predsEv (atK o o.code.length) (evTo o o.code.length)) = o
  upto : ∀ p ∈ o.preds, p.2.2 = 65535 ∨ p.2.2 ≤ (o.code.length : Int)
/-- A line 'pred'. -/
theorem ord_pred {o : Ob} (hO : Ord o) (hi : ∀ i ∈ o.code, GoodI o i) (hl : o.code.length ≤ 1024) {p : ByteArray × Int × Int} (hp : p.2.2 = (o.code.length : Int)) (he : ((predStep o (called p)).2.preds.getD (predStep o (called p)).1.toNat (⟨#[]⟩, 0, 0)).2.2 = 65535) :
    (∀ k : Nat, k ≤ 1024 → (atK o k).length ≤ (atK (predEv p o) k).length) ∧ ((atK (predEv p o) o.code.length).length ≤ 1 → Ord (predEv p o)) := by
  obtain ⟨i, hlt, e1, e2, e3⟩ := predStep_at o (called p)
  have hx : ((predStep o (called p)).2.preds[i]).2.2 = 65535 := by
    rw [e1, Int.toNat_natCast, List.getD_eq_getElem?_getD, List.getElem?_eq_getElem hlt] at he
    exact he
  have hset : (predEv p o).preds = (predStep o (called p)).2.preds.set i p := by
    unfold predEv
    rw [e1]
    rfl
  have hcode : (predEv p o).code = o.code := predStep_code o _
  have hcnt : ∀ k : Nat, k ≤ 1024 → (atK o k).length ≤ (atK (predEv p o) k).length := fun k hk => by
    unfold atK
    rw [hset, ← predStep_flt o (called p) (k := (k : Int)) (by omega)]
    exact cnt_set _ _ i p hlt (by rw [hx]; simp; omega)
  refine ⟨hcnt, fun h1 => ?_⟩
  have hnil : atK o o.code.length = [] := by
    unfold atK at h1 ⊢
    rw [hset, ← List.countP_eq_length_filter, List.countP_set hlt, List.countP_eq_length_filter, predStep_flt o (called p) (k := (o.code.length : Int)) (by omega)] at h1
    have hq : (((predStep o (called p)).2.preds[i]).2.2 == (o.code.length : Int)) = false := by rw [hx]; simp; omega
    rw [hq, hp] at h1
    simp at h1
    rw [List.filter_eq_nil_iff]
    intro a ha
    simpa using h1 a.1 a.2.1 a.2.2 ha
  have hone : atK (predEv p o) o.code.length = [p] := by
    unfold atK at hnil ⊢
    rw [hset]
    exact filter_set_one _ _ i p hlt (by rw [hp]; simp) (by rw [predStep_flt o (called p) (k := (o.code.length : Int)) (by omega)]; exact hnil)
  have hg : Gr o (predEv p o) := ⟨predEv_pre p o, by rw [hcode]; exact List.prefix_refl _, fun k hk => by
    rw [hset, filter_set _ _ i p hlt (by rw [hx]; simp; omega) (by rw [hp]; simp; omega), predStep_flt o (called p) (k := (k : Int)) (by omega)]⟩
  refine ⟨?_, fun q hq => ?_⟩
  · rw [hcode, hone, evTo_gr hg hi _ (Nat.le_refl _)]
    have := hO.ord
    rw [hnil] at this
    show withCode o.code (predEv p (evTo o o.code.length)) = predEv p o
    rw [← predEv_with]
    exact congrArg (predEv p) this
  · rw [hcode]
    rw [hset] at hq
    rcases List.mem_or_eq_of_mem_set hq with hq | rfl
    · rcases predStep_mem o _ q hq with hq | hq
      · exact hO.upto q hq
      · exact .inl hq
    · exact .inr (by omega)
/-- An instruction's line. -/
theorem ord_ins {o o1 : Ob} (hO : Ord o) (hi : ∀ i ∈ o.code, GoodI o i) (hl : o.code.length ≤ 1023) {op : Int} {ws : List (List UInt8)} {xs : List Int} (h : opsStep op (opsOf op) ws o = some (xs, o1)) :
    (∀ k : Nat, k ≤ 1024 → atK { o1 with code := o1.code ++ [insOf op xs] } k = atK o k) ∧ Ord { o1 with code := o1.code ++ [insOf op xs] } := by
  have hself := ops_own h (Tpre.refl o1)
  have hcode := ops_code h
  have hflt : ∀ k : Nat, k ≤ 1024 → atK { o1 with code := o1.code ++ [insOf op xs] } k = atK o k := fun k hk => by
    have := opsEv_flt o1 (k := (k : Int)) (by omega) (opsOf op) xs o
    rw [hself.1] at this
    exact this
  refine ⟨hflt, ?_⟩
  have hpre : Tpre o1 { o1 with code := o1.code ++ [insOf op xs] } := ⟨List.prefix_refl _, List.prefix_refl _, List.prefix_refl _⟩
  have hown := ops_own h hpre
  generalize hO' : ({ o1 with code := o1.code ++ [insOf op xs] } : Ob) = o' at *
  have hc' : o'.code = o.code ++ [insOf op xs] := by rw [← hO', ← hcode]
  have hp' : o'.preds = o1.preds := by rw [← hO']
  have hg : Gr o o' := ⟨(ops_pre h).trans hpre, by rw [hc']; exact List.prefix_append _ _, fun k hk => hflt k (by omega)⟩
  have hlen : o'.code.length = o.code.length + 1 := by rw [hc']; simp
  have hnone : atK o' (o.code.length + 1) = [] := by
    rw [hflt _ (by omega)]
    unfold atK
    rw [List.filter_eq_nil_iff]
    intro q hq he
    have he : q.2.2 = ((o.code.length + 1 : Nat) : Int) := by simpa using he
    rcases hO.upto q hq with h | h <;> omega
  have hat : o'.code.getD o.code.length (0, 0, 0, 0, 0) = insOf op xs := by
    rw [hc', List.getD_eq_getElem?_getD, List.getElem?_append_right (Nat.le_refl _)]
    simp
  refine ⟨?_, fun q hq => ?_⟩
  · rw [hlen, hnone]
    show withCode o'.code (placeEv o' o.code.length (evTo o' o.code.length)) = o'
    unfold placeEv
    rw [hat, evTo_gr hg hi _ (Nat.le_refl _)]
    have e2 : (o'.preds.filter fun p => p.2.2 == (o.code.length : Int)) = atK o o.code.length := hflt _ (by omega)
    rw [e2]
    have hfew := ops_few op
    have e3 := opsEv_congr o' (opsOf op) (argOf (insOf op xs)) xs (predsEv (atK o o.code.length) (evTo o o.code.length)) (fun j hj => argOf_ins op xs j (by omega))
    have e4 : (insOf op xs).1 = op := rfl
    rw [e4, e3]
    have e5 := hown.1
    rw [← hO.ord, opsEv_with] at e5
    generalize opsEv o' (opsOf op) xs (predsEv (atK o o.code.length) (evTo o o.code.length)) = T at e5 ⊢
    have e6 : withCode o'.code T = withCode o'.code o1 := by rw [← e5]; rfl
    rw [e6, ← hO']
    rfl
  · rw [hp'] at hq
    rw [hlen]
    have hm : ∀ q ∈ o1.preds, q.2.2 = 65535 ∨ q.2.2 ≤ (o.code.length : Int) := fun q hq => by
      by_cases e : q.2.2 = 65535
      · exact .inl e
      · have := opsEv_flt o1 (k := q.2.2) e (opsOf op) xs o
        rw [hself.1] at this
        have hq2 : q ∈ o1.preds.filter fun p => p.2.2 == q.2.2 := List.mem_filter.2 ⟨hq, by simp⟩
        rw [this] at hq2
        exact hO.upto q (List.mem_filter.1 hq2).1
    rcases hm q hq with h | h
    · exact .inl h
    · exact .inr (by omega)

end Go.Proofs.YtfgnapfodnhppaaGreatDoor

namespace Go.Proofs.YtfgnapfodnhppaaGreatDoor
open Go
set_option linter.unusedVariables false
set_option linter.unusedSimpArgs false

theorem pred_cnt {o : Ob} {p : ByteArray × Int × Int} (he : ((predStep o (called p)).2.preds.getD (predStep o (called p)).1.toNat (⟨#[]⟩, 0, 0)).2.2 = 65535) (k : Nat) (hk : k ≤ 1024) : (atK o k).length ≤ (atK (predEv p o) k).length := by
  obtain ⟨i, hlt, e1, e2, e3⟩ := predStep_at o (called p)
  have hx : ((predStep o (called p)).2.preds[i]).2.2 = 65535 := by
    rw [e1, Int.toNat_natCast, List.getD_eq_getElem?_getD, List.getElem?_eq_getElem hlt] at he
    exact he
  have hset : (predEv p o).preds = (predStep o (called p)).2.preds.set i p := by
    unfold predEv
    rw [e1]
    rfl
  unfold atK
  rw [hset, ← predStep_flt o (called p) (k := (k : Int)) (by omega)]
  exact cnt_set _ _ i p hlt (by rw [hx]; simp; omega)
theorem line_ord {n : Int} {l : List UInt8} {s s' : St} (h : lineStep n l s = .ok s') :
    (∀ k : Nat, k ≤ 1024 → (atK s.ob k).length ≤ (atK s'.ob k).length) ∧ (GoodS s → Ord s.ob → s.ob.code.length ≤ 1024 → s'.ob.code.length ≤ 1024 → (atK s'.ob s.ob.code.length).length ≤ 1 → Ord s'.ob) := by
  unfold lineStep at h
  split at h
  · unfold predLine at h
    split at h
    · cases h
    · rename_i f hf
      split at h
      · cases h
      · rename_i he
        injection h with h
        subst h
        have he : ((predStep s.ob f).2.preds.getD (predStep s.ob f).1.toNat (⟨#[]⟩, 0, 0)).2.2 = 65535 := by omega
        exact ⟨pred_cnt (p := (f.1, f.2, (s.ob.code.length : Int))) he, fun hg hO hl hl2 h1 => (ord_pred hO hg.code hl (p := (f.1, f.2, (s.ob.code.length : Int))) rfl he).2 h1⟩
  · split at h
    · unfold labelLine at h
      split at h
      · cases h
      · split at h
        · cases h
        · injection h with h
          subst h
          exact ⟨fun k _ => Nat.le_refl _, fun _ hO _ _ _ => hO⟩
    · unfold instrLine at h
      split at h
      · cases h
      · split at h
        · cases h
        · rename_i x o1 hs
          injection h with h
          subst h
          have hself := ops_own hs (Tpre.refl o1)
          refine ⟨fun k hk => Nat.le_of_eq ?_, fun hg hO hl hl2 h1 => (ord_ins hO hg.code ?_ hs).2⟩
          · have := opsEv_flt o1 (k := (k : Int)) (by omega) (opsOf (namedOf (bs ((splitW l).getD 0 [])))) x s.ob
            rw [hself.1] at this
            exact congrArg List.length this.symm
          · have hc := ops_code hs
            have h2 : (o1.code ++ [insOf (namedOf (bs ((splitW l).getD 0 []))) x]).length ≤ 1024 := hl2
            rw [hc] at h2
            simp at h2
            omega
theorem lines_cnt : ∀ (L : List (List UInt8)) (k : Nat) (s0 s : St), linesStep k L s0 = .ok s → ∀ q : Nat, q ≤ 1024 → (atK s0.ob q).length ≤ (atK s.ob q).length
  | [], k, s0, s, h, q, _ => by
    rw [linesStep] at h
    injection h with h
    subst h
    exact Nat.le_refl _
  | l :: L, k, s0, s, h, q, hq => by
    rw [linesStep] at h
    cases h1 : lineStep (k : Int) l s0 with
    | error e => rw [h1] at h; cases h
    | ok s1 =>
      rw [h1] at h
      simp only at h
      cases h2 : bigO s1.ob with
      | true => rw [h2, if_pos rfl] at h; cases h
      | false =>
        rw [h2, if_neg (by decide)] at h
        exact Nat.le_trans ((line_ord h1).1 q hq) (lines_cnt L (k + 1) s1 s h q hq)
/-- Behind all lines. -/
theorem lines_ord : ∀ (L : List (List UInt8)) (k : Nat) (s0 s : St), linesStep k L s0 = .ok s → GoodS s0 → (s0.ob.atoms.length ≤ 256 ∧ s0.ob.funs.length ≤ 256 ∧ s0.ob.preds.length ≤ 64 ∧ s0.ob.code.length ≤ 1024) → Ord s0.ob → (∀ q : Nat, q ≤ 1024 → (atK s.ob q).length ≤ 1) → Ord s.ob
  | [], k, s0, s, h, _, _, hO, _ => by
    rw [linesStep] at h
    injection h with h
    subst h
    exact hO
  | l :: L, k, s0, s, h, hg, hl, hO, h1' => by
    rw [linesStep] at h
    cases h1 : lineStep (k : Int) l s0 with
    | error e => rw [h1] at h; cases h
    | ok s1 =>
      rw [h1] at h
      simp only at h
      cases h2 : bigO s1.ob with
      | true => rw [h2, if_pos rfl] at h; cases h
      | false =>
        rw [h2, if_neg (by decide)] at h
        have hb := big_bd h2
        exact lines_ord L (k + 1) s1 s h (line_good h1 hg (by omega)) hb ((line_ord h1).2 hg hO hl.2.2.2 hb.2.2.2 (Nat.le_trans (lines_cnt L (k + 1) s1 s h _ hl.2.2.2) (h1' _ hl.2.2.2))) h1'
theorem ord_start : Ord startSt.ob := ⟨rfl, fun p hp => absurd hp (by simp [startSt, emptyOb])⟩

end Go.Proofs.YtfgnapfodnhppaaGreatDoor

namespace Go.Proofs.YtfgnapfodnhppaaGreatDoor
open Go
set_option linter.unusedVariables false
set_option linter.unusedSimpArgs false

/-- What is placed after so many instructions. -/
structure SetP (s : St) (k : Nat) (o : Ob) : Prop where
  len : o.code.length = s.ob.code.length
  ok : ∀ j, j < k → placeIns s.labs s.ob.code.length (s.ob.code.getD j (0, 0, 0, 0, 0)) = some (o.code.getD j (0, 0, 0, 0, 0))
  rest : ∀ j, k ≤ j → o.code.getD j (0, 0, 0, 0, 0) = s.ob.code.getD j (0, 0, 0, 0, 0)
theorem pts_placed {s : St} : ∀ (ps : List (Int × Int × Bool)) (k : Nat) (o o' : Ob), ptsStep s.labs ps o = .ok o' → k ≤ s.ob.code.length → (ps.filter (fun p => !p.2.2)).map (fun p => p.2.1) = (List.range' k (s.ob.code.length - k)).map (fun k : Nat => (k : Int)) → SetP s k o → SetP s s.ob.code.length o'
  | [], k, o, o', h, hk, hr, hs => by
    rw [ptsStep] at h
    injection h with h
    subst h
    have hn : s.ob.code.length - k = 0 := by
      have := congrArg List.length hr
      simpa using this.symm
    have hk : k = s.ob.code.length := by omega
    rw [← hk] at *
    exact hk ▸ hs
  | p :: ps, k, o, o', h, hk, hr, hs => by
    rw [ptsStep] at h
    cases h1 : ptStep s.labs o p with
    | error e => rw [h1] at h; cases h
    | ok o1 =>
      rw [h1] at h
      simp only at h
      unfold ptStep at h1
      cases hb : p.2.2 with
      | true =>
        rw [if_pos hb] at h1
        by_cases hx : (o.code.length : Int) ≤ p.2.1 ∨ 1 < (o.preds.filter fun q => q.2.2 == p.2.1).length
        · rw [if_pos hx] at h1; cases h1
        · rw [if_neg hx] at h1
          injection h1 with h1
          subst h1
          rw [List.filter_cons_of_neg (by simp [hb])] at hr
          exact pts_placed ps k o o' h hk hr hs
      | false =>
        rw [if_neg (by rw [hb]; decide)] at h1
        rw [List.filter_cons_of_pos (by simp [hb]), List.map_cons] at hr
        have hkn : k < s.ob.code.length := by
          have := congrArg List.length hr
          simp at this
          omega
        obtain ⟨m, hm⟩ : ∃ m, s.ob.code.length - k = m + 1 := ⟨s.ob.code.length - k - 1, by omega⟩
        rw [hm, List.range'_succ, List.map_cons] at hr
        injection hr with hr1 hr2
        have hm' : m = s.ob.code.length - (k + 1) := by omega
        rw [hm'] at hr2
        have hkk : p.2.1.toNat = k := by omega
        rw [hkk, hs.len, hs.rest k (Nat.le_refl _)] at h1
        cases hp : placeIns s.labs s.ob.code.length (s.ob.code.getD k (0, 0, 0, 0, 0)) with
        | none => rw [hp] at h1; cases h1
        | some i =>
          rw [hp] at h1
          injection h1 with h1
          subst h1
          have hs' : SetP s (k + 1) { o with code := o.code.set k i } := by
            refine ⟨by simp [hs.len], fun j hj => ?_, fun j hj => ?_⟩
            · by_cases e : j = k
              · subst e
                rw [hp]
                simp only [List.getD_eq_getElem?_getD]
                rw [List.getElem?_set_self (by rw [hs.len]; exact hkn)]
                rfl
              · have := hs.ok j (by omega)
                rw [this]
                simp only [List.getD_eq_getElem?_getD]
                rw [List.getElem?_set_ne (by omega)]
            · have := hs.rest j (by omega)
              simp only [List.getD_eq_getElem?_getD] at this ⊢
              rw [List.getElem?_set_ne (by omega)]
              exact this
          exact pts_placed ps (k + 1) _ o' h hkn hr2 hs'
theorem tail_at (l : List Int) (j : Nat) : l.tail.getD j 0 = l.getD (j + 1) 0 := by cases l <;> rfl
theorem head_at (l : List Int) : l.headD 0 = l.getD 0 0 := by cases l <;> rfl
/-- Placed operands lay into tables what they laid. -/
theorem opsEv_placed {O O' : Ob} (ha : O'.atoms = O.atoms) (hf : O'.funs = O.funs) (hp : O'.preds = O.preds) : ∀ (ks xs ys : List Int) (t : Ob), (∀ j, j < ks.length → ks.getD j 0 ≠ 8 → xs.getD j 0 = ys.getD j 0) → opsEv O' ks xs t = opsEv O ks ys t
  | [], xs, ys, t, _ => rfl
  | k :: ks, xs, ys, t, h => by
    have h0 : opEv O' k (xs.headD 0) t = opEv O k (ys.headD 0) t := by
      unfold opEv
      rw [ha, hf, hp]
      by_cases e : k = 8
      · subst e; rfl
      · have : xs.headD 0 = ys.headD 0 := by
          rw [head_at, head_at]
          exact h 0 (by simp) e
        rw [this]
    rw [opsEv, opsEv, h0, opsEv_placed ha hf hp ks xs.tail ys.tail _ (fun j hj h8 => by
      rw [tail_at, tail_at]
      exact h (j + 1) (by simpa using hj) h8)]

/-- Of what lines make: it may be, and its tables lie in their own order. -/
theorem asm_own (ls : List (List UInt8)) (h0 : (asmOf ls).2.1 = 0) (herr : ∀ s e, linesStep 0 ls startSt = .ok s → ptsStep s.labs s.pts s.ob ≠ .error e ∨ e.1 ≠ 0) (herr2 : ∀ e, linesStep 0 ls startSt = .error e → e.1 ≠ 0) : MayO (asmOf ls).1 ∧ OwnOrder (asmOf ls).1 := by
  unfold asmOf at h0 ⊢
  cases h1 : linesStep 0 ls startSt with
  | error e => rw [h1] at h0; exact absurd h0 (herr2 e h1)
  | ok s =>
    rw [h1] at h0
    simp only at h0 ⊢
    cases h2 : ptsStep s.labs s.pts s.ob with
    | error e =>
      rw [h2] at h0
      rcases herr s e h1 with h | h
      · exact absurd h2 h
      · exact absurd h0 h
    | ok o =>
      simp only
      obtain ⟨hg, hb, hl⟩ := lines_good ls 0 startSt s h1 GoodS.start StB.start (by simp [startSt, emptyOb])
      have hr : (s.pts.filter (fun p => !p.2.2)).map (fun p => p.2.1) = (List.range' 0 (s.ob.code.length - 0)).map (fun k : Nat => (k : Int)) := by rw [hg.pts, List.range_eq_range', Nat.sub_zero]
      obtain ⟨g1, g2⟩ := pts_set hg.code hl hb.labs s.pts 0 s.ob o h2 (by omega) hr ⟨rfl, rfl, rfl, rfl, fun j hj => absurd hj (by omega), fun j _ => rfl⟩
      have g3 := pts_placed s.pts 0 s.ob o h2 (by omega) hr ⟨rfl, fun j hj => absurd hj (by omega), fun j _ => rfl⟩
      have hent : ∀ p ∈ s.ob.preds, p.2.2 = 65535 ∨ (0 ≤ p.2.2 ∧ p.2.2 < (s.ob.code.length : Int) ∧ (s.ob.preds.filter fun q => q.2.2 == p.2.2).length ≤ 1) := fun p hp => by
        rcases hg.ents p hp with h | ⟨h3, l, hm⟩
        · exact .inl h
        · exact .inr ⟨h3, (g2 _ hm rfl).1, (g2 _ hm rfl).2⟩
      have hone : ∀ q : Nat, q ≤ 1024 → (atK s.ob q).length ≤ 1 := fun q hq => by
        by_cases he : atK s.ob q = []
        · rw [he]; simp
        · obtain ⟨p, hp⟩ := List.exists_mem_of_ne_nil _ he
          obtain ⟨hp1, hp2⟩ := List.mem_filter.1 hp
          have hp2 : p.2.2 = (q : Int) := by simpa using hp2
          rcases hent p hp1 with h | ⟨_, _, h⟩
          · omega
          · rw [hp2] at h; exact h
      have hO := lines_ord ls 0 startSt s h1 GoodS.start (by simp [startSt, emptyOb]) ord_start hone
      have hnil : atK s.ob s.ob.code.length = [] := by
        unfold atK
        rw [List.filter_eq_nil_iff]
        intro p hp he
        have he : p.2.2 = (s.ob.code.length : Int) := by simpa using he
        rcases hent p hp with h | ⟨_, h, _⟩ <;> omega
      have hT : GoodT o := ⟨by rw [g1.atoms]; exact hg.t.atoms, by rw [g1.atoms]; exact hg.t.nda, by rw [g1.funs]; exact hg.t.funs, by rw [g1.funs]; exact hg.t.ndf, by rw [g1.preds]; exact hg.t.preds, by rw [g1.preds]; exact hg.t.ndp⟩
      refine ⟨⟨hT, by rw [g1.atoms, g1.funs, g1.preds, g1.len]; exact hl, fun i hi => ?_, fun p hp => ?_, ?_⟩, ?_⟩
      · obtain ⟨j, hj, rfl⟩ := List.mem_iff_getElem.1 hi
        have := g1.ok j (by rw [← g1.len]; exact hj)
        rw [List.getD_eq_getElem?_getD, List.getElem?_eq_getElem hj] at this
        rw [g1.atoms, g1.funs, g1.preds, g1.len]
        exact this
      · rw [g1.preds] at hp
        rw [g1.len]
        rcases hent p hp with h | ⟨h3, h4, _⟩
        · exact .inl h
        · exact .inr ⟨h3, h4⟩
      · rw [g1.preds]
        exact ents_once _ fun p hp hne => by
          rcases hent p hp with h | ⟨_, _, h⟩
          · exact absurd h hne
          · exact h
      · have hev : ∀ j : Nat, j ≤ s.ob.code.length → evTo o j = evTo s.ob j := fun j => by
          induction j with
          | zero => exact fun _ => rfl
          | succ j ih =>
            intro hj
            have hpl := g3.ok j (by omega)
            show placeEv o j (evTo o j) = placeEv s.ob j (evTo s.ob j)
            unfold placeEv
            rw [ih (by omega), g1.preds]
            generalize s.ob.code.getD j (0, 0, 0, 0, 0) = i at hpl ⊢
            generalize o.code.getD j (0, 0, 0, 0, 0) = i2 at hpl ⊢
            unfold placeIns at hpl
            cases ha : placeArgs s.labs s.ob.code.length (opsOf i.1) (argOf i) with
            | none => rw [ha] at hpl; cases hpl
            | some l =>
              rw [ha] at hpl
              injection hpl with hpl
              subst hpl
              have hfew := ops_few i.1
              have hget := (placeArgs_get ha (by rw [argOf_len]; exact hfew)).2
              show opsEv o (opsOf i.1) (argOf (insOf i.1 l)) _ = _
              exact opsEv_placed g1.atoms g1.funs g1.preds _ _ _ _ fun q hq h8 => by
                rw [argOf_ins _ _ q (by omega)]
                exact (hget q).2 fun hh => h8 hh.2.1
        have hord := hO.ord
        rw [hnil] at hord
        unfold OwnOrder
        rw [g1.len, hev _ (Nat.le_refl _), g1.atoms, g1.funs, g1.preds]
        have e1 : (withCode s.ob.code (predsEv [] (evTo s.ob s.ob.code.length))).atoms = s.ob.atoms := congrArg Ob.atoms hord
        have e2 : (withCode s.ob.code (predsEv [] (evTo s.ob s.ob.code.length))).funs = s.ob.funs := congrArg Ob.funs hord
        have e3 : (withCode s.ob.code (predsEv [] (evTo s.ob s.ob.code.length))).preds = s.ob.preds := congrArg Ob.preds hord
        exact ⟨e1, e2, e3⟩

end Go.Proofs.YtfgnapfodnhppaaGreatDoor
