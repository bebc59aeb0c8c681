/-
  The document's lines and the program's, line by line (plain): the same, and how their tables stand to each other. No condition.
-/
import Derived.Test.YtfgnapfodnhppaaGreatDoorJ38
import Derived.Test.YtfgnapfodnhppaaGreatDoorJ37
namespace Go.Proofs.YtfgnapfodnhppaaGreatDoor
open Go
set_option linter.unusedVariables false
set_option linter.unusedSimpArgs false

theorem rnum_noBlank {d : List UInt8} (h : 0 ≤ rnumOf d) : noBlank d := by
  unfold rnumOf at h
  split at h
  · omega
  · split at h
    · rename_i hd
      intro c hc e
      have := List.all_eq_true.1 hd c hc
      subst e
      exact absurd this (by decide)
    · omega
theorem numUpto_blank {d : List UInt8} {g : Int} (h : ¬ noBlank d) : numUpto d g = none := by
  unfold numUpto
  rw [if_neg]
  rintro ⟨h0, _⟩
  exact h (rnum_noBlank h0)
theorem name_noBlankB {s : ByteArray} (h : nameOk s = true) : noBlank s.data.toList := by
  unfold nameOk at h
  simp only [Bool.and_eq_true] at h
  intro c hc e
  have := List.all_eq_true.1 h.2 c hc
  subst e
  exact absurd this (by decide)
theorem funOf_blank {w : List UInt8} {least : Int} (h : ¬ noBlank w) : funOf w least = none := by
  unfold funOf
  cases hs : slashAt w with
  | none => rfl
  | some p =>
    obtain ⟨a, d⟩ := p
    obtain ⟨_, he⟩ := slash_some hs
    simp only
    cases hn : numUpto d 8 with
    | none => rfl
    | some n =>
      simp only
      rw [if_neg]
      rintro ⟨_, hk⟩
      have h1 := name_noBlankB hk
      rw [bs_data] at h1
      have h2 : noBlank d := by
        refine Classical.byContradiction fun h => ?_
        rw [numUpto_blank h] at hn
        cases hn
      apply h
      subst he
      intro c hc e
      rcases List.mem_append.1 hc with hc | hc
      · exact h1 c hc e
      · rcases List.mem_cons.1 hc with rfl | hc
        · exact absurd e (by decide)
        · exact h2 c hc e
theorem named_predB : namedOf (bs predB) = -1 := by decide +kernel
theorem names_lower : ∀ k, k < 27 → (nameAt k).data.toList.headD 0 ≠ 64 := by decide +kernel
theorem named_64 (d : List UInt8) : namedOf (bs (64 :: d)) < 0 := by
  apply Int.not_le.1
  intro h
  obtain ⟨K, hK, _, he⟩ := named_at h
  have := names_lower K hK
  rw [he, bs_data] at this
  exact this rfl
theorem prefix_pred {l : List UInt8} (h : predWord.isPrefixOf l = true) : l = predB ++ 32 :: l.drop 5 := by
  obtain ⟨t, rfl⟩ := List.isPrefixOf_iff_prefix.1 h
  rfl
theorem predB_noBlank : noBlank predB := by
  intro c hc e
  subst e
  exact absurd hc (by decide)
/-- Words of which there are two, the first one 'pred'. -/
theorem words_pred {l : List UInt8} (h : (splitW l).length = 2 ∧ (splitW l).getD 0 [] = predB) : predWord.isPrefixOf l = true := by
  rcases blank_cases l with hb | ⟨w, r, hw, rfl⟩
  · rw [splitW_miss hb] at h
    simp at h
  · rw [splitW_hit r hw] at h
    have h2 : w = predB := h.2
    subst h2
    rfl

def entK (o : Ob) (k : Int) : Int := (o.preds.getD k.toNat (⟨#[]⟩, 0, 0)).2.2
def ptUsed (o : Ob) (p : Int × Int × Bool) : List (Int × Int × Int) :=
  if p.2.2 = true then [] else usedOf p.2.1 p.1 0 (opsOf (o.code.getD p.2.1.toNat (0, 0, 0, 0, 0)).1) (argOf (o.code.getD p.2.1.toNat (0, 0, 0, 0, 0)))
theorem flatMap_same {α β : Type} {f g : α → List β} : ∀ {l : List α}, (∀ a ∈ l, f a = g a) → l.flatMap f = l.flatMap g
  | [], _ => rfl
  | a :: l, h => by
    rw [List.flatMap_cons, List.flatMap_cons, h a (by simp), flatMap_same fun b hb => h b (List.mem_cons_of_mem _ hb)]
/-- How the document's record stands to what lines have made, ahead of line n. -/
structure Sim (n : Int) (s : St) (r : Rs) : Prop where
  ob : r.ob = s.ob
  ln : r.labs.length = 1024
  labs : ∀ k : Nat, k < 1024 → r.labs.getD k 0 = match labOf s.labs (k : Int) with | some v => v + 1 | none => 0
  used : r.used = s.pts.flatMap (ptUsed s.ob)
  lines : r.lines.map (fun q => (entK s.ob q.1, q.2)) = (s.pts.filter (fun p => p.2.2)).map (fun p => (p.2.1, p.1))
  lnv : ∀ q ∈ r.lines, 0 ≤ q.1 ∧ q.1 < (s.ob.preds.length : Int)
  ents : ∀ k : Nat, k < s.ob.preds.length → (entK s.ob k ≠ 65535 ↔ (k : Int) ∈ r.lines.map (·.1))
  cnt : ∀ e : Int, e ≠ 65535 → (s.ob.preds.filter (fun q => q.2.2 == e)).length = (s.pts.filter (fun p => p.2.2 && p.2.1 == e)).length
  lt : ∀ p ∈ s.pts, 0 ≤ p.1 ∧ p.1 < n
  srt : s.pts.Pairwise (fun p q => p.1 < q.1 ∧ p.2.1 ≤ q.2.1)
theorem Sim.start : Sim 0 startSt startRs := by
  refine ⟨rfl, List.length_replicate, fun k hk => ?_, rfl, rfl, fun q hq => absurd (show q ∈ ([] : List (Int × Int)) from hq) List.not_mem_nil, fun k hk => absurd hk (by simp [startSt, emptyOb]), fun e _ => rfl, fun p hp => absurd hp (by simp [startSt]), List.Pairwise.nil⟩
  show (List.replicate 1024 (0 : Int)).getD k 0 = 0
  rw [List.getD_eq_getElem?_getD, List.getElem?_replicate, if_pos hk]
  rfl
theorem Sim.mono {n m : Int} {s : St} {r : Rs} (h : Sim n s r) (hn : n ≤ m) : Sim m s r :=
  ⟨h.ob, h.ln, h.labs, h.used, h.lines, h.lnv, h.ents, h.cnt, fun p hp => by have := h.lt p hp; omega, h.srt⟩
/-- Tables that only grow, by predicates that have no place. -/
def GrowsP (o o1 : Ob) : Prop := ∃ ex, o1.preds = o.preds ++ ex ∧ (∀ p ∈ ex, p.2.2 = 65535) ∧ o1.code = o.code
theorem GrowsP.refl (o : Ob) : GrowsP o o := ⟨[], by simp, by simp, rfl⟩
theorem GrowsP.trans {o o1 o2 : Ob} (h : GrowsP o o1) (k : GrowsP o1 o2) : GrowsP o o2 := by
  obtain ⟨e1, a1, b1, c1⟩ := h
  obtain ⟨e2, a2, b2, c2⟩ := k
  refine ⟨e1 ++ e2, by rw [a2, a1, List.append_assoc], fun p hp => ?_, c2.trans c1⟩
  rcases List.mem_append.1 hp with hp | hp
  · exact b1 p hp
  · exact b2 p hp
theorem predStep_grows (o : Ob) (f : ByteArray × Int) : GrowsP o (predStep o f).2 := by
  unfold predStep
  split
  · exact ⟨[(f.1, f.2, 65535)], rfl, fun p hp => by rw [List.mem_singleton.1 hp], rfl⟩
  · exact GrowsP.refl o
theorem opStep_grows {op kind n : Int} {w : List UInt8} {o o' : Ob} (h : opStep op kind w o = some (n, o')) : GrowsP o o' := by
  unfold opStep at h
  split at h
  · split at h
    · injection h with h
      injection h with _ h
      subst h
      exact ⟨[], by simp, by simp, rfl⟩
    · cases h
  · split at h
    · cases hf : funOf w 1 with
      | none => rw [hf] at h; cases h
      | some f =>
        rw [hf] at h
        injection h with h
        injection h with _ h
        subst h
        exact ⟨[], by simp, by simp, rfl⟩
    · split at h
      · cases hf : funOf w 0 with
        | none => rw [hf] at h; cases h
        | some f =>
          rw [hf] at h
          injection h with h
          have h : predStep o f = (n, o') := h
          have h2 : o' = (predStep o f).2 := by rw [h]
          rw [h2]
          exact predStep_grows o f
      · split at h
        · split at h
          · split at h
            · injection h with h
              injection h with _ h
              subst h
              exact GrowsP.refl _
            · cases h
          · cases hf : labelOf w with
            | none => rw [hf] at h; cases h
            | some f =>
              rw [hf] at h
              injection h with h
              injection h with _ h
              subst h
              exact GrowsP.refl _
        · cases hf : opdOf kind w with
          | none => rw [hf] at h; cases h
          | some f =>
            rw [hf] at h
            injection h with h
            injection h with _ h
            subst h
            exact GrowsP.refl _
theorem opsStep_grows {op : Int} : ∀ {ks : List Int} {ws : List (List UInt8)} {o o' : Ob} {x : List Int}, opsStep op ks ws o = some (x, o') → GrowsP o o'
  | [], ws, o, o', x, h => by
    rw [opsStep] at h
    injection h with h
    injection h with _ h
    subst h
    exact GrowsP.refl _
  | k :: ks, ws, o, o', x, h => by
    rw [opsStep] at h
    cases h1 : opStep op k (ws.headD []) o with
    | none => rw [h1] at h; cases h
    | some p =>
      obtain ⟨y, o2⟩ := p
      rw [h1] at h
      simp only at h
      cases h2 : opsStep op ks ws.tail o2 with
      | none => rw [h2] at h; cases h
      | some p =>
        obtain ⟨ys, o3⟩ := p
        rw [h2] at h
        injection h with h
        injection h with _ h
        subst h
        exact (opStep_grows h1).trans (opsStep_grows h2)
theorem entK_left {o o1 : Ob} {ex : List (ByteArray × Int × Int)} (h : o1.preds = o.preds ++ ex) {k : Int} (h0 : 0 ≤ k) (hk : k < (o.preds.length : Int)) : entK o1 k = entK o k := by
  unfold entK
  rw [h, List.getD_eq_getElem?_getD, List.getD_eq_getElem?_getD, List.getElem?_append_left (by omega)]
theorem Sim.grow {n : Int} {s : St} {r : Rs} (h : Sim n s r) {o1 : Ob} (hg : GrowsP s.ob o1) : Sim n { s with ob := o1 } { r with ob := o1 } := by
  obtain ⟨ex, e1, e2, e3⟩ := hg
  refine ⟨rfl, h.ln, h.labs, ?_, ?_, fun q hq => ?_, fun k hk => ?_, fun e he => ?_, h.lt, h.srt⟩
  · show r.used = s.pts.flatMap (ptUsed o1)
    rw [h.used]
    have : ptUsed s.ob = ptUsed o1 := by
      funext p
      unfold ptUsed
      rw [e3]
    rw [this]
  · rw [← h.lines]
    refine List.map_congr_left fun q hq => ?_
    have := h.lnv q hq
    show (entK o1 q.1, q.2) = (entK s.ob q.1, q.2)
    rw [entK_left e1 this.1 this.2]
  · have := h.lnv q hq
    show 0 ≤ q.1 ∧ q.1 < (o1.preds.length : Int)
    rw [e1, List.length_append]
    omega
  · show entK o1 k ≠ 65535 ↔ _
    by_cases hk2 : k < s.ob.preds.length
    · rw [entK_left e1 (by omega) (by omega)]
      exact h.ents k hk2
    · have hk : k < o1.preds.length := hk
      have h1 : entK o1 k = 65535 := by
        unfold entK
        rw [Int.toNat_natCast, List.getD_eq_getElem?_getD, List.getElem?_eq_getElem hk]
        have hm := List.getElem_mem hk
        have hx : o1.preds[k] ∈ ex := by
          have he : o1.preds[k]? = ex[k - s.ob.preds.length]? := by rw [e1, List.getElem?_append_right (by omega)]
          rw [List.getElem?_eq_getElem hk] at he
          exact List.mem_of_getElem? he.symm
        exact e2 _ hx
      rw [h1]
      refine ⟨fun h => absurd rfl h, fun hm => ?_⟩
      obtain ⟨q, hq, hqk⟩ := List.mem_map.1 hm
      have := h.lnv q hq
      omega
  · show (o1.preds.filter _).length = _
    rw [e1, List.filter_append, List.length_append, h.cnt e he]
    have : ex.filter (fun q => q.2.2 == e) = [] := by
      rw [List.filter_eq_nil_iff]
      intro q hq hh
      have h1 := e2 q hq
      have h2 : q.2.2 = e := by simpa using hh
      omega
    rw [this]
    rfl
theorem cnt_setG : ∀ (l : List (ByteArray × Int × Int)) (i : Nat) (x : ByteArray × Int × Int) (e : Int) (hi : i < l.length), l[i].2.2 ≠ e → ((l.set i x).filter (fun q => q.2.2 == e)).length = (l.filter (fun q => q.2.2 == e)).length + if x.2.2 = e then 1 else 0
  | [], i, x, e, hi, _ => by simp at hi
  | a :: l, 0, x, e, hi, h => by
    have h : a.2.2 ≠ e := h
    rw [List.set_cons_zero, List.filter_cons_of_neg (a := a) (by simpa using h)]
    by_cases hx : x.2.2 = e
    · rw [List.filter_cons_of_pos (by simpa using hx), if_pos hx, List.length_cons]
    · rw [List.filter_cons_of_neg (by simpa using hx), if_neg hx]
      rfl
  | a :: l, i + 1, x, e, hi, h => by
    have ih := cnt_setG l i x e (by simpa using hi) (by simpa using h)
    rw [List.set_cons_succ]
    by_cases ha : a.2.2 = e
    · rw [List.filter_cons_of_pos (by simpa using ha), List.filter_cons_of_pos (by simpa using ha), List.length_cons, List.length_cons, ih]
      omega
    · rw [List.filter_cons_of_neg (by simpa using ha), List.filter_cons_of_neg (by simpa using ha), ih]
theorem entK_set {o : Ob} {i : Nat} {x : ByteArray × Int × Int} (hi : i < o.preds.length) (k : Int) (h0 : 0 ≤ k) : entK { o with preds := o.preds.set i x } k = if k = (i : Int) then x.2.2 else entK o k := by
  unfold entK
  simp only [List.getD_eq_getElem?_getD]
  by_cases e : k = (i : Int)
  · subst e
    rw [if_pos rfl, Int.toNat_natCast, List.getElem?_set_self hi]
    rfl
  · rw [if_neg e, List.getElem?_set_ne (by omega)]
theorem Sim.setp {n : Int} {s : St} {r : Rs} (h : Sim n s r) (hp : ∀ p ∈ s.pts, p.2.1 ≤ (s.ob.code.length : Int)) {i : Nat} (hi : i < s.ob.preds.length) (he : entK s.ob i = 65535) (hc : s.ob.code.length ≤ 1024) (h0 : 0 ≤ n) (a : ByteArray) (b : Int) :
    Sim (n + 1) { s with ob := { s.ob with preds := s.ob.preds.set i (a, b, (s.ob.code.length : Int)) }, pts := s.pts ++ [(n, (s.ob.code.length : Int), true)] } { r with ob := { s.ob with preds := s.ob.preds.set i (a, b, (s.ob.code.length : Int)) }, lines := r.lines ++ [((i : Int), n)] } := by
  have hno : (i : Int) ∉ r.lines.map (·.1) := fun hm => (h.ents i hi).2 hm he
  refine ⟨rfl, h.ln, h.labs, ?_, ?_, fun q hq => ?_, fun k hk => ?_, fun e hne => ?_, fun p hp2 => ?_, ?_⟩
  · show r.used = (s.pts ++ [_]).flatMap _
    rw [List.flatMap_append, h.used]
    have : ptUsed { s.ob with preds := s.ob.preds.set i (a, b, (s.ob.code.length : Int)) } = ptUsed s.ob := rfl
    rw [this]
    simp [ptUsed]
  · show (r.lines ++ [_]).map _ = ((s.pts ++ [_]).filter _).map _
    rw [List.map_append, List.filter_append, List.map_append, ← h.lines]
    congr 1
    · refine List.map_congr_left fun q hq => ?_
      have := h.lnv q hq
      rw [entK_set hi q.1 this.1, if_neg]
      intro e
      exact hno (by rw [← e]; exact List.mem_map.2 ⟨q, hq, rfl⟩)
    · show [(entK _ (i : Int), n)] = _
      rw [entK_set hi _ (by omega), if_pos rfl]
      rfl
  · show 0 ≤ q.1 ∧ q.1 < ((s.ob.preds.set i _).length : Int)
    rw [List.length_set]
    rcases List.mem_append.1 hq with hq | hq
    · exact h.lnv q hq
    · rw [List.mem_singleton.1 hq]
      show 0 ≤ (i : Int) ∧ (i : Int) < _
      omega
  · have hk : k < s.ob.preds.length := by
      have hk : k < (s.ob.preds.set i (a, b, (s.ob.code.length : Int))).length := hk
      rwa [List.length_set] at hk
    show entK _ (k : Int) ≠ 65535 ↔ (k : Int) ∈ (r.lines ++ [_]).map _
    rw [entK_set hi _ (by omega), List.map_append, List.mem_append]
    by_cases e : k = i
    · subst e
      rw [if_pos rfl]
      refine ⟨fun _ => .inr (List.mem_singleton.2 rfl), fun _ => ?_⟩
      show (s.ob.code.length : Int) ≠ 65535
      omega
    · rw [if_neg (by omega), h.ents k hk]
      refine ⟨fun h => .inl h, fun h => ?_⟩
      rcases h with h | h
      · exact h
      · have := List.mem_singleton.1 h
        have : (k : Int) = (i : Int) := this
        omega
  · show ((s.ob.preds.set i _).filter _).length = ((s.pts ++ [_]).filter _).length
    have hx : s.ob.preds[i].2.2 ≠ e := by
      unfold entK at he
      rw [Int.toNat_natCast, List.getD_eq_getElem?_getD, List.getElem?_eq_getElem hi] at he
      have he : s.ob.preds[i].2.2 = 65535 := he
      rw [he]
      exact fun h => hne h.symm
    rw [cnt_setG _ _ _ _ hi hx, List.filter_append, List.length_append, h.cnt e hne]
    congr 1
    by_cases e2 : (s.ob.code.length : Int) = e
    · rw [if_pos e2, List.filter_cons_of_pos (by simpa using e2)]
      rfl
    · rw [if_neg e2, List.filter_cons_of_neg (by simpa using e2)]
      rfl
  · rcases List.mem_append.1 hp2 with hp2 | hp2
    · have := h.lt p hp2; omega
    · rw [List.mem_singleton.1 hp2]
      show 0 ≤ n ∧ n < n + 1
      omega
  · refine List.pairwise_append.2 ⟨h.srt, List.pairwise_singleton _ _, fun p hp1 q hq => ?_⟩
    rw [List.mem_singleton.1 hq]
    exact ⟨(h.lt p hp1).2, hp p hp1⟩
theorem usedOf_ext (c n : Int) : ∀ (ks xs ys : List Int) (k : Nat), (∀ j, j < ks.length → xs.getD j 0 = ys.getD j 0) → usedOf c n k ks xs = usedOf c n k ks ys
  | [], _, _, _, _ => rfl
  | kd :: ks, xs, ys, k, h => by
    have h0 := h 0 (by simp)
    have e1 : ∀ l : List Int, l.headD 0 = l.getD 0 0 := fun l => by cases l <;> rfl
    have e2 : ∀ (l : List Int) (j : Nat), l.tail.getD j 0 = l.getD (j + 1) 0 := fun l j => by cases l <;> simp
    rw [usedOf, usedOf, e1, e1, h0, usedOf_ext c n ks xs.tail ys.tail (k + 1) (fun j hj => by rw [e2, e2]; exact h (j + 1) (by simpa using hj))]
theorem Sim.instr {n : Int} {s : St} {r : Rs} (h : Sim n s r) (hp : ∀ p ∈ s.pts, 0 ≤ p.2.1 ∧ p.2.1 ≤ (s.ob.code.length : Int) ∧ (p.2.2 = false → p.2.1 < (s.ob.code.length : Int))) (h0 : 0 ≤ n) (op : Int) (x : List Int) :
    Sim (n + 1) { s with ob := { s.ob with code := s.ob.code ++ [insOf op x] }, pts := s.pts ++ [(n, (s.ob.code.length : Int), false)] } { r with ob := { s.ob with code := s.ob.code ++ [insOf op x] }, used := r.used ++ usedOf (s.ob.code.length : Int) n 0 (opsOf op) x } := by
  refine ⟨rfl, h.ln, h.labs, ?_, ?_, h.lnv, h.ents, fun e he => ?_, fun p hp2 => ?_, ?_⟩
  · show r.used ++ _ = (s.pts ++ [_]).flatMap _
    rw [List.flatMap_append, h.used]
    congr 1
    · refine flatMap_same fun p hp1 => ?_
      unfold ptUsed
      cases hb : p.2.2 with
      | true => rfl
      | false =>
        have h1 := hp p hp1
        have h2 := h1.2.2 hb
        have e : (s.ob.code ++ [insOf op x]).getD p.2.1.toNat (0, 0, 0, 0, 0) = s.ob.code.getD p.2.1.toNat (0, 0, 0, 0, 0) := by
          rw [List.getD_eq_getElem?_getD, List.getD_eq_getElem?_getD, List.getElem?_append_left (by omega)]
        simp only
        rw [e]
    · have e : (s.ob.code ++ [insOf op x]).getD s.ob.code.length (0, 0, 0, 0, 0) = insOf op x := by
        rw [List.getD_eq_getElem?_getD, List.getElem?_append_right (Nat.le_refl _), Nat.sub_self]
        rfl
      rw [List.flatMap_cons, List.flatMap_nil, List.append_nil]
      unfold ptUsed
      simp only [Int.toNat_natCast]
      rw [if_neg (by decide), e]
      have hfew := ops_few op
      exact usedOf_ext _ _ _ _ _ _ fun j hj => (argOf_ins op x j (by omega)).symm
  · show r.lines.map _ = ((s.pts ++ [_]).filter _).map _
    rw [List.filter_append, List.map_append, ← h.lines]
    simp [entK]
  · show (s.ob.preds.filter _).length = ((s.pts ++ [_]).filter _).length
    rw [h.cnt e he, List.filter_append]
    simp
  · rcases List.mem_append.1 hp2 with hp2 | hp2
    · have := h.lt p hp2; omega
    · rw [List.mem_singleton.1 hp2]
      show 0 ≤ n ∧ n < n + 1
      omega
  · refine List.pairwise_append.2 ⟨h.srt, List.pairwise_singleton _ _, fun p hp1 q hq => ?_⟩
    rw [List.mem_singleton.1 hq]
    exact ⟨(h.lt p hp1).2, (hp p hp1).2.1⟩
theorem Sim.lab {n : Int} {s : St} {r : Rs} (h : Sim n s r) {k : Nat} (hk : k < 1024) (v : Int) (h0 : labOf s.labs (k : Int) = none) : Sim (n + 1) { s with labs := s.labs ++ [((k : Int), v)] } { r with labs := r.labs.set k (v + 1) } := by
  have h1 : Sim n { s with labs := s.labs ++ [((k : Int), v)] } { r with labs := r.labs.set k (v + 1) } := by
    refine ⟨h.ob, by simp [h.ln], fun j hj => ?_, h.used, h.lines, h.lnv, h.ents, h.cnt, h.lt, h.srt⟩
    show (r.labs.set k (v + 1)).getD j 0 = match labOf (s.labs ++ [((k : Int), v)]) (j : Int) with | some v => v + 1 | none => 0
    rw [labOf_snoc _ _ _ h0, List.getD_eq_getElem?_getD]
    by_cases e : j = k
    · subst e
      rw [List.getElem?_set_self (by rw [h.ln]; exact hj)]
      simp
    · rw [List.getElem?_set_ne (by omega), ← List.getD_eq_getElem?_getD]
      simp only
      rw [if_neg (by omega)]
      exact h.labs j hj
  exact h1.mono (by omega)

/-- A line, by both. -/
theorem line_sim {n : Int} {s : St} {r : Rs} (h : Sim n s r) (hb : StB s) (hc : s.ob.code.length ≤ 1024) (h0 : 0 ≤ n) (l : List UInt8) :
    (∃ c, lineStep n l s = .error c ∧ rLine n l r = .error c) ∨ ∃ s' r', lineStep n l s = .ok s' ∧ rLine n l r = .ok r' ∧ Sim (n + 1) s' r' := by
  have hpl : ∀ p ∈ s.pts, p.2.1 ≤ (s.ob.code.length : Int) := fun p hp => (hb.pts p hp).2.1
  have hrob := h.ob
  -- an instruction's line
  have INS : ∀ (ws : List (List UInt8)), 0 < ws.length → rLine n l r = rInstrLine n ws r → lineStep n l s = instrLine n l s → splitW l = ws → (∃ c, lineStep n l s = .error c ∧ rLine n l r = .error c) ∨ ∃ s' r', lineStep n l s = .ok s' ∧ rLine n l r = .ok r' ∧ Sim (n + 1) s' r' := by
    intro ws hws e1 e2 e3
    rw [e1, e2]
    unfold instrLine rInstrLine
    rw [e3, hrob]
    by_cases hx : namedOf (bs (ws.getD 0 [])) < 0 ∨ ws.length ≠ (opsOf (namedOf (bs (ws.getD 0 [])))).length + 1
    · exact .inl ⟨17, by rw [if_pos (by omega)], by rw [if_pos hx]⟩
    · rw [if_neg hx, if_neg (by omega)]
      cases ho : opsStep (namedOf (bs (ws.getD 0 []))) (opsOf (namedOf (bs (ws.getD 0 [])))) ws.tail s.ob with
      | none => exact .inl ⟨17, rfl, rfl⟩
      | some p =>
        obtain ⟨x, o1⟩ := p
        have hg := opsStep_grows ho
        have h1 := h.grow hg
        have hcode : o1.code = s.ob.code := hg.choose_spec.2.2
        have h2 := h1.instr (fun p hp => by
          show 0 ≤ p.2.1 ∧ p.2.1 ≤ (o1.code.length : Int) ∧ _
          rw [hcode]
          exact hb.pts p hp) h0 (namedOf (bs (ws.getD 0 []))) x
        refine .inr ⟨_, _, rfl, rfl, ?_⟩
        rw [← hcode]
        exact h2
  cases hpx : predWord.isPrefixOf l with
  | true =>
    have hl := prefix_pred hpx
    have hls : lineStep n l s = predLine n (l.drop 5) s := by
      unfold lineStep
      rw [if_pos hpx]
    generalize l.drop 5 = w at hl hls
    subst hl
    have hsw := splitW_hit w predB_noBlank
    by_cases hnb : noBlank w
    · have hrl : rLine n (predB ++ 32 :: w) r = rPredLine n w r := by
        unfold rLine
        rw [hsw, splitW_miss hnb, if_pos ⟨rfl, rfl⟩]
        rfl
      rw [hls, hrl]
      unfold predLine rPredLine
      cases hf : funOf w 0 with
      | none => exact .inl ⟨17, rfl, rfl⟩
      | some f =>
        simp only
        rw [hrob]
        have hg := predStep_grows s.ob f
        have h1 := h.grow hg
        have hcode : (predStep s.ob f).2.code = s.ob.code := predStep_code s.ob f
        obtain ⟨i, hi, hi1, _, _⟩ := predStep_at s.ob f
        have hent : ((predStep s.ob f).2.preds.getD (predStep s.ob f).1.toNat (⟨#[]⟩, 0, 0)).2.2 = entK (predStep s.ob f).2 (i : Int) := by
          unfold entK
          rw [hi1]
        rw [hent, hi1]
        have hiff := h1.ents i hi
        have hiff : entK (predStep s.ob f).2 (i : Int) ≠ 65535 ↔ (i : Int) ∈ r.lines.map (·.1) := hiff
        by_cases hx : entK (predStep s.ob f).2 (i : Int) = 65535
        · rw [if_neg (by simpa using hx), if_neg (fun hm => hiff.2 hm hx)]
          refine .inr ⟨_, _, rfl, rfl, ?_⟩
          have h2 := h1.setp (i := i) (fun p hp => by
            show p.2.1 ≤ ((predStep s.ob f).2.code.length : Int)
            rw [hcode]
            exact hpl p hp) hi hx (by show (predStep s.ob f).2.code.length ≤ 1024; rw [hcode]; exact hc) h0 f.1 f.2
          simp only at h2
          rw [hcode] at h2
          rw [Int.toNat_natCast, hcode]
          exact h2
        · exact .inl ⟨11, by rw [if_pos hx], by rw [if_pos (hiff.1 hx)]⟩
    · have hp2 : lineStep n (predB ++ 32 :: w) s = .error 17 := by
        rw [hls]
        unfold predLine
        rw [funOf_blank hnb]
      have hne : ¬ (splitW w).length = 1 := fun e => by
        rcases blank_cases w with hb | ⟨u, v, hu, rfl⟩
        · exact hnb hb
        · rw [splitW_hit v hu, List.length_cons] at e
          have := List.length_pos_iff.2 (splitW_ne v)
          omega
      have hrl : rLine n (predB ++ 32 :: w) r = .error 17 := by
        unfold rLine
        rw [hsw, if_neg (fun e => hne (by simpa using e.1)), if_neg (fun e => by
          have h1 := e.1
          rw [List.length_cons] at h1
          have := List.length_pos_iff.2 (splitW_ne w)
          omega)]
        unfold rInstrLine
        rw [if_pos (.inl (by
          show namedOf (bs predB) < 0
          rw [named_predB]
          decide))]
      exact .inl ⟨17, hp2, hrl⟩
  | false =>
    have hno : ¬ ((splitW l).length = 2 ∧ (splitW l).getD 0 [] = predB) := fun e => by
      rw [words_pred e] at hpx
      cases hpx
    have hlen := List.length_pos_iff.2 (splitW_ne l)
    by_cases h64 : l.headD 0 = 64
    · obtain ⟨d, rfl⟩ : ∃ d, l = 64 :: d := by
        cases l with
        | nil => simp at h64
        | cons c d => exact ⟨d, by rw [show c = 64 from h64]⟩
      have hls : lineStep n (64 :: d) s = labelLine d s := by
        unfold lineStep
        rw [if_neg (by rw [hpx]; decide)]
        rfl
      by_cases hnb : noBlank d ∧ d ≠ []
      · have hnl : noBlank (64 :: d) := fun c hc e => by
          rcases List.mem_cons.1 hc with hc | hc
          · rw [e] at hc; exact absurd hc (by decide)
          · exact hnb.1 c hc e
        have hdl := List.length_pos_iff.2 hnb.2
        have hrl : rLine n (64 :: d) r = rLabelLine d r := by
          unfold rLine
          rw [if_neg hno, splitW_miss hnl, if_pos ⟨rfl, by rw [List.length_cons]; omega, rfl⟩]
          rfl
        rw [hls, hrl]
        unfold labelLine rLabelLine numUpto
        by_cases hr : 0 ≤ rnumOf d ∧ rnumOf d ≤ 1023
        · rw [if_pos hr, if_neg (by simpa using hr)]
          obtain ⟨k, hk⟩ := Int.eq_ofNat_of_zero_le hr.1
          simp only
          rw [hk]
          have hk1 : k < 1024 := by omega
          have hlab := h.labs k hk1
          rw [Int.toNat_natCast, hlab]
          cases hv : labOf s.labs (k : Int) with
          | some v =>
            obtain ⟨q, hq, hq2⟩ := labOf_mem hv
            have := hb.labs q hq
            exact .inl ⟨11, by rw [if_pos (by rfl)], by rw [if_pos (by simp only; omega)]⟩
          | none =>
            rw [if_neg (by decide), if_neg (by simp)]
            refine .inr ⟨_, _, rfl, rfl, ?_⟩
            rw [hrob]
            have h3 := h.lab hk1 (s.ob.code.length : Int) hv
            rw [hrob] at h3
            exact h3
        · rw [if_neg hr, if_pos hr]
          exact .inl ⟨17, rfl, rfl⟩
      · have hp2 : lineStep n (64 :: d) s = .error 17 := by
          rw [hls]
          unfold labelLine
          by_cases hd : d = []
          · subst hd
            rw [show numUpto [] 1023 = none by decide]
          · rw [numUpto_blank (fun hh => hnb ⟨hh, hd⟩)]
        have hrl : rLine n (64 :: d) r = .error 17 := by
          unfold rLine
          have hn1 : ¬ ((splitW (64 :: d)).length = 1 ∧ 1 < (64 :: d).length ∧ (64 :: d).headD 0 = 64) := fun e => by
            rcases blank_cases (64 :: d) with hb2 | ⟨u, v, hu, he⟩
            · refine hnb ⟨fun c hc => hb2 c (List.mem_cons_of_mem _ hc), fun hd => ?_⟩
              subst hd
              have := e.2.1
              simp at this
            · rw [he, splitW_hit v hu, List.length_cons] at e
              have := List.length_pos_iff.2 (splitW_ne v)
              omega
          rw [if_neg hno, if_neg hn1]
          unfold rInstrLine
          have hx : namedOf (bs ((splitW (64 :: d)).getD 0 [])) < 0 := by
            rcases blank_cases (64 :: d) with hb2 | ⟨u, v, hu, he⟩
            · rw [splitW_miss hb2]
              exact named_64 d
            · rw [he, splitW_hit v hu]
              show namedOf (bs u) < 0
              cases u with
              | nil => simp at he
              | cons c u =>
                have : c = 64 := by
                  have := congrArg (fun x : List UInt8 => x.headD 0) he
                  exact this.symm
                subst this
                exact named_64 u
          rw [if_pos (.inl hx)]
        exact .inl ⟨17, hp2, hrl⟩
    · have hls : lineStep n l s = instrLine n l s := by
        unfold lineStep
        rw [if_neg (by rw [hpx]; decide)]
        split
        · exact absurd rfl h64
        · rfl
      have hrl : rLine n l r = rInstrLine n (splitW l) r := by
        unfold rLine
        rw [if_neg hno, if_neg (fun e => h64 e.2.2)]
      exact INS (splitW l) hlen hrl hls rfl

def rLines : Nat → List (List UInt8) → Rs → Except (Int × Int) Rs
  | _, [], s => .ok s
  | n, l :: ls, s => match rLine n l s with
    | .error e => .error (e, n)
    | .ok s' => if bigO s'.ob = true then .error (2, n) else rLines (n + 1) ls s'
theorem lines_sim : ∀ (L : List (List UInt8)) (k : Nat) (s : St) (r : Rs), Sim (k : Int) s r → StB s → (s.ob.atoms.length ≤ 256 ∧ s.ob.funs.length ≤ 256 ∧ s.ob.preds.length ≤ 64 ∧ s.ob.code.length ≤ 1024) →
    (∃ e, linesStep k L s = .error e ∧ rLines k L r = .error e) ∨ ∃ s' r', linesStep k L s = .ok s' ∧ rLines k L r = .ok r' ∧ Sim ((k + L.length : Nat) : Int) s' r'
  | [], k, s, r, h, _, _ => .inr ⟨s, r, rfl, rfl, h⟩
  | l :: L, k, s, r, h, hb, hl => by
    rcases line_sim h hb hl.2.2.2 (by omega) l with ⟨c, h1, h2⟩ | ⟨s', r', h1, h2, h3⟩
    · exact .inl ⟨(c, (k : Int)), by rw [linesStep, h1], by rw [rLines, h2]⟩
    · have hbd := line_bd h1 hb (by omega)
      rw [linesStep, rLines, h1, h2]
      simp only
      rw [h3.ob]
      cases hbg : bigO s'.ob with
      | true => exact .inl ⟨(2, (k : Int)), rfl, rfl⟩
      | false =>
        rw [if_neg (by decide), if_neg (by decide)]
        have := lines_sim L (k + 1) s' r' (by rw [show ((k + 1 : Nat) : Int) = (k : Int) + 1 by omega]; exact h3) hbd.1 (big_bd hbg)
        rw [List.length_cons, show k + (L.length + 1) = k + 1 + L.length by omega]
        exact this

end Go.Proofs.YtfgnapfodnhppaaGreatDoor
