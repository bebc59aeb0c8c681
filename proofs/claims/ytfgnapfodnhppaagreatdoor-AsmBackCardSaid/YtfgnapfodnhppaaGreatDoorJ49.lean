/-
  4 texts in one (AsmBD AsmBE AsmBF AsmBG). Conditions: those of each theorem.
-/
import Derived.Test.YtfgnapfodnhppaaGreatDoorJ48
namespace Go.Proofs.YtfgnapfodnhppaaGreatDoor
open Go
set_option linter.unusedVariables false
set_option linter.unusedSimpArgs false

/-- Tables beside other code. -/
def withCode (c : List Ins) (t : Ob) : Ob := { t with code := c }
theorem predStep_with (c : List Ins) (t : Ob) (f : ByteArray × Int) : predStep (withCode c t) f = ((predStep t f).1, withCode c (predStep t f).2) := by
  unfold predStep
  show (if findFrom f.1 f.2 0 t.preds < 0 then _ else _) = _
  split <;> rfl
theorem predEv_with (c : List Ins) (p : ByteArray × Int × Int) (t : Ob) : predEv p (withCode c t) = withCode c (predEv p t) := by
  unfold predEv
  rw [predStep_with]
  rfl
theorem predsEv_with (c : List Ins) : ∀ (l : List (ByteArray × Int × Int)) (t : Ob), predsEv l (withCode c t) = withCode c (predsEv l t)
  | [], t => rfl
  | p :: l, t => by
    show predsEv l (predEv p (withCode c t)) = withCode c (predsEv l (predEv p t))
    rw [predEv_with, predsEv_with c l]
theorem opEv_with (o : Ob) (c : List Ins) (kd n : Int) (t : Ob) : opEv o kd n (withCode c t) = withCode c (opEv o kd n t) := by
  unfold opEv
  split
  · rfl
  · split
    · rfl
    · split
      · rw [predStep_with]
      · rfl
theorem opsEv_with (o : Ob) (c : List Ins) : ∀ (ks xs : List Int) (t : Ob), opsEv o ks xs (withCode c t) = withCode c (opsEv o ks xs t)
  | [], xs, t => rfl
  | k :: ks, xs, t => by
    rw [opsEv, opEv_with, opsEv_with o c ks]
    rfl

/-- Entries of tables: none, or one of o's that is ahead of place k. -/
def EntTo (o : Ob) (k : Int) (t : Ob) : Prop := ∀ q ∈ t.preds, q.2.2 = 65535 ∨ (q ∈ o.preds ∧ q.2.2 < k)
theorem EntTo.step {o : Ob} {k : Int} {t : Ob} (h : EntTo o k t) (f : ByteArray × Int) : EntTo o k (predStep t f).2 := fun q hq => by
  rcases predStep_mem t f q hq with hq | hq
  · exact h q hq
  · exact .inl hq
theorem EntTo.pred {o : Ob} {k k' : Int} {t : Ob} (h : EntTo o k t) {p : ByteArray × Int × Int} (hp : p ∈ o.preds) (hk : p.2.2 < k') (hkk : k ≤ k') : EntTo o k' (predEv p t) := fun q hq => by
  rcases List.mem_or_eq_of_mem_set hq with hq | rfl
  · rcases h.step _ q hq with hq | hq
    · exact .inl hq
    · exact .inr ⟨hq.1, by omega⟩
  · exact .inr ⟨hp, hk⟩
theorem EntTo.op {o : Ob} {k : Int} {t : Ob} (h : EntTo o k t) (o' : Ob) (kd n : Int) : EntTo o k (opEv o' kd n t) := by
  unfold opEv
  split
  · exact h
  · split
    · exact h
    · split
      · exact h.step _
      · exact h
theorem EntTo.ops {o : Ob} {k : Int} (o' : Ob) : ∀ (ks xs : List Int) {t : Ob}, EntTo o k t → EntTo o k (opsEv o' ks xs t)
  | [], _, _, h => h
  | kd :: ks, xs, t, h => EntTo.ops o' ks xs.tail (h.op o' kd (xs.headD 0))

/-- A line 'pred'. -/
theorem pred_line {o : Ob} (hT : GoodT o) {p : ByteArray × Int × Int} (hp : p ∈ o.preds) {s : St} (hk : p.2.2 = (s.ob.code.length : Int)) (he : EntTo o p.2.2 s.ob) (n : Int) :
    lineStep n (predLn p) s = .ok { s with ob := predEv p s.ob, pts := s.pts ++ [(n, p.2.2, true)] } := by
  obtain ⟨h1, h2, h3⟩ := hT.preds p hp
  obtain ⟨i, hi, e1, e2, e3⟩ := predStep_at s.ob (called p)
  have hent : ((predStep s.ob (called p)).2.preds.getD (predStep s.ob (called p)).1.toNat (⟨#[]⟩, 0, 0)).2.2 = 65535 := by
    rw [e1, Int.toNat_natCast, List.getD_eq_getElem?_getD, List.getElem?_eq_getElem hi]
    rcases (he.step (called p)) _ (List.getElem_mem hi) with h | ⟨hm, hlt⟩
    · exact h
    · exfalso
      obtain ⟨a, ha, ea⟩ := List.mem_iff_getElem.1 hm
      obtain ⟨b, hb, eb⟩ := List.mem_iff_getElem.1 hp
      have hc : (o.preds.map called)[a]? = (o.preds.map called)[b]? := by
        rw [List.getElem?_map, List.getElem?_map, List.getElem?_eq_getElem ha, List.getElem?_eq_getElem hb, ea, eb]
        exact congrArg some (Prod.ext e2 e3)
      have hab := (List.getElem?_inj (by simpa using ha) hT.ndp).1 hc
      subst hab
      rw [← ea, eb] at hlt
      omega
  unfold lineStep
  have hx : predWord.isPrefixOf (predLn p) = true := by
    rw [List.isPrefixOf_iff_prefix]
    exact List.prefix_append _ _
  have hd : (predLn p).drop 5 = funW (called p) := rfl
  rw [if_pos hx, hd]
  unfold predLine
  rw [fun_back (f := called p) h1 (by decide) h2 h3]
  simp only
  rw [hent, if_neg (by decide), ← hk]
  rfl
/-- A label's line. -/
theorem label_line {k : Nat} (hk : k ≤ 1023) {s : St} (hl : labOf s.labs (k : Int) = none) (n : Int) :
    lineStep n (64 :: Lib.itoa (k : Int)) s = .ok { s with labs := s.labs ++ [((k : Int), (s.ob.code.length : Int))] } := by
  unfold lineStep
  rw [if_neg (by intro h; exact absurd h (by simp [predWord]))]
  simp only
  unfold labelLine
  rw [upto_itoa (by omega) (by omega) (by decide)]
  simp only
  rw [hl]
  rfl
theorem names_begin : ∀ k, k < 27 → 3 ≤ (nameAt k).data.toList.length ∧ (nameAt k).data.toList.take 3 ≠ [112, 114, 101] ∧ (nameAt k).data.toList.headD 0 ≠ 64 := by decide +kernel
/-- An instruction's line is a line of an instruction. -/
theorem instr_line {o : Ob} {i : Ins} (h0 : 0 ≤ i.1) (h26 : i.1 ≤ 26) (n : Int) (s : St) : lineStep n (lineL o i) s = instrLine n (lineL o i) s := by
  obtain ⟨b1, b2, b3⟩ := names_begin i.1.toNat (by omega)
  have hn : nameOf i.1 = nameAt i.1.toNat := by unfold nameOf; rw [if_pos ⟨h0, h26⟩]
  have hl : lineL o i = (nameAt i.1.toNat).data.toList ++ (lineWs o i).flatMap (32 :: ·) := by unfold lineL; rw [hn]
  generalize (lineWs o i).flatMap (32 :: ·) = r at hl
  generalize (nameAt i.1.toNat).data.toList = a at *
  unfold lineStep
  have hp : ¬ predWord.isPrefixOf (lineL o i) = true := fun h => by
    rw [List.isPrefixOf_iff_prefix, hl] at h
    obtain ⟨u, hu⟩ := h
    have := congrArg (List.take 3) hu
    rw [List.take_append_of_le_length b1] at this
    exact b2 this.symm
  rw [if_neg hp]
  cases hc : lineL o i with
  | nil => rfl
  | cons c d =>
    have : c ≠ 64 := fun e => by
      subst e
      match a, b1 with
      | x :: y, _ =>
        rw [hc] at hl
        injection hl with hl _
        exact b3 hl.symm
    split
    · rename_i e
      injection e with e _
      exact absurd e this
    · rfl

end Go.Proofs.YtfgnapfodnhppaaGreatDoor

namespace Go.Proofs.YtfgnapfodnhppaaGreatDoor
open Go
set_option linter.unusedVariables false
set_option linter.unusedSimpArgs false

/-- An object that may be. -/
structure MayO (o : Ob) : Prop where
  t : GoodT o
  len : o.atoms.length ≤ 256 ∧ o.funs.length ≤ 256 ∧ o.preds.length ≤ 64 ∧ o.code.length ≤ 1024
  code : ∀ i ∈ o.code, insErr o.atoms.length o.funs.length o.preds.length o.code.length i = 0
  ent : ∀ p ∈ o.preds, p.2.2 = 65535 ∨ (0 ≤ p.2.2 ∧ p.2.2 < (o.code.length : Int))
  once : ((o.preds.map (·.2.2)).filter (fun e => decide (e ≠ 65535))).Nodup
/-- A place has at most one predicate. -/
theorem one_pred {l : List (ByteArray × Int × Int)} (h : ((l.map (·.2.2)).filter (fun e => decide (e ≠ 65535))).Nodup) {k : Int} (hk : k ≠ 65535) : (l.filter (fun p => p.2.2 == k)).length ≤ 1 := by
  induction l with
  | nil => simp
  | cons p l ih =>
    rw [List.map_cons] at h
    by_cases e : p.2.2 = 65535
    · rw [List.filter_cons_of_neg (by simp [e])] at h
      rw [List.filter_cons_of_neg (by simp [e]; omega)]
      exact ih h
    · rw [List.filter_cons_of_pos (by simp [e]), List.nodup_cons] at h
      by_cases e2 : p.2.2 = k
      · rw [List.filter_cons_of_pos (by simp [e2])]
        have : l.filter (fun p => p.2.2 == k) = [] := by
          rw [List.filter_eq_nil_iff]
          intro q hq he
          have he : q.2.2 = k := by simpa using he
          exact h.1 (List.mem_filter.2 ⟨List.mem_map.2 ⟨q, hq, by rw [he, e2]⟩, by simp [e]⟩)
        rw [this]
        simp
      · rw [List.filter_cons_of_neg (by simp [e2])]
        exact ih h.2
theorem big_no {t o : Ob} (h : Tpre t o) (hm : o.atoms.length ≤ 256 ∧ o.funs.length ≤ 256 ∧ o.preds.length ≤ 64 ∧ o.code.length ≤ 1024) (hc : t.code.length ≤ 1024) : bigO t = false := by
  have a := h.atoms.length_le
  have b := h.funs.length_le
  have c := h.preds.length_le
  simp only [List.length_map] at c
  exact decide_eq_false (by omega)
theorem lines_cons {m : Nat} {l : List UInt8} {L : List (List UInt8)} {s s' : St} (h : lineStep (m : Int) l s = .ok s') (hb : bigO s'.ob = false) : linesStep m (l :: L) s = linesStep (m + 1) L s' := by
  rw [linesStep, h]
  simp only
  rw [hb, if_neg (by decide)]

/-- What stands behind the lines of so many places. -/
structure At (o : Ob) (k : Nat) (s : St) : Prop where
  ob : s.ob = withCode (o.code.take k) (evTo o k)
  labs : ∀ q ∈ s.labs, ∃ j : Nat, j < k ∧ q = ((j : Int), (j : Int))
  has : ∀ j : Nat, j < k → labTo o.code o.code.length j = true → ((j : Int), (j : Int)) ∈ s.labs
  pts : ∀ p ∈ s.pts, 0 ≤ p.2.1 ∧ p.2.1 < (k : Int)
  ent : EntTo o (k : Int) (evTo o k)
theorem EntTo.mono {o : Ob} {k k' : Int} {t : Ob} (h : EntTo o k t) (hk : k ≤ k') : EntTo o k' t := fun q hq => by
  rcases h q hq with h | h
  · exact .inl h
  · exact .inr ⟨h.1, by omega⟩
theorem place_run {o : Ob} (hM : MayO o) {k : Nat} (hk : k < o.code.length) (hp : Tpre (evTo o (k + 1)) o) {s : St} (h : At o k s) (m : Nat) (L : List (List UInt8)) :
    ∃ d s', linesStep m (placeLns o k ++ L) s = linesStep (m + d) L s' ∧ At o (k + 1) s' := by
  have hlen := hM.len
  have hi : insErr o.atoms.length o.funs.length o.preds.length o.code.length (o.code.getD k (0, 0, 0, 0, 0)) = 0 := hM.code _ (by
    rw [List.getD_eq_getElem?_getD, List.getElem?_eq_getElem hk]
    exact List.getElem_mem hk)
  have htk : (o.code.take k).length = k := by simp; omega
  have htk1 : o.code.take k ++ [o.code.getD k (0, 0, 0, 0, 0)] = o.code.take (k + 1) := by
    rw [List.take_succ_eq_append_getElem hk, List.getD_eq_getElem?_getD, List.getElem?_eq_getElem hk]
    rfl
  have hev : evTo o (k + 1) = placeEv o k (evTo o k) := rfl
  rw [hev] at hp
  unfold placeEv at hev hp
  generalize hF : (o.preds.filter fun p => p.2.2 == (k : Int)) = F at hev hp
  have hP1 : Tpre (predsEv F (evTo o k)) o := (opsEv_pre o _ _ _).trans hp
  -- lines 'pred'
  have A : ∃ d s1, (∀ M, linesStep m (predLns o k o.preds.length ++ M) s = linesStep (m + d) M s1) ∧ s1.ob = withCode (o.code.take k) (predsEv F (evTo o k)) ∧ s1.labs = s.labs ∧ (∀ p ∈ s1.pts, 0 ≤ p.2.1 ∧ p.2.1 < ((k + 1 : Nat) : Int)) ∧ EntTo o ((k + 1 : Nat) : Int) (predsEv F (evTo o k)) := by
    have hone := one_pred hM.once (k := (k : Int)) (by omega)
    unfold predLns
    rw [List.take_length, hF]
    rw [hF] at hone
    match F, hF, hone, hP1 with
    | [], hF, _, _ => exact ⟨0, s, fun M => rfl, h.ob, rfl, fun p hp => by have := h.pts p hp; omega, h.ent.mono (by omega)⟩
    | [p], hF, _, hP1 =>
      have hpm : p ∈ o.preds.filter fun p => p.2.2 == (k : Int) := by rw [hF]; exact List.mem_singleton.2 rfl
      obtain ⟨hpo, hpk⟩ := List.mem_filter.1 hpm
      have hpk : p.2.2 = (k : Int) := by simpa using hpk
      have hcl : s.ob.code.length = k := by rw [h.ob]; exact htk
      have hE : EntTo o p.2.2 s.ob := by rw [h.ob, hpk]; exact h.ent
      have hob : predEv p s.ob = withCode (o.code.take k) (predEv p (evTo o k)) := by rw [h.ob, predEv_with]
      have hs := pred_line hM.t hpo (by rw [hcl]; exact hpk) hE (m : Int)
      refine ⟨1, _, fun M => lines_cons hs ?_, hob, rfl, fun q hq => ?_, h.ent.pred hpo (by omega) (by omega)⟩
      · show bigO (predEv p s.ob) = false
        rw [hob]
        exact big_no (t := withCode _ _) ⟨hP1.atoms, hP1.funs, hP1.preds⟩ hlen (by show (o.code.take k).length ≤ 1024; omega)
      · rcases List.mem_append.1 hq with hq | hq
        · have := h.pts q hq; omega
        · rw [List.mem_singleton.1 hq]
          show 0 ≤ p.2.2 ∧ p.2.2 < _
          omega
    | p :: q :: r, _, hone, _ => simp at hone
  obtain ⟨d1, s1, a1, a2, a3, a4, a5⟩ := A
  -- a label's line
  have B : ∃ d s2, (∀ M, linesStep (m + d1) (labLn o k ++ M) s1 = linesStep (m + d1 + d) M s2) ∧ s2.ob = s1.ob ∧ s2.pts = s1.pts ∧ (∀ q ∈ s2.labs, ∃ j : Nat, j < k + 1 ∧ q = ((j : Int), (j : Int))) ∧ (∀ j : Nat, j < k + 1 → labTo o.code o.code.length j = true → ((j : Int), (j : Int)) ∈ s2.labs) := by
    unfold labLn
    cases hl : labTo o.code o.code.length k with
    | false =>
      rw [if_neg (by decide)]
      refine ⟨0, s1, fun M => rfl, rfl, rfl, fun q hq => ?_, fun j hj hjl => ?_⟩
      · rw [a3] at hq
        obtain ⟨j, h1, h2⟩ := h.labs q hq
        exact ⟨j, by omega, h2⟩
      · by_cases e : j = k
        · subst e; rw [hl] at hjl; cases hjl
        · rw [a3]; exact h.has j (by omega) hjl
    | true =>
      rw [if_pos rfl]
      have hno : labOf s1.labs (k : Int) = none := by
        unfold labOf
        rw [Option.map_eq_none_iff, List.find?_eq_none]
        intro q hq he
        rw [a3] at hq
        obtain ⟨j, h1, h2⟩ := h.labs q hq
        subst h2
        have : (j : Int) = (k : Int) := by simpa using he
        omega
      have hcl : s1.ob.code.length = k := by rw [a2]; exact htk
      have hs := label_line (by omega) hno ((m + d1 : Nat) : Int)
      refine ⟨1, _, fun M => lines_cons hs ?_, rfl, rfl, fun q hq => ?_, fun j hj hjl => ?_⟩
      · show bigO s1.ob = false
        rw [a2]
        exact big_no (t := withCode _ _) ⟨hP1.atoms, hP1.funs, hP1.preds⟩ hlen (by show (o.code.take k).length ≤ 1024; omega)
      · rcases List.mem_append.1 hq with hq | hq
        · rw [a3] at hq
          obtain ⟨j, h1, h2⟩ := h.labs q hq
          exact ⟨j, by omega, h2⟩
        · exact ⟨k, by omega, by rw [List.mem_singleton.1 hq, hcl]⟩
      · by_cases e : j = k
        · subst e; exact List.mem_append.2 (.inr (by rw [hcl]; exact List.mem_singleton.2 rfl))
        · exact List.mem_append.2 (.inl (by rw [a3]; exact h.has j (by omega) hjl))
  obtain ⟨d2, s2, b1, b2, b3, b4, b5⟩ := B
  -- the instruction's line
  obtain ⟨i0, i26, _, _⟩ := ins_ops hi
  generalize hI : o.code.getD k (0, 0, 0, 0, 0) = i at *
  have hob2 : s2.ob = withCode (o.code.take k) (predsEv F (evTo o k)) := b2.trans a2
  have hpo : Tpre (opsEv o (opsOf i.1) (argOf i) s2.ob) o := by
    rw [hob2, opsEv_with]
    exact ⟨hp.atoms, hp.funs, hp.preds⟩
  have hs := (instr_line i0 i26 ((m + d1 + d2 : Nat) : Int) s2).trans (instr_back hM.t hlen.2.2.2 hi ((m + d1 + d2 : Nat) : Int) s2 hpo)
  have hob3 : ({ opsEv o (opsOf i.1) (argOf i) s2.ob with code := (opsEv o (opsOf i.1) (argOf i) s2.ob).code ++ [i] } : Ob) = withCode (o.code.take (k + 1)) (evTo o (k + 1)) := by
    rw [hob2, opsEv_with, hev, ← htk1]
    rfl
  obtain ⟨s3, c0, c1, c2, c3⟩ : ∃ s3, lineStep ((m + d1 + d2 : Nat) : Int) (lineL o i) s2 = .ok s3 ∧ s3.ob = withCode (o.code.take (k + 1)) (evTo o (k + 1)) ∧ s3.labs = s2.labs ∧ s3.pts = s2.pts ++ [(((m + d1 + d2 : Nat) : Int), (s2.ob.code.length : Int), false)] := ⟨_, hs, hob3, rfl, rfl⟩
  refine ⟨d1 + d2 + 1, s3, ?_, ?_⟩
  · unfold placeLns
    rw [hI, List.append_assoc, List.append_assoc, a1, b1]
    have := lines_cons (L := L) c0 (by
      rw [c1, hev]
      exact big_no (t := withCode _ _) ⟨hp.atoms, hp.funs, hp.preds⟩ hlen (by show (o.code.take (k + 1)).length ≤ 1024; simp; omega))
    have e : m + (d1 + d2 + 1) = m + d1 + d2 + 1 := by omega
    rw [e]
    exact this
  · refine ⟨c1, by rw [c2]; exact b4, by rw [c2]; exact b5, fun p hpp => ?_, ?_⟩
    · rw [c3] at hpp
      rcases List.mem_append.1 hpp with hpp | hpp
      · rw [b3] at hpp
        exact a4 p hpp
      · rw [List.mem_singleton.1 hpp]
        have hcl : s2.ob.code.length = k := by rw [hob2]; exact htk
        show 0 ≤ (s2.ob.code.length : Int) ∧ (s2.ob.code.length : Int) < _
        omega
    · rw [hev]
      exact EntTo.ops o _ _ a5

end Go.Proofs.YtfgnapfodnhppaaGreatDoor

namespace Go.Proofs.YtfgnapfodnhppaaGreatDoor
open Go
set_option linter.unusedVariables false
set_option linter.unusedSimpArgs false

/-- Tables that lie in the order in which they come to be. -/
def OwnOrder (o : Ob) : Prop := (evTo o o.code.length).atoms = o.atoms ∧ (evTo o o.code.length).funs = o.funs ∧ (evTo o o.code.length).preds = o.preds
theorem own_pre {o : Ob} (h : OwnOrder o) {k : Nat} (hk : k ≤ o.code.length) : Tpre (evTo o k) o := by
  have := evTo_pre o k o.code.length hk
  exact ⟨by rw [← h.1]; exact this.atoms, by rw [← h.2.1]; exact this.funs, by
    have := this.preds
    rw [h.2.2] at this
    exact this⟩
theorem all_run {o : Ob} (hM : MayO o) (hO : OwnOrder o) : ∀ (k : Nat), k ≤ o.code.length → ∀ L : List (List UInt8), ∃ m s, linesStep 0 (linesTo o k ++ L) startSt = linesStep m L s ∧ At o k s
  | 0, _, L => ⟨0, startSt, rfl, ⟨rfl, fun q hq => absurd hq (by simp [startSt]), fun j hj => absurd hj (by omega), fun p hp => absurd hp (by simp [startSt]), fun q hq => absurd hq (by simp [evTo, emptyOb])⟩⟩
  | k + 1, hk, L => by
    obtain ⟨m, s, h1, h2⟩ := all_run hM hO k (by omega) (placeLns o k ++ L)
    obtain ⟨d, s', h3, h4⟩ := place_run hM (by omega) (own_pre hO hk) h2 m L
    refine ⟨m + d, s', ?_, h4⟩
    rw [linesTo_succ, List.append_assoc, h1, h3]
theorem place_self {labs : List (Int × Int)} {m : Nat} : ∀ (ks xs : List Int), ks.length ≤ xs.length → (∀ j, j < ks.length → ks.getD j 0 = 8 → xs.getD j 0 ≠ 65535 → labOf labs (xs.getD j 0) = some (xs.getD j 0) ∧ xs.getD j 0 < (m : Int)) → placeArgs labs m ks xs = some xs
  | [], xs, _, _ => by rw [placeArgs]
  | k :: ks, [], h, _ => by simp at h
  | k :: ks, x :: xs, h, hj => by
    have ih := place_self (labs := labs) (m := m) ks xs (by simpa using h) (fun j hl h8 hn => by simpa using hj (j + 1) (by simpa using hl) (by simpa using h8) (by simpa using hn))
    rw [placeArgs]
    by_cases hc : k = 8 ∧ (x :: xs).headD 0 ≠ 65535
    · rw [if_pos hc]
      obtain ⟨g1, g2⟩ := hj 0 (by simp) (by simpa using hc.1) (by simpa using hc.2)
      simp only [List.getD_cons_zero] at g1 g2
      simp only [List.headD_cons, List.tail_cons]
      rw [g1]
      simp only
      rw [if_neg (by omega), ih]
      rfl
    · rw [if_neg hc]
      simp only [List.headD_cons, List.tail_cons]
      rw [ih]
      rfl
theorem lab_at {labs : List (Int × Int)} (h : ∀ q ∈ labs, ∃ j : Nat, q = ((j : Int), (j : Int))) {x : Int} (hx : (x, x) ∈ labs) : labOf labs x = some x := by
  unfold labOf
  cases hf : labs.find? (fun p => p.1 == x) with
  | none =>
    rw [List.find?_eq_none] at hf
    exact absurd (hf _ hx) (by simp)
  | some q =>
    have h1 : q.1 = x := by simpa using List.find?_some hf
    obtain ⟨j, rfl⟩ := h q (List.mem_of_find?_eq_some hf)
    exact congrArg some h1
theorem pts_self {o : Ob} (hM : MayO o) {labs : List (Int × Int)} (h1 : ∀ q ∈ labs, ∃ j : Nat, q = ((j : Int), (j : Int))) (h2 : ∀ j : Nat, j < o.code.length → labTo o.code o.code.length j = true → ((j : Int), (j : Int)) ∈ labs) :
    ∀ ps : List (Int × Int × Bool), (∀ p ∈ ps, 0 ≤ p.2.1 ∧ p.2.1 < (o.code.length : Int)) → ptsStep labs ps o = .ok o
  | [], _ => by rw [ptsStep]
  | p :: ps, h => by
    have hp := h p List.mem_cons_self
    have hlen := hM.len.2.2.2
    have hs : ptStep labs o p = .ok o := by
      unfold ptStep
      cases hb : p.2.2 with
      | true =>
        rw [if_pos rfl, if_neg]
        have := one_pred hM.once (k := p.2.1) (by omega)
        omega
      | false =>
        rw [if_neg (by decide)]
        have hlt : p.2.1.toNat < o.code.length := by omega
        have hg : o.code.getD p.2.1.toNat (0, 0, 0, 0, 0) = o.code[p.2.1.toNat] := by
          rw [List.getD_eq_getElem?_getD, List.getElem?_eq_getElem hlt]
          rfl
        rw [hg]
        have hmem := List.getElem_mem hlt
        obtain ⟨_, _, _, hok⟩ := ins_ops (hM.code _ hmem)
        have hpl : placeIns labs o.code.length o.code[p.2.1.toNat] = some o.code[p.2.1.toNat] := by
          unfold placeIns
          rw [place_self _ _ (by rw [argOf_len]; exact ops_few _) (fun j hj h8 hn => ?_)]
          · rfl
          · have ht := (hok j hj).2.2.2.1
            rw [h8] at ht
            rcases (of_decide_eq_true ht : (argOf o.code[p.2.1.toNat]).getD j 0 = 65535 ∨ (0 ≤ (argOf o.code[p.2.1.toNat]).getD j 0 ∧ (argOf o.code[p.2.1.toNat]).getD j 0 < (o.code.length : Int))) with e | ⟨e1, e2⟩
            · exact absurd e hn
            · obtain ⟨x, hx⟩ : ∃ x : Nat, (argOf o.code[p.2.1.toNat]).getD j 0 = (x : Int) := ⟨_, (Int.toNat_of_nonneg e1).symm⟩
              have hlab : labTo o.code o.code.length x = true := by
                unfold labTo
                rw [List.take_length, List.any_eq_true]
                refine ⟨_, hmem, ?_⟩
                unfold labI
                rw [List.any_eq_true]
                exact ⟨j, List.mem_range.2 hj, decide_eq_true ⟨h8, hn, hx⟩⟩
              rw [hx]
              exact ⟨lab_at h1 (h2 x (by omega) hlab), by omega⟩
        rw [hpl]
        simp only
        rw [List.set_getElem_self]
    rw [ptsStep, hs]
    exact pts_self hM h1 h2 ps fun q hq => h q (List.mem_cons_of_mem _ hq)

/-- Lines of such an object say it again. -/
theorem lines_back {o : Ob} (hM : MayO o) (hO : OwnOrder o) : asmOf (linesTo o o.code.length) = (o, 0, -1) := by
  obtain ⟨m, s, h1, h2⟩ := all_run hM hO o.code.length (Nat.le_refl _) []
  rw [List.append_nil, linesStep] at h1
  have hob : s.ob = o := by
    rw [h2.ob, List.take_length]
    cases o with
    | mk a f p c =>
      unfold withCode
      obtain ⟨e1, e2, e3⟩ := hO
      simp only at e1 e2 e3 ⊢
      rw [e1, e2, e3]
  unfold asmOf
  rw [h1]
  simp only
  rw [hob, pts_self hM (fun q hq => by obtain ⟨j, _, e⟩ := h2.labs q hq; exact ⟨j, e⟩) h2.has s.pts h2.pts]

end Go.Proofs.YtfgnapfodnhppaaGreatDoor

namespace Go.Proofs.YtfgnapfodnhppaaGreatDoor
open Go
set_option linter.unusedVariables false
set_option linter.unusedSimpArgs false

theorem pre_getD {α : Type} {l L : List α} (h : l <+: L) {i : Nat} {x d : α} (hx : l[i]? = some x) : L.getD i d = x := by
  rw [List.getD_eq_getElem?_getD, pre_at h hx]
  rfl
theorem called_getD {o : Ob} {i : Nat} {f : ByteArray × Int} (h : (o.preds.map called)[i]? = some f) : called (o.preds.getD i (⟨#[]⟩, 0, 0)) = f := by
  rw [List.getElem?_map] at h
  rw [List.getD_eq_getElem?_getD]
  cases hc : o.preds[i]? with
  | none => rw [hc] at h; cases h
  | some p =>
    rw [hc] at h
    injection h with h
/-- An operand's word lays into tables what its number lays into them, over whatever greater tables. -/
theorem op_own {op k x : Int} {w : List UInt8} {t t' O : Ob} (h : opStep op k w t = some (x, t')) (hp : Tpre t' O) : opEv O k x t = t' := by
  unfold opStep at h
  unfold opEv
  by_cases h3 : k = 3
  · rw [if_pos h3] at h ⊢
    split at h
    · injection h with h
      injection h with h1 h2
      subst h1 h2
      rw [Int.toNat_natCast, pre_getD hp.atoms (place_at _ _)]
    · cases h
  · rw [if_neg h3] at h ⊢
    by_cases h4 : k = 4
    · rw [if_pos h4] at h ⊢
      cases hf : funOf w 1 with
      | none => rw [hf] at h; cases h
      | some f =>
        rw [hf] at h
        injection h with h
        injection h with h1 h2
        subst h1 h2
        rw [Int.toNat_natCast, pre_getD hp.funs (place_at _ _)]
    · rw [if_neg h4] at h ⊢
      by_cases h7 : k = 7
      · rw [if_pos h7] at h ⊢
        cases hf : funOf w 0 with
        | none => rw [hf] at h; cases h
        | some f =>
          rw [hf] at h
          injection h with h
          obtain ⟨i, hi, e1, e2, e3⟩ := predStep_at t f
          have hx : x = (i : Int) := by rw [← e1]; exact (congrArg Prod.fst h).symm
          have ht : (predStep t f).2 = t' := congrArg Prod.snd h
          subst ht
          have h4' : ((predStep t f).2.preds.map called)[i]? = some f := by
            rw [List.getElem?_map, List.getElem?_eq_getElem hi]
            exact congrArg some (Prod.ext e2 e3)
          rw [hx, Int.toNat_natCast, called_getD (pre_at hp.preds h4')]
      · rw [if_neg h7] at h ⊢
        by_cases h8 : k = 8
        · rw [if_pos h8] at h
          split at h
          · split at h
            · injection h with h
              injection h with _ h
            · cases h
          · cases hf : labelOf w with
            | none => rw [hf] at h; cases h
            | some n => rw [hf] at h; injection h with h; injection h with _ h
        · rw [if_neg h8] at h
          cases hf : opdOf k w with
          | none => rw [hf] at h; cases h
          | some n => rw [hf] at h; injection h with h; injection h with _ h
theorem op_pre {op k x : Int} {w : List UInt8} {t t' : Ob} (h : opStep op k w t = some (x, t')) : Tpre t t' := by
  have := opEv_pre t' k x t
  rw [op_own h (Tpre.refl t')] at this
  exact this
theorem ops_pre {op : Int} : ∀ {ks : List Int} {ws : List (List UInt8)} {t t' : Ob} {xs : List Int}, opsStep op ks ws t = some (xs, t') → Tpre t t'
  | [], ws, t, t', xs, h => by
    rw [opsStep] at h
    injection h with h
    injection h with _ h
    subst h
    exact Tpre.refl t
  | k :: ks, ws, t, t', xs, h => by
    rw [opsStep] at h
    cases h1 : opStep op k (ws.headD []) t with
    | none => rw [h1] at h; cases h
    | some r =>
      obtain ⟨x, t1⟩ := r
      rw [h1] at h
      simp only at h
      cases h2 : opsStep op ks ws.tail t1 with
      | none => rw [h2] at h; cases h
      | some r2 =>
        obtain ⟨ys, t2⟩ := r2
        rw [h2] at h
        injection h with h
        injection h with _ h
        subst h
        exact (op_pre h1).trans (ops_pre h2)
theorem ops_own {op : Int} {O : Ob} : ∀ {ks : List Int} {ws : List (List UInt8)} {t t' : Ob} {xs : List Int}, opsStep op ks ws t = some (xs, t') → Tpre t' O → opsEv O ks xs t = t' ∧ xs.length = ks.length
  | [], ws, t, t', xs, h, hp => by
    rw [opsStep] at h
    injection h with h
    injection h with h1 h2
    subst h1 h2
    exact ⟨rfl, rfl⟩
  | k :: ks, ws, t, t', xs, h, hp => by
    rw [opsStep] at h
    cases h1 : opStep op k (ws.headD []) t with
    | none => rw [h1] at h; cases h
    | some r =>
      obtain ⟨x, t1⟩ := r
      rw [h1] at h
      simp only at h
      cases h2 : opsStep op ks ws.tail t1 with
      | none => rw [h2] at h; cases h
      | some r2 =>
        obtain ⟨ys, t2⟩ := r2
        rw [h2] at h
        injection h with h
        injection h with h3 h4
        subst h3 h4
        obtain ⟨g1, g2⟩ := ops_own h2 hp
        refine ⟨?_, by simp [g2]⟩
        rw [opsEv, List.headD_cons, List.tail_cons, op_own h1 ((ops_pre h2).trans hp), g1]

end Go.Proofs.YtfgnapfodnhppaaGreatDoor
