/-
  3 texts in one (AsmPC AsmPD VerTA). Conditions: those of each theorem.
-/
import Derived.Test.YtlmbiafloiompaaGreatDoorJV49
import Derived.Test.YtlmbiafloiompaaGreatDoorJV47
import Derived.Test.YtlmbiafloiompaaGreatDoorJV35
import Derived.Test.YtlmbiafloiompaaGreatDoorJV36
namespace Go.Proofs.YtlmbiafloiompaaGreatDoor
open Go
set_option linter.unusedVariables false
set_option linter.unusedSimpArgs false

theorem lines_good : ∀ (L : List (List UInt8)) (k : Nat) (s0 s : St), linesStep k L s0 = .ok s → GoodS s0 → StB s0 → (s0.ob.atoms.length ≤ 256 ∧ s0.ob.funs.length ≤ 256 ∧ s0.ob.preds.length ≤ 64 ∧ s0.ob.code.length ≤ 1024) → GoodS s ∧ StB s ∧ (s.ob.atoms.length ≤ 256 ∧ s.ob.funs.length ≤ 256 ∧ s.ob.preds.length ≤ 64 ∧ s.ob.code.length ≤ 1024)
  | [], k, s0, s, h, hg, hb, hl => by
    rw [linesStep] at h
    injection h with h
    subst h
    exact ⟨hg, hb, hl⟩
  | l :: L, k, s0, s, h, hg, hb, hl => by
    rw [linesStep] at h
    cases h1 : lineStep (k : Int) l s0 with
    | error e => rw [h1] at h; cases h
    | ok s1 =>
      rw [h1] at h
      simp only at h
      cases h2 : bigO s1.ob with
      | true => rw [h2, if_pos rfl] at h; cases h
      | false =>
        rw [h2, if_neg (by decide)] at h
        exact lines_good L (k + 1) s1 s h (line_good h1 hg (by omega)) (line_bd h1 hb (by omega)).1 (big_bd h2)

/-- Placed operands. -/
theorem placeArgs_get {labs : List (Int × Int)} {m : Nat} : ∀ {ks xs l : List Int}, placeArgs labs m ks xs = some l → ks.length ≤ xs.length → l.length = xs.length ∧ ∀ j, (j < ks.length ∧ ks.getD j 0 = 8 ∧ xs.getD j 0 ≠ 65535 → ∃ x, labOf labs (xs.getD j 0) = some x ∧ x < (m : Int) ∧ l.getD j 0 = x) ∧ (¬ (j < ks.length ∧ ks.getD j 0 = 8 ∧ xs.getD j 0 ≠ 65535) → l.getD j 0 = xs.getD j 0)
  | [], xs, l, h, _ => by
    rw [placeArgs] at h
    injection h with h
    subst h
    exact ⟨rfl, fun j => ⟨fun hj => absurd hj.1 (by simp), fun _ => rfl⟩⟩
  | k :: ks, [], l, h, hl => by simp at hl
  | k :: ks, x :: xs, l, h, hl => by
    rw [placeArgs] at h
    by_cases hc : k = 8 ∧ (x :: xs).headD 0 ≠ 65535
    · rw [if_pos hc] at h
      replace hc : k = 8 ∧ x ≠ 65535 := hc
      simp only [List.headD_cons, List.tail_cons] at h
      cases hy : labOf labs x with
      | none => rw [hy] at h; cases h
      | some y =>
        rw [hy] at h
        simp only at h
        by_cases hm : (m : Int) ≤ y
        · rw [if_pos hm] at h; cases h
        · rw [if_neg hm] at h
          cases h2 : placeArgs labs m ks xs with
          | none => rw [h2] at h; cases h
          | some l2 =>
            rw [h2] at h
            injection h with h
            subst h
            obtain ⟨g1, g2⟩ := placeArgs_get h2 (by simpa using hl)
            refine ⟨by simp [g1], fun j => ?_⟩
            cases j with
            | zero => exact ⟨fun _ => ⟨y, hy, by omega, rfl⟩, fun hn => absurd ⟨by simp, hc.1, hc.2⟩ hn⟩
            | succ j =>
              have := g2 j
              simpa using this
    · rw [if_neg hc] at h
      replace hc : ¬ (k = 8 ∧ x ≠ 65535) := hc
      simp only [List.headD_cons, List.tail_cons] at h
      cases h2 : placeArgs labs m ks xs with
      | none => rw [h2] at h; cases h
      | some l2 =>
        rw [h2] at h
        injection h with h
        subst h
        obtain ⟨g1, g2⟩ := placeArgs_get h2 (by simpa using hl)
        refine ⟨by simp [g1], fun j => ?_⟩
        cases j with
        | zero => exact ⟨fun hy => absurd ⟨hy.2.1, hy.2.2⟩ hc, fun _ => rfl⟩
        | succ j =>
          have := g2 j
          simpa using this
theorem labOf_mem {labs : List (Int × Int)} {k x : Int} (h : labOf labs k = some x) : ∃ q ∈ labs, q.2 = x := by
  unfold labOf at h
  cases hf : labs.find? (fun p => p.1 == k) with
  | none => rw [hf] at h; cases h
  | some q =>
    rw [hf] at h
    injection h with h
    exact ⟨q, List.mem_of_find?_eq_some hf, h⟩
/-- A placed instruction is one of an object that may be. -/
theorem placed_ok {o : Ob} {labs : List (Int × Int)} {m : Nat} {i j : Ins} (hi : GoodI o i) (hl : o.atoms.length ≤ 256 ∧ o.funs.length ≤ 256 ∧ o.preds.length ≤ 64) (hm : m ≤ 1024) (hlab : ∀ q ∈ labs, 0 ≤ q.2) (h : placeIns labs m i = some j) : insErr o.atoms.length o.funs.length o.preds.length m j = 0 := by
  unfold placeIns at h
  cases h2 : placeArgs labs m (opsOf i.1) (argOf i) with
  | none => rw [h2] at h; cases h
  | some l =>
    rw [h2] at h
    injection h with h
    subst h
    obtain ⟨i1, i2, i3, i4⟩ := hi
    have hfew := ops_few i.1
    obtain ⟨g1, g2⟩ := placeArgs_get h2 (by rw [argOf_len]; exact hfew)
    have hget : ∀ q, q < 4 → (argOf (insOf i.1 l)).getD q 0 = l.getD q 0 := fun q hq => argOf_ins _ _ q hq
    have hboth : ∀ q, q < (opsOf i.1).length → mayB i.1 ((opsOf i.1).getD q 0) (l.getD q 0) = true ∧ thereB o.atoms.length o.funs.length o.preds.length m ((opsOf i.1).getD q 0) (l.getD q 0) = true := fun q hq => by
      obtain ⟨a3, a4, a7, a8, ap⟩ := i3 q hq
      have gq := g2 q
      generalize (opsOf i.1).getD q 0 = kd at *
      generalize (argOf i).getD q 0 = n at *
      generalize l.getD q 0 = z at *
      by_cases h8 : kd = 8
      · subst h8
        have lo : lowOf 8 = 0 := by decide
        have hi : highOf 8 = 1023 := by decide
        by_cases hn : n = 65535
        · have hz : z = 65535 := by rw [gq.2 (fun h => h.2.2 hn), hn]
          have h26 : i.1 = 26 := by
            rcases a8 rfl with h | h
            · omega
            · exact h.1
          exact ⟨decide_eq_true (.inl ⟨h26, hz⟩), by simp [thereB, hz]⟩
        · obtain ⟨x, hx, hxm, hz⟩ := gq.1 ⟨hq, rfl, hn⟩
          obtain ⟨p, hp, hpx⟩ := labOf_mem hx
          have h0 := hlab p hp
          refine ⟨decide_eq_true (.inr ⟨by omega, by omega⟩), ?_⟩
          simp only [thereB]
          exact decide_eq_true (.inr ⟨by omega, by omega⟩)
      · have hz : z = n := gq.2 (fun h => h8 h.2.1)
        subst hz
        by_cases h3 : kd = 3
        · subst h3
          have lo : lowOf 3 = 0 := by decide
          have hi : highOf 3 = 255 := by decide
          have := a3 rfl
          refine ⟨decide_eq_true (.inr ⟨by omega, by omega⟩), ?_⟩
          simp only [thereB]
          exact decide_eq_true (by omega)
        · by_cases h4 : kd = 4
          · subst h4
            have lo : lowOf 4 = 0 := by decide
            have hi : highOf 4 = 255 := by decide
            have := a4 rfl
            refine ⟨decide_eq_true (.inr ⟨by omega, by omega⟩), ?_⟩
            simp only [thereB]
            exact decide_eq_true (by omega)
          · by_cases h7 : kd = 7
            · subst h7
              have lo : lowOf 7 = 0 := by decide
              have hi : highOf 7 = 63 := by decide
              have := a7 rfl
              refine ⟨decide_eq_true (.inr ⟨by omega, by omega⟩), ?_⟩
              simp only [thereB]
              exact decide_eq_true (by omega)
            · exact ⟨ap h3 h4 h7 h8, by simp [thereB, h3, h4, h7, h8]⟩
    have hright : rightB i.1 (argOf (insOf i.1 l)) = true := by
      rw [rightB, Bool.and_eq_true, List.all_eq_true]
      refine ⟨decide_eq_true ⟨i1, i2⟩, fun q hq => ?_⟩
      have hq4 : q < 4 := List.mem_range.1 hq
      rw [hget q hq4]
      by_cases hql : q < (opsOf i.1).length
      · exact (hboth q hql).1
      · have e1 : (opsOf i.1).getD q 0 = 0 := by rw [List.getD_eq_getElem?_getD, List.getElem?_eq_none (by omega)]; rfl
        have e2 : l.getD q 0 = 0 := by rw [(g2 q).2 (fun h => hql h.1)]; exact i4 q (by omega) hq4
        have lo : lowOf 0 = 0 := rfl
        have hi : highOf 0 = 0 := rfl
        rw [e1, e2]
        exact decide_eq_true (.inr ⟨by omega, by omega⟩)
    unfold insErr
    have e0 : (insOf i.1 l).1 = i.1 := rfl
    rw [e0, if_neg (by omega), if_neg (by rw [hright]; decide), if_pos]
    rw [List.all_eq_true]
    intro q hq
    have hq := List.mem_range.1 hq
    rw [hget q (by omega)]
    exact (hboth q hq).2

end Go.Proofs.YtlmbiafloiompaaGreatDoor

namespace Go.Proofs.YtlmbiafloiompaaGreatDoor
open Go
set_option linter.unusedVariables false
set_option linter.unusedSimpArgs false

/-- What is settled after so many instructions. -/
structure SetTo (s : St) (k : Nat) (o : Ob) : Prop where
  atoms : o.atoms = s.ob.atoms
  funs : o.funs = s.ob.funs
  preds : o.preds = s.ob.preds
  len : o.code.length = s.ob.code.length
  ok : ∀ j, j < k → insErr s.ob.atoms.length s.ob.funs.length s.ob.preds.length s.ob.code.length (o.code.getD j (0, 0, 0, 0, 0)) = 0
  rest : ∀ j, k ≤ j → o.code.getD j (0, 0, 0, 0, 0) = s.ob.code.getD j (0, 0, 0, 0, 0)

theorem pts_set {s : St} (hc : ∀ i ∈ s.ob.code, GoodI s.ob i) (hl : s.ob.atoms.length ≤ 256 ∧ s.ob.funs.length ≤ 256 ∧ s.ob.preds.length ≤ 64 ∧ s.ob.code.length ≤ 1024) (hlab : ∀ q ∈ s.labs, 0 ≤ q.2) :
    ∀ (ps : List (Int × Int × Bool)) (k : Nat) (o o' : Ob), ptsStep s.labs ps o = .ok o' → k ≤ s.ob.code.length → (ps.filter (fun p => !p.2.2)).map (fun p => p.2.1) = (List.range' k (s.ob.code.length - k)).map (fun k : Nat => (k : Int)) → SetTo s k o →
    SetTo s s.ob.code.length o' ∧ ∀ p ∈ ps, p.2.2 = true → p.2.1 < (s.ob.code.length : Int) ∧ (s.ob.preds.filter fun q => q.2.2 == p.2.1).length ≤ 1
  | [], k, o, o', h, hk, hr, hs => by
    rw [ptsStep] at h
    injection h with h
    subst h
    have hn : s.ob.code.length - k = 0 := by
      have := congrArg List.length hr
      simpa using this.symm
    have hk : k = s.ob.code.length := by omega
    rw [← hk] at *
    exact ⟨hk ▸ hs, fun p hp => absurd hp (by simp)⟩
  | p :: ps, k, o, o', h, hk, hr, hs => by
    rw [ptsStep] at h
    cases h1 : ptStep s.labs o p with
    | error e => rw [h1] at h; cases h
    | ok o1 =>
      rw [h1] at h
      simp only at h
      unfold ptStep at h1
      cases hb : p.2.2 with
      | true =>
        rw [if_pos hb] at h1
        by_cases hx : (o.code.length : Int) ≤ p.2.1 ∨ 1 < (o.preds.filter fun q => q.2.2 == p.2.1).length
        · rw [if_pos hx] at h1; cases h1
        · rw [if_neg hx] at h1
          injection h1 with h1
          subst h1
          rw [hs.len, hs.preds] at hx
          rw [List.filter_cons_of_neg (by simp [hb])] at hr
          obtain ⟨g1, g2⟩ := pts_set hc hl hlab ps k o o' h hk hr hs
          refine ⟨g1, fun q hq hqt => ?_⟩
          rcases List.mem_cons.1 hq with rfl | hq
          · omega
          · exact g2 q hq hqt
      | false =>
        rw [if_neg (by rw [hb]; decide)] at h1
        rw [List.filter_cons_of_pos (by simp [hb]), List.map_cons] at hr
        have hkn : k < s.ob.code.length := by
          have := congrArg List.length hr
          simp at this
          omega
        obtain ⟨m, hm⟩ : ∃ m, s.ob.code.length - k = m + 1 := ⟨s.ob.code.length - k - 1, by omega⟩
        rw [hm, List.range'_succ, List.map_cons] at hr
        injection hr with hr1 hr2
        have hm' : m = s.ob.code.length - (k + 1) := by omega
        rw [hm'] at hr2
        have hkk : p.2.1.toNat = k := by omega
        rw [hkk, hs.len, hs.rest k (Nat.le_refl _)] at h1
        cases hp : placeIns s.labs s.ob.code.length (s.ob.code.getD k (0, 0, 0, 0, 0)) with
        | none => rw [hp] at h1; cases h1
        | some i =>
          rw [hp] at h1
          injection h1 with h1
          subst h1
          have hmem : s.ob.code.getD k (0, 0, 0, 0, 0) ∈ s.ob.code := by
            rw [List.getD_eq_getElem?_getD, List.getElem?_eq_getElem hkn]
            exact List.getElem_mem hkn
          have hok := placed_ok (hc _ hmem) ⟨hl.1, hl.2.1, hl.2.2.1⟩ hl.2.2.2 hlab hp
          have hs' : SetTo s (k + 1) { o with code := o.code.set k i } := by
            refine ⟨hs.atoms, hs.funs, hs.preds, by simp [hs.len], fun j hj => ?_, fun j hj => ?_⟩
            · by_cases e : j = k
              · subst e
                simp only [List.getD_eq_getElem?_getD]
                rw [List.getElem?_set_self (by rw [hs.len]; exact hkn)]
                exact hok
              · have := hs.ok j (by omega)
                simp only [List.getD_eq_getElem?_getD] at this ⊢
                rw [List.getElem?_set_ne (by omega)]
                exact this
            · have := hs.rest j (by omega)
              simp only [List.getD_eq_getElem?_getD] at this ⊢
              rw [List.getElem?_set_ne (by omega)]
              exact this
          obtain ⟨g1, g2⟩ := pts_set hc hl hlab ps (k + 1) _ o' h hkn hr2 hs'
          refine ⟨g1, fun q hq hqt => ?_⟩
          rcases List.mem_cons.1 hq with rfl | hq
          · rw [hb] at hqt; cases hqt
          · exact g2 q hq hqt

theorem ents_once : ∀ l : List (ByteArray × Int × Int), (∀ p ∈ l, p.2.2 ≠ 65535 → (l.filter (fun q => q.2.2 == p.2.2)).length ≤ 1) → ((l.map (·.2.2)).filter (fun e => decide (e ≠ 65535))).Nodup
  | [], _ => by simp
  | p :: l, h => by
    have ht := ents_once l (fun q hq hne => by
      have := h q (List.mem_cons_of_mem _ hq) hne
      rw [List.filter_cons] at this
      split at this
      · simp only [List.length_cons] at this; omega
      · exact this)
    rw [List.map_cons]
    by_cases e : p.2.2 = 65535
    · rw [List.filter_cons_of_neg (by simp [e])]
      exact ht
    · rw [List.filter_cons_of_pos (by simp [e]), List.nodup_cons]
      refine ⟨fun hm => ?_, ht⟩
      obtain ⟨q, hq, he⟩ := List.mem_map.1 (List.mem_filter.1 hm).1
      have := h p List.mem_cons_self e
      rw [List.filter_cons_of_pos (by simp), List.length_cons] at this
      have hq' : q ∈ l.filter (fun q => q.2.2 == p.2.2) := List.mem_filter.2 ⟨hq, by simpa using he⟩
      have := List.length_pos_of_mem hq'
      omega

theorem code_ok {a f p c : Nat} : ∀ l : List Ins, (∀ i ∈ l, insErr a f p c i = 0) → codeErr a f p c l = 0
  | [], _ => rfl
  | i :: l, h => by
    rw [codeErr, if_pos (h i List.mem_cons_self)]
    exact code_ok l fun j hj => h j (List.mem_cons_of_mem _ hj)

theorem names_ok {o : Ob} (h : GoodT o) : namesOk o = true := by
  unfold namesOk
  rw [Bool.and_eq_true, Bool.and_eq_true, List.all_eq_true, List.all_eq_true, List.all_eq_true]
  refine ⟨⟨h.atoms, fun f hf => ?_⟩, fun f hf => ?_⟩
  · have := h.funs f hf
    simp [funOk, this.1, this.2.1, this.2.2]
  · obtain ⟨p, hp, rfl⟩ := List.mem_map.1 hf
    have := h.preds p hp
    simp [funOk, called, this.1, this.2.1, this.2.2]
theorem dup_ok {o : Ob} (h : GoodT o) : dupB o = false := by
  simp [dupB, twiceB, h.nda, h.ndf, h.ndp]

/-- Of what lines make, nothing is wrong. -/
theorem asm_check (ls : List (List UInt8)) : checkOf (asmOf ls).1 = 0 := by
  unfold asmOf
  cases h1 : linesStep 0 ls startSt with
  | error e => obtain ⟨e, n⟩ := e; exact rfl
  | ok s =>
    simp only
    cases h2 : ptsStep s.labs s.pts s.ob with
    | error e => obtain ⟨e, n⟩ := e; exact rfl
    | ok o =>
      simp only
      obtain ⟨hg, hb, hl⟩ := lines_good ls 0 startSt s h1 GoodS.start StB.start (by simp [startSt, emptyOb])
      obtain ⟨g1, g2⟩ := pts_set hg.code hl hb.labs s.pts 0 s.ob o h2 (by omega) (by rw [hg.pts, List.range_eq_range', Nat.sub_zero]) ⟨rfl, rfl, rfl, rfl, fun j hj => absurd hj (by omega), fun j _ => rfl⟩
      have hT : GoodT o := ⟨by rw [g1.atoms]; exact hg.t.atoms, by rw [g1.atoms]; exact hg.t.nda, by rw [g1.funs]; exact hg.t.funs, by rw [g1.funs]; exact hg.t.ndf, by rw [g1.preds]; exact hg.t.preds, by rw [g1.preds]; exact hg.t.ndp⟩
      have hents : entsOk o.code.length (o.preds.map (·.2.2)) = true := by
        unfold entsOk
        rw [Bool.and_eq_true, List.all_eq_true, g1.preds, g1.len]
        refine ⟨fun e he => ?_, decide_eq_true (ents_once _ fun p hp hne => ?_)⟩
        · obtain ⟨p, hp, rfl⟩ := List.mem_map.1 he
          rcases hg.ents p hp with h | ⟨h0, l, hm⟩
          · exact decide_eq_true (.inl h)
          · exact decide_eq_true (.inr ⟨h0, (g2 _ hm rfl).1⟩)
        · rcases hg.ents p hp with h | ⟨h0, l, hm⟩
          · exact absurd h hne
          · exact (g2 _ hm rfl).2
      have hbig : bigB o.atoms.length o.funs.length o.preds.length o.code.length = false := by
        rw [g1.atoms, g1.funs, g1.preds, g1.len]
        exact decide_eq_false (by omega)
      unfold checkOf
      rw [hbig, if_neg (by decide), names_ok hT, if_neg (by decide), dup_ok hT, if_neg (by decide), hents, if_neg (by decide)]
      refine code_ok _ fun i hi => ?_
      obtain ⟨j, hj, rfl⟩ := List.mem_iff_getElem.1 hi
      have := g1.ok j (by rw [← g1.len]; exact hj)
      rw [List.getD_eq_getElem?_getD, List.getElem?_eq_getElem hj] at this
      rw [g1.atoms, g1.funs, g1.preds, g1.len]
      exact this

end Go.Proofs.YtlmbiafloiompaaGreatDoor

namespace Go.Proofs.YtlmbiafloiompaaGreatDoor
open Go Go.RowKit
set_option linter.unusedVariables false
set_option linter.unusedSimpArgs false
set_option maxRecDepth 100000

theorem wf_okV {o : Ob} (h : checkOf o = 0) : ObWf o := by
  have hk := ok_of h
  have b : ∀ s : ByteArray, nameOk s = true → s.size ≤ maxLen := fun s hs => by
    have := (name_size hs).2
    unfold maxLen
    omega
  exact ⟨fun s hs => b s (hk.atoms s hs), fun f hf => b f.1 (hk.funs f hf).1, fun p hp => b p.1 (hk.preds p hp).1, by have := hk.la; omega, by have := hk.lf; omega, by have := hk.lp; omega, by have := hk.lc; omega⟩
theorem asm_wfV (ls : List (List UInt8)) : ObWf (asmOf ls).1 := wf_okV (asm_check ls)

/-- The second state's x, where the states lie. -/
theorem second_x {w : World} {A : Option Addr} {k : Nat} {l : List VSt} (hx : l.map (fun s => (s.x, s.y.length)) = [(1, 16), (9, 16)]) (h : CellsAt w (.slice A l.length k) l.length (l.flatMap stS)) :
    l.length = 2 ∧ ∃ b off, A = some ⟨b, off, none⟩ ∧ b < w.heap.size ∧ w.cell? ⟨b, off + 21, none⟩ = some (.int .u32 9) := by
  have hn : l.length = 2 := by have := congrArg List.length hx; simpa using this
  match l, hn, hx, h with
  | [s, t], _, hx, h =>
    simp only [List.map_cons, List.map_nil, List.cons.injEq, Prod.mk.injEq, and_true] at hx
    refine ⟨rfl, ?_⟩
    have hl : (stS s).length = 21 := by rw [stS, Array.length_toList]; exact stA_size ⟨hx.1.2, by omega⟩
    rcases h with ⟨h1, _, _⟩ | ⟨b, off, c, he, hb, hc⟩
    · simp at h1
    · cases he
      refine ⟨b, off, rfl, hb, ?_⟩
      refine hc 21 _ ?_
      simp only [List.flatMap_cons, List.flatMap_nil, List.append_nil]
      rw [List.getElem?_append_right (by omega), hl, Nat.sub_self, stS, Array.getElem?_toList, stA_x, hx.2.1]
      rfl

set_option maxHeartbeats 32000000 in
theorem told11_any {B : Nat} (w : World) (hp : LaidC B w) :
    Calls Tryz.prog 6 #[] w fun e w' => e = .returned (.bool true) ∧ Below w.heap.size w w' := by
  have HC := Lib.hid (fun ls hs hm v w hp hv => program_any pred_keeps ls hs hm v (B := B) w hp hv)
  have HK := Lib.hid (fun o va vf vp vc hw w hn hv => check11_any sort_ok sort_nil o hw (va := va) (vf := vf) (vp := vp) (vc := vc) w hn hv)
  have hbA := alloc_below w (.cells #[.string ⟨#[112, 114, 101, 100, 32, 112, 47, 49]⟩, .string ⟨#[103, 101, 116, 118, 97, 114, 32, 88, 51, 32, 88, 48]⟩, .string ⟨#[112, 114, 111, 99, 101, 101, 100]⟩] 9)
  have HBA := Lib.hid hbA
  have hxA := Box.new w 9 #[.string ⟨#[112, 114, 101, 100, 32, 112, 47, 49]⟩, .string ⟨#[103, 101, 116, 118, 97, 114, 32, 88, 51, 32, 88, 48]⟩, .string ⟨#[112, 114, 111, 99, 101, 101, 100]⟩]
  have HAA : Hid (AtomsAt (w.alloc (.cells #[.string ⟨#[112, 114, 101, 100, 32, 112, 47, 49]⟩, .string ⟨#[103, 101, 116, 118, 97, 114, 32, 88, 51, 32, 88, 48]⟩, .string ⟨#[112, 114, 111, 99, 101, 101, 100]⟩] 9)) (.slice (some ⟨w.heap.size, 0, none⟩) 3 3) told11A) := Lib.hid (.inr ⟨_, 0, 3, rfl, hxA.lt, fun k u hk => by rw [Nat.zero_add, hxA.cell k]; simpa [told11A] using hk⟩)
  have HPA := Lib.hid (hp.up hbA)
  have HP := Lib.hid hp
  have HA := Lib.hid told11A_is
  have HAS := Lib.hid told11A_st
  have HBI := Lib.hid told11B_is
  have HWA := Lib.hid (asm_wfV (told11A.map (·.data.toList)))
  have HWB := Lib.hid (asm_wfV (told11B.map (·.data.toList)))
  clear hbA hxA hp
  go_enter Tryz.func6, Tryz.ntmps6
  go_upto_region 2 with (go_at_call 12; refine (HC.out told11A (by decide) (by decide) _ _ HPA.out HAA.out).mono ?_; rintro e w2 ⟨va, vf, vp, vc, rfl, ho2, hb2⟩; have HO2 := Lib.hid ho2.at_; have HB2 := Lib.hid (HBA.out.trans (hb2.mono HBA.out.size)); obtain ⟨A1, c1, hva⟩ := ho2.at_.atoms.form; obtain ⟨A2, c2, hvf⟩ := ho2.at_.funs.form; obtain ⟨A3, c3, hvp⟩ := ho2.at_.preds.form; obtain ⟨A4, c4, hvc⟩ := ho2.at_.code.form; subst hva hvf hvp hvc; clear ho2 hb2)
  obtain ⟨oA, hoA⟩ : ∃ oA, (asmOf (told11A.map (·.data.toList))).1 = oA := ⟨_, rfl⟩
  rw [hoA] at HO2 HA HAS HWA ⊢
  clear hoA
  have HX2 := Lib.hid (Box.new w2 35 #[.slice A1 oA.atoms.length c1, .slice A2 oA.funs.length c2, .slice A3 oA.preds.length c3, .slice A4 oA.code.length c4])
  have HB3 := Lib.hid (HB2.out.alloc HB2.out.size (.cells #[.slice A1 oA.atoms.length c1, .slice A2 oA.funs.length c2, .slice A3 oA.preds.length c3, .slice A4 oA.code.length c4] 35))
  have HO3 := Lib.hid (HO2.out.below (alloc_below w2 (.cells #[.slice A1 oA.atoms.length c1, .slice A2 oA.funs.length c2, .slice A3 oA.preds.length c3, .slice A4 oA.code.length c4] 35)))
  obtain ⟨w3, hw3⟩ : ∃ w3, w2.alloc (.cells #[.slice A1 oA.atoms.length c1, .slice A2 oA.funs.length c2, .slice A3 oA.preds.length c3, .slice A4 oA.code.length c4] 35) = w3 := ⟨_, rfl⟩
  obtain ⟨gA, hgA⟩ : ∃ gA, w2.heap.size = gA := ⟨_, rfl⟩
  rw [hw3] at HX2 HB3 HO3 ⊢
  rw [hgA] at HX2 ⊢
  clear hw3 hgA HO2 HB2 HPA HAA HBA
  have hbB := alloc_below w3 (.cells #[.string ⟨#[112, 114, 101, 100, 32, 112, 47, 49]⟩, .string ⟨#[103, 101, 116, 118, 97, 108, 32, 88, 51, 32, 88, 48]⟩, .string ⟨#[112, 114, 111, 99, 101, 101, 100]⟩] 9)
  have hxB := Box.new w3 9 #[.string ⟨#[112, 114, 101, 100, 32, 112, 47, 49]⟩, .string ⟨#[103, 101, 116, 118, 97, 108, 32, 88, 51, 32, 88, 48]⟩, .string ⟨#[112, 114, 111, 99, 101, 101, 100]⟩]
  have HAB : Hid (AtomsAt (w3.alloc (.cells #[.string ⟨#[112, 114, 101, 100, 32, 112, 47, 49]⟩, .string ⟨#[103, 101, 116, 118, 97, 108, 32, 88, 51, 32, 88, 48]⟩, .string ⟨#[112, 114, 111, 99, 101, 101, 100]⟩] 9)) (.slice (some ⟨w3.heap.size, 0, none⟩) 3 3) told11B) := Lib.hid (.inr ⟨_, 0, 3, rfl, hxB.lt, fun k u hk => by rw [Nat.zero_add, hxB.cell k]; simpa [told11B] using hk⟩)
  have HBB := Lib.hid hbB
  have HPB := Lib.hid ((HP.out.up HB3.out).up hbB)
  clear hbB hxB
  go_upto_region 3 with (go_at_call 12; refine (HC.out told11B (by decide) (by decide) _ _ HPB.out HAB.out).mono ?_; rintro e w4 ⟨va, vf, vp, vc, rfl, ho4, hb4⟩; have HO4 := Lib.hid ho4.at_; have HB4 := Lib.hid (HBB.out.trans (hb4.mono HBB.out.size)); obtain ⟨B1, d1, hva⟩ := ho4.at_.atoms.form; obtain ⟨B2, d2, hvf⟩ := ho4.at_.funs.form; obtain ⟨B3, d3, hvp⟩ := ho4.at_.preds.form; obtain ⟨B4, d4, hvc⟩ := ho4.at_.code.form; subst hva hvf hvp hvc; clear ho4 hb4)
  obtain ⟨oB, hoB⟩ : ∃ oB, (asmOf (told11B.map (·.data.toList))).1 = oB := ⟨_, rfl⟩
  rw [hoB] at HO4 HBI HWB ⊢
  clear hoB
  have HX4 := Lib.hid (Box.new w4 35 #[.slice B1 oB.atoms.length d1, .slice B2 oB.funs.length d2, .slice B3 oB.preds.length d3, .slice B4 oB.code.length d4])
  have HB5 := Lib.hid (HB4.out.alloc HB4.out.size (.cells #[.slice B1 oB.atoms.length d1, .slice B2 oB.funs.length d2, .slice B3 oB.preds.length d3, .slice B4 oB.code.length d4] 35))
  have HO5 := Lib.hid (HO4.out.below (alloc_below w4 (.cells #[.slice B1 oB.atoms.length d1, .slice B2 oB.funs.length d2, .slice B3 oB.preds.length d3, .slice B4 oB.code.length d4] 35)))
  obtain ⟨w5, hw5⟩ : ∃ w5, w4.alloc (.cells #[.slice B1 oB.atoms.length d1, .slice B2 oB.funs.length d2, .slice B3 oB.preds.length d3, .slice B4 oB.code.length d4] 35) = w5 := ⟨_, rfl⟩
  obtain ⟨gB, hgB⟩ : ∃ gB, w4.heap.size = gB := ⟨_, rfl⟩
  rw [hw5] at HX4 HB5 HO5 ⊢
  rw [hgB] at HX4 ⊢
  clear hw5 hgB HO4 HB4 HPB HAB HBB
  have HX5 := Lib.hid (HX2.out.below HB5.out HX2.out.lt)
  have HOA5 := Lib.hid (HO3.out.below HB5.out)
  have HBw := Lib.hid (HB3.out.trans (HB5.out.mono HB3.out.size))
  have HP5 := Lib.hid (HP.out.up HBw.out)
  clear HX2 HO3 HB3 HB5 HC
  have q0 := HX5.out.cell 0
  have q1 := HX5.out.cell 1
  have q2 := HX5.out.cell 2
  have q3 := HX5.out.cell 3
  have HKA := Lib.hid (HK.out oA _ _ _ _ HWA.out w5 HP5.out.names HOA5.out)
  unfold CheckW at HKA
  rw [HA.out.2] at HKA
  simp only at HKA
  go_upto_region 4 with (go_at_call 13; refine HKA.out.mono ?_; rintro e w6 ⟨vs, vn, rfl, hvs, hvn, hb6⟩; obtain ⟨As, ks, hvsf⟩ := CellsAt.form hvs; obtain ⟨An, kn, hvnf⟩ := CellsAt.form hvn; subst hvsf hvnf; have HVS := Lib.hid hvs; have HB6 := Lib.hid hb6; clear hvs hvn hb6)
  clear HKA q0 q1 q2 q3
  obtain ⟨hn2, b, off, rfl, hb, h9⟩ := second_x HAS.out HVS.out
  rw [hn2]
  have HB7 := Lib.hid (HB6.out.alloc HB6.out.size (.cells #[.slice (some ⟨b, off, none⟩) 2 ks, .slice An (verifyOf oA).2.1.length kn] 49))
  have HX7 := Lib.hid (Box.new w6 49 #[.slice (some ⟨b, off, none⟩) 2 ks, .slice An (verifyOf oA).2.1.length kn])
  have H97 : Hid ((w6.alloc (.cells #[.slice (some ⟨b, off, none⟩) 2 ks, .slice An (verifyOf oA).2.1.length kn] 49)).cell? ⟨b, off + 21, none⟩ = some (.int .u32 9)) := Lib.hid (((alloc_below w6 (.cells #[.slice (some ⟨b, off, none⟩) 2 ks, .slice An (verifyOf oA).2.1.length kn] 49)).cell (p := ⟨b, off + 21, none⟩) hb).trans h9)
  have HL7 : Hid (b < (w6.alloc (.cells #[.slice (some ⟨b, off, none⟩) 2 ks, .slice An (verifyOf oA).2.1.length kn] 49)).heap.size) := Lib.hid (by rw [World.size_alloc]; omega)
  obtain ⟨w7, hw7⟩ : ∃ w7, w6.alloc (.cells #[.slice (some ⟨b, off, none⟩) 2 ks, .slice An (verifyOf oA).2.1.length kn] 49) = w7 := ⟨_, rfl⟩
  obtain ⟨gR, hgR⟩ : ∃ gR, w6.heap.size = gR := ⟨_, rfl⟩
  rw [hw7] at HB7 HX7 H97 HL7 ⊢
  rw [hgR] at HX7 ⊢
  have HX4b := Lib.hid (HX4.out.below HB7.out HX4.out.lt)
  have HO7 := Lib.hid (HO5.out.below HB7.out)
  have HP7 := Lib.hid (HP5.out.up HB7.out)
  have HBw7 := Lib.hid (HBw.out.trans (HB7.out.mono HBw.out.size))
  have HKB := Lib.hid (HK.out oB _ _ _ _ HWB.out w7 HP7.out.names HO7.out)
  unfold CheckW at HKB
  rw [HBI.out] at HKB
  simp only at HKB
  clear hw7 hgR hb h9 hn2 HVS HB6 HX5 HOA5 HX4 HO5 HB7 HBw HP5
  have q0 := HX4b.out.cell 0
  have q1 := HX4b.out.cell 1
  have q2 := HX4b.out.cell 2
  have q3 := HX4b.out.cell 3
  go_upto_region 5 with (go_at_call 13; refine HKB.out.mono ?_; rintro e w8 ⟨us, un, rfl, hus, hun, hb8⟩; obtain ⟨Bs, ls, husf⟩ := CellsAt.form hus; obtain ⟨Bn, ln, hunf⟩ := CellsAt.form hun; subst husf hunf; have HB8 := Lib.hid hb8; clear hus hun hb8)
  obtain ⟨nb, hnb⟩ : ∃ nb, (verifyOf oB).1.length = nb := ⟨_, rfl⟩
  obtain ⟨mb, hmb⟩ : ∃ mb, (verifyOf oB).2.1.length = mb := ⟨_, rfl⟩
  rw [hnb, hmb]
  clear hnb hmb q0 q1 q2 q3
  have HB9 := Lib.hid (HB8.out.alloc HB8.out.size (.cells #[.slice Bs nb ls, .slice Bn mb ln] 49))
  have HEND := Lib.hid (HBw7.out.trans (HB9.out.mono HBw7.out.size))
  have HX9 := Lib.hid (HX7.out.below HB9.out HX7.out.lt)
  have q0 := HX9.out.cell 0
  have q9 := (HB9.out.cell (p := ⟨b, off + 21, none⟩) HL7.out).trans H97.out
  go_wp2
  go_ret
  exact ⟨rfl, HEND.out⟩

end Go.Proofs.YtlmbiafloiompaaGreatDoor
