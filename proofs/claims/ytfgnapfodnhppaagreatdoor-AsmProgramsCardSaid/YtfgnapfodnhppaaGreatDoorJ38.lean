/-
  3 texts in one (AsmPD AsmGI AsmRK). Conditions: those of each theorem.
-/
import Derived.Test.YtfgnapfodnhppaaGreatDoorJ37
import Derived.Test.YtfgnapfodnhppaaGreatDoorJ36
import Derived.Test.YtfgnapfodnhppaaGreatDoorJ32
namespace Go.Proofs.YtfgnapfodnhppaaGreatDoor
open Go
set_option linter.unusedVariables false
set_option linter.unusedSimpArgs false

/-- What is settled after so many instructions. -/
structure SetTo (s : St) (k : Nat) (o : Ob) : Prop where
  atoms : o.atoms = s.ob.atoms
  funs : o.funs = s.ob.funs
  preds : o.preds = s.ob.preds
  len : o.code.length = s.ob.code.length
  ok : ∀ j, j < k → insErr s.ob.atoms.length s.ob.funs.length s.ob.preds.length s.ob.code.length (o.code.getD j (0, 0, 0, 0, 0)) = 0
  rest : ∀ j, k ≤ j → o.code.getD j (0, 0, 0, 0, 0) = s.ob.code.getD j (0, 0, 0, 0, 0)

theorem pts_set {s : St} (hc : ∀ i ∈ s.ob.code, GoodI s.ob i) (hl : s.ob.atoms.length ≤ 256 ∧ s.ob.funs.length ≤ 256 ∧ s.ob.preds.length ≤ 64 ∧ s.ob.code.length ≤ 1024) (hlab : ∀ q ∈ s.labs, 0 ≤ q.2) :
    ∀ (ps : List (Int × Int × Bool)) (k : Nat) (o o' : Ob), ptsStep s.labs ps o = .ok o' → k ≤ s.ob.code.length → (ps.filter (fun p => !p.2.2)).map (fun p => p.2.1) = (List.range' k (s.ob.code.length - k)).map (fun k : Nat => (k : Int)) → SetTo s k o →
    SetTo s s.ob.code.length o' ∧ ∀ p ∈ ps, p.2.2 = true → p.2.1 < (s.ob.code.length : Int) ∧ (s.ob.preds.filter fun q => q.2.2 == p.2.1).length ≤ 1
  | [], k, o, o', h, hk, hr, hs => by
    rw [ptsStep] at h
    injection h with h
    subst h
    have hn : s.ob.code.length - k = 0 := by
      have := congrArg List.length hr
      simpa using this.symm
    have hk : k = s.ob.code.length := by omega
    rw [← hk] at *
    exact ⟨hk ▸ hs, fun p hp => absurd hp (by simp)⟩
  | p :: ps, k, o, o', h, hk, hr, hs => by
    rw [ptsStep] at h
    cases h1 : ptStep s.labs o p with
    | error e => rw [h1] at h; cases h
    | ok o1 =>
      rw [h1] at h
      simp only at h
      unfold ptStep at h1
      cases hb : p.2.2 with
      | true =>
        rw [if_pos hb] at h1
        by_cases hx : (o.code.length : Int) ≤ p.2.1 ∨ 1 < (o.preds.filter fun q => q.2.2 == p.2.1).length
        · rw [if_pos hx] at h1; cases h1
        · rw [if_neg hx] at h1
          injection h1 with h1
          subst h1
          rw [hs.len, hs.preds] at hx
          rw [List.filter_cons_of_neg (by simp [hb])] at hr
          obtain ⟨g1, g2⟩ := pts_set hc hl hlab ps k o o' h hk hr hs
          refine ⟨g1, fun q hq hqt => ?_⟩
          rcases List.mem_cons.1 hq with rfl | hq
          · omega
          · exact g2 q hq hqt
      | false =>
        rw [if_neg (by rw [hb]; decide)] at h1
        rw [List.filter_cons_of_pos (by simp [hb]), List.map_cons] at hr
        have hkn : k < s.ob.code.length := by
          have := congrArg List.length hr
          simp at this
          omega
        obtain ⟨m, hm⟩ : ∃ m, s.ob.code.length - k = m + 1 := ⟨s.ob.code.length - k - 1, by omega⟩
        rw [hm, List.range'_succ, List.map_cons] at hr
        injection hr with hr1 hr2
        have hm' : m = s.ob.code.length - (k + 1) := by omega
        rw [hm'] at hr2
        have hkk : p.2.1.toNat = k := by omega
        rw [hkk, hs.len, hs.rest k (Nat.le_refl _)] at h1
        cases hp : placeIns s.labs s.ob.code.length (s.ob.code.getD k (0, 0, 0, 0, 0)) with
        | none => rw [hp] at h1; cases h1
        | some i =>
          rw [hp] at h1
          injection h1 with h1
          subst h1
          have hmem : s.ob.code.getD k (0, 0, 0, 0, 0) ∈ s.ob.code := by
            rw [List.getD_eq_getElem?_getD, List.getElem?_eq_getElem hkn]
            exact List.getElem_mem hkn
          have hok := placed_ok (hc _ hmem) ⟨hl.1, hl.2.1, hl.2.2.1⟩ hl.2.2.2 hlab hp
          have hs' : SetTo s (k + 1) { o with code := o.code.set k i } := by
            refine ⟨hs.atoms, hs.funs, hs.preds, by simp [hs.len], fun j hj => ?_, fun j hj => ?_⟩
            · by_cases e : j = k
              · subst e
                simp only [List.getD_eq_getElem?_getD]
                rw [List.getElem?_set_self (by rw [hs.len]; exact hkn)]
                exact hok
              · have := hs.ok j (by omega)
                simp only [List.getD_eq_getElem?_getD] at this ⊢
                rw [List.getElem?_set_ne (by omega)]
                exact this
            · have := hs.rest j (by omega)
              simp only [List.getD_eq_getElem?_getD] at this ⊢
              rw [List.getElem?_set_ne (by omega)]
              exact this
          obtain ⟨g1, g2⟩ := pts_set hc hl hlab ps (k + 1) _ o' h hkn hr2 hs'
          refine ⟨g1, fun q hq hqt => ?_⟩
          rcases List.mem_cons.1 hq with rfl | hq
          · rw [hb] at hqt; cases hqt
          · exact g2 q hq hqt

theorem ents_once : ∀ l : List (ByteArray × Int × Int), (∀ p ∈ l, p.2.2 ≠ 65535 → (l.filter (fun q => q.2.2 == p.2.2)).length ≤ 1) → ((l.map (·.2.2)).filter (fun e => decide (e ≠ 65535))).Nodup
  | [], _ => by simp
  | p :: l, h => by
    have ht := ents_once l (fun q hq hne => by
      have := h q (List.mem_cons_of_mem _ hq) hne
      rw [List.filter_cons] at this
      split at this
      · simp only [List.length_cons] at this; omega
      · exact this)
    rw [List.map_cons]
    by_cases e : p.2.2 = 65535
    · rw [List.filter_cons_of_neg (by simp [e])]
      exact ht
    · rw [List.filter_cons_of_pos (by simp [e]), List.nodup_cons]
      refine ⟨fun hm => ?_, ht⟩
      obtain ⟨q, hq, he⟩ := List.mem_map.1 (List.mem_filter.1 hm).1
      have := h p List.mem_cons_self e
      rw [List.filter_cons_of_pos (by simp), List.length_cons] at this
      have hq' : q ∈ l.filter (fun q => q.2.2 == p.2.2) := List.mem_filter.2 ⟨hq, by simpa using he⟩
      have := List.length_pos_of_mem hq'
      omega

theorem code_ok {a f p c : Nat} : ∀ l : List Ins, (∀ i ∈ l, insErr a f p c i = 0) → codeErr a f p c l = 0
  | [], _ => rfl
  | i :: l, h => by
    rw [codeErr, if_pos (h i List.mem_cons_self)]
    exact code_ok l fun j hj => h j (List.mem_cons_of_mem _ hj)

theorem names_ok {o : Ob} (h : GoodT o) : namesOk o = true := by
  unfold namesOk
  rw [Bool.and_eq_true, Bool.and_eq_true, List.all_eq_true, List.all_eq_true, List.all_eq_true]
  refine ⟨⟨h.atoms, fun f hf => ?_⟩, fun f hf => ?_⟩
  · have := h.funs f hf
    simp [funOk, this.1, this.2.1, this.2.2]
  · obtain ⟨p, hp, rfl⟩ := List.mem_map.1 hf
    have := h.preds p hp
    simp [funOk, called, this.1, this.2.1, this.2.2]
theorem dup_ok {o : Ob} (h : GoodT o) : dupB o = false := by
  simp [dupB, twiceB, h.nda, h.ndf, h.ndp]

/-- Of what lines make, nothing is wrong. -/
theorem asm_check (ls : List (List UInt8)) : checkOf (asmOf ls).1 = 0 := by
  unfold asmOf
  cases h1 : linesStep 0 ls startSt with
  | error e => obtain ⟨e, n⟩ := e; exact rfl
  | ok s =>
    simp only
    cases h2 : ptsStep s.labs s.pts s.ob with
    | error e => obtain ⟨e, n⟩ := e; exact rfl
    | ok o =>
      simp only
      obtain ⟨hg, hb, hl⟩ := lines_good ls 0 startSt s h1 GoodS.start StB.start (by simp [startSt, emptyOb])
      obtain ⟨g1, g2⟩ := pts_set hg.code hl hb.labs s.pts 0 s.ob o h2 (by omega) (by rw [hg.pts, List.range_eq_range', Nat.sub_zero]) ⟨rfl, rfl, rfl, rfl, fun j hj => absurd hj (by omega), fun j _ => rfl⟩
      have hT : GoodT o := ⟨by rw [g1.atoms]; exact hg.t.atoms, by rw [g1.atoms]; exact hg.t.nda, by rw [g1.funs]; exact hg.t.funs, by rw [g1.funs]; exact hg.t.ndf, by rw [g1.preds]; exact hg.t.preds, by rw [g1.preds]; exact hg.t.ndp⟩
      have hents : entsOk o.code.length (o.preds.map (·.2.2)) = true := by
        unfold entsOk
        rw [Bool.and_eq_true, List.all_eq_true, g1.preds, g1.len]
        refine ⟨fun e he => ?_, decide_eq_true (ents_once _ fun p hp hne => ?_)⟩
        · obtain ⟨p, hp, rfl⟩ := List.mem_map.1 he
          rcases hg.ents p hp with h | ⟨h0, l, hm⟩
          · exact decide_eq_true (.inl h)
          · exact decide_eq_true (.inr ⟨h0, (g2 _ hm rfl).1⟩)
        · rcases hg.ents p hp with h | ⟨h0, l, hm⟩
          · exact absurd h hne
          · exact (g2 _ hm rfl).2
      have hbig : bigB o.atoms.length o.funs.length o.preds.length o.code.length = false := by
        rw [g1.atoms, g1.funs, g1.preds, g1.len]
        exact decide_eq_false (by omega)
      unfold checkOf
      rw [hbig, if_neg (by decide), names_ok hT, if_neg (by decide), dup_ok hT, if_neg (by decide), hents, if_neg (by decide)]
      refine code_ok _ fun i hi => ?_
      obtain ⟨j, hj, rfl⟩ := List.mem_iff_getElem.1 hi
      have := g1.ok j (by rw [← g1.len]; exact hj)
      rw [List.getD_eq_getElem?_getD, List.getElem?_eq_getElem hj] at this
      rw [g1.atoms, g1.funs, g1.preds, g1.len]
      exact this

end Go.Proofs.YtfgnapfodnhppaaGreatDoor

namespace Go.Proofs.YtfgnapfodnhppaaGreatDoor
open Go Go.RowKit Go.WideShapes Go.ChangeShapes
set_option linter.unusedVariables false
set_option linter.unusedSimpArgs false

theorem ins_at (i : Ins) (m : Nat) (hm : m < 4) : (insC i).toArray[1 + m]? = some (.int .i64 ((argOf i).getD m 0)) := by
  match m, hm with
  | 0, _ => rfl
  | 1, _ => rfl
  | 2, _ => rfl
  | 3, _ => rfl
theorem strs_own {w : World} {base : Nat} {A : Option Addr} {c : Nat} {us : List (List UInt8)} (h : w.ownsRow base 9 1 (.slice A us.length c) us.length (strs us)) (hn : 0 < us.length) : ∃ b, A = some ⟨b, 0, none⟩ ∧ b < w.heap.size ∧ ∀ k, k < us.length → w.cell? ⟨b, k, none⟩ = some (.string (bs (us.getD k []))) := by
  obtain ⟨b, cp, hv⟩ := own_some h hn
  injection hv with hA _ _
  subst hA
  refine ⟨b, rfl, (own_ge h rfl).2, fun k hk => ?_⟩
  have c0 := h.cells (g := b) rfl k (.string (bs (us.getD k []))) (by
    unfold strs
    rw [List.getElem?_map, List.getElem?_eq_getElem hk, List.getD_eq_getElem?_getD, List.getElem?_eq_getElem hk]
    rfl)
  rw [add_plain, Nat.zero_add] at c0
  exact c0

/-- What is placed after so many instructions. -/
structure SetP (s : St) (k : Nat) (o : Ob) : Prop where
  len : o.code.length = s.ob.code.length
  ok : ∀ j, j < k → placeIns s.labs s.ob.code.length (s.ob.code.getD j (0, 0, 0, 0, 0)) = some (o.code.getD j (0, 0, 0, 0, 0))
  rest : ∀ j, k ≤ j → o.code.getD j (0, 0, 0, 0, 0) = s.ob.code.getD j (0, 0, 0, 0, 0)
theorem pts_placed {s : St} : ∀ (ps : List (Int × Int × Bool)) (k : Nat) (o o' : Ob), ptsStep s.labs ps o = .ok o' → k ≤ s.ob.code.length → (ps.filter (fun p => !p.2.2)).map (fun p => p.2.1) = (List.range' k (s.ob.code.length - k)).map (fun k : Nat => (k : Int)) → SetP s k o → SetP s s.ob.code.length o'
  | [], k, o, o', h, hk, hr, hs => by
    rw [ptsStep] at h
    injection h with h
    subst h
    have hn : s.ob.code.length - k = 0 := by
      have := congrArg List.length hr
      simpa using this.symm
    have hk : k = s.ob.code.length := by omega
    rw [← hk] at *
    exact hk ▸ hs
  | p :: ps, k, o, o', h, hk, hr, hs => by
    rw [ptsStep] at h
    cases h1 : ptStep s.labs o p with
    | error e => rw [h1] at h; cases h
    | ok o1 =>
      rw [h1] at h
      simp only at h
      unfold ptStep at h1
      cases hb : p.2.2 with
      | true =>
        rw [if_pos hb] at h1
        by_cases hx : (o.code.length : Int) ≤ p.2.1 ∨ 1 < (o.preds.filter fun q => q.2.2 == p.2.1).length
        · rw [if_pos hx] at h1; cases h1
        · rw [if_neg hx] at h1
          injection h1 with h1
          subst h1
          rw [List.filter_cons_of_neg (by simp [hb])] at hr
          exact pts_placed ps k o o' h hk hr hs
      | false =>
        rw [if_neg (by rw [hb]; decide)] at h1
        rw [List.filter_cons_of_pos (by simp [hb]), List.map_cons] at hr
        have hkn : k < s.ob.code.length := by
          have := congrArg List.length hr
          simp at this
          omega
        obtain ⟨m, hm⟩ : ∃ m, s.ob.code.length - k = m + 1 := ⟨s.ob.code.length - k - 1, by omega⟩
        rw [hm, List.range'_succ, List.map_cons] at hr
        injection hr with hr1 hr2
        have hm' : m = s.ob.code.length - (k + 1) := by omega
        rw [hm'] at hr2
        have hkk : p.2.1.toNat = k := by omega
        rw [hkk, hs.len, hs.rest k (Nat.le_refl _)] at h1
        cases hp : placeIns s.labs s.ob.code.length (s.ob.code.getD k (0, 0, 0, 0, 0)) with
        | none => rw [hp] at h1; cases h1
        | some i =>
          rw [hp] at h1
          injection h1 with h1
          subst h1
          have hs' : SetP s (k + 1) { o with code := o.code.set k i } := by
            refine ⟨by simp [hs.len], fun j hj => ?_, fun j hj => ?_⟩
            · by_cases e : j = k
              · subst e
                rw [hp]
                simp only [List.getD_eq_getElem?_getD]
                rw [List.getElem?_set_self (by rw [hs.len]; exact hkn)]
                rfl
              · have := hs.ok j (by omega)
                rw [this]
                simp only [List.getD_eq_getElem?_getD]
                rw [List.getElem?_set_ne (by omega)]
            · have := hs.rest j (by omega)
              simp only [List.getD_eq_getElem?_getD] at this ⊢
              rw [List.getElem?_set_ne (by omega)]
              exact this
          exact pts_placed ps (k + 1) _ o' h hkn hr2 hs'

end Go.Proofs.YtfgnapfodnhppaaGreatDoor

namespace Go.Proofs.YtfgnapfodnhppaaGreatDoor
open Go Go.RowKit Go.WideShapes Go.ChangeShapes
set_option linter.unusedVariables false
set_option linter.unusedSimpArgs false

theorem slUsed : SlT 63 68 3 24 := ⟨Tryz.underlying63, ⟨.agg #[.int .i64 0, .int .i64 0, .int .i64 0], by kernel_rfl, rfl⟩, by decide, by decide⟩
theorem slLines : SlT 64 72 2 16 := ⟨Tryz.underlying64, ⟨.agg #[.int .i64 0, .int .i64 0], by kernel_rfl, rfl⟩, by decide, by decide⟩
section
variable {base : Nat} {w w6 : World} {g : Nat} {va vf vp vc vu vl v6 : Value} {s : Rs}
/-- A pred line comes. -/
theorem Rm.putl {k n : Int} (h : Rm base w g va vf vp vc vu vl s) (ha : App w w6 base 72 2 vl v6 (s.lines.length + 1) ((s.lines.flatMap lnC) ++ [.int .i64 k, .int .i64 n])) :
    Rm base (w6.setCell ⟨g, 1029, none⟩ v6) g va vf vp vc vu v6 { s with lines := s.lines ++ [(k, n)] } ∧ w6.cell? ⟨g, 1029, none⟩ = some vl ∧ w6.frozen? ⟨g, 1029, none⟩ = false := by
  have hbx := h.t.box.fr ha.fr (fun e => own_ne_box h.rl h.t.box (by decide) _ e rfl)
  have hfar : ∀ {base' n' size' : Nat} {e' : TypeId} {u : Value} {xs : List Value}, w.ownsRow base' e' size' u n' xs → e' ≠ 72 → e' ≠ 66 → (w6.setCell ⟨g, 1029, none⟩ v6).ownsRow base' e' size' u n' xs := fun hu he hb => by
    have h1 := own_fr hu ha.fr (fun k hk e => own_ne_own hu h.rl he k hk e)
    exact own_set_far h1 (p := ⟨g, 1029, none⟩) (fun k hk => own_ne_box h1 hbx hb k hk) v6
  have hb := hbx.set_ 1029 v6
  rw [rcs_setl h.t.len] at hb
  refine ⟨⟨⟨hb, h.t.len, hfar h.t.ra (by decide) (by decide), hfar h.t.rf (by decide) (by decide), hfar h.t.rp (by decide) (by decide), hfar h.t.rc (by decide) (by decide), h.t.ge⟩, hfar h.ru (by decide) (by decide), ?_⟩, (hbx.cell 1029).trans (rcs_l h.t.len), hbx.frozen 1029⟩
  have h2 := own_set_far ha.own (p := ⟨g, 1029, none⟩) (fun k hk => own_ne_box ha.own hbx (by decide) k hk) v6
  simpa [lnC] using h2
/-- A predicate's Entry is set. -/
theorem Rm.ent {gp cp : Nat} (h : Rm base w g va vf (.slice (some ⟨gp, 0, none⟩) s.ob.preds.length cp) vc vu vl s) (i : Nat) (hi : i < s.ob.preds.length) (x : Int) :
    Rm base (w.setCell ⟨gp, i * 3 + 2, none⟩ (.int .i64 x)) g va vf (.slice (some ⟨gp, 0, none⟩) s.ob.preds.length cp) vc vu vl { s with ob := { s.ob with preds := s.ob.preds.set i (s.ob.preds[i].1, s.ob.preds[i].2.1, x) } } ∧ (∃ z, w.cell? ⟨gp, i * 3 + 2, none⟩ = some z) ∧ w.frozen? ⟨gp, i * 3 + 2, none⟩ = false ∧ base ≤ gp := by
  have hc := h.t.rp.cells (g := gp) rfl (i * 3 + 2) _ (flat_ent s.ob.preds i hi)
  rw [add_plain, Nat.zero_add] at hc
  have hz : w.frozen? ⟨gp, i * 3 + 2, none⟩ = false := by
    rcases h.t.rp.2 with ⟨h0, _⟩ | ⟨g', cap, cur, h1, _, hh, _⟩
    · simp at h0
    · injection h1 with h1 _ _
      injection h1 with h1
      injection h1 with h1
      subst h1
      exact frozen_of_row w gp (i * 3 + 2) cur _ hh
  have hfar : ∀ {base' n' size' : Nat} {e' : TypeId} {u : Value} {xs : List Value}, w.ownsRow base' e' size' u n' xs → e' ≠ 73 → (w.setCell ⟨gp, i * 3 + 2, none⟩ (.int .i64 x)).ownsRow base' e' size' u n' xs := fun hu he =>
    own_set_far hu (p := ⟨gp, i * 3 + 2, none⟩) (fun k hk e => own_ne_own hu h.t.rp he k hk (by rw [e]; rfl)) _
  refine ⟨⟨⟨h.t.box.far (p := ⟨gp, i * 3 + 2, none⟩) (fun e => own_ne_box h.t.rp h.t.box (by decide) gp rfl e.symm) _, h.t.len, hfar h.t.ra (by decide), hfar h.t.rf (by decide), ?_, hfar h.t.rc (by decide), h.t.ge⟩, hfar h.ru (by decide), hfar h.rl (by decide)⟩, ⟨_, hc⟩, hz, (own_ge h.t.rp rfl).1⟩
  show World.ownsRow _ _ _ _ _ (s.ob.preds.set i _).length ((s.ob.preds.set i _).flatMap predC)
  rw [List.length_set, ← flat_set_ent s.ob.preds i x hi]
  exact (World.ownsRow.stored h.t.rp _ _).1
end
theorem lineAt {w : World} {base : Nat} {A : Option Addr} {c : Nat} {l : List (Int × Int)} (h : w.ownsRow base 72 2 (.slice A l.length c) l.length (l.flatMap lnC)) (k : Nat) (hk : k < l.length) :
    ∃ b, A = some ⟨b, 0, none⟩ ∧ w.cell? ⟨b, k * 2, none⟩ = some (.int .i64 l[k].1) := by
  obtain ⟨b, cp, hv⟩ := own_some h (by omega)
  injection hv with hA _ _
  subst hA
  have hf := flat_at lnC 2 (fun _ => rfl) l k l[k] (by simp [hk])
  have c0 := h.cells (g := b) rfl _ _ (hf 0 (by omega))
  rw [add_plain, Nat.zero_add] at c0
  exact ⟨b, rfl, c0⟩

set_option maxRecDepth 100000 in
set_option maxHeartbeats 16000000 in
theorem rline_pred {base : Nat} {w : World} {g : Nat} {va vf vp vc vu vl : Value} {s : Rs} (hk : Rm base w g va vf vp vc vu vl s) (hb : base ≤ w.heap.size) (hl : s.ob.preds.length ≤ 900000 ∧ s.ob.code.length ≤ 1000000 ∧ s.lines.length ≤ 1000000) (n : Int) (y : List UInt8) (x : ByteArray) (hx : x.size ≤ 10000) (hy : y.length ≤ 10000) (hxs : splitW x.data.toList = [predB, y]) :
    Calls Tryz.prog 21 #[.pointer (some ⟨g, 0, none⟩), .string x, .int .i64 n] w (RLineW base w g (rPredLine n y s)) := by
  have HW := Lib.hid (fun w => rwords_any x (by omega) w)
  unfold WordsRes at HW
  rw [hxs] at HW
  have HK := Lib.hid hk
  have HB := Lib.hid hb
  have HS := Lib.hid (fun w => rslash_any (bs y) (by rw [bs_size]; omega) 0 (by decide) w)
  rw [bs_data] at HS
  have HR : Hid (rPredLine n y s = match funOf y 0 with
    | none => .error 17
    | some f => if (predStep s.ob f).1 ∈ s.lines.map (·.1) then .error 11
      else .ok { s with ob := { (predStep s.ob f).2 with preds := (predStep s.ob f).2.preds.set (predStep s.ob f).1.toNat (f.1, f.2, (s.ob.code.length : Int)) }, lines := s.lines ++ [((predStep s.ob f).1, n)] }) := Lib.hid rfl
  generalize rPredLine n y s = r at HR
  have hcw : ∀ {W : World} {A : Option Addr} {c : Nat} {bb : Nat}, W.ownsRow bb 9 1 (.slice A [predB, y].length c) [predB, y].length (strs [predB, y]) → ∃ b, A = some ⟨b, 0, none⟩ ∧ W.cell? ⟨b, 0, none⟩ = some (.string ⟨#[112, 114, 101, 100]⟩) ∧ W.cell? ⟨b, 1, none⟩ = some (.string (bs y)) := fun h => by
    obtain ⟨b, h1, _, h3⟩ := strs_own h (by simp)
    exact ⟨b, h1, h3 0 (by simp), h3 1 (by simp)⟩
  have HCW := Lib.hid (fun W A c bb h => hcw (W := W) (A := A) (c := c) (bb := bb) h)
  clear hk hb hxs hcw
  cases hf : funOf y 0 with
  | none =>
    rw [hf] at HR HS
    have HX : Hid (r = .error 17) := HR
    unfold slashRes at HS
    simp only at HS
    go_enter Tryz.func21, Tryz.ntmps21
    go_wp2_with (first
      | (go_at_call 52; refine (HW.out _).mono ?_; rintro e w2 ⟨vw, rfl, hown, hb2⟩; have HB2 := Lib.hid hb2; obtain ⟨Aw, cw, hvw, _⟩ := own_form hown; subst hvw; obtain ⟨bw, rfl, x0, x1⟩ := HCW.out _ _ _ _ hown; clear hown hb2)
      | (go_at_call 53; refine (HS.out _).mono ?_; rintro e w3 ⟨rfl, hb3⟩; have HB3 := Lib.hid (HB2.out.trans (hb3.mono HB2.out.size)); clear hb3))
    go_ret
    exact rlineW_err HX.out (HB3.out.mono HB.out)
  | some f =>
    obtain ⟨f, m⟩ := f
    have hbd := funOf_least hf
    simp only at hbd
    rw [hf] at HR HS
    unfold slashRes at HS
    simp only at HS HR
    obtain ⟨i, hi, hi1, hi2, hi3⟩ := predStep_at s.ob (f, m)
    have hpc := predStep_code s.ob (f, m)
    have e0 : ¬ m < 0 := by omega
    have HPR := Lib.hid (fun W (h : Rt base W g va vf vp vc vu vl s.labs s.ob) hbb => rpred9_any h hbb (by omega) f m)
    unfold RPredW at HPR
    rw [hi1] at HR HPR
    simp only [Int.toNat_natCast] at HR
    generalize hps : predStep s.ob (f, m) = ps at *
    obtain ⟨p1, o2⟩ := ps
    simp only at hi hi1 hi2 hi3 hpc HR HPR
    clear hf hps hi1 p1
    go_enter Tryz.func21, Tryz.ntmps21
    go_upto_region 8 with (first
      | (go_at_call 52; refine (HW.out _).mono ?_; rintro e w2 ⟨vw, rfl, hown, hb2⟩; have HK2 := Lib.hid (HK.out.goes hb2); have HB2 := Lib.hid hb2; obtain ⟨Aw, cw, hvw, _⟩ := own_form hown; subst hvw; obtain ⟨bw, rfl, x0, x1⟩ := HCW.out _ _ _ _ hown; clear hown hb2)
      | (go_at_call 53; refine (HS.out _).mono ?_; rintro e w3 ⟨rfl, hb3⟩; have HK3 := Lib.hid (HK2.out.goes hb3); have HB3 := Lib.hid (HB2.out.trans (hb3.mono HB2.out.size)); clear hb3)
      | (go_at_call 54; refine (HPR.out _ HK3.out.t (Nat.le_trans HB.out HB3.out.size)).mono ?_; rintro e w4 ⟨vp', rfl, hk4, hf4⟩; have HK4 := Lib.hid (HK3.out.after hk4 hf4); have HB4 : Hid (Below base w w4) := Lib.hid ((HB3.out.mono HB.out).trans (hf4.under HK3.out.t (Nat.le_trans HB.out HB3.out.size))); clear hk4 hf4))
    obtain ⟨Al, cl, hvl, _⟩ := own_form HK4.out.rl
    subst hvl
    have k29 := (HK4.out.t.box.cell 1029).trans (rcs_l HK4.out.t.len)
    have HRL := Lib.hid HK4.out.rl
    simp only at HRL
    go_loop [6, 11] (fun _ j => ∃ k : Nat, k ≤ s.lines.length ∧ j = .int .i64 k ∧ Hid (∀ q (hq : q < s.lines.length), q < k → s.lines[q].1 ≠ (i : Int))) (fun _ j => s.lines.length - (intOf j).toNat)
    case atStart => exact ⟨0, by omega, rfl, Lib.hid (fun q _ h => absurd h (by omega))⟩
    case round =>
    obtain ⟨k, hkl, rfl, HP⟩ := hrel
    by_cases hlt : k < s.lines.length
    case pos =>
      obtain ⟨bl, rfl, d0⟩ := lineAt HRL.out k hlt
      by_cases he : s.lines[k].1 = (i : Int)
      · have HX : Hid (r = .error 11) := Lib.hid (by rw [HR.out, if_pos (List.mem_map.2 ⟨s.lines[k], List.getElem_mem hlt, he⟩)])
        rw [he] at d0
        go_wp2
        go_ret
        exact rlineW_err HX.out HB4.out
      · have HP2 : Hid (∀ q (hq : q < s.lines.length), q < k + 1 → s.lines[q].1 ≠ (i : Int)) := Lib.hid (fun q hq h => by
          by_cases e : q = k
          · subst e; exact he
          · exact HP.out q hq (by omega))
        generalize s.lines[k].1 = z at *
        have e1 : (z == (i : Int)) = false := by simpa using he
        go_wp2
        go_round
        case rel => exact ⟨k + 1, by omega, by go_num, HP2⟩
        case measure => simp [intOf]; omega
    case neg =>
    obtain rfl : k = s.lines.length := by omega
    have HX : Hid (r = .ok { s with ob := ⟨o2.atoms, o2.funs, o2.preds.set i (f, m, (s.ob.code.length : Int)), s.ob.code⟩, lines := s.lines ++ [((i : Int), n)] }) := Lib.hid (by
      rw [HR.out, if_neg (fun h => by
        obtain ⟨q, hq, hq2⟩ := List.mem_map.1 h
        obtain ⟨j, hj, rfl⟩ := List.getElem_of_mem hq
        exact HP.out j hj hj hq2), hpc])
    obtain ⟨gp, cp, hvp⟩ := own_some HK4.out.t.rp (by simp only; omega)
    subst hvp
    obtain ⟨A4, c4, hvc, _⟩ := own_form HK4.out.t.rc
    subst hvc
    have k2 := HK4.out.t.cells.2.2.1
    have k3 := HK4.out.t.cells.2.2.2
    have HEN := Lib.hid (fun mm => (HK4.out.goes (show Below w4.heap.size w4 (w4.drewN mm) from ⟨rfl, rfl, rfl, Nat.le_refl _, fun _ _ => rfl⟩)).ent i hi (s.ob.code.length : Int))
    obtain ⟨_, ⟨z0, hz0⟩, hz1, hz2⟩ := HK4.out.ent i hi (s.ob.code.length : Int)
    have HGP := Lib.hid hz2
    simp only at hz0 hz1 k2 k3 HEN
    rw [hpc] at k3 HEN
    rw [hi2, hi3] at HEN
    have i1 : (i : Int) < (o2.preds.length : Int) := by omega
    have i2 : (0 : Int) ≤ (i : Int) := by omega
    go_upto_region 12 with (fail)
    go_cut [] (fun wc => Hid (Rm base wc g va vf (.slice (some ⟨gp, 0, none⟩) o2.preds.length cp) (.slice A4 s.ob.code.length c4) vu (.slice Al s.lines.length cl) { s with ob := ⟨o2.atoms, o2.funs, o2.preds.set i (f, m, (s.ob.code.length : Int)), s.ob.code⟩ }) ∧ Hid (Below base w wc))
    case first =>
      go_region
      all_goals
        go_wp2
        go_meet
        first
          | exact ⟨Lib.hid (HEN.out _).1, Lib.hid ((bel_drewN HB4.out _).setCell (p := ⟨gp, i * 3 + 2, none⟩) HGP.out _)⟩
          | exact ⟨Lib.hid ((HEN.out 0).1.goes (show Below (World.setCell (w4.drewN 0) ⟨gp, i * 3 + 2, none⟩ (.int .i64 (s.ob.code.length : Int))).heap.size (World.setCell (w4.drewN 0) ⟨gp, i * 3 + 2, none⟩ (.int .i64 (s.ob.code.length : Int))) (World.setCell w4 ⟨gp, i * 3 + 2, none⟩ (.int .i64 (s.ob.code.length : Int))).drew from ⟨rfl, rfl, rfl, Nat.le_refl _, fun _ _ => rfl⟩)), Lib.hid (show Below base w (World.setCell w4 ⟨gp, i * 3 + 2, none⟩ (.int .i64 (s.ob.code.length : Int))).drew from (HB4.out.setCell (p := ⟨gp, i * 3 + 2, none⟩) HGP.out _).trans ⟨rfl, rfl, rfl, Nat.le_refl _, fun _ _ => rfl⟩)⟩
    case rest =>
    obtain ⟨HK5, HB5⟩ := hcut
    clear HEN hz0 hz1 k2 k3 k29 HK4 HB4 HRL
    have k29 := (HK5.out.t.box.cell 1029).trans (rcs_l HK5.out.t.len)
    have k29a := fun oo => ((HK5.out.goes (alloc_below wc oo)).t.box.cell 1029).trans (rcs_l HK5.out.t.len)
    obtain ⟨v6, w6, hr6, HA6⟩ := app_one slLines HK5.out.rl [.int .i64 (i : Int), .int .i64 n] rfl (by intro u hu; simp only [List.mem_cons, List.not_mem_nil, or_false] at hu; rcases hu with rfl | rfl <;> rfl) hl.2.2 (Nat.le_trans HB.out HB5.out.size) 64
    obtain ⟨A6, c6, hv6⟩ := HA6.out.form
    subst hv6
    obtain ⟨hT6, z0, z1⟩ := HK5.out.putl HA6.out
    have HT6 := Lib.hid hT6
    have HR6 := Lib.hid hr6
    have HB6 := Lib.hid ((HB5.out.trans (HA6.out.fr.below (Nat.le_trans HB.out HB5.out.size) (fun k hk => (own_ge HK5.out.rl hk).1))).setCell (p := ⟨g, 1029, none⟩) HK5.out.t.ge (.slice A6 (s.lines.length + 1) c6))
    clear hr6 hT6
    go_wp2_with (at_builtin; refine wpList_of_append HR6.out rfl _ _ rfl rfl rfl ?_)
    go_ret
    exact rlineW_ok HX.out HT6.out HB6.out

end Go.Proofs.YtfgnapfodnhppaaGreatDoor
