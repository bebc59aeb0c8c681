/-
  4 texts in one (AsmPD AsmBA AsmBB AsmBC). Conditions: those of each theorem.
-/
import Derived.Test.YtfgnapfodnhppaaGreatDoorJ47
import Derived.Test.YtfgnapfodnhppaaGreatDoorJ40
import Derived.Test.YtfgnapfodnhppaaGreatDoorJ36
namespace Go.Proofs.YtfgnapfodnhppaaGreatDoor
open Go
set_option linter.unusedVariables false
set_option linter.unusedSimpArgs false

/-- What is settled after so many instructions. -/
structure SetTo (s : St) (k : Nat) (o : Ob) : Prop where
  atoms : o.atoms = s.ob.atoms
  funs : o.funs = s.ob.funs
  preds : o.preds = s.ob.preds
  len : o.code.length = s.ob.code.length
  ok : ∀ j, j < k → insErr s.ob.atoms.length s.ob.funs.length s.ob.preds.length s.ob.code.length (o.code.getD j (0, 0, 0, 0, 0)) = 0
  rest : ∀ j, k ≤ j → o.code.getD j (0, 0, 0, 0, 0) = s.ob.code.getD j (0, 0, 0, 0, 0)

theorem pts_set {s : St} (hc : ∀ i ∈ s.ob.code, GoodI s.ob i) (hl : s.ob.atoms.length ≤ 256 ∧ s.ob.funs.length ≤ 256 ∧ s.ob.preds.length ≤ 64 ∧ s.ob.code.length ≤ 1024) (hlab : ∀ q ∈ s.labs, 0 ≤ q.2) :
    ∀ (ps : List (Int × Int × Bool)) (k : Nat) (o o' : Ob), ptsStep s.labs ps o = .ok o' → k ≤ s.ob.code.length → (ps.filter (fun p => !p.2.2)).map (fun p => p.2.1) = (List.range' k (s.ob.code.length - k)).map (fun k : Nat => (k : Int)) → SetTo s k o →
    SetTo s s.ob.code.length o' ∧ ∀ p ∈ ps, p.2.2 = true → p.2.1 < (s.ob.code.length : Int) ∧ (s.ob.preds.filter fun q => q.2.2 == p.2.1).length ≤ 1
  | [], k, o, o', h, hk, hr, hs => by
    rw [ptsStep] at h
    injection h with h
    subst h
    have hn : s.ob.code.length - k = 0 := by
      have := congrArg List.length hr
      simpa using this.symm
    have hk : k = s.ob.code.length := by omega
    rw [← hk] at *
    exact ⟨hk ▸ hs, fun p hp => absurd hp (by simp)⟩
  | p :: ps, k, o, o', h, hk, hr, hs => by
    rw [ptsStep] at h
    cases h1 : ptStep s.labs o p with
    | error e => rw [h1] at h; cases h
    | ok o1 =>
      rw [h1] at h
      simp only at h
      unfold ptStep at h1
      cases hb : p.2.2 with
      | true =>
        rw [if_pos hb] at h1
        by_cases hx : (o.code.length : Int) ≤ p.2.1 ∨ 1 < (o.preds.filter fun q => q.2.2 == p.2.1).length
        · rw [if_pos hx] at h1; cases h1
        · rw [if_neg hx] at h1
          injection h1 with h1
          subst h1
          rw [hs.len, hs.preds] at hx
          rw [List.filter_cons_of_neg (by simp [hb])] at hr
          obtain ⟨g1, g2⟩ := pts_set hc hl hlab ps k o o' h hk hr hs
          refine ⟨g1, fun q hq hqt => ?_⟩
          rcases List.mem_cons.1 hq with rfl | hq
          · omega
          · exact g2 q hq hqt
      | false =>
        rw [if_neg (by rw [hb]; decide)] at h1
        rw [List.filter_cons_of_pos (by simp [hb]), List.map_cons] at hr
        have hkn : k < s.ob.code.length := by
          have := congrArg List.length hr
          simp at this
          omega
        obtain ⟨m, hm⟩ : ∃ m, s.ob.code.length - k = m + 1 := ⟨s.ob.code.length - k - 1, by omega⟩
        rw [hm, List.range'_succ, List.map_cons] at hr
        injection hr with hr1 hr2
        have hm' : m = s.ob.code.length - (k + 1) := by omega
        rw [hm'] at hr2
        have hkk : p.2.1.toNat = k := by omega
        rw [hkk, hs.len, hs.rest k (Nat.le_refl _)] at h1
        cases hp : placeIns s.labs s.ob.code.length (s.ob.code.getD k (0, 0, 0, 0, 0)) with
        | none => rw [hp] at h1; cases h1
        | some i =>
          rw [hp] at h1
          injection h1 with h1
          subst h1
          have hmem : s.ob.code.getD k (0, 0, 0, 0, 0) ∈ s.ob.code := by
            rw [List.getD_eq_getElem?_getD, List.getElem?_eq_getElem hkn]
            exact List.getElem_mem hkn
          have hok := placed_ok (hc _ hmem) ⟨hl.1, hl.2.1, hl.2.2.1⟩ hl.2.2.2 hlab hp
          have hs' : SetTo s (k + 1) { o with code := o.code.set k i } := by
            refine ⟨hs.atoms, hs.funs, hs.preds, by simp [hs.len], fun j hj => ?_, fun j hj => ?_⟩
            · by_cases e : j = k
              · subst e
                simp only [List.getD_eq_getElem?_getD]
                rw [List.getElem?_set_self (by rw [hs.len]; exact hkn)]
                exact hok
              · have := hs.ok j (by omega)
                simp only [List.getD_eq_getElem?_getD] at this ⊢
                rw [List.getElem?_set_ne (by omega)]
                exact this
            · have := hs.rest j (by omega)
              simp only [List.getD_eq_getElem?_getD] at this ⊢
              rw [List.getElem?_set_ne (by omega)]
              exact this
          obtain ⟨g1, g2⟩ := pts_set hc hl hlab ps (k + 1) _ o' h hkn hr2 hs'
          refine ⟨g1, fun q hq hqt => ?_⟩
          rcases List.mem_cons.1 hq with rfl | hq
          · rw [hb] at hqt; cases hqt
          · exact g2 q hq hqt

theorem ents_once : ∀ l : List (ByteArray × Int × Int), (∀ p ∈ l, p.2.2 ≠ 65535 → (l.filter (fun q => q.2.2 == p.2.2)).length ≤ 1) → ((l.map (·.2.2)).filter (fun e => decide (e ≠ 65535))).Nodup
  | [], _ => by simp
  | p :: l, h => by
    have ht := ents_once l (fun q hq hne => by
      have := h q (List.mem_cons_of_mem _ hq) hne
      rw [List.filter_cons] at this
      split at this
      · simp only [List.length_cons] at this; omega
      · exact this)
    rw [List.map_cons]
    by_cases e : p.2.2 = 65535
    · rw [List.filter_cons_of_neg (by simp [e])]
      exact ht
    · rw [List.filter_cons_of_pos (by simp [e]), List.nodup_cons]
      refine ⟨fun hm => ?_, ht⟩
      obtain ⟨q, hq, he⟩ := List.mem_map.1 (List.mem_filter.1 hm).1
      have := h p List.mem_cons_self e
      rw [List.filter_cons_of_pos (by simp), List.length_cons] at this
      have hq' : q ∈ l.filter (fun q => q.2.2 == p.2.2) := List.mem_filter.2 ⟨hq, by simpa using he⟩
      have := List.length_pos_of_mem hq'
      omega

theorem code_ok {a f p c : Nat} : ∀ l : List Ins, (∀ i ∈ l, insErr a f p c i = 0) → codeErr a f p c l = 0
  | [], _ => rfl
  | i :: l, h => by
    rw [codeErr, if_pos (h i List.mem_cons_self)]
    exact code_ok l fun j hj => h j (List.mem_cons_of_mem _ hj)

theorem names_ok {o : Ob} (h : GoodT o) : namesOk o = true := by
  unfold namesOk
  rw [Bool.and_eq_true, Bool.and_eq_true, List.all_eq_true, List.all_eq_true, List.all_eq_true]
  refine ⟨⟨h.atoms, fun f hf => ?_⟩, fun f hf => ?_⟩
  · have := h.funs f hf
    simp [funOk, this.1, this.2.1, this.2.2]
  · obtain ⟨p, hp, rfl⟩ := List.mem_map.1 hf
    have := h.preds p hp
    simp [funOk, called, this.1, this.2.1, this.2.2]
theorem dup_ok {o : Ob} (h : GoodT o) : dupB o = false := by
  simp [dupB, twiceB, h.nda, h.ndf, h.ndp]

/-- Of what lines make, nothing is wrong. -/
theorem asm_check (ls : List (List UInt8)) : checkOf (asmOf ls).1 = 0 := by
  unfold asmOf
  cases h1 : linesStep 0 ls startSt with
  | error e => obtain ⟨e, n⟩ := e; exact rfl
  | ok s =>
    simp only
    cases h2 : ptsStep s.labs s.pts s.ob with
    | error e => obtain ⟨e, n⟩ := e; exact rfl
    | ok o =>
      simp only
      obtain ⟨hg, hb, hl⟩ := lines_good ls 0 startSt s h1 GoodS.start StB.start (by simp [startSt, emptyOb])
      obtain ⟨g1, g2⟩ := pts_set hg.code hl hb.labs s.pts 0 s.ob o h2 (by omega) (by rw [hg.pts, List.range_eq_range', Nat.sub_zero]) ⟨rfl, rfl, rfl, rfl, fun j hj => absurd hj (by omega), fun j _ => rfl⟩
      have hT : GoodT o := ⟨by rw [g1.atoms]; exact hg.t.atoms, by rw [g1.atoms]; exact hg.t.nda, by rw [g1.funs]; exact hg.t.funs, by rw [g1.funs]; exact hg.t.ndf, by rw [g1.preds]; exact hg.t.preds, by rw [g1.preds]; exact hg.t.ndp⟩
      have hents : entsOk o.code.length (o.preds.map (·.2.2)) = true := by
        unfold entsOk
        rw [Bool.and_eq_true, List.all_eq_true, g1.preds, g1.len]
        refine ⟨fun e he => ?_, decide_eq_true (ents_once _ fun p hp hne => ?_)⟩
        · obtain ⟨p, hp, rfl⟩ := List.mem_map.1 he
          rcases hg.ents p hp with h | ⟨h0, l, hm⟩
          · exact decide_eq_true (.inl h)
          · exact decide_eq_true (.inr ⟨h0, (g2 _ hm rfl).1⟩)
        · rcases hg.ents p hp with h | ⟨h0, l, hm⟩
          · exact absurd h hne
          · exact (g2 _ hm rfl).2
      have hbig : bigB o.atoms.length o.funs.length o.preds.length o.code.length = false := by
        rw [g1.atoms, g1.funs, g1.preds, g1.len]
        exact decide_eq_false (by omega)
      unfold checkOf
      rw [hbig, if_neg (by decide), names_ok hT, if_neg (by decide), dup_ok hT, if_neg (by decide), hents, if_neg (by decide)]
      refine code_ok _ fun i hi => ?_
      obtain ⟨j, hj, rfl⟩ := List.mem_iff_getElem.1 hi
      have := g1.ok j (by rw [← g1.len]; exact hj)
      rw [List.getD_eq_getElem?_getD, List.getElem?_eq_getElem hj] at this
      rw [g1.atoms, g1.funs, g1.preds, g1.len]
      exact this

end Go.Proofs.YtfgnapfodnhppaaGreatDoor

namespace Go.Proofs.YtfgnapfodnhppaaGreatDoor
open Go
set_option linter.unusedVariables false
set_option linter.unusedSimpArgs false

theorem bs_of (s : ByteArray) : bs s.data.toList = s := by
  apply ByteArray.ext
  simp [bs]
theorem upto_itoa {n g : Int} (h0 : 0 ≤ n) (h1 : n ≤ g) (hg : g ≤ 1023) : numUpto (Lib.itoa n) g = some n := by
  have := (atoi_at h0 (by omega)).2
  unfold numUpto
  rw [this, if_pos ⟨h0, h1⟩]
theorem name_bytes {s : ByteArray} (h : nameOk s = true) : ∀ c ∈ s.data.toList, c ≠ 47 ∧ c ≠ 32 ∧ c ≠ 64 := by
  intro c hc
  unfold nameOk at h
  rw [Bool.and_eq_true] at h
  have hb := List.all_eq_true.1 h.2 c hc
  refine ⟨?_, ?_, ?_⟩ <;> (intro e; subst e; exact absurd hb (by decide))
theorem slash_app {a : List UInt8} (d : List UInt8) (h : ∀ c ∈ a, c ≠ 47) : slashAt (a ++ 47 :: d) = some (a, d) := by
  have := slash_hit (a ++ 47 :: d) a.length (by simp) (by rw [List.take_left]; exact h) (by simp)
  rw [this, List.take_left]
  simp
/-- A Fun's word. -/
theorem fun_back {f : ByteArray × Int} {least : Int} (hn : nameOk f.1 = true) (h0 : 0 ≤ least) (h1 : least ≤ f.2) (h2 : f.2 ≤ 8) : funOf (funW f) least = some f := by
  unfold funOf funW
  rw [slash_app _ fun c hc => (name_bytes hn c hc).1]
  simp only
  rw [upto_itoa (by omega) h2 (by decide)]
  simp only
  rw [bs_of, if_pos ⟨h1, hn⟩]
theorem label_back {n : Int} (h0 : 0 ≤ n) (h1 : n ≤ 1023) : labelOf (64 :: Lib.itoa n) = some n := by
  unfold labelOf
  exact upto_itoa h0 h1 (by decide)
theorem opd_back {kind n : Int} (h0 : 0 ≤ kind) (h9 : kind ≤ 9) (h8 : kind ≠ 8) (h : validB kind n = true) : opdOf kind (wordOf kind n) = some n := by
  have hb := (back_at h0 h9 h).1
  unfold opdOf
  rw [hb]
  simp only
  rcases of_decide_eq_true h with h | h
  · exact absurd h.1 h8
  · rw [if_pos (by simp [h.1, h.2])]
theorem itoa_noBlank {n : Int} (h0 : 0 ≤ n) (h1 : n ≤ 1023) : noBlank (Lib.itoa n) := by
  have hr := (atoi_at h0 h1).2
  intro c hc e
  subst e
  unfold rnumOf at hr
  split at hr
  · omega
  · split at hr
    · rename_i ha
      exact absurd (List.all_eq_true.1 ha 32 hc) (by decide)
    · omega
theorem funW_noBlank {f : ByteArray × Int} (hn : nameOk f.1 = true) (h0 : 0 ≤ f.2) (h1 : f.2 ≤ 8) : noBlank (funW f) := by
  intro c hc
  rcases List.mem_append.1 hc with hc | hc
  · exact (name_bytes hn c hc).2.1
  · rcases List.mem_cons.1 hc with rfl | hc
    · decide
    · exact itoa_noBlank h0 (by omega) c hc

/-- What an operand of an object that may be names. -/
theorem getD_in {α : Type} (l : List α) (n : Int) (d : α) (h0 : 0 ≤ n) (h1 : n < (l.length : Int)) : l.getD n.toNat d ∈ l := by
  rw [List.getD_eq_getElem?_getD, List.getElem?_eq_getElem (by omega)]
  exact List.getElem_mem _
/-- An operand's word, read over whatever object. -/
theorem op_back {o : Ob} (hT : GoodT o) {op kd n : Int} {m : Nat} (h0 : 0 ≤ kd) (h9 : kd ≤ 9) (hv : validB kd n = true) (ht : thereB o.atoms.length o.funs.length o.preds.length m kd n = true) (hm : m ≤ 1024) (h8 : kd = 8 → n = 65535 → op = 26) (o1 : Ob) :
    noBlank (wordL o kd n) ∧ opStep op kd (wordL o kd n) o1 =
      if kd = 3 then some ((placeOf o1.atoms (o.atoms.getD n.toNat ⟨#[]⟩) : Int), { o1 with atoms := addTo o1.atoms (o.atoms.getD n.toNat ⟨#[]⟩) })
      else if kd = 4 then some ((placeOf o1.funs (o.funs.getD n.toNat (⟨#[]⟩, 0)) : Int), { o1 with funs := addTo o1.funs (o.funs.getD n.toNat (⟨#[]⟩, 0)) })
      else if kd = 7 then some (predStep o1 (called (o.preds.getD n.toNat (⟨#[]⟩, 0, 0))))
      else some (n, o1) := by
  by_cases h3 : kd = 3
  · subst h3
    have hb : 0 ≤ n ∧ n < (o.atoms.length : Int) := of_decide_eq_true ht
    have hok := hT.atoms _ (getD_in o.atoms n ⟨#[]⟩ hb.1 hb.2)
    rw [wordL_named o 3 n (by decide)]
    have e : namedW o 3 n = (o.atoms.getD n.toNat ⟨#[]⟩).data.toList := rfl
    rw [e]
    refine ⟨fun c hc => (name_bytes hok c hc).2.1, ?_⟩
    unfold opStep
    rw [if_pos rfl, if_pos rfl, bs_of, if_pos hok]
  · by_cases h4 : kd = 4
    · subst h4
      have hb : 0 ≤ n ∧ n < (o.funs.length : Int) := of_decide_eq_true ht
      have hok := hT.funs _ (getD_in o.funs n (⟨#[]⟩, 0) hb.1 hb.2)
      rw [wordL_named o 4 n (by decide)]
      have e : namedW o 4 n = funW (o.funs.getD n.toNat (⟨#[]⟩, 0)) := rfl
      rw [e]
      refine ⟨funW_noBlank hok.1 (by omega) hok.2.2, ?_⟩
      unfold opStep
      rw [if_neg (by decide), if_pos rfl, if_neg (by decide), if_pos rfl, fun_back hok.1 (by decide) hok.2.1 hok.2.2]
      rfl
    · by_cases h7 : kd = 7
      · subst h7
        have hb : 0 ≤ n ∧ n < (o.preds.length : Int) := of_decide_eq_true ht
        have hok := hT.preds _ (getD_in o.preds n (⟨#[]⟩, 0, 0) hb.1 hb.2)
        rw [wordL_named o 7 n (by decide)]
        have e : namedW o 7 n = funW (called (o.preds.getD n.toNat (⟨#[]⟩, 0, 0))) := rfl
        rw [e]
        refine ⟨funW_noBlank hok.1 hok.2.1 hok.2.2, ?_⟩
        unfold opStep
        rw [if_neg (by decide), if_neg (by decide), if_pos rfl, if_neg (by decide), if_neg (by decide), if_pos rfl, fun_back (f := called _) hok.1 (by decide) hok.2.1 hok.2.2]
        rfl
      · rw [if_neg h3, if_neg h4, if_neg h7]
        by_cases e8 : kd = 8
        · subst e8
          by_cases hn : n = 65535
          · subst hn
            rw [wordL_nowhere]
            refine ⟨by intro c hc; rw [List.mem_singleton.1 hc]; decide, ?_⟩
            unfold opStep
            rw [if_neg (by decide), if_neg (by decide), if_neg (by decide), if_pos rfl, if_pos rfl, if_pos (h8 rfl rfl)]
          · have hb : 0 ≤ n ∧ n < (m : Int) := by
              rcases (of_decide_eq_true ht : n = 65535 ∨ (0 ≤ n ∧ n < (m : Int))) with h | h
              · exact absurd h hn
              · exact h
            rw [wordL_label o n hb.1 (by omega)]
            refine ⟨fun c hc => ?_, ?_⟩
            · rcases List.mem_cons.1 hc with rfl | hc
              · decide
              · exact itoa_noBlank hb.1 (by omega) c hc
            · unfold opStep
              rw [if_neg (by decide), if_neg (by decide), if_neg (by decide), if_pos rfl, if_neg (by intro e; injection e with e _; exact absurd e (by decide)), label_back hb.1 (by omega)]
              rfl
        · rw [wordL_plain o kd n (by omega)]
          refine ⟨(back_at h0 h9 hv).2, ?_⟩
          unfold opStep
          rw [if_neg h3, if_neg h4, if_neg h7, if_neg e8, opd_back h0 h9 e8 hv]
          rfl

end Go.Proofs.YtfgnapfodnhppaaGreatDoor

namespace Go.Proofs.YtfgnapfodnhppaaGreatDoor
open Go
set_option linter.unusedVariables false
set_option linter.unusedSimpArgs false

/-- What an operand of o lays into tables. -/
def opEv (o : Ob) (kd n : Int) (t : Ob) : Ob :=
  if kd = 3 then { t with atoms := addTo t.atoms (o.atoms.getD n.toNat ⟨#[]⟩) }
  else if kd = 4 then { t with funs := addTo t.funs (o.funs.getD n.toNat (⟨#[]⟩, 0)) }
  else if kd = 7 then (predStep t (called (o.preds.getD n.toNat (⟨#[]⟩, 0, 0)))).2
  else t
def opsEv (o : Ob) : List Int → List Int → Ob → Ob
  | [], _, t => t
  | k :: ks, xs, t => opsEv o ks xs.tail (opEv o k (xs.headD 0) t)
/-- What a line 'pred' lays into tables. -/
def predEv (p : ByteArray × Int × Int) (t : Ob) : Ob :=
  { (predStep t (called p)).2 with preds := (predStep t (called p)).2.preds.set (predStep t (called p)).1.toNat p }
def predsEv (l : List (ByteArray × Int × Int)) (t : Ob) : Ob := l.foldl (fun t p => predEv p t) t
/-- What a place's lines lay into tables. -/
def placeEv (o : Ob) (k : Nat) (t : Ob) : Ob :=
  opsEv o (opsOf (o.code.getD k (0, 0, 0, 0, 0)).1) (argOf (o.code.getD k (0, 0, 0, 0, 0))) (predsEv (o.preds.filter fun p => p.2.2 == (k : Int)) t)
/-- Tables behind so many places. -/
def evTo (o : Ob) : Nat → Ob
  | 0 => emptyOb
  | k + 1 => placeEv o k (evTo o k)

/-- The beginnings of tables. -/
structure Tpre (t t' : Ob) : Prop where
  atoms : t.atoms <+: t'.atoms
  funs : t.funs <+: t'.funs
  preds : t.preds.map called <+: t'.preds.map called
theorem Tpre.refl (t : Ob) : Tpre t t := ⟨List.prefix_refl _, List.prefix_refl _, List.prefix_refl _⟩
theorem Tpre.trans {a b c : Ob} (h : Tpre a b) (k : Tpre b c) : Tpre a c := ⟨h.atoms.trans k.atoms, h.funs.trans k.funs, h.preds.trans k.preds⟩
theorem addTo_pre {α : Type} [DecidableEq α] (l : List α) (x : α) : l <+: addTo l x := by
  unfold addTo
  split
  · exact List.prefix_refl _
  · exact List.prefix_append _ _
theorem predStep_pre (t : Ob) (f : ByteArray × Int) : Tpre t (predStep t f).2 := by
  unfold predStep
  split
  · exact ⟨List.prefix_refl _, List.prefix_refl _, by simp⟩
  · exact Tpre.refl t
theorem set_called {l : List (ByteArray × Int × Int)} {i : Nat} {p : ByteArray × Int × Int} (h : i < l.length) (he : called l[i] = called p) : (l.set i p).map called = l.map called := by
  apply List.ext_getElem
  · simp
  · intro j h1 h2
    simp only [List.getElem_map, List.getElem_set]
    split
    · rename_i e
      subst e
      exact he.symm
    · rfl
theorem predEv_called (p : ByteArray × Int × Int) (t : Ob) : (predEv p t).preds.map called = (predStep t (called p)).2.preds.map called := by
  obtain ⟨i, hi, h1, h2, h3⟩ := predStep_at t (called p)
  unfold predEv
  rw [h1]
  exact set_called hi (Prod.ext h2 h3)
theorem predEv_pre (p : ByteArray × Int × Int) (t : Ob) : Tpre t (predEv p t) := by
  have h := predStep_pre t (called p)
  exact ⟨h.atoms, h.funs, by rw [predEv_called]; exact h.preds⟩
theorem predsEv_pre : ∀ (l : List (ByteArray × Int × Int)) (t : Ob), Tpre t (predsEv l t)
  | [], t => Tpre.refl t
  | p :: l, t => (predEv_pre p t).trans (predsEv_pre l (predEv p t))
theorem opEv_pre (o : Ob) (kd n : Int) (t : Ob) : Tpre t (opEv o kd n t) := by
  unfold opEv
  split
  · exact ⟨addTo_pre _ _, List.prefix_refl _, List.prefix_refl _⟩
  · split
    · exact ⟨List.prefix_refl _, addTo_pre _ _, List.prefix_refl _⟩
    · split
      · exact predStep_pre t _
      · exact Tpre.refl t
theorem opsEv_pre (o : Ob) : ∀ (ks xs : List Int) (t : Ob), Tpre t (opsEv o ks xs t)
  | [], xs, t => Tpre.refl t
  | k :: ks, xs, t => (opEv_pre o k (xs.headD 0) t).trans (opsEv_pre o ks xs.tail _)
theorem placeEv_pre (o : Ob) (k : Nat) (t : Ob) : Tpre t (placeEv o k t) := (predsEv_pre _ t).trans (opsEv_pre o _ _ _)
theorem evTo_pre (o : Ob) : ∀ (j k : Nat), j ≤ k → Tpre (evTo o j) (evTo o k)
  | j, 0, h => by
    have : j = 0 := by omega
    subst this
    exact Tpre.refl _
  | j, k + 1, h => by
    by_cases e : j = k + 1
    · subst e; exact Tpre.refl _
    · exact (evTo_pre o j k (by omega)).trans (placeEv_pre o k _)

/-- A thing's place in a beginning is its place. -/
theorem pre_at {α : Type} {l L : List α} (h : l <+: L) {i : Nat} {x : α} (hx : l[i]? = some x) : L[i]? = some x := by
  obtain ⟨r, rfl⟩ := h
  obtain ⟨hi, he⟩ := List.getElem?_eq_some_iff.1 hx
  rw [List.getElem?_append_left hi]
  exact hx
theorem place_at {α : Type} [DecidableEq α] (l : List α) (x : α) : (addTo l x)[placeOf l x]? = some x := by
  by_cases h : x ∈ l
  · rw [addTo_yes h]
    have hlt : placeOf l x < l.length := List.findIdx_lt_length_of_exists ⟨x, h, by simp⟩
    rw [List.getElem?_eq_getElem hlt]
    have := List.findIdx_getElem (p := fun y => decide (y = x)) (w := hlt)
    exact congrArg some (of_decide_eq_true this)
  · rw [addTo_no h]
    have he : placeOf l x = l.length := List.findIdx_eq_length.2 (fun y hy => decide_eq_false (fun e => h (e ▸ hy)))
    rw [he]
    simp
theorem place_back {α : Type} [DecidableEq α] {l L : List α} {n : Nat} {d : α} (hn : n < L.length) (hd : L.Nodup) (h : addTo l (L.getD n d) <+: L) : placeOf l (L.getD n d) = n := by
  have h1 := pre_at h (place_at l (L.getD n d))
  have h2 : L[n]? = some (L.getD n d) := by
    rw [List.getD_eq_getElem?_getD, List.getElem?_eq_getElem hn]
    rfl
  obtain ⟨hi, _⟩ := List.getElem?_eq_some_iff.1 h1
  exact (List.getElem?_inj hi hd).1 (h1.trans h2.symm)
theorem pred_back {t : Ob} {P : List (ByteArray × Int)} {n : Nat} {f : ByteArray × Int} (hn : P[n]? = some f) (hd : P.Nodup) (h : (predStep t f).2.preds.map called <+: P) : (predStep t f).1 = (n : Int) := by
  obtain ⟨i, hi, h1, h2, h3⟩ := predStep_at t f
  have h4 : ((predStep t f).2.preds.map called)[i]? = some f := by
    rw [List.getElem?_map, List.getElem?_eq_getElem hi]
    exact congrArg some (Prod.ext h2 h3)
  have h5 := pre_at h h4
  obtain ⟨hi5, _⟩ := List.getElem?_eq_some_iff.1 h5
  rw [h1, (List.getElem?_inj hi5 hd).1 (h5.trans hn.symm)]

/-- An operand's word says its number again. -/
theorem op_num {o : Ob} (hT : GoodT o) {op kd n : Int} {m : Nat} (h0 : 0 ≤ kd) (h9 : kd ≤ 9) (hv : validB kd n = true) (ht : thereB o.atoms.length o.funs.length o.preds.length m kd n = true) (hm : m ≤ 1024) (h8 : kd = 8 → n = 65535 → op = 26) {t : Ob} (hp : Tpre (opEv o kd n t) o) :
    opStep op kd (wordL o kd n) t = some (n, opEv o kd n t) := by
  rw [(op_back hT h0 h9 hv ht hm h8 t).2]
  unfold opEv at hp ⊢
  by_cases h3 : kd = 3
  · subst h3
    have hb : 0 ≤ n ∧ n < (o.atoms.length : Int) := of_decide_eq_true ht
    simp only [if_true] at hp ⊢
    rw [place_back (by omega) hT.nda hp.atoms, Int.toNat_of_nonneg hb.1]
  · by_cases h4 : kd = 4
    · subst h4
      have hb : 0 ≤ n ∧ n < (o.funs.length : Int) := of_decide_eq_true ht
      simp only [if_true, if_neg h3] at hp ⊢
      rw [place_back (by omega) hT.ndf hp.funs, Int.toNat_of_nonneg hb.1]
    · by_cases h7 : kd = 7
      · subst h7
        have hb : 0 ≤ n ∧ n < (o.preds.length : Int) := of_decide_eq_true ht
        simp only [if_true, if_neg h3, if_neg h4] at hp ⊢
        have hn : (o.preds.map called)[n.toNat]? = some (called (o.preds.getD n.toNat (⟨#[]⟩, 0, 0))) := by
          rw [List.getElem?_map, List.getD_eq_getElem?_getD, List.getElem?_eq_getElem (by omega)]
          rfl
        have := pred_back hn hT.ndp hp.preds
        rw [Int.toNat_of_nonneg hb.1] at this
        exact congrArg some (Prod.ext this rfl)
      · simp only [if_neg h3, if_neg h4, if_neg h7]

end Go.Proofs.YtfgnapfodnhppaaGreatDoor

namespace Go.Proofs.YtfgnapfodnhppaaGreatDoor
open Go
set_option linter.unusedVariables false
set_option linter.unusedSimpArgs false

/-- The words of operands. -/
def wl (o : Ob) : List Int → List Int → List (List UInt8)
  | [], _ => []
  | k :: ks, xs => wordL o k (xs.headD 0) :: wl o ks xs.tail
theorem wl_map (o : Ob) : ∀ (ks xs : List Int), wl o ks xs = (List.range ks.length).map fun j => wordL o (ks.getD j 0) (xs.getD j 0)
  | [], xs => rfl
  | k :: ks, xs => by
    rw [wl, wl_map o ks xs.tail, List.length_cons, List.range_succ_eq_map, List.map_cons, List.map_map]
    congr 1
    · cases xs <;> rfl
    · apply List.map_congr_left
      intro j _
      cases xs <;> rfl
theorem lineWs_wl (o : Ob) (i : Ins) : lineWs o i = wl o (opsOf i.1) (argOf i) := (wl_map o _ _).symm
/-- An operand of an object that may be. -/
def opOk (o : Ob) (op : Int) (m : Nat) (kd n : Int) : Prop :=
  0 ≤ kd ∧ kd ≤ 9 ∧ validB kd n = true ∧ thereB o.atoms.length o.funs.length o.preds.length m kd n = true ∧ (kd = 8 → n = 65535 → op = 26)
theorem ops_num {o : Ob} (hT : GoodT o) {op : Int} {m : Nat} (hm : m ≤ 1024) : ∀ (ks xs : List Int) (t : Ob), ks.length ≤ xs.length → (∀ j, j < ks.length → opOk o op m (ks.getD j 0) (xs.getD j 0)) → Tpre (opsEv o ks xs t) o →
    opsStep op ks (wl o ks xs) t = some (xs.take ks.length, opsEv o ks xs t) ∧ ∀ w ∈ wl o ks xs, noBlank w
  | [], xs, t, _, _, _ => by
    refine ⟨?_, fun w hw => absurd hw (by simp [wl])⟩
    rw [opsStep]
    rfl
  | k :: ks, [], t, hl, _, _ => by simp at hl
  | k :: ks, x :: xs, t, hl, hok, hp => by
    obtain ⟨a, b, c, d, e⟩ := hok 0 (by simp)
    simp only [List.getD_cons_zero] at a b c d e
    have hp1 : Tpre (opEv o k x t) o := (opsEv_pre o ks xs _).trans hp
    have h1 := op_num hT a b c d hm e hp1
    have h2 := (op_back hT a b c d hm e t).1
    obtain ⟨g1, g2⟩ := ops_num hT hm ks xs (opEv o k x t) (by simpa using hl) (fun j hj => by simpa using hok (j + 1) (by simpa using hj)) hp
    refine ⟨?_, fun w hw => ?_⟩
    · rw [opsStep, wl, List.headD_cons, List.headD_cons, List.tail_cons, List.tail_cons, h1]
      simp only
      rw [g1]
      rfl
    · rcases List.mem_cons.1 hw with rfl | hw
      · exact h2
      · exact g2 w hw
theorem ins_ops {o : Ob} {m : Nat} {i : Ins} (h : insErr o.atoms.length o.funs.length o.preds.length m i = 0) : 0 ≤ i.1 ∧ i.1 ≤ 26 ∧ rightB i.1 (argOf i) = true ∧ ∀ j, j < (opsOf i.1).length → opOk o i.1 m ((opsOf i.1).getD j 0) ((argOf i).getD j 0) := by
  have hfew := ops_few i.1
  have h1 := insErr_ne h
  refine ⟨h1.1, h1.2.1, h1.2.2.1, fun j hj => ?_⟩
  have hr := right_at h1.2.2.1 j (by omega)
  obtain ⟨k0, k9⟩ := ops_kind i.1 j
  refine ⟨k0, k9, may_valid hj hr, List.all_eq_true.1 h1.2.2.2 j (List.mem_range.2 hj), fun e8 en => ?_⟩
  rw [e8, en] at hr
  rcases of_decide_eq_true hr with h | h
  · exact h.1
  · have hi : highOf 8 = 1023 := by decide
    omega
theorem ins_take {i : Ins} (h : rightB i.1 (argOf i) = true) : insOf i.1 ((argOf i).take (opsOf i.1).length) = i := by
  have hget : ∀ q, q < 4 → ((argOf i).take (opsOf i.1).length).getD q 0 = (argOf i).getD q 0 := fun q hq => by
    by_cases hl : q < (opsOf i.1).length
    · rw [List.getD_eq_getElem?_getD, List.getElem?_take_of_lt hl, List.getD_eq_getElem?_getD]
    · have h1 := right_at h q hq
      have e1 : (opsOf i.1).getD q 0 = 0 := by rw [List.getD_eq_getElem?_getD, List.getElem?_eq_none (by omega)]; rfl
      rw [e1] at h1
      have lo : lowOf 0 = 0 := rfl
      have hi : highOf 0 = 0 := rfl
      have hz : (argOf i).getD q 0 = 0 := by
        rcases of_decide_eq_true h1 with h | h
        · have : (opsOf i.1).length = 4 := by rw [h.1]; decide
          omega
        · omega
      rw [hz, List.getD_eq_getElem?_getD, List.getElem?_take_eq_none (by omega)]
      rfl
  unfold insOf
  rw [hget 0 (by decide), hget 1 (by decide), hget 2 (by decide), hget 3 (by decide)]
  rfl

/-- An instruction's line says the instruction again. -/
theorem instr_back {o : Ob} (hT : GoodT o) {m : Nat} (hm : m ≤ 1024) {i : Ins} (h : insErr o.atoms.length o.funs.length o.preds.length m i = 0) (n : Int) (s : St) (hp : Tpre (opsEv o (opsOf i.1) (argOf i) s.ob) o) :
    instrLine n (lineL o i) s = .ok { s with ob := { opsEv o (opsOf i.1) (argOf i) s.ob with code := (opsEv o (opsOf i.1) (argOf i) s.ob).code ++ [i] }, pts := s.pts ++ [(n, (s.ob.code.length : Int), false)] } := by
  obtain ⟨h0, h26, hr, hok⟩ := ins_ops h
  have hfew := ops_few i.1
  obtain ⟨g1, g2⟩ := ops_num hT hm (opsOf i.1) (argOf i) s.ob (by rw [argOf_len]; exact hfew) hok hp
  have hs : splitW (lineL o i) = (nameOf i.1).data.toList :: wl o (opsOf i.1) (argOf i) := by
    unfold lineL
    rw [lineWs_wl]
    exact splitW_join _ _ (nameOf_noBlank i.1) g2
  have hwl : (wl o (opsOf i.1) (argOf i)).length = (opsOf i.1).length := by rw [wl_map]; simp
  have hn : namedOf (bs ((splitW (lineL o i)).getD 0 [])) = i.1 := by
    rw [hs, List.getD_cons_zero, bs_of]
    have := named_back i.1.toNat (by omega)
    rw [Int.toNat_of_nonneg h0] at this
    unfold nameOf
    rw [if_pos ⟨h0, h26⟩]
    exact this
  unfold instrLine
  rw [hn, if_neg (by rw [hs, List.length_cons, hwl]; omega), hs, List.tail_cons, g1]
  simp only
  rw [ins_take hr]

end Go.Proofs.YtfgnapfodnhppaaGreatDoor
