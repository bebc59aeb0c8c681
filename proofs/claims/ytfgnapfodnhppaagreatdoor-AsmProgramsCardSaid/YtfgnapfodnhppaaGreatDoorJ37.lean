/-
  3 texts in one (AsmPA AsmPB AsmPC). Conditions: those of each theorem.
-/
import Derived.Test.YtfgnapfodnhppaaGreatDoorJ29
import Derived.Test.YtfgnapfodnhppaaGreatDoorJ12
import Derived.Test.YtfgnapfodnhppaaGreatDoorJ30
namespace Go.Proofs.YtfgnapfodnhppaaGreatDoor
open Go
set_option linter.unusedVariables false
set_option linter.unusedSimpArgs false

/-- Tables that may be. -/
structure GoodT (o : Ob) : Prop where
  atoms : ∀ s ∈ o.atoms, nameOk s = true
  nda : o.atoms.Nodup
  funs : ∀ f ∈ o.funs, nameOk f.1 = true ∧ 1 ≤ f.2 ∧ f.2 ≤ 8
  ndf : o.funs.Nodup
  preds : ∀ p ∈ o.preds, nameOk p.1 = true ∧ 0 ≤ p.2.1 ∧ p.2.1 ≤ 8
  ndp : (o.preds.map called).Nodup
/-- Tables as great. -/
def Grown (o o' : Ob) : Prop := o.atoms.length ≤ o'.atoms.length ∧ o.funs.length ≤ o'.funs.length ∧ o.preds.length ≤ o'.preds.length
theorem Grown.refl (o : Ob) : Grown o o := ⟨Nat.le_refl _, Nat.le_refl _, Nat.le_refl _⟩
theorem Grown.trans {o o' o'' : Ob} (h : Grown o o') (k : Grown o' o'') : Grown o o'' := ⟨Nat.le_trans h.1 k.1, Nat.le_trans h.2.1 k.2.1, Nat.le_trans h.2.2 k.2.2⟩
/-- An operand of an instruction whose labels are numbers. -/
def goodArg (o : Ob) (op kind n : Int) : Prop :=
  (kind = 3 → 0 ≤ n ∧ n < (o.atoms.length : Int)) ∧ (kind = 4 → 0 ≤ n ∧ n < (o.funs.length : Int)) ∧ (kind = 7 → 0 ≤ n ∧ n < (o.preds.length : Int)) ∧ (kind = 8 → (0 ≤ n ∧ n ≤ 1023) ∨ (op = 26 ∧ n = 65535)) ∧ (kind ≠ 3 → kind ≠ 4 → kind ≠ 7 → kind ≠ 8 → mayB op kind n = true)
theorem goodArg.grow {o o' : Ob} {op kind n : Int} (h : goodArg o op kind n) (hg : Grown o o') : goodArg o' op kind n := by
  obtain ⟨h1, h2, h3, h4, h5⟩ := h
  obtain ⟨g1, g2, g3⟩ := hg
  exact ⟨fun e => by have := h1 e; omega, fun e => by have := h2 e; omega, fun e => by have := h3 e; omega, h4, h5⟩
theorem funOf_name {w : List UInt8} {g : Int} {f : ByteArray × Int} (h : funOf w g = some f) : nameOk f.1 = true ∧ g ≤ f.2 ∧ 0 ≤ f.2 ∧ f.2 ≤ 8 := by
  unfold funOf at h
  split at h
  · cases h
  · split at h
    · cases h
    · rename_i n hn
      split at h
      · rename_i hc
        injection h with h
        subst h
        have := numUpto_bd hn
        exact ⟨hc.2, hc.1, this.1, this.2⟩
      · cases h
theorem place_in {α : Type} [DecidableEq α] (l : List α) (x : α) : (placeOf l x : Int) < ((addTo l x).length : Int) ∧ (addTo l x).length ≥ l.length := by
  by_cases h : x ∈ l
  · rw [addTo_yes h]
    have : placeOf l x < l.length := by
      unfold placeOf
      exact List.findIdx_lt_length_of_exists ⟨x, h, by simp⟩
    exact ⟨by omega, Nat.le_refl _⟩
  · rw [addTo_no h, place_miss l x h]
    simp
    omega
theorem addTo_mem {α : Type} [DecidableEq α] {l : List α} {x y : α} (h : y ∈ addTo l x) : y ∈ l ∨ y = x := by
  unfold addTo at h
  split at h
  · exact .inl h
  · rcases List.mem_append.1 h with h | h
    · exact .inl h
    · exact .inr (List.mem_singleton.1 h)
theorem addTo_nodup {α : Type} [DecidableEq α] {l : List α} (x : α) (h : l.Nodup) : (addTo l x).Nodup := by
  unfold addTo
  split
  · exact h
  · rename_i hx
    rw [List.nodup_append]
    exact ⟨h, by simp, fun a ha b hb e => by rw [List.mem_singleton.1 hb] at e; subst e; exact hx ha⟩
theorem findFrom_none : ∀ (x : ByteArray) (n : Int) (k : Nat) (l : List (ByteArray × Int × Int)), findFrom x n k l < 0 → (x, n) ∉ l.map called
  | x, n, k, [], _ => by simp
  | x, n, k, p :: l, h => by
    unfold findFrom at h
    split at h
    · omega
    · rename_i hc
      have ih := findFrom_none x n (k + 1) l h
      rw [List.map_cons, List.mem_cons]
      rintro (e | e)
      · unfold called at e
        injection e with e1 e2
        exact hc ⟨e1.symm, e2.symm⟩
      · exact ih e
theorem predStep_good {o : Ob} (h : GoodT o) {f : ByteArray × Int} (hf : nameOk f.1 = true ∧ 0 ≤ f.2 ∧ f.2 ≤ 8) : GoodT (predStep o f).2 ∧ 0 ≤ (predStep o f).1 ∧ (predStep o f).1 < ((predStep o f).2.preds.length : Int) ∧ Grown o (predStep o f).2 := by
  unfold predStep
  split
  · rename_i hx
    have hn := findFrom_none f.1 f.2 0 o.preds hx
    refine ⟨⟨h.atoms, h.nda, h.funs, h.ndf, fun p hp => ?_, ?_⟩, by simp, by simp; omega, Nat.le_refl _, Nat.le_refl _, by simp⟩
    · rcases List.mem_append.1 hp with hp | hp
      · exact h.preds p hp
      · rw [List.mem_singleton.1 hp]
        exact hf
    · rw [List.map_append, List.nodup_append]
      refine ⟨h.ndp, by simp, fun a ha b hb e => ?_⟩
      have hb : b = (f.1, f.2) := by simpa [called] using hb
      subst e
      subst hb
      exact hn ha
  · rename_i hx
    obtain ⟨i, hi, h1, _⟩ := findFrom_at f.1 f.2 0 o.preds (by omega)
    exact ⟨h, by omega, by simp only; omega, Grown.refl o⟩
theorem opStep_good {o o' : Ob} (h : GoodT o) {op kind n : Int} {w : List UInt8} (hs : opStep op kind w o = some (n, o')) (hop : op = 26 → kind = 8) : GoodT o' ∧ goodArg o' op kind n ∧ Grown o o' := by
  unfold opStep at hs
  split at hs
  · rename_i hk
    split at hs
    · rename_i hn
      injection hs with hs
      injection hs with h1 h2
      subst h1 h2
      have hp := place_in o.atoms (bs w)
      refine ⟨⟨fun s hs => ?_, addTo_nodup _ h.nda, h.funs, h.ndf, h.preds, h.ndp⟩, ⟨fun _ => ⟨by simp, hp.1⟩, fun e => by omega, fun e => by omega, fun e => by omega, fun e => absurd hk e⟩, hp.2, Nat.le_refl _, Nat.le_refl _⟩
      rcases addTo_mem hs with hs | rfl
      · exact h.atoms s hs
      · exact hn
    · cases hs
  · split at hs
    · rename_i hk3 hk
      cases hf : funOf w 1 with
      | none => rw [hf] at hs; cases hs
      | some f =>
        rw [hf] at hs
        injection hs with hs
        injection hs with h1 h2
        subst h1 h2
        have hp := place_in o.funs f
        have hfn := funOf_name hf
        refine ⟨⟨h.atoms, h.nda, fun g hg => ?_, addTo_nodup _ h.ndf, h.preds, h.ndp⟩, ⟨fun e => by omega, fun _ => ⟨by simp, hp.1⟩, fun e => by omega, fun e => by omega, fun _ e => absurd hk e⟩, Nat.le_refl _, hp.2, Nat.le_refl _⟩
        rcases addTo_mem hg with hg | rfl
        · exact h.funs g hg
        · exact ⟨hfn.1, hfn.2.1, hfn.2.2.2⟩
    · split at hs
      · rename_i hk3 hk4 hk
        cases hf : funOf w 0 with
        | none => rw [hf] at hs; cases hs
        | some f =>
          rw [hf] at hs
          injection hs with hs
          have hs : predStep o f = (n, o') := hs
          have hfn := funOf_name hf
          have hg := predStep_good h (f := f) ⟨hfn.1, hfn.2.1, hfn.2.2.2⟩
          rw [hs] at hg
          exact ⟨hg.1, ⟨fun e => by omega, fun e => by omega, fun _ => ⟨hg.2.1, hg.2.2.1⟩, fun e => by omega, fun _ _ e => absurd hk e⟩, hg.2.2.2⟩
      · split at hs
        · rename_i hk3 hk4 hk7 hk
          split at hs
          · split at hs
            · rename_i h26
              injection hs with hs
              injection hs with h1 h2
              subst h1 h2
              exact ⟨h, ⟨fun e => by omega, fun e => by omega, fun e => by omega, fun _ => .inr ⟨h26, rfl⟩, fun _ _ _ e => absurd hk e⟩, Grown.refl o⟩
            · cases hs
          · cases hf : labelOf w with
            | none => rw [hf] at hs; cases hs
            | some m =>
              rw [hf] at hs
              injection hs with hs
              injection hs with h1 h2
              subst h1 h2
              have := labelOf_bd hf
              exact ⟨h, ⟨fun e => by omega, fun e => by omega, fun e => by omega, fun _ => .inl this, fun _ _ _ e => absurd hk e⟩, Grown.refl o⟩
        · rename_i hk3 hk4 hk7 hk8
          cases hf : opdOf kind w with
          | none => rw [hf] at hs; cases hs
          | some m =>
            rw [hf] at hs
            injection hs with hs
            injection hs with h1 h2
            subst h1 h2
            refine ⟨h, ⟨fun e => absurd e hk3, fun e => absurd e hk4, fun e => absurd e hk7, fun e => absurd e hk8, fun _ _ _ _ => ?_⟩, Grown.refl o⟩
            unfold opdOf at hf
            split at hf
            · cases hf
            · split at hf
              · rename_i hc
                injection hf with hf
                subst hf
                exact decide_eq_true (.inr ⟨hc.1, hc.2.1⟩)
              · cases hf
/-- Operands, one behind the other. -/
theorem opsStep_good {op : Int} : ∀ {ks : List Int} {ws : List (List UInt8)} {o o' : Ob} {x : List Int}, GoodT o → opsStep op ks ws o = some (x, o') → (op = 26 → ∀ k ∈ ks, k = 8) → GoodT o' ∧ Grown o o' ∧ x.length = ks.length ∧ ∀ j, j < ks.length → goodArg o' op (ks.getD j 0) (x.getD j 0)
  | [], ws, o, o', x, h, hs, _ => by
    rw [opsStep] at hs
    injection hs with hs
    injection hs with h1 h2
    subst h1 h2
    exact ⟨h, Grown.refl o, rfl, fun j hj => absurd hj (by simp)⟩
  | k :: ks, ws, o, o', x, h, hs, hop => by
    rw [opsStep] at hs
    cases h1 : opStep op k (ws.headD []) o with
    | none => rw [h1] at hs; cases hs
    | some r =>
      obtain ⟨n, o1⟩ := r
      rw [h1] at hs
      obtain ⟨a1, a2, a3⟩ := opStep_good h h1 (fun e => hop e k (by simp))
      cases h2 : opsStep op ks ws.tail o1 with
      | none => simp only [h2] at hs; cases hs
      | some r2 =>
        obtain ⟨y, o2⟩ := r2
        simp only [h2] at hs
        injection hs with hs
        injection hs with h3 h4
        have h3 : n :: y = x := h3
        have h4 : o2 = o' := h4
        subst h3 h4
        obtain ⟨b1, b2, b3, b4⟩ := opsStep_good a1 h2 (fun e k hk => hop e k (by simp [hk]))
        refine ⟨b1, a3.trans b2, by simp [b3], fun j hj => ?_⟩
        cases j with
        | zero => exact a2.grow b2
        | succ j => simpa using b4 j (by simpa using hj)

end Go.Proofs.YtfgnapfodnhppaaGreatDoor

namespace Go.Proofs.YtfgnapfodnhppaaGreatDoor
open Go
set_option linter.unusedVariables false
set_option linter.unusedSimpArgs false

/-- An instruction whose labels are numbers. -/
def GoodI (o : Ob) (i : Ins) : Prop :=
  0 ≤ i.1 ∧ i.1 ≤ 26 ∧ (∀ j, j < (opsOf i.1).length → goodArg o i.1 ((opsOf i.1).getD j 0) ((argOf i).getD j 0)) ∧ ∀ j, (opsOf i.1).length ≤ j → j < 4 → (argOf i).getD j 0 = 0
theorem GoodI.grow {o o' : Ob} {i : Ins} (h : GoodI o i) (hg : Grown o o') : GoodI o' i := ⟨h.1, h.2.1, fun j hj => (h.2.2.1 j hj).grow hg, h.2.2.2⟩
/-- What comes to be may be, once its labels are places. -/
structure GoodS (s : St) : Prop where
  t : GoodT s.ob
  code : ∀ i ∈ s.ob.code, GoodI s.ob i
  ents : ∀ p ∈ s.ob.preds, p.2.2 = 65535 ∨ (0 ≤ p.2.2 ∧ ∃ l, (l, p.2.2, true) ∈ s.pts)
  pts : (s.pts.filter (fun p => !p.2.2)).map (fun p => p.2.1) = (List.range s.ob.code.length).map (fun k : Nat => (k : Int))
theorem GoodS.start : GoodS startSt :=
  ⟨⟨fun s h => absurd h (by simp [startSt, emptyOb]), by simp [startSt, emptyOb], fun s h => absurd h (by simp [startSt, emptyOb]), by simp [startSt, emptyOb], fun s h => absurd h (by simp [startSt, emptyOb]), by simp [startSt, emptyOb]⟩, fun s h => absurd h (by simp [startSt, emptyOb]), fun s h => absurd h (by simp [startSt, emptyOb]), by simp [startSt, emptyOb]⟩
theorem predStep_mem (o : Ob) (f : ByteArray × Int) : ∀ p ∈ (predStep o f).2.preds, p ∈ o.preds ∨ p.2.2 = 65535 := by
  unfold predStep
  split
  · intro p hp
    rcases List.mem_append.1 hp with hp | hp
    · exact .inl hp
    · rw [List.mem_singleton.1 hp]; exact .inr rfl
  · exact fun p hp => .inl hp
theorem opStep_preds {op kind n : Int} {w : List UInt8} {o o' : Ob} (h : opStep op kind w o = some (n, o')) : ∀ p ∈ o'.preds, p ∈ o.preds ∨ p.2.2 = 65535 := by
  unfold opStep at h
  split at h
  · split at h
    · injection h with h; injection h with _ h; subst h; exact fun p hp => .inl hp
    · cases h
  · split at h
    · cases hf : funOf w 1 with
      | none => rw [hf] at h; cases h
      | some f => rw [hf] at h; injection h with h; injection h with _ h; subst h; exact fun p hp => .inl hp
    · split at h
      · cases hf : funOf w 0 with
        | none => rw [hf] at h; cases h
        | some f =>
          rw [hf] at h
          injection h with h
          have h : predStep o f = (n, o') := h
          have := predStep_mem o f
          rw [h] at this
          exact this
      · split at h
        · split at h
          · split at h
            · injection h with h; injection h with _ h; subst h; exact fun p hp => .inl hp
            · cases h
          · cases hf : labelOf w with
            | none => rw [hf] at h; cases h
            | some m => rw [hf] at h; injection h with h; injection h with _ h; subst h; exact fun p hp => .inl hp
        · cases hf : opdOf kind w with
          | none => rw [hf] at h; cases h
          | some m => rw [hf] at h; injection h with h; injection h with _ h; subst h; exact fun p hp => .inl hp
theorem opsStep_preds {op : Int} : ∀ {ks : List Int} {ws : List (List UInt8)} {o o' : Ob} {x : List Int}, opsStep op ks ws o = some (x, o') → ∀ p ∈ o'.preds, p ∈ o.preds ∨ p.2.2 = 65535
  | [], ws, o, o', x, h => by
    rw [opsStep] at h
    injection h with h
    injection h with _ h
    subst h
    exact fun p hp => .inl hp
  | k :: ks, ws, o, o', x, h => by
    rw [opsStep] at h
    cases h1 : opStep op k (ws.headD []) o with
    | none => rw [h1] at h; cases h
    | some r =>
      obtain ⟨n, o1⟩ := r
      rw [h1] at h
      cases h2 : opsStep op ks ws.tail o1 with
      | none => simp only [h2] at h; cases h
      | some r2 =>
        obtain ⟨y, o2⟩ := r2
        simp only [h2] at h
        injection h with h
        injection h with _ h
        have h : o2 = o' := h
        subst h
        intro p hp
        rcases opsStep_preds h2 p hp with h3 | h3
        · exact opStep_preds h1 p h3
        · exact .inr h3
theorem line_good {n : Int} {l : List UInt8} {s s' : St} (h : lineStep n l s = .ok s') (hg : GoodS s) (hl : s.ob.atoms.length + s.ob.funs.length + s.ob.preds.length ≤ 2700000) : GoodS s' := by
  unfold lineStep at h
  split at h
  · unfold predLine at h
    split at h
    · cases h
    · rename_i f hf
      split at h
      · cases h
      · injection h with h
        subst h
        have hfn := funOf_name hf
        have hpg := predStep_good hg.t (f := f) ⟨hfn.1, hfn.2.1, hfn.2.2.2⟩
        have hpm := predStep_mem s.ob f
        have hpc := predStep_code s.ob f
        obtain ⟨i, hi, h1, h2, h3⟩ := predStep_at s.ob f
        rw [h1]
        simp only [Int.toNat_natCast]
        have hcl : ((predStep s.ob f).2.preds.set i (f.1, f.2, (s.ob.code.length : Int))).map called = (predStep s.ob f).2.preds.map called := by
          rw [List.map_set]
          apply List.ext_getElem (by simp)
          intro j a b
          rw [List.getElem_set]
          split
          · rename_i e
            subst e
            rw [List.getElem_map]
            unfold called
            rw [h2, h3]
          · rfl
        refine ⟨⟨hpg.1.atoms, hpg.1.nda, hpg.1.funs, hpg.1.ndf, fun p hp => ?_, ?_⟩, fun j hj => ?_, fun p hp => ?_, ?_⟩
        · rcases List.mem_or_eq_of_mem_set hp with hp | rfl
          · exact hpg.1.preds p hp
          · exact ⟨hfn.1, hfn.2.1, hfn.2.2.2⟩
        · show ((predStep s.ob f).2.preds.set i (f.1, f.2, (s.ob.code.length : Int))).map called |>.Nodup
          rw [hcl]
          exact hpg.1.ndp
        · have hj : j ∈ s.ob.code := by rw [← hpc]; exact hj
          refine (hg.code j hj).grow ⟨hpg.2.2.2.1, hpg.2.2.2.2.1, ?_⟩
          simp only [List.length_set]
          exact hpg.2.2.2.2.2
        · rcases List.mem_or_eq_of_mem_set hp with hp | rfl
          · rcases hpm p hp with hp | hp
            · rcases hg.ents p hp with h4 | ⟨h4, l2, h5⟩
              · exact .inl h4
              · exact .inr ⟨h4, l2, List.mem_append_left _ h5⟩
            · exact .inl hp
          · exact .inr ⟨by simp, n, by simp⟩
        · simp only [List.filter_append, List.map_append, hpc]
          rw [hg.pts]
          simp
  · split at h
    · unfold labelLine at h
      split at h
      · cases h
      · split at h
        · cases h
        · injection h with h
          subst h
          exact ⟨hg.t, hg.code, hg.ents, hg.pts⟩
    · unfold instrLine at h
      split at h
      · cases h
      · rename_i hc
        split at h
        · cases h
        · rename_i x o' hs
          injection h with h
          subst h
          generalize hop : namedOf (bs ((splitW l).getD 0 [])) = op at *
          have hfew := ops_few op
          obtain ⟨K, hK, hK2, _⟩ := named_at (s := bs ((splitW l).getD 0 [])) (by omega)
          obtain ⟨a1, a2, a3, a4⟩ := opsStep_good hg.t hs (opsOf_sw op)
          have hpm := opsStep_preds hs
          have hcd := (opsStep_bd hs (opsOf_sw op) (by omega)).2.1
          have hT : GoodT { o' with code := o'.code ++ [insOf op x] } := ⟨a1.atoms, a1.nda, a1.funs, a1.ndf, a1.preds, a1.ndp⟩
          refine ⟨hT, fun j hj => ?_, fun p hp => ?_, ?_⟩
          · simp only [hcd] at hj
            rcases List.mem_append.1 hj with hj | hj
            · exact (hg.code j hj).grow a2
            · rw [List.mem_singleton.1 hj]
              refine ⟨by show 0 ≤ op; omega, by show op ≤ 26; omega, fun q hq => ?_, fun q hq h4 => ?_⟩
              · have hq : q < (opsOf op).length := hq
                rw [argOf_ins op x q (by omega)]
                exact a4 q hq
              · have hq : (opsOf op).length ≤ q := hq
                rw [argOf_ins op x q h4, List.getD_eq_getElem?_getD, List.getElem?_eq_none (by omega)]
                rfl
          · rcases hpm p hp with hp | hp
            · rcases hg.ents p hp with h4 | ⟨h4, l2, h5⟩
              · exact .inl h4
              · exact .inr ⟨h4, l2, List.mem_append_left _ h5⟩
            · exact .inl hp
          · simp only [List.filter_append, List.map_append, hcd]
            rw [hg.pts, List.length_append, List.length_singleton, List.range_succ, List.map_append]
            simp

end Go.Proofs.YtfgnapfodnhppaaGreatDoor

namespace Go.Proofs.YtfgnapfodnhppaaGreatDoor
open Go
set_option linter.unusedVariables false
set_option linter.unusedSimpArgs false

theorem lines_good : ∀ (L : List (List UInt8)) (k : Nat) (s0 s : St), linesStep k L s0 = .ok s → GoodS s0 → StB s0 → (s0.ob.atoms.length ≤ 256 ∧ s0.ob.funs.length ≤ 256 ∧ s0.ob.preds.length ≤ 64 ∧ s0.ob.code.length ≤ 1024) → GoodS s ∧ StB s ∧ (s.ob.atoms.length ≤ 256 ∧ s.ob.funs.length ≤ 256 ∧ s.ob.preds.length ≤ 64 ∧ s.ob.code.length ≤ 1024)
  | [], k, s0, s, h, hg, hb, hl => by
    rw [linesStep] at h
    injection h with h
    subst h
    exact ⟨hg, hb, hl⟩
  | l :: L, k, s0, s, h, hg, hb, hl => by
    rw [linesStep] at h
    cases h1 : lineStep (k : Int) l s0 with
    | error e => rw [h1] at h; cases h
    | ok s1 =>
      rw [h1] at h
      simp only at h
      cases h2 : bigO s1.ob with
      | true => rw [h2, if_pos rfl] at h; cases h
      | false =>
        rw [h2, if_neg (by decide)] at h
        exact lines_good L (k + 1) s1 s h (line_good h1 hg (by omega)) (line_bd h1 hb (by omega)).1 (big_bd h2)

/-- Placed operands. -/
theorem placeArgs_get {labs : List (Int × Int)} {m : Nat} : ∀ {ks xs l : List Int}, placeArgs labs m ks xs = some l → ks.length ≤ xs.length → l.length = xs.length ∧ ∀ j, (j < ks.length ∧ ks.getD j 0 = 8 ∧ xs.getD j 0 ≠ 65535 → ∃ x, labOf labs (xs.getD j 0) = some x ∧ x < (m : Int) ∧ l.getD j 0 = x) ∧ (¬ (j < ks.length ∧ ks.getD j 0 = 8 ∧ xs.getD j 0 ≠ 65535) → l.getD j 0 = xs.getD j 0)
  | [], xs, l, h, _ => by
    rw [placeArgs] at h
    injection h with h
    subst h
    exact ⟨rfl, fun j => ⟨fun hj => absurd hj.1 (by simp), fun _ => rfl⟩⟩
  | k :: ks, [], l, h, hl => by simp at hl
  | k :: ks, x :: xs, l, h, hl => by
    rw [placeArgs] at h
    by_cases hc : k = 8 ∧ (x :: xs).headD 0 ≠ 65535
    · rw [if_pos hc] at h
      replace hc : k = 8 ∧ x ≠ 65535 := hc
      simp only [List.headD_cons, List.tail_cons] at h
      cases hy : labOf labs x with
      | none => rw [hy] at h; cases h
      | some y =>
        rw [hy] at h
        simp only at h
        by_cases hm : (m : Int) ≤ y
        · rw [if_pos hm] at h; cases h
        · rw [if_neg hm] at h
          cases h2 : placeArgs labs m ks xs with
          | none => rw [h2] at h; cases h
          | some l2 =>
            rw [h2] at h
            injection h with h
            subst h
            obtain ⟨g1, g2⟩ := placeArgs_get h2 (by simpa using hl)
            refine ⟨by simp [g1], fun j => ?_⟩
            cases j with
            | zero => exact ⟨fun _ => ⟨y, hy, by omega, rfl⟩, fun hn => absurd ⟨by simp, hc.1, hc.2⟩ hn⟩
            | succ j =>
              have := g2 j
              simpa using this
    · rw [if_neg hc] at h
      replace hc : ¬ (k = 8 ∧ x ≠ 65535) := hc
      simp only [List.headD_cons, List.tail_cons] at h
      cases h2 : placeArgs labs m ks xs with
      | none => rw [h2] at h; cases h
      | some l2 =>
        rw [h2] at h
        injection h with h
        subst h
        obtain ⟨g1, g2⟩ := placeArgs_get h2 (by simpa using hl)
        refine ⟨by simp [g1], fun j => ?_⟩
        cases j with
        | zero => exact ⟨fun hy => absurd ⟨hy.2.1, hy.2.2⟩ hc, fun _ => rfl⟩
        | succ j =>
          have := g2 j
          simpa using this
theorem labOf_mem {labs : List (Int × Int)} {k x : Int} (h : labOf labs k = some x) : ∃ q ∈ labs, q.2 = x := by
  unfold labOf at h
  cases hf : labs.find? (fun p => p.1 == k) with
  | none => rw [hf] at h; cases h
  | some q =>
    rw [hf] at h
    injection h with h
    exact ⟨q, List.mem_of_find?_eq_some hf, h⟩
/-- A placed instruction is one of an object that may be. -/
theorem placed_ok {o : Ob} {labs : List (Int × Int)} {m : Nat} {i j : Ins} (hi : GoodI o i) (hl : o.atoms.length ≤ 256 ∧ o.funs.length ≤ 256 ∧ o.preds.length ≤ 64) (hm : m ≤ 1024) (hlab : ∀ q ∈ labs, 0 ≤ q.2) (h : placeIns labs m i = some j) : insErr o.atoms.length o.funs.length o.preds.length m j = 0 := by
  unfold placeIns at h
  cases h2 : placeArgs labs m (opsOf i.1) (argOf i) with
  | none => rw [h2] at h; cases h
  | some l =>
    rw [h2] at h
    injection h with h
    subst h
    obtain ⟨i1, i2, i3, i4⟩ := hi
    have hfew := ops_few i.1
    obtain ⟨g1, g2⟩ := placeArgs_get h2 (by rw [argOf_len]; exact hfew)
    have hget : ∀ q, q < 4 → (argOf (insOf i.1 l)).getD q 0 = l.getD q 0 := fun q hq => argOf_ins _ _ q hq
    have hboth : ∀ q, q < (opsOf i.1).length → mayB i.1 ((opsOf i.1).getD q 0) (l.getD q 0) = true ∧ thereB o.atoms.length o.funs.length o.preds.length m ((opsOf i.1).getD q 0) (l.getD q 0) = true := fun q hq => by
      obtain ⟨a3, a4, a7, a8, ap⟩ := i3 q hq
      have gq := g2 q
      generalize (opsOf i.1).getD q 0 = kd at *
      generalize (argOf i).getD q 0 = n at *
      generalize l.getD q 0 = z at *
      by_cases h8 : kd = 8
      · subst h8
        have lo : lowOf 8 = 0 := by decide
        have hi : highOf 8 = 1023 := by decide
        by_cases hn : n = 65535
        · have hz : z = 65535 := by rw [gq.2 (fun h => h.2.2 hn), hn]
          have h26 : i.1 = 26 := by
            rcases a8 rfl with h | h
            · omega
            · exact h.1
          exact ⟨decide_eq_true (.inl ⟨h26, hz⟩), by simp [thereB, hz]⟩
        · obtain ⟨x, hx, hxm, hz⟩ := gq.1 ⟨hq, rfl, hn⟩
          obtain ⟨p, hp, hpx⟩ := labOf_mem hx
          have h0 := hlab p hp
          refine ⟨decide_eq_true (.inr ⟨by omega, by omega⟩), ?_⟩
          simp only [thereB]
          exact decide_eq_true (.inr ⟨by omega, by omega⟩)
      · have hz : z = n := gq.2 (fun h => h8 h.2.1)
        subst hz
        by_cases h3 : kd = 3
        · subst h3
          have lo : lowOf 3 = 0 := by decide
          have hi : highOf 3 = 255 := by decide
          have := a3 rfl
          refine ⟨decide_eq_true (.inr ⟨by omega, by omega⟩), ?_⟩
          simp only [thereB]
          exact decide_eq_true (by omega)
        · by_cases h4 : kd = 4
          · subst h4
            have lo : lowOf 4 = 0 := by decide
            have hi : highOf 4 = 255 := by decide
            have := a4 rfl
            refine ⟨decide_eq_true (.inr ⟨by omega, by omega⟩), ?_⟩
            simp only [thereB]
            exact decide_eq_true (by omega)
          · by_cases h7 : kd = 7
            · subst h7
              have lo : lowOf 7 = 0 := by decide
              have hi : highOf 7 = 63 := by decide
              have := a7 rfl
              refine ⟨decide_eq_true (.inr ⟨by omega, by omega⟩), ?_⟩
              simp only [thereB]
              exact decide_eq_true (by omega)
            · exact ⟨ap h3 h4 h7 h8, by simp [thereB, h3, h4, h7, h8]⟩
    have hright : rightB i.1 (argOf (insOf i.1 l)) = true := by
      rw [rightB, Bool.and_eq_true, List.all_eq_true]
      refine ⟨decide_eq_true ⟨i1, i2⟩, fun q hq => ?_⟩
      have hq4 : q < 4 := List.mem_range.1 hq
      rw [hget q hq4]
      by_cases hql : q < (opsOf i.1).length
      · exact (hboth q hql).1
      · have e1 : (opsOf i.1).getD q 0 = 0 := by rw [List.getD_eq_getElem?_getD, List.getElem?_eq_none (by omega)]; rfl
        have e2 : l.getD q 0 = 0 := by rw [(g2 q).2 (fun h => hql h.1)]; exact i4 q (by omega) hq4
        have lo : lowOf 0 = 0 := rfl
        have hi : highOf 0 = 0 := rfl
        rw [e1, e2]
        exact decide_eq_true (.inr ⟨by omega, by omega⟩)
    unfold insErr
    have e0 : (insOf i.1 l).1 = i.1 := rfl
    rw [e0, if_neg (by omega), if_neg (by rw [hright]; decide), if_pos]
    rw [List.all_eq_true]
    intro q hq
    have hq := List.mem_range.1 hq
    rw [hget q (by omega)]
    exact (hboth q hq).2

end Go.Proofs.YtfgnapfodnhppaaGreatDoor
