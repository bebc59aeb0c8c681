/-
  What a round of AreaActs keeps: both Areas, the Raw's box, the op's box; and each call over it, by a contract. Conditions: the blocks are the call's own; no more than 65536 cells.
-/
import Derived.Test.YtakbahnmlkphcaaActsA
namespace Go.Proofs.Ytakbahnmlkphcaa
open Go Go.RowKit
set_option linter.unusedVariables false

/-- Both Areas, the Raw's box in gr. -/
structure Both (W w : World) (q : Int) (ga gr gw : Nat) (va vw : Value) (xa xw : List Int) : Prop where
  ar : Ar w W.heap.size ga va xa q
  rf : Rf w W.heap.size gw vw xw q
  raw : Box w gr 30 #[.pointer (some ⟨ga, 0, none⟩)]
  low : W.heap.size ≤ gr
  below : Below W.heap.size W w

section
variable {W w w' : World} {q : Int} {ga gr gw : Nat} {va vw : Value} {xa xw : List Int}

theorem Both.size (h : Both W w q ga gr gw va vw xa xw) : W.heap.size ≤ w.heap.size := h.below.size
theorem Both.drewN (h : Both W w q ga gr gw va vw xa xw) (n : Nat) : Both W (w.drewN n) q ga gr gw va vw xa xw :=
  ⟨h.ar.drewN n, ⟨h.rf.1, h.rf.2.1, h.rf.2.2⟩, h.raw.drewN n, h.low, below_drewN h.below n⟩
theorem Both.alloc (h : Both W w q ga gr gw va vw xa xw) (o : Obj) : Both W (w.alloc o) q ga gr gw va vw xa xw :=
  ⟨h.ar.alloc o, ⟨h.rf.1.alloc o, h.rf.2.1, h.rf.2.2.alloc o⟩, h.raw.alloc o, h.low, h.below.alloc h.size o⟩
theorem Both.fresh (h : Both W w q ga gr gw va vw xa xw) (hb : Below w.heap.size w w') : Both W w' q ga gr gw va vw xa xw :=
  ⟨h.ar.below hb, ⟨h.rf.1.below hb h.rf.1.lt, h.rf.2.1, own_fr (S := fun _ => False) h.rf.2.2 (Fr.of_below hb) (fun _ _ x => x)⟩, h.raw.below hb h.raw.lt, h.low, h.below.trans (hb.mono h.size)⟩

/-- The area has turned. -/
theorem Both.areaTurned {va' : Value} {xa' : List Int} (h : Both W w q ga gr gw va vw xa xw) (ha : Ar w' W.heap.size ga va' xa' q) (hf : Fr (fun k => k = ga ∨ va.ownBlock = some k) w w') : Both W w' q ga gr gw va' vw xa' xw := by
  have hS : ∀ k, (k = ga ∨ va.ownBlock = some k) → W.heap.size ≤ k := fun k hk => by
    rcases hk with rfl | hk
    · exact h.ar.2.1
    · exact (h.ar.2.2.lt k hk).1
  have hb1 : ¬ (gw = ga ∨ va.ownBlock = some gw) := fun x => by
    rcases x with x | x
    · exact Box.ne_ h.rf.1 h.ar.1 (by decide) x
    · exact own_ne_box h.ar.2.2 h.rf.1 (by decide) gw x rfl
  have hb2 : ¬ (gr = ga ∨ va.ownBlock = some gr) := fun x => by
    rcases x with x | x
    · exact Box.ne_ h.raw h.ar.1 (by decide) x
    · exact own_ne_box h.ar.2.2 h.raw (by decide) gr x rfl
  have hb3 : ∀ k, vw.ownBlock = some k → ¬ (k = ga ∨ va.ownBlock = some k) := fun k hk x => by
    rcases x with x | x
    · exact own_ne_box h.rf.2.2 h.ar.1 (by decide) k hk x
    · exact own_ne_own h.rf.2.2 h.ar.2.2 (by decide) k hk x
  exact ⟨ha, ⟨h.rf.1.fr hf hb1, h.rf.2.1, own_fr h.rf.2.2 hf hb3⟩, h.raw.fr hf hb2, h.low, h.below.trans (hf.below h.size hS)⟩

/-- The document's has turned. -/
theorem Both.refTurned {vw' : Value} {xw' : List Int} (h : Both W w q ga gr gw va vw xa xw) (hr : Rf w' W.heap.size gw vw' xw' q) (hf : Fr (fun k => k = gw ∨ vw.ownBlock = some k) w w') : Both W w' q ga gr gw va vw' xa xw' := by
  have hS : ∀ k, (k = gw ∨ vw.ownBlock = some k) → W.heap.size ≤ k := fun k hk => by
    rcases hk with rfl | hk
    · exact h.rf.2.1
    · exact (h.rf.2.2.lt k hk).1
  have hb1 : ¬ (ga = gw ∨ vw.ownBlock = some ga) := fun x => by
    rcases x with x | x
    · exact Box.ne_ h.ar.1 h.rf.1 (by decide) x
    · exact own_ne_box h.rf.2.2 h.ar.1 (by decide) ga x rfl
  have hb2 : ¬ (gr = gw ∨ vw.ownBlock = some gr) := fun x => by
    rcases x with x | x
    · exact Box.ne_ h.raw h.rf.1 (by decide) x
    · exact own_ne_box h.rf.2.2 h.raw (by decide) gr x rfl
  have hb3 : ∀ k, va.ownBlock = some k → ¬ (k = gw ∨ vw.ownBlock = some k) := fun k hk x => by
    rcases x with x | x
    · exact own_ne_box h.ar.2.2 h.rf.1 (by decide) k hk x
    · exact own_ne_own h.ar.2.2 h.rf.2.2 (by decide) k hk x
  exact ⟨⟨h.ar.1.fr hf hb1, h.ar.2.1, own_fr h.ar.2.2 hf hb3⟩, hr, h.raw.fr hf hb2, h.low, h.below.trans (hf.below h.size hS)⟩

/-- Another box, of another kind, is kept by both. -/
theorem Both.areaKeeps {g : Nat} {cs : Array Value} (h : Both W w q ga gr gw va vw xa xw) (hf : Fr (fun k => k = ga ∨ va.ownBlock = some k) w w') (hb : Box w g 36 cs) : Box w' g 36 cs :=
  hb.fr hf (fun x => by
    rcases x with x | x
    · exact Box.ne_ hb h.ar.1 (by decide) x
    · exact own_ne_box h.ar.2.2 hb (by decide) g x rfl)
theorem Both.refKeeps {g : Nat} {cs : Array Value} (h : Both W w q ga gr gw va vw xa xw) (hf : Fr (fun k => k = gw ∨ vw.ownBlock = some k) w w') (hb : Box w g 36 cs) : Box w' g 36 cs :=
  hb.fr hf (fun x => by
    rcases x with x | x
    · exact Box.ne_ hb h.rf.1 (by decide) x
    · exact own_ne_box h.rf.2.2 hb (by decide) g x rfl)

end

/-- Behind a call that may have turned the area (a) or the document's (b), and keeps the op's box. -/
def TurnA (W w : World) (q : Int) (ga gr gw go : Nat) (vw : Value) (xa xw : List Int) (cs : Array Value) : Prop :=
  ∃ va, Both W w q ga gr gw va vw xa xw ∧ Box w go 36 cs
def TurnW (W w : World) (q : Int) (ga gr gw go : Nat) (va : Value) (xa xw : List Int) (cs : Array Value) : Prop :=
  ∃ vw, Both W w q ga gr gw va vw xa xw ∧ Box w go 36 cs

section
variable {W w : World} {q : Int} {ga gr gw go : Nat} {va vw : Value} {xa xw : List Int} {cs : Array Value}

/-- What Push does to a row. -/
def pushed (xs : List Int) (q c : Int) : List Int := if (xs.length : Int) < q ∧ cellOk c = true then xs ++ [c] else xs
def pushOk (xs : List Int) (q c : Int) : Bool := decide ((xs.length : Int) < q ∧ cellOk c = true)

theorem bpush (h : Both W w q ga gr gw va vw xa xw) (hb : Box w go 36 cs) (hl : xa.length ≤ q) (hq : q ≤ 65536) {c : Int} (hw : (Lit.int .u64 c).wf = true) :
    Calls Try.prog 10 #[.pointer (some ⟨ga, 0, none⟩), .int .u64 c] w fun e w' => e = .returned (.bool (pushOk xa q c)) ∧ TurnA W w' q ga gr gw go vw (pushed xa q c) xw cs := by
  by_cases hc : (xa.length : Int) < q ∧ cellOk c = true
  · refine (push_yes h.ar hc.1 hq hw hc.2).mono ?_
    rintro e w' ⟨rfl, v', ha, hf⟩
    rw [pushOk, pushed, decide_eq_true hc, if_pos hc]
    exact ⟨rfl, v', h.areaTurned ha hf, h.areaKeeps hf hb⟩
  · refine (push_no h.ar hl hq hw ?_).mono ?_
    · by_cases h1 : q = xa.length
      · exact .inl h1
      · refine .inr (by simpa using fun h2 => hc ⟨by omega, h2⟩)
    · rintro e w' ⟨rfl, n, rfl⟩
      rw [pushOk, pushed, decide_eq_false hc, if_neg hc]
      exact ⟨rfl, va, h.drewN n, hb.drewN n⟩

theorem badd (h : Both W w q ga gr gw va vw xa xw) (hb : Box w go 36 cs) (hl : xa.length < q) (hq : q ≤ 65536) {c : Int} (hc : cellOk c = true) :
    Calls Try.prog 8 #[.agg #[.pointer (some ⟨ga, 0, none⟩)], .int .u64 c] w fun e w' => e = .returned (.int .i64 xa.length) ∧ TurnA W w' q ga gr gw go vw (pushed xa q c) xw cs := by
  refine (add_raw h.ar hl hq h.size).mono ?_
  rintro e w' ⟨rfl, v', ha, hf⟩
  rw [pushed, if_pos ⟨hl, hc⟩]
  exact ⟨rfl, v', h.areaTurned ha hf, h.areaKeeps hf hb⟩

theorem wpush (h : Both W w q ga gr gw va vw xa xw) (hb : Box w go 36 cs) (hl : xw.length ≤ q) (hq : q ≤ 65536) {c : Int} (hw : (Lit.int .u64 c).wf = true) :
    Calls Try.prog 9 #[.pointer (some ⟨gw, 0, none⟩), .int .u64 c] w fun e w' => e = .returned (.bool (pushOk xw q c)) ∧ TurnW W w' q ga gr gw go va xa (pushed xw q c) cs := by
  by_cases hc : (xw.length : Int) < q ∧ cellOk c = true
  · refine (rpush_yes h.rf hc.1 hq hw hc.2 h.size).mono ?_
    rintro e w' ⟨rfl, v', ha, hf⟩
    have hf' : Fr (fun k => k = gw ∨ vw.ownBlock = some k) w w' := hf.mono fun _ _ x => .inl x
    rw [pushOk, pushed, decide_eq_true hc, if_pos hc]
    exact ⟨rfl, v', h.refTurned ha hf', h.refKeeps hf' hb⟩
  · refine (rpush_no h.rf hl hq hw ?_).mono ?_
    · by_cases h1 : q = xw.length
      · exact .inl h1
      · refine .inr (by simpa using fun h2 => hc ⟨by omega, h2⟩)
    · rintro e w' ⟨rfl, n, rfl⟩
      rw [pushOk, pushed, decide_eq_false hc, if_neg hc]
      exact ⟨rfl, vw, h.drewN n, hb.drewN n⟩

theorem wpush_true (h : Both W w q ga gr gw va vw xa xw) (hb : Box w go 36 cs) (hl : xw.length < q) (hq : q ≤ 65536) {c : Int} (hw : (Lit.int .u64 c).wf = true) (hc : cellOk c = true) :
    Calls Try.prog 9 #[.pointer (some ⟨gw, 0, none⟩), .int .u64 c] w fun e w' => e = .returned (.bool true) ∧ TurnW W w' q ga gr gw go va xa (pushed xw q c) cs := by
  have h1 := wpush h hb (by omega) hq hw
  have h2 : pushOk xw q c = true := decide_eq_true ⟨hl, hc⟩
  rw [h2] at h1
  exact h1

/-- What Set does to a row. -/
def setOk (xs : List Int) (t c : Int) : Bool := decide ((0 ≤ t ∧ t < xs.length) ∧ cellOk c = true)
def wasSet (xs : List Int) (t c : Int) : List Int := if (0 ≤ t ∧ t < xs.length) ∧ cellOk c = true then xs.set t.toNat c else xs

theorem bset (h : Both W w q ga gr gw va vw xa xw) (hb : Box w go 36 cs) (hm : xa.length ≤ 65536) {t c : Int} (hw : (Lit.int .u64 c).wf = true) :
    Calls Try.prog 16 #[.pointer (some ⟨ga, 0, none⟩), .int .i64 t, .int .u64 c] w fun e w' => e = .returned (.bool (setOk xa t c)) ∧ TurnA W w' q ga gr gw go vw (wasSet xa t c) xw cs := by
  by_cases hc : (0 ≤ t ∧ t < xa.length) ∧ cellOk c = true
  · obtain ⟨k, rfl⟩ := Int.eq_ofNat_of_zero_le hc.1.1
    refine (set_yes (k := k) h.ar hw hc.2 (by omega) hm).mono ?_
    rintro e w' ⟨rfl, ha, hf⟩
    rw [setOk, wasSet, decide_eq_true hc, if_pos hc]
    exact ⟨rfl, va, h.areaTurned ha hf, h.areaKeeps hf hb⟩
  · refine (set_no h.ar hw ?_).mono ?_
    · by_cases h1 : 0 ≤ t ∧ t < xa.length
      · exact .inr (by simpa using fun h2 => hc ⟨h1, h2⟩)
      · exact .inl (by omega)
    · rintro e w' ⟨rfl, rfl⟩
      rw [setOk, wasSet, decide_eq_false hc, if_neg hc]
      exact ⟨rfl, va, h, hb⟩

theorem bput (h : Both W w q ga gr gw va vw xa xw) (hb : Box w go 36 cs) (hm : xa.length ≤ 65536) {t c : Int} (h0 : 0 ≤ t) (h1 : t < xa.length) (hc : cellOk c = true) :
    Calls Try.prog 14 #[.agg #[.pointer (some ⟨ga, 0, none⟩)], .int .i64 t, .int .u64 c] w fun e w' => e = .returned (.tuple #[]) ∧ TurnA W w' q ga gr gw go vw (wasSet xa t c) xw cs := by
  obtain ⟨k, rfl⟩ := Int.eq_ofNat_of_zero_le h0
  refine (put_raw (k := k) h.ar (by omega) hm).mono ?_
  rintro e w' ⟨rfl, ha, hf⟩
  rw [wasSet, if_pos ⟨⟨h0, h1⟩, hc⟩]
  exact ⟨rfl, va, h.areaTurned ha hf, h.areaKeeps hf hb⟩

theorem wset (h : Both W w q ga gr gw va vw xa xw) (hb : Box w go 36 cs) (hm : xw.length ≤ 65536) {t c : Int} (hw : (Lit.int .u64 c).wf = true) :
    Calls Try.prog 15 #[.pointer (some ⟨gw, 0, none⟩), .int .i64 t, .int .u64 c] w fun e w' => e = .returned (.bool (setOk xw t c)) ∧ TurnW W w' q ga gr gw go va xa (wasSet xw t c) cs := by
  by_cases hc : (0 ≤ t ∧ t < xw.length) ∧ cellOk c = true
  · obtain ⟨k, rfl⟩ := Int.eq_ofNat_of_zero_le hc.1.1
    refine (rset_yes (k := k) h.rf (by omega) hm hw hc.2 h.size).mono ?_
    rintro e w' ⟨rfl, v', ha, hf⟩
    have hf' : Fr (fun k => k = gw ∨ vw.ownBlock = some k) w w' := hf.mono fun _ _ x => .inl x
    rw [setOk, wasSet, decide_eq_true hc, if_pos hc]
    exact ⟨rfl, v', h.refTurned ha hf', h.refKeeps hf' hb⟩
  · refine (rset_no h.rf hw ?_).mono ?_
    · by_cases h1 : 0 ≤ t ∧ t < xw.length
      · exact .inr (by simpa using fun h2 => hc ⟨h1, h2⟩)
      · exact .inl (by omega)
    · rintro e w' ⟨rfl, rfl⟩
      rw [setOk, wasSet, decide_eq_false hc, if_neg hc]
      exact ⟨rfl, vw, h, hb⟩

/-- What Cut does to a row. -/
def cutOk (xs : List Int) (t : Int) : Bool := decide (0 ≤ t ∧ t ≤ xs.length)
def wasCut (xs : List Int) (t : Int) : List Int := if 0 ≤ t ∧ t ≤ xs.length then xs.take t.toNat else xs

theorem bcut (h : Both W w q ga gr gw va vw xa xw) (hb : Box w go 36 cs) (hm : xa.length ≤ 65536) {t : Int} :
    Calls Try.prog 17 #[.pointer (some ⟨ga, 0, none⟩), .int .i64 t] w fun e w' => e = .returned (.bool (cutOk xa t)) ∧ TurnA W w' q ga gr gw go vw (wasCut xa t) xw cs := by
  by_cases hc : 0 ≤ t ∧ t ≤ xa.length
  · obtain ⟨k, rfl⟩ := Int.eq_ofNat_of_zero_le hc.1
    refine (cut_yes (k := k) h.ar (by omega) hm).mono ?_
    rintro e w' ⟨rfl, v', ha, hf⟩
    rw [cutOk, wasCut, decide_eq_true hc, if_pos hc]
    exact ⟨rfl, v', h.areaTurned ha hf, h.areaKeeps hf hb⟩
  · refine (cut_no h.ar (by omega)).mono ?_
    rintro e w' ⟨rfl, rfl⟩
    rw [cutOk, wasCut, decide_eq_false hc, if_neg hc]
    exact ⟨rfl, va, h, hb⟩

theorem wcut (h : Both W w q ga gr gw va vw xa xw) (hb : Box w go 36 cs) (hm : xw.length ≤ 65536) {t : Int} :
    Calls Try.prog 18 #[.pointer (some ⟨gw, 0, none⟩), .int .i64 t] w fun e w' => e = .returned (.bool (cutOk xw t)) ∧ TurnW W w' q ga gr gw go va xa (wasCut xw t) cs := by
  by_cases hc : 0 ≤ t ∧ t ≤ xw.length
  · obtain ⟨k, rfl⟩ := Int.eq_ofNat_of_zero_le hc.1
    refine (rcut_yes (k := k) h.rf (by omega) hm).mono ?_
    rintro e w' ⟨rfl, v', ha, hf⟩
    rw [cutOk, wasCut, decide_eq_true hc, if_pos hc]
    exact ⟨rfl, v', h.refTurned ha hf, h.refKeeps hf hb⟩
  · refine (rcut_no h.rf (by omega)).mono ?_
    rintro e w' ⟨rfl, rfl⟩
    rw [cutOk, wasCut, decide_eq_false hc, if_neg hc]
    exact ⟨rfl, vw, h, hb⟩

/-- What Get answers. -/
def getC (xs : List Int) (t : Int) : Int := if 0 ≤ t ∧ t < xs.length then xs.getD t.toNat 0 else 0
def getOk (xs : List Int) (t : Int) : Bool := decide (0 ≤ t ∧ t < xs.length)

theorem bget (h : Both W w q ga gr gw va vw xa xw) (hm : xa.length ≤ 65536) {t : Int} :
    Calls Try.prog 11 #[.pointer (some ⟨ga, 0, none⟩), .int .i64 t] w fun e w' => e = .returned (.tuple #[.int .u64 (getC xa t), .bool (getOk xa t)]) ∧ w = w' := by
  by_cases hc : 0 ≤ t ∧ t < xa.length
  · obtain ⟨k, rfl⟩ := Int.eq_ofNat_of_zero_le hc.1
    rw [getOk, getC, decide_eq_true hc, if_pos hc]
    exact get_yes (k := k) h.ar (by omega) hm
  · rw [getOk, getC, decide_eq_false hc, if_neg hc]
    exact get_no h.ar (by omega)

theorem wget (h : Both W w q ga gr gw va vw xa xw) (hm : xw.length ≤ 65536) {t : Int} :
    Calls Try.prog 12 #[.pointer (some ⟨gw, 0, none⟩), .int .i64 t] w fun e w' => e = .returned (.tuple #[.int .u64 (getC xw t), .bool (getOk xw t)]) ∧ w = w' := by
  by_cases hc : 0 ≤ t ∧ t < xw.length
  · obtain ⟨k, rfl⟩ := Int.eq_ofNat_of_zero_le hc.1
    rw [getOk, getC, decide_eq_true hc, if_pos hc]
    exact rget_yes (k := k) h.rf (by omega) hm
  · rw [getOk, getC, decide_eq_false hc, if_neg hc]
    exact rget_no h.rf (by omega)

theorem bat (h : Both W w q ga gr gw va vw xa xw) (hm : xa.length ≤ 65536) {t : Int} (h0 : 0 ≤ t) (h1 : t < xa.length) :
    Calls Try.prog 13 #[.agg #[.pointer (some ⟨ga, 0, none⟩)], .int .i64 t] w fun e w' => e = .returned (.int .u64 (getC xa t)) ∧ Below w.heap.size w w' := by
  obtain ⟨k, rfl⟩ := Int.eq_ofNat_of_zero_le h0
  refine (at_raw (k := k) h.ar (by omega) hm).mono ?_
  rintro e w' ⟨rfl, rfl⟩
  rw [getC, if_pos ⟨h0, h1⟩]
  exact ⟨rfl, (Below.refl _ w).alloc (Nat.le_refl _) _⟩
end

theorem pushed_len {xs : List Int} {q c : Int} (h : xs.length ≤ q) : ((pushed xs q c).length : Int) ≤ q := by
  unfold pushed
  split
  · rename_i h1
    simp
    omega
  · exact h
theorem wasSet_len {xs : List Int} {q t c : Int} (h : xs.length ≤ q) : ((wasSet xs t c).length : Int) ≤ q := by
  unfold wasSet
  split
  · simpa using h
  · exact h
theorem wasCut_len {xs : List Int} {q t : Int} (h : xs.length ≤ q) : ((wasCut xs t).length : Int) ≤ q := by
  unfold wasCut
  split
  · simp
    omega
  · exact h
end Go.Proofs.Ytakbahnmlkphcaa
