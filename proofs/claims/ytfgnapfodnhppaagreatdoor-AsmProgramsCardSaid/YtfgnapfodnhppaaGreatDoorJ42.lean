/-
  The document's 'try': a second record whose tables are the first one's; and operands, one behind the other (plain). No condition.
-/
import Derived.Test.YtfgnapfodnhppaaGreatDoorJ36
import Derived.Test.YtfgnapfodnhppaaGreatDoorJ29
namespace Go.Proofs.YtfgnapfodnhppaaGreatDoor
open Go Go.RowKit Go.WideShapes Go.ChangeShapes
set_option linter.unusedVariables false
set_option linter.unusedSimpArgs false

/-- A block that is none of the record's. -/
structure Apart (w : World) (b g : Nat) (va vf vp : Value) : Prop where
  lt : b < w.heap.size
  ne : b ≠ g
  a : va.ownBlock ≠ some b
  f : vf.ownBlock ≠ some b
  p : vp.ownBlock ≠ some b
theorem Apart.after {w w' : World} {b g : Nat} {va vf vp va' vf' vp' : Value} {o o' : Ob} (h : Apart w b g va vf vp) (hf : RtF w w' g va vf vp va' vf' vp' o o') : Apart w' b g va' vf' vp' ∧ w'.heap[b]? = w.heap[b]? := by
  have own : ∀ {v v' : Value}, v.ownBlock ≠ some b → (v'.ownBlock = v.ownBlock ∨ ∃ c, v'.ownBlock = some c ∧ w.heap.size ≤ c) → v'.ownBlock ≠ some b := fun h1 h2 e => by
    rcases h2 with h2 | ⟨c, h2, hc⟩
    · exact h1 (h2.symm.trans e)
    · rw [h2] at e
      injection e with e
      have := h.lt
      omega
  refine ⟨⟨Nat.lt_of_lt_of_le h.lt hf.fr.size, h.ne, own h.a hf.ownA, own h.f hf.ownF, own h.p hf.ownP⟩, hf.fr.block b h.lt fun e => ?_⟩
  rcases e with e | e | e | e
  · exact h.ne e
  · exact h.a e
  · exact h.f e
  · exact h.p e
theorem Apart.goes {w w' : World} {b g : Nat} {va vf vp : Value} (h : Apart w b g va vf vp) (hb : Below w.heap.size w w') : Apart w' b g va vf vp := ⟨Nat.lt_of_lt_of_le h.lt hb.size, h.ne, h.a, h.f, h.p⟩
theorem Box.apart {w w' : World} {b g : Nat} {va vf vp va' vf' vp' : Value} {o o' : Ob} {t : TypeId} {cs : Array Value} (h : Box w b t cs) (ha : Apart w b g va vf vp) (hf : RtF w w' g va vf vp va' vf' vp' o o') : Box w' b t cs := (ha.after hf).2.trans h
/-- What came in stands where it stood, whatever the second record does. -/
theorem Rm.keep {base : Nat} {w w' : World} {g gt : Nat} {va vf vp vc vu vl ta tf tp tc tu tl ta' tf' tp' : Value} {s : Rs} {TL : List Int} {o o' : Ob} (h : Rm base w g va vf vp vc vu vl s) (ht : Rt base w gt ta tf tp tc tu tl TL o) (hf : RtF w w' gt ta tf tp ta' tf' tp' o o') (hne : g ≠ gt)
    (hlen : s.ob.atoms.length ≤ o.atoms.length ∧ s.ob.funs.length ≤ o.funs.length ∧ s.ob.preds.length ≤ o.preds.length) : Rm base w' g va vf vp vc vu vl s := by
  have far : ∀ {base' n size : Nat} {e : TypeId} {u : Value} {xs : List Value}, w.ownsRow base' e size u n xs → e ≠ 9 → e ≠ 75 → e ≠ 73 → e ≠ 66 → w'.ownsRow base' e size u n xs := fun hu h1 h2 h3 h4 =>
    own_fr hu hf.fr fun k hk e => by
      rcases e with e | e | e | e
      · exact own_ne_box hu ht.box h4 k hk e
      · exact own_ne_own hu ht.ra h1 k hk e
      · exact own_ne_own hu ht.rf h2 k hk e
      · exact own_ne_own hu ht.rp h3 k hk e
  refine ⟨⟨h.t.box.fr hf.fr fun e => ?_, h.t.len, hf.keepA _ _ _ _ h.t.ra (fun _ => hlen.1), hf.keepF _ _ _ _ h.t.rf (fun _ => hlen.2.1), hf.keepP _ _ _ _ h.t.rp (fun _ => hlen.2.2), far h.t.rc (by decide) (by decide) (by decide) (by decide), h.t.ge⟩, far h.ru (by decide) (by decide) (by decide) (by decide), far h.rl (by decide) (by decide) (by decide) (by decide)⟩
  rcases e with e | e | e | e
  · exact hne e
  · exact own_ne_box ht.ra h.t.box (by decide) _ e rfl
  · exact own_ne_box ht.rf h.t.box (by decide) _ e rfl
  · exact own_ne_box ht.rp h.t.box (by decide) _ e rfl
def noCode (o : Ob) : Ob := { o with code := [] }
/-- The second record, at its beginning. -/
theorem Rm.second {base : Nat} {w : World} {g gt : Nat} {va vf vp vc vu vl : Value} {s : Rs} (h : Rm base w g va vf vp vc vu vl s) (hb : Box w gt 66 (rcs va vf vp (.slice none 0 0) (List.replicate 1024 0) (.slice none 0 0) (.slice none 0 0))) (hge : base ≤ gt) :
    Rt base w gt va vf vp (.slice none 0 0) (.slice none 0 0) (.slice none 0 0) (List.replicate 1024 0) (noCode s.ob) :=
  ⟨hb, List.length_replicate, h.t.ra, h.t.rf, h.t.rp, World.ownsRow_nil _ _ _ _, hge⟩

/-! Operands, one behind the other. -/
theorem predStep_noCode (o : Ob) (f : ByteArray × Int) : predStep (noCode o) f = ((predStep o f).1, noCode (predStep o f).2) := by
  unfold predStep noCode
  simp only
  split <;> rfl
theorem opStep_noCode (op kind : Int) (w : List UInt8) (o : Ob) : opStep op kind w (noCode o) = (opStep op kind w o).map fun r => (r.1, noCode r.2) := by
  unfold opStep
  split
  · split <;> rfl
  · split
    · cases funOf w 1 <;> rfl
    · split
      · cases funOf w 0 with
        | none => rfl
        | some f =>
          show some (predStep (noCode o) f) = some _
          rw [predStep_noCode]
      · split
        · split
          · split <;> rfl
          · cases labelOf w <;> rfl
        · cases opdOf kind w <;> rfl
theorem opsStep_noCode (op : Int) : ∀ (ks : List Int) (ws : List (List UInt8)) (o : Ob), opsStep op ks ws (noCode o) = (opsStep op ks ws o).map fun r => (r.1, noCode r.2)
  | [], ws, o => rfl
  | k :: ks, ws, o => by
    rw [opsStep, opsStep, opStep_noCode]
    cases h : opStep op k (ws.headD []) o with
    | none => rfl
    | some p =>
      obtain ⟨x, o'⟩ := p
      show Option.map _ (opsStep op ks ws.tail (noCode o')) = Option.map _ (Option.map _ (opsStep op ks ws.tail o'))
      rw [opsStep_noCode]
      cases opsStep op ks ws.tail o' <;> rfl
/-- Behind so many operands. -/
def OpP (op : Int) (L : List Int) (ws : List (List UInt8)) (o0 : Ob) (m : Nat) (xs : List Int) (o : Ob) : Prop :=
  xs.length = m ∧ opsStep op L ws o0 = (opsStep op (L.drop m) (ws.drop m) o).map fun r => (xs ++ r.1, r.2)
theorem OpP.start (op : Int) (L : List Int) (ws : List (List UInt8)) (o0 : Ob) : OpP op L ws o0 0 [] o0 := by
  refine ⟨rfl, ?_⟩
  rw [List.drop_zero, List.drop_zero]
  cases opsStep op L ws o0 <;> rfl
theorem drop_head {ws : List (List UInt8)} {m : Nat} : (ws.drop m).headD [] = ws.getD m [] := by
  rw [List.headD_eq_head?_getD, List.head?_drop, List.getD_eq_getElem?_getD]
theorem OpP.bad {op : Int} {L : List Int} {ws : List (List UInt8)} {o0 : Ob} {m : Nat} {xs : List Int} {o : Ob} (h : OpP op L ws o0 m xs o) (hm : m < L.length) (hn : opStep op (L.getD m 0) (ws.getD m []) o = none) : opsStep op L ws o0 = none := by
  rw [h.2, List.drop_eq_getElem_cons hm, opsStep, drop_head]
  rw [List.getD_eq_getElem?_getD, List.getElem?_eq_getElem hm] at hn
  have hn : opStep op L[m] (ws.getD m []) o = none := hn
  rw [hn]
  rfl
theorem OpP.next {op : Int} {L : List Int} {ws : List (List UInt8)} {o0 : Ob} {m : Nat} {xs : List Int} {o o' : Ob} {x : Int} (h : OpP op L ws o0 m xs o) (hm : m < L.length) (hn : opStep op (L.getD m 0) (ws.getD m []) o = some (x, o')) : OpP op L ws o0 (m + 1) (xs ++ [x]) o' := by
  refine ⟨by rw [List.length_append, h.1]; rfl, ?_⟩
  rw [h.2, List.drop_eq_getElem_cons hm, opsStep, drop_head]
  rw [List.getD_eq_getElem?_getD, List.getElem?_eq_getElem hm] at hn
  have hn : opStep op L[m] (ws.getD m []) o = some (x, o') := hn
  rw [hn]
  simp only
  rw [List.tail_drop]
  cases opsStep op (L.drop (m + 1)) (ws.drop (m + 1)) o' with
  | none => rfl
  | some p => simp
theorem OpP.done {op : Int} {L : List Int} {ws : List (List UInt8)} {o0 : Ob} {xs : List Int} {o : Ob} (h : OpP op L ws o0 L.length xs o) : opsStep op L ws o0 = some (xs, o) := by
  rw [h.2, List.drop_length, opsStep]
  simp
theorem opStep_len {op kind : Int} {w : List UInt8} {o o' : Ob} {n : Int} (h : opStep op kind w o = some (n, o')) (hop : op = 26 → kind = 8) : o'.atoms.length ≤ o.atoms.length + 1 ∧ o'.funs.length ≤ o.funs.length + 1 ∧ o'.preds.length ≤ o.preds.length + 1 := by
  have := opStep_bd h hop
  exact ⟨this.2.2.1, this.2.2.2.1, this.2.2.2.2.1⟩
theorem usedOf_snoc (c n : Int) : ∀ (ks xs : List Int) (k : Nat) (kd x : Int), xs.length = ks.length → usedOf c n k (ks ++ [kd]) (xs ++ [x]) = usedOf c n k ks xs ++ (if kd = 8 ∧ x ≠ 65535 then [(c, ((k + ks.length : Nat) : Int), n)] else [])
  | [], [], k, kd, x, _ => by
    rw [List.nil_append, List.nil_append, usedOf, usedOf, usedOf]
    simp
  | kd0 :: ks, x0 :: xs, k, kd, x, h => by
    rw [List.cons_append, List.cons_append, usedOf, usedOf]
    simp only [List.headD_cons, List.tail_cons]
    rw [usedOf_snoc c n ks xs (k + 1) kd x (by simpa using h), List.append_assoc, List.length_cons, show k + 1 + ks.length = k + (ks.length + 1) by omega]
    rfl
theorem insC_snoc (op : Int) (xs : List Int) (x : Int) (m : Nat) (hm : xs.length = m) (h4 : m < 4) : (insC (insOf op xs)).toArray.setIfInBounds (1 + m) (.int .i64 x) = (insC (insOf op (xs ++ [x]))).toArray := by
  match xs, hm with
  | [], h => subst h; rfl
  | [a], h => subst h; rfl
  | [a, b], h => subst h; rfl
  | [a, b, c], h => subst h; rfl
  | a :: b :: c :: d :: l, h => simp at h; omega
theorem take_snocL {L : List Int} {m : Nat} (h : m < L.length) : L.take (m + 1) = L.take m ++ [L.getD m 0] := by
  rw [List.take_succ_eq_append_getElem h, List.getD_eq_getElem?_getD, List.getElem?_eq_getElem h]
  rfl


/-! What stands beside the record: the words (bw), the instruction that comes to be (gx), the kinds (gl). -/
structure Side (wr : World) (bw gx gl : Nat) (pl : Option Addr) (L : List Int) (ws : List (List UInt8)) (X : Array Value) : Prop where
  wc : ∀ k, k < ws.length → wr.cell? ⟨bw, k, none⟩ = some (.string (bs (ws.getD k [])))
  xb : Box wr gx 71 X
  lb : 0 < L.length → pl = some ⟨gl, 0, none⟩ ∧ Box wr gl 3 (L.map (Value.int .i64)).toArray
  lt : bw < wr.heap.size
  ne : bw ≠ gx ∧ (0 < L.length → gl ≠ gx)
theorem cell_sameG {w w' : World} {b : Nat} (h : w'.heap[b]? = w.heap[b]?) (k : Nat) : w'.cell? ⟨b, k, none⟩ = w.cell? ⟨b, k, none⟩ := by
  unfold World.cell?
  simp only
  rw [h]
section
variable {base : Nat} {w wr w' w6 : World} {g gt bw gx gl m : Nat} {pl : Option Addr} {L : List Int} {ws : List (List UInt8)} {X : Array Value} {va vf vp vc vu vl ta tf tp ta' tf' tp' va' vf' vp' v6 : Value} {s : Rs} {o o' : Ob}
theorem Side.same (h : Side wr bw gx gl pl L ws X) (hs : wr.heap.size ≤ w'.heap.size) (h1 : w'.heap[bw]? = wr.heap[bw]?) (h2 : w'.heap[gx]? = wr.heap[gx]?) (h3 : 0 < L.length → w'.heap[gl]? = wr.heap[gl]?) : Side w' bw gx gl pl L ws X :=
  ⟨fun k hk => (cell_sameG h1 k).trans (h.wc k hk), h2.trans h.xb, fun h0 => ⟨(h.lb h0).1, (h3 h0).trans (h.lb h0).2⟩, Nat.lt_of_lt_of_le h.lt hs, h.ne⟩
theorem Side.goes (h : Side wr bw gx gl pl L ws X) (hb : Below wr.heap.size wr w') : Side w' bw gx gl pl L ws X :=
  h.same hb.size (hb.block bw h.lt) (hb.block gx h.xb.lt) (fun h0 => hb.block gl (h.lb h0).2.lt)
/-- None of these is the record's. -/
structure AllA (wr : World) (bw gx gl : Nat) (L : List Int) (g : Nat) (va vf vp : Value) : Prop where
  w : Apart wr bw g va vf vp
  x : Apart wr gx g va vf vp
  l : 0 < L.length → Apart wr gl g va vf vp
theorem AllA.goes (h : AllA wr bw gx gl L g va vf vp) (hb : Below wr.heap.size wr w') : AllA w' bw gx gl L g va vf vp := ⟨h.w.goes hb, h.x.goes hb, fun h0 => (h.l h0).goes hb⟩
theorem AllA.after (h : AllA wr bw gx gl L g va vf vp) (hf : RtF wr w' g va vf vp va' vf' vp' o o') : AllA w' bw gx gl L g va' vf' vp' := ⟨(h.w.after hf).1, (h.x.after hf).1, fun h0 => ((h.l h0).after hf).1⟩
theorem Side.after (h : Side wr bw gx gl pl L ws X) (ha : AllA wr bw gx gl L g va vf vp) (hf : RtF wr w' g va vf vp va' vf' vp' o o') : Side w' bw gx gl pl L ws X :=
  h.same hf.fr.size (ha.w.after hf).2 (ha.x.after hf).2 (fun h0 => ((ha.l h0).after hf).2)
theorem AllA.size (h : AllA wr bw gx gl L g va vf vp) (hs : wr.heap.size ≤ w'.heap.size) : AllA w' bw gx gl L g va vf vp :=
  ⟨⟨Nat.lt_of_lt_of_le h.w.lt hs, h.w.ne, h.w.a, h.w.f, h.w.p⟩, ⟨Nat.lt_of_lt_of_le h.x.lt hs, h.x.ne, h.x.a, h.x.f, h.x.p⟩, fun h0 => ⟨Nat.lt_of_lt_of_le (h.l h0).lt hs, (h.l h0).ne, (h.l h0).a, (h.l h0).f, (h.l h0).p⟩⟩
/-- The first loop: 'try' goes on. -/
structure TryM (base : Nat) (w wr : World) (g gt bw gx gl : Nat) (pl : Option Addr) (L : List Int) (ws : List (List UInt8)) (X : Array Value) (va vf vp vc vu vl : Value) (s : Rs) (ta tf tp : Value) (o : Ob) (m : Nat) : Prop where
  rm : Rm base wr g va vf vp vc vu vl s
  rt : Rt base wr gt ta tf tp (.slice none 0 0) (.slice none 0 0) (.slice none 0 0) (List.replicate 1024 0) o
  side : Side wr bw gx gl pl L ws X
  ap : AllA wr bw gx gl L gt ta tf tp
  apa : AllA wr bw gx gl L g va vf vp
  ne : g ≠ gt
  len : s.ob.atoms.length ≤ o.atoms.length ∧ s.ob.funs.length ≤ o.funs.length ∧ s.ob.preds.length ≤ o.preds.length
  bd : o.atoms.length ≤ s.ob.atoms.length + m ∧ o.funs.length ≤ s.ob.funs.length + m ∧ o.preds.length ≤ s.ob.preds.length + m
  below : Below base w wr
theorem TryM.goes (h : TryM base w wr g gt bw gx gl pl L ws X va vf vp vc vu vl s ta tf tp o m) (hw : base ≤ w.heap.size) (hb : Below wr.heap.size wr w') : TryM base w w' g gt bw gx gl pl L ws X va vf vp vc vu vl s ta tf tp o m :=
  ⟨h.rm.goes hb, h.rt.goes hb, h.side.goes hb, h.ap.goes hb, h.apa.goes hb, h.ne, h.len, h.bd, h.below.trans (hb.mono (Nat.le_trans hw h.below.size))⟩
theorem TryM.after (h : TryM base w wr g gt bw gx gl pl L ws X va vf vp vc vu vl s ta tf tp o m) (hw : base ≤ w.heap.size) (ht : Rt base w' gt ta' tf' tp' (.slice none 0 0) (.slice none 0 0) (.slice none 0 0) (List.replicate 1024 0) o') (hf : RtF wr w' gt ta tf tp ta' tf' tp' o o')
    (hl : o'.atoms.length ≤ o.atoms.length + 1 ∧ o'.funs.length ≤ o.funs.length + 1 ∧ o'.preds.length ≤ o.preds.length + 1) : TryM base w w' g gt bw gx gl pl L ws X va vf vp vc vu vl s ta' tf' tp' o' (m + 1) := by
  have h1 := h.len
  have h2 := h.bd
  have h3 := hf.len
  exact ⟨h.rm.keep h.rt hf h.ne h.len, ht, h.side.after h.ap hf, h.ap.after hf, h.apa.size hf.fr.size, h.ne, by omega, by omega, h.below.trans (hf.under h.rt (Nat.le_trans hw h.below.size))⟩
/-- The second loop: the record goes on. -/
structure SetM (base : Nat) (w wr : World) (g bw gx gl : Nat) (pl : Option Addr) (L : List Int) (ws : List (List UInt8)) (X : Array Value) (va vf vp vc vu vl : Value) (s : Rs) : Prop where
  rm : Rm base wr g va vf vp vc vu vl s
  side : Side wr bw gx gl pl L ws X
  ap : AllA wr bw gx gl L g va vf vp
  au : vu.ownBlock ≠ some bw ∧ vu.ownBlock ≠ some gx ∧ (0 < L.length → vu.ownBlock ≠ some gl)
  ac : vc.ownBlock ≠ some gx
  gex : base ≤ gx
  below : Below base w wr
theorem SetM.goes (h : SetM base w wr g bw gx gl pl L ws X va vf vp vc vu vl s) (hw : base ≤ w.heap.size) (hb : Below wr.heap.size wr w') : SetM base w w' g bw gx gl pl L ws X va vf vp vc vu vl s :=
  ⟨h.rm.goes hb, h.side.goes hb, h.ap.goes hb, h.au, h.ac, h.gex, h.below.trans (hb.mono (Nat.le_trans hw h.below.size))⟩
theorem SetM.after (h : SetM base w wr g bw gx gl pl L ws X va vf vp vc vu vl s) (hw : base ≤ w.heap.size) (ht : Rt base w' g va' vf' vp' vc vu vl s.labs o') (hf : RtF wr w' g va vf vp va' vf' vp' s.ob o') : SetM base w w' g bw gx gl pl L ws X va' vf' vp' vc vu vl { s with ob := o' } :=
  ⟨h.rm.after ht hf, h.side.after h.ap hf, h.ap.after hf, h.au, h.ac, h.gex, h.below.trans (hf.under h.rm.t (Nat.le_trans hw h.below.size))⟩
theorem Rm.far {p : Addr} (h : Rm base w g va vf vp vc vu vl s) (hg : p.block ≠ g) (ha : va.ownBlock ≠ some p.block) (hf : vf.ownBlock ≠ some p.block) (hp : vp.ownBlock ≠ some p.block) (hc : vc.ownBlock ≠ some p.block) (hu : vu.ownBlock ≠ some p.block) (hl : vl.ownBlock ≠ some p.block) (x : Value) : Rm base (w.setCell p x) g va vf vp vc vu vl s :=
  ⟨⟨h.t.box.far (p := p) (fun e => hg e.symm) _, h.t.len, own_set_far h.t.ra (p := p) (fun k hk e => ha (by rw [← e]; exact hk)) _, own_set_far h.t.rf (p := p) (fun k hk e => hf (by rw [← e]; exact hk)) _, own_set_far h.t.rp (p := p) (fun k hk e => hp (by rw [← e]; exact hk)) _, own_set_far h.t.rc (p := p) (fun k hk e => hc (by rw [← e]; exact hk)) _, h.t.ge⟩,
    own_set_far h.ru (p := p) (fun k hk e => hu (by rw [← e]; exact hk)) _, own_set_far h.rl (p := p) (fun k hk e => hl (by rw [← e]; exact hk)) _⟩
theorem SetM.put (h : SetM base w wr g bw gx gl pl L ws X va vf vp vc vu vl s) (k : Nat) (x : Value) : SetM base w (wr.setCell ⟨gx, k, none⟩ x) g bw gx gl pl L ws (X.setIfInBounds k x) va vf vp vc vu vl s := by
  have hne := h.side.ne
  have hfr : Fr (fun j => j = gx) wr (wr.setCell ⟨gx, k, none⟩ x) := (Fr.refl (fun j => j = gx) wr).setCell (p := ⟨gx, k, none⟩) (.inl rfl) x
  refine ⟨h.rm.far (p := ⟨gx, k, none⟩) h.ap.x.ne h.ap.x.a h.ap.x.f h.ap.x.p h.ac h.au.2.1 (fun e => own_ne_box h.rm.rl h.side.xb (by decide) _ e rfl) _, ⟨fun j hj => ?_, h.side.xb.set_ _ _, fun h0 => ⟨(h.side.lb h0).1, (h.side.lb h0).2.far (p := ⟨gx, k, none⟩) (hne.2 h0) _⟩, Nat.lt_of_lt_of_le h.side.lt hfr.size, hne⟩, h.ap.size hfr.size, h.au, h.ac, h.gex, h.below.setCell (p := ⟨gx, k, none⟩) h.gex _⟩
  rw [cell_sameG (hfr.block bw h.side.lt hne.1)]
  exact h.side.wc j hj
theorem Rm.putu {i j k : Int} (h : Rm base w g va vf vp vc vu vl s) (ha : App w w6 base 68 3 vu v6 (s.used.length + 1) ((s.used.flatMap usC) ++ [.int .i64 i, .int .i64 j, .int .i64 k])) :
    Rm base (w6.setCell ⟨g, 1028, none⟩ v6) g va vf vp vc v6 vl { s with used := s.used ++ [(i, j, k)] } ∧ w6.cell? ⟨g, 1028, none⟩ = some vu ∧ w6.frozen? ⟨g, 1028, none⟩ = false := by
  have hbx := h.t.box.fr ha.fr (fun e => own_ne_box h.ru h.t.box (by decide) _ e rfl)
  have hfar : ∀ {base' n' size' : Nat} {e' : TypeId} {u : Value} {xs : List Value}, w.ownsRow base' e' size' u n' xs → e' ≠ 68 → e' ≠ 66 → (w6.setCell ⟨g, 1028, none⟩ v6).ownsRow base' e' size' u n' xs := fun hu he hb => by
    have h1 := own_fr hu ha.fr (fun k hk e => own_ne_own hu h.ru he k hk e)
    exact own_set_far h1 (p := ⟨g, 1028, none⟩) (fun k hk => own_ne_box h1 hbx hb k hk) v6
  have hb := hbx.set_ 1028 v6
  rw [rcs_setu h.t.len] at hb
  refine ⟨⟨⟨hb, h.t.len, hfar h.t.ra (by decide) (by decide), hfar h.t.rf (by decide) (by decide), hfar h.t.rp (by decide) (by decide), hfar h.t.rc (by decide) (by decide), h.t.ge⟩, ?_, hfar h.rl (by decide) (by decide)⟩, (hbx.cell 1028).trans (rcs_u h.t.len), hbx.frozen 1028⟩
  have h2 := own_set_far ha.own (p := ⟨g, 1028, none⟩) (fun k hk => own_ne_box ha.own hbx (by decide) k hk) v6
  simpa [usC] using h2
theorem SetM.used (h : SetM base w wr g bw gx gl pl L ws X va vf vp vc vu vl s) (hw : base ≤ w.heap.size) {i j k : Int} (ha : App wr w6 base 68 3 vu v6 (s.used.length + 1) ((s.used.flatMap usC) ++ [.int .i64 i, .int .i64 j, .int .i64 k])) :
    SetM base w (w6.setCell ⟨g, 1028, none⟩ v6) g bw gx gl pl L ws X va vf vp vc v6 vl { s with used := s.used ++ [(i, j, k)] } ∧ w6.cell? ⟨g, 1028, none⟩ = some vu ∧ w6.frozen? ⟨g, 1028, none⟩ = false := by
  obtain ⟨h1, h2, h3⟩ := h.rm.putu ha
  have hsz : wr.heap.size ≤ (w6.setCell ⟨g, 1028, none⟩ v6).heap.size := Nat.le_trans ha.fr.size ((Fr.refl (fun j => j = g) w6).setCell (p := ⟨g, 1028, none⟩) (.inl rfl) v6).size
  have blk : ∀ b, b < wr.heap.size → b ≠ g → vu.ownBlock ≠ some b → (w6.setCell ⟨g, 1028, none⟩ v6).heap[b]? = wr.heap[b]? := fun b hb hne hu => by
    have e1 := ha.fr.block b hb hu
    have e2 := ((Fr.refl (fun j => j = g) w6).setCell (p := ⟨g, 1028, none⟩) (.inl rfl) v6).block b (Nat.lt_of_lt_of_le hb ha.fr.size) hne
    exact e2.trans e1
  have own : ∀ b, b < wr.heap.size → vu.ownBlock ≠ some b → v6.ownBlock ≠ some b := fun b hb hu e => by
    rcases ha.at_ with h4 | ⟨c, h4, hc⟩
    · exact hu (h4.symm.trans e)
    · rw [h4] at e
      injection e with e
      omega
  have hbw := h.side.lt
  have hbx := h.side.xb.lt
  refine ⟨⟨h1, h.side.same hsz (blk bw hbw h.ap.w.ne h.au.1) (blk gx hbx h.ap.x.ne h.au.2.1) (fun h0 => blk gl (h.side.lb h0).2.lt (h.ap.l h0).ne (h.au.2.2 h0)), h.ap.size hsz, ⟨own bw hbw h.au.1, own gx hbx h.au.2.1, fun h0 => own gl (h.side.lb h0).2.lt (h.au.2.2 h0)⟩, h.ac, h.gex, ?_⟩, h2, h3⟩
  exact (h.below.trans (ha.fr.below (Nat.le_trans hw h.below.size) (fun k hk => (own_ge h.rm.ru hk).1))).setCell (p := ⟨g, 1028, none⟩) h.rm.t.ge _
/-- An instruction comes. -/
theorem Rm.putcG {i0 i1 i2 i3 i4 : Int} (h : Rm base w g va vf vp vc vu vl s) (ha : App w w6 base 71 5 vc v6 (s.ob.code.length + 1) ((s.ob.code.flatMap insC) ++ [.int .i64 i0, .int .i64 i1, .int .i64 i2, .int .i64 i3, .int .i64 i4])) :
    Rm base (w6.setCell ⟨g, 3, none⟩ v6) g va vf vp v6 vu vl { s with ob := { s.ob with code := s.ob.code ++ [(i0, i1, i2, i3, i4)] } } ∧ w6.cell? ⟨g, 3, none⟩ = some vc ∧ w6.frozen? ⟨g, 3, none⟩ = false := by
  have hbx := h.t.box.fr ha.fr (fun e => own_ne_box h.t.rc h.t.box (by decide) _ e rfl)
  have hfar : ∀ {base' n' size' : Nat} {e' : TypeId} {u : Value} {xs : List Value}, w.ownsRow base' e' size' u n' xs → e' ≠ 71 → e' ≠ 66 → (w6.setCell ⟨g, 3, none⟩ v6).ownsRow base' e' size' u n' xs := fun hu he hb => by
    have h1 := own_fr hu ha.fr (fun k hk e => own_ne_own hu h.t.rc he k hk e)
    exact own_set_far h1 (p := ⟨g, 3, none⟩) (fun k hk => own_ne_box h1 hbx hb k hk) v6
  have hb := hbx.set_ 3 v6
  rw [rcs_set3] at hb
  refine ⟨⟨⟨hb, h.t.len, hfar h.t.ra (by decide) (by decide), hfar h.t.rf (by decide) (by decide), hfar h.t.rp (by decide) (by decide), ?_, h.t.ge⟩, hfar h.ru (by decide) (by decide), hfar h.rl (by decide) (by decide)⟩, (hbx.cell 3).trans rcs_3, hbx.frozen 3⟩
  have h2 := own_set_far ha.own (p := ⟨g, 3, none⟩) (fun k hk => own_ne_box ha.own hbx (by decide) k hk) v6
  simpa [insC] using h2
end

end Go.Proofs.YtfgnapfodnhppaaGreatDoor
