/-
  The program's reader: object: all but the sum: an object, or what is wrong; in new memory. Condition: the world holds the names of the instructions.
-/
import Derived.Test.YtfknoecgcoapcaaDoorObjO
namespace Go.Proofs.YtfknoecgcoapcaaDoor
open Go Go.RowKit Go.WideShapes Go.ChangeShapes
set_option linter.unusedVariables false
set_option linter.unusedSimpArgs false

theorem ret_store4 {P : Program} {fn : Func} {Q : Ending → World → Prop} {T : Array Value} {w2 : World} {G : Nat} {t : TypeId} {z0 z1 z2 z3 a b c d x : Value} (hb : Box w2 G t #[z0, z1, z2, z3])
    (hres : ∀ W : World, W.cell? ⟨G, 0, none⟩ = some a → W.cell? ⟨G, 1, none⟩ = some b → W.cell? ⟨G, 2, none⟩ = some c → W.cell? ⟨G, 3, none⟩ = some d → (results fn T).run P W = .ok (.tuple #[.agg #[a, b, c, d], x]) W)
    (hQ : ∀ W : World, Box W G t #[a, b, c, d] → Fr (fun k => k = G) w2 W → Q (.returned (.tuple #[.agg #[a, b, c, d], x])) W) :
    bodyPost P fn Q .ret { tmps := T, defers := [] } ((((w2.setCell ⟨G, 0, none⟩ a).setCell ⟨G, 1, none⟩ b).setCell ⟨G, 2, none⟩ c).setCell ⟨G, 3, none⟩ d) := by
  have h4 : Box ((((w2.setCell ⟨G, 0, none⟩ a).setCell ⟨G, 1, none⟩ b).setCell ⟨G, 2, none⟩ c).setCell ⟨G, 3, none⟩ d) G t #[a, b, c, d] := by
    have := (((hb.set_ 0 a).set_ 1 b).set_ 2 c).set_ 3 d
    simpa using this
  have hf : Fr (fun k => k = G) w2 ((((w2.setCell ⟨G, 0, none⟩ a).setCell ⟨G, 1, none⟩ b).setCell ⟨G, 2, none⟩ c).setCell ⟨G, 3, none⟩ d) :=
    ((((Fr.refl (fun b => b = G) w2).setCell (p := ⟨G, 0, none⟩) (.inl rfl) _).setCell (p := ⟨G, 1, none⟩) (.inl rfl) _).setCell (p := ⟨G, 2, none⟩) (.inl rfl) _).setCell (p := ⟨G, 3, none⟩) (.inl rfl) _
  exact bodyPost_ret (hres _ (h4.cell 0) (h4.cell 1) (h4.cell 2) (h4.cell 3)) rfl (hQ _ h4 hf)

theorem slIns : SlT 34 69 5 40 := ⟨Tryd.underlying34, ⟨.agg #[.int .i64 0, .int .i64 0, .int .i64 0, .int .i64 0, .int .i64 0], by kernel_rfl, rfl⟩, by decide, by decide⟩

/-- What reading an object keeps: the reader, the result's box. -/
structure Oj (w0 w wr : World) (R g : Nat) (r : Rd) : Prop where
  rd : RdAt w0 wr R r
  box : Box wr g 36 #[.slice none 0 0, .slice none 0 0, .slice none 0 0, .slice none 0 0]
  old : Fr (fun b => b = R ∨ w.heap.size ≤ b) w wr
  lt : R < w.heap.size ∧ w.heap.size ≤ g ∧ w0.heap.size ≤ R
  bytes : ∀ c ∈ r.rest, c < 256
section
variable {w0 w wr w' w8 w6 : World} {R g gO : Nat} {r r' : Rd} {va vf vp vc v6 : Value} {lc : List Ins}
theorem Oj.read (h : Oj w0 w wr R g r) (hr : RdAt w0 w' R r') (hf : Fr (fun b => b = R) wr w') (hb : ∀ c ∈ r'.rest, c < 256) : Oj w0 w w' R g r' :=
  ⟨hr, h.box.fr hf (fun e => by have := h.lt; omega), h.old.trans (hf.mono fun _ _ e => .inl e), h.lt, hb⟩
theorem Oj.up (h : Oj w0 w wr R g r) (hb : Below wr.heap.size wr w') : Oj w0 w w' R g r :=
  ⟨h.rd.up hb, h.box.below hb h.box.lt, h.old.trans (Fr.of_below hb), h.lt, h.bytes⟩
theorem Oj.far (h : Oj w0 w wr R g r) {gc i : Nat} (h1 : g < gc) (u : Value) : Oj w0 w (wr.setCell ⟨gc, i, none⟩ u) R g r :=
  ⟨h.rd.fr ((Fr.refl (fun b => b = gc) wr).setCell (p := ⟨gc, i, none⟩) (.inl rfl) _) (fun e => by have := h.lt; omega) (fun k e => by have := h.lt; omega),
    h.box.far (by show g ≠ gc; omega) _, h.old.setCell (p := ⟨gc, i, none⟩) (.inl (.inr (by have := h.lt; show w.heap.size ≤ gc; omega))) _, h.lt, h.bytes⟩

/-- What reading the code keeps. -/
structure Lc (w0 w8 wr : World) (R g gO : Nat) (r : Rd) (va vf vp vc : Value) (lc : List Ins) : Prop where
  rd : RdAt w0 wr R r
  box : Box wr g 36 #[.slice none 0 0, .slice none 0 0, .slice none 0 0, .slice none 0 0]
  boxO : Box wr gO 36 #[va, vf, vp, vc]
  rc : wr.ownsRow (w8.heap.size + 1) 69 5 vc lc.length (lc.flatMap insC)
  old : Fr (fun b => b = R ∨ w8.heap.size ≤ b) w8 wr
  lt : R < g ∧ g < w8.heap.size ∧ gO = w8.heap.size ∧ w0.heap.size ≤ R
  bytes : ∀ c ∈ r.rest, c < 256
theorem Lc.read (h : Lc w0 w8 wr R g gO r va vf vp vc lc) (hr : RdAt w0 w' R r') (hf : Fr (fun b => b = R) wr w') (hb : ∀ c ∈ r'.rest, c < 256) : Lc w0 w8 w' R g gO r' va vf vp vc lc :=
  ⟨hr, h.box.fr hf (fun e => by have := h.lt; omega), h.boxO.fr hf (fun e => by have := h.lt; omega), own_fr h.rc hf (fun k hk e => by have := (own_ge h.rc hk).1; have := h.lt; omega), h.old.trans (hf.mono fun _ _ e => .inl e), h.lt, hb⟩
theorem Lc.up (h : Lc w0 w8 wr R g gO r va vf vp vc lc) (hb : Below wr.heap.size wr w') : Lc w0 w8 w' R g gO r va vf vp vc lc :=
  ⟨h.rd.up hb, h.box.below hb h.box.lt, h.boxO.below hb h.boxO.lt, own_fr (S := fun _ => False) h.rc (Fr.of_below hb) (fun _ _ x => x), h.old.trans (Fr.of_below hb), h.lt, h.bytes⟩
theorem Lc.put (h : Lc w0 w8 wr R g gO r va vf vp vc lc) {i : Ins} (ha : App wr w6 (w8.heap.size + 1) 69 5 vc v6 (lc.length + 1) (lc.flatMap insC ++ insC i)) :
    Lc w0 w8 (w6.setCell ⟨gO, 3, none⟩ v6) R g gO r va vf vp v6 (lc ++ [i]) ∧ w6.cell? ⟨gO, 3, none⟩ = some vc ∧ w6.frozen? ⟨gO, 3, none⟩ = false := by
  have hne : vc.ownBlock ≠ some gO := fun e => by have := (own_ge h.rc e).1; have := h.lt; omega
  have hng : vc.ownBlock ≠ some g := fun e => by have := (own_ge h.rc e).1; have := h.lt; omega
  have hnR : vc.ownBlock ≠ some R := fun e => by have := (own_ge h.rc e).1; have := h.lt; omega
  have hbo := h.boxO.fr ha.fr hne
  have hrd : RdAt w0 w6 R r := h.rd.fr ha.fr hnR (fun k hk => by have := (own_ge h.rc hk).1; have := h.rd.new; have := h.lt; omega)
  refine ⟨⟨hrd.fr ((Fr.refl (fun b => b = gO) w6).setCell (p := ⟨gO, 3, none⟩) (.inl rfl) v6) (fun e => by have := h.lt; omega) (fun k hk => by have := h.lt; have := h.rd.new; omega), (h.box.fr ha.fr hng).far (by show g ≠ gO; have := h.lt; omega) _, ?_, ?_, ?_, h.lt, h.bytes⟩, hbo.cell 3, hbo.frozen 3⟩
  · have := hbo.set_ 3 v6
    simpa using this
  · have h2 := own_set_far ha.own (p := ⟨gO, 3, none⟩) (fun k hk e => by have := (own_ge ha.own hk).1; have := h.lt; simp at e; omega) v6
    rw [List.length_append, List.flatMap_append]
    simpa using h2
  · exact (h.old.trans (ha.fr.mono fun k hk e => .inr (by have := (own_ge h.rc e).1; omega))).setCell (p := ⟨gO, 3, none⟩) (.inl (.inr (by show w8.heap.size ≤ gO; have := h.lt; omega))) _
end

/-- An object's slices lie in new memory. -/
def NewOb (B : Nat) (va vf vp vc : Value) : Prop := ∀ v ∈ [va, vf, vp, vc], ∀ k, v.ownBlock = some k → B ≤ k
theorem CellsAt.fr {w w' : World} {S : Nat → Prop} {v : Value} {n : Nat} {cs : List Value} (h : CellsAt w v n cs) (hf : Fr S w w') (hn : ∀ k, v.ownBlock = some k → ¬ S k) : CellsAt w' v n cs := by
  rcases h with h | ⟨b, off, c, rfl, hl, hc⟩
  · exact .inl h
  · exact .inr ⟨b, off, c, rfl, Nat.lt_of_lt_of_le hl hf.size, fun k u hk => (World.cell?_of_block (w := w) (hf.block b hl (hn b rfl))).trans (hc k u hk)⟩

/-- What reading an object comes to. -/
def ObjRes (w0 w : World) (R : Nat) (r : Rd) (e : Ending) (w' : World) : Prop :=
  (∃ c : Int, objectR r = .error c ∧ e = .returned (.tuple #[.agg #[.slice none 0 0, .slice none 0 0, .slice none 0 0, .slice none 0 0], .int .i64 c]) ∧ Fr (fun b => b = R) w w') ∨
    ∃ (o : Ob) (r' : Rd) (va vf vp vc : Value), objectR r = .ok (o, r') ∧ e = .returned (.tuple #[.agg #[va, vf, vp, vc], .int .i64 0]) ∧ ObAt w' va vf vp vc o ∧ RdAt w0 w' R r' ∧ Fr (fun b => b = R) w w' ∧ (∀ c ∈ r'.rest, c < 256) ∧
      bigB o.atoms.length o.funs.length o.preds.length o.code.length = false ∧ (∀ s, (s ∈ o.atoms ∨ (∃ f ∈ o.funs, f.1 = s) ∨ ∃ p ∈ o.preds, p.1 = s) → s.size ≤ 255) ∧ NewOb w.heap.size va vf vp vc

def arr4 (ls : List Nat) : Array Value := #[.int .i64 (ls.getD 0 0 : Nat), .int .i64 (ls.getD 1 0 : Nat), .int .i64 (ls.getD 2 0 : Nat), .int .i64 (ls.getD 3 0 : Nat)]
theorem arr4_set {wr : World} {gc : Nat} {ls : List Nat} (h : Box wr gc 67 (arr4 ls)) (hl : ls.length < 4) (x : Nat) : Box (wr.setCell ⟨gc, ls.length, none⟩ (.int .i64 (x : Int))) gc 67 (arr4 (ls ++ [x])) := by
  have h1 := h.set_ ls.length (.int .i64 (x : Int))
  have e : (arr4 ls).setIfInBounds ls.length (.int .i64 (x : Int)) = arr4 (ls ++ [x]) := by
    match ls, hl with
    | [], _ => rfl
    | [a], _ => rfl
    | [a, b], _ => rfl
    | [a, b, c], _ => rfl
    | a :: b :: c :: d :: r, hl => simp at hl; omega
  rw [← e]
  exact h1
theorem arr4_cell {wr : World} {gc : Nat} {ls : List Nat} (h : Box wr gc 67 (arr4 ls)) (k : Nat) (hk : k < 4) : wr.cell? ⟨gc, k, none⟩ = some (.int .i64 (ls.getD k 0 : Nat)) ∧ wr.frozen? ⟨gc, k, none⟩ = false := by
  refine ⟨?_, h.frozen _⟩
  rw [h.cell k]
  match k, hk with
  | 0, _ => rfl
  | 1, _ => rfl
  | 2, _ => rfl
  | 3, _ => rfl

/-- How far the code has come. -/
def PartC (n j : Nat) (r r' : Rd) (l : List Ins) : Prop := l.length + j = n ∧ codeR n r = match codeR j r' with
  | none => none
  | some (m, r'') => some (l ++ m, r'')
theorem PartC.start (n : Nat) (r : Rd) : PartC n n r r [] := ⟨by simp, by cases codeR n r <;> rfl⟩
theorem PartC.step {n j : Nat} {r r' r2 : Rd} {l : List Ins} {i : Ins} (h : PartC n (j + 1) r r' l) (hi : insR r' = some (i, r2)) : PartC n j r r2 (l ++ [i]) := by
  refine ⟨by have := h.1; simp; omega, ?_⟩
  rw [h.2, codeR, hi]
  cases hc : codeR j r2 with
  | none => simp [hc]
  | some x => simp [hc]
theorem PartC.bad {n j : Nat} {r r' : Rd} {l : List Ins} (h : PartC n (j + 1) r r' l) (hi : insR r' = none) : codeR n r = none := by
  rw [h.2, codeR, hi]
theorem PartC.done {n : Nat} {r r' : Rd} {l : List Ins} (h : PartC n 0 r r' l) : codeR n r = some (l, r') := by
  rw [h.2, codeR]
  simp

/-- The object reader, from behind its first bytes. -/
def restR (a f p c : Nat) (r4 : Rd) : Except Int (Ob × Rd) :=
  if r4.short = true then .error 3
  else if bigB a f p c then .error 2
  else match codeR c (manyR predR p (manyR funR f (manyR nameR a r4).2).2).2 with
    | none => .error 8
    | some (l4, r5) => if r5.short = true then .error 3 else .ok (⟨(manyR nameR a r4).1, (manyR funR f (manyR nameR a r4).2).1, (manyR predR p (manyR funR f (manyR nameR a r4).2).2).1, l4⟩, r5)
theorem object_bad {r : Rd} (h : magicR magicL r = none) : objectR r = .error 5 := by
  unfold objectR
  rw [show magicR [82, 83, 76, 86, 1] r = none from h]
theorem object_ok {r r0 : Rd} {a f p c : Nat} {r4 : Rd} (h : magicR magicL r = some r0) (h4 : manyR (numR 2) 4 r0 = ([a, f, p, c], r4)) : objectR r = restR a f p c r4 := by
  have h5 : (manyR (numR 2) 4 r0).1 = [a, f, p, c] := by rw [h4]
  have h6 : (manyR (numR 2) 4 r0).2 = r4 := by rw [h4]
  simp only [manyR] at h5 h6
  injection h5 with e1 h5
  injection h5 with e2 h5
  injection h5 with e3 h5
  injection h5 with e4 h5
  unfold objectR
  rw [show magicR [82, 83, 76, 86, 1] r = some r0 from h]
  simp only [e1, e2, e3, e4, h6]
  rfl

theorem strOf_size (l : List Nat) : (strOf l).size = l.length := by
  show (List.toArray (l.map UInt8.ofNat)).size = _
  simp
theorem nameR_size {r : Rd} (h : ∀ c ∈ r.rest, c < 256) : (nameR r).1.size ≤ 255 := by
  have h1 := (num_lt (n := 1) h).1
  show (strOf (takeR (numR 1 r).1 (numR 1 r).2).1).size ≤ 255
  rw [strOf_size]
  rcases took_len (n := (numR 1 r).1) (r := (numR 1 r).2) with h2 | h2
  · rw [h2]; omega
  · rw [h2]; simp
theorem many_all {α : Type} {f : Rd → α × Rd} {Q : α → Prop} (hf : ∀ r, (∀ c ∈ r.rest, c < 256) → (∀ c ∈ (f r).2.rest, c < 256) ∧ Q (f r).1) : ∀ (n : Nat) (r : Rd), (∀ c ∈ r.rest, c < 256) → ∀ a ∈ (manyR f n r).1, Q a
  | 0, _, _ => by simp [manyR]
  | n + 1, r, h => by
    intro a ha
    rcases List.mem_cons.1 ha with rfl | ha
    · exact (hf r h).2
    · exact many_all hf n (f r).2 (hf r h).1 a ha

set_option maxRecDepth 100000 in
set_option maxHeartbeats 16000000 in
theorem object_any (r : Rd) (hr : ∀ c ∈ r.rest, c < 256) (R : Nat) (w0 w : World) (h : RdAt w0 w R r) (hR : R < w.heap.size) (hw : NamesAt w) (hgn : R ≠ 0) :
    Calls Tryd.prog 46 #[.pointer (some ⟨R, 0, none⟩)] w (ObjRes w0 w R r) := by
  have J0 : Hid (Oj w0 w (w.alloc (.cells #[.slice none 0 0, .slice none 0 0, .slice none 0 0, .slice none 0 0] 36)) R w.heap.size r) := Lib.hid ⟨h.up (alloc_below w _), Box.new w _ _, Fr.of_below (alloc_below w _), ⟨hR, Nat.le_refl _, h.new⟩, hr⟩
  have HWN := Lib.hid (fun (w' : World) (hf : Fr (fun b => b = R ∨ w.heap.size ≤ b) w w') => (show NamesAt w' by
    obtain ⟨t, fr, hb⟩ := hw
    exact ⟨t, fr, (hf.block _ (Array.getElem?_eq_some_iff.1 hb).1 (fun e => by
      have := (Array.getElem?_eq_some_iff.1 hb).1
      rcases e with e | e
      · exact hgn e.symm
      · omega)).trans hb⟩))
  have HM := Lib.hid (magic_any r hr R w0 _ J0.out.rd)
  have HGN := Lib.hid hgn
  have HOB := Lib.hid (fun h => object_bad (r := r) h)
  have HOO := Lib.hid (fun r0 a f p c r4 h h4 => object_ok (r := r) (r0 := r0) (a := a) (f := f) (p := p) (c := c) (r4 := r4) h h4)
  unfold Magic at HM
  unfold ObjRes
  generalize objectR r = ob at HOB HOO
  clear h hr hR hw hgn
  cases hmg : magicR magicL r
  case none =>
    have HX := Lib.hid (HOB.out hmg)
    have HM2 := Lib.hid (HM.out.mono (R' := fun e w' => e = .returned (.bool false) ∧ Fr (fun b => b = R) _ w') (fun e w' h => by
      rcases h with ⟨r0, h1, _⟩ | ⟨_, h2, h3⟩
      · rw [hmg] at h1; cases h1
      · exact ⟨h2, h3⟩))
    clear hmg HM
    go_enter Tryd.func46, Tryd.ntmps46
    go_upto_region 2 with (go_at_call 65; refine HM2.out.mono ?_; rintro e w5 ⟨rfl, hf5⟩; have HB5 := Lib.hid (J0.out.box.fr hf5 (fun e => by have := J0.out.lt; omega)); have HF5 := Lib.hid (J0.out.old.trans (hf5.mono fun k hk e => .inl e)); clear hf5)
    have b0 : w5.cell? ⟨w.heap.size, 0, none⟩ = some (.slice none 0 0) := HB5.out.cell 0
    have z0 : w5.frozen? ⟨w.heap.size, 0, none⟩ = false := HB5.out.frozen 0
    have b1 : w5.cell? ⟨w.heap.size, 1, none⟩ = some (.slice none 0 0) := HB5.out.cell 1
    have z1 : w5.frozen? ⟨w.heap.size, 1, none⟩ = false := HB5.out.frozen 1
    have b2 : w5.cell? ⟨w.heap.size, 2, none⟩ = some (.slice none 0 0) := HB5.out.cell 2
    have z2 : w5.frozen? ⟨w.heap.size, 2, none⟩ = false := HB5.out.frozen 2
    have b3 : w5.cell? ⟨w.heap.size, 3, none⟩ = some (.slice none 0 0) := HB5.out.cell 3
    have z3 : w5.frozen? ⟨w.heap.size, 3, none⟩ = false := HB5.out.frozen 3
    go_wp2
    refine ret_store4 (x := .int .i64 5) HB5.out (by intro W c0 c1 c2 c3; simp [results, Tryd.results46, go_sem, c0, c1, c2, c3]) ?_
    intro W hW hF
    exact .inl ⟨5, HX.out, rfl, old_only (HF5.out.trans (hF.mono fun k hk e => .inr (by omega)))⟩
  case some r0 =>
  have HM2 := Lib.hid (HM.out.mono (R' := fun e w' => e = .returned (.bool true) ∧ RdAt w0 w' R r0 ∧ Fr (fun b => b = R) _ w' ∧ ∀ c ∈ r0.rest, c < 256) (fun e w' h => by
    rcases h with ⟨r1, h1, h2, h3, h4, h5⟩ | ⟨h1, _⟩
    · rw [hmg] at h1
      injection h1 with h1
      subst h1
      exact ⟨h2, h3, h4, h5⟩
    · rw [hmg] at h1; cases h1))
  have HMG := Lib.hid hmg
  clear hmg HM HOB
  go_enter Tryd.func46, Tryd.ntmps46
  go_upto_region 3 with (go_at_call 65; refine HM2.out.mono ?_; rintro e w5 ⟨rfl, hr5, hf5, hb5⟩; have J5 := Lib.hid (J0.out.read hr5 hf5 hb5); clear hr5 hf5 hb5)
  have J6 := Lib.hid (J5.out.up (alloc_below w5 (.cells (arr4 []) 67)))
  have HC6 : Hid (Box (w5.alloc (.cells (arr4 []) 67)) w5.heap.size 67 (arr4 [])) := Lib.hid (Box.new _ _ _)
  have HGC : Hid (w.heap.size < w5.heap.size) := Lib.hid J5.out.box.lt
  have harr : arr4 [] = #[.int .i64 0, .int .i64 0, .int .i64 0, .int .i64 0] := rfl
  rw [show (Obj.cells (arr4 []) 67 : Obj) = .cells #[.int .i64 0, .int .i64 0, .int .i64 0, .int .i64 0] 67 from rfl] at J6 HC6
  clear J0 HM2 harr
  go_upto_region 4 with (fail)
  obtain ⟨w6, hw6⟩ : ∃ w6, w5.alloc (.cells #[.int .i64 0, .int .i64 0, .int .i64 0, .int .i64 0] 67) = w6 := ⟨_, rfl⟩
  rw [hw6] at J6 HC6 ⊢
  obtain ⟨gc, hgc⟩ : ∃ gc, w5.heap.size = gc := ⟨_, rfl⟩
  rw [hgc] at HC6 HGC ⊢
  clear hw6 hgc J5
  go_wp2
  go_loopw [13] (fun i wr => ∃ (k : Nat) (r' : Rd) (ls : List Nat), k ≤ 4 ∧ i = .int .i64 k ∧ ls.length = k ∧ Hid (Part (numR 2) 4 (4 - k) r0 r' ls) ∧ Hid (Oj w0 w wr R w.heap.size r') ∧ Hid (Box wr gc 67 (arr4 ls)) ∧ Hid (∀ x ∈ ls, x < 65536)) (fun i _ => 4 - (intOf i).toNat)
  case atStart => exact ⟨0, r0, [], by omega, rfl, rfl, Lib.hid (Part.start _ _ _), J6, HC6, Lib.hid (by simp)⟩
  obtain ⟨k, r', ls, hk, rfl, hls, HP, HJ, HC, HX⟩ := hrel
  clear J6 HC6
  by_cases hlt : k < 4
  case pos =>
    have HNM := Lib.hid (number_any 2 (by omega) r' HJ.out.bytes R w0 wr HJ.out.rd)
    have HBY := Lib.hid (num_lt (n := 2) HJ.out.bytes)
    have HP2 : Hid (Part (numR 2) 4 (4 - (k + 1)) r0 (numR 2 r').2 (ls ++ [(numR 2 r').1])) := Lib.hid (by
      have h := HP.out
      rw [show 4 - k = (4 - (k + 1)) + 1 by omega] at h
      exact h.step)
    unfold Read at HNM
    generalize (numR 2 r').1 = x at HNM HBY HP2
    generalize (numR 2 r').2 = r2 at HNM HBY HP2
    have d1 : decide ((k : Int) < (4 : Int)) = true := by rw [decide_eq_true_eq]; omega
    have d2 : (k : Int) < 4 := by omega
    have d5 : (0 : Int) ≤ (k : Int) := by omega
    have HX2 : Hid (∀ y ∈ ls ++ [x], y < 65536) := Lib.hid (fun y hy => by
      rcases List.mem_append.1 hy with h | h
      · exact HX.out y h
      · obtain rfl : y = x := by simpa using h
        exact HBY.out.1)
    go_wp2_with (go_at_call 66; refine HNM.out.mono ?_; rintro e w8 ⟨rfl, hr8, hf8⟩; have J8 := Lib.hid (HJ.out.read hr8 hf8 HBY.out.2); have HC8 := Lib.hid (HC.out.fr hf8 (fun e => by have := HJ.out.lt; have := HGC.out; omega)); obtain ⟨e0, e1⟩ := arr4_cell HC8.out k hlt; have HC9 := Lib.hid (arr4_set HC8.out (by omega) x); have J9 := Lib.hid (J8.out.far (gc := gc) (i := k) HGC.out (.int .i64 (x : Int))); rw [hls] at HC9; clear hr8 hf8)
    go_roundw
    case rel => exact ⟨k + 1, r2, _, by omega, by go_num, by simp [hls], HP2, J9, HC9, HX2⟩
    case measure => simp [intOf]; omega
  obtain rfl : k = 4 := by omega
  have hdone : manyR (numR 2) 4 r0 = (ls, r') := by have h := HP.out; exact h.done
  obtain ⟨a, f, p, c, rfl⟩ : ∃ a f p c, ls = [a, f, p, c] := by
    match ls, hls with
    | [a, f, p, c], _ => exact ⟨a, f, p, c, rfl⟩
  have HRE := Lib.hid (HOO.out _ _ _ _ _ _ HMG.out hdone)
  have hx := HX.out
  have ha : a < 65536 := hx a (by simp)
  have hf : f < 65536 := hx f (by simp)
  have hp : p < 65536 := hx p (by simp)
  have hc : c < 65536 := hx c (by simp)
  obtain ⟨v9, hb9, _⟩ := HJ.out.rd.box
  have s1 : wr.cell? ⟨R, 1, none⟩ = some (.bool r'.short) := hb9.cell 1
  have m0 : wr.cell? ⟨gc, 0, none⟩ = some (.int .i64 (a : Int)) := HC.out.cell 0
  have m1 : wr.cell? ⟨gc, 1, none⟩ = some (.int .i64 (f : Int)) := HC.out.cell 1
  have m2 : wr.cell? ⟨gc, 2, none⟩ = some (.int .i64 (p : Int)) := HC.out.cell 2
  have m3 : wr.cell? ⟨gc, 3, none⟩ = some (.int .i64 (c : Int)) := HC.out.cell 3
  clear hdone hls hk hlt HP HX hx HMG HOO hb9
  cases hsh : r'.short
  case true =>
    have HX2 : Hid (ob = .error 3) := Lib.hid (by rw [HRE.out]; unfold restR; rw [if_pos hsh])
    rw [hsh] at s1
    have b0 : wr.cell? ⟨w.heap.size, 0, none⟩ = some (.slice none 0 0) := HJ.out.box.cell 0
    have z0 : wr.frozen? ⟨w.heap.size, 0, none⟩ = false := HJ.out.box.frozen 0
    have b1 : wr.cell? ⟨w.heap.size, 1, none⟩ = some (.slice none 0 0) := HJ.out.box.cell 1
    have z1 : wr.frozen? ⟨w.heap.size, 1, none⟩ = false := HJ.out.box.frozen 1
    have b2 : wr.cell? ⟨w.heap.size, 2, none⟩ = some (.slice none 0 0) := HJ.out.box.cell 2
    have z2 : wr.frozen? ⟨w.heap.size, 2, none⟩ = false := HJ.out.box.frozen 2
    have b3 : wr.cell? ⟨w.heap.size, 3, none⟩ = some (.slice none 0 0) := HJ.out.box.cell 3
    have z3 : wr.frozen? ⟨w.heap.size, 3, none⟩ = false := HJ.out.box.frozen 3
    clear hsh
    go_wp2
    refine ret_store4 (x := .int .i64 3) HJ.out.box (by intro W c0 c1 c2 c3; simp [results, Tryd.results46, go_sem, c0, c1, c2, c3]) ?_
    intro W hW hF
    exact .inl ⟨3, HX2.out, rfl, old_only (HJ.out.old.trans (hF.mono fun k hk e => .inr (by omega)))⟩
  case false =>
  rw [hsh] at s1
  have HFU := Lib.hid (fun w => full_any a f p c w)
  cases hbig : bigB a f p c
  case true =>
    have HX2 : Hid (ob = .error 2) := Lib.hid (by rw [HRE.out]; unfold restR; rw [if_neg (by rw [hsh]; decide), if_pos hbig])
    rw [hbig] at HFU
    have b0 : wr.cell? ⟨w.heap.size, 0, none⟩ = some (.slice none 0 0) := HJ.out.box.cell 0
    have z0 : wr.frozen? ⟨w.heap.size, 0, none⟩ = false := HJ.out.box.frozen 0
    have b1 : wr.cell? ⟨w.heap.size, 1, none⟩ = some (.slice none 0 0) := HJ.out.box.cell 1
    have z1 : wr.frozen? ⟨w.heap.size, 1, none⟩ = false := HJ.out.box.frozen 1
    have b2 : wr.cell? ⟨w.heap.size, 2, none⟩ = some (.slice none 0 0) := HJ.out.box.cell 2
    have z2 : wr.frozen? ⟨w.heap.size, 2, none⟩ = false := HJ.out.box.frozen 2
    have b3 : wr.cell? ⟨w.heap.size, 3, none⟩ = some (.slice none 0 0) := HJ.out.box.cell 3
    have z3 : wr.frozen? ⟨w.heap.size, 3, none⟩ = false := HJ.out.box.frozen 3
    clear hsh hbig
    go_wp2_with (go_at_call 31; refine (HFU.out _).mono ?_; rintro e w8 ⟨rfl, rfl⟩)
    refine ret_store4 (x := .int .i64 2) HJ.out.box (by intro W c0 c1 c2 c3; simp [results, Tryd.results46, go_sem, c0, c1, c2, c3]) ?_
    intro W hW hF
    exact .inl ⟨2, HX2.out, rfl, old_only (HJ.out.old.trans (hF.mono fun k hk e => .inr (by omega)))⟩
  case false =>
  have hsm : a ≤ 256 ∧ f ≤ 256 ∧ p ≤ 64 ∧ c ≤ 1024 := by
    unfold bigB at hbig
    rw [decide_eq_false_iff_not] at hbig
    omega
  have HBIG := Lib.hid hbig
  have HBW1 : Hid (w.heap.size ≤ wr.heap.size) := Lib.hid (Nat.le_of_lt HJ.out.box.lt)
  have HTB := Lib.hid (tables_any a f p (by omega) (by omega) (by omega) r' HJ.out.bytes R w0 wr HJ.out.rd (by have := HJ.out.lt; have := HJ.out.box.lt; omega))
  have HSZA := Lib.hid (many_all (Q := fun s : ByteArray => s.size ≤ 255) (f := nameR) (fun r h => ⟨nameR_lt h, nameR_size h⟩) a r' HJ.out.bytes)
  have hby1 := many_lt (f := nameR) (fun r h => nameR_lt h) a r' HJ.out.bytes
  have HSZF := Lib.hid (many_all (Q := fun s : ByteArray × Int => s.1.size ≤ 255) (f := funR) (fun r h => ⟨funR_lt h, nameR_size h⟩) f _ hby1)
  have hby2 := many_lt (f := funR) (fun r h => funR_lt h) f _ hby1
  have HSZP := Lib.hid (many_all (Q := fun s : ByteArray × Int × Int => s.1.size ≤ 255) (f := predR) (fun r h => ⟨predR_lt h, nameR_size h⟩) p _ hby2)
  have HBY8 := Lib.hid (many_lt (f := predR) (fun r h => predR_lt h) p _ hby2)
  have HRE2 : Hid (ob = match codeR c (manyR predR p (manyR funR f (manyR nameR a r').2).2).2 with
    | none => .error 8
    | some (l4, r5) => if r5.short = true then .error 3 else .ok (⟨(manyR nameR a r').1, (manyR funR f (manyR nameR a r').2).1, (manyR predR p (manyR funR f (manyR nameR a r').2).2).1, l4⟩, r5)) := Lib.hid (by rw [HRE.out]; unfold restR; rw [if_neg (by rw [hsh]; decide), if_neg (by rw [hbig]; decide)])
  have HLA : Hid ((manyR nameR a r').1.length = a) := Lib.hid (many_len _ _)
  have HLF : Hid ((manyR funR f (manyR nameR a r').2).1.length = f) := Lib.hid (many_len _ _)
  have HLP : Hid ((manyR predR p (manyR funR f (manyR nameR a r').2).2).1.length = p) := Lib.hid (many_len _ _)
  unfold Tabs at HTB
  generalize (manyR predR p (manyR funR f (manyR nameR a r').2).2).2 = r8 at HTB HBY8 HRE2
  generalize (manyR predR p (manyR funR f (manyR nameR a r').2).2).1 = lp at HTB HSZP HRE2 HLP
  generalize (manyR funR f (manyR nameR a r').2).1 = lf at HTB HSZF HRE2 HLF
  generalize (manyR nameR a r').1 = la at HTB HSZA HRE2 HLA
  rw [hbig] at HFU
  clear hsh hbig hby1 hby2 HRE
  go_upto_region 14 with (first
    | (go_at_call 31; refine (HFU.out _).mono ?_; rintro e w8 ⟨rfl, rfl⟩)
    | (go_at_call 67; refine HTB.out.mono ?_; rintro e w8 ⟨va, vf, vp, rfl, hra, hrf, hrp, hr8, hf8⟩; obtain ⟨Aa, ca, hva, _⟩ := own_form hra; obtain ⟨Af, cf, hvf, _⟩ := own_form hrf; obtain ⟨Ap, cp, hvp, _⟩ := own_form hrp; subst hva hvf hvp; have HRA := Lib.hid hra; have HRF := Lib.hid hrf; have HRP := Lib.hid hrp; have J8 := Lib.hid (HJ.out.read hr8 hf8 HBY8.out); have HC8 := Lib.hid (HC.out.fr hf8 (fun e => by have := HJ.out.lt; have := HGC.out; omega)); have HSZ8 := Lib.hid hf8.size; clear hra hrf hrp hr8 hf8))
  have L0 : Hid (Lc w0 w8 (w8.alloc (.cells #[.slice Aa la.length ca, .slice Af lf.length cf, .slice Ap lp.length cp, .slice none 0 0] 36)) R w.heap.size w8.heap.size r8 (.slice Aa la.length ca) (.slice Af lf.length cf) (.slice Ap lp.length cp) (.slice none 0 0) []) := Lib.hid
    ⟨J8.out.rd.up (alloc_below w8 _), J8.out.box.alloc _, Box.new _ _ _, ⟨rfl, .inl ⟨rfl, rfl⟩⟩, Fr.of_below (alloc_below w8 _), ⟨J8.out.lt.1, J8.out.box.lt, rfl, J8.out.lt.2.2⟩, J8.out.bytes⟩
  have m9 : (w8.alloc (.cells #[.slice Aa la.length ca, .slice Af lf.length cf, .slice Ap lp.length cp, .slice none 0 0] 36)).cell? ⟨gc, 3, none⟩ = some (.int .i64 (c : Int)) := (HC8.out.alloc _).cell 3
  obtain ⟨w9, hw9⟩ : ∃ w9, w8.alloc (.cells #[.slice Aa la.length ca, .slice Af lf.length cf, .slice Ap lp.length cp, .slice none 0 0] 36) = w9 := ⟨_, rfl⟩
  rw [hw9] at L0 m9 ⊢
  obtain ⟨gO, hgO⟩ : ∃ gO, w8.heap.size = gO := ⟨_, rfl⟩
  have HGO := Lib.hid hgO
  rw [hgO] at L0 ⊢
  clear hw9 hgO s1 m0 m1 m2 m3 HC HC8
  go_wp2
  clear m9
  go_loopw [46] (fun i wr => ∃ (k : Nat) (r' : Rd) (vc : Value) (lc : List Ins), k ≤ c ∧ i = .int .i64 k ∧ Hid (PartC c (c - k) r8 r' lc) ∧ Hid (Lc w0 w8 wr R w.heap.size gO r' (.slice Aa la.length ca) (.slice Af lf.length cf) (.slice Ap lp.length cp) vc lc)) (fun i _ => c - (intOf i).toNat)
  case atStart => exact ⟨0, r8, _, [], by omega, rfl, Lib.hid (PartC.start _ _), L0⟩
  obtain ⟨k, r2, vc, lc, hk, rfl, HPC, HL⟩ := hrel
  clear L0
  have HNMS : Hid (NamesAt wr) := Lib.hid (HWN.out wr (J8.out.old.trans (HL.out.old.mono fun k hk e => e.elim .inl (fun x => .inr (by have := J8.out.box.lt; have := HL.out.lt; omega)))))
  by_cases hlt : k < c
  case pos =>
    have HIN := Lib.hid (instr_any r2 HL.out.bytes R w0 wr HL.out.rd (by have := HL.out.lt; have := HL.out.boxO.lt; omega) HNMS.out HGN.out)
    unfold InsRes at HIN
    cases hir : insR r2
    case none =>
      have HIN2 := Lib.hid (HIN.out.mono (R' := fun e w' => e = .returned (.tuple #[.agg #[.int .i64 0, .int .i64 0, .int .i64 0, .int .i64 0, .int .i64 0], .bool false]) ∧ Fr (fun b => b = R) wr w') (fun e w' h => by
        rcases h with ⟨_, h2, h3⟩ | ⟨i, r', h1, _⟩
        · exact ⟨h2, h3⟩
        · rw [hir] at h1; cases h1))
      have HX2 : Hid (ob = .error 8) := Lib.hid (by
        have h := HPC.out
        rw [show c - k = (c - (k + 1)) + 1 by omega] at h
        rw [HRE2.out, h.bad hir])
      clear hir HIN
      go_upto_region 18 with (go_at_call 68; refine HIN2.out.mono ?_; rintro e w10 ⟨rfl, hf10⟩; have HB10 := Lib.hid ((HL.out.box.fr hf10 (fun e => by have := HL.out.lt; omega)).alloc (.cells #[.int .i64 0, .int .i64 0, .int .i64 0, .int .i64 0, .int .i64 0] 69)); have HF10 := Lib.hid hf10; clear hf10)
      have b0 : (w10.alloc (.cells #[.int .i64 0, .int .i64 0, .int .i64 0, .int .i64 0, .int .i64 0] 69)).cell? ⟨w.heap.size, 0, none⟩ = some (.slice none 0 0) := HB10.out.cell 0
      have z0 : (w10.alloc (.cells #[.int .i64 0, .int .i64 0, .int .i64 0, .int .i64 0, .int .i64 0] 69)).frozen? ⟨w.heap.size, 0, none⟩ = false := HB10.out.frozen 0
      have b1 : (w10.alloc (.cells #[.int .i64 0, .int .i64 0, .int .i64 0, .int .i64 0, .int .i64 0] 69)).cell? ⟨w.heap.size, 1, none⟩ = some (.slice none 0 0) := HB10.out.cell 1
      have z1 : (w10.alloc (.cells #[.int .i64 0, .int .i64 0, .int .i64 0, .int .i64 0, .int .i64 0] 69)).frozen? ⟨w.heap.size, 1, none⟩ = false := HB10.out.frozen 1
      have b2 : (w10.alloc (.cells #[.int .i64 0, .int .i64 0, .int .i64 0, .int .i64 0, .int .i64 0] 69)).cell? ⟨w.heap.size, 2, none⟩ = some (.slice none 0 0) := HB10.out.cell 2
      have z2 : (w10.alloc (.cells #[.int .i64 0, .int .i64 0, .int .i64 0, .int .i64 0, .int .i64 0] 69)).frozen? ⟨w.heap.size, 2, none⟩ = false := HB10.out.frozen 2
      have b3 : (w10.alloc (.cells #[.int .i64 0, .int .i64 0, .int .i64 0, .int .i64 0, .int .i64 0] 69)).cell? ⟨w.heap.size, 3, none⟩ = some (.slice none 0 0) := HB10.out.cell 3
      have z3 : (w10.alloc (.cells #[.int .i64 0, .int .i64 0, .int .i64 0, .int .i64 0, .int .i64 0] 69)).frozen? ⟨w.heap.size, 3, none⟩ = false := HB10.out.frozen 3
      go_wp2
      refine ret_store4 (x := .int .i64 8) HB10.out (by intro W c0 c1 c2 c3; simp [results, Tryd.results46, go_sem, c0, c1, c2, c3]) ?_
      intro W hW hF
      exact .inl ⟨8, HX2.out, rfl, old_only ((((J8.out.old.trans (HL.out.old.mono fun k hk e => e.elim .inl (fun x => .inr (by have := J8.out.box.lt; have := HL.out.lt; omega)))).trans (HF10.out.mono fun k hk e => .inl e)).alloc _).trans (hF.mono fun k hk e => .inr (by omega)))⟩
    case some x =>
    obtain ⟨i, r3⟩ := x
    have HIN2 := Lib.hid (HIN.out.mono (R' := fun e w' => e = .returned (.tuple #[.agg #[.int .i64 i.1, .int .i64 i.2.1, .int .i64 i.2.2.1, .int .i64 i.2.2.2.1, .int .i64 i.2.2.2.2], .bool true]) ∧ RdAt w0 w' R r3 ∧ Fr (fun b => b = R) wr w' ∧ ∀ c ∈ r3.rest, c < 256) (fun e w' h => by
      rcases h with ⟨h1, _⟩ | ⟨i', r', h1, h2, h3, h4, h5⟩
      · rw [hir] at h1; cases h1
      · rw [hir] at h1
        injection h1 with h1
        injection h1 with h1 h6
        subst h1 h6
        exact ⟨h2, h3, h4, h5⟩))
    have HPC2 : Hid (PartC c (c - (k + 1)) r8 r3 (lc ++ [i])) := Lib.hid (by
      have h := HPC.out
      rw [show c - k = (c - (k + 1)) + 1 by omega] at h
      exact h.step hir)
    have HLN : Hid (lc.length ≤ 1024) := Lib.hid (by have := HPC.out.1; omega)
    have HIC : Hid (insC i = [.int .i64 i.1, .int .i64 i.2.1, .int .i64 i.2.2.1, .int .i64 i.2.2.2.1, .int .i64 i.2.2.2.2]) := Lib.hid rfl
    have HPUT := Lib.hid (fun (wr w6 : World) (vc v6 : Value) (h : Lc w0 w8 wr R w.heap.size gO r3 (.slice Aa la.length ca) (.slice Af lf.length cf) (.slice Ap lp.length cp) vc lc) (ha : App wr w6 (w8.heap.size + 1) 69 5 vc v6 (lc.length + 1) (lc.flatMap insC ++ [.int .i64 i.1, .int .i64 i.2.1, .int .i64 i.2.2.1, .int .i64 i.2.2.2.1, .int .i64 i.2.2.2.2])) => h.put (i := i) ha)
    generalize i.1 = i0 at HIN2 HIC HPUT
    generalize i.2.1 = i1 at HIN2 HIC HPUT
    generalize i.2.2.1 = i2 at HIN2 HIC HPUT
    generalize i.2.2.2.1 = i3 at HIN2 HIC HPUT
    generalize i.2.2.2.2 = i4 at HIN2 HIC HPUT
    clear hir HIN
    go_upto_region 19 with (go_at_call 68; refine HIN2.out.mono ?_; rintro e w10 ⟨rfl, hr10, hf10, hb10⟩; have L10 := Lib.hid ((HL.out.read hr10 hf10 hb10).up (alloc_below w10 (.cells #[.int .i64 i0, .int .i64 i1, .int .i64 i2, .int .i64 i3, .int .i64 i4] 69))); clear hr10 hf10 hb10)
    obtain ⟨w11, hw11⟩ : ∃ w11, w10.alloc (.cells #[.int .i64 i0, .int .i64 i1, .int .i64 i2, .int .i64 i3, .int .i64 i4] 69) = w11 := ⟨_, rfl⟩
    have hbi : Box w11 w10.heap.size 69 #[.int .i64 i0, .int .i64 i1, .int .i64 i2, .int .i64 i3, .int .i64 i4] := by rw [← hw11]; exact Box.new _ _ _
    rw [hw11] at L10 ⊢
    have j0 := hbi.cell 0
    have j1 := hbi.cell 1
    have j2 := hbi.cell 2
    have j3 := hbi.cell 3
    have j4 := hbi.cell 4
    have o3 := L10.out.boxO.cell 3
    obtain ⟨v12, w12, hr12, HA12⟩ := app_one slIns L10.out.rc [.int .i64 i0, .int .i64 i1, .int .i64 i2, .int .i64 i3, .int .i64 i4] rfl (by intro u hu; simp only [List.mem_cons, List.not_mem_nil, or_false] at hu; rcases hu with rfl | rfl | rfl | rfl | rfl <;> rfl) (by have := HLN.out; omega) (by have := L10.out.boxO.lt; have := L10.out.lt; omega) 34
    obtain ⟨A12, c12, hv12⟩ := HA12.out.form
    subst hv12
    obtain ⟨hL12, z0, z1⟩ := HPUT.out _ _ _ _ L10.out HA12.out
    have HL12 := Lib.hid hL12
    have HR12 := Lib.hid hr12
    clear hbi hw11 hL12 hr12
    go_wp2_with (at_builtin; refine wpList_of_append HR12.out rfl _ _ rfl rfl rfl ?_)
    go_roundw
    case rel => exact ⟨k + 1, r3, _, _, by omega, by go_num, HPC2, HL12⟩
    case measure => simp [intOf]; omega
  obtain rfl : k = c := by omega
  have hcd : codeR k r8 = some (lc, r2) := by have h := HPC.out; rw [Nat.sub_self] at h; exact h.done
  obtain ⟨v9, hb9, _⟩ := HL.out.rd.box
  have s1 : wr.cell? ⟨R, 1, none⟩ = some (.bool r2.short) := hb9.cell 1
  have b0 : wr.cell? ⟨w.heap.size, 0, none⟩ = some (.slice none 0 0) := HL.out.box.cell 0
  have z0 : wr.frozen? ⟨w.heap.size, 0, none⟩ = false := HL.out.box.frozen 0
  have b1 : wr.cell? ⟨w.heap.size, 1, none⟩ = some (.slice none 0 0) := HL.out.box.cell 1
  have z1 : wr.frozen? ⟨w.heap.size, 1, none⟩ = false := HL.out.box.frozen 1
  have b2 : wr.cell? ⟨w.heap.size, 2, none⟩ = some (.slice none 0 0) := HL.out.box.cell 2
  have z2 : wr.frozen? ⟨w.heap.size, 2, none⟩ = false := HL.out.box.frozen 2
  have b3 : wr.cell? ⟨w.heap.size, 3, none⟩ = some (.slice none 0 0) := HL.out.box.cell 3
  have z3 : wr.frozen? ⟨w.heap.size, 3, none⟩ = false := HL.out.box.frozen 3
  have hold : Fr (fun b => b = R ∨ w.heap.size ≤ b) w wr := J8.out.old.trans (HL.out.old.mono fun k hk e => e.elim .inl (fun x => .inr (by have := J8.out.box.lt; have := HL.out.lt; omega)))
  have HOLD := Lib.hid hold
  cases hsh : r2.short
  case true =>
    have HX2 : Hid (ob = .error 3) := Lib.hid (by rw [HRE2.out, hcd]; simp [hsh])
    rw [hsh] at s1
    clear hsh hcd hold hb9
    go_wp2
    refine ret_store4 (x := .int .i64 3) HL.out.box (by intro W c0 c1 c2 c3; simp [results, Tryd.results46, go_sem, c0, c1, c2, c3]) ?_
    intro W hW hF
    exact .inl ⟨3, HX2.out, rfl, old_only (HOLD.out.trans (hF.mono fun k hk e => .inr (by omega)))⟩
  case false =>
  have HX2 : Hid (ob = .ok (⟨la, lf, lp, lc⟩, r2)) := Lib.hid (by rw [HRE2.out, hcd]; simp [hsh])
  rw [hsh] at s1
  obtain ⟨Ac, cc, hvc, _⟩ := own_form HL.out.rc
  subst hvc
  have o0 := HL.out.boxO.cell 0
  have o1 := HL.out.boxO.cell 1
  have o2 := HL.out.boxO.cell 2
  have o3 := HL.out.boxO.cell 3
  have HLC : Hid (lc.length = k) := Lib.hid (by have := HPC.out.1; omega)
  clear hsh hcd hold hb9
  go_wp2
  refine ret_store4 (x := .int .i64 0) HL.out.box (by intro W c0 c1 c2 c3; simp [results, Tryd.results46, go_sem, c0, c1, c2, c3]) ?_
  intro W hW hF
  have hfr8 : Fr (fun b => b = R ∨ b = w.heap.size ∨ w8.heap.size ≤ b) w8 W := (HL.out.old.mono fun k hk e => e.elim .inl (fun x => .inr (.inr x))).trans (hF.mono fun k hk e => .inr (.inl e))
  have hlt8 := HL.out.lt
  have hj8 := HJ.out.box.lt
  refine .inr ⟨_, _, _, _, _, _, HX2.out, rfl, ⟨?_, ?_, ?_, ?_⟩, HL.out.rd.fr hF (by omega) (fun k hk => by omega), old_only (HOLD.out.trans (hF.mono fun k hk e => .inr (by omega))), HL.out.bytes, by rw [HLA.out, HLF.out, HLP.out, HLC.out]; exact HBIG.out, ?_, ?_⟩
  · exact CellsAt.of_own (own_fr HRA.out hfr8 (fun k hk e => by have := own_ge HRA.out hk; omega)) (by decide)
  · exact CellsAt.of_own (own_fr HRF.out hfr8 (fun k hk e => by have := own_ge HRF.out hk; omega)) (by decide)
  · exact CellsAt.of_own (own_fr HRP.out hfr8 (fun k hk e => by have := own_ge HRP.out hk; omega)) (by decide)
  · exact CellsAt.of_own (own_fr HL.out.rc hF (fun k hk e => by have := own_ge HL.out.rc hk; omega)) (by decide)
  · rintro s (h | ⟨q, h, rfl⟩ | ⟨q, h, rfl⟩)
    · exact HSZA.out s h
    · exact HSZF.out q h
    · exact HSZP.out q h
  · intro v hv k hk
    have hle : w.heap.size ≤ w8.heap.size := Nat.le_trans J8.out.lt.2.1 (Nat.le_of_lt J8.out.box.lt)
    have hle2 := HBW1.out
    simp only [List.mem_cons, List.not_mem_nil, or_false] at hv
    rcases hv with rfl | rfl | rfl | rfl
    · exact Nat.le_trans hle2 (own_ge HRA.out hk).1
    · exact Nat.le_trans hle2 (own_ge HRF.out hk).1
    · exact Nat.le_trans hle2 (own_ge HRP.out hk).1
    · have := (own_ge HL.out.rc hk).1; omega

end Go.Proofs.YtfknoecgcoapcaaDoor
