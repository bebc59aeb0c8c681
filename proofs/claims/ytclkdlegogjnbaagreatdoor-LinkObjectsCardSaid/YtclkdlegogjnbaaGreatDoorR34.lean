/-
  2 texts in one (LinkJ LinkI). Conditions: those of each theorem.
-/
import Derived.Test.YtclkdlegogjnbaaGreatDoorR32
import Derived.Test.YtclkdlegogjnbaaGreatDoorR33
namespace Go.Proofs.YtclkdlegogjnbaaGreatDoor
open Go Go.RowKit Go.WideShapes Go.ChangeShapes
set_option linter.unusedVariables false
set_option linter.unusedSimpArgs false
theorem check_parts {o : Ob} (h : checkOf o = 0) : (o.atoms.length ≤ 256 ∧ o.funs.length ≤ 256 ∧ o.preds.length ≤ 64 ∧ o.code.length ≤ 1024) ∧ namesOk o = true ∧ entsOk o.code.length (o.preds.map (·.2.2)) = true ∧ codeErr o.atoms.length o.funs.length o.preds.length o.code.length o.code = 0 := by
 unfold checkOf at h
 split at h
 ·simp at h
 ·rename_i h1
  split at h
  ·simp at h
  ·rename_i h2
   split at h
   ·simp at h
   ·split at h
    ·simp at h
    ·rename_i h4
     refine ⟨?_, by simpa using h2, by simpa using h4, h⟩
     unfold bigB at h1
     simp at h1
     omega
theorem codeErr_allL {a f p c : Nat} : ∀ {l : List Ins}, codeErr a f p c l = 0 → ∀ i ∈ l, insErr a f p c i = 0
 | [], _, i, hi => by cases hi
 | x :: l, h, i, hi => by
  rw [codeErr] at h
  split at h
  ·rename_i h1
   rcases List.mem_cons.1 hi with rfl | hi
   ·exact h1
   ·exact codeErr_allL h i hi
  ·rename_i h1
   exact absurd h h1
theorem ents_range {n : Nat} {es : List Int} (h : entsOk n es = true) (hn : n ≤ 1024) : ∀ e ∈ es, 0 ≤ e ∧ e ≤ 65535 := by
 intro e he
 unfold entsOk at h
 simp only [Bool.and_eq_true] at h
 have h1 := List.all_eq_true.1 h.1 e he
 unfold entryOk at h1
 simp only [decide_eq_true_eq] at h1
 omega
theorem keys_of {o : Ob} (ho : ObWf o) (h : checkOf o = 0) : ObKeys o := by
 obtain ⟨h1, h2, _, _⟩ := check_parts h
 unfold namesOk at h2
 simp only [Bool.and_eq_true] at h2
 refine ⟨ho.atoms, fun_keys (by decide) ho.funs h2.1.2, fun p hp => ?_, by omega⟩
 exact fun_keys (by decide) (called_sizes ho) h2.2 _ (List.mem_map_of_mem hp)
theorem ents_of {o : Ob} (h : checkOf o = 0) : ∀ p ∈ o.preds, 0 ≤ p.2.2 ∧ p.2.2 ≤ 65535 := by
 obtain ⟨h1, _, h3, _⟩ := check_parts h
 intro p hp
 exact ents_range h3 (by omega) _ (List.mem_map_of_mem (f := (·.2.2)) hp)
theorem ops_of {o : Ob} (h : checkOf o = 0) : ∀ i ∈ o.code, ∀ j, j < (opsOf i.1).length → OpdOk o ((opsOf i.1).getD j 0) ((argOf i).getD j 0) := by
 obtain ⟨h1, _, _, h4⟩ := check_parts h
 intro i hi j hj
 have h5 := codeErr_allL h4 i hi
 unfold insErr at h5
 split at h5
 ·simp at h5
 ·split at h5
  ·simp at h5
  ·split at h5
   ·rename_i h6
    have h7 := List.all_eq_true.1 h6 j (List.mem_range.2 hj)
    unfold thereB at h7
    generalize (opsOf i.1).getD j 0 = kind at h7 ⊢
    generalize (argOf i).getD j 0 = n at h7 ⊢
    refine ⟨fun e => ?_, fun e => ?_, fun e => ?_, fun e => ?_⟩
    ·subst e
     simpa using h7
    ·subst e
     simpa using h7
    ·subst e
     simpa using h7
    ·subst e
     have h8 : n = 65535 ∨ (0 ≤ n ∧ n < (o.code.length : Int)) := by simpa using h7
     omega
   ·simp at h5
theorem predK_mem {n : Int} {s s' : Lk} {p : Pr} (h : Even3 s) (hs : predK n s p = some s') : called p ∈ s'.preds.map called ∧ ∀ f ∈ s.preds.map called, f ∈ s'.preds.map called := by
 rw [predK_eq h] at hs
 have g1 := predG_mem n s (called p)
 have g2 : ∀ f ∈ s.preds.map called, f ∈ (predG n s (called p)).preds.map called := by
  intro f hf
  unfold predG hadOr
  split
  ·exact hf
  ·rw [List.map_append]
   exact List.mem_append_left _ hf
 split at hs
 ·injection hs with hs
  subst hs
  exact ⟨g1, g2⟩
 ·split at hs
  ·cases hs
  ·injection hs with hs
   subst hs
   exact ⟨g1, g2⟩
theorem predsK_all {n : Int} : ∀ {ps : List Pr} {s s' : Lk}, Even3 s → predsK n s ps = some s' → (∀ p ∈ ps, called p ∈ s'.preds.map called) ∧ (∀ f ∈ s.preds.map called, f ∈ s'.preds.map called) ∧ s'.atoms = s.atoms ∧ s'.funs = s.funs ∧ s'.n = s.n ∧ Even3 s' ∧ s'.preds.length ≤ s.preds.length + ps.length
 | [], s, s', he, h => by
  injection h with h
  subst h
  exact ⟨(fun p hp => by cases hp), fun f hf => hf, rfl, rfl, rfl, he, by simp⟩
 | p :: ps, s, s', he, h => by
  rw [predsK] at h
  cases hp : predK n s p with
  | none => rw [hp] at h; cases h
  | some s1 =>
   rw [hp] at h
   obtain ⟨e1, l1, a1, a2, a3⟩ := predK_even he hp
   obtain ⟨m1, m2⟩ := predK_mem he hp
   obtain ⟨r1, r2, r3, r4, r5, r6, r7⟩ := predsK_all e1 h
   refine ⟨fun q hq => ?_, fun f hf => r2 f (m2 f hf), r3.trans a1, r4.trans a2, r5.trans a3, r6, by rw [List.length_cons]; omega⟩
   rcases List.mem_cons.1 hq with rfl | hq
   ·exact r2 _ m1
   ·exact r1 q hq
theorem addAll_in {α : Type} [DecidableEq α] (xs l : List α) : (∀ x ∈ xs, x ∈ xs.foldl addTo l) ∧ ∀ x ∈ l, x ∈ xs.foldl addTo l := by
 obtain ⟨m, h1, h2⟩ := addAll_grow xs l
 rw [h1]
 exact ⟨h2, fun x hx => List.mem_append_left _ hx⟩
structure EnP (s s' : Lk) (x : Ob) : Prop where
 has : Has s' x
 old : ∀ y, Has s y → Has s' y
 even : Even3 s'
 la : s'.atoms.length ≤ s.atoms.length + x.atoms.length
 lf : s'.funs.length ≤ s.funs.length + x.funs.length
 lp : s'.preds.length ≤ s.preds.length + x.preds.length
 n : s'.n = s.n + x.code.length
theorem enterK_all {n : Int} {s s' : Lk} {x : Ob} (he : Even3 s) (h : enterK n s x = some s') : EnP s s' x := by
 unfold enterK at h
 obtain ⟨r1, r2, r3, r4, r5, r6, r7⟩ := predsK_all (s := { s with atoms := x.atoms.foldl addTo s.atoms, funs := x.funs.foldl addTo s.funs, n := s.n + x.code.length }) he h
 refine ⟨⟨by rw [r3]; exact (addAll_in x.atoms s.atoms).1, by rw [r4]; exact (addAll_in x.funs s.funs).1, r1⟩, fun y hy => ⟨?_, ?_, ?_⟩, r6, by rw [r3]; have := addAll_len x.atoms s.atoms; omega, by rw [r4]; have := addAll_len x.funs s.funs; omega, r7, r5⟩
 ·intro z hz
  rw [r3]
  exact (addAll_in x.atoms s.atoms).2 z (hy.atoms z hz)
 ·intro z hz
  rw [r4]
  exact (addAll_in x.funs s.funs).2 z (hy.funs z hz)
 ·intro z hz
  exact r2 _ (hy.preds z hz)
theorem even_start : Even3 startLk := ⟨rfl, rfl⟩
def obC (q : Value × Value × Value × Value) : List Value := [q.1, q.2.1, q.2.2.1, q.2.2.2]
structure ObsAt (w : World) (v : Value) (qs : List (Value × Value × Value × Value)) (l : List Ob) : Prop where
 len : qs.length = l.length
 cells : CellsAt w v l.length (qs.flatMap obC)
 obs : ∀ k (h : k < l.length), ObAt w (qs[k]'(by omega)).1 (qs[k]'(by omega)).2.1 (qs[k]'(by omega)).2.2.1 (qs[k]'(by omega)).2.2.2 l[k]
theorem ObsAt.below {w w' : World} {v : Value} {qs : List (Value × Value × Value × Value)} {l : List Ob} (h : ObsAt w v qs l) (hb : Below w.heap.size w w') : ObsAt w' v qs l :=
 ⟨h.len, h.cells.below hb, fun k hk => (h.obs k hk).below hb⟩
theorem obCell {w : World} {A : Option Addr} {c n : Nat} {qs : List (Value × Value × Value × Value)} (h : CellsAt w (.slice A n c) qs.length (qs.flatMap obC)) (k : Nat) (hk : k < qs.length) :
  ∃ b off, A = some ⟨b, off, none⟩ ∧ b < w.heap.size ∧ w.cell? ⟨b, off + k * 4, none⟩ = some qs[k].1 ∧ w.cell? ⟨b, off + k * 4 + 1, none⟩ = some qs[k].2.1 ∧ w.cell? ⟨b, off + k * 4 + 2, none⟩ = some qs[k].2.2.1 ∧ w.cell? ⟨b, off + k * 4 + 3, none⟩ = some qs[k].2.2.2 := by
 obtain ⟨_, b, off, hA, hl, hc⟩ := h.at_ (by omega)
 have hf := flat_at obC 4 (fun _ => rfl) qs k qs[k] (by simp [hk])
 refine ⟨b, off, hA, hl, ?_, ?_, ?_, ?_⟩
 ·exact hc (k * 4 + 0) _ (hf 0 (by omega))
 ·exact hc (k * 4 + 1) _ (hf 1 (by omega))
 ·exact hc (k * 4 + 2) _ (hf 2 (by omega))
 ·exact hc (k * 4 + 3) _ (hf 3 (by omega))
theorem firstErr_step {l : List Ob} {k : Nat} (h : k < l.length) : firstErr k (l.drop k) = if checkOf l[k] = 0 then firstErr (k + 1) (l.drop (k + 1)) else some (checkOf l[k], k) := by
 rw [List.drop_eq_getElem_cons h, firstErr]
theorem foldK_step {l : List Ob} {k : Nat} {s : Lk} (h : k < l.length) : foldK k s (l.drop k) = match enterK k s l[k] with | none => .error k | some s' => foldK (k + 1) s' (l.drop (k + 1)) := by
 rw [List.drop_eq_getElem_cons h, foldK]
 rfl
end Go.Proofs.YtclkdlegogjnbaaGreatDoor

namespace Go.Proofs.YtclkdlegogjnbaaGreatDoor
open Go Go.RowKit Go.WideShapes Go.ChangeShapes
set_option linter.unusedVariables false
set_option linter.unusedSimpArgs false
theorem layK_all : ∀ (l : List Ob) (o : Ob), (∀ x ∈ l, x.code.length ≤ 1024) → (l.foldl layK o).atoms = o.atoms ∧ (l.foldl layK o).funs = o.funs ∧ (l.foldl layK o).preds.map called = o.preds.map called ∧ (l.foldl layK o).code.length ≤ o.code.length + 1024 * l.length
  | [], o, _ => ⟨rfl, rfl, rfl, by simp⟩
  | x :: l, o, h => by
    obtain ⟨h1, h2, h3, h4⟩ := layK_all l (layK o x) (fun y hy => h y (by simp [hy]))
    rw [List.foldl_cons]
    refine ⟨h1, h2, h3.trans (layAll_called _ _ _), ?_⟩
    have := h x (by simp)
    have e : (layK o x).code.length = o.code.length + x.code.length := by simp [layK]
    rw [List.length_cons]
    omega
theorem layK_take {l : List Ob} {o : Ob} {k : Nat} (h : k < l.length) : (l.take (k + 1)).foldl layK o = layK ((l.take k).foldl layK o) l[k] := by
  rw [List.take_succ_eq_append_getElem h, List.foldl_append]
  rfl
theorem linkP_err {l : List Ob} {e : Int} {n : Nat} (h : firstErr 0 l = some (e, n)) : linkP l = (emptyOb, e, (n : Int)) := by unfold linkP; rw [h]
theorem linkP_twice {l : List Ob} {n : Nat} (h : firstErr 0 l = none) (h2 : foldK 0 startLk l = .error n) : linkP l = (emptyOb, 11, (n : Int)) := by unfold linkP; rw [h]; simp only; rw [h2]
theorem linkP_rest {l : List Ob} {s : Lk} (h : firstErr 0 l = none) (h2 : foldK 0 startLk l = .ok s) : linkP l = if 0 ≤ unknownK s then (emptyOb, 12, unknownK s)
      else if decide (256 < s.atoms.length ∨ 256 < s.funs.length ∨ 64 < s.preds.length ∨ 1024 < s.n) = true then (emptyOb, 2, -1)
      else (l.foldl layK ⟨s.atoms, s.funs, s.preds, []⟩, 0, -1) := by unfold linkP; rw [h]; simp only; rw [h2]
set_option maxRecDepth 100000 in
set_option maxHeartbeats 32000000 in
theorem objects_any (l : List Ob) (ho : ∀ x ∈ l, ObWf x) (hl : l.length ≤ 50) (qs : List (Value × Value × Value × Value)) (v : Value) (w : World) (hp : NamesAt w) (hpb : ∀ w', Below w.heap.size w w' → NamesAt w') (hv : ObsAt w v qs l) :
    Calls Tryz.prog 9 #[v] w (AsmW w (linkP l)) := by
  obtain ⟨A, c, rfl⟩ := hv.cells.form
  have HV := Lib.hid hv
  have HO := Lib.hid ho
  have HPB := Lib.hid hpb
  have hql := hv.len
  have HB0 := Lib.hid (alloc_below w (.cells #[.slice none 0 0, .slice none 0 0, .slice none 0 0, .slice none 0 0] 39))
  have X0 := Lib.hid (Box.new w 39 #[.slice none 0 0, .slice none 0 0, .slice none 0 0, .slice none 0 0])
  obtain ⟨r, hr⟩ : ∃ r, linkP l = r := ⟨_, rfl⟩
  have HR := Lib.hid hr
  rw [hr]
  have R0 : Hid (firstErr 0 l = firstErr 0 (l.drop 0)) := Lib.hid rfl
  have HQC : Hid (∀ k (hk : k < l.length) (wr : World), Below w.heap.size w wr → ∃ b off B1 e1 B2 e2 B3 e3 B4 e4, A = some ⟨b, off, none⟩ ∧ wr.cell? ⟨b, off + k * 4, none⟩ = some (.slice B1 l[k].atoms.length e1) ∧ wr.cell? ⟨b, off + k * 4 + 1, none⟩ = some (.slice B2 l[k].funs.length e2) ∧ wr.cell? ⟨b, off + k * 4 + 2, none⟩ = some (.slice B3 l[k].preds.length e3) ∧ wr.cell? ⟨b, off + k * 4 + 3, none⟩ = some (.slice B4 l[k].code.length e4) ∧ ObAt w (.slice B1 l[k].atoms.length e1) (.slice B2 l[k].funs.length e2) (.slice B3 l[k].preds.length e3) (.slice B4 l[k].code.length e4) l[k]) := Lib.hid (fun k hk wr hb => by
    have hcl := hv.cells
    rw [← hql] at hcl
    obtain ⟨b, off, hA, hlt, c0, c1, c2, c3⟩ := obCell hcl k (by omega)
    have hat := hv.obs k hk
    obtain ⟨B1, e1, h1⟩ := CellsAt.form hat.atoms
    obtain ⟨B2, e2, h2⟩ := CellsAt.form hat.funs
    obtain ⟨B3, e3, h3⟩ := CellsAt.form hat.preds
    obtain ⟨B4, e4, h4⟩ := CellsAt.form hat.code
    rw [h1] at c0
    rw [h2] at c1
    rw [h3] at c2
    rw [h4] at c3
    rw [h1, h2, h3, h4] at hat
    exact ⟨b, off, B1, e1, B2, e2, B3, e3, B4, e4, hA, (hb.cell (p := ⟨b, off + k * 4, none⟩) hlt).trans c0, (hb.cell (p := ⟨b, off + k * 4 + 1, none⟩) hlt).trans c1, (hb.cell (p := ⟨b, off + k * 4 + 2, none⟩) hlt).trans c2, (hb.cell (p := ⟨b, off + k * 4 + 3, none⟩) hlt).trans c3, hat⟩)
  clear hv ho hr hp hpb
  go_enter Tryz.func9, Tryz.ntmps9
  go_upto_region 1 with (fail)
  obtain ⟨w0, hw0⟩ : ∃ w0, w.alloc (.cells #[.slice none 0 0, .slice none 0 0, .slice none 0 0, .slice none 0 0] 39) = w0 := ⟨_, rfl⟩
  obtain ⟨gr, hgr⟩ : ∃ gr, w.heap.size = gr := ⟨_, rfl⟩
  have HGR := Lib.hid hgr
  rw [hw0] at HB0 X0 ⊢
  rw [hgr] at X0 ⊢
  clear hw0 hgr
  have F0 : Hid (Below w0.heap.size w0 w0) := Lib.hid (Below.refl _ w0)
  go_wp2
  go_loopw [5, 6, 7, 16] (fun _ _ _ i wr => ∃ k : Nat, k ≤ l.length ∧ i = .int .i64 k ∧ Hid (firstErr 0 l = firstErr k (l.drop k)) ∧ Hid (Below w0.heap.size w0 wr)) (fun _ _ _ i _ => l.length - (intOf i).toNat)
  case atStart => exact ⟨0, by omega, rfl, R0, F0⟩
  obtain ⟨k, hkl, rfl, HE, HB⟩ := hrel
  clear R0 F0
  by_cases hlt : k < l.length
  case pos =>
    have HBW := Lib.hid (HB0.out.trans (HB.out.mono HB0.out.size))
    obtain ⟨b, off, B1, e1, B2, e2, B3, e3, B4, e4, rfl, d0, d1, d2, d3, hat⟩ := HQC.out k hlt wr HBW.out
    have HBX := Lib.hid (HB.out.alloc HB.out.size (.cells #[.slice B1 l[k].atoms.length e1, .slice B2 l[k].funs.length e2, .slice B3 l[k].preds.length e3, .slice B4 l[k].code.length e4] 39))
    have HBY := Lib.hid (HB0.out.trans (HBX.out.mono HB0.out.size))
    have HC := Lib.hid (check_any l[k] (HO.out _ (List.getElem_mem hlt)) _ _ _ _ _ (HPB.out _ HBY.out) (hat.below HBY.out))
    have HS := Lib.hid (firstErr_step hlt)
    clear hat
    generalize checkOf l[k] = ck at HC HS
    generalize l[k].atoms.length = n1 at d0 HBX HBY HC
    generalize l[k].funs.length = n2 at d1 HBX HBY HC
    generalize l[k].preds.length = n3 at d2 HBX HBY HC
    generalize l[k].code.length = n4 at d3 HBX HBY HC
    by_cases hc : ck = 0
    · have HE2 : Hid (firstErr 0 l = firstErr (k + 1) (l.drop (k + 1))) := Lib.hid (by rw [HE.out, HS.out, if_pos hc])
      have e0 : (ck != 0) = false := by rw [bne_eq_false_iff_eq]; exact hc
      clear hc
      go_wp2_with (go_at_call 13; refine HC.out.mono ?_; rintro e w3 ⟨rfl, hb3⟩; have HB3 := Lib.hid (HBX.out.trans (hb3.mono HBX.out.size)); clear hb3)
      go_roundw
      case rel => exact ⟨k + 1, by omega, by go_num, HE2, HB3⟩
      case measure => simp [intOf]; omega
    · have HX : Hid (r = (emptyOb, ck, (k : Int))) := Lib.hid (by rw [← HR.out]; exact linkP_err (by rw [HE.out, HS.out, if_neg hc]))
      have e0 : (ck != 0) = true := by rw [bne_iff_ne]; exact hc
      clear hc
      go_wp2_with (go_at_call 13; refine HC.out.mono ?_; rintro e w3 ⟨rfl, hb3⟩; have HBn := Lib.hid (HBX.out.trans (hb3.mono HBX.out.size)); clear hb3; have HB3 := Lib.hid (X0.out.below HBn.out X0.out.lt); have HBB := Lib.hid (HB0.out.trans (HBn.out.mono HB0.out.size)); have b0 := HB3.out.cell 0; have z0 := HB3.out.frozen 0; have b1 := HB3.out.cell 1; have z1 := HB3.out.frozen 1; have b2 := HB3.out.cell 2; have z2 := HB3.out.frozen 2; have b3 := HB3.out.cell 3; have z3 := HB3.out.frozen 3)
      refine ret_store4y (x := .int .i64 ck) (y := .int .i64 k) HB3.out (by intro W c0 c1 c2 c3; simp [results, Tryz.results9, go_sem, c0, c1, c2, c3]) ?_
      intro W hW hF
      exact asmW_err HX.out (HBB.out.trans (hF.below HBB.out.size (fun k hk => by have := HGR.out; omega)))
  case neg =>
  obtain rfl : k = l.length := by omega
  have hfe : firstErr 0 l = none := by rw [HE.out, List.drop_length]; rfl
  have HFE := Lib.hid hfe
  have HCK := Lib.hid (firstErr_none l 0 hfe)
  have HBN := Lib.hid (HB0.out.trans (HB.out.mono HB0.out.size))
  obtain ⟨wN, hwN⟩ : ∃ wN, wr = wN := ⟨_, rfl⟩
  have XN := Lib.hid (X0.out.below HB.out X0.out.lt)
  rw [hwN] at HBN XN ⊢
  clear HE HB hfe hwN X0
  obtain ⟨I, hI⟩ : ∃ I, newI wN = I := ⟨_, rfl⟩
  have HNW := Lib.hid (newWhole_any wN)
  rw [hI] at HNW
  clear hI
  go_upto_region 9 with (go_at_call 22; refine HNW.out.mono ?_; rintro e w2 ⟨rfl, hk2⟩; have HK2 := Lib.hid hk2; clear hk2)
  have R0 : Hid (foldK 0 startLk l = foldK 0 startLk (l.drop 0)) := Lib.hid rfl
  have E0 := Lib.hid even_start
  have H0 : Hid (∀ j (h : j < l.length), j < 0 → Has startLk l[j]) := Lib.hid (fun j _ h => absurd h (by omega))
  have L0 : Hid (startLk.atoms.length ≤ 256 * 0 ∧ startLk.funs.length ≤ 256 * 0 ∧ startLk.preds.length ≤ 64 * 0 ∧ 0 ≤ startLk.n ∧ startLk.n ≤ 1024 * ((0 : Nat) : Int)) := Lib.hid (by simp [startLk])
  go_wp2
  go_loopw [9, 10, 32] (fun _ _ i wr => ∃ (k : Nat) (s : Lk) (K : WV), k ≤ l.length ∧ i = .int .i64 k ∧ Hid (foldK 0 startLk l = foldK k s (l.drop k)) ∧ Hid (Wh wN wr I K s []) ∧ Hid (Even3 s) ∧ Hid (∀ j (h : j < l.length), j < k → Has s l[j]) ∧ Hid (s.atoms.length ≤ 256 * k ∧ s.funs.length ≤ 256 * k ∧ s.preds.length ≤ 64 * k ∧ 0 ≤ s.n ∧ s.n ≤ 1024 * (k : Int))) (fun _ _ i _ => l.length - (intOf i).toNat)
  case atStart => exact ⟨0, startLk, nilK, by omega, rfl, R0, HK2, E0, H0, L0⟩
  obtain ⟨k, s, K, hkl, rfl, HFK, HK, HEV, HHS, HLN⟩ := hrel
  clear R0 HK2 E0 H0 L0 HNW
  by_cases hlt : k < l.length
  case pos =>
    have HBW := Lib.hid (HBN.out.trans (HK.out.r.below.mono HBN.out.size))
    obtain ⟨b, off, B1, e1, B2, e2, B3, e3, B4, e4, rfl, d0, d1, d2, d3, hat⟩ := HQC.out k hlt wr HBW.out
    have hck := HCK.out _ (List.getElem_mem hlt)
    have HKY := keys_of (HO.out _ (List.getElem_mem hlt)) hck
    have hpt := (check_parts hck).1
    have hln := HLN.out
    have HC := Lib.hid (fun W h => enter_any wN I K s [] k l[k] HKY _ _ _ _ (by omega) HEV.out W (hat.below HBN.out) h)
    have HS := Lib.hid (foldK_step (s := s) hlt)
    have HEN := Lib.hid (fun s' (h : enterK k s l[k] = some s') => enterK_all HEV.out h)
    have HHS2 : Hid (∀ s', enterK k s l[k] = some s' → ∀ j (h : j < l.length), j < k + 1 → Has s' l[j]) := Lib.hid (fun s' h j hj hjk => by
      have e := enterK_all HEV.out h
      by_cases hjk' : j < k
      · exact e.old _ (HHS.out j hj hjk')
      · obtain rfl : j = k := by omega
        exact e.has)
    have HKX := Lib.hid (HK.out.alloc (.cells #[.slice B1 l[k].atoms.length e1, .slice B2 l[k].funs.length e2, .slice B3 l[k].preds.length e3, .slice B4 l[k].code.length e4] 39))
    clear hat hck HKY
    generalize hek : enterK k s l[k] = ek at HC HS HEN HHS2
    cases ek with
    | none =>
      have HX : Hid (r = (emptyOb, 11, (k : Int))) := Lib.hid (by rw [← HR.out]; exact linkP_twice HFE.out (by rw [HFK.out, HS.out]))
      clear hek HS HEN HHS2 hpt
      unfold EnW at HC
      simp only at HC
      generalize l[k].atoms.length = n1 at d0 HKX HC
      generalize l[k].funs.length = n2 at d1 HKX HC
      generalize l[k].preds.length = n3 at d2 HKX HC
      generalize l[k].code.length = n4 at d3 HKX HC
      go_wp2_with (go_at_call 23; refine (HC.out _ HKX.out).mono ?_; rintro e w3 ⟨rfl, hb3⟩; have HB3 := Lib.hid (XN.out.below hb3 XN.out.lt); have HBB := Lib.hid (HBN.out.trans (hb3.mono HBN.out.size)); clear hb3; have b0 := HB3.out.cell 0; have z0 := HB3.out.frozen 0; have b1 := HB3.out.cell 1; have z1 := HB3.out.frozen 1; have b2 := HB3.out.cell 2; have z2 := HB3.out.frozen 2; have b3 := HB3.out.cell 3; have z3 := HB3.out.frozen 3)
      refine ret_store4y (x := .int .i64 11) (y := .int .i64 k) HB3.out (by intro W c0 c1 c2 c3; simp [results, Tryz.results9, go_sem, c0, c1, c2, c3]) ?_
      intro W hW hF
      exact asmW_err HX.out (HBB.out.trans (hF.below HBB.out.size (fun k hk => by have := HGR.out; omega)))
    | some s' =>
      have HFK2 : Hid (foldK 0 startLk l = foldK (k + 1) s' (l.drop (k + 1))) := Lib.hid (by rw [HFK.out, HS.out])
      have HE2 := HEN.out s' rfl
      have HEV2 := Lib.hid HE2.even
      have HHS3 := Lib.hid (HHS2.out s' rfl)
      have HLN2 : Hid (s'.atoms.length ≤ 256 * (k + 1) ∧ s'.funs.length ≤ 256 * (k + 1) ∧ s'.preds.length ≤ 64 * (k + 1) ∧ 0 ≤ s'.n ∧ s'.n ≤ 1024 * ((k + 1 : Nat) : Int)) := Lib.hid (by
        have l1 := HE2.la
        have l2 := HE2.lf
        have l3 := HE2.lp
        have l4 := HE2.n
        omega)
      clear hek HS HEN HHS2 hpt HE2
      unfold EnW at HC
      simp only at HC
      generalize l[k].atoms.length = n1 at d0 HKX HC
      generalize l[k].funs.length = n2 at d1 HKX HC
      generalize l[k].preds.length = n3 at d2 HKX HC
      generalize l[k].code.length = n4 at d3 HKX HC
      go_wp2_with (go_at_call 23; refine (HC.out _ HKX.out).mono ?_; rintro e w3 ⟨K3, rfl, hk3, _⟩; have HK3 := Lib.hid hk3; clear hk3)
      go_roundw
      case rel => exact ⟨k + 1, s', K3, by omega, by go_num, HFK2, HK3, HEV2, HHS3, HLN2⟩
      case measure => simp [intOf]; omega
  case neg =>
  obtain rfl : k = l.length := by omega
  have HFO : Hid (foldK 0 startLk l = .ok s) := Lib.hid (by rw [HFK.out, List.drop_length]; rfl)
  have HLR : Hid (r = if 0 ≤ unknownK s then (emptyOb, 12, unknownK s) else if decide (256 < s.atoms.length ∨ 256 < s.funs.length ∨ 64 < s.preds.length ∨ 1024 < s.n) = true then (emptyOb, 2, -1) else (l.foldl layK ⟨s.atoms, s.funs, s.preds, []⟩, 0, -1)) := Lib.hid (by rw [← HR.out]; exact linkP_rest HFE.out HFO.out)
  have hln := HLN.out
  have hev := HEV.out
  have HUN := Lib.hid (unknown_any wN I K s [] ⟨by rw [hev.2]; omega, by rw [hev.1, hev.2]⟩ wr HK.out)
  have HFU := Lib.hid (wfull_any wN I K s [] wr HK.out)
  generalize decide (256 < s.atoms.length ∨ 256 < s.funs.length ∨ 64 < s.preds.length ∨ 1024 < s.n) = fl at HLR HFU
  generalize unknownK s = un at HLR HUN
  have HB3 := Lib.hid (XN.out.below HK.out.r.below XN.out.lt)
  have HBB := Lib.hid (HBN.out.trans (HK.out.r.below.mono HBN.out.size))
  clear HFK HFO hev
  by_cases hun : 0 ≤ un
  · have HX : Hid (r = (emptyOb, 12, un)) := Lib.hid (by rw [HLR.out, if_pos hun])
    have b0 := HB3.out.cell 0
    have z0 := HB3.out.frozen 0
    have b1 := HB3.out.cell 1
    have z1 := HB3.out.frozen 1
    have b2 := HB3.out.cell 2
    have z2 := HB3.out.frozen 2
    have b3 := HB3.out.cell 3
    have z3 := HB3.out.frozen 3
    go_wp2_with (go_at_call 24; refine HUN.out.mono ?_; rintro e w3 ⟨rfl, rfl⟩)
    refine ret_store4y (x := .int .i64 12) (y := .int .i64 un) HB3.out (by intro W c0 c1 c2 c3; simp [results, Tryz.results9, go_sem, c0, c1, c2, c3]) ?_
    intro W hW hF
    exact asmW_err HX.out (HBB.out.trans (hF.below HBB.out.size (fun k hk => by have := HGR.out; omega)))
  have HLR2 : Hid (r = if fl = true then (emptyOb, 2, -1) else (l.foldl layK ⟨s.atoms, s.funs, s.preds, []⟩, 0, -1)) := Lib.hid (by rw [HLR.out, if_neg hun])
  clear HLR
  cases fl with
  | true =>
    have HX : Hid (r = (emptyOb, 2, -1)) := Lib.hid (by rw [HLR2.out]; rfl)
    go_wp2_with (first
      | (go_at_call 24; refine HUN.out.mono ?_; rintro e w3 ⟨rfl, rfl⟩)
      | (go_at_call 25; refine HFU.out.mono ?_; rintro e w4 ⟨rfl, hb4⟩; have HB4 := Lib.hid (HB3.out.below hb4 HB3.out.lt); have HBC := Lib.hid (HBB.out.trans (hb4.mono HBB.out.size)); clear hb4; have b0 := HB4.out.cell 0; have z0 := HB4.out.frozen 0; have b1 := HB4.out.cell 1; have z1 := HB4.out.frozen 1; have b2 := HB4.out.cell 2; have z2 := HB4.out.frozen 2; have b3 := HB4.out.cell 3; have z3 := HB4.out.frozen 3))
    refine ret_store4y (x := .int .i64 2) (y := .int .i64 (-1)) HB4.out (by intro W c0 c1 c2 c3; simp [results, Tryz.results9, go_sem, c0, c1, c2, c3]) ?_
    intro W hW hF
    exact asmW_err HX.out (HBC.out.trans (hF.below HBC.out.size (fun k hk => by have := HGR.out; omega)))
  | false =>
  have HX : Hid (r = (l.foldl layK ⟨s.atoms, s.funs, s.preds, []⟩, 0, -1)) := Lib.hid (by rw [HLR2.out]; rfl)
  go_upto_region 20 with (first
    | (go_at_call 24; refine HUN.out.mono ?_; rintro e w3 ⟨rfl, rfl⟩)
    | (go_at_call 25; refine HFU.out.mono ?_; rintro e w4 ⟨rfl, hb4⟩; have HK4 := Lib.hid (HK.out.up hb4); clear hb4))
  clear HUN HFU HB3 HBB HLR2 HK
  have R0 : Hid (Wh wN w4 I K { s with preds := ((l.take 0).foldl layK ⟨s.atoms, s.funs, s.preds, []⟩).preds } ((l.take 0).foldl layK ⟨s.atoms, s.funs, s.preds, []⟩).code) := Lib.hid HK4.out
  go_wp2
  go_loopw [13, 56] (fun _ i wr => ∃ (k : Nat) (K : WV), k ≤ l.length ∧ i = .int .i64 k ∧ Hid (Wh wN wr I K { s with preds := ((l.take k).foldl layK ⟨s.atoms, s.funs, s.preds, []⟩).preds } ((l.take k).foldl layK ⟨s.atoms, s.funs, s.preds, []⟩).code)) (fun _ i _ => l.length - (intOf i).toNat)
  case atStart => exact ⟨0, K, by omega, rfl, R0⟩
  obtain ⟨k, K3, hkl, rfl, HK⟩ := hrel
  clear R0 HK4
  by_cases hlt : k < l.length
  case pos =>
    have HBW := Lib.hid (HBN.out.trans (HK.out.r.below.mono HBN.out.size))
    obtain ⟨b, off, B1, e1, B2, e2, B3, e3, B4, e4, rfl, d0, d1, d2, d3, hat⟩ := HQC.out k hlt wr HBW.out
    have hck := HCK.out _ (List.getElem_mem hlt)
    have hky := keys_of (HO.out _ (List.getElem_mem hlt)) hck
    have hla := layK_all (l.take k) ⟨s.atoms, s.funs, s.preds, []⟩ (fun x hx => (check_parts (HCK.out x (List.mem_of_mem_take hx))).1.2.2.2)
    have HLT := Lib.hid (layK_take (o := ⟨s.atoms, s.funs, s.preds, []⟩) hlt)
    generalize hok : (l.take k).foldl layK ⟨s.atoms, s.funs, s.preds, []⟩ = ok at HK HLT hla
    obtain ⟨h1, h2, h3, h4⟩ := hla
    simp only at h1 h2 h3 h4
    have hhs : Has { s with preds := ok.preds } l[k] := by
      have h := HHS.out k hlt hlt
      exact ⟨h.atoms, h.funs, fun p hp => by rw [h3]; exact h.preds p hp⟩
    have HC := Lib.hid (fun W h => lay_any wN I K3 { s with preds := ok.preds } ok.code l[k] hky hhs (ents_of hck) (ops_of hck) _ _ _ _ (by have h5 : (l.take k).length ≤ 50 := (by rw [List.length_take]; omega); simp at h4; omega) W (hat.below HBN.out) h)
    have HLE : Hid (layK ⟨s.atoms, s.funs, ok.preds, ok.code⟩ l[k] = layK ok l[k]) := Lib.hid (by rw [← h1, ← h2])
    have HKX := Lib.hid (HK.out.alloc (.cells #[.slice B1 l[k].atoms.length e1, .slice B2 l[k].funs.length e2, .slice B3 l[k].preds.length e3, .slice B4 l[k].code.length e4] 39))
    unfold LayW at HC
    simp only at HC
    rw [HLE.out, ← HLT.out] at HC
    clear hat hck hky h1 h2 h3 h4 hok hhs HLE HLT
    generalize l[k].atoms.length = n1 at d0 HKX HC
    generalize l[k].funs.length = n2 at d1 HKX HC
    generalize l[k].preds.length = n3 at d2 HKX HC
    generalize l[k].code.length = n4 at d3 HKX HC
    go_wp2_with (go_at_call 26; refine (HC.out _ HKX.out).mono ?_; rintro e w3 ⟨K5, rfl, hk3, _⟩; have HK5 := Lib.hid hk3; clear hk3)
    go_roundw
    case rel => exact ⟨k + 1, K5, by omega, by go_num, HK5⟩
    case measure => simp [intOf]; omega
  case neg =>
  obtain rfl : k = l.length := by omega
  have hla := layK_all l ⟨s.atoms, s.funs, s.preds, []⟩ (fun x hx => (check_parts (HCK.out x hx)).1.2.2.2)
  have HKE := HK.out
  rw [List.take_length] at HKE
  generalize l.foldl layK ⟨s.atoms, s.funs, s.preds, []⟩ = ok at HX HKE hla
  obtain ⟨va, vf, vp, vc, vh, vb⟩ := K3
  obtain ⟨A1, c1, hva, _⟩ := own_form HKE.r.ra
  obtain ⟨A2, c2, hvf, _⟩ := own_form HKE.r.rf
  obtain ⟨A3, c3, hvp, _⟩ := own_form HKE.r.rp
  obtain ⟨A4, c4, hvc, _⟩ := own_form HKE.r.rc
  simp only at hva hvf hvp hvc
  subst hva hvf hvp hvc
  have q0 := HKE.box.cell 0
  have q1 := HKE.box.cell 1
  have q2 := HKE.box.cell 2
  have q3 := HKE.box.cell 3
  have HB3 := Lib.hid (XN.out.below HKE.r.below XN.out.lt)
  have HBB := Lib.hid (HBN.out.trans (HKE.r.below.mono HBN.out.size))
  have b0 := HB3.out.cell 0
  have z0 := HB3.out.frozen 0
  have b1 := HB3.out.cell 1
  have z1 := HB3.out.frozen 1
  have b2 := HB3.out.cell 2
  have z2 := HB3.out.frozen 2
  have b3 := HB3.out.cell 3
  have z3 := HB3.out.frozen 3
  have hbn := HBN.out.size
  have hxn := XN.out.lt
  have HOO : Hid (ObOwn wr wN.heap.size (.slice A1 s.atoms.length c1) (.slice A2 s.funs.length c2) (.slice A3 ok.preds.length c3) (.slice A4 ok.code.length c4) ok) := Lib.hid (by
    have ha := HKE.r.ra
    have hf := HKE.r.rf
    simp only at ha hf
    refine ⟨?_, ?_, HKE.r.rp, HKE.r.rc⟩
    · rw [hla.1]; exact ha
    · rw [hla.2.1]; exact hf)
  have HRW : Hid (wr.heap.size = wr.heap.size) := Lib.hid rfl
  clear HK HKE hla HRW
  go_wp2
  refine ret_store4y (x := .int .i64 0) (y := .int .i64 (-1)) HB3.out (by intro W c0 c1 c2 c3; simp [results, Tryz.results9, go_sem, c0, c1, c2, c3]) ?_
  intro W hW hF
  refine asmW_ok HX.out ?_ (HBB.out.trans (hF.below HBB.out.size (fun k hk => by have := HGR.out; omega)))
  exact ⟨own_more (own_fr HOO.out.ra hF (fun k hk e => by have := (own_ge HOO.out.ra hk).1; omega)) (fun k hk => by have := (own_ge HOO.out.ra hk).1; omega), own_more (own_fr HOO.out.rf hF (fun k hk e => by have := (own_ge HOO.out.rf hk).1; omega)) (fun k hk => by have := (own_ge HOO.out.rf hk).1; omega), own_more (own_fr HOO.out.rp hF (fun k hk e => by have := (own_ge HOO.out.rp hk).1; omega)) (fun k hk => by have := (own_ge HOO.out.rp hk).1; omega), own_more (own_fr HOO.out.rc hF (fun k hk e => by have := (own_ge HOO.out.rc hk).1; omega)) (fun k hk => by have := (own_ge HOO.out.rc hk).1; omega)⟩
end Go.Proofs.YtclkdlegogjnbaaGreatDoor
