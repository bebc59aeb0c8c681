/-
  Proved: 'Rows.ObjDecodesCardSaid': for all bytes the statement ObjDecodes of the landed package obj returns true, and they read as before. Conditions: the card's own (one listed variable, the table of the instructions' names, starts as the program's text lays it; the card ties it to the text).
-/
import Derived.Test.YtfknoecgcoapcaaDoorObjDA
import Derived.Test.YtfknoecgcoapcaaDoorObjBW
import Derived.Test.YtfknoecgcoapcaaDoorObjR
import Derived.Deep.RegionLaw
import Derived.Test.YtfknoecgcoapcaaDoorCards
import Derived.Test.YtfknoecgcoapcaaDoorTie
import Derived.Test.YtfknoecgcoapcaaDoorChecked
import Derived.Test.YtfknoecgcoapcaaDoorObjU
import Derived.OpenShut
import Derived.Deep.Slices
import Derived.Deep.Fields
import Derived.Carry
import Derived.WideShapes
import Derived.Laws.IdiomArrays
import Derived.Lib.LaidTab
import Derived.LaidSub
import Derived.LaidLaws
import Derived.MakeChecks
import Derived.LaidMore
import Derived.Deep.DeepHandedRow
import Derived.ChangeMaps5

namespace Go.Proofs.YtfknoecgcoapcaaDoor
open Go Go.RowKit Go.WideShapes Go.ChangeShapes
set_option linter.unusedVariables false
set_option linter.unusedSimpArgs false

def magicM : List Nat := [82, 83, 76, 86, 1]
def magicCells : Array Value := #[.int .u8 82, .int .u8 83, .int .u8 76, .int .u8 86, .int .u8 1]
theorem slice_magic (w : World) : (Instr.buildSlice 38 5 #[(0, .int .u8 82), (1, .int .u8 83), (2, .int .u8 76), (3, .int .u8 86), (4, .int .u8 1)]).run Tryd.prog w = .ok (.slice (some ⟨w.heap.size, 0, none⟩) 5 5) (w.alloc (.cells magicCells 5)) := by kernel_rfl
theorem magic_at (k : Nat) (h : k < 5) : magicCells[k]? = some (.int .u8 ((magicM.getD k 0 : Nat) : Int)) := by
  match k, h with
  | 0, _ => rfl
  | 1, _ => rfl
  | 2, _ => rfl
  | 3, _ => rfl
  | 4, _ => rfl
theorem magic_drop (k : Nat) (h : k < 5) : magicM.drop k = magicM.getD k 0 :: magicM.drop (k + 1) := by
  match k, h with
  | 0, _ => rfl
  | 1, _ => rfl
  | 2, _ => rfl
  | 3, _ => rfl
  | 4, _ => rfl
theorem magic_out {l : List Nat} {e : Int} (h : magicD l magicM 0 = e) (he : e ≠ 0) : decodeOf l = (emptyOb, e) := by
  rw [← decodeD_eq]
  unfold decodeD
  rw [show magicD l [82, 83, 76, 86, 1] 0 = e from h, if_pos he]

theorem numD_le {l : List Nat} {k : Nat} {s : Ds} (h : s.1 ≤ l.length) : (numD l k s).2.1 ≤ l.length := by
  unfold numD
  split
  · exact h
  · split
    · rename_i h2
      exact h2
    · exact Nat.le_refl _
theorem decode_head {l : List Nat} (h : magicD l magicM 0 = 0) {a f p c : Nat × Ds} (ha : numD l 2 (5, 0) = a) (hf : numD l 2 a.2 = f) (hp : numD l 2 f.2 = p) (hc : numD l 2 p.2 = c) :
    decodeOf l = if c.2.2 ≠ 0 then (emptyOb, c.2.2) else if bigB a.1 f.1 p.1 c.1 then (emptyOb, 2) else bodyD l a.1 f.1 p.1 c.1 c.2 := by
  subst ha hf hp hc
  rw [← decodeD_eq]
  unfold decodeD
  rw [if_neg (by rw [show magicD l [82, 83, 76, 86, 1] 0 = 0 from h]; decide)]
theorem fr_drewN0 {S : Nat → Prop} {w w' : World} {n : Nat} (h : Fr S (w.drewN n) w') : Fr S w w' := h.from_drewN
/-- A number, as a walk of Decode reads it. -/
theorem dnum {w : World} {l : List Nat} {v : Value} (hl : ∀ c ∈ l, c < 256) (hm : l.length ≤ 1000000) (hv : BysIn w v l) {R : Nat} (hR : w.heap.size ≤ R) (size : Nat) (h1 : 1 ≤ size) (h4 : size ≤ 4) (s : Ds) (hs : s.1 ≤ l.length) (x : Nat × Ds) (hx : numD l size s = x) (W : World) (hb : Below w.heap.size w W) (hr : RdBox W R v s) :
    Calls Tryd.prog 48 #[.pointer (some ⟨R, 0, none⟩), .int .i64 (size : Nat)] W fun e w' => e = .returned (.int .i64 (x.1 : Nat)) ∧ RdBox w' R v x.2 ∧ Fr (fun k => k = R) W w' := by
  subst hx
  exact rdnum_any l hl hm size h1 h4 R v s hs W w hr hv (fun W' hf => hv.below (hb.trans (hf.below hb.size (fun k hk => by omega))))
theorem dname {w : World} {l : List Nat} {v : Value} (hl : ∀ c ∈ l, c < 256) (hm : l.length ≤ 1000000) (hv : BysIn w v l) {R : Nat} (hR : w.heap.size ≤ R) (s : Ds) (hs : s.1 ≤ l.length) (x : ByteArray × Ds) (hx : nameD l s = x) (W : World) (hb : Below w.heap.size w W) (hr : RdBox W R v s) :
    Calls Tryd.prog 49 #[.pointer (some ⟨R, 0, none⟩)] W fun e w' => e = .returned (.string x.1) ∧ RdBox w' R v x.2 ∧ Fr (fun k => k = R) W w' := by
  subst hx
  exact rdname_any l hl hm R v s hs W w hr hv (fun W' hf => hv.below (hb.trans (hf.below hb.size (fun k hk => by omega))))
theorem nameD_le {l : List Nat} {s : Ds} (h : s.1 ≤ l.length) : (nameD l s).2.1 ≤ l.length := by
  have h1 := numD_le (k := 1) h
  unfold nameD
  split
  · exact h1
  · split
    · rename_i h2
      exact h2
    · exact h1

def PartD {α : Type} (f : Ds → α × Ds) (n j : Nat) (s s' : Ds) (l : List α) : Prop := l.length + j = n ∧ l ++ (manyD f j s').1 = (manyD f n s).1 ∧ (manyD f j s').2 = (manyD f n s).2
theorem PartD.start {α : Type} (f : Ds → α × Ds) (n : Nat) (s : Ds) : PartD f n n s s [] := ⟨by simp, rfl, rfl⟩
theorem PartD.step {α : Type} {f : Ds → α × Ds} {n j : Nat} {s s' : Ds} {l : List α} (h : PartD f n (j + 1) s s' l) : PartD f n j s (f s').2 (l ++ [(f s').1]) :=
  ⟨by have := h.1; simp; omega, by rw [← h.2.1, manyD]; simp, by rw [← h.2.2]; rfl⟩
theorem PartD.done {α : Type} {f : Ds → α × Ds} {n : Nat} {s s' : Ds} {l : List α} (h : PartD f n 0 s s' l) : manyD f n s = (l, s') := by
  refine Prod.ext ?_ h.2.2.symm
  have := h.2.1
  rw [manyD, List.append_nil] at this
  exact this.symm
theorem Dx.drewN {w wr : World} {g1 g2 g3 : Nat} {us : Array Value} {va vf vp vc : Value} {la : List ByteArray} {lf : List (ByteArray × Int)} {lp : List (ByteArray × Int × Int)} {lc : List Ins} (h : Dx w wr g1 g2 g3 us va vf vp vc la lf lp lc) (n : Nat) : Dx w (wr.drewN n) g1 g2 g3 us va vf vp vc la lf lp lc := h.up (below_drewN9 wr n)

set_option maxRecDepth 100000 in
set_option maxHeartbeats 32000000 in
theorem rdecode_any (l : List Nat) (hl : ∀ c ∈ l, c < 256) (hm : l.length ≤ 1000000) (v : Value) (w : World) (hv : BysIn w v l) :
    Calls Tryd.prog 19 #[v] w (Decoded w l) := by
  obtain ⟨A, c, rfl⟩ := hv.form
  have HV := Lib.hid hv
  have HL := Lib.hid hl
  have hb0 := Box.new w 27 #[.slice none 0 0, .slice none 0 0, .slice none 0 0, .slice none 0 0]
  have hbb := alloc_below w (.cells #[.slice none 0 0, .slice none 0 0, .slice none 0 0, .slice none 0 0] 27)
  have HB0 := Lib.hid hb0
  have HBB := Lib.hid hbb
  clear hv hl hb0 hbb
  go_enter Tryd.func19, Tryd.ntmps19
  go_wp2
  go_loopw [4] (fun i wr => ∃ k : Nat, k ≤ 5 ∧ k ≤ l.length ∧ i = .int .i64 k ∧ Hid (Box wr w.heap.size 27 #[.slice none 0 0, .slice none 0 0, .slice none 0 0, .slice none 0 0]) ∧ Hid (Below w.heap.size w wr) ∧ Hid (magicD l magicM 0 = magicD l (magicM.drop k) k)) (fun i _ => 5 - (intOf i).toNat)
  case atStart => exact ⟨0, by omega, by omega, rfl, HB0, HBB, Lib.hid rfl⟩
  obtain ⟨k, hk, hkl, rfl, HB, HW, HM⟩ := hrel
  clear HB0 HBB
  by_cases hk5 : k < 5
  case pos =>
    have z0 : (k : Int) < 5 := by omega
    have b0 : wr.cell? ⟨w.heap.size, 0, none⟩ = some (.slice none 0 0) := HB.out.cell 0
    have f0 : wr.frozen? ⟨w.heap.size, 0, none⟩ = false := HB.out.frozen 0
    have b1 : wr.cell? ⟨w.heap.size, 1, none⟩ = some (.slice none 0 0) := HB.out.cell 1
    have f1 : wr.frozen? ⟨w.heap.size, 1, none⟩ = false := HB.out.frozen 1
    have b2 : wr.cell? ⟨w.heap.size, 2, none⟩ = some (.slice none 0 0) := HB.out.cell 2
    have f2 : wr.frozen? ⟨w.heap.size, 2, none⟩ = false := HB.out.frozen 2
    have b3 : wr.cell? ⟨w.heap.size, 3, none⟩ = some (.slice none 0 0) := HB.out.cell 3
    have f3 : wr.frozen? ⟨w.heap.size, 3, none⟩ = false := HB.out.frozen 3
    by_cases hin : k < l.length
    case neg =>
      have hkn : k = l.length := by omega
      have hz : (l.length : Int) ≤ (k : Int) := by omega
      have HX : Hid (decodeOf l = (emptyOb, 3)) := Lib.hid (magic_out (by rw [HM.out, magic_drop k hk5, magicD, if_pos (by omega)]) (by decide))
      clear hkn hkl hk
      go_wp2
      refine ret_store4 (x := .int .i64 3) HB.out (by intro W c0 c1 c2 c3; simp [results, Tryd.results19, go_sem, c0, c1, c2, c3]) ?_
      intro W hW hF
      exact decoded_bad HX.out (HW.out.trans (hF.below HW.out.size (fun k hk => by omega)))
    case pos =>
      have hcell : ∃ b off, A = some ⟨b, off, none⟩ ∧ wr.cell? ⟨b, off + k, none⟩ = some (.int .u8 ((l.getD k 0 : Nat) : Int)) := by
        rcases HV.out.below HW.out with ⟨h0, _⟩ | ⟨b, off, c', he, _, _, _, hc⟩
        · rw [h0] at hin
          simp at hin
        · injection he with e1 e2 e3
          exact ⟨b, off, e1, hc _ hin⟩
      obtain ⟨b, off, rfl, hcc⟩ := hcell
      have hz : ¬ (l.length : Int) ≤ (k : Int) := by omega
      have HMK := Lib.hid (magic_drop k hk5)
      have hmc : (wr.alloc (.cells magicCells 5)).cell? ⟨wr.heap.size, k, none⟩ = some (.int .u8 ((magicM.getD k 0 : Nat) : Int)) := by rw [(Box.new wr _ _).cell k]; exact magic_at k hk5
      have HBM := Lib.hid slice_magic
      have i1 : (k : Int) < (l.length : Int) := by omega
      have i2 : (0 : Int) ≤ (k : Int) := by omega
      generalize hmm : magicM.getD k 0 = mm at hmc HMK
      generalize hcv : l.getD k 0 = cv at hcc
      have HCV := Lib.hid hcv
      clear hcv hmm hkl hk
      go_upto_region 6 with (fail)
      refine wp_region_held_drew (S := (fun W => W.cell? ⟨b, off + k, none⟩ = some (.int .u8 (cv : Int)))) (by kernel_rfl) ?_ (fun hHeld => ?_)
      · exact hcc
      refine wpAnyH_take (i := 0) (v := ?_) rfl (by kernel_rfl) (by kernel_rfl) (by kernel_rfl) (fun _ _ _ h => h) (Or.inl ⟨by rfl, ?_⟩) (by assumption) ?_
      rotate_left 1
      · (intro w' hSw; (try dsimp only at hSw); go_simp; try with_reducible rfl)
      try simp only [List.getElem_toArray, List.getElem_cons_zero, List.getElem_cons_succ, Act.put, List.setIfInBounds_toArray, List.set_cons_zero, List.set_cons_succ]
      refine wpAnyH_take (i := 1) (v := ?_) rfl (by kernel_rfl) (by kernel_rfl) (by kernel_rfl) (fun _ _ _ h => h) (Or.inl ⟨by rfl, ?_⟩) (by assumption) ?_
      rotate_left 1
      · (intro w' hSw; (try dsimp only at hSw); go_simp; try with_reducible rfl)
      try simp only [List.getElem_toArray, List.getElem_cons_zero, List.getElem_cons_succ, Act.put, List.setIfInBounds_toArray, List.set_cons_zero, List.set_cons_succ]
      refine wpAnyH_take (i := 2) (v := ?_) rfl (by kernel_rfl) (by kernel_rfl) (by kernel_rfl) (fun _ _ _ h => h) (Or.inl ⟨by rfl, ?_⟩) (by assumption) ?_
      rotate_left 1
      · (intro w' hSw; (try dsimp only at hSw); go_simp; try with_reducible rfl)
      try simp only [List.getElem_toArray, List.getElem_cons_zero, List.getElem_cons_succ, Act.put, List.setIfInBounds_toArray, List.set_cons_zero, List.set_cons_succ]
      refine wpAnyH_take (i := 3) (v := ?_) rfl (by kernel_rfl) (by kernel_rfl) (by kernel_rfl) (fun _ _ _ h => h) (Or.inl ⟨by rfl, ?_⟩) (by assumption) ?_
      rotate_left 1
      · (intro w' hSw; (try dsimp only at hSw); go_simp; try with_reducible rfl)
      try simp only [List.getElem_toArray, List.getElem_cons_zero, List.getElem_cons_succ, Act.put, List.setIfInBounds_toArray, List.set_cons_zero, List.set_cons_succ]
      refine wpAnyH_take (i := 5) (v := ?_) rfl (by kernel_rfl) (by kernel_rfl) (by kernel_rfl) (fun _ _ _ h => h) (Or.inl ⟨by rfl, ?_⟩) (by assumption) ?_
      rotate_left 1
      · (intro w' hSw; (try dsimp only at hSw); go_simp; try with_reducible rfl)
      try simp only [List.getElem_toArray, List.getElem_cons_zero, List.getElem_cons_succ, Act.put, List.setIfInBounds_toArray, List.set_cons_zero, List.set_cons_succ]
      refine wpAnyH_ready (rs := [4]) (by kernel_rfl) (by simp) ?_
      refine AllReadyH.cons (o := _) rfl (fun K hK => ?_) AllReadyH.nil
      refine step_of_slice (HBM.out _) rfl _ rfl (by kernel_rfl) ?_
      refine hK.out _ _ ?_ (fun hHeld => ?_)
      · ((try dsimp only); first | with_reducible assumption | go_keep)
      clear hK K
      try simp only [List.getElem_toArray, List.getElem_cons_zero, List.getElem_cons_succ, Act.put, List.setIfInBounds_toArray, List.set_cons_zero, List.set_cons_succ]
      refine wpAnyH_take (i := 6) (v := ?_) rfl (by kernel_rfl) (by kernel_rfl) (by kernel_rfl) (fun _ _ _ h => h) (Or.inl ⟨by rfl, ?_⟩) (by assumption) ?_
      rotate_left 1
      · (intro w' hSw; (try dsimp only at hSw); go_simp; try with_reducible rfl)
      try simp only [List.getElem_toArray, List.getElem_cons_zero, List.getElem_cons_succ, Act.put, List.setIfInBounds_toArray, List.set_cons_zero, List.set_cons_succ]
      refine wpAnyH_ready (rs := [7]) (by kernel_rfl) (by simp) ?_
      refine AllReadyH.cons (o := _) rfl (fun K hK => ?_) AllReadyH.nil
      go_simp
      refine hK.out _ _ ?_ (fun hHeld => ?_)
      · ((try dsimp only); first | with_reducible assumption | go_keep)
      clear hK K
      try simp only [List.getElem_toArray, List.getElem_cons_zero, List.getElem_cons_succ, Act.put, List.setIfInBounds_toArray, List.set_cons_zero, List.set_cons_succ]
      refine wpAnyH_take (i := 8) (v := ?_) rfl (by kernel_rfl) (by kernel_rfl) (by kernel_rfl) (fun _ _ _ h => h) (Or.inl ⟨by rfl, ?_⟩) (by assumption) ?_
      rotate_left 1
      · (intro w' hSw; (try dsimp only at hSw); go_simp; try with_reducible rfl)
      try simp only [List.getElem_toArray, List.getElem_cons_zero, List.getElem_cons_succ, Act.put, List.setIfInBounds_toArray, List.set_cons_zero, List.set_cons_succ]
      refine wpAnyH_done (by kernel_rfl) ?_ _
      have HB8 : Hid (Below wr.heap.size wr ((wr.alloc (.cells magicCells 5)).drew)) := Lib.hid ((alloc_below wr _).trans ((bdrew1 _).mono (by simp)))
      obtain ⟨W8, hW8⟩ : ∃ W8, (wr.alloc (.cells magicCells 5)).drew = W8 := ⟨_, rfl⟩
      rw [hW8] at HB8 ⊢
      have HB9 := Lib.hid (HB.out.below HB8.out HB.out.lt)
      have HW9 := Lib.hid (HW.out.trans (HB8.out.mono HW.out.size))
      clear hW8 hmc hcc hHeld HBM HB HW HB8 b0 b1 b2 b3 f0 f1 f2 f3
      have HINN := Lib.hid hin
      by_cases hcm : cv = mm
      case neg =>
        have hne : ((cv : Int) != (mm : Int)) = true := by simpa using (by omega : ¬ (cv : Int) = (mm : Int))
        have hne2 : ((cv : Int) == (mm : Int)) = false := by simpa using (by omega : ¬ (cv : Int) = (mm : Int))
        have HX : Hid (decodeOf l = (emptyOb, 5)) := Lib.hid (magic_out (by rw [HM.out, HMK.out, magicD, if_neg (by omega), if_pos (by rw [HCV.out]; exact hcm)]) (by decide))
        have b0 : W8.cell? ⟨w.heap.size, 0, none⟩ = some (.slice none 0 0) := HB9.out.cell 0
        have f0 : W8.frozen? ⟨w.heap.size, 0, none⟩ = false := HB9.out.frozen 0
        have b1 : W8.cell? ⟨w.heap.size, 1, none⟩ = some (.slice none 0 0) := HB9.out.cell 1
        have f1 : W8.frozen? ⟨w.heap.size, 1, none⟩ = false := HB9.out.frozen 1
        have b2 : W8.cell? ⟨w.heap.size, 2, none⟩ = some (.slice none 0 0) := HB9.out.cell 2
        have f2 : W8.frozen? ⟨w.heap.size, 2, none⟩ = false := HB9.out.frozen 2
        have b3 : W8.cell? ⟨w.heap.size, 3, none⟩ = some (.slice none 0 0) := HB9.out.cell 3
        have f3 : W8.frozen? ⟨w.heap.size, 3, none⟩ = false := HB9.out.frozen 3
        go_wp2
        refine ret_store4 (x := .int .i64 5) HB9.out (by intro W c0 c1 c2 c3; simp [results, Tryd.results19, go_sem, c0, c1, c2, c3]) ?_
        intro W hW hF
        exact decoded_bad HX.out (HW9.out.trans (hF.below HW9.out.size (fun k hk => by omega)))
      case pos =>
        subst hcm
        have HM2 : Hid (magicD l magicM 0 = magicD l (magicM.drop (k + 1)) (k + 1)) := Lib.hid (by rw [HM.out, HMK.out, magicD, if_neg (by omega), if_neg (by rw [HCV.out]; simp)])
        go_wp2
        go_roundw
        case rel => exact ⟨k + 1, by omega, by omega, by go_num, HB9, HW9, HM2⟩
        case measure => simp [intOf]; omega
  obtain rfl : k = 5 := by omega
  have HMZ : Hid (magicD l magicM 0 = 0) := Lib.hid (by rw [HM.out]; rfl)
  have HR0 : Hid (RdBox (wr.alloc (.cells #[.slice A l.length c, .int .i64 5, .int .i64 0] 97)) wr.heap.size (.slice A l.length c) (5, 0)) := Lib.hid (Box.new wr _ _)
  have HW0 := Lib.hid (HW.out.alloc HW.out.size (.cells #[.slice A l.length c, .int .i64 5, .int .i64 0] 97))
  have HB0 := Lib.hid (HB.out.alloc (.cells #[.slice A l.length c, .int .i64 5, .int .i64 0] 97))
  have hRW : w.heap.size < wr.heap.size := HB.out.lt
  have h5 : 5 ≤ l.length := hkl
  have HNUM := Lib.hid (fun (R : Nat) (hR : w.heap.size ≤ R) => dnum (R := R) HL.out hm HV.out hR)
  have HNAM := Lib.hid (fun (R : Nat) (hR : w.heap.size ≤ R) => dname (R := R) HL.out hm HV.out hR)
  clear hk5 HM HB HW hk hkl
  obtain ⟨a, ha⟩ : ∃ a, numD l 2 (5, 0) = a := ⟨_, rfl⟩
  obtain ⟨f, hf⟩ : ∃ f, numD l 2 a.2 = f := ⟨_, rfl⟩
  obtain ⟨p, hp⟩ : ∃ p, numD l 2 f.2 = p := ⟨_, rfl⟩
  obtain ⟨cc, hc⟩ : ∃ cc, numD l 2 p.2 = cc := ⟨_, rfl⟩
  have HDE := Lib.hid (decode_head HMZ.out ha hf hp hc)
  have la : a.2.1 ≤ l.length := by rw [← ha]; exact numD_le h5
  have lf : f.2.1 ≤ l.length := by rw [← hf]; exact numD_le la
  have lp : p.2.1 ≤ l.length := by rw [← hp]; exact numD_le lf
  have lc : cc.2.1 ≤ l.length := by rw [← hc]; exact numD_le lp
  have HA := Lib.hid ha
  have HF := Lib.hid hf
  have HP := Lib.hid hp
  have HC := Lib.hid hc
  clear ha hf hp hc HMZ
  obtain ⟨a, s1⟩ := a
  obtain ⟨f, s2⟩ := f
  obtain ⟨p, s3⟩ := p
  obtain ⟨cc, s4⟩ := cc
  simp only at la lf lp lc HA HF HP HC HDE
  go_upto_region 9 with (fail)
  obtain ⟨W1, hW1⟩ : ∃ W1, wr.alloc (.cells #[.slice A l.length c, .int .i64 5, .int .i64 0] 97) = W1 := ⟨_, rfl⟩
  obtain ⟨R, hR⟩ : ∃ R, wr.heap.size = R := ⟨_, rfl⟩
  rw [hW1] at HR0 HW0 HB0 ⊢
  rw [hR] at HR0 hRW ⊢
  clear hW1 hR
  have hRW2 : w.heap.size ≤ R := by omega
  go_upto_region 10 with (go_at_call 48; refine (HNUM.out R hRW2 2 (by omega) (by omega) (5, 0) h5 _ HA.out W1 HW0.out HR0.out).mono ?_; rintro e w2 ⟨rfl, hr, hf⟩; have HR1 := Lib.hid hr; have HW1 := Lib.hid (HW0.out.trans (hf.below HW0.out.size (fun k hk => by omega))); have HB1 := Lib.hid (HB0.out.fr hf (by omega)); clear hr hf)
  clear HR0 HW0 HB0
  go_upto_region 11 with (go_at_call 48; refine (HNUM.out R hRW2 2 (by omega) (by omega) s1 la _ HF.out _ HW1.out HR1.out).mono ?_; rintro e w3 ⟨rfl, hr, hf⟩; have HR2 := Lib.hid hr; have HW2 := Lib.hid (HW1.out.trans (hf.below HW1.out.size (fun k hk => by omega))); have HB2 := Lib.hid (HB1.out.fr hf (by omega)); clear hr hf)
  clear HR1 HW1 HB1
  go_upto_region 12 with (go_at_call 48; refine (HNUM.out R hRW2 2 (by omega) (by omega) s2 lf _ HP.out _ HW2.out HR2.out).mono ?_; rintro e w4 ⟨rfl, hr, hf⟩; have HR3 := Lib.hid hr; have HW3 := Lib.hid (HW2.out.trans (hf.below HW2.out.size (fun k hk => by omega))); have HB3 := Lib.hid (HB2.out.fr hf (by omega)); clear hr hf)
  clear HR2 HW2 HB2
  go_upto_region 13 with (go_at_call 48; refine (HNUM.out R hRW2 2 (by omega) (by omega) s3 lp _ HC.out _ HW3.out HR3.out).mono ?_; rintro e w5 ⟨rfl, hr, hf⟩; have HR4 := Lib.hid hr; have HW4 := Lib.hid (HW3.out.trans (hf.below HW3.out.size (fun k hk => by omega))); have HB4 := Lib.hid (HB3.out.fr hf (by omega)); clear hr hf)
  clear HR3 HW3 HB3 HA HF HP HC
  obtain ⟨at4, bad4⟩ := s4
  simp only at HR4 HDE
  have c2 : w5.cell? ⟨R, 2, none⟩ = some (.int .i64 bad4) := Box.cell HR4.out 2
  have b0 : w5.cell? ⟨w.heap.size, 0, none⟩ = some (.slice none 0 0) := HB4.out.cell 0
  have f0 : w5.frozen? ⟨w.heap.size, 0, none⟩ = false := HB4.out.frozen 0
  have b1 : w5.cell? ⟨w.heap.size, 1, none⟩ = some (.slice none 0 0) := HB4.out.cell 1
  have f1 : w5.frozen? ⟨w.heap.size, 1, none⟩ = false := HB4.out.frozen 1
  have b2 : w5.cell? ⟨w.heap.size, 2, none⟩ = some (.slice none 0 0) := HB4.out.cell 2
  have f2 : w5.frozen? ⟨w.heap.size, 2, none⟩ = false := HB4.out.frozen 2
  have b3 : w5.cell? ⟨w.heap.size, 3, none⟩ = some (.slice none 0 0) := HB4.out.cell 3
  have f3 : w5.frozen? ⟨w.heap.size, 3, none⟩ = false := HB4.out.frozen 3
  by_cases hbad : bad4 = 0
  case neg =>
    have hne : (bad4 != 0) = true := by simpa using hbad
    have hne2 : (bad4 == 0) = false := by simpa using hbad
    have HX : Hid (decodeOf l = (emptyOb, bad4)) := Lib.hid (by rw [HDE.out, if_pos hbad])
    clear hbad
    go_upto_region 14 with (fail)
    go_region_law (fail)
    all_goals
      go_wp2
      refine ret_store4 (x := .int .i64 bad4) (HB4.out.drewN 1) (by intro W c0 c1 c2 c3; simp [results, Tryd.results19, go_sem, c0, c1, c2, c3]) ?_
      intro W hW hF
      exact decoded_bad HX.out (HW4.out.trans ((fr_drewN0 hF).below HW4.out.size (fun k hk => by omega)))
  case pos =>
  subst hbad
  have HDE2 : Hid (decodeOf l = if bigB a f p cc then (emptyOb, 2) else bodyD l a f p cc (at4, 0)) := Lib.hid (by rw [HDE.out, if_neg (by simp)])
  have HBG := Lib.hid (fun W => big_any a f p cc W)
  clear HDE
  cases hbig : bigB a f p cc
  case true =>
    have HX : Hid (decodeOf l = (emptyOb, 2)) := Lib.hid (by rw [HDE2.out, hbig]; rfl)
    rw [hbig] at HBG
    clear hbig
    go_wp2_with (go_at_call 39; refine (HBG.out _).mono ?_; rintro e w6 ⟨rfl, rfl⟩)
    refine ret_store4 (x := .int .i64 2) HB4.out (by intro W c0 c1 c2 c3; simp [results, Tryd.results19, go_sem, c0, c1, c2, c3]) ?_
    intro W hW hF
    exact decoded_bad HX.out (HW4.out.trans (hF.below HW4.out.size (fun k hk => by omega)))
  case false =>
  have HDE3 : Hid (decodeOf l = bodyD l a f p cc (at4, 0)) := Lib.hid (by rw [HDE2.out, hbig]; rfl)
  rw [hbig] at HBG
  have hbd : a ≤ 256 ∧ f ≤ 256 ∧ p ≤ 64 ∧ cc ≤ 1024 := by
    have := of_decide_eq_false (show decide (256 < a ∨ 256 < f ∨ 64 < p ∨ 1024 < cc) = false from hbig)
    omega
  obtain ⟨ba, bf, bp, bc⟩ := hbd
  clear hbig HDE2 b0 f0 b1 f1 b2 f2 b3 f3
  have T0 : Hid (Dx w (w5.alloc (.cells #[.slice none 0 0, .slice none 0 0, .slice none 0 0, .slice none 0 0] 27)) R w.heap.size w5.heap.size #[.slice A l.length c, .int .i64 (at4 : Nat), .int .i64 0] (.slice none 0 0) (.slice none 0 0) (.slice none 0 0) (.slice none 0 0) [] [] [] []) :=
    Lib.hid ⟨Box.alloc HR4.out _, HB4.out.alloc _, Box.new w5 _ _, ⟨rfl, .inl ⟨rfl, rfl⟩⟩, ⟨rfl, .inl ⟨rfl, rfl⟩⟩, ⟨rfl, .inl ⟨rfl, rfl⟩⟩, ⟨rfl, .inl ⟨rfl, rfl⟩⟩, HW4.out.alloc HW4.out.size _, hRW2, Nat.le_refl _, HW4.out.size, Nat.ne_of_lt (Box.lt HR4.out), Nat.ne_of_lt HB4.out.lt, by omega⟩
  go_upto_region 18 with (go_at_call 39; refine (HBG.out _).mono ?_; rintro e w6 ⟨rfl, rfl⟩)
  obtain ⟨W6, hW6⟩ : ∃ W6, w5.alloc (.cells #[.slice none 0 0, .slice none 0 0, .slice none 0 0, .slice none 0 0] 27) = W6 := ⟨_, rfl⟩
  obtain ⟨O, hO⟩ : ∃ O, w5.heap.size = O := ⟨_, rfl⟩
  rw [hW6] at T0 ⊢
  rw [hO] at T0 ⊢
  clear hW6 hO HR4 HW4 HB4 HBG c2
  go_wp2
  go_loopw [11] (fun i wr => ∃ (k : Nat) (s : Ds) (va : Value) (la : List ByteArray), k ≤ a ∧ s.1 ≤ l.length ∧ i = .int .i64 k ∧ Hid (PartD (nameD l) a (a - k) (at4, 0) s la) ∧ Hid (Dx w wr R w.heap.size O #[.slice A l.length c, .int .i64 (s.1 : Nat), .int .i64 s.2] va (.slice none 0 0) (.slice none 0 0) (.slice none 0 0) la [] [] [])) (fun i _ => a - (intOf i).toNat)
  case atStart => exact ⟨0, (at4, 0), _, [], by omega, lc, rfl, Lib.hid (PartD.start _ _ _), T0⟩
  obtain ⟨k, s, va, la0, hk, hs, rfl, HP, HT⟩ := hrel
  clear T0
  by_cases hlt : k < a
  case pos =>
    have HNM := Lib.hid (HNAM.out R hRW2 s hs _ rfl (wr.drewN 1) (HT.out.drewN 1).below (HT.out.drewN 1).b1)
    have HP2 : Hid (PartD (nameD l) a (a - (k + 1)) (at4, 0) (nameD l s).2 (la0 ++ [(nameD l s).1])) := Lib.hid (by
      have h := HP.out
      rw [show a - k = (a - (k + 1)) + 1 by omega] at h
      exact h.step)
    have HLE := Lib.hid (nameD_le (l := l) (s := s) hs)
    have HLN : Hid (la0.length ≤ 1000) := Lib.hid (by have := HP.out.1; omega)
    generalize (nameD l s) = x at HNM HP2 HLE
    obtain ⟨sn, s2⟩ := x
    simp only at HNM HP2 HLE
    have c0 := HT.out.b3.cell 0
    go_upto_region 21 with fail
    go_region_law
      (first
        | (go_simp; go_at_call 49; refine HNM.out.mono ?_; rintro e w5 ⟨rfl, hr5, hf5⟩; have HT5 := Lib.hid ((HT.out.drewN 1).read hr5 hf5); have e0 := HT5.out.b3.cell 0; have e1 := fun o => (HT5.out.b3.alloc o).cell 0; obtain ⟨v6, w6, hr6, HA6⟩ := app_one slStr HT5.out.ra [.string sn] rfl (by intro u hu; simp only [List.mem_cons, List.not_mem_nil, or_false] at hu; rcases hu with rfl; rfl) (by have := HLN.out; omega) (by have h1 := HT5.out.below.size; exact h1) 22; obtain ⟨A6, c6, hv6⟩ := HA6.out.form; subst hv6; obtain ⟨hT6, z0, z1⟩ := HT5.out.puta HA6.out; have HT6 := Lib.hid hT6; have HR6 := Lib.hid hr6; clear hr5 hf5 hr6 hT6)
        | (refine step_of_append HR6.out rfl _ _ rfl rfl rfl ?_))
    all_goals
      go_wp2_with fail
      go_roundw
      case rel => exact ⟨k + 1, s2, _, _, by omega, HLE.out, by go_num, HP2, HT6⟩
      case measure => simp [intOf]; omega
  obtain rfl : k = a := by omega
  have HD1 : Hid (manyD (nameD l) k (at4, 0) = (la0, s)) := Lib.hid (by have h := HP.out; rw [Nat.sub_self] at h; exact h.done)
  have T1 := HT
  obtain ⟨sA, hsA⟩ : ∃ sA, s = sA := ⟨_, rfl⟩
  rw [hsA] at HD1 T1 hs
  clear HT HP hlt hsA
  go_wp2
  go_loopw [12, 13] (fun i sv wr => ∃ (k : Nat) (s : Ds) (vf : Value) (lf0 : List (ByteArray × Int)), k ≤ f ∧ s.1 ≤ l.length ∧ i = .int .i64 k ∧ Hid (PartD (funD l) f (f - k) sA s lf0) ∧ Hid (Dx w wr R w.heap.size O #[.slice A l.length c, .int .i64 (s.1 : Nat), .int .i64 s.2] va vf (.slice none 0 0) (.slice none 0 0) la0 lf0 [] [])) (fun i _ _ => f - (intOf i).toNat)
  case atStart => exact ⟨0, sA, _, [], by omega, hs, rfl, Lib.hid (PartD.start _ _ _), T1⟩
  obtain ⟨k2, s, vf, lf0, hk2, hs, rfl, HP, HT⟩ := hrel
  clear T1
  by_cases hlt : k2 < f
  case pos =>
    have HNM := Lib.hid (HNAM.out R hRW2 s hs _ rfl wr HT.out.below HT.out.b1)
    have HLE := Lib.hid (nameD_le (l := l) (s := s) hs)
    have HP2 : Hid (PartD (funD l) f (f - (k2 + 1)) sA (numD l 1 (nameD l s).2).2 (lf0 ++ [((nameD l s).1, ((numD l 1 (nameD l s).2).1 : Int))])) := Lib.hid (by
      have h := HP.out
      rw [show f - k2 = (f - (k2 + 1)) + 1 by omega] at h
      exact h.step)
    have HLN : Hid (lf0.length ≤ 1000) := Lib.hid (by have := HP.out.1; omega)
    generalize (nameD l s) = x at HNM HP2 HLE
    obtain ⟨sn, s2⟩ := x
    simp only at HNM HP2 HLE
    have HNU := Lib.hid (fun W hb hr => HNUM.out R hRW2 1 (by omega) (by omega) s2 HLE.out _ rfl W hb hr)
    have HLE2 := Lib.hid (numD_le (l := l) (k := 1) (s := s2) HLE.out)
    generalize (numD l 1 s2) = y at HNU HP2 HLE2
    obtain ⟨n2, s3⟩ := y
    simp only at HNU HP2 HLE2
    go_upto_region 26 with (go_at_call 49; refine HNM.out.mono ?_; rintro e w5 ⟨rfl, hr5, hf5⟩; have HT5 := Lib.hid (HT.out.read hr5 hf5); clear hr5 hf5)
    have c0 := HT5.out.b3.cell 1
    go_region_law
      (first
        | (go_simp; go_at_call 48; refine (HNU.out _ (HT5.out.drewN 1).below (HT5.out.drewN 1).b1).mono ?_; rintro e w7 ⟨rfl, hr7, hf7⟩; have HT7 := Lib.hid ((HT5.out.drewN 1).read hr7 hf7); have e0 := HT7.out.b3.cell 1; have e1 := fun o => (HT7.out.b3.alloc o).cell 1; obtain ⟨v6, w6, hr6, HA6⟩ := app_one slRFun HT7.out.rf [.string sn, .int .i64 (n2 : Int)] rfl (by intro u hu; simp only [List.mem_cons, List.not_mem_nil, or_false] at hu; rcases hu with rfl | rfl <;> rfl) (by have := HLN.out; omega) (by have h1 := HT7.out.below.size; exact h1) 23; obtain ⟨A6, c6, hv6⟩ := HA6.out.form; subst hv6; obtain ⟨hT6, z0, z1⟩ := HT7.out.putf HA6.out; have HT6 := Lib.hid hT6; have HR6 := Lib.hid hr6; clear hr7 hf7 hr6 hT6)
        | (refine step_of_append HR6.out rfl _ _ rfl rfl rfl ?_))
    all_goals
      go_wp2_with fail
      go_roundw
      case rel => exact ⟨k2 + 1, s3, _, _, by omega, HLE2.out, by go_num, HP2, HT6⟩
      case measure => simp [intOf]; omega
  obtain rfl : k2 = f := by omega
  have HD2 : Hid (manyD (funD l) k2 sA = (lf0, s)) := Lib.hid (by have h := HP.out; rw [Nat.sub_self] at h; exact h.done)
  have T2 := HT
  obtain ⟨sF, hsF⟩ : ∃ sF, s = sF := ⟨_, rfl⟩
  rw [hsF] at HD2 T2 hs
  clear HT HP hlt hsF
  go_wp2
  go_loopw [14, 15, 16] (fun i sv av wr => ∃ (k : Nat) (s : Ds) (vp : Value) (lp0 : List (ByteArray × Int × Int)), k ≤ p ∧ s.1 ≤ l.length ∧ i = .int .i64 k ∧ Hid (PartD (predD l) p (p - k) sF s lp0) ∧ Hid (Dx w wr R w.heap.size O #[.slice A l.length c, .int .i64 (s.1 : Nat), .int .i64 s.2] va vf vp (.slice none 0 0) la0 lf0 lp0 [])) (fun i _ _ _ => p - (intOf i).toNat)
  case atStart => exact ⟨0, sF, _, [], by omega, hs, rfl, Lib.hid (PartD.start _ _ _), T2⟩
  obtain ⟨k3, s, vp, lp0, hk3, hs, rfl, HP, HT⟩ := hrel
  clear T2
  by_cases hlt : k3 < p
  case pos =>
    have HNM := Lib.hid (HNAM.out R hRW2 s hs _ rfl wr HT.out.below HT.out.b1)
    have HLE := Lib.hid (nameD_le (l := l) (s := s) hs)
    have HP2 : Hid (PartD (predD l) p (p - (k3 + 1)) sF (numD l 2 (numD l 1 (nameD l s).2).2).2 (lp0 ++ [((nameD l s).1, ((numD l 1 (nameD l s).2).1 : Int), ((numD l 2 (numD l 1 (nameD l s).2).2).1 : Int))])) := Lib.hid (by
      have h := HP.out
      rw [show p - k3 = (p - (k3 + 1)) + 1 by omega] at h
      exact h.step)
    have HLN : Hid (lp0.length ≤ 1000) := Lib.hid (by have := HP.out.1; omega)
    generalize (nameD l s) = x at HNM HP2 HLE
    obtain ⟨sn, s2⟩ := x
    simp only at HNM HP2 HLE
    have HNU := Lib.hid (fun W hb hr => HNUM.out R hRW2 1 (by omega) (by omega) s2 HLE.out _ rfl W hb hr)
    have HLE2 := Lib.hid (numD_le (l := l) (k := 1) (s := s2) HLE.out)
    generalize (numD l 1 s2) = y at HNU HP2 HLE2
    obtain ⟨n2, s3⟩ := y
    simp only at HNU HP2 HLE2
    have HNV := Lib.hid (fun W hb hr => HNUM.out R hRW2 2 (by omega) (by omega) s3 HLE2.out _ rfl W hb hr)
    have HLE3 := Lib.hid (numD_le (l := l) (k := 2) (s := s3) HLE2.out)
    generalize (numD l 2 s3) = z at HNV HP2 HLE3
    obtain ⟨n3, s4⟩ := z
    simp only at HNV HP2 HLE3
    go_upto_region 31 with (go_at_call 49; refine HNM.out.mono ?_; rintro e w5 ⟨rfl, hr5, hf5⟩; have HT5 := Lib.hid (HT.out.read hr5 hf5); clear hr5 hf5)
    go_upto_region 32 with (go_at_call 48; refine (HNU.out _ HT5.out.below HT5.out.b1).mono ?_; rintro e w6 ⟨rfl, hr5, hf5⟩; have HT6 := Lib.hid (HT5.out.read hr5 hf5); clear hr5 hf5)
    have c0 := HT6.out.b3.cell 2
    go_region_law
      (first
        | (go_simp; go_at_call 48; refine (HNV.out _ (HT6.out.drewN 1).below (HT6.out.drewN 1).b1).mono ?_; rintro e w7 ⟨rfl, hr7, hf7⟩; have HT7 := Lib.hid ((HT6.out.drewN 1).read hr7 hf7); have e0 := HT7.out.b3.cell 2; have e1 := fun o => (HT7.out.b3.alloc o).cell 2; obtain ⟨v8, w8, hr8, HA8⟩ := app_one slRPred HT7.out.rp [.string sn, .int .i64 (n2 : Int), .int .i64 (n3 : Int)] rfl (by intro u hu; simp only [List.mem_cons, List.not_mem_nil, or_false] at hu; rcases hu with rfl | rfl | rfl <;> rfl) (by have := HLN.out; omega) (by have h1 := HT7.out.below.size; exact h1) 24; obtain ⟨A8, c8, hv8⟩ := HA8.out.form; subst hv8; obtain ⟨hT8, z0, z1⟩ := HT7.out.putp HA8.out; have HT8 := Lib.hid hT8; have HR8 := Lib.hid hr8; clear hr7 hf7 hr8 hT8)
        | (refine step_of_append HR8.out rfl _ _ rfl rfl rfl ?_))
    all_goals
      go_wp2_with fail
      go_roundw
      case rel => exact ⟨k3 + 1, s4, _, _, by omega, HLE3.out, by go_num, HP2, HT8⟩
      case measure => simp [intOf]; omega
  obtain rfl : k3 = p := by omega
  have HD3 : Hid (manyD (predD l) k3 sF = (lp0, s)) := Lib.hid (by have h := HP.out; rw [Nat.sub_self] at h; exact h.done)
  have T3 := HT
  obtain ⟨sP, hsP⟩ : ∃ sP, s = sP := ⟨_, rfl⟩
  rw [hsP] at HD3 T3 hs
  clear HT HP hlt hsP
  go_wp2
  go_loopw [17, 18, 19, 20, 21] (fun i x ls q z wr => ∃ (k : Nat) (s : Ds) (vc : Value) (lc0 : List Ins), k ≤ cc ∧ s.1 ≤ l.length ∧ i = .int .i64 k ∧ Hid (PartCD l cc (cc - k) sP s lc0) ∧ Hid (Dx w wr R w.heap.size O #[.slice A l.length c, .int .i64 (s.1 : Nat), .int .i64 s.2] va vf vp vc la0 lf0 lp0 lc0)) (fun i _ _ _ _ _ => cc - (intOf i).toNat)
  case atStart => exact ⟨0, sP, _, [], by omega, hs, rfl, Lib.hid (PartCD.start _ _ _), T3⟩
  obtain ⟨k4, s, vc, lc0, hk4, hs, rfl, HP, HT⟩ := hrel
  clear T3
  obtain ⟨at5, bad⟩ := s
  have c2 : wr.cell? ⟨R, 2, none⟩ = some (.int .i64 bad) := Box.cell HT.out.b1 2
  obtain ⟨b, hb⟩ : ∃ b, decide (k4 < cc ∧ bad = 0) = b := ⟨_, rfl⟩
  have HB := Lib.hid hb
  clear hb
  go_upto_region 34 with (fail)
  go_cut [127] (fun s wc => s = .bool b ∧ wc = wr)
  case first =>
    by_cases h1 : (k4 : Int) < (cc : Int)
    · by_cases h2 : bad = 0
      · have e : Hid (b = true) := Lib.hid (by rw [← HB.out]; simp; omega)
        subst h2
        go_wp2
        go_meet
        exact ⟨by rw [e.out], rfl⟩
      · have e : Hid (b = false) := Lib.hid (by rw [← HB.out]; simp [h2])
        have hne : (bad == 0) = false := by simpa using h2
        go_wp2
        go_meet
        exact ⟨by rw [e.out], rfl⟩
    · have e : Hid (b = false) := Lib.hid (by rw [← HB.out]; simp; omega)
      go_wp2
      go_meet
      exact ⟨by rw [e.out], rfl⟩
  case rest =>
  obtain ⟨rfl, rfl⟩ := hcut
  cases b
  case true =>
    have hlt := of_decide_eq_true HB.out
    obtain ⟨hlt, rfl⟩ := hlt
    have HP2 : Hid (PartCD l cc (cc - (k4 + 1)) sP (insD l (at5, 0)).2 (lc0 ++ [(insD l (at5, 0)).1])) := Lib.hid (by
      have h := HP.out
      rw [show cc - k4 = (cc - (k4 + 1)) + 1 by omega] at h
      exact h.step rfl)
    have HLN : Hid (lc0.length ≤ 1000000) := Lib.hid (by have := HP.out.1; omega)
    obtain ⟨o, ho⟩ : ∃ o, numD l 1 (at5, 0) = o := ⟨_, rfl⟩
    have HOPN := Lib.hid ho
    have hle : o.2.1 ≤ l.length := by rw [← ho]; exact numD_le hs
    have HN1 := Lib.hid (fun W hb hr => HNUM.out R hRW2 1 (by omega) (by omega) (at5, 0) hs _ ho W hb hr)
    have hle8 := opD_le hle
    have HINS := Lib.hid (fun (m : List Int) (t : Ds) (h : argsD l (opsOf o.1) (opD o) = (m, t)) => insD_of ho h)
    have HOPS := Lib.hid (fun w => roperands_any (o.1 : Int) w)
    have hfew := ops_few (o.1 : Int)
    clear ho HP HB c2
    obtain ⟨op, at6, bad6⟩ := o
    simp only at hle HN1 HOPN HINS HOPS hle8 hfew
    go_upto_region 37 with (go_at_call 48; refine (HN1.out _ HT.out.below HT.out.b1).mono ?_; rintro e w6 ⟨rfl, hr6, hf6⟩; have HT6 := Lib.hid (HT.out.read hr6 hf6); clear hr6 hf6)
    have HX7 : Hid (Box (w6.alloc (.cells #[.int .i64 (op : Nat), .int .i64 0, .int .i64 0, .int .i64 0, .int .i64 0] 71)) w6.heap.size 71 (insCells (op : Nat) [])) := Lib.hid (Box.new w6 _ _)
    have HT7 := Lib.hid (HT6.out.up (alloc_below w6 (.cells #[.int .i64 (op : Nat), .int .i64 0, .int .i64 0, .int .i64 0, .int .i64 0] 71)))
    have HG := Lib.hid (⟨HT6.out.below.size, Nat.ne_of_gt HT6.out.b1.lt, Nat.ne_of_gt HT6.out.b2.lt, Nat.ne_of_gt HT6.out.b3.lt, fun k hk => Nat.ne_of_lt (own_ge HT6.out.rc hk).2⟩ : w.heap.size ≤ w6.heap.size ∧ w6.heap.size ≠ R ∧ w6.heap.size ≠ w.heap.size ∧ w6.heap.size ≠ O ∧ ∀ k, vc.ownBlock = some k → k ≠ w6.heap.size)
    obtain ⟨W7, hW7⟩ : ∃ W7, w6.alloc (.cells #[.int .i64 (op : Nat), .int .i64 0, .int .i64 0, .int .i64 0, .int .i64 0] 71) = W7 := ⟨_, rfl⟩
    obtain ⟨gx, hgx⟩ : ∃ gx, w6.heap.size = gx := ⟨_, rfl⟩
    rw [hW7] at HX7 HT7 ⊢
    rw [hgx] at HX7 HG ⊢
    clear hW7 hgx HT6 HT HN1
    obtain ⟨wh, hwh⟩ : ∃ wh, wh = wc := ⟨_, rfl⟩
    subst hwh
    have c2 : W7.cell? ⟨R, 2, none⟩ = some (.int .i64 bad6) := Box.cell HT7.out.b1 2
    have d0 : W7.cell? ⟨gx, 0, none⟩ = some (.int .i64 (op : Nat)) := HX7.out.cell 0
    obtain ⟨b7, hb7⟩ : ∃ b, decide (bad6 = 0 ∧ 26 < op) = b := ⟨_, rfl⟩
    have HB7 := Lib.hid hb7
    clear hb7
    go_cut [142] (fun s wc => s = .bool b7 ∧ wc = W7)
    case first =>
      by_cases h1 : bad6 = 0
      · by_cases h2 : 26 < op
        · have e : Hid (b7 = true) := Lib.hid (by rw [← HB7.out]; simp; omega)
          have h3 : 26 < (op : Int) := by omega
          subst h1
          go_wp2
          go_meet
          exact ⟨by rw [e.out], rfl⟩
        · have e : Hid (b7 = false) := Lib.hid (by rw [← HB7.out]; simp; omega)
          have h3 : ¬ 26 < (op : Int) := by omega
          subst h1
          go_wp2
          go_meet
          exact ⟨by rw [e.out], rfl⟩
      · have e : Hid (b7 = false) := Lib.hid (by rw [← HB7.out]; simp [h1])
        have hne : (bad6 == 0) = false := by simpa using h1
        go_wp2
        go_meet
        exact ⟨by rw [e.out], rfl⟩
    case rest =>
    obtain ⟨rfl, rfl⟩ := hcut
    obtain ⟨s8, hs8⟩ : ∃ s8, opD (op, at6, bad6) = s8 := ⟨_, rfl⟩
    have HS8 := Lib.hid hs8
    rw [hs8] at HINS hle8
    clear hs8
    go_upto_if 142 with (fail)
    obtain ⟨wg, hwg⟩ : ∃ wg, wg = wc := ⟨_, rfl⟩
    subst hwg
    go_cut [] (fun wn => Hid (Dx w wn R w.heap.size O #[.slice A l.length c, .int .i64 (s8.1 : Nat), .int .i64 s8.2] va vf vp vc la0 lf0 lp0 lc0) ∧ Hid (Box wn gx 71 (insCells (op : Nat) [])))
    case first =>
      have c2f : wg.frozen? ⟨R, 2, none⟩ = false := Box.frozen HT7.out.b1 2
      cases b7
      · have h := of_decide_eq_false HB7.out
        have e := opD_no (s := (at6, bad6)) h
        have HT8 : Hid (Dx w wg R w.heap.size O #[.slice A l.length c, .int .i64 (s8.1 : Nat), .int .i64 s8.2] va vf vp vc la0 lf0 lp0 lc0) := Lib.hid (by rw [← HS8.out, e]; exact HT7.out)
        clear h e
        go_wp2
        go_meet
        exact ⟨HT8, HX7⟩
      · have h := of_decide_eq_true HB7.out
        have e := opD_yes (s := (at6, bad6)) h
        have HT8 : Hid (Dx w (wg.setCell ⟨R, 2, none⟩ (.int .i64 8)) R w.heap.size O #[.slice A l.length c, .int .i64 (s8.1 : Nat), .int .i64 s8.2] va vf vp vc la0 lf0 lp0 lc0) := Lib.hid (by rw [← HS8.out, e]; exact HT7.out.setr (i := 2) (u := .int .i64 8))
        have HX8 := Lib.hid (HX7.out.far (p := ⟨R, 2, none⟩) HG.out.2.1 (.int .i64 8))
        clear h e
        go_wp2
        go_meet
        exact ⟨HT8, HX8⟩
    case rest =>
    obtain ⟨HT8, HX8⟩ := hcut
    clear HT7 HX7 HB7 HS8 c2 d0
    have d1 : wc.cell? ⟨gx, 0, none⟩ = some (.int .i64 (op : Nat)) := HX8.out.cell 0
    generalize opsOf (op : Int) = L at HINS HOPS hfew
    obtain ⟨gl, hgl⟩ : ∃ gl, wc.heap.size = gl := ⟨_, rfl⟩
    have HGL : Hid (gl ≠ gx ∧ gl ≠ R) := Lib.hid (by rw [← hgl]; exact ⟨Nat.ne_of_gt HX8.out.lt, Nat.ne_of_gt HT8.out.b1.lt⟩)
    have HGLE := Lib.hid hgl
    clear hgl
    go_upto_region 40 with (go_at_call 29; refine (HOPS.out _).mono ?_; rintro e w9 hN; obtain ⟨pl, rfl, hb9, hl9⟩ := newInts_any hN; rw [HGLE.out] at hl9; have HT9 := Lib.hid (HT8.out.up hb9); have HX9 := Lib.hid (HX8.out.below hb9 HX8.out.lt); have HL9 := Lib.hid hl9; clear hN hb9 hl9)
    clear HT8 HX8 HOPS d1 HGLE
    go_wp2
    go_loopw [20, 21] (fun j z wr2 => ∃ (m : Nat) (s : Ds) (ms : List Int), m ≤ L.length ∧ s.1 ≤ l.length ∧ j = .int .i64 m ∧ Hid (PartAD l L m s8 s ms) ∧ Hid (Dx w wr2 R w.heap.size O #[.slice A l.length c, .int .i64 (s.1 : Nat), .int .i64 s.2] va vf vp vc la0 lf0 lp0 lc0) ∧ Hid (Box wr2 gx 71 (insCells (op : Nat) ms)) ∧ Hid (0 < L.length → pl = some ⟨gl, 0, none⟩ ∧ Box wr2 gl 3 (L.map (Value.int .i64)).toArray)) (fun j _ _ => L.length - (intOf j).toNat)
    case atStart => exact ⟨0, s8, [], by omega, hle8, rfl, Lib.hid (PartAD.start _ _ _), HT9, HX9, HL9⟩
    obtain ⟨m, s, ms, hmL, hs2, rfl, HPA, HT, HXM, HLM⟩ := hrel
    clear HT9 HX9 HL9
    by_cases hlm : m < L.length
    case pos =>
      obtain ⟨rfl, hbl⟩ := HLM.out (by omega)
      have HBL := Lib.hid hbl
      have hkd : wr.cell? ⟨gl, m, none⟩ = some (.int .i64 (L.getD m 0)) := by rw [hbl.cell m]; simp [hlm]
      have hm4 : (m : Int) < 4 := by omega
      have hm0 : (0 : Int) ≤ (m : Int) := by omega
      have HPA2 := Lib.hid (HPA.out.step hlm)
      have HXA := Lib.hid (insCells_at (op : Nat) ms (by have := HPA.out.1; omega))
      have HXS := Lib.hid (insCells_step (op : Nat) ms (by have := HPA.out.1; omega))
      rw [HPA.out.1] at HXA HXS
      clear hbl HLM
      by_cases h8 : L.getD m 0 = 8
      case pos =>
        rw [sizeK_yes h8] at HPA2
        have HLE2 := Lib.hid (numD_le (l := l) (k := 2) (s := s) hs2)
        have HN2 := Lib.hid (fun W hb hr => HNUM.out R hRW2 2 (by omega) (by omega) s hs2 _ rfl W hb hr)
        rw [h8] at hkd
        generalize numD l 2 s = y at HPA2 HN2 HLE2
        obtain ⟨n, t⟩ := y
        simp only at HPA2 HN2 HLE2
        clear h8
        go_wp2_with (go_at_call 48; refine (HN2.out _ HT.out.below HT.out.b1).mono ?_; rintro e w11 ⟨rfl, hr11, hf11⟩; have HT11 := Lib.hid (HT.out.read hr11 hf11); have HX11 := Lib.hid (HXM.out.fr hf11 HG.out.2.1); have x1 := (HX11.out.cell (1 + m)).trans HXA.out; have x2 := HX11.out.frozen (1 + m); have HT12 := Lib.hid (HT11.out.far HX11.out HG.out.2.2.2.2 HG.out.1 HG.out.2.1 HG.out.2.2.1 HG.out.2.2.2.1 (1 + m) (.int .i64 (n : Nat))); have hx12 := HX11.out.set_ (1 + m) (.int .i64 (n : Nat)); rw [HXS.out] at hx12; have HX12 := Lib.hid hx12; have HL12 : Hid (0 < L.length → some (⟨gl, 0, none⟩ : Addr) = some ⟨gl, 0, none⟩ ∧ Box (w11.setCell ⟨gx, 1 + m, none⟩ (.int .i64 (n : Nat))) gl 3 (L.map (Value.int .i64)).toArray) := Lib.hid (fun _ => ⟨rfl, (HBL.out.fr hf11 HGL.out.2).far (p := ⟨gx, 1 + m, none⟩) HGL.out.1 _⟩); clear hr11 hf11 hx12)
        go_roundw
        case rel => exact ⟨m + 1, t, _, by omega, HLE2.out, by go_num, HPA2, HT12, HX12, HL12⟩
        case measure => simp [intOf]; omega
      case neg =>
        rw [sizeK_no h8] at HPA2
        have HLE2 := Lib.hid (numD_le (l := l) (k := 1) (s := s) hs2)
        have HN2 := Lib.hid (fun W hb hr => HNUM.out R hRW2 1 (by omega) (by omega) s hs2 _ rfl W hb hr)
        have hne8 : (L.getD m 0 == 8) = false := by simpa using h8
        generalize L.getD m 0 = kd at hkd hne8
        generalize numD l 1 s = y at HPA2 HN2 HLE2
        obtain ⟨n, t⟩ := y
        simp only at HPA2 HN2 HLE2
        clear h8
        go_wp2_with (go_at_call 48; refine (HN2.out _ HT.out.below HT.out.b1).mono ?_; rintro e w11 ⟨rfl, hr11, hf11⟩; have HT11 := Lib.hid (HT.out.read hr11 hf11); have HX11 := Lib.hid (HXM.out.fr hf11 HG.out.2.1); have x1 := (HX11.out.cell (1 + m)).trans HXA.out; have x2 := HX11.out.frozen (1 + m); have HT12 := Lib.hid (HT11.out.far HX11.out HG.out.2.2.2.2 HG.out.1 HG.out.2.1 HG.out.2.2.1 HG.out.2.2.2.1 (1 + m) (.int .i64 (n : Nat))); have hx12 := HX11.out.set_ (1 + m) (.int .i64 (n : Nat)); rw [HXS.out] at hx12; have HX12 := Lib.hid hx12; have HL12 : Hid (0 < L.length → some (⟨gl, 0, none⟩ : Addr) = some ⟨gl, 0, none⟩ ∧ Box (w11.setCell ⟨gx, 1 + m, none⟩ (.int .i64 (n : Nat))) gl 3 (L.map (Value.int .i64)).toArray) := Lib.hid (fun _ => ⟨rfl, (HBL.out.fr hf11 HGL.out.2).far (p := ⟨gx, 1 + m, none⟩) HGL.out.1 _⟩); clear hr11 hf11 hx12)
        go_roundw
        case rel => exact ⟨m + 1, t, _, by omega, HLE2.out, by go_num, HPA2, HT12, HX12, HL12⟩
        case measure => simp [intOf]; omega
    case neg =>
      obtain rfl : m = L.length := by omega
      have HP3 : Hid (PartCD l cc (cc - (k4 + 1)) sP s (lc0 ++ [insOf (op : Nat) ms])) := Lib.hid (by have h := HP2.out; rw [HINS.out ms s HPA.out.done] at h; exact h)
      have HXC : Hid (Box wr gx 71 (insC (insOf (op : Nat) ms)).toArray) := HXM
      generalize insOf (op : Nat) ms = i at HP3 HXC
      obtain ⟨i0, i1, i2, i3, i4⟩ := i
      have j0 : wr.cell? ⟨gx, 0, none⟩ = some (.int .i64 i0) := HXC.out.cell 0
      have j1 : wr.cell? ⟨gx, 1, none⟩ = some (.int .i64 i1) := HXC.out.cell 1
      have j2 : wr.cell? ⟨gx, 2, none⟩ = some (.int .i64 i2) := HXC.out.cell 2
      have j3 : wr.cell? ⟨gx, 3, none⟩ = some (.int .i64 i3) := HXC.out.cell 3
      have j4 : wr.cell? ⟨gx, 4, none⟩ = some (.int .i64 i4) := HXC.out.cell 4
      have o3 := HT.out.b3.cell 3
      have o3a := fun oo => (HT.out.b3.alloc oo).cell 3
      obtain ⟨v8, w8, hr8, HA8⟩ := app_one slRIns HT.out.rc [.int .i64 i0, .int .i64 i1, .int .i64 i2, .int .i64 i3, .int .i64 i4] rfl (by intro u hu; simp only [List.mem_cons, List.not_mem_nil, or_false] at hu; rcases hu with rfl | rfl | rfl | rfl | rfl <;> rfl) (by have := HLN.out; omega) HT.out.below.size 25
      obtain ⟨A8, c8, hv8⟩ := HA8.out.form
      subst hv8
      obtain ⟨hT8, z0, z1⟩ := HT.out.putc HA8.out
      have HT8 := Lib.hid hT8
      have HR8 := Lib.hid hr8
      clear hr8 hT8 HINS HPA
      go_wp2_with (at_builtin; refine wpList_of_append HR8.out rfl _ _ rfl rfl rfl ?_)
      go_roundw
      case rel => first | exact ⟨k4 + 1, s, _, _, by omega, hs2, by go_num, HP3, HT8⟩ | ((repeat apply Exists.intro); exact ⟨⟨k4 + 1, s, _, _, by omega, hs2, by go_num, HP3, HT8⟩, rfl⟩)
      case measure => simp [intOf]; omega
  case false =>
    have hge := of_decide_eq_false HB.out
    by_cases hbad : bad = 0
    case neg =>
      have hne : (bad != 0) = true := by simpa using hbad
      have hne2 : (bad == 0) = false := by simpa using hbad
      have HX : Hid (decodeOf l = (emptyOb, bad)) := Lib.hid (by rw [HDE3.out]; unfold bodyD; simp only [HD1.out, HD2.out, HD3.out, HP.out.bad hbad]; rw [if_pos hbad])
      have HB4 := Lib.hid HT.out.b2
      have HW4 := Lib.hid HT.out.below
      have b0 : wc.cell? ⟨w.heap.size, 0, none⟩ = some (.slice none 0 0) := HB4.out.cell 0
      have f0 : wc.frozen? ⟨w.heap.size, 0, none⟩ = false := HB4.out.frozen 0
      have b1 : wc.cell? ⟨w.heap.size, 1, none⟩ = some (.slice none 0 0) := HB4.out.cell 1
      have f1 : wc.frozen? ⟨w.heap.size, 1, none⟩ = false := HB4.out.frozen 1
      have b2 : wc.cell? ⟨w.heap.size, 2, none⟩ = some (.slice none 0 0) := HB4.out.cell 2
      have f2 : wc.frozen? ⟨w.heap.size, 2, none⟩ = false := HB4.out.frozen 2
      have b3 : wc.cell? ⟨w.heap.size, 3, none⟩ = some (.slice none 0 0) := HB4.out.cell 3
      have f3 : wc.frozen? ⟨w.heap.size, 3, none⟩ = false := HB4.out.frozen 3
      clear hbad hge
      go_upto_region 49 with (fail)
      go_region_law (fail)
      all_goals
        go_wp2
        refine ret_store4 (x := .int .i64 bad) (HB4.out.drewN 1) (by intro W c0 c1 c2 c3; simp [results, Tryd.results19, go_sem, c0, c1, c2, c3]) ?_
        intro W hW hF
        exact decoded_bad HX.out (HW4.out.trans ((fr_drewN0 hF).below HW4.out.size (fun k hk => by omega)))
    case pos =>
      subst hbad
      obtain rfl : k4 = cc := by omega
      have HD4 : Hid (codeD l k4 sP = (lc0, (at5, 0))) := Lib.hid (by have h := HP.out; rw [Nat.sub_self] at h; exact h.done)
      have HX : Hid (decodeOf l = endD l (at5, 0) ⟨la0, lf0, lp0, lc0⟩) := Lib.hid (by rw [HDE3.out]; unfold bodyD; simp only [HD1.out, HD2.out, HD3.out, HD4.out]; rw [if_neg (by simp)])
      have HWF := Lib.hid (read_wf hm (by omega) (by omega) (by omega) (by omega) HD1.out HD2.out HD3.out HD4.out)
      have HCK := Lib.hid (rcheck_any _ HWF.out va vf vp vc wc HT.out.at_)
      have HX1 : Hid (decodeOf l = if checkOf ⟨la0, lf0, lp0, lc0⟩ ≠ 0 then (emptyOb, checkOf ⟨la0, lf0, lp0, lc0⟩) else if (numD l 4 (at5, 0)).2.2 ≠ 0 then (emptyOb, (numD l 4 (at5, 0)).2.2) else if (numD l 4 (at5, 0)).2.1 < l.length then (emptyOb, 4) else if (numD l 4 (at5, 0)).1 ≠ crcOf 0 (l.take at5) then (emptyOb, 6) else (⟨la0, lf0, lp0, lc0⟩, 0)) := HX
      generalize checkOf ⟨la0, lf0, lp0, lc0⟩ = ck at HCK HX1
      have q0 := HT.out.b3.cell 0
      have q1 := HT.out.b3.cell 1
      have q2 := HT.out.b3.cell 2
      have q3 := HT.out.b3.cell 3
      clear HX HD4 hge HP
      by_cases hck : ck = 0
      case neg =>
        have hne : (ck != 0) = true := by simpa using hck
        have hne2 : (ck == 0) = false := by simpa using hck
        have HX2 : Hid (decodeOf l = (emptyOb, ck)) := Lib.hid (by rw [HX1.out, if_pos hck])
        clear hck
        go_upto_region 51 with (go_at_call 13; refine HCK.out.mono ?_; rintro e w7 ⟨rfl, hb7⟩; have HT7 := Lib.hid (HT.out.up hb7); clear hb7)
        have HB4 := Lib.hid HT7.out.b2
        have HW4 := Lib.hid HT7.out.below
        have b0 : w7.cell? ⟨w.heap.size, 0, none⟩ = some (.slice none 0 0) := HB4.out.cell 0
        have f0 : w7.frozen? ⟨w.heap.size, 0, none⟩ = false := HB4.out.frozen 0
        have b1 : w7.cell? ⟨w.heap.size, 1, none⟩ = some (.slice none 0 0) := HB4.out.cell 1
        have f1 : w7.frozen? ⟨w.heap.size, 1, none⟩ = false := HB4.out.frozen 1
        have b2 : w7.cell? ⟨w.heap.size, 2, none⟩ = some (.slice none 0 0) := HB4.out.cell 2
        have f2 : w7.frozen? ⟨w.heap.size, 2, none⟩ = false := HB4.out.frozen 2
        have b3 : w7.cell? ⟨w.heap.size, 3, none⟩ = some (.slice none 0 0) := HB4.out.cell 3
        have f3 : w7.frozen? ⟨w.heap.size, 3, none⟩ = false := HB4.out.frozen 3
        go_wp2
        refine ret_store4 (x := .int .i64 ck) HB4.out (by intro W c0 c1 c2 c3; simp [results, Tryd.results19, go_sem, c0, c1, c2, c3]) ?_
        intro W hW hF
        exact decoded_bad HX2.out (HW4.out.trans (hF.below HW4.out.size (fun k hk => by omega)))
      case pos =>
      subst hck
      have HX2 : Hid (decodeOf l = if (numD l 4 (at5, 0)).2.2 ≠ 0 then (emptyOb, (numD l 4 (at5, 0)).2.2) else if (numD l 4 (at5, 0)).2.1 < l.length then (emptyOb, 4) else if (numD l 4 (at5, 0)).1 ≠ crcOf 0 (l.take at5) then (emptyOb, 6) else (⟨la0, lf0, lp0, lc0⟩, 0)) := Lib.hid (by rw [HX1.out, if_neg (by simp)])
      have HN4 := Lib.hid (fun W hb hr => HNUM.out R hRW2 4 (by omega) (by omega) (at5, 0) hs _ rfl W hb hr)
      have hle : (numD l 4 (at5, 0)).2.1 ≤ l.length := numD_le hs
      have hsum := numD4_lt HL.out (at5, 0)
      generalize numD l 4 (at5, 0) = y at HX2 HN4 hle hsum
      obtain ⟨sum, at6, bad6⟩ := y
      simp only at HX2 HN4 hle hsum
      go_upto_region 53 with (go_at_call 13; refine HCK.out.mono ?_; rintro e w7 ⟨rfl, hb7⟩; have HT7 := Lib.hid (HT.out.up hb7); clear hb7)
      have c1 : w7.cell? ⟨R, 1, none⟩ = some (.int .i64 (at5 : Nat)) := Box.cell HT7.out.b1 1
      go_upto_region 55 with (go_at_call 48; refine (HN4.out _ HT7.out.below HT7.out.b1).mono ?_; rintro e w8 ⟨rfl, hr8, hf8⟩; have HT8 := Lib.hid (HT7.out.read hr8 hf8); clear hr8 hf8)
      have r1 : w8.cell? ⟨R, 1, none⟩ = some (.int .i64 (at6 : Nat)) := Box.cell HT8.out.b1 1
      have r2 : w8.cell? ⟨R, 2, none⟩ = some (.int .i64 bad6) := Box.cell HT8.out.b1 2
      have HB4 := Lib.hid HT8.out.b2
      have HW4 := Lib.hid HT8.out.below
      have b0 : w8.cell? ⟨w.heap.size, 0, none⟩ = some (.slice none 0 0) := HB4.out.cell 0
      have f0 : w8.frozen? ⟨w.heap.size, 0, none⟩ = false := HB4.out.frozen 0
      have b1 : w8.cell? ⟨w.heap.size, 1, none⟩ = some (.slice none 0 0) := HB4.out.cell 1
      have f1 : w8.frozen? ⟨w.heap.size, 1, none⟩ = false := HB4.out.frozen 1
      have b2 : w8.cell? ⟨w.heap.size, 2, none⟩ = some (.slice none 0 0) := HB4.out.cell 2
      have f2 : w8.frozen? ⟨w.heap.size, 2, none⟩ = false := HB4.out.frozen 2
      have b3 : w8.cell? ⟨w.heap.size, 3, none⟩ = some (.slice none 0 0) := HB4.out.cell 3
      have f3 : w8.frozen? ⟨w.heap.size, 3, none⟩ = false := HB4.out.frozen 3
      clear c1 c2 q0 q1 q2 q3
      by_cases hb6 : bad6 = 0
      case neg =>
        have hne : (bad6 != 0) = true := by simpa using hb6
        have hne2 : (bad6 == 0) = false := by simpa using hb6
        have HX3 : Hid (decodeOf l = (emptyOb, bad6)) := Lib.hid (by rw [HX2.out, if_pos hb6])
        clear hb6
        go_upto_region 56 with (fail)
        go_region_law (fail)
        all_goals
          go_wp2
          refine ret_store4 (x := .int .i64 bad6) (HB4.out.drewN 1) (by intro W c0 c1 c2 c3; simp [results, Tryd.results19, go_sem, c0, c1, c2, c3]) ?_
          intro W hW hF
          exact decoded_bad HX3.out (HW4.out.trans ((fr_drewN0 hF).below HW4.out.size (fun k hk => by omega)))
      case pos =>
      subst hb6
      by_cases hlong : at6 < l.length
      case pos =>
        have HX3 : Hid (decodeOf l = (emptyOb, 4)) := Lib.hid (by rw [HX2.out, if_neg (by simp), if_pos hlong])
        have h6 : (at6 : Int) < (l.length : Int) := by omega
        go_wp2
        refine ret_store4 (x := .int .i64 4) HB4.out (by intro W c0 c1 c2 c3; simp [results, Tryd.results19, go_sem, c0, c1, c2, c3]) ?_
        intro W hW hF
        exact decoded_bad HX3.out (HW4.out.trans (hF.below HW4.out.size (fun k hk => by omega)))
      case neg =>
      have HX3 : Hid (decodeOf l = if sum ≠ crcOf 0 (l.take at5) then (emptyOb, 6) else (⟨la0, lf0, lp0, lc0⟩, 0)) := Lib.hid (by rw [HX2.out, if_neg (by simp), if_neg hlong])
      have h6 : ¬ (at6 : Int) < (l.length : Int) := by omega
      have h5 := hs
      obtain ⟨_, hlc9, b9, off9, rfl, hc9, hbw9, hcell9⟩ := HV.out.lens (by omega)
      have HTK := Lib.hid (bys_head hs hlc9 hc9 hbw9 hcell9)
      have htl : ∀ c ∈ l.take at5, c < 256 := take_all l HL.out at5
      have htn : (l.take at5).length ≤ 9223372036854775807 := by rw [List.length_take]; omega
      have HSM := Lib.hid (fun W hb => rsum_any (l.take at5) htl htn (.slice (some ⟨b9, off9, none⟩) at5 c) W (HTK.out.below hb).bys)
      generalize crcOf 0 (l.take at5) = y at HSM HX3
      have k2 : (at5 : Int) ≤ (c : Int) := by omega
      have k3 : at5 ≤ c := by omega
      have hsm2 : (sum : Int) ≤ 4294967295 := by omega
      clear hcell9 htl htn
      by_cases hxy : sum = y
      case neg =>
        have HX4 : Hid (decodeOf l = (emptyOb, 6)) := Lib.hid (by rw [HX3.out, if_pos hxy])
        have hne : ((sum : Int) != (y : Int)) = true := by rw [bne_iff_ne]; omega
        have hne2 : ((sum : Int) == (y : Int)) = false := by rw [beq_eq_false_iff_ne]; omega
        clear hxy
        go_wp2_with (go_at_call 30; refine (HSM.out _ HW4.out).mono ?_; rintro e w9 ⟨rfl, rfl⟩)
        refine ret_store4 (x := .int .i64 6) HB4.out (by intro W c0 c1 c2 c3; simp [results, Tryd.results19, go_sem, c0, c1, c2, c3]) ?_
        intro W hW hF
        exact decoded_bad HX4.out (HW4.out.trans (hF.below HW4.out.size (fun k hk => by omega)))
      case pos =>
        have HX4 : Hid (decodeOf l = (⟨la0, lf0, lp0, lc0⟩, 0)) := Lib.hid (by rw [HX3.out, if_neg (by simpa using hxy)])
        have hne : ((sum : Int) != (y : Int)) = false := by rw [hxy]; simp
        have hne2 : ((sum : Int) == (y : Int)) = true := by rw [hxy]; simp
        clear hxy
        obtain ⟨A1, c1, rfl, _⟩ := own_form HT8.out.ra
        obtain ⟨A2, c2, rfl, _⟩ := own_form HT8.out.rf
        obtain ⟨A3, c3, rfl, _⟩ := own_form HT8.out.rp
        obtain ⟨A4, c4, rfl, _⟩ := own_form HT8.out.rc
        have q0 := HT8.out.b3.cell 0
        have q1 := HT8.out.b3.cell 1
        have q2 := HT8.out.b3.cell 2
        have q3 := HT8.out.b3.cell 3
        go_wp2_with (go_at_call 30; refine (HSM.out _ HW4.out).mono ?_; rintro e w9 ⟨rfl, rfl⟩)
        refine ret_store4 (x := .int .i64 0) HB4.out (by intro W c0 c1 c2 c3; simp [results, Tryd.results19, go_sem, c0, c1, c2, c3]) ?_
        intro W hW hF
        obtain ⟨hAt, hBl⟩ := HT8.out.end_ hF
        exact ⟨_, _, _, _, by rw [HX4.out], by rw [HX4.out]; exact hAt, hBl⟩

end Go.Proofs.YtfknoecgcoapcaaDoor

namespace Go.Proofs.YtfknoecgcoapcaaDoor
open Go Go.RowKit Go.WideShapes Go.ChangeShapes
set_option linter.unusedVariables false
set_option linter.unusedSimpArgs false

/-- Bytes that came in, perhaps none. -/
def BysArg (w : World) (v : Value) (l : List Nat) : Prop := (l = [] ∧ ∃ A c, v = .slice A 0 c) ∨ BysIn w v l
theorem BysArg.below {w w' : World} {v : Value} {l : List Nat} (h : BysArg w v l) (hb : Below w.heap.size w w') : BysArg w' v l := h.imp id (fun h => h.below hb)
theorem BysArg.cells {w : World} {v : Value} {l : List Nat} (h : BysArg w v l) : CellsAt w v l.length (bysV l) := by
  rcases h with ⟨rfl, A, c, rfl⟩ | ⟨rfl, rfl⟩ | ⟨b, off, c, rfl, h1, h2, h3, hc⟩
  · exact .inl ⟨rfl, rfl, A, c, rfl⟩
  · exact .inl ⟨rfl, rfl, none, 0, rfl⟩
  · refine .inr ⟨b, off, c, rfl, h3, fun k u hu => ?_⟩
    have hk : k < l.length := by
      have := (List.getElem?_eq_some_iff.1 hu).1
      simpa [bysV] using this
    rw [hc k hk]
    simp only [bysV, List.getElem?_map, List.getElem?_eq_getElem hk, Option.map_some, Option.some.injEq] at hu
    rw [← hu, List.getD_eq_getElem?_getD, List.getElem?_eq_getElem hk]
    rfl
theorem conv_arg {w : World} {v : Value} {l : List Nat} (h : BysArg w v l) (hl : ∀ c ∈ l, c < 256) : (convert 38 9 v).run Tryd.prog w = .ok (.string (strOf l)) w := by
  rcases h with ⟨rfl, A, c, rfl⟩ | h
  · cases A with
    | none => kernel_rfl
    | some ad => exact run_convert_bytes_back (P := Tryd.prog) w 38 9 5 ad c [] Tryd.underlying38 uU8 uStr (fun j hj => absurd hj (by simp))
  · exact conv_str h hl
theorem bysV_one (l : List Nat) : ∀ u ∈ bysV l, u.oneCell' = true := by
  intro u hu
  obtain ⟨c, _, rfl⟩ := List.mem_map.1 hu
  rfl
theorem slice_none8 (w : World) : (Instr.buildSlice 38 0 #[]).run Tryd.prog w = .ok (.slice (some ⟨w.heap.size, 0, none⟩) 0 0) (w.alloc (.cells #[] 5)) := by kernel_rfl
theorem exec_nei {o : Oper} {a : Act} {w : World} {x y : Operand} {t : TypeId} {n : Int} (ho : o.op = .binOp .neq 3 x y t) (hx : a.eval x = .int .i64 n) (hy : a.eval y = .int .i64 n) : (execOp a.eval o).run Tryd.prog w = .ok (.value (.bool false)) w := by
  unfold execOp
  simp only [ho, hx, hy]
  go_simp
theorem exec_nes {o : Oper} {a : Act} {w : World} {x y : Operand} {t : TypeId} {s : ByteArray} (ho : o.op = .binOp .neq 9 x y t) (hx : a.eval x = .string s) (hy : a.eval y = .string s) : (execOp a.eval o).run Tryd.prog w = .ok (.value (.bool false)) w := by
  unfold execOp
  simp only [ho, hx, hy]
  go_simp
/-- Both that were decoded, and the bytes. -/
structure Dz (w : World) (g g2 : Nat) (za zf zp zc ya yf yp yc : Value) (o : Ob) (v5 v7 : Value) (l : List Nat) (W : World) : Prop where
  names : NamesAt W
  bz : Box W g 36 #[za, zf, zp, zc]
  by_ : Box W g2 27 #[ya, yf, yp, yc]
  az : ObAt W za zf zp zc o
  ay : ObAt W ya yf yp yc o
  r5 : BysArg W v5 l
  r7 : BysArg W v7 l
  below : Below w.heap.size w W
theorem Dz.up {w : World} {g g2 : Nat} {za zf zp zc ya yf yp yc : Value} {o : Ob} {v5 v7 : Value} {l : List Nat} {W W' : World} (h : Dz w g g2 za zf zp zc ya yf yp yc o v5 v7 l W) (hb : Below W.heap.size W W') : Dz w g g2 za zf zp zc ya yf yp yc o v5 v7 l W' :=
  ⟨h.names.below hb h.names.lt, h.bz.below hb h.bz.lt, h.by_.below hb h.by_.lt, h.az.below hb, h.ay.below hb, h.r5.below hb, h.r7.below hb, h.below.trans (hb.mono h.below.size)⟩
theorem Dz.cells {w : World} {g g2 : Nat} {za zf zp zc ya yf yp yc : Value} {o : Ob} {v5 v7 : Value} {l : List Nat} {W : World} (h : Dz w g g2 za zf zp zc ya yf yp yc o v5 v7 l W) (hl : ∀ c ∈ l, c < 256) :
    (W.cell? ⟨g, 0, none⟩ = some za ∧ W.cell? ⟨g, 1, none⟩ = some zf ∧ W.cell? ⟨g, 2, none⟩ = some zp ∧ W.cell? ⟨g, 3, none⟩ = some zc) ∧
    (W.cell? ⟨g2, 0, none⟩ = some ya ∧ W.cell? ⟨g2, 1, none⟩ = some yf ∧ W.cell? ⟨g2, 2, none⟩ = some yp ∧ W.cell? ⟨g2, 3, none⟩ = some yc) ∧
    (convert 38 9 v5).run Tryd.prog W = .ok (.string (strOf l)) W ∧ (convert 38 9 v7).run Tryd.prog W = .ok (.string (strOf l)) W :=
  ⟨⟨h.bz.cell 0, h.bz.cell 1, h.bz.cell 2, h.bz.cell 3⟩, ⟨h.by_.cell 0, h.by_.cell 1, h.by_.cell 2, h.by_.cell 3⟩, conv_arg h.r5 hl, conv_arg h.r7 hl⟩

set_option maxRecDepth 100000 in
set_option maxHeartbeats 4000000 in
theorem rdecode_nil (A : Option Addr) (c : Nat) (w : World) : Calls Tryd.prog 19 #[.slice A 0 c] w (Decoded w []) := by
  have HX : Hid (decodeOf [] = (emptyOb, 3)) := Lib.hid (by rfl)
  have HB := Box.new w 27 #[.slice none 0 0, .slice none 0 0, .slice none 0 0, .slice none 0 0]
  have HBH := Lib.hid HB
  have HW := Lib.hid (alloc_below w (.cells #[.slice none 0 0, .slice none 0 0, .slice none 0 0, .slice none 0 0] 27))
  clear HB
  go_enter Tryd.func19, Tryd.ntmps19
  go_wp2
  go_loopw [4] (fun i wr => i = .int .i64 0 ∧ Hid (Box wr w.heap.size 27 #[.slice none 0 0, .slice none 0 0, .slice none 0 0, .slice none 0 0]) ∧ Hid (Below w.heap.size w wr)) (fun _ _ => 0)
  case atStart => exact ⟨rfl, HBH, HW⟩
  obtain ⟨rfl, HB, HW⟩ := hrel
  have b0 : wr.cell? ⟨w.heap.size, 0, none⟩ = some (.slice none 0 0) := HB.out.cell 0
  have f0 : wr.frozen? ⟨w.heap.size, 0, none⟩ = false := HB.out.frozen 0
  have b1 : wr.cell? ⟨w.heap.size, 1, none⟩ = some (.slice none 0 0) := HB.out.cell 1
  have f1 : wr.frozen? ⟨w.heap.size, 1, none⟩ = false := HB.out.frozen 1
  have b2 : wr.cell? ⟨w.heap.size, 2, none⟩ = some (.slice none 0 0) := HB.out.cell 2
  have f2 : wr.frozen? ⟨w.heap.size, 2, none⟩ = false := HB.out.frozen 2
  have b3 : wr.cell? ⟨w.heap.size, 3, none⟩ = some (.slice none 0 0) := HB.out.cell 3
  have f3 : wr.frozen? ⟨w.heap.size, 3, none⟩ = false := HB.out.frozen 3
  clear HBH
  go_wp2
  refine ret_store4 (x := .int .i64 3) HB.out (by intro W c0 c1 c2 c3; simp [results, Tryd.results19, go_sem, c0, c1, c2, c3]) ?_
  intro W hW hF
  exact decoded_bad HX.out (HW.out.trans (hF.below HW.out.size (fun k hk => by omega)))
theorem rdecode_arg (l : List Nat) (hl : ∀ c ∈ l, c < 256) (hm : l.length ≤ 1000000) (v : Value) (w : World) (hv : BysArg w v l) :
    Calls Tryd.prog 19 #[v] w (Decoded w l) := by
  rcases hv with ⟨rfl, A, c, rfl⟩ | hv
  · exact rdecode_nil A c w
  · exact rdecode_any l hl hm v w hv

theorem arg_head {w : World} {A : Option Addr} {n cap : Nat} {l : List Nat} (hn : l.length = n) (hv : BysArg w (.slice A n cap) l) : BysArg w (.slice A (min n 2000) cap) (l.take 2000) := by
  have nil : l = [] → BysArg w (.slice A (min n 2000) cap) (l.take 2000) := fun h => by
    subst h
    have h0 : n = 0 := hn.symm
    subst h0
    exact .inl ⟨rfl, A, cap, rfl⟩
  rcases hv with ⟨h, _⟩ | ⟨h, _⟩ | ⟨b, off, c, he, h1, h2, h3, hc⟩
  · exact nil h
  · exact nil h
  · injection he with e1 e2 e3
    subst e1 e3 hn
    have h := bys_head (n := min l.length 2000) (Nat.min_le_left _ _) h1 h2 h3 hc
    rw [show l.take (min l.length 2000) = l.take 2000 by
      rcases Nat.le_total l.length 2000 with h | h
      · rw [Nat.min_eq_left h, List.take_of_length_le (Nat.le_refl _), List.take_of_length_le h]
      · rw [Nat.min_eq_right h]] at h
    exact .inr h
theorem decode_err {l : List Nat} {o : Ob} {e : Int} (h : decodeOf l = (o, e)) (he : e ≠ 0) : o = emptyOb := by
  unfold decodeOf at h
  repeat' split at h
  all_goals
    injection h with h1 h2
    first
      | exact h1.symm
      | exact absurd h2.symm he

set_option maxRecDepth 100000 in
set_option maxHeartbeats 16000000 in
theorem objDecodes_any (l0 : List Nat) (hl0 : ∀ c ∈ l0, c < 256) (A : Option Addr) (cap : Nat) (hcap : l0.length ≤ cap) (hcap2 : cap ≤ 9223372036854775807) (w : World) (hw : NamesAt w) (hv : BysArg w (.slice A l0.length cap) l0) (hv2 : BysArg w (.slice A (min l0.length 2000) cap) (l0.take 2000)) :
    Calls Tryd.prog 4 #[.slice A l0.length cap] w fun e w' => e = .returned (.bool true) ∧ Below w.heap.size w w' := by
  obtain ⟨l, hl⟩ : ∃ l, l0.take 2000 = l := ⟨_, rfl⟩
  obtain ⟨m, hm⟩ : ∃ m, min l0.length 2000 = m := ⟨_, rfl⟩
  obtain ⟨n, hn⟩ : ∃ n, l0.length = n := ⟨_, rfl⟩
  have HLT : Hid (∀ c ∈ l, c < 256) := Lib.hid (by rw [← hl]; exact take_all l0 hl0 2000)
  have hlm : l.length = m := by rw [← hl, ← hm, List.length_take]; omega
  have HLM := Lib.hid hlm
  have HM := Lib.hid hm
  have hm2 : m ≤ 2000 := by omega
  rw [hm, hl] at hv2
  have HV2 := Lib.hid hv2
  have HW := Lib.hid hw
  rw [hn] at HM hcap ⊢
  clear hv hv2 hw hl hm hn hlm hl0
  have hmc : m ≤ cap := by have := HM.out; omega
  have hmc2 : (m : Int) ≤ (cap : Int) := by omega
  have HR0 : Hid ((w.alloc (.cells #[] 5)).ownsRow w.heap.size 5 1 (.slice (some ⟨w.heap.size, 0, none⟩) 0 0) 0 []) := Lib.hid
    ⟨rfl, .inr ⟨w.heap.size, 0, #[], rfl, Nat.le_refl _, heap_alloc_new w _, Nat.le_refl _, by unfold maxLen; omega, rfl, rfl⟩⟩
  have HB1 := Lib.hid (alloc_below w (.cells #[] 5))
  have HSL := Lib.hid slice_none8
  obtain ⟨v6, w6, hr6, HA6⟩ := app_src2 slU8 HR0.out (HV2.out.below HB1.out).cells (by simp [bysV]) (bysV_one l) (by rw [HLM.out]; omega) HB1.out.size 38
  have HS6 : Hid (BysIn w6 v6 l) := Lib.hid (Strict.bysIn8 (strict_of (base := w.heap.size) (l := []) (m := l) (by simpa [bysV] using HA6.out.own) (by simp)))
  have HB6 : Hid (Below w.heap.size w w6) := Lib.hid (HB1.out.trans (HA6.out.fr.below HB1.out.size (fun k hk => (own_ge HR0.out hk).1)))
  obtain ⟨A6, c6, hv6⟩ := HA6.out.form
  have HN6 : Hid (0 + l.length = m) := Lib.hid (by rw [HLM.out]; omega)
  rw [HN6.out] at hv6
  obtain ⟨n6, hn6⟩ : ∃ n6, n6 = m := ⟨_, rfl⟩
  rw [← hn6] at hv6
  have HN7 := Lib.hid hn6
  subst hv6
  have HR6 := Lib.hid hr6
  clear hr6 hn6
  have HDE := Lib.hid (fun W hw (h : BysIn W (.slice A6 n6 c6) l) => decode_any l HLT.out (by rw [HLM.out]; omega) (.slice A6 n6 c6) W hw h)
  have HRE := Lib.hid (fun W (h : BysArg W (.slice A m cap) l) => rdecode_arg l HLT.out (by rw [HLM.out]; omega) (.slice A m cap) W h)
  unfold Decoded at HDE HRE
  obtain ⟨⟨o, ec⟩, hd⟩ : ∃ x, decodeOf l = x := ⟨_, rfl⟩
  rw [hd] at HDE HRE
  simp only at HDE HRE
  have HIN := Lib.hid (fun (h0 : ec = 0) => decode_inv (o := o) HLT.out (by rw [hd, h0]))
  have HWF : Hid (ObWf o) := Lib.hid (by
    by_cases h0 : ec = 0
    · exact wf_of_ok (HIN.out h0).1
    · rw [decode_err hd h0]
      exact wf_empty)
  clear hd
  go_enter Tryd.func4, Tryd.ntmps4
  go_upto_region 1 with (fail)
  go_cut [0] (fun s wc => s = .slice A m cap ∧ wc = w)
  case first =>
    by_cases hle : n ≤ 2000
    · have hx1 : (n : Int) ≤ 2000 := by omega
      have hx2 : ¬ 2000 < (n : Int) := by omega
      obtain rfl : m = n := by have := HM.out; omega
      go_wp2
      go_meet
      exact ⟨rfl, rfl⟩
    · have hx1 : ¬ (n : Int) ≤ 2000 := by omega
      have hx2 : 2000 < (n : Int) := by omega
      obtain rfl : m = 2000 := by have := HM.out; omega
      go_wp2
      go_meet
      exact ⟨rfl, rfl⟩
  case rest =>
  obtain ⟨rfl, rfl⟩ := hcut
  obtain ⟨w, hw0⟩ : ∃ w, w = wc := ⟨_, rfl⟩
  subst hw0
  go_upto_region 3 with (at_builtin; refine wpList_of_append HR6.out rfl _ _ rfl rfl rfl ?_)
  go_upto_region 4 with (go_at_call 18; refine (HDE.out _ (HW.out.below HB6.out HW.out.lt) HS6.out).mono ?_; rintro e w7 ⟨za, zf, zp, zc, rfl, hz, hb7⟩; obtain ⟨E1, f1, rfl⟩ := CellsAt.form hz.atoms; obtain ⟨E2, f2, rfl⟩ := CellsAt.form hz.funs; obtain ⟨E3, f3, rfl⟩ := CellsAt.form hz.preds; obtain ⟨E4, f4, rfl⟩ := CellsAt.form hz.code; have HZ := Lib.hid hz; have HB7 := Lib.hid (HB6.out.trans (hb7.mono HB6.out.size)); have HS7 := Lib.hid (HS6.out.below hb7); clear hz hb7)
  have hal := alloc_below w7 (.cells #[.slice E1 o.atoms.length f1, .slice E2 o.funs.length f2, .slice E3 o.preds.length f3, .slice E4 o.code.length f4] 36)
  have HB8 := Lib.hid (HB7.out.trans (hal.mono HB7.out.size))
  have HS8 := Lib.hid (HS7.out.below hal)
  have HZ8 := Lib.hid (HZ.out.below hal)
  have HBZ := Lib.hid (Box.new w7 36 #[.slice E1 o.atoms.length f1, .slice E2 o.funs.length f2, .slice E3 o.preds.length f3, .slice E4 o.code.length f4])
  clear hal HB7 HS7 HZ HDE
  obtain ⟨w8, hw8⟩ : ∃ w8, w7.alloc (.cells #[.slice E1 o.atoms.length f1, .slice E2 o.funs.length f2, .slice E3 o.preds.length f3, .slice E4 o.code.length f4] 36) = w8 := ⟨_, rfl⟩
  rw [hw8] at HB8 HS8 HZ8 HBZ ⊢
  obtain ⟨g, hg⟩ : ∃ g, w7.heap.size = g := ⟨_, rfl⟩
  rw [hg] at HBZ
  try rw [hg]
  clear hw8 hg
  go_upto_region 5 with (go_at_call 19; refine (HRE.out _ (HV2.out.below HB8.out)).mono ?_; rintro e w9 ⟨ya, yf, yp, yc, rfl, hy, hb9⟩; obtain ⟨D1, d1, rfl⟩ := CellsAt.form hy.atoms; obtain ⟨D2, d2, rfl⟩ := CellsAt.form hy.funs; obtain ⟨D3, d3, rfl⟩ := CellsAt.form hy.preds; obtain ⟨D4, d4, rfl⟩ := CellsAt.form hy.code; have HY := Lib.hid hy; have HB9 := Lib.hid (HB8.out.trans (hb9.mono HB8.out.size)); have HS9 := Lib.hid (HS8.out.below hb9); have HZ9 := Lib.hid (HZ8.out.below hb9); have HBZ9 := Lib.hid (HBZ.out.below hb9 HBZ.out.lt); clear hy hb9)
  have hal := alloc_below w9 (.cells #[.slice D1 o.atoms.length d1, .slice D2 o.funs.length d2, .slice D3 o.preds.length d3, .slice D4 o.code.length d4] 27)
  have HK : Hid (Dz w g w9.heap.size (.slice E1 o.atoms.length f1) (.slice E2 o.funs.length f2) (.slice E3 o.preds.length f3) (.slice E4 o.code.length f4) (.slice D1 o.atoms.length d1) (.slice D2 o.funs.length d2) (.slice D3 o.preds.length d3) (.slice D4 o.code.length d4) o (.slice A6 n6 c6) (.slice A m cap) l (w9.alloc (.cells #[.slice D1 o.atoms.length d1, .slice D2 o.funs.length d2, .slice D3 o.preds.length d3, .slice D4 o.code.length d4] 27))) := Lib.hid
    ⟨(HW.out.below HB9.out HW.out.lt).below hal (HW.out.below HB9.out HW.out.lt).lt, HBZ9.out.below hal HBZ9.out.lt, Box.new w9 _ _, HZ9.out.below hal, HY.out.below hal, .inr (HS9.out.below hal), (HV2.out.below HB9.out).below hal, HB9.out.trans (hal.mono HB9.out.size)⟩
  clear hal HB8 HS8 HZ8 HBZ HB9 HS9 HZ9 HBZ9 HY HRE
  obtain ⟨w10, hw10⟩ : ∃ w10, w9.alloc (.cells #[.slice D1 o.atoms.length d1, .slice D2 o.funs.length d2, .slice D3 o.preds.length d3, .slice D4 o.code.length d4] 27) = w10 := ⟨_, rfl⟩
  rw [hw10] at HK ⊢
  obtain ⟨g2, hg2⟩ : ∃ g2, w9.heap.size = g2 := ⟨_, rfl⟩
  rw [hg2] at HK
  try rw [hg2]
  clear hw10 hg2
  have HK : Hid (Dz w g g2 (.slice E1 o.atoms.length f1) (.slice E2 o.funs.length f2) (.slice E3 o.preds.length f3) (.slice E4 o.code.length f4) (.slice D1 o.atoms.length d1) (.slice D2 o.funs.length d2) (.slice D3 o.preds.length d3) (.slice D4 o.code.length d4) o (.slice A6 n6 c6) (.slice A m cap) l w10.drew) := Lib.hid (HK.out.up (bdrew1 w10))
  have HFR := Lib.hid (fun W h => fromOb2_any o HWF.out (.slice E1 o.atoms.length f1) (.slice E2 o.funs.length f2) (.slice E3 o.preds.length f3) (.slice E4 o.code.length f4) W h)
  have HSM := Lib.hid (fun W na nf np_ nc (h : ObAt W na nf np_ nc o) (h2 : ObAt W (.slice D1 o.atoms.length d1) (.slice D2 o.funs.length d2) (.slice D3 o.preds.length d3) (.slice D4 o.code.length d4) o) => by have := rsame_any o o HWF.out na nf np_ nc (.slice D1 o.atoms.length d1) (.slice D2 o.funs.length d2) (.slice D3 o.preds.length d3) (.slice D4 o.code.length d4) W h h2; rw [decide_eq_true (rfl : o = o)] at this; exact this)
  refine wp_region_held_drew (S := (fun W => (W.cell? ⟨g, 0, none⟩ = some (.slice E1 o.atoms.length f1) ∧ W.cell? ⟨g, 1, none⟩ = some (.slice E2 o.funs.length f2) ∧ W.cell? ⟨g, 2, none⟩ = some (.slice E3 o.preds.length f3) ∧ W.cell? ⟨g, 3, none⟩ = some (.slice E4 o.code.length f4)) ∧ (W.cell? ⟨g2, 0, none⟩ = some (.slice D1 o.atoms.length d1) ∧ W.cell? ⟨g2, 1, none⟩ = some (.slice D2 o.funs.length d2) ∧ W.cell? ⟨g2, 2, none⟩ = some (.slice D3 o.preds.length d3) ∧ W.cell? ⟨g2, 3, none⟩ = some (.slice D4 o.code.length d4)) ∧ (convert 38 9 (.slice A6 n6 c6)).run Tryd.prog W = .ok (.string (strOf l)) W ∧ (convert 38 9 (.slice A m cap)).run Tryd.prog W = .ok (.string (strOf l)) W)) (by kernel_rfl) ?_ (fun hHeld => ?_)
  · exact HK.out.cells HLT.out
  refine wpAnyH_ready (rs := [0]) (by kernel_rfl) (by simp) ?_
  refine AllReadyH.cons (o := _) rfl (fun K hK => ?_) AllReadyH.nil
  go_simp
  go_at_call 8; refine (told_any _ HK.out.names).mono ?_; rintro e w' ⟨rfl, hb⟩; have HK := Lib.hid (HK.out.up hb); clear hb
  refine hK.out _ _ ?_ (fun hHeld => ?_)
  · exact HK.out.cells HLT.out
  clear hK K
  try simp only [List.getElem_toArray, List.getElem_cons_zero, List.getElem_cons_succ, Act.put, List.setIfInBounds_toArray, List.set_cons_zero, List.set_cons_succ]
  refine wpAnyH_take (i := 1) (v := .bool false) rfl (by kernel_rfl) (by kernel_rfl) (by kernel_rfl) (fun _ _ _ h => h) (Or.inl ⟨by kernel_rfl, fun w' hSw => by kernel_rfl⟩) (by assumption) ?_
  try simp only [List.getElem_toArray, List.getElem_cons_zero, List.getElem_cons_succ, Act.put, List.setIfInBounds_toArray, List.set_cons_zero, List.set_cons_succ]
  refine wpAnyH_take (i := 2) (v := .bool false) rfl (by kernel_rfl) (by kernel_rfl) (by kernel_rfl) (fun _ _ _ h => h) (Or.inl ⟨by kernel_rfl, fun w' hSw => by kernel_rfl⟩) (by assumption) ?_
  try simp only [List.getElem_toArray, List.getElem_cons_zero, List.getElem_cons_succ, Act.put, List.setIfInBounds_toArray, List.set_cons_zero, List.set_cons_succ]
  refine wpAnyH_take (i := 3) (v := .int .i64 ec) rfl (by kernel_rfl) (by kernel_rfl) (by kernel_rfl) (fun _ _ _ h => h) (Or.inl ⟨by kernel_rfl, fun w' hSw => by kernel_rfl⟩) (by assumption) ?_
  try simp only [List.getElem_toArray, List.getElem_cons_zero, List.getElem_cons_succ, Act.put, List.setIfInBounds_toArray, List.set_cons_zero, List.set_cons_succ]
  refine wpAnyH_take (i := 4) (v := .int .i64 ec) rfl (by kernel_rfl) (by kernel_rfl) (by kernel_rfl) (fun _ _ _ h => h) (Or.inl ⟨by kernel_rfl, fun w' hSw => by kernel_rfl⟩) (by assumption) ?_
  try simp only [List.getElem_toArray, List.getElem_cons_zero, List.getElem_cons_succ, Act.put, List.setIfInBounds_toArray, List.set_cons_zero, List.set_cons_succ]
  refine wpAnyH_take (i := 5) (v := .bool false) rfl (by kernel_rfl) (by kernel_rfl) (by kernel_rfl) (fun _ _ _ h => h) (Or.inl ⟨by kernel_rfl, fun w' hSw => exec_nei (n := ec) rfl (by kernel_rfl) (by kernel_rfl)⟩) (by assumption) ?_
  try simp only [List.getElem_toArray, List.getElem_cons_zero, List.getElem_cons_succ, Act.put, List.setIfInBounds_toArray, List.set_cons_zero, List.set_cons_succ]
  refine wpAnyH_take (i := 6) (v := .bool false) rfl (by kernel_rfl) (by kernel_rfl) (by kernel_rfl) (fun _ _ _ h => h) (Or.inl ⟨by kernel_rfl, fun w' hSw => by kernel_rfl⟩) (by assumption) ?_
  try simp only [List.getElem_toArray, List.getElem_cons_zero, List.getElem_cons_succ, Act.put, List.setIfInBounds_toArray, List.set_cons_zero, List.set_cons_succ]
  refine wpAnyH_take (i := 7) (v := .bool false) rfl (by kernel_rfl) (by kernel_rfl) (by kernel_rfl) (fun _ _ _ h => h) (Or.inl ⟨by kernel_rfl, fun w' hSw => by kernel_rfl⟩) (by assumption) ?_
  try simp only [List.getElem_toArray, List.getElem_cons_zero, List.getElem_cons_succ, Act.put, List.setIfInBounds_toArray, List.set_cons_zero, List.set_cons_succ]
  refine wpAnyH_take (i := 8) (v := .agg #[.slice E1 o.atoms.length f1, .slice E2 o.funs.length f2, .slice E3 o.preds.length f3, .slice E4 o.code.length f4]) rfl (by kernel_rfl) (by kernel_rfl) (by kernel_rfl) (fun _ _ _ h => h) (Or.inl ⟨by kernel_rfl, fun w' hSw => exec_load rfl (by kernel_rfl) (load_pobj _ w' hSw.1)⟩) (by assumption) ?_
  try simp only [List.getElem_toArray, List.getElem_cons_zero, List.getElem_cons_succ, Act.put, List.setIfInBounds_toArray, List.set_cons_zero, List.set_cons_succ]
  refine wpAnyH_take (i := 10) (v := .agg #[.slice D1 o.atoms.length d1, .slice D2 o.funs.length d2, .slice D3 o.preds.length d3, .slice D4 o.code.length d4]) rfl (by kernel_rfl) (by kernel_rfl) (by kernel_rfl) (fun _ _ _ h => h) (Or.inl ⟨by kernel_rfl, fun w' hSw => exec_load rfl (by kernel_rfl) (load_robj _ w' hSw.2.1)⟩) (by assumption) ?_
  try simp only [List.getElem_toArray, List.getElem_cons_zero, List.getElem_cons_succ, Act.put, List.setIfInBounds_toArray, List.set_cons_zero, List.set_cons_succ]
  refine wpAnyH_ready (rs := [9]) (by kernel_rfl) (by simp) ?_
  refine AllReadyH.cons (o := _) rfl (fun K hK => ?_) AllReadyH.nil
  refine step_of_call (vs := #[.agg #[.slice E1 o.atoms.length f1, .slice E2 o.funs.length f2, .slice E3 o.preds.length f3, .slice E4 o.code.length f4]]) (by kernel_rfl) (enters_of Tryd.func17 (by kernel_rfl) rfl) _ rfl (by kernel_rfl) ?_
  refine (HFR.out _ HK.out.az).mono ?_; rintro e w' ⟨ha, hf, hp, hc, rfl, hq, hb, _⟩; have HQ := Lib.hid hq; clear hq; have HK := Lib.hid (HK.out.up hb); clear hb
  refine ⟨_, rfl, ?_⟩
  refine hK.out _ _ ?_ (fun hHeld => ?_)
  · exact HK.out.cells HLT.out
  clear hK K
  try simp only [List.getElem_toArray, List.getElem_cons_zero, List.getElem_cons_succ, Act.put, List.setIfInBounds_toArray, List.set_cons_zero, List.set_cons_succ]
  refine wpAnyH_ready (rs := [11]) (by kernel_rfl) (by simp) ?_
  refine AllReadyH.cons (o := _) rfl (fun K hK => ?_) AllReadyH.nil
  refine step_of_call (vs := #[.agg #[ha, hf, hp, hc], .agg #[.slice D1 o.atoms.length d1, .slice D2 o.funs.length d2, .slice D3 o.preds.length d3, .slice D4 o.code.length d4]]) (by kernel_rfl) (enters_of Tryd.func16 (by kernel_rfl) rfl) _ rfl (by kernel_rfl) ?_
  refine (HSM.out _ ha hf hp hc HQ.out HK.out.ay).mono ?_; rintro e w' ⟨rfl, hb⟩; have HK := Lib.hid (HK.out.up hb); clear hb
  refine ⟨_, rfl, ?_⟩
  refine hK.out _ _ ?_ (fun hHeld => ?_)
  · exact HK.out.cells HLT.out
  clear hK K
  try simp only [List.getElem_toArray, List.getElem_cons_zero, List.getElem_cons_succ, Act.put, List.setIfInBounds_toArray, List.set_cons_zero, List.set_cons_succ]
  refine wpAnyH_take (i := 12) (v := .bool false) rfl (by kernel_rfl) (by kernel_rfl) (by kernel_rfl) (fun _ _ _ h => h) (Or.inl ⟨by kernel_rfl, fun w' hSw => by kernel_rfl⟩) (by assumption) ?_
  try simp only [List.getElem_toArray, List.getElem_cons_zero, List.getElem_cons_succ, Act.put, List.setIfInBounds_toArray, List.set_cons_zero, List.set_cons_succ]
  refine wpAnyH_take (i := 13) (v := .bool false) rfl (by kernel_rfl) (by kernel_rfl) (by kernel_rfl) (fun _ _ _ h => h) (Or.inl ⟨by kernel_rfl, fun w' hSw => by kernel_rfl⟩) (by assumption) ?_
  try simp only [List.getElem_toArray, List.getElem_cons_zero, List.getElem_cons_succ, Act.put, List.setIfInBounds_toArray, List.set_cons_zero, List.set_cons_succ]
  refine wpAnyH_take (i := 14) (v := .bool false) rfl (by kernel_rfl) (by kernel_rfl) (by kernel_rfl) (fun _ _ _ h => h) (Or.inl ⟨by kernel_rfl, fun w' hSw => by kernel_rfl⟩) (by assumption) ?_
  try simp only [List.getElem_toArray, List.getElem_cons_zero, List.getElem_cons_succ, Act.put, List.setIfInBounds_toArray, List.set_cons_zero, List.set_cons_succ]
  refine wpAnyH_take (i := 15) (v := .slice A6 n6 c6) rfl (by kernel_rfl) (by kernel_rfl) (by kernel_rfl) (fun _ _ _ h => h) (Or.inl ⟨by kernel_rfl, fun w' hSw => by kernel_rfl⟩) (by assumption) ?_
  try simp only [List.getElem_toArray, List.getElem_cons_zero, List.getElem_cons_succ, Act.put, List.setIfInBounds_toArray, List.set_cons_zero, List.set_cons_succ]
  refine wpAnyH_take (i := 16) (v := .string (strOf l)) rfl (by kernel_rfl) (by kernel_rfl) (by kernel_rfl) (fun _ _ _ h => h) (Or.inl ⟨by kernel_rfl, fun w' hSw => exec_conv rfl (by kernel_rfl) hSw.2.2.1⟩) (by assumption) ?_
  try simp only [List.getElem_toArray, List.getElem_cons_zero, List.getElem_cons_succ, Act.put, List.setIfInBounds_toArray, List.set_cons_zero, List.set_cons_succ]
  refine wpAnyH_take (i := 17) (v := .slice A m cap) rfl (by kernel_rfl) (by kernel_rfl) (by kernel_rfl) (fun _ _ _ h => h) (Or.inl ⟨by kernel_rfl, fun w' hSw => by kernel_rfl⟩) (by assumption) ?_
  try simp only [List.getElem_toArray, List.getElem_cons_zero, List.getElem_cons_succ, Act.put, List.setIfInBounds_toArray, List.set_cons_zero, List.set_cons_succ]
  refine wpAnyH_take (i := 18) (v := .string (strOf l)) rfl (by kernel_rfl) (by kernel_rfl) (by kernel_rfl) (fun _ _ _ h => h) (Or.inl ⟨by kernel_rfl, fun w' hSw => exec_conv rfl (by kernel_rfl) hSw.2.2.2⟩) (by assumption) ?_
  try simp only [List.getElem_toArray, List.getElem_cons_zero, List.getElem_cons_succ, Act.put, List.setIfInBounds_toArray, List.set_cons_zero, List.set_cons_succ]
  refine wpAnyH_take (i := 19) (v := .bool false) rfl (by kernel_rfl) (by kernel_rfl) (by kernel_rfl) (fun _ _ _ h => h) (Or.inl ⟨by kernel_rfl, fun w' hSw => exec_nes (s := strOf l) rfl (by kernel_rfl) (by kernel_rfl)⟩) (by assumption) ?_
  try simp only [List.getElem_toArray, List.getElem_cons_zero, List.getElem_cons_succ, Act.put, List.setIfInBounds_toArray, List.set_cons_zero, List.set_cons_succ]
  refine wpAnyH_take (i := 20) (v := .bool false) rfl (by kernel_rfl) (by kernel_rfl) (by kernel_rfl) (fun _ _ _ h => h) (Or.inl ⟨by kernel_rfl, fun w' hSw => by kernel_rfl⟩) (by assumption) ?_
  try simp only [List.getElem_toArray, List.getElem_cons_zero, List.getElem_cons_succ, Act.put, List.setIfInBounds_toArray, List.set_cons_zero, List.set_cons_succ]
  refine wpAnyH_done (by kernel_rfl) ?_ _
  go_upto_region 7 with (fail)
  by_cases hec : ec = 0
  case neg =>
    have hne : (ec != 0) = true := by simpa using hec
    have hne2 : (ec == 0) = false := by simpa using hec
    clear hec
    go_wp2
    go_ret
    exact ⟨rfl, HK.out.below⟩
  case pos =>
  have HI := Lib.hid (HIN.out hec)
  subst hec
  have HEN := Lib.hid (fun ua uf up uc W hw hv => by have := encode_any o HWF.out ua uf up uc W hw hv; rw [HI.out.1, show encodeOf o = l by unfold encodeOf; rw [if_pos HI.out.1, HI.out.2]] at this; exact this)
  have q0 := HK.out.bz.cell 0
  have q1 := HK.out.bz.cell 1
  have q2 := HK.out.bz.cell 2
  have q3 := HK.out.bz.cell 3
  go_upto_region 10 with (go_at_call 10; refine (HEN.out _ _ _ _ _ HK.out.names HK.out.az).mono ?_; rintro e w11 ⟨v11, rfl, hs11, hb11⟩; have hi11 := hs11.bysIn8; obtain ⟨A11, c11, rfl⟩ := hi11.form; have HI11 := Lib.hid hi11; have HK := Lib.hid (HK.out.up hb11); clear hs11 hb11 hi11)
  have k1 := conv_str HI11.out HLT.out
  have k2 := conv_arg HK.out.r7 HLT.out
  clear q0 q1 q2 q3
  go_wp2
  go_ret
  exact ⟨by simp, HK.out.below⟩

end Go.Proofs.YtfknoecgcoapcaaDoor

namespace Go.Proofs.YtfknoecgcoapcaaDoor
open Go.ChangeShapes Go.WideShapes Go.ChangeAt Go.RowKit Go.Deep
set_option linter.unusedVariables false
set_option linter.unusedSimpArgs false

instance : Inhabited Ins := ⟨(0, 0, 0, 0, 0)⟩

theorem add_spot8 (a : Addr) (n j : Nat) {w : World} {v : Value} (h : w.cell? ((a.add n).add j) = some v) (ha : a.spot = none) : w.cell? ⟨a.block, a.off + n + j, none⟩ = some v := by
  have e : (a.add n).add j = ⟨a.block, a.off + n + j, none⟩ := by
    obtain ⟨b, o, s⟩ := a
    simp only at ha
    subst ha
    unfold Addr.add
    split <;> split <;> simp_all
  rw [← e]
  exact h
theorem spot_none8 {a : Addr} {W : World} {v : Value} (h : W.cell? (a.add 0) = some v) : a.spot = none := by
  cases hsp : a.spot with
  | none => rfl
  | some s =>
    exfalso
    have e : a.add 0 = a := by simp [Addr.add]
    rw [e] at h
    unfold World.cell? at h
    rw [hsp] at h
    split at h <;> simp at h

theorem flat_len8 {α β : Type} (f : α → List β) (m : Nat) (hf : ∀ a, (f a).length = m) : ∀ l : List α, (l.flatMap f).length = l.length * m
  | [] => by simp
  | a :: l => by rw [List.flatMap_cons, List.length_append, hf, flat_len8 f m hf l, List.length_cons, Nat.succ_mul, Nat.add_comm]
theorem flat_one8 {α β : Type} (f : α → β) : ∀ l : List α, l.flatMap (fun a => [f a]) = l.map f
  | [] => rfl
  | a :: l => by rw [List.flatMap_cons, flat_one8 f l]; rfl

section
variable {H : Type} {enc : TypeId × Value → H} {W : World}

/-- A struct whose fields are of one cell each, field by field. -/
theorem one_fields {fuel : Nat} {t : TypeId} {fs : Array Field} {cs : List Value} {x : DataW H × List MemPlace} (hfs : Tryd.prog.underlying t = some (.struct fs)) (hone : oneCellFields Tryd.prog fs = true) (hc : Tryd.prog.cellsOf t = fs.size)
    (h : DataW.trod enc Tryd.prog W 0 (fun _ => true) true fuel t cs = some x) : cs.length = fs.size ∧ ∃ n, ∀ (j : Nat) (f : Field), fs[j]? = some f → ∃ v y, cs[j]? = some v ∧ DataW.trod enc Tryd.prog W 0 (fun _ => true) true n f.type [v] = some y := by
  obtain ⟨ys, n, rfl, _, hcl, hyl, hf⟩ := DataW.trod_struct hfs h
  rw [hc] at hcl
  refine ⟨hcl, n, fun j f hfj => ?_⟩
  have hj : j < fs.size := (Array.getElem?_eq_some_iff.1 hfj).1
  obtain ⟨ho, hk⟩ := hone_of hone j _ hfj
  have hv : cs[j]? = some (cs[j]'(by omega)) := List.getElem?_eq_getElem (by omega)
  have h1 := hf j _ hfj
  rw [ho, hk] at h1
  have h2 : (cs.drop j).take 1 = [cs[j]'(by omega)] := by
    rw [List.drop_eq_getElem_cons (by omega)]
    rfl
  rw [h2] at h1
  exact ⟨_, ys[j]'(by omega), hv, by rw [h1]; exact List.getElem?_eq_getElem (by omega)⟩

set_option maxRecDepth 100000 in
/-- A slice, element by element. -/
theorem rows_in {α : Type} [Inhabited α] (f : α → List Value) (m : Nat) (hf : ∀ a, (f a).length = m) (hm : 0 < m) (Q : α → Prop) {fuel : Nat} {t e : TypeId} {v : Value} {x : DataW H × List MemPlace} (ht : Tryd.prog.underlying t = some (.slice e)) (hc : Tryd.prog.cellsOf e = m)
    (hel : ∀ n cs' y, DataW.trod enc Tryd.prog W 0 (fun _ => true) true n e cs' = some y → ∃ a, cs' = f a ∧ Q a)
    (h : DataW.trod enc Tryd.prog W 0 (fun _ => true) true fuel t [v] = some x) :
    ∃ l : List α, CellsAt W v l.length (l.flatMap f) ∧ (∀ a ∈ l, Q a) ∧ ∀ k c, v = .slice none k c → c = 0 := by
  rcases open_slice ht h with ⟨hv, _⟩ | ⟨a, len, cap, m', n, D, Pl, hv, hb, hl, hmx, hmm, _, hx⟩
  · simp only [List.cons.injEq, and_true] at hv
    subst hv
    exact ⟨[], .inl ⟨rfl, rfl, _, _, rfl⟩, by simp, fun k c h => by injection h with _ _ h3; exact h3.symm⟩
  · simp only [List.cons.injEq, and_true] at hv
    subst hv
    have hlm : len ≤ m' := by rw [hmm]; split <;> omega
    have each : ∀ i, i < len → ∃ z : α, W.cells? 0 (a.add (i * m)) m = some (f z) ∧ Q z := fun i hi => by
      obtain ⟨cs', h1, h2⟩ := hx i (by omega)
      rw [hc] at h1
      obtain ⟨z, rfl, hq⟩ := hel _ _ _ h2
      exact ⟨z, h1, hq⟩
    obtain ⟨T, hT⟩ := choose_lt each
    have hll : ((List.range len).map T).length = len := by simp
    refine ⟨(List.range len).map T, ?_, ?_, fun k c h => by injection h with h1; cases h1⟩
    · by_cases h0 : len = 0
      · subst h0
        exact .inl ⟨rfl, rfl, _, _, rfl⟩
      · obtain ⟨_, _, hat0⟩ := World.cells?_some (hT 0 (by omega)).1
        have hs0 : a.spot = none := by
          have := hat0 0 (by omega)
          rw [List.getElem?_eq_getElem (by rw [hf]; omega)] at this
          have e : (a.add (0 * m)).add 0 = a.add 0 := by simp [Addr.add]
          rw [e] at this
          exact spot_none8 this
        have hcell : ∀ i, i < len → ∀ j, j < m → ∃ u, (f (T i))[j]? = some u ∧ W.cell? ⟨a.block, a.off + i * m + j, none⟩ = some u := fun i hi j hj => by
          obtain ⟨_, _, hat⟩ := World.cells?_some (hT i hi).1
          have := hat j (by omega)
          rw [List.getElem?_eq_getElem (by rw [hf]; omega)] at this
          exact ⟨_, List.getElem?_eq_getElem (by rw [hf]; omega), add_spot8 a (i * m) j this hs0⟩
        refine .inr ⟨a.block, a.off, cap, ?_, ?_, fun k u hk => ?_⟩
        · rw [hll]
          obtain ⟨b, o, sp⟩ := a
          simp only at hs0
          subst hs0
          rfl
        · obtain ⟨u, _, hu⟩ := hcell 0 (by omega) 0 hm
          have := World.block_lt_of_cell? W _ hu
          exact this
        · have hkl := (List.getElem?_eq_some_iff.1 hk).1
          have hlen : (((List.range len).map T).flatMap f).length = len * m := by rw [flat_len8 f m hf, hll]
          rw [hlen] at hkl
          have hdm : k / m * m + k % m = k := by rw [Nat.mul_comm]; exact Nat.div_add_mod k m
          have hi : k / m < len := by
            rw [Nat.div_lt_iff_lt_mul hm]
            exact hkl
          have hj : k % m < m := Nat.mod_lt _ hm
          obtain ⟨u2, hu1, hu2⟩ := hcell (k / m) hi (k % m) hj
          have hfa := flat_at f m hf ((List.range len).map T) (k / m) (T (k / m)) (by simp [hi]) (k % m) hj
          rw [hdm, hk, hu1] at hfa
          have e : u = u2 := by simpa using hfa
          rw [e, ← hu2]
          congr 2
          omega
    · intro z hz
      obtain ⟨i, hi, rfl⟩ := List.mem_map.1 hz
      exact (hT i (List.mem_range.1 hi)).2

theorem funUnder : ∃ fs, Tryd.prog.underlying 62 = some (.struct fs) ∧ oneCellFields Tryd.prog fs = true ∧ fs.size = 2 ∧ (fs[0]?).map (·.type) = some 9 ∧ (fs[1]?).map (·.type) = some 3 :=
  ⟨_, Tryd.underlying62, by kernel_rfl, by kernel_rfl, by kernel_rfl, by kernel_rfl⟩
theorem cellsFun : Tryd.prog.cellsOf 62 = 2 := by kernel_rfl
theorem predUnder : ∃ fs, Tryd.prog.underlying 65 = some (.struct fs) ∧ oneCellFields Tryd.prog fs = true ∧ fs.size = 3 ∧ (fs[0]?).map (·.type) = some 9 ∧ (fs[1]?).map (·.type) = some 3 ∧ (fs[2]?).map (·.type) = some 3 :=
  ⟨_, Tryd.underlying65, by kernel_rfl, by kernel_rfl, by kernel_rfl, by kernel_rfl, by kernel_rfl⟩
theorem cellsPred : Tryd.prog.cellsOf 65 = 3 := by kernel_rfl
theorem obUnder : ∃ fs, Tryd.prog.underlying 27 = some (.struct fs) ∧ oneCellFields Tryd.prog fs = true ∧ fs.size = 4 ∧ (fs[0]?).map (·.type) = some 22 ∧ (fs[1]?).map (·.type) = some 23 ∧ (fs[2]?).map (·.type) = some 24 ∧ (fs[3]?).map (·.type) = some 25 :=
  ⟨_, Tryd.underlying27, by kernel_rfl, by kernel_rfl, by kernel_rfl, by kernel_rfl, by kernel_rfl, by kernel_rfl⟩
theorem cellsOb : Tryd.prog.cellsOf 27 = 4 := by kernel_rfl
theorem cellsStr8 : Tryd.prog.cellsOf 9 = 1 := by kernel_rfl
theorem insUnder8 : ∃ fs, Tryd.prog.underlying 71 = some (.struct fs) ∧ fs.size = 2 ∧ (fs[0]?).map (fun f => (f.type, f.offset)) = some (3, 0) ∧ (fs[1]?).map (fun f => (f.type, f.offset)) = some (67, 1) :=
  ⟨_, Tryd.underlying71, by kernel_rfl, by kernel_rfl, by kernel_rfl⟩
theorem cellsIns8 : Tryd.prog.cellsOf 71 = 5 := by kernel_rfl
theorem cellsFour8 : Tryd.prog.cellsOf 67 = 4 := by kernel_rfl
theorem cellsInt8 : Tryd.prog.cellsOf 3 = 1 := by kernel_rfl

theorem five_of8 {l : List Value} (h : l.length = 5) : ∃ a b c d e, l = [a, b, c, d, e] := by
  match l, h with
  | [a, b, c, d, e], _ => exact ⟨a, b, c, d, e, rfl⟩

set_option maxRecDepth 100000 in
theorem ins_in8 {fuel : Nat} {cs : List Value} {x : DataW H × List MemPlace} (h : DataW.trod enc Tryd.prog W 0 (fun _ => true) true fuel 71 cs = some x) : ∃ i : Ins, cs = insC i ∧ True := by
  obtain ⟨fs, hfs, hsz, t0, t1⟩ := insUnder8
  obtain ⟨xs, n, rfl, _, hcl, hxl, hf⟩ := DataW.trod_struct hfs h
  rw [cellsIns8] at hcl
  obtain ⟨c0, c1, c2, c3, c4, rfl⟩ := five_of8 hcl
  have hx0 : ∃ y, xs[0]? = some y := ⟨_, List.getElem?_eq_getElem (by omega)⟩
  have hx1 : ∃ y, xs[1]? = some y := ⟨_, List.getElem?_eq_getElem (by omega)⟩
  obtain ⟨y0, hy0⟩ := hx0
  obtain ⟨y1, hy1⟩ := hx1
  obtain ⟨f0, hf0, e0⟩ := Option.map_eq_some_iff.1 t0
  obtain ⟨f1, hf1, e1⟩ := Option.map_eq_some_iff.1 t1
  have g0 := hf 0 f0 hf0
  have g1 := hf 1 f1 hf1
  simp only [Prod.mk.injEq] at e0 e1
  rw [e0.1, e0.2, hy0, cellsInt8] at g0
  rw [e1.1, e1.2, hy1, cellsFour8] at g1
  simp only [List.drop_zero, List.take_succ_cons, List.take_zero, List.drop_succ_cons] at g0 g1
  obtain ⟨z1, z2, z3, z4, m, _, h1, h2, h3, h4⟩ := trod_array4 Tryd.underlying67 cellsInt8 g1
  obtain ⟨op, k0, _, _⟩ := DataW.trod_int Tryd.underlying3 g0
  obtain ⟨a, k1, _, _⟩ := DataW.trod_int Tryd.underlying3 h1
  obtain ⟨b, k2, _, _⟩ := DataW.trod_int Tryd.underlying3 h2
  obtain ⟨c, k3, _, _⟩ := DataW.trod_int Tryd.underlying3 h3
  obtain ⟨d, k4, _, _⟩ := DataW.trod_int Tryd.underlying3 h4
  simp only [List.cons.injEq, and_true] at k0 k1 k2 k3 k4
  subst k0 k1 k2 k3 k4
  exact ⟨(op, a, b, c, d), rfl, trivial⟩

theorem str_in {fuel : Nat} {cs : List Value} {x : DataW H × List MemPlace} (h : DataW.trod enc Tryd.prog W 0 (fun _ => true) true fuel 9 cs = some x) : ∃ s : ByteArray, cs = [.string s] ∧ s.size ≤ maxLen := by
  obtain ⟨s, hs, _, hss⟩ := DataW.trod_string Tryd.underlying9 h
  exact ⟨s, hs, hss⟩

theorem fun_in {fuel : Nat} {cs : List Value} {x : DataW H × List MemPlace} (h : DataW.trod enc Tryd.prog W 0 (fun _ => true) true fuel 62 cs = some x) : ∃ f : ByteArray × Int, cs = funC f ∧ f.1.size ≤ maxLen := by
  obtain ⟨fs, hfs, hone, hsz, t0, t1⟩ := funUnder
  obtain ⟨hl, n, hf⟩ := one_fields hfs hone (by rw [cellsFun, hsz]) h
  rw [hsz] at hl
  obtain ⟨f0, hf0, e0⟩ := Option.map_eq_some_iff.1 t0
  obtain ⟨f1, hf1, e1⟩ := Option.map_eq_some_iff.1 t1
  obtain ⟨v0, y0, c0, d0⟩ := hf 0 f0 hf0
  obtain ⟨v1, y1, c1, d1⟩ := hf 1 f1 hf1
  rw [e0] at d0
  rw [e1] at d1
  obtain ⟨s, hs, _, hss⟩ := DataW.trod_string Tryd.underlying9 d0
  obtain ⟨k, hk, _, _⟩ := DataW.trod_int Tryd.underlying3 d1
  simp only [List.cons.injEq, and_true] at hs hk
  subst hs hk
  match cs, hl with
  | [a, b], _ =>
    simp at c0 c1
    subst c0 c1
    exact ⟨(s, k), rfl, hss⟩

theorem pred_in {fuel : Nat} {cs : List Value} {x : DataW H × List MemPlace} (h : DataW.trod enc Tryd.prog W 0 (fun _ => true) true fuel 65 cs = some x) : ∃ p : ByteArray × Int × Int, cs = predC p ∧ p.1.size ≤ maxLen := by
  obtain ⟨fs, hfs, hone, hsz, t0, t1, t2⟩ := predUnder
  obtain ⟨hl, n, hf⟩ := one_fields hfs hone (by rw [cellsPred, hsz]) h
  rw [hsz] at hl
  obtain ⟨f0, hf0, e0⟩ := Option.map_eq_some_iff.1 t0
  obtain ⟨f1, hf1, e1⟩ := Option.map_eq_some_iff.1 t1
  obtain ⟨f2, hf2, e2⟩ := Option.map_eq_some_iff.1 t2
  obtain ⟨v0, y0, c0, d0⟩ := hf 0 f0 hf0
  obtain ⟨v1, y1, c1, d1⟩ := hf 1 f1 hf1
  obtain ⟨v2, y2, c2, d2⟩ := hf 2 f2 hf2
  rw [e0] at d0
  rw [e1] at d1
  rw [e2] at d2
  obtain ⟨s, hs, _, hss⟩ := DataW.trod_string Tryd.underlying9 d0
  obtain ⟨k, hk, _, _⟩ := DataW.trod_int Tryd.underlying3 d1
  obtain ⟨m, hm, _, _⟩ := DataW.trod_int Tryd.underlying3 d2
  simp only [List.cons.injEq, and_true] at hs hk hm
  subst hs hk hm
  match cs, hl with
  | [a, b, c], _ =>
    simp at c0 c1 c2
    subst c0 c1 c2
    exact ⟨(s, k, m), rfl, hss⟩

/-- An object that came in. -/
theorem ob_in {fuel : Nat} {cs : List Value} {x : DataW H × List MemPlace} (h : DataW.trod enc Tryd.prog W 0 (fun _ => true) true fuel 27 cs = some x) :
    ∃ (o : Ob) (va vf vp vc : Value), cs = [va, vf, vp, vc] ∧ ObAt W va vf vp vc o ∧ (∀ s ∈ o.atoms, s.size ≤ maxLen) ∧ (∀ f ∈ o.funs, f.1.size ≤ maxLen) ∧ (∀ p ∈ o.preds, p.1.size ≤ maxLen) ∧ (∀ k c, va = .slice none k c → c = 0) ∧ ∀ k c, vp = .slice none k c → c = 0 := by
  obtain ⟨fs, hfs, hone, hsz, t0, t1, t2, t3⟩ := obUnder
  obtain ⟨hl, n, hf⟩ := one_fields hfs hone (by rw [cellsOb, hsz]) h
  rw [hsz] at hl
  obtain ⟨f0, hf0, e0⟩ := Option.map_eq_some_iff.1 t0
  obtain ⟨f1, hf1, e1⟩ := Option.map_eq_some_iff.1 t1
  obtain ⟨f2, hf2, e2⟩ := Option.map_eq_some_iff.1 t2
  obtain ⟨f3, hf3, e3⟩ := Option.map_eq_some_iff.1 t3
  obtain ⟨v0, y0, c0, d0⟩ := hf 0 f0 hf0
  obtain ⟨v1, y1, c1, d1⟩ := hf 1 f1 hf1
  obtain ⟨v2, y2, c2, d2⟩ := hf 2 f2 hf2
  obtain ⟨v3, y3, c3, d3⟩ := hf 3 f3 hf3
  rw [e0] at d0
  rw [e1] at d1
  rw [e2] at d2
  rw [e3] at d3
  obtain ⟨la, ha, qa, na⟩ := rows_in (fun s : ByteArray => [Value.string s]) 1 (fun _ => rfl) (by omega) (fun s => s.size ≤ maxLen) Tryd.underlying22 cellsStr8 (fun n cs' y h => str_in h) d0
  obtain ⟨lf, hf', qf, _⟩ := rows_in funC 2 (fun _ => rfl) (by omega) (fun f => f.1.size ≤ maxLen) Tryd.underlying23 cellsFun (fun n cs' y h => fun_in h) d1
  obtain ⟨lp, hp, qp, np⟩ := rows_in predC 3 (fun _ => rfl) (by omega) (fun p => p.1.size ≤ maxLen) Tryd.underlying24 cellsPred (fun n cs' y h => pred_in h) d2
  obtain ⟨lc, hc, _, _⟩ := rows_in insC 5 (fun _ => rfl) (by omega) (fun _ => True) Tryd.underlying25 cellsIns8 (fun n cs' y h => ins_in8 h) d3
  have ha' : AtomsAt W v0 la := by
    unfold AtomsAt
    rw [← flat_one8]
    exact ha
  match cs, hl with
  | [a, b, c, d], _ =>
    simp at c0 c1 c2 c3
    subst c0 c1 c2 c3
    exact ⟨⟨la, lf, lp, lc⟩, _, _, _, _, rfl, ⟨ha', hf', hp, hc⟩, qa, qf, qp, na, np⟩
end

/-! What the list of variables gives. -/
theorem gNam8 : Tryd.prog.globalNamed "resolvent/code.names" = some 0 := by kernel_rfl
theorem gNamType8 : (Tryd.prog.globals[0]?).map (·.type) = some 121 := by kernel_rfl
theorem cellsNam8 : Tryd.prog.cellsOf 121 = 27 := by kernel_rfl

/-- An array of strings that reads as these texts holds them, cell for cell. -/
theorem cells_of_strs8 {H : Type} {enc : TypeId × Value → H} {P : Program} {w : World} {base : Nat} {sp : Nat → Bool} {held : Bool} {fuel : Nat} {t e : TypeId} {n : Nat} {cs : List Value} {zs : List (List UInt8)} {p : List MemPlace}
    (ht : P.underlying t = some (.array n e)) (he : P.underlying e = some .string) (hce : P.cellsOf e = 1) (hct : P.cellsOf t = n)
    (h : DataW.trod enc P w base sp held fuel t cs = some (.agg (zs.map fun z => .lit (.string z)), p)) : cs = zs.map fun z => Value.string ⟨z.toArray⟩ := by
  cases fuel with
  | zero => simp [DataW.trod] at h
  | succ fuel =>
    simp only [DataW.trod, ht, hce, hct, Nat.mul_one] at h
    split at h
    · rename_i hl
      obtain ⟨xs, hm, hx⟩ := Option.map_eq_some_iff.1 h
      have hxs : xs.map (·.1) = zs.map fun z => (DataW.lit (.string z) : DataW H) := by
        have := congrArg Prod.fst hx
        simpa using this
      have hxl : xs.length = n := by simpa using Lib.mapM_length hm
      have hzl : zs.length = n := by
        have := congrArg List.length hxs
        simp at this
        omega
      apply List.ext_getElem?
      intro i
      by_cases hi : i < n
      · obtain ⟨b, hb, hf⟩ := Lib.mapM_at hm i i (by simp [hi])
        obtain ⟨z, hc, rfl, _⟩ := DataW.trod_string he hf
        have h1 : cs[i]? = some (.string z) := by
          have := congrArg (·[0]?) hc
          simpa [List.getElem?_take, List.getElem?_drop] using this
        have h2 : (xs.map (·.1))[i]? = some (DataW.lit (.string z.data.toList) : DataW H) := by simp [hb]
        rw [hxs] at h2
        simp only [List.getElem?_map, Option.map_eq_some_iff, DataW.lit.injEq, Lit.string.injEq] at h2
        obtain ⟨z', hz', hz''⟩ := h2
        have h3 : (⟨z'.toArray⟩ : ByteArray) = z := by rw [hz'']
        rw [h1, List.getElem?_map, hz', Option.map_some, h3]
      · rw [List.getElem?_eq_none (by omega), List.getElem?_eq_none (by simp; omega)]
    · cases h

theorem names_of8 {W : World} (h : laidMetH Tryd.prog Rows.objChecksRow.laid W) : NamesAt W := by
  have h1 := laidMetH.filter (fun x => x.1 == "resolvent/code.names") h
  have e : Rows.objChecksRow.laid.filter (fun x => x.1 == "resolvent/code.names") = [("resolvent/code.names", .agg (nameList.map fun z => .lit (.string z)))] := by kernel_rfl
  rw [e, MakeChecks.laidMetH_plain _ _ _ (by kernel_rfl)] at h1
  obtain ⟨ps, ⟨g', t', cs, fuel, p, q, hg', ht', hvar, hd, _, _⟩, _⟩ := h1
  obtain rfl := Option.some.inj (gNam8.symm.trans hg')
  obtain rfl := Option.some.inj (gNamType8.symm.trans ht')
  have hcs := cells_of_strs8 Tryd.underlying121 Tryd.underlying9 cellsStr8 cellsNam8 hd
  have hce : cs = namesArr := by
    apply Array.toList_inj.1
    rw [hcs]
    unfold namesArr
    rfl
  unfold World.var? at hvar
  rw [gNam8, Option.bind_some] at hvar
  split at hvar
  · rename_i cs' t fr hx
    injection hvar with hvar
    subst hvar
    rw [hce] at hx
    exact ⟨t, fr, hx⟩
  · cases hvar

end Go.Proofs.YtfknoecgcoapcaaDoor

namespace Go.Proofs.YtfknoecgcoapcaaDoor
open Go.ChangeShapes Go.WideShapes Go.ChangeAt Go.RowKit Go.Deep

noncomputable def laidWorld8 (os : Os) : World := World.doorLaid Tryd.prog 96 os
theorem laidOutTryd : laidOutB Tryd.prog = true := by kernel_rfl
theorem ownTryd : ownKnob Tryd.prog.godebug = none := by kernel_rfl
theorem readOb8 : Tryd.prog.readableRec 27 = true := by kernel_rfl
theorem rowOb8 : 27 < Tryd.prog.types.size := of_decide_eq_true (by kernel_rfl)
theorem readBys8 : Tryd.prog.readableRec 38 = true := by kernel_rfl
theorem rowBys8 : 38 < Tryd.prog.types.size := of_decide_eq_true (by kernel_rfl)

end Go.Proofs.YtfknoecgcoapcaaDoor

namespace Go.Proofs.YtfknoecgcoapcaaDoor
open Go.ChangeShapes Go.WideShapes Go.ChangeAt Go.RowKit Go.Deep
set_option linter.unusedVariables false
set_option linter.unusedSimpArgs false

theorem cell_block_lt {w : World} {a : Addr} {v : Value} (h : w.cell? a = some v) : a.block < w.heap.size := by
  unfold World.cell? at h
  split at h
  · rename_i hb; exact (Array.getElem?_eq_some_iff.1 hb).1
  · cases h
theorem cellsByte8 : Tryd.prog.cellsOf 5 = 1 := by kernel_rfl
theorem nat_of_wf8 {z : Int} (h : (Lit.int .u8 z).wf = true) : z = ((z.toNat : Nat) : Int) ∧ z.toNat < 256 := by
  have : 0 ≤ z ∧ z ≤ 255 := by simpa [Lit.wf, IntKind.min, IntKind.max, IntKind.signed, IntKind.bits] using h
  omega
/-- What the reading of a row of bytes gives. -/
theorem bys_in8 {H : Type} {enc : TypeId × Value → H} {W : World} {fuel base : Nat} {spare : Nat → Bool} {held : Bool} {oa : Option Addr} {len cap : Nat} {x : DataW H × List MemPlace}
    (h : DataW.trod enc Tryd.prog W base spare held fuel 38 [.slice oa len cap] = some x) : len ≤ cap ∧ cap ≤ 9223372036854775807 ∧ ∃ l : List Nat, l.length = len ∧ (∀ c ∈ l, c < 256) ∧ BysArg W (.slice oa len cap) l := by
  rcases open_ints Tryd.underlying38 Tryd.underlying5 cellsByte8 h with ⟨hcs, hx⟩ | ⟨a, len', cap', zs, hcs, _, hl, hm, hz, hx, hcell, hwz⟩
  · simp only [List.cons.injEq, Value.slice.injEq, and_true] at hcs
    obtain ⟨rfl, rfl, rfl⟩ := hcs
    exact ⟨Nat.le_refl _, Nat.zero_le _, [], rfl, by simp, .inl ⟨rfl, _, _, rfl⟩⟩
  · simp only [List.cons.injEq, Value.slice.injEq, and_true] at hcs
    obtain ⟨rfl, rfl, rfl⟩ := hcs
    have hzl : len ≤ zs.length := by rw [hz]; split <;> omega
    have hcm : cap ≤ 9223372036854775807 := by unfold maxLen at hm; exact hm
    refine ⟨hl, hcm, (zs.take len).map Int.toNat, by simp; omega, ?_, ?_⟩
    · intro c hc
      obtain ⟨z, hz1, rfl⟩ := List.mem_map.1 hc
      exact (nat_of_wf8 (hwz z (List.mem_of_mem_take hz1))).2
    · by_cases h0 : len = 0
      · subst h0
        exact .inl ⟨by simp, _, _, rfl⟩
      · obtain ⟨b, off, spot⟩ := a
        have hspot : spot = none := by simpa [Addr.add] using World.cell?_spot (hcell 0 (by omega))
        subst hspot
        have hlen : ((zs.take len).map Int.toNat).length = len := by simp; omega
        have hbw : b < W.heap.size := by
          have h1 := hcell 0 (by omega)
          rw [add_plain] at h1
          exact cell_block_lt h1
        refine .inr (.inr ⟨b, off, cap, by rw [hlen], by rw [hlen]; exact hl, hcm, hbw, fun k hk => ?_⟩)
        rw [hlen] at hk
        have h1 := hcell k (by omega)
        rw [add_plain] at h1
        rw [h1]
        have hk2 : k < zs.length := by omega
        have e1 : zs.getD k 0 = zs[k] := by rw [List.getD_eq_getElem?_getD, List.getElem?_eq_getElem hk2]; rfl
        have e2 : ((zs.take len).map Int.toNat).getD k 0 = zs[k].toNat := by
          rw [List.getD_eq_getElem?_getD, List.getElem?_map, List.getElem?_take, if_pos hk, List.getElem?_eq_getElem hk2]; rfl
        rw [e1, e2, ← (nat_of_wf8 (hwz _ (List.getElem_mem hk2))).1]

set_option maxRecDepth 100000 in
theorem objDecodesContract (H : Type) (enc : TypeId × Value → H) (W : World) (base : Nat) (args : Array Value) (ds gs : List (DataW H)) (before : List MemPlace)
    (hval : ∀ (j : Nat) t v, Tryd.f4.params[j]? = some t → args[j]? = some v → Value.okWide Tryd.prog W .any base t v)
    (hW : DataW.Whole enc Tryd.prog Tryd.f4.params.toList Rows.objDecodesSpec.vars false W args.toList ds gs before) (hL : laidMetH Tryd.prog Rows.objDecodesRow.laid W) (hsh : W.ShapedOpen Tryd.prog) :
    Calls Tryd.prog 4 args W fun e W' => ∃ v, e = .returned v ∧ Rows.objDecodesSpec.post enc Tryd.prog Tryd.f4 false true false false W args v W' := by
  have hW' := hW
  have hold : ∀ x ∈ before, x.block < W.heap.size := fun x hx => hW.lt x hx
  obtain ⟨p, q, hA0, hV, rfl, hfz, hnd⟩ := hW
  have hA : DataW.TrodAll enc Tryd.prog W 0 (fun _ => true) true Tryd.f4.params.toList args.toList ds p := hA0
  rw [Tryd.params4] at hA hval
  obtain ⟨v0, vs0, d0, ds0, p0, q0, hargs, rfl, rfl, h0, r0⟩ := trodAll_cons hA
  obtain ⟨rfl, rfl, rfl⟩ := trodAll_nil r0
  obtain rfl : args = #[v0] := by cases args; simp_all
  obtain ⟨rfl, rfl⟩ := trodVars_none hV
  obtain ⟨oa0, len0, cap0, rfl⟩ := okWide_slice Tryd.underlying38 (hval 0 38 v0 rfl rfl)
  clear hA0
  have hin0 : ∀ x ∈ p0, x ∈ (p0 ++ []) ++ [] := fun x hx => by simp [hx]
  obtain ⟨fuel0, hf0⟩ := id h0
  have hL8 : laidMetH Tryd.prog Rows.objChecksRow.laid W := hL
  obtain ⟨hlc0, hcm0, l0, hll0, hlt0, hba0⟩ := bys_in8 hf0
  subst hll0
  refine (objDecodes_any l0 hlt0 oa0 cap0 hlc0 hcm0 W (names_of8 hL8) hba0 (arg_head rfl hba0)).mono fun e W' ⟨he, hg⟩ => ?_
  subst he
  exact ⟨_, rfl, post_below (pa := p0 ++ []) (pv := []) hW' (fun _ _ _ => (trodAll_cons_mk (shut_bool Tryd.underlying4 _) trodAll_mk0))
    (fun sp hsp => (trodAll_cons_mk (WideElems.Trod_stays laidOutTryd readBys8 rowBys8 h0 (fun x hx => hg.same (hold x (hin0 x hx))) (fun x hx => hsp x (hin0 x hx))) trodAll_mk0)) (fun _ _ => rfl) rfl
    hg (ok_one (by kernel_rfl) rfl (okWide_bool_mk Tryd.underlying4 _))⟩

theorem objDecodesMet (os : Os) : laidMet Tryd.prog Rows.objDecodesRow.laid ((laidWorld8 os).forCall (fun _ _ => 0) ⟨#[], #[.slice none 0 0], []⟩).memory :=
  laidMet_of_run' 8 (by kernel_rfl) (by kernel_rfl)
theorem objDecodesReads (os : Os) {H : Type} (enc : TypeId × Value → H) : ∃ places, DataW.whole enc Tryd.prog ((laidWorld8 os).forCall (fun _ _ => 0) ⟨#[], #[.slice none 0 0], []⟩).memory Tryd.f4.params.toList Rows.objDecodesSpec.vars false (#[.slice none 0 0] : Array Value).toList 8 = some ([.nil], [], places) :=
  ⟨[], by kernel_rfl⟩

set_option maxRecDepth 100000 in
theorem objDecodesLifted (os : Os) (started : os.Started) (H : Type) (enc : TypeId × Value → H) (F : Stop.Interp) :
    ReturnsInHanded {} Tryd.checked os 4 .any ((OpenSpec.ofChange Rows.objDecodesSpec).preRow enc Tryd.prog Tryd.f4 Rows.objDecodesRow.domain false Rows.objDecodesRow.laid) (((OpenSpec.ofChange Rows.objDecodesSpec).at F).post enc Tryd.prog Tryd.f4 false true false false) := by
  obtain ⟨places, hx⟩ := objDecodesReads os enc
  refine returnsInHanded_of_row (C := Tryd.checked) (s := OpenSpec.ofChange Rows.objDecodesSpec) ownTryd started (by kernel_rfl) Tryd.func4
    (witness_row_at (enc := enc) (C := Tryd.checked) false (laidWorld8 os) #[.slice none 0 0] rfl (by kernel_rfl) (by kernel_rfl) (by kernel_rfl)
      (OpenSpec.preRow_of_cond 8 hx (by kernel_rfl) (fun k hk => by cases hk) (by kernel_rfl) (objDecodesMet os))) ?_
  intro W base args ds gs before hval hW _ _ _ hL hsh _
  exact objDecodesContract H enc W base args ds gs before hval hW hL hsh

theorem objDecodesSaid : Rows.ObjDecodesSaid :=
  OpenClaim.holds_of_cond 4 Tryd.f4 rfl rfl rfl rfl rfl rfl rfl ⟨rfl, rfl, rfl, rfl, rfl⟩ rfl rfl rfl rfl rfl (by kernel_rfl) Tryd.func4 (by kernel_rfl)
    (of_decide_eq_true (by kernel_rfl)) (by unfold Func.isWrapper; first | (rw [if_pos (by decide +kernel)]; kernel_rfl) | (rw [if_neg (by decide +kernel)]; exact ⟨rfl, rfl⟩))
    (fun os started H enc _ F => by rw [OpenClaim.pre_eq_preRow]; exact objDecodesLifted os started H enc F)

/-- No parameter wants a stand-in. -/
theorem objDecodesPlain (f : FuncId) (fn : Func) (hf : Tryd.pinned.checked.prog.funcNamed "resolvent/resolventlaw08.ObjDecodes" = some f) (hfn : Tryd.pinned.checked.prog.funcs[f]? = some fn) :
    false = Tryd.pinned.checked.prog.looks [] ∧ ∀ (j : Nat) t, fn.params[j]? = some t → Tryd.pinned.checked.prog.wantsStandIn t = false := by
  obtain rfl : f = 4 := Option.some.inj ((show Tryd.prog.funcNamed "resolvent/resolventlaw08.ObjDecodes" = some 4 by kernel_rfl).symm.trans hf) |>.symm
  obtain rfl : fn = Tryd.f4 := (Option.some.inj (Tryd.func4.symm.trans hfn)).symm
  refine ⟨by kernel_rfl, fun j t ht => ?_⟩
  rw [Tryd.params4] at ht
  have hm : t = 38 := by have := Array.mem_of_getElem? ht; first | simpa using this | (simp at this; rcases this with h <;> simp [h])
  rcases hm with rfl
  · exact (show Tryd.prog.wantsStandIn 38 = false by kernel_rfl)

/-- The card. -/
theorem objDecodes_holds : Rows.ObjDecodesCardSaid :=
  Claim7.holds_tied_plain_at .later [] _ _ _ _ objDecodesSaid (fun _ h => by cases h) (by kernel_rfl) (fun _ h => by cases h) objDecodes_row_tie rfl ⟨rfl, rfl⟩ (by kernel_rfl) rfl objDecodesPlain (by kernel_rfl)

end Go.Proofs.YtfknoecgcoapcaaDoor
