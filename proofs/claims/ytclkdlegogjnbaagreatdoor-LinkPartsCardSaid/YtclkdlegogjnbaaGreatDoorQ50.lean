/-
  2 texts in one (AsmX AsmY). Conditions: those of each theorem.
-/
import Derived.Test.YtclkdlegogjnbaaGreatDoorQ49
import Derived.Laws.MakeOwn
namespace Go.Proofs.YtclkdlegogjnbaaGreatDoor
open Go Go.RowKit Go.WideShapes Go.ChangeShapes
set_option linter.unusedVariables false
set_option linter.unusedSimpArgs false

/-- Has one of an instruction's first m operands this place as a label? -/
def labI (i : Ins) (m : Nat) (j : Nat) : Bool := (List.range m).any fun q => decide ((opsOf i.1).getD q 0 = 8 ∧ (argOf i).getD q 0 ≠ 65535 ∧ (argOf i).getD q 0 = (j : Int))
def labTo (code : List Ins) (k j : Nat) : Bool := (code.take k).any fun i => labI i (opsOf i.1).length j
theorem labI_succ (i : Ins) (m j : Nat) : labI i (m + 1) j = (labI i m j || decide ((opsOf i.1).getD m 0 = 8 ∧ (argOf i).getD m 0 ≠ 65535 ∧ (argOf i).getD m 0 = (j : Int))) := by
  unfold labI
  rw [List.range_succ, List.any_append]
  simp
theorem labTo_succ (code : List Ins) (k j : Nat) (h : k < code.length) : labTo code (k + 1) j = (labTo code k j || labI code[k] (opsOf code[k].1).length j) := by
  unfold labTo
  rw [List.take_succ_eq_append_getElem h, List.any_append]
  simp
/-- A row of bools. -/
def boolsC (n : Nat) (S : Nat → Bool) : Array Value := ((List.range n).map fun j => Value.bool (S j)).toArray
theorem boolsC_at (n : Nat) (S : Nat → Bool) (j : Nat) (h : j < n) : (boolsC n S)[j]? = some (.bool (S j)) := by simp [boolsC, h]
theorem boolsC_set (n : Nat) (S : Nat → Bool) (m : Nat) : (boolsC n S).setIfInBounds m (.bool true) = boolsC n (fun j => S j || decide (m = j)) := by
  apply Array.ext (by simp [boolsC])
  intro j h1 h2
  rw [Array.getElem_setIfInBounds]
  split
  · rename_i h
    subst h
    simp [boolsC]
  · rename_i h
    simp [boolsC, h]
  · simpa [boolsC] using h2

theorem bools_none (n : Nat) (z : Array Value) (hz : z = #[.bool false]) : madeCells z n = boolsC n (fun _ => false) := by
  subst hz
  apply Array.ext (by simp [boolsC, madeCells])
  intro j h1 h2
  have e : j % (#[Value.bool false] : Array Value).size = 0 := Nat.mod_one j
  simp [boolsC, madeCells, Nat.mod_one]
theorem slBools : Tryz.prog.underlying 73 = some (.slice 4) := by kernel_rfl
theorem infoBool : (Tryz.prog.info? 4).map (fun i => (i.zero, i.size, i.bytes)) = some (some (.bool false), 1, 1) := by kernel_rfl
theorem run_makeBools (n : Nat) (hn : n ≤ 1000000) (w : World) : (Instr.makeSlice 73 (.int .i64 (n : Int)) (.int .i64 (n : Int))).run Tryz.prog w = .ok (.slice (some ⟨w.heap.size, 0, none⟩) n n) (w.alloc (.cells (boolsC n (fun _ => false)) 4)) := by
  obtain ⟨i, hi1, hz0, hz1, hz2⟩ := info_parts infoBool
  have h := run_makeSlice (P := Tryz.prog) w 73 4 i (.bool false) slBools hi1 hz0 .i64 .i64 (n : Int) (n : Int) (by omega) (Int.le_refl _) (by rw [hz1]; simp; omega) (by rw [hz2]; omega) (by omega)
  rw [hz1] at h
  simp only [Int.toNat_natCast, Nat.mul_one] at h
  rw [bools_none n (Value.bool false).cells rfl] at h
  exact h

set_option maxRecDepth 100000 in
set_option maxHeartbeats 8000000 in
theorem labels_any (l : List Ins) (hm : l.length ≤ 1000000) (hlab : ∀ i ∈ l, ∀ j, j < (opsOf i.1).length → (opsOf i.1).getD j 0 = 8 → (argOf i).getD j 0 ≠ 65535 → 0 ≤ (argOf i).getD j 0 ∧ (argOf i).getD j 0 < (l.length : Int)) (v : Value) (w : World) (hv : CodeAt w v l) :
    Calls Tryz.prog 43 #[v] w fun e w' => ∃ g, e = .returned (.slice (some ⟨g, 0, none⟩) l.length l.length) ∧ w.heap.size ≤ g ∧ Box w' g 4 (boolsC l.length (labTo l l.length)) ∧ Below w.heap.size w w' := by
  obtain ⟨A, c, rfl⟩ := hv.form
  have HV := Lib.hid hv
  have HLAB := Lib.hid hlab
  have hmk := run_makeBools l.length hm w
  have HBX := Lib.hid (Box.new w 4 (boolsC l.length (fun _ => false)))
  have HB0 := Lib.hid (alloc_below w (.cells (boolsC l.length (fun _ => false)) 4))
  obtain ⟨gb, hgb⟩ : ∃ gb, w.heap.size = gb := ⟨_, rfl⟩
  have HGB : Hid (w.heap.size ≤ gb) := Lib.hid (by omega)
  obtain ⟨w1, hw1⟩ : ∃ w1, w.alloc (.cells (boolsC l.length (fun _ => false)) 4) = w1 := ⟨_, rfl⟩
  rw [hw1] at hmk HBX HB0
  rw [hgb] at hmk HBX
  have H0 : Hid (boolsC l.length (labTo l 0) = boolsC l.length (fun _ => false)) := Lib.hid rfl
  rw [← H0.out] at HBX
  clear hv hlab hw1 hgb
  go_enter Tryz.func43, Tryz.ntmps43
  go_upto_region 3 with (fail)
  go_wp2
  go_loopw [5, 6, 7, 13, 21] (fun _ _ _ i _ wr => ∃ k : Nat, k ≤ l.length ∧ i = .int .i64 k ∧ Hid (Box wr gb 4 (boolsC l.length (labTo l k))) ∧ Hid (Below w.heap.size w wr)) (fun _ _ _ i _ _ => l.length - (intOf i).toNat)
  case atStart => exact ⟨0, by omega, rfl, HBX, HB0⟩
  obtain ⟨k, hkl, rfl, HX, HB⟩ := hrel
  clear HBX HB0 H0 hmk
  by_cases hlt : k < l.length
  case neg =>
    obtain rfl : k = l.length := by omega
    go_wp2
    go_ret
    exact ⟨gb, rfl, HGB.out, HX.out, HB.out⟩
  case pos =>
  obtain ⟨b, off, rfl, hb, c0, c1, c2, c3, c4⟩ := insCell HV.out k hlt
  have d0 := (HB.out.cell (p := ⟨b, off + k * 5, none⟩) hb).trans c0
  have d1 := (HB.out.cell (p := ⟨b, off + k * 5 + 1, none⟩) hb).trans c1
  have d2 := (HB.out.cell (p := ⟨b, off + k * 5 + 2, none⟩) hb).trans c2
  have d3 := (HB.out.cell (p := ⟨b, off + k * 5 + 3, none⟩) hb).trans c3
  have d4 := (HB.out.cell (p := ⟨b, off + k * 5 + 4, none⟩) hb).trans c4
  have HSU := Lib.hid (fun j => labTo_succ l k j hlt)
  have HLI := Lib.hid (HLAB.out l[k] (List.getElem_mem hlt))
  have HIC := Lib.hid (fun m hm => ins_at l[k] m hm)
  have hfew := ops_few l[k].1
  have HLS := Lib.hid (fun m j => labI_succ l[k] m j)
  have HL0 : Hid (∀ j, labI l[k] 0 j = false) := Lib.hid (fun j => rfl)
  have HIA : Hid ((insC l[k]).toArray = #[.int .i64 l[k].1, .int .i64 l[k].2.1, .int .i64 l[k].2.2.1, .int .i64 l[k].2.2.2.1, .int .i64 l[k].2.2.2.2]) := Lib.hid rfl
  generalize l[k] = ii at *
  have HBI := Lib.hid (alloc_below wr (.cells #[.int .i64 ii.1, .int .i64 ii.2.1, .int .i64 ii.2.2.1, .int .i64 ii.2.2.2.1, .int .i64 ii.2.2.2.2] 52))
  have HXI := Lib.hid (Box.new wr 52 #[.int .i64 ii.1, .int .i64 ii.2.1, .int .i64 ii.2.2.1, .int .i64 ii.2.2.2.1, .int .i64 ii.2.2.2.2])
  rw [← HIA.out] at HBI HXI
  have x0 : (wr.alloc (.cells #[.int .i64 ii.1, .int .i64 ii.2.1, .int .i64 ii.2.2.1, .int .i64 ii.2.2.2.1, .int .i64 ii.2.2.2.2] 52)).cell? ⟨wr.heap.size, 0, none⟩ = some (.int .i64 ii.1) := by
    rw [← HIA.out, HXI.out.cell 0]
    rfl
  have HOPS := Lib.hid (fun w => operands_any ii.1 w)
  clear c0 c1 c2 c3 c4
  go_upto_region 6 with (go_at_call 55; refine (HOPS.out _).mono ?_; rintro e w4 hN; obtain ⟨pl, rfl, hb4, hl4⟩ := newInts_any9 hN; have HB4 := Lib.hid hb4; have HL4 := Lib.hid hl4; clear hN hb4 hl4)
  obtain ⟨w3, hw3⟩ : ∃ w3, wr.alloc (.cells #[.int .i64 ii.1, .int .i64 ii.2.1, .int .i64 ii.2.2.1, .int .i64 ii.2.2.2.1, .int .i64 ii.2.2.2.2] 52) = w3 := ⟨_, rfl⟩
  rw [HIA.out] at HBI HXI
  rw [hw3] at HB4 HL4 HBI HXI
  rw [← HIA.out] at HXI
  obtain ⟨gi, hgi⟩ : ∃ gi, wr.heap.size = gi := ⟨_, rfl⟩
  obtain ⟨gl, hgl⟩ : ∃ gl, w3.heap.size = gl := ⟨_, rfl⟩
  have HNE : Hid (gb < gi ∧ gi < gl) := Lib.hid ⟨by have := HX.out.lt; omega, by have := HXI.out.lt; omega⟩
  rw [hgl] at HL4
  rw [hgi] at HXI ⊢
  have HXI4 := Lib.hid (HXI.out.below HB4.out HXI.out.lt)
  have HX4 := Lib.hid ((HX.out.below HBI.out HX.out.lt).below HB4.out (Nat.lt_of_lt_of_le HX.out.lt HBI.out.size))
  have HBW4 := Lib.hid ((HB.out.trans (HBI.out.mono HB.out.size)).trans (HB4.out.mono (Nat.le_trans HB.out.size HBI.out.size)))
  have HS0 : Hid (boolsC l.length (fun j => labTo l k j || labI ii 0 j) = boolsC l.length (labTo l k)) := Lib.hid (by congr 1; funext j; rw [HL0.out, Bool.or_false])
  rw [← HS0.out] at HX4
  generalize opsOf ii.1 = L at *
  clear hw3 hgi hgl HB4 HBI HXI x0 d0 d1 d2 d3 d4 HOPS HS0 HX HB HL0 HIA
  go_wp2
  go_loopw [6, 7, 21] (fun _ _ i wr => ∃ m : Nat, m ≤ L.length ∧ i = .int .i64 m ∧ Hid (Box wr gb 4 (boolsC l.length (fun j => labTo l k j || labI ii m j))) ∧ Hid (Box wr gi 52 (insC ii).toArray) ∧ Hid (0 < L.length → pl = some ⟨gl, 0, none⟩ ∧ Box wr gl 3 (L.map (Value.int .i64)).toArray) ∧ Hid (Below w.heap.size w wr)) (fun _ _ i _ => L.length - (intOf i).toNat)
  case atStart => exact ⟨0, by omega, rfl, HX4, HXI4, HL4, HBW4⟩
  obtain ⟨m, hmL, rfl, HX, HXI, HL, HB⟩ := hrel
  clear HX4 HXI4 HL4 HBW4
  by_cases hlm : m < L.length
  case neg =>
    obtain rfl : m = L.length := by omega
    have HS1 : Hid (boolsC l.length (labTo l (k + 1)) = boolsC l.length (fun j => labTo l k j || labI ii L.length j)) := Lib.hid (by congr 1; funext j; rw [HSU.out])
    go_wp2
    go_roundw
    case rel => exact ⟨k + 1, by omega, by go_num, Lib.hid (by rw [HS1.out]; exact HX.out), HB⟩
    case measure => simp [intOf]; omega
  case pos =>
  obtain ⟨rfl, hbl⟩ := HL.out (by omega)
  have HBL := Lib.hid hbl
  have hkd := hbl.cell m
  rw [show (L.map (Value.int .i64)).toArray[m]? = some (.int .i64 (L.getD m 0)) by simp [hlm]] at hkd
  have hcc := (HXI.out.cell (1 + m)).trans (HIC.out m (by omega))
  have hlx := HLI.out m hlm
  have HSM := Lib.hid (fun j => HLS.out m j)
  have hm4 : (m : Int) < 4 := by omega
  have hm0 : (0 : Int) ≤ (m : Int) := by omega
  clear hbl HL
  generalize L.getD m 0 = kd at *
  generalize (argOf ii).getD m 0 = nn at *
  by_cases h8 : kd = 8 ∧ nn ≠ 65535
  case neg =>
    have HS1 : Hid (boolsC l.length (fun j => labTo l k j || labI ii (m + 1) j) = boolsC l.length (fun j => labTo l k j || labI ii m j)) := Lib.hid (by
      congr 1; funext j
      rw [HSM.out, show decide (kd = 8 ∧ nn ≠ 65535 ∧ nn = (j : Int)) = false from decide_eq_false (fun h => h8 ⟨h.1, h.2.1⟩), Bool.or_false])
    by_cases hk8 : kd = 8
    · have hn : nn = 65535 := by
        by_cases h : nn = 65535
        · exact h
        · exact absurd ⟨hk8, h⟩ h8
      subst hk8 hn
      clear h8 hlx
      go_wp2
      go_roundw
      case rel => exact ⟨m + 1, by omega, by go_num, Lib.hid (by rw [HS1.out]; exact HX.out), HXI, Lib.hid (fun _ => ⟨by trivial, HBL.out⟩), HB⟩
      case measure => simp [intOf]; omega
    · have e8 : (kd == 8) = false := by simpa using hk8
      clear h8 hlx hk8
      go_wp2
      go_roundw
      case rel => exact ⟨m + 1, by omega, by go_num, Lib.hid (by rw [HS1.out]; exact HX.out), HXI, Lib.hid (fun _ => ⟨by trivial, HBL.out⟩), HB⟩
      case measure => simp [intOf]; omega
  case pos =>
  obtain ⟨rfl, hn⟩ := h8
  obtain ⟨hx0, hx1⟩ := hlx rfl hn
  obtain ⟨a, rfl⟩ := Int.eq_ofNat_of_zero_le hx0
  have ha : a < l.length := by omega
  have HS1 : Hid (boolsC l.length (fun j => labTo l k j || labI ii (m + 1) j) = (boolsC l.length (fun j => labTo l k j || labI ii m j)).setIfInBounds a (.bool true)) := Lib.hid (by
    rw [boolsC_set]
    congr 1; funext j
    rw [HSM.out, Bool.or_assoc]
    congr 2
    by_cases e : a = j
    · subst e
      rw [decide_eq_true rfl]
      exact decide_eq_true ⟨rfl, hn, rfl⟩
    · rw [decide_eq_false e]
      exact decide_eq_false (fun h => e (by omega)))
  have en : ((a : Int) != 65535) = true := by rw [bne_iff_ne]; exact hn
  have hbc := (HX.out.cell a).trans (boolsC_at _ _ a ha)
  have hbf := HX.out.frozen a
  have hne1 : gi ≠ gb := by have := HNE.out; omega
  have hne2 : gl ≠ gb := by have := HNE.out; omega
  clear hlx hn hx0
  go_wp2
  go_roundw
  case rel => exact ⟨m + 1, by omega, by go_num, Lib.hid (by rw [HS1.out]; exact HX.out.set_ a _), Lib.hid (HXI.out.far (p := ⟨gb, a, none⟩) hne1 _), Lib.hid (fun _ => ⟨by trivial, HBL.out.far (p := ⟨gb, a, none⟩) hne2 _⟩), Lib.hid (HB.out.setCell (p := ⟨gb, a, none⟩) HGB.out _)⟩
  case measure => simp [intOf]; omega

end Go.Proofs.YtclkdlegogjnbaaGreatDoor

namespace Go.Proofs.YtclkdlegogjnbaaGreatDoor
open Go Go.RowKit Go.WideShapes Go.ChangeShapes
set_option linter.unusedVariables false
set_option linter.unusedSimpArgs false

theorem namesWf_of {o : Ob} (h : ObOk o) : NamesWf o := by
  refine ⟨fun s hs => ?_, fun f hf => ?_, fun p hp => ?_⟩
  · have := name_size (h.atoms s hs); omega
  · have h1 := h.funs f hf
    have := name_size h1.1
    omega
  · have h1 := h.preds p hp
    have := name_size h1.1
    omega
theorem ins_right {o : Ob} (h : ObOk o) {i : Ins} (hi : i ∈ o.code) : rightB i.1 (argOf i) = true := (insErr_ne (h.code i hi)).2.2.1
theorem ins_tab {o : Ob} (h : ObOk o) {i : Ins} (hi : i ∈ o.code) (j : Nat) (hj : j < (opsOf i.1).length) : inTab o ((opsOf i.1).getD j 0) ((argOf i).getD j 0) := by
  have hfew := ops_few i.1
  have h1 := insErr_ne (h.code i hi)
  have h2 := may_bd (right_at h1.2.2.1 j (by omega))
  have h3 := List.all_eq_true.1 h1.2.2.2 j (List.mem_range.2 hj)
  simp only [thereB] at h3
  generalize (opsOf i.1).getD j 0 = kd at *
  generalize (argOf i).getD j 0 = n at *
  refine ⟨h2.1, by omega, fun e => ?_, fun e => ?_, fun e => ?_⟩
  · subst e
    have := of_decide_eq_true h3
    omega
  · subst e
    have := of_decide_eq_true h3
    omega
  · subst e
    have := of_decide_eq_true h3
    omega
theorem ins_lab {o : Ob} (h : ObOk o) : ∀ i ∈ o.code, ∀ j, j < (opsOf i.1).length → (opsOf i.1).getD j 0 = 8 → (argOf i).getD j 0 ≠ 65535 → 0 ≤ (argOf i).getD j 0 ∧ (argOf i).getD j 0 < (o.code.length : Int) := by
  intro i hi j hj h8 hn
  have h1 := insErr_ne (h.code i hi)
  have h3 := List.all_eq_true.1 h1.2.2.2 j (List.mem_range.2 hj)
  simp only [thereB] at h3
  rw [h8] at h3
  generalize (argOf i).getD j 0 = n at *
  rcases of_decide_eq_true h3 with h4 | h4
  · exact absurd h4 hn
  · exact h4

def predLn (p : ByteArray × Int × Int) : List UInt8 := predWord ++ funW (p.1, p.2.1)
def predLns (o : Ob) (at_ q : Nat) : List (List UInt8) := ((o.preds.take q).filter fun p => p.2.2 == (at_ : Int)).map predLn
def labLn (o : Ob) (at_ : Nat) : List (List UInt8) := if labTo o.code o.code.length at_ = true then [64 :: Lib.itoa (at_ : Int)] else []
def placeLns (o : Ob) (at_ : Nat) : List (List UInt8) := predLns o at_ o.preds.length ++ labLn o at_ ++ [lineL o (o.code.getD at_ (0, 0, 0, 0, 0))]
def linesTo (o : Ob) (k : Nat) : List (List UInt8) := (List.range k).flatMap (placeLns o)
/-- An object's lines. -/
def linesOf (o : Ob) : List (List UInt8) := if checkOf o ≠ 0 then [] else linesTo o o.code.length
theorem linesTo_succ (o : Ob) (k : Nat) : linesTo o (k + 1) = linesTo o k ++ placeLns o k := by
  unfold linesTo
  rw [List.range_succ, List.flatMap_append]
  simp
theorem predLns_yes {o : Ob} {k q : Nat} (h : q < o.preds.length) (he : o.preds[q].2.2 = (k : Int)) : predLns o k (q + 1) = predLns o k q ++ [predLn o.preds[q]] := by
  unfold predLns
  rw [List.take_succ_eq_append_getElem h, List.filter_append, List.map_append]
  simp [he]
theorem predLns_no {o : Ob} {k q : Nat} (h : q < o.preds.length) (he : o.preds[q].2.2 ≠ (k : Int)) : predLns o k (q + 1) = predLns o k q := by
  unfold predLns
  rw [List.take_succ_eq_append_getElem h, List.filter_append, List.map_append]
  simp [he]
def strC (us : List (List UInt8)) : List Value := us.map fun u => Value.string (bs u)

/-- Lines' memory: the row of lines; the object; which places are labels. -/
structure Lm (w wr : World) (go gb : Nat) (cs : Array Value) (n : Nat) (S : Nat → Bool) (vl : Value) (us : List (List UInt8)) : Prop where
  row : wr.ownsRow w.heap.size 9 1 vl us.length (strC us)
  ob : Box wr go 39 cs
  lab : Box wr gb 4 (boolsC n S)
  below : Below w.heap.size w wr
section
variable {w wr w' : World} {go gb : Nat} {cs : Array Value} {n : Nat} {S : Nat → Bool} {vl : Value} {us : List (List UInt8)}
theorem Lm.goes (h : Lm w wr go gb cs n S vl us) (hb : Below wr.heap.size wr w') : Lm w w' go gb cs n S vl us :=
  ⟨own_fr h.row (Fr.of_below (S := fun _ => False) hb) (fun _ _ x => x), h.ob.below hb h.ob.lt, h.lab.below hb h.lab.lt, h.below.trans (hb.mono h.below.size)⟩
theorem Lm.app {v6 : Value} {x : ByteArray} {y : List UInt8} {n0 : Nat} (h : Lm w wr go gb cs n S vl us) (hn : us.length = n0) (ha : App wr w' w.heap.size 9 1 vl v6 (n0 + 1) (strC us ++ [.string x])) (hx : x = bs y) : Lm w w' go gb cs n S v6 (us ++ [y]) := by
  subst hx
  subst hn
  refine ⟨?_, h.ob.fr ha.fr (fun e => own_ne_box h.row h.ob (by decide) _ e rfl), h.lab.fr ha.fr (fun e => own_ne_box h.row h.lab (by decide) _ e rfl), h.below.trans (ha.fr.below h.below.size (fun k hk => (own_ge h.row hk).1))⟩
  have := ha.own
  simpa [strC] using this
theorem Lm.keep (h : Lm w wr go gb cs n S vl us) {v6 : Value} {m : Nat} {xs : List Value} (ha : App wr w' w.heap.size 9 1 vl v6 m xs) {g : Nat} {t : TypeId} {ds : Array Value} (hg : Box wr g t ds) (hne : 9 ≠ t) : Box w' g t ds :=
  hg.fr ha.fr (fun e => own_ne_box h.row hg hne _ e rfl)
end

end Go.Proofs.YtclkdlegogjnbaaGreatDoor
