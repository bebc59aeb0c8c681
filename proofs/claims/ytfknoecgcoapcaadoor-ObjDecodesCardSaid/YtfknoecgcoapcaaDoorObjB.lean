/-
  The program's twice, of names and of names with arities: is one there twice? By a map of what has been seen, in new memory. Conditions: lengths and arities are such as may be.
-/
import Derived.Test.YtfknoecgcoapcaaDoorObjA
import Derived.Maps.Own
import Derived.Maps.Views
import Derived.Maps.OwnSet
import Derived.DeepKeys4
import Derived.StringKeys
namespace Go.Proofs.YtfknoecgcoapcaaDoor
open Go Go.RowKit Go.WideShapes Go.ChangeShapes Go.Maps
set_option linter.unusedVariables false
set_option linter.unusedSimpArgs false

/-- What has been seen, as a reading. -/
def seenL (acc : List (List UInt8)) : DataW Unit := setOf (.lit (.bool true)) (acc.map Lit.string)
theorem seenL_fold (n : List UInt8) (z : DataW Unit) : ∀ (acc : List (List UInt8)) (m : DataW Unit), IsMap m →
    ((acc.map Lit.string).foldl (fun m x => m.put x (.lit (.bool true))) m).atKey (.string n) z = if n ∈ acc then .lit (.bool true) else m.atKey (.string n) z
  | [], m, _ => by simp
  | a :: r, m, hm => by
    rw [List.map_cons, List.foldl_cons, seenL_fold n z r _ (hm.put _ _)]
    by_cases h : n = a
    · subst h
      rw [atKey_put_same hm (show WideAt.IsKeyLit (Lit.string n) from trivial)]
      simp
    · rw [atKey_put_other (by simpa using h)]
      simp [h]
theorem seenL_at (acc : List (List UInt8)) (n : List UInt8) : (seenL acc).atKey (.string n) (.lit (.bool false)) = .lit (.bool (decide (n ∈ acc))) := by
  unfold seenL setOf
  rw [seenL_fold n _ acc _ isMap_empty]
  by_cases h : n ∈ acc <;> simp [h] <;> rfl
theorem uBool : Tryd.prog.underlying 4 = some .bool := by kernel_rfl
theorem zBool (w : World) : (zeroValue 4).run Tryd.prog w = .ok (.bool false) w := by kernel_rfl

/-- A map of what has been seen. -/
def SetAt (w : World) (k : TypeId) (M : Nat) (acc : List (List UInt8)) : Prop := w.ownsMap Tryd.prog k (plainElem Tryd.prog 4) M acc.length (seenL acc)
theorem SetAt.lt {w : World} {k : TypeId} {M : Nat} {acc : List (List UInt8)} (h : SetAt w k M acc) : M < w.heap.size := World.ownsMap.lt h
theorem SetAt.look {w : World} {k t : TypeId} {M : Nat} {acc : List (List UInt8)} (h : SetAt w k M acc) (K : Keyed Tryd.prog k) (ht : Tryd.prog.underlying t = some (.map k 4)) {key : Value} {kl : List UInt8} (hk : keyOf Tryd.prog k key = some (.string kl)) :
    (Instr.lookup t (.map (some M)) key false).run Tryd.prog w = .ok (.bool (decide (kl ∈ acc))) w := by
  obtain ⟨v, ps, hrun, hv⟩ := World.ownsMap.lookup h K ht (zBool w) (plainElem_bool uBool false) hk
  rw [seenL_at] at hv
  have : v = .bool (decide (kl ∈ acc)) := by
    unfold plainElem at hv
    rw [uBool] at hv
    cases v <;> simp at hv
    simp [hv]
  rw [← this]
  exact hrun
theorem SetAt.upd {w : World} {k t : TypeId} {M : Nat} {acc : List (List UInt8)} (h : SetAt w k M acc) (K : Keyed Tryd.prog k) (ht : Tryd.prog.underlying t = some (.map k 4)) {key : Value} {kl : List UInt8} (hk : keyOf Tryd.prog k key = some (.string kl)) (hl : acc.length < maxLen) :
    ∃ w', (Instr.mapUpdate t (.map (some M)) key (.bool true)).run Tryd.prog w = .ok () w' ∧ SetAt w' k M (acc ++ [kl]) ∧ w.grownBy w' (some M) := by
  obtain ⟨w', h1, h2, h3⟩ := World.ownsMap.update h K ht hl hk (plainElem_bool uBool true)
  refine ⟨w', h1, ?_, h3⟩
  have e : seenL (acc ++ [kl]) = (seenL acc).put (.string kl) (.lit (.bool true)) := by
    unfold seenL
    rw [List.map_append, List.map_singleton, setOf_snoc]
  have e2 : (acc ++ [kl]).length = acc.length + 1 := by simp
  unfold SetAt
  rw [e, e2]
  exact h2

theorem uStr : Tryd.prog.underlying 9 = some .string := by kernel_rfl
theorem uMapStr : Tryd.prog.underlying 107 = some (.map 9 4) := by kernel_rfl
theorem uMapFun : Tryd.prog.underlying 108 = some (.map 63 4) := by kernel_rfl
theorem keyedStr : Keyed Tryd.prog 9 := string_keyed uStr
theorem laidOutAll : laidOutB Tryd.prog = true := by kernel_rfl
theorem keyedFun : Keyed Tryd.prog 63 := Keyed.of_law (deep_law_laid laidOutAll (m := 3) (by omega) (of_decide_eq_true (by kernel_rfl)) (by kernel_rfl) (by kernel_rfl))

def litS (s : ByteArray) : List UInt8 := s.data.toList
def litF (f : ByteArray × Int) : List UInt8 := keyBytes [.string f.1.data.toList, .int .i64 f.2]
theorem keyS {s : ByteArray} (h : s.size ≤ maxLen) : keyOf Tryd.prog 9 (.string s) = some (.string (litS s)) := WideMaps.keyOf_string_mk uStr h
theorem keyTypeF : Tryd.prog.keyType 63 = true := by kernel_rfl
theorem cellsF : Tryd.prog.cellsOf 63 = 2 := by kernel_rfl
theorem cellsStr1 : Tryd.prog.cellsOf 9 = 1 := by kernel_rfl
theorem cellsInt1 : Tryd.prog.cellsOf 3 = 1 := by kernel_rfl
theorem uInt : Tryd.prog.underlying 3 = some (.int .i64) := by kernel_rfl
theorem typesPos : 0 < Tryd.prog.types.size := of_decide_eq_true (by kernel_rfl)
theorem typesSize : ∃ m, Tryd.prog.types.size = m + 1 := ⟨Tryd.prog.types.size - 1, by have := typesPos; omega⟩
theorem keyF {f : ByteArray × Int} (h : f.1.size ≤ maxLen) (hn : (Lit.int .i64 f.2).wf = true) : keyOf Tryd.prog 63 (.agg #[.string f.1, .int .i64 f.2]) = some (.string (litF f)) := by
  obtain ⟨m, hm⟩ := typesSize
  unfold keyOf
  simp only [Tryd.underlying63]
  rw [if_pos (by simp [keyTypeF, Value.formed, Tryd.underlying63, cellsF]), hm]
  unfold Program.keyLits
  simp only [Tryd.underlying63, Value.cells]
  rw [if_pos (by rw [cellsF]; exact ⟨rfl, by simp⟩)]
  simp [cellsStr1, cellsInt1, Program.keyLits, uStr, uInt, h, hn, litF]

theorem nodup_snoc {α : Type} [DecidableEq α] (l : List α) (k : Nat) (h : k < l.length) (hd : (l.take k).Nodup) (hn : l[k] ∉ l.take k) : (l.take (k + 1)).Nodup := by
  rw [List.take_succ_eq_append_getElem h, List.nodup_append]
  exact ⟨hd, by simp, fun a ha b hb => by rintro rfl; simp only [List.mem_singleton] at hb; subst hb; exact hn ha⟩
theorem twice_yes {α : Type} [DecidableEq α] (l : List α) (k : Nat) (h : k < l.length) (hn : l[k] ∈ l.take k) : twiceB l = true := by
  have : ¬ l.Nodup := fun hd => by
    have h2 : (l.take (k + 1)).Nodup := hd.sublist (List.take_sublist _ _)
    rw [List.take_succ_eq_append_getElem h, List.nodup_append] at h2
    exact h2.2.2 _ hn _ (by simp) rfl
  simp [twiceB, this]
theorem twice_no {α : Type} [DecidableEq α] (l : List α) (hd : l.Nodup) : twiceB l = false := by simp [twiceB, hd]

theorem run_makeMap_hint (t k e : TypeId) (ht : Tryd.prog.underlying t = some (.map k e)) (n : Nat) (w : World) : (Instr.makeMap t (some (.int .i64 (n : Int)))).run Tryd.prog w = .ok (.map (some w.heap.size)) (w.alloc (.map #[] 0)) := by
  simp [Instr.makeMap, run_underlying ht, asInt, asIntOf, go_sem]

/-- What a round of twice keeps. -/
structure Tw (w wr : World) (k : TypeId) (M : Nat) (acc : List (List UInt8)) : Prop where
  set : SetAt wr k M acc
  new : w.heap.size ≤ M
  below : Below w.heap.size w wr
theorem Tw.alloc {w wr : World} {k : TypeId} {M : Nat} {acc : List (List UInt8)} (h : Tw w wr k M acc) (o : Obj) : Tw w (wr.alloc o) k M acc := ⟨World.ownsMap.alloc h.set o, h.new, h.below.alloc h.below.size o⟩


set_option maxRecDepth 100000 in
set_option maxHeartbeats 2000000 in
theorem twiceS_any (l : List (ByteArray)) (hs : ∀ s ∈ l, s.size ≤ maxLen) (hm : l.length ≤ 1000000) (v : Value) (w : World) (hv : AtomsAt w v l) :
    Calls Tryd.prog 35 #[v] w fun e w' => e = .returned (.bool (twiceB l)) ∧ Below w.heap.size w w' := by
  obtain ⟨A, c, rfl⟩ := CellsAt.form hv
  have HV := Lib.hid hv
  have HS := Lib.hid hs
  clear hv hs
  have T0 : Hid (Tw w (w.alloc (.map #[] 0)) 9 w.heap.size []) := Lib.hid ⟨World.ownsMap_made w _ _ _, Nat.le_refl _, alloc_below w _⟩
  have hmm := run_makeMap_hint _ _ _ uMapStr l.length w
  go_enter Tryd.func35, Tryd.ntmps35
  go_wp2
  obtain ⟨M, hM⟩ : ∃ M, w.heap.size = M := ⟨_, rfl⟩
  rw [hM] at T0
  rw [hM]
  have HM := Lib.hid hM
  obtain ⟨w0, hw0⟩ : ∃ w0, w.alloc (.map #[] 0) = w0 := ⟨_, rfl⟩
  rw [hw0] at T0 ⊢
  clear hM hw0
  go_loopw [11] (fun i wr => ∃ k : Nat, k ≤ l.length ∧ i = .int .i64 k ∧ Hid ((l.take k).Nodup) ∧ Hid (Tw w wr 9 M ((l.take k).map litS))) (fun i _ => l.length - (intOf i).toNat)
  case atStart => exact ⟨0, by omega, rfl, Lib.hid (by simp), T0⟩
  case round =>
    obtain ⟨k, hk, rfl, HA, HB⟩ := hrel
    clear T0
    by_cases hlt : k < l.length
    · obtain ⟨b, off, rfl, hb, hc0⟩ := atomCell HV.out k hlt
      have d0 := (HB.out.below.cell (p := ⟨b, off + k, none⟩) hb).trans hc0
      have HBA := HB
      have hkey := keyS (HS.out _ (List.getElem_mem hlt))
      have hlk := HBA.out.set.look keyedStr uMapStr hkey
      obtain ⟨w6, hup, hset6, hgr6⟩ := HBA.out.set.upd keyedStr uMapStr hkey (by simp; unfold maxLen; omega)
      have HT6 : Hid (Tw w w6 9 M ((l.take (k + 1)).map litS)) := by
        refine Lib.hid ⟨?_, HB.out.new, HBA.out.below.trans ((Fr.of_grown (S := fun b => b = M) hgr6 (fun b _ e => by injection e with e; exact e.symm)).below HBA.out.below.size (fun b e => by rw [e]; exact HB.out.new))⟩
        rw [List.take_succ_eq_append_getElem hlt, List.map_append]
        exact hset6
      have HI : Hid ((litS l[k] ∈ (l.take k).map litS) ↔ l[k] ∈ l.take k) := Lib.hid ⟨fun h => by
        obtain ⟨x, hx, he⟩ := List.mem_map.1 h
        have h1 := List.mem_of_mem_take hx
        have h2 := keyedStr.inj (by rw [← he] at hkey; exact hkey) (keyS (HS.out _ h1))
        injection h2 with h2; rw [h2]; exact hx, fun h => List.mem_map_of_mem h⟩
      have HY := Lib.hid (fun h => twice_yes l k hlt h)
      have HN := Lib.hid (fun h => nodup_snoc l k hlt HA.out h)
      clear hkey hset6 hgr6
      by_cases hin : l[k] ∈ l.take k
      · rw [decide_eq_true (HI.out.2 hin)] at hlk
        have HY2 := Lib.hid (HY.out hin)
        clear hup hin
        go_wp2
        go_ret
        exact ⟨by rw [HY2.out]; rfl, HB.out.below⟩
      · rw [decide_eq_false (fun h => hin (HI.out.1 h))] at hlk
        have HN2 := Lib.hid (HN.out hin)
        clear hin HY HN HI
        go_wp2
        go_roundw
        case rel => exact ⟨k + 1, by omega, by go_num, HN2, HT6⟩
        case measure => simp [intOf]; omega
    · obtain rfl : k = l.length := by omega
      have HF : Hid (twiceB l = false) := Lib.hid (twice_no l (by
        have := HA.out
        rw [List.take_length] at this
        exact this))
      go_wp2
      go_ret
      exact ⟨by rw [HF.out]; rfl, HB.out.below⟩

set_option maxRecDepth 100000 in
set_option maxHeartbeats 2000000 in
theorem twiceF_any (l : List (ByteArray × Int)) (hs : ∀ s ∈ l, s.1.size ≤ maxLen ∧ (Lit.int .i64 s.2).wf = true) (hm : l.length ≤ 1000000) (v : Value) (w : World) (hv : FunsAt w v l) :
    Calls Tryd.prog 36 #[v] w fun e w' => e = .returned (.bool (twiceB l)) ∧ Below w.heap.size w w' := by
  obtain ⟨A, c, rfl⟩ := CellsAt.form hv
  have HV := Lib.hid hv
  have HS := Lib.hid hs
  clear hv hs
  have T0 : Hid (Tw w (w.alloc (.map #[] 0)) 63 w.heap.size []) := Lib.hid ⟨World.ownsMap_made w _ _ _, Nat.le_refl _, alloc_below w _⟩
  have hmm := run_makeMap_hint _ _ _ uMapFun l.length w
  go_enter Tryd.func36, Tryd.ntmps36
  go_wp2
  obtain ⟨M, hM⟩ : ∃ M, w.heap.size = M := ⟨_, rfl⟩
  rw [hM] at T0
  rw [hM]
  have HM := Lib.hid hM
  obtain ⟨w0, hw0⟩ : ∃ w0, w.alloc (.map #[] 0) = w0 := ⟨_, rfl⟩
  rw [hw0] at T0 ⊢
  clear hM hw0
  go_loopw [11] (fun i wr => ∃ k : Nat, k ≤ l.length ∧ i = .int .i64 k ∧ Hid ((l.take k).Nodup) ∧ Hid (Tw w wr 63 M ((l.take k).map litF))) (fun i _ => l.length - (intOf i).toNat)
  case atStart => exact ⟨0, by omega, rfl, Lib.hid (by simp), T0⟩
  case round =>
    obtain ⟨k, hk, rfl, HA, HB⟩ := hrel
    clear T0
    by_cases hlt : k < l.length
    · obtain ⟨b, off, rfl, hb, hc0, hc1⟩ := funCell HV.out k hlt
      have d0 := (HB.out.below.cell (p := ⟨b, off + k * 2, none⟩) hb).trans hc0
      have d1 := (HB.out.below.cell (p := ⟨b, off + k * 2 + 1, none⟩) hb).trans hc1
      have HBA := Lib.hid (HB.out.alloc (.cells #[.string l[k].1, .int .i64 l[k].2] 63))
      have hkey := keyF (HS.out _ (List.getElem_mem hlt)).1 (HS.out _ (List.getElem_mem hlt)).2
      have hlk := HBA.out.set.look keyedFun uMapFun hkey
      obtain ⟨w6, hup, hset6, hgr6⟩ := HBA.out.set.upd keyedFun uMapFun hkey (by simp; unfold maxLen; omega)
      have HT6 : Hid (Tw w w6 63 M ((l.take (k + 1)).map litF)) := by
        refine Lib.hid ⟨?_, HB.out.new, HBA.out.below.trans ((Fr.of_grown (S := fun b => b = M) hgr6 (fun b _ e => by injection e with e; exact e.symm)).below HBA.out.below.size (fun b e => by rw [e]; exact HB.out.new))⟩
        rw [List.take_succ_eq_append_getElem hlt, List.map_append]
        exact hset6
      have HI : Hid ((litF l[k] ∈ (l.take k).map litF) ↔ l[k] ∈ l.take k) := Lib.hid ⟨fun h => by
        obtain ⟨x, hx, he⟩ := List.mem_map.1 h
        have h1 := List.mem_of_mem_take hx
        have h2 := keyedFun.inj (by rw [← he] at hkey; exact hkey) (keyF (HS.out _ h1).1 (HS.out _ h1).2)
        simp at h2; have h3 : l[k] = x := Prod.ext h2.1 h2.2; rw [h3]; exact hx, fun h => List.mem_map_of_mem h⟩
      have HY := Lib.hid (fun h => twice_yes l k hlt h)
      have HN := Lib.hid (fun h => nodup_snoc l k hlt HA.out h)
      clear hkey hset6 hgr6
      by_cases hin : l[k] ∈ l.take k
      · rw [decide_eq_true (HI.out.2 hin)] at hlk
        have HY2 := Lib.hid (HY.out hin)
        clear hup hin
        go_wp2
        go_ret
        exact ⟨by rw [HY2.out]; rfl, HBA.out.below⟩
      · rw [decide_eq_false (fun h => hin (HI.out.1 h))] at hlk
        have HN2 := Lib.hid (HN.out hin)
        clear hin HY HN HI
        go_wp2
        go_roundw
        case rel => exact ⟨k + 1, by omega, by go_num, HN2, HT6⟩
        case measure => simp [intOf]; omega
    · obtain rfl : k = l.length := by omega
      have HF : Hid (twiceB l = false) := Lib.hid (twice_no l (by
        have := HA.out
        rw [List.take_length] at this
        exact this))
      go_wp2
      go_ret
      exact ⟨by rw [HF.out]; rfl, HB.out.below⟩

end Go.Proofs.YtfknoecgcoapcaaDoor
