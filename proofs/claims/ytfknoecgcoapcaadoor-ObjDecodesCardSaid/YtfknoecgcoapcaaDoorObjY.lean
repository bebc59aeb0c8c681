/-
  The document's Find: a predicate's number. Condition: at most a million predicates.
-/
import Derived.Test.YtfknoecgcoapcaaDoorObjT
namespace Go.Proofs.YtfknoecgcoapcaaDoor
open Go Go.RowKit Go.WideShapes Go.ChangeShapes
set_option linter.unusedVariables false
set_option linter.unusedSimpArgs false

theorem find_drop (name : ByteArray) (arity : Int) (l : List (ByteArray × Int × Int)) (k : Nat) (h : k < l.length) :
    findFrom name arity k (l.drop k) = if l[k].1 = name ∧ l[k].2.1 = arity then (k : Int) else findFrom name arity (k + 1) (l.drop (k + 1)) := by
  rw [List.drop_eq_getElem_cons h, findFrom]
theorem eq_strs {a b : ByteArray} (h : a = b) : (a.toList == b.toList) = true := by rw [h]; simp

set_option maxRecDepth 100000 in
set_option maxHeartbeats 4000000 in
theorem rfind_any (A1 A2 A4 : Option Addr) (a c1 f c2 c c4 : Nat) (l : List (ByteArray × Int × Int)) (hm : l.length ≤ 1000000) (vp : Value) (name : ByteArray) (arity : Int) (w : World) (hv : PredsAt w vp l) :
    Calls Tryd.prog 15 #[.agg #[.slice A1 a c1, .slice A2 f c2, vp, .slice A4 c c4], .string name, .int .i64 arity] w fun e w' => e = .returned (.int .i64 (findFrom name arity 0 l)) ∧ Below w.heap.size w w' := by
  obtain ⟨A3, c3, rfl⟩ := CellsAt.form hv
  have HV := Lib.hid hv
  have HB := Lib.hid (Box.new w 27 #[.slice A1 a c1, .slice A2 f c2, .slice A3 l.length c3, .slice A4 c c4])
  have HBW := Lib.hid (alloc_below w (.cells #[.slice A1 a c1, .slice A2 f c2, .slice A3 l.length c3, .slice A4 c c4] 27))
  clear hv
  go_enter Tryd.func15, Tryd.ntmps15
  go_wp2
  obtain ⟨w1, hw1⟩ : ∃ w1, w.alloc (.cells #[.slice A1 a c1, .slice A2 f c2, .slice A3 l.length c3, .slice A4 c c4] 27) = w1 := ⟨_, rfl⟩
  rw [hw1] at HB HBW ⊢
  clear hw1
  have q2 := HB.out.cell 2
  go_loop [7] (fun i => ∃ k : Nat, k ≤ l.length ∧ i = .int .i64 k ∧ Hid (findFrom name arity k (l.drop k) = findFrom name arity 0 l)) (fun i => l.length - (intOf i).toNat)
  case atStart => exact ⟨0, by omega, rfl, Lib.hid rfl⟩
  case round =>
    obtain ⟨k, hk, rfl, HF⟩ := hrel
    by_cases hlt : k < l.length
    · obtain ⟨b, off, rfl, hb, hc0, hc1, hc2⟩ := predCell HV.out k hlt
      have d0 := (HBW.out.cell (p := ⟨b, off + k * 3, none⟩) hb).trans hc0
      have d1 := (HBW.out.cell (p := ⟨b, off + k * 3 + 1, none⟩) hb).trans hc1
      have HST := Lib.hid (find_drop name arity l k hlt)
      clear hc0 hc1 hc2
      generalize l[k].1 = s at d0 HST
      generalize l[k].2.1 = n at d1 HST
      by_cases hs : s = name
      · have hst := eq_strs hs
        by_cases hn : n = arity
        · have hnt : (n == arity) = true := by simpa using hn
          have HX : Hid (findFrom name arity 0 l = (k : Int)) := Lib.hid (by rw [← HF.out, HST.out, if_pos ⟨hs, hn⟩])
          clear hs hn
          go_wp2
          go_ret
          exact ⟨by rw [HX.out]; rfl, HBW.out⟩
        · have hnt : (n == arity) = false := by simpa using hn
          have HX : Hid (findFrom name arity (k + 1) (l.drop (k + 1)) = findFrom name arity 0 l) := Lib.hid (by rw [← HF.out, HST.out, if_neg (fun h => hn h.2)])
          clear hs hn
          go_wp2
          go_round
          case rel => exact ⟨k + 1, by omega, by go_num, HX⟩
          case measure => simp [intOf]; omega
      · have hst := ne_strs hs
        have HX : Hid (findFrom name arity (k + 1) (l.drop (k + 1)) = findFrom name arity 0 l) := Lib.hid (by rw [← HF.out, HST.out, if_neg (fun h => hs h.1)])
        clear hs
        go_wp2
        go_round
        case rel => exact ⟨k + 1, by omega, by go_num, HX⟩
        case measure => simp [intOf]; omega
    · obtain rfl : k = l.length := by omega
      have HX : Hid (findFrom name arity 0 l = -1) := Lib.hid (by rw [← HF.out, List.drop_length]; rfl)
      go_wp2
      go_ret
      exact ⟨by rw [HX.out]; rfl, HBW.out⟩

end Go.Proofs.YtfknoecgcoapcaaDoor
