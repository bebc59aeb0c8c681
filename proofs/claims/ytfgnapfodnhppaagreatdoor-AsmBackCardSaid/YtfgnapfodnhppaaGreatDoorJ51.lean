/-
  4 texts in one (AsmBL ObjW ObjWB ObjAE). Conditions: those of each theorem.
-/
import Derived.Test.YtfgnapfodnhppaaGreatDoorJ50
import Derived.Test.YtfgnapfodnhppaaGreatDoorJ35
import Derived.Test.YtfgnapfodnhppaaGreatDoorJ39
import Derived.Test.YtfgnapfodnhppaaGreatDoorJ19
import Derived.Test.YtfgnapfodnhppaaGreatDoorJ40
import Derived.Test.YtfgnapfodnhppaaGreatDoorJ42
import Derived.Test.YtfgnapfodnhppaaGreatDoorJ15
namespace Go.Proofs.YtfgnapfodnhppaaGreatDoor
open Go
set_option linter.unusedVariables false
set_option linter.unusedSimpArgs false

theorem lines_err : ∀ (ls : List (List UInt8)) (n : Nat) (s : St) (e : Int × Int), linesStep n ls s = .error e → e.1 ≠ 0
  | [], n, s, e, h => by rw [linesStep] at h; cases h
  | l :: ls, n, s, e, h => by
    rw [linesStep] at h
    cases h1 : lineStep n l s with
    | error c =>
      rw [h1] at h
      injection h with h
      subst h
      have hc := lineStep_err h1
      show c ≠ 0
      omega
    | ok s' =>
      rw [h1] at h
      simp only at h
      split at h
      · injection h with h
        subst h
        show (2 : Int) ≠ 0
        decide
      · exact lines_err ls _ s' e h
theorem pts_err (labs : List (Int × Int)) : ∀ (ps : List (Int × Int × Bool)) (o : Ob) (e : Int × Int), ptsStep labs ps o = .error e → e.1 ≠ 0
  | [], o, e, h => by rw [ptsStep] at h; cases h
  | p :: ps, o, e, h => by
    rw [ptsStep] at h
    cases h1 : ptStep labs o p with
    | error c =>
      rw [h1] at h
      injection h with h
      subst h
      have hc := (ptStep_err h1).1
      omega
    | ok o' =>
      rw [h1] at h
      exact pts_err labs ps o' e h
theorem asm_own2 (ls : List (List UInt8)) (h0 : (asmOf ls).2.1 = 0) : MayO (asmOf ls).1 ∧ OwnOrder (asmOf ls).1 :=
  asm_own ls h0 (fun s e _ => by
    by_cases h : ptsStep s.labs s.pts s.ob = .error e
    · exact .inr (pts_err _ _ _ _ h)
    · exact .inl h) (fun e h => lines_err _ _ _ _ h)
/-- The lines of what lines make say it again. -/
theorem asm_back (ls : List (List UInt8)) (h0 : (asmOf ls).2.1 = 0) : asmOf (linesOf (asmOf ls).1) = ((asmOf ls).1, 0, -1) := by
  obtain ⟨h1, h2⟩ := asm_own2 ls h0
  have h3 := lines_back h1 h2
  unfold linesOf
  rw [if_neg (by rw [asm_check]; simp)]
  exact h3

theorem name_small {s : ByteArray} (h : nameOk s = true) : s.size ≤ 32 := by
  unfold nameOk at h
  simp only [Bool.and_eq_true, decide_eq_true_eq] at h
  exact h.1.1.2
theorem may_wf {o : Ob} (h : MayO o) : ObWf o := by
  have hl := h.len
  refine ⟨fun s hs => ?_, fun f hf => ?_, fun p hp => ?_, by omega, by omega, by omega, by omega⟩
  · have := name_small (h.t.atoms s hs); unfold maxLen; omega
  · have := name_small (h.t.funs f hf).1; unfold maxLen; omega
  · have := name_small (h.t.preds p hp).1; unfold maxLen; omega
theorem funW_small {f : ByteArray} {n : Int} (hf : f.size ≤ 32) (h0 : 0 ≤ n) (h1 : n ≤ 8) : (funW (f, n)).length ≤ 60 := by
  have := Lib.itoa_length_le n (by omega) (by omega)
  have h2 : f.data.toList.length = f.size := by rw [Array.length_toList]; rfl
  simp only [funW, List.length_append, List.length_cons]
  omega
theorem namedW_small {o : Ob} (h : GoodT o) (kind n : Int) (h0 : 0 ≤ n) (h1 : n ≤ 65535) : (namedW o kind n).length ≤ 60 := by
  unfold namedW
  split
  · rw [List.getD_eq_getElem?_getD]
    cases e : o.atoms[n.toNat]? with
    | none => decide
    | some s =>
      have := name_small (h.atoms s (List.mem_of_getElem? e))
      have h2 : s.data.toList.length = s.size := by rw [Array.length_toList]; rfl
      simp only [Option.getD_some]
      omega
  · split
    · rw [List.getD_eq_getElem?_getD]
      cases e : o.funs[n.toNat]? with
      | none => exact funW_small (by decide) (by decide) (by decide)
      | some f => have := h.funs f (List.mem_of_getElem? e); exact funW_small (name_small this.1) (by omega) (by omega)
    · split
      · rw [List.getD_eq_getElem?_getD]
        cases e : o.preds[n.toNat]? with
        | none => exact funW_small (by decide) (by decide) (by decide)
        | some f => have := h.preds f (List.mem_of_getElem? e); exact funW_small (name_small this.1) this.2.1 this.2.2
      · have := Lib.itoa_length_le n (by omega) (by omega)
        simp only [List.length_cons]
        omega
theorem wordL_small {o : Ob} (h : GoodT o) (kind n : Int) (h0 : 0 ≤ n) (h1 : n ≤ 65535) : (wordL o kind n).length ≤ 60 := by
  unfold wordL
  split
  · exact namedW_small h kind n h0 h1
  · have := wordOf_len kind n h0 h1
    omega
theorem lineL_small {o : Ob} (h : MayO o) {i : Ins} (hi : insErr o.atoms.length o.funs.length o.preds.length o.code.length i = 0) : (lineL o i).length ≤ 1000 := by
  obtain ⟨_, _, hr, _⟩ := ins_ops hi
  have hfew := ops_few i.1
  have h1 := nameOf_small i.1
  have h2 : ((lineWs o i).flatMap (32 :: ·)).length ≤ (lineWs o i).length * (60 + 1) := flatw_len _ _ fun w hw => by
    obtain ⟨j, hj, rfl⟩ := List.mem_map.1 hw
    have hj := List.mem_range.1 hj
    have hb := may_bd (right_at hr j (by omega))
    exact wordL_small h.t _ _ hb.1 hb.2
  rw [lineWs_len] at h2
  have h3 : (opsOf i.1).length * (60 + 1) ≤ 4 * 61 := Nat.mul_le_mul_right _ hfew
  unfold lineL
  rw [List.length_append]
  omega
theorem linesTo_small {o : Ob} (h : MayO o) : ∀ l ∈ linesTo o o.code.length, l.length ≤ 1000 := by
  intro l hl
  unfold linesTo at hl
  obtain ⟨k, hk, hl⟩ := List.mem_flatMap.1 hl
  have hk := List.mem_range.1 hk
  unfold placeLns at hl
  rcases List.mem_append.1 hl with hl | hl
  · rcases List.mem_append.1 hl with hl | hl
    · unfold predLns at hl
      obtain ⟨p, hp, rfl⟩ := List.mem_map.1 hl
      have hp := List.mem_of_mem_take (List.mem_filter.1 hp).1
      have hg := h.t.preds p hp
      have := funW_small (name_small hg.1) hg.2.1 hg.2.2
      unfold predLn
      rw [List.length_append]
      have : predWord.length = 5 := rfl
      omega
    · unfold labLn at hl
      have hc := h.len.2.2.2
      split at hl
      · rw [List.mem_singleton.1 hl]
        have := Lib.itoa_length_le (k : Int) (by omega) (by omega)
        simp only [List.length_cons]
        omega
      · cases hl
  · rw [List.mem_singleton.1 hl]
    refine lineL_small h (h.code _ ?_)
    rw [List.getD_eq_getElem?_getD, List.getElem?_eq_getElem hk]
    exact List.getElem_mem hk
theorem linesTo_many (o : Ob) (k : Nat) : (linesTo o k).length ≤ k * (o.preds.length + 2) := by
  induction k with
  | zero => simp [linesTo]
  | succ k ih =>
    rw [linesTo_succ, List.length_append, Nat.succ_mul]
    have h1 : (placeLns o k).length ≤ o.preds.length + 2 := by
      unfold placeLns predLns labLn
      have h2 := List.length_filter_le (fun p : ByteArray × Int × Int => p.2.2 == (k : Int)) (o.preds.take o.preds.length)
      rw [List.take_length] at h2
      rw [List.length_append, List.length_append, List.length_map, List.length_singleton, List.take_length]
      split
      · rw [List.length_singleton]; omega
      · rw [List.length_nil]; omega
    omega
theorem lines_few {o : Ob} (h : MayO o) (hc : checkOf o = 0) : (linesOf o).length ≤ 100000 ∧ ∀ l ∈ linesOf o, l.length ≤ 1000 := by
  have e : linesOf o = linesTo o o.code.length := by
    unfold linesOf
    rw [if_neg (by simp [hc])]
  rw [e]
  refine ⟨?_, linesTo_small h⟩
  have h1 := linesTo_many o o.code.length
  have hl := h.len
  have h2 : o.code.length * (o.preds.length + 2) ≤ 1024 * 66 := Nat.mul_le_mul hl.2.2.2 (by omega)
  omega

end Go.Proofs.YtfgnapfodnhppaaGreatDoor

namespace Go.Proofs.YtfgnapfodnhppaaGreatDoor
open Go Go.RowKit Go.WideShapes Go.ChangeShapes
set_option linter.unusedVariables false
set_option linter.unusedSimpArgs false

theorem numL_snoc (k n : Nat) : numL (k + 1) n = numL k (n / 256) ++ [n % 256] := by
  induction k generalizing n with
  | zero => simp [numL]
  | succ k ih =>
    rw [numL, ih n, numL, List.cons_append]
    congr 1
    rw [Nat.div_div_eq_div_mul, Nat.pow_succ, Nat.mul_comm 256]

/-- A slice of bytes to be copied. -/
def Bin (w : World) (v : Value) (l : List Nat) : Prop := CellsAt w v l.length (bysV l) ∧ ∀ k c, v = .slice none k c → c = 0
theorem Bin.below {w w' : World} {v : Value} {l : List Nat} (h : Bin w v l) (hb : Below w.heap.size w w') : Bin w' v l := ⟨h.1.below hb, h.2⟩
theorem Strict.bin {w : World} {base : Nat} {v : Value} {l : List Nat} (h : Strict w base v l) : Bin w v l := by
  refine ⟨CellsAt.of_own h (by decide), ?_⟩
  rintro k c rfl
  rcases h.2 with ⟨h1, _⟩ | ⟨g, cap, cur, h1, _⟩
  · injection h1
  · injection h1 with h1
    cases h1
theorem bys_one (l : List Nat) : ∀ u ∈ bysV l, u.oneCell' = true := by
  intro u hu
  obtain ⟨c, _, rfl⟩ := List.mem_map.1 hu
  rfl
theorem own_empty (w : World) (e : TypeId) (size : Nat) : (w.alloc (.cells #[] e)).ownsRow w.heap.size e size (.slice (some ⟨w.heap.size, 0, none⟩) 0 0) 0 [] :=
  ⟨by simp, .inr ⟨w.heap.size, 0, #[], rfl, Nat.le_refl _, heap_alloc_new w _, Nat.le_refl _, by unfold maxLen; omega, by simp, by simp⟩⟩
/-- The bytes copied into new memory. -/
theorem copy_bys {w : World} {v : Value} {l : List Nat} (h : Bin w v l) (hl : l.length ≤ 1000000) (ty : TypeId) :
    ∃ A c w', (Builtin.append_ #[146, 146] ty #[.slice (some ⟨w.heap.size, 0, none⟩) 0 0, v]).run Tryz.prog (w.alloc (.cells #[] 5)) = .ok (.slice A l.length c) w' ∧ Hid (Strict w' w.heap.size (.slice A l.length c) l ∧ Below w.heap.size w w') := by
  obtain ⟨v', w', hr, ha⟩ := app_src slU8 (own_empty w 5 1) (h.1.below (alloc_below w _)) (by rw [bysV_len]; omega) (bys_one l) (by omega) (by simp) h.2 ty
  obtain ⟨A, c, hv⟩ := ha.out.form
  subst hv
  rw [Nat.zero_add] at hr
  refine ⟨A, c, w', hr, Lib.hid ⟨?_, (alloc_below w _).trans (ha.out.fr.below (by simp) (fun k hk => (own_ge (own_empty w 5 1) hk).1))⟩⟩
  have := ha.out.own
  rw [Nat.zero_add, List.nil_append] at this
  exact this

end Go.Proofs.YtfgnapfodnhppaaGreatDoor

namespace Go.Proofs.YtfgnapfodnhppaaGreatDoor
open Go Go.RowKit Go.WideShapes Go.ChangeShapes
set_option linter.unusedVariables false
set_option linter.unusedSimpArgs false

theorem Row.bin {w : World} {base : Nat} {v : Value} {l : List Nat} (h : Row w base v l) : Bin w v l := by
  rcases h with h | ⟨h0, g, cur, fz, rfl, hg, hh, hc⟩
  · exact h.bin
  · refine ⟨.inr ⟨g, 0, _, rfl, (Array.getElem?_eq_some_iff.1 hh).1, fun k u hk => ?_⟩, ?_⟩
    · rw [← hc, Array.getElem?_toList] at hk
      simp [World.cell?, hh, hk]
    · rintro k c h
      injection h with h1 h2 h3
      cases h1

end Go.Proofs.YtfgnapfodnhppaaGreatDoor

namespace Go.Proofs.YtfgnapfodnhppaaGreatDoor
open Go Go.RowKit Go.WideShapes Go.ChangeShapes
set_option linter.unusedVariables false
set_option linter.unusedSimpArgs false

/-- What a round keeps: the object's box; the bytes so far. -/
structure Er (w wr : World) (g : Nat) (us : Array Value) (v : Value) (l : List Nat) : Prop where
  ck : CkR w wr g us
  bin : Bin wr v l
theorem Bin.below' {w w' : World} {v : Value} {l : List Nat} (h : Bin w v l) (hb : Below w.heap.size w w') : Bin w' v l := h.below hb
theorem Er.next {w wr w' : World} {g : Nat} {us : Array Value} {v v' : Value} {l l' : List Nat} (h : Er w wr g us v l) (hs : Row w' wr.heap.size v' l') (hb : Below wr.heap.size wr w') : Er w w' g us v' l' := ⟨h.ck.up hb, hs.bin⟩
theorem bin_new (w : World) (l : List Nat) : Bin (w.alloc (.cells (bysV l).toArray 5)) (.slice (some ⟨w.heap.size, 0, none⟩) l.length l.length) l := by
  refine ⟨.inr ⟨w.heap.size, 0, _, rfl, by simp, fun k u hk => ?_⟩, ?_⟩
  · rw [(Box.new w 5 (bysV l).toArray).cell]
    simpa using hk
  · rintro k c h
    injection h with h1 h2 h3
    cases h1

theorem Bin.bys {w : World} {v : Value} {l : List Nat} (h : Bin w v l) : BysAt w v l := by
  rcases h.1 with ⟨h0, _, A, c, rfl⟩ | ⟨b, off, c, rfl, _, hc⟩
  · exact .inl ⟨List.length_eq_zero_iff.1 h0, A, c, rfl⟩
  · refine .inr ⟨b, off, c, rfl, fun k hk => hc k _ ?_⟩
    simp [bysV, List.getD_eq_getElem?_getD, hk]

theorem flat_more {α : Type} (f : α → List Nat) (l : List α) (k : Nat) (h : k < l.length) (x : List Nat) : x ++ (l.take (k + 1)).flatMap f = x ++ (l.take k).flatMap f ++ f l[k] := by
  rw [List.take_succ_eq_append_getElem h, List.flatMap_append]
  simp

end Go.Proofs.YtfgnapfodnhppaaGreatDoor
