/-
  6 texts in one (ObjG ObjH ObjI ObjJ ObjK ObjL). Conditions: those of each theorem.
-/
import Derived.Test.YtfgnapfodnhppaaGreatDoorJ11
import Derived.Deep.RegionWith
import Derived.Lib.SlBytesConst
import Derived.Laws.IdiomStrings
import Derived.Deep.QuietTactic
import Derived.BigQuiet
namespace Go.Proofs.YtfgnapfodnhppaaGreatDoor
open Go Go.RowKit Go.WideShapes Go.ChangeShapes
set_option linter.unusedVariables false
set_option linter.unusedSimpArgs false

def bysV (l : List Nat) : List Value := l.map fun c => Value.int .u8 ((c : Nat) : Int)
theorem bysV_append (l m : List Nat) : bysV (l ++ m) = bysV l ++ bysV m := by simp [bysV]
theorem slU8 : SlT 146 5 1 1 := ⟨Tryz.underlying146, ⟨.int .u8 0, by kernel_rfl, rfl⟩, by decide, by decide⟩

/-- A row of bytes of the call's own that can be written. -/
def Strict (w : World) (base : Nat) (v : Value) (l : List Nat) : Prop := w.ownsRow base 5 1 v l.length (bysV l)
/-- A row laid for a constant text: full, and marked by the run-time. -/
def Marked (w : World) (base : Nat) (v : Value) (l : List Nat) : Prop :=
  0 < l.length ∧ ∃ g cur fz, v = .slice (some ⟨g, 0, none⟩) l.length l.length ∧ base ≤ g ∧ w.heap[g]? = some (.cells cur 5 fz) ∧ cur.toList = bysV l
/-- A row of bytes of the call's own. -/
def Row (w : World) (base : Nat) (v : Value) (l : List Nat) : Prop := Strict w base v l ∨ Marked w base v l
theorem Row.ge {w : World} {base : Nat} {v : Value} {l : List Nat} (h : Row w base v l) {b : Nat} (hb : v.ownBlock = some b) : base ≤ b ∧ b < w.heap.size := by
  rcases h with h | ⟨_, g, cur, fz, rfl, hg, hh, _⟩
  · exact own_ge h hb
  · obtain rfl : g = b := by simpa [Value.ownBlock] using hb
    exact ⟨hg, (Array.getElem?_eq_some_iff.1 hh).1⟩
theorem Row.form {w : World} {base : Nat} {v : Value} {l : List Nat} (h : Row w base v l) : ∃ A c, v = .slice A l.length c := by
  rcases h with h | ⟨_, g, cur, fz, rfl, _⟩
  · obtain ⟨A, c, h, _⟩ := own_form h
    exact ⟨A, c, h⟩
  · exact ⟨_, _, rfl⟩
theorem Row.fr {w w' : World} {S : Nat → Prop} {base : Nat} {v : Value} {l : List Nat} (h : Row w base v l) (hf : Fr S w w') (hn : ∀ k, v.ownBlock = some k → ¬ S k) : Row w' base v l := by
  rcases h with h | ⟨h0, g, cur, fz, rfl, hg, hh, hc⟩
  · exact .inl (own_fr h hf hn)
  · exact .inr ⟨h0, g, cur, fz, rfl, hg, (hf.block g (Array.getElem?_eq_some_iff.1 hh).1 (hn g rfl)).trans hh, hc⟩
/-- A row of bytes goes on. -/
structure Grows (w w' : World) (base : Nat) (v v' : Value) (l : List Nat) : Prop where
  own : Row w' base v' l
  fr : Fr (fun b => v.ownBlock = some b) w w'
  at_ : v'.ownBlock = v.ownBlock ∨ ∃ g, v'.ownBlock = some g ∧ w.heap.size ≤ g
theorem Grows.refl {w : World} {base : Nat} {v : Value} {l : List Nat} (h : Row w base v l) : Grows w w base v v l := ⟨h, Fr.refl _ _, .inl rfl⟩
theorem Grows.trans {w w' w'' : World} {base : Nat} {v v' v'' : Value} {l m : List Nat} (h : Grows w w' base v v' l) (k : Grows w' w'' base v' v'' m) : Grows w w'' base v v'' m := by
  refine ⟨k.own, ⟨k.fr.os.trans h.fr.os, k.fr.tape.trans h.fr.tape, k.fr.output.trans h.fr.output, Nat.le_trans h.fr.size k.fr.size, fun i hi hs => (k.fr.block i (Nat.lt_of_lt_of_le hi h.fr.size) (fun hv => ?_)).trans (h.fr.block i hi hs)⟩, ?_⟩
  · rcases h.at_ with e2 | ⟨g, e2, hg⟩
    · exact hs (e2.symm.trans hv)
    · rw [e2] at hv
      injection hv with hv
      omega
  · rcases k.at_ with e1 | ⟨g, e1, hg⟩
    · rcases h.at_ with e2 | ⟨g, e2, hg⟩
      · exact .inl (e1.trans e2)
      · exact .inr ⟨g, e1.trans e2, hg⟩
    · exact .inr ⟨g, e1, Nat.le_trans h.fr.size hg⟩
theorem Grows.form {w w' : World} {base : Nat} {v v' : Value} {l : List Nat} (h : Grows w w' base v v' l) : ∃ A c, v' = .slice A l.length c := by
  exact h.own.form
theorem Grows.below {w w' : World} {base : Nat} {v v' : Value} {l m : List Nat} (h : Grows w w' base v v' l) (ho : Row w base v m) (hb : base ≤ w.heap.size) : Below base w w' :=
  h.fr.below hb (fun k hk => (ho.ge hk).1)
theorem Row.alloc {w : World} {base : Nat} {v : Value} {l : List Nat} (h : Row w base v l) (o : Obj) : Row (w.alloc o) base v l := Row.fr (S := fun _ => False) h ((Fr.refl _ w).alloc _) (fun _ _ x => x)
theorem Row.below {w w' : World} {base : Nat} {v : Value} {l : List Nat} (h : Row w base v l) (hb : Below w.heap.size w w') : Row w' base v l := Row.fr (S := fun _ => False) h (Fr.of_below hb) (fun _ _ x => x)

theorem grown_row (w : World) (xs news : List Value) (n m old base : Nat) (hx : xs.length = n) (hn : news.length = m) (hb : base ≤ w.heap.size) (hm : n + m ≤ maxLen) :
    (w.drew.alloc (.cells (xs.toArray ++ news.toArray ++ Builtin.zeroCells (Value.int .u8 0).cells (grownCap w (n + m) old 5 - (n + m))) 5)).ownsRow base 5 1
        (.slice (some ⟨w.heap.size, 0, none⟩) (n + m) (grownCap w (n + m) old 5)) (n + m) (xs ++ news) ∧
      w.grownBy (w.drew.alloc (.cells (xs.toArray ++ news.toArray ++ Builtin.zeroCells (Value.int .u8 0).cells (grownCap w (n + m) old 5 - (n + m))) 5)) none := by
  have hge := grownCap_ge w (n + m) old 5
  have hcm : grownCap w (n + m) old 5 ≤ maxLen := grownCap_le_maxLen w (n + m) old 5 hm
  refine ⟨⟨by simp [hx, hn], .inr ⟨w.heap.size, _, _, rfl, hb, heap_alloc_new w.drew _, hge, hcm, ?_, ?_⟩⟩, ⟨rfl, rfl, rfl, by simp, fun k hk _ => Below.heap_alloc w.drew _ k hk⟩⟩
  · have hz1 : (Value.int IntKind.u8 0).cells.size = 1 := rfl
    simp only [Array.size_append, List.size_toArray, size_zeroCells, hz1, hx, hn]
    omega
  · simp only [Array.toList_append, List.append_assoc]
    rw [← List.append_assoc, show (n + m) * 1 = (xs ++ news).length by simp [hx, hn]]
    exact List.take_left

theorem infoU8 : ∃ i, Tryz.prog.info? 5 = some i ∧ i.zero = some (.int .u8 0) ∧ i.size = 1 ∧ i.bytes = 1 := by
  obtain ⟨i, h1, h2, h3, h4⟩ := info_parts (show (Tryz.prog.info? 5).map (fun i => (i.zero, i.size, i.bytes)) = some (some (.int .u8 0), 1, 1) by kernel_rfl)
  exact ⟨i, h1, h2, h3, h4⟩

theorem bysV_len (l : List Nat) : (bysV l).length = l.length := by simp [bysV]

theorem strict_of {w : World} {base n : Nat} {v : Value} {l m : List Nat} (h : w.ownsRow base 5 1 v n (bysV l ++ bysV m)) (hn : n = l.length + m.length) : Strict w base v (l ++ m) := by
  subst hn
  unfold Strict
  rw [bysV_append, List.length_append]
  exact h

theorem app_byte {wr : World} {base : Nat} {v : Value} {l : List Nat} (hown : Row wr base v l) (c : Nat) (hn : l.length ≤ 1000000) (hbase : base ≤ wr.heap.size) (ty : TypeId) :
    ∃ v' w', (Builtin.append_ #[146, 146] ty #[v, .slice (some ⟨wr.heap.size, 0, none⟩) 1 1]).run Tryz.prog (wr.alloc (.cells #[.int .u8 (c : Int)] 5)) = .ok v' w' ∧ Hid (Grows wr w' base v v' (l ++ [c]) ∧ Strict w' base v' (l ++ [c])) := by
  rcases hown with hown | ⟨h0, g, cur, fz, rfl, hg, hh, hc⟩
  · obtain ⟨v', w', hr, h⟩ := app_one slU8 hown [.int .u8 (c : Int)] rfl (one_word _ _) hn hbase ty
    have hs : Strict w' base v' (l ++ [c]) := by
      have := h.out.own
      unfold Strict
      rw [bysV_append, List.length_append]
      exact this
    exact ⟨v', w', hr, Lib.hid ⟨⟨.inl hs, h.out.fr, h.out.at_⟩, hs⟩⟩
  · obtain ⟨i, hi1, hz0, hz1, hz2⟩ := infoU8
    have hlt := (Array.getElem?_eq_some_iff.1 hh).1
    have hh2 : (wr.alloc (.cells #[.int .u8 (c : Int)] 5)).heap[g]? = some (.cells cur 5 fz) := (Below.heap_alloc wr _ g hlt).trans hh
    have hr := run_append_grow (P := Tryz.prog) (wr.alloc (.cells #[.int .u8 (c : Int)] 5)) 146 ty 5 i (.int .u8 0) Tryz.underlying146 hi1 hz0 ⟨g, 0, none⟩ l.length l.length (bysV l) (by rw [hz1, bysV_len]; omega)
      (fun j u hu => by
        rw [add_plain, Nat.zero_add, cell_of_row _ g j cur _ fz hh2, ← Array.getElem?_toList, hc]
        exact hu)
      ⟨wr.heap.size, 0, none⟩ 1 1 [.int .u8 (c : Int)] (by rw [hz1]; rfl) (fun j u hu => by
        rw [add_plain, Nat.zero_add, (Box.new wr 5 #[.int .u8 (c : Int)]).cell j]
        simpa using hu) (by omega) (by omega) (by rw [hz2]; exact growslice_fits (by omega) (by omega))
    obtain ⟨h1, h2⟩ := grown_row (wr.alloc (.cells #[.int .u8 (c : Int)] 5)) (bysV l) [.int .u8 (c : Int)] l.length 1 l.length base (bysV_len l) rfl (by simp; omega) (by unfold maxLen; omega)
    have hs := strict_of (m := [c]) h1 rfl
    exact ⟨_, _, hr, Lib.hid ⟨⟨.inl hs, ((Fr.refl _ wr).alloc _).trans (Fr.of_grown h2 (fun _ _ e => by cases e)), .inr ⟨_, rfl, by simp⟩⟩, hs⟩⟩

theorem numL_len (n m : Nat) : (numL n m).length = n := by
  induction n with
  | zero => rfl
  | succ n ih => simp [numL, ih]

/-- How an append of a string's bytes goes. -/
theorem app_str {wr : World} {base : Nat} {v : Value} {l : List Nat} (hown : Row wr base v l) (s : ByteArray) (hs : s.size ≤ 1000) (hs1 : 1 ≤ s.size) (hn : l.length ≤ 1000000) (hbase : base ≤ wr.heap.size) (ty : TypeId) :
    ∃ v' w', (Builtin.append_ #[146, 9] ty #[v, .string s]).run Tryz.prog wr = .ok v' w' ∧ Hid (Grows wr w' base v v' (l ++ strL s)) := by
  obtain ⟨i, hi1, hz0, hz1, hz2⟩ := infoU8
  have ht := Tryz.underlying146
  have hu : Tryz.prog.underlying 9 = some .string := uStr
  have hsl : (strL s).length = s.size := by unfold strL; rw [List.length_map, Array.length_toList]; rfl
  have e : bysV (strL s) = Lib.strCells s := by simp [bysV, strL, Lib.strCells]
  rcases hown with hown | ⟨h0, g, cur, fz, rfl, hg, hh, hc⟩
  case inr =>
    have hlt := (Array.getElem?_eq_some_iff.1 hh).1
    have hr2 := Lib.run_append_grow_string (P := Tryz.prog) wr _ _ ty _ i (.int .u8 0) ht hu hi1 hz0 ⟨g, 0, none⟩ l.length l.length (bysV l) (by rw [hz1]; simp [bysV]) (fun j u hu => by
      rw [add_plain, Nat.zero_add, cell_of_row _ g j cur _ fz hh, ← Array.getElem?_toList, hc]
      exact hu) s (by omega) (by omega) (by rw [hz2]; exact growslice_fits (by omega) (by omega))
    obtain ⟨h1, h2⟩ := grown_row wr (bysV l) (Lib.strCells s) l.length s.size l.length base (bysV_len l) (by rw [← e, bysV_len, hsl]) hbase (by unfold maxLen; omega)
    refine ⟨_, _, hr2, Lib.hid ⟨.inl ?_, Fr.of_grown h2 (fun _ _ e => by cases e), .inr ⟨_, rfl, Nat.le_refl _⟩⟩⟩
    unfold Strict
    rw [List.length_append, hsl, bysV_append, e]
    exact h1
  obtain ⟨v', w', hr, h2, h3, _⟩ := Lib.run_append_own_string (P := Tryz.prog) wr base _ _ ty _ i ht hu hi1 hz0 hz1 hz2 v l.length (bysV l) hown s (by unfold maxLen; omega) (by omega) hbase
  refine ⟨v', w', hr, Lib.hid ⟨?_, Fr.of_grown h3 (fun _ _ e => e), ?_⟩⟩
  · refine .inl ?_
    unfold Strict
    rw [List.length_append, hsl, bysV_append, e]
    exact h2
  · rcases hown.2 with ⟨rfl, h0⟩ | ⟨g, cap, cur, rfl, hbg, hg, hnc, hcm, hcs, htake⟩
    · obtain ⟨v2, w2, hr2, k2, _, _⟩ := Lib.run_append_own_string (P := Tryz.prog) wr wr.heap.size _ _ ty _ i ht hu hi1 hz0 hz1 hz2 (.slice none 0 0) l.length (bysV l) ⟨hown.1, .inl ⟨rfl, h0⟩⟩ s (by unfold maxLen; omega) (by omega) (Nat.le_refl _)
      rw [hr] at hr2
      injection hr2 with e1 e2
      subst e1
      cases hb : v'.ownBlock with
      | none => exact .inl rfl
      | some b => exact .inr ⟨b, rfl, (own_ge k2 hb).1⟩
    · by_cases hroom : l.length + s.size ≤ cap
      · have hcs' : cur.size = cap := by simpa using hcs
        have hr2 := Lib.run_append_room_string (P := Tryz.prog) wr _ _ ty _ i ht hu hi1 hz1 g l.length cap cur hg s hroom (by omega)
        rw [hr] at hr2
        injection hr2 with e1 e2
        subst e1
        exact .inl rfl
      · have holds : ∀ j u, (bysV l)[j]? = some u → wr.cell? ((⟨g, 0, none⟩ : Addr).add j) = some u := World.ownsRow.cells (g := g) hown rfl
        have hr2 := Lib.run_append_grow_string (P := Tryz.prog) wr _ _ ty _ i (.int .u8 0) ht hu hi1 hz0 ⟨g, 0, none⟩ l.length cap (bysV l) (by rw [hz1]; simp [bysV]) holds s (by omega) (by omega) (by rw [hz2]; exact growslice_fits (by omega) (by omega))
        rw [hr] at hr2
        injection hr2 with e1 e2
        subst e1
        exact .inr ⟨_, rfl, Nat.le_refl _⟩

end Go.Proofs.YtfgnapfodnhppaaGreatDoor

namespace Go.Proofs.YtfgnapfodnhppaaGreatDoor
open Go Go.RowKit Go.WideShapes Go.ChangeShapes
set_option linter.unusedVariables false
set_option linter.unusedSimpArgs false

theorem Grows.of_alloc {w w' : World} {base : Nat} {v v' : Value} {l : List Nat} {o : Obj} (h : Grows (w.alloc o) w' base v v' l) : Grows w w' base v v' l :=
  ⟨h.own, ((Fr.refl _ w).alloc o).trans h.fr, h.at_.imp id fun ⟨g, h1, h2⟩ => ⟨g, h1, by simp at h2; omega⟩⟩
theorem Grows.of_drewN {w w' : World} {base n : Nat} {v v' : Value} {l : List Nat} (h : Grows (w.drewN n) w' base v v' l) : Grows w w' base v v' l :=
  ⟨h.own, h.fr.from_drewN, h.at_⟩
theorem Grows.of_below {w w1 w' : World} {base : Nat} {v v' : Value} {l : List Nat} (hb : Below w.heap.size w w1) (h : Grows w1 w' base v v' l) : Grows w w' base v v' l :=
  ⟨h.own, (Fr.of_below hb).trans h.fr, h.at_.imp id fun ⟨g, h1, h2⟩ => ⟨g, h1, Nat.le_trans hb.size h2⟩⟩
theorem Grows.below_ {w w1 w' : World} {base : Nat} {v v' : Value} {l : List Nat} (h : Grows w w1 base v v' l) (hb : Below w1.heap.size w1 w') : Grows w w' base v v' l :=
  ⟨h.own.below hb, ⟨hb.os.trans h.fr.os, hb.tape.trans h.fr.tape, hb.output.trans h.fr.output, Nat.le_trans h.fr.size hb.size, fun i hi hs => (hb.block i (Nat.lt_of_lt_of_le hi h.fr.size)).trans (h.fr.block i hi hs)⟩, h.at_⟩
theorem Grows.box {w w' : World} {base : Nat} {v v' : Value} {l : List Nat} (h : Grows w w' base v v' l) {g : Nat} {t : TypeId} {cs : Array Value} (hb : Box w g t cs) (hn : v.ownBlock ≠ some g) : Box w' g t cs ∧ v'.ownBlock ≠ some g := by
  refine ⟨hb.fr h.fr hn, ?_⟩
  rcases h.at_ with e | ⟨g', e, hg⟩
  · rw [e]; exact hn
  · rw [e]
    intro x
    injection x with x
    have := hb.lt
    omega

theorem argsL_step (ks l : List Int) (k : Nat) (h : k < ks.length) : argsL (ks.drop k) (l.drop k) = numL (sizeK (ks.getD k 0)) (l.getD k 0).toNat ++ argsL (ks.drop (k + 1)) (l.drop (k + 1)) := by
  rw [List.drop_eq_getElem_cons h, argsL, List.tail_drop]
  congr 2
  · rw [List.getD_eq_getElem?_getD, List.getElem?_eq_getElem h]; rfl
  · congr 1
    rw [List.getD_eq_getElem?_getD, List.headD_eq_head?_getD, List.head?_drop]
theorem sizeK_le (k : Int) : sizeK k ≤ 2 := by unfold sizeK; split <;> omega
theorem argsL_len : ∀ ks l : List Int, (argsL ks l).length ≤ 2 * ks.length
  | [], _ => by simp [argsL]
  | k :: ks, l => by
    have h1 := argsL_len ks l.tail
    have h2 := sizeK_le k
    rw [argsL, List.length_append, numL_len, List.length_cons]
    omega
theorem insL_len (i : Ins) : (insL i).length ≤ 9 := by
  have h := argsL_len (opsOf i.1) (argOf i)
  have h2 := ops_few i.1
  rw [insL, List.length_append, numL_len]
  omega
theorem right_nat {i : Ins} (h : rightB i.1 (argOf i) = true) (k : Nat) (hk : k < 4) : 0 ≤ (argOf i).getD k 0 ∧ (argOf i).getD k 0 ≤ 65535 := may_bd (right_at h k hk)

/-- The instruction's own box. -/
def InsBox (w : World) (g : Nat) (i : Ins) : Prop := Box w g 78 #[.int .i64 i.1, .int .i64 i.2.1, .int .i64 i.2.2.1, .int .i64 i.2.2.2.1, .int .i64 i.2.2.2.2]
theorem InsBox.arg {w : World} {g : Nat} {i : Ins} (h : InsBox w g i) (k : Nat) (hk : k < 4) : w.cell? ⟨g, 1 + k, none⟩ = some (.int .i64 ((argOf i).getD k 0)) := by
  rw [Box.cell h (1 + k)]
  match k, hk with
  | 0, _ => rfl
  | 1, _ => rfl
  | 2, _ => rfl
  | 3, _ => rfl

end Go.Proofs.YtfgnapfodnhppaaGreatDoor

namespace Go.Proofs.YtfgnapfodnhppaaGreatDoor
open Go Go.RowKit Go.WideShapes Go.ChangeShapes
set_option linter.unusedVariables false
set_option linter.unusedSimpArgs false

/-- What an object is of which nothing is wrong. -/
structure ObOk (o : Ob) : Prop where
  la : o.atoms.length ≤ 256
  lf : o.funs.length ≤ 256
  lp : o.preds.length ≤ 64
  lc : o.code.length ≤ 1024
  atoms : ∀ s ∈ o.atoms, nameOk s = true
  funs : ∀ f ∈ o.funs, nameOk f.1 = true ∧ 1 ≤ f.2 ∧ f.2 ≤ 8
  preds : ∀ p ∈ o.preds, nameOk p.1 = true ∧ 0 ≤ p.2.1 ∧ p.2.1 ≤ 8 ∧ (p.2.2 = 65535 ∨ (0 ≤ p.2.2 ∧ p.2.2 < o.code.length))
  code : ∀ i ∈ o.code, insErr o.atoms.length o.funs.length o.preds.length o.code.length i = 0

theorem name_size {s : ByteArray} (h : nameOk s = true) : 1 ≤ s.size ∧ s.size ≤ 32 := by
  unfold nameOk at h
  simp only [Bool.and_eq_true, decide_eq_true_eq] at h
  exact h.1.1
theorem insErr_ne {a f p c : Nat} {i : Ins} (h : insErr a f p c i = 0) : 0 ≤ i.1 ∧ i.1 ≤ 26 ∧ rightB i.1 (argOf i) = true ∧ (List.range (opsOf i.1).length).all (fun k => thereB a f p c ((opsOf i.1).getD k 0) ((argOf i).getD k 0)) = true := by
  unfold insErr at h
  split at h
  · cases h
  · rename_i h1
    split at h
    · cases h
    · rename_i h2
      split at h
      · rename_i h3
        refine ⟨by omega, by omega, ?_, h3⟩
        cases hh : rightB i.1 (argOf i)
        · exact absurd hh h2
        · rfl
      · cases h
theorem codeErr_zero {a f p c : Nat} : ∀ {l : List Ins}, codeErr a f p c l = 0 → ∀ i ∈ l, insErr a f p c i = 0
  | [], _ => by simp
  | x :: l, h => by
    unfold codeErr at h
    split at h
    · rename_i hx
      intro i hi
      rcases List.mem_cons.1 hi with rfl | hi
      · exact hx
      · exact codeErr_zero h i hi
    · rename_i hx
      exact absurd h hx
theorem ok_of {o : Ob} (h : checkOf o = 0) : ObOk o := by
  unfold checkOf at h
  split at h
  · cases h
  · rename_i h1
    split at h
    · cases h
    · rename_i h2
      split at h
      · cases h
      · split at h
        · cases h
        · rename_i h4
          have hb : ¬ (256 < o.atoms.length ∨ 256 < o.funs.length ∨ 64 < o.preds.length ∨ 1024 < o.code.length) := by
            intro hb
            apply h1
            unfold bigB
            exact decide_eq_true hb
          have hn : namesOk o = true := by
            cases hh : namesOk o
            · exact absurd hh h2
            · rfl
          have he : entsOk o.code.length (o.preds.map (·.2.2)) = true := by
            cases hh : entsOk o.code.length (o.preds.map (·.2.2))
            · exact absurd hh h4
            · rfl
          unfold namesOk at hn
          simp only [Bool.and_eq_true, List.all_eq_true] at hn
          unfold entsOk at he
          simp only [Bool.and_eq_true, List.all_eq_true] at he
          refine ⟨by omega, by omega, by omega, by omega, hn.1.1, fun f hf => ?_, fun p hp => ?_, codeErr_zero h⟩
          · have := hn.1.2 f hf
            unfold funOk at this
            simp only [Bool.and_eq_true, decide_eq_true_eq] at this
            exact ⟨this.1.1, this.1.2, this.2⟩
          · have h5 := hn.2 (called p) (List.mem_map_of_mem hp)
            unfold funOk called at h5
            simp only [Bool.and_eq_true, decide_eq_true_eq] at h5
            have h6 := he.1 p.2.2 (List.mem_map.2 ⟨p, hp, rfl⟩)
            unfold entryOk at h6
            exact ⟨h5.1.1, h5.1.2, h5.2, of_decide_eq_true h6⟩

theorem numL_lt (n m : Nat) : ∀ c ∈ numL n m, c < 256 := by
  induction n with
  | zero => simp [numL]
  | succ n ih =>
    intro c hc
    rcases List.mem_cons.1 hc with rfl | hc
    · omega
    · exact ih c hc
theorem strL_lt (s : ByteArray) : ∀ c ∈ strL s, c < 256 := by
  intro c hc
  obtain ⟨b, _, rfl⟩ := List.mem_map.1 hc
  exact b.toNat_lt
theorem strL_len (s : ByteArray) : (strL s).length = s.size := by unfold strL; rw [List.length_map, Array.length_toList]; rfl
theorem app_lt {l m : List Nat} (h : ∀ c ∈ l, c < 256) (k : ∀ c ∈ m, c < 256) : ∀ c ∈ l ++ m, c < 256 := fun c hc => (List.mem_append.1 hc).elim (h c) (k c)
theorem nameL_lt (s : ByteArray) : ∀ c ∈ nameL s, c < 256 := app_lt (numL_lt _ _) (strL_lt s)
theorem argsL_lt : ∀ ks l : List Int, ∀ c ∈ argsL ks l, c < 256
  | [], _ => by simp [argsL]
  | k :: ks, l => app_lt (numL_lt _ _) (argsL_lt ks l.tail)
theorem flat_lt2 {α : Type} {f : α → List Nat} (h : ∀ a, ∀ c ∈ f a, c < 256) (l : List α) : ∀ c ∈ l.flatMap f, c < 256 := by
  intro c hc
  obtain ⟨a, _, h2⟩ := List.mem_flatMap.1 hc
  exact h a c h2
theorem headL_lt (o : Ob) : ∀ c ∈ headL o, c < 256 := app_lt (app_lt (app_lt (app_lt (by intro c hc; simp at hc; omega) (numL_lt _ _)) (numL_lt _ _)) (numL_lt _ _)) (numL_lt _ _)
theorem bodyL_lt (o : Ob) : ∀ c ∈ bodyL o, c < 256 :=
  app_lt (app_lt (app_lt (app_lt (headL_lt o) (flat_lt2 nameL_lt _)) (flat_lt2 (fun f => app_lt (nameL_lt _) (numL_lt _ _)) _)) (flat_lt2 (fun f => app_lt (app_lt (nameL_lt _) (numL_lt _ _)) (numL_lt _ _)) _)) (flat_lt2 (fun i => app_lt (numL_lt _ _) (argsL_lt _ _)) _)

theorem flatN_take {α : Type} (f : α → List Nat) (l : List α) (k : Nat) (h : k < l.length) : (l.take (k + 1)).flatMap f = (l.take k).flatMap f ++ f l[k] := by
  rw [List.take_succ_eq_append_getElem h, List.flatMap_append]
  simp
theorem flat_len {α : Type} (f : α → List Nat) (m : Nat) : ∀ (l : List α) (h : ∀ a ∈ l, (f a).length ≤ m), (l.flatMap f).length ≤ m * l.length
  | [], _ => by simp
  | a :: l, h => by
    have h1 := flat_len f m l (fun x hx => h x (List.mem_cons_of_mem _ hx))
    have h2 := h a (List.mem_cons_self ..)
    rw [List.flatMap_cons, List.length_append, List.length_cons, Nat.mul_succ]
    omega
theorem flat_len_take {α : Type} (f : α → List Nat) (m k : Nat) (l : List α) (h : ∀ a ∈ l, (f a).length ≤ m) : ((l.take k).flatMap f).length ≤ m * l.length := by
  have h1 := flat_len f m (l.take k) (fun a ha => h a (List.mem_of_mem_take ha))
  have h2 : (l.take k).length ≤ l.length := by simp; omega
  exact Nat.le_trans h1 (Nat.mul_le_mul (Nat.le_refl m) h2)
theorem nameL_len {s : ByteArray} (h : nameOk s = true) : (nameL s).length ≤ 33 := by
  have := name_size h
  rw [nameL, List.length_append, numL_len, strL_len]
  omega
theorem headL_len (o : Ob) : (headL o).length = 13 := by simp [headL, numL_len]

/-- The counts. -/
def cntL (o : Ob) : List Nat := [o.atoms.length, o.funs.length, o.preds.length, o.code.length]
def magicL : List Nat := [82, 83, 76, 86, 1]
theorem headL_eq (o : Ob) : magicL ++ (cntL o).flatMap (numL 2) = headL o := by simp [magicL, cntL, headL]

end Go.Proofs.YtfgnapfodnhppaaGreatDoor

namespace Go.Proofs.YtfgnapfodnhppaaGreatDoor
open Go Go.RowKit Go.WideShapes Go.ChangeShapes
set_option linter.unusedVariables false
set_option linter.unusedSimpArgs false

/-- The bytes, or none. -/
def encodeOf (o : Ob) : List Nat := if checkOf o = 0 then bytesL o else []

theorem row_new (w : World) (l : List Nat) {base : Nat} (hb : base ≤ w.heap.size) (hl : 0 < l.length) (fz : Nat × Nat) : Row (w.alloc (.cells (bysV l).toArray 5 fz)) base (.slice (some ⟨w.heap.size, 0, none⟩) l.length l.length) l :=
  .inr ⟨hl, w.heap.size, _, fz, rfl, hb, heap_alloc_new w _, by simp⟩
theorem Row.bys {w : World} {base : Nat} {v : Value} {l : List Nat} (h : Row w base v l) : BysAt w v l := by
  rcases h with h | ⟨h0, g, cur, fz, rfl, hg, hh, hc⟩
  · rcases h.2 with ⟨rfl, h0⟩ | ⟨g, cap, cur, rfl, hb, hg, _⟩
    · exact .inl ⟨List.length_eq_zero_iff.1 h0, _, _, rfl⟩
    · refine .inr ⟨g, 0, cap, rfl, fun k hk => ?_⟩
      rw [Nat.zero_add, World.ownsRow.cellAt (g := g) h k (by omega)]
      simp [bysV, List.getD_eq_getElem?_getD, hk]
  · refine .inr ⟨g, 0, _, rfl, fun k hk => ?_⟩
    rw [Nat.zero_add, cell_of_row _ g k cur _ fz hh, ← Array.getElem?_toList, hc]
    simp [bysV, List.getD_eq_getElem?_getD, hk]
theorem BysAt.below {w w' : World} {v : Value} {l : List Nat} (h : BysAt w v l) (hb : Below w.heap.size w w') : BysAt w' v l := by
  rcases h with h | ⟨b, off, c, rfl, hc⟩
  · exact .inl h
  · exact .inr ⟨b, off, c, rfl, fun k hk => (hb.cell (p := ⟨b, off + k, none⟩) (World.block_lt_of_cell? w _ (hc k hk))).trans (hc k hk)⟩
theorem uU8 : Tryz.prog.underlying 5 = some (.int .u8) := by kernel_rfl
theorem nat_of {n : Int} (h : 0 ≤ n) : ((n.toNat : Nat) : Int) = n := by omega

/-- What Encode keeps. -/
structure Ec (w wr : World) (g : Nat) (cs : Array Value) (vs : Value) (pre : List Nat) : Prop where
  row : Row wr w.heap.size vs pre
  box : Box wr g 31 cs
  ne : vs.ownBlock ≠ some g
  below : Below w.heap.size w wr
theorem Ec.up {w wr w' : World} {g : Nat} {cs : Array Value} {vs v' : Value} {pre pre' : List Nat} (h : Ec w wr g cs vs pre) (hg : Grows wr w' w.heap.size vs v' pre') : Ec w w' g cs v' pre' :=
  ⟨hg.own, (hg.box h.box h.ne).1, (hg.box h.box h.ne).2, h.below.trans (hg.below h.row h.below.size)⟩
theorem Ec.cells {w wr : World} {g : Nat} {a b c d : Value} {vs : Value} {pre : List Nat} (h : Ec w wr g #[a, b, c, d] vs pre) : wr.cell? ⟨g, 0, none⟩ = some a ∧ wr.cell? ⟨g, 1, none⟩ = some b ∧ wr.cell? ⟨g, 2, none⟩ = some c ∧ wr.cell? ⟨g, 3, none⟩ = some d :=
  ⟨h.box.cell 0, h.box.cell 1, h.box.cell 2, h.box.cell 3⟩
theorem Ec.pre {w wr : World} {g : Nat} {cs : Array Value} {vs : Value} {pre pre' : List Nat} (h : Ec w wr g cs vs pre) (e : pre = pre') : Ec w wr g cs vs pre' := e ▸ h

/-- A box laid aside while a row grows. -/
theorem aside {wr w' : World} {base : Nat} {vs v' : Value} {pre pre' : List Nat} {t : TypeId} {cs : Array Value} (hr : Row wr base vs pre) (hg : Grows (wr.alloc (.cells cs t)) w' base vs v' pre') : Box w' wr.heap.size t cs ∧ v'.ownBlock ≠ some wr.heap.size :=
  hg.box (Box.new wr t cs) (fun e => by have := (hr.ge e).2; omega)

end Go.Proofs.YtfgnapfodnhppaaGreatDoor

namespace Go.Proofs.YtfgnapfodnhppaaGreatDoor
open Go Go.RowKit Go.WideShapes Go.ChangeShapes
set_option linter.unusedVariables false
set_option linter.unusedSimpArgs false

/-- A slice, nil or of a block, whose cells hold these bytes. -/
def BysIn (w : World) (v : Value) (l : List Nat) : Prop :=
  (l = [] ∧ v = .slice none 0 0) ∨
    ∃ b off c, v = .slice (some ⟨b, off, none⟩) l.length c ∧ l.length ≤ c ∧ c ≤ 9223372036854775807 ∧ b < w.heap.size ∧ ∀ k, k < l.length → w.cell? ⟨b, off + k, none⟩ = some (.int .u8 ((l.getD k 0 : Nat) : Int))
theorem BysIn.below {w w' : World} {v : Value} {l : List Nat} (h : BysIn w v l) (hb : Below w.heap.size w w') : BysIn w' v l := by
  rcases h with h | ⟨b, off, c, rfl, h1, h2, h3, hc⟩
  · exact .inl h
  · exact .inr ⟨b, off, c, rfl, h1, h2, Nat.lt_of_lt_of_le h3 hb.size, fun k hk => (hb.cell (p := ⟨b, off + k, none⟩) h3).trans (hc k hk)⟩
theorem BysIn.bys {w : World} {v : Value} {l : List Nat} (h : BysIn w v l) : BysAt w v l := by
  rcases h with ⟨rfl, rfl⟩ | ⟨b, off, c, rfl, h1, h2, h3, hc⟩
  · exact .inl ⟨rfl, _, _, rfl⟩
  · exact .inr ⟨b, off, c, rfl, hc⟩
theorem BysIn.form {w : World} {v : Value} {l : List Nat} (h : BysIn w v l) : ∃ A c, v = .slice A l.length c := by
  rcases h with ⟨rfl, rfl⟩ | ⟨b, off, c, rfl, _⟩
  · exact ⟨_, _, rfl⟩
  · exact ⟨_, _, rfl⟩

theorem take_full {n : Nat} {r : Rd} (h : r.short = false) (hn : n ≤ r.rest.length) : takeR n r = (r.rest.take n, ⟨r.rest.drop n, false⟩) := by
  unfold takeR
  rw [if_neg (by rw [h]; simp; omega)]
theorem take_lack {n : Nat} {r : Rd} (h : r.short = true ∨ r.rest.length < n) : takeR n r = ([], ⟨r.rest, true⟩) := if_pos h

theorem bysIn_nil (w : World) : BysIn w (.slice none 0 0) [] := .inl ⟨rfl, rfl⟩

theorem took_len {n : Nat} {r : Rd} : (takeR n r).1.length = n ∨ (takeR n r).1 = [] := by
  unfold takeR
  split
  · exact .inr rfl
  · left
    simp
    omega
theorem took_lt {n : Nat} {r : Rd} (h : ∀ c ∈ r.rest, c < 256) : (∀ c ∈ (takeR n r).1, c < 256) ∧ ∀ c ∈ (takeR n r).2.rest, c < 256 := by
  unfold takeR
  split
  · exact ⟨by simp, h⟩
  · exact ⟨fun c hc => h c (List.mem_of_mem_take hc), fun c hc => h c (List.mem_of_mem_drop hc)⟩

theorem valL_snoc (l : List Nat) (c : Nat) : valL (l ++ [c]) = valL l * 256 + c := by simp [valL]
theorem valL_lt : ∀ (n : Nat) (l : List Nat), l.length = n → (∀ c ∈ l, c < 256) → valL l < 256 ^ n
  | 0, l, hl, _ => by
    obtain rfl := List.length_eq_zero_iff.1 hl
    simp [valL]
  | n + 1, l, hl, h => by
    have hn : n < l.length := by omega
    have h1 := valL_lt n (l.take n) (by simp; omega) (fun x hx => h x (List.mem_of_mem_take hx))
    have h2 := h l[n] (List.getElem_mem hn)
    have e : l = l.take n ++ [l[n]] := by rw [← List.take_succ_eq_append_getElem hn, List.take_of_length_le (by omega)]
    rw [e, valL_snoc, Nat.pow_succ]
    omega

theorem or_low (x c : Nat) (hc : c < 256) : x * 256 ||| c = x * 256 + c := by
  have h : x <<< 8 + c = x <<< 8 ||| c := Nat.shiftLeft_add_eq_or_of_lt (b := c) (i := 8) (by omega) x
  rw [Nat.shiftLeft_eq] at h
  exact h.symm
theorem or_bytes (x c : Nat) (hx : x < 16777216) (hc : c < 256) : bits .or .i64 ((x : Int) * 256) (c : Int) = ((x * 256 + c : Nat) : Int) := by
  show IntKind.i64.wrap ((BitVec.ofInt 64 ((x : Int) * 256) ||| BitVec.ofInt 64 (c : Int)).toNat : Int) = _
  have h1 : (BitVec.ofInt 64 ((x : Int) * 256)).toNat = x * 256 := by
    rw [BitVec.toNat_ofInt]
    omega
  have h2 : (BitVec.ofInt 64 (c : Int)).toNat = c := by
    rw [BitVec.toNat_ofInt]
    omega
  rw [BitVec.toNat_or, h1, h2, or_low x c hc]
  unfold IntKind.wrap
  simp [IntKind.bits, IntKind.signed]
  omega

end Go.Proofs.YtfgnapfodnhppaaGreatDoor

namespace Go.Proofs.YtfgnapfodnhppaaGreatDoor
open Go Go.RowKit Go.WideShapes Go.ChangeShapes
set_option linter.unusedVariables false
set_option linter.unusedSimpArgs false

theorem conv_str {w : World} {v : Value} {l : List Nat} (h : BysIn w v l) (hl : ∀ c ∈ l, c < 256) : (convert 146 9 v).run Tryz.prog w = .ok (.string (strOf l)) w := by
  rcases h with ⟨rfl, rfl⟩ | ⟨b, off, c, rfl, h1, h2, h3, hc⟩
  · kernel_rfl
  · have hlen : l.length = (l.map UInt8.ofNat).length := by simp
    have h := run_convert_bytes_back (P := Tryz.prog) w 146 9 5 ⟨b, off, none⟩ c (l.map UInt8.ofNat) Tryz.underlying146 uU8 uStr (fun j hj => by
      rw [List.length_map] at hj
      rw [add_plain, hc j hj, List.getElem_map, List.getD_eq_getElem?_getD, List.getElem?_eq_getElem hj]
      have h1 := hl _ (List.getElem_mem hj)
      have h2 : (UInt8.ofNat l[j]).toNat = l[j] := by
        rw [UInt8.toNat_ofNat']
        omega
      rw [h2]
      rfl)
    rw [← hlen] at h
    exact h

theorem num_lt {n : Nat} {r : Rd} (h : ∀ c ∈ r.rest, c < 256) : (numR n r).1 < 256 ^ n ∧ ∀ c ∈ (numR n r).2.rest, c < 256 := by
  refine ⟨?_, (took_lt h).2⟩
  rcases took_len (n := n) (r := r) with h1 | h1
  · exact valL_lt n _ h1 (took_lt h).1
  · show valL (takeR n r).1 < _
    rw [h1]
    exact Nat.pow_pos (by decide)

theorem magic_step (m : Nat) (ms : List Nat) (r : Rd) : magicR (m :: ms) r = if (takeR 1 r).1 = [m] ∨ (takeR 1 r).1 = [] then magicR ms (takeR 1 r).2 else none := rfl

theorem one_of {l : List Nat} (h : l.length = 1 ∨ l = []) : l = [] ∨ ∃ x, l = [x] := by
  rcases h with h | h
  · match l, h with
    | [x], _ => exact .inr ⟨x, rfl⟩
  · exact .inl h

theorem one_cell {w : World} {v : Value} {x : Nat} (h : BysIn w v [x]) : ∃ b off c, v = .slice (some ⟨b, off, none⟩) 1 c ∧ w.cell? ⟨b, off, none⟩ = some (.int .u8 (x : Int)) := by
  rcases h with ⟨h, _⟩ | ⟨b, off, c, rfl, _, _, _, hc⟩
  · cases h
  · exact ⟨b, off, c, rfl, hc 0 (by simp)⟩

end Go.Proofs.YtfgnapfodnhppaaGreatDoor
