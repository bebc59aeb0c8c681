/-
  The program's appendNumber, appendName, appendInstr: bytes laid behind a row of the call's own. Conditions: rows of less than a million bytes; numbers that are not below nought.
-/
import Derived.Test.YtfknoecgcoapcaaDoorObjF
import Derived.Test.YtfknoecgcoapcaaDoorCrcB
import Derived.Deep.RegionWith
namespace Go.Proofs.YtfknoecgcoapcaaDoor
open Go Go.RowKit Go.WideShapes Go.ChangeShapes
set_option linter.unusedVariables false
set_option linter.unusedSimpArgs false

def bysV (l : List Nat) : List Value := l.map fun c => Value.int .u8 ((c : Nat) : Int)
theorem bysV_append (l m : List Nat) : bysV (l ++ m) = bysV l ++ bysV m := by simp [bysV]
theorem slU8 : SlT 38 5 1 1 := ⟨Tryd.underlying38, ⟨.int .u8 0, by kernel_rfl, rfl⟩, by decide, by decide⟩

/-- A row of bytes of the call's own that can be written. -/
def Strict (w : World) (base : Nat) (v : Value) (l : List Nat) : Prop := w.ownsRow base 5 1 v l.length (bysV l)
/-- A row laid for a constant text: full, and marked by the run-time. -/
def Marked (w : World) (base : Nat) (v : Value) (l : List Nat) : Prop :=
  0 < l.length ∧ ∃ g cur fz, v = .slice (some ⟨g, 0, none⟩) l.length l.length ∧ base ≤ g ∧ w.heap[g]? = some (.cells cur 5 fz) ∧ cur.toList = bysV l
/-- A row of bytes of the call's own. -/
def Row (w : World) (base : Nat) (v : Value) (l : List Nat) : Prop := Strict w base v l ∨ Marked w base v l
theorem Row.ge {w : World} {base : Nat} {v : Value} {l : List Nat} (h : Row w base v l) {b : Nat} (hb : v.ownBlock = some b) : base ≤ b ∧ b < w.heap.size := by
  rcases h with h | ⟨_, g, cur, fz, rfl, hg, hh, _⟩
  · exact own_ge h hb
  · obtain rfl : g = b := by simpa [Value.ownBlock] using hb
    exact ⟨hg, (Array.getElem?_eq_some_iff.1 hh).1⟩
theorem Row.form {w : World} {base : Nat} {v : Value} {l : List Nat} (h : Row w base v l) : ∃ A c, v = .slice A l.length c := by
  rcases h with h | ⟨_, g, cur, fz, rfl, _⟩
  · obtain ⟨A, c, h, _⟩ := own_form h
    exact ⟨A, c, h⟩
  · exact ⟨_, _, rfl⟩
theorem Row.fr {w w' : World} {S : Nat → Prop} {base : Nat} {v : Value} {l : List Nat} (h : Row w base v l) (hf : Fr S w w') (hn : ∀ k, v.ownBlock = some k → ¬ S k) : Row w' base v l := by
  rcases h with h | ⟨h0, g, cur, fz, rfl, hg, hh, hc⟩
  · exact .inl (own_fr h hf hn)
  · exact .inr ⟨h0, g, cur, fz, rfl, hg, (hf.block g (Array.getElem?_eq_some_iff.1 hh).1 (hn g rfl)).trans hh, hc⟩
/-- A row of bytes goes on. -/
structure Grows (w w' : World) (base : Nat) (v v' : Value) (l : List Nat) : Prop where
  own : Row w' base v' l
  fr : Fr (fun b => v.ownBlock = some b) w w'
  at_ : v'.ownBlock = v.ownBlock ∨ ∃ g, v'.ownBlock = some g ∧ w.heap.size ≤ g
theorem Grows.refl {w : World} {base : Nat} {v : Value} {l : List Nat} (h : Row w base v l) : Grows w w base v v l := ⟨h, Fr.refl _ _, .inl rfl⟩
theorem Grows.trans {w w' w'' : World} {base : Nat} {v v' v'' : Value} {l m : List Nat} (h : Grows w w' base v v' l) (k : Grows w' w'' base v' v'' m) : Grows w w'' base v v'' m := by
  refine ⟨k.own, ⟨k.fr.os.trans h.fr.os, k.fr.tape.trans h.fr.tape, k.fr.output.trans h.fr.output, Nat.le_trans h.fr.size k.fr.size, fun i hi hs => (k.fr.block i (Nat.lt_of_lt_of_le hi h.fr.size) (fun hv => ?_)).trans (h.fr.block i hi hs)⟩, ?_⟩
  · rcases h.at_ with e2 | ⟨g, e2, hg⟩
    · exact hs (e2.symm.trans hv)
    · rw [e2] at hv
      injection hv with hv
      omega
  · rcases k.at_ with e1 | ⟨g, e1, hg⟩
    · rcases h.at_ with e2 | ⟨g, e2, hg⟩
      · exact .inl (e1.trans e2)
      · exact .inr ⟨g, e1.trans e2, hg⟩
    · exact .inr ⟨g, e1, Nat.le_trans h.fr.size hg⟩
theorem Grows.form {w w' : World} {base : Nat} {v v' : Value} {l : List Nat} (h : Grows w w' base v v' l) : ∃ A c, v' = .slice A l.length c := by
  exact h.own.form
theorem Grows.below {w w' : World} {base : Nat} {v v' : Value} {l m : List Nat} (h : Grows w w' base v v' l) (ho : Row w base v m) (hb : base ≤ w.heap.size) : Below base w w' :=
  h.fr.below hb (fun k hk => (ho.ge hk).1)
theorem Row.alloc {w : World} {base : Nat} {v : Value} {l : List Nat} (h : Row w base v l) (o : Obj) : Row (w.alloc o) base v l := Row.fr (S := fun _ => False) h ((Fr.refl _ w).alloc _) (fun _ _ x => x)
theorem Row.below {w w' : World} {base : Nat} {v : Value} {l : List Nat} (h : Row w base v l) (hb : Below w.heap.size w w') : Row w' base v l := Row.fr (S := fun _ => False) h (Fr.of_below hb) (fun _ _ x => x)

theorem grown_row (w : World) (xs news : List Value) (n m old base : Nat) (hx : xs.length = n) (hn : news.length = m) (hb : base ≤ w.heap.size) (hm : n + m ≤ maxLen) :
    (w.drew.alloc (.cells (xs.toArray ++ news.toArray ++ Builtin.zeroCells (Value.int .u8 0).cells (grownCap w (n + m) old 5 - (n + m))) 5)).ownsRow base 5 1
        (.slice (some ⟨w.heap.size, 0, none⟩) (n + m) (grownCap w (n + m) old 5)) (n + m) (xs ++ news) ∧
      w.grownBy (w.drew.alloc (.cells (xs.toArray ++ news.toArray ++ Builtin.zeroCells (Value.int .u8 0).cells (grownCap w (n + m) old 5 - (n + m))) 5)) none := by
  have hge := grownCap_ge w (n + m) old 5
  have hcm : grownCap w (n + m) old 5 ≤ maxLen := grownCap_le_maxLen w (n + m) old 5 hm
  refine ⟨⟨by simp [hx, hn], .inr ⟨w.heap.size, _, _, rfl, hb, heap_alloc_new w.drew _, hge, hcm, ?_, ?_⟩⟩, ⟨rfl, rfl, rfl, by simp, fun k hk _ => Below.heap_alloc w.drew _ k hk⟩⟩
  · have hz1 : (Value.int IntKind.u8 0).cells.size = 1 := rfl
    simp only [Array.size_append, List.size_toArray, size_zeroCells, hz1, hx, hn]
    omega
  · simp only [Array.toList_append, List.append_assoc]
    rw [← List.append_assoc, show (n + m) * 1 = (xs ++ news).length by simp [hx, hn]]
    exact List.take_left

theorem infoU8 : ∃ i, Tryd.prog.info? 5 = some i ∧ i.zero = some (.int .u8 0) ∧ i.size = 1 ∧ i.bytes = 1 := by
  obtain ⟨i, h1, h2, h3, h4⟩ := info_parts (show (Tryd.prog.info? 5).map (fun i => (i.zero, i.size, i.bytes)) = some (some (.int .u8 0), 1, 1) by kernel_rfl)
  exact ⟨i, h1, h2, h3, h4⟩

theorem bysV_len (l : List Nat) : (bysV l).length = l.length := by simp [bysV]

theorem strict_of {w : World} {base n : Nat} {v : Value} {l m : List Nat} (h : w.ownsRow base 5 1 v n (bysV l ++ bysV m)) (hn : n = l.length + m.length) : Strict w base v (l ++ m) := by
  subst hn
  unfold Strict
  rw [bysV_append, List.length_append]
  exact h

theorem app_byte {wr : World} {base : Nat} {v : Value} {l : List Nat} (hown : Row wr base v l) (c : Nat) (hn : l.length ≤ 1000000) (hbase : base ≤ wr.heap.size) (ty : TypeId) :
    ∃ v' w', (Builtin.append_ #[38, 38] ty #[v, .slice (some ⟨wr.heap.size, 0, none⟩) 1 1]).run Tryd.prog (wr.alloc (.cells #[.int .u8 (c : Int)] 5)) = .ok v' w' ∧ Hid (Grows wr w' base v v' (l ++ [c]) ∧ Strict w' base v' (l ++ [c])) := by
  rcases hown with hown | ⟨h0, g, cur, fz, rfl, hg, hh, hc⟩
  · obtain ⟨v', w', hr, h⟩ := app_one slU8 hown [.int .u8 (c : Int)] rfl (one_word _ _) hn hbase ty
    have hs : Strict w' base v' (l ++ [c]) := by
      have := h.out.own
      unfold Strict
      rw [bysV_append, List.length_append]
      exact this
    exact ⟨v', w', hr, Lib.hid ⟨⟨.inl hs, h.out.fr, h.out.at_⟩, hs⟩⟩
  · obtain ⟨i, hi1, hz0, hz1, hz2⟩ := infoU8
    have hlt := (Array.getElem?_eq_some_iff.1 hh).1
    have hh2 : (wr.alloc (.cells #[.int .u8 (c : Int)] 5)).heap[g]? = some (.cells cur 5 fz) := (Below.heap_alloc wr _ g hlt).trans hh
    have hr := run_append_grow (P := Tryd.prog) (wr.alloc (.cells #[.int .u8 (c : Int)] 5)) 38 ty 5 i (.int .u8 0) Tryd.underlying38 hi1 hz0 ⟨g, 0, none⟩ l.length l.length (bysV l) (by rw [hz1, bysV_len]; omega)
      (fun j u hu => by
        rw [add_plain, Nat.zero_add, cell_of_row _ g j cur _ fz hh2, ← Array.getElem?_toList, hc]
        exact hu)
      ⟨wr.heap.size, 0, none⟩ 1 1 [.int .u8 (c : Int)] (by rw [hz1]; rfl) (fun j u hu => by
        rw [add_plain, Nat.zero_add, (Box.new wr 5 #[.int .u8 (c : Int)]).cell j]
        simpa using hu) (by omega) (by omega) (by rw [hz2]; exact growslice_fits (by omega) (by omega))
    obtain ⟨h1, h2⟩ := grown_row (wr.alloc (.cells #[.int .u8 (c : Int)] 5)) (bysV l) [.int .u8 (c : Int)] l.length 1 l.length base (bysV_len l) rfl (by simp; omega) (by unfold maxLen; omega)
    have hs := strict_of (m := [c]) h1 rfl
    exact ⟨_, _, hr, Lib.hid ⟨⟨.inl hs, ((Fr.refl _ wr).alloc _).trans (Fr.of_grown h2 (fun _ _ e => by cases e)), .inr ⟨_, rfl, by simp⟩⟩, hs⟩⟩

theorem numL_len (n m : Nat) : (numL n m).length = n := by
  induction n with
  | zero => rfl
  | succ n ih => simp [numL, ih]

set_option maxRecDepth 100000 in
set_option maxHeartbeats 2000000 in
theorem appNum_any (size n : Nat) (hs : size ≤ 4) (hn : n < 4294967296) {base : Nat} {l : List Nat} (hl : l.length ≤ 900000) (v : Value) (w : World) (hv : Row w base v l) (hb : base ≤ w.heap.size) :
    Calls Tryd.prog 23 #[v, .int .i64 size, .int .i64 n] w fun e w' => ∃ v', e = .returned v' ∧ Grows w w' base v v' (l ++ numL size n) ∧ (0 < size → Strict w' base v' (l ++ numL size n)) := by
  have G0 := Lib.hid (Grows.refl hv)
  clear hv
  go_enter Tryd.func23, Tryd.ntmps23
  go_wp2
  go_loopw [0, 7] (fun s i wr => ∃ (j : Nat) (vs : Value) (pre : List Nat), j ≤ size ∧ i = .int .i64 ((j : Int) - 1) ∧ vs = s ∧ Hid (Grows w wr base v vs pre ∧ (j < size → Strict wr base vs pre)) ∧ Hid (pre ++ numL j n = l ++ numL size n ∧ pre.length ≤ 900004)) (fun _ i _ => (intOf i + 1).toNat)
  case atStart => exact ⟨size, _, l, by omega, by go_num, rfl, Lib.hid ⟨G0.out, fun h => absurd h (by omega)⟩, Lib.hid ⟨rfl, by omega⟩⟩
  case round =>
    obtain ⟨j, vs, pre, hj, rfl, rfl, HG, HP⟩ := hrel
    by_cases hz : j = 0
    · subst hz
      have HF : Hid (Grows w wr base v vs (l ++ numL size n) ∧ (0 < size → Strict wr base vs (l ++ numL size n))) := Lib.hid (by
        have := HP.out.1
        rw [numL, List.append_nil] at this
        rw [← this]
        exact HG.out)
      go_wp2
      go_ret
      exact ⟨_, rfl, HF.out⟩
    · obtain ⟨m, rfl⟩ : ∃ m, j = m + 1 := ⟨j - 1, by omega⟩
      have HP2 : Hid ((pre ++ [n / 256 ^ m % 256]) ++ numL m n = l ++ numL size n) := Lib.hid (by rw [← HP.out.1, numL]; simp)
      have hm : m = 0 ∨ m = 1 ∨ m = 2 ∨ m = 3 := by omega
      obtain ⟨v7, w7, hr7, HA7⟩ := app_byte HG.out.1.own (n / 256 ^ m % 256) (by have := HP.out.2; omega) (Nat.le_trans hb HG.out.1.fr.size) 38
      clear hz
      have HG8 : ∀ j, Hid (Grows w w7 base v v7 (pre ++ [n / 256 ^ m % 256]) ∧ (j < size → Strict w7 base v7 (pre ++ [n / 256 ^ m % 256]))) := fun j => Lib.hid ⟨HG.out.1.trans HA7.out.1, fun _ => HA7.out.2⟩
      have HL8 : Hid ((pre ++ [n / 256 ^ m % 256]).length ≤ 900004) := Lib.hid (by
        have h := congrArg List.length HP2.out
        simp only [List.length_append, numL_len] at h ⊢
        omega)
      rcases hm with rfl | rfl | rfl | rfl
      · rw [show ((n / 256 ^ 0 % 256 : Nat) : Int) = (n : Int) % 256 by omega] at hr7
        have HR := Lib.hid hr7
        clear hr7
        go_wp2_with (at_builtin; refine wpList_of_append HR.out rfl _ _ rfl rfl rfl ?_)
        go_roundw
        case rel => exact ⟨0, _, _, by omega, by go_num, rfl, HG8 _, Lib.hid ⟨HP2.out, HL8.out⟩⟩
        case measure => simp [intOf]
      · rw [show ((n / 256 ^ 1 % 256 : Nat) : Int) = (n : Int) / 256 % 256 by omega] at hr7
        have HR := Lib.hid hr7
        clear hr7
        go_wp2_with (at_builtin; refine wpList_of_append HR.out rfl _ _ rfl rfl rfl ?_)
        go_roundw
        case rel => exact ⟨1, _, _, by omega, by go_num, rfl, HG8 _, Lib.hid ⟨HP2.out, HL8.out⟩⟩
        case measure => simp [intOf]
      · rw [show ((n / 256 ^ 2 % 256 : Nat) : Int) = (n : Int) / 65536 % 256 by omega] at hr7
        have HR := Lib.hid hr7
        clear hr7
        go_wp2_with (at_builtin; refine wpList_of_append HR.out rfl _ _ rfl rfl rfl ?_)
        go_roundw
        case rel => exact ⟨2, _, _, by omega, by go_num, rfl, HG8 _, Lib.hid ⟨HP2.out, HL8.out⟩⟩
        case measure => simp [intOf]
      · rw [show ((n / 256 ^ 3 % 256 : Nat) : Int) = (n : Int) / 16777216 by omega] at hr7
        have HR := Lib.hid hr7
        clear hr7
        go_wp2_with (at_builtin; refine wpList_of_append HR.out rfl _ _ rfl rfl rfl ?_)
        go_roundw
        case rel => exact ⟨3, _, _, by omega, by go_num, rfl, HG8 _, Lib.hid ⟨HP2.out, HL8.out⟩⟩
        case measure => simp [intOf]

/-- How an append of a string's bytes goes. -/
theorem app_str {wr : World} {base : Nat} {v : Value} {l : List Nat} (hown : Row wr base v l) (s : ByteArray) (hs : s.size ≤ 1000) (hs1 : 1 ≤ s.size) (hn : l.length ≤ 1000000) (hbase : base ≤ wr.heap.size) (ty : TypeId) :
    ∃ v' w', (Builtin.append_ #[38, 9] ty #[v, .string s]).run Tryd.prog wr = .ok v' w' ∧ Hid (Grows wr w' base v v' (l ++ strL s)) := by
  obtain ⟨i, hi1, hz0, hz1, hz2⟩ := infoU8
  have ht := Tryd.underlying38
  have hu : Tryd.prog.underlying 9 = some .string := uStr
  have hsl : (strL s).length = s.size := by unfold strL; rw [List.length_map, Array.length_toList]; rfl
  have e : bysV (strL s) = Lib.strCells s := by simp [bysV, strL, Lib.strCells]
  rcases hown with hown | ⟨h0, g, cur, fz, rfl, hg, hh, hc⟩
  case inr =>
    have hlt := (Array.getElem?_eq_some_iff.1 hh).1
    have hr2 := Lib.run_append_grow_string (P := Tryd.prog) wr _ _ ty _ i (.int .u8 0) ht hu hi1 hz0 ⟨g, 0, none⟩ l.length l.length (bysV l) (by rw [hz1]; simp [bysV]) (fun j u hu => by
      rw [add_plain, Nat.zero_add, cell_of_row _ g j cur _ fz hh, ← Array.getElem?_toList, hc]
      exact hu) s (by omega) (by omega) (by rw [hz2]; exact growslice_fits (by omega) (by omega))
    obtain ⟨h1, h2⟩ := grown_row wr (bysV l) (Lib.strCells s) l.length s.size l.length base (bysV_len l) (by rw [← e, bysV_len, hsl]) hbase (by unfold maxLen; omega)
    refine ⟨_, _, hr2, Lib.hid ⟨.inl ?_, Fr.of_grown h2 (fun _ _ e => by cases e), .inr ⟨_, rfl, Nat.le_refl _⟩⟩⟩
    unfold Strict
    rw [List.length_append, hsl, bysV_append, e]
    exact h1
  obtain ⟨v', w', hr, h2, h3, _⟩ := Lib.run_append_own_string (P := Tryd.prog) wr base _ _ ty _ i ht hu hi1 hz0 hz1 hz2 v l.length (bysV l) hown s (by unfold maxLen; omega) (by omega) hbase
  refine ⟨v', w', hr, Lib.hid ⟨?_, Fr.of_grown h3 (fun _ _ e => e), ?_⟩⟩
  · refine .inl ?_
    unfold Strict
    rw [List.length_append, hsl, bysV_append, e]
    exact h2
  · rcases hown.2 with ⟨rfl, h0⟩ | ⟨g, cap, cur, rfl, hbg, hg, hnc, hcm, hcs, htake⟩
    · obtain ⟨v2, w2, hr2, k2, _, _⟩ := Lib.run_append_own_string (P := Tryd.prog) wr wr.heap.size _ _ ty _ i ht hu hi1 hz0 hz1 hz2 (.slice none 0 0) l.length (bysV l) ⟨hown.1, .inl ⟨rfl, h0⟩⟩ s (by unfold maxLen; omega) (by omega) (Nat.le_refl _)
      rw [hr] at hr2
      injection hr2 with e1 e2
      subst e1
      cases hb : v'.ownBlock with
      | none => exact .inl rfl
      | some b => exact .inr ⟨b, rfl, (own_ge k2 hb).1⟩
    · by_cases hroom : l.length + s.size ≤ cap
      · have hcs' : cur.size = cap := by simpa using hcs
        have hr2 := Lib.run_append_room_string (P := Tryd.prog) wr _ _ ty _ i ht hu hi1 hz1 g l.length cap cur hg s hroom (by omega)
        rw [hr] at hr2
        injection hr2 with e1 e2
        subst e1
        exact .inl rfl
      · have holds : ∀ j u, (bysV l)[j]? = some u → wr.cell? ((⟨g, 0, none⟩ : Addr).add j) = some u := World.ownsRow.cells (g := g) hown rfl
        have hr2 := Lib.run_append_grow_string (P := Tryd.prog) wr _ _ ty _ i (.int .u8 0) ht hu hi1 hz0 ⟨g, 0, none⟩ l.length cap (bysV l) (by rw [hz1]; simp [bysV]) holds s (by omega) (by omega) (by rw [hz2]; exact growslice_fits (by omega) (by omega))
        rw [hr] at hr2
        injection hr2 with e1 e2
        subst e1
        exact .inr ⟨_, rfl, Nat.le_refl _⟩

set_option maxRecDepth 100000 in
set_option maxHeartbeats 2000000 in
theorem appName_any (s : ByteArray) (hs : s.size ≤ 255) (hs1 : 1 ≤ s.size) {base : Nat} {l : List Nat} (hl : l.length ≤ 800000) (v : Value) (w : World) (hv : Row w base v l) (hb : base ≤ w.heap.size) :
    Calls Tryd.prog 24 #[v, .string s] w fun e w' => ∃ v', e = .returned v' ∧ Grows w w' base v v' (l ++ nameL s) := by
  have HN := Lib.hid (appNum_any 1 s.size (by omega) (by omega) (by omega) v w hv hb)
  have HB := Lib.hid hb
  clear hv hb
  have h0 : ¬ 9223372036854775807 < s.size := by omega
  go_enter Tryd.func24, Tryd.ntmps24
  go_wp2_with (first
    | (go_at_call 23; refine HN.out.mono ?_; rintro e w5 ⟨v5, rfl, hg5, _⟩; obtain ⟨v6, w6, hr6, HG6⟩ := app_str hg5.own s (by omega) (by omega) (by rw [List.length_append, numL_len]; omega) (Nat.le_trans HB.out hg5.fr.size) 38; have HR := Lib.hid hr6; have HG5 := Lib.hid hg5; clear hr6 hg5)
    | (at_builtin; refine wpList_of_append HR.out rfl _ _ rfl rfl rfl ?_))
  go_ret
  exact ⟨_, rfl, by rw [nameL, ← List.append_assoc]; exact HG5.out.trans HG6.out⟩

end Go.Proofs.YtfknoecgcoapcaaDoor
