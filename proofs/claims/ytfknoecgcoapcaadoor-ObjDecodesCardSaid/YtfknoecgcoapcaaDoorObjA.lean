/-
  Words on memory for objects: a slice whose cells are these; and the program's full, within, operandSize, allNames, allFuns, each by its plain words in whatever world. Conditions: names' lengths are such as a string may have.
-/
import Derived.Test.YtfknoecgcoapcaaDoorObjM
import Derived.Test.YtfknoecgcoapcaaDoorOTName
import Derived.Test.YtfknoecgcoapcaaDoorOCodeD
namespace Go.Proofs.YtfknoecgcoapcaaDoor
open Go Go.RowKit Go.WideShapes Go.ChangeShapes
set_option linter.unusedVariables false
set_option linter.unusedSimpArgs false

/-- A slice of so many elements, whose cells are these. -/
def CellsAt (w : World) (v : Value) (n : Nat) (cs : List Value) : Prop :=
  (n = 0 ∧ cs = [] ∧ ∃ A c, v = .slice A 0 c) ∨
    ∃ b off c, v = .slice (some ⟨b, off, none⟩) n c ∧ b < w.heap.size ∧ ∀ k u, cs[k]? = some u → w.cell? ⟨b, off + k, none⟩ = some u

theorem CellsAt.below {w w' : World} {v : Value} {n : Nat} {cs : List Value} (h : CellsAt w v n cs) (hb : Below w.heap.size w w') : CellsAt w' v n cs := by
  rcases h with h | ⟨b, off, c, rfl, hl, hc⟩
  · exact .inl h
  · exact .inr ⟨b, off, c, rfl, Nat.lt_of_lt_of_le hl hb.size, fun k u hk => (hb.cell (p := ⟨b, off + k, none⟩) hl).trans (hc k u hk)⟩

theorem CellsAt.form {w : World} {v : Value} {n : Nat} {cs : List Value} (h : CellsAt w v n cs) : ∃ A c, v = .slice A n c := by
  rcases h with ⟨rfl, _, A, c, rfl⟩ | ⟨b, off, c, rfl, _⟩
  · exact ⟨A, c, rfl⟩
  · exact ⟨_, c, rfl⟩

theorem CellsAt.at_ {w : World} {A : Option Addr} {n m c : Nat} {cs : List Value} (h : CellsAt w (.slice A m c) n cs) (hn : 0 < n) :
    m = n ∧ ∃ b off, A = some ⟨b, off, none⟩ ∧ b < w.heap.size ∧ ∀ k u, cs[k]? = some u → w.cell? ⟨b, off + k, none⟩ = some u := by
  rcases h with ⟨rfl, _, _⟩ | ⟨b, off, c', hv, hl, hc⟩
  · omega
  · injection hv with h1 h2 h3
    exact ⟨h2, b, off, h1, hl, hc⟩

theorem CellsAt.of_own {w : World} {base : Nat} {e : TypeId} {size n : Nat} {v : Value} {xs : List Value} (h : w.ownsRow base e size v n xs) (hs : 0 < size) : CellsAt w v n xs := by
  rcases h.2 with ⟨h0, h1⟩ | ⟨g, cap, cur, he, hb, hg, h2, h3, hrest⟩
  · subst h0
    subst h1
    have hx : xs = [] := by
      have := h.1
      simpa using this
    exact .inl ⟨rfl, hx, _, _, rfl⟩
  · refine .inr ⟨g, 0, cap, he, (Array.getElem?_eq_some_iff.1 hg).1, fun k u hk => ?_⟩
    subst he
    have hkl := (List.getElem?_eq_some_iff.1 hk).1
    rw [Nat.zero_add, h.cellAt k (by have := h.1; omega)]
    exact hk

def funC (f : ByteArray × Int) : List Value := [.string f.1, .int .i64 f.2]
def predC (p : ByteArray × Int × Int) : List Value := [.string p.1, .int .i64 p.2.1, .int .i64 p.2.2]
def insC (i : Ins) : List Value := [.int .i64 i.1, .int .i64 i.2.1, .int .i64 i.2.2.1, .int .i64 i.2.2.2.1, .int .i64 i.2.2.2.2]

theorem flat_at {α : Type} (f : α → List Value) (m : Nat) (hf : ∀ a, (f a).length = m) : ∀ (l : List α) (k : Nat) (a : α), l[k]? = some a → ∀ j, j < m → (l.flatMap f)[k * m + j]? = (f a)[j]?
  | [], _, _, h, _, _ => by simp at h
  | x :: l, 0, a, h, j, hj => by
    obtain rfl : x = a := by simpa using h
    rw [List.flatMap_cons, Nat.zero_mul, Nat.zero_add, List.getElem?_append_left (by rw [hf]; exact hj)]
  | x :: l, k + 1, a, h, j, hj => by
    have h' : l[k]? = some a := by simpa using h
    rw [List.flatMap_cons, List.getElem?_append_right (by rw [hf, Nat.succ_mul]; omega), hf, show (k + 1) * m + j - m = k * m + j by rw [Nat.succ_mul]; omega]
    exact flat_at f m hf l k a h' j hj

/-- Names, names with arities, predicates, instructions, in memory. -/
def AtomsAt (w : World) (v : Value) (l : List ByteArray) : Prop := CellsAt w v l.length (l.map Value.string)
def FunsAt (w : World) (v : Value) (l : List (ByteArray × Int)) : Prop := CellsAt w v l.length (l.flatMap funC)
def PredsAt (w : World) (v : Value) (l : List (ByteArray × Int × Int)) : Prop := CellsAt w v l.length (l.flatMap predC)
def CodeAt (w : World) (v : Value) (l : List Ins) : Prop := CellsAt w v l.length (l.flatMap insC)
structure ObAt (w : World) (va vf vp vc : Value) (o : Ob) : Prop where
  atoms : AtomsAt w va o.atoms
  funs : FunsAt w vf o.funs
  preds : PredsAt w vp o.preds
  code : CodeAt w vc o.code
theorem ObAt.below {w w' : World} {va vf vp vc : Value} {o : Ob} (h : ObAt w va vf vp vc o) (hb : Below w.heap.size w w') : ObAt w' va vf vp vc o :=
  ⟨CellsAt.below h.atoms hb, CellsAt.below h.funs hb, CellsAt.below h.preds hb, CellsAt.below h.code hb⟩

theorem atomCell {w : World} {A : Option Addr} {c : Nat} {l : List ByteArray} (h : AtomsAt w (.slice A l.length c) l) (k : Nat) (hk : k < l.length) :
    ∃ b off, A = some ⟨b, off, none⟩ ∧ b < w.heap.size ∧ w.cell? ⟨b, off + k, none⟩ = some (.string l[k]) := by
  obtain ⟨_, b, off, hA, hl, hc⟩ := h.at_ (by omega)
  exact ⟨b, off, hA, hl, hc k _ (by simp [hk])⟩
theorem funCell {w : World} {A : Option Addr} {c : Nat} {l : List (ByteArray × Int)} (h : FunsAt w (.slice A l.length c) l) (k : Nat) (hk : k < l.length) :
    ∃ b off, A = some ⟨b, off, none⟩ ∧ b < w.heap.size ∧ w.cell? ⟨b, off + k * 2, none⟩ = some (.string l[k].1) ∧ w.cell? ⟨b, off + k * 2 + 1, none⟩ = some (.int .i64 l[k].2) := by
  obtain ⟨_, b, off, hA, hl, hc⟩ := h.at_ (by omega)
  have hf := flat_at funC 2 (fun _ => rfl) l k l[k] (by simp [hk])
  exact ⟨b, off, hA, hl, hc _ _ (hf 0 (by omega)), hc _ _ (hf 1 (by omega))⟩
theorem predCell {w : World} {A : Option Addr} {c : Nat} {l : List (ByteArray × Int × Int)} (h : PredsAt w (.slice A l.length c) l) (k : Nat) (hk : k < l.length) :
    ∃ b off, A = some ⟨b, off, none⟩ ∧ b < w.heap.size ∧ w.cell? ⟨b, off + k * 3, none⟩ = some (.string l[k].1) ∧ w.cell? ⟨b, off + k * 3 + 1, none⟩ = some (.int .i64 l[k].2.1) ∧ w.cell? ⟨b, off + k * 3 + 2, none⟩ = some (.int .i64 l[k].2.2) := by
  obtain ⟨_, b, off, hA, hl, hc⟩ := h.at_ (by omega)
  have hf := flat_at predC 3 (fun _ => rfl) l k l[k] (by simp [hk])
  exact ⟨b, off, hA, hl, hc _ _ (hf 0 (by omega)), hc _ _ (hf 1 (by omega)), hc _ _ (hf 2 (by omega))⟩
theorem insCell {w : World} {A : Option Addr} {c : Nat} {l : List Ins} (h : CodeAt w (.slice A l.length c) l) (k : Nat) (hk : k < l.length) :
    ∃ b off, A = some ⟨b, off, none⟩ ∧ b < w.heap.size ∧ w.cell? ⟨b, off + k * 5, none⟩ = some (.int .i64 l[k].1) ∧ w.cell? ⟨b, off + k * 5 + 1, none⟩ = some (.int .i64 l[k].2.1) ∧ w.cell? ⟨b, off + k * 5 + 2, none⟩ = some (.int .i64 l[k].2.2.1) ∧
      w.cell? ⟨b, off + k * 5 + 3, none⟩ = some (.int .i64 l[k].2.2.2.1) ∧ w.cell? ⟨b, off + k * 5 + 4, none⟩ = some (.int .i64 l[k].2.2.2.2) := by
  obtain ⟨_, b, off, hA, hl, hc⟩ := h.at_ (by omega)
  have hf := flat_at insC 5 (fun _ => rfl) l k l[k] (by simp [hk])
  exact ⟨b, off, hA, hl, hc _ _ (hf 0 (by omega)), hc _ _ (hf 1 (by omega)), hc _ _ (hf 2 (by omega)), hc _ _ (hf 3 (by omega)), hc _ _ (hf 4 (by omega))⟩

theorem full_any (a f p c : Nat) (w : World) :
    Calls Tryd.prog 31 #[.int .i64 a, .int .i64 f, .int .i64 p, .int .i64 c] w fun e w' => e = .returned (.bool (bigB a f p c)) ∧ w = w' := by
  have hb : bigB a f p c = (decide ((256 : Int) < a) || decide ((256 : Int) < f) || decide ((64 : Int) < p) || decide ((1024 : Int) < c)) := by
    unfold bigB
    rw [Bool.eq_iff_iff]
    simp
    omega
  rw [hb]
  clear hb
  by_cases h1 : (256 : Int) < (a : Int)
  · go_enter Tryd.func31, Tryd.ntmps31
    go_wp2
    go_ret
    exact ⟨ret_b (by simp [h1]), rfl⟩
  · by_cases h2 : (256 : Int) < (f : Int)
    · go_enter Tryd.func31, Tryd.ntmps31
      go_wp2
      go_ret
      exact ⟨ret_b (by simp [h2]), rfl⟩
    · by_cases h3 : (64 : Int) < (p : Int)
      · go_enter Tryd.func31, Tryd.ntmps31
        go_wp2
        go_ret
        exact ⟨ret_b (by simp [h3]), rfl⟩
      · go_enter Tryd.func31, Tryd.ntmps31
        go_wp2
        go_ret
        exact ⟨ret_b (by simp; omega), rfl⟩

theorem within_any (n m : Int) (w : World) :
    Calls Tryd.prog 59 #[.int .i64 n, .int .i64 m] w fun e w' => e = .returned (.bool (decide (0 ≤ n ∧ n < m))) ∧ w = w' := by
  by_cases h : 0 ≤ n
  · go_enter Tryd.func59, Tryd.ntmps59
    go_wp2
    go_ret
    exact ⟨ret_b (by simp [h]), rfl⟩
  · go_enter Tryd.func59, Tryd.ntmps59
    go_wp2
    go_ret
    exact ⟨ret_b (by simp; omega), rfl⟩

theorem osize_any (kind : Int) (w : World) :
    Calls Tryd.prog 55 #[.int .i64 kind] w fun e w' => e = .returned (.int .i64 (sizeK kind)) ∧ w = w' := by
  by_cases h : kind = 8
  · subst h
    go_enter Tryd.func55, Tryd.ntmps55
    go_wp2
    go_ret
    exact ⟨rfl, rfl⟩
  · have h' : (kind == 8) = false := by simpa using h
    have hk : sizeK kind = 1 := if_neg h
    rw [hk]
    clear hk
    go_enter Tryd.func55, Tryd.ntmps55
    go_wp2
    go_ret
    exact ⟨rfl, rfl⟩

theorem all_take {α : Type} (p : α → Bool) (l : List α) (k : Nat) (h : k < l.length) : (l.take (k + 1)).all p = ((l.take k).all p && p l[k]) := by
  rw [List.take_succ_eq_append_getElem h, List.all_append]
  simp
theorem all_not {α : Type} (p : α → Bool) (l : List α) (k : Nat) (h : k < l.length) (hp : p l[k] = false) : l.all p = false := by
  have : ¬ l.all p = true := fun e => by
    rw [List.all_eq_true] at e
    rw [e _ (List.getElem_mem h)] at hp
    cases hp
  simpa using this

set_option maxHeartbeats 1000000 in
theorem allNames_any (l : List ByteArray) (hs : ∀ s ∈ l, s.size ≤ maxLen) (hm : l.length ≤ 1000000) (v : Value) (w : World) (hv : AtomsAt w v l) :
    Calls Tryd.prog 32 #[v] w fun e w' => e = .returned (.bool (l.all nameOk)) ∧ w = w' := by
  obtain ⟨A, c, rfl⟩ := hv.form
  have HV := Lib.hid hv
  have HS := Lib.hid hs
  clear hv hs
  go_enter Tryd.func32, Tryd.ntmps32
  go_wp2
  go_loop [7] (fun i => ∃ k : Nat, k ≤ l.length ∧ i = .int .i64 k ∧ Hid ((l.take k).all nameOk = true)) (fun i => l.length - (intOf i).toNat)
  case atStart => exact ⟨0, by omega, rfl, by simp [Hid]⟩
  case round =>
    obtain ⟨k, hk, rfl, HA⟩ := hrel
    by_cases hlt : k < l.length
    · obtain ⟨b, off, rfl, hb, hc⟩ := atomCell HV.out k hlt
      have hsz := HS.out _ (List.getElem_mem hlt)
      have HT := Lib.hid (all_take nameOk l k hlt)
      have HN := Lib.hid (fun h => all_not nameOk l k hlt h)
      generalize l[k] = s at hc hsz HT HN
      cases hB : nameOk s
      · have HN2 := Lib.hid (HN.out hB)
        have HC := Lib.hid (fun w => tname_is s hB w hsz)
        clear hsz
        go_wp2_with (go_at_call 58; refine (HC.out _).mono ?_; rintro e w' ⟨rfl, rfl⟩)
        go_ret
        exact ⟨by rw [HN2.out]; rfl, rfl⟩
      · have HC := Lib.hid (fun w => tname_is s hB w hsz)
        have HB := Lib.hid hB
        clear hsz hB
        go_wp2_with (go_at_call 58; refine (HC.out _).mono ?_; rintro e w' ⟨rfl, rfl⟩)
        go_round
        case rel => exact ⟨k + 1, by omega, by go_num, by show _ = _; rw [HT.out, HA.out, HB.out]; rfl⟩
        case measure => simp [intOf]; omega
    · obtain rfl : k = l.length := by omega
      have HF : Hid (l.all nameOk = true) := by
        have := HA.out
        rw [List.take_length] at this
        exact this
      go_wp2
      go_ret
      exact ⟨by rw [HF.out]; rfl, rfl⟩

set_option maxHeartbeats 2000000 in
theorem allFuns_any (least : Int) (l : List (ByteArray × Int)) (hs : ∀ s ∈ l, s.1.size ≤ maxLen) (hm : l.length ≤ 1000000) (v : Value) (w : World) (hv : FunsAt w v l) :
    Calls Tryd.prog 33 #[v, .int .i64 least] w fun e w' => e = .returned (.bool (l.all (funOk least))) ∧ Below w.heap.size w w' := by
  obtain ⟨A, c, rfl⟩ := CellsAt.form hv
  have HV := Lib.hid hv
  have HS := Lib.hid hs
  clear hv hs
  go_enter Tryd.func33, Tryd.ntmps33
  go_wp2
  go_loopw [9] (fun i wr => ∃ k : Nat, k ≤ l.length ∧ i = .int .i64 k ∧ Hid ((l.take k).all (funOk least) = true) ∧ Hid (Below w.heap.size w wr)) (fun i _ => l.length - (intOf i).toNat)
  case atStart => exact ⟨0, by omega, rfl, by simp [Hid], Lib.hid (Below.refl _ w)⟩
  case round =>
    obtain ⟨k, hk, rfl, HA, HB⟩ := hrel
    by_cases hlt : k < l.length
    · obtain ⟨b, off, rfl, hb, hc0, hc1⟩ := funCell HV.out k hlt
      have d0 := (HB.out.cell (p := ⟨b, off + k * 2, none⟩) hb).trans hc0
      have d1 := (HB.out.cell (p := ⟨b, off + k * 2 + 1, none⟩) hb).trans hc1
      have hsz := HS.out _ (List.getElem_mem hlt)
      have HT := Lib.hid (all_take (funOk least) l k hlt)
      have HN := Lib.hid (fun h => all_not (funOk least) l k hlt h)
      obtain ⟨fo, hfo⟩ : ∃ fo, fo = funOk least l[k] := ⟨_, rfl⟩
      rw [← hfo] at HT HN
      unfold funOk at hfo
      have HE := Lib.hid hfo
      clear hc0 hc1 hfo
      generalize l[k].1 = s at d0 hsz HE
      generalize l[k].2 = n at d1 HE
      have HBB : ∀ o, Hid (Below w.heap.size w (wr.alloc o)) := fun o => Lib.hid (HB.out.alloc HB.out.size o)
      cases hB : nameOk s
      · have HN2 : Hid (l.all (funOk least) = false) := Lib.hid (HN.out (by rw [HE.out, hB]; rfl))
        have HC := Lib.hid (fun w => tname_is s hB w hsz)
        clear hsz hB
        go_wp2_with (go_at_call 58; refine (HC.out _).mono ?_; rintro e w' ⟨rfl, rfl⟩)
        go_ret
        exact ⟨by rw [HN2.out]; rfl, (HBB _).out⟩
      · have HC := Lib.hid (fun w => tname_is s hB w hsz)
        have HB1 := Lib.hid hB
        clear hsz hB
        by_cases h1 : n < least
        · have HN2 : Hid (l.all (funOk least) = false) := Lib.hid (HN.out (by rw [HE.out, HB1.out]; simp; omega))
          go_wp2_with (go_at_call 58; refine (HC.out _).mono ?_; rintro e w' ⟨rfl, rfl⟩)
          go_ret
          exact ⟨by rw [HN2.out]; rfl, (HBB _).out⟩
        · by_cases h2 : 8 < n
          · have HN2 : Hid (l.all (funOk least) = false) := Lib.hid (HN.out (by rw [HE.out, HB1.out]; simp; omega))
            go_wp2_with (go_at_call 58; refine (HC.out _).mono ?_; rintro e w' ⟨rfl, rfl⟩)
            go_ret
            exact ⟨by rw [HN2.out]; rfl, (HBB _).out⟩
          · have HY : Hid (fo = true) := Lib.hid (by rw [HE.out, HB1.out]; simp; omega)
            go_wp2_with (go_at_call 58; refine (HC.out _).mono ?_; rintro e w' ⟨rfl, rfl⟩)
            go_roundw
            case rel => exact ⟨k + 1, by omega, by go_num, by show _ = _; rw [HT.out, HA.out, HY.out]; rfl, HBB _⟩
            case measure => simp [intOf]; omega
    · obtain rfl : k = l.length := by omega
      have HF : Hid (l.all (funOk least) = true) := by
        have := HA.out
        rw [List.take_length] at this
        exact this
      go_wp2
      go_ret
      exact ⟨by rw [HF.out]; rfl, HB.out⟩

end Go.Proofs.YtfknoecgcoapcaaDoor
