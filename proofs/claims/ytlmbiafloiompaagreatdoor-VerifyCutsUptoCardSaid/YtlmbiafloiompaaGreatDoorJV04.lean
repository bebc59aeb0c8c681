/-
  2 texts in one (ObjA ObjB). Conditions: those of each theorem.
-/
import Derived.Test.YtlmbiafloiompaaGreatDoorJV01
import Derived.Test.YtlmbiafloiompaaGreatDoorJV03
import Derived.Maps.Own
import Derived.Maps.Views
import Derived.Maps.OwnSet
import Derived.DeepKeys4
import Derived.StringKeys
namespace Go.Proofs.YtlmbiafloiompaaGreatDoor
open Go Go.RowKit Go.WideShapes Go.ChangeShapes
set_option linter.unusedVariables false
set_option linter.unusedSimpArgs false

/-- A slice of so many elements, whose cells are these. -/
def CellsAt (w : World) (v : Value) (n : Nat) (cs : List Value) : Prop :=
  (n = 0 ∧ cs = [] ∧ ∃ A c, v = .slice A 0 c) ∨
    ∃ b off c, v = .slice (some ⟨b, off, none⟩) n c ∧ b < w.heap.size ∧ ∀ k u, cs[k]? = some u → w.cell? ⟨b, off + k, none⟩ = some u

theorem CellsAt.below {w w' : World} {v : Value} {n : Nat} {cs : List Value} (h : CellsAt w v n cs) (hb : Below w.heap.size w w') : CellsAt w' v n cs := by
  rcases h with h | ⟨b, off, c, rfl, hl, hc⟩
  · exact .inl h
  · exact .inr ⟨b, off, c, rfl, Nat.lt_of_lt_of_le hl hb.size, fun k u hk => (hb.cell (p := ⟨b, off + k, none⟩) hl).trans (hc k u hk)⟩

theorem CellsAt.form {w : World} {v : Value} {n : Nat} {cs : List Value} (h : CellsAt w v n cs) : ∃ A c, v = .slice A n c := by
  rcases h with ⟨rfl, _, A, c, rfl⟩ | ⟨b, off, c, rfl, _⟩
  · exact ⟨A, c, rfl⟩
  · exact ⟨_, c, rfl⟩

theorem CellsAt.at_ {w : World} {A : Option Addr} {n m c : Nat} {cs : List Value} (h : CellsAt w (.slice A m c) n cs) (hn : 0 < n) :
    m = n ∧ ∃ b off, A = some ⟨b, off, none⟩ ∧ b < w.heap.size ∧ ∀ k u, cs[k]? = some u → w.cell? ⟨b, off + k, none⟩ = some u := by
  rcases h with ⟨rfl, _, _⟩ | ⟨b, off, c', hv, hl, hc⟩
  · omega
  · injection hv with h1 h2 h3
    exact ⟨h2, b, off, h1, hl, hc⟩

theorem CellsAt.of_own {w : World} {base : Nat} {e : TypeId} {size n : Nat} {v : Value} {xs : List Value} (h : w.ownsRow base e size v n xs) (hs : 0 < size) : CellsAt w v n xs := by
  rcases h.2 with ⟨h0, h1⟩ | ⟨g, cap, cur, he, hb, hg, h2, h3, hrest⟩
  · subst h0
    subst h1
    have hx : xs = [] := by
      have := h.1
      simpa using this
    exact .inl ⟨rfl, hx, _, _, rfl⟩
  · refine .inr ⟨g, 0, cap, he, (Array.getElem?_eq_some_iff.1 hg).1, fun k u hk => ?_⟩
    subst he
    have hkl := (List.getElem?_eq_some_iff.1 hk).1
    rw [Nat.zero_add, h.cellAt k (by have := h.1; omega)]
    exact hk

def funC (f : ByteArray × Int) : List Value := [.string f.1, .int .i64 f.2]
def predC (p : ByteArray × Int × Int) : List Value := [.string p.1, .int .i64 p.2.1, .int .i64 p.2.2]
def insC (i : Ins) : List Value := [.int .i64 i.1, .int .i64 i.2.1, .int .i64 i.2.2.1, .int .i64 i.2.2.2.1, .int .i64 i.2.2.2.2]

theorem flat_at {α : Type} (f : α → List Value) (m : Nat) (hf : ∀ a, (f a).length = m) : ∀ (l : List α) (k : Nat) (a : α), l[k]? = some a → ∀ j, j < m → (l.flatMap f)[k * m + j]? = (f a)[j]?
  | [], _, _, h, _, _ => by simp at h
  | x :: l, 0, a, h, j, hj => by
    obtain rfl : x = a := by simpa using h
    rw [List.flatMap_cons, Nat.zero_mul, Nat.zero_add, List.getElem?_append_left (by rw [hf]; exact hj)]
  | x :: l, k + 1, a, h, j, hj => by
    have h' : l[k]? = some a := by simpa using h
    rw [List.flatMap_cons, List.getElem?_append_right (by rw [hf, Nat.succ_mul]; omega), hf, show (k + 1) * m + j - m = k * m + j by rw [Nat.succ_mul]; omega]
    exact flat_at f m hf l k a h' j hj

/-- Names, names with arities, predicates, instructions, in memory. -/
def AtomsAt (w : World) (v : Value) (l : List ByteArray) : Prop := CellsAt w v l.length (l.map Value.string)
def FunsAt (w : World) (v : Value) (l : List (ByteArray × Int)) : Prop := CellsAt w v l.length (l.flatMap funC)
def PredsAt (w : World) (v : Value) (l : List (ByteArray × Int × Int)) : Prop := CellsAt w v l.length (l.flatMap predC)
def CodeAt (w : World) (v : Value) (l : List Ins) : Prop := CellsAt w v l.length (l.flatMap insC)
structure ObAt (w : World) (va vf vp vc : Value) (o : Ob) : Prop where
  atoms : AtomsAt w va o.atoms
  funs : FunsAt w vf o.funs
  preds : PredsAt w vp o.preds
  code : CodeAt w vc o.code
theorem ObAt.below {w w' : World} {va vf vp vc : Value} {o : Ob} (h : ObAt w va vf vp vc o) (hb : Below w.heap.size w w') : ObAt w' va vf vp vc o :=
  ⟨CellsAt.below h.atoms hb, CellsAt.below h.funs hb, CellsAt.below h.preds hb, CellsAt.below h.code hb⟩

theorem atomCell {w : World} {A : Option Addr} {c : Nat} {l : List ByteArray} (h : AtomsAt w (.slice A l.length c) l) (k : Nat) (hk : k < l.length) :
    ∃ b off, A = some ⟨b, off, none⟩ ∧ b < w.heap.size ∧ w.cell? ⟨b, off + k, none⟩ = some (.string l[k]) := by
  obtain ⟨_, b, off, hA, hl, hc⟩ := h.at_ (by omega)
  exact ⟨b, off, hA, hl, hc k _ (by simp [hk])⟩
theorem funCell {w : World} {A : Option Addr} {c : Nat} {l : List (ByteArray × Int)} (h : FunsAt w (.slice A l.length c) l) (k : Nat) (hk : k < l.length) :
    ∃ b off, A = some ⟨b, off, none⟩ ∧ b < w.heap.size ∧ w.cell? ⟨b, off + k * 2, none⟩ = some (.string l[k].1) ∧ w.cell? ⟨b, off + k * 2 + 1, none⟩ = some (.int .i64 l[k].2) := by
  obtain ⟨_, b, off, hA, hl, hc⟩ := h.at_ (by omega)
  have hf := flat_at funC 2 (fun _ => rfl) l k l[k] (by simp [hk])
  exact ⟨b, off, hA, hl, hc _ _ (hf 0 (by omega)), hc _ _ (hf 1 (by omega))⟩
theorem predCell {w : World} {A : Option Addr} {c : Nat} {l : List (ByteArray × Int × Int)} (h : PredsAt w (.slice A l.length c) l) (k : Nat) (hk : k < l.length) :
    ∃ b off, A = some ⟨b, off, none⟩ ∧ b < w.heap.size ∧ w.cell? ⟨b, off + k * 3, none⟩ = some (.string l[k].1) ∧ w.cell? ⟨b, off + k * 3 + 1, none⟩ = some (.int .i64 l[k].2.1) ∧ w.cell? ⟨b, off + k * 3 + 2, none⟩ = some (.int .i64 l[k].2.2) := by
  obtain ⟨_, b, off, hA, hl, hc⟩ := h.at_ (by omega)
  have hf := flat_at predC 3 (fun _ => rfl) l k l[k] (by simp [hk])
  exact ⟨b, off, hA, hl, hc _ _ (hf 0 (by omega)), hc _ _ (hf 1 (by omega)), hc _ _ (hf 2 (by omega))⟩
theorem insCell {w : World} {A : Option Addr} {c : Nat} {l : List Ins} (h : CodeAt w (.slice A l.length c) l) (k : Nat) (hk : k < l.length) :
    ∃ b off, A = some ⟨b, off, none⟩ ∧ b < w.heap.size ∧ w.cell? ⟨b, off + k * 5, none⟩ = some (.int .i64 l[k].1) ∧ w.cell? ⟨b, off + k * 5 + 1, none⟩ = some (.int .i64 l[k].2.1) ∧ w.cell? ⟨b, off + k * 5 + 2, none⟩ = some (.int .i64 l[k].2.2.1) ∧
      w.cell? ⟨b, off + k * 5 + 3, none⟩ = some (.int .i64 l[k].2.2.2.1) ∧ w.cell? ⟨b, off + k * 5 + 4, none⟩ = some (.int .i64 l[k].2.2.2.2) := by
  obtain ⟨_, b, off, hA, hl, hc⟩ := h.at_ (by omega)
  have hf := flat_at insC 5 (fun _ => rfl) l k l[k] (by simp [hk])
  exact ⟨b, off, hA, hl, hc _ _ (hf 0 (by omega)), hc _ _ (hf 1 (by omega)), hc _ _ (hf 2 (by omega)), hc _ _ (hf 3 (by omega)), hc _ _ (hf 4 (by omega))⟩

theorem full_any (a f p c : Nat) (w : World) :
    Calls Tryz.prog 43 #[.int .i64 a, .int .i64 f, .int .i64 p, .int .i64 c] w fun e w' => e = .returned (.bool (bigB a f p c)) ∧ w = w' := by
  have hb : bigB a f p c = (decide ((256 : Int) < a) || decide ((256 : Int) < f) || decide ((64 : Int) < p) || decide ((1024 : Int) < c)) := by
    unfold bigB
    rw [Bool.eq_iff_iff]
    simp
    omega
  rw [hb]
  clear hb
  by_cases h1 : (256 : Int) < (a : Int)
  · go_enter Tryz.func43, Tryz.ntmps43
    go_wp2
    go_ret
    exact ⟨ret_b (by simp [h1]), rfl⟩
  · by_cases h2 : (256 : Int) < (f : Int)
    · go_enter Tryz.func43, Tryz.ntmps43
      go_wp2
      go_ret
      exact ⟨ret_b (by simp [h2]), rfl⟩
    · by_cases h3 : (64 : Int) < (p : Int)
      · go_enter Tryz.func43, Tryz.ntmps43
        go_wp2
        go_ret
        exact ⟨ret_b (by simp [h3]), rfl⟩
      · go_enter Tryz.func43, Tryz.ntmps43
        go_wp2
        go_ret
        exact ⟨ret_b (by simp; omega), rfl⟩

theorem within_any (n m : Int) (w : World) :
    Calls Tryz.prog 86 #[.int .i64 n, .int .i64 m] w fun e w' => e = .returned (.bool (decide (0 ≤ n ∧ n < m))) ∧ w = w' := by
  by_cases h : 0 ≤ n
  · go_enter Tryz.func86, Tryz.ntmps86
    go_wp2
    go_ret
    exact ⟨ret_b (by simp [h]), rfl⟩
  · go_enter Tryz.func86, Tryz.ntmps86
    go_wp2
    go_ret
    exact ⟨ret_b (by simp; omega), rfl⟩

theorem all_take {α : Type} (p : α → Bool) (l : List α) (k : Nat) (h : k < l.length) : (l.take (k + 1)).all p = ((l.take k).all p && p l[k]) := by
  rw [List.take_succ_eq_append_getElem h, List.all_append]
  simp
theorem all_not {α : Type} (p : α → Bool) (l : List α) (k : Nat) (h : k < l.length) (hp : p l[k] = false) : l.all p = false := by
  have : ¬ l.all p = true := fun e => by
    rw [List.all_eq_true] at e
    rw [e _ (List.getElem_mem h)] at hp
    cases hp
  simpa using this

set_option maxHeartbeats 1000000 in
theorem allNames_any (l : List ByteArray) (hs : ∀ s ∈ l, s.size ≤ maxLen) (hm : l.length ≤ 1000000) (v : Value) (w : World) (hv : AtomsAt w v l) :
    Calls Tryz.prog 44 #[v] w fun e w' => e = .returned (.bool (l.all nameOk)) ∧ w = w' := by
  obtain ⟨A, c, rfl⟩ := hv.form
  have HV := Lib.hid hv
  have HS := Lib.hid hs
  clear hv hs
  go_enter Tryz.func44, Tryz.ntmps44
  go_wp2
  go_loop [7] (fun i => ∃ k : Nat, k ≤ l.length ∧ i = .int .i64 k ∧ Hid ((l.take k).all nameOk = true)) (fun i => l.length - (intOf i).toNat)
  case atStart => exact ⟨0, by omega, rfl, by simp [Hid]⟩
  case round =>
    obtain ⟨k, hk, rfl, HA⟩ := hrel
    by_cases hlt : k < l.length
    · obtain ⟨b, off, rfl, hb, hc⟩ := atomCell HV.out k hlt
      have hsz := HS.out _ (List.getElem_mem hlt)
      have HT := Lib.hid (all_take nameOk l k hlt)
      have HN := Lib.hid (fun h => all_not nameOk l k hlt h)
      generalize l[k] = s at hc hsz HT HN
      cases hB : nameOk s
      · have HN2 := Lib.hid (HN.out hB)
        have HC := Lib.hid (fun w => tname_is s hB w hsz)
        clear hsz
        go_wp2_with (go_at_call 85; refine (HC.out _).mono ?_; rintro e w' ⟨rfl, rfl⟩)
        go_ret
        exact ⟨by rw [HN2.out]; rfl, rfl⟩
      · have HC := Lib.hid (fun w => tname_is s hB w hsz)
        have HB := Lib.hid hB
        clear hsz hB
        go_wp2_with (go_at_call 85; refine (HC.out _).mono ?_; rintro e w' ⟨rfl, rfl⟩)
        go_round
        case rel => exact ⟨k + 1, by omega, by go_num, by show _ = _; rw [HT.out, HA.out, HB.out]; rfl⟩
        case measure => simp [intOf]; omega
    · obtain rfl : k = l.length := by omega
      have HF : Hid (l.all nameOk = true) := by
        have := HA.out
        rw [List.take_length] at this
        exact this
      go_wp2
      go_ret
      exact ⟨by rw [HF.out]; rfl, rfl⟩

set_option maxHeartbeats 2000000 in
theorem allFuns_any (least : Int) (l : List (ByteArray × Int)) (hs : ∀ s ∈ l, s.1.size ≤ maxLen) (hm : l.length ≤ 1000000) (v : Value) (w : World) (hv : FunsAt w v l) :
    Calls Tryz.prog 45 #[v, .int .i64 least] w fun e w' => e = .returned (.bool (l.all (funOk least))) ∧ Below w.heap.size w w' := by
  obtain ⟨A, c, rfl⟩ := CellsAt.form hv
  have HV := Lib.hid hv
  have HS := Lib.hid hs
  clear hv hs
  go_enter Tryz.func45, Tryz.ntmps45
  go_wp2
  go_loopw [9] (fun i wr => ∃ k : Nat, k ≤ l.length ∧ i = .int .i64 k ∧ Hid ((l.take k).all (funOk least) = true) ∧ Hid (Below w.heap.size w wr)) (fun i _ => l.length - (intOf i).toNat)
  case atStart => exact ⟨0, by omega, rfl, by simp [Hid], Lib.hid (Below.refl _ w)⟩
  case round =>
    obtain ⟨k, hk, rfl, HA, HB⟩ := hrel
    by_cases hlt : k < l.length
    · obtain ⟨b, off, rfl, hb, hc0, hc1⟩ := funCell HV.out k hlt
      have d0 := (HB.out.cell (p := ⟨b, off + k * 2, none⟩) hb).trans hc0
      have d1 := (HB.out.cell (p := ⟨b, off + k * 2 + 1, none⟩) hb).trans hc1
      have hsz := HS.out _ (List.getElem_mem hlt)
      have HT := Lib.hid (all_take (funOk least) l k hlt)
      have HN := Lib.hid (fun h => all_not (funOk least) l k hlt h)
      obtain ⟨fo, hfo⟩ : ∃ fo, fo = funOk least l[k] := ⟨_, rfl⟩
      rw [← hfo] at HT HN
      unfold funOk at hfo
      have HE := Lib.hid hfo
      clear hc0 hc1 hfo
      generalize l[k].1 = s at d0 hsz HE
      generalize l[k].2 = n at d1 HE
      have HBB : ∀ o, Hid (Below w.heap.size w (wr.alloc o)) := fun o => Lib.hid (HB.out.alloc HB.out.size o)
      cases hB : nameOk s
      · have HN2 : Hid (l.all (funOk least) = false) := Lib.hid (HN.out (by rw [HE.out, hB]; rfl))
        have HC := Lib.hid (fun w => tname_is s hB w hsz)
        clear hsz hB
        go_wp2_with (go_at_call 85; refine (HC.out _).mono ?_; rintro e w' ⟨rfl, rfl⟩)
        go_ret
        exact ⟨by rw [HN2.out]; rfl, (HBB _).out⟩
      · have HC := Lib.hid (fun w => tname_is s hB w hsz)
        have HB1 := Lib.hid hB
        clear hsz hB
        by_cases h1 : n < least
        · have HN2 : Hid (l.all (funOk least) = false) := Lib.hid (HN.out (by rw [HE.out, HB1.out]; simp; omega))
          go_wp2_with (go_at_call 85; refine (HC.out _).mono ?_; rintro e w' ⟨rfl, rfl⟩)
          go_ret
          exact ⟨by rw [HN2.out]; rfl, (HBB _).out⟩
        · by_cases h2 : 8 < n
          · have HN2 : Hid (l.all (funOk least) = false) := Lib.hid (HN.out (by rw [HE.out, HB1.out]; simp; omega))
            go_wp2_with (go_at_call 85; refine (HC.out _).mono ?_; rintro e w' ⟨rfl, rfl⟩)
            go_ret
            exact ⟨by rw [HN2.out]; rfl, (HBB _).out⟩
          · have HY : Hid (fo = true) := Lib.hid (by rw [HE.out, HB1.out]; simp; omega)
            go_wp2_with (go_at_call 85; refine (HC.out _).mono ?_; rintro e w' ⟨rfl, rfl⟩)
            go_roundw
            case rel => exact ⟨k + 1, by omega, by go_num, by show _ = _; rw [HT.out, HA.out, HY.out]; rfl, HBB _⟩
            case measure => simp [intOf]; omega
    · obtain rfl : k = l.length := by omega
      have HF : Hid (l.all (funOk least) = true) := by
        have := HA.out
        rw [List.take_length] at this
        exact this
      go_wp2
      go_ret
      exact ⟨by rw [HF.out]; rfl, HB.out⟩

end Go.Proofs.YtlmbiafloiompaaGreatDoor

namespace Go.Proofs.YtlmbiafloiompaaGreatDoor
open Go Go.RowKit Go.WideShapes Go.ChangeShapes Go.Maps
set_option linter.unusedVariables false
set_option linter.unusedSimpArgs false

/-- What has been seen, as a reading. -/
def seenL (acc : List (List UInt8)) : DataW Unit := setOf (.lit (.bool true)) (acc.map Lit.string)
theorem seenL_fold (n : List UInt8) (z : DataW Unit) : ∀ (acc : List (List UInt8)) (m : DataW Unit), IsMap m →
    ((acc.map Lit.string).foldl (fun m x => m.put x (.lit (.bool true))) m).atKey (.string n) z = if n ∈ acc then .lit (.bool true) else m.atKey (.string n) z
  | [], m, _ => by simp
  | a :: r, m, hm => by
    rw [List.map_cons, List.foldl_cons, seenL_fold n z r _ (hm.put _ _)]
    by_cases h : n = a
    · subst h
      rw [atKey_put_same hm (show WideAt.IsKeyLit (Lit.string n) from trivial)]
      simp
    · rw [atKey_put_other (by simpa using h)]
      simp [h]
theorem seenL_at (acc : List (List UInt8)) (n : List UInt8) : (seenL acc).atKey (.string n) (.lit (.bool false)) = .lit (.bool (decide (n ∈ acc))) := by
  unfold seenL setOf
  rw [seenL_fold n _ acc _ isMap_empty]
  by_cases h : n ∈ acc <;> simp [h] <;> rfl
theorem uBool : Tryz.prog.underlying 4 = some .bool := by kernel_rfl
theorem zBool (w : World) : (zeroValue 4).run Tryz.prog w = .ok (.bool false) w := by kernel_rfl

/-- A map of what has been seen. -/
def SetAt (w : World) (k : TypeId) (M : Nat) (acc : List (List UInt8)) : Prop := w.ownsMap Tryz.prog k (plainElem Tryz.prog 4) M acc.length (seenL acc)
theorem SetAt.lt {w : World} {k : TypeId} {M : Nat} {acc : List (List UInt8)} (h : SetAt w k M acc) : M < w.heap.size := World.ownsMap.lt h
theorem SetAt.look {w : World} {k t : TypeId} {M : Nat} {acc : List (List UInt8)} (h : SetAt w k M acc) (K : Keyed Tryz.prog k) (ht : Tryz.prog.underlying t = some (.map k 4)) {key : Value} {kl : List UInt8} (hk : keyOf Tryz.prog k key = some (.string kl)) :
    (Instr.lookup t (.map (some M)) key false).run Tryz.prog w = .ok (.bool (decide (kl ∈ acc))) w := by
  obtain ⟨v, ps, hrun, hv⟩ := World.ownsMap.lookup h K ht (zBool w) (plainElem_bool uBool false) hk
  rw [seenL_at] at hv
  have : v = .bool (decide (kl ∈ acc)) := by
    unfold plainElem at hv
    rw [uBool] at hv
    cases v <;> simp at hv
    simp [hv]
  rw [← this]
  exact hrun
theorem SetAt.upd {w : World} {k t : TypeId} {M : Nat} {acc : List (List UInt8)} (h : SetAt w k M acc) (K : Keyed Tryz.prog k) (ht : Tryz.prog.underlying t = some (.map k 4)) {key : Value} {kl : List UInt8} (hk : keyOf Tryz.prog k key = some (.string kl)) (hl : acc.length < maxLen) :
    ∃ w', (Instr.mapUpdate t (.map (some M)) key (.bool true)).run Tryz.prog w = .ok () w' ∧ SetAt w' k M (acc ++ [kl]) ∧ w.grownBy w' (some M) := by
  obtain ⟨w', h1, h2, h3⟩ := World.ownsMap.update h K ht hl hk (plainElem_bool uBool true)
  refine ⟨w', h1, ?_, h3⟩
  have e : seenL (acc ++ [kl]) = (seenL acc).put (.string kl) (.lit (.bool true)) := by
    unfold seenL
    rw [List.map_append, List.map_singleton, setOf_snoc]
  have e2 : (acc ++ [kl]).length = acc.length + 1 := by simp
  unfold SetAt
  rw [e, e2]
  exact h2

theorem uStr : Tryz.prog.underlying 9 = some .string := by kernel_rfl
theorem uMapStr : Tryz.prog.underlying 161 = some (.map 9 4) := by kernel_rfl
theorem uMapFun : Tryz.prog.underlying 162 = some (.map 61 4) := by kernel_rfl
theorem keyedStr : Keyed Tryz.prog 9 := string_keyed uStr
theorem laidOutAll : laidOutB Tryz.prog = true := by kernel_rfl
theorem keyedFun : Keyed Tryz.prog 61 := Keyed.of_law (deep_law_laid laidOutAll (m := 3) (by omega) (of_decide_eq_true (by kernel_rfl)) (by kernel_rfl) (by kernel_rfl))

def litS (s : ByteArray) : List UInt8 := s.data.toList
def litF (f : ByteArray × Int) : List UInt8 := keyBytes [.string f.1.data.toList, .int .i64 f.2]
theorem keyS {s : ByteArray} (h : s.size ≤ maxLen) : keyOf Tryz.prog 9 (.string s) = some (.string (litS s)) := WideMaps.keyOf_string_mk uStr h
theorem keyTypeF : Tryz.prog.keyType 61 = true := by kernel_rfl
theorem cellsF : Tryz.prog.cellsOf 61 = 2 := by kernel_rfl
theorem cellsStr1 : Tryz.prog.cellsOf 9 = 1 := by kernel_rfl
theorem cellsInt1 : Tryz.prog.cellsOf 3 = 1 := by kernel_rfl
theorem uInt : Tryz.prog.underlying 3 = some (.int .i64) := by kernel_rfl
theorem typesPos : 0 < Tryz.prog.types.size := of_decide_eq_true (by kernel_rfl)
theorem typesSize : ∃ m, Tryz.prog.types.size = m + 1 := ⟨Tryz.prog.types.size - 1, by have := typesPos; omega⟩
theorem keyF {f : ByteArray × Int} (h : f.1.size ≤ maxLen) (hn : (Lit.int .i64 f.2).wf = true) : keyOf Tryz.prog 61 (.agg #[.string f.1, .int .i64 f.2]) = some (.string (litF f)) := by
  obtain ⟨m, hm⟩ := typesSize
  unfold keyOf
  simp only [Tryz.underlying61]
  rw [if_pos (by simp [keyTypeF, Value.formed, Tryz.underlying61, cellsF]), hm]
  unfold Program.keyLits
  simp only [Tryz.underlying61, Value.cells]
  rw [if_pos (by rw [cellsF]; exact ⟨rfl, by simp⟩)]
  simp [cellsStr1, cellsInt1, Program.keyLits, uStr, uInt, h, hn, litF]

theorem nodup_snoc {α : Type} [DecidableEq α] (l : List α) (k : Nat) (h : k < l.length) (hd : (l.take k).Nodup) (hn : l[k] ∉ l.take k) : (l.take (k + 1)).Nodup := by
  rw [List.take_succ_eq_append_getElem h, List.nodup_append]
  exact ⟨hd, by simp, fun a ha b hb => by rintro rfl; simp only [List.mem_singleton] at hb; subst hb; exact hn ha⟩
theorem twice_yes {α : Type} [DecidableEq α] (l : List α) (k : Nat) (h : k < l.length) (hn : l[k] ∈ l.take k) : twiceB l = true := by
  have : ¬ l.Nodup := fun hd => by
    have h2 : (l.take (k + 1)).Nodup := hd.sublist (List.take_sublist _ _)
    rw [List.take_succ_eq_append_getElem h, List.nodup_append] at h2
    exact h2.2.2 _ hn _ (by simp) rfl
  simp [twiceB, this]
theorem twice_no {α : Type} [DecidableEq α] (l : List α) (hd : l.Nodup) : twiceB l = false := by simp [twiceB, hd]

theorem run_makeMap_hint (t k e : TypeId) (ht : Tryz.prog.underlying t = some (.map k e)) (n : Nat) (w : World) : (Instr.makeMap t (some (.int .i64 (n : Int)))).run Tryz.prog w = .ok (.map (some w.heap.size)) (w.alloc (.map #[] 0)) := by
  simp [Instr.makeMap, run_underlying ht, asInt, asIntOf, go_sem]

/-- What a round of twice keeps. -/
structure Tw (w wr : World) (k : TypeId) (M : Nat) (acc : List (List UInt8)) : Prop where
  set : SetAt wr k M acc
  new : w.heap.size ≤ M
  below : Below w.heap.size w wr
theorem Tw.alloc {w wr : World} {k : TypeId} {M : Nat} {acc : List (List UInt8)} (h : Tw w wr k M acc) (o : Obj) : Tw w (wr.alloc o) k M acc := ⟨World.ownsMap.alloc h.set o, h.new, h.below.alloc h.below.size o⟩


set_option maxRecDepth 100000 in
set_option maxHeartbeats 2000000 in
theorem twiceS_any (l : List (ByteArray)) (hs : ∀ s ∈ l, s.size ≤ maxLen) (hm : l.length ≤ 1000000) (v : Value) (w : World) (hv : AtomsAt w v l) :
    Calls Tryz.prog 47 #[v] w fun e w' => e = .returned (.bool (twiceB l)) ∧ Below w.heap.size w w' := by
  obtain ⟨A, c, rfl⟩ := CellsAt.form hv
  have HV := Lib.hid hv
  have HS := Lib.hid hs
  clear hv hs
  have T0 : Hid (Tw w (w.alloc (.map #[] 0)) 9 w.heap.size []) := Lib.hid ⟨World.ownsMap_made w _ _ _, Nat.le_refl _, alloc_below w _⟩
  have hmm := run_makeMap_hint _ _ _ uMapStr l.length w
  go_enter Tryz.func47, Tryz.ntmps47
  go_wp2
  obtain ⟨M, hM⟩ : ∃ M, w.heap.size = M := ⟨_, rfl⟩
  rw [hM] at T0
  rw [hM]
  have HM := Lib.hid hM
  obtain ⟨w0, hw0⟩ : ∃ w0, w.alloc (.map #[] 0) = w0 := ⟨_, rfl⟩
  rw [hw0] at T0 ⊢
  clear hM hw0
  go_loopw [11] (fun i wr => ∃ k : Nat, k ≤ l.length ∧ i = .int .i64 k ∧ Hid ((l.take k).Nodup) ∧ Hid (Tw w wr 9 M ((l.take k).map litS))) (fun i _ => l.length - (intOf i).toNat)
  case atStart => exact ⟨0, by omega, rfl, Lib.hid (by simp), T0⟩
  case round =>
    obtain ⟨k, hk, rfl, HA, HB⟩ := hrel
    clear T0
    by_cases hlt : k < l.length
    · obtain ⟨b, off, rfl, hb, hc0⟩ := atomCell HV.out k hlt
      have d0 := (HB.out.below.cell (p := ⟨b, off + k, none⟩) hb).trans hc0
      have HBA := HB
      have hkey := keyS (HS.out _ (List.getElem_mem hlt))
      have hlk := HBA.out.set.look keyedStr uMapStr hkey
      obtain ⟨w6, hup, hset6, hgr6⟩ := HBA.out.set.upd keyedStr uMapStr hkey (by simp; unfold maxLen; omega)
      have HT6 : Hid (Tw w w6 9 M ((l.take (k + 1)).map litS)) := by
        refine Lib.hid ⟨?_, HB.out.new, HBA.out.below.trans ((Fr.of_grown (S := fun b => b = M) hgr6 (fun b _ e => by injection e with e; exact e.symm)).below HBA.out.below.size (fun b e => by rw [e]; exact HB.out.new))⟩
        rw [List.take_succ_eq_append_getElem hlt, List.map_append]
        exact hset6
      have HI : Hid ((litS l[k] ∈ (l.take k).map litS) ↔ l[k] ∈ l.take k) := Lib.hid ⟨fun h => by
        obtain ⟨x, hx, he⟩ := List.mem_map.1 h
        have h1 := List.mem_of_mem_take hx
        have h2 := keyedStr.inj (by rw [← he] at hkey; exact hkey) (keyS (HS.out _ h1))
        injection h2 with h2; rw [h2]; exact hx, fun h => List.mem_map_of_mem h⟩
      have HY := Lib.hid (fun h => twice_yes l k hlt h)
      have HN := Lib.hid (fun h => nodup_snoc l k hlt HA.out h)
      clear hkey hset6 hgr6
      by_cases hin : l[k] ∈ l.take k
      · rw [decide_eq_true (HI.out.2 hin)] at hlk
        have HY2 := Lib.hid (HY.out hin)
        clear hup hin
        go_wp2
        go_ret
        exact ⟨by rw [HY2.out]; rfl, HB.out.below⟩
      · rw [decide_eq_false (fun h => hin (HI.out.1 h))] at hlk
        have HN2 := Lib.hid (HN.out hin)
        clear hin HY HN HI
        go_wp2
        go_roundw
        case rel => exact ⟨k + 1, by omega, by go_num, HN2, HT6⟩
        case measure => simp [intOf]; omega
    · obtain rfl : k = l.length := by omega
      have HF : Hid (twiceB l = false) := Lib.hid (twice_no l (by
        have := HA.out
        rw [List.take_length] at this
        exact this))
      go_wp2
      go_ret
      exact ⟨by rw [HF.out]; rfl, HB.out.below⟩

set_option maxRecDepth 100000 in
set_option maxHeartbeats 2000000 in
theorem twiceF_any (l : List (ByteArray × Int)) (hs : ∀ s ∈ l, s.1.size ≤ maxLen ∧ (Lit.int .i64 s.2).wf = true) (hm : l.length ≤ 1000000) (v : Value) (w : World) (hv : FunsAt w v l) :
    Calls Tryz.prog 48 #[v] w fun e w' => e = .returned (.bool (twiceB l)) ∧ Below w.heap.size w w' := by
  obtain ⟨A, c, rfl⟩ := CellsAt.form hv
  have HV := Lib.hid hv
  have HS := Lib.hid hs
  clear hv hs
  have T0 : Hid (Tw w (w.alloc (.map #[] 0)) 61 w.heap.size []) := Lib.hid ⟨World.ownsMap_made w _ _ _, Nat.le_refl _, alloc_below w _⟩
  have hmm := run_makeMap_hint _ _ _ uMapFun l.length w
  go_enter Tryz.func48, Tryz.ntmps48
  go_wp2
  obtain ⟨M, hM⟩ : ∃ M, w.heap.size = M := ⟨_, rfl⟩
  rw [hM] at T0
  rw [hM]
  have HM := Lib.hid hM
  obtain ⟨w0, hw0⟩ : ∃ w0, w.alloc (.map #[] 0) = w0 := ⟨_, rfl⟩
  rw [hw0] at T0 ⊢
  clear hM hw0
  go_loopw [11] (fun i wr => ∃ k : Nat, k ≤ l.length ∧ i = .int .i64 k ∧ Hid ((l.take k).Nodup) ∧ Hid (Tw w wr 61 M ((l.take k).map litF))) (fun i _ => l.length - (intOf i).toNat)
  case atStart => exact ⟨0, by omega, rfl, Lib.hid (by simp), T0⟩
  case round =>
    obtain ⟨k, hk, rfl, HA, HB⟩ := hrel
    clear T0
    by_cases hlt : k < l.length
    · obtain ⟨b, off, rfl, hb, hc0, hc1⟩ := funCell HV.out k hlt
      have d0 := (HB.out.below.cell (p := ⟨b, off + k * 2, none⟩) hb).trans hc0
      have d1 := (HB.out.below.cell (p := ⟨b, off + k * 2 + 1, none⟩) hb).trans hc1
      have HBA := Lib.hid (HB.out.alloc (.cells #[.string l[k].1, .int .i64 l[k].2] 61))
      have hkey := keyF (HS.out _ (List.getElem_mem hlt)).1 (HS.out _ (List.getElem_mem hlt)).2
      have hlk := HBA.out.set.look keyedFun uMapFun hkey
      obtain ⟨w6, hup, hset6, hgr6⟩ := HBA.out.set.upd keyedFun uMapFun hkey (by simp; unfold maxLen; omega)
      have HT6 : Hid (Tw w w6 61 M ((l.take (k + 1)).map litF)) := by
        refine Lib.hid ⟨?_, HB.out.new, HBA.out.below.trans ((Fr.of_grown (S := fun b => b = M) hgr6 (fun b _ e => by injection e with e; exact e.symm)).below HBA.out.below.size (fun b e => by rw [e]; exact HB.out.new))⟩
        rw [List.take_succ_eq_append_getElem hlt, List.map_append]
        exact hset6
      have HI : Hid ((litF l[k] ∈ (l.take k).map litF) ↔ l[k] ∈ l.take k) := Lib.hid ⟨fun h => by
        obtain ⟨x, hx, he⟩ := List.mem_map.1 h
        have h1 := List.mem_of_mem_take hx
        have h2 := keyedFun.inj (by rw [← he] at hkey; exact hkey) (keyF (HS.out _ h1).1 (HS.out _ h1).2)
        simp at h2; have h3 : l[k] = x := Prod.ext h2.1 h2.2; rw [h3]; exact hx, fun h => List.mem_map_of_mem h⟩
      have HY := Lib.hid (fun h => twice_yes l k hlt h)
      have HN := Lib.hid (fun h => nodup_snoc l k hlt HA.out h)
      clear hkey hset6 hgr6
      by_cases hin : l[k] ∈ l.take k
      · rw [decide_eq_true (HI.out.2 hin)] at hlk
        have HY2 := Lib.hid (HY.out hin)
        clear hup hin
        go_wp2
        go_ret
        exact ⟨by rw [HY2.out]; rfl, HBA.out.below⟩
      · rw [decide_eq_false (fun h => hin (HI.out.1 h))] at hlk
        have HN2 := Lib.hid (HN.out hin)
        clear hin HY HN HI
        go_wp2
        go_roundw
        case rel => exact ⟨k + 1, by omega, by go_num, HN2, HT6⟩
        case measure => simp [intOf]; omega
    · obtain rfl : k = l.length := by omega
      have HF : Hid (twiceB l = false) := Lib.hid (twice_no l (by
        have := HA.out
        rw [List.take_length] at this
        exact this))
      go_wp2
      go_ret
      exact ⟨by rw [HF.out]; rfl, HB.out.below⟩

end Go.Proofs.YtlmbiafloiompaaGreatDoor
