/-
  3 texts in one (AsmRE AsmRF AsmRG). Conditions: those of each theorem.
-/
import Derived.Test.YtfgnapfodnhppaaGreatDoorJ33
import Derived.Test.YtfgnapfodnhppaaGreatDoorJ34
namespace Go.Proofs.YtfgnapfodnhppaaGreatDoor
open Go Go.RowKit Go.WideShapes Go.ChangeShapes
set_option linter.unusedVariables false
set_option linter.unusedSimpArgs false

/-- An instruction of one plain operand, read. -/
theorem plain_parse (K : Nat) (kind : Int) (hK : K < 26) (hops : opsOf (K : Int) = [kind]) (w : List UInt8) (hnb : noBlank w) : rparse ((nameAt K).data.toList ++ 32 :: w) = (opdOf kind w).map fun n => ((K : Int), [n, 0, 0, 0]) := by
  have h := parse_words K (by omega) [w] (by rw [hops]; rfl) (fun u hu => by rw [List.mem_singleton.1 hu]; exact hnb)
  rw [rparse_eq]
  have e : (nameAt K).data.toList ++ [w].flatMap (32 :: ·) = (nameAt K).data.toList ++ 32 :: w := by simp
  rw [e] at h
  rw [h, hops, argsW]
  simp only [List.headD_cons]
  unfold argW opdOf
  cases numOf kind w with
  | none => rfl
  | some n =>
    have hm : mayB (K : Int) kind n = true ↔ (lowOf kind ≤ n ∧ n ≤ highOf kind) := by
      unfold mayB
      rw [decide_eq_true_iff]
      constructor
      · rintro (⟨h1, _⟩ | h1)
        · omega
        · exact h1
      · exact .inr
    simp only
    by_cases hc : lowOf kind ≤ n ∧ n ≤ highOf kind ∧ wordOf kind n = w
    · rw [if_pos ⟨hm.2 ⟨hc.1, hc.2.1⟩, hc.2.2⟩, if_pos hc]
      rfl
    · rw [if_neg (fun h => hc ⟨(hm.1 h.1).1, (hm.1 h.1).2, h.2⟩), if_neg hc]
      rfl
/-- What reading an operand comes to. -/
def OpdW (w : World) (r : Option Int) (e : Ending) (w' : World) : Prop :=
  (match r with
    | none => ∃ n : Int, e = .returned (.tuple #[.int .i64 n, .bool false])
    | some n => e = .returned (.tuple #[.int .i64 n, .bool true])) ∧ Below w.heap.size w w'

set_option maxHeartbeats 4000000 in
theorem rplain_1 (op : Int) (x : ByteArray) (hx : x.size ≤ 10000) (hnb : noBlank x.data.toList) (w : World) :
    Calls Tryz.prog 88 #[.int .i64 op, .int .i64 1, .string x] w (OpdW w (opdOf 1 x.data.toList)) := by
  have HPP := Lib.hid (plain_parse 6 1 (by decide) (by decide) x.data.toList hnb)
  have HNM := Lib.hid (fun w => rname_any 6 w)
  obtain ⟨nm, hnm, hns⟩ : ∃ nm, nameOf 6 = nm ∧ nm.size ≤ 20 := ⟨_, rfl, by decide⟩
  have hna : nameAt 6 = nm := by rw [← hnm]; rfl
  rw [hnm] at HNM
  rw [hna] at HPP
  have hj : (nm ++ ⟨#[32]⟩ ++ x : ByteArray).data.toList = nm.data.toList ++ 32 :: x.data.toList := by simp
  have z1 : (nm ++ ⟨#[32]⟩ : ByteArray).size = nm.size + 1 := by rw [ByteArray.size_append]; rfl
  have z2 : (nm ++ ⟨#[32]⟩ ++ x : ByteArray).size = nm.size + 1 + x.size := by rw [ByteArray.size_append, z1]
  have HPA := Lib.hid (fun w => refparse_any (nm ++ ⟨#[32]⟩ ++ x) (by omega) w)
  rw [hj, HPP.out] at HPA
  have HBA := Lib.hid (alloc_below w (.cells #[.int .i64 0, .int .i64 6, .int .i64 5, .int .i64 0, .int .i64 0, .int .i64 9, .int .i64 15, .int .i64 0, .int .i64 0, .int .i64 24] 3))
  have HXA := Lib.hid (Box.new w 3 #[.int .i64 0, .int .i64 6, .int .i64 5, .int .i64 0, .int .i64 0, .int .i64 9, .int .i64 15, .int .i64 0, .int .i64 0, .int .i64 24])
  have d0 := HXA.out.cell 1
  unfold RParseRes insV at HPA
  generalize opdOf 1 x.data.toList = r at *
  clear hnm hna hj HPP hnb
  cases r with
  | none =>
    simp only [Option.map_none] at HPA
    go_enter Tryz.func88, Tryz.ntmps88
    go_wp2_with (first
      | (go_at_call 74; refine (HNM.out _).mono ?_; rintro e w2 ⟨rfl, hb2⟩; have HB2 := Lib.hid (HBA.out.trans (hb2.mono HBA.out.size)); clear hb2)
      | (go_at_call 107; refine (HPA.out _).mono ?_; rintro e w3 ⟨rfl, hb3⟩; have HB3 := Lib.hid ((HB2.out.trans (hb3.mono HB2.out.size)).alloc (Nat.le_trans HB2.out.size hb3.size) (.cells #[.int .i64 0, .int .i64 0, .int .i64 0, .int .i64 0, .int .i64 0] 71)); clear hb3))
    go_ret2
    exact ⟨⟨_, rfl⟩, HB3.out⟩
  | some n =>
    simp only [Option.map_some] at HPA
    go_enter Tryz.func88, Tryz.ntmps88
    go_wp2_with (first
      | (go_at_call 74; refine (HNM.out _).mono ?_; rintro e w2 ⟨rfl, hb2⟩; have HB2 := Lib.hid (HBA.out.trans (hb2.mono HBA.out.size)); clear hb2)
      | (go_at_call 107; refine (HPA.out _).mono ?_; rintro e w3 ⟨rfl, hb3⟩; have HB3 := Lib.hid ((HB2.out.trans (hb3.mono HB2.out.size)).alloc (Nat.le_trans HB2.out.size hb3.size) (.cells #[.int .i64 6, .int .i64 n, .int .i64 0, .int .i64 0, .int .i64 0] 71)); clear hb3))
    go_ret2
    exact ⟨rfl, HB3.out⟩

set_option maxHeartbeats 4000000 in
theorem rplain_2 (op : Int) (x : ByteArray) (hx : x.size ≤ 10000) (hnb : noBlank x.data.toList) (w : World) :
    Calls Tryz.prog 88 #[.int .i64 op, .int .i64 2, .string x] w (OpdW w (opdOf 2 x.data.toList)) := by
  have HPP := Lib.hid (plain_parse 5 2 (by decide) (by decide) x.data.toList hnb)
  have HNM := Lib.hid (fun w => rname_any 5 w)
  obtain ⟨nm, hnm, hns⟩ : ∃ nm, nameOf 5 = nm ∧ nm.size ≤ 20 := ⟨_, rfl, by decide⟩
  have hna : nameAt 5 = nm := by rw [← hnm]; rfl
  rw [hnm] at HNM
  rw [hna] at HPP
  have hj : (nm ++ ⟨#[32]⟩ ++ x : ByteArray).data.toList = nm.data.toList ++ 32 :: x.data.toList := by simp
  have z1 : (nm ++ ⟨#[32]⟩ : ByteArray).size = nm.size + 1 := by rw [ByteArray.size_append]; rfl
  have z2 : (nm ++ ⟨#[32]⟩ ++ x : ByteArray).size = nm.size + 1 + x.size := by rw [ByteArray.size_append, z1]
  have HPA := Lib.hid (fun w => refparse_any (nm ++ ⟨#[32]⟩ ++ x) (by omega) w)
  rw [hj, HPP.out] at HPA
  have HBA := Lib.hid (alloc_below w (.cells #[.int .i64 0, .int .i64 6, .int .i64 5, .int .i64 0, .int .i64 0, .int .i64 9, .int .i64 15, .int .i64 0, .int .i64 0, .int .i64 24] 3))
  have HXA := Lib.hid (Box.new w 3 #[.int .i64 0, .int .i64 6, .int .i64 5, .int .i64 0, .int .i64 0, .int .i64 9, .int .i64 15, .int .i64 0, .int .i64 0, .int .i64 24])
  have d0 := HXA.out.cell 2
  unfold RParseRes insV at HPA
  generalize opdOf 2 x.data.toList = r at *
  clear hnm hna hj HPP hnb
  cases r with
  | none =>
    simp only [Option.map_none] at HPA
    go_enter Tryz.func88, Tryz.ntmps88
    go_wp2_with (first
      | (go_at_call 74; refine (HNM.out _).mono ?_; rintro e w2 ⟨rfl, hb2⟩; have HB2 := Lib.hid (HBA.out.trans (hb2.mono HBA.out.size)); clear hb2)
      | (go_at_call 107; refine (HPA.out _).mono ?_; rintro e w3 ⟨rfl, hb3⟩; have HB3 := Lib.hid ((HB2.out.trans (hb3.mono HB2.out.size)).alloc (Nat.le_trans HB2.out.size hb3.size) (.cells #[.int .i64 0, .int .i64 0, .int .i64 0, .int .i64 0, .int .i64 0] 71)); clear hb3))
    go_ret2
    exact ⟨⟨_, rfl⟩, HB3.out⟩
  | some n =>
    simp only [Option.map_some] at HPA
    go_enter Tryz.func88, Tryz.ntmps88
    go_wp2_with (first
      | (go_at_call 74; refine (HNM.out _).mono ?_; rintro e w2 ⟨rfl, hb2⟩; have HB2 := Lib.hid (HBA.out.trans (hb2.mono HBA.out.size)); clear hb2)
      | (go_at_call 107; refine (HPA.out _).mono ?_; rintro e w3 ⟨rfl, hb3⟩; have HB3 := Lib.hid ((HB2.out.trans (hb3.mono HB2.out.size)).alloc (Nat.le_trans HB2.out.size hb3.size) (.cells #[.int .i64 5, .int .i64 n, .int .i64 0, .int .i64 0, .int .i64 0] 71)); clear hb3))
    go_ret2
    exact ⟨rfl, HB3.out⟩

set_option maxHeartbeats 4000000 in
theorem rplain_5 (op : Int) (x : ByteArray) (hx : x.size ≤ 10000) (hnb : noBlank x.data.toList) (w : World) :
    Calls Tryz.prog 88 #[.int .i64 op, .int .i64 5, .string x] w (OpdW w (opdOf 5 x.data.toList)) := by
  have HPP := Lib.hid (plain_parse 9 5 (by decide) (by decide) x.data.toList hnb)
  have HNM := Lib.hid (fun w => rname_any 9 w)
  obtain ⟨nm, hnm, hns⟩ : ∃ nm, nameOf 9 = nm ∧ nm.size ≤ 20 := ⟨_, rfl, by decide⟩
  have hna : nameAt 9 = nm := by rw [← hnm]; rfl
  rw [hnm] at HNM
  rw [hna] at HPP
  have hj : (nm ++ ⟨#[32]⟩ ++ x : ByteArray).data.toList = nm.data.toList ++ 32 :: x.data.toList := by simp
  have z1 : (nm ++ ⟨#[32]⟩ : ByteArray).size = nm.size + 1 := by rw [ByteArray.size_append]; rfl
  have z2 : (nm ++ ⟨#[32]⟩ ++ x : ByteArray).size = nm.size + 1 + x.size := by rw [ByteArray.size_append, z1]
  have HPA := Lib.hid (fun w => refparse_any (nm ++ ⟨#[32]⟩ ++ x) (by omega) w)
  rw [hj, HPP.out] at HPA
  have HBA := Lib.hid (alloc_below w (.cells #[.int .i64 0, .int .i64 6, .int .i64 5, .int .i64 0, .int .i64 0, .int .i64 9, .int .i64 15, .int .i64 0, .int .i64 0, .int .i64 24] 3))
  have HXA := Lib.hid (Box.new w 3 #[.int .i64 0, .int .i64 6, .int .i64 5, .int .i64 0, .int .i64 0, .int .i64 9, .int .i64 15, .int .i64 0, .int .i64 0, .int .i64 24])
  have d0 := HXA.out.cell 5
  unfold RParseRes insV at HPA
  generalize opdOf 5 x.data.toList = r at *
  clear hnm hna hj HPP hnb
  cases r with
  | none =>
    simp only [Option.map_none] at HPA
    go_enter Tryz.func88, Tryz.ntmps88
    go_wp2_with (first
      | (go_at_call 74; refine (HNM.out _).mono ?_; rintro e w2 ⟨rfl, hb2⟩; have HB2 := Lib.hid (HBA.out.trans (hb2.mono HBA.out.size)); clear hb2)
      | (go_at_call 107; refine (HPA.out _).mono ?_; rintro e w3 ⟨rfl, hb3⟩; have HB3 := Lib.hid ((HB2.out.trans (hb3.mono HB2.out.size)).alloc (Nat.le_trans HB2.out.size hb3.size) (.cells #[.int .i64 0, .int .i64 0, .int .i64 0, .int .i64 0, .int .i64 0] 71)); clear hb3))
    go_ret2
    exact ⟨⟨_, rfl⟩, HB3.out⟩
  | some n =>
    simp only [Option.map_some] at HPA
    go_enter Tryz.func88, Tryz.ntmps88
    go_wp2_with (first
      | (go_at_call 74; refine (HNM.out _).mono ?_; rintro e w2 ⟨rfl, hb2⟩; have HB2 := Lib.hid (HBA.out.trans (hb2.mono HBA.out.size)); clear hb2)
      | (go_at_call 107; refine (HPA.out _).mono ?_; rintro e w3 ⟨rfl, hb3⟩; have HB3 := Lib.hid ((HB2.out.trans (hb3.mono HB2.out.size)).alloc (Nat.le_trans HB2.out.size hb3.size) (.cells #[.int .i64 9, .int .i64 n, .int .i64 0, .int .i64 0, .int .i64 0] 71)); clear hb3))
    go_ret2
    exact ⟨rfl, HB3.out⟩

set_option maxHeartbeats 4000000 in
theorem rplain_6 (op : Int) (x : ByteArray) (hx : x.size ≤ 10000) (hnb : noBlank x.data.toList) (w : World) :
    Calls Tryz.prog 88 #[.int .i64 op, .int .i64 6, .string x] w (OpdW w (opdOf 6 x.data.toList)) := by
  have HPP := Lib.hid (plain_parse 15 6 (by decide) (by decide) x.data.toList hnb)
  have HNM := Lib.hid (fun w => rname_any 15 w)
  obtain ⟨nm, hnm, hns⟩ : ∃ nm, nameOf 15 = nm ∧ nm.size ≤ 20 := ⟨_, rfl, by decide⟩
  have hna : nameAt 15 = nm := by rw [← hnm]; rfl
  rw [hnm] at HNM
  rw [hna] at HPP
  have hj : (nm ++ ⟨#[32]⟩ ++ x : ByteArray).data.toList = nm.data.toList ++ 32 :: x.data.toList := by simp
  have z1 : (nm ++ ⟨#[32]⟩ : ByteArray).size = nm.size + 1 := by rw [ByteArray.size_append]; rfl
  have z2 : (nm ++ ⟨#[32]⟩ ++ x : ByteArray).size = nm.size + 1 + x.size := by rw [ByteArray.size_append, z1]
  have HPA := Lib.hid (fun w => refparse_any (nm ++ ⟨#[32]⟩ ++ x) (by omega) w)
  rw [hj, HPP.out] at HPA
  have HBA := Lib.hid (alloc_below w (.cells #[.int .i64 0, .int .i64 6, .int .i64 5, .int .i64 0, .int .i64 0, .int .i64 9, .int .i64 15, .int .i64 0, .int .i64 0, .int .i64 24] 3))
  have HXA := Lib.hid (Box.new w 3 #[.int .i64 0, .int .i64 6, .int .i64 5, .int .i64 0, .int .i64 0, .int .i64 9, .int .i64 15, .int .i64 0, .int .i64 0, .int .i64 24])
  have d0 := HXA.out.cell 6
  unfold RParseRes insV at HPA
  generalize opdOf 6 x.data.toList = r at *
  clear hnm hna hj HPP hnb
  cases r with
  | none =>
    simp only [Option.map_none] at HPA
    go_enter Tryz.func88, Tryz.ntmps88
    go_wp2_with (first
      | (go_at_call 74; refine (HNM.out _).mono ?_; rintro e w2 ⟨rfl, hb2⟩; have HB2 := Lib.hid (HBA.out.trans (hb2.mono HBA.out.size)); clear hb2)
      | (go_at_call 107; refine (HPA.out _).mono ?_; rintro e w3 ⟨rfl, hb3⟩; have HB3 := Lib.hid ((HB2.out.trans (hb3.mono HB2.out.size)).alloc (Nat.le_trans HB2.out.size hb3.size) (.cells #[.int .i64 0, .int .i64 0, .int .i64 0, .int .i64 0, .int .i64 0] 71)); clear hb3))
    go_ret2
    exact ⟨⟨_, rfl⟩, HB3.out⟩
  | some n =>
    simp only [Option.map_some] at HPA
    go_enter Tryz.func88, Tryz.ntmps88
    go_wp2_with (first
      | (go_at_call 74; refine (HNM.out _).mono ?_; rintro e w2 ⟨rfl, hb2⟩; have HB2 := Lib.hid (HBA.out.trans (hb2.mono HBA.out.size)); clear hb2)
      | (go_at_call 107; refine (HPA.out _).mono ?_; rintro e w3 ⟨rfl, hb3⟩; have HB3 := Lib.hid ((HB2.out.trans (hb3.mono HB2.out.size)).alloc (Nat.le_trans HB2.out.size hb3.size) (.cells #[.int .i64 15, .int .i64 n, .int .i64 0, .int .i64 0, .int .i64 0] 71)); clear hb3))
    go_ret2
    exact ⟨rfl, HB3.out⟩

set_option maxHeartbeats 4000000 in
theorem rplain_9 (op : Int) (x : ByteArray) (hx : x.size ≤ 10000) (hnb : noBlank x.data.toList) (w : World) :
    Calls Tryz.prog 88 #[.int .i64 op, .int .i64 9, .string x] w (OpdW w (opdOf 9 x.data.toList)) := by
  have HPP := Lib.hid (plain_parse 24 9 (by decide) (by decide) x.data.toList hnb)
  have HNM := Lib.hid (fun w => rname_any 24 w)
  obtain ⟨nm, hnm, hns⟩ : ∃ nm, nameOf 24 = nm ∧ nm.size ≤ 20 := ⟨_, rfl, by decide⟩
  have hna : nameAt 24 = nm := by rw [← hnm]; rfl
  rw [hnm] at HNM
  rw [hna] at HPP
  have hj : (nm ++ ⟨#[32]⟩ ++ x : ByteArray).data.toList = nm.data.toList ++ 32 :: x.data.toList := by simp
  have z1 : (nm ++ ⟨#[32]⟩ : ByteArray).size = nm.size + 1 := by rw [ByteArray.size_append]; rfl
  have z2 : (nm ++ ⟨#[32]⟩ ++ x : ByteArray).size = nm.size + 1 + x.size := by rw [ByteArray.size_append, z1]
  have HPA := Lib.hid (fun w => refparse_any (nm ++ ⟨#[32]⟩ ++ x) (by omega) w)
  rw [hj, HPP.out] at HPA
  have HBA := Lib.hid (alloc_below w (.cells #[.int .i64 0, .int .i64 6, .int .i64 5, .int .i64 0, .int .i64 0, .int .i64 9, .int .i64 15, .int .i64 0, .int .i64 0, .int .i64 24] 3))
  have HXA := Lib.hid (Box.new w 3 #[.int .i64 0, .int .i64 6, .int .i64 5, .int .i64 0, .int .i64 0, .int .i64 9, .int .i64 15, .int .i64 0, .int .i64 0, .int .i64 24])
  have d0 := HXA.out.cell 9
  unfold RParseRes insV at HPA
  generalize opdOf 9 x.data.toList = r at *
  clear hnm hna hj HPP hnb
  cases r with
  | none =>
    simp only [Option.map_none] at HPA
    go_enter Tryz.func88, Tryz.ntmps88
    go_wp2_with (first
      | (go_at_call 74; refine (HNM.out _).mono ?_; rintro e w2 ⟨rfl, hb2⟩; have HB2 := Lib.hid (HBA.out.trans (hb2.mono HBA.out.size)); clear hb2)
      | (go_at_call 107; refine (HPA.out _).mono ?_; rintro e w3 ⟨rfl, hb3⟩; have HB3 := Lib.hid ((HB2.out.trans (hb3.mono HB2.out.size)).alloc (Nat.le_trans HB2.out.size hb3.size) (.cells #[.int .i64 0, .int .i64 0, .int .i64 0, .int .i64 0, .int .i64 0] 71)); clear hb3))
    go_ret2
    exact ⟨⟨_, rfl⟩, HB3.out⟩
  | some n =>
    simp only [Option.map_some] at HPA
    go_enter Tryz.func88, Tryz.ntmps88
    go_wp2_with (first
      | (go_at_call 74; refine (HNM.out _).mono ?_; rintro e w2 ⟨rfl, hb2⟩; have HB2 := Lib.hid (HBA.out.trans (hb2.mono HBA.out.size)); clear hb2)
      | (go_at_call 107; refine (HPA.out _).mono ?_; rintro e w3 ⟨rfl, hb3⟩; have HB3 := Lib.hid ((HB2.out.trans (hb3.mono HB2.out.size)).alloc (Nat.le_trans HB2.out.size hb3.size) (.cells #[.int .i64 24, .int .i64 n, .int .i64 0, .int .i64 0, .int .i64 0] 71)); clear hb3))
    go_ret2
    exact ⟨rfl, HB3.out⟩

theorem rplain_any (op kind : Int) (hk : kind = 1 ∨ kind = 2 ∨ kind = 5 ∨ kind = 6 ∨ kind = 9) (x : ByteArray) (hx : x.size ≤ 10000) (hnb : noBlank x.data.toList) (w : World) :
    Calls Tryz.prog 88 #[.int .i64 op, .int .i64 kind, .string x] w (OpdW w (opdOf kind x.data.toList)) := by
  rcases hk with rfl | rfl | rfl | rfl | rfl
  · exact rplain_1 op x hx hnb w
  · exact rplain_2 op x hx hnb w
  · exact rplain_5 op x hx hnb w
  · exact rplain_6 op x hx hnb w
  · exact rplain_9 op x hx hnb w

end Go.Proofs.YtfgnapfodnhppaaGreatDoor

namespace Go.Proofs.YtfgnapfodnhppaaGreatDoor
open Go Go.RowKit Go.WideShapes Go.ChangeShapes
set_option linter.unusedVariables false
set_option linter.unusedSimpArgs false

/-- What the document's operand comes to. -/
def ROpW (base : Nat) (w : World) (g : Nat) (va vf vp vc vu vl : Value) (L : List Int) (o : Ob) (r : Option (Int × Ob)) (e : Ending) (w' : World) : Prop :=
  match r with
  | none => (∃ n : Int, e = .returned (.tuple #[.int .i64 n, .bool false])) ∧ Below w.heap.size w w'
  | some (x, o') => ∃ va' vf' vp', e = .returned (.tuple #[.int .i64 x, .bool true]) ∧ Rt base w' g va' vf' vp' vc vu vl L o' ∧ RtF w w' g va vf vp va' vf' vp' o o'
section
variable {base : Nat} {w w' : World} {g : Nat} {va vf vp vc vu vl va' vf' vp' : Value} {L : List Int} {o o' : Ob} {r : Option (Int × Ob)} {n x : Int}
theorem ropw_none (h : r = none) (hb : Below w.heap.size w w') : ROpW base w g va vf vp vc vu vl L o r (.returned (.tuple #[.int .i64 n, .bool false])) w' := by
  subst h
  exact ⟨⟨_, rfl⟩, hb⟩
theorem ropw_some (h : r = some (x, o')) (hk : Rt base w' g va' vf' vp' vc vu vl L o') (hf : RtF w w' g va vf vp va' vf' vp' o o') : ROpW base w g va vf vp vc vu vl L o r (.returned (.tuple #[.int .i64 x, .bool true])) w' := by
  subst h
  exact ⟨_, _, _, rfl, hk, hf⟩
end

set_option maxRecDepth 100000 in
set_option maxHeartbeats 16000000 in
theorem roperand_3 {base : Nat} {w : World} {g : Nat} {va vf vp vc vu vl : Value} {L : List Int} {o : Ob} (hk : Rt base w g va vf vp vc vu vl L o) (hb : base ≤ w.heap.size) (hl : o.atoms.length ≤ 1000000) (op : Int) (x : ByteArray) (hx : x.size ≤ 10000) :
    Calls Tryz.prog 57 #[.pointer (some ⟨g, 0, none⟩), .int .i64 op, .int .i64 3, .string x] w (ROpW base w g va vf vp vc vu vl L o (opStep op 3 x.data.toList o)) := by
  have HE : Hid (opStep op 3 x.data.toList o = if nameOk x = true then some ((placeOf o.atoms x : Int), { o with atoms := addTo o.atoms x }) else none) := Lib.hid (by rw [opStep, if_pos rfl, str_bs])
  obtain ⟨A1, c1, hva, _⟩ := own_form hk.ra
  subst hva
  have HK := Lib.hid hk
  have HA := Lib.hid hk.at_.atoms
  have q0 := hk.cells.1
  have HB := Lib.hid hb
  have HN := Lib.hid (fun w => refName_any x w (by unfold maxLen; omega))
  generalize opStep op 3 x.data.toList o = r at HE
  clear hk hb
  cases hnm : nameOk x with
  | false =>
    rw [hnm] at HN HE
    have HX : Hid (r = none) := HE
    go_enter Tryz.func57, Tryz.ntmps57
    go_wp2_with (go_at_call 85; refine (HN.out _).mono ?_; rintro e w2 ⟨rfl, rfl⟩)
    go_ret2
    exact ropw_none HX.out (Below.refl _ _)
  | true =>
    rw [hnm] at HN HE
    have HX : Hid (r = some ((placeOf o.atoms x : Int), { o with atoms := addTo o.atoms x })) := HE
    clear hnm HE
    go_enter Tryz.func57, Tryz.ntmps57
    go_upto_region 6 with (go_at_call 85; refine (HN.out _).mono ?_; rintro e w2 ⟨rfl, rfl⟩)
    go_loop [8, 9, 10] (fun _ _ i => ∃ k : Nat, k ≤ o.atoms.length ∧ i = .int .i64 k ∧ Hid (∀ j (hj : j < o.atoms.length), j < k → o.atoms[j] ≠ x)) (fun _ _ i => o.atoms.length - (intOf i).toNat)
    case atStart => exact ⟨0, by omega, rfl, Lib.hid (fun j _ h => absurd h (by omega))⟩
    case round =>
      obtain ⟨k, hkl, rfl, HP⟩ := hrel
      by_cases hlt : k < o.atoms.length
      · obtain ⟨b, off, rfl, hbb, hc⟩ := atomCell HA.out k hlt
        by_cases he : o.atoms[k] = x
        · have hhit := place_hit o.atoms x k hlt HP.out he
          have HX2 : Hid (r = some ((k : Int), o)) := Lib.hid (by rw [HX.out, hhit.1, addTo_yes hhit.2])
          rw [he] at hc
          clear hhit
          go_wp2
          go_ret2
          exact ropw_some HX2.out HK.out (RtF.below (Below.refl _ _) o)
        · have HP2 : Hid (∀ j (hj : j < o.atoms.length), j < k + 1 → o.atoms[j] ≠ x) := Lib.hid (fun j hj hjk => by
            by_cases e : j = k
            · subst e; exact he
            · exact HP.out j hj (by omega))
          have e2 : (o.atoms[k].toList == x.toList) = false := ne_strs he
          generalize o.atoms[k] = y at *
          go_wp2
          go_round
          case rel => exact ⟨k + 1, by omega, by go_num, HP2⟩
          case measure => simp [intOf]; omega
      · obtain rfl : k = o.atoms.length := by omega
        have hnot : x ∉ o.atoms := fun hm => by
          obtain ⟨j, hj, he⟩ := List.getElem_of_mem hm
          exact HP.out j hj hj he
        have HX2 : Hid (r = some ((o.atoms.length : Int), { o with atoms := o.atoms ++ [x] })) := Lib.hid (by rw [HX.out, place_miss _ _ hnot, addTo_no hnot])
        obtain ⟨v6, w6, hr6, HA6⟩ := app_one slStr HK.out.ra [.string x] rfl (by intro u hu; rw [List.mem_singleton.1 hu]; rfl) hl HB.out 22
        have HKEEP := Lib.hid (fun (base' n' : Nat) (u : Value) (xs : List Value) (hu : w.ownsRow base' 9 1 u n' xs) hc => app_keep slStr HK.out.ra [.string x] rfl (by intro u hu; rw [List.mem_singleton.1 hu]; rfl) hl 22 hr6 hu hc)
        obtain ⟨A6, c6, hv6⟩ := HA6.out.form
        subst hv6
        obtain ⟨hT6, hF6, z0, z1⟩ := HK.out.puta HA6.out HKEEP.out
        have HT6 := Lib.hid hT6
        have HF6 := Lib.hid hF6
        have HR6 := Lib.hid hr6
        have z2 := HT6.out.cells.1
        have q0a := fun oo => (HK.out.goes (alloc_below w oo)).cells.1
        clear hr6 hT6 hF6 hnot
        go_wp2_with (at_builtin; refine wpList_of_append HR6.out rfl _ _ rfl rfl rfl ?_)
        go_ret2
        exact ropw_some HX2.out HT6.out HF6.out

end Go.Proofs.YtfgnapfodnhppaaGreatDoor

namespace Go.Proofs.YtfgnapfodnhppaaGreatDoor
open Go Go.RowKit Go.WideShapes Go.ChangeShapes
set_option linter.unusedVariables false
set_option linter.unusedSimpArgs false

theorem funOf_least {w : List UInt8} {g : Int} {f : ByteArray × Int} (h : funOf w g = some f) : g ≤ f.2 ∧ f.2 ≤ 8 ∧ 0 ≤ f.2 := by
  unfold funOf at h
  split at h
  · cases h
  · split at h
    · cases h
    · rename_i n hn
      split at h
      · rename_i hc
        injection h with h
        subst h
        have := numUpto_bd hn
        exact ⟨hc.1, this.2, this.1⟩
      · cases h

set_option maxRecDepth 100000 in
set_option maxHeartbeats 16000000 in
theorem roperand_4 {base : Nat} {w : World} {g : Nat} {va vf vp vc vu vl : Value} {L : List Int} {o : Ob} (hk : Rt base w g va vf vp vc vu vl L o) (hb : base ≤ w.heap.size) (hl : o.funs.length ≤ 1000000) (op : Int) (x : ByteArray) (hx : x.size ≤ 10000) :
    Calls Tryz.prog 57 #[.pointer (some ⟨g, 0, none⟩), .int .i64 op, .int .i64 4, .string x] w (ROpW base w g va vf vp vc vu vl L o (opStep op 4 x.data.toList o)) := by
  have HE : Hid (opStep op 4 x.data.toList o = (funOf x.data.toList 1).map fun f => ((placeOf o.funs f : Int), { o with funs := addTo o.funs f })) := Lib.hid (by rw [opStep, if_neg (by decide), if_pos rfl])
  obtain ⟨A2, c2, hvf, _⟩ := own_form hk.rf
  subst hvf
  have HK := Lib.hid hk
  have HB := Lib.hid hb
  have HS := Lib.hid (fun w => rslash_any x (by omega) 1 (by decide) w)
  generalize opStep op 4 x.data.toList o = r at HE
  cases hf : funOf x.data.toList 1 with
  | none =>
    rw [hf] at HE HS
    have HX : Hid (r = none) := HE
    unfold slashRes at HS
    simp only at HS
    have q1 := hk.cells.2.1
    clear hk hb hf
    go_enter Tryz.func57, Tryz.ntmps57
    go_upto_region 15 with (go_at_call 53; refine (HS.out _).mono ?_; rintro e w2 ⟨rfl, hb2⟩; have HK2 := Lib.hid (HK.out.goes hb2); have HB2 := Lib.hid hb2; have k1 := HK2.out.cells.2.1; clear hb2)
    go_loop [8, 9, 13] (fun _ _ i => i = .int .i64 0) (fun _ _ _ => 0)
    case atStart => rfl
    case round =>
      obtain rfl := hrel
      by_cases h0 : 0 < o.funs.length
      · have e1 : (0 : Int) < (o.funs.length : Int) := by omega
        go_wp2
        go_ret2
        exact ropw_none HX.out HB2.out
      · have e1 : ¬ (0 : Int) < (o.funs.length : Int) := by omega
        go_wp2
        go_ret2
        exact ropw_none HX.out HB2.out
  | some f =>
    obtain ⟨f, n⟩ := f
    have hbd := funOf_least hf
    simp only at hbd
    rw [hf] at HE HS
    have HX : Hid (r = some ((placeOf o.funs (f, n) : Int), { o with funs := addTo o.funs (f, n) })) := HE
    unfold slashRes at HS
    simp only at HS
    have e0 : (0 : Int) < n := by omega
    clear hk hb hf HE
    go_enter Tryz.func57, Tryz.ntmps57
    go_upto_region 15 with (go_at_call 53; refine (HS.out _).mono ?_; rintro e w2 ⟨rfl, hb2⟩; have HK2 := Lib.hid (HK.out.goes hb2); have HB2 := Lib.hid hb2; have k1 := HK2.out.cells.2.1; clear hb2)
    have HF2 := Lib.hid (RtF.below (g := g) (va := va) (vf := .slice A2 o.funs.length c2) (vp := vp) HB2.out o)
    have HA := Lib.hid HK2.out.at_.funs
    go_loop [8, 9, 13] (fun _ _ i => ∃ k : Nat, k ≤ o.funs.length ∧ i = .int .i64 k ∧ Hid (∀ j (hj : j < o.funs.length), j < k → o.funs[j] ≠ (f, n))) (fun _ _ i => o.funs.length - (intOf i).toNat)
    case atStart => exact ⟨0, by omega, rfl, Lib.hid (fun j _ h => absurd h (by omega))⟩
    case round =>
      obtain ⟨k, hkl, rfl, HP⟩ := hrel
      by_cases hlt : k < o.funs.length
      · obtain ⟨b, off, rfl, hbb, d0, d1⟩ := funCell HA.out k hlt
        have i1 : (k : Int) < (o.funs.length : Int) := by omega
        by_cases he : o.funs[k] = (f, n)
        · have hhit := place_hit o.funs (f, n) k hlt HP.out he
          have HX2 : Hid (r = some ((k : Int), o)) := Lib.hid (by rw [HX.out, hhit.1, addTo_yes hhit.2])
          rw [he] at d0 d1
          simp only at d0 d1
          clear hhit
          go_wp2
          go_ret2
          exact ropw_some HX2.out HK2.out HF2.out
        · have HP2 : Hid (∀ j (hj : j < o.funs.length), j < k + 1 → o.funs[j] ≠ (f, n)) := Lib.hid (fun j hj hjk => by
            by_cases e : j = k
            · subst e; exact he
            · exact HP.out j hj (by omega))
          have hne : ¬ (o.funs[k].1 = f ∧ o.funs[k].2 = n) := fun e => he (Prod.ext e.1 e.2)
          by_cases h1 : o.funs[k].1 = f
          · have h2 : ¬ o.funs[k].2 = n := fun e => hne ⟨h1, e⟩
            rw [h1] at d0
            generalize o.funs[k].2 = m at *
            have e2 : (m == n) = false := by simpa using h2
            clear he hne h1
            go_wp2
            go_round
            case rel => exact ⟨k + 1, by omega, by go_num, HP2⟩
            case measure => simp [intOf]; omega
          · have e2 : (o.funs[k].1.toList == f.toList) = false := ne_strs h1
            generalize o.funs[k].1 = y at *
            generalize o.funs[k].2 = m at *
            clear he hne
            go_wp2
            go_round
            case rel => exact ⟨k + 1, by omega, by go_num, HP2⟩
            case measure => simp [intOf]; omega
      · obtain rfl : k = o.funs.length := by omega
        have hnot : (f, n) ∉ o.funs := fun hm => by
          obtain ⟨j, hj, he⟩ := List.getElem_of_mem hm
          exact HP.out j hj hj he
        have HX2 : Hid (r = some ((o.funs.length : Int), { o with funs := o.funs ++ [(f, n)] })) := Lib.hid (by rw [HX.out, place_miss _ _ hnot, addTo_no hnot])
        obtain ⟨v6, w6, hr6, HA6⟩ := app_one slFunR HK2.out.rf [.string f, .int .i64 n] rfl (by intro u hu; simp only [List.mem_cons, List.not_mem_nil, or_false] at hu; rcases hu with rfl | rfl <;> rfl) hl (Nat.le_trans HB.out HB2.out.size) 35
        have HKEEP := Lib.hid (fun (base' n' : Nat) (u : Value) (xs : List Value) (hu : w2.ownsRow base' 75 2 u n' xs) hc => app_keep slFunR HK2.out.rf [.string f, .int .i64 n] rfl (by intro u hu; simp only [List.mem_cons, List.not_mem_nil, or_false] at hu; rcases hu with rfl | rfl <;> rfl) hl 35 hr6 hu hc)
        obtain ⟨A6, c6, hv6⟩ := HA6.out.form
        subst hv6
        obtain ⟨hT6, hF6, z0, z1⟩ := HK2.out.putf HA6.out HKEEP.out
        have HT6 := Lib.hid hT6
        have HF6 := Lib.hid (HF2.out.trans hF6)
        have HR6 := Lib.hid hr6
        have z2 := HT6.out.cells.2.1
        have q0a := fun oo => (HK2.out.goes (alloc_below w2 oo)).cells.2.1
        clear hr6 hT6 hF6 hnot
        go_wp2_with (at_builtin; refine wpList_of_append HR6.out rfl _ _ rfl rfl rfl ?_)
        go_ret2
        exact ropw_some HX2.out HT6.out HF6.out

end Go.Proofs.YtfgnapfodnhppaaGreatDoor
