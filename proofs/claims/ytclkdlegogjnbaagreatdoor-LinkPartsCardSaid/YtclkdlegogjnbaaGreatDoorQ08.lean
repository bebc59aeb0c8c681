/-
  3 texts in one (CodeG CodeH CodeL). Conditions: those of each theorem.
-/
import Derived.Test.YtclkdlegogjnbaaGreatDoorQ07
import Derived.Shelf.Strings.SlTrimAscii
import Derived.Lib.IndexBytes
import Derived.Lib.Split
import Derived.Test.YtclkdlegogjnbaaGreatDoorQ02
import Derived.IntWalk
import Derived.Deep.QuietTactic
import Derived.BigQuiet
import Derived.Lib.ItoaLen
import Derived.Laws.Concat
namespace Go.Proofs.YtclkdlegogjnbaaGreatDoor
open Go Go.RowKit Go.WideShapes Go.ChangeShapes
set_option linter.unusedVariables false

/-- What a word is read as. -/
def numOf (kind : Int) (w : List UInt8) : Option Int :=
  if w = [45] then some 65535
  else match Lib.atoiAll (Lib.trimLeftS w [88, 89]) with
    | .ok v => some (if kind = 1 ∧ Lib.hasPrefix w [89] = true then wrap64 (v + 16) else v)
    | _ => none

def NumRes (w : World) (r : Option Int) (e : Ending) (w' : World) : Prop :=
  ∃ x, e = .returned (.tuple #[.int .i64 x, .bool r.isSome]) ∧ (∀ v, r = some v → x = v) ∧ Below w.heap.size w w'

theorem bel_drewN {B : Nat} {w w' : World} (h : Below B w w') (n : Nat) : Below B w (w'.drewN n) := ⟨h.os, h.tape, h.output, h.size, h.block⟩
theorem num_some {w w' : World} {r : Option Int} {x : Int} (h : r = some x) (hb : Below w.heap.size w w') : NumRes w r (.returned (.tuple #[.int .i64 x, .bool true])) w' := by
  subst h
  exact ⟨x, rfl, fun v hv => Option.some.inj hv, hb⟩
theorem num_none {w w' : World} {r : Option Int} {x : Int} (h : r = none) (hb : Below w.heap.size w w') : NumRes w r (.returned (.tuple #[.int .i64 x, .bool false])) w' := by
  subst h
  exact ⟨x, rfl, (fun v hv => by cases hv), hb⟩

theorem atoi_below {w w2 : World} {t : TypeId} (h : w2 = w ∨ ∃ x, w2 = Lib.bytesWorld w t x) : Below w.heap.size w w2 := by
  rcases h with rfl | ⟨x, rfl⟩
  · exact Below.refl _ _
  · exact Lib.bytesWorld_below _ _ _

theorem atoi_bad (s : ByteArray) (hs : s.size ≤ 100000) (h : ∀ v, Lib.atoiAll s.data.toList ≠ .ok v) (w : World) {B : Nat} (hL : LaidC B w) :
    Calls Tryz.prog 131 #[.string s] w fun e w' => ∃ v N, e = .returned (.tuple #[.int .i64 v, .iface 226 (.pointer (some ⟨N, 0, none⟩))]) ∧ Below w.heap.size w w' := by
  rcases h' : Lib.atoiAll s.data.toList with v | _ | _
  · exact absurd h' (h v)
  · obtain ⟨te, pe, hev⟩ := hL.syn
    refine Calls.mono (Any.strconv_Atoi_syntax Tryz.laysC172 s (by omega) h' _ w hev (.inr ⟨te, pe, rfl⟩)) ?_
    rintro e w' ⟨N, rfl, _, _, hb⟩
    exact ⟨_, N, rfl, hb⟩
  · obtain ⟨te, pe, hev⟩ := hL.ran
    refine Calls.mono (Any.strconv_Atoi_range Tryz.laysC172 s (by omega) h' _ w hev (.inr ⟨te, pe, rfl⟩)) ?_
    rintro e w' ⟨N, rfl, _, _, hb⟩
    exact ⟨_, N, rfl, hb⟩

theorem trim_any (s : ByteArray) (w : World) :
    Calls Tryz.prog 136 #[.string s, .string ⟨#[88, 89]⟩] w fun e w' => e = .returned (.string (bs (Lib.trimLeftS s.data.toList [88, 89]))) ∧ Below w.heap.size w w' :=
  Any.strings_TrimLeft_laid Tryz.lays161 (by kernel_rfl) s ⟨#[88, 89]⟩ w (by decide) (ascii_of_all (by decide))

theorem trim_len (l : List UInt8) : (Lib.trimLeftS l [88, 89]).length ≤ l.length := (List.dropWhile_sublist _).length_le

theorem prefix_any (s : ByteArray) (w : World) :
    Calls Tryz.prog 76 #[.string s, .string ⟨#[89]⟩] w fun e w' => e = .returned (.bool (Lib.hasPrefix s.data.toList [89])) ∧ w = w' :=
  (Tryz.strings_HasPrefix s ⟨#[89]⟩ w).mono fun e w' h => ⟨h.1, h.2.symm⟩

set_option maxHeartbeats 1000000 in
theorem number_any (kind : Int) (s : ByteArray) (hs : s.size ≤ 100000) (w : World) {B : Nat} (hp : LaidC B w) :
    Calls Tryz.prog 117 #[.int .i64 kind, .string s] w (NumRes w (numOf kind s.data.toList)) := by
  by_cases h45 : s = ⟨#[45]⟩
  · subst h45
    go_enter Tryz.func117, Tryz.ntmps117
    go_wp2
    go_ret2
    exact ⟨65535, rfl, fun v hv => by simpa [numOf] using hv, Below.refl _ _⟩
  · have hne := ne_strs h45
    have hnl : ¬ s.data.toList = [45] := fun e => h45 (by rw [← str_bs s, e]; rfl)
    obtain ⟨t, ht⟩ : ∃ t, bs (Lib.trimLeftS s.data.toList [88, 89]) = t := ⟨_, rfl⟩
    have htl : t.data.toList = Lib.trimLeftS s.data.toList [88, 89] := by rw [← ht, bs_data]
    have hts : t.size ≤ 100000 := by
      have := trim_len s.data.toList
      rw [← ht, bs_size]
      have h2 : s.data.toList.length = s.size := by rw [Array.length_toList]; rfl
      omega
    have htr := fun w => trim_any s w
    rw [ht] at htr
    have HTR := Lib.hid htr
    have HP := Lib.hid hp
    have hnum : numOf kind s.data.toList = match Lib.atoiAll t.data.toList with
        | .ok v => some (if kind = 1 ∧ Lib.hasPrefix s.data.toList [89] = true then wrap64 (v + 16) else v)
        | _ => none := by rw [numOf, if_neg hnl, htl]
    have HNUM := Lib.hid hnum
    have hne' : (s.toList == [45]) = false := by
      rw [beq_eq_false_iff_ne, ByteArray.toList_eq]
      exact hnl
    clear htr hp ht htl hnum h45 hnl hne
    by_cases hok : ∃ v, Lib.atoiAll t.data.toList = .ok v
    · obtain ⟨v, hv⟩ := hok
      have hn2 : numOf kind s.data.toList = some (if kind = 1 ∧ Lib.hasPrefix s.data.toList [89] = true then wrap64 (v + 16) else v) := by rw [HNUM.out, hv]
      have HV := Lib.hid hv
      have HN2 := Lib.hid hn2
      clear hv hn2 HNUM
      by_cases h1 : kind = 1
      · subst h1
        have hpf := fun w => prefix_any s w
        cases hpr : Lib.hasPrefix s.data.toList [89]
        · rw [hpr] at hpf
          have HPF := Lib.hid hpf
          have HPR := Lib.hid hpr
          clear hpf hpr
          go_enter Tryz.func117, Tryz.ntmps117
          go_wp2_with fail
          refine (HTR.out _).mono ?_
          rintro e w2 ⟨rfl, hb⟩
          go_wp2_with fail
          refine (Tryz.strconv_Atoi_ok t (by omega) v HV.out _).mono ?_
          rintro e w3 ⟨rfl, hw3⟩
          have HB := Lib.hid (hb.trans ((atoi_below hw3).mono hb.size))
          clear hb hw3
          go_wp2_with fail
          refine (HPF.out _).mono ?_
          rintro e w' ⟨rfl, rfl⟩
          go_wp2
          go_quiet (fail)
          go_wp2
          go_ret2
          exact num_some (HN2.out.trans (by rw [HPR.out]; rfl)) (bel_drewN HB.out _)
        · rw [hpr] at hpf
          have HPF := Lib.hid hpf
          have HPR := Lib.hid hpr
          clear hpf hpr
          go_enter Tryz.func117, Tryz.ntmps117
          go_wp2_with fail
          refine (HTR.out _).mono ?_
          rintro e w2 ⟨rfl, hb⟩
          go_wp2_with fail
          refine (Tryz.strconv_Atoi_ok t (by omega) v HV.out _).mono ?_
          rintro e w3 ⟨rfl, hw3⟩
          have HB := Lib.hid (hb.trans ((atoi_below hw3).mono hb.size))
          clear hb hw3
          go_wp2_with fail
          refine (HPF.out _).mono ?_
          rintro e w' ⟨rfl, rfl⟩
          go_wp2
          go_quiet (fail)
          go_wp2
          go_ret2
          exact num_some (HN2.out.trans (by rw [HPR.out]; rfl)) (bel_drewN HB.out _)
      · have h1' : (kind == 1) = false := by simpa using h1
        have hn3 : numOf kind s.data.toList = some v := by rw [HN2.out, if_neg (fun x => h1 x.1)]
        have HN3 := Lib.hid hn3
        clear h1 hn3 HN2
        go_enter Tryz.func117, Tryz.ntmps117
        go_wp2_with fail
        refine (HTR.out _).mono ?_
        rintro e w2 ⟨rfl, hb⟩
        go_wp2_with fail
        refine (Tryz.strconv_Atoi_ok t (by omega) v HV.out _).mono ?_
        rintro e w3 ⟨rfl, hw3⟩
        have HB := Lib.hid (hb.trans ((atoi_below hw3).mono hb.size))
        clear hb hw3
        go_wp2
        go_quiet (fail)
        go_wp2
        go_ret2
        exact num_some HN3.out (bel_drewN HB.out _)
    · have hbad : ∀ v, Lib.atoiAll t.data.toList ≠ .ok v := fun v h => hok ⟨v, h⟩
      have hn2 : numOf kind s.data.toList = none := by
        rw [HNUM.out]
        rcases h : Lib.atoiAll t.data.toList with v | _ | _
        · exact absurd h (hbad v)
        · rfl
        · rfl
      have HBAD := Lib.hid hbad
      have HN2 := Lib.hid hn2
      clear hbad hn2 hok HNUM
      have hpf := fun w => prefix_any s w
      obtain ⟨pf, hpe⟩ : ∃ pf, Lib.hasPrefix s.data.toList [89] = pf := ⟨_, rfl⟩
      rw [hpe] at hpf
      have HPF := Lib.hid hpf
      clear hpf hpe
      by_cases h1 : kind = 1
      · subst h1
        cases pf
        all_goals
          go_enter Tryz.func117, Tryz.ntmps117
          go_wp2_with fail
          refine (HTR.out _).mono ?_
          rintro e w2 ⟨rfl, hb⟩
          go_wp2_with fail
          refine (atoi_bad t hts HBAD.out _ (HP.out.up hb)).mono ?_
          rintro e w3 ⟨v, N, rfl, hw3⟩
          have HB := Lib.hid (hb.trans (hw3.mono hb.size))
          clear hb hw3
          go_wp2_with fail
          refine (HPF.out _).mono ?_
          rintro e w' ⟨rfl, rfl⟩
          go_wp2
          go_quiet (fail)
          go_wp2
          go_ret2
          exact num_none HN2.out (bel_drewN HB.out _)
      · have h1' : (kind == 1) = false := by simpa using h1
        clear h1
        go_enter Tryz.func117, Tryz.ntmps117
        go_wp2_with fail
        refine (HTR.out _).mono ?_
        rintro e w2 ⟨rfl, hb⟩
        go_wp2_with fail
        refine (atoi_bad t hts HBAD.out _ (HP.out.up hb)).mono ?_
        rintro e w3 ⟨v, N, rfl, hw3⟩
        have HB := Lib.hid (hb.trans (hw3.mono hb.size))
        clear hb hw3
        go_wp2
        go_quiet (fail)
        go_wp2
        go_ret2
        exact num_none HN2.out (bel_drewN HB.out _)

end Go.Proofs.YtclkdlegogjnbaaGreatDoor

namespace Go.Proofs.YtclkdlegogjnbaaGreatDoor
open Go Go.RowKit Go.WideShapes Go.ChangeShapes
set_option linter.unusedVariables false

/-- The words: s cut at the first five blanks. -/
def wordsOf (s : List UInt8) : List (List UInt8) := Lib.splitK [32] 0 (min 6 (s.length + 1) - 1) s

/-- The first k numbers. -/
def numsUpto (f : Nat → Option Int) : Nat → Option (List Int)
  | 0 => some []
  | k + 1 => match numsUpto f k with
    | none => none
    | some L => match f k with
      | none => none
      | some x => some (L ++ [x])

def numAt (op : Int) (ws : List (List UInt8)) (k : Nat) : Option Int := numOf ((opsOf op).getD k 0) (ws.getD (k + 1) [])

def padded (L : List Int) : List Int := [L.getD 0 0, L.getD 1 0, L.getD 2 0, L.getD 3 0]

/-- The instruction of which s is the text. -/
def parseP (s : List UInt8) : Option (Int × List Int) :=
  if namedOf (bs ((wordsOf s).getD 0 [])) < 0 ∨ (wordsOf s).length - 1 ≠ (opsOf (namedOf (bs ((wordsOf s).getD 0 [])))).length then none
  else match numsUpto (numAt (namedOf (bs ((wordsOf s).getD 0 []))) (wordsOf s)) (opsOf (namedOf (bs ((wordsOf s).getD 0 [])))).length with
    | none => none
    | some L => if textOf (namedOf (bs ((wordsOf s).getD 0 []))) (padded L) = s then some (namedOf (bs ((wordsOf s).getD 0 [])), padded L) else none

theorem nums_none {f : Nat → Option Int} {k : Nat} (h : numsUpto f k = none) : ∀ n, k ≤ n → numsUpto f n = none := by
  intro n
  induction n with
  | zero => intro hk; obtain rfl : k = 0 := by omega
            exact h
  | succ n ih =>
    intro hk
    by_cases e : k = n + 1
    · subst e; exact h
    · rw [numsUpto, ih (by omega)]

theorem nums_step {f : Nat → Option Int} {k : Nat} {L : List Int} {x : Int} (h : numsUpto f k = some L) (hx : f k = some x) : numsUpto f (k + 1) = some (L ++ [x]) := by
  rw [numsUpto, h]
  simp only [hx]
theorem nums_bad {f : Nat → Option Int} {k : Nat} {L : List Int} (h : numsUpto f k = some L) (hx : f k = none) : numsUpto f (k + 1) = none := by
  rw [numsUpto, h]
  simp only [hx]
theorem nums_all {f : Nat → Option Int} {g : Nat → Int} : ∀ n, (∀ k, k < n → f k = some (g k)) → numsUpto f n = some ((List.range n).map g) := by
  intro n
  induction n with
  | zero => intro _; rfl
  | succ n ih =>
    intro h
    rw [nums_step (ih fun k hk => h k (by omega)) (h n (by omega)), List.range_succ, List.map_append]
    rfl
theorem nums_len {f : Nat → Option Int} : ∀ {n : Nat} {L : List Int}, numsUpto f n = some L → L.length = n := by
  intro n
  induction n with
  | zero => intro L h; injection h with h; subst h; rfl
  | succ n ih =>
    intro L h
    cases h1 : numsUpto f n with
    | none => rw [numsUpto, h1] at h; cases h
    | some M =>
      cases h2 : f n with
      | none => rw [nums_bad h1 h2] at h; cases h
      | some x =>
        rw [nums_step h1 h2] at h
        injection h with h
        subst h
        simp [ih h1]

/-! ### Cutting at blanks -/
def noBlank (w : List UInt8) : Prop := ∀ c ∈ w, c ≠ 32

theorem index_hit : ∀ {w : List UInt8} (r : List UInt8), noBlank w → Lib.index (w ++ 32 :: r) [32] = (w.length : Int) := by
  intro w r
  rw [Lib.index_one]
  induction w with
  | nil => intro _; simp [Lib.indexByte]
  | cons a w ih =>
    intro h
    have ha : (a == 32) = false := beq_eq_false_iff_ne.2 (h a (by simp))
    have hw := ih (fun c hc => h c (by simp [hc]))
    rw [List.cons_append, Lib.indexByte, ha, hw]
    have : ((w.length : Int) == -1) = false := by rw [beq_eq_false_iff_ne]; omega
    simp [this]
theorem index_miss {w : List UInt8} (h : noBlank w) : Lib.index w [32] = -1 := by
  rw [Lib.index_one]
  induction w with
  | nil => rfl
  | cons a w ih =>
    have ha : (a == 32) = false := beq_eq_false_iff_ne.2 (h a (by simp))
    have hw := ih (fun c hc => h c (by simp [hc]))
    rw [Lib.indexByte, ha, hw]
    rfl

theorem split_join : ∀ (ws : List (List UInt8)) (w0 : List UInt8) (k : Nat), noBlank w0 → (∀ w ∈ ws, noBlank w) → ws.length ≤ k → Lib.splitK [32] 0 k (w0 ++ ws.flatMap (32 :: ·)) = w0 :: ws := by
  intro ws
  induction ws with
  | nil =>
    intro w0 k h0 _ _
    have hm : (Lib.index (w0 ++ ([] : List (List UInt8)).flatMap (32 :: ·)) [32] == -1) = true := by simp [index_miss h0]
    cases k with
    | zero => simp [Lib.splitK]
    | succ k => rw [Lib.splitK, if_pos hm]; simp
  | cons w ws ih =>
    intro w0 k h0 hws hk
    cases k with
    | zero => simp at hk
    | succ k =>
      have hi : Lib.index (w0 ++ (w :: ws).flatMap (32 :: ·)) [32] = (w0.length : Int) := by
        rw [List.flatMap_cons, List.cons_append]
        exact index_hit _ h0
      have hm : ¬ (Lib.index (w0 ++ (w :: ws).flatMap (32 :: ·)) [32] == -1) = true := by
        rw [hi]
        intro e
        have := beq_iff_eq.1 e
        omega
      rw [Lib.splitK, if_neg hm, hi]
      have e1 : ((w0.length : Int)).toNat = w0.length := by omega
      rw [e1, Nat.add_zero, List.take_left]
      have e2 : (w0 ++ (w :: ws).flatMap (32 :: ·)).drop (w0.length + [(32 : UInt8)].length) = w ++ ws.flatMap (32 :: ·) := by
        rw [← List.drop_drop, List.drop_left, List.flatMap_cons]
        rfl
      rw [e2, ih w k (hws w (by simp)) (fun x hx => hws x (by simp [hx])) (by simpa using hk)]

theorem tail_flat (op : Int) (l : List Int) (k : Nat) : textTail op l k = ((List.range k).map fun j => wordOf ((opsOf op).getD j 0) (l.getD j 0)).flatMap (32 :: ·) := by
  induction k with
  | zero => rfl
  | succ k ih =>
    rw [List.range_succ, List.map_append, List.flatMap_append, ← ih]
    simp [textTail]

/-! ### Words and numbers undo each other -/
def validB (kind n : Int) : Bool := decide ((kind = 8 ∧ n = 65535) ∨ (lowOf kind ≤ n ∧ n ≤ highOf kind))
def backB (kind n : Int) : Bool := !validB kind n || (numOf kind (wordOf kind n) == some n && !(wordOf kind n).contains 32)
theorem backs : ((List.range 10).all fun k => (List.range 1025).all fun n => backB (k : Int) (n : Int)) = true := by decide +kernel
theorem back_far : backB 8 65535 = true := by decide +kernel

theorem back_at {kind n : Int} (h0 : 0 ≤ kind) (h9 : kind ≤ 9) (h : validB kind n = true) : numOf kind (wordOf kind n) = some n ∧ noBlank (wordOf kind n) := by
  have hb : backB kind n = true := by
    rcases of_decide_eq_true h with ⟨rfl, rfl⟩ | ⟨h1, h2⟩
    · exact back_far
    · have a : 0 ≤ lowOf kind := by unfold lowOf; split <;> omega
      have b : highOf kind ≤ 1023 := by
        unfold highOf
        repeat (first | split | omega)
      obtain ⟨K, rfl⟩ := Int.eq_ofNat_of_zero_le h0
      obtain ⟨N, rfl⟩ := Int.eq_ofNat_of_zero_le (show 0 ≤ n by omega)
      have h3 := List.all_eq_true.1 backs K (List.mem_range.2 (by omega))
      exact List.all_eq_true.1 h3 N (List.mem_range.2 (by omega))
  rw [backB, h, Bool.not_true, Bool.false_or, Bool.and_eq_true] at hb
  refine ⟨beq_iff_eq.1 hb.1, fun c hc e => ?_⟩
  subst e
  have := hb.2
  simp [hc] at this

theorem named_back : ∀ k, k < 27 → namedOf (nameAt k) = (k : Int) := by decide +kernel
theorem named_empty : namedOf (bs []) = -1 := by decide +kernel
theorem name_noBlank : ∀ k, k < 27 → ((nameAt k).data.toList.contains 32) = false := by decide

theorem may_valid {op : Int} {k : Nat} {x : Int} (hk : k < (opsOf op).length) (h : mayB op ((opsOf op).getD k 0) x = true) : validB ((opsOf op).getD k 0) x = true := by
  rcases of_decide_eq_true h with ⟨h1, h2⟩ | h2
  · subst h1
    refine decide_eq_true (.inl ⟨?_, h2⟩)
    have h4 : (opsOf 26).length = 4 := rfl
    rw [h4] at hk
    match k, hk with
    | 0, _ => rfl
    | 1, _ => rfl
    | 2, _ => rfl
    | 3, _ => rfl
  · exact decide_eq_true (.inr h2)
theorem may_rest {op : Int} {k : Nat} {x : Int} (hk4 : k < 4) (hk : (opsOf op).length ≤ k) (h : mayB op ((opsOf op).getD k 0) x = true) : x = 0 := by
  have hg : (opsOf op).getD k 0 = 0 := by rw [List.getD_eq_getElem?_getD, List.getElem?_eq_none hk]; rfl
  rw [hg] at h
  rcases of_decide_eq_true h with ⟨h1, h2⟩ | ⟨h2, h3⟩
  · subst h1
    have h4 : (opsOf 26).length = 4 := rfl
    omega
  · have a : lowOf 0 = 0 := rfl
    have b : highOf 0 = 0 := rfl
    omega

theorem padded_eq {a b c d : Int} {L : List Int} (h : ∀ k, k < 4 → L.getD k 0 = [a, b, c, d].getD k 0) : padded L = [a, b, c, d] := by
  have h0 := h 0 (by omega)
  have h1 := h 1 (by omega)
  have h2 := h 2 (by omega)
  have h3 := h 3 (by omega)
  unfold padded
  rw [h0, h1, h2, h3]
  rfl

/-- Each instruction that may be comes of its text. -/
theorem parse_back {op a b c d : Int} (h : rightB op [a, b, c, d] = true) : parseP (textOf op [a, b, c, d]) = some (op, [a, b, c, d]) := by
  have hr := right_range h
  obtain ⟨K, rfl⟩ := Int.eq_ofNat_of_zero_le hr.1
  have hK : K < 27 := by omega
  have hname : nameOf (K : Int) = nameAt K := by rw [nameOf, if_pos hr]; rfl
  have hfew := ops_few (K : Int)
  obtain ⟨n, hn⟩ : ∃ n, (opsOf (K : Int)).length = n := ⟨_, rfl⟩
  have hval : ∀ k, k < n → numOf ((opsOf (K : Int)).getD k 0) (wordOf ((opsOf (K : Int)).getD k 0) ([a, b, c, d].getD k 0)) = some ([a, b, c, d].getD k 0) ∧ noBlank (wordOf ((opsOf (K : Int)).getD k 0) ([a, b, c, d].getD k 0)) := fun k hk => by
    have hkd := ops_kind (K : Int) k
    exact back_at hkd.1 hkd.2 (may_valid (by omega) (right_at h k (by omega)))
  have htext : textOf (K : Int) [a, b, c, d] = (nameAt K).data.toList ++ ((List.range n).map fun j => wordOf ((opsOf (K : Int)).getD j 0) ([a, b, c, d].getD j 0)).flatMap (32 :: ·) := by
    rw [textOf, if_pos h, hname, tail_flat, hn]
  have hnb : noBlank (nameAt K).data.toList := fun c hc e => by
    subst e
    have := name_noBlank K hK
    simp [hc] at this
  have hlen : n ≤ (textOf (K : Int) [a, b, c, d]).length := by
    rw [htext, List.length_append]
    have : ∀ ws : List (List UInt8), ws.length ≤ (ws.flatMap (32 :: ·)).length := by
      intro ws
      induction ws with
      | nil => simp
      | cons w ws ih => rw [List.flatMap_cons, List.length_append, List.length_cons, List.length_cons]; omega
    have := this ((List.range n).map fun j => wordOf ((opsOf (K : Int)).getD j 0) ([a, b, c, d].getD j 0))
    rw [List.length_map, List.length_range] at this
    omega
  have hws : wordsOf (textOf (K : Int) [a, b, c, d]) = (nameAt K).data.toList :: ((List.range n).map fun j => wordOf ((opsOf (K : Int)).getD j 0) ([a, b, c, d].getD j 0)) := by
    unfold wordsOf
    obtain ⟨m, hm⟩ : ∃ m, min 6 ((textOf (K : Int) [a, b, c, d]).length + 1) - 1 = m := ⟨_, rfl⟩
    have hm2 : n ≤ m := by omega
    rw [hm, htext]
    refine split_join _ _ m hnb ?_ (by simpa using hm2)
    intro w hw
    obtain ⟨j, hj, rfl⟩ := List.mem_map.1 hw
    exact (hval j (List.mem_range.1 hj)).2
  have hnm : namedOf (bs ((wordsOf (textOf (K : Int) [a, b, c, d])).getD 0 [])) = (K : Int) := by
    rw [hws, List.getD_cons_zero, str_bs, named_back K hK]
  have hna : ∀ k, k < n → numAt (K : Int) (wordsOf (textOf (K : Int) [a, b, c, d])) k = some ([a, b, c, d].getD k 0) := fun k hk => by
    unfold numAt
    rw [hws, List.getD_cons_succ]
    have : ((List.range n).map fun j => wordOf ((opsOf (K : Int)).getD j 0) ([a, b, c, d].getD j 0)).getD k [] = wordOf ((opsOf (K : Int)).getD k 0) ([a, b, c, d].getD k 0) := by
      rw [List.getD_eq_getElem?_getD, List.getElem?_map, List.getElem?_range hk]; rfl
    rw [this]
    exact (hval k hk).1
  have hnums := nums_all n hna
  have hpad : padded ((List.range n).map fun k => [a, b, c, d].getD k 0) = [a, b, c, d] := padded_eq fun k hk => by
    by_cases hkn : k < n
    · rw [List.getD_eq_getElem?_getD, List.getElem?_map, List.getElem?_range hkn]; rfl
    · have h0 := may_rest hk (by omega) (right_at h k hk)
      rw [h0, List.getD_eq_getElem?_getD, List.getElem?_map, List.getElem?_eq_none (by simp; omega)]; rfl
  have hwl : (wordsOf (textOf (K : Int) [a, b, c, d])).length - 1 = n := by rw [hws]; simp
  unfold parseP
  rw [hnm, if_neg (by rw [hwl, hn]; omega), hn, hnums]
  simp only [hpad, if_true]

theorem words_nil : wordsOf [] = [[]] := rfl

/-- What is read is an instruction that may be, of just that text. -/
theorem parse_sound {s : List UInt8} {op : Int} {l : List Int} (h : parseP s = some (op, l)) : textOf op l = s ∧ rightB op l = true ∧ ∃ L, l = padded L := by
  unfold parseP at h
  split at h
  · cases h
  · rename_i hc
    cases hx : numsUpto (numAt (namedOf (bs ((wordsOf s).getD 0 []))) (wordsOf s)) (opsOf (namedOf (bs ((wordsOf s).getD 0 [])))).length with
    | none => rw [hx] at h; cases h
    | some L =>
      rw [hx] at h
      simp only at h
      split at h
      · rename_i ht
        injection h with h
        injection h with h1 h2
        rw [h1] at ht
        subst h2
        refine ⟨ht, ?_, L, rfl⟩
        cases hr : rightB op (padded L) with
        | true => rfl
        | false =>
          exfalso
          rw [textOf, hr] at ht
          have hs : s = [] := ht.symm
          subst hs
          apply hc
          left
          rw [words_nil]
          show namedOf (bs []) < 0
          rw [named_empty]
          decide
      · cases h

end Go.Proofs.YtclkdlegogjnbaaGreatDoor

namespace Go.Proofs.YtclkdlegogjnbaaGreatDoor
open Go Go.RowKit Go.WideShapes Go.ChangeShapes
set_option linter.unusedVariables false

/-- The document's instruction in its box, and what was there. -/
structure RBox (B : Nat) (op a b c d : Int) (w0 w : World) : Prop where
  ins : Box w B 51 #[.int .i64 op, .int .i64 a, .int .i64 b, .int .i64 c, .int .i64 d]
  below : Below B w0 w
theorem RBox.up {B : Nat} {op a b c d : Int} {w0 w w' : World} (h : RBox B op a b c d w0 w) (hb : Below w.heap.size w w') : RBox B op a b c d w0 w' :=
  ⟨h.ins.below hb h.ins.lt, h.below.trans (hb.mono (Nat.le_of_lt h.ins.lt))⟩
theorem RBox.drewN {B : Nat} {op a b c d : Int} {w0 w : World} (h : RBox B op a b c d w0 w) (n : Nat) : RBox B op a b c d w0 (w.drewN n) :=
  ⟨h.ins, ⟨h.below.os, h.below.tape, h.below.output, h.below.size, h.below.block⟩⟩
theorem RBox.cell {B : Nat} {op a b c d : Int} {w0 w : World} (h : RBox B op a b c d w0 w) (k : Nat) (hk : k < 4) : w.cell? ⟨B, 1 + k, none⟩ = some (.int .i64 ([a, b, c, d].getD k 0)) := by
  rw [h.ins.cell (1 + k)]
  match k, hk with
  | 0, _ => rfl
  | 1, _ => rfl
  | 2, _ => rfl
  | 3, _ => rfl

end Go.Proofs.YtclkdlegogjnbaaGreatDoor
