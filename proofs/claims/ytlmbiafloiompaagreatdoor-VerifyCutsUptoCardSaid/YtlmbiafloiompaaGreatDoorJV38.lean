/-
  2 texts in one (AsmB IntMap). Conditions: those of each theorem.
-/
import Derived.Test.YtlmbiafloiompaaGreatDoorJV37
import Derived.Test.YtlmbiafloiompaaGreatDoorJV14
import Derived.Test.YtlmbiafloiompaaGreatDoorJV01
import Derived.Lib.IndexMore
import Derived.Lib.IndexBytes
import Derived.Test.YtlmbiafloiompaaGreatDoorProg
import Derived.Maps.OwnSet
import Derived.Maps.OwnOps
import Derived.Lib.Hide
namespace Go.Proofs.YtlmbiafloiompaaGreatDoor
open Go Go.RowKit Go.WideShapes Go.ChangeShapes
set_option linter.unusedVariables false
set_option linter.unusedSimpArgs false

theorem atois : ((List.range 1024).all fun n => (match Lib.atoiAll (Lib.itoa (n : Int)) with | .ok v => v == (n : Int) | _ => false) && rnumOf (Lib.itoa (n : Int)) == (n : Int)) = true := by decide +kernel
theorem atoi_at {n : Int} (h0 : 0 ≤ n) (h1 : n ≤ 1023) : Lib.atoiAll (Lib.itoa n) = .ok n ∧ rnumOf (Lib.itoa n) = n := by
  obtain ⟨N, rfl⟩ := Int.eq_ofNat_of_zero_le h0
  have h := List.all_eq_true.1 atois N (List.mem_range.2 (by omega))
  rw [Bool.and_eq_true] at h
  refine ⟨?_, beq_iff_eq.1 h.2⟩
  have h2 := h.1
  split at h2
  · rename_i v hv
    rw [hv, beq_iff_eq.1 h2]
  · cases h2
/-- A number's text, as Atoi and Itoa read it. -/
theorem numUpto_eq (w : List UInt8) (g : Int) (hg : g ≤ 1023) :
    numUpto w g = match Lib.atoiAll w with | .ok v => (if 0 ≤ v ∧ v ≤ g ∧ Lib.itoa v = w then some v else none) | _ => none := by
  unfold numUpto
  by_cases h : 0 ≤ rnumOf w ∧ rnumOf w ≤ g
  · rw [if_pos h]
    have hw : Lib.itoa (rnumOf w) = w := by
      have h0 := h.1
      unfold rnumOf at h0 ⊢
      split
      · rename_i hc
        rw [if_pos hc] at h0
        omega
      · rename_i hc
        rw [if_neg hc] at h0
        split
        · rename_i hd
          rw [if_pos hd] at h0
          split
          · rename_i he
            exact he
          · rename_i he
            rw [if_neg he] at h0
            omega
        · rename_i hd
          rw [if_neg hd] at h0
          omega
    have ha := (atoi_at h.1 (by omega)).1
    rw [hw] at ha
    rw [ha]
    simp only
    rw [if_pos ⟨h.1, h.2, hw⟩]
  · rw [if_neg h]
    split
    · rename_i v hv
      split
      · rename_i hc
        exfalso
        have := (atoi_at hc.1 (by omega)).2
        rw [hc.2.2] at this
        rw [this] at h
        exact h ⟨hc.1, hc.2.1⟩
      · rfl
    · rfl
theorem slash_none : ∀ {w : List UInt8}, slashAt w = none → Lib.indexByte w 47 = -1
  | [], _ => rfl
  | c :: r, h => by
    rw [slashAt] at h
    split at h
    · cases h
    · rename_i hc
      have hr : slashAt r = none := by
        cases hs : slashAt r with
        | none => rfl
        | some p => rw [hs] at h; cases h
      rw [Lib.indexByte, if_neg (by simpa using hc), slash_none hr]
      rfl
theorem slash_some : ∀ {w a d : List UInt8}, slashAt w = some (a, d) → Lib.indexByte w 47 = (a.length : Int) ∧ w = a ++ 47 :: d
  | [], _, _, h => by cases h
  | c :: r, a, d, h => by
    rw [slashAt] at h
    split at h
    · rename_i hc
      injection h with h
      injection h with h1 h2
      subst h1 h2 hc
      exact ⟨by simp [Lib.indexByte], rfl⟩
    · rename_i hc
      cases hs : slashAt r with
      | none => rw [hs] at h; cases h
      | some p =>
        obtain ⟨a', d'⟩ := p
        rw [hs] at h
        injection h with h
        injection h with h1 h2
        subst h1 h2
        obtain ⟨g1, g2⟩ := slash_some hs
        rw [Lib.indexByte, if_neg (by simpa using hc), g1]
        refine ⟨?_, by rw [g2]; rfl⟩
        rw [if_neg (by
          intro e
          have := beq_iff_eq.1 e
          omega)]
        simp
theorem cut_none {w : List UInt8} (h : slashAt w = none) : Lib.cut w [47] = (w, [], false) := by
  unfold Lib.cut
  rw [Lib.index_one, slash_none h, if_neg (by decide)]
theorem cut_some {w a d : List UInt8} (h : slashAt w = some (a, d)) : Lib.cut w [47] = (a, d, true) := by
  obtain ⟨h1, h2⟩ := slash_some h
  unfold Lib.cut
  rw [Lib.index_one, h1, if_pos (by omega)]
  subst h2
  simp

theorem isNamed_any (kind : Int) (s : ByteArray) (w : World) :
    Calls Tryz.prog 81 #[.int .i64 kind, .string s] w fun e w' => e = .returned (.bool (isNamedB kind s.data.toList)) ∧ w = w' := by
  by_cases h3 : kind = 3
  · subst h3
    go_enter Tryz.func81, Tryz.ntmps81
    go_wp2
    go_ret
    exact ⟨rfl, rfl⟩
  by_cases h4 : kind = 4
  · subst h4
    go_enter Tryz.func81, Tryz.ntmps81
    go_wp2
    go_ret
    exact ⟨rfl, rfl⟩
  by_cases h7 : kind = 7
  · subst h7
    go_enter Tryz.func81, Tryz.ntmps81
    go_wp2
    go_ret
    exact ⟨rfl, rfl⟩
  by_cases h8 : kind = 8
  · subst h8
    by_cases hs : s = ⟨#[45]⟩
    · subst hs
      go_enter Tryz.func81, Tryz.ntmps81
      go_wp2
      go_ret
      exact ⟨rfl, rfl⟩
    · have hX : Hid (isNamedB 8 s.data.toList = true) := Lib.hid (decide_eq_true (.inr (.inr (.inr ⟨rfl, fun e => hs (ByteArray.ext (Array.ext' e))⟩))))
      have e45 : (⟨#[45]⟩ : ByteArray).toList = [45] := by rw [ByteArray.toList_eq]
      have hn : (s.toList == [45]) = false := by rw [← e45]; exact ne_strs hs
      have hn2 : (s.toList != [45]) = true := by rw [bne, hn]; rfl
      have hn3 : (s.toList == (⟨#[45]⟩ : ByteArray).toList) = false := ne_strs hs
      have hn4 : (s.toList != (⟨#[45]⟩ : ByteArray).toList) = true := by rw [bne, hn3]; rfl
      clear hs e45
      go_enter Tryz.func81, Tryz.ntmps81
      go_wp2
      go_ret
      exact ⟨by rw [hX.out]; rfl, rfl⟩
  have hX : Hid (isNamedB kind s.data.toList = false) := Lib.hid (decide_eq_false (by
    rintro (h | h | h | ⟨h, _⟩)
    · exact h3 h
    · exact h4 h
    · exact h7 h
    · exact h8 h))
  have e3 : (kind == 3) = false := by simpa using h3
  have e4 : (kind == 4) = false := by simpa using h4
  have e7 : (kind == 7) = false := by simpa using h7
  have e8 : (kind == 8) = false := by simpa using h8
  clear h3 h4 h7 h8
  go_enter Tryz.func81, Tryz.ntmps81
  go_wp2
  go_ret
  exact ⟨by rw [hX.out]; rfl, rfl⟩

/-- A number, or that there is none. -/
def OptNum (w : World) (r : Option Int) (e : Ending) (w' : World) : Prop := e = .returned (.tuple #[.int .i64 (r.getD 0), .bool r.isSome]) ∧ Below w.heap.size w w'

set_option maxHeartbeats 1000000 in
theorem readNumber_any (s : ByteArray) (hs : s.size ≤ 1048576) (g : Int) (hg : g ≤ 1023) (w : World) {B : Nat} (hp : LaidC B w) :
    Calls Tryz.prog 105 #[.string s, .int .i64 g] w (OptNum w (numUpto s.data.toList g)) := by
  unfold OptNum
  have HX := Lib.hid (numUpto_eq s.data.toList g hg)
  have HP := Lib.hid hp
  by_cases hok : ∃ v, Lib.atoiAll s.data.toList = .ok v
  case neg =>
    have hbad : ∀ v, Lib.atoiAll s.data.toList ≠ .ok v := fun v h => hok ⟨v, h⟩
    have HY : Hid (numUpto s.data.toList g = none) := Lib.hid (by
      rw [HX.out]
      split
      · rename_i v hv
        exact absurd hv (hbad v)
      · rfl)
    have HA := Lib.hid (fun w h => atoi_badL s (by omega) hbad w (B := B) h)
    clear hok hbad hp
    go_enter Tryz.func105, Tryz.ntmps105
    go_wp2_with (go_at_call 133; refine (HA.out _ HP.out).mono ?_; rintro e w2 ⟨v, N, rfl, hb⟩; have HB := Lib.hid hb; clear hb)
    go_ret2
    exact ⟨by rw [HY.out]; rfl, HB.out⟩
  case pos =>
  obtain ⟨v, hv⟩ := hok
  have HA := Lib.hid (fun w => Tryz.strconv_Atoi_ok s (by omega) v hv w)
  have HY : Hid (numUpto s.data.toList g = if 0 ≤ v ∧ v ≤ g ∧ Lib.itoa v = s.data.toList then some v else none) := Lib.hid (by rw [HX.out, hv])
  clear hv hp
  by_cases h0 : v < 0
  · have HZ : Hid (numUpto s.data.toList g = none) := Lib.hid (by rw [HY.out, if_neg (fun e => by omega)])
    go_enter Tryz.func105, Tryz.ntmps105
    go_wp2_with (go_at_call 133; refine (HA.out _).mono ?_; rintro e w2 ⟨rfl, hw2⟩; have HB := Lib.hid (atoi_below hw2); clear hw2)
    go_ret2
    exact ⟨by rw [HZ.out]; rfl, HB.out⟩
  by_cases h1 : g < v
  · have HZ : Hid (numUpto s.data.toList g = none) := Lib.hid (by rw [HY.out, if_neg (fun e => by omega)])
    go_enter Tryz.func105, Tryz.ntmps105
    go_wp2_with (go_at_call 133; refine (HA.out _).mono ?_; rintro e w2 ⟨rfl, hw2⟩; have HB := Lib.hid (atoi_below hw2); clear hw2)
    go_ret2
    exact ⟨by rw [HZ.out]; rfl, HB.out⟩
  have HI := Lib.hid (fun w h => itoa_any v (by omega) (by omega) w (B := B) h)
  by_cases he : Lib.itoa v = s.data.toList
  · have HZ : Hid (numUpto s.data.toList g = some v) := Lib.hid (by rw [HY.out, if_pos ⟨by omega, by omega, he⟩])
    have e1 : bs (Lib.itoa v) = s := by rw [he, str_bs]
    rw [e1] at HI
    clear he e1
    go_enter Tryz.func105, Tryz.ntmps105
    go_wp2_with (first
      | (go_at_call 133; refine (HA.out _).mono ?_; rintro e w2 ⟨rfl, hw2⟩; have HB := Lib.hid (atoi_below hw2); clear hw2)
      | (go_at_call 134; refine (HI.out _ (HP.out.up HB.out)).mono ?_; rintro e w3 ⟨rfl, hb3⟩; have HB3 := Lib.hid (HB.out.trans (hb3.mono HB.out.size)); clear hb3))
    go_ret2
    exact ⟨by rw [HZ.out]; rfl, HB3.out⟩
  · have HZ : Hid (numUpto s.data.toList g = none) := Lib.hid (by rw [HY.out, if_neg (fun e => he e.2.2)])
    have hn : ((bs (Lib.itoa v)).toList == s.toList) = false := ne_strs (fun e => he (by rw [← bs_data (Lib.itoa v), e]))
    have hn2 : ((bs (Lib.itoa v)).toList != s.toList) = true := by rw [bne, hn]; rfl
    generalize bs (Lib.itoa v) = t at HI hn hn2
    clear he
    go_enter Tryz.func105, Tryz.ntmps105
    go_wp2_with (first
      | (go_at_call 133; refine (HA.out _).mono ?_; rintro e w2 ⟨rfl, hw2⟩; have HB := Lib.hid (atoi_below hw2); clear hw2)
      | (go_at_call 134; refine (HI.out _ (HP.out.up HB.out)).mono ?_; rintro e w3 ⟨rfl, hb3⟩; have HB3 := Lib.hid (HB.out.trans (hb3.mono HB.out.size)); clear hb3))
    go_ret2
    exact ⟨by rw [HZ.out]; rfl, HB3.out⟩

theorem label_yes {w : List UInt8} (h : Lib.hasPrefix w [64] = true) : labelOf w = numUpto (Lib.trimPrefix w [64]) 1023 := by
  unfold Lib.trimPrefix
  rw [if_pos h]
  cases w with
  | nil => cases h
  | cons c d =>
    have hc : c = 64 := by
      unfold Lib.hasPrefix at h
      simp [List.isPrefixOf] at h
      exact h.symm
    subst hc
    rfl
theorem label_no {w : List UInt8} (h : Lib.hasPrefix w [64] = false) : labelOf w = none := by
  cases w with
  | nil => rfl
  | cons c d =>
    have hc : c ≠ 64 := fun e => by
      subst e
      unfold Lib.hasPrefix at h
      simp [List.isPrefixOf] at h
    unfold labelOf
    split
    · rename_i d' he
      injection he with he _
      exact absurd he hc
    · rfl
theorem readLabel_any (s : ByteArray) (hs : s.size ≤ 1048576) (w : World) {B : Nat} (hp : LaidC B w) :
    Calls Tryz.prog 77 #[.string s] w (OptNum w (labelOf s.data.toList)) := by
  unfold OptNum
  have HC := Lib.hid (fun w => Tryz.strings_CutPrefix s ⟨#[64]⟩ w)
  cases h : Lib.hasPrefix s.data.toList [64] with
  | false =>
    have HX := Lib.hid (label_no h)
    have h' : Lib.hasPrefix s.data.toList (⟨#[64]⟩ : ByteArray).data.toList = false := h
    rw [h'] at HC
    clear h h'
    go_enter Tryz.func77, Tryz.ntmps77
    go_wp2_with (go_at_call 36; refine (HC.out _).mono ?_; rintro e w' ⟨rfl, rfl⟩)
    go_ret2
    exact ⟨by rw [HX.out]; rfl, Below.refl _ _⟩
  | true =>
    have HX := Lib.hid (label_yes h)
    have h' : Lib.hasPrefix s.data.toList (⟨#[64]⟩ : ByteArray).data.toList = true := h
    have ht : (Lib.trimPrefix s.data.toList [64]).length ≤ 1048576 := by
      unfold Lib.trimPrefix
      have h1 : s.data.toList.length = s.size := by rw [Array.length_toList]; rfl
      have h2 : (s.data.toList.drop [(64 : UInt8)].length).length ≤ s.data.toList.length := by rw [List.length_drop]; omega
      split
      · exact Nat.le_trans h2 (by omega)
      · omega
    rw [h'] at HC
    have HC2 : Hid (∀ w : World, Calls Tryz.prog 36 #[.string s, .string ⟨#[64]⟩] w fun e w' => e = .returned (.tuple #[.string (bs (Lib.trimPrefix s.data.toList [64])), .bool true]) ∧ w' = w) := HC
    have HR := Lib.hid (readNumber_any (bs (Lib.trimPrefix s.data.toList [64])) (by rw [bs_size]; exact ht) 1023 (by decide) w hp)
    unfold OptNum at HR
    rw [bs_data, ← HX.out] at HR
    generalize labelOf s.data.toList = r at HR
    generalize bs (Lib.trimPrefix s.data.toList [64]) = t at HR HC2
    clear h h' ht HC HX
    go_enter Tryz.func77, Tryz.ntmps77
    go_wp2_with (first
      | (go_at_call 36; refine (HC2.out _).mono ?_; rintro e w' ⟨rfl, rfl⟩)
      | (go_at_call 105; refine HR.out.mono ?_; rintro e w3 ⟨rfl, hb3⟩; have HB3 := Lib.hid hb3; clear hb3))
    go_ret2
    exact ⟨rfl, HB3.out⟩

/-- A Fun, or that there is none. -/
def OptFun (w : World) (r : Option (ByteArray × Int)) (e : Ending) (w' : World) : Prop := e = .returned (.tuple #[.agg #[.string (r.getD (⟨#[]⟩, 0)).1, .int .i64 (r.getD (⟨#[]⟩, 0)).2], .bool r.isSome]) ∧ Below w.heap.size w w'

theorem LaidC.drewN {B : Nat} {w : World} (h : LaidC B w) (n : Nat) : LaidC B (w.drewN n) := h.up ⟨rfl, rfl, rfl, Nat.le_refl _, fun _ _ => rfl⟩
theorem ret_store2 {P : Program} {fn : Func} {Q : Ending → World → Prop} {T : Array Value} {w2 : World} {G : Nat} {t : TypeId} {z0 z1 a b x : Value} (hb : Box w2 G t #[z0, z1])
    (hres : ∀ W : World, W.cell? ⟨G, 0, none⟩ = some a → W.cell? ⟨G, 1, none⟩ = some b → (results fn T).run P W = .ok (.tuple #[.agg #[a, b], x]) W)
    (hQ : ∀ W : World, Box W G t #[a, b] → Fr (fun k => k = G) w2 W → Q (.returned (.tuple #[.agg #[a, b], x])) W) :
    bodyPost P fn Q .ret { tmps := T, defers := [] } ((w2.setCell ⟨G, 0, none⟩ a).setCell ⟨G, 1, none⟩ b) := by
  have h4 : Box ((w2.setCell ⟨G, 0, none⟩ a).setCell ⟨G, 1, none⟩ b) G t #[a, b] := by
    have := (hb.set_ 0 a).set_ 1 b
    simpa using this
  have hf : Fr (fun k => k = G) w2 ((w2.setCell ⟨G, 0, none⟩ a).setCell ⟨G, 1, none⟩ b) :=
    ((Fr.refl (fun b => b = G) w2).setCell (p := ⟨G, 0, none⟩) (.inl rfl) _).setCell (p := ⟨G, 1, none⟩) (.inl rfl) _
  exact bodyPost_ret (hres _ (h4.cell 0) (h4.cell 1)) rfl (hQ _ h4 hf)
theorem funOf_cut (w : List UInt8) (g : Int) : funOf w g = match numUpto (Lib.cut w [47]).2.1 8 with
    | none => none
    | some n => if g ≤ n ∧ nameOk (bs (Lib.cut w [47]).1) = true then some (bs (Lib.cut w [47]).1, n) else none := by
  unfold funOf
  cases h : slashAt w with
  | none =>
    rw [cut_none h]
    rfl
  | some p =>
    obtain ⟨a, d⟩ := p
    rw [cut_some h]
    rfl
theorem cut_len (w : List UInt8) : (Lib.cut w [47]).1.length ≤ w.length ∧ (Lib.cut w [47]).2.1.length ≤ w.length := by
  cases h : slashAt w with
  | none =>
    rw [cut_none h]
    exact ⟨Nat.le_refl _, Nat.zero_le _⟩
  | some p =>
    obtain ⟨a, d⟩ := p
    rw [cut_some h]
    have := (slash_some h).2
    rw [this, List.length_append, List.length_cons]
    constructor <;> simp <;> omega
set_option maxHeartbeats 2000000 in
theorem readFun_any (s : ByteArray) (hs : s.size ≤ 1048576) (g : Int) (w : World) {B : Nat} (hp : LaidC B w) :
    Calls Tryz.prog 74 #[.string s, .int .i64 g] w (OptFun w (funOf s.data.toList g)) := by
  unfold OptFun
  obtain ⟨ml, hml⟩ := hp.len
  have hb0 := alloc_below w (.cells #[.string ⟨#[]⟩, .int .i64 0] 61)
  have hsz : s.data.toList.length = s.size := by rw [Array.length_toList]; rfl
  have hcl := cut_len s.data.toList
  have HF := Lib.hid (funOf_cut s.data.toList g)
  have HC := Tryz.strings_Cut s ⟨#[47]⟩ ml (w.alloc (.cells #[.string ⟨#[]⟩, .int .i64 0] 61)) (by omega) ((hb0.cell (p := ⟨1, 0, none⟩) (Nat.lt_of_lt_of_le hp.low.2.2.2 hp.size)).trans hml)
  have HC2 : Hid (Calls Tryz.prog 104 #[.string s, .string ⟨#[47]⟩] (w.alloc (.cells #[.string ⟨#[]⟩, .int .i64 0] 61)) fun e w' => e = .returned (.tuple #[.string (bs (Lib.cut s.data.toList [47]).1), .string (bs (Lib.cut s.data.toList [47]).2.1), .bool (Lib.cut s.data.toList [47]).2.2]) ∧ ∃ n, w' = (w.alloc (.cells #[.string ⟨#[]⟩, .int .i64 0] 61)).drewN n) := Lib.hid HC
  have HB0 := Lib.hid hb0
  have HP0 := Lib.hid (hp.up hb0)
  have HBX := Lib.hid (Box.new w 61 #[.string ⟨#[]⟩, .int .i64 0])
  have h1 : (bs (Lib.cut s.data.toList [47]).1).size ≤ maxLen := by rw [bs_size]; unfold maxLen; omega
  have h2 : (bs (Lib.cut s.data.toList [47]).2.1).size ≤ 1048576 := by rw [bs_size]; omega
  have HN := Lib.hid (fun w h => readNumber_any (bs (Lib.cut s.data.toList [47]).2.1) h2 8 (by decide) w (B := B) h)
  unfold OptNum at HN
  rw [bs_data] at HN
  have HT := Lib.hid (fun w => tName_any (bs (Lib.cut s.data.toList [47]).1) w h1)
  generalize funOf s.data.toList g = r at HF
  generalize numUpto (Lib.cut s.data.toList [47]).2.1 8 = rn at HF HN
  generalize bs (Lib.cut s.data.toList [47]).1 = ta at HF HC2 HT
  generalize bs (Lib.cut s.data.toList [47]).2.1 = td at HC2 HN
  generalize (Lib.cut s.data.toList [47]).2.2 = tb at HC2
  clear HC hb0 hsz hcl h1 h2 hml hp
  cases rn with
  | none =>
    have HX : Hid (r = none) := HF
    go_enter Tryz.func74, Tryz.ntmps74
    go_upto_region 2 with (go_at_call 104; refine HC2.out.mono ?_; rintro e w2 ⟨rfl, n2, rfl⟩)
    go_upto_region 3 with (go_at_call 105; refine (HN.out _ (HP0.out.drewN n2)).mono ?_; rintro e w3 ⟨rfl, hb3⟩; have HB3 := Lib.hid ((bel_drewN HB0.out n2).trans (hb3.mono HB0.out.size)); have hx3 := (HBX.out.drewN n2).below hb3 HBX.out.lt; have f0 := hx3.cell 0; have f1 := hx3.cell 1; have z0 := hx3.frozen 0; have z1 := hx3.frozen 1; have HX3 := Lib.hid hx3; clear hb3 hx3)
    go_wp2_with (go_at_call 85; refine (HT.out _).mono ?_; rintro e w4 ⟨rfl, rfl⟩)
    refine ret_store2 (x := .bool false) HX3.out (by intro W c0 c1; simp [results, Tryz.results74, go_sem, c0, c1]) ?_
    intro W hW hF
    exact ⟨by rw [HX.out]; rfl, HB3.out.trans (hF.below HB3.out.size (fun k hk => by omega))⟩
  | some n =>
  have HF2 : Hid (r = if g ≤ n ∧ nameOk ta = true then some (ta, n) else none) := HF
  by_cases h0 : n < g
  · have HX : Hid (r = none) := Lib.hid (by rw [HF2.out, if_neg (fun e => by omega)])
    go_enter Tryz.func74, Tryz.ntmps74
    go_upto_region 2 with (go_at_call 104; refine HC2.out.mono ?_; rintro e w2 ⟨rfl, n2, rfl⟩)
    go_upto_region 3 with (go_at_call 105; refine (HN.out _ (HP0.out.drewN n2)).mono ?_; rintro e w3 ⟨rfl, hb3⟩; have HB3 := Lib.hid ((bel_drewN HB0.out n2).trans (hb3.mono HB0.out.size)); have hx3 := (HBX.out.drewN n2).below hb3 HBX.out.lt; have f0 := hx3.cell 0; have f1 := hx3.cell 1; have z0 := hx3.frozen 0; have z1 := hx3.frozen 1; have HX3 := Lib.hid hx3; clear hb3 hx3)
    go_wp2_with (go_at_call 85; refine (HT.out _).mono ?_; rintro e w4 ⟨rfl, rfl⟩)
    refine ret_store2 (x := .bool false) HX3.out (by intro W c0 c1; simp [results, Tryz.results74, go_sem, c0, c1]) ?_
    intro W hW hF
    exact ⟨by rw [HX.out]; rfl, HB3.out.trans (hF.below HB3.out.size (fun k hk => by omega))⟩
  cases hn : nameOk ta with
  | false =>
    have HX : Hid (r = none) := Lib.hid (by rw [HF2.out, hn, if_neg (by simp)])
    rw [hn] at HT
    clear hn
    go_enter Tryz.func74, Tryz.ntmps74
    go_upto_region 2 with (go_at_call 104; refine HC2.out.mono ?_; rintro e w2 ⟨rfl, n2, rfl⟩)
    go_upto_region 3 with (go_at_call 105; refine (HN.out _ (HP0.out.drewN n2)).mono ?_; rintro e w3 ⟨rfl, hb3⟩; have HB3 := Lib.hid ((bel_drewN HB0.out n2).trans (hb3.mono HB0.out.size)); have hx3 := (HBX.out.drewN n2).below hb3 HBX.out.lt; have f0 := hx3.cell 0; have f1 := hx3.cell 1; have z0 := hx3.frozen 0; have z1 := hx3.frozen 1; have HX3 := Lib.hid hx3; clear hb3 hx3)
    go_wp2_with (go_at_call 85; refine (HT.out _).mono ?_; rintro e w4 ⟨rfl, rfl⟩)
    refine ret_store2 (x := .bool false) HX3.out (by intro W c0 c1; simp [results, Tryz.results74, go_sem, c0, c1]) ?_
    intro W hW hF
    exact ⟨by rw [HX.out]; rfl, HB3.out.trans (hF.below HB3.out.size (fun k hk => by omega))⟩
  | true =>
    have HX : Hid (r = some (ta, n)) := Lib.hid (by rw [HF2.out, hn, if_pos ⟨by omega, rfl⟩])
    rw [hn] at HT
    clear hn
    go_enter Tryz.func74, Tryz.ntmps74
    go_upto_region 2 with (go_at_call 104; refine HC2.out.mono ?_; rintro e w2 ⟨rfl, n2, rfl⟩)
    go_upto_region 3 with (go_at_call 105; refine (HN.out _ (HP0.out.drewN n2)).mono ?_; rintro e w3 ⟨rfl, hb3⟩; have HB3 := Lib.hid ((bel_drewN HB0.out n2).trans (hb3.mono HB0.out.size)); have hx3 := (HBX.out.drewN n2).below hb3 HBX.out.lt; have f0 := hx3.cell 0; have f1 := hx3.cell 1; have z0 := hx3.frozen 0; have z1 := hx3.frozen 1; have HX3 := Lib.hid hx3; clear hb3 hx3)
    go_wp2_with (go_at_call 85; refine (HT.out _).mono ?_; rintro e w4 ⟨rfl, rfl⟩)
    refine ret_store2 (x := .bool true) HX3.out (by intro W c0 c1; simp [results, Tryz.results74, go_sem, c0, c1]) ?_
    intro W hW hF
    exact ⟨by rw [HX.out]; rfl, HB3.out.trans (hF.below HB3.out.size (fun k hk => by omega))⟩

end Go.Proofs.YtlmbiafloiompaaGreatDoor

namespace Go.Proofs.YtlmbiafloiompaaGreatDoor
open Go Go.RowKit Go.WideShapes Go.ChangeShapes Go.Maps
set_option linter.unusedVariables false
set_option linter.unusedSimpArgs false

theorem imInt : Tryz.prog.underlying 3 = some (.int .i64) := by kernel_rfl
theorem imMap : Tryz.prog.underlying 76 = some (.map 3 3) := by kernel_rfl
theorem imZero (w : World) : (zeroValue 3).run Tryz.prog w = .ok (.int .i64 0) w := by kernel_rfl

/-- The map in block M reads as f; it has n entries at most. -/
def IMap (w : World) (M n : Nat) (f : Int → Option Int) : Prop :=
  ∃ D : DataW Unit, w.ownsMap Tryz.prog 3 (plainElem Tryz.prog 3) M n D ∧ IsMap D ∧ ∀ k z, D.atKey (.int .i64 k) z = match f k with | none => z | some v => .lit (.int .i64 v)
theorem IMap.lt {w : World} {M n : Nat} {f : Int → Option Int} (h : IMap w M n f) : M < w.heap.size := by
  obtain ⟨D, h1, _⟩ := h
  exact h1.lt
theorem IMap.new (w : World) : IMap (w.alloc (.map #[] 0)) w.heap.size 0 (fun _ => none) :=
  ⟨_, World.ownsMap_made w _ _ _, isMap_empty, fun k z => rfl⟩
theorem IMap.fr {S : Nat → Prop} {w w' : World} {M n : Nat} {f : Int → Option Int} (h : IMap w M n f) (hf : Fr S w w') (hM : ¬ S M) : IMap w' M n f := by
  obtain ⟨D, ⟨es, cl, hm, F1, F2, F3⟩, h2, h3⟩ := h
  exact ⟨D, ⟨es, cl, (hf.block M (Array.getElem?_eq_some_iff.1 hm).1 hM).trans hm, F1, F2, F3⟩, h2, h3⟩
theorem IMap.below {w w' : World} {M n : Nat} {f : Int → Option Int} (h : IMap w M n f) (hb : Below w.heap.size w w') : IMap w' M n f := h.fr (S := fun _ => False) (Fr.of_below hb) (fun x => x)
/-- A map's block is no row of cells. -/
theorem IMap.ne_box {w : World} {M n : Nat} {f : Int → Option Int} (h : IMap w M n f) {g : Nat} {t : TypeId} {cs : Array Value} (hb : Box w g t cs) : M ≠ g := by
  rintro rfl
  obtain ⟨D, ⟨es, cl, hm, _⟩, _⟩ := h
  unfold Box at hb
  rw [hb] at hm
  simp at hm
theorem IMap.ne_own {w : World} {M n : Nat} {f : Int → Option Int} (h : IMap w M n f) {base : Nat} {e : TypeId} {size m : Nat} {v : Value} {xs : List Value} (ho : w.ownsRow base e size v m xs) : ∀ k, v.ownBlock = some k → k ≠ M := by
  rintro k hk rfl
  obtain ⟨D, ⟨es, cl, hm, _⟩, _⟩ := h
  rcases ho.2 with ⟨rfl, _⟩ | ⟨g, cap, cur, rfl, _, hh, _⟩
  · simp [Value.ownBlock] at hk
  · have : g = k := by simpa [Value.ownBlock] using hk
    subst this
    rw [hh] at hm
    simp at hm
/-- What a lookup with 'ok' answers. -/
theorem IMap.look2 {w : World} {M n : Nat} {f : Int → Option Int} (h : IMap w M n f) (k : Int) (hk : (Lit.int .i64 k).wf = true) :
    (Instr.lookup 76 (.map (some M)) (.int .i64 k) true).run Tryz.prog w = .ok (.tuple #[.int .i64 ((f k).getD 0), .bool (f k).isSome]) w := by
  obtain ⟨D, ⟨es, cl, hm, F, _, rfl⟩, _, h3⟩ := h
  rcases Maps.fit_look true (int_keyed imInt) imMap (imZero w) hm F (keyOf_int_mk imInt hk) with ⟨hrun, _, hat⟩ | ⟨e0, y, _, _, hrun, hR, hat, _⟩
  · have hf : f k = none := by
      cases hf : f k with
      | none => rfl
      | some v =>
        have := (hat .nil).symm.trans (h3 k .nil)
        rw [hf] at this
        cases this
    rw [hrun, hf]
    rfl
  · have hy := plainElem_int_inv imInt hR
    obtain ⟨a, ha, rfl, _⟩ := hy
    have hf : f k = some a := by
      have h1 := (hat .nil).symm.trans (h3 k .nil)
      cases hf : f k with
      | none => rw [hf] at h1; cases h1
      | some v =>
        rw [hf] at h1
        have h2 : a = v := by simpa using h1
        rw [h2]
    rw [hrun, ha, hf]
    rfl
/-- What a lookup answers. -/
theorem IMap.look {w : World} {M n : Nat} {f : Int → Option Int} (h : IMap w M n f) (k : Int) (hk : (Lit.int .i64 k).wf = true) :
    (Instr.lookup 76 (.map (some M)) (.int .i64 k) false).run Tryz.prog w = .ok (.int .i64 ((f k).getD 0)) w := by
  obtain ⟨D, ⟨es, cl, hm, F, _, rfl⟩, _, h3⟩ := h
  rcases Maps.fit_look false (int_keyed imInt) imMap (imZero w) hm F (keyOf_int_mk imInt hk) with ⟨hrun, _, hat⟩ | ⟨e0, y, _, _, hrun, hR, hat, _⟩
  · have hf : f k = none := by
      cases hf : f k with
      | none => rfl
      | some v =>
        have := (hat .nil).symm.trans (h3 k .nil)
        rw [hf] at this
        cases this
    rw [hrun, hf]
    rfl
  · have hy := plainElem_int_inv imInt hR
    obtain ⟨a, ha, rfl, _⟩ := hy
    have hf : f k = some a := by
      have h1 := (hat .nil).symm.trans (h3 k .nil)
      cases hf : f k with
      | none => rw [hf] at h1; cases h1
      | some v =>
        rw [hf] at h1
        have h2 : a = v := by simpa using h1
        rw [h2]
    rw [hrun, ha, hf]
    rfl
/-- A store. -/
theorem IMap.store {w : World} {M n : Nat} {f : Int → Option Int} (h : IMap w M n f) (k v : Int) (hk : (Lit.int .i64 k).wf = true) (hv : (Lit.int .i64 v).wf = true) (hn : n < maxLen) :
    ∃ w', (Instr.mapUpdate 76 (.map (some M)) (.int .i64 k) (.int .i64 v)).run Tryz.prog w = .ok () w' ∧ IMap w' M (n + 1) (fun j => if j = k then some v else f j) ∧ Fr (fun b => b = M) w w' := by
  obtain ⟨D, h1, h2, h3⟩ := h
  obtain ⟨w', hrun, r1, r2⟩ := h1.update (int_keyed imInt) imMap hn (keyOf_int_mk imInt hk) (plainElem_int imInt hv)
  refine ⟨w', hrun, ⟨_, r1, h2.put _ _, fun j z => ?_⟩, Fr.of_grown r2 (fun _ _ e => (Option.some.inj e).symm)⟩
  by_cases hj : j = k
  · subst hj
    rw [atKey_put_same h2 (show WideAt.IsKeyLit (Lit.int .i64 j) from trivial)]
    simp
  · rw [atKey_put_other (by intro e; injection e with _ e; exact hj e), h3 j z]
    simp [hj]
theorem wfI {k : Int} (h0 : -9223372036854775808 ≤ k) (h1 : k ≤ 9223372036854775807) : (Lit.int .i64 k).wf = true := by
  simp [Lit.wf, IntKind.min, IntKind.max, IntKind.signed, IntKind.bits]
  omega

end Go.Proofs.YtlmbiafloiompaaGreatDoor
