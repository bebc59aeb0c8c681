/-
  3 texts in one (AsmB ObjY ObjYB). Conditions: those of each theorem.
-/
import Derived.Test.YtclkdlegogjnbaaGreatDoorR14
import Derived.Test.YtclkdlegogjnbaaGreatDoorR13
import Derived.Test.YtclkdlegogjnbaaGreatDoorR01
import Derived.Lib.IndexMore
import Derived.Lib.IndexBytes
import Derived.Test.YtclkdlegogjnbaaGreatDoorR11
import Derived.Shelf.Abstract
namespace Go.Proofs.YtclkdlegogjnbaaGreatDoor
open Go Go.RowKit Go.WideShapes Go.ChangeShapes
set_option linter.unusedVariables false
set_option linter.unusedSimpArgs false
theorem atois : ((List.range 1024).all fun n => (match Lib.atoiAll (Lib.itoa (n : Int)) with | .ok v => v == (n : Int) | _ => false) && rnumOf (Lib.itoa (n : Int)) == (n : Int)) = true := by decide +kernel
theorem atoi_at {n : Int} (h0 : 0 ≤ n) (h1 : n ≤ 1023) : Lib.atoiAll (Lib.itoa n) = .ok n ∧ rnumOf (Lib.itoa n) = n := by
 obtain ⟨N, rfl⟩ := Int.eq_ofNat_of_zero_le h0
 have h := List.all_eq_true.1 atois N (List.mem_range.2 (by omega))
 rw [Bool.and_eq_true] at h
 refine ⟨?_, beq_iff_eq.1 h.2⟩
 have h2 := h.1
 split at h2
 ·rename_i v hv
  rw [hv, beq_iff_eq.1 h2]
 ·cases h2
theorem numUpto_eq (w : List UInt8) (g : Int) (hg : g ≤ 1023) :
  numUpto w g = match Lib.atoiAll w with | .ok v => (if 0 ≤ v ∧ v ≤ g ∧ Lib.itoa v = w then some v else none) | _ => none := by
 unfold numUpto
 by_cases h : 0 ≤ rnumOf w ∧ rnumOf w ≤ g
 ·rw [if_pos h]
  have hw : Lib.itoa (rnumOf w) = w := by
   have h0 := h.1
   unfold rnumOf at h0 ⊢
   split
   ·rename_i hc
    rw [if_pos hc] at h0
    omega
   ·rename_i hc
    rw [if_neg hc] at h0
    split
    ·rename_i hd
     rw [if_pos hd] at h0
     split
     ·rename_i he
      exact he
     ·rename_i he
      rw [if_neg he] at h0
      omega
    ·rename_i hd
     rw [if_neg hd] at h0
     omega
  have ha := (atoi_at h.1 (by omega)).1
  rw [hw] at ha
  rw [ha]
  simp only
  rw [if_pos ⟨h.1, h.2, hw⟩]
 ·rw [if_neg h]
  split
  ·rename_i v hv
   split
   ·rename_i hc
    exfalso
    have := (atoi_at hc.1 (by omega)).2
    rw [hc.2.2] at this
    rw [this] at h
    exact h ⟨hc.1, hc.2.1⟩
   ·rfl
  ·rfl
theorem slash_none : ∀ {w : List UInt8}, slashAt w = none → Lib.indexByte w 47 = -1
 | [], _ => rfl
 | c :: r, h => by
  rw [slashAt] at h
  split at h
  ·cases h
  ·rename_i hc
   have hr : slashAt r = none := by
    cases hs : slashAt r with
    | none => rfl
    | some p => rw [hs] at h; cases h
   rw [Lib.indexByte, if_neg (by simpa using hc), slash_none hr]
   rfl
theorem slash_some : ∀ {w a d : List UInt8}, slashAt w = some (a, d) → Lib.indexByte w 47 = (a.length : Int) ∧ w = a ++ 47 :: d
 | [], _, _, h => by cases h
 | c :: r, a, d, h => by
  rw [slashAt] at h
  split at h
  ·rename_i hc
   injection h with h
   injection h with h1 h2
   subst h1 h2 hc
   exact ⟨by simp [Lib.indexByte], rfl⟩
  ·rename_i hc
   cases hs : slashAt r with
   | none => rw [hs] at h; cases h
   | some p =>
    obtain ⟨a', d'⟩ := p
    rw [hs] at h
    injection h with h
    injection h with h1 h2
    subst h1 h2
    obtain ⟨g1, g2⟩ := slash_some hs
    rw [Lib.indexByte, if_neg (by simpa using hc), g1]
    refine ⟨?_, by rw [g2]; rfl⟩
    rw [if_neg (by
     intro e
     have := beq_iff_eq.1 e
     omega)]
    simp
theorem cut_none {w : List UInt8} (h : slashAt w = none) : Lib.cut w [47] = (w, [], false) := by
 unfold Lib.cut
 rw [Lib.index_one, slash_none h, if_neg (by decide)]
theorem cut_some {w a d : List UInt8} (h : slashAt w = some (a, d)) : Lib.cut w [47] = (a, d, true) := by
 obtain ⟨h1, h2⟩ := slash_some h
 unfold Lib.cut
 rw [Lib.index_one, h1, if_pos (by omega)]
 subst h2
 simp
theorem isNamed_any (kind : Int) (s : ByteArray) (w : World) :
  Calls Tryz.prog 71 #[.int .i64 kind, .string s] w fun e w' => e = .returned (.bool (isNamedB kind s.data.toList)) ∧ w = w' := by
 by_cases h3 : kind = 3
 ·subst h3
  go_enter Tryz.func71, Tryz.ntmps71
  go_wp2
  go_ret
  exact ⟨rfl, rfl⟩
 by_cases h4 : kind = 4
 ·subst h4
  go_enter Tryz.func71, Tryz.ntmps71
  go_wp2
  go_ret
  exact ⟨rfl, rfl⟩
 by_cases h7 : kind = 7
 ·subst h7
  go_enter Tryz.func71, Tryz.ntmps71
  go_wp2
  go_ret
  exact ⟨rfl, rfl⟩
 by_cases h8 : kind = 8
 ·subst h8
  by_cases hs : s = ⟨#[45]⟩
  ·subst hs
   go_enter Tryz.func71, Tryz.ntmps71
   go_wp2
   go_ret
   exact ⟨rfl, rfl⟩
  ·have hX : Hid (isNamedB 8 s.data.toList = true) := Lib.hid (decide_eq_true (.inr (.inr (.inr ⟨rfl, fun e => hs (ByteArray.ext (Array.ext' e))⟩))))
   have e45 : (⟨#[45]⟩ : ByteArray).toList = [45] := by rw [ByteArray.toList_eq]
   have hn : (s.toList == [45]) = false := by rw [← e45]; exact ne_strs hs
   have hn2 : (s.toList != [45]) = true := by rw [bne, hn]; rfl
   have hn3 : (s.toList == (⟨#[45]⟩ : ByteArray).toList) = false := ne_strs hs
   have hn4 : (s.toList != (⟨#[45]⟩ : ByteArray).toList) = true := by rw [bne, hn3]; rfl
   clear hs e45
   go_enter Tryz.func71, Tryz.ntmps71
   go_wp2
   go_ret
   exact ⟨by rw [hX.out]; rfl, rfl⟩
 have hX : Hid (isNamedB kind s.data.toList = false) := Lib.hid (decide_eq_false (by
  rintro (h | h | h | ⟨h, _⟩)
  ·exact h3 h
  ·exact h4 h
  ·exact h7 h
  ·exact h8 h))
 have e3 : (kind == 3) = false := by simpa using h3
 have e4 : (kind == 4) = false := by simpa using h4
 have e7 : (kind == 7) = false := by simpa using h7
 have e8 : (kind == 8) = false := by simpa using h8
 clear h3 h4 h7 h8
 go_enter Tryz.func71, Tryz.ntmps71
 go_wp2
 go_ret
 exact ⟨by rw [hX.out]; rfl, rfl⟩
def OptNum (w : World) (r : Option Int) (e : Ending) (w' : World) : Prop := e = .returned (.tuple #[.int .i64 (r.getD 0), .bool r.isSome]) ∧ Below w.heap.size w w'
set_option maxHeartbeats 1000000 in
theorem readNumber_any (s : ByteArray) (hs : s.size ≤ 100000) (g : Int) (hg : g ≤ 1023) (w : World) {B : Nat} (hp : LaidC B w) :
  Calls Tryz.prog 113 #[.string s, .int .i64 g] w (OptNum w (numUpto s.data.toList g)) := by
 unfold OptNum
 have HX := Lib.hid (numUpto_eq s.data.toList g hg)
 have HP := Lib.hid hp
 by_cases hok : ∃ v, Lib.atoiAll s.data.toList = .ok v
 case neg =>
  have hbad : ∀ v, Lib.atoiAll s.data.toList ≠ .ok v := fun v h => hok ⟨v, h⟩
  have HY : Hid (numUpto s.data.toList g = none) := Lib.hid (by
   rw [HX.out]
   split
   ·rename_i v hv
    exact absurd hv (hbad v)
   ·rfl)
  have HA := Lib.hid (fun w h => atoi_bad s hs hbad w (B := B) h)
  clear hok hbad hp
  go_enter Tryz.func113, Tryz.ntmps113
  go_wp2_with (go_at_call 131; refine (HA.out _ HP.out).mono ?_; rintro e w2 ⟨v, N, rfl, hb⟩; have HB := Lib.hid hb; clear hb)
  go_ret2
  exact ⟨by rw [HY.out]; rfl, HB.out⟩
 case pos =>
 obtain ⟨v, hv⟩ := hok
 have HA := Lib.hid (fun w => Tryz.strconv_Atoi_ok s (by omega) v hv w)
 have HY : Hid (numUpto s.data.toList g = if 0 ≤ v ∧ v ≤ g ∧ Lib.itoa v = s.data.toList then some v else none) := Lib.hid (by rw [HX.out, hv])
 clear hv hp
 by_cases h0 : v < 0
 ·have HZ : Hid (numUpto s.data.toList g = none) := Lib.hid (by rw [HY.out, if_neg (fun e => by omega)])
  go_enter Tryz.func113, Tryz.ntmps113
  go_wp2_with (go_at_call 131; refine (HA.out _).mono ?_; rintro e w2 ⟨rfl, hw2⟩; have HB := Lib.hid (atoi_below hw2); clear hw2)
  go_ret2
  exact ⟨by rw [HZ.out]; rfl, HB.out⟩
 by_cases h1 : g < v
 ·have HZ : Hid (numUpto s.data.toList g = none) := Lib.hid (by rw [HY.out, if_neg (fun e => by omega)])
  go_enter Tryz.func113, Tryz.ntmps113
  go_wp2_with (go_at_call 131; refine (HA.out _).mono ?_; rintro e w2 ⟨rfl, hw2⟩; have HB := Lib.hid (atoi_below hw2); clear hw2)
  go_ret2
  exact ⟨by rw [HZ.out]; rfl, HB.out⟩
 have HI := Lib.hid (fun w h => itoa_any v (by omega) (by omega) w (B := B) h)
 by_cases he : Lib.itoa v = s.data.toList
 ·have HZ : Hid (numUpto s.data.toList g = some v) := Lib.hid (by rw [HY.out, if_pos ⟨by omega, by omega, he⟩])
  have e1 : bs (Lib.itoa v) = s := by rw [he, str_bs]
  rw [e1] at HI
  clear he e1
  go_enter Tryz.func113, Tryz.ntmps113
  go_wp2_with (first
   | (go_at_call 131; refine (HA.out _).mono ?_; rintro e w2 ⟨rfl, hw2⟩; have HB := Lib.hid (atoi_below hw2); clear hw2)
   | (go_at_call 45; refine (HI.out _ (HP.out.up HB.out)).mono ?_; rintro e w3 ⟨rfl, hb3⟩; have HB3 := Lib.hid (HB.out.trans (hb3.mono HB.out.size)); clear hb3))
  go_ret2
  exact ⟨by rw [HZ.out]; rfl, HB3.out⟩
 ·have HZ : Hid (numUpto s.data.toList g = none) := Lib.hid (by rw [HY.out, if_neg (fun e => he e.2.2)])
  have hn : ((bs (Lib.itoa v)).toList == s.toList) = false := ne_strs (fun e => he (by rw [← bs_data (Lib.itoa v), e]))
  have hn2 : ((bs (Lib.itoa v)).toList != s.toList) = true := by rw [bne, hn]; rfl
  generalize bs (Lib.itoa v) = t at HI hn hn2
  clear he
  go_enter Tryz.func113, Tryz.ntmps113
  go_wp2_with (first
   | (go_at_call 131; refine (HA.out _).mono ?_; rintro e w2 ⟨rfl, hw2⟩; have HB := Lib.hid (atoi_below hw2); clear hw2)
   | (go_at_call 45; refine (HI.out _ (HP.out.up HB.out)).mono ?_; rintro e w3 ⟨rfl, hb3⟩; have HB3 := Lib.hid (HB.out.trans (hb3.mono HB.out.size)); clear hb3))
  go_ret2
  exact ⟨by rw [HZ.out]; rfl, HB3.out⟩
theorem label_yes {w : List UInt8} (h : Lib.hasPrefix w [64] = true) : labelOf w = numUpto (Lib.trimPrefix w [64]) 1023 := by
 unfold Lib.trimPrefix
 rw [if_pos h]
 cases w with
 | nil => cases h
 | cons c d =>
  have hc : c = 64 := by
   unfold Lib.hasPrefix at h
   simp [List.isPrefixOf] at h
   exact h.symm
  subst hc
  rfl
theorem label_no {w : List UInt8} (h : Lib.hasPrefix w [64] = false) : labelOf w = none := by
 cases w with
 | nil => rfl
 | cons c d =>
  have hc : c ≠ 64 := fun e => by
   subst e
   unfold Lib.hasPrefix at h
   simp [List.isPrefixOf] at h
  unfold labelOf
  split
  ·rename_i d' he
   injection he with he _
   exact absurd he hc
  ·rfl
theorem readLabel_any (s : ByteArray) (hs : s.size ≤ 100000) (w : World) {B : Nat} (hp : LaidC B w) :
  Calls Tryz.prog 97 #[.string s] w (OptNum w (labelOf s.data.toList)) := by
 unfold OptNum
 have HC := Lib.hid (fun w => Tryz.strings_CutPrefix s ⟨#[64]⟩ w)
 cases h : Lib.hasPrefix s.data.toList [64] with
 | false =>
  have HX := Lib.hid (label_no h)
  have h' : Lib.hasPrefix s.data.toList (⟨#[64]⟩ : ByteArray).data.toList = false := h
  rw [h'] at HC
  clear h h'
  go_enter Tryz.func97, Tryz.ntmps97
  go_wp2_with (go_at_call 74; refine (HC.out _).mono ?_; rintro e w' ⟨rfl, rfl⟩)
  go_ret2
  exact ⟨by rw [HX.out]; rfl, Below.refl _ _⟩
 | true =>
  have HX := Lib.hid (label_yes h)
  have h' : Lib.hasPrefix s.data.toList (⟨#[64]⟩ : ByteArray).data.toList = true := h
  have ht : (Lib.trimPrefix s.data.toList [64]).length ≤ 100000 := by
   unfold Lib.trimPrefix
   have h1 : s.data.toList.length = s.size := by rw [Array.length_toList]; rfl
   have h2 : (s.data.toList.drop [(64 : UInt8)].length).length ≤ s.data.toList.length := by rw [List.length_drop]; omega
   split
   ·exact Nat.le_trans h2 (by omega)
   ·omega
  rw [h'] at HC
  have HC2 : Hid (∀ w : World, Calls Tryz.prog 74 #[.string s, .string ⟨#[64]⟩] w fun e w' => e = .returned (.tuple #[.string (bs (Lib.trimPrefix s.data.toList [64])), .bool true]) ∧ w' = w) := HC
  have HR := Lib.hid (readNumber_any (bs (Lib.trimPrefix s.data.toList [64])) (by rw [bs_size]; exact ht) 1023 (by decide) w hp)
  unfold OptNum at HR
  rw [bs_data, ← HX.out] at HR
  generalize labelOf s.data.toList = r at HR
  generalize bs (Lib.trimPrefix s.data.toList [64]) = t at HR HC2
  clear h h' ht HC HX
  go_enter Tryz.func97, Tryz.ntmps97
  go_wp2_with (first
   | (go_at_call 74; refine (HC2.out _).mono ?_; rintro e w' ⟨rfl, rfl⟩)
   | (go_at_call 113; refine HR.out.mono ?_; rintro e w3 ⟨rfl, hb3⟩; have HB3 := Lib.hid hb3; clear hb3))
  go_ret2
  exact ⟨rfl, HB3.out⟩
def OptFun (w : World) (r : Option (ByteArray × Int)) (e : Ending) (w' : World) : Prop := e = .returned (.tuple #[.agg #[.string (r.getD (⟨#[]⟩, 0)).1, .int .i64 (r.getD (⟨#[]⟩, 0)).2], .bool r.isSome]) ∧ Below w.heap.size w w'
theorem LaidC.drewN {B : Nat} {w : World} (h : LaidC B w) (n : Nat) : LaidC B (w.drewN n) := h.up ⟨rfl, rfl, rfl, Nat.le_refl _, fun _ _ => rfl⟩
theorem ret_store2 {P : Program} {fn : Func} {Q : Ending → World → Prop} {T : Array Value} {w2 : World} {G : Nat} {t : TypeId} {z0 z1 a b x : Value} (hb : Box w2 G t #[z0, z1])
  (hres : ∀ W : World, W.cell? ⟨G, 0, none⟩ = some a → W.cell? ⟨G, 1, none⟩ = some b → (results fn T).run P W = .ok (.tuple #[.agg #[a, b], x]) W)
  (hQ : ∀ W : World, Box W G t #[a, b] → Fr (fun k => k = G) w2 W → Q (.returned (.tuple #[.agg #[a, b], x])) W) :
  bodyPost P fn Q .ret { tmps := T, defers := [] } ((w2.setCell ⟨G, 0, none⟩ a).setCell ⟨G, 1, none⟩ b) := by
 have h4 : Box ((w2.setCell ⟨G, 0, none⟩ a).setCell ⟨G, 1, none⟩ b) G t #[a, b] := by
  have := (hb.set_ 0 a).set_ 1 b
  simpa using this
 have hf : Fr (fun k => k = G) w2 ((w2.setCell ⟨G, 0, none⟩ a).setCell ⟨G, 1, none⟩ b) :=
  ((Fr.refl (fun b => b = G) w2).setCell (p := ⟨G, 0, none⟩) (.inl rfl) _).setCell (p := ⟨G, 1, none⟩) (.inl rfl) _
 exact bodyPost_ret (hres _ (h4.cell 0) (h4.cell 1)) rfl (hQ _ h4 hf)
theorem funOf_cut (w : List UInt8) (g : Int) : funOf w g = match numUpto (Lib.cut w [47]).2.1 8 with
  | none => none
  | some n => if g ≤ n ∧ nameOk (bs (Lib.cut w [47]).1) = true then some (bs (Lib.cut w [47]).1, n) else none := by
 unfold funOf
 cases h : slashAt w with
 | none =>
  rw [cut_none h]
  rfl
 | some p =>
  obtain ⟨a, d⟩ := p
  rw [cut_some h]
  rfl
theorem cut_len (w : List UInt8) : (Lib.cut w [47]).1.length ≤ w.length ∧ (Lib.cut w [47]).2.1.length ≤ w.length := by
 cases h : slashAt w with
 | none =>
  rw [cut_none h]
  exact ⟨Nat.le_refl _, Nat.zero_le _⟩
 | some p =>
  obtain ⟨a, d⟩ := p
  rw [cut_some h]
  have := (slash_some h).2
  rw [this, List.length_append, List.length_cons]
  constructor <;> simp <;> omega
set_option maxHeartbeats 2000000 in
theorem readFun_any (s : ByteArray) (hs : s.size ≤ 100000) (g : Int) (w : World) {B : Nat} (hp : LaidC B w) :
  Calls Tryz.prog 94 #[.string s, .int .i64 g] w (OptFun w (funOf s.data.toList g)) := by
 unfold OptFun
 obtain ⟨ml, hml⟩ := hp.len
 have hb0 := alloc_below w (.cells #[.string ⟨#[]⟩, .int .i64 0] 82)
 have hsz : s.data.toList.length = s.size := by rw [Array.length_toList]; rfl
 have hcl := cut_len s.data.toList
 have HF := Lib.hid (funOf_cut s.data.toList g)
 have HC := Tryz.strings_Cut s ⟨#[47]⟩ ml (w.alloc (.cells #[.string ⟨#[]⟩, .int .i64 0] 82)) (by omega) ((hb0.cell (p := ⟨2, 0, none⟩) (Nat.lt_of_lt_of_le hp.low.2.2.2 hp.size)).trans hml)
 have HC2 : Hid (Calls Tryz.prog 112 #[.string s, .string ⟨#[47]⟩] (w.alloc (.cells #[.string ⟨#[]⟩, .int .i64 0] 82)) fun e w' => e = .returned (.tuple #[.string (bs (Lib.cut s.data.toList [47]).1), .string (bs (Lib.cut s.data.toList [47]).2.1), .bool (Lib.cut s.data.toList [47]).2.2]) ∧ ∃ n, w' = (w.alloc (.cells #[.string ⟨#[]⟩, .int .i64 0] 82)).drewN n) := Lib.hid HC
 have HB0 := Lib.hid hb0
 have HP0 := Lib.hid (hp.up hb0)
 have HBX := Lib.hid (Box.new w 82 #[.string ⟨#[]⟩, .int .i64 0])
 have h1 : (bs (Lib.cut s.data.toList [47]).1).size ≤ maxLen := by rw [bs_size]; unfold maxLen; omega
 have h2 : (bs (Lib.cut s.data.toList [47]).2.1).size ≤ 100000 := by rw [bs_size]; omega
 have HN := Lib.hid (fun w h => readNumber_any (bs (Lib.cut s.data.toList [47]).2.1) h2 8 (by decide) w (B := B) h)
 unfold OptNum at HN
 rw [bs_data] at HN
 have HT := Lib.hid (fun w => tName_any (bs (Lib.cut s.data.toList [47]).1) w h1)
 generalize funOf s.data.toList g = r at HF
 generalize numUpto (Lib.cut s.data.toList [47]).2.1 8 = rn at HF HN
 generalize bs (Lib.cut s.data.toList [47]).1 = ta at HF HC2 HT
 generalize bs (Lib.cut s.data.toList [47]).2.1 = td at HC2 HN
 generalize (Lib.cut s.data.toList [47]).2.2 = tb at HC2
 clear HC hb0 hsz hcl h1 h2 hml hp
 cases rn with
 | none =>
  have HX : Hid (r = none) := HF
  go_enter Tryz.func94, Tryz.ntmps94
  go_upto_region 2 with (go_at_call 112; refine HC2.out.mono ?_; rintro e w2 ⟨rfl, n2, rfl⟩)
  go_upto_region 3 with (go_at_call 113; refine (HN.out _ (HP0.out.drewN n2)).mono ?_; rintro e w3 ⟨rfl, hb3⟩; have HB3 := Lib.hid ((bel_drewN HB0.out n2).trans (hb3.mono HB0.out.size)); have hx3 := (HBX.out.drewN n2).below hb3 HBX.out.lt; have f0 := hx3.cell 0; have f1 := hx3.cell 1; have z0 := hx3.frozen 0; have z1 := hx3.frozen 1; have HX3 := Lib.hid hx3; clear hb3 hx3)
  go_wp2_with (go_at_call 63; refine (HT.out _).mono ?_; rintro e w4 ⟨rfl, rfl⟩)
  refine ret_store2 (x := .bool false) HX3.out (by intro W c0 c1; simp [results, Tryz.results94, go_sem, c0, c1]) ?_
  intro W hW hF
  exact ⟨by rw [HX.out]; rfl, HB3.out.trans (hF.below HB3.out.size (fun k hk => by omega))⟩
 | some n =>
 have HF2 : Hid (r = if g ≤ n ∧ nameOk ta = true then some (ta, n) else none) := HF
 by_cases h0 : n < g
 ·have HX : Hid (r = none) := Lib.hid (by rw [HF2.out, if_neg (fun e => by omega)])
  go_enter Tryz.func94, Tryz.ntmps94
  go_upto_region 2 with (go_at_call 112; refine HC2.out.mono ?_; rintro e w2 ⟨rfl, n2, rfl⟩)
  go_upto_region 3 with (go_at_call 113; refine (HN.out _ (HP0.out.drewN n2)).mono ?_; rintro e w3 ⟨rfl, hb3⟩; have HB3 := Lib.hid ((bel_drewN HB0.out n2).trans (hb3.mono HB0.out.size)); have hx3 := (HBX.out.drewN n2).below hb3 HBX.out.lt; have f0 := hx3.cell 0; have f1 := hx3.cell 1; have z0 := hx3.frozen 0; have z1 := hx3.frozen 1; have HX3 := Lib.hid hx3; clear hb3 hx3)
  go_wp2_with (go_at_call 63; refine (HT.out _).mono ?_; rintro e w4 ⟨rfl, rfl⟩)
  refine ret_store2 (x := .bool false) HX3.out (by intro W c0 c1; simp [results, Tryz.results94, go_sem, c0, c1]) ?_
  intro W hW hF
  exact ⟨by rw [HX.out]; rfl, HB3.out.trans (hF.below HB3.out.size (fun k hk => by omega))⟩
 cases hn : nameOk ta with
 | false =>
  have HX : Hid (r = none) := Lib.hid (by rw [HF2.out, hn, if_neg (by simp)])
  rw [hn] at HT
  clear hn
  go_enter Tryz.func94, Tryz.ntmps94
  go_upto_region 2 with (go_at_call 112; refine HC2.out.mono ?_; rintro e w2 ⟨rfl, n2, rfl⟩)
  go_upto_region 3 with (go_at_call 113; refine (HN.out _ (HP0.out.drewN n2)).mono ?_; rintro e w3 ⟨rfl, hb3⟩; have HB3 := Lib.hid ((bel_drewN HB0.out n2).trans (hb3.mono HB0.out.size)); have hx3 := (HBX.out.drewN n2).below hb3 HBX.out.lt; have f0 := hx3.cell 0; have f1 := hx3.cell 1; have z0 := hx3.frozen 0; have z1 := hx3.frozen 1; have HX3 := Lib.hid hx3; clear hb3 hx3)
  go_wp2_with (go_at_call 63; refine (HT.out _).mono ?_; rintro e w4 ⟨rfl, rfl⟩)
  refine ret_store2 (x := .bool false) HX3.out (by intro W c0 c1; simp [results, Tryz.results94, go_sem, c0, c1]) ?_
  intro W hW hF
  exact ⟨by rw [HX.out]; rfl, HB3.out.trans (hF.below HB3.out.size (fun k hk => by omega))⟩
 | true =>
  have HX : Hid (r = some (ta, n)) := Lib.hid (by rw [HF2.out, hn, if_pos ⟨by omega, rfl⟩])
  rw [hn] at HT
  clear hn
  go_enter Tryz.func94, Tryz.ntmps94
  go_upto_region 2 with (go_at_call 112; refine HC2.out.mono ?_; rintro e w2 ⟨rfl, n2, rfl⟩)
  go_upto_region 3 with (go_at_call 113; refine (HN.out _ (HP0.out.drewN n2)).mono ?_; rintro e w3 ⟨rfl, hb3⟩; have HB3 := Lib.hid ((bel_drewN HB0.out n2).trans (hb3.mono HB0.out.size)); have hx3 := (HBX.out.drewN n2).below hb3 HBX.out.lt; have f0 := hx3.cell 0; have f1 := hx3.cell 1; have z0 := hx3.frozen 0; have z1 := hx3.frozen 1; have HX3 := Lib.hid hx3; clear hb3 hx3)
  go_wp2_with (go_at_call 63; refine (HT.out _).mono ?_; rintro e w4 ⟨rfl, rfl⟩)
  refine ret_store2 (x := .bool true) HX3.out (by intro W c0 c1; simp [results, Tryz.results94, go_sem, c0, c1]) ?_
  intro W hW hF
  exact ⟨by rw [HX.out]; rfl, HB3.out.trans (hF.below HB3.out.size (fun k hk => by omega))⟩
end Go.Proofs.YtclkdlegogjnbaaGreatDoor

namespace Go.Proofs.YtclkdlegogjnbaaGreatDoor
open Go Go.RowKit Go.WideShapes Go.ChangeShapes
set_option linter.unusedVariables false
set_option linter.unusedSimpArgs false
theorem find_drop (name : ByteArray) (arity : Int) (l : List (ByteArray × Int × Int)) (k : Nat) (h : k < l.length) :
  findFrom name arity k (l.drop k) = if l[k].1 = name ∧ l[k].2.1 = arity then (k : Int) else findFrom name arity (k + 1) (l.drop (k + 1)) := by
 rw [List.drop_eq_getElem_cons h, findFrom]
theorem eq_strs {a b : ByteArray} (h : a = b) : (a.toList == b.toList) = true := by rw [h]; simp
set_option maxRecDepth 100000 in
set_option maxHeartbeats 4000000 in
theorem rfind_any (A1 A2 A4 : Option Addr) (a c1 f c2 c c4 : Nat) (l : List (ByteArray × Int × Int)) (hm : l.length ≤ 1000000) (vp : Value) (name : ByteArray) (arity : Int) (w : World) (hv : PredsAt w vp l) :
  Calls Tryz.prog 29 #[.agg #[.slice A1 a c1, .slice A2 f c2, vp, .slice A4 c c4], .string name, .int .i64 arity] w fun e w' => e = .returned (.int .i64 (findFrom name arity 0 l)) ∧ Below w.heap.size w w' := by
 obtain ⟨A3, c3, rfl⟩ := CellsAt.form hv
 have HV := Lib.hid hv
 have HB := Lib.hid (Box.new w 29 #[.slice A1 a c1, .slice A2 f c2, .slice A3 l.length c3, .slice A4 c c4])
 have HBW := Lib.hid (alloc_below w (.cells #[.slice A1 a c1, .slice A2 f c2, .slice A3 l.length c3, .slice A4 c c4] 29))
 clear hv
 go_enter Tryz.func29, Tryz.ntmps29
 go_wp2
 obtain ⟨w1, hw1⟩ : ∃ w1, w.alloc (.cells #[.slice A1 a c1, .slice A2 f c2, .slice A3 l.length c3, .slice A4 c c4] 29) = w1 := ⟨_, rfl⟩
 rw [hw1] at HB HBW ⊢
 clear hw1
 have q2 := HB.out.cell 2
 go_loop [7] (fun i => ∃ k : Nat, k ≤ l.length ∧ i = .int .i64 k ∧ Hid (findFrom name arity k (l.drop k) = findFrom name arity 0 l)) (fun i => l.length - (intOf i).toNat)
 case atStart => exact ⟨0, by omega, rfl, Lib.hid rfl⟩
 case round =>
  obtain ⟨k, hk, rfl, HF⟩ := hrel
  by_cases hlt : k < l.length
  ·obtain ⟨b, off, rfl, hb, hc0, hc1, hc2⟩ := predCell HV.out k hlt
   have d0 := (HBW.out.cell (p := ⟨b, off + k * 3, none⟩) hb).trans hc0
   have d1 := (HBW.out.cell (p := ⟨b, off + k * 3 + 1, none⟩) hb).trans hc1
   have HST := Lib.hid (find_drop name arity l k hlt)
   clear hc0 hc1 hc2
   generalize l[k].1 = s at d0 HST
   generalize l[k].2.1 = n at d1 HST
   by_cases hs : s = name
   ·have hst := eq_strs hs
    by_cases hn : n = arity
    ·have hnt : (n == arity) = true := by simpa using hn
     have HX : Hid (findFrom name arity 0 l = (k : Int)) := Lib.hid (by rw [← HF.out, HST.out, if_pos ⟨hs, hn⟩])
     clear hs hn
     go_wp2
     go_ret
     exact ⟨by rw [HX.out]; rfl, HBW.out⟩
    ·have hnt : (n == arity) = false := by simpa using hn
     have HX : Hid (findFrom name arity (k + 1) (l.drop (k + 1)) = findFrom name arity 0 l) := Lib.hid (by rw [← HF.out, HST.out, if_neg (fun h => hn h.2)])
     clear hs hn
     go_wp2
     go_round
     case rel => exact ⟨k + 1, by omega, by go_num, HX⟩
     case measure => simp [intOf]; omega
   ·have hst := ne_strs hs
    have HX : Hid (findFrom name arity (k + 1) (l.drop (k + 1)) = findFrom name arity 0 l) := Lib.hid (by rw [← HF.out, HST.out, if_neg (fun h => hs h.1)])
    clear hs
    go_wp2
    go_round
    case rel => exact ⟨k + 1, by omega, by go_num, HX⟩
    case measure => simp [intOf]; omega
  ·obtain rfl : k = l.length := by omega
   have HX : Hid (findFrom name arity 0 l = -1) := Lib.hid (by rw [← HF.out, List.drop_length]; rfl)
   go_wp2
   go_ret
   exact ⟨by rw [HX.out]; rfl, HBW.out⟩
end Go.Proofs.YtclkdlegogjnbaaGreatDoor

namespace Go.Proofs.YtclkdlegogjnbaaGreatDoor
open Go Go.RowKit Go.WideShapes Go.ChangeShapes
set_option linter.unusedVariables false
set_option linter.unusedSimpArgs false
theorem run_makeFunc (fn : Fn) (first cap : Array Value) (w : World) : (Instr.makeFunc fn first cap).run Tryz.prog w = .ok (.func fn first cap) w := rfl
def hitB (name : ByteArray) (arity : Int) (p : ByteArray × Int × Int) : Bool := decide (p.1 = name ∧ p.2.1 = arity)
theorem closure_any (name : ByteArray) (arity : Int) (g4 g5 : Nat) (s : ByteArray) (n m : Int) (w : World) (h4 : w.cell? ⟨g4, 0, none⟩ = some (.string name)) (h5 : w.cell? ⟨g5, 0, none⟩ = some (.int .i64 arity)) (hl4 : g4 < w.heap.size) (hl5 : g5 < w.heap.size) :
  Calls Tryz.prog 133 #[.agg #[.string s, .int .i64 n, .int .i64 m], .pointer (some ⟨g4, 0, none⟩), .pointer (some ⟨g5, 0, none⟩)] w fun e w' => e = .returned (.bool (hitB name arity (s, n, m))) ∧ Below w.heap.size w w' := by
 have HB := Lib.hid (alloc_below w (.cells #[.string s, .int .i64 n, .int .i64 m] 64))
 have c4 := ((HB.out.cell (p := ⟨g4, 0, none⟩) hl4).trans h4)
 have c5 := ((HB.out.cell (p := ⟨g5, 0, none⟩) hl5).trans h5)
 clear h4 h5
 by_cases hs : s = name
 ·have hst := eq_strs hs
  by_cases hn : n = arity
  ·have hnt : (n == arity) = true := by simpa using hn
   have HX : Hid (hitB name arity (s, n, m) = true) := Lib.hid (decide_eq_true ⟨hs, hn⟩)
   clear hs hn
   go_enter Tryz.func133, Tryz.ntmps133
   go_wp2
   go_ret
   exact ⟨by rw [HX.out]; rfl, HB.out⟩
  ·have hnt : (n == arity) = false := by simpa using hn
   have HX : Hid (hitB name arity (s, n, m) = false) := Lib.hid (decide_eq_false (fun h => hn h.2))
   clear hs hn
   go_enter Tryz.func133, Tryz.ntmps133
   go_wp2
   go_ret
   exact ⟨by rw [HX.out]; rfl, HB.out⟩
 ·have hst := ne_strs hs
  have HX : Hid (hitB name arity (s, n, m) = false) := Lib.hid (decide_eq_false (fun h => hs h.1))
  clear hs
  go_enter Tryz.func133, Tryz.ntmps133
  go_wp2
  go_ret
  exact ⟨by rw [HX.out]; rfl, HB.out⟩
theorem find_hit (name : ByteArray) (arity : Int) (l : List (ByteArray × Int × Int)) (k : Nat) (h : k < l.length) :
  findFrom name arity k (l.drop k) = if hitB name arity l[k] = true then (k : Int) else findFrom name arity (k + 1) (l.drop (k + 1)) := by
 rw [find_drop name arity l k h]
 by_cases hh : l[k].1 = name ∧ l[k].2.1 = arity
 ·rw [if_pos hh]
  exact (if_pos (decide_eq_true hh)).symm
 ·rw [if_neg hh, if_neg (by unfold hitB; rw [decide_eq_false hh]; decide)]
set_option maxRecDepth 100000 in
set_option maxHeartbeats 4000000 in
theorem index_any (name : ByteArray) (arity : Int) (g4 g5 : Nat) (l : List (ByteArray × Int × Int)) (hm : l.length ≤ 1000000) (v : Value) (w : World) (hv : PredsAt w v l) (h4 : w.cell? ⟨g4, 0, none⟩ = some (.string name)) (h5 : w.cell? ⟨g5, 0, none⟩ = some (.int .i64 arity)) (hl4 : g4 < w.heap.size) (hl5 : g5 < w.heap.size) :
  Calls Tryz.prog 132 #[v, .func (.func 133) #[] #[.pointer (some ⟨g4, 0, none⟩), .pointer (some ⟨g5, 0, none⟩)]] w fun e w' => e = .returned (.int .i64 (findFrom name arity 0 l)) ∧ Below w.heap.size w w' := by
 obtain ⟨A, c, rfl⟩ := CellsAt.form hv
 have eg : ∀ args w, (callFunc 133 args).run Tryz.prog w = .ok (.enter 133 args) w := enters_of Tryz.func133 (by kernel_rfl) rfl
 have HV := Lib.hid hv
 have H4 := Lib.hid h4
 have H5 := Lib.hid h5
 clear hv h4 h5
 go_enter Tryz.func132, Tryz.ntmps132
 go_wp2
 go_loopw [8] (fun i wr => ∃ k : Nat, k ≤ l.length ∧ i = .int .i64 k ∧ Hid (findFrom name arity k (l.drop k) = findFrom name arity 0 l) ∧ Hid (Below w.heap.size w wr)) (fun i _ => l.length - (intOf i).toNat)
 case atStart => exact ⟨0, by omega, rfl, Lib.hid rfl, Lib.hid (Below.refl _ _)⟩
 case round =>
  obtain ⟨k, hk, rfl, HF, HB⟩ := hrel
  by_cases hlt : k < l.length
  ·obtain ⟨b, off, rfl, hb, hc0, hc1, hc2⟩ := predCell HV.out k hlt
   have d0 := (HB.out.cell (p := ⟨b, off + k * 3, none⟩) hb).trans hc0
   have d1 := (HB.out.cell (p := ⟨b, off + k * 3 + 1, none⟩) hb).trans hc1
   have d2 := (HB.out.cell (p := ⟨b, off + k * 3 + 2, none⟩) hb).trans hc2
   have HST := Lib.hid (find_hit name arity l k hlt)
   have hcl := closure_any name arity g4 g5 l[k].1 l[k].2.1 l[k].2.2 wr ((HB.out.cell (p := ⟨g4, 0, none⟩) hl4).trans H4.out) ((HB.out.cell (p := ⟨g5, 0, none⟩) hl5).trans H5.out) (Nat.lt_of_lt_of_le hl4 HB.out.size) (Nat.lt_of_lt_of_le hl5 HB.out.size)
   rw [show (l[k].1, l[k].2.1, l[k].2.2) = l[k] from rfl] at hcl
   clear hc0 hc1 hc2
   generalize hitB name arity l[k] = hb' at hcl HST
   generalize l[k].1 = s at d0 hcl
   generalize l[k].2.1 = n at d1 hcl
   generalize l[k].2.2 = m at d2 hcl
   have HCL := Lib.hid hcl
   clear hcl
   cases hb'
   ·have HX : Hid (findFrom name arity (k + 1) (l.drop (k + 1)) = findFrom name arity 0 l) := Lib.hid (by rw [← HF.out, HST.out, if_neg (by decide)])
    go_wp2_with (go_at_fn 133; refine HCL.out.mono ?_; rintro e w5 ⟨rfl, hb5⟩; have HB5 := Lib.hid (HB.out.trans (hb5.mono HB.out.size)); clear hb5)
    go_roundw
    case rel => exact ⟨k + 1, by omega, by go_num, HX, HB5⟩
    case measure => simp [intOf]; omega
   ·have HX : Hid (findFrom name arity 0 l = (k : Int)) := Lib.hid (by rw [← HF.out, HST.out, if_pos rfl])
    go_wp2_with (go_at_fn 133; refine HCL.out.mono ?_; rintro e w5 ⟨rfl, hb5⟩; have HB5 := Lib.hid (HB.out.trans (hb5.mono HB.out.size)); clear hb5)
    go_ret
    exact ⟨by rw [HX.out]; rfl, HB5.out⟩
  ·obtain rfl : k = l.length := by omega
   have HX : Hid (findFrom name arity 0 l = -1) := Lib.hid (by rw [← HF.out, List.drop_length]; rfl)
   go_wp2
   go_ret
   exact ⟨by rw [HX.out]; rfl, HB.out⟩
theorem pfind_any (A1 A2 A4 : Option Addr) (a c1 f c2 c c4 : Nat) (l : List (ByteArray × Int × Int)) (hm : l.length ≤ 1000000) (vp : Value) (name : ByteArray) (arity : Int) (w : World) (hv : PredsAt w vp l) :
  Calls Tryz.prog 114 #[.agg #[.slice A1 a c1, .slice A2 f c2, vp, .slice A4 c c4], .string name, .int .i64 arity] w fun e w' => e = .returned (.int .i64 (findFrom name arity 0 l)) ∧ Below w.heap.size w w' := by
 obtain ⟨A3, c3, rfl⟩ := CellsAt.form hv
 have hmf := run_makeFunc
 have HB3 := Lib.hid (((alloc_below w (.cells #[.slice A1 a c1, .slice A2 f c2, .slice A3 l.length c3, .slice A4 c c4] 39)).alloc (by simp) (.cells #[.string name] 9)).alloc (by simp; omega) (.cells #[.int .i64 arity] 3))
 have h4 : ((((w.alloc (.cells #[.slice A1 a c1, .slice A2 f c2, .slice A3 l.length c3, .slice A4 c c4] 39)).alloc (.cells #[.string name] 9)).alloc (.cells #[.int .i64 arity] 3)).cell? ⟨w.heap.size + 1, 0, none⟩) = some (.string name) := by
  have h := ((Box.new (w.alloc (.cells #[.slice A1 a c1, .slice A2 f c2, .slice A3 l.length c3, .slice A4 c c4] 39)) 9 #[.string name]).alloc (.cells #[.int .i64 arity] 3)).cell 0
  rw [World.size_alloc] at h
  exact h
 have h5 : ((((w.alloc (.cells #[.slice A1 a c1, .slice A2 f c2, .slice A3 l.length c3, .slice A4 c c4] 39)).alloc (.cells #[.string name] 9)).alloc (.cells #[.int .i64 arity] 3)).cell? ⟨w.heap.size + 1 + 1, 0, none⟩) = some (.int .i64 arity) := by
  have h := (Box.new ((w.alloc (.cells #[.slice A1 a c1, .slice A2 f c2, .slice A3 l.length c3, .slice A4 c c4] 39)).alloc (.cells #[.string name] 9)) 3 #[.int .i64 arity]).cell 0
  rw [World.size_alloc, World.size_alloc] at h
  exact h
 have HIX := Lib.hid (index_any name arity (w.heap.size + 1) (w.heap.size + 1 + 1) l hm (.slice A3 l.length c3) _ (CellsAt.below hv HB3.out) h4 h5 (by simp) (by simp))
 clear hv h4 h5
 go_enter Tryz.func114, Tryz.ntmps114
 go_wp2_with (go_at_call 132; refine HIX.out.mono ?_; rintro e w5 ⟨rfl, hb5⟩; have HB5 := Lib.hid (HB3.out.trans (hb5.mono HB3.out.size)); clear hb5)
 go_ret
 exact ⟨rfl, HB5.out⟩
end Go.Proofs.YtclkdlegogjnbaaGreatDoor
