/-
  The program's number: what an operand's word is read as. Condition: the two errors of strconv read as the program's text lays them.
-/
import Derived.Test.YtgkldglknkeedaaDoorCodeF
import Derived.Shelf.Strings.SlTrimAscii
import Derived.Lib.IndexBytes
namespace Go.Proofs.YtgkldglknkeedaaDoor
open Go Go.RowKit Go.WideShapes Go.ChangeShapes
set_option linter.unusedVariables false

/-- What a word is read as. -/
def numOf (kind : Int) (w : List UInt8) : Option Int :=
  if w = [45] then some 65535
  else match Lib.atoiAll (Lib.trimLeftS w [88, 89]) with
    | .ok v => some (if kind = 1 ∧ Lib.hasPrefix w [89] = true then wrap64 (v + 16) else v)
    | _ => none

def NumRes (w : World) (r : Option Int) (e : Ending) (w' : World) : Prop :=
  ∃ x, e = .returned (.tuple #[.int .i64 x, .bool r.isSome]) ∧ (∀ v, r = some v → x = v) ∧ Below w.heap.size w w'

theorem bel_drewN {B : Nat} {w w' : World} (h : Below B w w') (n : Nat) : Below B w (w'.drewN n) := ⟨h.os, h.tape, h.output, h.size, h.block⟩
theorem num_some {w w' : World} {r : Option Int} {x : Int} (h : r = some x) (hb : Below w.heap.size w w') : NumRes w r (.returned (.tuple #[.int .i64 x, .bool true])) w' := by
  subst h
  exact ⟨x, rfl, fun v hv => Option.some.inj hv, hb⟩
theorem num_none {w w' : World} {r : Option Int} {x : Int} (h : r = none) (hb : Below w.heap.size w w') : NumRes w r (.returned (.tuple #[.int .i64 x, .bool false])) w' := by
  subst h
  exact ⟨x, rfl, (fun v hv => by cases hv), hb⟩

theorem atoi_below {w w2 : World} {t : TypeId} (h : w2 = w ∨ ∃ x, w2 = Lib.bytesWorld w t x) : Below w.heap.size w w2 := by
  rcases h with rfl | ⟨x, rfl⟩
  · exact Below.refl _ _
  · exact Lib.bytesWorld_below _ _ _

theorem atoi_bad (s : ByteArray) (hs : s.size ≤ 100000) (h : ∀ v, Lib.atoiAll s.data.toList ≠ .ok v) (w : World) {B : Nat} (hL : LaidC B w) :
    Calls Tryd.prog 37 #[.string s] w fun e w' => ∃ v N, e = .returned (.tuple #[.int .i64 v, .iface 83 (.pointer (some ⟨N, 0, none⟩))]) ∧ Below w.heap.size w w' := by
  rcases h' : Lib.atoiAll s.data.toList with v | _ | _
  · exact absurd h' (h v)
  · obtain ⟨te, pe, hev⟩ := hL.syn
    refine Calls.mono (Any.strconv_Atoi_syntax Tryd.laysC172 s (by omega) h' _ w hev (.inr ⟨te, pe, rfl⟩)) ?_
    rintro e w' ⟨N, rfl, _, _, hb⟩
    exact ⟨_, N, rfl, hb⟩
  · obtain ⟨te, pe, hev⟩ := hL.ran
    refine Calls.mono (Any.strconv_Atoi_range Tryd.laysC172 s (by omega) h' _ w hev (.inr ⟨te, pe, rfl⟩)) ?_
    rintro e w' ⟨N, rfl, _, _, hb⟩
    exact ⟨_, N, rfl, hb⟩

theorem trim_any (s : ByteArray) (w : World) :
    Calls Tryd.prog 38 #[.string s, .string ⟨#[88, 89]⟩] w fun e w' => e = .returned (.string (bs (Lib.trimLeftS s.data.toList [88, 89]))) ∧ Below w.heap.size w w' :=
  Any.strings_TrimLeft_laid Tryd.lays161 (by kernel_rfl) s ⟨#[88, 89]⟩ w (by decide) (ascii_of_all (by decide))

theorem trim_len (l : List UInt8) : (Lib.trimLeftS l [88, 89]).length ≤ l.length := (List.dropWhile_sublist _).length_le

theorem prefix_any (s : ByteArray) (w : World) :
    Calls Tryd.prog 39 #[.string s, .string ⟨#[89]⟩] w fun e w' => e = .returned (.bool (Lib.hasPrefix s.data.toList [89])) ∧ w = w' :=
  (Tryd.strings_HasPrefix s ⟨#[89]⟩ w).mono fun e w' h => ⟨h.1, h.2.symm⟩

set_option maxHeartbeats 1000000 in
theorem number_any (kind : Int) (s : ByteArray) (hs : s.size ≤ 100000) (w : World) {B : Nat} (hp : LaidC B w) :
    Calls Tryd.prog 30 #[.int .i64 kind, .string s] w (NumRes w (numOf kind s.data.toList)) := by
  by_cases h45 : s = ⟨#[45]⟩
  · subst h45
    go_enter Tryd.func30, Tryd.ntmps30
    go_wp2
    go_ret2
    exact ⟨65535, rfl, fun v hv => by simpa [numOf] using hv, Below.refl _ _⟩
  · have hne := ne_strs h45
    have hnl : ¬ s.data.toList = [45] := fun e => h45 (by rw [← str_bs s, e]; rfl)
    obtain ⟨t, ht⟩ : ∃ t, bs (Lib.trimLeftS s.data.toList [88, 89]) = t := ⟨_, rfl⟩
    have htl : t.data.toList = Lib.trimLeftS s.data.toList [88, 89] := by rw [← ht, bs_data]
    have hts : t.size ≤ 100000 := by
      have := trim_len s.data.toList
      rw [← ht, bs_size]
      have h2 : s.data.toList.length = s.size := by rw [Array.length_toList]; rfl
      omega
    have htr := fun w => trim_any s w
    rw [ht] at htr
    have HTR := Lib.hid htr
    have HP := Lib.hid hp
    have hnum : numOf kind s.data.toList = match Lib.atoiAll t.data.toList with
        | .ok v => some (if kind = 1 ∧ Lib.hasPrefix s.data.toList [89] = true then wrap64 (v + 16) else v)
        | _ => none := by rw [numOf, if_neg hnl, htl]
    have HNUM := Lib.hid hnum
    have hne' : (s.toList == [45]) = false := by
      rw [beq_eq_false_iff_ne, ByteArray.toList_eq]
      exact hnl
    clear htr hp ht htl hnum h45 hnl hne
    by_cases hok : ∃ v, Lib.atoiAll t.data.toList = .ok v
    · obtain ⟨v, hv⟩ := hok
      have hn2 : numOf kind s.data.toList = some (if kind = 1 ∧ Lib.hasPrefix s.data.toList [89] = true then wrap64 (v + 16) else v) := by rw [HNUM.out, hv]
      have HV := Lib.hid hv
      have HN2 := Lib.hid hn2
      clear hv hn2 HNUM
      by_cases h1 : kind = 1
      · subst h1
        have hpf := fun w => prefix_any s w
        cases hpr : Lib.hasPrefix s.data.toList [89]
        · rw [hpr] at hpf
          have HPF := Lib.hid hpf
          have HPR := Lib.hid hpr
          clear hpf hpr
          go_enter Tryd.func30, Tryd.ntmps30
          go_wp2_with fail
          refine (HTR.out _).mono ?_
          rintro e w2 ⟨rfl, hb⟩
          go_wp2_with fail
          refine (Tryd.strconv_Atoi_ok t (by omega) v HV.out _).mono ?_
          rintro e w3 ⟨rfl, hw3⟩
          have HB := Lib.hid (hb.trans ((atoi_below hw3).mono hb.size))
          clear hb hw3
          go_wp2_with fail
          refine (HPF.out _).mono ?_
          rintro e w' ⟨rfl, rfl⟩
          go_wp2
          go_quiet (fail)
          go_wp2
          go_ret2
          exact num_some (HN2.out.trans (by rw [HPR.out]; rfl)) (bel_drewN HB.out _)
        · rw [hpr] at hpf
          have HPF := Lib.hid hpf
          have HPR := Lib.hid hpr
          clear hpf hpr
          go_enter Tryd.func30, Tryd.ntmps30
          go_wp2_with fail
          refine (HTR.out _).mono ?_
          rintro e w2 ⟨rfl, hb⟩
          go_wp2_with fail
          refine (Tryd.strconv_Atoi_ok t (by omega) v HV.out _).mono ?_
          rintro e w3 ⟨rfl, hw3⟩
          have HB := Lib.hid (hb.trans ((atoi_below hw3).mono hb.size))
          clear hb hw3
          go_wp2_with fail
          refine (HPF.out _).mono ?_
          rintro e w' ⟨rfl, rfl⟩
          go_wp2
          go_quiet (fail)
          go_wp2
          go_ret2
          exact num_some (HN2.out.trans (by rw [HPR.out]; rfl)) (bel_drewN HB.out _)
      · have h1' : (kind == 1) = false := by simpa using h1
        have hn3 : numOf kind s.data.toList = some v := by rw [HN2.out, if_neg (fun x => h1 x.1)]
        have HN3 := Lib.hid hn3
        clear h1 hn3 HN2
        go_enter Tryd.func30, Tryd.ntmps30
        go_wp2_with fail
        refine (HTR.out _).mono ?_
        rintro e w2 ⟨rfl, hb⟩
        go_wp2_with fail
        refine (Tryd.strconv_Atoi_ok t (by omega) v HV.out _).mono ?_
        rintro e w3 ⟨rfl, hw3⟩
        have HB := Lib.hid (hb.trans ((atoi_below hw3).mono hb.size))
        clear hb hw3
        go_wp2
        go_quiet (fail)
        go_wp2
        go_ret2
        exact num_some HN3.out (bel_drewN HB.out _)
    · have hbad : ∀ v, Lib.atoiAll t.data.toList ≠ .ok v := fun v h => hok ⟨v, h⟩
      have hn2 : numOf kind s.data.toList = none := by
        rw [HNUM.out]
        rcases h : Lib.atoiAll t.data.toList with v | _ | _
        · exact absurd h (hbad v)
        · rfl
        · rfl
      have HBAD := Lib.hid hbad
      have HN2 := Lib.hid hn2
      clear hbad hn2 hok HNUM
      have hpf := fun w => prefix_any s w
      obtain ⟨pf, hpe⟩ : ∃ pf, Lib.hasPrefix s.data.toList [89] = pf := ⟨_, rfl⟩
      rw [hpe] at hpf
      have HPF := Lib.hid hpf
      clear hpf hpe
      by_cases h1 : kind = 1
      · subst h1
        cases pf
        all_goals
          go_enter Tryd.func30, Tryd.ntmps30
          go_wp2_with fail
          refine (HTR.out _).mono ?_
          rintro e w2 ⟨rfl, hb⟩
          go_wp2_with fail
          refine (atoi_bad t hts HBAD.out _ (HP.out.up hb)).mono ?_
          rintro e w3 ⟨v, N, rfl, hw3⟩
          have HB := Lib.hid (hb.trans (hw3.mono hb.size))
          clear hb hw3
          go_wp2_with fail
          refine (HPF.out _).mono ?_
          rintro e w' ⟨rfl, rfl⟩
          go_wp2
          go_quiet (fail)
          go_wp2
          go_ret2
          exact num_none HN2.out (bel_drewN HB.out _)
      · have h1' : (kind == 1) = false := by simpa using h1
        clear h1
        go_enter Tryd.func30, Tryd.ntmps30
        go_wp2_with fail
        refine (HTR.out _).mono ?_
        rintro e w2 ⟨rfl, hb⟩
        go_wp2_with fail
        refine (atoi_bad t hts HBAD.out _ (HP.out.up hb)).mono ?_
        rintro e w3 ⟨v, N, rfl, hw3⟩
        have HB := Lib.hid (hb.trans (hw3.mono hb.size))
        clear hb hw3
        go_wp2
        go_quiet (fail)
        go_wp2
        go_ret2
        exact num_none HN2.out (bel_drewN HB.out _)

end Go.Proofs.YtgkldglknkeedaaDoor
