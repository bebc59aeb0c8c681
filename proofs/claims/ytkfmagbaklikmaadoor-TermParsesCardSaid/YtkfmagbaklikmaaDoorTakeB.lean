/-
  The term with which a text begins (resolventref03.take), by a contract: nothing, and a variable. Conditions: a text of at most 100000 bytes.
-/
import Derived.Test.YtkfmagbaklikmaaDoorTake
import Derived.Test.YtkfmagbaklikmaaDoorFixD
import Derived.Test.YtkfmagbaklikmaaDoorRText
namespace Go.Proofs.YtkfmagbaklikmaaDoor
open Go Go.RowKit
set_option linter.unusedVariables false
set_option linter.unusedSimpArgs false

def TakeOk (w : World) (F : Nat) (r : Option (Tm × Nat)) (e : Ending) (w' : World) : Prop :=
  match r with
  | some (t, n) => ∃ v, e = .returned (.tuple #[v, .int .i64 ((n : Nat) : Int)]) ∧ Reads w' (fun b => w.heap.size ≤ b ∧ b < w'.heap.size) F t v ∧ Below w.heap.size w w'
  | none => ∃ kk : Int, e = .returned (.tuple #[.agg #[.int .i64 kk, .int .i64 0, .string ⟨#[]⟩, .slice none 0 0], .int .i64 0]) ∧ Below w.heap.size w w'
def TakeC (f : Nat) : Prop := ∀ (s : ByteArray) (w : World), s.size ≤ 100000 → s.size < f → Calls Tryd.prog 29 #[.string s] w fun e w' => TakeOk w f (rTake f s.data.toList) e w'

/-- A term of no parts reads as it stands. -/
theorem reads_leaf {w : World} {S : Nat → Prop} {f : Nat} {k n : Int} {s : ByteArray} (hs : s.size ≤ maxLen) (hk : (Lit.int .i64 k).wf = true) (hn : (Lit.int .i64 n).wf = true) : Reads w S (f + 1) (.node k n s []) (.agg #[.int .i64 k, .int .i64 n, .string s, .slice none 0 0]) :=
  ⟨none, 0, rfl, Nat.le_refl _, Nat.zero_le _, hs, hk, hn, fun i hi => absurd hi (by simp)⟩
theorem wf64 (n : Int) (h0 : -9223372036854775808 ≤ n) (h1 : n ≤ 9223372036854775807) : (Lit.int .i64 n).wf = true := by
  simp only [Lit.wf, Bool.and_eq_true, decide_eq_true_eq]
  exact ⟨by show -9223372036854775808 ≤ _; omega, by show _ ≤ 9223372036854775807; omega⟩
theorem not_nil {s : ByteArray} (h : 0 < s.size) : ¬ s = ⟨#[]⟩ := by
  rintro rfl
  simp [ByteArray.size] at h
theorem ne_strs {a b : ByteArray} (h : ¬ a = b) : (a.toList == b.toList) = false := by
  rw [beq_eq_false_iff_ne]
  intro e
  rw [ByteArray.toList_eq, ByteArray.toList_eq] at e
  exact h (ByteArray.ext (Array.ext' e))
theorem not_empty {s : ByteArray} (h : 0 < s.size) : s.toList.isEmpty = false := by
  rw [ByteArray.toList_eq, List.isEmpty_eq_false_iff]
  intro e
  have : s.data.toList.length = s.size := by simp
  rw [e] at this
  simp at this
  omega
theorem data_ne {s : ByteArray} (h : 0 < s.size) : ¬ s.data.toList = [] := by
  intro e
  have : s.data.toList.length = s.size := by simp
  rw [e] at this
  simp at this
  omega
theorem head_at (s : ByteArray) (i : Nat) (h : i < s.size) (c : UInt8) : headIs (s.data.toList.drop i) c = (s[i] == c) := by
  unfold headIs
  rw [List.head?_drop, List.getElem?_eq_getElem (by simpa using h)]
  rfl
theorem head_end (s : ByteArray) (i : Nat) (h : s.size ≤ i) (c : UInt8) : headIs (s.data.toList.drop i) c = false := by
  unfold headIs
  rw [List.drop_eq_nil_of_le (by simpa using h)]
  rfl
theorem u8_eq_iff (a c : UInt8) : (a == c) = decide ((a.toNat : Int) = (c.toNat : Int)) := by
  by_cases h : a = c
  · subst h
    simp
  · have : ¬ a.toNat = c.toNat := fun e => h (UInt8.toNat_inj.1 e)
    rw [beq_eq_false_iff_ne.2 h]
    symm
    rw [decide_eq_false_iff_not]
    omega
theorem ext_eq (s : ByteArray) (i j : Nat) (hij : i ≤ j) (hj : j ≤ s.size) : s.extract i j = bs ((s.data.toList.drop i).take (j - i)) := by
  apply ByteArray.ext
  apply Array.ext'
  rw [ByteArray.data_extract, Array.toList_extract, List.extract_eq_take_drop]
  rfl
theorem ext_list (s : ByteArray) (i : Nat) (hi : i ≤ s.size) : (s.extract i s.size).data.toList = s.data.toList.drop i := by
  rw [ext_eq s i s.size hi (Nat.le_refl _)]
  show List.take (s.size - i) (s.data.toList.drop i) = _
  exact List.take_of_length_le (by simp)

theorem ret_drew4 {P : Program} {fn : Func} {R : Ending → World → Prop} {T : Array Value} {w2 W' : World} {G : Nat} {t : TypeId} {z0 z1 z2 z3 a b c d x : Value} (hb : Box w2 G t #[z0, z1, z2, z3])
    (hW : ∃ n, W' = (((((w2.setCell ⟨G, 0, none⟩ a).setCell ⟨G, 1, none⟩ b).setCell ⟨G, 2, none⟩ c).setCell ⟨G, 3, none⟩ d)).drewN n)
    (hres : ∀ W : World, W.cell? ⟨G, 0, none⟩ = some a → W.cell? ⟨G, 1, none⟩ = some b → W.cell? ⟨G, 2, none⟩ = some c → W.cell? ⟨G, 3, none⟩ = some d → (results fn T).run P W = .ok (.tuple #[.agg #[a, b, c, d], x]) W)
    (hQ : ∀ W : World, Box W G t #[a, b, c, d] → Fr (fun k => k = G) w2 W → R (.returned (.tuple #[.agg #[a, b, c, d], x])) W) :
    bodyPost P fn R .ret { tmps := T, defers := [] } W' := by
  obtain ⟨n, rfl⟩ := hW
  have h4 : Box ((((w2.setCell ⟨G, 0, none⟩ a).setCell ⟨G, 1, none⟩ b).setCell ⟨G, 2, none⟩ c).setCell ⟨G, 3, none⟩ d) G t #[a, b, c, d] := by
    have := (((hb.set_ 0 a).set_ 1 b).set_ 2 c).set_ 3 d
    simpa using this
  have hf : Fr (fun k => k = G) w2 ((((w2.setCell ⟨G, 0, none⟩ a).setCell ⟨G, 1, none⟩ b).setCell ⟨G, 2, none⟩ c).setCell ⟨G, 3, none⟩ d) :=
    ((((Fr.refl (fun b => b = G) w2).setCell (p := ⟨G, 0, none⟩) (.inl rfl) _).setCell (p := ⟨G, 1, none⟩) (.inl rfl) _).setCell (p := ⟨G, 2, none⟩) (.inl rfl) _).setCell (p := ⟨G, 3, none⟩) (.inl rfl) _
  have h5 := h4.drewN n
  exact bodyPost_ret (hres _ (h5.cell 0) (h5.cell 1) (h5.cell 2) (h5.cell 3)) rfl (hQ _ h5 (hf.drewN n))

/-- What the beginning leaves: the result's cell, nothing else. -/
structure Tk0 (w W : World) (g : Nat) : Prop where
  box : Box W g 24 #[.int .i64 0, .int .i64 0, .string ⟨#[]⟩, .slice none 0 0]
  new : w.heap.size ≤ g
  bl : Below w.heap.size w W
theorem Tk0.start (w : World) : Tk0 w (w.alloc (.cells #[.int .i64 0, .int .i64 0, .string ⟨#[]⟩, .slice none 0 0] 24)) w.heap.size := ⟨Box.new _ _ _, Nat.le_refl _, (Below.refl _ w).alloc (Nat.le_refl _) _⟩
theorem Tk0.below {w W W' : World} {g : Nat} (h : Tk0 w W g) (hb : Below W.heap.size W W') : Tk0 w W' g := ⟨h.box.below hb h.box.lt, h.new, h.bl.trans (hb.mono h.bl.size)⟩
theorem Tk0.end_ {w W W' : World} {g : Nat} (h : Tk0 w W g) (hF : Fr (fun k => k = g) W W') : Below w.heap.size w W' := h.bl.trans (hF.below h.bl.size (fun b e => by rw [e]; exact h.new))

set_option maxHeartbeats 2000000 in
set_option maxRecDepth 100000 in
theorem take_nil (w : World) (f : Nat) : Calls Tryd.prog 29 #[.string ⟨#[]⟩] w fun e w' => TakeOk w (f + 1) none e w' := by
  have K0 := Lib.hid (Tk0.start w)
  go_enter Tryd.func29, Tryd.ntmps29
  go_upto_region 1 with (fail)
  obtain ⟨W0, hW0⟩ : ∃ W0, w.alloc (.cells #[.int .i64 0, .int .i64 0, .string ⟨#[]⟩, .slice none 0 0] 24) = W0 := ⟨_, rfl⟩
  obtain ⟨g, hg⟩ : ∃ g, w.heap.size = g := ⟨_, rfl⟩
  rw [hW0, hg] at K0
  rw [hW0, hg]
  clear hW0
  have r0 := K0.out.box.cell 0
  have r1 := K0.out.box.cell 1
  have r2 := K0.out.box.cell 2
  have r3 := K0.out.box.cell 3
  have z0 := K0.out.box.frozen 0
  have z1 := K0.out.box.frozen 1
  have z2 := K0.out.box.frozen 2
  have z3 := K0.out.box.frozen 3
  go_wp2_with (fail)
  refine ret_store4 (x := .int .i64 0) K0.out.box (by intro W c0 c1 c2 c3; simp [results, Tryd.results29, go_sem, c0, c1, c2, c3]) ?_
  intro W hW hF
  exact ⟨0, rfl, K0.out.end_ hF⟩

theorem digs_end (L : List UInt8) (k : Nat) (hk : k ≤ 4) (hkl : k ≤ L.length) (ha : (L.take k).all digitB = true) (he : k = 4 ∨ k = L.length ∨ ∃ h : k < L.length, digitB L[k] = false) : (L.takeWhile digitB).take 4 = L.take k := by
  have e : L = L.take k ++ L.drop k := (List.take_append_drop k L).symm
  have hl : (L.take k).length = k := by rw [List.length_take]; omega
  rcases he with h4 | he
  · subst h4
    have : L.takeWhile digitB = L.take 4 ++ (L.drop 4).takeWhile digitB := by
      conv => lhs; rw [e]
      exact List.takeWhile_append_of_pos (by simpa using ha)
    rw [this, List.take_append_of_le_length (by omega), List.take_of_length_le (by omega)]
  · have hd : (L.drop k).takeWhile digitB = [] := by
      rcases he with h | ⟨h, hb⟩
      · rw [List.drop_eq_nil_of_le (by omega)]
        rfl
      · rw [List.drop_eq_getElem_cons h, List.takeWhile_cons_of_neg (by simp [hb])]
    have : L.takeWhile digitB = L.take k := by
      conv => lhs; rw [e]
      exact while_app _ _ _ ha hd
    rw [this, List.take_of_length_le (by omega)]

set_option maxHeartbeats 4000000 in
set_option maxRecDepth 100000 in
theorem take_x (s : ByteArray) (w : World) (hs : s.size ≤ 100000) (h0 : 0 < s.size) (h88 : s[0] = 88) (f : Nat) :
    Calls Tryd.prog 29 #[.string s] w fun e w' => TakeOk w (f + 1) (rVar (s.data.toList.drop 1)) e w' := by
  have he : ((s[0].toNat : Nat) : Int) = 88 := by rw [h88]; rfl
  clear h88
  obtain ⟨rv, hrv⟩ : ∃ rv, rVar (s.data.toList.drop 1) = rv := ⟨_, rfl⟩
  have HRVE := Lib.hid hrv
  rw [hrv]
  clear hrv
  have K0 := Lib.hid (Tk0.start w)
  have hne := not_nil h0
  have hemp := not_empty h0
  have hn3 : ¬ s.size = 0 := by omega
  have hlen : s.size < 9223372036854775807 := by omega
  go_enter Tryd.func29, Tryd.ntmps29
  go_upto_region 1 with (fail)
  obtain ⟨W0, hW0⟩ : ∃ W0, w.alloc (.cells #[.int .i64 0, .int .i64 0, .string ⟨#[]⟩, .slice none 0 0] 24) = W0 := ⟨_, rfl⟩
  obtain ⟨g, hg⟩ : ∃ g, w.heap.size = g := ⟨_, rfl⟩
  rw [hW0, hg] at K0
  rw [hW0, hg]
  have HG := Lib.hid hg
  clear hW0 hg
  have r0 := K0.out.box.cell 0
  have r1 := K0.out.box.cell 1
  have r2 := K0.out.box.cell 2
  have r3 := K0.out.box.cell 3
  have z0 := K0.out.box.frozen 0
  have z1 := K0.out.box.frozen 1
  have z2 := K0.out.box.frozen 2
  have z3 := K0.out.box.frozen 3

  go_wp2_with (fail)
  go_loop [4, 5] (fun a b => ∃ (j : Nat) (n : Int), 1 ≤ j ∧ j ≤ 5 ∧ j ≤ s.size ∧ a = .int .i64 n ∧ b = .int .i64 j ∧ 0 ≤ n ∧ n < 10 ^ (j - 1) ∧ Hid (((s.data.toList.drop 1).take (j - 1)).all digitB = true) ∧ Hid (numVal ((s.data.toList.drop 1).take (j - 1)) = n)) (fun a b => s.size - (intOf b).toNat)
  case atStart => exact ⟨1, 0, Nat.le_refl _, by omega, by omega, rfl, rfl, by omega, by decide, by simp [Hid], by simp [Hid, numVal]⟩
  case round =>
    obtain ⟨j, n, hj1, hj5, hjs, rfl, rfl, hn0, hn1, HA, HN⟩ := hrel
    have HX := Lib.hid (ext_eq s 1 j hj1 hjs)
    have HLN : Hid ((s.data.toList.drop 1).length = s.size - 1) := by show _ = _; simp
    have hn9 : n ≤ 9999 := by
      rcases (show j = 1 ∨ j = 2 ∨ j = 3 ∨ j = 4 ∨ j = 5 by omega) with rfl | rfl | rfl | rfl | rfl <;> simp at hn1 <;> omega
    have HDE : Hid ((j = 5 ∨ j = s.size ∨ ∃ h : j < s.size, digitB s[j] = false) → ((s.data.toList.drop 1).takeWhile digitB).take 4 = (s.data.toList.drop 1).take (j - 1)) := by
      intro h
      refine digs_end _ _ (by omega) (by rw [HLN.out]; omega) HA.out ?_
      rcases h with h | h | ⟨h, hb⟩
      · exact .inl (by omega)
      · exact .inr (.inl (by rw [HLN.out]; omega))
      · refine .inr (.inr ⟨by rw [HLN.out]; omega, ?_⟩)
        have e : (s.data.toList.drop 1)[j - 1]'(by rw [HLN.out]; omega) = s[j] := by
          simp only [List.getElem_drop]
          have : 1 + (j - 1) = j := by omega
          simp only [this]
          rfl
        rw [e]
        exact hb
    have j0 : (0 : Int) ≤ (j : Int) := by omega
    by_cases hgo : j < 5 ∧ ∃ h : j < s.size, digitB s[j] = true
    · obtain ⟨g1, hlt, hd⟩ := hgo
      have HD := Lib.hid hd
      simp only [digitB, Bool.and_eq_true, decide_eq_true_eq] at hd
      have d1 : (48 : Int) ≤ ((s[j].toNat : Nat) : Int) := by omega
      have d2 : ((s[j].toNat : Nat) : Int) ≤ 57 := by omega
      have e1 : IntKind.u8.wrap (((s[j].toNat : Nat) : Int) - 48) = ((s[j].toNat : Nat) : Int) - 48 := IntWalk.u8_in _ (by omega)
      have e2 : IntKind.i64.wrap (((s[j].toNat : Nat) : Int) - 48) = ((s[j].toNat : Nat) : Int) - 48 := IntWalk.i64_in _ (by omega)
      have e3 : IntKind.i64.wrap (10 * n) = 10 * n := IntWalk.i64_in _ (by omega)
      have e4 : IntKind.i64.wrap (10 * n + (((s[j].toNat : Nat) : Int) - 48)) = 10 * n + (((s[j].toNat : Nat) : Int) - 48) := IntWalk.i64_in _ (by omega)
      have e5 : (j : Int) < 5 := by omega
      have HTS : Hid ((s.data.toList.drop 1).take (j + 1 - 1) = (s.data.toList.drop 1).take (j - 1) ++ [s[j]]) := by
        show _ = _
        have e : j + 1 - 1 = (j - 1) + 1 := by omega
        rw [e, List.take_succ_eq_append_getElem (by rw [HLN.out]; omega)]
        congr 2
        simp only [List.getElem_drop]
        have : 1 + (j - 1) = j := by omega
        simp only [this]
        rfl
      have hn2 : Hid (10 * n + (((s[j].toNat : Nat) : Int) - 48) < 10 ^ (j + 1 - 1)) := by
        show _ < _
        rcases (show j = 1 ∨ j = 2 ∨ j = 3 ∨ j = 4 by omega) with rfl | rfl | rfl | rfl <;> simp at hn1 ⊢ <;> omega
      clear hd HDE hn1
      go_wp2_with (fail)
      go_round
      case rel => exact ⟨j + 1, _, by omega, by omega, by omega, rfl, by go_num, by omega, hn2.out, by show _ = _; rw [HTS.out, List.all_append, HA.out]; simp [HD.out], by show _ = _; rw [HTS.out, numVal_snoc, HN.out]⟩
      case measure => simp [intOf]; omega
    · have hx : (s.size : Int) ≤ (j : Int) ∨ ((j : Int) < (s.size : Int) ∧ (5 : Int) ≤ (j : Int)) ∨ (∃ h : j < s.size, (j : Int) < 5 ∧ ((s[j].toNat : Nat) : Int) < 48) ∨ (∃ h : j < s.size, (j : Int) < 5 ∧ (48 : Int) ≤ ((s[j].toNat : Nat) : Int) ∧ (57 : Int) < ((s[j].toNat : Nat) : Int)) := by
        by_cases a1 : j < s.size
        · by_cases a2 : j < 5
          · have hb : ¬ digitB s[j] = true := fun e => hgo ⟨a2, a1, e⟩
            simp only [digitB, Bool.and_eq_true, decide_eq_true_eq] at hb
            by_cases a3 : ((s[j].toNat : Nat) : Int) < 48
            · exact .inr (.inr (.inl ⟨a1, by omega, a3⟩))
            · exact .inr (.inr (.inr ⟨a1, by omega, by omega, by omega⟩))
          · exact .inr (.inl ⟨by omega, by omega⟩)
        · exact .inl (by omega)
      have hde := HDE.out (by
        by_cases a1 : j < s.size
        · by_cases a2 : j < 5
          · refine .inr (.inr ⟨a1, ?_⟩)
            cases hb : digitB s[j] with
            | false => rfl
            | true => exact absurd ⟨a2, a1, hb⟩ hgo
          · exact .inl (by omega)
        · exact .inr (.inl (by omega)))
      have HDS := Lib.hid hde
      clear hgo hde HDE
      by_cases hj : j = 1
      · subst hj
        have HRV : Hid (rVar (s.data.toList.drop 1) = none) := by
          show _ = _
          unfold rVar
          rw [HDS.out, if_pos (by simp)]
        have jj : ((1 : Nat) : Int) = 1 := rfl
        rcases hx with hx | ⟨hx, hx2⟩ | ⟨hlt, hx, hx2⟩ | ⟨hlt, hx, hx2, hx3⟩
        rotate_left 1
        · exact absurd hx2 (by omega)
        all_goals
          go_upto_region 8 with (fail)
          go_quiet (fail)
          go_wp2_with (fail)
          refine ret_drew4 (x := .int .i64 0) K0.out.box ⟨nq, rfl⟩ (by intro W c0 c1 c2 c3; simp [results, Tryd.results29, go_sem, c0, c1, c2, c3]) ?_
          intro W hW hF
          rw [← HRVE.out, HRV.out]
          exact ⟨0, rfl, K0.out.end_ hF⟩
      · have j2 : (1 : Int) < (j : Int) := by omega
        have jn : ¬ (j : Int) = 1 := by omega
        have j3 : (j : Int) ≤ (s.size : Int) := by omega
        have j4 : (1 : Int) ≤ (j : Int) := by omega
        have HL1 : Hid (((s.data.toList.drop 1).take (j - 1)).length = j - 1) := by
          show _ = _
          rw [List.length_take, HLN.out]
          omega
        by_cases hit : Lib.itoa n = (s.data.toList.drop 1).take (j - 1)
        · have HRV : Hid (rVar (s.data.toList.drop 1) = some (.node 0 n ⟨#[]⟩ [], j)) := by
            show _ = _
            unfold rVar
            rw [HDS.out, HN.out, if_neg (by intro e; have := HL1.out; rw [e] at this; simp at this; omega), if_pos hit, HL1.out]
            have : 1 + (j - 1) = j := by omega
            rw [this]
          have HNI : Hid ((⟨(Lib.itoa n).toArray⟩ : ByteArray) = s.extract 1 j) := by
            show _ = _
            rw [HX.out, hit]
            rfl
          have HNUM : Hid (∀ W, Calls Tryd.prog 26 #[.int .i64 n] W fun e w' => e = .returned (.string (s.extract 1 j)) ∧ ∃ m, w' = W.drewN m) := fun W => by
            have h := num_itoa n hn0 (by omega) W
            rw [HNI.out] at h
            exact h
          clear hit HNI
          rcases hx with hx | ⟨hx, hx2⟩ | ⟨hlt, hx, hx2⟩ | ⟨hlt, hx, hx2, hx3⟩
          all_goals
            go_upto_region 8 with (fail)
            go_quiet ((go_at_call 26; exact Calls.quiet_of (HNUM.out _)))
            go_wp2_with (fail)
            refine ret_drew4 (x := .int .i64 j) K0.out.box ⟨nq, rfl⟩ (by intro W c0 c1 c2 c3; simp [results, Tryd.results29, go_sem, c0, c1, c2, c3]) ?_
            intro W hW hF
            rw [← HRVE.out, HRV.out]
            exact ⟨_, rfl, reads_leaf (Nat.zero_le _) (by decide) (wf64 n (by omega) (by omega)), K0.out.end_ hF⟩
        · have HRV : Hid (rVar (s.data.toList.drop 1) = none) := by
            show _ = _
            unfold rVar
            rw [HDS.out, HN.out, if_neg (by intro e; have := HL1.out; rw [e] at this; simp at this; omega), if_neg hit]
          have hcmp : ((⟨(Lib.itoa n).toArray⟩ : ByteArray).toList == (s.extract 1 j).toList) = false := ne_strs (by
            rw [HX.out]
            intro e
            apply hit
            have := congrArg (fun b : ByteArray => b.data.toList) e
            simpa [bs] using this)
          obtain ⟨ni, hni⟩ : ∃ ni, (⟨(Lib.itoa n).toArray⟩ : ByteArray) = ni := ⟨_, rfl⟩
          rw [hni] at hcmp
          have HNI := Lib.hid hni
          have HNUM : Hid (∀ W, Calls Tryd.prog 26 #[.int .i64 n] W fun e w' => e = .returned (.string ni) ∧ ∃ m, w' = W.drewN m) := fun W => by
            have h := num_itoa n hn0 (by omega) W
            rw [HNI.out] at h
            exact h
          clear hit hni HNI
          rcases hx with hx | ⟨hx, hx2⟩ | ⟨hlt, hx, hx2⟩ | ⟨hlt, hx, hx2, hx3⟩
          all_goals
            go_upto_region 8 with (fail)
            go_quiet ((go_at_call 26; exact Calls.quiet_of (HNUM.out _)))
            go_wp2_with (fail)
            refine ret_drew4 (x := .int .i64 0) K0.out.box ⟨nq, rfl⟩ (by intro W c0 c1 c2 c3; simp [results, Tryd.results29, go_sem, c0, c1, c2, c3]) ?_
            intro W hW hF
            rw [← HRVE.out, HRV.out]
            exact ⟨0, rfl, K0.out.end_ hF⟩
end Go.Proofs.YtkfmagbaklikmaaDoor
