/-
  The reader's named and term, by contracts; Parse. Conditions: a text of at most 100000 bytes (Parse: any); the library's variables as laid.
-/
import Derived.Test.YtkfmagbaklikmaaDoorParseE
namespace Go.Proofs.YtkfmagbaklikmaaDoor
open Go Go.RowKit
set_option linter.unusedVariables false
set_option linter.unusedSimpArgs false

set_option maxHeartbeats 2000000 in
theorem named_any {B : Nat} {w : World} {g : Nat} {s : ByteArray} {i m F : Nat} {p : List UInt8 → Option (Tm × Nat)} (h : Rd w g s i) (hs : s.size ≤ 100000) (hL : Laid B w) (hg : B ≤ g) (hT : TermC B g s p m F) (hm : s.size - i < m + 1) :
    Calls Tryd.prog 38 #[.pointer (some ⟨g, 0, none⟩)] w fun e w' => PRes w g s (F + 1) i (pNamed p (s.data.toList.drop i)) e w' := by
  have S0 := Lib.hid (St.start h hL hg)
  have HT := Lib.hid hT
  have HD := Lib.hid (extract_eq nameB s i h.2)
  have HW := Lib.hid (wend_le nameB s i h.2)
  have HL := Lib.hid (show wend nameB s i = i + ((s.data.toList.drop i).takeWhile nameB).length from rfl)
  obtain ⟨d, hd⟩ : ∃ d, (s.data.toList.drop i).takeWhile nameB = d := ⟨_, rfl⟩
  have hr : pNamed p (s.data.toList.drop i) = if nameOk ⟨d.toArray⟩ = true then
      if headIs (s.data.toList.drop (i + d.length)) 40 = true then
        match pArgs p 8 (s.data.toList.drop (i + d.length + 1)) with
        | none => none
        | some (ts, n) => some (.node 2 0 ⟨d.toArray⟩ ts, d.length + 1 + n)
      else some (.node 1 0 ⟨d.toArray⟩ [], d.length)
    else none := by
    unfold pNamed
    rw [hd, drop_drop, drop_drop, ← Nat.add_assoc]
    rfl
  rw [hd] at HD HL
  obtain ⟨r, hr0⟩ : ∃ r, pNamed p (s.data.toList.drop i) = r := ⟨_, rfl⟩
  rw [hr0] at hr ⊢
  have HR := Lib.hid hr
  have HWh := Lib.hid (while_names S0.out.rd (by unfold maxLen; omega))
  obtain ⟨nm, hnm⟩ : ∃ nm : ByteArray, (⟨d.toArray⟩ : ByteArray) = nm := ⟨_, rfl⟩
  rw [HD.out, hnm, HL.out] at HWh
  rw [hnm] at HR
  have hnz : nm.size ≤ 100000 := by
    have e1 := HW.out
    rw [HL.out] at e1
    rw [← hnm]
    simp only [ByteArray.size, List.size_toArray]
    omega
  clear hr hr0 hd hT h hL hnm HD HW HL
  obtain ⟨G, hG⟩ : ∃ G, w.heap.size = G := ⟨_, rfl⟩
  obtain ⟨wa, hwa⟩ : ∃ wa, w.alloc (.cells #[.int .i64 0, .int .i64 0, .string ⟨#[]⟩, .slice none 0 0] 28) = wa := ⟨_, rfl⟩
  have HWA := Lib.hid hwa
  rw [hwa] at HWh S0
  rw [hG] at S0
  have HG := Lib.hid hG
  clear hwa hG
  obtain ⟨z, hz⟩ : ∃ z, nameOk nm = z := ⟨_, rfl⟩
  have H1 := Lib.hid hz
  clear hz
  cases z
  · have HX : Hid (r = none) := by
      show _ = _
      rw [HR.out, H1.out]
      rfl
    go_enter Tryd.func38, Tryd.ntmps38
    go_wp2_with (fail)
    rw [HWA.out, HG.out]
    refine HWh.out.mono ?_
    rintro e w1 ⟨rfl, hj1, hf1⟩
    have S1 := Lib.hid (S0.out.go hf1 hj1)
    have c0 : w1.cell? ⟨G, 0, none⟩ = some (.int .i64 0) := S1.out.box.cell 0
    have c1 : w1.cell? ⟨G, 1, none⟩ = some (.int .i64 0) := S1.out.box.cell 1
    have c2 : w1.cell? ⟨G, 2, none⟩ = some (.string ⟨#[]⟩) := S1.out.box.cell 2
    have c3 : w1.cell? ⟨G, 3, none⟩ = some (.slice none 0 0) := S1.out.box.cell 3
    have f0 : w1.frozen? ⟨G, 0, none⟩ = false := S1.out.box.frozen 0
    have f1 : w1.frozen? ⟨G, 1, none⟩ = false := S1.out.box.frozen 1
    have f2 : w1.frozen? ⟨G, 2, none⟩ = false := S1.out.box.frozen 2
    have f3 : w1.frozen? ⟨G, 3, none⟩ = false := S1.out.box.frozen 3
    clear hj1 hf1
    go_wp2_with (go_at_call 20; refine (tname_is nm H1.out _ (by unfold maxLen; omega)).mono ?_; rintro e w' ⟨rfl, rfl⟩)
    refine ret_store4 (x := .bool false) S1.out.box (by intro W c0 c1 c2 c3; simp [results, Tryd.results38, go_sem, c0, c1, c2, c3]) ?_
    intro W hW hF
    exact S1.out.no hF HX
  · obtain ⟨z, hz⟩ : ∃ z, headIs (s.data.toList.drop (i + d.length)) 40 = z := ⟨_, rfl⟩
    have H2 := Lib.hid hz
    clear hz
    cases z
    · have HX : Hid (r = some (.node 1 0 nm [], d.length)) := by
        show _ = _
        rw [HR.out, H1.out, H2.out]
        rfl
      go_enter Tryd.func38, Tryd.ntmps38
      go_wp2_with (fail)
      rw [HWA.out, HG.out]
      refine HWh.out.mono ?_
      rintro e w1 ⟨rfl, hj1, hf1⟩
      have S1 := Lib.hid (S0.out.go hf1 hj1)
      clear hj1 hf1
      go_wp2_with (first
        | (go_at_call 20; refine (tname_is nm H1.out _ (by unfold maxLen; omega)).mono ?_; rintro e w' ⟨rfl, rfl⟩)
        | (go_at_call 35; refine (skip_is_no S1.out.rd hs 40 _ rfl H2.out).mono ?_; rintro e w2 ⟨rfl, hj2, hf2⟩; have S2 := Lib.hid (S1.out.go hf2 hj2); clear hj2 hf2; have c0 : w2.cell? ⟨G, 0, none⟩ = some (.int .i64 0) := S2.out.box.cell 0; have c1 : w2.cell? ⟨G, 1, none⟩ = some (.int .i64 0) := S2.out.box.cell 1; have c2 : w2.cell? ⟨G, 2, none⟩ = some (.string ⟨#[]⟩) := S2.out.box.cell 2; have c3 : w2.cell? ⟨G, 3, none⟩ = some (.slice none 0 0) := S2.out.box.cell 3; have f0 : w2.frozen? ⟨G, 0, none⟩ = false := S2.out.box.frozen 0; have f1 : w2.frozen? ⟨G, 1, none⟩ = false := S2.out.box.frozen 1; have f2 : w2.frozen? ⟨G, 2, none⟩ = false := S2.out.box.frozen 2; have f3 : w2.frozen? ⟨G, 3, none⟩ = false := S2.out.box.frozen 3))
      refine ret_store4 (x := .bool true) S2.out.box (by intro W c0 c1 c2 c3; simp [results, Tryd.results38, go_sem, c0, c1, c2, c3]) ?_
      intro W hW hF
      rw [HX.out]
      have o1 := S2.out.old
      have o2 := S2.out.new
      exact ⟨_, rfl, S2.out.rd.fr hF (by omega), S2.out.fr.new hF S2.out.new, ⟨none, 0, rfl, by simp, by simp [maxLen], by unfold maxLen; omega, by decide, by decide, fun j hj => by simp at hj⟩⟩
    · obtain ⟨r2, hr2⟩ : ∃ r2, pArgs p 8 (s.data.toList.drop (i + d.length + 1)) = r2 := ⟨_, rfl⟩
      have H3 := Lib.hid hr2
      clear hr2
      cases r2 with
      | none =>
        have HX : Hid (r = none) := by
          show _ = _
          rw [HR.out, H1.out, H2.out, if_pos rfl, if_pos rfl, H3.out]
        go_enter Tryd.func38, Tryd.ntmps38
        go_wp2_with (fail)
        rw [HWA.out, HG.out]
        refine HWh.out.mono ?_
        rintro e w1 ⟨rfl, hj1, hf1⟩
        have S1 := Lib.hid (S0.out.go hf1 hj1)
        clear hj1 hf1
        go_wp2_with (first
          | (go_at_call 20; refine (tname_is nm H1.out _ (by unfold maxLen; omega)).mono ?_; rintro e w' ⟨rfl, rfl⟩)
          | (go_at_call 35; refine (skip_is_yes S1.out.rd hs 40 _ rfl H2.out).mono ?_; rintro e w2 ⟨rfl, hj2, hf2⟩; have S2 := Lib.hid (S1.out.go hf2 hj2); clear hj2 hf2)
          | (go_at_call 46; have HC2 := args_any S2.out.rd hs S2.out.laid S2.out.top HT.out (by have := S2.out.rd.2; omega); rw [H3.out] at HC2; refine HC2.mono ?_; rintro e w3 ⟨rfl, ⟨j3, hj3⟩, hf3⟩; have S3 := Lib.hid (S2.out.go hf3 hj3); clear HC2 hj3 hf3; have c0 : w3.cell? ⟨G, 0, none⟩ = some (.int .i64 0) := S3.out.box.cell 0; have c1 : w3.cell? ⟨G, 1, none⟩ = some (.int .i64 0) := S3.out.box.cell 1; have c2 : w3.cell? ⟨G, 2, none⟩ = some (.string ⟨#[]⟩) := S3.out.box.cell 2; have c3 : w3.cell? ⟨G, 3, none⟩ = some (.slice none 0 0) := S3.out.box.cell 3; have f0 : w3.frozen? ⟨G, 0, none⟩ = false := S3.out.box.frozen 0; have f1 : w3.frozen? ⟨G, 1, none⟩ = false := S3.out.box.frozen 1; have f2 : w3.frozen? ⟨G, 2, none⟩ = false := S3.out.box.frozen 2; have f3 : w3.frozen? ⟨G, 3, none⟩ = false := S3.out.box.frozen 3))
        refine ret_store4 (x := .bool false) S3.out.box (by intro W c0 c1 c2 c3; simp [results, Tryd.results38, go_sem, c0, c1, c2, c3]) ?_
        intro W hW hF
        exact S3.out.no hF HX
      | some x =>
        obtain ⟨ts, n⟩ := x
        have HX : Hid (r = some (.node 2 0 nm ts, d.length + 1 + n)) := by
          show _ = _
          rw [HR.out, H1.out, H2.out, if_pos rfl, if_pos rfl, H3.out]
        go_enter Tryd.func38, Tryd.ntmps38
        go_wp2_with (fail)
        rw [HWA.out, HG.out]
        refine HWh.out.mono ?_
        rintro e w1 ⟨rfl, hj1, hf1⟩
        have S1 := Lib.hid (S0.out.go hf1 hj1)
        clear hj1 hf1
        go_wp2_with (first
          | (go_at_call 20; refine (tname_is nm H1.out _ (by unfold maxLen; omega)).mono ?_; rintro e w' ⟨rfl, rfl⟩)
          | (go_at_call 35; refine (skip_is_yes S1.out.rd hs 40 _ rfl H2.out).mono ?_; rintro e w2 ⟨rfl, hj2, hf2⟩; have S2 := Lib.hid (S1.out.go hf2 hj2); clear hj2 hf2)
          | (go_at_call 46; have HC2 := args_any S2.out.rd hs S2.out.laid S2.out.top HT.out (by have := S2.out.rd.2; omega); rw [H3.out] at HC2; refine HC2.mono ?_; rintro e w3 ⟨A3, cp3, rfl, hj3, hf3, hrd3⟩; have HRD := Lib.hid (hrd3 2 0 nm (by unfold maxLen; omega) (by decide) (by decide)); have S3 := Lib.hid (S2.out.go hf3 hj3); clear HC2 hj3 hf3 hrd3; have c0 : w3.cell? ⟨G, 0, none⟩ = some (.int .i64 0) := S3.out.box.cell 0; have c1 : w3.cell? ⟨G, 1, none⟩ = some (.int .i64 0) := S3.out.box.cell 1; have c2 : w3.cell? ⟨G, 2, none⟩ = some (.string ⟨#[]⟩) := S3.out.box.cell 2; have c3 : w3.cell? ⟨G, 3, none⟩ = some (.slice none 0 0) := S3.out.box.cell 3; have f0 : w3.frozen? ⟨G, 0, none⟩ = false := S3.out.box.frozen 0; have f1 : w3.frozen? ⟨G, 1, none⟩ = false := S3.out.box.frozen 1; have f2 : w3.frozen? ⟨G, 2, none⟩ = false := S3.out.box.frozen 2; have f3 : w3.frozen? ⟨G, 3, none⟩ = false := S3.out.box.frozen 3))
        refine ret_store4 (x := .bool true) S3.out.box (by intro W c0 c1 c2 c3; simp [results, Tryd.results38, go_sem, c0, c1, c2, c3]) ?_
        intro W hW hF
        rw [HX.out]
        have o1 := S3.out.old
        have o2 := S3.out.new
        have o3 := S2.out.box.lt
        have o4 := S2.out.fr.size
        have o5 := hF.size
        refine ⟨_, rfl, ?_, S3.out.fr.new hF S3.out.new, ?_⟩
        · have e : i + (d.length + 1 + n) = i + d.length + 1 + n := by omega
          rw [e]
          exact S3.out.rd.fr hF (by omega)
        · exact (HRD.out.fr hF (fun b hb => ⟨hb.2, by omega⟩)).more (fun b hb => ⟨by omega, by omega⟩)

theorem St.yes {B : Nat} {w wk w2 W : World} {g : Nat} {s : ByteArray} {j G F : Nat} {t : Tm} {v : Value} (h : St B w w2 g s j G) (hz : w.heap.size ≤ wk.heap.size) (hG : G < wk.heap.size)
    (hr : Reads w2 (fun b => wk.heap.size ≤ b ∧ b < w2.heap.size) F t v) (hF : Fr (fun k => k = G) w2 W) : POk w g s F t j (.returned (.tuple #[v, .bool true])) W := by
  have o1 := h.old
  have o2 := h.new
  have o3 := hF.size
  exact ⟨v, rfl, h.rd.fr hF (by omega), h.fr.new hF h.new, (hr.fr hF (fun b hb => ⟨hb.2, by omega⟩)).more (fun b hb => ⟨by omega, by omega⟩)⟩

set_option maxHeartbeats 4000000 in
theorem term_step {B : Nat} {w : World} {g : Nat} {s : ByteArray} {i f : Nat} (h : Rd w g s i) (hs : s.size ≤ 100000) (hL : Laid B w) (hg : B ≤ g) (hT : TermC B g s (pTerm f) f f) (hm : s.size - i < f + 1) :
    Calls Tryd.prog 24 #[.pointer (some ⟨g, 0, none⟩)] w fun e w' => PRes w g s (f + 1) i (pTerm (f + 1) (s.data.toList.drop i)) e w' := by
  have S0 := Lib.hid (St.start h hL hg)
  have HT := Lib.hid hT
  have hr : pTerm (f + 1) (s.data.toList.drop i) = if headIs (s.data.toList.drop i) 88 = true then shN 1 (pVar (s.data.toList.drop (i + 1)))
    else if headIs (s.data.toList.drop i) 91 = true then shN 1 (pList (pTerm f) (s.data.toList.drop (i + 1)))
    else pNamed (pTerm f) (s.data.toList.drop i) := by
    unfold pTerm
    rw [drop_drop]
  obtain ⟨r, hr0⟩ : ∃ r, pTerm (f + 1) (s.data.toList.drop i) = r := ⟨_, rfl⟩
  rw [hr0] at hr ⊢
  have HR := Lib.hid hr
  clear hr hr0 hT h hL
  obtain ⟨G, hG⟩ : ∃ G, w.heap.size = G := ⟨_, rfl⟩
  obtain ⟨wa, hwa⟩ : ∃ wa, w.alloc (.cells #[.int .i64 0, .int .i64 0, .string ⟨#[]⟩, .slice none 0 0] 28) = wa := ⟨_, rfl⟩
  have HWA := Lib.hid hwa
  have HZA := Lib.hid (show wa.heap.size = w.heap.size + 1 by rw [← hwa]; simp)
  rw [hwa] at S0
  rw [hG] at S0
  have HG := Lib.hid hG
  clear hwa hG
  obtain ⟨z, hz⟩ : ∃ z, headIs (s.data.toList.drop i) 88 = z := ⟨_, rfl⟩
  have H1 := Lib.hid hz
  clear hz
  have hfl : True := trivial
  cases z
  · obtain ⟨z, hz⟩ : ∃ z, headIs (s.data.toList.drop i) 91 = z := ⟨_, rfl⟩
    have H2 := Lib.hid hz
    clear hz
    cases z
    · obtain ⟨r1, hr1⟩ : ∃ r1, pNamed (pTerm f) (s.data.toList.drop i) = r1 := ⟨_, rfl⟩
      have H3 := Lib.hid hr1
      have HX : Hid (r = r1) := by
        show _ = _
        rw [HR.out, H1.out, H2.out, ← hr1]
        rfl
      clear hr1
      cases r1 with
      | none =>
        go_enter Tryd.func24, Tryd.ntmps24
        go_wp2_with (fail)
        rw [HWA.out, HG.out]
        refine (skip_is_no S0.out.rd hs 88 _ rfl H1.out).mono ?_
        rintro e w1 ⟨rfl, hj1, hf1⟩
        have S1 := Lib.hid (S0.out.go hf1 hj1)
        clear hj1 hf1
        go_wp2_with (first
          | (go_at_call 35; refine (skip_is_no S1.out.rd hs 91 _ rfl H2.out).mono ?_; rintro e w2 ⟨rfl, hj2, hf2⟩; have S2 := Lib.hid (S1.out.go hf2 hj2); clear hj2 hf2)
          | (go_at_call 38; have HC2 := named_any S2.out.rd hs S2.out.laid S2.out.top HT.out hm; rw [H3.out] at HC2; refine HC2.mono ?_; rintro e w5 ⟨rfl, ⟨j5, hj5⟩, hf5⟩; have S5 := Lib.hid (S2.out.go hf5 hj5); clear HC2 hj5 hf5; have c0 : w5.cell? ⟨G, 0, none⟩ = some (.int .i64 0) := S5.out.box.cell 0; have c1 : w5.cell? ⟨G, 1, none⟩ = some (.int .i64 0) := S5.out.box.cell 1; have c2 : w5.cell? ⟨G, 2, none⟩ = some (.string ⟨#[]⟩) := S5.out.box.cell 2; have c3 : w5.cell? ⟨G, 3, none⟩ = some (.slice none 0 0) := S5.out.box.cell 3; have f0 : w5.frozen? ⟨G, 0, none⟩ = false := S5.out.box.frozen 0; have f1 : w5.frozen? ⟨G, 1, none⟩ = false := S5.out.box.frozen 1; have f2 : w5.frozen? ⟨G, 2, none⟩ = false := S5.out.box.frozen 2; have f3 : w5.frozen? ⟨G, 3, none⟩ = false := S5.out.box.frozen 3))
        refine ret_store4 (x := .bool false) S5.out.box (by intro W c0 c1 c2 c3; simp [results, Tryd.results24, go_sem, c0, c1, c2, c3]) ?_
        intro W hW hF
        exact S5.out.no hF HX
      | some x =>
        obtain ⟨t, n⟩ := x
        go_enter Tryd.func24, Tryd.ntmps24
        go_wp2_with (fail)
        rw [HWA.out, HG.out]
        refine (skip_is_no S0.out.rd hs 88 _ rfl H1.out).mono ?_
        rintro e w1 ⟨rfl, hj1, hf1⟩
        have S1 := Lib.hid (S0.out.go hf1 hj1)
        clear hj1 hf1
        go_wp2_with (first
          | (go_at_call 35; refine (skip_is_no S1.out.rd hs 91 _ rfl H2.out).mono ?_; rintro e w2 ⟨rfl, hj2, hf2⟩; have S2 := Lib.hid (S1.out.go hf2 hj2); clear hj2 hf2)
          | (go_at_call 38; have HC2 := named_any S2.out.rd hs S2.out.laid S2.out.top HT.out hm; rw [H3.out] at HC2; refine HC2.mono ?_; rintro e w5 ⟨v5, rfl, hj5, hf5, hrd5⟩; obtain ⟨k5, n5, s5, A5, l5, cp5, hv5⟩ := hrd5.form; rw [hv5] at hrd5; rw [hv5]; clear hv5; have HRD := Lib.hid hrd5; have S5 := Lib.hid (S2.out.go hf5 hj5); clear HC2 hj5 hf5 hrd5; have c0 : w5.cell? ⟨G, 0, none⟩ = some (.int .i64 0) := S5.out.box.cell 0; have c1 : w5.cell? ⟨G, 1, none⟩ = some (.int .i64 0) := S5.out.box.cell 1; have c2 : w5.cell? ⟨G, 2, none⟩ = some (.string ⟨#[]⟩) := S5.out.box.cell 2; have c3 : w5.cell? ⟨G, 3, none⟩ = some (.slice none 0 0) := S5.out.box.cell 3; have f0 : w5.frozen? ⟨G, 0, none⟩ = false := S5.out.box.frozen 0; have f1 : w5.frozen? ⟨G, 1, none⟩ = false := S5.out.box.frozen 1; have f2 : w5.frozen? ⟨G, 2, none⟩ = false := S5.out.box.frozen 2; have f3 : w5.frozen? ⟨G, 3, none⟩ = false := S5.out.box.frozen 3))
        refine ret_store4 (x := .bool true) S5.out.box (by intro W c0 c1 c2 c3; simp [results, Tryd.results24, go_sem, c0, c1, c2, c3]) ?_
        intro W hW hF
        rw [HX.out]
        have hza := HZA.out
        have o0 := HG.out
        have o1 := S2.out.fr.size
        have o2 := S2.out.box.lt
        exact S5.out.yes o1 o2 HRD.out hF
    · obtain ⟨r1, hr1⟩ : ∃ r1, pList (pTerm f) (s.data.toList.drop (i + 1)) = r1 := ⟨_, rfl⟩
      have H3 := Lib.hid hr1
      have HX : Hid (r = shN 1 r1) := by
        show _ = _
        rw [HR.out, H1.out, H2.out, ← hr1]
        rfl
      clear hr1
      cases r1 with
      | none =>
        go_enter Tryd.func24, Tryd.ntmps24
        go_wp2_with (fail)
        rw [HWA.out, HG.out]
        refine (skip_is_no S0.out.rd hs 88 _ rfl H1.out).mono ?_
        rintro e w1 ⟨rfl, hj1, hf1⟩
        have S1 := Lib.hid (S0.out.go hf1 hj1)
        clear hj1 hf1
        go_wp2_with (first
          | (go_at_call 35; refine (skip_is_yes S1.out.rd hs 91 _ rfl H2.out).mono ?_; rintro e w2 ⟨rfl, hj2, hf2⟩; have S2 := Lib.hid (S1.out.go hf2 hj2); clear hj2 hf2)
          | (go_at_call 37; have HC2 := list_any S2.out.rd hs S2.out.laid S2.out.top HT.out (by have := S2.out.rd.2; omega); rw [H3.out] at HC2; refine HC2.mono ?_; rintro e w5 ⟨rfl, ⟨j5, hj5⟩, hf5⟩; have S5 := Lib.hid (S2.out.go hf5 hj5); clear HC2 hj5 hf5; have c0 : w5.cell? ⟨G, 0, none⟩ = some (.int .i64 0) := S5.out.box.cell 0; have c1 : w5.cell? ⟨G, 1, none⟩ = some (.int .i64 0) := S5.out.box.cell 1; have c2 : w5.cell? ⟨G, 2, none⟩ = some (.string ⟨#[]⟩) := S5.out.box.cell 2; have c3 : w5.cell? ⟨G, 3, none⟩ = some (.slice none 0 0) := S5.out.box.cell 3; have f0 : w5.frozen? ⟨G, 0, none⟩ = false := S5.out.box.frozen 0; have f1 : w5.frozen? ⟨G, 1, none⟩ = false := S5.out.box.frozen 1; have f2 : w5.frozen? ⟨G, 2, none⟩ = false := S5.out.box.frozen 2; have f3 : w5.frozen? ⟨G, 3, none⟩ = false := S5.out.box.frozen 3))
        refine ret_store4 (x := .bool false) S5.out.box (by intro W c0 c1 c2 c3; simp [results, Tryd.results24, go_sem, c0, c1, c2, c3]) ?_
        intro W hW hF
        exact S5.out.no hF (by show _ = _; rw [HX.out]; rfl)
      | some x =>
        obtain ⟨t, n⟩ := x
        go_enter Tryd.func24, Tryd.ntmps24
        go_wp2_with (fail)
        rw [HWA.out, HG.out]
        refine (skip_is_no S0.out.rd hs 88 _ rfl H1.out).mono ?_
        rintro e w1 ⟨rfl, hj1, hf1⟩
        have S1 := Lib.hid (S0.out.go hf1 hj1)
        clear hj1 hf1
        go_wp2_with (first
          | (go_at_call 35; refine (skip_is_yes S1.out.rd hs 91 _ rfl H2.out).mono ?_; rintro e w2 ⟨rfl, hj2, hf2⟩; have S2 := Lib.hid (S1.out.go hf2 hj2); clear hj2 hf2)
          | (go_at_call 37; have HC2 := list_any S2.out.rd hs S2.out.laid S2.out.top HT.out (by have := S2.out.rd.2; omega); rw [H3.out] at HC2; refine HC2.mono ?_; rintro e w5 ⟨v5, rfl, hj5, hf5, hrd5⟩; obtain ⟨k5, n5, s5, A5, l5, cp5, hv5⟩ := hrd5.form; rw [hv5] at hrd5; rw [hv5]; clear hv5; have HRD := Lib.hid hrd5; have S5 := Lib.hid (S2.out.go hf5 hj5); clear HC2 hj5 hf5 hrd5; have c0 : w5.cell? ⟨G, 0, none⟩ = some (.int .i64 0) := S5.out.box.cell 0; have c1 : w5.cell? ⟨G, 1, none⟩ = some (.int .i64 0) := S5.out.box.cell 1; have c2 : w5.cell? ⟨G, 2, none⟩ = some (.string ⟨#[]⟩) := S5.out.box.cell 2; have c3 : w5.cell? ⟨G, 3, none⟩ = some (.slice none 0 0) := S5.out.box.cell 3; have f0 : w5.frozen? ⟨G, 0, none⟩ = false := S5.out.box.frozen 0; have f1 : w5.frozen? ⟨G, 1, none⟩ = false := S5.out.box.frozen 1; have f2 : w5.frozen? ⟨G, 2, none⟩ = false := S5.out.box.frozen 2; have f3 : w5.frozen? ⟨G, 3, none⟩ = false := S5.out.box.frozen 3))
        refine ret_store4 (x := .bool true) S5.out.box (by intro W c0 c1 c2 c3; simp [results, Tryd.results24, go_sem, c0, c1, c2, c3]) ?_
        intro W hW hF
        rw [HX.out]
        have hza := HZA.out
        have o0 := HG.out
        have o1 := S2.out.fr.size
        have o2 := S2.out.box.lt
        have e : i + (1 + n) = i + 1 + n := by omega
        show POk _ _ _ _ _ _ _ _
        rw [e]
        exact S5.out.yes o1 o2 HRD.out hF
  · obtain ⟨r1, hr1⟩ : ∃ r1, pVar (s.data.toList.drop (i + 1)) = r1 := ⟨_, rfl⟩
    have H3 := Lib.hid hr1
    have HX : Hid (r = shN 1 r1) := by
      show _ = _
      rw [HR.out, H1.out, ← hr1]
      rfl
    clear hr1
    cases r1 with
    | none =>
      go_enter Tryd.func24, Tryd.ntmps24
      go_wp2_with (fail)
      rw [HWA.out, HG.out]
      refine (skip_is_yes S0.out.rd hs 88 _ rfl H1.out).mono ?_
      rintro e w1 ⟨rfl, hj1, hf1⟩
      have S1 := Lib.hid (S0.out.go hf1 hj1)
      clear hj1 hf1
      go_wp2_with (go_at_call 36; have HC2 := variable_any (f := f) S1.out.rd hs S1.out.laid S1.out.top; rw [H3.out] at HC2; refine HC2.mono ?_; rintro e w5 ⟨rfl, ⟨j5, hj5⟩, hf5⟩; have S5 := Lib.hid (S1.out.go hf5 hj5); clear HC2 hj5 hf5; have c0 : w5.cell? ⟨G, 0, none⟩ = some (.int .i64 0) := S5.out.box.cell 0; have c1 : w5.cell? ⟨G, 1, none⟩ = some (.int .i64 0) := S5.out.box.cell 1; have c2 : w5.cell? ⟨G, 2, none⟩ = some (.string ⟨#[]⟩) := S5.out.box.cell 2; have c3 : w5.cell? ⟨G, 3, none⟩ = some (.slice none 0 0) := S5.out.box.cell 3; have f0 : w5.frozen? ⟨G, 0, none⟩ = false := S5.out.box.frozen 0; have f1 : w5.frozen? ⟨G, 1, none⟩ = false := S5.out.box.frozen 1; have f2 : w5.frozen? ⟨G, 2, none⟩ = false := S5.out.box.frozen 2; have f3 : w5.frozen? ⟨G, 3, none⟩ = false := S5.out.box.frozen 3)
      refine ret_store4 (x := .bool false) S5.out.box (by intro W c0 c1 c2 c3; simp [results, Tryd.results24, go_sem, c0, c1, c2, c3]) ?_
      intro W hW hF
      exact S5.out.no hF (by show _ = _; rw [HX.out]; rfl)
    | some x =>
      obtain ⟨t, n⟩ := x
      go_enter Tryd.func24, Tryd.ntmps24
      go_wp2_with (fail)
      rw [HWA.out, HG.out]
      refine (skip_is_yes S0.out.rd hs 88 _ rfl H1.out).mono ?_
      rintro e w1 ⟨rfl, hj1, hf1⟩
      have S1 := Lib.hid (S0.out.go hf1 hj1)
      clear hj1 hf1
      go_wp2_with (go_at_call 36; have HC2 := variable_any (f := f) S1.out.rd hs S1.out.laid S1.out.top; rw [H3.out] at HC2; refine HC2.mono ?_; rintro e w5 ⟨v5, rfl, hj5, hf5, hrd5⟩; obtain ⟨k5, n5, s5, A5, l5, cp5, hv5⟩ := hrd5.form; rw [hv5] at hrd5; rw [hv5]; clear hv5; have HRD := Lib.hid hrd5; have S5 := Lib.hid (S1.out.go hf5 hj5); clear HC2 hj5 hf5 hrd5; have c0 : w5.cell? ⟨G, 0, none⟩ = some (.int .i64 0) := S5.out.box.cell 0; have c1 : w5.cell? ⟨G, 1, none⟩ = some (.int .i64 0) := S5.out.box.cell 1; have c2 : w5.cell? ⟨G, 2, none⟩ = some (.string ⟨#[]⟩) := S5.out.box.cell 2; have c3 : w5.cell? ⟨G, 3, none⟩ = some (.slice none 0 0) := S5.out.box.cell 3; have f0 : w5.frozen? ⟨G, 0, none⟩ = false := S5.out.box.frozen 0; have f1 : w5.frozen? ⟨G, 1, none⟩ = false := S5.out.box.frozen 1; have f2 : w5.frozen? ⟨G, 2, none⟩ = false := S5.out.box.frozen 2; have f3 : w5.frozen? ⟨G, 3, none⟩ = false := S5.out.box.frozen 3)
      refine ret_store4 (x := .bool true) S5.out.box (by intro W c0 c1 c2 c3; simp [results, Tryd.results24, go_sem, c0, c1, c2, c3]) ?_
      intro W hW hF
      rw [HX.out]
      have hza := HZA.out
      have o0 := HG.out
      have o1 := S1.out.fr.size
      have o2 := S1.out.box.lt
      have e : i + (1 + n) = i + 1 + n := by omega
      show POk _ _ _ _ _ _ _ _
      rw [e]
      exact S5.out.yes o1 o2 HRD.out hF
end Go.Proofs.YtkfmagbaklikmaaDoor
