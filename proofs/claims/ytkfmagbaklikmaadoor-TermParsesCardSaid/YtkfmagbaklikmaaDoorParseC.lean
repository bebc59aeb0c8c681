/-
  The reader's variable, by a contract.
-/
import Derived.Test.YtkfmagbaklikmaaDoorParseB
namespace Go.Proofs.YtkfmagbaklikmaaDoor
open Go Go.RowKit
set_option linter.unusedVariables false
set_option linter.unusedSimpArgs false

theorem str_same (s : ByteArray) : (s.toList == s.toList) = true := by simp
theorem str_mk_eq {l : List UInt8} {s : ByteArray} (h : l = s.data.toList) : (ByteArray.toList ⟨l.toArray⟩ == s.toList) = true := by
  subst h
  simp
theorem str_mk_ne {l : List UInt8} {s : ByteArray} (h : ¬ l = s.data.toList) : (ByteArray.toList ⟨l.toArray⟩ == s.toList) = false :=
  str_ne (fun e => h (by rw [← e]))

theorem itoa_any (n : Int) (h0 : -9223372036854775808 ≤ n) (h1 : n ≤ 9223372036854775807) (w : World) {B : Nat} (hp : Laid B w) :
    Calls Tryd.prog 44 #[.int .i64 n] w fun e w' => e = .returned (.string ⟨(Lib.itoa n).toArray⟩) ∧ Below w.heap.size w w' := by
  refine (Tryd.strconv_Itoa n h0 h1 w hp.tab.here).mono ?_
  rintro e w' ⟨rfl, k, os, rfl⟩
  exact ⟨rfl, below_grow w k os⟩

theorem Fr.new {S : Nat → Prop} {w w2 W : World} {G : Nat} (h : Fr S w w2) (k : Fr (fun b => b = G) w2 W) (hG : w.heap.size ≤ G) : Fr S w W :=
  ⟨k.os.trans h.os, k.tape.trans h.tape, k.output.trans h.output, Nat.le_trans h.size k.size, fun i hi hs => (k.block i (Nat.lt_of_lt_of_le hi h.size) (by omega)).trans (h.block i hi hs)⟩
theorem Rd.fr {S : Nat → Prop} {w w' : World} {g : Nat} {s : ByteArray} {i : Nat} (h : Rd w g s i) (hf : Fr S w w') (hg : ¬ S g) : Rd w' g s i := ⟨h.1.fr hf hg, h.2⟩

theorem atoi_below {w w2 : World} {t : TypeId} (h : w2 = w ∨ ∃ x, w2 = Lib.bytesWorld w t x) : Below w.heap.size w w2 := by
  rcases h with rfl | ⟨x, rfl⟩
  · exact Below.refl _ _
  · exact Lib.bytesWorld_below _ _ _

theorem atoi_bad (s : ByteArray) (hs : s.size ≤ 100000) (h : ∀ v, Lib.atoiAll s.data.toList ≠ .ok v) (w : World) {B : Nat} (hL : Laid B w) :
    Calls Tryd.prog 43 #[.string s] w fun e w' => ∃ v N, e = .returned (.tuple #[.int .i64 v, .iface 90 (.pointer (some ⟨N, 0, none⟩))]) ∧ Below w.heap.size w w' := by
  rcases h' : Lib.atoiAll s.data.toList with v | _ | _
  · exact absurd h' (h v)
  · obtain ⟨te, pe, hev⟩ := hL.syn
    refine Calls.mono (Any.strconv_Atoi_syntax Tryd.laysC172 s (by omega) h' _ w hev (.inr ⟨te, pe, rfl⟩)) ?_
    rintro e w' ⟨N, rfl, _, _, hb⟩
    exact ⟨_, N, rfl, hb⟩
  · obtain ⟨te, pe, hev⟩ := hL.ran
    refine Calls.mono (Any.strconv_Atoi_range Tryd.laysC172 s (by omega) h' _ w hev (.inr ⟨te, pe, rfl⟩)) ?_
    rintro e w' ⟨N, rfl, _, _, hb⟩
    exact ⟨_, N, rfl, hb⟩

/-- Four cells stored, and handed back with a bool. -/
theorem ret_store4 {P : Program} {fn : Func} {R : Ending → World → Prop} {T : Array Value} {w2 : World} {G : Nat} {t : TypeId} {z0 z1 z2 z3 a b c d x : Value} (hb : Box w2 G t #[z0, z1, z2, z3])
    (hres : ∀ W : World, W.cell? ⟨G, 0, none⟩ = some a → W.cell? ⟨G, 1, none⟩ = some b → W.cell? ⟨G, 2, none⟩ = some c → W.cell? ⟨G, 3, none⟩ = some d → (results fn T).run P W = .ok (.tuple #[.agg #[a, b, c, d], x]) W)
    (hQ : ∀ W : World, Box W G t #[a, b, c, d] → Fr (fun k => k = G) w2 W → R (.returned (.tuple #[.agg #[a, b, c, d], x])) W) :
    bodyPost P fn R .ret { tmps := T, defers := [] } ((((w2.setCell ⟨G, 0, none⟩ a).setCell ⟨G, 1, none⟩ b).setCell ⟨G, 2, none⟩ c).setCell ⟨G, 3, none⟩ d) := by
  have h4 : Box ((((w2.setCell ⟨G, 0, none⟩ a).setCell ⟨G, 1, none⟩ b).setCell ⟨G, 2, none⟩ c).setCell ⟨G, 3, none⟩ d) G t #[a, b, c, d] := by
    have := (((hb.set_ 0 a).set_ 1 b).set_ 2 c).set_ 3 d
    simpa using this
  have hf : Fr (fun k => k = G) w2 ((((w2.setCell ⟨G, 0, none⟩ a).setCell ⟨G, 1, none⟩ b).setCell ⟨G, 2, none⟩ c).setCell ⟨G, 3, none⟩ d) :=
    ((((Fr.refl (fun b => b = G) w2).setCell (p := ⟨G, 0, none⟩) (.inl rfl) _).setCell (p := ⟨G, 1, none⟩) (.inl rfl) _).setCell (p := ⟨G, 2, none⟩) (.inl rfl) _).setCell (p := ⟨G, 3, none⟩) (.inl rfl) _
  exact bodyPost_ret (hres _ (h4.cell 0) (h4.cell 1) (h4.cell 2) (h4.cell 3)) rfl (hQ _ h4 hf)

set_option maxHeartbeats 2000000 in
theorem variable_any {B : Nat} {w : World} {g : Nat} {s : ByteArray} {i f : Nat} (h : Rd w g s i) (hs : s.size ≤ 100000) (hL : Laid B w) (hg : B ≤ g) :
    Calls Tryd.prog 36 #[.pointer (some ⟨g, 0, none⟩)] w fun e w' => PRes w g s (f + 1) i (pVar (s.data.toList.drop i)) e w' := by
  have HD := Lib.hid (extract_eq digitB s i h.2)
  have HW := Lib.hid (wend_le digitB s i h.2)
  have hlen : wend digitB s i = i + ((s.data.toList.drop i).takeWhile digitB).length := rfl
  have HL := Lib.hid hlen
  have H0 := Lib.hid h
  have HLd := Lib.hid hL
  have hi := h.2
  have hgw := h.lt
  clear hlen h hL
  obtain ⟨d, hd⟩ : ∃ d, (s.data.toList.drop i).takeWhile digitB = d := ⟨_, rfl⟩
  have HR : Hid (pVar (s.data.toList.drop i) = (varOf d).map fun v => (.node 0 v ⟨#[]⟩ [], d.length)) := by
    show _ = _
    unfold pVar
    rw [hd]
  rw [hd] at HD HL
  obtain ⟨r, hr⟩ : ∃ r, pVar (s.data.toList.drop i) = r := ⟨_, rfl⟩
  rw [hr] at HR ⊢
  clear hr hd
  have HWh := Lib.hid (while_digits (H0.out.alloc (.cells #[.int .i64 0, .int .i64 0, .string ⟨#[]⟩, .slice none 0 0] 28)) (by unfold maxLen; omega))
  obtain ⟨ds, hds⟩ : ∃ ds, s.extract i (wend digitB s i) = ds := ⟨_, rfl⟩
  rw [hds] at HD HWh
  have hdz : ds.size ≤ 100000 := by
    rw [← hds]
    have := HW.out
    simp
    omega
  clear hds
  go_enter Tryd.func36, Tryd.ntmps36
  go_wp2_with fail
  refine HWh.out.mono ?_
  rintro e w1 ⟨rfl, hrd, hfr⟩
  have HR1 := Lib.hid hrd
  have HF1 := Lib.hid hfr
  have hbx : Box w1 w.heap.size 28 #[.int .i64 0, .int .i64 0, .string ⟨#[]⟩, .slice none 0 0] := (Box.new w _ _).fr hfr (by omega)
  have hbx1 := Lib.hid hbx
  have HL1 := Lib.hid ((HLd.out.below ((Below.refl w.heap.size w).alloc (Nat.le_refl _) (.cells #[.int .i64 0, .int .i64 0, .string ⟨#[]⟩, .slice none 0 0] 28)) HLd.out.size).fr hfr (fun k e => by omega))
  clear hrd hfr hbx HWh
  have hdl : ds.data.toList = d := by rw [HD.out]
  have HDL := Lib.hid hdl
  clear hdl
  have hyes : ∀ (n : Int) (W : World), (Lit.int .i64 n).wf = true → Rd W g s (wend digitB s i) → Fr (fun k => k = g) w W → Hid (r = some (.node 0 n ⟨#[]⟩ [], d.length)) →
      PRes w g s (f + 1) i r (.returned (.tuple #[.agg #[.int .i64 0, .int .i64 n, .string ⟨#[]⟩, .slice none 0 0], .bool true])) W := by
    intro n W hn h1 h2 h3
    rw [h3.out]
    refine ⟨_, rfl, ?_, h2, ⟨none, 0, rfl, by simp, by simp [maxLen], by simp [ByteArray.size, maxLen], by decide, hn, fun j hj => by simp at hj⟩⟩
    rw [← HL.out]
    exact h1
  have hno : ∀ (W : World), Rd W g s (wend digitB s i) → Fr (fun k => k = g) w W → Hid (r = none) →
      PRes w g s (f + 1) i r (.returned (.tuple #[.agg #[.int .i64 0, .int .i64 0, .string ⟨#[]⟩, .slice none 0 0], .bool false])) W := by
    intro W h1 h2 h3
    rw [h3.out]
    exact ⟨rfl, ⟨_, h1⟩, h2⟩
  have HY := Lib.hid hyes
  have HN := Lib.hid hno
  clear hyes hno
  by_cases hok : ∃ v, Lib.atoiAll d = .ok v
  · obtain ⟨v, ho⟩ := hok
    have hb := Lib.atoiAll_bounds ho
    obtain ⟨v0, v1⟩ := hb
    have HO := Lib.hid (show Lib.atoiAll ds.data.toList = .ok v by rw [HDL.out]; exact ho)
    have hvo : varOf d = if 999 < v then none else if Lib.itoa v = d then some v else none := by unfold varOf; rw [ho]
    have HVO := Lib.hid hvo
    clear ho hvo
    by_cases c9 : 999 < v
    · have HX : Hid (r = none) := by
        show _ = _
        rw [HR.out, HVO.out, if_pos c9]
        rfl
      go_wp2_with (go_at_call 43; refine (Tryd.strconv_Atoi_ok ds (by omega) v HO.out _).mono ?_; rintro e w2 ⟨rfl, hw2⟩; have hb2 := atoi_below hw2; have HB2 := Lib.hid (hbx1.out.below hb2 hbx1.out.lt); have c0 : w2.cell? ⟨w.heap.size, 0, none⟩ = some (.int .i64 0) := HB2.out.cell 0; have c1 : w2.cell? ⟨w.heap.size, 1, none⟩ = some (.int .i64 0) := HB2.out.cell 1; have c2 : w2.cell? ⟨w.heap.size, 2, none⟩ = some (.string ⟨#[]⟩) := HB2.out.cell 2; have c3 : w2.cell? ⟨w.heap.size, 3, none⟩ = some (.slice none 0 0) := HB2.out.cell 3; have f0 : w2.frozen? ⟨w.heap.size, 0, none⟩ = false := HB2.out.frozen 0; have f1 : w2.frozen? ⟨w.heap.size, 1, none⟩ = false := HB2.out.frozen 1; have f2 : w2.frozen? ⟨w.heap.size, 2, none⟩ = false := HB2.out.frozen 2; have f3 : w2.frozen? ⟨w.heap.size, 3, none⟩ = false := HB2.out.frozen 3; have HR2 := Lib.hid (HR1.out.below hb2); have HF2 := Lib.hid (HF1.out.trans (Fr.of_below (S := fun k => k = g) hb2)); have HL2 := Lib.hid (HL1.out.below hb2 HL1.out.size); clear hw2 hb2)
      refine ret_store4 (x := .bool false) HB2.out (by intro W c0 c1 c2 c3; simp [results, Tryd.results36, go_sem, c0, c1, c2, c3]) ?_
      intro W hW hF
      refine HN.out _ (HR2.out.fr hF (by omega)) ((HF2.out.oneAlloc _).new hF (Nat.le_refl _)) ?_
      exact HX
    · have c9' : decide (999 < v) = false := by simpa using c9
      by_cases cd : Lib.itoa v = d
      · have HX : Hid (r = some (.node 0 v ⟨#[]⟩ [], d.length)) := by
          show _ = _
          rw [HR.out, HVO.out, if_neg c9, if_pos cd]
          rfl
        have hq := str_mk_eq (cd.trans HDL.out.symm)
        have HQ := Lib.hid hq
        obtain ⟨it, hit⟩ : ∃ it : ByteArray, (⟨(Lib.itoa v).toArray⟩ : ByteArray) = it := ⟨_, rfl⟩
        rw [hit] at hq
        have HIT := Lib.hid hit
        clear cd hit HQ
        go_wp2_with (first | (go_at_call 43; refine (Tryd.strconv_Atoi_ok ds (by omega) v HO.out _).mono ?_; rintro e w2 ⟨rfl, hw2⟩; have hb2 := atoi_below hw2; have HB2 := Lib.hid (hbx1.out.below hb2 hbx1.out.lt); have c0 : w2.cell? ⟨w.heap.size, 0, none⟩ = some (.int .i64 0) := HB2.out.cell 0; have c1 : w2.cell? ⟨w.heap.size, 1, none⟩ = some (.int .i64 0) := HB2.out.cell 1; have c2 : w2.cell? ⟨w.heap.size, 2, none⟩ = some (.string ⟨#[]⟩) := HB2.out.cell 2; have c3 : w2.cell? ⟨w.heap.size, 3, none⟩ = some (.slice none 0 0) := HB2.out.cell 3; have f0 : w2.frozen? ⟨w.heap.size, 0, none⟩ = false := HB2.out.frozen 0; have f1 : w2.frozen? ⟨w.heap.size, 1, none⟩ = false := HB2.out.frozen 1; have f2 : w2.frozen? ⟨w.heap.size, 2, none⟩ = false := HB2.out.frozen 2; have f3 : w2.frozen? ⟨w.heap.size, 3, none⟩ = false := HB2.out.frozen 3; have HR2 := Lib.hid (HR1.out.below hb2); have HF2 := Lib.hid (HF1.out.trans (Fr.of_below (S := fun k => k = g) hb2)); have HL2 := Lib.hid (HL1.out.below hb2 HL1.out.size); clear hw2 hb2) | (go_at_call 44; refine (itoa_any v v0 v1 _ HL2.out).mono ?_; rw [HIT.out]; rintro e w3 ⟨rfl, hb3⟩; clear c0 c1 c2 c3 f0 f1 f2 f3; have HB3 := Lib.hid (HB2.out.below hb3 HB2.out.lt); have c0 : w3.cell? ⟨w.heap.size, 0, none⟩ = some (.int .i64 0) := HB3.out.cell 0; have c1 : w3.cell? ⟨w.heap.size, 1, none⟩ = some (.int .i64 0) := HB3.out.cell 1; have c2 : w3.cell? ⟨w.heap.size, 2, none⟩ = some (.string ⟨#[]⟩) := HB3.out.cell 2; have c3 : w3.cell? ⟨w.heap.size, 3, none⟩ = some (.slice none 0 0) := HB3.out.cell 3; have f0 : w3.frozen? ⟨w.heap.size, 0, none⟩ = false := HB3.out.frozen 0; have f1 : w3.frozen? ⟨w.heap.size, 1, none⟩ = false := HB3.out.frozen 1; have f2 : w3.frozen? ⟨w.heap.size, 2, none⟩ = false := HB3.out.frozen 2; have f3 : w3.frozen? ⟨w.heap.size, 3, none⟩ = false := HB3.out.frozen 3; have HR3 := Lib.hid (HR2.out.below hb3); have HF3 := Lib.hid (HF2.out.trans (Fr.of_below (S := fun k => k = g) hb3)); clear hb3))
        refine ret_store4 (x := .bool true) HB3.out (by intro W c0 c1 c2 c3; simp [results, Tryd.results36, go_sem, c0, c1, c2, c3]) ?_
        intro W hW hF
        refine HY.out _ _ (by simp only [Lit.wf, Bool.and_eq_true, decide_eq_true_eq]; exact ⟨v0, v1⟩) (HR3.out.fr hF (by omega)) ((HF3.out.oneAlloc _).new hF (Nat.le_refl _)) HX
      · have HX : Hid (r = none) := by
          show _ = _
          rw [HR.out, HVO.out, if_neg c9, if_neg cd]
          rfl
        have hq := str_mk_ne (s := ds) (fun e => cd (e.trans HDL.out))
        obtain ⟨it, hit⟩ : ∃ it : ByteArray, (⟨(Lib.itoa v).toArray⟩ : ByteArray) = it := ⟨_, rfl⟩
        rw [hit] at hq
        have HIT := Lib.hid hit
        clear cd hit
        go_wp2_with (first | (go_at_call 43; refine (Tryd.strconv_Atoi_ok ds (by omega) v HO.out _).mono ?_; rintro e w2 ⟨rfl, hw2⟩; have hb2 := atoi_below hw2; have HB2 := Lib.hid (hbx1.out.below hb2 hbx1.out.lt); have c0 : w2.cell? ⟨w.heap.size, 0, none⟩ = some (.int .i64 0) := HB2.out.cell 0; have c1 : w2.cell? ⟨w.heap.size, 1, none⟩ = some (.int .i64 0) := HB2.out.cell 1; have c2 : w2.cell? ⟨w.heap.size, 2, none⟩ = some (.string ⟨#[]⟩) := HB2.out.cell 2; have c3 : w2.cell? ⟨w.heap.size, 3, none⟩ = some (.slice none 0 0) := HB2.out.cell 3; have f0 : w2.frozen? ⟨w.heap.size, 0, none⟩ = false := HB2.out.frozen 0; have f1 : w2.frozen? ⟨w.heap.size, 1, none⟩ = false := HB2.out.frozen 1; have f2 : w2.frozen? ⟨w.heap.size, 2, none⟩ = false := HB2.out.frozen 2; have f3 : w2.frozen? ⟨w.heap.size, 3, none⟩ = false := HB2.out.frozen 3; have HR2 := Lib.hid (HR1.out.below hb2); have HF2 := Lib.hid (HF1.out.trans (Fr.of_below (S := fun k => k = g) hb2)); have HL2 := Lib.hid (HL1.out.below hb2 HL1.out.size); clear hw2 hb2) | (go_at_call 44; refine (itoa_any v v0 v1 _ HL2.out).mono ?_; rw [HIT.out]; rintro e w3 ⟨rfl, hb3⟩; clear c0 c1 c2 c3 f0 f1 f2 f3; have HB3 := Lib.hid (HB2.out.below hb3 HB2.out.lt); have c0 : w3.cell? ⟨w.heap.size, 0, none⟩ = some (.int .i64 0) := HB3.out.cell 0; have c1 : w3.cell? ⟨w.heap.size, 1, none⟩ = some (.int .i64 0) := HB3.out.cell 1; have c2 : w3.cell? ⟨w.heap.size, 2, none⟩ = some (.string ⟨#[]⟩) := HB3.out.cell 2; have c3 : w3.cell? ⟨w.heap.size, 3, none⟩ = some (.slice none 0 0) := HB3.out.cell 3; have f0 : w3.frozen? ⟨w.heap.size, 0, none⟩ = false := HB3.out.frozen 0; have f1 : w3.frozen? ⟨w.heap.size, 1, none⟩ = false := HB3.out.frozen 1; have f2 : w3.frozen? ⟨w.heap.size, 2, none⟩ = false := HB3.out.frozen 2; have f3 : w3.frozen? ⟨w.heap.size, 3, none⟩ = false := HB3.out.frozen 3; have HR3 := Lib.hid (HR2.out.below hb3); have HF3 := Lib.hid (HF2.out.trans (Fr.of_below (S := fun k => k = g) hb3)); clear hb3))
        refine ret_store4 (x := .bool false) HB3.out (by intro W c0 c1 c2 c3; simp [results, Tryd.results36, go_sem, c0, c1, c2, c3]) ?_
        intro W hW hF
        refine HN.out _ (HR3.out.fr hF (by omega)) ((HF3.out.oneAlloc _).new hF (Nat.le_refl _)) HX
  · have hbad : ∀ v, Lib.atoiAll ds.data.toList ≠ .ok v := fun v e => hok ⟨v, by rw [← HDL.out]; exact e⟩
    have hvo : varOf d = none := by
      unfold varOf
      rcases h : Lib.atoiAll d with v | _ | _
      · exact absurd ⟨v, h⟩ hok
      · rfl
      · rfl
    have HX : Hid (r = none) := by
      show _ = _
      rw [HR.out, hvo]
      rfl
    have HBD := Lib.hid (atoi_bad ds (by omega) hbad w1 HL1.out)
    clear hok hvo hbad
    go_wp2_with (go_at_call 43; refine HBD.out.mono ?_; rintro e w2 ⟨v, N, rfl, hb2⟩; have HB2 := Lib.hid (hbx1.out.below hb2 hbx1.out.lt); have c0 : w2.cell? ⟨w.heap.size, 0, none⟩ = some (.int .i64 0) := HB2.out.cell 0; have c1 : w2.cell? ⟨w.heap.size, 1, none⟩ = some (.int .i64 0) := HB2.out.cell 1; have c2 : w2.cell? ⟨w.heap.size, 2, none⟩ = some (.string ⟨#[]⟩) := HB2.out.cell 2; have c3 : w2.cell? ⟨w.heap.size, 3, none⟩ = some (.slice none 0 0) := HB2.out.cell 3; have f0 : w2.frozen? ⟨w.heap.size, 0, none⟩ = false := HB2.out.frozen 0; have f1 : w2.frozen? ⟨w.heap.size, 1, none⟩ = false := HB2.out.frozen 1; have f2 : w2.frozen? ⟨w.heap.size, 2, none⟩ = false := HB2.out.frozen 2; have f3 : w2.frozen? ⟨w.heap.size, 3, none⟩ = false := HB2.out.frozen 3; have HR2 := Lib.hid (HR1.out.below hb2); have HF2 := Lib.hid (HF1.out.trans (Fr.of_below (S := fun k => k = g) hb2)); clear hb2)
    refine ret_store4 (x := .bool false) HB2.out (by intro W c0 c1 c2 c3; simp [results, Tryd.results36, go_sem, c0, c1, c2, c3]) ?_
    intro W hW hF
    refine HN.out _ (HR2.out.fr hF (by omega)) ((HF2.out.oneAlloc _).new hF (Nat.le_refl _)) HX
end Go.Proofs.YtkfmagbaklikmaaDoor
