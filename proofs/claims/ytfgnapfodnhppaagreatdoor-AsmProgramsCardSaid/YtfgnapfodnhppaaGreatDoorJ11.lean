/-
  4 texts in one (ObjE ObjF CrcA CrcB). Conditions: those of each theorem.
-/
import Derived.Test.YtfgnapfodnhppaaGreatDoorJ10
import Derived.Test.YtfgnapfodnhppaaGreatDoorJ01
import Derived.Test.YtfgnapfodnhppaaGreatDoorProg
import Derived.IntWalk
import Derived.Lib.Hide
namespace Go.Proofs.YtfgnapfodnhppaaGreatDoor
open Go Go.RowKit Go.WideShapes Go.ChangeShapes
set_option linter.unusedVariables false
set_option linter.unusedSimpArgs false

def entOf (p : ByteArray × Int × Int) : Int := p.2.2
/-- What the first entries say: each may be, none (but None) is there twice. -/
def EntsTo (n : Nat) (es : List Int) : Prop := es.all (entryOk n) = true ∧ (es.filter (fun e => decide (e ≠ 65535))).Nodup

theorem ents_nil (n : Nat) : EntsTo n [] := ⟨rfl, by simp⟩
theorem ents_none {n : Nat} {es : List Int} (h : EntsTo n es) : EntsTo n (es ++ [65535]) := by
  refine ⟨by rw [List.all_append, h.1]; simp [entryOk], ?_⟩
  rw [List.filter_append]
  simpa using h.2
theorem ents_some {n : Nat} {es : List Int} {m : Nat} (h : EntsTo n es) (hm : m < n) (hn : (m : Int) ∉ es) : EntsTo n (es ++ [(m : Int)]) := by
  refine ⟨by rw [List.all_append, h.1]; simp [entryOk]; omega, ?_⟩
  rw [List.filter_append, List.nodup_append]
  refine ⟨h.2, (show [(m : Int)].Nodup by simp).sublist List.filter_sublist, fun a ha b hb => ?_⟩
  have h1 := (List.mem_filter.1 ha).1
  have h2 : b = (m : Int) := by simpa using (List.mem_filter.1 hb).1
  rintro rfl
  exact hn (h2 ▸ h1)
theorem ents_bad {n : Nat} {l : List Int} {k : Nat} (hk : k < l.length) (he : entryOk n l[k] = false) : entsOk n l = false := by
  unfold entsOk
  rw [all_not _ l k hk he]
  rfl
theorem ents_twice {n : Nat} {l : List Int} {k : Nat} (hk : k < l.length) (he : l[k] ≠ 65535) (hin : l[k] ∈ l.take k) : entsOk n l = false := by
  unfold entsOk
  have : ¬ (l.filter (fun e => decide (e ≠ 65535))).Nodup := fun hd => by
    have h2 : ((l.take (k + 1)).filter (fun e => decide (e ≠ 65535))).Nodup := hd.sublist ((List.take_sublist _ _).filter _)
    rw [List.take_succ_eq_append_getElem hk, List.filter_append, List.nodup_append] at h2
    exact h2.2.2 l[k] (List.mem_filter.2 ⟨hin, by simpa using he⟩) l[k] (by simp [he]) rfl
  rw [decide_eq_false this, Bool.and_false]
theorem ents_all {n : Nat} {l : List Int} (h : EntsTo n l) : entsOk n l = true := by
  unfold entsOk
  rw [h.1, decide_eq_true h.2]
  rfl

/-- What a round keeps: the object's box, the table of what is taken. -/
structure En (w wr : World) (g1 g2 : Nat) (va vf vp vc : Value) (es : List Int) : Prop where
  ob : Box wr g1 31 #[va, vf, vp, vc]
  tab : ∃ cs : Array Value, cs.size = 1024 ∧ Box wr g2 116 cs ∧ ∀ j : Nat, j < 1024 → cs[j]? = some (.bool (decide ((j : Int) ∈ es)))
  ne : g1 ≠ g2
  new1 : w.heap.size ≤ g1
  new2 : w.heap.size ≤ g2
  below : Below w.heap.size w wr
theorem En.alloc {w wr : World} {g1 g2 : Nat} {va vf vp vc : Value} {es : List Int} (h : En w wr g1 g2 va vf vp vc es) (o : Obj) : En w (wr.alloc o) g1 g2 va vf vp vc es := by
  obtain ⟨cs, h1, h2, h3⟩ := h.tab
  exact ⟨h.ob.alloc o, ⟨cs, h1, h2.alloc o, h3⟩, h.ne, h.new1, h.new2, h.below.alloc h.below.size o⟩
theorem En.same {w wr : World} {g1 g2 : Nat} {va vf vp vc : Value} {es es' : List Int} (h : En w wr g1 g2 va vf vp vc es) (he : ∀ j : Nat, j < 1024 → ((j : Int) ∈ es ↔ (j : Int) ∈ es')) : En w wr g1 g2 va vf vp vc es' := by
  obtain ⟨cs, h1, h2, h3⟩ := h.tab
  refine ⟨h.ob, ⟨cs, h1, h2, fun j hj => ?_⟩, h.ne, h.new1, h.new2, h.below⟩
  rw [h3 j hj]
  simp [he j hj]
theorem En.cell {w wr : World} {g1 g2 : Nat} {va vf vp vc : Value} {es : List Int} (h : En w wr g1 g2 va vf vp vc es) (m : Nat) (hm : m < 1024) : wr.cell? ⟨g2, m, none⟩ = some (.bool (decide ((m : Int) ∈ es))) ∧ wr.frozen? ⟨g2, m, none⟩ = false := by
  obtain ⟨cs, h1, h2, h3⟩ := h.tab
  exact ⟨(h2.cell m).trans (h3 m hm), h2.frozen m⟩
theorem En.set {w wr : World} {g1 g2 : Nat} {va vf vp vc : Value} {es : List Int} (h : En w wr g1 g2 va vf vp vc es) (m : Nat) (hm : m < 1024) : En w (wr.setCell ⟨g2, m, none⟩ (.bool true)) g1 g2 va vf vp vc (es ++ [(m : Int)]) := by
  obtain ⟨cs, h1, h2, h3⟩ := h.tab
  refine ⟨h.ob.far h.ne _, ⟨cs.setIfInBounds m (.bool true), by simp [h1], h2.set_ m _, fun j hj => ?_⟩, h.ne, h.new1, h.new2, h.below.setCell (p := ⟨g2, m, none⟩) h.new2 _⟩
  rw [Array.getElem?_setIfInBounds]
  by_cases e : m = j
  · subst e
    simp [h1, hm]
  · rw [if_neg e, h3 j hj]
    have : ¬ (j : Int) = (m : Int) := by omega
    simp [this]

def isFalseV : Value → Bool
  | .bool false => true
  | _ => false
theorem isFalseV_eq {v : Value} (h : isFalseV v = true) : v = .bool false := by
  unfold isFalseV at h
  split at h
  · rfl
  · cases h
theorem zero1024_size : Tryz.zeroCells116.size = 1024 := by kernel_rfl
theorem zero1024_all : (Tryz.zeroCells116.toList.all isFalseV) = true := by kernel_rfl
theorem zero1024_at (j : Nat) (h : j < 1024) : Tryz.zeroCells116[j]? = some (.bool false) := by
  have hj : j < Tryz.zeroCells116.size := by rw [zero1024_size]; exact h
  rw [Array.getElem?_eq_getElem hj]
  have h1 := List.all_eq_true.1 zero1024_all (Tryz.zeroCells116[j]) (Array.getElem_mem_toList hj)
  rw [isFalseV_eq h1]

theorem en_start (w : World) (va vf vp vc : Value) : En w ((w.alloc (.cells #[va, vf, vp, vc] 31)).alloc (.cells Tryz.zeroCells116 116)) w.heap.size (w.heap.size + 1) va vf vp vc [] := by
  have h := Box.new (w.alloc (.cells #[va, vf, vp, vc] 31)) 116 Tryz.zeroCells116
  rw [World.size_alloc] at h
  exact ⟨(Box.new w _ _).alloc _, ⟨_, zero1024_size, h, fun j hj => by rw [zero1024_at j hj]; simp⟩, by omega, Nat.le_refl _, by omega, two_below w _ _⟩

set_option maxRecDepth 100000 in
set_option maxHeartbeats 4000000 in
theorem entries_any (A1 A2 A4 : Option Addr) (a c1 f c2 c c4 : Nat) (l : List (ByteArray × Int × Int)) (hm : l.length ≤ 1000000) (hc : c ≤ 1024) (vp : Value) (w : World) (hv : PredsAt w vp l) :
    Calls Tryz.prog 30 #[.agg #[.slice A1 a c1, .slice A2 f c2, vp, .slice A4 c c4]] w fun e w' => e = .returned (.bool (entsOk c (l.map entOf))) ∧ Below w.heap.size w w' := by
  obtain ⟨A3, c3, rfl⟩ := CellsAt.form hv
  have HV := Lib.hid hv
  clear hv
  go_enter Tryz.func30, Tryz.ntmps30
  go_upto_region 2 with (fail)
  have E0 := Lib.hid (en_start w (.slice A1 a c1) (.slice A2 f c2) (.slice A3 l.length c3) (.slice A4 c c4))
  obtain ⟨w0, hw0⟩ : ∃ w0, (w.alloc (.cells #[.slice A1 a c1, .slice A2 f c2, .slice A3 l.length c3, .slice A4 c c4] 31)).alloc (.cells Tryz.zeroCells116 116) = w0 := ⟨_, rfl⟩
  rw [hw0] at E0 ⊢
  obtain ⟨g2, hg2⟩ : ∃ g2, w.heap.size + 1 = g2 := ⟨_, rfl⟩
  rw [hg2] at E0 ⊢
  obtain ⟨g1, hg1⟩ : ∃ g1, w.heap.size = g1 := ⟨_, rfl⟩
  rw [hg1] at E0 ⊢
  clear hw0 hg2 hg1
  have q2 := E0.out.ob.cell 2
  go_wp2
  clear q2
  go_loopw [9] (fun i wr => ∃ k : Nat, k ≤ l.length ∧ i = .int .i64 k ∧ Hid (EntsTo c ((l.map entOf).take k)) ∧ Hid (En w wr g1 g2 (.slice A1 a c1) (.slice A2 f c2) (.slice A3 l.length c3) (.slice A4 c c4) ((l.map entOf).take k))) (fun i _ => l.length - (intOf i).toNat)
  case atStart => exact ⟨0, by omega, rfl, Lib.hid (ents_nil c), E0⟩
  case round =>
    obtain ⟨k, hk, rfl, HT, HE⟩ := hrel
    clear E0
    by_cases hlt : k < l.length
    · obtain ⟨b, off, rfl, hb, hc0, hc1, hc2⟩ := predCell HV.out k hlt
      have d0 := (HE.out.below.cell (p := ⟨b, off + k * 3, none⟩) hb).trans hc0
      have d1 := (HE.out.below.cell (p := ⟨b, off + k * 3 + 1, none⟩) hb).trans hc1
      have d2 := (HE.out.below.cell (p := ⟨b, off + k * 3 + 2, none⟩) hb).trans hc2
      have hkl : k < (l.map entOf).length := by rw [List.length_map]; exact hlt
      have hge : (l.map entOf)[k] = l[k].2.2 := by rw [List.getElem_map]; rfl
      have HTK : Hid ((l.map entOf).take (k + 1) = (l.map entOf).take k ++ [l[k].2.2]) := Lib.hid (by rw [List.take_succ_eq_append_getElem hkl, hge])
      have HBAD : Hid (entryOk c l[k].2.2 = false → entsOk c (l.map entOf) = false) := Lib.hid (fun h => ents_bad hkl (by rw [hge]; exact h))
      have HTW : Hid (l[k].2.2 ≠ 65535 → l[k].2.2 ∈ (l.map entOf).take k → entsOk c (l.map entOf) = false) := Lib.hid (fun h1 h2 => ents_twice hkl (by rw [hge]; exact h1) (by rw [hge]; exact h2))
      clear hc0 hc1 hc2 hge hkl
      generalize l[k].1 = s at d0
      generalize l[k].2.1 = n at d1
      generalize l[k].2.2 = e at d2 HTK HBAD HTW
      have HE2 := Lib.hid (HE.out.alloc (.cells #[.string s, .int .i64 n, .int .i64 e] 52))
      by_cases hn : e = 65535
      · subst hn
        have HN1 : Hid (EntsTo c ((l.map entOf).take (k + 1))) := Lib.hid (by rw [HTK.out]; exact ents_none HT.out)
        have HN2 := Lib.hid (HE2.out.same (es' := (l.map entOf).take (k + 1)) (fun j hj => by rw [HTK.out]; simp; omega))
        go_wp2
        go_roundw
        case rel => exact ⟨k + 1, by omega, by go_num, HN1, HN2⟩
        case measure => simp [intOf]; omega
      · have hne : (e == 65535) = false := by simpa using hn
        have x3 := (HE.out.ob.alloc (.cells #[.string s, .int .i64 n, .int .i64 e] 52)).cell 3
        by_cases hin : 0 ≤ e ∧ e < (c : Int)
        · obtain ⟨m, rfl⟩ := Int.eq_ofNat_of_zero_le hin.1
          have hmc : m < c := by omega
          have hm1024 : m < 1024 := by omega
          obtain ⟨y0, y1⟩ := HE2.out.cell m hm1024
          have hwi := fun w => (within_any (m : Int) (c : Int) w).mono (R' := fun e w' => e = .returned (.bool true) ∧ w = w') (fun e w' h => ⟨by rw [h.1, decide_eq_true hin], h.2⟩)
          have HWI := Lib.hid hwi
          have z1 : (m : Int) < 1024 := by omega
          have z2 : (0 : Int) ≤ (m : Int) := by omega
          have HSET := Lib.hid (HE2.out.set m hm1024)
          clear hin hwi
          by_cases ht : (m : Int) ∈ (l.map entOf).take k
          · rw [decide_eq_true ht] at y0
            have HX := Lib.hid (HTW.out hn ht)
            clear ht hn
            go_wp2_with (go_at_call 59; refine (HWI.out _).mono ?_; rintro e w' ⟨rfl, rfl⟩)
            go_ret
            exact ⟨by rw [HX.out]; rfl, HE2.out.below⟩
          · rw [decide_eq_false ht] at y0
            have HN1 : Hid (EntsTo c ((l.map entOf).take (k + 1))) := Lib.hid (by rw [HTK.out]; exact ents_some HT.out hmc ht)
            rw [← HTK.out] at HSET
            clear ht hn
            go_wp2_with (go_at_call 59; refine (HWI.out _).mono ?_; rintro e w' ⟨rfl, rfl⟩)
            go_roundw
            case rel => exact ⟨k + 1, by omega, by go_num, HN1, HSET⟩
            case measure => simp [intOf]; omega
        · have hwi := fun w => (within_any e (c : Int) w).mono (R' := fun e w' => e = .returned (.bool false) ∧ w = w') (fun e w' h => ⟨by rw [h.1, decide_eq_false hin], h.2⟩)
          have HWI := Lib.hid hwi
          have HX := Lib.hid (HBAD.out (by unfold entryOk; rw [decide_eq_false_iff_not]; omega))
          clear hwi hin hn
          go_wp2_with (go_at_call 59; refine (HWI.out _).mono ?_; rintro e w' ⟨rfl, rfl⟩)
          go_ret
          exact ⟨by rw [HX.out]; rfl, HE2.out.below⟩
    · obtain rfl : k = l.length := by omega
      have HX : Hid (entsOk c (l.map entOf) = true) := Lib.hid (by
        have h := HT.out
        rw [List.take_of_length_le (by simp)] at h
        exact ents_all h)
      go_wp2
      go_ret
      exact ⟨by rw [HX.out]; rfl, HE.out.below⟩

end Go.Proofs.YtfgnapfodnhppaaGreatDoor

namespace Go.Proofs.YtfgnapfodnhppaaGreatDoor
open Go Go.RowKit Go.WideShapes Go.ChangeShapes
set_option linter.unusedVariables false
set_option linter.unusedSimpArgs false

/-- Lengths and numbers such as Go's values have. -/
structure ObWf (o : Ob) : Prop where
  atoms : ∀ s ∈ o.atoms, s.size ≤ maxLen
  funs : ∀ f ∈ o.funs, f.1.size ≤ maxLen
  preds : ∀ p ∈ o.preds, p.1.size ≤ maxLen
  la : o.atoms.length ≤ 1000000
  lf : o.funs.length ≤ 1000000
  lp : o.preds.length ≤ 1000000
  lc : o.code.length ≤ 1000000

/-- What Check keeps: the object's box, what was there. -/
structure CkB (w wr : World) (g : Nat) (va vf vp vc : Value) : Prop where
  ob : Box wr g 31 #[va, vf, vp, vc]
  below : Below w.heap.size w wr
theorem CkB.up {w wr w' : World} {g : Nat} {va vf vp vc : Value} (h : CkB w wr g va vf vp vc) (hb : Below wr.heap.size wr w') : CkB w w' g va vf vp vc := ⟨h.ob.below hb h.ob.lt, h.below.trans (hb.mono h.below.size)⟩
theorem CkB.cells {w wr : World} {g : Nat} {va vf vp vc : Value} (h : CkB w wr g va vf vp vc) : wr.cell? ⟨g, 0, none⟩ = some va ∧ wr.cell? ⟨g, 1, none⟩ = some vf ∧ wr.cell? ⟨g, 2, none⟩ = some vp ∧ wr.cell? ⟨g, 3, none⟩ = some vc :=
  ⟨h.ob.cell 0, h.ob.cell 1, h.ob.cell 2, h.ob.cell 3⟩

theorem wf_small {n : Int} (h0 : 0 ≤ n) (h1 : n ≤ 8) : (Lit.int .i64 n).wf = true := by
  have : n = 0 ∨ n = 1 ∨ n = 2 ∨ n = 3 ∨ n = 4 ∨ n = 5 ∨ n = 6 ∨ n = 7 ∨ n = 8 := by omega
  rcases this with rfl | rfl | rfl | rfl | rfl | rfl | rfl | rfl | rfl <;> rfl
theorem fun_keys {least : Int} (h0 : 0 ≤ least) {l : List (ByteArray × Int)} (hs : ∀ f ∈ l, f.1.size ≤ maxLen) (h : l.all (funOk least) = true) : ∀ f ∈ l, f.1.size ≤ maxLen ∧ (Lit.int .i64 f.2).wf = true := by
  intro f hf
  have h1 := List.all_eq_true.1 h f hf
  unfold funOk at h1
  simp only [Bool.and_eq_true, decide_eq_true_eq] at h1
  exact ⟨hs f hf, wf_small (by omega) h1.2⟩
theorem called_sizes {o : Ob} (h : ObWf o) : ∀ f ∈ o.preds.map called, f.1.size ≤ maxLen := by
  intro f hf
  obtain ⟨p, hp, rfl⟩ := List.mem_map.1 hf
  exact h.preds p hp
theorem ne_zero {n : Int} (h : n ≠ 0) : (n != 0) = true := by simpa using h

theorem codeErr_step (a f p c : Nat) (l : List Ins) (k : Nat) (h : k < l.length) : codeErr a f p c (l.drop k) = if insErr a f p c l[k] = 0 then codeErr a f p c (l.drop (k + 1)) else insErr a f p c l[k] := by
  rw [List.drop_eq_getElem_cons h, codeErr]

set_option maxRecDepth 100000 in
set_option maxHeartbeats 8000000 in
theorem check_any (o : Ob) (ho : ObWf o) (va vf vp vc : Value) (w : World) (hw : NamesAt w) (hv : ObAt w va vf vp vc o) :
    Calls Tryz.prog 12 #[.agg #[va, vf, vp, vc]] w fun e w' => e = .returned (.int .i64 (checkOf o)) ∧ Below w.heap.size w w' := by
  obtain ⟨A1, c1, rfl⟩ := CellsAt.form hv.atoms
  obtain ⟨A2, c2, rfl⟩ := CellsAt.form hv.funs
  obtain ⟨A3, c3, rfl⟩ := CellsAt.form hv.preds
  obtain ⟨A4, c4, rfl⟩ := CellsAt.form hv.code
  have HV := Lib.hid hv
  have HW := Lib.hid hw
  have HWF := Lib.hid ho
  have HK0 := Lib.hid (⟨Box.new w _ _, alloc_below w _⟩ : CkB w (w.alloc (.cells #[.slice A1 o.atoms.length c1, .slice A2 o.funs.length c2, .slice A3 o.preds.length c3, .slice A4 o.code.length c4] 31)) w.heap.size (.slice A1 o.atoms.length c1) (.slice A2 o.funs.length c2) (.slice A3 o.preds.length c3) (.slice A4 o.code.length c4))
  have HL : Hid (o.atoms.length ≤ 1000000 ∧ o.funs.length ≤ 1000000 ∧ o.preds.length ≤ 1000000 ∧ o.code.length ≤ 1000000) := Lib.hid ⟨ho.la, ho.lf, ho.lp, ho.lc⟩
  have HFULL := Lib.hid (fun w => full_any o.atoms.length o.funs.length o.preds.length o.code.length w)
  have HCH : Hid (checkOf o = if bigB o.atoms.length o.funs.length o.preds.length o.code.length then 2 else if namesOk o = false then 7 else if dupB o then 11 else if entsOk o.code.length (o.preds.map entOf) = false then 7 else codeErr o.atoms.length o.funs.length o.preds.length o.code.length o.code) := Lib.hid rfl
  generalize checkOf o = ck at HCH
  have HMA := Lib.hid ho.la
  have HMF := Lib.hid ho.lf
  have HMP := Lib.hid ho.lp
  have HMC := Lib.hid ho.lc
  clear hv hw ho
  cases hbig : bigB o.atoms.length o.funs.length o.preds.length o.code.length
  case true =>
    have HX : Hid (ck = 2) := Lib.hid (by rw [HCH.out, hbig]; rfl)
    rw [hbig] at HFULL
    clear hbig
    go_enter Tryz.func12, Tryz.ntmps12
    go_wp2_with (go_at_call 24; refine (HFULL.out _).mono ?_; rintro e w' ⟨rfl, rfl⟩)
    go_ret
    exact ⟨by rw [HX.out]; rfl, HK0.out.below⟩
  case false =>
    have hc1024 : o.code.length ≤ 1024 := by
      unfold bigB at hbig
      rw [decide_eq_false_iff_not] at hbig
      omega
    have HC1024 := Lib.hid hc1024
    have HCH2 : Hid (ck = if namesOk o = false then 7 else if dupB o then 11 else if entsOk o.code.length (o.preds.map entOf) = false then 7 else codeErr o.atoms.length o.funs.length o.preds.length o.code.length o.code) := Lib.hid (by rw [HCH.out, hbig]; rfl)
    rw [hbig] at HFULL
    clear hbig HCH hc1024
    go_enter Tryz.func12, Tryz.ntmps12
    go_upto_region 3 with (go_at_call 24; refine (HFULL.out _).mono ?_; rintro e w' ⟨rfl, rfl⟩)
    obtain ⟨w1, hw1⟩ : ∃ w1, w.alloc (.cells #[.slice A1 o.atoms.length c1, .slice A2 o.funs.length c2, .slice A3 o.preds.length c3, .slice A4 o.code.length c4] 31) = w1 := ⟨_, rfl⟩
    rw [hw1] at HK0 ⊢
    obtain ⟨g, hg⟩ : ∃ g, w.heap.size = g := ⟨_, rfl⟩
    rw [hg] at HK0 ⊢
    have HG := Lib.hid hg
    clear hw1 hg
    have HK := HK0
    obtain ⟨q0, q1, q2, q3⟩ := HK.out.cells
    clear HK0
    have hNA := fun (w' : World) v h => allNames_any o.atoms HWF.out.atoms HMA.out v w' h
    have hF1 := fun (w' : World) v h => allFuns_any 1 o.funs HWF.out.funs HMF.out v w' h
    have hF0 := fun (w' : World) v h => allFuns_any 0 (o.preds.map called) (called_sizes HWF.out) (by rw [List.length_map]; exact HMP.out) v w' h
    have HNO : Hid (namesOk o = (o.atoms.all nameOk && o.funs.all (funOk 1) && (o.preds.map called).all (funOk 0))) := Lib.hid rfl
    cases h1 : o.atoms.all nameOk
    case false =>
      rw [h1] at hNA
      have HNA := Lib.hid hNA
      have HX : Hid (ck = 7) := Lib.hid (by rw [HCH2.out, HNO.out, h1]; rfl)
      clear hNA hF1 hF0 h1
      go_wp2_with (go_at_call 25; refine (HNA.out _ _ (HV.out.below HK.out.below).atoms).mono ?_; rintro e w' ⟨rfl, rfl⟩)
      go_ret
      exact ⟨by rw [HX.out]; rfl, HK.out.below⟩
    case true =>
    rw [h1] at hNA
    have HNA := Lib.hid hNA
    cases h2 : o.funs.all (funOk 1)
    case false =>
      rw [h2] at hF1
      have HF1 := Lib.hid hF1
      have HX : Hid (ck = 7) := Lib.hid (by rw [HCH2.out, HNO.out, h1, h2]; rfl)
      clear hNA hF1 hF0 h1 h2
      go_wp2_with (first
        | (go_at_call 25; refine (HNA.out _ _ (HV.out.below HK.out.below).atoms).mono ?_; rintro e w' ⟨rfl, rfl⟩)
        | (go_at_call 26; (with_reducible refine (HF1.out _ _ (HV.out.below HK.out.below).funs).mono ?_); rintro e w5 ⟨rfl, hb5⟩; replace HK := Lib.hid (HK.out.up hb5); obtain ⟨q0, q1, q2, q3⟩ := HK.out.cells; clear hb5))
      go_ret
      exact ⟨by rw [HX.out]; rfl, HK.out.below⟩
    case true =>
    rw [h2] at hF1
    have HF1 := Lib.hid hF1
    cases h3 : (o.preds.map called).all (funOk 0)
    case false =>
      rw [h3] at hF0
      have HF0 := Lib.hid hF0
      have HX : Hid (ck = 7) := Lib.hid (by rw [HCH2.out, HNO.out, h1, h2, h3]; rfl)
      clear hNA hF1 hF0 h1 h2 h3
      go_wp2_with (first
        | (go_at_call 25; refine (HNA.out _ _ (HV.out.below HK.out.below).atoms).mono ?_; rintro e w' ⟨rfl, rfl⟩)
        | (go_at_call 26; (with_reducible refine (HF1.out _ _ (HV.out.below HK.out.below).funs).mono ?_); rintro e w5 ⟨rfl, hb5⟩; replace HK := Lib.hid (HK.out.up hb5); obtain ⟨q0, q1, q2, q3⟩ := HK.out.cells; clear hb5)
        | (go_at_call 27; (with_reducible refine (called_any o.preds HMP.out _ _ (HV.out.below HK.out.below).preds).mono ?_); rintro e w5 ⟨v5, rfl, hv5, hb5⟩; have HV5 := Lib.hid hv5; clear hv5; replace HK := Lib.hid (HK.out.up hb5); obtain ⟨q0, q1, q2, q3⟩ := HK.out.cells; clear hb5)
        | (go_at_call 26; refine (HF0.out _ _ HV5.out).mono ?_; rintro e w5 ⟨rfl, hb5⟩; replace HK := Lib.hid (HK.out.up hb5); obtain ⟨q0, q1, q2, q3⟩ := HK.out.cells; clear hb5))
      go_ret
      exact ⟨by rw [HX.out]; rfl, HK.out.below⟩
    case true =>
    rw [h3] at hF0
    have HF0 := Lib.hid hF0
    have hTS := fun (w' : World) v h => twiceS_any o.atoms HWF.out.atoms HMA.out v w' h
    have hT1 := fun (w' : World) v h => twiceF_any o.funs (fun_keys (by decide) HWF.out.funs h2) HMF.out v w' h
    have hT0 := fun (w' : World) v h => twiceF_any (o.preds.map called) (fun_keys (by decide) (called_sizes HWF.out) h3) (by rw [List.length_map]; exact HMP.out) v w' h
    have HCH3 : Hid (ck = if dupB o then 11 else if entsOk o.code.length (o.preds.map entOf) = false then 7 else codeErr o.atoms.length o.funs.length o.preds.length o.code.length o.code) := Lib.hid (by rw [HCH2.out, HNO.out, h1, h2, h3]; rfl)
    have HDO : Hid (dupB o = (twiceB o.atoms || twiceB o.funs || twiceB (o.preds.map called))) := Lib.hid rfl
    clear hNA hF1 hF0 h1 h2 h3 HNO HCH2
    go_upto_region 5 with (first
        | (go_at_call 25; refine (HNA.out _ _ (HV.out.below HK.out.below).atoms).mono ?_; rintro e w' ⟨rfl, rfl⟩)
        | (go_at_call 26; (with_reducible refine (HF1.out _ _ (HV.out.below HK.out.below).funs).mono ?_); rintro e w5 ⟨rfl, hb5⟩; replace HK := Lib.hid (HK.out.up hb5); obtain ⟨q0, q1, q2, q3⟩ := HK.out.cells; clear hb5)
        | (go_at_call 27; (with_reducible refine (called_any o.preds HMP.out _ _ (HV.out.below HK.out.below).preds).mono ?_); rintro e w5 ⟨v5, rfl, hv5, hb5⟩; have HV5 := Lib.hid hv5; clear hv5; replace HK := Lib.hid (HK.out.up hb5); obtain ⟨q0, q1, q2, q3⟩ := HK.out.cells; clear hb5)
        | (go_at_call 26; refine (HF0.out _ _ HV5.out).mono ?_; rintro e w5 ⟨rfl, hb5⟩; replace HK := Lib.hid (HK.out.up hb5); obtain ⟨q0, q1, q2, q3⟩ := HK.out.cells; clear hb5))
    clear HNA HF1 HF0 HFULL
    cases h1 : twiceB o.atoms
    case true =>
      rw [h1] at hTS
      have HTS := Lib.hid hTS
      have HX : Hid (ck = 11) := Lib.hid (by rw [HCH3.out, HDO.out, h1]; rfl)
      clear hTS hT1 hT0 h1
      go_wp2_with (go_at_call 28; (with_reducible refine (HTS.out _ _ (HV.out.below HK.out.below).atoms).mono ?_); rintro e w5 ⟨rfl, hb5⟩; replace HK := Lib.hid (HK.out.up hb5); obtain ⟨q0, q1, q2, q3⟩ := HK.out.cells; clear hb5)
      go_ret
      exact ⟨by rw [HX.out]; rfl, HK.out.below⟩
    case false =>
    rw [h1] at hTS
    have HTS := Lib.hid hTS
    cases h2 : twiceB o.funs
    case true =>
      rw [h2] at hT1
      have HT1 := Lib.hid hT1
      have HX : Hid (ck = 11) := Lib.hid (by rw [HCH3.out, HDO.out, h1, h2]; rfl)
      clear hTS hT1 hT0 h1 h2
      go_wp2_with (first
        | (go_at_call 28; (with_reducible refine (HTS.out _ _ (HV.out.below HK.out.below).atoms).mono ?_); rintro e w5 ⟨rfl, hb5⟩; replace HK := Lib.hid (HK.out.up hb5); obtain ⟨q0, q1, q2, q3⟩ := HK.out.cells; clear hb5)
        | (go_at_call 29; (with_reducible refine (HT1.out _ _ (HV.out.below HK.out.below).funs).mono ?_); rintro e w5 ⟨rfl, hb5⟩; replace HK := Lib.hid (HK.out.up hb5); obtain ⟨q0, q1, q2, q3⟩ := HK.out.cells; clear hb5))
      go_ret
      exact ⟨by rw [HX.out]; rfl, HK.out.below⟩
    case false =>
    rw [h2] at hT1
    have HT1 := Lib.hid hT1
    cases h3 : twiceB (o.preds.map called)
    case true =>
      rw [h3] at hT0
      have HT0 := Lib.hid hT0
      have HX : Hid (ck = 11) := Lib.hid (by rw [HCH3.out, HDO.out, h1, h2, h3]; rfl)
      clear hTS hT1 hT0 h1 h2 h3
      go_wp2_with (first
        | (go_at_call 28; (with_reducible refine (HTS.out _ _ (HV.out.below HK.out.below).atoms).mono ?_); rintro e w5 ⟨rfl, hb5⟩; replace HK := Lib.hid (HK.out.up hb5); obtain ⟨q0, q1, q2, q3⟩ := HK.out.cells; clear hb5)
        | (go_at_call 29; (with_reducible refine (HT1.out _ _ (HV.out.below HK.out.below).funs).mono ?_); rintro e w5 ⟨rfl, hb5⟩; replace HK := Lib.hid (HK.out.up hb5); obtain ⟨q0, q1, q2, q3⟩ := HK.out.cells; clear hb5)
        | (go_at_call 27; (with_reducible refine (called_any o.preds HMP.out _ _ (HV.out.below HK.out.below).preds).mono ?_); rintro e w5 ⟨v5, rfl, hv5, hb5⟩; have HV5 := Lib.hid hv5; clear hv5; replace HK := Lib.hid (HK.out.up hb5); obtain ⟨q0, q1, q2, q3⟩ := HK.out.cells; clear hb5)
        | (go_at_call 29; refine (HT0.out _ _ HV5.out).mono ?_; rintro e w5 ⟨rfl, hb5⟩; replace HK := Lib.hid (HK.out.up hb5); obtain ⟨q0, q1, q2, q3⟩ := HK.out.cells; clear hb5))
      go_ret
      exact ⟨by rw [HX.out]; rfl, HK.out.below⟩
    case false =>
    rw [h3] at hT0
    have HT0 := Lib.hid hT0
    have HCH4 : Hid (ck = if entsOk o.code.length (o.preds.map entOf) = false then 7 else codeErr o.atoms.length o.funs.length o.preds.length o.code.length o.code) := Lib.hid (by rw [HCH3.out, HDO.out, h1, h2, h3]; rfl)
    have hEN := fun (w' : World) h => entries_any A1 A2 A4 o.atoms.length c1 o.funs.length c2 o.code.length c4 o.preds HMP.out HC1024.out (.slice A3 o.preds.length c3) w' h
    clear hTS hT1 hT0 h1 h2 h3 HDO HCH3
    go_upto_region 7 with (first
        | (go_at_call 28; (with_reducible refine (HTS.out _ _ (HV.out.below HK.out.below).atoms).mono ?_); rintro e w5 ⟨rfl, hb5⟩; replace HK := Lib.hid (HK.out.up hb5); obtain ⟨q0, q1, q2, q3⟩ := HK.out.cells; clear hb5)
        | (go_at_call 29; (with_reducible refine (HT1.out _ _ (HV.out.below HK.out.below).funs).mono ?_); rintro e w5 ⟨rfl, hb5⟩; replace HK := Lib.hid (HK.out.up hb5); obtain ⟨q0, q1, q2, q3⟩ := HK.out.cells; clear hb5)
        | (go_at_call 27; (with_reducible refine (called_any o.preds HMP.out _ _ (HV.out.below HK.out.below).preds).mono ?_); rintro e w5 ⟨v5, rfl, hv5, hb5⟩; have HV5 := Lib.hid hv5; clear hv5; replace HK := Lib.hid (HK.out.up hb5); obtain ⟨q0, q1, q2, q3⟩ := HK.out.cells; clear hb5)
        | (go_at_call 29; refine (HT0.out _ _ HV5.out).mono ?_; rintro e w5 ⟨rfl, hb5⟩; replace HK := Lib.hid (HK.out.up hb5); obtain ⟨q0, q1, q2, q3⟩ := HK.out.cells; clear hb5))
    clear HTS HT1 HT0
    cases h1 : entsOk o.code.length (o.preds.map entOf)
    case false =>
      rw [h1] at hEN
      have HEN := Lib.hid hEN
      have HX : Hid (ck = 7) := Lib.hid (by rw [HCH4.out, h1]; rfl)
      clear hEN h1
      go_wp2_with (go_at_call 30; refine (HEN.out _ (HV.out.below HK.out.below).preds).mono ?_; rintro e w5 ⟨rfl, hb5⟩; replace HK := Lib.hid (HK.out.up hb5); obtain ⟨q0, q1, q2, q3⟩ := HK.out.cells; clear hb5)
      go_ret
      exact ⟨by rw [HX.out]; rfl, HK.out.below⟩
    case true =>
    rw [h1] at hEN
    have HEN := Lib.hid hEN
    have HCH5 : Hid (ck = codeErr o.atoms.length o.funs.length o.preds.length o.code.length o.code) := Lib.hid (by rw [HCH4.out, h1]; rfl)
    clear hEN h1 HCH4
    go_upto_region 9 with (go_at_call 30; refine (HEN.out _ (HV.out.below HK.out.below).preds).mono ?_; rintro e w5 ⟨rfl, hb5⟩; replace HK := Lib.hid (HK.out.up hb5); obtain ⟨q0, q1, q2, q3⟩ := HK.out.cells; clear hb5)
    clear HEN
    go_wp2
    go_loopw [66] (fun i wr => ∃ k : Nat, k ≤ o.code.length ∧ i = .int .i64 k ∧ Hid (CkB w wr g (.slice A1 o.atoms.length c1) (.slice A2 o.funs.length c2) (.slice A3 o.preds.length c3) (.slice A4 o.code.length c4)) ∧ Hid (codeErr o.atoms.length o.funs.length o.preds.length o.code.length (o.code.drop k) = ck)) (fun i _ => o.code.length - (intOf i).toNat)
    case atStart => exact ⟨0, by omega, rfl, HK, Lib.hid (by rw [HCH5.out]; rfl)⟩
    case round =>
      obtain ⟨k, hk, rfl, HKR, HCE⟩ := hrel
      clear q0 q1 q2 q3 HK
      have hlc := HMC.out
      by_cases hlt : k < o.code.length
      · obtain ⟨b, off, rfl, hb, hc0, hc1, hc2, hc3, hc4⟩ := insCell HV.out.code k hlt
        have d0 := (HKR.out.below.cell (p := ⟨b, off + k * 5, none⟩) hb).trans hc0
        have d1 := (HKR.out.below.cell (p := ⟨b, off + k * 5 + 1, none⟩) hb).trans hc1
        have d2 := (HKR.out.below.cell (p := ⟨b, off + k * 5 + 2, none⟩) hb).trans hc2
        have d3 := (HKR.out.below.cell (p := ⟨b, off + k * 5 + 3, none⟩) hb).trans hc3
        have d4 := (HKR.out.below.cell (p := ⟨b, off + k * 5 + 4, none⟩) hb).trans hc4
        have HST := Lib.hid (codeErr_step o.atoms.length o.funs.length o.preds.length o.code.length o.code k hlt)
        have hCI := fun w' hw => checkInstr_any A1 A2 A3 (some ⟨b, off, none⟩) o.atoms.length c1 o.funs.length c2 o.preds.length c3 o.code.length c4 o.code[k] w' hw
        clear hc0 hc1 hc2 hc3 hc4
        generalize insErr o.atoms.length o.funs.length o.preds.length o.code.length o.code[k] = ie at HST hCI
        generalize o.code[k].1 = i0 at d0 hCI
        generalize o.code[k].2.1 = i1 at d1 hCI
        generalize o.code[k].2.2.1 = i2 at d2 hCI
        generalize o.code[k].2.2.2.1 = i3 at d3 hCI
        generalize o.code[k].2.2.2.2 = i4 at d4 hCI
        have HKA := Lib.hid (HKR.out.up (alloc_below wr (.cells #[.int .i64 i0, .int .i64 i1, .int .i64 i2, .int .i64 i3, .int .i64 i4] 78)))
        have HNM := Lib.hid (HW.out.below HKA.out.below HW.out.lt)
        obtain ⟨r0, r1, r2, r3⟩ := HKA.out.cells
        have HCI := Lib.hid hCI
        clear hCI
        by_cases hz : ie = 0
        · subst hz
          have HCE2 : Hid (codeErr o.atoms.length o.funs.length o.preds.length o.code.length (o.code.drop (k + 1)) = ck) := Lib.hid (by rw [← HCE.out, HST.out, if_pos rfl])
          go_wp2_with (go_at_call 31; refine (HCI.out _ HNM.out).mono ?_; rintro e w5 ⟨rfl, hb5⟩; have HK5 := Lib.hid (HKA.out.up hb5); clear hb5)
          go_roundw
          case rel => exact ⟨k + 1, by omega, by go_num, HK5, HCE2⟩
          case measure => simp [intOf]; omega
        · have HX : Hid (ck = ie) := Lib.hid (by rw [← HCE.out, HST.out, if_neg hz])
          have hnz := ne_zero hz
          have hnz2 : (ie == 0) = false := by simpa using hz
          clear hz
          go_wp2_with (go_at_call 31; refine (HCI.out _ HNM.out).mono ?_; rintro e w5 ⟨rfl, hb5⟩; have HK5 := Lib.hid (HKA.out.up hb5); clear hb5)
          go_ret
          exact ⟨by rw [HX.out]; rfl, HK5.out.below⟩
      · obtain rfl : k = o.code.length := by omega
        have HX : Hid (ck = 0) := Lib.hid (by rw [← HCE.out, List.drop_length]; rfl)
        go_wp2
        go_ret
        exact ⟨by rw [HX.out]; rfl, HKR.out.below⟩

end Go.Proofs.YtfgnapfodnhppaaGreatDoor

namespace Go.Proofs.YtfgnapfodnhppaaGreatDoor
open Go Go.RowKit Go.WideShapes Go.ChangeShapes
set_option linter.unusedVariables false

theorem ret_u32 {a b : Nat} (h : a = b) : Ending.returned (.int .u32 (a : Int)) = .returned (.int .u32 (b : Int)) := by rw [h]

/-- A slice whose cells hold these bytes. -/
def BysAt (w : World) (v : Value) (l : List Nat) : Prop :=
  (l = [] ∧ ∃ A c, v = .slice A 0 c) ∨
    ∃ b off c, v = .slice (some ⟨b, off, none⟩) l.length c ∧ ∀ k, k < l.length → w.cell? ⟨b, off + k, none⟩ = some (.int .u8 ((l.getD k 0 : Nat) : Int))

theorem take_snoc' (l : List Nat) (k : Nat) (h : k < l.length) : l.take (k + 1) = l.take k ++ [l.getD k 0] := by
  rw [List.take_succ_eq_append_getElem h, List.getD_eq_getElem?_getD, List.getElem?_eq_getElem h]; rfl

theorem getD_lt {l : List Nat} (hl : ∀ c ∈ l, c < 256) (k : Nat) : l.getD k 0 < 256 := by
  rw [List.getD_eq_getElem?_getD]
  cases hq : l[k]? with
  | none => simp
  | some v => exact hl v (List.mem_of_getElem? hq)

theorem take_all (l : List Nat) (hl : ∀ c ∈ l, c < 256) (k : Nat) : ∀ c ∈ l.take k, c < 256 := fun c hc => hl c (List.mem_of_mem_take hc)

end Go.Proofs.YtfgnapfodnhppaaGreatDoor

namespace Go.Proofs.YtfgnapfodnhppaaGreatDoor
open Go Go.RowKit Go.WideShapes Go.ChangeShapes
set_option linter.unusedVariables false

theorem ret_val {a b : Nat} (h : a = b) : Value.int .u32 (a : Int) = .int .u32 (b : Int) := by rw [h]

/-- The byte goes in below. -/
theorem low_xor (x c : Nat) (hc : c < 256) : x / 256 * 256 + (x % 256 ^^^ c) = x ^^^ c := by
  have h1 : (x ^^^ c) / 2 ^ 8 = x / 2 ^ 8 ^^^ c / 2 ^ 8 := Nat.xor_div_two_pow
  have h2 : (x ^^^ c) % 2 ^ 8 = x % 2 ^ 8 ^^^ c % 2 ^ 8 := Nat.xor_mod_two_pow
  have h3 : c / 2 ^ 8 = 0 := Nat.div_eq_of_lt hc
  have h4 : c % 2 ^ 8 = c := Nat.mod_eq_of_lt hc
  rw [h3, Nat.xor_zero] at h1
  rw [h4] at h2
  have h5 := Nat.div_add_mod (x ^^^ c) 256
  have h1' : (x ^^^ c) / 256 = x / 256 := h1
  have h2' : (x ^^^ c) % 256 = x % 256 ^^^ c := h2
  rw [h1', h2'] at h5
  omega

theorem regOf_take (r : Nat) (l : List Nat) (k : Nat) (h : k < l.length) : regOf r (l.take (k + 1)) = shrN (regOf r (l.take k) ^^^ l.getD k 0) 8 := by
  rw [take_snoc' l k h, regOf_snoc]; rfl

/-- A slice of slices of bytes. -/
def PartsAt (w : World) (v : Value) (ls : List (List Nat)) : Prop :=
  (ls = [] ∧ ∃ A c, v = .slice A 0 c) ∨
    ∃ b off c, v = .slice (some ⟨b, off, none⟩) ls.length c ∧ ∀ k, k < ls.length → ∃ u, w.cell? ⟨b, off + k, none⟩ = some u ∧ BysAt w u (ls.getD k [])

theorem take_snoc2 (ls : List (List Nat)) (k : Nat) (h : k < ls.length) : ls.take (k + 1) = ls.take k ++ [ls.getD k []] := by
  rw [List.take_succ_eq_append_getElem h, List.getD_eq_getElem?_getD, List.getElem?_eq_getElem h]; rfl

theorem flat_lt {ls : List (List Nat)} (hl : ∀ l ∈ ls, ∀ c ∈ l, c < 256) : ∀ c ∈ ls.flatten, c < 256 := by
  intro c hc
  obtain ⟨l, h1, h2⟩ := List.mem_flatten.1 hc
  exact hl l h1 c h2

theorem getD_mem {ls : List (List Nat)} {k : Nat} (h : k < ls.length) : ls.getD k [] ∈ ls := by
  rw [List.getD_eq_getElem?_getD, List.getElem?_eq_getElem h]
  exact List.getElem_mem h

end Go.Proofs.YtfgnapfodnhppaaGreatDoor
