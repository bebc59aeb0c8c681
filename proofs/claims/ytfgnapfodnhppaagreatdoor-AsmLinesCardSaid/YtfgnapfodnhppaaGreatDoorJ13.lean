/-
  The program's allEntries: whether each Entry may be, and no two are the same; by a table of what is taken, in new memory. Condition: at most 1024 instructions, as Check has seen before.
-/
import Derived.Test.YtfgnapfodnhppaaGreatDoorJ12
namespace Go.Proofs.YtfgnapfodnhppaaGreatDoor
open Go Go.RowKit Go.WideShapes Go.ChangeShapes
set_option linter.unusedVariables false
set_option linter.unusedSimpArgs false

def entOf (p : ByteArray × Int × Int) : Int := p.2.2
/-- What the first entries say: each may be, none (but None) is there twice. -/
def EntsTo (n : Nat) (es : List Int) : Prop := es.all (entryOk n) = true ∧ (es.filter (fun e => decide (e ≠ 65535))).Nodup

theorem ents_nil (n : Nat) : EntsTo n [] := ⟨rfl, by simp⟩
theorem ents_none {n : Nat} {es : List Int} (h : EntsTo n es) : EntsTo n (es ++ [65535]) := by
  refine ⟨by rw [List.all_append, h.1]; simp [entryOk], ?_⟩
  rw [List.filter_append]
  simpa using h.2
theorem ents_some {n : Nat} {es : List Int} {m : Nat} (h : EntsTo n es) (hm : m < n) (hn : (m : Int) ∉ es) : EntsTo n (es ++ [(m : Int)]) := by
  refine ⟨by rw [List.all_append, h.1]; simp [entryOk]; omega, ?_⟩
  rw [List.filter_append, List.nodup_append]
  refine ⟨h.2, (show [(m : Int)].Nodup by simp).sublist List.filter_sublist, fun a ha b hb => ?_⟩
  have h1 := (List.mem_filter.1 ha).1
  have h2 : b = (m : Int) := by simpa using (List.mem_filter.1 hb).1
  rintro rfl
  exact hn (h2 ▸ h1)
theorem ents_bad {n : Nat} {l : List Int} {k : Nat} (hk : k < l.length) (he : entryOk n l[k] = false) : entsOk n l = false := by
  unfold entsOk
  rw [all_not _ l k hk he]
  rfl
theorem ents_twice {n : Nat} {l : List Int} {k : Nat} (hk : k < l.length) (he : l[k] ≠ 65535) (hin : l[k] ∈ l.take k) : entsOk n l = false := by
  unfold entsOk
  have : ¬ (l.filter (fun e => decide (e ≠ 65535))).Nodup := fun hd => by
    have h2 : ((l.take (k + 1)).filter (fun e => decide (e ≠ 65535))).Nodup := hd.sublist ((List.take_sublist _ _).filter _)
    rw [List.take_succ_eq_append_getElem hk, List.filter_append, List.nodup_append] at h2
    exact h2.2.2 l[k] (List.mem_filter.2 ⟨hin, by simpa using he⟩) l[k] (by simp [he]) rfl
  rw [decide_eq_false this, Bool.and_false]
theorem ents_all {n : Nat} {l : List Int} (h : EntsTo n l) : entsOk n l = true := by
  unfold entsOk
  rw [h.1, decide_eq_true h.2]
  rfl

/-- What a round keeps: the object's box, the table of what is taken. -/
structure En (w wr : World) (g1 g2 : Nat) (va vf vp vc : Value) (es : List Int) : Prop where
  ob : Box wr g1 31 #[va, vf, vp, vc]
  tab : ∃ cs : Array Value, cs.size = 1024 ∧ Box wr g2 116 cs ∧ ∀ j : Nat, j < 1024 → cs[j]? = some (.bool (decide ((j : Int) ∈ es)))
  ne : g1 ≠ g2
  new1 : w.heap.size ≤ g1
  new2 : w.heap.size ≤ g2
  below : Below w.heap.size w wr
theorem En.alloc {w wr : World} {g1 g2 : Nat} {va vf vp vc : Value} {es : List Int} (h : En w wr g1 g2 va vf vp vc es) (o : Obj) : En w (wr.alloc o) g1 g2 va vf vp vc es := by
  obtain ⟨cs, h1, h2, h3⟩ := h.tab
  exact ⟨h.ob.alloc o, ⟨cs, h1, h2.alloc o, h3⟩, h.ne, h.new1, h.new2, h.below.alloc h.below.size o⟩
theorem En.same {w wr : World} {g1 g2 : Nat} {va vf vp vc : Value} {es es' : List Int} (h : En w wr g1 g2 va vf vp vc es) (he : ∀ j : Nat, j < 1024 → ((j : Int) ∈ es ↔ (j : Int) ∈ es')) : En w wr g1 g2 va vf vp vc es' := by
  obtain ⟨cs, h1, h2, h3⟩ := h.tab
  refine ⟨h.ob, ⟨cs, h1, h2, fun j hj => ?_⟩, h.ne, h.new1, h.new2, h.below⟩
  rw [h3 j hj]
  simp [he j hj]
theorem En.cell {w wr : World} {g1 g2 : Nat} {va vf vp vc : Value} {es : List Int} (h : En w wr g1 g2 va vf vp vc es) (m : Nat) (hm : m < 1024) : wr.cell? ⟨g2, m, none⟩ = some (.bool (decide ((m : Int) ∈ es))) ∧ wr.frozen? ⟨g2, m, none⟩ = false := by
  obtain ⟨cs, h1, h2, h3⟩ := h.tab
  exact ⟨(h2.cell m).trans (h3 m hm), h2.frozen m⟩
theorem En.set {w wr : World} {g1 g2 : Nat} {va vf vp vc : Value} {es : List Int} (h : En w wr g1 g2 va vf vp vc es) (m : Nat) (hm : m < 1024) : En w (wr.setCell ⟨g2, m, none⟩ (.bool true)) g1 g2 va vf vp vc (es ++ [(m : Int)]) := by
  obtain ⟨cs, h1, h2, h3⟩ := h.tab
  refine ⟨h.ob.far h.ne _, ⟨cs.setIfInBounds m (.bool true), by simp [h1], h2.set_ m _, fun j hj => ?_⟩, h.ne, h.new1, h.new2, h.below.setCell (p := ⟨g2, m, none⟩) h.new2 _⟩
  rw [Array.getElem?_setIfInBounds]
  by_cases e : m = j
  · subst e
    simp [h1, hm]
  · rw [if_neg e, h3 j hj]
    have : ¬ (j : Int) = (m : Int) := by omega
    simp [this]

def isFalseV : Value → Bool
  | .bool false => true
  | _ => false
theorem isFalseV_eq {v : Value} (h : isFalseV v = true) : v = .bool false := by
  unfold isFalseV at h
  split at h
  · rfl
  · cases h
theorem zero1024_size : Tryz.zeroCells116.size = 1024 := by kernel_rfl
theorem zero1024_all : (Tryz.zeroCells116.toList.all isFalseV) = true := by kernel_rfl
theorem zero1024_at (j : Nat) (h : j < 1024) : Tryz.zeroCells116[j]? = some (.bool false) := by
  have hj : j < Tryz.zeroCells116.size := by rw [zero1024_size]; exact h
  rw [Array.getElem?_eq_getElem hj]
  have h1 := List.all_eq_true.1 zero1024_all (Tryz.zeroCells116[j]) (Array.getElem_mem_toList hj)
  rw [isFalseV_eq h1]

theorem en_start (w : World) (va vf vp vc : Value) : En w ((w.alloc (.cells #[va, vf, vp, vc] 31)).alloc (.cells Tryz.zeroCells116 116)) w.heap.size (w.heap.size + 1) va vf vp vc [] := by
  have h := Box.new (w.alloc (.cells #[va, vf, vp, vc] 31)) 116 Tryz.zeroCells116
  rw [World.size_alloc] at h
  exact ⟨(Box.new w _ _).alloc _, ⟨_, zero1024_size, h, fun j hj => by rw [zero1024_at j hj]; simp⟩, by omega, Nat.le_refl _, by omega, two_below w _ _⟩

set_option maxRecDepth 100000 in
set_option maxHeartbeats 4000000 in
theorem entries_any (A1 A2 A4 : Option Addr) (a c1 f c2 c c4 : Nat) (l : List (ByteArray × Int × Int)) (hm : l.length ≤ 1000000) (hc : c ≤ 1024) (vp : Value) (w : World) (hv : PredsAt w vp l) :
    Calls Tryz.prog 30 #[.agg #[.slice A1 a c1, .slice A2 f c2, vp, .slice A4 c c4]] w fun e w' => e = .returned (.bool (entsOk c (l.map entOf))) ∧ Below w.heap.size w w' := by
  obtain ⟨A3, c3, rfl⟩ := CellsAt.form hv
  have HV := Lib.hid hv
  clear hv
  go_enter Tryz.func30, Tryz.ntmps30
  go_upto_region 2 with (fail)
  have E0 := Lib.hid (en_start w (.slice A1 a c1) (.slice A2 f c2) (.slice A3 l.length c3) (.slice A4 c c4))
  obtain ⟨w0, hw0⟩ : ∃ w0, (w.alloc (.cells #[.slice A1 a c1, .slice A2 f c2, .slice A3 l.length c3, .slice A4 c c4] 31)).alloc (.cells Tryz.zeroCells116 116) = w0 := ⟨_, rfl⟩
  rw [hw0] at E0 ⊢
  obtain ⟨g2, hg2⟩ : ∃ g2, w.heap.size + 1 = g2 := ⟨_, rfl⟩
  rw [hg2] at E0 ⊢
  obtain ⟨g1, hg1⟩ : ∃ g1, w.heap.size = g1 := ⟨_, rfl⟩
  rw [hg1] at E0 ⊢
  clear hw0 hg2 hg1
  have q2 := E0.out.ob.cell 2
  go_wp2
  clear q2
  go_loopw [9] (fun i wr => ∃ k : Nat, k ≤ l.length ∧ i = .int .i64 k ∧ Hid (EntsTo c ((l.map entOf).take k)) ∧ Hid (En w wr g1 g2 (.slice A1 a c1) (.slice A2 f c2) (.slice A3 l.length c3) (.slice A4 c c4) ((l.map entOf).take k))) (fun i _ => l.length - (intOf i).toNat)
  case atStart => exact ⟨0, by omega, rfl, Lib.hid (ents_nil c), E0⟩
  case round =>
    obtain ⟨k, hk, rfl, HT, HE⟩ := hrel
    clear E0
    by_cases hlt : k < l.length
    · obtain ⟨b, off, rfl, hb, hc0, hc1, hc2⟩ := predCell HV.out k hlt
      have d0 := (HE.out.below.cell (p := ⟨b, off + k * 3, none⟩) hb).trans hc0
      have d1 := (HE.out.below.cell (p := ⟨b, off + k * 3 + 1, none⟩) hb).trans hc1
      have d2 := (HE.out.below.cell (p := ⟨b, off + k * 3 + 2, none⟩) hb).trans hc2
      have hkl : k < (l.map entOf).length := by rw [List.length_map]; exact hlt
      have hge : (l.map entOf)[k] = l[k].2.2 := by rw [List.getElem_map]; rfl
      have HTK : Hid ((l.map entOf).take (k + 1) = (l.map entOf).take k ++ [l[k].2.2]) := Lib.hid (by rw [List.take_succ_eq_append_getElem hkl, hge])
      have HBAD : Hid (entryOk c l[k].2.2 = false → entsOk c (l.map entOf) = false) := Lib.hid (fun h => ents_bad hkl (by rw [hge]; exact h))
      have HTW : Hid (l[k].2.2 ≠ 65535 → l[k].2.2 ∈ (l.map entOf).take k → entsOk c (l.map entOf) = false) := Lib.hid (fun h1 h2 => ents_twice hkl (by rw [hge]; exact h1) (by rw [hge]; exact h2))
      clear hc0 hc1 hc2 hge hkl
      generalize l[k].1 = s at d0
      generalize l[k].2.1 = n at d1
      generalize l[k].2.2 = e at d2 HTK HBAD HTW
      have HE2 := Lib.hid (HE.out.alloc (.cells #[.string s, .int .i64 n, .int .i64 e] 52))
      by_cases hn : e = 65535
      · subst hn
        have HN1 : Hid (EntsTo c ((l.map entOf).take (k + 1))) := Lib.hid (by rw [HTK.out]; exact ents_none HT.out)
        have HN2 := Lib.hid (HE2.out.same (es' := (l.map entOf).take (k + 1)) (fun j hj => by rw [HTK.out]; simp; omega))
        go_wp2
        go_roundw
        case rel => exact ⟨k + 1, by omega, by go_num, HN1, HN2⟩
        case measure => simp [intOf]; omega
      · have hne : (e == 65535) = false := by simpa using hn
        have x3 := (HE.out.ob.alloc (.cells #[.string s, .int .i64 n, .int .i64 e] 52)).cell 3
        by_cases hin : 0 ≤ e ∧ e < (c : Int)
        · obtain ⟨m, rfl⟩ := Int.eq_ofNat_of_zero_le hin.1
          have hmc : m < c := by omega
          have hm1024 : m < 1024 := by omega
          obtain ⟨y0, y1⟩ := HE2.out.cell m hm1024
          have hwi := fun w => (within_any (m : Int) (c : Int) w).mono (R' := fun e w' => e = .returned (.bool true) ∧ w = w') (fun e w' h => ⟨by rw [h.1, decide_eq_true hin], h.2⟩)
          have HWI := Lib.hid hwi
          have z1 : (m : Int) < 1024 := by omega
          have z2 : (0 : Int) ≤ (m : Int) := by omega
          have HSET := Lib.hid (HE2.out.set m hm1024)
          clear hin hwi
          by_cases ht : (m : Int) ∈ (l.map entOf).take k
          · rw [decide_eq_true ht] at y0
            have HX := Lib.hid (HTW.out hn ht)
            clear ht hn
            go_wp2_with (go_at_call 59; refine (HWI.out _).mono ?_; rintro e w' ⟨rfl, rfl⟩)
            go_ret
            exact ⟨by rw [HX.out]; rfl, HE2.out.below⟩
          · rw [decide_eq_false ht] at y0
            have HN1 : Hid (EntsTo c ((l.map entOf).take (k + 1))) := Lib.hid (by rw [HTK.out]; exact ents_some HT.out hmc ht)
            rw [← HTK.out] at HSET
            clear ht hn
            go_wp2_with (go_at_call 59; refine (HWI.out _).mono ?_; rintro e w' ⟨rfl, rfl⟩)
            go_roundw
            case rel => exact ⟨k + 1, by omega, by go_num, HN1, HSET⟩
            case measure => simp [intOf]; omega
        · have hwi := fun w => (within_any e (c : Int) w).mono (R' := fun e w' => e = .returned (.bool false) ∧ w = w') (fun e w' h => ⟨by rw [h.1, decide_eq_false hin], h.2⟩)
          have HWI := Lib.hid hwi
          have HX := Lib.hid (HBAD.out (by unfold entryOk; rw [decide_eq_false_iff_not]; omega))
          clear hwi hin hn
          go_wp2_with (go_at_call 59; refine (HWI.out _).mono ?_; rintro e w' ⟨rfl, rfl⟩)
          go_ret
          exact ⟨by rw [HX.out]; rfl, HE2.out.below⟩
    · obtain rfl : k = l.length := by omega
      have HX : Hid (entsOk c (l.map entOf) = true) := Lib.hid (by
        have h := HT.out
        rw [List.take_of_length_le (by simp)] at h
        exact ents_all h)
      go_wp2
      go_ret
      exact ⟨by rw [HX.out]; rfl, HE.out.below⟩

end Go.Proofs.YtfgnapfodnhppaaGreatDoor
