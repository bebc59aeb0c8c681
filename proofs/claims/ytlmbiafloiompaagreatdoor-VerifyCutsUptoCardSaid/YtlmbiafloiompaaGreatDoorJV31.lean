/-
  verify's spans (layer 11): the code of each predicate, in the order in which it stands; of whatever sort that keeps its word. Conditions: Entries that differ, at most 64 predicates.
-/
import Derived.Test.YtlmbiafloiompaaGreatDoorJV20
import Derived.Test.YtlmbiafloiompaaGreatDoorJV05
namespace Go.Proofs.YtlmbiafloiompaaGreatDoor
open Go Go.RowKit
set_option linter.unusedVariables false
set_option linter.unusedSimpArgs false
set_option maxRecDepth 100000

theorem slSpan : SlT 125 128 3 24 := ⟨Tryz.underlying125, ⟨.agg #[.int .i64 0, .int .i64 0, .int .i64 0], by kernel_rfl, rfl⟩, by decide, by decide⟩
/-- What is asked of the sort. -/
def SortOk : Prop := ∀ (base g cap : Nat) (l : List (Int × Int × Int)) (w : World), w.ownsRow base 128 3 (.slice (some ⟨g, 0, none⟩) l.length cap) l.length (l.flatMap spC) → l.length ≤ 1000 →
  Calls Tryz.prog 90 #[.slice (some ⟨g, 0, none⟩) l.length cap, .func (.func 91) #[] #[]] w fun e w' => e = .returned (.tuple #[]) ∧
    ∃ l' : List (Int × Int × Int), l'.Perm l ∧ l'.Pairwise (fun a b => a.2.1 ≤ b.2.1) ∧ w'.ownsRow base 128 3 (.slice (some ⟨g, 0, none⟩) l.length cap) l.length (l'.flatMap spC) ∧ Fr (fun k => k = g) w w'
def SortNil : Prop := ∀ w : World, Calls Tryz.prog 90 #[.slice none 0 0, .func (.func 91) #[] #[]] w fun e w' => e = .returned (.tuple #[]) ∧ w' = w

/-- Rows while the ends are laid: places from j on have them. -/
def rowS (n : Nat) (L : List (ByteArray × Int × Int)) (j : Nat) : List (Int × Int × Int) := (L.take j).map spZ ++ (spansOf n L).drop j
theorem rowS_len (n : Nat) (L : List (ByteArray × Int × Int)) (j : Nat) (h : j ≤ L.length) : (rowS n L j).length = L.length := by
  unfold rowS
  rw [List.length_append, List.length_map, List.length_take, List.length_drop, spans_len]
  omega
theorem rowS_all (n : Nat) (L : List (ByteArray × Int × Int)) : rowS n L L.length = L.map spZ := by
  unfold rowS
  rw [List.take_length, List.drop_eq_nil_of_le (by rw [spans_len]; exact Nat.le_refl _), List.append_nil]
theorem rowS_at (n : Nat) (L : List (ByteArray × Int × Int)) (m : Nat) (h : m < L.length) : (rowS n L (m + 1))[m]? = some (L[m].2.1, L[m].2.2, 0) := by
  unfold rowS
  rw [List.getElem?_append_left (by rw [List.length_map, List.length_take]; omega), List.getElem?_map, List.getElem?_take_of_lt (by omega), List.getElem?_eq_getElem h]
  rfl
theorem rowS_step (n : Nat) (L : List (ByteArray × Int × Int)) (m : Nat) (h : m < L.length) : rowS n L m = (rowS n L (m + 1)).set m (L[m].2.1, L[m].2.2, nextEnt n (L.drop (m + 1))) := by
  apply List.ext_getElem?
  intro j
  rw [List.getElem?_set]
  have hl := rowS_len n L (m + 1) (by omega)
  by_cases e : m = j
  · subst e
    rw [if_pos rfl, if_pos (by rw [hl]; exact h)]
    unfold rowS
    rw [List.getElem?_append_right (by rw [List.length_map, List.length_take]; omega), List.length_map, List.length_take, List.getElem?_drop, show m + (m - min m L.length) = m by omega, spans_at n L m h]
  · rw [if_neg e]
    unfold rowS
    by_cases hj : j < m
    · rw [List.getElem?_append_left (by rw [List.length_map, List.length_take]; omega), List.getElem?_append_left (by rw [List.length_map, List.length_take]; omega), List.getElem?_map, List.getElem?_map, List.getElem?_take_of_lt (by omega), List.getElem?_take_of_lt (by omega)]
    · rw [List.getElem?_append_right (by rw [List.length_map, List.length_take]; omega), List.getElem?_append_right (by rw [List.length_map, List.length_take]; omega), List.length_map, List.length_map, List.length_take, List.length_take, List.getElem?_drop, List.getElem?_drop, show m + (j - min m L.length) = j by omega, show m + 1 + (j - min (m + 1) L.length) = j by omega]
theorem flat_setS : ∀ (l : List (Int × Int × Int)) (m : Nat) (a b c x : Int), l[m]? = some (a, b, c) → (l.flatMap spC).set (m * 3 + 2) (.int .i64 x) = (l.set m (a, b, x)).flatMap spC
  | [], m, a, b, c, x, h => by simp at h
  | p :: l, 0, a, b, c, x, h => by
    obtain rfl : p = (a, b, c) := by simpa using h
    simp [spC]
  | p :: l, m + 1, a, b, c, x, h => by
    have h' : l[m]? = some (a, b, c) := by simpa using h
    rw [List.set_cons_succ, List.flatMap_cons, List.flatMap_cons, ← flat_setS l m a b c x h', List.set_append_right _ _ (by simp [spC]; omega)]
    congr 2
    simp [spC]
    omega
theorem strict_ofV {l : List (ByteArray × Int × Int)} (hp : l.Pairwise (fun p q => p.2.2 ≤ q.2.2)) (hn : (l.map (·.2.2)).Nodup) : l.Pairwise (fun p q => p.2.2 < q.2.2) := by
  rw [List.nodup_iff_pairwise_ne, List.pairwise_map] at hn
  exact (hp.and hn).imp (fun ⟨h1, h2⟩ => by omega)

set_option maxHeartbeats 16000000 in
theorem spans_any (HS : SortOk) (HN : SortNil) {o : Ob} (hnd : (o.preds.map (·.2.2)).Nodup) (hlp : o.preds.length ≤ 64) (hlc : o.code.length ≤ 1024) {va vf vp vc : Value} {w : World} (hv : ObAt w va vf vp vc o) :
    Calls Tryz.prog 52 #[.agg #[va, vf, vp, vc]] w fun e w' => ∃ v L, e = .returned v ∧ L.Perm o.preds ∧ L.Pairwise (fun p q => p.2.2 < q.2.2) ∧ w'.ownsRow w.heap.size 128 3 v L.length ((spansOf o.code.length L).flatMap spC) ∧ Below w.heap.size w w' := by
  obtain ⟨A1, c1, rfl⟩ := CellsAt.form hv.atoms
  obtain ⟨A2, cf, rfl⟩ := CellsAt.form hv.funs
  obtain ⟨A3, cp, rfl⟩ := CellsAt.form hv.preds
  obtain ⟨A4, cc, rfl⟩ := CellsAt.form hv.code
  have HV := Lib.hid hv.preds
  have HSO := Lib.hid HS
  have HSN := Lib.hid HN
  have HND := Lib.hid hnd
  clear hv HS HN hnd
  have HB := Lib.hid (alloc_below w (.cells #[.slice A1 o.atoms.length c1, .slice A2 o.funs.length cf, .slice A3 o.preds.length cp, .slice A4 o.code.length cc] 35))
  have HX := Lib.hid (Box.new w 35 #[.slice A1 o.atoms.length c1, .slice A2 o.funs.length cf, .slice A3 o.preds.length cp, .slice A4 o.code.length cc])
  obtain ⟨g, hg⟩ : ∃ g, w.heap.size = g := ⟨_, rfl⟩
  go_enter Tryz.func52, Tryz.ntmps52
  go_upto_region 2 with (fail)
  rw [hg] at HX
  obtain ⟨w1, hw1⟩ : ∃ w1, w.alloc (.cells #[.slice A1 o.atoms.length c1, .slice A2 o.funs.length cf, .slice A3 o.preds.length cp, .slice A4 o.code.length cc] 35) = w1 := ⟨_, rfl⟩
  rw [hw1] at HB HX ⊢
  clear hw1
  have HG := Lib.hid HB.out.size
  have x1 := HX.out.cell 2
  go_wp2
  clear x1
  have F0 := Lib.hid (Below.refl w1.heap.size w1)
  have O0 : Hid (w1.ownsRow w1.heap.size 128 3 (.slice none 0 0) 0 (((o.preds.take 0).map spZ).flatMap spC)) := Lib.hid ⟨rfl, .inl ⟨rfl, rfl⟩⟩
  go_loopw [3, 5, 11] (fun s _ i wr => ∃ (k : Nat) (vs : Value), k ≤ o.preds.length ∧ i = .int .i64 k ∧ vs = s ∧ Hid (wr.ownsRow w1.heap.size 128 3 vs k (((o.preds.take k).map spZ).flatMap spC)) ∧ Hid (Below w1.heap.size w1 wr)) (fun _ _ i _ => o.preds.length - (intOf i).toNat)
  case atStart => exact ⟨0, _, by omega, rfl, rfl, O0, F0⟩
  obtain ⟨k, vs, hk, rfl, rfl, HO, HF⟩ := hrel
  clear F0 O0
  by_cases hlt : k < o.preds.length
  case pos =>
    obtain ⟨b, off, rfl, hb, hc0, hc1, hc2⟩ := predCell HV.out k hlt
    have HBW := Lib.hid (HB.out.trans (HF.out.mono HG.out))
    have d0 := (HBW.out.cell (p := ⟨b, off + k * 3, none⟩) hb).trans hc0
    have d1 := (HBW.out.cell (p := ⟨b, off + k * 3 + 1, none⟩) hb).trans hc1
    have d2 := (HBW.out.cell (p := ⟨b, off + k * 3 + 2, none⟩) hb).trans hc2
    have HT : Hid (((o.preds.take (k + 1)).map spZ).flatMap spC = ((o.preds.take k).map spZ).flatMap spC ++ [.int .i64 o.preds[k].2.1, .int .i64 o.preds[k].2.2, .int .i64 0]) := Lib.hid (by
      rw [List.take_succ_eq_append_getElem hlt, List.map_append, List.flatMap_append]
      rfl)
    clear hc0 hc1 hc2
    generalize o.preds[k].1 = s at d0
    generalize o.preds[k].2.1 = ar at d1 HT
    generalize o.preds[k].2.2 = en at d2 HT
    have hgs := HF.out.size
    have HO5 := Lib.hid (own_fr (S := fun _ => False) HO.out ((Fr.refl _ wr).alloc (.cells #[.string s, .int .i64 ar, .int .i64 en] 64)) (fun _ _ x => x))
    have HF5 := Lib.hid (HF.out.alloc hgs (.cells #[.string s, .int .i64 ar, .int .i64 en] 64))
    obtain ⟨v7, w7, hr7, HA7⟩ := app_one slSpan HO5.out [.int .i64 ar, .int .i64 en, .int .i64 0] rfl (by intro u hu; simp only [List.mem_cons, List.not_mem_nil, or_false] at hu; rcases hu with rfl | rfl | rfl <;> rfl) (by omega) HF5.out.size 125
    have HB7 : Hid (Below w1.heap.size w1 w7) := Lib.hid (HF5.out.trans (HA7.out.below HO5.out HF5.out.size))
    have HO7 : Hid (w7.ownsRow w1.heap.size 128 3 v7 (k + 1) (((o.preds.take (k + 1)).map spZ).flatMap spC)) := Lib.hid (by rw [HT.out]; exact HA7.out.own)
    simp only [World.size_alloc] at hr7
    have HR := Lib.hid hr7
    clear hr7
    go_wp2_with (at_builtin; refine wpList_of_append HR.out rfl _ _ rfl rfl rfl ?_)
    go_roundw
    case rel => first | exact ⟨k + 1, _, by omega, by go_num, rfl, HO7, HB7⟩ | ((repeat apply Exists.intro); exact ⟨⟨k + 1, _, by omega, by go_num, rfl, HO7, HB7⟩, rfl⟩)
    case measure => simp [intOf]; omega
  case neg =>
  obtain rfl : k = o.preds.length := by omega
  have HO2 : Hid (wr.ownsRow w1.heap.size 128 3 vs o.preds.length ((o.preds.map spZ).flatMap spC)) := Lib.hid (by have h := HO.out; rw [List.take_length] at h; exact h)
  clear HO
  have HXr := Lib.hid (HX.out.below HF.out HX.out.lt)
  have hgl : g < w1.heap.size := HX.out.lt
  rcases HO2.out.2 with ⟨hv0, hn0⟩ | ⟨g', cap, cur, hv', hg', hbl, _⟩
  · subst hv0
    have hpn : o.preds = [] := List.eq_nil_of_length_eq_zero hn0
    have x3 := HXr.out.cell 3
    rw [hn0]
    go_wp2_with (go_at_call 90; refine (HSN.out _).mono ?_; rintro e w5 ⟨rfl, hw5⟩; have HF5 : Hid (Below w1.heap.size w1 w5) := Lib.hid (by rw [hw5]; exact HF.out); have x3 := (HX.out.below HF5.out HX.out.lt).cell 3; clear hw5)
    clear HF
    go_loopw [6, 7] (fun _ kv wr2 => kv = .int .i64 (-1) ∧ Hid (Below w1.heap.size w1 wr2)) (fun _ _ _ => 0)
    case atStart => exact ⟨by go_num, HF5⟩
    obtain ⟨rfl, HF⟩ := hrel
    go_wp2
    go_ret
    refine ⟨_, [], rfl, by rw [hpn], List.Pairwise.nil, ⟨rfl, .inl ⟨rfl, rfl⟩⟩, ?_⟩
    first | exact HB.out.trans (HF.out.mono HG.out) | (rw [hg]; exact HB.out.trans (HF.out.mono HG.out)) | (rw [← hg]; exact HB.out.trans (HF.out.mono HG.out))
  · subst hv'
    have HCW : Hid (wr.ownsRow w1.heap.size 128 3 (.slice (some ⟨g', 0, none⟩) (o.preds.map spZ).length cap) (o.preds.map spZ).length ((o.preds.map spZ).flatMap spC)) := Lib.hid (by rw [List.length_map]; exact HO2.out)
    have hcall := HSO.out w1.heap.size g' cap (o.preds.map spZ) wr HCW.out (by rw [List.length_map]; omega)
    rw [List.length_map] at hcall
    have HCALL := Lib.hid hcall
    have hgg : g ≠ g' := by omega
    clear hcall HCW HO2 hbl
    go_upto_region 8 with (go_at_call 90; refine HCALL.out.mono ?_; rintro e w5 ⟨rfl, l', hp', hs', ho', hf'⟩; have HP' := Lib.hid hp'; have HS' := Lib.hid hs'; have HO' := Lib.hid ho'; have HF' := Lib.hid hf'; clear hp' hs' ho' hf')
    obtain ⟨L, hL1, hL2⟩ := perm_lift spZ l' o.preds HP'.out
    subst hL2
    have hLl : L.length = o.preds.length := hL1.length_eq
    have HLP := Lib.hid hL1
    have HLS : Hid (L.Pairwise (fun p q => p.2.2 < q.2.2)) := Lib.hid (strict_ofV (by have h := HS'.out; rw [List.pairwise_map] at h; exact h) ((hL1.map (·.2.2)).nodup_iff.2 HND.out))
    have HX5 := Lib.hid (HXr.out.fr HF'.out hgg)
    have HB5 : Hid (Below w1.heap.size w1 w5) := Lib.hid (HF.out.trans (HF'.out.below HF.out.size (fun k hk => by subst hk; exact hg')))
    have x3 := HX5.out.cell 3
    have HO5 : Hid (w5.ownsRow w1.heap.size 128 3 (.slice (some ⟨g', 0, none⟩) o.preds.length cap) o.preds.length ((rowS o.code.length L L.length).flatMap spC)) := Lib.hid (by rw [rowS_all]; exact HO'.out)
    clear HP' HS' HF' HCALL hL1 HO'
    have HE0 : Hid (nextEnt o.code.length (L.drop L.length) = (o.code.length : Int)) := Lib.hid (by rw [List.drop_length]; rfl)
    go_upto_region 9 with (fail)
    go_wp2
    clear x3
    go_loopw [6, 7] (fun ev kv wr2 => ∃ j : Nat, j ≤ o.preds.length ∧ kv = .int .i64 ((j : Int) - 1) ∧ ev = .int .i64 (nextEnt o.code.length (L.drop j)) ∧ Hid (wr2.ownsRow w1.heap.size 128 3 (.slice (some ⟨g', 0, none⟩) o.preds.length cap) o.preds.length ((rowS o.code.length L j).flatMap spC)) ∧ Hid (Below w1.heap.size w1 wr2)) (fun _ kv _ => (intOf kv + 1).toNat)
    case atStart => exact ⟨o.preds.length, by omega, by go_num, by rw [← hLl, HE0.out], Lib.hid (by have h := HO5.out; rw [hLl] at h; exact h), HB5⟩
    obtain ⟨j, hj, hkv, hev, HOj, HBj⟩ := hrel
    clear HO5 HB5
    by_cases hj0 : 0 < j
    case pos =>
      obtain ⟨m, rfl⟩ : ∃ m, j = m + 1 := ⟨j - 1, by omega⟩
      rw [show ((m + 1 : Nat) : Int) - 1 = (m : Int) by omega] at hkv
      subst hkv hev
      have hm : m < L.length := by omega
      have hrm := rowS_at o.code.length L m hm
      have hfl := flat_at spC 3 (fun _ => rfl) (rowS o.code.length L (m + 1)) m _ hrm
      have hlen : ((rowS o.code.length L (m + 1)).flatMap spC).length = o.preds.length * 3 := HOj.out.1
      have k2 := HOj.out.cellAt (m * 3 + 2) (by omega)
      have k1 := HOj.out.cellAt (m * 3 + 1) (by omega)
      rw [hfl 2 (by omega)] at k2
      rw [hfl 1 (by omega)] at k1
      have z2 := HOj.out.frozenAt (m * 3 + 2)
      have HST := Lib.hid (HOj.out.stored (m * 3 + 2) (.int .i64 (nextEnt o.code.length (L.drop (m + 1)))))
      have HRW : Hid (((rowS o.code.length L (m + 1)).flatMap spC).set (m * 3 + 2) (.int .i64 (nextEnt o.code.length (L.drop (m + 1)))) = (rowS o.code.length L m).flatMap spC) := Lib.hid (by
        rw [flat_setS _ m _ _ _ _ hrm, ← rowS_step o.code.length L m hm])
      have HNX : Hid (nextEnt o.code.length (L.drop m) = L[m].2.2) := Lib.hid (by rw [List.drop_eq_getElem_cons hm]; rfl)
      have i0 : (0 : Int) ≤ (m : Int) := by omega
      have i1 : (m : Int) < (o.preds.length : Int) := by omega
      have hwr : IntKind.i64.wrap ((m : Int) - 1) = (m : Int) - 1 := IntWalk.i64_in _ (by omega)
      clear hfl hrm hlen
      generalize nextEnt o.code.length (L.drop (m + 1)) = nx at HST HRW
      simp only [spC, List.getElem?_cons_succ, List.getElem?_cons_zero] at k1 k2
      have k1' := (World.cell?_setCell_other wr ⟨g', m * 3 + 2, none⟩ ⟨g', m * 3 + 1, none⟩ (.int .i64 nx) (by simp)).trans k1
      have HBn := Lib.hid (HBj.out.setCell (p := ⟨g', m * 3 + 2, none⟩) hg' (.int .i64 nx))
      go_wp2
      go_roundw
      case rel => exact ⟨m, by omega, by go_num, by rw [HNX.out], Lib.hid (by rw [← HRW.out]; exact HST.out.1), HBn⟩
      case measure => simp [intOf]
    case neg =>
    obtain rfl : j = 0 := by omega
    subst hkv hev
    go_wp2
    go_ret
    refine ⟨_, L, rfl, HLP.out, HLS.out, ?_, ?_⟩
    · have h := HOj.out
      rw [← hLl] at h
      rw [← hLl]
      refine own_more h (fun k hk => ?_)
      have := (own_ge h hk).1
      have := HG.out
      omega
    · first | exact HB.out.trans (HBj.out.mono HG.out) | (rw [hg]; exact HB.out.trans (HBj.out.mono HG.out)) | (rw [← hg]; exact HB.out.trans (HBj.out.mono HG.out))

end Go.Proofs.YtlmbiafloiompaaGreatDoor
