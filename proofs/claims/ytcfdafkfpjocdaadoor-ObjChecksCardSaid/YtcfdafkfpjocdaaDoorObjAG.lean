/-
  The statement ObjChecks: in whatever world that holds the names of the instructions, of whatever object, name and number: true; new memory alone.
-/
import Derived.Test.YtcfdafkfpjocdaaDoorObjAF
import Derived.Test.YtcfdafkfpjocdaaDoorObjX
import Derived.Test.YtcfdafkfpjocdaaDoorObjYB
import Derived.Test.YtcfdafkfpjocdaaDoorObjT
import Derived.Deep.RegionHeld3
namespace Go.Proofs.YtcfdafkfpjocdaaDoor
open Go Go.RowKit Go.WideShapes Go.ChangeShapes
set_option linter.unusedVariables false
set_option linter.unusedSimpArgs false

/-- No more than can be looked at. -/
def fewB (o : Ob) : Bool := decide (o.atoms.length ≤ 300 ∧ o.funs.length ≤ 300 ∧ o.preds.length ≤ 100 ∧ o.code.length ≤ 1100)

set_option maxRecDepth 100000 in
set_option maxHeartbeats 4000000 in
theorem few8_any (o : Ob) (va vf vp vc : Value) (w : World) (hv : ObAt w va vf vp vc o) :
    Calls Tryd.prog 7 #[.agg #[va, vf, vp, vc]] w fun e w' => e = .returned (.bool (fewB o)) ∧ Below w.heap.size w w' := by
  obtain ⟨A1, c1, rfl⟩ := CellsAt.form hv.atoms
  obtain ⟨A2, c2, rfl⟩ := CellsAt.form hv.funs
  obtain ⟨A3, c3, rfl⟩ := CellsAt.form hv.preds
  obtain ⟨A4, c4, rfl⟩ := CellsAt.form hv.code
  have HT : Hid (fewB o = decide (o.atoms.length ≤ 300 ∧ o.funs.length ≤ 300 ∧ o.preds.length ≤ 100 ∧ o.code.length ≤ 1100)) := Lib.hid rfl
  generalize fewB o = r at HT
  generalize o.atoms.length = n1 at HT ⊢
  generalize o.funs.length = n2 at HT ⊢
  generalize o.preds.length = n3 at HT ⊢
  generalize o.code.length = n4 at HT ⊢
  clear hv
  have HB := Lib.hid (alloc_below w (.cells #[.slice A1 n1 c1, .slice A2 n2 c2, .slice A3 n3 c3, .slice A4 n4 c4] 27))
  have hE0 := Box.new w 27 #[.slice A1 n1 c1, .slice A2 n2 c2, .slice A3 n3 c3, .slice A4 n4 c4]
  by_cases h1 : (n1 : Int) ≤ 300
  case neg =>
    have HX : Hid (r = false) := Lib.hid (by rw [HT.out]; simp; omega)
    go_enter Tryd.func7, Tryd.ntmps7
    go_wp2
    go_ret
    exact ⟨by rw [HX.out]; rfl, HB.out⟩
  by_cases h2 : (n2 : Int) ≤ 300
  case neg =>
    have HX : Hid (r = false) := Lib.hid (by rw [HT.out]; simp; omega)
    go_enter Tryd.func7, Tryd.ntmps7
    go_wp2
    go_ret
    exact ⟨by rw [HX.out]; rfl, HB.out⟩
  by_cases h3 : (n3 : Int) ≤ 100
  case neg =>
    have HX : Hid (r = false) := Lib.hid (by rw [HT.out]; simp; omega)
    go_enter Tryd.func7, Tryd.ntmps7
    go_wp2
    go_ret
    exact ⟨by rw [HX.out]; rfl, HB.out⟩
  by_cases h4 : (n4 : Int) ≤ 1100
  case neg =>
    have HX : Hid (r = false) := Lib.hid (by rw [HT.out]; simp; omega)
    go_enter Tryd.func7, Tryd.ntmps7
    go_wp2
    go_ret
    exact ⟨by rw [HX.out]; rfl, HB.out⟩
  have HX : Hid (r = true) := Lib.hid (by rw [HT.out]; simp; omega)
  go_enter Tryd.func7, Tryd.ntmps7
  go_wp2
  go_ret
  exact ⟨by rw [HX.out]; rfl, HB.out⟩

theorem Strict.bysIn {w : World} {base : Nat} {v : Value} {l : List Nat} (h : Strict w base v l) : BysIn w v l := by
  have hb := Row.bys (.inl h)
  rcases h.2 with ⟨h0, h1⟩ | ⟨g, cap, cur, rfl, hb2, hg, h2, h3, _⟩
  · exact .inl ⟨List.length_eq_zero_iff.1 h1, h0⟩
  · refine .inr ⟨g, 0, cap, rfl, h2, by unfold maxLen at h3; omega, (Array.getElem?_eq_some_iff.1 hg).1, fun k hk => ?_⟩
    rw [Nat.zero_add, World.ownsRow.cellAt (g := g) h k (by omega)]
    simp [bysV, List.getD_eq_getElem?_getD, hk]
theorem encodeOf_lt (o : Ob) : ∀ c ∈ encodeOf o, c < 256 := by
  unfold encodeOf
  split
  · exact app_lt (bodyL_lt o) (numL_lt _ _)
  · intro c hc
    cases hc

theorem pfind_any' (o : Ob) (hm : o.preds.length ≤ 1000000) (va vf vp vc : Value) (name : ByteArray) (arity : Int) (w : World) (hv : ObAt w va vf vp vc o) :
    Calls Tryd.prog 14 #[.agg #[va, vf, vp, vc], .string name, .int .i64 arity] w fun e w' => e = .returned (.int .i64 (findFrom name arity 0 o.preds)) ∧ Below w.heap.size w w' := by
  obtain ⟨A1, c1, rfl⟩ := CellsAt.form hv.atoms
  obtain ⟨A2, c2, rfl⟩ := CellsAt.form hv.funs
  obtain ⟨A4, c4, rfl⟩ := CellsAt.form hv.code
  exact pfind_any A1 A2 A4 _ c1 _ c2 _ c4 o.preds hm vp name arity w hv.preds
theorem rfind_any' (o : Ob) (hm : o.preds.length ≤ 1000000) (va vf vp vc : Value) (name : ByteArray) (arity : Int) (w : World) (hv : ObAt w va vf vp vc o) :
    Calls Tryd.prog 15 #[.agg #[va, vf, vp, vc], .string name, .int .i64 arity] w fun e w' => e = .returned (.int .i64 (findFrom name arity 0 o.preds)) ∧ Below w.heap.size w w' := by
  obtain ⟨A1, c1, rfl⟩ := CellsAt.form hv.atoms
  obtain ⟨A2, c2, rfl⟩ := CellsAt.form hv.funs
  obtain ⟨A4, c4, rfl⟩ := CellsAt.form hv.code
  exact rfind_any A1 A2 A4 _ c1 _ c2 _ c4 o.preds hm vp name arity w hv.preds

/-- What is known from the first call on: both objects in memory. -/
structure Oc (w : World) (g gx : Nat) (va vf vp vc ua uf up uc : Value) (o : Ob) (W : World) : Prop where
  names : NamesAt W
  ob : Box W g 27 #[va, vf, vp, vc]
  bx : Box W gx 36 #[ua, uf, up, uc]
  av : ObAt W va vf vp vc o
  au : ObAt W ua uf up uc o
  below : Below w.heap.size w W
theorem Oc.up {w : World} {g gx : Nat} {va vf vp vc ua uf up uc : Value} {o : Ob} {W W' : World} (h : Oc w g gx va vf vp vc ua uf up uc o W) (hb : Below W.heap.size W W') : Oc w g gx va vf vp vc ua uf up uc o W' :=
  ⟨h.names.below hb h.names.lt, h.ob.below hb h.ob.lt, h.bx.below hb h.bx.lt, h.av.below hb, h.au.below hb, h.below.trans (hb.mono h.below.size)⟩
/-- And the bytes of both. -/
structure Ow (w : World) (g gx : Nat) (va vf vp vc ua uf up uc : Value) (o : Ob) (v8 v10 : Value) (l : List Nat) (W : World) : Prop where
  p : Oc w g gx va vf vp vc ua uf up uc o W
  r8 : BysIn W v8 l
  r10 : BysIn W v10 l
theorem Ow.up {w : World} {g gx : Nat} {va vf vp vc ua uf up uc : Value} {o : Ob} {v8 v10 : Value} {l : List Nat} {W W' : World} (h : Ow w g gx va vf vp vc ua uf up uc o v8 v10 l W) (hb : Below W.heap.size W W') : Ow w g gx va vf vp vc ua uf up uc o v8 v10 l W' :=
  ⟨h.p.up hb, h.r8.below hb, h.r10.below hb⟩
theorem Ow.cells {w : World} {g gx : Nat} {va vf vp vc ua uf up uc : Value} {o : Ob} {v8 v10 : Value} {l : List Nat} {W : World} (h : Ow w g gx va vf vp vc ua uf up uc o v8 v10 l W) (hl : ∀ c ∈ l, c < 256) :
    (W.cell? ⟨g, 0, none⟩ = some va ∧ W.cell? ⟨g, 1, none⟩ = some vf ∧ W.cell? ⟨g, 2, none⟩ = some vp ∧ W.cell? ⟨g, 3, none⟩ = some vc) ∧
    (W.cell? ⟨gx, 0, none⟩ = some ua ∧ W.cell? ⟨gx, 1, none⟩ = some uf ∧ W.cell? ⟨gx, 2, none⟩ = some up ∧ W.cell? ⟨gx, 3, none⟩ = some uc) ∧
    (convert 38 9 v8).run Tryd.prog W = .ok (.string (strOf l)) W ∧ (convert 38 9 v10).run Tryd.prog W = .ok (.string (strOf l)) W :=
  ⟨⟨h.p.ob.cell 0, h.p.ob.cell 1, h.p.ob.cell 2, h.p.ob.cell 3⟩, ⟨h.p.bx.cell 0, h.p.bx.cell 1, h.p.bx.cell 2, h.p.bx.cell 3⟩, conv_str h.r8 hl, conv_str h.r10 hl⟩

set_option maxRecDepth 100000 in
set_option maxHeartbeats 16000000 in
theorem objChecks_any (o : Ob) (hs1 : ∀ s ∈ o.atoms, s.size ≤ maxLen) (hs2 : ∀ f ∈ o.funs, f.1.size ≤ maxLen) (hs3 : ∀ p ∈ o.preds, p.1.size ≤ maxLen) (va vf vp vc : Value) (name : ByteArray) (arity : Int) (w : World) (hw : NamesAt w) (hv : ObAt w va vf vp vc o) (hnil : ∀ k c, va = .slice none k c → c = 0) :
    Calls Tryd.prog 3 #[.agg #[va, vf, vp, vc], .string name, .int .i64 arity] w fun e w' => e = .returned (.bool true) ∧ Below w.heap.size w w' := by
  have HW := Lib.hid hw
  have HV := Lib.hid hv
  have HNIL := Lib.hid hnil
  have HBX := Lib.hid (Box.new w 27 #[va, vf, vp, vc])
  have HB1 := Lib.hid (alloc_below w (.cells #[va, vf, vp, vc] 27))
  have HV1 := Lib.hid (hv.below HB1.out)
  have HW1 := Lib.hid (hw.below HB1.out hw.lt)
  have HFEW := Lib.hid (fun w h => few8_any o va vf vp vc w h)
  have hfw : fewB o = true → ObWf o := fun h => by
    have h2 := of_decide_eq_true h
    exact ⟨hs1, hs2, hs3, by omega, by omega, by omega, by omega⟩
  have HWF := Lib.hid hfw
  clear hw hv hnil hs1 hs2 hs3 hfw
  cases hfe : fewB o
  case false =>
    rw [hfe] at HFEW
    clear hfe
    go_enter Tryd.func3, Tryd.ntmps3
    go_wp2_with (first
      | (go_at_call 7; refine (HFEW.out _ HV1.out).mono ?_; rintro e w2 ⟨rfl, hb2⟩; have HB2 := Lib.hid (HB1.out.trans (hb2.mono HB1.out.size)); have HW2 := Lib.hid (HW1.out.below hb2 HW1.out.lt); clear hb2)
      | (go_at_call 8; refine (told_any _ HW2.out).mono ?_; rintro e w3 ⟨rfl, hb3⟩; have HB3 := Lib.hid (HB2.out.trans (hb3.mono HB2.out.size)); clear hb3))
    go_ret
    exact ⟨rfl, HB3.out⟩
  rw [hfe] at HFEW
  have HO := Lib.hid (HWF.out hfe)
  clear hfe HWF
  go_enter Tryd.func3, Tryd.ntmps3
  go_upto_region 3 with (go_at_call 7; refine (HFEW.out _ HV1.out).mono ?_; rintro e w2 ⟨rfl, hb2⟩; have HBX2 := Lib.hid (HBX.out.below hb2 HBX.out.lt); have HB2 := Lib.hid (HB1.out.trans (hb2.mono HB1.out.size)); have HV2 := Lib.hid (HV1.out.below hb2); have HW2 := Lib.hid (HW1.out.below hb2 HW1.out.lt); clear hb2)
  have q0 := HBX2.out.cell 0
  have q1 := HBX2.out.cell 1
  have q2 := HBX2.out.cell 2
  have q3 := HBX2.out.cell 3
  have HTO := Lib.hid (toOb_any o HO.out va vf vp vc w2 HV2.out HNIL.out)
  go_upto_region 4 with (go_at_call 9; refine HTO.out.mono ?_; rintro e w3 ⟨ua, uf, up, uc, rfl, hu3, hb3, hn3⟩; obtain ⟨E1, f1, rfl⟩ := CellsAt.form hu3.atoms; obtain ⟨E2, f2, rfl⟩ := CellsAt.form hu3.funs; obtain ⟨E3, f3, rfl⟩ := CellsAt.form hu3.preds; obtain ⟨E4, f4, rfl⟩ := CellsAt.form hu3.code; have HNU := Lib.hid hn3; have HU3 := Lib.hid hu3; have HBX3 := Lib.hid (HBX2.out.below hb3 HBX2.out.lt); have HB3 := Lib.hid (HB2.out.trans (hb3.mono HB2.out.size)); have HV3 := Lib.hid (HV2.out.below hb3); have HW3 := Lib.hid (HW2.out.below hb3 HW2.out.lt); clear hb3 hu3 hn3)
  have hal := alloc_below w3 (.cells #[(.slice E1 o.atoms.length f1), (.slice E2 o.funs.length f2), (.slice E3 o.preds.length f3), (.slice E4 o.code.length f4)] 36)
  have HOC : Hid (Oc w w.heap.size w3.heap.size va vf vp vc (.slice E1 o.atoms.length f1) (.slice E2 o.funs.length f2) (.slice E3 o.preds.length f3) (.slice E4 o.code.length f4) o (w3.alloc (.cells #[(.slice E1 o.atoms.length f1), (.slice E2 o.funs.length f2), (.slice E3 o.preds.length f3), (.slice E4 o.code.length f4)] 36))) := Lib.hid
    ⟨HW3.out.below hal HW3.out.lt, HBX3.out.below hal HBX3.out.lt, Box.new w3 _ _, HV3.out.below hal, HU3.out.below hal, HB3.out.trans (hal.mono HB3.out.size)⟩
  clear q0 q1 q2 q3 hal HTO HFEW HV1 HW1 HB1 HBX HBX2 HB2 HV2 HW2 HBX3 HB3 HV3 HW3 HU3
  obtain ⟨w4, hw4⟩ : ∃ w4, w3.alloc (.cells #[(.slice E1 o.atoms.length f1), (.slice E2 o.funs.length f2), (.slice E3 o.preds.length f3), (.slice E4 o.code.length f4)] 36) = w4 := ⟨_, rfl⟩
  rw [hw4] at HOC ⊢
  obtain ⟨gx, hgx⟩ : ∃ gx, w3.heap.size = gx := ⟨_, rfl⟩
  rw [hgx] at HOC
  try rw [hgx]
  obtain ⟨g, hg⟩ : ∃ g, w.heap.size = g := ⟨_, rfl⟩
  have HG := Lib.hid hg
  rw [hg] at HOC
  rw [show ({ block := w.heap.size, off := 0 } : Addr) = { block := g, off := 0 } by rw [hg]]
  clear hw4 hgx hg
  have HEN := Lib.hid (encode_any o HO.out (.slice E1 o.atoms.length f1) (.slice E2 o.funs.length f2) (.slice E3 o.preds.length f3) (.slice E4 o.code.length f4) w4 HOC.out.names HOC.out.au)
  have HREN := Lib.hid (fun W h => rencode_any o HO.out va vf vp vc W h)
  have HLT := Lib.hid (encodeOf_lt o)
  have HCK := Lib.hid (fun W hw h => check_any o HO.out (.slice E1 o.atoms.length f1) (.slice E2 o.funs.length f2) (.slice E3 o.preds.length f3) (.slice E4 o.code.length f4) W hw h)
  have HRCK := Lib.hid (fun W h => rcheck_any o HO.out va vf vp vc W h)
  generalize encodeOf o = en at HEN HREN HLT
  generalize checkOf o = ck at HEN HREN HCK HRCK
  have x0 := HOC.out.bx.cell 0
  have x1 := HOC.out.bx.cell 1
  have x2 := HOC.out.bx.cell 2
  have x3 := HOC.out.bx.cell 3
  go_upto_region 5 with (go_at_call 10; refine HEN.out.mono ?_; rintro e w5 ⟨v5, rfl, hs5, hb5⟩; have HS5 := Lib.hid hs5.bysIn; have HOC5 := Lib.hid (HOC.out.up hb5); clear hs5 hb5)
  clear x0 x1 x2 x3 HEN HOC
  have q0 := HOC5.out.ob.cell 0
  have q1 := HOC5.out.ob.cell 1
  have q2 := HOC5.out.ob.cell 2
  have q3 := HOC5.out.ob.cell 3
  have HREN5 := Lib.hid (HREN.out _ HOC5.out.av)
  go_upto_region 6 with (go_at_call 11; refine HREN5.out.mono ?_; rintro e w6 ⟨v6, rfl, hs6, hb6⟩; have HK := Lib.hid (⟨HOC5.out.up hb6, HS5.out.below hb6, hs6.bysIn⟩ : Ow w g gx va vf vp vc (.slice E1 o.atoms.length f1) (.slice E2 o.funs.length f2) (.slice E3 o.preds.length f3) (.slice E4 o.code.length f4) o v5 v6 en w6); clear hs6 hb6)
  clear q0 q1 q2 q3 HREN HREN5 HOC5 HS5
  have HK : Hid (Ow w g gx va vf vp vc (.slice E1 o.atoms.length f1) (.slice E2 o.funs.length f2) (.slice E3 o.preds.length f3) (.slice E4 o.code.length f4) o v5 v6 en w6.drew) := Lib.hid (HK.out.up (bdrew1 w6))
  have HFD := Lib.hid (fun W h => pfind_any' o HO.out.lp (.slice E1 o.atoms.length f1) (.slice E2 o.funs.length f2) (.slice E3 o.preds.length f3) (.slice E4 o.code.length f4) name arity W h)
  have HRF := Lib.hid (fun W h => rfind_any' o HO.out.lp va vf vp vc name arity W h)
  have HFR := Lib.hid (fun W h => fromOb_any o HO.out (.slice E1 o.atoms.length f1) (.slice E2 o.funs.length f2) (.slice E3 o.preds.length f3) (.slice E4 o.code.length f4) W h HNU.out)
  generalize findFrom name arity 0 o.preds = fnd at HFD HRF
  have HSM := Lib.hid (fun W ya yf yp yc (h : ObAt W ya yf yp yc o) (h2 : ObAt W va vf vp vc o) => by have := rsame_any o o HO.out ya yf yp yc va vf vp vc W h h2; rw [decide_eq_true (rfl : o = o)] at this; exact this)

  refine wp_region_held_drew (S := (fun W => (W.cell? ⟨g, 0, none⟩ = some va ∧ W.cell? ⟨g, 1, none⟩ = some vf ∧ W.cell? ⟨g, 2, none⟩ = some vp ∧ W.cell? ⟨g, 3, none⟩ = some vc) ∧ (W.cell? ⟨gx, 0, none⟩ = some (.slice E1 o.atoms.length f1) ∧ W.cell? ⟨gx, 1, none⟩ = some (.slice E2 o.funs.length f2) ∧ W.cell? ⟨gx, 2, none⟩ = some (.slice E3 o.preds.length f3) ∧ W.cell? ⟨gx, 3, none⟩ = some (.slice E4 o.code.length f4)) ∧ (convert 38 9 v5).run Tryd.prog W = .ok (.string (strOf en)) W ∧ (convert 38 9 v6).run Tryd.prog W = .ok (.string (strOf en)) W)) (by kernel_rfl) ?_ (fun hHeld => ?_)
  · exact HK.out.cells HLT.out
  refine wpAnyH_ready (rs := [0]) (by kernel_rfl) (by simp) ?_
  refine AllReadyH.cons (o := _) rfl (fun K hK => ?_) AllReadyH.nil
  go_simp
  go_at_call 8; refine (told_any _ HK.out.p.names).mono ?_; rintro e w' ⟨rfl, hb⟩; have HK := Lib.hid (HK.out.up hb); clear hb
  refine hK.out _ _ ?_ (fun hHeld => ?_)
  · exact HK.out.cells HLT.out
  clear hK K
  try simp only [List.getElem_toArray, List.getElem_cons_zero, List.getElem_cons_succ, Act.put, List.setIfInBounds_toArray, List.set_cons_zero, List.set_cons_succ]
  refine wpAnyH_take (i := 1) (v := ?_) rfl (by kernel_rfl) (by kernel_rfl) (by kernel_rfl) (fun _ _ _ h => h) (Or.inl ⟨by rfl, ?_⟩) (by assumption) ?_
  rotate_left 1
  · (intro w' hSw; (try dsimp only at hSw); go_simp; try with_reducible rfl)
  try simp only [List.getElem_toArray, List.getElem_cons_zero, List.getElem_cons_succ, Act.put, List.setIfInBounds_toArray, List.set_cons_zero, List.set_cons_succ]
  refine wpAnyH_take (i := 2) (v := ?_) rfl (by kernel_rfl) (by kernel_rfl) (by kernel_rfl) (fun _ _ _ h => h) (Or.inl ⟨by rfl, ?_⟩) (by assumption) ?_
  rotate_left 1
  · (intro w' hSw; (try dsimp only at hSw); go_simp; try with_reducible rfl)
  try simp only [List.getElem_toArray, List.getElem_cons_zero, List.getElem_cons_succ, Act.put, List.setIfInBounds_toArray, List.set_cons_zero, List.set_cons_succ]
  refine wpAnyH_take (i := 4) (v := ?_) rfl (by kernel_rfl) (by kernel_rfl) (by kernel_rfl) (fun _ _ _ h => h) (Or.inl ⟨by rfl, ?_⟩) (by assumption) ?_
  rotate_left 1
  · (intro w' hSw; (try dsimp only at hSw); go_simp; try with_reducible rfl)
  try simp only [List.getElem_toArray, List.getElem_cons_zero, List.getElem_cons_succ, Act.put, List.setIfInBounds_toArray, List.set_cons_zero, List.set_cons_succ]
  refine wpAnyH_ready (rs := [3]) (by kernel_rfl) (by simp) ?_
  refine AllReadyH.cons (o := _) rfl (fun K hK => ?_) AllReadyH.nil
  go_simp
  go_at_call 12; refine (HCK.out _ HK.out.p.names HK.out.p.au).mono ?_; rintro e w' ⟨rfl, hb⟩; have HK := Lib.hid (HK.out.up hb); clear hb
  refine hK.out _ _ ?_ (fun hHeld => ?_)
  · exact HK.out.cells HLT.out
  clear hK K
  try simp only [List.getElem_toArray, List.getElem_cons_zero, List.getElem_cons_succ, Act.put, List.setIfInBounds_toArray, List.set_cons_zero, List.set_cons_succ]
  refine wpAnyH_ready (rs := [5]) (by kernel_rfl) (by simp) ?_
  refine AllReadyH.cons (o := _) rfl (fun K hK => ?_) AllReadyH.nil
  go_simp
  go_at_call 13; refine (HRCK.out _ HK.out.p.av).mono ?_; rintro e w' ⟨rfl, hb⟩; have HK := Lib.hid (HK.out.up hb); clear hb
  refine hK.out _ _ ?_ (fun hHeld => ?_)
  · exact HK.out.cells HLT.out
  clear hK K
  try simp only [List.getElem_toArray, List.getElem_cons_zero, List.getElem_cons_succ, Act.put, List.setIfInBounds_toArray, List.set_cons_zero, List.set_cons_succ]
  refine wpAnyH_take (i := 6) (v := ?_) rfl (by kernel_rfl) (by kernel_rfl) (by kernel_rfl) (fun _ _ _ h => h) (Or.inl ⟨by rfl, ?_⟩) (by assumption) ?_
  rotate_left 1
  · (intro w' hSw; (try dsimp only at hSw); go_simp; try with_reducible rfl)
  try simp only [List.getElem_toArray, List.getElem_cons_zero, List.getElem_cons_succ, Act.put, List.setIfInBounds_toArray, List.set_cons_zero, List.set_cons_succ]
  refine wpAnyH_take (i := 7) (v := ?_) rfl (by kernel_rfl) (by kernel_rfl) (by kernel_rfl) (fun _ _ _ h => h) (Or.inl ⟨by rfl, ?_⟩) (by assumption) ?_
  rotate_left 1
  · (intro w' hSw; (try dsimp only at hSw); go_simp; try with_reducible rfl)
  try simp only [List.getElem_toArray, List.getElem_cons_zero, List.getElem_cons_succ, Act.put, List.setIfInBounds_toArray, List.set_cons_zero, List.set_cons_succ]
  refine wpAnyH_take (i := 8) (v := ?_) rfl (by kernel_rfl) (by kernel_rfl) (by kernel_rfl) (fun _ _ _ h => h) (Or.inl ⟨by rfl, ?_⟩) (by assumption) ?_
  rotate_left 1
  · (intro w' hSw; (try dsimp only at hSw); go_simp; try with_reducible rfl)
  try simp only [List.getElem_toArray, List.getElem_cons_zero, List.getElem_cons_succ, Act.put, List.setIfInBounds_toArray, List.set_cons_zero, List.set_cons_succ]
  refine wpAnyH_take (i := 9) (v := ?_) rfl (by kernel_rfl) (by kernel_rfl) (by kernel_rfl) (fun _ _ _ h => h) (Or.inl ⟨by rfl, ?_⟩) (by assumption) ?_
  rotate_left 1
  · (intro w' hSw; (try dsimp only at hSw); go_simp; try with_reducible rfl)
  try simp only [List.getElem_toArray, List.getElem_cons_zero, List.getElem_cons_succ, Act.put, List.setIfInBounds_toArray, List.set_cons_zero, List.set_cons_succ]
  refine wpAnyH_take (i := 10) (v := ?_) rfl (by kernel_rfl) (by kernel_rfl) (by kernel_rfl) (fun _ _ _ h => h) (Or.inl ⟨by rfl, ?_⟩) (by assumption) ?_
  rotate_left 1
  · (intro w' hSw; (try dsimp only at hSw); go_simp; try with_reducible rfl)
  try simp only [List.getElem_toArray, List.getElem_cons_zero, List.getElem_cons_succ, Act.put, List.setIfInBounds_toArray, List.set_cons_zero, List.set_cons_succ]
  refine wpAnyH_take (i := 11) (v := ?_) rfl (by kernel_rfl) (by kernel_rfl) (by kernel_rfl) (fun _ _ _ h => h) (Or.inl ⟨by rfl, ?_⟩) (by assumption) ?_
  rotate_left 1
  · (intro w' hSw; (try dsimp only at hSw); go_simp; try with_reducible rfl)
  try simp only [List.getElem_toArray, List.getElem_cons_zero, List.getElem_cons_succ, Act.put, List.setIfInBounds_toArray, List.set_cons_zero, List.set_cons_succ]
  refine wpAnyH_take (i := 12) (v := ?_) rfl (by kernel_rfl) (by kernel_rfl) (by kernel_rfl) (fun _ _ _ h => h) (Or.inl ⟨by rfl, ?_⟩) (by assumption) ?_
  rotate_left 1
  · (intro w' hSw; (try dsimp only at hSw); go_simp; try with_reducible rfl)
  try simp only [List.getElem_toArray, List.getElem_cons_zero, List.getElem_cons_succ, Act.put, List.setIfInBounds_toArray, List.set_cons_zero, List.set_cons_succ]
  refine wpAnyH_take (i := 13) (v := ?_) rfl (by kernel_rfl) (by kernel_rfl) (by kernel_rfl) (fun _ _ _ h => h) (Or.inl ⟨by rfl, ?_⟩) (by assumption) ?_
  rotate_left 1
  · (intro w' hSw; (try dsimp only at hSw); go_simp; try with_reducible rfl)
  try simp only [List.getElem_toArray, List.getElem_cons_zero, List.getElem_cons_succ, Act.put, List.setIfInBounds_toArray, List.set_cons_zero, List.set_cons_succ]
  refine wpAnyH_take (i := 14) (v := ?_) rfl (by kernel_rfl) (by kernel_rfl) (by kernel_rfl) (fun _ _ _ h => h) (Or.inl ⟨by rfl, ?_⟩) (by assumption) ?_
  rotate_left 1
  · (intro w' hSw; (try dsimp only at hSw); go_simp; try with_reducible rfl)
  try simp only [List.getElem_toArray, List.getElem_cons_zero, List.getElem_cons_succ, Act.put, List.setIfInBounds_toArray, List.set_cons_zero, List.set_cons_succ]
  refine wpAnyH_take (i := 15) (v := ?_) rfl (by kernel_rfl) (by kernel_rfl) (by kernel_rfl) (fun _ _ _ h => h) (Or.inl ⟨by rfl, ?_⟩) (by assumption) ?_
  rotate_left 1
  · (intro w' hSw; (try dsimp only at hSw); go_simp; try with_reducible rfl)
  try simp only [List.getElem_toArray, List.getElem_cons_zero, List.getElem_cons_succ, Act.put, List.setIfInBounds_toArray, List.set_cons_zero, List.set_cons_succ]
  refine wpAnyH_take (i := 16) (v := ?_) rfl (by kernel_rfl) (by kernel_rfl) (by kernel_rfl) (fun _ _ _ h => h) (Or.inl ⟨by rfl, ?_⟩) (by assumption) ?_
  rotate_left 1
  · (intro w' hSw; (try dsimp only at hSw); go_simp; try with_reducible rfl)
  try simp only [List.getElem_toArray, List.getElem_cons_zero, List.getElem_cons_succ, Act.put, List.setIfInBounds_toArray, List.set_cons_zero, List.set_cons_succ]
  refine wpAnyH_take (i := 17) (v := ?_) rfl (by kernel_rfl) (by kernel_rfl) (by kernel_rfl) (fun _ _ _ h => h) (Or.inl ⟨by rfl, ?_⟩) (by assumption) ?_
  rotate_left 1
  · (intro w' hSw; (try dsimp only at hSw); go_simp; try with_reducible rfl)
  try simp only [List.getElem_toArray, List.getElem_cons_zero, List.getElem_cons_succ, Act.put, List.setIfInBounds_toArray, List.set_cons_zero, List.set_cons_succ]
  refine wpAnyH_take (i := 18) (v := ?_) rfl (by kernel_rfl) (by kernel_rfl) (by kernel_rfl) (fun _ _ _ h => h) (Or.inl ⟨by rfl, ?_⟩) (by assumption) ?_
  rotate_left 1
  · (intro w' hSw; (try dsimp only at hSw); go_simp; try with_reducible rfl)
  try simp only [List.getElem_toArray, List.getElem_cons_zero, List.getElem_cons_succ, Act.put, List.setIfInBounds_toArray, List.set_cons_zero, List.set_cons_succ]
  refine wpAnyH_take (i := 19) (v := ?_) rfl (by kernel_rfl) (by kernel_rfl) (by kernel_rfl) (fun _ _ _ h => h) (Or.inl ⟨by rfl, ?_⟩) (by assumption) ?_
  rotate_left 1
  · (intro w' hSw; (try dsimp only at hSw); go_simp; try with_reducible rfl)
  try simp only [List.getElem_toArray, List.getElem_cons_zero, List.getElem_cons_succ, Act.put, List.setIfInBounds_toArray, List.set_cons_zero, List.set_cons_succ]
  refine wpAnyH_take (i := 20) (v := ?_) rfl (by kernel_rfl) (by kernel_rfl) (by kernel_rfl) (fun _ _ _ h => h) (Or.inl ⟨by rfl, ?_⟩) (by assumption) ?_
  rotate_left 1
  · (intro w' hSw; (try dsimp only at hSw); go_simp; try with_reducible rfl)
  try simp only [List.getElem_toArray, List.getElem_cons_zero, List.getElem_cons_succ, Act.put, List.setIfInBounds_toArray, List.set_cons_zero, List.set_cons_succ]
  refine wpAnyH_take (i := 21) (v := ?_) rfl (by kernel_rfl) (by kernel_rfl) (by kernel_rfl) (fun _ _ _ h => h) (Or.inl ⟨by rfl, ?_⟩) (by assumption) ?_
  rotate_left 1
  · (intro w' hSw; (try dsimp only at hSw); go_simp; try with_reducible rfl)
  try simp only [List.getElem_toArray, List.getElem_cons_zero, List.getElem_cons_succ, Act.put, List.setIfInBounds_toArray, List.set_cons_zero, List.set_cons_succ]
  refine wpAnyH_take (i := 22) (v := ?_) rfl (by kernel_rfl) (by kernel_rfl) (by kernel_rfl) (fun _ _ _ h => h) (Or.inl ⟨by rfl, ?_⟩) (by assumption) ?_
  rotate_left 1
  · (intro w' hSw; (try dsimp only at hSw); go_simp; try with_reducible rfl)
  try simp only [List.getElem_toArray, List.getElem_cons_zero, List.getElem_cons_succ, Act.put, List.setIfInBounds_toArray, List.set_cons_zero, List.set_cons_succ]
  refine wpAnyH_take (i := 23) (v := ?_) rfl (by kernel_rfl) (by kernel_rfl) (by kernel_rfl) (fun _ _ _ h => h) (Or.inl ⟨by rfl, ?_⟩) (by assumption) ?_
  rotate_left 1
  · (intro w' hSw; (try dsimp only at hSw); go_simp; try with_reducible rfl)
  try simp only [List.getElem_toArray, List.getElem_cons_zero, List.getElem_cons_succ, Act.put, List.setIfInBounds_toArray, List.set_cons_zero, List.set_cons_succ]
  refine wpAnyH_take (i := 25) (v := ?_) rfl (by kernel_rfl) (by kernel_rfl) (by kernel_rfl) (fun _ _ _ h => h) (Or.inl ⟨by rfl, ?_⟩) (by assumption) ?_
  rotate_left 1
  · (intro w' hSw; (try dsimp only at hSw); go_simp; try with_reducible rfl)
  try simp only [List.getElem_toArray, List.getElem_cons_zero, List.getElem_cons_succ, Act.put, List.setIfInBounds_toArray, List.set_cons_zero, List.set_cons_succ]
  refine wpAnyH_take (i := 26) (v := ?_) rfl (by kernel_rfl) (by kernel_rfl) (by kernel_rfl) (fun _ _ _ h => h) (Or.inl ⟨by rfl, ?_⟩) (by assumption) ?_
  rotate_left 1
  · (intro w' hSw; (try dsimp only at hSw); go_simp; try with_reducible rfl)
  try simp only [List.getElem_toArray, List.getElem_cons_zero, List.getElem_cons_succ, Act.put, List.setIfInBounds_toArray, List.set_cons_zero, List.set_cons_succ]
  refine wpAnyH_take (i := 27) (v := ?_) rfl (by kernel_rfl) (by kernel_rfl) (by kernel_rfl) (fun _ _ _ h => h) (Or.inl ⟨by rfl, ?_⟩) (by assumption) ?_
  rotate_left 1
  · (intro w' hSw; (try dsimp only at hSw); go_simp; try with_reducible rfl)
  try simp only [List.getElem_toArray, List.getElem_cons_zero, List.getElem_cons_succ, Act.put, List.setIfInBounds_toArray, List.set_cons_zero, List.set_cons_succ]
  refine wpAnyH_ready (rs := [24]) (by kernel_rfl) (by simp) ?_
  refine AllReadyH.cons (o := _) rfl (fun K hK => ?_) AllReadyH.nil
  go_simp
  go_at_call 14; refine (HFD.out _ HK.out.p.au).mono ?_; rintro e w' ⟨rfl, hb⟩; have HK := Lib.hid (HK.out.up hb); clear hb
  refine hK.out _ _ ?_ (fun hHeld => ?_)
  · exact HK.out.cells HLT.out
  clear hK K
  try simp only [List.getElem_toArray, List.getElem_cons_zero, List.getElem_cons_succ, Act.put, List.setIfInBounds_toArray, List.set_cons_zero, List.set_cons_succ]
  refine wpAnyH_ready (rs := [28]) (by kernel_rfl) (by simp) ?_
  refine AllReadyH.cons (o := _) rfl (fun K hK => ?_) AllReadyH.nil
  go_simp
  go_at_call 15; refine (HRF.out _ HK.out.p.av).mono ?_; rintro e w' ⟨rfl, hb⟩; have HK := Lib.hid (HK.out.up hb); clear hb
  refine hK.out _ _ ?_ (fun hHeld => ?_)
  · exact HK.out.cells HLT.out
  clear hK K
  try simp only [List.getElem_toArray, List.getElem_cons_zero, List.getElem_cons_succ, Act.put, List.setIfInBounds_toArray, List.set_cons_zero, List.set_cons_succ]
  refine wpAnyH_take (i := 29) (v := ?_) rfl (by kernel_rfl) (by kernel_rfl) (by kernel_rfl) (fun _ _ _ h => h) (Or.inl ⟨by rfl, ?_⟩) (by assumption) ?_
  rotate_left 1
  · (intro w' hSw; (try dsimp only at hSw); go_simp; try with_reducible rfl)
  try simp only [List.getElem_toArray, List.getElem_cons_zero, List.getElem_cons_succ, Act.put, List.setIfInBounds_toArray, List.set_cons_zero, List.set_cons_succ]
  refine wpAnyH_take (i := 30) (v := ?_) rfl (by kernel_rfl) (by kernel_rfl) (by kernel_rfl) (fun _ _ _ h => h) (Or.inl ⟨by rfl, ?_⟩) (by assumption) ?_
  rotate_left 1
  · (intro w' hSw; (try dsimp only at hSw); go_simp; try with_reducible rfl)
  try simp only [List.getElem_toArray, List.getElem_cons_zero, List.getElem_cons_succ, Act.put, List.setIfInBounds_toArray, List.set_cons_zero, List.set_cons_succ]
  refine wpAnyH_take (i := 31) (v := ?_) rfl (by kernel_rfl) (by kernel_rfl) (by kernel_rfl) (fun _ _ _ h => h) (Or.inl ⟨by rfl, ?_⟩) (by assumption) ?_
  rotate_left 1
  · (intro w' hSw; (try dsimp only at hSw); go_simp; try with_reducible rfl)
  try simp only [List.getElem_toArray, List.getElem_cons_zero, List.getElem_cons_succ, Act.put, List.setIfInBounds_toArray, List.set_cons_zero, List.set_cons_succ]
  refine wpAnyH_take (i := 32) (v := ?_) rfl (by kernel_rfl) (by kernel_rfl) (by kernel_rfl) (fun _ _ _ h => h) (Or.inl ⟨by rfl, ?_⟩) (by assumption) ?_
  rotate_left 1
  · (intro w' hSw; (try dsimp only at hSw); go_simp; try with_reducible rfl)
  try simp only [List.getElem_toArray, List.getElem_cons_zero, List.getElem_cons_succ, Act.put, List.setIfInBounds_toArray, List.set_cons_zero, List.set_cons_succ]
  refine wpAnyH_take (i := 34) (v := ?_) rfl (by kernel_rfl) (by kernel_rfl) (by kernel_rfl) (fun _ _ _ h => h) (Or.inl ⟨by rfl, ?_⟩) (by assumption) ?_
  rotate_left 1
  · (intro w' hSw; (try dsimp only at hSw); go_simp; try with_reducible rfl)
  try simp only [List.getElem_toArray, List.getElem_cons_zero, List.getElem_cons_succ, Act.put, List.setIfInBounds_toArray, List.set_cons_zero, List.set_cons_succ]
  refine wpAnyH_ready (rs := [33]) (by kernel_rfl) (by simp) ?_
  refine AllReadyH.cons (o := _) rfl (fun K hK => ?_) AllReadyH.nil
  go_simp
  go_at_call 17; refine (HFR.out _ HK.out.p.au).mono ?_; rintro e w' ⟨ya, yf, yp, yc, rfl, hy, hb, _⟩; have HY := Lib.hid hy; clear hy; have HK := Lib.hid (HK.out.up hb); clear hb
  refine hK.out _ _ ?_ (fun hHeld => ?_)
  · exact HK.out.cells HLT.out
  clear hK K
  try simp only [List.getElem_toArray, List.getElem_cons_zero, List.getElem_cons_succ, Act.put, List.setIfInBounds_toArray, List.set_cons_zero, List.set_cons_succ]
  refine wpAnyH_ready (rs := [35]) (by kernel_rfl) (by simp) ?_
  refine AllReadyH.cons (o := _) rfl (fun K hK => ?_) AllReadyH.nil
  go_simp
  go_at_call 16; refine (HSM.out _ ya yf yp yc HY.out HK.out.p.av).mono ?_; rintro e w' ⟨rfl, hb⟩; have HK := Lib.hid (HK.out.up hb); clear hb
  refine hK.out _ _ ?_ (fun hHeld => ?_)
  · exact HK.out.cells HLT.out
  clear hK K
  try simp only [List.getElem_toArray, List.getElem_cons_zero, List.getElem_cons_succ, Act.put, List.setIfInBounds_toArray, List.set_cons_zero, List.set_cons_succ]
  refine wpAnyH_take (i := 36) (v := ?_) rfl (by kernel_rfl) (by kernel_rfl) (by kernel_rfl) (fun _ _ _ h => h) (Or.inl ⟨by rfl, ?_⟩) (by assumption) ?_
  rotate_left 1
  · (intro w' hSw; (try dsimp only at hSw); go_simp; try with_reducible rfl)
  try simp only [List.getElem_toArray, List.getElem_cons_zero, List.getElem_cons_succ, Act.put, List.setIfInBounds_toArray, List.set_cons_zero, List.set_cons_succ]
  refine wpAnyH_take (i := 37) (v := ?_) rfl (by kernel_rfl) (by kernel_rfl) (by kernel_rfl) (fun _ _ _ h => h) (Or.inl ⟨by rfl, ?_⟩) (by assumption) ?_
  rotate_left 1
  · (intro w' hSw; (try dsimp only at hSw); go_simp; try with_reducible rfl)
  try simp only [List.getElem_toArray, List.getElem_cons_zero, List.getElem_cons_succ, Act.put, List.setIfInBounds_toArray, List.set_cons_zero, List.set_cons_succ]
  refine wpAnyH_done (by kernel_rfl) ?_ _
  go_wp2_with fail
  go_ret
  exact ⟨rfl, HK.out.p.below⟩

end Go.Proofs.YtcfdafkfpjocdaaDoor
