/-
  The statement ObjBack: in whatever world that holds the names of the instructions, of whatever two objects: true; new memory alone.
-/
import Derived.Test.YtfknoecgcoapcaaDoorObjBM
import Derived.Test.YtfknoecgcoapcaaDoorObjBE
import Derived.Test.YtfknoecgcoapcaaDoorObjXB
import Derived.Deep.RegionHeld3
import Derived.Deep.DeepCutAuto
import Derived.Test.YtfknoecgcoapcaaDoorObjFY
import Derived.Shelf.Abstract
namespace Go.Proofs.YtfknoecgcoapcaaDoor
open Go Go.RowKit Go.WideShapes Go.ChangeShapes
set_option linter.unusedVariables false
set_option linter.unusedSimpArgs false

/-- Both objects in memory. -/
structure Bk (w : World) (g g2 : Nat) (va vf vp vc xa xf xp xc : Value) (o p : Ob) (W : World) : Prop where
  names : NamesAt W
  ob : Box W g 27 #[va, vf, vp, vc]
  ob2 : Box W g2 27 #[xa, xf, xp, xc]
  av : ObAt W va vf vp vc o
  ap : ObAt W xa xf xp xc p
  below : Below w.heap.size w W
theorem Bk.up {w : World} {g g2 : Nat} {va vf vp vc xa xf xp xc : Value} {o p : Ob} {W W' : World} (h : Bk w g g2 va vf vp vc xa xf xp xc o p W) (hb : Below W.heap.size W W') : Bk w g g2 va vf vp vc xa xf xp xc o p W' :=
  ⟨h.names.below hb h.names.lt, h.ob.below hb h.ob.lt, h.ob2.below hb h.ob2.lt, h.av.below hb, h.ap.below hb, h.below.trans (hb.mono h.below.size)⟩
/-- And what was decoded, and the bytes of both. -/
structure Bz (w : World) (g g2 g9 : Nat) (va vf vp vc xa xf xp xc za zf zp zc : Value) (o p : Ob) (v5 v7 : Value) (l m : List Nat) (W : World) : Prop where
  p : Bk w g g2 va vf vp vc xa xf xp xc o p W
  bz : Box W g9 36 #[za, zf, zp, zc]
  az : ObAt W za zf zp zc o
  r5 : BysIn W v5 l
  r7 : BysIn W v7 m
theorem Bz.up {w : World} {g g2 : Nat} {va vf vp vc xa xf xp xc : Value} {o p : Ob} {g9 : Nat} {za zf zp zc v5 v7 : Value} {l m : List Nat} {W W' : World} (h : Bz w g g2 g9 va vf vp vc xa xf xp xc za zf zp zc o p v5 v7 l m W) (hb : Below W.heap.size W W') : Bz w g g2 g9 va vf vp vc xa xf xp xc za zf zp zc o p v5 v7 l m W' :=
  ⟨h.p.up hb, h.bz.below hb h.bz.lt, h.az.below hb, h.r5.below hb, h.r7.below hb⟩
theorem Bz.cells {w : World} {g g2 : Nat} {va vf vp vc xa xf xp xc : Value} {o p : Ob} {g9 : Nat} {za zf zp zc v5 v7 : Value} {l m : List Nat} {W : World} (h : Bz w g g2 g9 va vf vp vc xa xf xp xc za zf zp zc o p v5 v7 l m W) (hl : ∀ c ∈ l, c < 256) (hm : ∀ c ∈ m, c < 256) :
    (W.cell? ⟨g, 0, none⟩ = some va ∧ W.cell? ⟨g, 1, none⟩ = some vf ∧ W.cell? ⟨g, 2, none⟩ = some vp ∧ W.cell? ⟨g, 3, none⟩ = some vc) ∧
    (W.cell? ⟨g2, 0, none⟩ = some xa ∧ W.cell? ⟨g2, 1, none⟩ = some xf ∧ W.cell? ⟨g2, 2, none⟩ = some xp ∧ W.cell? ⟨g2, 3, none⟩ = some xc) ∧
    (W.cell? ⟨g9, 0, none⟩ = some za ∧ W.cell? ⟨g9, 1, none⟩ = some zf ∧ W.cell? ⟨g9, 2, none⟩ = some zp ∧ W.cell? ⟨g9, 3, none⟩ = some zc) ∧
    (convert 38 9 v5).run Tryd.prog W = .ok (.string (strOf l)) W ∧ (convert 38 9 v7).run Tryd.prog W = .ok (.string (strOf m)) W :=
  ⟨⟨h.p.ob.cell 0, h.p.ob.cell 1, h.p.ob.cell 2, h.p.ob.cell 3⟩, ⟨h.p.ob2.cell 0, h.p.ob2.cell 1, h.p.ob2.cell 2, h.p.ob2.cell 3⟩, ⟨h.bz.cell 0, h.bz.cell 1, h.bz.cell 2, h.bz.cell 3⟩, conv_str h.r5 hl, conv_str h.r7 hm⟩

theorem step_of_call {P : Program} {ops : Array Oper} {o : Oper} {a : Act} {w : World} {K : Act → World → Prop} {Q : Exit → Act → World → Prop} {E : Prop} {f : FuncId} {ts : Array TypeId} {vs : Array Value}
    (hw : Region.wanted o (yielded ops a.tmps) = true) (hen : ∀ args w, (callFunc f args).run P w = .ok (.enter f args) w) (xs : Array Operand) (ho : o.op = .call { callee := .value (.func f), args := xs, argTypes := ts })
    (hx : xs.map a.eval = vs) (h : Calls P f vs w fun e w' => ∃ v, e = .returned v ∧ K (a.put o.dst v) w') :
    if Region.wanted o (yielded ops a.tmps) = true then Oper.wp P o a w K Q else E := by
  rw [if_pos hw]
  unfold Oper.wp execOp
  simp only [ho, resolve, invoke, Act.eval, Deferred.ofValue, Sem.run_bind, Sem.run_pure, Result.andThen_ok, hen]
  rw [Oper.upon_enter, hx]
  simp only [Array.empty_append, Array.append_empty]
  refine h.mono fun e w' he => ?_
  obtain ⟨v, rfl, hk⟩ := he
  exact hk
theorem exec_load {P : Program} {o : Oper} {a : Act} {w : World} {t : TypeId} {x : Operand} {p v : Value} (ho : o.op = .load t x) (hx : a.eval x = p) (h : (Instr.loadAt t p).run P w = .ok v w) : (execOp a.eval o).run P w = .ok (.value v) w := by
  unfold execOp
  simp only [ho, hx, Sem.run_bind, h, Result.andThen_ok, Sem.run_pure]
theorem exec_conv {P : Program} {o : Oper} {a : Act} {w : World} {t u : TypeId} {x : Operand} {p v : Value} (ho : o.op = .convert t u x) (hx : a.eval x = p) (h : (convert t u p).run P w = .ok v w) : (execOp a.eval o).run P w = .ok (.value v) w := by
  unfold execOp
  simp only [ho, hx, Sem.run_bind, h, Result.andThen_ok, Sem.run_pure]
theorem exec_eqs {o : Oper} {a : Act} {w : World} {x y : Operand} {t : TypeId} {s u : ByteArray} (ho : o.op = .binOp .eql 9 x y t) (hx : a.eval x = .string s) (hy : a.eval y = .string u) : (execOp a.eval o).run Tryd.prog w = .ok (.value (.bool (s.toList == u.toList))) w := by
  unfold execOp
  simp only [ho, hx, hy]
  go_simp
theorem load_robj (g : Nat) (W : World) {a b c d : Value} (h : W.cell? ⟨g, 0, none⟩ = some a ∧ W.cell? ⟨g, 1, none⟩ = some b ∧ W.cell? ⟨g, 2, none⟩ = some c ∧ W.cell? ⟨g, 3, none⟩ = some d) : (Instr.loadAt 27 (.pointer (some ⟨g, 0, none⟩))).run Tryd.prog W = .ok (.agg #[a, b, c, d]) W := by
  obtain ⟨h0, h1, h2, h3⟩ := h
  go_simp
theorem load_pobj (g : Nat) (W : World) {a b c d : Value} (h : W.cell? ⟨g, 0, none⟩ = some a ∧ W.cell? ⟨g, 1, none⟩ = some b ∧ W.cell? ⟨g, 2, none⟩ = some c ∧ W.cell? ⟨g, 3, none⟩ = some d) : (Instr.loadAt 36 (.pointer (some ⟨g, 0, none⟩))).run Tryd.prog W = .ok (.agg #[a, b, c, d]) W := by
  obtain ⟨h0, h1, h2, h3⟩ := h
  go_simp
theorem set4_box {W : World} {g : Nat} {t : TypeId} {z0 z1 z2 z3 a b c d : Value} (h : Box W g t #[z0, z1, z2, z3]) : Box ((((W.setCell ⟨g, 0, none⟩ a).setCell ⟨g, 1, none⟩ b).setCell ⟨g, 2, none⟩ c).setCell ⟨g, 3, none⟩ d) g t #[a, b, c, d] := by
  have := (((h.set_ 0 a).set_ 1 b).set_ 2 c).set_ 3 d
  simpa using this
theorem set4_far {W : World} {g g' : Nat} {t : TypeId} {cs : Array Value} {a b c d : Value} (h : Box W g t cs) (hn : g ≠ g') : Box ((((W.setCell ⟨g', 0, none⟩ a).setCell ⟨g', 1, none⟩ b).setCell ⟨g', 2, none⟩ c).setCell ⟨g', 3, none⟩ d) g t cs :=
  (((h.far (p := ⟨g', 0, none⟩) hn _).far (p := ⟨g', 1, none⟩) hn _).far (p := ⟨g', 2, none⟩) hn _).far (p := ⟨g', 3, none⟩) hn _
theorem set4_fr {S : Nat → Prop} {w W : World} {g : Nat} {a b c d : Value} (h : Fr S w W) (hg : S g) : Fr S w ((((W.setCell ⟨g, 0, none⟩ a).setCell ⟨g, 1, none⟩ b).setCell ⟨g, 2, none⟩ c).setCell ⟨g, 3, none⟩ d) :=
  (((h.setCell (p := ⟨g, 0, none⟩) (.inl hg) _).setCell (p := ⟨g, 1, none⟩) (.inl hg) _).setCell (p := ⟨g, 2, none⟩) (.inl hg) _).setCell (p := ⟨g, 3, none⟩) (.inl hg) _
theorem Bk.store {w w2 w3 : World} {g g2 s1 s2 : Nat} {us us2 : Value × Value × Value × Value} {ua uf up uc ya yf yp yc : Value} {o p : Ob}
    (hn : NamesAt w3) (hb : Box w3 g 27 #[us.1, us.2.1, us.2.2.1, us.2.2.2]) (hb2 : Box w3 g2 27 #[us2.1, us2.2.1, us2.2.2.1, us2.2.2.2]) (hgg : g ≠ g2) (hbel : Below w.heap.size w w3) (hg : w.heap.size ≤ g) (hg2 : w.heap.size ≤ g2)
    (hgs : g < s1) (hgs2 : g2 < s1) (hss : s1 ≤ s2) (h23 : Below w2.heap.size w2 w3)
    (ho : ∀ W : World, Fr (fun k => k < s1) w2 W → ObAt W ua uf up uc o) (hp : ∀ W : World, Fr (fun k => k < s2) w3 W → ObAt W ya yf yp yc p) (hnn : g ≠ 0 ∧ g2 ≠ 0) :
    Bk w g g2 ua uf up uc ya yf yp yc o p ((((((((w3.setCell ⟨g, 0, none⟩ ua).setCell ⟨g, 1, none⟩ uf).setCell ⟨g, 2, none⟩ up).setCell ⟨g, 3, none⟩ uc).setCell ⟨g2, 0, none⟩ ya).setCell ⟨g2, 1, none⟩ yf).setCell ⟨g2, 2, none⟩ yp).setCell ⟨g2, 3, none⟩ yc) := by
  have f2 : Fr (fun k => k = g ∨ k = g2) w3 ((((((((w3.setCell ⟨g, 0, none⟩ ua).setCell ⟨g, 1, none⟩ uf).setCell ⟨g, 2, none⟩ up).setCell ⟨g, 3, none⟩ uc).setCell ⟨g2, 0, none⟩ ya).setCell ⟨g2, 1, none⟩ yf).setCell ⟨g2, 2, none⟩ yp).setCell ⟨g2, 3, none⟩ yc) := set4_fr (set4_fr (Fr.refl _ _) (.inl rfl)) (.inr rfl)
  refine ⟨?_, set4_far (set4_box hb) hgg, set4_box (set4_far hb2 hgg.symm), ho _ ?_, hp _ ?_, hbel.trans (f2.below hbel.size (fun k hk => by rcases hk with rfl | rfl <;> omega))⟩
  · obtain ⟨t, fr, hx⟩ := hn
    exact ⟨t, fr, (f2.block _ (Array.getElem?_eq_some_iff.1 hx).1 (fun e => by rcases e with e | e; exact hnn.1 e.symm; exact hnn.2 e.symm)).trans hx⟩
  · exact ((Fr.of_below (S := fun _ => False) h23).mono (fun _ _ x => False.elim x)).trans (f2.mono (fun k _ e => by rcases e with rfl | rfl <;> omega))
  · exact f2.mono (fun k _ e => by rcases e with rfl | rfl <;> omega)

set_option maxRecDepth 100000 in
set_option maxHeartbeats 32000000 in
theorem objBack_any (o p : Ob) (va vf vp vc xa xf xp xc : Value) (w : World) (hw : NamesAt w) (hv : ObAt w va vf vp vc o) (hx : ObAt w xa xf xp xc p) (hnp : ∀ k c, vp = .slice none k c → c = 0) (hnp2 : ∀ k c, xp = .slice none k c → c = 0) :
    Calls Tryd.prog 5 #[.agg #[va, vf, vp, vc], .agg #[xa, xf, xp, xc]] w fun e w' => e = .returned (.bool true) ∧ Below w.heap.size w w' := by
  have HW := Lib.hid hw
  have HV := Lib.hid hv
  have HXV := Lib.hid hx
  have HF1 := Lib.hid (fun W h => fix8_any o va vf vp vc W h hnp)
  have HF2 := Lib.hid (fun W h => fix8_any p xa xf xp xc W h hnp2)
  have K0 := Lib.hid (Sm.new w #[va, vf, vp, vc] #[xa, xf, xp, xc])
  have HNG : Hid (w.heap.size ≠ 0 ∧ w.heap.size + 1 ≠ 0) := Lib.hid (by have := hw.lt; omega)
  clear hw hv hx hnp hnp2
  go_enter Tryd.func5, Tryd.ntmps5
  go_upto_region 1 with (fail)
  obtain ⟨w1, hw1⟩ : ∃ w1, (w.alloc (.cells #[va, vf, vp, vc] 27)).alloc (.cells #[xa, xf, xp, xc] 27) = w1 := ⟨_, rfl⟩
  rw [hw1] at K0 ⊢
  have HGA : Hid (w.heap.size < w1.heap.size ∧ w.heap.size + 1 < w1.heap.size) := Lib.hid ⟨K0.out.ob.lt, K0.out.ob2.lt⟩
  obtain ⟨g, hg⟩ : ∃ g, w.heap.size = g := ⟨_, rfl⟩
  obtain ⟨g2, hg2⟩ : ∃ g2, w.heap.size + 1 = g2 := ⟨_, rfl⟩
  have HG := Lib.hid (And.intro hg hg2)
  rw [hg2, hg] at K0 HNG HGA
  rw [show ({ block := w.heap.size, off := 0 } : Addr) = { block := g, off := 0 } by rw [hg], show ({ block := w.heap.size + 1, off := 0 } : Addr) = { block := g2, off := 0 } by rw [hg2]]
  have hgg : g ≠ g2 := by omega
  have hgg2 : g2 ≠ g := fun e => hgg e.symm
  clear hw1 hg hg2
  go_cut [] (fun wc => ∃ (o' p' : Ob) (ua uf up uc ya yf yp yc : Value), Hid (checkOf o' = 0) ∧ Hid (checkOf p' = 0) ∧ Hid (Bk w g g2 ua uf up uc ya yf yp yc o' p' wc) ∧ Hid (∀ k c, ua = .slice none k c → c = 0) ∧ Hid (∀ k c, ya = .slice none k c → c = 0))
  case first =>
    have KD := Lib.hid (K0.out.up (bdrew1 w1))
    have q0 := K0.out.ob.cell 0
    have q1 := K0.out.ob.cell 1
    have q2 := K0.out.ob.cell 2
    have q3 := K0.out.ob.cell 3
    have p0 := K0.out.ob2.cell 0
    have p1 := K0.out.ob2.cell 1
    have p2 := K0.out.ob2.cell 2
    have p3 := K0.out.ob2.cell 3
    go_region_law (first
      | (go_simp; go_at_call 20; refine (HF2.out _ (HXV.out.below K2.out.below)).mono ?_; rintro e w3 ⟨p', ya, yf, yp, yc, rfl, hat3, hck3, hn3, hb3⟩; obtain ⟨D1, d1, rfl⟩ := CellsAt.form (hat3 w3 (Fr.refl _ _)).atoms; obtain ⟨D2, d2, rfl⟩ := CellsAt.form (hat3 w3 (Fr.refl _ _)).funs; obtain ⟨D3, d3, rfl⟩ := CellsAt.form (hat3 w3 (Fr.refl _ _)).preds; obtain ⟨D4, d4, rfl⟩ := CellsAt.form (hat3 w3 (Fr.refl _ _)).code; have HAT3 := Lib.hid hat3; have HCK3 := Lib.hid hck3; have HN3 := Lib.hid hn3; have HB3 := Lib.hid hb3; have K3 := Lib.hid (K2.out.up hb3); clear hat3 hck3 hn3 hb3; have b0 := K3.out.ob.cell 0; have b1 := K3.out.ob.cell 1; have b2 := K3.out.ob.cell 2; have b3 := K3.out.ob.cell 3; have z0 := K3.out.ob.frozen 0; have z1 := K3.out.ob.frozen 1; have z2 := K3.out.ob.frozen 2; have z3 := K3.out.ob.frozen 3; have c0 := K3.out.ob2.cell 0; have c1 := K3.out.ob2.cell 1; have c2 := K3.out.ob2.cell 2; have c3 := K3.out.ob2.cell 3; have y0 := K3.out.ob2.frozen 0; have y1 := K3.out.ob2.frozen 1; have y2 := K3.out.ob2.frozen 2; have y3 := K3.out.ob2.frozen 3)
      | (go_simp; go_at_call 20; refine (HF1.out _ (HV.out.below KD.out.below)).mono ?_; rintro e w2 ⟨o', ua, uf, up, uc, rfl, hat2, hck2, hn2, hb2⟩; obtain ⟨E1, f1, rfl⟩ := CellsAt.form (hat2 w2 (Fr.refl _ _)).atoms; obtain ⟨E2, f2, rfl⟩ := CellsAt.form (hat2 w2 (Fr.refl _ _)).funs; obtain ⟨E3, f3, rfl⟩ := CellsAt.form (hat2 w2 (Fr.refl _ _)).preds; obtain ⟨E4, f4, rfl⟩ := CellsAt.form (hat2 w2 (Fr.refl _ _)).code; have HAT2 := Lib.hid hat2; have HCK2 := Lib.hid hck2; have HN2 := Lib.hid hn2; have HB2 := Lib.hid hb2; have K2 := Lib.hid (KD.out.up hb2); clear hat2 hck2 hn2 hb2; have r0 := K2.out.ob2.cell 0; have r1 := K2.out.ob2.cell 1; have r2 := K2.out.ob2.cell 2; have r3 := K2.out.ob2.cell 3))
    all_goals
      go_wp2_with (fail)
      go_meet
      exact ⟨o', p', _, _, _, _, _, _, _, _, HCK2, HCK3, Lib.hid (Bk.store (us := (va, vf, vp, vc)) (us2 := (xa, xf, xp, xc)) (HW.out.below K3.out.below HW.out.lt) K3.out.ob K3.out.ob2 hgg K3.out.below (by rw [HG.out.1]; exact Nat.le_refl _) (by rw [← HG.out.2]; omega) HGA.out.1 HGA.out.2 HB2.out.size HB3.out HAT2.out HAT3.out HNG.out), HN2, HN3⟩
  case rest =>
  obtain ⟨o', p', ua, uf, up, uc, ya, yf, yp, yc, HCO, HCP, HK, HNU, HNY⟩ := hcut
  clear HF1 HF2 K0 HNG HGA HV HXV hgg hgg2
  have HEW := Lib.hid (fun (o' : Ob) (h : checkOf o' = 0) ua uf up uc W hw hv => by have := encode_any o' (wf_of_ok h) ua uf up uc W hw hv; rw [h, show encodeOf o' = bytesL o' by unfold encodeOf; rw [if_pos h]] at this; exact this)
  have q0 := HK.out.ob.cell 0
  have q1 := HK.out.ob.cell 1
  have q2 := HK.out.ob.cell 2
  have q3 := HK.out.ob.cell 3
  go_upto_region 3 with (first
    | (go_at_call 9; refine (toOb_any o' (wf_of_ok HCO.out) ua uf up uc wc HK.out.av HNU.out).mono ?_; rintro e w3 ⟨ta, tf, tp, tc, rfl, hx, hb3, _⟩; have HX := Lib.hid hx; have HK3 := Lib.hid (HK.out.up hb3); clear hx hb3)
    | (go_at_call 10; refine (HEW.out o' HCO.out ta tf tp tc w3 HK3.out.names HX.out).mono ?_; rintro e w4 ⟨v5, rfl, hs4, hb4⟩; have HS5 := Lib.hid hs4.bysIn8; have HK4 := Lib.hid (HK3.out.up hb4); clear hs4 hb4))
  clear q0 q1 q2 q3 HX HK3 HK
  have p0 := HK4.out.ob2.cell 0
  have p1 := HK4.out.ob2.cell 1
  have p2 := HK4.out.ob2.cell 2
  have p3 := HK4.out.ob2.cell 3
  go_upto_region 4 with (first
    | (go_at_call 9; refine (toOb_any p' (wf_of_ok HCP.out) ya yf yp yc w4 HK4.out.ap HNY.out).mono ?_; rintro e w5 ⟨sa, sf, sp, sc, rfl, hx, hb5, _⟩; have HX := Lib.hid hx; have HK5 := Lib.hid (HK4.out.up hb5); have HS6 := Lib.hid (HS5.out.below hb5); clear hx hb5)
    | (go_at_call 10; refine (HEW.out p' HCP.out sa sf sp sc w5 HK5.out.names HX.out).mono ?_; rintro e w6 ⟨v7, rfl, hs6, hb6⟩; have HS7 := Lib.hid hs6.bysIn8; have HS8 := Lib.hid (HS6.out.below hb6); have HK6 := Lib.hid (HK5.out.up hb6); clear hs6 hb6))
  clear p0 p1 p2 p3 HX HK5 HK4 HS5 HS6 HEW
  have HLO : Hid (∀ c ∈ bytesL o', c < 256) := Lib.hid (bytesL_lt o')
  have HLP : Hid (∀ c ∈ bytesL p', c < 256) := Lib.hid (bytesL_lt p')
  have HSE : Hid (((strOf (bytesL o')).toList == (strOf (bytesL p')).toList) = decide (o' = p')) := Lib.hid (by
    by_cases h : o' = p'
    · subst h
      simp
    · rw [decide_eq_false h]
      exact ne_strs (fun e => h (bytes_inj HCO.out HCP.out (strOf_inj HLO.out HLP.out e))))
  have HDE := Lib.hid (decode_any (bytesL o') HLO.out (by have := (body_len HCO.out).2; unfold bytesL; rw [List.length_append, numL_len]; omega) v5 w6 HK6.out.names HS8.out)
  unfold Decoded at HDE
  rw [decode_back HCO.out] at HDE
  generalize bytesL o' = lo at HLO HSE HDE HS8
  generalize bytesL p' = lp at HLP HSE HS7
  go_upto_region 5 with (go_at_call 18; refine HDE.out.mono ?_; rintro e w7 ⟨za, zf, zp, zc, rfl, hz, hb7⟩; obtain ⟨E1, f1, rfl⟩ := CellsAt.form hz.atoms; obtain ⟨E2, f2, rfl⟩ := CellsAt.form hz.funs; obtain ⟨E3, f3, rfl⟩ := CellsAt.form hz.preds; obtain ⟨E4, f4, rfl⟩ := CellsAt.form hz.code; have HZ := Lib.hid hz; have HK7 := Lib.hid (HK6.out.up hb7); have HS9 := Lib.hid (HS8.out.below hb7); have HS10 := Lib.hid (HS7.out.below hb7); clear hz hb7)
  have hal := alloc_below w7 (.cells #[.slice E1 o'.atoms.length f1, .slice E2 o'.funs.length f2, .slice E3 o'.preds.length f3, .slice E4 o'.code.length f4] 36)
  have HK : Hid (Bz w g g2 w7.heap.size ua uf up uc ya yf yp yc (.slice E1 o'.atoms.length f1) (.slice E2 o'.funs.length f2) (.slice E3 o'.preds.length f3) (.slice E4 o'.code.length f4) o' p' v5 v7 lo lp (w7.alloc (.cells #[.slice E1 o'.atoms.length f1, .slice E2 o'.funs.length f2, .slice E3 o'.preds.length f3, .slice E4 o'.code.length f4] 36))) := Lib.hid ⟨HK7.out.up hal, Box.new w7 _ _, HZ.out.below hal, HS9.out.below hal, HS10.out.below hal⟩
  clear hal HK7 HZ HS9 HS10 HK6 HS7 HS8 HDE
  obtain ⟨w8, hw8⟩ : ∃ w8, w7.alloc (.cells #[.slice E1 o'.atoms.length f1, .slice E2 o'.funs.length f2, .slice E3 o'.preds.length f3, .slice E4 o'.code.length f4] 36) = w8 := ⟨_, rfl⟩
  rw [hw8] at HK ⊢
  obtain ⟨g9, hg9⟩ : ∃ g9, w7.heap.size = g9 := ⟨_, rfl⟩
  rw [hg9] at HK
  try rw [hg9]
  clear hw8 hg9
  have HK : Hid (Bz w g g2 g9 ua uf up uc ya yf yp yc (.slice E1 o'.atoms.length f1) (.slice E2 o'.funs.length f2) (.slice E3 o'.preds.length f3) (.slice E4 o'.code.length f4) o' p' v5 v7 lo lp w8.drew) := Lib.hid (HK.out.up (bdrew1 w8))
  have HWO := Lib.hid (wf_of_ok HCO.out)
  have HWP := Lib.hid (wf_of_ok HCP.out)
  have HFR := Lib.hid (fun W h => fromOb2_any o' HWO.out (.slice E1 o'.atoms.length f1) (.slice E2 o'.funs.length f2) (.slice E3 o'.preds.length f3) (.slice E4 o'.code.length f4) W h)
  have HTO := Lib.hid (fun W h => toOb_any o' HWO.out ua uf up uc W h HNU.out)
  have HTP := Lib.hid (fun W h => toOb_any p' HWP.out ya yf yp yc W h HNY.out)
  have HSM := Lib.hid (fun W na nf np_ nc (h : ObAt W na nf np_ nc o') (h2 : ObAt W ua uf up uc o') => by have := rsame_any o' o' HWO.out na nf np_ nc ua uf up uc W h h2; rw [decide_eq_true (rfl : o' = o')] at this; exact this)
  have HPM := Lib.hid (fun W na nf np_ nc (h : ObAt W (.slice E1 o'.atoms.length f1) (.slice E2 o'.funs.length f2) (.slice E3 o'.preds.length f3) (.slice E4 o'.code.length f4) o') (h2 : ObAt W na nf np_ nc o') => by have := psame_any o' o' HWO.out (.slice E1 o'.atoms.length f1) (.slice E2 o'.funs.length f2) (.slice E3 o'.preds.length f3) (.slice E4 o'.code.length f4) na nf np_ nc W h h2; rw [decide_eq_true (rfl : o' = o')] at this; exact this)
  have HPN := Lib.hid (fun W na nf np_ nc ma mf mp mc (h : ObAt W na nf np_ nc o') (h2 : ObAt W ma mf mp mc p') => psame_any o' p' HWO.out na nf np_ nc ma mf mp mc W h h2)
  have HRN := Lib.hid (fun W (h : ObAt W ua uf up uc o') (h2 : ObAt W ya yf yp yc p') => rsame_any o' p' HWO.out ua uf up uc ya yf yp yc W h h2)
  generalize decide (o' = p') = bb at HSE HPN HRN
  cases bb
  case true =>
    refine wp_region_held_drew (S := (fun W => (W.cell? ⟨g, 0, none⟩ = some (ua) ∧ W.cell? ⟨g, 1, none⟩ = some (uf) ∧ W.cell? ⟨g, 2, none⟩ = some (up) ∧ W.cell? ⟨g, 3, none⟩ = some (uc)) ∧ (W.cell? ⟨g2, 0, none⟩ = some (ya) ∧ W.cell? ⟨g2, 1, none⟩ = some (yf) ∧ W.cell? ⟨g2, 2, none⟩ = some (yp) ∧ W.cell? ⟨g2, 3, none⟩ = some (yc)) ∧ (W.cell? ⟨g9, 0, none⟩ = some (.slice E1 o'.atoms.length f1) ∧ W.cell? ⟨g9, 1, none⟩ = some (.slice E2 o'.funs.length f2) ∧ W.cell? ⟨g9, 2, none⟩ = some (.slice E3 o'.preds.length f3) ∧ W.cell? ⟨g9, 3, none⟩ = some (.slice E4 o'.code.length f4)) ∧ (convert 38 9 v5).run Tryd.prog W = .ok (.string (strOf lo)) W ∧ (convert 38 9 v7).run Tryd.prog W = .ok (.string (strOf lp)) W)) (by kernel_rfl) ?_ (fun hHeld => ?_)
    · exact HK.out.cells HLO.out HLP.out
    refine wpAnyH_ready (rs := [0]) (by kernel_rfl) (by simp) ?_
    refine AllReadyH.cons (o := _) rfl (fun K hK => ?_) AllReadyH.nil
    go_simp
    go_at_call 8; refine (told_any _ HK.out.p.names).mono ?_; rintro e w' ⟨rfl, hb⟩; have HK := Lib.hid (HK.out.up hb); clear hb
    refine hK.out _ _ ?_ (fun hHeld => ?_)
    · exact HK.out.cells HLO.out HLP.out
    clear hK K
    try simp only [List.getElem_toArray, List.getElem_cons_zero, List.getElem_cons_succ, Act.put, List.setIfInBounds_toArray, List.set_cons_zero, List.set_cons_succ]
    refine wpAnyH_take (i := 1) (v := .bool true) rfl (by kernel_rfl) (by kernel_rfl) (by kernel_rfl) (fun _ _ _ h => h) (Or.inl ⟨by kernel_rfl, fun w' hSw => by kernel_rfl⟩) (by assumption) ?_
    try simp only [List.getElem_toArray, List.getElem_cons_zero, List.getElem_cons_succ, Act.put, List.setIfInBounds_toArray, List.set_cons_zero, List.set_cons_succ]
    refine wpAnyH_take (i := 2) (v := .int .i64 0) rfl (by kernel_rfl) (by kernel_rfl) (by kernel_rfl) (fun _ _ _ h => h) (Or.inl ⟨by kernel_rfl, fun w' hSw => by kernel_rfl⟩) (by assumption) ?_
    try simp only [List.getElem_toArray, List.getElem_cons_zero, List.getElem_cons_succ, Act.put, List.setIfInBounds_toArray, List.set_cons_zero, List.set_cons_succ]
    refine wpAnyH_take (i := 3) (v := .bool true) rfl (by kernel_rfl) (by kernel_rfl) (by kernel_rfl) (fun _ _ _ h => h) (Or.inl ⟨by kernel_rfl, fun w' hSw => by kernel_rfl⟩) (by assumption) ?_
    try simp only [List.getElem_toArray, List.getElem_cons_zero, List.getElem_cons_succ, Act.put, List.setIfInBounds_toArray, List.set_cons_zero, List.set_cons_succ]
    refine wpAnyH_take (i := 4) (v := .bool true) rfl (by kernel_rfl) (by kernel_rfl) (by kernel_rfl) (fun _ _ _ h => h) (Or.inl ⟨by kernel_rfl, fun w' hSw => by kernel_rfl⟩) (by assumption) ?_
    try simp only [List.getElem_toArray, List.getElem_cons_zero, List.getElem_cons_succ, Act.put, List.setIfInBounds_toArray, List.set_cons_zero, List.set_cons_succ]
    refine wpAnyH_take (i := 5) (v := .bool true) rfl (by kernel_rfl) (by kernel_rfl) (by kernel_rfl) (fun _ _ _ h => h) (Or.inl ⟨by kernel_rfl, fun w' hSw => by kernel_rfl⟩) (by assumption) ?_
    try simp only [List.getElem_toArray, List.getElem_cons_zero, List.getElem_cons_succ, Act.put, List.setIfInBounds_toArray, List.set_cons_zero, List.set_cons_succ]
    refine wpAnyH_take (i := 6) (v := .int .i64 0) rfl (by kernel_rfl) (by kernel_rfl) (by kernel_rfl) (fun _ _ _ h => h) (Or.inl ⟨by kernel_rfl, fun w' hSw => by kernel_rfl⟩) (by assumption) ?_
    try simp only [List.getElem_toArray, List.getElem_cons_zero, List.getElem_cons_succ, Act.put, List.setIfInBounds_toArray, List.set_cons_zero, List.set_cons_succ]
    refine wpAnyH_take (i := 7) (v := .bool true) rfl (by kernel_rfl) (by kernel_rfl) (by kernel_rfl) (fun _ _ _ h => h) (Or.inl ⟨by kernel_rfl, fun w' hSw => by kernel_rfl⟩) (by assumption) ?_
    try simp only [List.getElem_toArray, List.getElem_cons_zero, List.getElem_cons_succ, Act.put, List.setIfInBounds_toArray, List.set_cons_zero, List.set_cons_succ]
    refine wpAnyH_take (i := 8) (v := .bool true) rfl (by kernel_rfl) (by kernel_rfl) (by kernel_rfl) (fun _ _ _ h => h) (Or.inl ⟨by kernel_rfl, fun w' hSw => by kernel_rfl⟩) (by assumption) ?_
    try simp only [List.getElem_toArray, List.getElem_cons_zero, List.getElem_cons_succ, Act.put, List.setIfInBounds_toArray, List.set_cons_zero, List.set_cons_succ]
    refine wpAnyH_take (i := 9) (v := .bool true) rfl (by kernel_rfl) (by kernel_rfl) (by kernel_rfl) (fun _ _ _ h => h) (Or.inl ⟨by kernel_rfl, fun w' hSw => by kernel_rfl⟩) (by assumption) ?_
    try simp only [List.getElem_toArray, List.getElem_cons_zero, List.getElem_cons_succ, Act.put, List.setIfInBounds_toArray, List.set_cons_zero, List.set_cons_succ]
    refine wpAnyH_take (i := 10) (v := .int .i64 0) rfl (by kernel_rfl) (by kernel_rfl) (by kernel_rfl) (fun _ _ _ h => h) (Or.inl ⟨by kernel_rfl, fun w' hSw => by kernel_rfl⟩) (by assumption) ?_
    try simp only [List.getElem_toArray, List.getElem_cons_zero, List.getElem_cons_succ, Act.put, List.setIfInBounds_toArray, List.set_cons_zero, List.set_cons_succ]
    refine wpAnyH_take (i := 11) (v := .bool true) rfl (by kernel_rfl) (by kernel_rfl) (by kernel_rfl) (fun _ _ _ h => h) (Or.inl ⟨by kernel_rfl, fun w' hSw => by kernel_rfl⟩) (by assumption) ?_
    try simp only [List.getElem_toArray, List.getElem_cons_zero, List.getElem_cons_succ, Act.put, List.setIfInBounds_toArray, List.set_cons_zero, List.set_cons_succ]
    refine wpAnyH_take (i := 12) (v := .bool true) rfl (by kernel_rfl) (by kernel_rfl) (by kernel_rfl) (fun _ _ _ h => h) (Or.inl ⟨by kernel_rfl, fun w' hSw => by kernel_rfl⟩) (by assumption) ?_
    try simp only [List.getElem_toArray, List.getElem_cons_zero, List.getElem_cons_succ, Act.put, List.setIfInBounds_toArray, List.set_cons_zero, List.set_cons_succ]
    refine wpAnyH_take (i := 13) (v := .bool true) rfl (by kernel_rfl) (by kernel_rfl) (by kernel_rfl) (fun _ _ _ h => h) (Or.inl ⟨by kernel_rfl, fun w' hSw => by kernel_rfl⟩) (by assumption) ?_
    try simp only [List.getElem_toArray, List.getElem_cons_zero, List.getElem_cons_succ, Act.put, List.setIfInBounds_toArray, List.set_cons_zero, List.set_cons_succ]
    refine wpAnyH_take (i := 14) (v := .agg #[.slice E1 o'.atoms.length f1, .slice E2 o'.funs.length f2, .slice E3 o'.preds.length f3, .slice E4 o'.code.length f4]) rfl (by kernel_rfl) (by kernel_rfl) (by kernel_rfl) (fun _ _ _ h => h) (Or.inl ⟨by kernel_rfl, fun w' hSw => exec_load rfl (by kernel_rfl) (load_pobj _ w' hSw.2.2.1)⟩) (by assumption) ?_
    try simp only [List.getElem_toArray, List.getElem_cons_zero, List.getElem_cons_succ, Act.put, List.setIfInBounds_toArray, List.set_cons_zero, List.set_cons_succ]
    refine wpAnyH_take (i := 16) (v := .agg #[ua, uf, up, uc]) rfl (by kernel_rfl) (by kernel_rfl) (by kernel_rfl) (fun _ _ _ h => h) (Or.inl ⟨by kernel_rfl, fun w' hSw => exec_load rfl (by kernel_rfl) (load_robj _ w' hSw.1)⟩) (by assumption) ?_
    try simp only [List.getElem_toArray, List.getElem_cons_zero, List.getElem_cons_succ, Act.put, List.setIfInBounds_toArray, List.set_cons_zero, List.set_cons_succ]
    refine wpAnyH_ready (rs := [15]) (by kernel_rfl) (by simp) ?_
    refine AllReadyH.cons (o := _) rfl (fun K hK => ?_) AllReadyH.nil
    refine step_of_call (vs := #[.agg #[.slice E1 o'.atoms.length f1, .slice E2 o'.funs.length f2, .slice E3 o'.preds.length f3, .slice E4 o'.code.length f4]]) (by kernel_rfl) (enters_of Tryd.func17 (by kernel_rfl) rfl) _ rfl (by kernel_rfl) ?_
    refine (HFR.out _ HK.out.az).mono ?_; rintro e w' ⟨ha, hf, hp, hc, rfl, hq, hb, _⟩; have HQ := Lib.hid hq; clear hq; have HK := Lib.hid (HK.out.up hb); clear hb
    refine ⟨_, rfl, ?_⟩
    refine hK.out _ _ ?_ (fun hHeld => ?_)
    · exact HK.out.cells HLO.out HLP.out
    clear hK K
    try simp only [List.getElem_toArray, List.getElem_cons_zero, List.getElem_cons_succ, Act.put, List.setIfInBounds_toArray, List.set_cons_zero, List.set_cons_succ]
    refine wpAnyH_ready (rs := [17]) (by kernel_rfl) (by simp) ?_
    refine AllReadyH.cons (o := _) rfl (fun K hK => ?_) AllReadyH.nil
    refine step_of_call (vs := #[.agg #[ha, hf, hp, hc], .agg #[ua, uf, up, uc]]) (by kernel_rfl) (enters_of Tryd.func16 (by kernel_rfl) rfl) _ rfl (by kernel_rfl) ?_
    refine (HSM.out _ ha hf hp hc HQ.out HK.out.p.av).mono ?_; rintro e w' ⟨rfl, hb⟩; have HK := Lib.hid (HK.out.up hb); clear hb
    refine ⟨_, rfl, ?_⟩
    refine hK.out _ _ ?_ (fun hHeld => ?_)
    · exact HK.out.cells HLO.out HLP.out
    clear hK K
    try simp only [List.getElem_toArray, List.getElem_cons_zero, List.getElem_cons_succ, Act.put, List.setIfInBounds_toArray, List.set_cons_zero, List.set_cons_succ]
    refine wpAnyH_take (i := 18) (v := .bool true) rfl (by kernel_rfl) (by kernel_rfl) (by kernel_rfl) (fun _ _ _ h => h) (Or.inl ⟨by kernel_rfl, fun w' hSw => by kernel_rfl⟩) (by assumption) ?_
    try simp only [List.getElem_toArray, List.getElem_cons_zero, List.getElem_cons_succ, Act.put, List.setIfInBounds_toArray, List.set_cons_zero, List.set_cons_succ]
    refine wpAnyH_take (i := 19) (v := .bool true) rfl (by kernel_rfl) (by kernel_rfl) (by kernel_rfl) (fun _ _ _ h => h) (Or.inl ⟨by kernel_rfl, fun w' hSw => by kernel_rfl⟩) (by assumption) ?_
    try simp only [List.getElem_toArray, List.getElem_cons_zero, List.getElem_cons_succ, Act.put, List.setIfInBounds_toArray, List.set_cons_zero, List.set_cons_succ]
    refine wpAnyH_take (i := 20) (v := .agg #[.slice E1 o'.atoms.length f1, .slice E2 o'.funs.length f2, .slice E3 o'.preds.length f3, .slice E4 o'.code.length f4]) rfl (by kernel_rfl) (by kernel_rfl) (by kernel_rfl) (fun _ _ _ h => h) (Or.inl ⟨by kernel_rfl, fun w' hSw => exec_load rfl (by kernel_rfl) (load_pobj _ w' hSw.2.2.1)⟩) (by assumption) ?_
    try simp only [List.getElem_toArray, List.getElem_cons_zero, List.getElem_cons_succ, Act.put, List.setIfInBounds_toArray, List.set_cons_zero, List.set_cons_succ]
    refine wpAnyH_take (i := 21) (v := .agg #[ua, uf, up, uc]) rfl (by kernel_rfl) (by kernel_rfl) (by kernel_rfl) (fun _ _ _ h => h) (Or.inl ⟨by kernel_rfl, fun w' hSw => exec_load rfl (by kernel_rfl) (load_robj _ w' hSw.1)⟩) (by assumption) ?_
    try simp only [List.getElem_toArray, List.getElem_cons_zero, List.getElem_cons_succ, Act.put, List.setIfInBounds_toArray, List.set_cons_zero, List.set_cons_succ]
    refine wpAnyH_ready (rs := [22]) (by kernel_rfl) (by simp) ?_
    refine AllReadyH.cons (o := _) rfl (fun K hK => ?_) AllReadyH.nil
    refine step_of_call (vs := #[.agg #[ua, uf, up, uc]]) (by kernel_rfl) (enters_of Tryd.func9 (by kernel_rfl) rfl) _ rfl (by kernel_rfl) ?_
    refine (HTO.out _ HK.out.p.av).mono ?_; rintro e w' ⟨ia, if_, ip, ic, rfl, hq, hb, _⟩; have HQ := Lib.hid hq; clear hq; have HK := Lib.hid (HK.out.up hb); clear hb
    refine ⟨_, rfl, ?_⟩
    refine hK.out _ _ ?_ (fun hHeld => ?_)
    · exact HK.out.cells HLO.out HLP.out
    clear hK K
    try simp only [List.getElem_toArray, List.getElem_cons_zero, List.getElem_cons_succ, Act.put, List.setIfInBounds_toArray, List.set_cons_zero, List.set_cons_succ]
    refine wpAnyH_ready (rs := [23]) (by kernel_rfl) (by simp) ?_
    refine AllReadyH.cons (o := _) rfl (fun K hK => ?_) AllReadyH.nil
    refine step_of_call (vs := #[.agg #[.slice E1 o'.atoms.length f1, .slice E2 o'.funs.length f2, .slice E3 o'.preds.length f3, .slice E4 o'.code.length f4], .agg #[ia, if_, ip, ic]]) (by kernel_rfl) (enters_of Tryd.func21 (by kernel_rfl) rfl) _ rfl (by kernel_rfl) ?_
    refine (HPM.out _ ia if_ ip ic HK.out.az HQ.out).mono ?_; rintro e w' ⟨rfl, hb⟩; have HK := Lib.hid (HK.out.up hb); clear hb
    refine ⟨_, rfl, ?_⟩
    refine hK.out _ _ ?_ (fun hHeld => ?_)
    · exact HK.out.cells HLO.out HLP.out
    clear hK K
    try simp only [List.getElem_toArray, List.getElem_cons_zero, List.getElem_cons_succ, Act.put, List.setIfInBounds_toArray, List.set_cons_zero, List.set_cons_succ]
    refine wpAnyH_take (i := 24) (v := .bool true) rfl (by kernel_rfl) (by kernel_rfl) (by kernel_rfl) (fun _ _ _ h => h) (Or.inl ⟨by kernel_rfl, fun w' hSw => by kernel_rfl⟩) (by assumption) ?_
    try simp only [List.getElem_toArray, List.getElem_cons_zero, List.getElem_cons_succ, Act.put, List.setIfInBounds_toArray, List.set_cons_zero, List.set_cons_succ]
    refine wpAnyH_take (i := 25) (v := .bool true) rfl (by kernel_rfl) (by kernel_rfl) (by kernel_rfl) (fun _ _ _ h => h) (Or.inl ⟨by kernel_rfl, fun w' hSw => by kernel_rfl⟩) (by assumption) ?_
    try simp only [List.getElem_toArray, List.getElem_cons_zero, List.getElem_cons_succ, Act.put, List.setIfInBounds_toArray, List.set_cons_zero, List.set_cons_succ]
    refine wpAnyH_take (i := 26) (v := .agg #[ua, uf, up, uc]) rfl (by kernel_rfl) (by kernel_rfl) (by kernel_rfl) (fun _ _ _ h => h) (Or.inl ⟨by kernel_rfl, fun w' hSw => exec_load rfl (by kernel_rfl) (load_robj _ w' hSw.1)⟩) (by assumption) ?_
    try simp only [List.getElem_toArray, List.getElem_cons_zero, List.getElem_cons_succ, Act.put, List.setIfInBounds_toArray, List.set_cons_zero, List.set_cons_succ]
    refine wpAnyH_take (i := 28) (v := .agg #[ya, yf, yp, yc]) rfl (by kernel_rfl) (by kernel_rfl) (by kernel_rfl) (fun _ _ _ h => h) (Or.inl ⟨by kernel_rfl, fun w' hSw => exec_load rfl (by kernel_rfl) (load_robj _ w' hSw.2.1)⟩) (by assumption) ?_
    try simp only [List.getElem_toArray, List.getElem_cons_zero, List.getElem_cons_succ, Act.put, List.setIfInBounds_toArray, List.set_cons_zero, List.set_cons_succ]
    refine wpAnyH_take (i := 31) (v := .agg #[ua, uf, up, uc]) rfl (by kernel_rfl) (by kernel_rfl) (by kernel_rfl) (fun _ _ _ h => h) (Or.inl ⟨by kernel_rfl, fun w' hSw => exec_load rfl (by kernel_rfl) (load_robj _ w' hSw.1)⟩) (by assumption) ?_
    try simp only [List.getElem_toArray, List.getElem_cons_zero, List.getElem_cons_succ, Act.put, List.setIfInBounds_toArray, List.set_cons_zero, List.set_cons_succ]
    refine wpAnyH_take (i := 32) (v := .agg #[ya, yf, yp, yc]) rfl (by kernel_rfl) (by kernel_rfl) (by kernel_rfl) (fun _ _ _ h => h) (Or.inl ⟨by kernel_rfl, fun w' hSw => exec_load rfl (by kernel_rfl) (load_robj _ w' hSw.2.1)⟩) (by assumption) ?_
    try simp only [List.getElem_toArray, List.getElem_cons_zero, List.getElem_cons_succ, Act.put, List.setIfInBounds_toArray, List.set_cons_zero, List.set_cons_succ]
    refine wpAnyH_ready (rs := [27]) (by kernel_rfl) (by simp) ?_
    refine AllReadyH.cons (o := _) rfl (fun K hK => ?_) AllReadyH.nil
    refine step_of_call (vs := #[.agg #[ua, uf, up, uc]]) (by kernel_rfl) (enters_of Tryd.func9 (by kernel_rfl) rfl) _ rfl (by kernel_rfl) ?_
    refine (HTO.out _ HK.out.p.av).mono ?_; rintro e w' ⟨ja, jf, jp, jc, rfl, hq, hb, _⟩; have HQ := Lib.hid hq; clear hq; have HK := Lib.hid (HK.out.up hb); clear hb
    refine ⟨_, rfl, ?_⟩
    refine hK.out _ _ ?_ (fun hHeld => ?_)
    · exact HK.out.cells HLO.out HLP.out
    clear hK K
    try simp only [List.getElem_toArray, List.getElem_cons_zero, List.getElem_cons_succ, Act.put, List.setIfInBounds_toArray, List.set_cons_zero, List.set_cons_succ]
    refine wpAnyH_ready (rs := [29]) (by kernel_rfl) (by simp) ?_
    refine AllReadyH.cons (o := _) rfl (fun K hK => ?_) AllReadyH.nil
    refine step_of_call (vs := #[.agg #[ya, yf, yp, yc]]) (by kernel_rfl) (enters_of Tryd.func9 (by kernel_rfl) rfl) _ rfl (by kernel_rfl) ?_
    refine (HTP.out _ HK.out.p.ap).mono ?_; rintro e w' ⟨ka, kf, kp, kc, rfl, hq, hb, _⟩; have HQ2 := Lib.hid hq; have HQ := Lib.hid (HQ.out.below hb); clear hq; have HK := Lib.hid (HK.out.up hb); clear hb
    refine ⟨_, rfl, ?_⟩
    refine hK.out _ _ ?_ (fun hHeld => ?_)
    · exact HK.out.cells HLO.out HLP.out
    clear hK K
    try simp only [List.getElem_toArray, List.getElem_cons_zero, List.getElem_cons_succ, Act.put, List.setIfInBounds_toArray, List.set_cons_zero, List.set_cons_succ]
    refine wpAnyH_ready (rs := [30]) (by kernel_rfl) (by simp) ?_
    refine AllReadyH.cons (o := _) rfl (fun K hK => ?_) AllReadyH.nil
    refine step_of_call (vs := #[.agg #[ja, jf, jp, jc], .agg #[ka, kf, kp, kc]]) (by kernel_rfl) (enters_of Tryd.func21 (by kernel_rfl) rfl) _ rfl (by kernel_rfl) ?_
    refine (HPN.out _ ja jf jp jc ka kf kp kc HQ.out HQ2.out).mono ?_; rintro e w' ⟨rfl, hb⟩; have HK := Lib.hid (HK.out.up hb); clear hb
    refine ⟨_, rfl, ?_⟩
    refine hK.out _ _ ?_ (fun hHeld => ?_)
    · exact HK.out.cells HLO.out HLP.out
    clear hK K
    try simp only [List.getElem_toArray, List.getElem_cons_zero, List.getElem_cons_succ, Act.put, List.setIfInBounds_toArray, List.set_cons_zero, List.set_cons_succ]
    refine wpAnyH_ready (rs := [33]) (by kernel_rfl) (by simp) ?_
    refine AllReadyH.cons (o := _) rfl (fun K hK => ?_) AllReadyH.nil
    refine step_of_call (vs := #[.agg #[ua, uf, up, uc], .agg #[ya, yf, yp, yc]]) (by kernel_rfl) (enters_of Tryd.func16 (by kernel_rfl) rfl) _ rfl (by kernel_rfl) ?_
    refine (HRN.out _ HK.out.p.av HK.out.p.ap).mono ?_; rintro e w' ⟨rfl, hb⟩; have HK := Lib.hid (HK.out.up hb); clear hb
    refine ⟨_, rfl, ?_⟩
    refine hK.out _ _ ?_ (fun hHeld => ?_)
    · exact HK.out.cells HLO.out HLP.out
    clear hK K
    try simp only [List.getElem_toArray, List.getElem_cons_zero, List.getElem_cons_succ, Act.put, List.setIfInBounds_toArray, List.set_cons_zero, List.set_cons_succ]
    refine wpAnyH_take (i := 34) (v := .bool true) rfl (by kernel_rfl) (by kernel_rfl) (by kernel_rfl) (fun _ _ _ h => h) (Or.inl ⟨by kernel_rfl, fun w' hSw => by kernel_rfl⟩) (by assumption) ?_
    try simp only [List.getElem_toArray, List.getElem_cons_zero, List.getElem_cons_succ, Act.put, List.setIfInBounds_toArray, List.set_cons_zero, List.set_cons_succ]
    refine wpAnyH_take (i := 35) (v := .bool true) rfl (by kernel_rfl) (by kernel_rfl) (by kernel_rfl) (fun _ _ _ h => h) (Or.inl ⟨by kernel_rfl, fun w' hSw => by kernel_rfl⟩) (by assumption) ?_
    try simp only [List.getElem_toArray, List.getElem_cons_zero, List.getElem_cons_succ, Act.put, List.setIfInBounds_toArray, List.set_cons_zero, List.set_cons_succ]
    refine wpAnyH_take (i := 36) (v := .bool true) rfl (by kernel_rfl) (by kernel_rfl) (by kernel_rfl) (fun _ _ _ h => h) (Or.inl ⟨by kernel_rfl, fun w' hSw => by kernel_rfl⟩) (by assumption) ?_
    try simp only [List.getElem_toArray, List.getElem_cons_zero, List.getElem_cons_succ, Act.put, List.setIfInBounds_toArray, List.set_cons_zero, List.set_cons_succ]
    refine wpAnyH_take (i := 37) (v := v5) rfl (by kernel_rfl) (by kernel_rfl) (by kernel_rfl) (fun _ _ _ h => h) (Or.inl ⟨by kernel_rfl, fun w' hSw => by kernel_rfl⟩) (by assumption) ?_
    try simp only [List.getElem_toArray, List.getElem_cons_zero, List.getElem_cons_succ, Act.put, List.setIfInBounds_toArray, List.set_cons_zero, List.set_cons_succ]
    refine wpAnyH_take (i := 39) (v := v7) rfl (by kernel_rfl) (by kernel_rfl) (by kernel_rfl) (fun _ _ _ h => h) (Or.inl ⟨by kernel_rfl, fun w' hSw => by kernel_rfl⟩) (by assumption) ?_
    try simp only [List.getElem_toArray, List.getElem_cons_zero, List.getElem_cons_succ, Act.put, List.setIfInBounds_toArray, List.set_cons_zero, List.set_cons_succ]
    refine wpAnyH_take (i := 42) (v := .agg #[ua, uf, up, uc]) rfl (by kernel_rfl) (by kernel_rfl) (by kernel_rfl) (fun _ _ _ h => h) (Or.inl ⟨by kernel_rfl, fun w' hSw => exec_load rfl (by kernel_rfl) (load_robj _ w' hSw.1)⟩) (by assumption) ?_
    try simp only [List.getElem_toArray, List.getElem_cons_zero, List.getElem_cons_succ, Act.put, List.setIfInBounds_toArray, List.set_cons_zero, List.set_cons_succ]
    refine wpAnyH_take (i := 43) (v := .agg #[ya, yf, yp, yc]) rfl (by kernel_rfl) (by kernel_rfl) (by kernel_rfl) (fun _ _ _ h => h) (Or.inl ⟨by kernel_rfl, fun w' hSw => exec_load rfl (by kernel_rfl) (load_robj _ w' hSw.2.1)⟩) (by assumption) ?_
    try simp only [List.getElem_toArray, List.getElem_cons_zero, List.getElem_cons_succ, Act.put, List.setIfInBounds_toArray, List.set_cons_zero, List.set_cons_succ]
    refine wpAnyH_take (i := 38) (v := .string (strOf lo)) rfl (by kernel_rfl) (by kernel_rfl) (by kernel_rfl) (fun _ _ _ h => h) (Or.inl ⟨by kernel_rfl, fun w' hSw => exec_conv rfl (by kernel_rfl) hSw.2.2.2.1⟩) (by assumption) ?_
    try simp only [List.getElem_toArray, List.getElem_cons_zero, List.getElem_cons_succ, Act.put, List.setIfInBounds_toArray, List.set_cons_zero, List.set_cons_succ]
    refine wpAnyH_take (i := 40) (v := .string (strOf lp)) rfl (by kernel_rfl) (by kernel_rfl) (by kernel_rfl) (fun _ _ _ h => h) (Or.inl ⟨by kernel_rfl, fun w' hSw => exec_conv rfl (by kernel_rfl) hSw.2.2.2.2⟩) (by assumption) ?_
    try simp only [List.getElem_toArray, List.getElem_cons_zero, List.getElem_cons_succ, Act.put, List.setIfInBounds_toArray, List.set_cons_zero, List.set_cons_succ]
    refine wpAnyH_take (i := 41) (v := .bool true) rfl (by kernel_rfl) (by kernel_rfl) (by kernel_rfl) (fun _ _ _ h => h) (Or.inl ⟨by kernel_rfl, fun w' hSw => (exec_eqs rfl (by kernel_rfl) (by kernel_rfl)).trans (by rw [HSE.out])⟩) (by assumption) ?_
    try simp only [List.getElem_toArray, List.getElem_cons_zero, List.getElem_cons_succ, Act.put, List.setIfInBounds_toArray, List.set_cons_zero, List.set_cons_succ]
    refine wpAnyH_ready (rs := [44]) (by kernel_rfl) (by simp) ?_
    refine AllReadyH.cons (o := _) rfl (fun K hK => ?_) AllReadyH.nil
    refine step_of_call (vs := #[.agg #[ua, uf, up, uc], .agg #[ya, yf, yp, yc]]) (by kernel_rfl) (enters_of Tryd.func16 (by kernel_rfl) rfl) _ rfl (by kernel_rfl) ?_
    refine (HRN.out _ HK.out.p.av HK.out.p.ap).mono ?_; rintro e w' ⟨rfl, hb⟩; have HK := Lib.hid (HK.out.up hb); clear hb
    refine ⟨_, rfl, ?_⟩
    refine hK.out _ _ ?_ (fun hHeld => ?_)
    · exact HK.out.cells HLO.out HLP.out
    clear hK K
    try simp only [List.getElem_toArray, List.getElem_cons_zero, List.getElem_cons_succ, Act.put, List.setIfInBounds_toArray, List.set_cons_zero, List.set_cons_succ]
    refine wpAnyH_take (i := 45) (v := .bool true) rfl (by kernel_rfl) (by kernel_rfl) (by kernel_rfl) (fun _ _ _ h => h) (Or.inl ⟨by kernel_rfl, fun w' hSw => by kernel_rfl⟩) (by assumption) ?_
    try simp only [List.getElem_toArray, List.getElem_cons_zero, List.getElem_cons_succ, Act.put, List.setIfInBounds_toArray, List.set_cons_zero, List.set_cons_succ]
    refine wpAnyH_take (i := 46) (v := .bool true) rfl (by kernel_rfl) (by kernel_rfl) (by kernel_rfl) (fun _ _ _ h => h) (Or.inl ⟨by kernel_rfl, fun w' hSw => by kernel_rfl⟩) (by assumption) ?_
    try simp only [List.getElem_toArray, List.getElem_cons_zero, List.getElem_cons_succ, Act.put, List.setIfInBounds_toArray, List.set_cons_zero, List.set_cons_succ]
    refine wpAnyH_take (i := 47) (v := .bool true) rfl (by kernel_rfl) (by kernel_rfl) (by kernel_rfl) (fun _ _ _ h => h) (Or.inl ⟨by kernel_rfl, fun w' hSw => by kernel_rfl⟩) (by assumption) ?_
    try simp only [List.getElem_toArray, List.getElem_cons_zero, List.getElem_cons_succ, Act.put, List.setIfInBounds_toArray, List.set_cons_zero, List.set_cons_succ]
    refine wpAnyH_done (by kernel_rfl) ?_ _
    go_wp2_with fail
    go_ret
    exact ⟨rfl, HK.out.p.below⟩
  case false =>
    refine wp_region_held_drew (S := (fun W => (W.cell? ⟨g, 0, none⟩ = some (ua) ∧ W.cell? ⟨g, 1, none⟩ = some (uf) ∧ W.cell? ⟨g, 2, none⟩ = some (up) ∧ W.cell? ⟨g, 3, none⟩ = some (uc)) ∧ (W.cell? ⟨g2, 0, none⟩ = some (ya) ∧ W.cell? ⟨g2, 1, none⟩ = some (yf) ∧ W.cell? ⟨g2, 2, none⟩ = some (yp) ∧ W.cell? ⟨g2, 3, none⟩ = some (yc)) ∧ (W.cell? ⟨g9, 0, none⟩ = some (.slice E1 o'.atoms.length f1) ∧ W.cell? ⟨g9, 1, none⟩ = some (.slice E2 o'.funs.length f2) ∧ W.cell? ⟨g9, 2, none⟩ = some (.slice E3 o'.preds.length f3) ∧ W.cell? ⟨g9, 3, none⟩ = some (.slice E4 o'.code.length f4)) ∧ (convert 38 9 v5).run Tryd.prog W = .ok (.string (strOf lo)) W ∧ (convert 38 9 v7).run Tryd.prog W = .ok (.string (strOf lp)) W)) (by kernel_rfl) ?_ (fun hHeld => ?_)
    · exact HK.out.cells HLO.out HLP.out
    refine wpAnyH_ready (rs := [0]) (by kernel_rfl) (by simp) ?_
    refine AllReadyH.cons (o := _) rfl (fun K hK => ?_) AllReadyH.nil
    go_simp
    go_at_call 8; refine (told_any _ HK.out.p.names).mono ?_; rintro e w' ⟨rfl, hb⟩; have HK := Lib.hid (HK.out.up hb); clear hb
    refine hK.out _ _ ?_ (fun hHeld => ?_)
    · exact HK.out.cells HLO.out HLP.out
    clear hK K
    try simp only [List.getElem_toArray, List.getElem_cons_zero, List.getElem_cons_succ, Act.put, List.setIfInBounds_toArray, List.set_cons_zero, List.set_cons_succ]
    refine wpAnyH_take (i := 1) (v := .bool true) rfl (by kernel_rfl) (by kernel_rfl) (by kernel_rfl) (fun _ _ _ h => h) (Or.inl ⟨by kernel_rfl, fun w' hSw => by kernel_rfl⟩) (by assumption) ?_
    try simp only [List.getElem_toArray, List.getElem_cons_zero, List.getElem_cons_succ, Act.put, List.setIfInBounds_toArray, List.set_cons_zero, List.set_cons_succ]
    refine wpAnyH_take (i := 2) (v := .int .i64 0) rfl (by kernel_rfl) (by kernel_rfl) (by kernel_rfl) (fun _ _ _ h => h) (Or.inl ⟨by kernel_rfl, fun w' hSw => by kernel_rfl⟩) (by assumption) ?_
    try simp only [List.getElem_toArray, List.getElem_cons_zero, List.getElem_cons_succ, Act.put, List.setIfInBounds_toArray, List.set_cons_zero, List.set_cons_succ]
    refine wpAnyH_take (i := 3) (v := .bool true) rfl (by kernel_rfl) (by kernel_rfl) (by kernel_rfl) (fun _ _ _ h => h) (Or.inl ⟨by kernel_rfl, fun w' hSw => by kernel_rfl⟩) (by assumption) ?_
    try simp only [List.getElem_toArray, List.getElem_cons_zero, List.getElem_cons_succ, Act.put, List.setIfInBounds_toArray, List.set_cons_zero, List.set_cons_succ]
    refine wpAnyH_take (i := 4) (v := .bool true) rfl (by kernel_rfl) (by kernel_rfl) (by kernel_rfl) (fun _ _ _ h => h) (Or.inl ⟨by kernel_rfl, fun w' hSw => by kernel_rfl⟩) (by assumption) ?_
    try simp only [List.getElem_toArray, List.getElem_cons_zero, List.getElem_cons_succ, Act.put, List.setIfInBounds_toArray, List.set_cons_zero, List.set_cons_succ]
    refine wpAnyH_take (i := 5) (v := .bool true) rfl (by kernel_rfl) (by kernel_rfl) (by kernel_rfl) (fun _ _ _ h => h) (Or.inl ⟨by kernel_rfl, fun w' hSw => by kernel_rfl⟩) (by assumption) ?_
    try simp only [List.getElem_toArray, List.getElem_cons_zero, List.getElem_cons_succ, Act.put, List.setIfInBounds_toArray, List.set_cons_zero, List.set_cons_succ]
    refine wpAnyH_take (i := 6) (v := .int .i64 0) rfl (by kernel_rfl) (by kernel_rfl) (by kernel_rfl) (fun _ _ _ h => h) (Or.inl ⟨by kernel_rfl, fun w' hSw => by kernel_rfl⟩) (by assumption) ?_
    try simp only [List.getElem_toArray, List.getElem_cons_zero, List.getElem_cons_succ, Act.put, List.setIfInBounds_toArray, List.set_cons_zero, List.set_cons_succ]
    refine wpAnyH_take (i := 7) (v := .bool true) rfl (by kernel_rfl) (by kernel_rfl) (by kernel_rfl) (fun _ _ _ h => h) (Or.inl ⟨by kernel_rfl, fun w' hSw => by kernel_rfl⟩) (by assumption) ?_
    try simp only [List.getElem_toArray, List.getElem_cons_zero, List.getElem_cons_succ, Act.put, List.setIfInBounds_toArray, List.set_cons_zero, List.set_cons_succ]
    refine wpAnyH_take (i := 8) (v := .bool true) rfl (by kernel_rfl) (by kernel_rfl) (by kernel_rfl) (fun _ _ _ h => h) (Or.inl ⟨by kernel_rfl, fun w' hSw => by kernel_rfl⟩) (by assumption) ?_
    try simp only [List.getElem_toArray, List.getElem_cons_zero, List.getElem_cons_succ, Act.put, List.setIfInBounds_toArray, List.set_cons_zero, List.set_cons_succ]
    refine wpAnyH_take (i := 9) (v := .bool true) rfl (by kernel_rfl) (by kernel_rfl) (by kernel_rfl) (fun _ _ _ h => h) (Or.inl ⟨by kernel_rfl, fun w' hSw => by kernel_rfl⟩) (by assumption) ?_
    try simp only [List.getElem_toArray, List.getElem_cons_zero, List.getElem_cons_succ, Act.put, List.setIfInBounds_toArray, List.set_cons_zero, List.set_cons_succ]
    refine wpAnyH_take (i := 10) (v := .int .i64 0) rfl (by kernel_rfl) (by kernel_rfl) (by kernel_rfl) (fun _ _ _ h => h) (Or.inl ⟨by kernel_rfl, fun w' hSw => by kernel_rfl⟩) (by assumption) ?_
    try simp only [List.getElem_toArray, List.getElem_cons_zero, List.getElem_cons_succ, Act.put, List.setIfInBounds_toArray, List.set_cons_zero, List.set_cons_succ]
    refine wpAnyH_take (i := 11) (v := .bool true) rfl (by kernel_rfl) (by kernel_rfl) (by kernel_rfl) (fun _ _ _ h => h) (Or.inl ⟨by kernel_rfl, fun w' hSw => by kernel_rfl⟩) (by assumption) ?_
    try simp only [List.getElem_toArray, List.getElem_cons_zero, List.getElem_cons_succ, Act.put, List.setIfInBounds_toArray, List.set_cons_zero, List.set_cons_succ]
    refine wpAnyH_take (i := 12) (v := .bool true) rfl (by kernel_rfl) (by kernel_rfl) (by kernel_rfl) (fun _ _ _ h => h) (Or.inl ⟨by kernel_rfl, fun w' hSw => by kernel_rfl⟩) (by assumption) ?_
    try simp only [List.getElem_toArray, List.getElem_cons_zero, List.getElem_cons_succ, Act.put, List.setIfInBounds_toArray, List.set_cons_zero, List.set_cons_succ]
    refine wpAnyH_take (i := 13) (v := .bool true) rfl (by kernel_rfl) (by kernel_rfl) (by kernel_rfl) (fun _ _ _ h => h) (Or.inl ⟨by kernel_rfl, fun w' hSw => by kernel_rfl⟩) (by assumption) ?_
    try simp only [List.getElem_toArray, List.getElem_cons_zero, List.getElem_cons_succ, Act.put, List.setIfInBounds_toArray, List.set_cons_zero, List.set_cons_succ]
    refine wpAnyH_take (i := 14) (v := .agg #[.slice E1 o'.atoms.length f1, .slice E2 o'.funs.length f2, .slice E3 o'.preds.length f3, .slice E4 o'.code.length f4]) rfl (by kernel_rfl) (by kernel_rfl) (by kernel_rfl) (fun _ _ _ h => h) (Or.inl ⟨by kernel_rfl, fun w' hSw => exec_load rfl (by kernel_rfl) (load_pobj _ w' hSw.2.2.1)⟩) (by assumption) ?_
    try simp only [List.getElem_toArray, List.getElem_cons_zero, List.getElem_cons_succ, Act.put, List.setIfInBounds_toArray, List.set_cons_zero, List.set_cons_succ]
    refine wpAnyH_take (i := 16) (v := .agg #[ua, uf, up, uc]) rfl (by kernel_rfl) (by kernel_rfl) (by kernel_rfl) (fun _ _ _ h => h) (Or.inl ⟨by kernel_rfl, fun w' hSw => exec_load rfl (by kernel_rfl) (load_robj _ w' hSw.1)⟩) (by assumption) ?_
    try simp only [List.getElem_toArray, List.getElem_cons_zero, List.getElem_cons_succ, Act.put, List.setIfInBounds_toArray, List.set_cons_zero, List.set_cons_succ]
    refine wpAnyH_ready (rs := [15]) (by kernel_rfl) (by simp) ?_
    refine AllReadyH.cons (o := _) rfl (fun K hK => ?_) AllReadyH.nil
    refine step_of_call (vs := #[.agg #[.slice E1 o'.atoms.length f1, .slice E2 o'.funs.length f2, .slice E3 o'.preds.length f3, .slice E4 o'.code.length f4]]) (by kernel_rfl) (enters_of Tryd.func17 (by kernel_rfl) rfl) _ rfl (by kernel_rfl) ?_
    refine (HFR.out _ HK.out.az).mono ?_; rintro e w' ⟨ha, hf, hp, hc, rfl, hq, hb, _⟩; have HQ := Lib.hid hq; clear hq; have HK := Lib.hid (HK.out.up hb); clear hb
    refine ⟨_, rfl, ?_⟩
    refine hK.out _ _ ?_ (fun hHeld => ?_)
    · exact HK.out.cells HLO.out HLP.out
    clear hK K
    try simp only [List.getElem_toArray, List.getElem_cons_zero, List.getElem_cons_succ, Act.put, List.setIfInBounds_toArray, List.set_cons_zero, List.set_cons_succ]
    refine wpAnyH_ready (rs := [17]) (by kernel_rfl) (by simp) ?_
    refine AllReadyH.cons (o := _) rfl (fun K hK => ?_) AllReadyH.nil
    refine step_of_call (vs := #[.agg #[ha, hf, hp, hc], .agg #[ua, uf, up, uc]]) (by kernel_rfl) (enters_of Tryd.func16 (by kernel_rfl) rfl) _ rfl (by kernel_rfl) ?_
    refine (HSM.out _ ha hf hp hc HQ.out HK.out.p.av).mono ?_; rintro e w' ⟨rfl, hb⟩; have HK := Lib.hid (HK.out.up hb); clear hb
    refine ⟨_, rfl, ?_⟩
    refine hK.out _ _ ?_ (fun hHeld => ?_)
    · exact HK.out.cells HLO.out HLP.out
    clear hK K
    try simp only [List.getElem_toArray, List.getElem_cons_zero, List.getElem_cons_succ, Act.put, List.setIfInBounds_toArray, List.set_cons_zero, List.set_cons_succ]
    refine wpAnyH_take (i := 18) (v := .bool true) rfl (by kernel_rfl) (by kernel_rfl) (by kernel_rfl) (fun _ _ _ h => h) (Or.inl ⟨by kernel_rfl, fun w' hSw => by kernel_rfl⟩) (by assumption) ?_
    try simp only [List.getElem_toArray, List.getElem_cons_zero, List.getElem_cons_succ, Act.put, List.setIfInBounds_toArray, List.set_cons_zero, List.set_cons_succ]
    refine wpAnyH_take (i := 19) (v := .bool true) rfl (by kernel_rfl) (by kernel_rfl) (by kernel_rfl) (fun _ _ _ h => h) (Or.inl ⟨by kernel_rfl, fun w' hSw => by kernel_rfl⟩) (by assumption) ?_
    try simp only [List.getElem_toArray, List.getElem_cons_zero, List.getElem_cons_succ, Act.put, List.setIfInBounds_toArray, List.set_cons_zero, List.set_cons_succ]
    refine wpAnyH_take (i := 20) (v := .agg #[.slice E1 o'.atoms.length f1, .slice E2 o'.funs.length f2, .slice E3 o'.preds.length f3, .slice E4 o'.code.length f4]) rfl (by kernel_rfl) (by kernel_rfl) (by kernel_rfl) (fun _ _ _ h => h) (Or.inl ⟨by kernel_rfl, fun w' hSw => exec_load rfl (by kernel_rfl) (load_pobj _ w' hSw.2.2.1)⟩) (by assumption) ?_
    try simp only [List.getElem_toArray, List.getElem_cons_zero, List.getElem_cons_succ, Act.put, List.setIfInBounds_toArray, List.set_cons_zero, List.set_cons_succ]
    refine wpAnyH_take (i := 21) (v := .agg #[ua, uf, up, uc]) rfl (by kernel_rfl) (by kernel_rfl) (by kernel_rfl) (fun _ _ _ h => h) (Or.inl ⟨by kernel_rfl, fun w' hSw => exec_load rfl (by kernel_rfl) (load_robj _ w' hSw.1)⟩) (by assumption) ?_
    try simp only [List.getElem_toArray, List.getElem_cons_zero, List.getElem_cons_succ, Act.put, List.setIfInBounds_toArray, List.set_cons_zero, List.set_cons_succ]
    refine wpAnyH_ready (rs := [22]) (by kernel_rfl) (by simp) ?_
    refine AllReadyH.cons (o := _) rfl (fun K hK => ?_) AllReadyH.nil
    refine step_of_call (vs := #[.agg #[ua, uf, up, uc]]) (by kernel_rfl) (enters_of Tryd.func9 (by kernel_rfl) rfl) _ rfl (by kernel_rfl) ?_
    refine (HTO.out _ HK.out.p.av).mono ?_; rintro e w' ⟨ia, if_, ip, ic, rfl, hq, hb, _⟩; have HQ := Lib.hid hq; clear hq; have HK := Lib.hid (HK.out.up hb); clear hb
    refine ⟨_, rfl, ?_⟩
    refine hK.out _ _ ?_ (fun hHeld => ?_)
    · exact HK.out.cells HLO.out HLP.out
    clear hK K
    try simp only [List.getElem_toArray, List.getElem_cons_zero, List.getElem_cons_succ, Act.put, List.setIfInBounds_toArray, List.set_cons_zero, List.set_cons_succ]
    refine wpAnyH_ready (rs := [23]) (by kernel_rfl) (by simp) ?_
    refine AllReadyH.cons (o := _) rfl (fun K hK => ?_) AllReadyH.nil
    refine step_of_call (vs := #[.agg #[.slice E1 o'.atoms.length f1, .slice E2 o'.funs.length f2, .slice E3 o'.preds.length f3, .slice E4 o'.code.length f4], .agg #[ia, if_, ip, ic]]) (by kernel_rfl) (enters_of Tryd.func21 (by kernel_rfl) rfl) _ rfl (by kernel_rfl) ?_
    refine (HPM.out _ ia if_ ip ic HK.out.az HQ.out).mono ?_; rintro e w' ⟨rfl, hb⟩; have HK := Lib.hid (HK.out.up hb); clear hb
    refine ⟨_, rfl, ?_⟩
    refine hK.out _ _ ?_ (fun hHeld => ?_)
    · exact HK.out.cells HLO.out HLP.out
    clear hK K
    try simp only [List.getElem_toArray, List.getElem_cons_zero, List.getElem_cons_succ, Act.put, List.setIfInBounds_toArray, List.set_cons_zero, List.set_cons_succ]
    refine wpAnyH_take (i := 24) (v := .bool true) rfl (by kernel_rfl) (by kernel_rfl) (by kernel_rfl) (fun _ _ _ h => h) (Or.inl ⟨by kernel_rfl, fun w' hSw => by kernel_rfl⟩) (by assumption) ?_
    try simp only [List.getElem_toArray, List.getElem_cons_zero, List.getElem_cons_succ, Act.put, List.setIfInBounds_toArray, List.set_cons_zero, List.set_cons_succ]
    refine wpAnyH_take (i := 25) (v := .bool true) rfl (by kernel_rfl) (by kernel_rfl) (by kernel_rfl) (fun _ _ _ h => h) (Or.inl ⟨by kernel_rfl, fun w' hSw => by kernel_rfl⟩) (by assumption) ?_
    try simp only [List.getElem_toArray, List.getElem_cons_zero, List.getElem_cons_succ, Act.put, List.setIfInBounds_toArray, List.set_cons_zero, List.set_cons_succ]
    refine wpAnyH_take (i := 26) (v := .agg #[ua, uf, up, uc]) rfl (by kernel_rfl) (by kernel_rfl) (by kernel_rfl) (fun _ _ _ h => h) (Or.inl ⟨by kernel_rfl, fun w' hSw => exec_load rfl (by kernel_rfl) (load_robj _ w' hSw.1)⟩) (by assumption) ?_
    try simp only [List.getElem_toArray, List.getElem_cons_zero, List.getElem_cons_succ, Act.put, List.setIfInBounds_toArray, List.set_cons_zero, List.set_cons_succ]
    refine wpAnyH_take (i := 28) (v := .agg #[ya, yf, yp, yc]) rfl (by kernel_rfl) (by kernel_rfl) (by kernel_rfl) (fun _ _ _ h => h) (Or.inl ⟨by kernel_rfl, fun w' hSw => exec_load rfl (by kernel_rfl) (load_robj _ w' hSw.2.1)⟩) (by assumption) ?_
    try simp only [List.getElem_toArray, List.getElem_cons_zero, List.getElem_cons_succ, Act.put, List.setIfInBounds_toArray, List.set_cons_zero, List.set_cons_succ]
    refine wpAnyH_take (i := 31) (v := .agg #[ua, uf, up, uc]) rfl (by kernel_rfl) (by kernel_rfl) (by kernel_rfl) (fun _ _ _ h => h) (Or.inl ⟨by kernel_rfl, fun w' hSw => exec_load rfl (by kernel_rfl) (load_robj _ w' hSw.1)⟩) (by assumption) ?_
    try simp only [List.getElem_toArray, List.getElem_cons_zero, List.getElem_cons_succ, Act.put, List.setIfInBounds_toArray, List.set_cons_zero, List.set_cons_succ]
    refine wpAnyH_take (i := 32) (v := .agg #[ya, yf, yp, yc]) rfl (by kernel_rfl) (by kernel_rfl) (by kernel_rfl) (fun _ _ _ h => h) (Or.inl ⟨by kernel_rfl, fun w' hSw => exec_load rfl (by kernel_rfl) (load_robj _ w' hSw.2.1)⟩) (by assumption) ?_
    try simp only [List.getElem_toArray, List.getElem_cons_zero, List.getElem_cons_succ, Act.put, List.setIfInBounds_toArray, List.set_cons_zero, List.set_cons_succ]
    refine wpAnyH_ready (rs := [27]) (by kernel_rfl) (by simp) ?_
    refine AllReadyH.cons (o := _) rfl (fun K hK => ?_) AllReadyH.nil
    refine step_of_call (vs := #[.agg #[ua, uf, up, uc]]) (by kernel_rfl) (enters_of Tryd.func9 (by kernel_rfl) rfl) _ rfl (by kernel_rfl) ?_
    refine (HTO.out _ HK.out.p.av).mono ?_; rintro e w' ⟨ja, jf, jp, jc, rfl, hq, hb, _⟩; have HQ := Lib.hid hq; clear hq; have HK := Lib.hid (HK.out.up hb); clear hb
    refine ⟨_, rfl, ?_⟩
    refine hK.out _ _ ?_ (fun hHeld => ?_)
    · exact HK.out.cells HLO.out HLP.out
    clear hK K
    try simp only [List.getElem_toArray, List.getElem_cons_zero, List.getElem_cons_succ, Act.put, List.setIfInBounds_toArray, List.set_cons_zero, List.set_cons_succ]
    refine wpAnyH_ready (rs := [29]) (by kernel_rfl) (by simp) ?_
    refine AllReadyH.cons (o := _) rfl (fun K hK => ?_) AllReadyH.nil
    refine step_of_call (vs := #[.agg #[ya, yf, yp, yc]]) (by kernel_rfl) (enters_of Tryd.func9 (by kernel_rfl) rfl) _ rfl (by kernel_rfl) ?_
    refine (HTP.out _ HK.out.p.ap).mono ?_; rintro e w' ⟨ka, kf, kp, kc, rfl, hq, hb, _⟩; have HQ2 := Lib.hid hq; have HQ := Lib.hid (HQ.out.below hb); clear hq; have HK := Lib.hid (HK.out.up hb); clear hb
    refine ⟨_, rfl, ?_⟩
    refine hK.out _ _ ?_ (fun hHeld => ?_)
    · exact HK.out.cells HLO.out HLP.out
    clear hK K
    try simp only [List.getElem_toArray, List.getElem_cons_zero, List.getElem_cons_succ, Act.put, List.setIfInBounds_toArray, List.set_cons_zero, List.set_cons_succ]
    refine wpAnyH_ready (rs := [30]) (by kernel_rfl) (by simp) ?_
    refine AllReadyH.cons (o := _) rfl (fun K hK => ?_) AllReadyH.nil
    refine step_of_call (vs := #[.agg #[ja, jf, jp, jc], .agg #[ka, kf, kp, kc]]) (by kernel_rfl) (enters_of Tryd.func21 (by kernel_rfl) rfl) _ rfl (by kernel_rfl) ?_
    refine (HPN.out _ ja jf jp jc ka kf kp kc HQ.out HQ2.out).mono ?_; rintro e w' ⟨rfl, hb⟩; have HK := Lib.hid (HK.out.up hb); clear hb
    refine ⟨_, rfl, ?_⟩
    refine hK.out _ _ ?_ (fun hHeld => ?_)
    · exact HK.out.cells HLO.out HLP.out
    clear hK K
    try simp only [List.getElem_toArray, List.getElem_cons_zero, List.getElem_cons_succ, Act.put, List.setIfInBounds_toArray, List.set_cons_zero, List.set_cons_succ]
    refine wpAnyH_ready (rs := [33]) (by kernel_rfl) (by simp) ?_
    refine AllReadyH.cons (o := _) rfl (fun K hK => ?_) AllReadyH.nil
    refine step_of_call (vs := #[.agg #[ua, uf, up, uc], .agg #[ya, yf, yp, yc]]) (by kernel_rfl) (enters_of Tryd.func16 (by kernel_rfl) rfl) _ rfl (by kernel_rfl) ?_
    refine (HRN.out _ HK.out.p.av HK.out.p.ap).mono ?_; rintro e w' ⟨rfl, hb⟩; have HK := Lib.hid (HK.out.up hb); clear hb
    refine ⟨_, rfl, ?_⟩
    refine hK.out _ _ ?_ (fun hHeld => ?_)
    · exact HK.out.cells HLO.out HLP.out
    clear hK K
    try simp only [List.getElem_toArray, List.getElem_cons_zero, List.getElem_cons_succ, Act.put, List.setIfInBounds_toArray, List.set_cons_zero, List.set_cons_succ]
    refine wpAnyH_take (i := 34) (v := .bool true) rfl (by kernel_rfl) (by kernel_rfl) (by kernel_rfl) (fun _ _ _ h => h) (Or.inl ⟨by kernel_rfl, fun w' hSw => by kernel_rfl⟩) (by assumption) ?_
    try simp only [List.getElem_toArray, List.getElem_cons_zero, List.getElem_cons_succ, Act.put, List.setIfInBounds_toArray, List.set_cons_zero, List.set_cons_succ]
    refine wpAnyH_take (i := 35) (v := .bool true) rfl (by kernel_rfl) (by kernel_rfl) (by kernel_rfl) (fun _ _ _ h => h) (Or.inl ⟨by kernel_rfl, fun w' hSw => by kernel_rfl⟩) (by assumption) ?_
    try simp only [List.getElem_toArray, List.getElem_cons_zero, List.getElem_cons_succ, Act.put, List.setIfInBounds_toArray, List.set_cons_zero, List.set_cons_succ]
    refine wpAnyH_take (i := 36) (v := .bool true) rfl (by kernel_rfl) (by kernel_rfl) (by kernel_rfl) (fun _ _ _ h => h) (Or.inl ⟨by kernel_rfl, fun w' hSw => by kernel_rfl⟩) (by assumption) ?_
    try simp only [List.getElem_toArray, List.getElem_cons_zero, List.getElem_cons_succ, Act.put, List.setIfInBounds_toArray, List.set_cons_zero, List.set_cons_succ]
    refine wpAnyH_take (i := 37) (v := v5) rfl (by kernel_rfl) (by kernel_rfl) (by kernel_rfl) (fun _ _ _ h => h) (Or.inl ⟨by kernel_rfl, fun w' hSw => by kernel_rfl⟩) (by assumption) ?_
    try simp only [List.getElem_toArray, List.getElem_cons_zero, List.getElem_cons_succ, Act.put, List.setIfInBounds_toArray, List.set_cons_zero, List.set_cons_succ]
    refine wpAnyH_take (i := 39) (v := v7) rfl (by kernel_rfl) (by kernel_rfl) (by kernel_rfl) (fun _ _ _ h => h) (Or.inl ⟨by kernel_rfl, fun w' hSw => by kernel_rfl⟩) (by assumption) ?_
    try simp only [List.getElem_toArray, List.getElem_cons_zero, List.getElem_cons_succ, Act.put, List.setIfInBounds_toArray, List.set_cons_zero, List.set_cons_succ]
    refine wpAnyH_take (i := 42) (v := .agg #[ua, uf, up, uc]) rfl (by kernel_rfl) (by kernel_rfl) (by kernel_rfl) (fun _ _ _ h => h) (Or.inl ⟨by kernel_rfl, fun w' hSw => exec_load rfl (by kernel_rfl) (load_robj _ w' hSw.1)⟩) (by assumption) ?_
    try simp only [List.getElem_toArray, List.getElem_cons_zero, List.getElem_cons_succ, Act.put, List.setIfInBounds_toArray, List.set_cons_zero, List.set_cons_succ]
    refine wpAnyH_take (i := 43) (v := .agg #[ya, yf, yp, yc]) rfl (by kernel_rfl) (by kernel_rfl) (by kernel_rfl) (fun _ _ _ h => h) (Or.inl ⟨by kernel_rfl, fun w' hSw => exec_load rfl (by kernel_rfl) (load_robj _ w' hSw.2.1)⟩) (by assumption) ?_
    try simp only [List.getElem_toArray, List.getElem_cons_zero, List.getElem_cons_succ, Act.put, List.setIfInBounds_toArray, List.set_cons_zero, List.set_cons_succ]
    refine wpAnyH_take (i := 38) (v := .string (strOf lo)) rfl (by kernel_rfl) (by kernel_rfl) (by kernel_rfl) (fun _ _ _ h => h) (Or.inl ⟨by kernel_rfl, fun w' hSw => exec_conv rfl (by kernel_rfl) hSw.2.2.2.1⟩) (by assumption) ?_
    try simp only [List.getElem_toArray, List.getElem_cons_zero, List.getElem_cons_succ, Act.put, List.setIfInBounds_toArray, List.set_cons_zero, List.set_cons_succ]
    refine wpAnyH_take (i := 40) (v := .string (strOf lp)) rfl (by kernel_rfl) (by kernel_rfl) (by kernel_rfl) (fun _ _ _ h => h) (Or.inl ⟨by kernel_rfl, fun w' hSw => exec_conv rfl (by kernel_rfl) hSw.2.2.2.2⟩) (by assumption) ?_
    try simp only [List.getElem_toArray, List.getElem_cons_zero, List.getElem_cons_succ, Act.put, List.setIfInBounds_toArray, List.set_cons_zero, List.set_cons_succ]
    refine wpAnyH_take (i := 41) (v := .bool false) rfl (by kernel_rfl) (by kernel_rfl) (by kernel_rfl) (fun _ _ _ h => h) (Or.inl ⟨by kernel_rfl, fun w' hSw => (exec_eqs rfl (by kernel_rfl) (by kernel_rfl)).trans (by rw [HSE.out])⟩) (by assumption) ?_
    try simp only [List.getElem_toArray, List.getElem_cons_zero, List.getElem_cons_succ, Act.put, List.setIfInBounds_toArray, List.set_cons_zero, List.set_cons_succ]
    refine wpAnyH_ready (rs := [44]) (by kernel_rfl) (by simp) ?_
    refine AllReadyH.cons (o := _) rfl (fun K hK => ?_) AllReadyH.nil
    refine step_of_call (vs := #[.agg #[ua, uf, up, uc], .agg #[ya, yf, yp, yc]]) (by kernel_rfl) (enters_of Tryd.func16 (by kernel_rfl) rfl) _ rfl (by kernel_rfl) ?_
    refine (HRN.out _ HK.out.p.av HK.out.p.ap).mono ?_; rintro e w' ⟨rfl, hb⟩; have HK := Lib.hid (HK.out.up hb); clear hb
    refine ⟨_, rfl, ?_⟩
    refine hK.out _ _ ?_ (fun hHeld => ?_)
    · exact HK.out.cells HLO.out HLP.out
    clear hK K
    try simp only [List.getElem_toArray, List.getElem_cons_zero, List.getElem_cons_succ, Act.put, List.setIfInBounds_toArray, List.set_cons_zero, List.set_cons_succ]
    refine wpAnyH_take (i := 45) (v := .bool true) rfl (by kernel_rfl) (by kernel_rfl) (by kernel_rfl) (fun _ _ _ h => h) (Or.inl ⟨by kernel_rfl, fun w' hSw => by kernel_rfl⟩) (by assumption) ?_
    try simp only [List.getElem_toArray, List.getElem_cons_zero, List.getElem_cons_succ, Act.put, List.setIfInBounds_toArray, List.set_cons_zero, List.set_cons_succ]
    refine wpAnyH_take (i := 46) (v := .bool true) rfl (by kernel_rfl) (by kernel_rfl) (by kernel_rfl) (fun _ _ _ h => h) (Or.inl ⟨by kernel_rfl, fun w' hSw => by kernel_rfl⟩) (by assumption) ?_
    try simp only [List.getElem_toArray, List.getElem_cons_zero, List.getElem_cons_succ, Act.put, List.setIfInBounds_toArray, List.set_cons_zero, List.set_cons_succ]
    refine wpAnyH_take (i := 47) (v := .bool true) rfl (by kernel_rfl) (by kernel_rfl) (by kernel_rfl) (fun _ _ _ h => h) (Or.inl ⟨by kernel_rfl, fun w' hSw => by kernel_rfl⟩) (by assumption) ?_
    try simp only [List.getElem_toArray, List.getElem_cons_zero, List.getElem_cons_succ, Act.put, List.setIfInBounds_toArray, List.set_cons_zero, List.set_cons_succ]
    refine wpAnyH_done (by kernel_rfl) ?_ _
    go_wp2_with fail
    go_ret
    exact ⟨rfl, HK.out.p.below⟩

end Go.Proofs.YtfknoecgcoapcaaDoor
