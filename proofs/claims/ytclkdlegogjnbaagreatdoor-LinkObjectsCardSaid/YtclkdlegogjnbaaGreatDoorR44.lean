/-
  3 texts in one (LinkW LAOpen LRow). Conditions: those of each theorem.
-/
import Derived.Test.YtclkdlegogjnbaaGreatDoorR40
import Derived.Test.YtclkdlegogjnbaaGreatDoorR43
import Derived.Test.YtclkdlegogjnbaaGreatDoorR11
import Derived.Test.YtclkdlegogjnbaaGreatDoorCards
import Derived.Test.YtclkdlegogjnbaaGreatDoorTie
import Derived.Test.YtclkdlegogjnbaaGreatDoorR13
import Derived.Test.YtclkdlegogjnbaaGreatDoorChecked
import Derived.Lib.LaidTab
import Derived.LaidSub
import Derived.LaidLaws
import Derived.MakeChecks
import Derived.LaidMore
import Derived.Deep.DeepHandedRow
namespace Go.Proofs.YtclkdlegogjnbaaGreatDoor
open Go Go.RowKit Go.WideShapes Go.ChangeShapes
set_option linter.unusedVariables false
set_option linter.unusedSimpArgs false
theorem wf_of_ok10 {o : Ob} (h : checkOf o = 0) : ObWf o ∧ ∀ p ∈ o.preds, p.1.size ≤ 40 := by
 have hk := ok_of h
 have b : ∀ s : ByteArray, nameOk s = true → s.size ≤ 32 := fun s hs => (name_size hs).2
 obtain ⟨h1, h2, _, _⟩ := check_parts h
 unfold namesOk at h2
 simp only [Bool.and_eq_true] at h2
 have hm : 32 ≤ maxLen := by decide
 have ha : ∀ s ∈ o.atoms, s.size ≤ 32 := fun s hs => b s (List.all_eq_true.1 h2.1.1 s hs)
 have hf : ∀ f ∈ o.funs, f.1.size ≤ 32 := fun f hf => by
  have := List.all_eq_true.1 h2.1.2 f hf
  unfold funOk at this
  simp only [Bool.and_eq_true] at this
  exact b _ this.1.1
 have hp : ∀ p ∈ o.preds, p.1.size ≤ 32 := fun p hp => by
  have := List.all_eq_true.1 h2.2 (called p) (List.mem_map_of_mem hp)
  unfold funOk at this
  simp only [Bool.and_eq_true] at this
  exact b _ this.1.1
 exact ⟨⟨fun s hs => Nat.le_trans (ha s hs) hm, fun s hs => Nat.le_trans (hf s hs) hm, fun s hs => Nat.le_trans (hp s hs) hm, by omega, by omega, by omega, by omega⟩, fun p hp' => Nat.le_trans (hp p hp') (by decide)⟩
theorem flat_name : ∀ (l : List Pr) (i : Nat) (hi : i < l.length), (l.flatMap predC)[i * 3]? = some (.string l[i].1)
 | [], i, hi => by simp at hi
 | a :: l, 0, hi => rfl
 | a :: l, i + 1, hi => by
  have ih := flat_name l i (by simpa using hi)
  rw [List.flatMap_cons, List.getElem_cons_succ, ← ih, show (i + 1) * 3 = (predC a).length + i * 3 by simp [predC]; omega]
  rw [List.getElem?_append_right (by omega), Nat.add_sub_cancel_left]
theorem flat_set_name : ∀ (l : List Pr) (i : Nat) (x : ByteArray) (hi : i < l.length), (l.flatMap predC).set (i * 3) (.string x) = (l.set i (x, l[i].2.1, l[i].2.2)).flatMap predC
 | [], i, x, hi => by simp at hi
 | a :: l, 0, x, hi => rfl
 | a :: l, i + 1, x, hi => by
  have ih := flat_set_name l i x (by simpa using hi)
  rw [List.set_cons_succ, List.flatMap_cons, List.flatMap_cons, List.getElem_cons_succ, ← ih, show (i + 1) * 3 = i * 3 + 3 by omega]
  simp [predC]
structure LsI (wk w3 wr : World) (go : Nat) (ua uf up uc : Value) (P : List Pr) : Prop where
 box : Box wr go 29 #[ua, uf, up, uc]
 row : wr.ownsRow wk.heap.size 62 3 up P.length (P.flatMap predC)
 fr : Fr (fun j => up.ownBlock = some j) w3 wr
theorem LsI.up {wk w3 wr w' : World} {go : Nat} {ua uf up uc : Value} {P : List Pr} (h : LsI wk w3 wr go ua uf up uc P) (hb : Below wr.heap.size wr w') : LsI wk w3 w' go ua uf up uc P :=
 ⟨h.box.below hb h.box.lt, own_fr (S := fun _ => False) h.row (Fr.of_below hb) (fun _ _ x => x), h.fr.trans ((Fr.of_below (S := fun _ => False) hb).mono (fun _ _ x => False.elim x))⟩
theorem LsI.name {wk w3 wr : World} {go gp n c : Nat} {ua uf uc : Value} {P : List Pr} (h : LsI wk w3 wr go ua uf (.slice (some ⟨gp, 0, none⟩) n c) uc P) (hn : P.length = n) (j : Nat) (hj : j < P.length) (x : ByteArray) :
  LsI wk w3 (wr.setCell ⟨gp, j * 3, none⟩ (.string x)) go ua uf (.slice (some ⟨gp, 0, none⟩) n c) uc (P.set j (x, P[j].2.1, P[j].2.2)) := by
 subst hn
 have h2 := (World.ownsRow.stored h.row (j * 3) (.string x)).1
 rw [flat_set_name P j x hj] at h2
 refine ⟨h.box.far (p := ⟨gp, j * 3, none⟩) (fun e => own_ne_box h.row h.box (by decide) gp rfl e.symm) _, ?_, h.fr.setCell (p := ⟨gp, j * 3, none⟩) (.inl rfl) _⟩
 rw [List.length_set]
 exact h2
theorem LsI.cell_ {wk w3 wr : World} {go gp n c : Nat} {ua uf uc : Value} {P : List Pr} (h : LsI wk w3 wr go ua uf (.slice (some ⟨gp, 0, none⟩) n c) uc P) (j : Nat) (hj : j < P.length) :
  wr.cell? ⟨gp, j * 3, none⟩ = some (.string P[j].1) ∧ wr.frozen? ⟨gp, j * 3, none⟩ = false := by
 have hc := h.row.cells (g := gp) rfl (j * 3) _ (flat_name P j hj)
 rw [add_plain, Nat.zero_add] at hc
 refine ⟨hc, ?_⟩
 rcases h.row.2 with ⟨h0, _⟩ | ⟨g', cap, cur, h1, _, hh, _⟩
 ·simp at h0
 ·injection h1 with h1 _ _
  injection h1 with h1
  injection h1 with h1
  subst h1
  exact frozen_of_row wr gp (j * 3) cur _ hh
theorem LsI.ent {wk w3 wr : World} {go gp n c : Nat} {ua uf uc : Value} {P : List Pr} (h : LsI wk w3 wr go ua uf (.slice (some ⟨gp, 0, none⟩) n c) uc P) (j : Nat) (hj : j < P.length) : wr.cell? ⟨gp, j * 3 + 2, none⟩ = some (.int .i64 P[j].2.2) := by
 have hc := h.row.cells (g := gp) rfl (j * 3 + 2) _ (flat_ent P j hj)
 rw [add_plain, Nat.zero_add] at hc
 exact hc
def NilAll (qs : List (Value × Value × Value × Value)) : Prop := ∀ q ∈ qs, (∀ k c, q.1 = .slice none k c → c = 0) ∧ (∀ k c, q.2.2.1 = .slice none k c → c = 0)
def ListW (w : World) (n : Nat) (e : Ending) (w' : World) : Prop := ∃ v qs l', e = .returned v ∧ ObsAt w' v qs l' ∧ NilOk qs ∧ l'.length = min n 4 ∧ (∀ x ∈ l', ObWf x) ∧ Below w.heap.size w w'
theorem slRObj : SlT 22 29 4 96 := ⟨Tryz.underlying22, ⟨.agg #[.slice none 0 0, .slice none 0 0, .slice none 0 0, .slice none 0 0], by kernel_rfl, rfl⟩, by decide, by decide⟩
theorem letter_atW (k : Nat) (h : k < 4) : ∃ L : ByteArray, (#[Value.string ⟨#[119]⟩, .string ⟨#[120]⟩, .string ⟨#[121]⟩, .string ⟨#[122]⟩] : Array Value)[k]? = some (.string L) ∧ L.size = 1 := by
 match k, h with
 | 0, _ => exact ⟨_, rfl, rfl⟩
 | 1, _ => exact ⟨_, rfl, rfl⟩
 | 2, _ => exact ⟨_, rfl, rfl⟩
 | 3, _ => exact ⟨_, rfl, rfl⟩
set_option maxRecDepth 100000 in
set_option maxHeartbeats 16000000 in
theorem list_any (l : List Ob) (which : Int) (qs : List (Value × Value × Value × Value)) (v : Value) (w : World) (hv : ObsAt w v qs l) (hnil : NilAll qs) :
  Calls Tryz.prog 6 #[v, .int .i64 which] w (ListW w l.length) := by
 obtain ⟨A, c, rfl⟩ := hv.cells.form
 have hn1 : NilOk qs := fun q hq => (hnil q hq).1
 have HC : Hid (∀ k (hk : k < l.length) (wr : World), Below w.heap.size w wr → ∃ b off B1 e1 B2 e2 B3 e3 B4 e4, A = some ⟨b, off, none⟩ ∧ wr.cell? ⟨b, off + k * 4, none⟩ = some (.slice B1 l[k].atoms.length e1) ∧ wr.cell? ⟨b, off + k * 4 + 1, none⟩ = some (.slice B2 l[k].funs.length e2) ∧ wr.cell? ⟨b, off + k * 4 + 2, none⟩ = some (.slice B3 l[k].preds.length e3) ∧ wr.cell? ⟨b, off + k * 4 + 3, none⟩ = some (.slice B4 l[k].code.length e4) ∧ ObAt w (.slice B1 l[k].atoms.length e1) (.slice B2 l[k].funs.length e2) (.slice B3 l[k].preds.length e3) (.slice B4 l[k].code.length e4) l[k] ∧ (∀ m c', (Value.slice B3 l[k].preds.length e3) = .slice none m c' → c' = 0)) := Lib.hid (fun k hk wr hb => by
  have hql := hv.len
  have hcl := hv.cells
  rw [← hql] at hcl
  obtain ⟨b, off, hA, hlt, c0, c1, c2, c3⟩ := obCell hcl k (by omega)
  have hat := hv.obs k hk
  have hnk := (hnil _ (List.getElem_mem (show k < qs.length by omega))).2
  obtain ⟨B1, e1, h1⟩ := CellsAt.form hat.atoms
  obtain ⟨B2, e2, h2⟩ := CellsAt.form hat.funs
  obtain ⟨B3, e3, h3⟩ := CellsAt.form hat.preds
  obtain ⟨B4, e4, h4⟩ := CellsAt.form hat.code
  rw [h1] at c0
  rw [h2] at c1
  rw [h3] at c2 hnk
  rw [h4] at c3
  rw [h1, h2, h3, h4] at hat
  exact ⟨b, off, B1, e1, B2, e2, B3, e3, B4, e4, hA, (hb.cell (p := ⟨b, off + k * 4, none⟩) hlt).trans c0, (hb.cell (p := ⟨b, off + k * 4 + 1, none⟩) hlt).trans c1, (hb.cell (p := ⟨b, off + k * 4 + 2, none⟩) hlt).trans c2, (hb.cell (p := ⟨b, off + k * 4 + 3, none⟩) hlt).trans c3, hat, hnk⟩)
 have G0 : Hid (ObG 29 w w (.slice none 0 0) [] []) := Lib.hid (ObG.start _ w w (Below.refl _ w))
 have W0 : Hid (∀ x ∈ ([] : List Ob), ObWf x) := Lib.hid (fun x hx => by cases hx)
 clear hv hnil hn1
 go_enter Tryz.func6, Tryz.ntmps6
 go_wp2
 go_loopw [5, 6, 7, 8] (fun s i _ _ wr => ∃ (k : Nat) (vs : Value) (ps : List (Value × Value × Value × Value)) (l' : List Ob), k ≤ l.length ∧ k ≤ 4 ∧ i = .int .i64 k ∧ vs = s ∧ l'.length = k ∧ Hid (ObG 29 w wr vs ps l') ∧ Hid (∀ x ∈ l', ObWf x)) (fun _ i _ _ _ => 4 - (intOf i).toNat)
 case atStart => exact ⟨0, _, _, [], by omega, by omega, rfl, rfl, rfl, G0, W0⟩
 obtain ⟨k, vs, ps, l', hkl, hk4, rfl, rfl, hlen, HG, HWF⟩ := hrel
 clear G0 W0
 by_cases hlt : k < l.length
 case neg =>
  have i1 : ¬ (k : Int) < (l.length : Int) := by omega
  go_wp2
  go_ret
  exact ⟨vs, ps, l', rfl, HG.out.at_, HG.out.nil, by omega, HWF.out, HG.out.below⟩
 have i1 : (k : Int) < (l.length : Int) := by omega
 by_cases hlt4 : k < 4
 case neg =>
  have i2 : ¬ (k : Int) < 4 := by omega
  go_wp2
  go_ret
  exact ⟨vs, ps, l', rfl, HG.out.at_, HG.out.nil, by omega, HWF.out, HG.out.below⟩
 have i2 : (k : Int) < 4 := by omega
 obtain ⟨b, off, B1, e1, B2, e2, B3, e3, B4, e4, rfl, d0, d1, d2, d3, hat, hn⟩ := HC.out k hlt wr HG.out.below
 have HF := Lib.hid (fix8_any l[k] _ _ _ _ wr (hat.below HG.out.below) hn)
 clear hat hn
 generalize l[k].atoms.length = n1 at d0 HF
 generalize l[k].funs.length = n2 at d1 HF
 generalize l[k].preds.length = n3 at d2 HF
 generalize l[k].code.length = n4 at d3 HF
 obtain ⟨wk, hwk⟩ : ∃ wk, wr = wk := ⟨_, rfl⟩
 rw [hwk] at HG HF d0 d1 d2 d3 ⊢
 clear hwk
 go_upto_region 6 with (go_at_call 19; refine HF.out.mono ?_; rintro e w3 ⟨o', xa, xf, xp, xc, rfl, hx, hck, hnx, hb3, hm3⟩; obtain ⟨D1, f1, hxa⟩ := (hx w3 (Fr.refl _ _)).atoms.form; obtain ⟨D2, f2, hxf⟩ := (hx w3 (Fr.refl _ _)).funs.form; obtain ⟨D3, f3, hxp⟩ := (hx w3 (Fr.refl _ _)).preds.form; obtain ⟨D4, f4, hxc⟩ := (hx w3 (Fr.refl _ _)).code.form; subst hxa hxf hxp hxc; have HM3 := Lib.hid hm3; have HCK := Lib.hid hck; have HNX := Lib.hid hnx; have HB3 := Lib.hid hb3; clear hx hck hnx hb3 hm3)
 clear d0 d1 d2 d3 HF
 obtain ⟨hwf, hps⟩ := wf_of_ok10 HCK.out
 have HWO := Lib.hid hwf
 have HSZ0 : Hid (∀ p ∈ o'.preds, p.1.size ≤ 100) := Lib.hid (fun p hp => Nat.le_trans (hps p hp) (by decide))
 have HS0 : Hid (∀ (i : Nat) (h : i < o'.preds.length), 0 ≤ i → o'.preds[i].1.size ≤ 40) := Lib.hid (fun i h _ => hps _ (List.getElem_mem h))
 have L0 : Hid (LsI wk w3 (w3.alloc (.cells #[.slice D1 o'.atoms.length f1, .slice D2 o'.funs.length f2, .slice D3 o'.preds.length f3, .slice D4 o'.code.length f4] 29)) w3.heap.size (.slice D1 o'.atoms.length f1) (.slice D2 o'.funs.length f2) (.slice D3 o'.preds.length f3) (.slice D4 o'.code.length f4) o'.preds) := Lib.hid ⟨Box.new w3 _ _, own_fr (S := fun _ => False) HM3.out.1 ((Fr.refl _ w3).alloc _) (fun _ _ x => x), (Fr.refl _ w3).alloc _⟩
 have hpl := hwf.lp
 obtain ⟨w4, hw4⟩ : ∃ w4, w3.alloc (.cells #[.slice D1 o'.atoms.length f1, .slice D2 o'.funs.length f2, .slice D3 o'.preds.length f3, .slice D4 o'.code.length f4] 29) = w4 := ⟨_, rfl⟩
 obtain ⟨go, hgo⟩ : ∃ go, w3.heap.size = go := ⟨_, rfl⟩
 have HGO := Lib.hid hgo
 rw [hw4] at L0 ⊢
 rw [hgo] at L0 ⊢
 clear hw4 hgo hwf hps
 obtain ⟨m1, hm1⟩ : ∃ m1, o'.atoms.length = m1 := ⟨_, rfl⟩
 obtain ⟨m2, hm2⟩ : ∃ m2, o'.funs.length = m2 := ⟨_, rfl⟩
 obtain ⟨m3, hm3⟩ : ∃ m3, o'.preds.length = m3 := ⟨_, rfl⟩
 obtain ⟨m4, hm4⟩ : ∃ m4, o'.code.length = m4 := ⟨_, rfl⟩
 have HMS : Hid (o'.atoms.length = m1 ∧ o'.funs.length = m2 ∧ o'.preds.length = m3 ∧ o'.code.length = m4) := Lib.hid ⟨hm1, hm2, hm3, hm4⟩
 rw [hm1, hm2, hm3, hm4] at L0 HM3
 rw [hm1] at HNX
 rw [hm3] at hpl
 rw [hm1, hm2, hm3, hm4]
 clear hm1 hm2 hm3 hm4
 have P0 : Hid (o'.preds.length = m3) := Lib.hid HMS.out.2.2.1
 go_wp2
 go_loopw [8] (fun i wr => ∃ (j : Nat) (P : List Pr), j ≤ m3 ∧ i = .int .i64 j ∧ Hid (P.length = m3) ∧ Hid (LsI wk w3 wr go (.slice D1 m1 f1) (.slice D2 m2 f2) (.slice D3 m3 f3) (.slice D4 m4 f4) P) ∧ Hid (∀ p ∈ P, p.1.size ≤ 100) ∧ Hid (∀ (i : Nat) (h : i < P.length), j ≤ i → P[i].1.size ≤ 40)) (fun i _ => m3 - (intOf i).toNat)
 case atStart => exact ⟨0, o'.preds, by omega, rfl, P0, L0, HSZ0, HS0⟩
 obtain ⟨j, P, hjm, rfl, HPL, HL, HSZ, HSj⟩ := hrel
 clear P0 L0 HSZ0 HS0
 by_cases hj : j < m3
 case pos =>
  have hPL := HPL.out
  subst hPL
  have hjl : j < P.length := hj
  obtain ⟨gp, cp, hD3⟩ := own_some HL.out.row (by omega)
  obtain ⟨rfl, rfl⟩ : D3 = some ⟨gp, 0, none⟩ ∧ f3 = cp := by injection hD3 with h1 _ h3; exact ⟨h1, h3⟩
  clear hD3
  have HS40 : Hid (∀ (i : Nat) (h : i < P.length), j ≤ i → P[i].1.size ≤ 40) := HSj
  have HSk : Hid (∀ (i : Nat) (h : i < P.length), j + 1 ≤ i → P[i].1.size ≤ 40) := Lib.hid (fun i h hi => HSj.out i h (by omega))
  have p2 := HL.out.box.cell 2
  have pe := HL.out.ent j hjl
  obtain ⟨ps0, ps1⟩ := HL.out.cell_ j hjl
  obtain ⟨nm, hnm⟩ : ∃ nm, P[j].1 = nm := ⟨_, rfl⟩
  have hsz : nm.size ≤ 100 := by rw [← hnm]; exact HSZ.out _ (List.getElem_mem hjl)
  rw [hnm] at ps0
  have j1 : (j : Int) < (P.length : Int) := by omega
  have j0 : (0 : Int) ≤ (j : Int) := by omega
  have i0 : (0 : Int) ≤ (k : Int) := by omega
  obtain ⟨L, hL, hLs⟩ := letter_atW k hlt4
  generalize hen : P[j].2.2 = en at pe
  go_upto_region 9 with (fail)
  go_cut [44] (fun t wc => ∃ b, t = .bool b ∧ wc = wr)
  case first =>
   by_cases he : en = 65535
   ·have e1 : (en != 65535) = false := by rw [bne_eq_false_iff_eq]; exact he
    go_wp2
    go_meet
    exact ⟨_, rfl, rfl⟩
   ·have e1 : (en != 65535) = true := by rw [bne_iff_ne]; exact he
    go_wp2
    go_meet
    exact ⟨_, rfl, rfl⟩
  case rest =>
  obtain ⟨bb, rfl, rfl⟩ := hcut
  cases bb with
  | false =>
   go_wp2
   go_roundw
   case rel => first | exact ⟨j + 1, P, by omega, by go_num, Lib.hid rfl, HL, HSZ, HSk⟩ | ((repeat apply Exists.intro); exact ⟨⟨j + 1, P, by omega, by go_num, Lib.hid rfl, HL, HSZ, HSk⟩, rfl⟩)
   case measure => simp [intOf]; omega
  | true =>
   have HPL2 : Hid ((P.set j (nm ++ L, P[j].2.1, P[j].2.2)).length = P.length) := Lib.hid List.length_set
   have HSZ2 : Hid (∀ p ∈ P.set j (nm ++ L, P[j].2.1, P[j].2.2), p.1.size ≤ 100) := Lib.hid (fun p hp => by
    rcases List.mem_or_eq_of_mem_set hp with h | h
    ·exact HSZ.out p h
    ·rw [h]
     show (nm ++ L).size ≤ 100
     rw [ByteArray.size_append]
     have h1 := HS40.out j hjl (Nat.le_refl _)
     rw [hnm] at h1
     omega)
   have HSk2 : Hid (∀ (i : Nat) (h : i < (P.set j (nm ++ L, P[j].2.1, P[j].2.2)).length), j + 1 ≤ i → (P.set j (nm ++ L, P[j].2.1, P[j].2.2))[i].1.size ≤ 40) := Lib.hid (fun i h hi => by
    rw [List.getElem_set_ne (by omega)]
    exact HSj.out i (by simpa using h) (by omega))
   have hnm40 : nm.size ≤ 40 := by
    have h1 := HS40.out j hjl (Nat.le_refl _)
    rw [hnm] at h1
    exact h1
   have hcat : (9223372036854775807 < nm.size + L.size) = False := by rw [hLs]; simp; omega
   have hcat1 : (9223372036854775807 < nm.size + 1) = False := by simp; omega
   go_upto_region 10 with (fail)
   refine wp_region_noPanic ?_
   refine wp_region_T 14 (fun w' => w'.cell? ⟨go, 2, none⟩ = some (.slice (some ⟨gp, 0, none⟩) P.length f3) ∧ w'.cell? ⟨gp, j * 3, none⟩ = some (.string nm)) (by kernel_rfl) ?_ (fun hHeld => ?_)
   ·exact ⟨p2, ps0⟩
   have HL2 := Lib.hid (HL.out.up (show Below wc.heap.size wc (wc.drewN 1) from ⟨rfl, rfl, rfl, Nat.le_refl _, fun _ _ => rfl⟩))
   change wpAnyT _ _ _ _ _ _ _ _ _ (wc.drewN 1)
   replace hHeld : (wc.drewN 1).cell? ⟨go, 2, none⟩ = some (.slice (some ⟨gp, 0, none⟩) P.length f3) ∧ (wc.drewN 1).cell? ⟨gp, j * 3, none⟩ = some (.string nm) := hHeld
   generalize wc.drewN 1 = w2 at HL2 hHeld ⊢
   have HAL := Lib.hid (HL2.out.up (alloc_below w2 (.cells #[.string ⟨#[119]⟩, .string ⟨#[120]⟩, .string ⟨#[121]⟩, .string ⟨#[122]⟩] 9)))
   have hlet : (w2.alloc (.cells #[.string ⟨#[119]⟩, .string ⟨#[120]⟩, .string ⟨#[121]⟩, .string ⟨#[122]⟩] 9)).cell? ⟨w2.heap.size, k, none⟩ = some (.string L) := by rw [(Box.new w2 9 #[.string ⟨#[119]⟩, .string ⟨#[120]⟩, .string ⟨#[121]⟩, .string ⟨#[122]⟩]).cell k]; exact hL
   have HST := Lib.hid (HAL.out.name rfl j hjl (nm ++ L))
   have z0 := (HAL.out.cell_ j hjl).1
   have z1 := (HAL.out.cell_ j hjl).2
   rw [hnm] at z0
   refine tP (i := 0) (v := ?_) rfl ?_ ?_
   rotate_left
   ·(intro w hSw; (try dsimp only at hSw); go_simp; try with_reducible rfl)
   try simp only [qA, qB, qC, Act.put, qD, qE, qF]
   refine tS (i := 1) (v := ?_) rfl ?_ hHeld ?_
   rotate_left
   ·(intro w hSw; (try dsimp only at hSw); go_simp; try with_reducible rfl)
   try simp only [qA, qB, qC, Act.put, qD, qE, qF]
   refine tP (i := 2) (v := ?_) rfl ?_ ?_
   rotate_left
   ·(intro w hSw; (try dsimp only at hSw); go_simp; try with_reducible rfl)
   try simp only [qA, qB, qC, Act.put, qD, qE, qF]
   refine tP (i := 3) (v := ?_) rfl ?_ ?_
   rotate_left
   ·(intro w hSw; (try dsimp only at hSw); go_simp; try with_reducible rfl)
   try simp only [qA, qB, qC, Act.put, qD, qE, qF]
   refine tS (i := 4) (v := ?_) rfl ?_ hHeld ?_
   rotate_left
   ·(intro w hSw; (try dsimp only at hSw); go_simp; try with_reducible rfl)
   try simp only [qA, qB, qC, Act.put, qD, qE, qF]
   refine tP (i := 5) (v := ?_) rfl ?_ ?_
   rotate_left
   ·(intro w hSw; (try dsimp only at hSw); go_simp; try with_reducible rfl)
   try simp only [qA, qB, qC, Act.put, qD, qE, qF]
   refine tP (i := 6) (v := ?_) rfl ?_ ?_
   rotate_left
   ·(intro w hSw; (try dsimp only at hSw); go_simp; try with_reducible rfl)
   try simp only [qA, qB, qC, Act.put, qD, qE, qF]
   refine tP (i := 7) (v := ?_) rfl ?_ ?_
   rotate_left
   ·(intro w hSw; (try dsimp only at hSw); go_simp; try with_reducible rfl)
   try simp only [qA, qB, qC, Act.put, qD, qE, qF]
   refine tS (i := 8) (v := ?_) rfl ?_ hHeld ?_
   rotate_left
   ·(intro w hSw; (try dsimp only at hSw); go_simp; try with_reducible rfl)
   try simp only [qA, qB, qC, Act.put, qD, qE, qF]
   refine tP (i := 10) (v := ?_) rfl ?_ ?_
   rotate_left
   ·(intro w hSw; (try dsimp only at hSw); go_simp; try with_reducible rfl)
   try simp only [qA, qB, qC, Act.put, qD, qE, qF]
   refine wpAnyT_ready (rs := [9]) (by kernel_rfl) (by simp) ?_
   refine AllT.cons (o := _) rfl (fun K hK => ?_) AllT.nil
   go_simp
   refine hK.out _ _ (fun _ => ?_) (fun hHeld2 => ?_)
   ·exact ⟨HAL.out.box.cell 2, z0⟩
   replace hHeld := hHeld2 (by decide)
   clear hHeld2 hK K
   try simp only [qA, qB, qC, Act.put, qD, qE, qF]
   refine tP (i := 11) (v := ?_) rfl ?_ ?_
   rotate_left
   ·(intro w hSw; (try dsimp only at hSw); go_simp; try with_reducible rfl)
   try simp only [qA, qB, qC, Act.put, qD, qE, qF]
   refine wpAnyT_ready (rs := [12]) (by kernel_rfl) (by simp) ?_
   refine AllT.cons (o := _) rfl (fun K hK => ?_) AllT.nil
   go_simp
   refine hK.out _ _ (fun _ => ?_) (fun hHeld2 => ?_)
   ·exact ⟨HAL.out.box.cell 2, z0⟩
   replace hHeld := hHeld2 (by decide)
   clear hHeld2 hK K
   try simp only [qA, qB, qC, Act.put, qD, qE, qF]
   refine tP (i := 13) (v := ?_) rfl ?_ ?_
   rotate_left
   ·(intro w hSw; (try dsimp only at hSw); go_simp; try with_reducible rfl)
   try simp only [qA, qB, qC, Act.put, qD, qE, qF]
   refine tP (i := 14) (v := ?_) rfl ?_ ?_
   rotate_left
   ·(intro w hSw; (try dsimp only at hSw); go_simp; try with_reducible rfl)
   try simp only [qA, qB, qC, Act.put, qD, qE, qF]
   refine tP (i := 15) (v := ?_) rfl ?_ ?_
   rotate_left
   ·(intro w hSw; (try dsimp only at hSw); go_simp; try with_reducible rfl)
   try simp only [qA, qB, qC, Act.put, qD, qE, qF]
   refine wpAnyT_ready (rs := [16]) (by kernel_rfl) (by simp) ?_
   refine AllT.cons (o := _) rfl (fun K hK => ?_) AllT.nil
   go_simp
   refine hK.out _ _ (fun h => absurd h (by decide)) (fun _ => ?_)
   clear hK K
   try simp only [qA, qB, qC, Act.put, qD, qE, qF]
   refine wpAnyT_done (by kernel_rfl) (NoPanic.normal ?_) _
   go_wp2
   go_roundw
   case rel => first | exact ⟨j + 1, _, by omega, by go_num, HPL2, HST, HSZ2, HSk2⟩ | ((repeat apply Exists.intro); exact ⟨⟨j + 1, _, by omega, by go_num, HPL2, HST, HSZ2, HSk2⟩, rfl⟩)
   case measure => simp [intOf]; omega
 case neg =>
 obtain rfl : j = m3 := by omega
 have HBK : Hid (Below wk.heap.size wk wr) := Lib.hid (HB3.out.trans (HL.out.fr.below HB3.out.size (fun k hk => (own_ge HM3.out.1 hk).1)))
 have q0 := HL.out.box.cell 0
 have q1 := HL.out.box.cell 1
 have q2 := HL.out.box.cell 2
 have q3 := HL.out.box.cell 3
 have hl6 : l'.length ≤ 1000000 := by omega
 obtain ⟨o2, ho2⟩ : ∃ o2 : Ob, ({ o' with preds := P } : Ob) = o2 := ⟨_, rfl⟩
 have HAT : Hid (∀ W : World, Fr (fun i => i < wk.heap.size) wr W → ObAt W (.slice D1 m1 f1) (.slice D2 m2 f2) (.slice D3 j f3) (.slice D4 m4 f4) o2) := Lib.hid (fun W hf => by
  obtain ⟨t1, t2, t3⟩ := HM3.out.2 W ((HL.out.fr.mono (fun i _ e => .inr e)).trans (hf.mono (fun i _ e => .inl e)))
  rw [← ho2]
  exact ⟨t1, t2, CellsAt.of_own (own_fr HL.out.row hf (fun i hi e => by have := (own_ge HL.out.row hi).1; omega)) (by decide), t3⟩)
 have HW2 : Hid (ObWf o2) := Lib.hid (by
  rw [← ho2]
  have h := HWO.out
  have hm : 100 ≤ maxLen := by decide
  have h1 := HPL.out
  exact ⟨h.atoms, h.funs, fun p hp => Nat.le_trans (HSZ.out p hp) hm, h.la, h.lf, (by show P.length ≤ _; omega), h.lc⟩)
 obtain ⟨v6, w6, hr6, HA6⟩ := app_one slRObj (HG.out.up HBK.out).row [.slice D1 m1 f1, .slice D2 m2 f2, .slice D3 j f3, .slice D4 m4 f4] rfl (one4 rfl rfl rfl rfl) hl6 (HG.out.up HBK.out).below.size 22
 have HG6 := Lib.hid (HG.out.snoc (q := (.slice D1 m1 f1, .slice D2 m2 f2, .slice D3 j f3, .slice D4 m4 f4)) (o := o2) HBK.out HAT.out HNX.out HA6.out)
 have HR6 := Lib.hid hr6
 have HWF6 : Hid (∀ x ∈ l' ++ [o2], ObWf x) := Lib.hid (fun x hx => by
  rcases List.mem_append.1 hx with h | h
  ·exact HWF.out x h
  ·rw [List.mem_singleton.1 h]; exact HW2.out)
 have hlen6 : (l' ++ [o2]).length = l'.length + 1 := by simp
 clear hr6 HA6 HAT
 go_wp2_with (at_builtin; refine wpList_of_append HR6.out rfl _ _ rfl rfl rfl ?_)
 go_roundw
 case rel => first | exact ⟨k + 1, v6, _, l' ++ [o2], by omega, by omega, by go_num, rfl, by omega, HG6, HWF6⟩ | ((repeat apply Exists.intro); exact ⟨⟨k + 1, v6, _, l' ++ [o2], by omega, by omega, by go_num, rfl, by omega, HG6, HWF6⟩, rfl⟩)
 case measure => simp [intOf]; omega
end Go.Proofs.YtclkdlegogjnbaaGreatDoor

namespace Go.Proofs.YtclkdlegogjnbaaGreatDoor
open Go.ChangeShapes Go.WideShapes Go.ChangeAt Go.RowKit Go.Deep
set_option linter.unusedVariables false
set_option linter.unusedSimpArgs false
section
variable {H : Type} {enc : TypeId × Value → H} {W : World}
def ObIn (W : World) (q : Value × Value × Value × Value) (o : Ob) : Prop :=
 ObAt W q.1 q.2.1 q.2.2.1 q.2.2.2 o ∧ (∀ k c, q.1 = .slice none k c → c = 0) ∧ (∀ k c, q.2.2.1 = .slice none k c → c = 0)
end
end Go.Proofs.YtclkdlegogjnbaaGreatDoor

namespace Go.Proofs.YtclkdlegogjnbaaGreatDoor
open Go.ChangeShapes Go.WideShapes Go.ChangeAt Go.RowKit
set_option linter.unusedVariables false
set_option linter.unusedSimpArgs false
theorem gPow : Tryz.prog.globalNamed "internal/strconv.uint64pow10" = some 1 := by kernel_rfl
theorem gPowType : (Tryz.prog.globals[1]?).map (·.type) = some 190 := by kernel_rfl
theorem cellsPow : Tryz.prog.cellsOf 190 = 20 := by kernel_rfl
theorem cellsWord : Tryz.prog.cellsOf 98 = 1 := by kernel_rfl
theorem gNam : Tryz.prog.globalNamed "resolvent/code.names" = some 0 := by kernel_rfl
theorem gNamType : (Tryz.prog.globals[0]?).map (·.type) = some 145 := by kernel_rfl
theorem cellsNam : Tryz.prog.cellsOf 145 = 27 := by kernel_rfl
theorem cellsStr : Tryz.prog.cellsOf 9 = 1 := by kernel_rfl
theorem gSyn : Tryz.prog.globalNamed "strconv.ErrSyntax" = some 7 := by kernel_rfl
theorem gSynType : (Tryz.prog.globals[7]?).map (·.type) = some 155 := by kernel_rfl
theorem gRan : Tryz.prog.globalNamed "strconv.ErrRange" = some 8 := by kernel_rfl
theorem gRanType : (Tryz.prog.globals[8]?).map (·.type) = some 155 := by kernel_rfl
theorem pow_of {W : World} (h : laidMetH Tryz.prog Rows.linkRenamesRow.laid W) : Lib.TabIs Tryz.prog W "internal/strconv.uint64pow10" .u64 Lib.pow10Tab := by
 have h1 := laidMetH.filter (fun x => x.1 == "internal/strconv.uint64pow10") h
 have e : Rows.linkRenamesRow.laid.filter (fun x => x.1 == "internal/strconv.uint64pow10") = [("internal/strconv.uint64pow10", Lib.tabData .u64 Lib.pow10Tab)] := by kernel_rfl
 rw [e, MakeChecks.laidMetH_plain _ _ _ (by kernel_rfl)] at h1
 exact Lib.tabIs_of_head (rest := []) gPow gPowType Tryz.underlying190 Tryz.underlying98 cellsWord cellsPow h1
theorem iface_of_head {W : World} {name nm : String} {d : DataW Unit} {rest : List (String × DataW Unit)} {g : Nat} (hg : Tryz.prog.globalNamed name = some g) (hty : (Tryz.prog.globals[g]?).map (·.type) = some 155)
  (h : laidMet Tryz.prog ((name, .iface nm d) :: rest) W) : ∃ te pe, W.cell? ⟨g, 0, none⟩ = some (.iface te pe) := by
 obtain ⟨ps, ⟨g', t', cs, fuel, p, q, hg', ht', hvar, hd, _, _⟩, _⟩ := h
 obtain rfl := Option.some.inj (hg.symm.trans hg')
 obtain rfl := Option.some.inj (hty.symm.trans ht')
 obtain ⟨_, u, v, hcs, _, _⟩ := iface_of_trod Tryz.underlying155 hd
 refine ⟨u, v, ?_⟩
 have := World.var?_cell hg hvar 0
 rw [this]
 have e : cs = #[.iface u v] := by
  cases cs
  simp_all
 rw [e]
 rfl
theorem syn_of {W : World} (h : laidMetH Tryz.prog Rows.linkRenamesRow.laid W) : ∃ te pe, W.cell? ⟨7, 0, none⟩ = some (.iface te pe) := by
 have h1 := laidMetH.filter (fun x => x.1 == "strconv.ErrSyntax") h
 have e : Rows.linkRenamesRow.laid.filter (fun x => x.1 == "strconv.ErrSyntax") = [("strconv.ErrSyntax", Rows.laid_strconv_ErrSyntax)] := by kernel_rfl
 rw [e, MakeChecks.laidMetH_plain _ _ _ (by kernel_rfl)] at h1
 exact iface_of_head (rest := []) gSyn gSynType h1
theorem ran_of {W : World} (h : laidMetH Tryz.prog Rows.linkRenamesRow.laid W) : ∃ te pe, W.cell? ⟨8, 0, none⟩ = some (.iface te pe) := by
 have h1 := laidMetH.filter (fun x => x.1 == "strconv.ErrRange") h
 have e : Rows.linkRenamesRow.laid.filter (fun x => x.1 == "strconv.ErrRange") = [("strconv.ErrRange", Rows.laid_strconv_ErrRange)] := by kernel_rfl
 rw [e, MakeChecks.laidMetH_plain _ _ _ (by kernel_rfl)] at h1
 exact iface_of_head (rest := []) gRan gRanType h1
theorem cells_of_strs {H : Type} {enc : TypeId × Value → H} {P : Program} {w : World} {base : Nat} {sp : Nat → Bool} {held : Bool} {fuel : Nat} {t e : TypeId} {n : Nat} {cs : List Value} {zs : List (List UInt8)} {p : List MemPlace}
  (ht : P.underlying t = some (.array n e)) (he : P.underlying e = some .string) (hce : P.cellsOf e = 1) (hct : P.cellsOf t = n)
  (h : DataW.trod enc P w base sp held fuel t cs = some (.agg (zs.map fun z => .lit (.string z)), p)) : cs = zs.map fun z => Value.string ⟨z.toArray⟩ := by
 cases fuel with
 | zero => simp [DataW.trod] at h
 | succ fuel =>
  simp only [DataW.trod, ht, hce, hct, Nat.mul_one] at h
  split at h
  ·rename_i hl
   obtain ⟨xs, hm, hx⟩ := Option.map_eq_some_iff.1 h
   have hxs : xs.map (·.1) = zs.map fun z => (DataW.lit (.string z) : DataW H) := by
    have := congrArg Prod.fst hx
    simpa using this
   have hxl : xs.length = n := by simpa using Lib.mapM_length hm
   have hzl : zs.length = n := by
    have := congrArg List.length hxs
    simp at this
    omega
   apply List.ext_getElem?
   intro i
   by_cases hi : i < n
   ·obtain ⟨b, hb, hf⟩ := Lib.mapM_at hm i i (by simp [hi])
    obtain ⟨z, hc, rfl, _⟩ := DataW.trod_string he hf
    have h1 : cs[i]? = some (.string z) := by
     have := congrArg (·[0]?) hc
     simpa [List.getElem?_take, List.getElem?_drop] using this
    have h2 : (xs.map (·.1))[i]? = some (DataW.lit (.string z.data.toList) : DataW H) := by simp [hb]
    rw [hxs] at h2
    simp only [List.getElem?_map, Option.map_eq_some_iff, DataW.lit.injEq, Lit.string.injEq] at h2
    obtain ⟨z', hz', hz''⟩ := h2
    have h3 : (⟨z'.toArray⟩ : ByteArray) = z := by rw [hz'']
    rw [h1, List.getElem?_map, hz', Option.map_some, h3]
   ·rw [List.getElem?_eq_none (by omega), List.getElem?_eq_none (by simp; omega)]
  ·cases h
theorem names_of {W : World} (h : laidMetH Tryz.prog Rows.linkRenamesRow.laid W) : NamesAt W := by
 have h1 := laidMetH.filter (fun x => x.1 == "resolvent/code.names") h
 have e : Rows.linkRenamesRow.laid.filter (fun x => x.1 == "resolvent/code.names") = [("resolvent/code.names", .agg (nameList.map fun z => .lit (.string z)))] := by kernel_rfl
 rw [e, MakeChecks.laidMetH_plain _ _ _ (by kernel_rfl)] at h1
 obtain ⟨ps, ⟨g', t', cs, fuel, p, q, hg', ht', hvar, hd, _, _⟩, _⟩ := h1
 obtain rfl := Option.some.inj (gNam.symm.trans hg')
 obtain rfl := Option.some.inj (gNamType.symm.trans ht')
 have hcs := cells_of_strs Tryz.underlying145 Tryz.underlying9 cellsStr cellsNam hd
 have hce : cs = namesArr := by
  apply Array.toList_inj.1
  rw [hcs]
  unfold namesArr
  rfl
 unfold World.var? at hvar
 rw [gNam, Option.bind_some] at hvar
 split at hvar
 ·rename_i cs' t fr hx
  injection hvar with hvar
  subst hvar
  rw [hce] at hx
  exact ⟨t, fr, hx⟩
 ·cases hvar
theorem laid_of {W : World} (h : laidMetH Tryz.prog Rows.linkRenamesRow.laid W) (hsh : W.ShapedOpen Tryz.prog) : LaidC W.heap.size W := by
 obtain ⟨te, pe, h1⟩ := syn_of h
 obtain ⟨tf, pf, h2⟩ := ran_of h
 obtain ⟨m, h3⟩ := Tryz.laysM147.s1_3 W hsh
 exact ⟨Lib.tabBelow_of_tabIs (pow_of h), ⟨te, pe, h1⟩, ⟨tf, pf, h2⟩, names_of h, ⟨m, h3⟩, ⟨World.block_lt_of_cell? W _ h1, World.block_lt_of_cell? W _ h2, (names_of h).lt, World.block_lt_of_cell? W _ h3⟩, Nat.le_refl _⟩
def firstCells : Array Value := (Go.Pinned.utf8FirstZ.map fun z => Value.int .u8 ((z : Nat) : Int)).toArray
def layFirst : Obj → Obj
 | .cells _ t fr => .cells firstCells t fr
 | o => o
noncomputable def laidWorld (os : Os) : World :=
 { World.doorLaid Tryz.prog 198 os with heap := (World.doorLaid Tryz.prog 198 os).heap.modify 5 layFirst }
theorem laidOutTryz : laidOutB Tryz.prog = true := by kernel_rfl
theorem ownTryz : ownKnob Tryz.prog.godebug = none := by kernel_rfl
end Go.Proofs.YtclkdlegogjnbaaGreatDoor
