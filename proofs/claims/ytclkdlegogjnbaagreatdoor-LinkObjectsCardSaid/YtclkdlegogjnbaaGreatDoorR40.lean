/-
  4 texts in one (LinkV ObjFM ObjFX ObjV). Conditions: those of each theorem.
-/
import Derived.Test.YtclkdlegogjnbaaGreatDoorR38
import Derived.Test.YtclkdlegogjnbaaGreatDoorR39
import Derived.Test.YtclkdlegogjnbaaGreatDoorR10
import Derived.Test.YtclkdlegogjnbaaGreatDoorR08
import Derived.Test.YtclkdlegogjnbaaGreatDoorR37
import Derived.Test.YtclkdlegogjnbaaGreatDoorR11
namespace Go.Proofs.YtclkdlegogjnbaaGreatDoor
open Go Go.RowKit Go.WideShapes Go.ChangeShapes
set_option linter.unusedVariables false
set_option linter.unusedSimpArgs false
structure ObG (et : TypeId) (w wr : World) (v : Value) (qs : List (Value × Value × Value × Value)) (l : List Ob) : Prop where
 len : qs.length = l.length
 row : wr.ownsRow w.heap.size et 4 v l.length (qs.flatMap obC)
 obs : ∀ j (h : j < l.length) (W : World), Fr (fun k => k < w.heap.size ∨ v.ownBlock = some k) wr W → ObAt W (qs[j]'(by omega)).1 (qs[j]'(by omega)).2.1 (qs[j]'(by omega)).2.2.1 (qs[j]'(by omega)).2.2.2 l[j]
 nil : NilOk qs
 below : Below w.heap.size w wr
theorem ObG.start (et : TypeId) (w wr : World) (hb : Below w.heap.size w wr) : ObG et w wr (.slice none 0 0) [] [] :=
 ⟨rfl, ⟨rfl, .inl ⟨rfl, rfl⟩⟩, (fun j h => absurd h (by simp)), (fun q hq => by cases hq), hb⟩
theorem ObG.up {et : TypeId} {w wr w' : World} {v : Value} {qs : List (Value × Value × Value × Value)} {l : List Ob} (h : ObG et w wr v qs l) (hb : Below wr.heap.size wr w') : ObG et w w' v qs l := by
 refine ⟨h.len, own_fr (S := fun _ => False) h.row (Fr.of_below hb) (fun _ _ x => x), fun j hj W hf => h.obs j hj W ?_, h.nil, h.below.trans (hb.mono h.below.size)⟩
 exact ((Fr.of_below (S := fun _ => False) hb).mono (fun _ _ x => False.elim x)).trans hf
theorem ObG.snoc {et : TypeId} {w wr w3 w6 : World} {v v6 : Value} {qs : List (Value × Value × Value × Value)} {l : List Ob} {q : Value × Value × Value × Value} {o : Ob} (h : ObG et w wr v qs l) (hb : Below wr.heap.size wr w3)
  (hat : ∀ W : World, Fr (fun k => k < wr.heap.size) w3 W → ObAt W q.1 q.2.1 q.2.2.1 q.2.2.2 o) (hn : ∀ k c, q.1 = .slice none k c → c = 0) (ha : App w3 w6 w.heap.size et 4 v v6 (l.length + 1) (qs.flatMap obC ++ obC q)) : ObG et w w6 v6 (qs ++ [q]) (l ++ [o]) := by
 have h3 := h.up hb
 have hrow : w6.ownsRow w.heap.size et 4 v6 (l ++ [o]).length ((qs ++ [q]).flatMap obC) := by
  have := ha.own
  rw [List.length_append, List.flatMap_append]
  simpa using this
 have key : ∀ W : World, Fr (fun k => k < w.heap.size ∨ v6.ownBlock = some k) w6 W → Fr (fun k => (k < w.heap.size ∨ v.ownBlock = some k) ∨ w3.heap.size ≤ k) w3 W := by
  intro W hf
  refine (ha.fr.mono (fun k _ e => .inl (.inr e))).trans (hf.mono (fun k hk e => ?_))
  rcases e with e | e
  ·exact .inl (.inl e)
  ·rcases ha.at_ with h1 | ⟨g, h1, h2⟩
   ·exact .inl (.inr (h1.symm.trans e))
   ·have : g = k := by
     have := h1.symm.trans e
     injection this
    exact .inr (this ▸ h2)
 refine ⟨by rw [List.length_append, List.length_append, h.len]; rfl, hrow, fun j hj W hf => ?_, fun q' hq' => ?_, h3.below.trans (ha.fr.below h3.below.size (fun k hk => (own_ge h3.row hk).1))⟩
 ·have hk := (key W hf).mono (T := fun k => k < w.heap.size ∨ v.ownBlock = some k) (fun k hk e => by
   rcases e with e | e
   ·exact e
   ·omega)
  by_cases hjl : j < l.length
  ·have h4 := h3.obs j hjl W hk
   simpa [List.getElem_append_left hjl, List.getElem_append_left (show j < qs.length by rw [h.len]; exact hjl)] using h4
  ·have hj' : j = l.length := by rw [List.length_append] at hj; simp at hj; omega
   subst hj'
   have h5 := hat W (hk.mono (fun k hk e => by
    rcases e with e | e
    ·have := h.below.size; omega
    ·exact (own_ge h.row e).2))
   have e1 : (qs ++ [q])[l.length]'(by rw [List.length_append, h.len]; simp) = q := by
    rw [List.getElem_append_right (by rw [h.len]; exact Nat.le_refl _)]
    simp
   have e2 : (l ++ [o])[l.length]'(by simp) = o := by
    rw [List.getElem_append_right (Nat.le_refl _)]
    simp
   rw [e1, e2]
   exact h5
 ·rcases List.mem_append.1 hq' with h6 | h6
  ·exact h.nil q' h6
  ·rw [List.mem_singleton.1 h6]
   exact hn
theorem ObG.at_ {et : TypeId} {w wr : World} {v : Value} {qs : List (Value × Value × Value × Value)} {l : List Ob} (h : ObG et w wr v qs l) : ObsAt wr v qs l :=
 ⟨h.len, CellsAt.of_own (by rw [← h.len]; rw [h.len]; exact h.row) (by decide), fun k hk => h.obs k hk wr (Fr.refl _ _)⟩
theorem ObsAt.cell {w : World} {A : Option Addr} {n c : Nat} {qs : List (Value × Value × Value × Value)} {l : List Ob} (h : ObsAt w (.slice A n c) qs l) (hn : NilOk qs) (k : Nat) (hk : k < l.length) (wr : World) (hb : Below w.heap.size w wr) :
  ∃ b off B1 e1 B2 e2 B3 e3 B4 e4, A = some ⟨b, off, none⟩ ∧ wr.cell? ⟨b, off + k * 4, none⟩ = some (.slice B1 l[k].atoms.length e1) ∧ wr.cell? ⟨b, off + k * 4 + 1, none⟩ = some (.slice B2 l[k].funs.length e2) ∧ wr.cell? ⟨b, off + k * 4 + 2, none⟩ = some (.slice B3 l[k].preds.length e3) ∧ wr.cell? ⟨b, off + k * 4 + 3, none⟩ = some (.slice B4 l[k].code.length e4) ∧ ObAt w (.slice B1 l[k].atoms.length e1) (.slice B2 l[k].funs.length e2) (.slice B3 l[k].preds.length e3) (.slice B4 l[k].code.length e4) l[k] ∧ (∀ m c', (Value.slice B1 l[k].atoms.length e1) = .slice none m c' → c' = 0) := by
 have hql := h.len
 have hcl := h.cells
 rw [← hql] at hcl
 obtain ⟨b, off, hA, hlt, c0, c1, c2, c3⟩ := obCell hcl k (by omega)
 have hat := h.obs k hk
 have hnk := hn _ (List.getElem_mem (show k < qs.length by omega))
 obtain ⟨B1, e1, h1⟩ := CellsAt.form hat.atoms
 obtain ⟨B2, e2, h2⟩ := CellsAt.form hat.funs
 obtain ⟨B3, e3, h3⟩ := CellsAt.form hat.preds
 obtain ⟨B4, e4, h4⟩ := CellsAt.form hat.code
 rw [h1] at c0 hnk
 rw [h2] at c1
 rw [h3] at c2
 rw [h4] at c3
 rw [h1, h2, h3, h4] at hat
 exact ⟨b, off, B1, e1, B2, e2, B3, e3, B4, e4, hA, (hb.cell (p := ⟨b, off + k * 4, none⟩) hlt).trans c0, (hb.cell (p := ⟨b, off + k * 4 + 1, none⟩) hlt).trans c1, (hb.cell (p := ⟨b, off + k * 4 + 2, none⟩) hlt).trans c2, (hb.cell (p := ⟨b, off + k * 4 + 3, none⟩) hlt).trans c3, hat, hnk⟩
set_option maxRecDepth 100000 in
set_option maxHeartbeats 8000000 in
theorem lobjs_any (l : List Ob) (ho : ∀ x ∈ l, ObWf x) (hl : l.length ≤ 50) (qs : List (Value × Value × Value × Value)) (v : Value) (w : World) (hv : ObsAt w v qs l) (hnil : NilOk qs) :
  Calls Tryz.prog 8 #[v] w (ObsW w l) := by
 obtain ⟨A, c, rfl⟩ := hv.cells.form
 have HC := Lib.hid (fun k hk wr hb => hv.cell hnil k hk wr hb)
 have HO := Lib.hid ho
 have G0 : Hid (ObG 39 w w (.slice none 0 0) [] (l.take 0)) := Lib.hid (ObG.start _ w w (Below.refl _ w))
 clear hv hnil ho
 go_enter Tryz.func8, Tryz.ntmps8
 go_wp2
 go_loopw [3, 4] (fun s i wr => ∃ (k : Nat) (vs : Value) (ps : List (Value × Value × Value × Value)), k ≤ l.length ∧ i = .int .i64 k ∧ vs = s ∧ Hid (ObG 39 w wr vs ps (l.take k))) (fun _ i _ => l.length - (intOf i).toNat)
 case atStart => exact ⟨0, _, _, by omega, rfl, rfl, G0⟩
 obtain ⟨k, vs, ps, hkl, rfl, rfl, HG⟩ := hrel
 clear G0
 by_cases hlt : k < l.length
 case pos =>
  obtain ⟨b, off, B1, e1, B2, e2, B3, e3, B4, e4, rfl, d0, d1, d2, d3, hat, hn⟩ := HC.out k hlt wr HG.out.below
  have HT := Lib.hid (toOb_own l[k] (HO.out _ (List.getElem_mem hlt)) _ _ _ _ wr (hat.below HG.out.below) hn)
  have hlk : (l.take k).length = k := by rw [List.length_take]; omega
  have HTK : Hid (l.take (k + 1) = l.take k ++ [l[k]]) := Lib.hid (List.take_succ_eq_append_getElem hlt)
  have hlk2 : (l.take k).length ≤ 1000000 := by omega
  clear hat hn
  generalize l[k].atoms.length = n1 at d0 HT
  generalize l[k].funs.length = n2 at d1 HT
  generalize l[k].preds.length = n3 at d2 HT
  generalize l[k].code.length = n4 at d3 HT
  go_wp2_with (first
   | (go_at_call 21; refine HT.out.mono ?_; rintro e w3 ⟨xa, xf, xp, xc, rfl, hx, hb3, hnx⟩; obtain ⟨D1, f1, hxa⟩ := (hx w3 (Fr.refl _ _)).atoms.form; obtain ⟨D2, f2, hxf⟩ := (hx w3 (Fr.refl _ _)).funs.form; obtain ⟨D3, f3, hxp⟩ := (hx w3 (Fr.refl _ _)).preds.form; obtain ⟨D4, f4, hxc⟩ := (hx w3 (Fr.refl _ _)).code.form; obtain ⟨m1, hm1⟩ : ∃ m1, l[k].atoms.length = m1 := ⟨_, rfl⟩; obtain ⟨m2, hm2⟩ : ∃ m2, l[k].funs.length = m2 := ⟨_, rfl⟩; obtain ⟨m3, hm3⟩ : ∃ m3, l[k].preds.length = m3 := ⟨_, rfl⟩; obtain ⟨m4, hm4⟩ : ∃ m4, l[k].code.length = m4 := ⟨_, rfl⟩; rw [hm1] at hxa; rw [hm2] at hxf; rw [hm3] at hxp; rw [hm4] at hxc; clear hm1 hm2 hm3 hm4; subst hxa hxf hxp hxc; obtain ⟨v6, w6, hr6, HA6⟩ := app_one slObjL (HG.out.up hb3).row [.slice D1 m1 f1, .slice D2 m2 f2, .slice D3 m3 f3, .slice D4 m4 f4] rfl (one4 rfl rfl rfl rfl) hlk2 (HG.out.up hb3).below.size 31; have HG6 := Lib.hid (HG.out.snoc (q := (.slice D1 m1 f1, .slice D2 m2 f2, .slice D3 m3 f3, .slice D4 m4 f4)) (o := l[k]) hb3 hx hnx HA6.out); rw [← HTK.out] at HG6; have HR6 := Lib.hid hr6; clear hr6 HA6 hx hb3 hnx)
   | (at_builtin; refine wpList_of_append HR6.out rfl _ _ rfl rfl rfl ?_))
  go_roundw
  case rel => exact ⟨k + 1, _, _, by omega, by go_num, rfl, HG6⟩
  case measure => simp [intOf]; omega
 case neg =>
 obtain rfl : k = l.length := by omega
 have HE : Hid (ObG 39 w wr vs ps l) := Lib.hid (by have h := HG.out; rw [List.take_length] at h; exact h)
 go_wp2
 go_ret
 exact ⟨vs, ps, rfl, HE.out.at_, HE.out.nil, HE.out.below⟩
end Go.Proofs.YtclkdlegogjnbaaGreatDoor

namespace Go.Proofs.YtclkdlegogjnbaaGreatDoor
open Go
set_option linter.unusedVariables false
set_option linter.unusedSimpArgs false
def mostOf (np n : Nat) (kind : Int) : Nat :=
 if kind = 1 then 32 else if kind = 2 then 16 else if kind = 3 then 3 else if kind = 4 then 2 else if kind = 5 then 8 else if kind = 6 then 17 else if kind = 7 then np else if kind = 8 then n else if kind = 9 then 16 else 1
def goodB (np n : Nat) (op kind x : Int) : Prop := mayB op kind x = true ∧ thereB 3 2 np n kind x = true
theorem ops_all (op : Int) : (opsOf op).all (fun x => decide (1 ≤ x ∧ x ≤ 9)) = true := by
 unfold opsOf
 repeat (first | (split <;> try decide) | decide)
theorem ops_kind8 (op : Int) (k : Nat) (hk : k < (opsOf op).length) : 1 ≤ (opsOf op).getD k 0 ∧ (opsOf op).getD k 0 ≤ 9 := by
 have h := ops_all op
 rw [List.all_eq_true] at h
 rw [List.getD_eq_getElem?_getD, List.getElem?_eq_getElem hk]
 exact of_decide_eq_true (h _ (List.getElem_mem hk))
theorem good_small {np n : Nat} {op kind : Int} {r : Nat} (hnp : np ≤ 4) (hn : n ≤ 30) (h1 : 1 ≤ kind) (h9 : kind ≤ 9) (h5 : kind ≠ 5) (hr : r < mostOf np n kind) : goodB np n op kind r := by
 have hk : kind = 1 ∨ kind = 2 ∨ kind = 3 ∨ kind = 4 ∨ kind = 6 ∨ kind = 7 ∨ kind = 8 ∨ kind = 9 := by omega
 unfold goodB mayB thereB
 rcases hk with rfl | rfl | rfl | rfl | rfl | rfl | rfl | rfl <;> simp [mostOf] at hr <;> simp [lowOf, highOf] <;> omega
theorem good_five {np n : Nat} {op : Int} {r : Nat} (hr : r < mostOf np n 5) : goodB np n op 5 (r + 1) := by
 simp [mostOf] at hr
 unfold goodB mayB thereB
 simp [lowOf, highOf]
 omega
theorem good_none {np n : Nat} : goodB np n 26 8 65535 := by
 unfold goodB mayB thereB
 simp
theorem ops_switch {op : Int} {k : Nat} (h : op = 26) (hk : k < (opsOf op).length) : (opsOf op).getD k 0 = 8 := by
 subst h
 have : opsOf 26 = [8, 8, 8, 8] := rfl
 rw [this] at hk ⊢
 match k, hk with
 | 0, _ => rfl
 | 1, _ => rfl
 | 2, _ => rfl
 | 3, _ => rfl
theorem ops_switch_iff {op : Int} {k : Nat} (h5 : (opsOf op).getD k 0 = 5) (hk : k < (opsOf op).length) : op ≠ 26 := by
 intro h
 rw [ops_switch h hk] at h5
 omega
structure Args (np n : Nat) (op : Int) (k : Nat) (l : List Int) : Prop where
 good : ∀ j : Nat, j < k → goodB np n op ((opsOf op).getD j 0) (l.getD j 0)
 rest : ∀ j : Nat, k ≤ j → j < 4 → l.getD j 0 = 0
 len : l.length = 4
theorem Args.zero (np n : Nat) (op : Int) : Args np n op 0 [0, 0, 0, 0] := ⟨fun j h => absurd h (by omega), fun j _ h => by
 match j, h with
 | 0, _ => rfl
 | 1, _ => rfl
 | 2, _ => rfl
 | 3, _ => rfl, rfl⟩
theorem getD_set {l : List Int} {k j : Nat} {x : Int} (hk : k < l.length) : (l.set k x).getD j 0 = if j = k then x else l.getD j 0 := by
 simp only [List.getD_eq_getElem?_getD, List.getElem?_set]
 by_cases h : j = k
 ·subst h
  simp [hk]
 ·rw [if_neg h, if_neg (fun e => h e.symm)]
theorem Args.put {np n : Nat} {op : Int} {k : Nat} {l : List Int} (h : Args np n op k l) (hk : k < 4) {x : Int} (hx : goodB np n op ((opsOf op).getD k 0) x) : Args np n op (k + 1) (l.set k x) := by
 have hl := h.len
 refine ⟨fun j hj => ?_, fun j hj h4 => ?_, by rw [List.length_set]; exact hl⟩
 ·rw [getD_set (by omega)]
  by_cases e : j = k
  ·subst e
   rw [if_pos rfl]
   exact hx
  ·rw [if_neg e]
   exact h.good j (by omega)
 ·rw [getD_set (by omega), if_neg (by omega)]
  exact h.rest j (by omega) h4
theorem Args.done {np n : Nat} {op : Int} {l : List Int} (hop : 0 ≤ op ∧ op ≤ 26) (h : Args np n op (opsOf op).length l) : insErr 3 2 np n (op, l.getD 0 0, l.getD 1 0, l.getD 2 0, l.getD 3 0) = 0 := by
 have e : argOf (op, l.getD 0 0, l.getD 1 0, l.getD 2 0, l.getD 3 0) = l := by
  have := h.len
  match l, this with
  | [a, b, c, d], _ => rfl
 unfold insErr
 rw [e]
 show (if ¬ (0 ≤ op ∧ op ≤ 26) then (8 : Int) else if rightB op l = false then 9 else if (List.range (opsOf op).length).all (fun k => thereB 3 2 np n ((opsOf op).getD k 0) (l.getD k 0)) then 0 else 9) = 0
 have hr : rightB op l = true := by
  unfold rightB
  rw [Bool.and_eq_true, List.all_eq_true]
  refine ⟨decide_eq_true hop, fun k hk => ?_⟩
  have hk4 := List.mem_range.1 hk
  by_cases hkl : k < (opsOf op).length
  ·exact (h.good k hkl).1
  ·have e0 : (opsOf op).getD k 0 = 0 := by rw [List.getD_eq_getElem?_getD, List.getElem?_eq_none (by omega)]; rfl
   rw [e0, h.rest k (by omega) hk4]
   unfold mayB lowOf highOf
   simp
 rw [if_neg (by omega), hr, if_neg (by simp), if_pos]
 rw [List.all_eq_true]
 exact fun k hk => (h.good k (List.mem_range.1 hk)).2
def pname (j : Nat) : ByteArray := ⟨#[112, UInt8.ofNat (97 + j)]⟩
structure Preds (n : Nat) (lp : List (ByteArray × Int × Int)) : Prop where
 len : lp.length ≤ 4
 names : ∀ (j : Nat) (h : j < lp.length), lp[j].1 = pname j
 ar : ∀ p ∈ lp, 0 ≤ p.2.1 ∧ p.2.1 ≤ 3
 ents : ∀ p ∈ lp, p.2.2 = 65535 ∨ (0 ≤ p.2.2 ∧ p.2.2 < n)
 nd : ((lp.map (·.2.2)).filter (fun e => decide (e ≠ 65535))).Nodup
theorem Preds.nil (n : Nat) : Preds n [] := ⟨by simp, fun j h => by simp at h, by simp, by simp, by simp⟩
def EntOk (n : Nat) (lp : List (ByteArray × Int × Int)) (k : Nat) (e : Int) : Prop := e = 65535 ∨ (0 ≤ e ∧ e < n ∧ ∀ (j : Nat) (h : j < lp.length), j < k → lp[j].2.2 ≠ e)
theorem EntOk.zero {n : Nat} {lp : List (ByteArray × Int × Int)} {e : Int} (h : e = 65535 ∨ (0 ≤ e ∧ e < n)) : EntOk n lp 0 e := h.imp id fun h => ⟨h.1, h.2, fun j _ hj => absurd hj (by omega)⟩
theorem EntOk.step {n : Nat} {lp : List (ByteArray × Int × Int)} {k : Nat} {e : Int} (h : EntOk n lp k e) (hk : k < lp.length) (hne : lp[k].2.2 ≠ e) : EntOk n lp (k + 1) e :=
 h.imp id fun h => ⟨h.1, h.2.1, fun j hj hjk => by
  by_cases e2 : j = k
  ·subst e2
   exact hne
  ·exact h.2.2 j hj (by omega)⟩
theorem EntOk.none (n : Nat) (lp : List (ByteArray × Int × Int)) (k : Nat) : EntOk n lp k 65535 := .inl rfl
theorem Preds.snoc {n : Nat} {lp : List (ByteArray × Int × Int)} (h : Preds n lp) (hl : lp.length < 4) {a e : Int} (ha : 0 ≤ a ∧ a ≤ 3) (he : EntOk n lp lp.length e) : Preds n (lp ++ [(pname lp.length, a, e)]) := by
 refine ⟨by simp; omega, fun j hj => ?_, fun p hp => ?_, fun p hp => ?_, ?_⟩
 ·by_cases hjl : j < lp.length
  ·rw [List.getElem_append_left hjl]
   exact h.names j hjl
  ·have : j = lp.length := by simp at hj; omega
   subst this
   simp
 ·rcases List.mem_append.1 hp with hp | hp
  ·exact h.ar p hp
  ·obtain rfl := List.mem_singleton.1 hp
   exact ha
 ·rcases List.mem_append.1 hp with hp | hp
  ·exact h.ents p hp
  ·obtain rfl := List.mem_singleton.1 hp
   exact he.imp id fun h => ⟨h.1, h.2.1⟩
 ·rw [List.map_append, List.filter_append, List.nodup_append]
  refine ⟨h.nd, ?_, ?_⟩
  ·by_cases h6 : e = 65535 <;> simp [h6]
  ·intro x hx y hy hxy
   subst hxy
   have hx2 := (List.mem_filter.1 hx).1
   have hy2 := List.mem_filter.1 hy
   have hxe : x = e := by simpa using hy2.1
   have hx6 : x ≠ 65535 := by simpa using hy2.2
   obtain ⟨p, hp, hpe⟩ := List.mem_map.1 hx2
   obtain ⟨j, hj, rfl⟩ := List.mem_iff_getElem.1 hp
   rcases he with he | he
   ·exact hx6 (hxe.trans he)
   ·exact he.2.2 j hj hj (hpe.trans hxe)
theorem codeErr_all {a f p c : Nat} : ∀ {l : List Ins}, (∀ i ∈ l, insErr a f p c i = 0) → codeErr a f p c l = 0
 | [], _ => rfl
 | i :: l, h => by
  rw [codeErr, if_pos (h i (by simp))]
  exact codeErr_all (fun j hj => h j (by simp [hj]))
def fixOb (lp : List (ByteArray × Int × Int)) (lc : List Ins) : Ob := ⟨[⟨#[97]⟩, ⟨#[98]⟩, ⟨#[110, 105, 108]⟩], [(⟨#[102]⟩, 1), (⟨#[103]⟩, 2)], lp, lc⟩
theorem pname_ok (j : Nat) (h : j < 4) : nameOk (pname j) = true := by
 match j, h with
 | 0, _ => decide +kernel
 | 1, _ => decide +kernel
 | 2, _ => decide +kernel
 | 3, _ => decide +kernel
theorem pname_inj {i j : Nat} (hi : i < 4) (hj : j < 4) (h : pname i = pname j) : i = j := by
 have h2 := congrArg (fun b : ByteArray => (b.data[1]?).map UInt8.toNat) h
 simp [pname] at h2
 omega
theorem fix_check {lp : List (ByteArray × Int × Int)} {lc : List Ins} (hp : Preds lc.length lp) (hn : lc.length ≤ 30) (hc : ∀ i ∈ lc, insErr 3 2 lp.length lc.length i = 0) : checkOf (fixOb lp lc) = 0 := by
 have hl := hp.len
 unfold checkOf fixOb
 have h1 : bigB 3 2 lp.length lc.length = false := by unfold bigB; simp; omega
 have h2 : namesOk ⟨[⟨#[97]⟩, ⟨#[98]⟩, ⟨#[110, 105, 108]⟩], [(⟨#[102]⟩, 1), (⟨#[103]⟩, 2)], lp, lc⟩ = true := by
  unfold namesOk
  have a1 : ([⟨#[97]⟩, ⟨#[98]⟩, ⟨#[110, 105, 108]⟩] : List ByteArray).all nameOk = true := by decide +kernel
  have a2 : ([(⟨#[102]⟩, 1), (⟨#[103]⟩, 2)] : List (ByteArray × Int)).all (funOk 1) = true := by decide +kernel
  have a3 : (lp.map called).all (funOk 0) = true := by
   rw [List.all_eq_true]
   intro x hx
   obtain ⟨p, hpm, rfl⟩ := List.mem_map.1 hx
   obtain ⟨j, hj, rfl⟩ := List.mem_iff_getElem.1 hpm
   have := hp.ar _ hpm
   unfold funOk called
   rw [hp.names j hj, pname_ok j (by omega)]
   simp
   omega
  rw [a1, a2, a3]
  rfl
 have h3 : dupB ⟨[⟨#[97]⟩, ⟨#[98]⟩, ⟨#[110, 105, 108]⟩], [(⟨#[102]⟩, 1), (⟨#[103]⟩, 2)], lp, lc⟩ = false := by
  unfold dupB
  have a1 : twiceB ([⟨#[97]⟩, ⟨#[98]⟩, ⟨#[110, 105, 108]⟩] : List ByteArray) = false := by decide +kernel
  have a2 : twiceB ([(⟨#[102]⟩, 1), (⟨#[103]⟩, 2)] : List (ByteArray × Int)) = false := by decide +kernel
  have a3 : twiceB (lp.map called) = false := by
   unfold twiceB
   rw [decide_eq_true, Bool.not_true]
   rw [List.nodup_iff_pairwise_ne, List.pairwise_iff_getElem]
   intro i j hi hj hij e
   rw [List.length_map] at hi hj
   rw [List.getElem_map, List.getElem_map] at e
   have e2 := congrArg Prod.fst e
   simp only [called] at e2
   rw [hp.names i hi, hp.names j hj] at e2
   have := pname_inj (by omega) (by omega) e2
   omega
  show (twiceB _ || twiceB _ || twiceB _) = false
  rw [a1, a2, a3]
  rfl
 have h4 : entsOk lc.length (lp.map (·.2.2)) = true := by
  unfold entsOk
  rw [Bool.and_eq_true]
  refine ⟨?_, decide_eq_true hp.nd⟩
  rw [List.all_eq_true]
  intro x hx
  obtain ⟨p, hpm, rfl⟩ := List.mem_map.1 hx
  unfold entryOk
  exact decide_eq_true (hp.ents p hpm)
 show (if bigB 3 2 lp.length lc.length = true then (2 : Int) else if namesOk _ = false then 7 else if dupB _ = true then 11 else if entsOk lc.length (lp.map (·.2.2)) = false then 7 else codeErr 3 2 lp.length lc.length lc) = 0
 rw [h1, if_neg (by simp), h2, if_neg (by simp), h3, if_neg (by simp), h4, if_neg (by simp)]
 exact codeErr_all hc
end Go.Proofs.YtclkdlegogjnbaaGreatDoor

namespace Go.Proofs.YtclkdlegogjnbaaGreatDoor
open Go Go.RowKit Go.WideShapes Go.ChangeShapes
set_option linter.unusedVariables false
set_option linter.unusedSimpArgs false
theorem wpList_of_slice {P : Program} {ops : Array Oper} {rest : List Oper} {o : Oper} {a : Act} {w : World} {Q : Exit → Act → World → Prop} {t : TypeId} {len : Nat} {parts : Array (Nat × Value)} {v' : Value} {w' : World}
  (hr : (Instr.buildSlice t len parts).run P w = .ok v' w') (hgd : o.guard = none) (ps : Array (Nat × Operand)) (ho : o.op = .buildSlice t len ps) (hp : (ps.map fun (i, x) => (i, a.eval x)) = parts)
  (h : wpList P ops Q rest (a.put o.dst v') w') : wpList P ops Q (o :: rest) a w := by
 refine wpList_plain hgd fun K hK => ?_
 subst hp
 unfold Oper.wp execOp
 simp only [ho, Sem.run_bind, Sem.run_pure, Result.andThen_ok, hr]
 exact hK _ _ h
theorem build_rins1 (n : Int) (w : World) : (Instr.build 51 #[(0, .int .i64 n)]).run Tryz.prog w = .ok (.agg #[.int .i64 n, .int .i64 0, .int .i64 0, .int .i64 0, .int .i64 0]) w := run_build w _ _ _ (by kernel_rfl)
def letterCells : Array Value := #[.string ⟨#[97]⟩, .string ⟨#[98]⟩, .string ⟨#[99]⟩, .string ⟨#[100]⟩]
def atomCells : Array Value := #[.string ⟨#[97]⟩, .string ⟨#[98]⟩, .string ⟨#[110, 105, 108]⟩]
def funCells : Array Value := #[.string ⟨#[102]⟩, .int .i64 1, .string ⟨#[103]⟩, .int .i64 2]
def mostCells (np n : Nat) : Array Value := #[.int .i64 1, .int .i64 32, .int .i64 16, .int .i64 3, .int .i64 2, .int .i64 8, .int .i64 17, .int .i64 (np : Nat), .int .i64 (n : Nat), .int .i64 16]
theorem slice_most (np n : Nat) (w : World) : (Instr.buildSlice 53 10 #[(0, .int .i64 1), (1, .int .i64 32), (2, .int .i64 16), (3, .int .i64 3), (4, .int .i64 2), (5, .int .i64 8), (6, .int .i64 17), (7, .int .i64 (np : Nat)), (8, .int .i64 (n : Nat)), (9, .int .i64 16)]).run Tryz.prog w = .ok (.slice (some ⟨w.heap.size, 0, none⟩) 10 10) (w.alloc (.cells (mostCells np n) 3)) := by kernel_rfl
theorem most_at (np n : Nat) (kind : Nat) (h1 : 1 ≤ kind) (h : kind ≤ 9) : (mostCells np n)[kind]? = some (.int .i64 (mostOf np n (kind : Int) : Nat)) := by
 match kind, h1, h with
 | 1, _, _ => rfl
 | 2, _, _ => rfl
 | 3, _, _ => rfl
 | 4, _, _ => rfl
 | 5, _, _ => rfl
 | 6, _, _ => rfl
 | 7, _, _ => rfl
 | 8, _, _ => rfl
 | 9, _, _ => rfl
structure Fx (w W : World) (g3 g4 ga gf : Nat) (us : Array Value) (vp vc : Value) (lp : List (ByteArray × Int × Int)) (lc : List Ins) : Prop where
 b1 : Box W w.heap.size 29 us
 b2 : Box W (w.heap.size + 1) 29 #[.slice none 0 0, .slice none 0 0, .slice none 0 0, .slice none 0 0]
 b3 : Box W g3 9 letterCells
 b4 : Box W g4 29 #[.slice (some ⟨ga, 0, none⟩) 3 3, .slice (some ⟨gf, 0, none⟩) 2 2, vp, vc]
 ba : Box W ga 9 atomCells
 bf : Box W gf 81 funCells
 rp : W.ownsRow w.heap.size 62 3 vp lp.length (lp.flatMap predC)
 rc : W.ownsRow w.heap.size 51 5 vc lc.length (lc.flatMap insC)
 below : Below w.heap.size w W
 lt : w.heap.size + 1 < g4 ∧ w.heap.size ≤ ga ∧ w.heap.size ≤ gf
section
variable {w wr w' w6 : World} {g3 g4 ga gf : Nat} {us : Array Value} {vp vc v6 : Value} {lp : List (ByteArray × Int × Int)} {lc : List Ins}
theorem Fx.up (h : Fx w wr g3 g4 ga gf us vp vc lp lc) (hb : Below wr.heap.size wr w') : Fx w w' g3 g4 ga gf us vp vc lp lc :=
 ⟨h.b1.below hb h.b1.lt, h.b2.below hb h.b2.lt, h.b3.below hb h.b3.lt, h.b4.below hb h.b4.lt, h.ba.below hb h.ba.lt, h.bf.below hb h.bf.lt, own_fr (S := fun _ => False) h.rp (Fr.of_below hb) (fun _ _ x => x), own_fr (S := fun _ => False) h.rc (Fr.of_below hb) (fun _ _ x => x), h.below.trans (hb.mono h.below.size), h.lt⟩
theorem Fx.putp {s : ByteArray} {n m : Int} (h : Fx w wr g3 g4 ga gf us vp vc lp lc) (ha : App wr w6 w.heap.size 62 3 vp v6 (lp.length + 1) (lp.flatMap predC ++ [.string s, .int .i64 n, .int .i64 m])) :
  Fx w (w6.setCell ⟨g4, 2, none⟩ v6) g3 g4 ga gf us v6 vc (lp ++ [(s, n, m)]) lc ∧ w6.cell? ⟨g4, 2, none⟩ = some vp ∧ w6.frozen? ⟨g4, 2, none⟩ = false := by
 have hb4 := h.b4.fr ha.fr (fun e => own_ne_box h.rp h.b4 (by decide) _ e rfl)
 have f := fun {g : Nat} {t : TypeId} {cs : Array Value} (hb : Box wr g t cs) (hne : 62 ≠ t) => hb.fr ha.fr (fun e => own_ne_box h.rp hb hne _ e rfl)
 have n34 : g3 ≠ g4 := h.b3.ne_ h.b4 (by decide)
 have na4 : ga ≠ g4 := h.ba.ne_ h.b4 (by decide)
 have nf4 : gf ≠ g4 := h.bf.ne_ h.b4 (by decide)
 have hlt := h.lt
 refine ⟨⟨(f h.b1 (by decide)).far (by show w.heap.size ≠ g4; omega) _, (f h.b2 (by decide)).far (by show w.heap.size + 1 ≠ g4; omega) _, (f h.b3 (by decide)).far n34 _, ?_, (f h.ba (by decide)).far na4 _, (f h.bf (by decide)).far nf4 _, (by have h2 := own_set_far ha.own (p := ⟨g4, 2, none⟩) (fun k hk => own_ne_box ha.own hb4 (by decide) k hk) v6; rw [List.length_append, List.flatMap_append]; simpa [predC, insC] using h2), own_set_far (own_fr h.rc ha.fr (fun k hk e => own_ne_own h.rc h.rp (by decide) k hk e)) (p := ⟨g4, 2, none⟩) (fun k hk => own_ne_box (own_fr h.rc ha.fr (fun k hk e => own_ne_own h.rc h.rp (by decide) k hk e)) hb4 (by decide) k hk) v6, (h.below.trans (ha.fr.below h.below.size (fun k hk => (own_ge h.rp hk).1))).setCell (p := ⟨g4, 2, none⟩) (by show w.heap.size ≤ g4; omega) _, h.lt⟩, hb4.cell 2, hb4.frozen 2⟩
 have := hb4.set_ 2 v6
 simpa using this
theorem Fx.putc {i0 i1 i2 i3 i4 : Int} (h : Fx w wr g3 g4 ga gf us vp vc lp lc) (ha : App wr w6 w.heap.size 51 5 vc v6 (lc.length + 1) (lc.flatMap insC ++ [.int .i64 i0, .int .i64 i1, .int .i64 i2, .int .i64 i3, .int .i64 i4])) :
  Fx w (w6.setCell ⟨g4, 3, none⟩ v6) g3 g4 ga gf us vp v6 lp (lc ++ [(i0, i1, i2, i3, i4)]) ∧ w6.cell? ⟨g4, 3, none⟩ = some vc ∧ w6.frozen? ⟨g4, 3, none⟩ = false := by
 have hb4 := h.b4.fr ha.fr (fun e => own_ne_box h.rc h.b4 (by decide) _ e rfl)
 have f := fun {g : Nat} {t : TypeId} {cs : Array Value} (hb : Box wr g t cs) (hne : 51 ≠ t) => hb.fr ha.fr (fun e => own_ne_box h.rc hb hne _ e rfl)
 have n34 : g3 ≠ g4 := h.b3.ne_ h.b4 (by decide)
 have na4 : ga ≠ g4 := h.ba.ne_ h.b4 (by decide)
 have nf4 : gf ≠ g4 := h.bf.ne_ h.b4 (by decide)
 have hlt := h.lt
 refine ⟨⟨(f h.b1 (by decide)).far (by show w.heap.size ≠ g4; omega) _, (f h.b2 (by decide)).far (by show w.heap.size + 1 ≠ g4; omega) _, (f h.b3 (by decide)).far n34 _, ?_, (f h.ba (by decide)).far na4 _, (f h.bf (by decide)).far nf4 _, own_set_far (own_fr h.rp ha.fr (fun k hk e => own_ne_own h.rp h.rc (by decide) k hk e)) (p := ⟨g4, 3, none⟩) (fun k hk => own_ne_box (own_fr h.rp ha.fr (fun k hk e => own_ne_own h.rp h.rc (by decide) k hk e)) hb4 (by decide) k hk) v6, (by have h2 := own_set_far ha.own (p := ⟨g4, 3, none⟩) (fun k hk => own_ne_box ha.own hb4 (by decide) k hk) v6; rw [List.length_append, List.flatMap_append]; simpa [predC, insC] using h2), (h.below.trans (ha.fr.below h.below.size (fun k hk => (own_ge h.rc hk).1))).setCell (p := ⟨g4, 3, none⟩) (by show w.heap.size ≤ g4; omega) _, h.lt⟩, hb4.cell 3, hb4.frozen 3⟩
 have := hb4.set_ 3 v6
 simpa using this
end
theorem flat_set_ins : ∀ (l : List Ins) (i : Nat) (x : Ins), i < l.length → ((((((l.flatMap insC).set (i * 5) (.int .i64 x.1)).set (i * 5 + 1) (.int .i64 x.2.1)).set (i * 5 + 2) (.int .i64 x.2.2.1)).set (i * 5 + 3) (.int .i64 x.2.2.2.1)).set (i * 5 + 4) (.int .i64 x.2.2.2.2)) = (l.set i x).flatMap insC
 | [], _, _, h => by simp at h
 | a :: l, 0, x, _ => by simp [insC]
 | a :: l, i + 1, x, h => by
  have ih := flat_set_ins l i x (by simpa using h)
  rw [List.set_cons_succ, List.flatMap_cons, List.flatMap_cons, ← ih]
  have e : ∀ j (m : List Value) u, (insC a ++ m).set (j + 5) u = insC a ++ m.set j u := fun j m u => by simp [insC]
  rw [show (i + 1) * 5 = i * 5 + 5 by omega, show i * 5 + 5 + 1 = i * 5 + 1 + 5 by omega, show i * 5 + 5 + 2 = i * 5 + 2 + 5 by omega, show i * 5 + 5 + 3 = i * 5 + 3 + 5 by omega, show i * 5 + 5 + 4 = i * 5 + 4 + 5 by omega, e, e, e, e, e]
theorem Fx.setc {w wr : World} {g3 g4 ga gf gc cc : Nat} {us : Array Value} {vp : Value} {lp : List (ByteArray × Int × Int)} {lc : List Ins} (h : Fx w wr g3 g4 ga gf us vp (.slice (some ⟨gc, 0, none⟩) lc.length cc) lp lc) (i : Nat) (hi : i < lc.length) (x : Ins) :
  Fx w (((((wr.setCell ⟨gc, i * 5, none⟩ (.int .i64 x.1)).setCell ⟨gc, i * 5 + 1, none⟩ (.int .i64 x.2.1)).setCell ⟨gc, i * 5 + 2, none⟩ (.int .i64 x.2.2.1)).setCell ⟨gc, i * 5 + 3, none⟩ (.int .i64 x.2.2.2.1)).setCell ⟨gc, i * 5 + 4, none⟩ (.int .i64 x.2.2.2.2)) g3 g4 ga gf us vp (.slice (some ⟨gc, 0, none⟩) lc.length cc) lp (lc.set i x) := by
 have f := fun {g : Nat} {t : TypeId} {cs : Array Value} (hb : Box wr g t cs) (hne : 51 ≠ t) => (show g ≠ gc from fun e => own_ne_box h.rc hb hne gc rfl e.symm)
 have five := fun {g : Nat} {t : TypeId} {cs : Array Value} (hb : Box wr g t cs) (hn : g ≠ gc) => (show Box (((((wr.setCell ⟨gc, i * 5, none⟩ (.int .i64 x.1)).setCell ⟨gc, i * 5 + 1, none⟩ (.int .i64 x.2.1)).setCell ⟨gc, i * 5 + 2, none⟩ (.int .i64 x.2.2.1)).setCell ⟨gc, i * 5 + 3, none⟩ (.int .i64 x.2.2.2.1)).setCell ⟨gc, i * 5 + 4, none⟩ (.int .i64 x.2.2.2.2)) g t cs from ((((hb.far (p := ⟨gc, i * 5, none⟩) hn _).far (p := ⟨gc, i * 5 + 1, none⟩) hn _).far (p := ⟨gc, i * 5 + 2, none⟩) hn _).far (p := ⟨gc, i * 5 + 3, none⟩) hn _).far (p := ⟨gc, i * 5 + 4, none⟩) hn _)
 have hgc := (own_ge h.rc (b := gc) rfl).1
 have np : ∀ k, vp.ownBlock = some k → k ≠ gc := fun k hk e => own_ne_own h.rp h.rc (by decide) k hk (by rw [e]; rfl)
 refine ⟨five h.b1 (f h.b1 (by decide)), five h.b2 (f h.b2 (by decide)), five h.b3 (f h.b3 (by decide)), five h.b4 (f h.b4 (by decide)), five h.ba (f h.ba (by decide)), five h.bf (f h.bf (by decide)),
  own_set_far (own_set_far (own_set_far (own_set_far (own_set_far h.rp (p := ⟨gc, i * 5, none⟩) np _) (p := ⟨gc, i * 5 + 1, none⟩) np _) (p := ⟨gc, i * 5 + 2, none⟩) np _) (p := ⟨gc, i * 5 + 3, none⟩) np _) (p := ⟨gc, i * 5 + 4, none⟩) np _, ?_,
  ((((h.below.setCell (p := ⟨gc, i * 5, none⟩) hgc _).setCell (p := ⟨gc, i * 5 + 1, none⟩) hgc _).setCell (p := ⟨gc, i * 5 + 2, none⟩) hgc _).setCell (p := ⟨gc, i * 5 + 3, none⟩) hgc _).setCell (p := ⟨gc, i * 5 + 4, none⟩) hgc _, h.lt⟩
 rw [List.length_set, ← flat_set_ins lc i x hi]
 exact (World.ownsRow.stored (World.ownsRow.stored (World.ownsRow.stored (World.ownsRow.stored (World.ownsRow.stored h.rc _ _).1 _ _).1 _ _).1 _ _).1 _ _).1
theorem Fx.same {w W : World} {g3 g4 ga gf : Nat} {us : Array Value} {vp vc : Value} {lp : List (ByteArray × Int × Int)} {lc lc' : List Ins} (h : Fx w W g3 g4 ga gf us vp vc lp lc) (e : lc = lc') : Fx w W g3 g4 ga gf us vp vc lp lc' := e ▸ h
theorem Fx.at_ {w W : World} {g3 g4 ga gf : Nat} {us : Array Value} {vp vc : Value} {lp : List (ByteArray × Int × Int)} {lc : List Ins} (h : Fx w W g3 g4 ga gf us vp vc lp lc) :
  ObAt W (.slice (some ⟨ga, 0, none⟩) 3 3) (.slice (some ⟨gf, 0, none⟩) 2 2) vp vc (fixOb lp lc) := by
 refine ⟨.inr ⟨ga, 0, 3, rfl, h.ba.lt, fun k u hk => ?_⟩, .inr ⟨gf, 0, 2, rfl, h.bf.lt, fun k u hk => ?_⟩, CellsAt.of_own h.rp (by decide), CellsAt.of_own h.rc (by decide)⟩
 ·rw [Nat.zero_add, h.ba.cell k]
  simpa [fixOb, atomCells] using hk
 ·rw [Nat.zero_add, h.bf.cell k]
  simpa [fixOb, funCells, funC] using hk
end Go.Proofs.YtclkdlegogjnbaaGreatDoor

namespace Go.Proofs.YtclkdlegogjnbaaGreatDoor
open Go Go.RowKit Go.WideShapes Go.ChangeShapes
set_option linter.unusedVariables false
set_option linter.unusedSimpArgs false
theorem big_any (a f p c : Nat) (w : World) :
  Calls Tryz.prog 57 #[.int .i64 a, .int .i64 f, .int .i64 p, .int .i64 c] w fun e w' => e = .returned (.bool (bigB a f p c)) ∧ w = w' := by
 have hb : bigB a f p c = (decide ((256 : Int) < a) || decide ((256 : Int) < f) || decide ((64 : Int) < p) || decide ((1024 : Int) < c)) := by
  unfold bigB
  rw [Bool.eq_iff_iff]
  simp
  omega
 rw [hb]
 clear hb
 by_cases h1 : (256 : Int) < (a : Int)
 ·go_enter Tryz.func57, Tryz.ntmps57
  go_wp2
  go_ret
  exact ⟨ret_b (by simp [h1]), rfl⟩
 ·by_cases h2 : (256 : Int) < (f : Int)
  ·go_enter Tryz.func57, Tryz.ntmps57
   go_wp2
   go_ret
   exact ⟨ret_b (by simp [h2]), rfl⟩
  ·by_cases h3 : (64 : Int) < (p : Int)
   ·go_enter Tryz.func57, Tryz.ntmps57
    go_wp2
    go_ret
    exact ⟨ret_b (by simp [h3]), rfl⟩
   ·go_enter Tryz.func57, Tryz.ntmps57
    go_wp2
    go_ret
    exact ⟨ret_b (by simp; omega), rfl⟩
theorem roper_any (A1 A2 A3 A4 : Option Addr) (a c1 f c2 p c3 c c4 : Nat) (kind n : Int) (hn : kind = 3 ∨ kind = 4 ∨ kind = 7 ∨ kind = 8 → 0 ≤ n) (w : World) :
  Calls Tryz.prog 60 #[.agg #[.slice A1 a c1, .slice A2 f c2, .slice A3 p c3, .slice A4 c c4], .int .i64 kind, .int .i64 n] w fun e w' => e = .returned (.bool (thereB a f p c kind n)) ∧ Below w.heap.size w w' := by
 have HB := Lib.hid (alloc_below w (.cells #[.slice A1 a c1, .slice A2 f c2, .slice A3 p c3, .slice A4 c c4] 29))
 by_cases h3 : kind = 3
 ·subst h3
  have h0 := hn (.inl rfl)
  go_enter Tryz.func60, Tryz.ntmps60
  go_wp2
  go_ret
  exact ⟨ret_b (by simp [thereB, h0]), HB.out⟩
 have h3' : (kind == 3) = false := by simpa using h3
 by_cases h4 : kind = 4
 ·subst h4
  have h0 := hn (.inr (.inl rfl))
  go_enter Tryz.func60, Tryz.ntmps60
  go_wp2
  go_ret
  exact ⟨ret_b (by simp [thereB, h0]), HB.out⟩
 have h4' : (kind == 4) = false := by simpa using h4
 by_cases h7 : kind = 7
 ·subst h7
  have h0 := hn (.inr (.inr (.inl rfl)))
  go_enter Tryz.func60, Tryz.ntmps60
  go_wp2
  go_ret
  exact ⟨ret_b (by simp [thereB, h0]), HB.out⟩
 have h7' : (kind == 7) = false := by simpa using h7
 by_cases h8 : kind = 8
 ·subst h8
  have h0 := hn (.inr (.inr (.inr rfl)))
  by_cases hc : n < (c : Int)
  ·go_enter Tryz.func60, Tryz.ntmps60
   go_wp2
   go_ret
   exact ⟨ret_b (by rw [Bool.eq_iff_iff]; simp [thereB]; omega), HB.out⟩
  ·go_enter Tryz.func60, Tryz.ntmps60
   go_wp2
   go_ret
   exact ⟨ret_b (by rw [Bool.eq_iff_iff]; simp [thereB]; omega), HB.out⟩
 have h8' : (kind == 8) = false := by simpa using h8
 have he : thereB a f p c kind n = true := by
  unfold thereB
  rw [if_neg h3, if_neg h4, if_neg h7, if_neg h8]
 rw [he]
 clear he
 go_enter Tryz.func60, Tryz.ntmps60
 go_wp2
 go_ret
 exact ⟨rfl, HB.out⟩
end Go.Proofs.YtclkdlegogjnbaaGreatDoor
